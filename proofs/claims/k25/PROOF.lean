import PyProof.Rows.All
import Wide.All
import OpenK.AllK
import Wide.FinOn
import Lean
import PyProof.EqAt
import PyProof.EqKinds
import PyProof.TupleCall
import PySem.Challenge.RW_spanways_k25_whole_tame_ways_left_are_so
set_option Elab.async false
set_option linter.all false
set_option maxRecDepth 100000
set_option bootstrap.genMatcherCode false
noncomputable section
section
open PySem PySem.W PyProof.Rows
namespace HD
noncomputable abbrev rw:=PySem.Challenge.rw_spanways_k25_whole_tame_ways_left_are_so.row.toRowW
noncomputable def vw:Program:={rw.prog with main:={rw.prog.main with body:=[1,2,3,4,5,6,8,9,11,12,13,14,15,16,17,18,19,20,21,22,24,25,26,27,28,29,31,32,33,34,35,36,37,38,39,41,42,45,46,47,48,49,50,51,52,53,54,55].filterMap (rw.prog.main.body[·]?)}}
noncomputable abbrev xt:Shared->Bool:=fun s=>xlAt HD.vw [] s && recOk (RowW.records HD.rw) s
theorem jn {p q:Program}{l:List Str}{X:Shared->Bool}{α:Type}{Y:Shared->α}{Z:World->α}{N:Nat}(a:∀ w,(openEnds treeTable p w N).map (fun s=>(openSeen q l (importedModules p.main.body) X true s).1)=some (openGood q l).1)(b:∀ w,(openEnds treeTable p w N).map (fun s=>(openSeen q l (importedModules p.main.body) X true s).2)=some (openGood q l).2)(c:∀ w,(openEnds treeTable p w N).map Y=some (Z w)):LeftO p q l X Y Z N:=fun w=>by
  obtain ⟨s,e,d⟩:=Option.map_eq_some_iff.mp (a w)
  have f:=b w
  have g:=c w
  rw [e] at f g
  show (openEnds treeTable p w N).map _=_
  rw [e]
  exact congrArg some (Prod.ext (Prod.ext d (Option.some.inj f)) (Option.some.inj g))
set_option maxHeartbeats 0
theorem a1:∀ w,(openEnds treeTable rw.prog w 4058).map (fun s=>(openSeen vw ["planned"] (importedModules rw.prog.main.body) xt true s).1)=some (openGood vw ["planned"]).1:=by intro w; kernel_rfl
theorem a2:∀ w,(openEnds treeTable rw.prog w 4058).map (fun s=>(openSeen vw ["planned"] (importedModules rw.prog.main.body) xt true s).2)=some (openGood vw ["planned"]).2:=by intro w; kernel_rfl
local macro_rules | `(tactic|o_head $H)=>do
  let hw:=Lean.mkIdent `hw
  `(tactic|(refine holds_open (q:=HD.vw) (loose:=["planned"]) (Xt:=HD.xt) (XP:=XL HD.vw []) (Yf:=Hook.obs $H) (Ya:=Hook.val $H) (YP:=Hook.says $H) (N:=4058) ?_ (Hook.of $H) (Hook.keeps $H) (fun s e=>xl_of s (Bool.and_eq_true_iff.mp e).1) XL.keeps (by rfl) (by rfl) (by rfl) (fun s e=>recFacts_of (Bool.and_eq_true_iff.mp e).2) (by rfl) (by first | assumption | decide +kernel) (by decide +kernel) ⟨rfl,rfl,rfl,rfl,rfl,by decide +kernel⟩ ?$hw ?_; focus (refine HD.jn HD.a1 HD.a2 ?_; intro w; kernel_rfl)))
open_top top for PySem.Challenge.rw_spanways_k25_whole_tame_ways_left_are_so
end HD
end
namespace L2
end L2
namespace SM
end SM
namespace BF
end BF
namespace G
end G
open PySem PySem.Spec PyProof.Rows L2 SM BF G List
theorem zd1{α:Type _}{a:α}{l:List α}:(a::l)[0]?=some a:=rfl
theorem zd2{α:Type _}{a:α}{l:List α}{i:Nat}:(a::l)[i+1]?=l[i]?:=rfl
theorem zd3{α:Type _}{a:α}{l:List α}:(a::l).length=l.length+1:=rfl
theorem zd4{α:Type _}:([]:List α).length=0:=rfl
theorem zd5{α β:Type _}{f:α->β}{a:α}{l:List α}:(a::l).map f=f a::l.map f:=rfl
theorem zd6{α β:Type _}{f:α->β}:[].map f=[]:=rfl
theorem zd7{α:Type _}{a b:α}{l:List α}:(a::l).set 0 b=b::l:=rfl
theorem zd8{α:Type _}{a b:α}{l:List α}{i:Nat}:(a::l).set (i+1) b=a::l.set i b:=rfl
theorem zd9{α β:Type _}{f:α->β}{a:α}:(some a).map f=some (f a):=rfl
theorem zea{α β:Type _}{a:α}{f:α->Option β}:(some a).bind f=f a:=rfl
theorem zeb{α:Type _}{l:List α}:[]++l=l:=rfl
theorem zec{α:Type _}{a:α}{l k:List α}:a::l++k=a::(l++k):=rfl
theorem zed{α:Type _}{l:List α}{i:Nat}{a:α}:l[i]?=some a->∃h:i<l.length,l[i]=a:=List.getElem?_eq_some_iff.mp
theorem zee{α:Type _}{l k:List α}{i:Nat}(h:i<l.length):(l++k)[i]?=l[i]?:=List.getElem?_append_left h
theorem zef:false≠true:=Bool.false_ne_true
theorem zeg(n:Nat):n<=n:=Nat.le_refl n
theorem zeh{α:Type _}{l k:List α}{i:Nat}(h:l.length<=i):(l++k)[i]?=k[i-l.length]?:=List.getElem?_append_right h
theorem zei{α:Type _}(l:List α):l++[]=l:=List.append_nil l
theorem zej:(false=true)=False:=Bool.false_eq_true
open PySem.W (Frag nsIn findIn keepIn fnOf mg_none_of)
namespace L2
noncomputable abbrev cC:=Sum Int Str
noncomputable def BJ:cC->Value->Bool
 | .inl k,v=>Value.isInt k v
 | .inr x,v=>Value.isStrOf x v
noncomputable def UZ(w:World):cC->Int
 | .inl k=>hashInt k
 | .inr x=>hashStr w x
theorem CG:∀{k:cC}{v:Value},BJ k v=true->(∃i t,k=Sum.inl i/\v=Value.int i t)\/(∃x t,k=Sum.inr x/\v=Value.str x t)
 | .inl i,v,h=>by obtain⟨t,e⟩:=Value.isInt_shape (k:=i) (v:=v) h;exact .inl ⟨i,t,rfl,e⟩
 | .inr x,v,h=>by obtain⟨t,e⟩:=Value.isStrOf_shape (x:=x) (v:=v) h;exact .inr ⟨x,t,rfl,e⟩
theorem x8(i:Int)(t:Tok):BJ (.inl i) (.int i t)=true:=by simp[BJ,Value.isInt]
theorem y8(x:Str)(t:Tok):BJ (.inr x) (.str x t)=true:=by simp[BJ,Value.isStrOf]
theorem Gk(a b:Int):decide ((Sum.inl a:cC)=Sum.inl b)=(a==b):=by
 by_cases e:a=b
 · subst e;simp
 · have h:¬(Sum.inl a:cC)=Sum.inl b:=fun q=>e (Sum.inl.inj q)
   rw[decide_eq_false h];exact(beq_eq_false_iff_ne.mpr e).symm
theorem Lk(a b:Str):decide ((Sum.inr a:cC)=Sum.inr b)=decide (a=b):=by
 by_cases e:a=b
 · subst e;simp
 · have h:¬(Sum.inr a:cC)=Sum.inr b:=fun q=>e (Sum.inr.inj q)
   rw[decide_eq_false h,decide_eq_false e]
theorem Ik(a:Int)(b:Str):decide ((Sum.inl a:cC)=Sum.inr b)=false:=decide_eq_false (fun q=>nomatch q)
theorem Jk(a:Str)(b:Int):decide ((Sum.inr a:cC)=Sum.inl b)=false:=decide_eq_false (fun q=>nomatch q)
def jE(prog:Program)(w:World):PySem.KeyKind prog w cC where
 is:=BJ
 hash:=UZ w
 inj:=fun v a b ha hb=>by
  rcases CG ha with⟨i,t,rfl,rfl⟩ | ⟨x,t,rfl,rfl⟩
  · rcases CG hb with⟨j,u,rfl,e⟩ | ⟨y,u,rfl,e⟩
    · injection e with e1 _;rw[e1]
    · exact nomatch e
  · rcases CG hb with⟨j,u,rfl,e⟩ | ⟨y,u,rfl,e⟩
    · exact nomatch e
    · injection e with e1 _;rw[e1]
 byValue:=fun k v h=>by rcases CG h with⟨i,t,rfl,rfl⟩ | ⟨x,t,rfl,rfl⟩<;>rfl
 pyHash:=fun hv h=>by
  rcases CG hv with⟨i,t,rfl,rfl⟩ | ⟨x,t,rfl,rfl⟩
  · exact wpAny_pyHash_int h
  · exact wpAny_pyHash_str h
 eqBool:=fun hu hv h=>by
  rcases CG hu with⟨i,t,rfl,rfl⟩ | ⟨x,t,rfl,rfl⟩
  · rcases CG hv with⟨j,u,rfl,rfl⟩ | ⟨y,u,rfl,rfl⟩
    · rw[Gk]at h;exact wpAny_eqBool_int h
    · rw[Ik]at h;exact SeqAt.EqAt.int_str i t y u _ _ _ _ h
  · rcases CG hv with⟨j,u,rfl,rfl⟩ | ⟨y,u,rfl,rfl⟩
    · rw[Jk]at h;exact SeqAt.EqAt.str_int x t j u _ _ _ _ h
    · rw[Lk]at h;exact wpAny_eqBool_str h
 «strs»:=fun k x t v h=>by
  rcases CG h with⟨i,u,rfl,e⟩ | ⟨y,u,rfl,e⟩
  · exact nomatch e
  · injection e with e1 _
    subst e1;cases v<;>rfl
theorem w5(prog:Program)(w:World)(i:Int)(t:Tok):(jE prog w).is (.inl i) (.int i t)=true:=x8 i t
theorem A5(prog:Program)(w:World)(x:Str)(t:Tok):(jE prog w).is (.inr x) (.str x t)=true:=y8 x t
inductive V where
 | non | bl (b:Bool) | int (i:Int) | str (x:Str) | Um (b:Array UInt8) | flt (b:UInt64) | ref (a:Addr) | ty (n:String)
 deriving DecidableEq
noncomputable def RelV:V->Value->Prop
 | .non,u=>u=Value.none
 | .bl b,u=>u=Value.bool b
 | .int i,u=>∃t,u=Value.int i t
 | .str x,u=>∃t,u=Value.str x t
 | .Um b,u=>∃t,u=Value.bytes b t
 | .flt b,u=>∃t,u=Value.float b t
 | .ref a,u=>u=Value.ref a
 | .ty n,u=>u=Value.type n
abbrev Vals:List V->List Value->Prop:=Paired RelV
theorem Vals.length{xs:List V}{us:List Value}(r:Vals xs us):xs.length=us.length:=Paired.length r
theorem Vals.get:∀{xs:List V}{us:List Value}{i:Nat}{x:V},Vals xs us->xs[i]?=some x->∃u,us[i]?=some u/\RelV x u
 | _,_,_,_,.nil,e=>by simp at e
 | _,_,0,_,.cons r _,e=>by simp at e;subst e;exact⟨_,rfl,r⟩
 | _,_,i+1,x,.cons _ t,e=>by obtain⟨u,h1,h2⟩:=Vals.get (i:=i) (x:=x) t (by simpa using e);exact⟨u,by simpa using h1,h2⟩
theorem Vals.set{x:V}{u:Value}(r:RelV x u):∀{xs:List V}{us:List Value}(i:Nat),Vals xs us->Vals (xs.set i x) (us.set i u)
 | _,_,_,.nil=>.nil
 | _,_,0,.cons _ t=>.cons r t
 | _,_,i+1,.cons q t=>.cons q (Vals.set r i t)
theorem Vals.append:∀{xs ys:List V}{us ws:List Value},Vals xs us->Vals ys ws->Vals (xs++ys) (us++ws)
 | _,_,_,_,.nil,s=>s
 | _,_,_,_,.cons r t,s=>.cons r (Vals.append t s)
theorem Vals.take:∀{xs:List V}{us:List Value}(n:Nat),Vals xs us->Vals (xs.take n) (us.take n)
 | _,_,0,_=>.nil
 | _,_,_+1,.nil=>.nil
 | _,_,n+1,.cons r t=>.cons r (Vals.take n t)
theorem Vals.drop:∀{xs:List V}{us:List Value}(n:Nat),Vals xs us->Vals (xs.drop n) (us.drop n)
 | _,_,0,r=>r
 | _,_,_+1,.nil=>.nil
 | _,_,n+1,.cons _ t=>Vals.drop n t
theorem Vals.none_of:∀{xs:List V}{us:List Value}{i:Nat},Vals xs us->xs[i]?=none->us[i]?=none:=fun {xs us i} r e=>by have h1:=r.length;have h2:xs.length<=i:=getElem?_eq_none_iff.mp e;exact getElem?_eq_none_iff.mpr (by omega)
def Jc:Option V->Option Value->Prop
 | some v,some u=>RelV v u
 | none,none=>True
 | _,_=>False
def KV{κ:Type}:List (κ×V)->List (κ×Value)->Prop:=Paired fun(p:κ×V) (q:κ×Value)=>p.1=q.1/\RelV p.2 q.2
noncomputable def kV:cC->V
 | .inl i=>.int i
 | .inr x=>.str x
inductive HO where
 | lst (xs:List V)
 | tup (xs:List V)
 | dK (kvs:List (cC×V)) | dT (kvs:List (List cC×V))
 | set (S:Int->Bool) (n:Nat)
 | ins (C dx:Addr) (fs:List (Str×V))
 | own (x:Addr)
 | xd (fs:List (Str×V))
 | met (f x:Addr)
 | rng (lo hi:Int)
 | Gb (o:Obj) (u:HO)
 | tbl (ps:Array Value)
 | ext (φ:Heap->Prop)
noncomputable abbrev Hp:=Addr->Option HO
noncomputable def xB(H:Hp)(a:Addr)(o:HO):Hp:=fun b=>if b=a then some o else H b
theorem SC{H:Hp}{a:Addr}{o:HO}:xB H a o a=some o:=by unfold xB;rw[if_pos rfl]
theorem QA{H:Hp}{a b:Addr}{o:HO}(h:b≠a):xB H a o b=H b:=by unfold xB;rw[if_neg h]
theorem sT{H:Hp}{a b:Addr}{o u:HO}(h:H a=some o)(h':H b=some u)(d:o≠u):a≠b:=by intro e;subst e;rw[h]at h';exact d (Option.some.inj h')
theorem bD{H:Hp}{a b:Addr}{o:HO}(h:H a=some o)(h':H b=none):a≠b:=by intro e;subst e;rw[h]at h';cases h'
section
variable(P:Program)(w:World)
def Kf(H:Hp)(h:Heap)(a:Addr):HO->Prop
 | .lst xs=>xs.length<=sizeLine/\∃(its:List Value) (n:Nat),Vals xs its/\h.get? a=some { cls:=.type "list",data:=.seq its.toArray n }
 | .tup xs=>xs.length<=sizeLine/\∃its:List Value,Vals xs its/\IsTup h a its.toArray
 | .dK kvs=>kvs.length<=sizeLine/\(a==sysModules)=false/\∃vs,KV kvs vs/\h.DictOf (jE P w) a vs
 | .dT kvs=>kvs.length<=sizeLine/\(a==sysModules)=false/\∃xs:List (List cC×Addr×Value),
  Paired (fun(p:List cC×V) (q:List cC×Addr×Value)=>p.1=q.1/\H q.2.1=some (.tup (p.1.map kV))/\RelV p.2 q.2.2) kvs xs/\
  ∃o es ep,h.get? a=some o/\o.ExactDict/\o.data=.dict es ep/\es.toList=xs.map (entryOfKey (tupleKind (jE P w)))/\(xs.map (·.1)).Nodup
 | .set S n=>h.SetOf (intKind P w) a S n
 | .ins C dx fs=>H dx=some (.own a)/\fs.length<=1000/\dx≠a/\h.get? a=some (PySem.W.instObj C dx)/\
  ∃mA,h.Ns1 dx mA/\(∀f,Jc (fs.lookup f) (mA f))/\PySem.Within mA (fs.map (·.1))
 | .own _=>∃o,h.get? a=some o
 | .xd fs=>∃mA,h.Ns1 a mA/\∀f,Jc (fs.lookup f) (mA f)
 | .rng lo hi=>∃t u v,h.get? a=some { cls:=.type "range",data:=.fields #[.int lo t,.int hi u,.int 1 v] }
 | .Gb o u=>h.get? a=some o/\Kf H h a u
 | .tbl ps=>h.get? a=some { cls:=.none,data:=.fields ps }
 | .met f x=>h.get? a=some (PySem.W.methodObj (.ref f) (.ref x))
 | .ext φ=>φ h/\(∃o,h.get? a=some o)/\∀h1 h2:Heap,φ h1->(∀o,h1.get? a=some o->h2.get? a=some o)->φ h2
def Yc(H:Hp)(h:Heap):Prop:=∀a o,H a=some o->Kf P w H h a o
end
section
variable{P:Program}{w:World}{H H':Hp}{h h':Heap}{a:Addr}{o:HO}
theorem Kf.lt(x:Kf P w H h a o):a<h.objs.size:=by
 cases o with
 | lst xs=>obtain⟨_,_,_,_,e⟩:=x;exact Heap.lt_size e
 | tup xs=>obtain⟨_,_,_,p⟩:=x;exact p.lt
 | dK kvs=>obtain⟨_,_,_,_,o,_,_,e,_⟩:=x;exact Heap.lt_size e
 | dT kvs=>obtain⟨_,_,_,_,o,_,_,e,_⟩:=x;exact Heap.lt_size e
 | set S n=>obtain⟨o,_,_,_,e,_⟩:=x;exact Heap.lt_size e
 | ins C dx fs=>obtain⟨_,_,_,e,_⟩:=x;exact Heap.lt_size e
 | own y=>obtain⟨_,e⟩:=x;exact Heap.lt_size e
 | xd fs=>obtain⟨_,⟨_,_,_,e,_⟩,_⟩:=x;exact Heap.lt_size e
 | rng lo hi=>obtain⟨_,_,_,e⟩:=x;exact Heap.lt_size e
 | Gb ob u=>obtain⟨e,_⟩:=x;exact Heap.lt_size e
 | tbl ps=>exact Heap.lt_size (show h.get? a=some _ from x)
 | met f y=>exact Heap.lt_size (show h.get? a=some _ from x)
 | ext φ=>obtain⟨_,⟨_,e⟩,_⟩:=x;exact Heap.lt_size e
theorem Paired.zav{α β:Type}{F G:α->β->Prop}:∀{l₁:List α}{l₂:List β},Paired F l₁ l₂->(∀a b,F a b->G a b)->Paired G l₁ l₂
 | _,_,.nil,_=>.nil
 | _,_,.cons r t,f=>.cons (f _ _ r) (Paired.zav t f)
theorem Kf.stay(x:Kf P w H h a o)(k:∀b u,(b=a\/H b=some (.own a))->h.get? b=some u->h'.get? b=some u)
 (ho:∀b,H b=some (.own a)->H' b=some (.own a)) (ht:∀b xs,H b=some (.tup xs)->H' b=some (.tup xs)):Kf P w H' h' a o:=by
 induction o with
 | lst xs=>obtain⟨z,its,n,r,e⟩:=x;exact⟨z,its,n,r,k _ _ (.inl rfl) e⟩
 | tup xs=>obtain⟨z,its,r,ob,e,c⟩:=x;exact⟨z,its,r,ob,k _ _ (.inl rfl) e,c⟩
 | dK kvs=>obtain⟨z,y,vs,r,ob,es,ep,e,c⟩:=x;exact⟨z,y,vs,r,ob,es,ep,k _ _ (.inl rfl) e,c⟩
 | dT kvs=>obtain⟨z,y,xs,r,ob,es,ep,e,c⟩:=x;exact⟨z,y,xs,Paired.zav r fun p q z=>⟨z.1,ht _ _ z.2.1,z.2.2⟩,ob,es,ep,k _ _ (.inl rfl) e,c⟩
 | set S n=>obtain⟨ob,es,ep,t,e,c⟩:=x;exact⟨ob,es,ep,t,k _ _ (.inl rfl) e,c⟩
 | ins C dx fs=>obtain⟨d,z,ne,e,mA,⟨od,es,ep,e2,c⟩,r⟩:=x;exact⟨ho _ d,z,ne,k _ _ (.inl rfl) e,mA,⟨od,es,ep,k _ _ (.inr d) e2,c⟩,r⟩
 | own y=>obtain⟨ob,e⟩:=x;exact⟨ob,k _ _ (.inl rfl) e⟩
 | xd fs=>obtain⟨mA,⟨od,es,ep,e,c⟩,r⟩:=x;exact⟨mA,⟨od,es,ep,k _ _ (.inl rfl) e,c⟩,r⟩
 | rng lo hi=>obtain⟨t,u,v,e⟩:=x;exact⟨t,u,v,k _ _ (.inl rfl) e⟩
 | Gb ob u ih=>obtain⟨e,q⟩:=x;exact⟨k _ _ (.inl rfl) e,ih q⟩
 | tbl ps=>have e:h.get? a=some { cls:=.none,data:=.fields ps }:=x;show h'.get? a=some { cls:=.none,data:=.fields ps };exact k a _ (.inl rfl) e
 | met f y=>have e:h.get? a=some (PySem.W.methodObj (.ref f) (.ref y)):=x;show h'.get? a=some (PySem.W.methodObj (.ref f) (.ref y));exact k a _ (.inl rfl) e
 | ext φ=>obtain⟨p,⟨o,e⟩,st⟩:=x;exact⟨st _ _ p fun o q=>k _ _ (.inl rfl) q,⟨o,k _ _ (.inl rfl) e⟩,st⟩
theorem Yc.lt(x:Yc P w H h)(e:H a=some o):a<h.objs.size:=(x a o e).lt
theorem Yc.fresh(x:Yc P w H h)(e:h.objs.size<=a):H a=none:=by
 cases q:H a with
 | none=>rfl
 | some u=>exact absurd (Nat.lt_of_lt_of_le (x.lt q) e) (Nat.lt_irrefl _)
theorem Yc.kept(x:Yc P w H h)(k:∀b u,h.get? b=some u->h'.get? b=some u):Yc P w H h':=fun a o e=>(x a o e).stay (fun b u _ q=>k b u q) (fun _ q=>q) fun _ _ q=>q
theorem Yc.laid(x:Yc P w H h)(k:∀b u,h.get? b=some u->h'.get? b=some u)(hp:h.objs.size<=a)(new:Kf P w (xB H a o) h' a o):Yc P w (xB H a o) h':=fun b u e=>by
 have hn:=x.fresh hp;by_cases hb:b=a
 · subst hb;rw[SC]at e;cases e;exact new
 · rw[QA hb]at e;exact(x b u e).stay (fun c v _ q=>k c v q) (fun c q=>by rw[QA (bD q hn)];exact q) fun c xs q=>by rw[QA (bD q hn)];exact q
end
noncomputable def Rd(H:Hp)(a:Addr)(u:HO):Prop:=H a=some u\/∃o,H a=some (.Gb o u)
theorem Rd.ok{P:Program}{w:World}{H:Hp}{h:Heap}{a:Addr}{u:HO}(r:Rd H a u)(x:Yc P w H h):Kf P w H h a u:=by
 rcases r with r | ⟨o,r⟩
 · exact x a u r
 · obtain⟨_,q⟩:=x a _ r;exact q
noncomputable def hU:Option HO->Prop
 | some (.lst _)=>True
 | some (.dK _)=>True
 | some (.dT _)=>True
 | some (.set _ _)=>True
 | some (.ins _ _ _)=>True
 | some (.ext _)=>True
 | _=>False
section
variable{P:Program}{w:World}{H:Hp}{h h':Heap}{x e:Addr}{o':HO}
theorem Yc.write(ok:Yc P w H h)(mu:hU (H x))(he:e=x\/H e=some (.own x))(k:∀b u,b≠e->h.get? b=some u->h'.get? b=some u)(heo:∃u,h'.get? e=some u)
 (new:Kf P w (xB H x o') h' x o'):Yc P w (xB H x o') h':=fun b u q=>by
 have za5:∀c y,H c=some (.own y)->c≠x:=fun c y r z=>by subst z;rw[r]at mu;exact mu
 have zcv:∀c xs,H c=some (.tup xs)->c≠x:=fun c xs r z=>by subst z;rw[r]at mu;exact mu
 by_cases hb:b=x
 · subst hb;rw[SC]at q;cases q;exact new
 · rw[QA hb]at q;by_cases hbe:b=e
   · have q':H b=some (.own x):=by
      rcases he with z | z
      · exact absurd (hbe.trans z) hb
      · rw[hbe];exact z
     rw[q]at q';cases q';obtain⟨v,hv⟩:=heo;exact⟨v,by rw[hbe];exact hv⟩
   · refine(ok b u q).stay (fun c v hc r=>k c v ?_ r) (fun c r=>by rw[QA (za5 c b r)];exact r) fun c xs r=>by rw[QA (zcv c xs r)];exact r
     rcases hc with rfl | hc
     · exact hbe
     · rintro rfl;rcases he with z | z
       · exact za5 c b hc z
       · rw[hc]at z;cases z;exact hb rfl
end
structure Un(fs ex:List Addr)(H H':Hp)(h h':Heap):Prop where
 keep:∀b o,h.get? b=some o->H b=none->b∉fs->b∉ex->h'.get? b=some o
 slot:∀b o,h.get? b=some o->H b=none->b∈fs->b∉ex->∃sl,h'.get? b=some { o with slots:=sl }
 free:∀b o,h.get? b=some o->H b=none->b∉ex->H' b=none
 there:∀b o,h.get? b=some o->b∉ex->∃o',h'.get? b=some o'
 tups:∀b xs,H b=some (.tup xs)->H' b=some (.tup xs)
 Bb:∀b o u,H b=some (.Gb o u)->H' b=some (.Gb o u)
 Lb:∀b ps,H b=some (.tbl ps)->∃more,H' b=some (.tbl (ps++more))
section
variable{fs fs' ex ex':List Addr}{H H1 H2:Hp}{h h1 h2 h':Heap}{a x e:Addr}{o:HO}
theorem Un.any(u:Un fs ex H H1 h h1){b:Addr}{ob:Obj}(q:h.get? b=some ob)(n:H b=none)(hx:b∉ex):∃sl,h1.get? b=some { ob with slots:=sl }:=by
 by_cases hb:b∈fs
 · exact u.slot b ob q n hb hx
 · exact⟨ob.slots,u.keep b ob q n hb hx⟩
theorem Un.trans(a:Un fs ex H H1 h h1)(b:Un fs ex H1 H2 h1 h2):Un fs ex H H2 h h2 where
 keep:=fun c ob q n hc hx=>b.keep c ob (a.keep c ob q n hc hx) (a.free c ob q n hx) hc hx
 slot:=fun c ob q n hc hx=>by obtain⟨sl,e1⟩:=a.slot c ob q n hc hx;obtain⟨sl',e2⟩:=b.slot c _ e1 (a.free c ob q n hx) hc hx;exact⟨sl',e2⟩
 free:=fun c ob q n hx=>by obtain⟨o',e1⟩:=a.there c ob q hx;exact b.free c o' e1 (a.free c ob q n hx) hx
 there:=fun c ob q hx=>by obtain⟨o',e1⟩:=a.there c ob q hx;exact b.there c o' e1 hx
 tups:=fun c xs q=>b.tups c xs (a.tups c xs q)
 Bb:=fun c ob xs q=>b.Bb c ob xs (a.Bb c ob xs q)
 Lb:=fun c ps q=>by obtain⟨m1,e1⟩:=a.Lb c ps q;obtain⟨m2,e2⟩:=b.Lb c _ e1;exact⟨m1++m2,by rw[e2,Array.append_assoc]⟩
theorem Un.kept(k:∀b u,h.get? b=some u->h'.get? b=some u):Un fs ex H H h h':=
 ⟨fun b ob q _ _ _=>k b ob q,fun b ob q _ _ _=>⟨ob.slots,k b ob q⟩,fun _ _ _ n _=>n,fun b ob q _=>⟨ob,k b ob q⟩,fun _ _ q=>q,fun _ _ _ q=>q,fun _ ps q=>⟨#[],by rw[q];simp⟩⟩
theorem Un.refl:Un fs ex H H h h:=Un.kept fun _ _ q=>q
theorem Un.laid(k:∀b u,h.get? b=some u->h'.get? b=some u)(hp:h.objs.size<=a)(hn:H a=none):Un fs ex H (xB H a o) h h' where
 keep:=fun b u q _ _ _=>k b u q
 slot:=fun b u q _ _ _=>⟨u.slots,k b u q⟩
 free:=fun b u q n _=>by rw[QA (Nat.ne_of_lt (Nat.lt_of_lt_of_le (Heap.lt_size q) hp))];exact n
 there:=fun b u q _=>⟨u,k b u q⟩
 tups:=fun b xs q=>by rw[QA (bD q hn)];exact q
 Bb:=fun b u xs q=>by rw[QA (bD q hn)];exact q
 Lb:=fun b ps q=>⟨#[],by rw[QA (bD q hn),q];simp⟩
theorem Un.write(mu:hU (H x))(he:e=x\/H e=some (.own x))(k:∀b u,b≠e->h.get? b=some u->h'.get? b=some u)(heo:∃u,h'.get? e=some u):Un fs ex H (xB H x o) h h':=by
 have hx:∀b,H b=none->b≠x:=fun b n z=>by subst z;rw[n]at mu;exact mu
 have hb:∀b,H b=none->b≠e:=fun b n z=>by
  subst z;rcases he with r | r
  · exact hx b n r
  · rw[n]at r;cases r
 have hm:∀b u,H b=some u->¬hU (some u)->b≠x:=fun b u q nm z=>by subst z;rw[q]at mu;exact nm mu
 refine⟨fun b u q n _ _=>k b u (hb b n) q,fun b u q n _ _=>⟨u.slots,k b u (hb b n) q⟩,fun b u q n _=>by rw[QA (hx b n)];exact n,fun b u q _=>?_,
  fun b xs q=>by rw[QA (hm b _ q fun z=>z)];exact q,fun b u xs q=>by rw[QA (hm b _ q fun z=>z)];exact q,fun b ps q=>⟨#[],by rw[QA (hm b _ q fun z=>z),q];simp⟩⟩
 by_cases hbe:b=e
 · subst hbe;exact heo
 · exact⟨u,k b u hbe q⟩
theorem Un.mono(u:Un fs ex H H1 h h1)(hs:∀b∈fs,b∈fs')(hx:∀b∈ex,b∈ex'):Un fs' ex' H H1 h h1:=
 ⟨fun b ob q n hb he=>u.keep b ob q n (fun z=>hb (hs b z)) fun z=>he (hx b z),fun _ _ q n _ he=>u.any q n fun z=>he (hx _ z),fun b ob q n he=>u.free b ob q n fun z=>he (hx b z),fun b ob q he=>u.there b ob q fun z=>he (hx b z),u.tups,u.Bb,u.Lb⟩
end
noncomputable def FZ(h:Heap)(H:Hp):List Addr:=(List.range h.objs.size).filter fun a=>(H a).isSome
def xG(h:Heap)(H:Hp):Heap:=PySem.W.hideAll h (FZ h H)
theorem K6(h:Heap)(H:Hp):(xG h H).objs.size=h.objs.size:=PySem.W.hideAll_size _ _
theorem m9{h:Heap}{H:Hp}{b:Addr}{o:Obj}(e:h.get? b=some o)(n:H b=none):(xG h H).get? b=some o:=
 PySem.W.hideAll_get _ e fun hm=>by have q:(H b).isSome=true:=(mem_filter.mp hm).2;rw[n]at q;simp at q
theorem Sq{h:Heap}{H:Hp}{b:Addr}{o:Obj}(e:(xG h H).get? b=some o):h.get? b=some o/\H b=none:=by
 have e':h.get? b=some o:=PySem.W.of_hideAll (FZ h H) e;refine⟨e',?_⟩;cases q:H b with
 | none=>rfl
 | some x=>have hm:b∈FZ h H:=mem_filter.mpr ⟨mem_range.mpr (Heap.lt_size e'),by simp[q]⟩;have z:(xG h H).get? b=none:=PySem.W.hideAll_none (FZ h H) hm;rw[z]at e;cases e
noncomputable def Xq(g h:Heap)(L:Addr):List (Addr×Obj):=(List.range h.objs.size).filterMap fun a=>if a=L\/(g.get? a).isSome=true then none else(h.get? a).map fun o=>(a,o)
def rest(g h:Heap)(L d:Addr):List (Addr×Obj):=(Xq g h L).filter fun p=>decide (p.1≠d)
structure Mod(K:Frag)(mg:Str->Option Value)(base:Heap):Prop where
 kin:K.In base
 glob:base.Ns mainGlobals mg
 blt:∃mb,base.Ns builtinsNs mb/\∀x:Str,x ≠ "__name__" ->mb x=bootBuiltins x
 nolimit:base.NoLimit
structure Cx where
 prog:Program
 w:World
 K:Frag
 mg:Str->Option Value
 base:Heap
 A:Around
 N:List Str
 s₀:Shared
 H₀:Hp
 env:Env
 outer:List Env
 stack:List Env
 ex:List Addr
 fn:Str->Bool
 calm:Bool
 pn:List (Addr×Obj)
 xe:Value->Shared->Prop
noncomputable def NJ(l:List Env):List Addr:=l.filterMap (·.frame)
abbrev Cx.fs(X:Cx):List Addr:=NJ X.outer
noncomputable def yZ(sc:Scope)(x:Str):Prop:=sc.names.lookup x=some .local\/sc.names.lookup x=some .cell\/sc.names.lookup x=some .free
noncomputable def JO(sc:Scope)(x:Str):Prop:=sc.names.lookup x=some .local\/sc.names.lookup x=some .cell
noncomputable def HZ(env:Env)(h:Heap)(m:Str->Option Value)(x:Str)(u:Value):Prop:=
 (env.kindOf x=some .local/\m x=some u)\/((env.kindOf x=some .cell\/env.kindOf x=some .free)/\∃c,env.cells.lookup x=some c/\h.IsCell c (some u))
structure Cx.Ok(X:Cx):Prop where
 mod:Mod X.K X.mg X.base
 kind:X.env.scope.kind=.function
 glob:X.env.globals=mainGlobals
 blt:X.env.builtins=builtinsNs
 above:X.s₀.heap.objs.size<=X.env.locals
 inj:∀x y c,X.env.cells.lookup x=some c->X.env.cells.lookup y=some c->x=y
 has:∀x,(X.env.kindOf x=some .cell\/X.env.kindOf x=some .free)->∃c,X.env.cells.lookup x=some c
 cab:∀x c,X.fn x=true->X.env.cells.lookup x=some c->X.s₀.heap.objs.size<=c
 hd:X.calm=true->X.A.handled=none
 frames:X.A.frames=some X.stack
 stk:X.stack=X.outer\/(X.stack=X.env::X.outer/\X.env.frame=some X.env.locals)
 exf:∀b∈X.ex,b≠X.env.locals/\∀x c,X.env.cells.lookup x=some c->c≠b
 bs:∀b o,X.base.get? b=some o->X.s₀.heap.get? b=some o/\X.H₀ b=none
 Yp:X.base.objs.size<=X.s₀.heap.objs.size
 Ul:∀b o,X.base.get? b=some o->b∉X.ex
 Il:∀b∈X.ex,b∉X.fs
 Jb:X.s₀.heap.FunFrames X.base X.outer
 frf:∀b∈X.fs,X.H₀ b=none
structure Inv(X:Cx)(pins:List (Addr×Obj))(σ:List (Option V))(H:Hp)(s:Shared):Prop where
 ok:X.Ok
 os:s.os=X.s₀.os
 bare:AllBare s.gens
 base:Un X.fs X.ex X.H₀ H X.s₀.heap s.heap
 loc:∃m,s.heap.Ns X.env.locals m/\∀(i:Nat)(x:Str)(v:V),X.N[i]?=some x->σ[i]?=some (some v)->yZ X.env.scope x->∃u,RelV v u/\HZ X.env s.heap m x u
 cell:∀x c,X.env.cells.lookup x=some c->∃v,s.heap.IsCell c v
 free:H X.env.locals=none
 Qc:∀x c,X.env.cells.lookup x=some c->H c=none
 pin:∀p∈X.pn++pins,s.heap.get? p.1=some p.2/\H p.1=none/\p.1≠X.env.locals/\p.1∉X.fs/\∀v,p.2.data≠.cell v
 hok:Yc X.prog X.w H s.heap
 len:σ.length=X.N.length
section
variable{X:Cx}{pins:List (Addr×Obj)}{σ:List (Option V)}{H H':Hp}{s:Shared}{h':Heap}
theorem Cx.Ok.zct(ok:X.Ok){b:Addr}{o:Obj}(e:X.base.get? b=some o):b∉X.fs:=fun hb=>by have:=(ok.Jb.mem hb).1;rw[e]at this;cases this
theorem Inv.bs(I:Inv X pins σ H s):∀b o,X.base.get? b=some o->s.heap.get? b=some o/\H b=none:=fun b o e=>⟨I.base.keep b o (I.ok.bs b o e).1 (I.ok.bs b o e).2 (I.ok.zct e) (I.ok.Ul b o e),I.base.free b o (I.ok.bs b o e).1 (I.ok.bs b o e).2 (I.ok.Ul b o e)⟩
theorem Inv.bk(I:Inv X pins σ H s):∀b o,X.base.get? b=some o->s.heap.get? b=some o:=fun b o e=>(I.bs b o e).1
theorem Inv.mod(I:Inv X pins σ H s):Mod X.K X.mg X.base:=I.ok.mod
theorem Inv.Tn(I:Inv X pins σ H s):X.K.In s.heap:=I.ok.mod.kin.keeps I.bk
theorem Inv.nolimit(I:Inv X pins σ H s):s.heap.NoLimit:=I.ok.mod.nolimit.keeps I.bk
theorem Inv.lt(I:Inv X pins σ H s):X.env.locals<s.heap.objs.size:=let ⟨_,hn,_⟩:=I.loc;hn.lt
theorem Inv.sz(I:Inv X pins σ H s):X.s₀.heap.objs.size<=s.heap.objs.size:=Nat.le_trans I.ok.above (Nat.le_of_lt I.lt)
theorem Inv.zcu(I:Inv X pins σ H s){a:Addr}(h:s.heap.objs.size<=a):a∉X.fs:=fun hb=>by obtain⟨_,o,ho,_⟩:=I.ok.Jb.mem hb;exact absurd (Nat.lt_of_lt_of_le (Heap.lt_size ho) (Nat.le_trans I.sz h)) (Nat.lt_irrefl _)
theorem Inv.cne(I:Inv X pins σ H s):∀x c,X.env.cells.lookup x=some c->c≠X.env.locals:=fun x c e z=>by obtain⟨v,o,ho,hd⟩:=I.cell x c e;obtain⟨m,⟨o',es,ep,ho',hd',_⟩,_⟩:=I.loc;rw[z,ho']at ho;cases ho;rw[hd']at hd;cases hd
theorem Inv.Jb(I:Inv X pins σ H s):s.heap.FunFrames X.base X.outer:=by
 have all:∀(l:List Env),(∀b∈NJ l,b∈X.fs)->X.s₀.heap.FunFrames X.base l->s.heap.FunFrames X.base l:=by
  intro l
  induction l with
  | nil=>intro _ _;trivial
  | cons env r ih=>
   intro hs hl;obtain⟨hk,⟨L,o,hf,hn,ho,hd⟩,hr⟩:=hl;have hL:L∈X.fs:=hs L (by unfold NJ;rw[filterMap_cons,hf];exact mem_cons_self);obtain⟨sl,e⟩:=I.base.slot L o ho (I.ok.frf L hL) hL fun z=>I.ok.Il L z hL
   exact⟨hk,⟨L,_,hf,hn,e,hd⟩,ih (fun b hb=>hs b (by unfold NJ;rw[filterMap_cons,hf];exact mem_cons_of_mem _ hb)) hr⟩
 exact all X.outer (fun _ hb=>hb) I.ok.Jb
theorem Inv.stack(I:Inv X pins σ H s):s.heap.FunFrames X.base X.stack:=by
 rcases I.ok.stk with e | ⟨e,hf⟩
 · rw[e];exact I.Jb
 · rw[e];obtain⟨m,hn,_⟩:=I.loc;refine .cons (by rw[I.ok.kind];decide) hf hn ?_ I.Jb;exact Heap.get?_none_of_le (Nat.le_trans I.ok.Yp I.ok.above)
theorem Inv.Gm(I:Inv X pins σ H s):∀b∈NJ X.stack,b∈X.env.locals::X.fs:=fun b hb=>by
 rcases I.ok.stk with e | ⟨e,hf⟩
 · rw[e]at hb;exact mem_cons_of_mem _ hb
 · rw[e]at hb;unfold NJ at hb;rw[filterMap_cons,hf]at hb;exact hb
theorem Inv.Qm(I:Inv X pins σ H s):∀b∈NJ X.stack,H b=none:=fun b hb=>by
 rcases mem_cons.mp (I.Gm b hb)with e | hb
 · rw[e];exact I.free
 · obtain⟨_,o,ho,_⟩:=I.ok.Jb.mem hb;exact I.base.free b o ho (I.ok.frf b hb) fun z=>I.ok.Il b z hb
theorem Inv.step{g':Array GenState}{t':Nat}{d':Drawn}{ch:List Addr}(I:Inv X pins σ H s)
 (hch:∀b∈ch,(b∈X.ex\/X.s₀.heap.objs.size<=b)/\b≠X.env.locals/\(∀x c,X.env.cells.lookup x=some c->c≠b)/\∀p∈X.pn++pins,p.1≠b)
 (keep:∀b o,b≠X.env.locals->b∉X.fs->b∉ch->s.heap.get? b=some o->H b=none->h'.get? b=some o)
 (slot:∀b o,b≠X.env.locals->b∈X.fs->b∉ch->s.heap.get? b=some o->H b=none->∃sl,h'.get? b=some { o with slots:=sl }) (free:∀b o,b∉ch->s.heap.get? b=some o->H b=none->H' b=none)
 (there:∀b o,b∉ch->s.heap.get? b=some o->∃o',h'.get? b=some o')
 (tups:∀b xs,H b=some (.tup xs)->H' b=some (.tup xs)) (Bb:∀b o u,H b=some (.Gb o u)->H' b=some (.Gb o u)) (Lb:∀b ps,H b=some (.tbl ps)->∃more,H' b=some (.tbl (ps++more)))
 (ns:∀m,s.heap.Ns X.env.locals m->h'.Ns X.env.locals m) (hok:Yc X.prog X.w H' h') (hg:AllBare g') :
 Inv X pins σ H' { s with heap:=h',gens:=g',drawn:=d',toks:=t' }:=by
 have neL:∀b o,X.s₀.heap.get? b=some o->b≠X.env.locals:=fun b o e=>Nat.ne_of_lt (Nat.lt_of_lt_of_le (Heap.lt_size e) I.ok.above)
 have neC:∀b o,X.s₀.heap.get? b=some o->b∉X.ex->b∉ch:=fun b o e hx hb=>by
  rcases(hch b hb).1 with z | z
  · exact hx z
  · exact absurd (Nat.lt_of_lt_of_le (Heap.lt_size e) z) (Nat.lt_irrefl _)
 have cellK:∀x c,X.env.cells.lookup x=some c->∀v,s.heap.IsCell c v->h'.IsCell c v:=fun x c e v zz=>by
  obtain⟨o,ho,hd⟩:=zz;have nch:c∉ch:=fun z=>(hch c z).2.2.1 x c e rfl
  by_cases hc:c∈X.fs
  · obtain⟨sl,q⟩:=slot c o (I.cne x c e) hc nch ho (I.Qc x c e);exact⟨_,q,hd⟩
  · exact⟨o,keep c o (I.cne x c e) hc nch ho (I.Qc x c e),hd⟩
 refine⟨I.ok,I.os,hg,⟨fun b o e n hb hx=>?_,fun b o e n hb hx=>?_,fun b o e n hx=>?_,fun b o e hx=>?_,fun b xs e=>tups b xs (I.base.tups b xs e),fun b o xs e=>Bb b o xs (I.base.Bb b o xs e),fun b ps e=>?_⟩,?_,fun x c e=>?_,?_,fun x c e=>?_,fun p hp=>?_,hok,I.len⟩
 · exact keep b o (neL b o e) hb (neC b o e hx) (I.base.keep b o e n hb hx) (I.base.free b o e n hx)
 · obtain⟨sl,e1⟩:=I.base.slot b o e n hb hx;obtain⟨sl',e2⟩:=slot b _ (neL b o e) hb (neC b o e hx) e1 (I.base.free b o e n hx);exact⟨sl',e2⟩
 · obtain⟨o',e1⟩:=I.base.there b o e hx;exact free b o' (neC b o e hx) e1 (I.base.free b o e n hx)
 · obtain⟨o',e1⟩:=I.base.there b o e hx;exact there b o' (neC b o e hx) e1
 · obtain⟨m1,e1⟩:=I.base.Lb b ps e;obtain⟨m2,e2⟩:=Lb b _ e1;exact⟨m1++m2,by rw[e2,Array.append_assoc]⟩
 · obtain⟨m,hn,hl⟩:=I.loc;refine⟨m,ns m hn,fun i x v e1 e2 e3=>?_⟩;obtain⟨u,r,l⟩:=hl i x v e1 e2 e3;refine⟨u,r,?_⟩;rcases l with l | ⟨k,c,e,z⟩
   · exact .inl l
   · exact .inr ⟨k,c,e,cellK x c e _ z⟩
 · obtain⟨v,z⟩:=I.cell x c e;exact⟨v,cellK x c e v z⟩
 · obtain⟨m,⟨o,_,_,ho,_⟩,_⟩:=I.loc;exact free _ o (fun z=>(hch _ z).2.1 rfl) ho I.free
 · obtain⟨v,o,ho,hd⟩:=I.cell x c e;exact free c o (fun z=>(hch c z).2.2.1 x c e rfl) ho (I.Qc x c e)
 · obtain⟨e,n,ne,nf,d⟩:=I.pin p hp;have nch:p.1∉ch:=fun z=>(hch p.1 z).2.2.2 p hp rfl
   exact⟨keep p.1 p.2 ne nf nch e n,free p.1 p.2 nch e n,ne,nf,d⟩
theorem Inv.un{t':Nat}(I:Inv X pins σ H s)(u:Un X.fs [] H H' s.heap h')(hok:Yc X.prog X.w H' h'):Inv X pins σ H' { s with heap:=h',toks:=t' }:=by
 obtain⟨m,⟨o,es,ep,ho,r⟩,_⟩:=id I.loc;obtain⟨sl,hL⟩:=u.any ho I.free (by simp);exact I.step (g':=s.gens) (d':=s.drawn) (ch:=[]) (fun _ z=>nomatch z) (fun b o _ hb _ e n=>u.keep b o e n hb (by simp)) (fun b o _ hb _ e n=>u.slot b o e n hb (by simp)) (fun b o _ e n=>u.free b o e n (by simp)) (fun b o _ e=>u.there b o e (by simp)) u.tups u.Bb u.Lb (fun m' hm=>by
  obtain⟨o',es',ep',ho',r'⟩:=hm;rw[ho]at ho';cases ho';exact⟨_,es',ep',hL,r'⟩) hok I.bare
theorem Inv.call{g':Array GenState}{t':Nat}{d':Drawn}{ch:List Addr}(I:Inv X pins σ H s)(u:Un (NJ X.stack) ch H H' s.heap h')(hok:Yc X.prog X.w H' h')(hg:AllBare g')
 (hch:∀b∈ch,(b∈X.ex\/X.s₀.heap.objs.size<=b)/\b≠X.env.locals/\(∀x c,X.env.cells.lookup x=some c->c≠b)/\∀p∈X.pn++pins,p.1≠b) :
 Inv X pins σ H' { s with heap:=h',gens:=g',drawn:=d',toks:=t' }:=by
 obtain⟨m,⟨o,es,ep,ho,r⟩,_⟩:=id I.loc;obtain⟨sl,hL⟩:=u.any ho I.free fun z=>(hch _ z).2.1 rfl
 exact I.step (ch:=ch) hch (fun b o hL hb hc e n=>u.keep b o e n (fun z=>(mem_cons.mp (I.Gm b z)).elim hL hb) hc) (fun b o _ _ hc e n=>u.any e n hc) (fun b o hc e n=>u.free b o e n hc) (fun b o hc e=>u.there b o e hc) u.tups u.Bb u.Lb (fun m' hm=>by
  obtain⟨o',es',ep',ho',r'⟩:=hm;rw[ho]at ho';cases ho';exact⟨_,es',ep',hL,r'⟩) hok hg
theorem Inv.turned{t':Nat}{it:Addr}(I:Inv X pins σ H s)(k:∀b o,b≠it->s.heap.get? b=some o->h'.get? b=some o)(hn:H it=none)(hL:it≠X.env.locals)
 (h1:it∈X.ex\/X.s₀.heap.objs.size<=it) (h2:∀x c,X.env.cells.lookup x=some c->c≠it) (h3:∀p∈X.pn++pins,p.1≠it):Inv X pins σ H { s with heap:=h',toks:=t' }:=by
 have nit:∀b u,H b=some u->b≠it:=fun b u e z=>by rw[z,hn]at e;cases e
 refine I.step (g':=s.gens) (d':=s.drawn) (ch:=[it]) (fun b hb=>?_) (fun b o _ _ hc e _=>k b o (fun z=>hc (by simp[z])) e) (fun b o _ _ hc e _=>⟨o.slots,k b o (fun z=>hc (by simp[z])) e⟩) (fun _ _ _ _ n=>n)
  (fun b o hc e=>⟨o,k b o (fun z=>hc (by simp[z])) e⟩) (fun _ _ e=>e) (fun _ _ _ e=>e) (fun b ps e=>⟨#[],by rw[e];simp⟩) (fun m hm=>?_) (fun b u e=>?_) I.bare
 · have e:b=it:=by simpa using hb
   subst e;exact⟨h1,hL,h2,h3⟩
 · obtain⟨o,es,ep,ho,r⟩:=hm;exact⟨o,es,ep,k _ o (Ne.symm hL) ho,r⟩
 · refine(I.hok b u e).stay (fun c v hc q=>k c v ?_ q) (fun _ q=>q) fun _ _ q=>q
   rcases hc with z | z
   · rw[z];exact nit b u e
   · exact nit c _ z
theorem Inv.tok(I:Inv X pins σ H s)(t:Nat):Inv X pins σ H { s with toks:=t }:=I.un (h':=s.heap) (t':=t) Un.refl I.hok
theorem Inv.kept{t':Nat}(I:Inv X pins σ H s)(k:∀b u,s.heap.get? b=some u->h'.get? b=some u):Inv X pins σ H { s with heap:=h',toks:=t' }:=I.un (Un.kept k) (I.hok.kept k)
theorem Inv.laid{a:Addr}{o:HO}{t':Nat}(I:Inv X pins σ H s)(k:∀b u,s.heap.get? b=some u->h'.get? b=some u)(hp:s.heap.objs.size<=a)(new:Kf X.prog X.w (xB H a o) h' a o) :
 Inv X pins σ (xB H a o) { s with heap:=h',toks:=t' }:=I.un (Un.laid k hp (I.hok.fresh hp)) (I.hok.laid k hp new)
theorem Inv.write{x e:Addr}{o:HO}{t':Nat}(I:Inv X pins σ H s)(mu:hU (H x))(he:e=x\/H e=some (.own x))(k:∀b u,b≠e->s.heap.get? b=some u->h'.get? b=some u)(heo:∃u,h'.get? e=some u)
 (new:Kf X.prog X.w (xB H x o) h' x o):Inv X pins σ (xB H x o) { s with heap:=h',toks:=t' }:=I.un (Un.write mu he k heo) (I.hok.write mu he k heo new)
theorem Inv.Om{zad:List (Addr×Obj)}(I:Inv X pins σ H s)(h:∀p∈zad,s.heap.get? p.1=some p.2/\H p.1=none/\p.1≠X.env.locals/\p.1∉X.fs/\∀v,p.2.data≠.cell v):Inv X zad σ H s:=
 ⟨I.ok,I.os,I.bare,I.base,I.loc,I.cell,I.free,I.Qc,fun p hp=>(mem_append.mp hp).elim (fun z=>I.pin p (mem_append_left _ z)) (h p),I.hok,I.len⟩
theorem dX{N:List Str}(hN:N.Nodup){i j:Nat}{x:Str}(a:N[i]?=some x)(b:N[j]?=some x):i=j:=by obtain⟨h1,e1⟩:=zed a;obtain⟨h2,e2⟩:=zed b;exact(getElem_inj hN).mp (e1.trans e2.symm)
theorem MV{M:Model}{A:Around}{E:Value->Shared->Prop}{i:Nat}{x:Str}{v:V}{u:Value}{Q:Unit->Shared->Prop}(I:Inv X pins σ H s)(hN:X.N.Nodup)(hi:X.N[i]?=some x)(hx:JO X.env.scope x)(r:RelV v u)
 (h:∀s',Inv X pins (σ.set i (some v)) H s'->(∃a,Heap.SameBut a s.heap s'.heap/\(a=X.env.locals\/X.env.cells.lookup x=some a))->Q () s') (hf:X.fn x=true\/X.env.scope.names.lookup x=some .local:=by first | exact .inl rfl | exact .inr rfl | assumption):wpAny M A (storeName X.env x u) Q E s:=by
 obtain⟨m,hn,hl⟩:=id I.loc;have hcls:(X.env.scope.kind==.class || (X.env.scope.kind==.module&&X.env.locals !=X.env.globals))=false:=by rw[I.ok.kind];rfl
 have hiσ:i<σ.length:=by rw[I.len];exact(zed hi).1
 have cne:=I.cne;have tracked:∀{a:Addr}{h':Heap},(∃o,s.heap.get? a=some o/\H a=none)->Heap.SameBut a s.heap h'->Yc X.prog X.w H h':=fun {a h'} ha hs b ob e=>by
  obtain⟨_,_,hfree⟩:=ha;refine(I.hok b ob e).stay (fun c w' hc q=>(hs.2 c ?_).trans q) (fun _ q=>q) fun _ _ q=>q
  rintro rfl;rcases hc with rfl | hc
  · rw[hfree]at e;cases e
  · rw[hfree]at hc;cases hc
 rcases hx with hk | hk
 · refine wpAny_storeName_local hk hn (fun h' hn' hs=>?_) hcls;obtain⟨oL,_,_,hoL,_⟩:=id hn;refine h _ ⟨I.ok,I.os,I.bare,⟨fun b o e n hb hx=>?_,fun b o e n hb hx=>?_,I.base.free,fun b o e hx=>?_,I.base.tups,I.base.Bb,I.base.Lb⟩,⟨_,hn',fun j y v' e1 e2 e3=>?_⟩,fun y c e=>?_,I.free,I.Qc,fun p hp=>?_,tracked ⟨oL,hoL,I.free⟩ hs,by simpa using I.len⟩ ⟨_,hs,.inl rfl⟩
   · exact(hs.2 b (Nat.ne_of_lt (Nat.lt_of_lt_of_le (Heap.lt_size e) I.ok.above))).trans (I.base.keep b o e n hb hx)
   · obtain⟨sl,e1⟩:=I.base.slot b o e n hb hx;exact⟨sl,(hs.2 b (Nat.ne_of_lt (Nat.lt_of_lt_of_le (Heap.lt_size e) I.ok.above))).trans e1⟩
   · obtain⟨o',e1⟩:=I.base.there b o e hx;exact⟨o',(hs.2 b (Nat.ne_of_lt (Nat.lt_of_lt_of_le (Heap.lt_size e) I.ok.above))).trans e1⟩
   · by_cases hj:j=i
     · subst hj;rw[hi]at e1;cases e1;rw[getElem?_set_self hiσ]at e2;cases e2;exact⟨u,r,.inl ⟨hk,by simp⟩⟩
     · rw[getElem?_set_ne (Ne.symm hj)]at e2;obtain⟨u',r',q⟩:=hl j y v' e1 e2 e3;refine⟨u',r',?_⟩;rcases q with⟨k,e⟩ | ⟨k,c,e,z⟩
       · refine .inl ⟨k,?_⟩;have:y≠x:=fun e=>hj (dX hN e1 (e ▸ hi))
         simp[this,e]
       · exact .inr ⟨k,c,e,z.sameBut hs (cne y c e)⟩
   · obtain⟨w',z⟩:=I.cell y c e;exact⟨w',z.sameBut hs (cne y c e)⟩
   · obtain⟨e,n,ne,nf,d⟩:=I.pin p hp;exact⟨(hs.2 p.1 ne).trans e,n,ne,nf,d⟩
 · have hfn:X.fn x=true:=by
    rcases hf with z | z
    · exact z
    · rw[z]at hk;cases hk
   obtain⟨c,hc⟩:=I.ok.has x (.inl hk);obtain⟨w',z⟩:=I.cell x c hc;refine wpAny_storeName_cell I.ok.kind hk hc z (fun h' hc' hs=>?_);obtain⟨oc,hoc,zcn⟩:=id z;refine h { s with heap:=h' } ⟨I.ok,I.os,I.bare,⟨fun b o e n hb hx=>?_,fun b o e n hb hx=>?_,I.base.free,fun b o e hx=>?_,I.base.tups,I.base.Bb,I.base.Lb⟩,⟨m,hn.sameBut hs (Ne.symm (cne x c hc)),fun j y v' e1 e2 e3=>?_⟩,fun y c' e=>?_,I.free,I.Qc,fun p hp=>?_,tracked ⟨oc,hoc,I.Qc x c hc⟩ hs,by simpa using I.len⟩ ⟨c,hs,.inr hc⟩
   · exact(hs.2 b (Nat.ne_of_lt (Nat.lt_of_lt_of_le (Heap.lt_size e) (I.ok.cab x c hfn hc)))).trans (I.base.keep b o e n hb hx)
   · obtain⟨sl,e1⟩:=I.base.slot b o e n hb hx;exact⟨sl,(hs.2 b (Nat.ne_of_lt (Nat.lt_of_lt_of_le (Heap.lt_size e) (I.ok.cab x c hfn hc)))).trans e1⟩
   · obtain⟨o',e1⟩:=I.base.there b o e hx;exact⟨o',(hs.2 b (Nat.ne_of_lt (Nat.lt_of_lt_of_le (Heap.lt_size e) (I.ok.cab x c hfn hc)))).trans e1⟩
   · by_cases hj:j=i
     · subst hj;rw[hi]at e1;cases e1;rw[getElem?_set_self hiσ]at e2;cases e2;exact⟨u,r,.inr ⟨.inl hk,c,hc,hc'⟩⟩
     · rw[getElem?_set_ne (Ne.symm hj)]at e2;obtain⟨u',r',q⟩:=hl j y v' e1 e2 e3;refine⟨u',r',?_⟩;rcases q with q | ⟨k,c',e,z'⟩
       · exact .inl q
       · refine .inr ⟨k,c',e,z'.sameBut hs ?_⟩;rintro rfl;exact hj (dX hN e1 (I.ok.inj _ _ _ e hc ▸ hi))
   · by_cases hcc:c'=c
     · subst hcc;exact⟨_,hc'⟩
     · obtain⟨w2,z2⟩:=I.cell y c' e;exact⟨w2,z2.sameBut hs hcc⟩
   · obtain⟨e,n,ne,nf,d⟩:=I.pin p hp;refine⟨(hs.2 p.1 ?_).trans e,n,ne,nf,d⟩;intro q;rw[q,hoc]at e;have q':oc=p.2:=Option.some.inj e;exact d w' (by rw[<- q'];exact zcn)
theorem NW{M:Model}{A:Around}{E:Value->Shared->Prop}{i:Nat}{x:Str}{v:V}{u:Value}{Q:Unit->Shared->Prop}(I:Inv X pins σ H s)(hN:X.N.Nodup)(hi:X.N[i]?=some x)(hx:JO X.env.scope x)(r:RelV v u)
 (h:∀s',Inv X pins (σ.set i (some v)) H s'->Q () s') (hf:X.fn x=true\/X.env.scope.names.lookup x=some .local:=by first | exact .inl rfl | exact .inr rfl | assumption):wpAny M A (storeName X.env x u) Q E s:=
 MV I hN hi hx r (fun s' I' _=>h s' I') hf
theorem Inv.call'{s':Shared}{ch:List Addr}(I:Inv X pins σ H s)(ho:s'.os=s.os)(u:Un (NJ X.stack) ch H H' s.heap s'.heap)(hok:Yc X.prog X.w H' s'.heap)(hg:AllBare s'.gens)
 (hch:∀b∈ch,(b∈X.ex\/X.s₀.heap.objs.size<=b)/\b≠X.env.locals/\(∀x c,X.env.cells.lookup x=some c->c≠b)/\∀p∈X.pn++pins,p.1≠b):Inv X pins σ H' s':=by
 obtain⟨h',g',d',t',o'⟩:=s';have e:o'=s.os:=ho;subst e;exact I.call (g':=g') (t':=t') (d':=d') u hok hg hch
end
abbrev XK:=Value->Option Addr->Hp->Prop
noncomputable abbrev St:=List (Option V)
abbrev VK:=V->Hp->Prop
abbrev TE:=St->Hp->VK->Prop
abbrev TT:=St->Hp->(Bool->Hp->Prop)->Prop
abbrev TA:=St->Hp->(List V->Hp->Prop)->Prop
structure GH where
 nx:St->Hp->Prop
 rt:VK
 bk:St->Hp->Prop:=fun _ _=>False
 ct:St->Hp->Prop:=fun _ _=>False
abbrev TS:=GH->St->Hp->Prop
def EP(X:Cx)(pins:List (Addr×Obj))(σ:St)(Q:VK)(u:Value)(s':Shared):Prop:=∃v H',Inv X pins σ H' s'/\RelV v u/\Q v H'
noncomputable def TP(X:Cx)(pins:List (Addr×Obj))(σ:St)(Q:Bool->Hp->Prop)(b:Bool)(s':Shared):Prop:=∃H',Inv X pins σ H' s'/\Q b H'
def AP(X:Cx)(pins:List (Addr×Obj))(σ:St)(Q:List V->Hp->Prop)(us:List Value)(s':Shared):Prop:=∃vs H',Inv X pins σ H' s'/\Vals vs us/\Q vs H'
def SP(X:Cx)(pins:List (Addr×Obj))(D:GH)(f:Flow)(s':Shared):Prop:=
 match f with
 | .next=>∃σ' H',Inv X pins σ' H' s'/\D.nx σ' H'
 | .brk=>∃σ' H',Inv X pins σ' H' s'/\D.bk σ' H'
 | .cont=>∃σ' H',Inv X pins σ' H' s'/\D.ct σ' H'
 | .ret u=>∃v σ' H',Inv X pins σ' H' s'/\RelV v u/\D.rt v H'
def PE(X:Cx)(e:Expr)(t:TE):Prop:=
 ∀(pins:List (Addr×Obj))(s:Shared)(σ:St)(H:Hp)(Q:VK),Inv X pins σ H s->t σ H Q->wpAny (model X.prog X.w) X.A (eval e X.env) (EP X pins σ Q) X.xe s
def PT(X:Cx)(e:Expr)(t:TT):Prop:=
 ∀(pins:List (Addr×Obj))(s:Shared)(σ:St)(H:Hp)(Q:Bool->Hp->Prop),Inv X pins σ H s->t σ H Q->wpAny (model X.prog X.w) X.A (isTrue e X.env (eval e X.env)) (TP X pins σ Q) X.xe s
def PW(X:Cx)(e:Expr)(t:TT):Prop:=
 ∀(whole:Sem Value)(pins:List (Addr×Obj))(s:Shared)(σ:St)(H:Hp)(Q:Bool->Hp->Prop),Inv X pins σ H s->t σ H Q->wpAny (model X.prog X.w) X.A (isTrue e X.env whole) (TP X pins σ Q) X.xe s
theorem PW.pt{X:Cx}{e:Expr}{t:TT}(h:PW X e t):PT X e t:=h _
def PA(X:Cx)(es:List Expr)(t:TA):Prop:=
 ∀(pos:Pos)(pins:List (Addr×Obj))(s:Shared)(σ:St)(H:Hp)(Q:List V->Hp->Prop),Inv X pins σ H s->t σ H Q->wpAny (model X.prog X.w) X.A (spliced (backTo pos (starEach es X.env))) (AP X pins σ Q) X.xe s
def PS(X:Cx)(st:Stmt)(t:TS):Prop:=
 ∀(pins:List (Addr×Obj))(s:Shared)(σ:St)(H:Hp)(D:GH),Inv X pins σ H s->t D σ H->wpAny (model X.prog X.w) X.A (exec st X.env) (SP X pins D) X.xe s
def Qn(X:Cx)(st:List Stmt)(t:TS):Prop:=
 ∀(pins:List (Addr×Obj))(s:Shared)(σ:St)(H:Hp)(D:GH),Inv X pins σ H s->t D σ H->wpAny (model X.prog X.w) X.A (execs st X.env) (SP X pins D) X.xe s
theorem nB{α:Type}{t:Sem α}{Q Q':α->Shared->Prop}{M:Model}{A:Around}{E:Value->Shared->Prop}{s:Shared}(h:wpAny M A t Q E s)(hQ:∀a s,Q a s->Q' a s):wpAny M A t Q' E s:=wpAny_mono h hQ fun _ _ x=>x
section
variable{X:Cx}
theorem Pr{a b:Expr}{ta tb:TE}(ha:PE X a ta)(hb:PE X b tb){pins:List (Addr×Obj)}{s:Shared}{σ:St}{H:Hp}{R:V->V->Hp->Prop}(I:Inv X pins σ H s)(h:ta σ H fun x H1=>tb σ H1 fun y H2=>R x y H2)
 {α:Type} {Q:α->Shared->Prop} {f:Value->Value->Sem α}
 (hf:∀v u s2 x y H2,Inv X pins σ H2 s2->RelV x v->RelV y u->R x y H2->wpAny (model X.prog X.w) X.A (f v u) Q X.xe s2) :
 wpAny (model X.prog X.w) X.A (eval a X.env) (fun v s₁=>wpAny (model X.prog X.w) X.A (eval b X.env) (fun u s₂=>wpAny (model X.prog X.w) X.A (f v u) Q X.xe s₂) X.xe s₁) X.xe s:=by
 refine nB (ha pins s σ H _ I h) fun v s1 zz=>?_
 obtain⟨x,H1,I1,r1,q1⟩:=zz;refine nB (hb pins s1 σ H1 _ I1 q1) fun u s2 zz=>?_
 obtain⟨y,H2,I2,r2,q2⟩:=zz;exact hf v u s2 x y H2 I2 r1 r2 q2
noncomputable def P0(i:Nat):TE:=fun σ H Q=>∃v,σ[i]?=some (some v)/\Q v H
noncomputable def tC(v:V):TE:=fun _ H Q=>Q v H
theorem Ow {i:Nat} {x:Str} {pos:Pos} (hN:X.N[i]?=some x) (hv:yZ X.env.scope x) (hd:(x==("__debug__" :Str))=false:=by decide) (hcd:(x==("__classdict__" :Str))=false:=by decide):PE X (.Name x pos) (P0 i):=by
 intro pins s σ H Q I h;obtain⟨v,e,h⟩:=h;obtain⟨m,hn,hl⟩:=I.loc;obtain⟨u,r,l⟩:=hl i x v hN e hv;have fin:EP X pins σ Q u s:=⟨v,H,I,r,h⟩;rcases l with⟨hk,hm⟩ | ⟨hk,c,hc,hcell⟩
 · exact wpAny_Name (wpAny_loadName_local I.ok.kind hk hn hm fin) hd
 · rcases hk with hk | hk
   · exact wpAny_Name (wpAny_loadName_cell I.ok.kind hk hc hcell fin) hd
   · exact wpAny_Name (wpAny_loadName_free I.ok.kind hk hc hcell fin hcd) hd
theorem Iw{i j pos}:PE X (.Constant (.int i) j pos) (tC (.int i)):=fun _ _ _ H _ I h=>wpAny_Constant_int ⟨.int i,H,I.tok _,⟨_,rfl⟩,h⟩
theorem Ag{b j pos}:PE X (.Constant (.bool b) j pos) (tC (.bl b)):=fun _ _ _ H _ I h=>Constant_bool ⟨.bl b,H,I,rfl,h⟩
theorem Jw{j pos}:PE X (.Constant .none j pos) (tC .non):=fun _ _ _ H _ I h=>Constant_none ⟨.non,H,I,rfl,h⟩
theorem Mw{x j pos}:PE X (.Constant (.str x) j pos) (tC (.str x)):=fun _ _ _ H _ I h=>Calls.Constant_str ⟨.str x,H,I.tok _,⟨_,rfl⟩,h⟩
noncomputable def Gl(X:Cx)(x:Str):Prop:=X.env.kindOf x=some .globalImplicit
theorem AS{E:Value->Shared->Prop}{pins:List (Addr×Obj)}{s:Shared}{σ:St}{H:Hp}{x:Str}{u:Value}{pos:Pos}{Q:Value->Shared->Prop}(I:Inv X pins σ H s)(hg:Gl X x)(hm:X.mg x=some u)(h:Q u s)
 (hd:(x==("__debug__" :Str))=false:=by decide):wpAny (model X.prog X.w) X.A (eval (.Name x pos) X.env) Q E s:=
 Calls.Name_function_global I.ok.kind hg (Calls.loadGlobal_global (by rw[I.ok.glob];exact I.mod.glob.keeps I.bk) hm h) hd
theorem sH{E:Value->Shared->Prop}{pins:List (Addr×Obj)}{s:Shared}{σ:St}{H:Hp}{x:Str}{u:Value}{pos:Pos}{Q:Value->Shared->Prop}(I:Inv X pins σ H s)(hg:Gl X x)(hm:X.mg x=none)(hv:bootBuiltins x=some u)(h:Q u s)
 (hn:x ≠ "__name__" :=by decide) (hd:(x==("__debug__" :Str))=false:=by decide):wpAny (model X.prog X.w) X.A (eval (.Name x pos) X.env) Q E s:=by
 obtain⟨mb,h1,h2⟩:=I.mod.blt;exact Calls.Name_function_global I.ok.kind hg (Calls.loadGlobal_builtin (by rw[I.ok.glob];exact I.mod.glob.keeps I.bk) hm (by rw[I.ok.blt];exact h1.keeps I.bk) ((h2 x hn).trans hv) h) hd
theorem Xj {x:Str} {v:V} {u:Value} {pos:Pos} (hg:Gl X x) (hm:X.mg x=some u) (r:RelV v u) (hd:(x==("__debug__" :Str))=false:=by decide):PE X (.Name x pos) (tC v):=
 fun _ _ _ H _ I h=>AS I hg hm ⟨v,H,I,r,h⟩ hd
theorem Uj {x:Str} {v:V} {u:Value} {pos:Pos} (hg:Gl X x) (hm:X.mg x=none) (hv:bootBuiltins x=some u) (r:RelV v u) (hn:x ≠ "__name__" :=by decide) (hd:(x==("__debug__" :Str))=false:=by decide):PE X (.Name x pos) (tC v):=
 fun _ _ _ H _ I h=>sH I hg hm hv ⟨v,H,I,r,h⟩ hn hd
variable{a b:Expr}{ta tb:TE}{pos:Pos}
def PC(X:Cx)(op:CmpOp)(a b:Expr)(t:TE):Prop:=
 ∀(pins:List (Addr×Obj))(s:Shared)(σ:St)(H:Hp)(Q:VK),Inv X pins σ H s->t σ H Q->
  wpAny (model X.prog X.w) X.A (eval a X.env) (fun v s₁=>wpAny (model X.prog X.w) X.A (eval b X.env) (fun u s₂=>wpAny (model X.prog X.w) X.A (compareOp op v u) (EP X pins σ Q) X.xe s₂) X.xe s₁) X.xe s
theorem S8(b:Expr){op:CmpOp}(h:op≠.In)(h2:op≠.NotIn):behindInMarks op b=false:=by
 have e1:(op==CmpOp.In)=false:=by cases op<;>first | rfl | exact absurd rfl h
 have e2:(op==CmpOp.NotIn)=false:=by cases op<;>first | rfl | exact absurd rfl h2
 cases b<;>simp[behindInMarks,e1,e2]
noncomputable def tB(t:TE):TT:=fun σ H Q=>t σ H fun x H1=>∃c,x=.bl c/\Q c H1
theorem Ot{op:CmpOp}{t:TE}(h:PC X op a b t)(h1:behindInMarks op b=false:=by first | exact S8 _ (by decide) (by decide) | rfl):PT X (.Compare a [op] [b] pos) (tB t):=by intro pins s σ H Q I hw;refine wpAny_isTrue_Compare1 (nB (h pins s σ H _ I hw) fun v s1 h1=>nB h1 fun u s2 h2=>nB h2 fun c s3 zz=>?_) h1;obtain⟨x,H1,I1,r1,q1⟩:=zz;obtain⟨d,rfl,q⟩:=q1;cases r1;exact wpAny_truthy_bool ⟨H1,I1,q⟩
theorem Zw{e:Expr}{t:TE}(h:PE X e t)(he:∀whole,isTrue e X.env whole=(do let v <- whole;standAt e.pos;holding [v] (truthy v)):=by intro _;rfl):PT X e (tB t):=by intro pins s σ H Q I hw;refine isTrue_plain (nB (h pins s σ H _ I hw) fun v s1 zz=>?_) (he _);obtain⟨x,H1,I1,r1,q1⟩:=zz;obtain⟨d,rfl,q⟩:=q1;cases r1;exact wpAny_truthy_bool ⟨H1,I1,q⟩
variable{tA Rf:TT}{rest:List Expr}
noncomputable def C0(t u:TT):TT:=fun σ H Q=>t σ H fun c H1=>if c=true then u σ H1 Q else Q false H1
noncomputable def qt(t u:TT):TT:=fun σ H Q=>t σ H fun c H1=>if c=true then Q true H1 else u σ H1 Q
noncomputable def J0(t:TT):TT:=fun σ H Q=>t σ H fun c H1=>Q (!c) H1
theorem Nv(ha:PT X a tA):PW X (.BoolOp .And [a] pos) tA:=by
 intro wh pins s σ H Q I h;refine isTrue_and (nB (ha pins s σ H Q I h) fun c s1 e=>?_);cases c with
 | true=>exact isTrue_and_nil e
 | false=>exact e
theorem wk(ha:PT X a tA):PW X (.BoolOp .Or [a] pos) tA:=by
 intro wh pins s σ H Q I h;refine isTrue_or (nB (ha pins s σ H Q I h) fun c s1 e=>?_);cases c with
 | false=>exact isTrue_or_nil e
 | true=>exact e
theorem ak(ha:PT X a tA)(hb:PW X (.BoolOp .And (b::rest) pos) Rf):PW X (.BoolOp .And (a::b::rest) pos) (C0 tA Rf):=by
 intro wh pins s σ H Q I h;refine isTrue_and (nB (ha pins s σ H _ I h) fun c s1 zz=>?_);obtain⟨H1,I1,q1⟩:=zz;cases c with
 | true=>exact hb wh pins s1 σ H1 Q I1 q1
 | false=>exact⟨H1,I1,q1⟩
theorem sy(ha:PT X a tA)(hb:PW X (.BoolOp .Or (b::rest) pos) Rf):PW X (.BoolOp .Or (a::b::rest) pos) (qt tA Rf):=by
 intro wh pins s σ H Q I h;refine isTrue_or (nB (ha pins s σ H _ I h) fun c s1 zz=>?_);obtain⟨H1,I1,q1⟩:=zz;cases c with
 | true=>exact⟨H1,I1,q1⟩
 | false=>exact hb wh pins s1 σ H1 Q I1 q1
theorem Yw(ha:PT X a tA):PT X (.UnaryOp .Not a pos) (J0 tA):=by intro pins s σ H Q I h;exact isTrue_not (ha pins s σ H (fun c H1=>Q (!c) H1) I h)
noncomputable def V0(ta tb:TE):TE:=fun σ H Q=>ta σ H fun x H1=>∃c,x=.bl c/\if c=true then tb σ H1 Q else Q (.bl false) H1
noncomputable def C1(ta:TE):TE:=fun σ H Q=>ta σ H fun x H1=>∃c,x=.bl c/\Q (.bl (!c)) H1
theorem Lw{op}{t:TE}(h:PE X a t):PE X (.BoolOp op [a] pos) t:=fun pins s σ H Q I hw=>BoolOp_one (h pins s σ H Q I hw)
theorem Gw(ha:PE X a ta)(hb:PE X (.BoolOp .And (b::rest) pos) tb):PE X (.BoolOp .And (a::b::rest) pos) (V0 ta tb):=by
 intro pins s σ H Q I h;refine BoolOp_and (nB (ha pins s σ H _ I h) fun v s1 zz=>?_);obtain⟨x,H1,I1,r1,q1⟩:=zz;obtain⟨c,rfl,q1⟩:=q1;cases r1;refine wpAny_truthy_bool ?_;cases c with
 | true=>exact hb pins s1 σ H1 Q I1 q1
 | false=>exact⟨.bl false,H1,I1,rfl,q1⟩
theorem Kw(ha:PE X a ta):PE X (.UnaryOp .Not a pos) (C1 ta):=by intro pins s σ H Q I h;refine UnaryOp_ (nB (ha pins s σ H _ I h) fun v s1 zz=>?_);obtain⟨x,H1,I1,r1,q1⟩:=zz;obtain⟨c,rfl,q1⟩:=q1;cases r1;exact not_of (wpAny_truthy_bool ⟨.bl (!c),H1,I1,rfl,q1⟩)
noncomputable def Yh(t:TT)(ta tb:TE):TE:=fun σ H Q=>t σ H fun c H1=>if c=true then ta σ H1 Q else tb σ H1 Q
theorem X8{c:Expr}(hc:PT X c tA)(ha:PE X a ta)(hb:PE X b tb):PE X (.IfExp c a b pos) (Yh tA ta tb):=by
 intro pins s σ H Q I h;refine wpAny_IfExp (nB (hc pins s σ H _ I h) fun d s1 zz=>?_);obtain⟨H1,I1,q1⟩:=zz;cases d with
 | true=>exact ha pins s1 σ H1 Q I1 q1
 | false=>exact hb pins s1 σ H1 Q I1 q1
end
def Qd(K:Frag)(H:Hp)(a:Addr)(xs:List V):Prop:=
 Rd H a (.lst xs)\/
  ∃(o:Obj) (its:Array Value) (n:Nat),K.lookup a=some o/\o.cls=.type "list" /\ o.dict=none/\o.data=.seq its n/\its.size<=sizeLine/\Vals xs its.toList
def VG(K:Frag)(H:Hp)(a:Addr)(xs:List V):Prop:=
 Rd H a (.tup xs)\/
  ∃(o:Obj) (its:Array Value) (n:Nat),K.lookup a=some o/\o.cls=.type "tuple" /\ o.data=.seq its n/\its.size<=sizeLine/\Vals xs its.toList
noncomputable def LZ:Value->Option V
 | .none=>some .non
 | .bool b=>some (.bl b)
 | .int i _=>some (.int i)
 | .str x _=>some (.str x)
 | .bytes b _=>some (.Um b)
 | .float b _=>some (.flt b)
 | .ref a=>some (.ref a)
 | .type n=>some (.ty n)
 | _=>none
theorem RelV.abs{x:V}{u:Value}(r:RelV x u):LZ u=some x:=by
 cases x with
 | non=>cases r;rfl
 | bl _=>cases r;rfl
 | int _=>obtain⟨t,rfl⟩:=r;rfl
 | str _=>obtain⟨t,rfl⟩:=r;rfl
 | Um _=>obtain⟨t,rfl⟩:=r;rfl
 | flt _=>obtain⟨t,rfl⟩:=r;rfl
 | ref _=>cases r;rfl
 | ty _=>cases r;rfl
theorem RelV.inj{x y:V}{u:Value}(r:RelV x u)(q:RelV y u):x=y:=Option.some.inj (r.abs.symm.trans q.abs)
theorem Vals.inj:∀{xs ys:List V}{us:List Value},Vals xs us->Vals ys us->xs=ys
 | _,_,_,.nil,.nil=>rfl
 | _,_,_,.cons r t,.cons r' t'=>by rw[r.inj r',Vals.inj t t']
section
variable{X:Cx}{pins:List (Addr×Obj)}{σ:St}{H:Hp}{s:Shared}{a:Addr}{xs ys:List V}
theorem Qd.of{K:Frag}(h:H a=some (.lst xs)):Qd K H a xs:=.inl (.inl h)
theorem Inv.list(I:Inv X pins σ H s)(h:Qd X.K H a xs):∃its:List Value,Vals xs its/\PlainL s.heap a its.toArray/\xs.length<=sizeLine:=by
 rcases h with h | ⟨o,its,n,hk,hc,hd,hs,hz,r⟩
 · obtain⟨z,its,n,r,e⟩:=h.ok I.hok;exact⟨its,r,⟨_,n,e,rfl,rfl,rfl⟩,z⟩
 · refine⟨its.toList,r,⟨o,n,I.Tn a o hk,hc,hd,by simpa using hs⟩,?_⟩;have e:=r.length;simp only[Array.length_toList]at e;omega
theorem Inv.tuple(I:Inv X pins σ H s)(h:VG X.K H a xs):∃its:List Value,Vals xs its/\IsTup s.heap a its.toArray/\xs.length<=sizeLine:=by
 rcases h with h | ⟨o,its,n,hk,hc,hs,hz,r⟩
 · obtain⟨z,its,r,p⟩:=h.ok I.hok;exact⟨its,r,p,z⟩
 · refine⟨its.toList,r,⟨o,I.Tn a o hk,hc,n,by simpa using hs⟩,?_⟩;have e:=r.length;simp only[Array.length_toList]at e;omega
theorem Inv.Rb(I:Inv X pins σ H s)(h:Qd X.K H a xs)(h':Qd X.K H a ys):xs=ys:=by
 obtain⟨its,r,⟨o,n,e,_,_,d⟩,_⟩:=I.list h;obtain⟨its',r',⟨o',n',e',_,_,d'⟩,_⟩:=I.list h';rw[e]at e';cases e';rw[d]at d';injection d' with d1 _
 have:its=its':=by simpa using congrArg Array.toList d1
 subst this;exact r.inj r'
theorem Inv.Dn(I:Inv X pins σ H s)(h:VG X.K H a xs)(h':VG X.K H a ys):xs=ys:=by
 obtain⟨its,r,⟨o,e,_,n,d⟩,_⟩:=I.tuple h;obtain⟨its',r',⟨o',e',_,n',d'⟩,_⟩:=I.tuple h';rw[e]at e';cases e';rw[d]at d';injection d' with d1 _
 have:its=its':=by simpa using congrArg Array.toList d1
 subst this;exact r.inj r'
end
noncomputable abbrev Cx.wish(X:Cx)(E:Value->Shared->Prop):Cx:={ X with xe:=E }
abbrev Cx.Al(X:Cx):Cx:=X.wish fun _ _=>False
theorem Cx.Ok.wish{X:Cx}(ok:X.Ok)(E:Value->Shared->Prop):(X.wish E).Ok:=
 ⟨ok.mod,ok.kind,ok.glob,ok.blt,ok.above,ok.inj,ok.has,ok.cab,ok.hd,ok.frames,ok.stk,ok.exf,ok.bs,ok.Yp,ok.Ul,ok.Il,ok.Jb,ok.frf⟩
theorem Cx.Ok.Dc{X:Cx}{E:Value->Shared->Prop}(ok:(X.wish E).Ok):X.Ok:=
 ⟨ok.mod,ok.kind,ok.glob,ok.blt,ok.above,ok.inj,ok.has,ok.cab,ok.hd,ok.frames,ok.stk,ok.exf,ok.bs,ok.Yp,ok.Ul,ok.Il,ok.Jb,ok.frf⟩
section
variable{X:Cx}{pins:List (Addr×Obj)}{σ:St}{H:Hp}{s:Shared}{E:Value->Shared->Prop}
theorem Inv.wish(I:Inv X pins σ H s)(E:Value->Shared->Prop):Inv (X.wish E) pins σ H s:=⟨I.ok.wish E,I.os,I.bare,I.base,I.loc,I.cell,I.free,I.Qc,I.pin,I.hok,I.len⟩
theorem Inv.Dc(I:Inv (X.wish E) pins σ H s):Inv X pins σ H s:=⟨I.ok.Dc,I.os,I.bare,I.base,I.loc,I.cell,I.free,I.Qc,I.pin,I.hok,I.len⟩
theorem SP.Dc{D:GH}{f:Flow}{s':Shared}(h:SP (X.wish E) pins D f s'):SP X pins D f s':=by
 cases f with
 | next=>obtain⟨σ',H',I,q⟩:=h;exact⟨σ',H',I.Dc,q⟩
 | brk=>obtain⟨σ',H',I,q⟩:=h;exact⟨σ',H',I.Dc,q⟩
 | cont=>obtain⟨σ',H',I,q⟩:=h;exact⟨σ',H',I.Dc,q⟩
 | ret u=>obtain⟨v,σ',H',I,r,q⟩:=h;exact⟨v,σ',H',I.Dc,r,q⟩
theorem Qn.Al{st:List Stmt}{t:TS}(h:Qn X.Al st t):Qn X st t:=fun pins s σ H D I hw=>wpAny_mono (h pins s σ H D (I.wish _) hw) (fun _ _ q=>q.Dc) fun _ _ z=>False.elim z
end
section
variable{X:Cx}{st:Stmt}{rest:List Stmt}{t u:TS}{e:Expr}{te:TE}{pos:Pos}
noncomputable def B1:TS:=fun D σ H=>D.nx σ H
noncomputable def L0(t u:TS):TS:=fun D σ H=>t { D with nx:=u D } σ H
theorem Iv:Qn X [] B1:=fun _ _ σ H _ I h=>wpAny_execs_nil ⟨σ,H,I,h⟩
theorem wj(h1:PS X st t)(h2:Qn X rest u):Qn X (st::rest) (L0 t u):=by
 intro pins s σ H D I h;refine wpAny_execs_cons (nB (h1 pins s σ H { D with nx:=u D } I h) fun f s1 q=>?_);cases f with
 | next=>obtain⟨σ',H',I',q⟩:=q;exact h2 pins s1 σ' H' D I' q
 | ret v=>exact q
 | brk=>exact q
 | cont=>exact q
theorem Jv(h1:PS X st t):Qn X [st] t:=by
 intro pins s σ H D I h;refine wpAny_execs_cons (nB (h1 pins s σ H D I h) fun f s1 q=>?_);cases f with
 | next=>exact wpAny_execs_nil q
 | ret v=>exact q
 | brk=>exact q
 | cont=>exact q
theorem Inv.quiet{pins:List (Addr×Obj)}{σ:St}{H:Hp}{s:Shared}(I:Inv X pins σ H s):interactive X.env=false:=by simp[interactive,I.ok.kind]
noncomputable def X0(te:TE):TS:=fun D σ H=>te σ H fun _ H1=>D.nx σ H1
theorem Hv(he:PE X e te)(hs:swapsWith e none pos.line X.env=pure false:=by rfl):PS X (.Expr e pos) (X0 te):=by intro pins s σ H D I h;exact wpAny_Expr_any (nB (he pins s σ H _ I h) fun v s1 ⟨x,H1,I1,r1,q1⟩=>⟨σ,H1,I1,q1⟩) I.quiet hs
noncomputable def K0(te:TE):TS:=fun D σ H=>te σ H D.rt
theorem Ww(he:PE X e te):PS X (.Return (some e) pos) (K0 te):=by intro pins s σ H D I h;exact wpAny_Return_some (nB (he pins s σ H _ I h) fun v s1 ⟨x,H1,I1,r1,q1⟩=>⟨x,σ,H1,I1,r1,q1⟩)
noncomputable def I0(c:TT)(t u:TS):TS:=fun D σ H=>c σ H fun b H1=>if b=true then t D σ H1 else u D σ H1
theorem Cg{c:Expr}{a b:List Stmt}{tc:TT}(hc:PT X c tc)(ha:Qn X a t)(hb:Qn X b u):PS X (.If c a b pos) (I0 tc t u):=by
 intro pins s σ H D I h;refine wpAny_If (nB (hc pins s σ H _ I h) fun d s1 zz=>?_);obtain⟨H1,I1,q1⟩:=zz;cases d with
 | true=>exact ha pins s1 σ H1 D I1 q1
 | false=>exact hb pins s1 σ H1 D I1 q1
end
abbrev TG:=V->St->Hp->(St->Hp->Prop)->Prop
abbrev WO:=List V->St->Hp->(St->Hp->Prop)->Prop
def PG(X:Cx)(target:Expr)(t:TG):Prop:=
 ∀(pins:List (Addr×Obj))(s:Shared)(σ:St)(H:Hp)(v:V)(u:Value)(Q:St->Hp->Prop),Inv X pins σ H s->RelV v u->t v σ H Q->
  wpAny (model X.prog X.w) X.A (assign target X.env u) (fun _ s'=>∃σ' H',Inv X pins σ' H' s'/\Q σ' H') X.xe s
def vZ(X:Cx)(ts:List Expr)(t:WO):Prop:=
 ∀(pins:List (Addr×Obj))(s:Shared)(σ:St)(H:Hp)(vs:List V)(us:List Value)(Q:St->Hp->Prop),Inv X pins σ H s->Vals vs us->t vs σ H Q->
  wpAny (model X.prog X.w) X.A (assignInOrder ((assignEach ts X.env).map (·.2)) us) (fun _ s'=>∃σ' H',Inv X pins σ' H' s'/\Q σ' H') X.xe s
abbrev XO:=V->V->V->Hp->(Hp->Prop)->Prop
def iU(X:Cx)(t:XO):Prop:=
 ∀(pins:List (Addr×Obj))(s:Shared)(σ:St)(H:Hp)(o i v:V)(ov iv u:Value)(Q:Hp->Prop),Inv X pins σ H s->RelV o ov->RelV i iv->RelV v u->t o i v H Q->
  wpAny (model X.prog X.w) X.A (setItem ov iv u) (fun _ s'=>∃H',Inv X pins σ H' s'/\Q H') X.xe s
section
variable{X:Cx}{pos:Pos}
noncomputable def tO(i:Nat):TG:=fun v σ H Q=>Q (σ.set i (some v)) H
theorem IS{i:Nat}{x:Str}(hN:X.N.Nodup)(hi:X.N[i]?=some x)(hx:JO X.env.scope x)(hf:X.fn x=true\/X.env.scope.names.lookup x=some .local:=by first | exact .inl rfl | exact .inr rfl | assumption):PG X (.Name x pos) (tO i):=by intro pins s σ H v u Q I r h;exact wpAny_assign_Name (NW I hN hi hx r (fun s' I'=>⟨_,H,I',h⟩) hf)
noncomputable def OZ:WO:=fun vs σ H Q=>vs=[]/\Q σ H
noncomputable def Ny(t:TG)(u:WO):WO:=fun vs σ H Q=>∃v r,vs=v::r/\t v σ H fun σ' H'=>u r σ' H' Q
theorem Zz:vZ X [] OZ:=by intro pins s σ H vs us Q I r h;obtain⟨e,h⟩:=h;subst e;cases r;exact assignInOrder_nil ⟨σ,H,I,h⟩
theorem FW{e:Expr}{es:List Expr}{t:TG}{u:WO}(h1:PG X e t)(h2:vZ X es u)
 (hs:(assignEach (e::es) X.env).map (·.2)=assign e X.env::(assignEach es X.env).map (·.2):=by rfl):vZ X (e::es) (Ny t u):=by
 intro pins s σ H vs us Q I r h;obtain⟨v,vr,e1,h⟩:=h;subst e1;cases r with
 | cons r rr=>rw[hs];refine assignInOrder_cons (nB (h1 pins s σ H _ _ _ I r h) fun _ s1 zz=>?_);obtain⟨σ1,H1,I1,q1⟩:=zz;exact h2 pins s1 σ1 H1 _ _ Q I1 rr q1
def QZ(K:Frag)(n:Nat)(t:WO):TG:=fun v σ H Q=>∃a xs,v=.ref a/\VG K H a xs/\xs.length=n/\t xs σ H Q
theorem Rw{es:List Expr}{k:Nat}{t:WO}{n:Nat}(hc:X.calm=true)(h:vZ X es t)
 (hn:(assignEach es X.env).length=n:=by rfl) (hst:(assignEach es X.env).findIdx? (·.1)=none:=by rfl):PG X (.Tuple es k pos) (QZ X.K n t):=by
 intro pins s σ H v u Q I r hw;obtain⟨a,xs,e1,hq,hl,hw⟩:=hw;subst e1;cases r;obtain⟨its,rv,ht,hz⟩:=I.tuple hq;refine assign_Tuple_tuple (I.ok.hd hc) ht (by simp[hn,<- hl,rv.length]) hst fun h' hx=>?_
 have I1:Inv X pins σ H { s with heap:=h' }:=I.kept (t':=s.toks) fun b o e=>hx b o (Nat.ne_of_lt (Heap.lt_size e)) e
 exact h pins _ σ H xs _ Q I1 (by simpa using rv) hw
noncomputable def PZ(to ti:TE)(t:XO):TG:=fun v σ H Q=>to σ H fun o H1=>ti σ H1 fun i H2=>t o i v H2 fun H3=>Q σ H3
theorem Qw{o i:Expr}{to ti:TE}{t:XO}(ho:PE X o to)(hi:PE X i ti)(hs:iU X t)
 (ha:∀v,assign (.Subscript o i pos) X.env v=(do
  let ov <- holding [v] (eval o X.env)
  let iv <- holding [v,ov] (eval i X.env)
  standAt pos
  holding [v,ov,iv] (setItem ov iv v)
  release [v,ov,iv] []):=by intro _;rfl):PG X (.Subscript o i pos) (PZ to ti t):=by
 intro pins s σ H v u Q I r h;rw[ha];refine wpAny_bind (wpAny_holding (nB (ho pins s σ H _ I h) fun ov s1 zz=>?_));obtain⟨x,H1,I1,r1,q1⟩:=zz;refine wpAny_bind (wpAny_holding (nB (hi pins s1 σ H1 _ I1 q1) fun iv s2 zz=>?_));obtain⟨y,H2,I2,r2,q2⟩:=zz;refine wpAny_bind (wpAny_standAt (wpAny_bind (wpAny_holding (nB (hs pins s2 σ H2 x y v ov iv u _ I2 r1 r2 r q2) fun _ s3 zz=>?_))));obtain⟨H3,I3,q3⟩:=zz;exact wpAny_release ⟨σ,H3,I3,q3⟩
noncomputable def pP(te:TE)(g:TG):TS:=fun D σ H=>te σ H fun x H1=>g x σ H1 D.nx
theorem Tw{tg e:Expr}{te:TE}{g:TG}(he:PE X e te)(hg:PG X tg g)(hs:swapsWithSole [tg] e pos.line X.env=pure false:=by rfl)(hw:swappedStores [tg] e X.env=pure none:=by rfl)
 (h1:(assignEach [tg] X.env).map (·.2)=[assign tg X.env]:=by rfl):PS X (.Assign [tg] e pos) (pP te g):=by
 intro pins s σ H D I h;refine wpAny_Assign_stores (nB (he pins s σ H _ I h) fun v s1 zz=>?_) hs hw;obtain⟨x,H1,I1,r1,q1⟩:=zz;rw[h1];exact nB (hg pins s1 σ H1 x v _ I1 r1 q1) fun _ s2 q=>q
theorem Xw{i:Nat}{x:Str}{e:Expr}{te:TE}{pos':Pos}(hN:X.N.Nodup)(hi:X.N[i]?=some x)(hx:JO X.env.scope x)(he:PE X e te)(hs:swapsWith e (some (.Name x pos')) pos.line X.env=pure false:=by rfl)(hf:X.fn x=true\/X.env.scope.names.lookup x=some .local:=by first | exact .inl rfl | exact .inr rfl | assumption) :
 PS X (.Assign [.Name x pos'] e pos) (pP te (tO i)):=by
 intro pins s σ H D I h;refine wpAny_Assign_Name (nB (he pins s σ H _ I h) fun v s1 zz=>?_) hs;obtain⟨y,H1,I1,r1,q1⟩:=zz;exact NW I1 hN hi hx r1 (fun s2 I2=>⟨_,H1,I2,q1⟩) hf
def Gg(c:TT)(tb:TS):TS:=fun D σ H=>∃W:Nat->St->Hp->Prop,(∃m,W m σ H)/\∀m σ H,W m σ H->
 c σ H fun b H1=>if b=true then ∃N:St->Hp->Prop,(∀σ' H',N σ' H'->∃m',m'<m/\W m' σ' H')/\tb { D with nx:=N,ct:=N,bk:=D.nx } σ H1 else D.nx σ H1
theorem qj{c:Expr}{body:List Stmt}{tc:TT}{tb:TS}(hp:PassesOwn (model X.prog X.w) X.A X.env X.xe)(hc:PT X c tc)(hb:Qn X body tb):PS X (.While c body [] pos) (Gg tc tb):=by
 intro pins s σ H D I h;obtain⟨W,⟨m0,w0⟩,turn⟩:=h;refine wpAny_While (codeAny_whileLoop (fun n s'=>∃σ' H',Inv X pins σ' H' s'/\W n σ' H') ?_ m0 ⟨σ,H,I,w0⟩);rintro n s1 ⟨σ1,H1,I1,w1⟩;refine wpAny_passesOwn hp (nB (hc pins s1 σ1 H1 _ I1 (turn n σ1 H1 w1)) fun b s2 zz=>?_);obtain⟨H2,I2,q2⟩:=zz;cases b with
 | true=>
  obtain⟨N,hN,q2⟩:=q2;rw[if_pos rfl];refine wpAny_passesOwn hp (nB (hb pins s2 σ1 H2 _ I2 q2) fun f s3 q3=>?_);cases f with
  | next=>obtain⟨σ3,H3,I3,n3⟩:=q3;obtain⟨m',hm,w3⟩:=hN σ3 H3 n3;exact⟨m',hm,σ3,H3,I3,w3⟩
  | cont=>obtain⟨σ3,H3,I3,n3⟩:=q3;obtain⟨m',hm,w3⟩:=hN σ3 H3 n3;exact⟨m',hm,σ3,H3,I3,w3⟩
  | brk=>exact q3
  | ret v=>exact q3
 | false=>rw[if_neg zef];exact wpAny_execs_nil ⟨σ1,H2,I2,q2⟩
end
structure It where
 go:Nat->Hp->Prop
 yld:Nat->Hp->V->Hp->Prop
 stop:Nat->Hp->Prop
def SE(X:Cx)(pins:List (Addr×Obj))(H:Hp)(b:Addr):Prop:=
 H b=none/\b≠X.env.locals/\b∉X.fs/\(b∈X.ex\/X.s₀.heap.objs.size<=b)/\(∀x c,X.env.cells.lookup x=some c->c≠b)/\∀p∈X.pn++pins,p.1≠b
theorem Inv.Bm{X:Cx}{pins:List (Addr×Obj)}{σ:St}{H H':Hp}{s:Shared}{b:Addr}(I:Inv X pins σ H s)(hb:s.heap.objs.size<=b)(hn:H' b=none):SE X pins H' b:=by
 refine⟨hn,Nat.ne_of_gt (Nat.lt_of_lt_of_le I.lt hb),I.zcu hb,.inr (Nat.le_trans I.sz hb),fun x c e z=>?_,fun p hp z=>?_⟩
 · obtain⟨v,q⟩:=I.cell x c e;exact absurd (Nat.lt_of_lt_of_le q.lt (by rw[z];exact hb)) (Nat.lt_irrefl _)
 · exact absurd (Nat.lt_of_lt_of_le (Heap.lt_size (I.pin p hp).1) (by rw[z];exact hb)) (Nat.lt_irrefl _)
structure WG(P:Program)(w:World)(K:Frag)(tg:Expr)(J:It)(fp:List Addr)(it:Addr)(tn:Nat->Heap->Prop):Prop where
 mem:it∈fp
 obj:∀i h,tn i h->∀b∈fp,∃o,h.get? b=some o/\∀v,o.data≠.cell v
 keep:∀i h h',tn i h->(∀b∈fp,∀o,h.get? b=some o->h'.get? b=some o)->tn i h'
 item:∀(X:Cx),X.prog=P->X.w=w->X.K=K->X.calm=true->∀(i:Nat)(pins:List (Addr×Obj))(s:Shared)(σ:St)(H:Hp)(E:Value->Shared->Prop),Inv X pins σ H s->(∀b∈fp,SE X pins H b)->tn i s.heap->J.go i H->
  wpAny (model P w) X.A (pyNext (.ref it)) (fun r s1=>∃u,r=some u/\
   wpAny (model P w) X.A (letOwnedTupleGo tg (.ref it) u) (fun _ s2=>∃x H',Inv X pins σ H' s2/\RelV x u/\J.yld i H x H'/\tn (i+1) s2.heap/\∀b∈fp,H' b=none) E s1) E s
 done:∀(X:Cx),X.prog=P->X.w=w->X.K=K->X.calm=true->∀(i:Nat)(pins:List (Addr×Obj))(s:Shared)(σ:St)(H:Hp)(E:Value->Shared->Prop),Inv X pins σ H s->(∀b∈fp,SE X pins H b)->tn i s.heap->J.stop i H->
  wpAny (model P w) X.A (pyNext (.ref it)) (fun r s1=>r=none/\Inv X pins σ H s1) E s
 self:∀(A:Around)(i:Nat)(s:Shared)(Q:Value->Shared->Prop)(E:Value->Shared->Prop),tn i s.heap->Q (.ref it) s->wpAny (model P w) A (pyIter (.ref it)) Q E s
abbrev TI:=St->Hp->(It->Hp->Prop)->Prop
def KZ(X:Cx)(pins:List (Addr×Obj))(σ:St)(tg:Expr)(R:It->Hp->Prop)(itv:Value)(s2:Shared):Prop:=
 ∃(it:Addr)(fp:List Addr)(tn:Nat->Heap->Prop)(J:It)(H':Hp),itv=.ref it/\Inv X pins σ H' s2/\WG X.prog X.w X.K tg J fp it tn/\tn 0 s2.heap/\(∀b∈fp,SE X pins H' b)/\R J H'
def PI(X:Cx)(tg iter:Expr)(wi:TI):Prop:=
 ∀(pins:List (Addr×Obj))(s:Shared)(σ:St)(H:Hp)(R:It->Hp->Prop),Inv X pins σ H s->wi σ H R->
  wpAny (model X.prog X.w) X.A (eval iter X.env) (fun v s1=>wpAny (model X.prog X.w) X.A (pyIter v) (KZ X pins σ tg R) X.xe s1) X.xe s
theorem uO{M:Model}{A:Around}{E:Value->Shared->Prop}{s:Shared}{tg:Expr}{it:Addr}{u:Value}{o:Obj}{n:String}{vs:Array Value}{Q:Unit->Shared->Prop}(ho:s.heap.get? it=some o)(hc:o.cls=.type n)(hd:o.data=.fields vs)
 (hn:["enumerate", "zip", "dict_itemiterator", "dict_reverseitemiterator", "odict_iterator", "itertools.zip_longest", "itertools.pairwise"].contains n=false) (hQ:Q () s):wpAny M A (letOwnedTupleGo tg (.ref it) u) Q E s:=by
 unfold letOwnedTupleGo;cases tg<;>first
  | exact wpAny_pure hQ
  | (cases u<;>first
   | exact wpAny_pure hQ
   | (refine wpAny_bind (wpAny_load ho ?_);rw[hc,hd];show wpAny M A (if(["enumerate", "zip", "dict_itemiterator", "dict_reverseitemiterator", "odict_iterator", "itertools.zip_longest", "itertools.pairwise"].contains n&&vs[0]?==some (rawInt _))=true then _ else _) Q E s;rw[if_neg (by intro h;rw[hn,Bool.false_and]at h;cases h)];exact wpAny_pure hQ))
def bh(K:Frag)(a:Addr):It:=
 ⟨fun i H=>∃xs x,Qd K H a xs/\xs[i]?=some x,fun i H x H'=>H'=H/\∀xs,Qd K H a xs->xs[i]?=some x,fun i H=>∃xs,Qd K H a xs/\xs.length<=i⟩
def kh(K:Frag)(a:Addr):It:=
 ⟨fun i H=>∃xs x,VG K H a xs/\xs[i]?=some x,fun i H x H'=>H'=H/\∀xs,VG K H a xs->xs[i]?=some x,fun i H=>∃xs,VG K H a xs/\xs.length<=i⟩
noncomputable def tZ(lo:Int)(n:Nat):It:=⟨fun i _=>i<n,fun i H x H'=>H'=H/\x=.int (lo+i),fun i _=>n<=i⟩
theorem S7{P:Program}{w:World}{K:Frag}{tg:Expr}(a it:Addr):WG P w K tg (bh K a) [it] it (fun i h=>h.IsListIter it a i) where
 mem:=by simp
 obj:=fun i h st b hb=>by
  have e:b=it:=by simpa using hb
  subst e;obtain⟨o,e,c,d⟩:=st;exact⟨o,e,fun v z=>by rw[d]at z;cases z⟩
 keep:=fun i h h' st k=>st.at fun o e=>k it (by simp) o e
 item:=by
  intro X hP hw hK hc i pins s σ H E I hf st hg;subst hP hw hK;obtain⟨xs,x,hq,hx⟩:=hg;obtain⟨its,rv,p,hz⟩:=I.list hq;obtain⟨u,hu,ru⟩:=rv.get hx;obtain⟨f0,f1,f2,f3,f4,f5⟩:=hf it (by simp);refine wpAny_pyNext_list_item st p.isList (x:=u) (by simpa using hu) fun h' st' sb=>?_
  have I1:Inv X pins σ H { s with heap:=h' }:=I.turned (t':=s.toks) (fun b o hb e=>(sb.2 b hb).trans e) f0 f1 f3 f4 f5;obtain⟨o,e,c,d⟩:=id st';exact⟨u,rfl,uO (s:={ s with heap:=h' }) e c d (by decide) ⟨x,H,I1,ru,⟨rfl,fun ys hy=>by rw[I.Rb hy hq];exact hx⟩,st',fun b hb=>(hf b hb).1⟩⟩
 done:=by intro X hP hw hK hc i pins s σ H E I hf st hg;subst hP hw hK;obtain⟨xs,hq,hx⟩:=hg;obtain⟨its,rv,p,hz⟩:=I.list hq;obtain⟨f0,f1,f2,f3,f4,f5⟩:=hf it (by simp);have hl:=rv.length;exact wpAny_pyNext_list_end (I.ok.hd hc) st p.isList (by simp;omega) fun h' eb=>⟨rfl,I.turned (t':=s.toks) (fun b o hb e=>eb b o hb e) f0 f1 f3 f4 f5⟩
 self:=fun _ _ _ _ _ st h=>wpAny_pyIter_listiter st h
theorem z7{P:Program}{w:World}{K:Frag}{tg:Expr}(a it:Addr):WG P w K tg (kh K a) [it] it (fun i h=>h.IsTupleIter it a i) where
 mem:=by simp
 obj:=fun i h st b hb=>by
  have e:b=it:=by simpa using hb
  subst e;obtain⟨o,e,c,d⟩:=st;exact⟨o,e,fun v z=>by rw[d]at z;cases z⟩
 keep:=fun i h h' st k=>st.at fun o e=>k it (by simp) o e
 item:=by
  intro X hP hw hK hc i pins s σ H E I hf st hg;subst hP hw hK;obtain⟨xs,x,hq,hx⟩:=hg;obtain⟨its,rv,p,hz⟩:=I.tuple hq;obtain⟨u,hu,ru⟩:=rv.get hx;obtain⟨f0,f1,f2,f3,f4,f5⟩:=hf it (by simp);refine wpAny_pyNext_tuple_item st (show s.heap.IsTuple a its.toArray from p) (x:=u) (by simpa using hu) fun h' st' sb=>?_
  have I1:Inv X pins σ H { s with heap:=h' }:=I.turned (t':=s.toks) (fun b o hb e=>(sb.2 b hb).trans e) f0 f1 f3 f4 f5;obtain⟨o,e,c,d⟩:=id st';exact⟨u,rfl,uO (s:={ s with heap:=h' }) e c d (by decide) ⟨x,H,I1,ru,⟨rfl,fun ys hy=>by rw[I.Dn hy hq];exact hx⟩,st',fun b hb=>(hf b hb).1⟩⟩
 done:=by intro X hP hw hK hc i pins s σ H E I hf st hg;subst hP hw hK;obtain⟨xs,hq,hx⟩:=hg;obtain⟨its,rv,p,hz⟩:=I.tuple hq;obtain⟨f0,f1,f2,f3,f4,f5⟩:=hf it (by simp);have hl:=rv.length;exact wpAny_pyNext_tuple_end (I.ok.hd hc) st (show s.heap.IsTuple a its.toArray from p) (by simp;omega) fun h' eb=>⟨rfl,I.turned (t':=s.toks) (fun b o hb e=>eb b o hb e) f0 f1 f3 f4 f5⟩
 self:=fun _ _ _ _ _ st h=>wpAny_pyIter_tupleiter st h
theorem v7{P:Program}{w:World}{K:Frag}{tg:Expr}(it:Addr)(lo:Int)(n:Nat):WG P w K tg (tZ lo n) [it] it (fun i h=>IsRangeIter h it (lo+(i:Nat)*1) ((n:Int)-(i:Nat)) 1) where
 mem:=by simp
 obj:=fun i h st b hb=>by
  have e:b=it:=by simpa using hb
  subst e;exact⟨_,st,fun v z=>by
   have z':Data.fields _=Data.cell v:=z;cases z'⟩
 keep:=fun i h h' st k=>k it (by simp) _ st
 item:=by
  intro X hP hw hK hc i pins s σ H E I hf st hg;subst hP hw hK;obtain⟨f0,f1,f2,f3,f4,f5⟩:=hf it (by simp);have W:=Walks.range (prog:=X.prog) (w:=X.w) (I.ok.hd hc) it lo 1 n;refine W.item i s _ _ hg st fun v h' tk hv st' kk=>?_
  obtain⟨t,rfl⟩:=hv;have I1:Inv X pins σ H { s with heap:=h',toks:=tk }:=I.turned (fun b o hb e=>kk b o (by simpa using hb) e) f0 f1 f3 f4 f5;refine⟨_,rfl,uO (s:={ s with heap:=h',toks:=tk }) (n := "range_iterator") st' rfl rfl (by decide) ⟨.int (lo+i),H,I1,⟨t,?_⟩,⟨rfl,rfl⟩,st',fun b hb=>(hf b hb).1⟩⟩;rw[Int.mul_one]
 done:=by intro X hP hw hK hc i pins s σ H E I hf st hg;subst hP hw hK;obtain⟨f0,f1,f2,f3,f4,f5⟩:=hf it (by simp);exact wpAny_pyNext_range_end (I.ok.hd hc) st (by have:n<=i:=hg;omega) fun h' eb=>⟨rfl,I.turned (t':=s.toks) (fun b o hb e=>eb b o hb e) f0 f1 f3 f4 f5⟩
 self:=fun _ _ _ _ _ st h=>wpAny_pyIter_rangeiter st h
section
variable{X:Cx}{tg:Expr}
def Py(K:Frag)(tl:TE):TI:=fun σ H R=>tl σ H fun x H1=>∃a,x=.ref a/\(∃xs,Qd K H1 a xs)/\R (bh K a) H1
def TZ(K:Frag)(tl:TE):TI:=fun σ H R=>tl σ H fun x H1=>∃a,x=.ref a/\(∃xs,VG K H1 a xs)/\R (kh K a) H1
theorem Bv{l:Expr}{tl:TE}(hl:PE X l tl):PI X tg l (Py X.K tl):=by
 intro pins s σ H R I h;refine nB (hl pins s σ H _ I h) fun v s1 zz=>?_
 obtain⟨x,H1,I1,r1,q1⟩:=zz;obtain⟨a,e,⟨xs,hq⟩,q⟩:=q1;subst e;cases r1;obtain⟨its,rv,p,hz⟩:=I1.list hq;refine wpAny_pyIter_list p.isList ?_;refine⟨s1.heap.objs.size,[s1.heap.objs.size],_,_,H1,rfl,I1.kept (t':=s1.toks) fun b o e=>Heap.get?_push_of_some _ e,S7 a _,⟨_,Heap.get?_push_size _ rfl,rfl,rfl⟩,fun b hb=>?_,q⟩;have e:b=s1.heap.objs.size:=by simpa using hb
 subst e;exact I1.Bm (zeg _) (I1.hok.fresh (zeg _))
theorem Sw{l:Expr}{tl:TE}(hl:PE X l tl):PI X tg l (TZ X.K tl):=by
 intro pins s σ H R I h;refine nB (hl pins s σ H _ I h) fun v s1 zz=>?_
 obtain⟨x,H1,I1,r1,q1⟩:=zz;obtain⟨a,e,⟨xs,hq⟩,q⟩:=q1;subst e;cases r1;obtain⟨its,rv,p,hz⟩:=I1.tuple hq;refine wpAny_pyIter_tuple (show s1.heap.IsTuple a its.toArray from p) ?_;refine⟨s1.heap.objs.size,[s1.heap.objs.size],_,_,H1,rfl,I1.kept (t':=s1.toks) fun b o e=>Heap.get?_push_of_some _ e,z7 a _,⟨_,Heap.get?_push_size _ rfl,rfl,rfl⟩,fun b hb=>?_,q⟩;have e:b=s1.heap.objs.size:=by simpa using hb
 subst e;exact I1.Bm (zeg _) (I1.hok.fresh (zeg _))
theorem HW{pins:List (Addr×Obj)}{σ:St}{H:Hp}{s:Shared}{R:It->Hp->Prop}{E:Value->Shared->Prop}{lo hi:Int}{t u v:Tok}{tk:Nat}(I:Inv X pins σ H s)(h1:-(2^62)<=lo)(h2:lo<2^62)(h3:-(2^62)<=hi)(h4:hi<2^62)
 (q:R (tZ lo (hi-lo).toNat) H):wpAny (model X.prog X.w) X.A (pyIter (.ref s.heap.objs.size)) (KZ X pins σ tg R) E { s with heap:=s.heap.push { cls:=.type "range",data:=.fields #[.int lo t,.int hi u,.int 1 v] },toks:=tk }:=by
 refine wpAny_pyIter_range (IsRange.new ..) (small_one h1 h2 h3 h4) ?_;have I1:Inv X pins σ H { s with heap:=s.heap.push { cls:=.type "range",data:=.fields #[.int lo t,.int hi u,.int 1 v] },toks:=tk }:=I.kept fun b o e=>Heap.get?_push_of_some _ e
 refine⟨(s.heap.push { cls:=.type "range",data:=.fields #[.int lo t,.int hi u,.int 1 v] }).objs.size,[(s.heap.push { cls:=.type "range",data:=.fields #[.int lo t,.int hi u,.int 1 v] }).objs.size],_,_,H,rfl,
  I1.kept (t':=tk) fun b o e=>Heap.get?_push_of_some _ e,v7 _ lo (hi-lo).toNat,?_,fun b hb=>?_,q⟩
 · have e1:lo+((0:Nat):Int)*1=lo:=by simp
   have e2:(((hi-lo).toNat:Nat):Int)-((0:Nat):Int)=Builtin.Range.rangeSize lo hi 1:=by rw[rangeSize_one];split<;>omega
   show IsRangeIter _ _ (lo+((0:Nat):Int)*1) ((((hi-lo).toNat:Nat):Int)-((0:Nat):Int)) 1;rw[e1,e2];exact Heap.get?_push_size _ rfl
 · have e:b=(s.heap.push { cls:=.type "range",data:=.fields #[.int lo t,.int hi u,.int 1 v] }).objs.size:=by simpa using hb
   subst e;exact I1.Bm (zeg _) (I1.hok.fresh (zeg _))
def Qy(ta:TA):TI:=fun σ H R=>ta σ H fun vs H1=>∃j:Int,vs=[.int j]/\-(2^62)<=j/\j<2^62/\R (tZ 0 j.toNat) H1
def Ry(ta:TA):TI:=fun σ H R=>ta σ H fun vs H1=>∃i j:Int,vs=[.int i,.int j]/\(-(2^62)<=i/\i<2^62/\-(2^62)<=j/\j<2^62)/\R (tZ i (j-i).toNat) H1
theorem Z7 {a:Expr} {ta:TA} {p pos:Pos} (hg:Gl X "range") (hm:X.mg "range" =none) (ha:PA X [a] ta) (hs:starEach [a] X.env=[(false,eval a X.env)]:=by rfl):PI X tg (.Call (.Name "range" p) [a] [] pos) (Qy ta):=by
 intro pins s σ H R I h;refine Call_ (sH I hg hm boot_range (PyProof.Rows.callWith_type1 (nB (ha pos pins s σ H _ I h) fun us s1 zz=>?_) hs rfl));obtain⟨vs,H1,I1,r1,q1⟩:=zz;obtain⟨j,e,q1,q2,q⟩:=q1;subst e;cases r1 with
 | cons r rr=>cases rr;obtain⟨t,rfl⟩:=r;exact call_range_1 (HW I1 (by omega) (by omega) q1 q2 (by simpa using q))
theorem b8 {a b:Expr} {ta:TA} {p pos:Pos} (hg:Gl X "range") (hm:X.mg "range" =none) (ha:PA X [a,b] ta) (hs:starEach [a,b] X.env=[(false,eval a X.env),(false,eval b X.env)]:=by rfl) (hs2:starEach [b] X.env=[(false,eval b X.env)]:=by rfl) :
 PI X tg (.Call (.Name "range" p) [a,b] [] pos) (Ry ta):=by
 intro pins s σ H R I h;refine Call_ (sH I hg hm boot_range (PyProof.Rows.callWith_type1 (nB (ha pos pins s σ H _ I h) fun us s1 zz=>?_) (by rw[hs,hs2]) (by rw[hs2];rfl)));obtain⟨vs,H1,I1,r1,q1⟩:=zz;obtain⟨i,j,e,⟨q1,q2,q3,q4⟩,q⟩:=q1;subst e;cases r1 with
 | cons r rr=>
  cases rr with
  | cons r' rr=>cases rr;obtain⟨t,rfl⟩:=r;obtain⟨t',rfl⟩:=r';exact call_range_2 (HW I1 q1 q2 q3 q4 q)
def F0(wi:TI)(g:TG)(tb:TS):TS:=fun D σ H=>wi σ H fun J H1=>∃W:Nat->Nat->St->Hp->Prop,(∃m,W 0 m σ H1)/\∀i m σ H,W i m σ H->
 (J.stop i H/\D.nx σ H)\/(J.go i H/\∃N:St->Hp->Prop,(∀σ' H',N σ' H'->∃m',m'<m/\W (i+1) m' σ' H')/\∀x H',J.yld i H x H'->g x σ H' fun σ2 H2=>tb { D with nx:=N,ct:=N,bk:=D.nx } σ2 H2)
noncomputable def mL(fp:List Addr)(h:Heap):List (Addr×Obj):=fp.filterMap fun b=>(h.get? b).map fun o=>(b,o)
theorem bN{fp:List Addr}{h:Heap}{b:Addr}{o:Obj}(hb:b∈fp)(e:h.get? b=some o):(b,o)∈mL fp h:=mem_filterMap.mpr ⟨b,hb,by rw[e];rfl⟩
theorem Q8{fp:List Addr}{h:Heap}{p:Addr×Obj}(hp:p∈mL fp h):p.1∈fp/\h.get? p.1=some p.2:=by
 obtain⟨b,hb,e⟩:=mem_filterMap.mp hp;cases q:h.get? b with
 | none=>rw[q]at e;cases e
 | some o=>rw[q]at e;have e':(b,o)=p:=Option.some.inj e;subst e';exact⟨hb,q⟩
theorem Inv.pinned{pins:List (Addr×Obj)}{σ:St}{H:Hp}{s:Shared}{fp:List Addr}(I:Inv X pins σ H s)(hf:∀b∈fp,SE X pins H b)(ho:∀b∈fp,∃o,s.heap.get? b=some o/\∀v,o.data≠.cell v):Inv X (pins++mL fp s.heap) σ H s:=
 I.Om fun p hp=>(mem_append.mp hp).elim (fun z=>I.pin p (mem_append_right _ z)) fun z=>by obtain⟨hb,e⟩:=Q8 z;obtain⟨f0,f1,f2,_⟩:=hf p.1 hb;obtain⟨o,e',d⟩:=ho p.1 hb;rw[e]at e';cases e';exact⟨e,f0,f1,f2,d⟩
theorem Inv.gb{pins pl:List (Addr×Obj)}{σ:St}{H:Hp}{s:Shared}(I:Inv X (pins++pl) σ H s):Inv X pins σ H s:=I.Om fun p hp=>I.pin p (mem_append_right _ (mem_append_left _ hp))
theorem Vw{iter:Expr}{body:List Stmt}{wi:TI}{g:TG}{tb:TS}{pos:Pos}(hp:PassesOwn (model X.prog X.w) X.A X.env X.xe)(hc:X.calm=true)(hi:PI X tg iter wi)(hg:PG X tg g)(hb:Qn X body tb)
 (hs:∀x,foldedSetIterable iter X.env x=pure x:=by intro _;rfl):PS X (.For tg iter body [] pos) (F0 wi g tb):=by
 intro pins s σ H D I h;refine wpAny_For (nB (hi pins s σ H _ I h) fun v s1 h1=>nB h1 fun itv s2 h2=>?_) hs;obtain⟨it,fp,tn,J,H2,e,I2,T,st2,f2,W,⟨m0,w0⟩,turn⟩:=h2;subst e;have stat:∀{H':Hp},(∀b∈fp,H' b=none)->∀b∈fp,SE X pins H' b:=fun hn b hb=>⟨hn b hb,(f2 b hb).2⟩
 refine codeAny_forLoop_any (fun n s'=>∃i σ' H',Inv X pins σ' H' s'/\tn i s'.heap/\(∀b∈fp,H' b=none)/\W i n σ' H') ?_ m0 ⟨0,σ,H2,I2,st2,fun b hb=>(f2 b hb).1,w0⟩;rintro n s3 ⟨i,σ3,H3,I3,st3,fr3,w3⟩;rcases turn i n σ3 H3 w3 with⟨stop,qn⟩ | ⟨go,N,hN,step⟩
 · refine wpAny_passesOwn hp (nB (T.done X rfl rfl rfl hc i pins s3 σ3 H3 X.xe I3 (stat fr3) st3 stop) fun r s4 zz=>?_);obtain⟨hr,I4⟩:=zz;subst hr;exact wpAny_execs_nil ⟨σ3,H3,I4,qn⟩
 · refine wpAny_passesOwn hp (nB (T.item X rfl rfl rfl hc i pins s3 σ3 H3 X.xe I3 (stat fr3) st3 go) fun r s4 zz=>?_);obtain⟨u,hr,h4⟩:=zz;subst hr;refine wpAny_passesOwn hp (nB h4 fun _ s5 zz=>?_);obtain⟨x,H5,I5,r5,y5,st5,fr5⟩:=zz;have I5':=I5.pinned (stat fr5) (T.obj _ _ st5);refine wpAny_passesOwn hp (nB (hg _ s5 σ3 H5 x u _ I5' r5 (step x H5 y5)) fun _ s6 zz=>?_);obtain⟨σ6,H6,I6,q6⟩:=zz;refine wpAny_passesOwn hp (nB (hb _ s6 σ6 H6 _ I6 q6) fun f s7 q7=>?_);have again:∀{σ7:St}{H7:Hp},Inv X (pins++mL fp s5.heap) σ7 H7 s7->N σ7 H7->∃m,m<n/\∃i σ' H',Inv X pins σ' H' s7/\tn i s7.heap/\(∀b∈fp,H' b=none)/\W i m σ' H':=fun {σ7 H7} I7 n7=>by obtain⟨m',hm,w7⟩:=hN σ7 H7 n7;refine⟨m',hm,i+1,σ7,H7,I7.gb,T.keep _ _ _ st5 fun b hb o e=>(I7.pin (b,o) (mem_append_right _ (mem_append_right _ (bN hb e)))).1,fun b hb=>?_,w7⟩;obtain⟨o,e,d⟩:=T.obj _ _ st5 b hb;exact(I7.pin (b,o) (mem_append_right _ (mem_append_right _ (bN hb e)))).2.1
   cases f with
   | next=>obtain⟨σ7,H7,I7,n7⟩:=q7;exact again I7 n7
   | cont=>obtain⟨σ7,H7,I7,n7⟩:=q7;exact again I7 n7
   | brk=>obtain⟨σ7,H7,I7,q7⟩:=q7;exact⟨σ7,H7,I7.gb,q7⟩
   | ret v=>obtain⟨x7,σ7,H7,I7,r7,q7⟩:=q7;exact⟨x7,σ7,H7,I7.gb,r7,q7⟩
end
abbrev R2:=V->V->Hp->VK->Prop
def Kd(X:Cx)(f:Value->Value->Sem Value)(r:R2):Prop:=
 ∀(pins:List (Addr×Obj))(s:Shared)(σ:St)(H:Hp)(x y:V)(v u:Value)(Q:VK),Inv X pins σ H s->RelV x v->RelV y u->r x y H Q->
  wpAny (model X.prog X.w) X.A (f v u) (EP X pins σ Q) X.xe s
def wZ(X:Cx)(f:Value->Sem Value)(r:V->Hp->VK->Prop):Prop:=
 ∀(pins:List (Addr×Obj))(s:Shared)(σ:St)(H:Hp)(x:V)(v:Value)(Q:VK),Inv X pins σ H s->RelV x v->r x H Q->
  wpAny (model X.prog X.w) X.A (f v) (EP X pins σ Q) X.xe s
def Xf(X:Cx)(f:Value)(r:List V->Hp->VK->Prop):Prop:=
 ∀(pins:List (Addr×Obj))(s:Shared)(σ:St)(H:Hp)(xs:List V)(us:List Value)(Q:VK),Inv X pins σ H s->Vals xs us->r xs H Q->
  wpAny (model X.prog X.w) X.A (call f us) (EP X pins σ Q) X.xe s
noncomputable def CU(r:R2)(ta tb:TE):TE:=fun σ H Q=>ta σ H fun x H1=>tb σ H1 fun y H2=>r x y H2 Q
noncomputable def Bt(r:V->Hp->VK->Prop)(ta:TE):TE:=fun σ H Q=>ta σ H fun x H1=>r x H1 Q
noncomputable def rI(C:Int->Int->Prop)(g:Int->Int->V):R2:=fun x y H Q=>∃i j,x=.int i/\y=.int j/\C i j/\Q (g i j) H
noncomputable def YJ(g:Int->Int->V):R2:=fun x y H Q=>∃i j,x=.int i/\y=.int j/\Q (g i j) H
noncomputable def rU(g:Int->V):V->Hp->VK->Prop:=fun x H Q=>∃i,x=.int i/\Q (g i) H
section
variable{X:Cx}{a b c:Expr}{ta tb tc:TE}{pos:Pos}
theorem ZO(ha:PE X a ta)(hb:PE X b tb){pins:List (Addr×Obj)}{s:Shared}{σ:St}{H:Hp}{R:V->V->Hp->Prop}(I:Inv X pins σ H s)
 (h:ta σ H fun x H1=>tb σ H1 fun y H2=>R x y H2) {Q:Value->Shared->Prop} {f:Value->Value->Sem Value}
 (hf:∀v u s2 x y H2,Inv X pins σ H2 s2->RelV x v->RelV y u->R x y H2->wpAny (model X.prog X.w) X.A (f v u) Q X.xe s2) :
 wpAny (model X.prog X.w) X.A (eval a X.env) (fun v s₁=>wpAny (model X.prog X.w) X.A (eval b X.env) (fun u s₂=>wpAny (model X.prog X.w) X.A (f v u) Q X.xe s₂) X.xe s₁) X.xe s:=by
 refine nB (ha pins s σ H _ I h) fun v s1 zz=>?_
 obtain⟨x,H1,I1,r1,q1⟩:=zz;refine nB (hb pins s1 σ H1 _ I1 q1) fun u s2 zz=>?_
 obtain⟨y,H2,I2,r2,q2⟩:=zz;exact hf v u s2 x y H2 I2 r1 r2 q2
theorem xT{op:Operator}{r:R2}(ho:Kd X (binaryOp op) r)(ha:PE X a ta)(hb:PE X b tb):PE X (.BinOp a op b pos) (CU r ta tb):=by intro pins s σ H Q I h;exact wpAny_BinOp (ZO ha hb I h fun v u s2 x y H2 I2 rx ry q=>ho pins s2 σ H2 x y v u Q I2 rx ry q)
theorem iZ{op:UnaryOp}{r:V->Hp->VK->Prop}(ho:wZ X (unaryOp op) r)(ha:PE X a ta):PE X (.UnaryOp op a pos) (Bt r ta):=by intro pins s σ H Q I h;exact UnaryOp_ (nB (ha pins s σ H _ I h) fun v s1 ⟨x,H1,I1,r1,q1⟩=>ho pins s1 σ H1 x v Q I1 r1 q1)
theorem aU{f:Value->Value->Sem Value}{C:Int->Int->Prop}{g:Int->Int->Int}
 (rule:∀(i j:Int)(t u:Tok)(s:Shared)(Q:Value->Shared->Prop)(E:Value->Shared->Prop),C i j->Q (.int (g i j) s.toks) { s with toks:=s.toks+1 }->wpAny (model X.prog X.w) X.A (f (.int i t) (.int j u)) Q E s) :
 Kd X f (rI C fun i j=>.int (g i j)):=by
 intro pins s σ H x y v u Q I rx ry h;obtain⟨i,j,rfl,rfl,hc,q⟩:=h;obtain⟨t,rfl⟩:=rx;obtain⟨t',rfl⟩:=ry;exact rule i j t t' s _ _ hc ⟨.int (g i j),H,I.tok _,⟨_,rfl⟩,q⟩
theorem VL{f:Value->Value->Sem Value}{g:Int->Int->Int}
 (rule:∀(i j:Int)(t u:Tok)(s:Shared)(Q:Value->Shared->Prop)(E:Value->Shared->Prop),Q (.int (g i j) s.toks) { s with toks:=s.toks+1 }->wpAny (model X.prog X.w) X.A (f (.int i t) (.int j u)) Q E s) :
 Kd X f (YJ fun i j=>.int (g i j)):=by
 intro pins s σ H x y v u Q I rx ry h;obtain⟨i,j,rfl,rfl,q⟩:=h;obtain⟨t,rfl⟩:=rx;obtain⟨t',rfl⟩:=ry;exact rule i j t t' s _ _ ⟨.int (g i j),H,I.tok _,⟨_,rfl⟩,q⟩
theorem UL{f:Value->Value->Sem Value}{g:Int->Int->Bool}
 (rule:∀(i j:Int)(t u:Tok)(s:Shared)(Q:Value->Shared->Prop)(E:Value->Shared->Prop),Q (.bool (g i j)) s->wpAny (model X.prog X.w) X.A (f (.int i t) (.int j u)) Q E s) :
 Kd X f (YJ fun i j=>.bl (g i j)):=by
 intro pins s σ H x y v u Q I rx ry h;obtain⟨i,j,rfl,rfl,q⟩:=h;obtain⟨t,rfl⟩:=rx;obtain⟨t',rfl⟩:=ry;exact rule i j t t' s _ _ ⟨.bl (g i j),H,I,rfl,q⟩
noncomputable def GJ(i j:Int):Prop:=0<j/\j<1073741824
noncomputable def tG(i j:Int):Prop:=0<=j/\j<=1000000/\i.natAbs<2^64
noncomputable def Yn(i j:Int):Prop:=(-(2^64)<i/\i<2^64)\/(-(2^64)<j/\j<2^64)
theorem Yn.ok{i j:Int}(h:Yn i j):IntMulOk i j:=by
 rcases h with⟨h1,h2⟩ | ⟨h1,h2⟩
 · exact .of_left (intBits_le_64 h1 h2)
 · exact .of_right (intBits_le_64 h1 h2)
theorem A7(k:Nat):(0:Int)<=2^k:=by rw[two_pow_cast];exact Int.natCast_nonneg _
theorem Yk:Kd X (binaryOp .Add) (YJ fun i j=>.int (i+j)):=VL fun _ _ _ _ _ _ _ q=>add_int q
theorem Ew:Kd X (binaryOp .Sub) (YJ fun i j=>.int (i-j)):=VL fun _ _ _ _ _ _ _ q=>sub_int q
theorem qy:Kd X (binaryOp .Mult) (rI Yn fun i j=>.int (i*j)):=aU fun _ _ _ _ _ _ _ hc q=>mul_int q hc.ok
theorem Tj:Kd X (binaryOp .FloorDiv) (rI GJ fun i j=>.int (i/j)):=aU fun i j _ _ _ _ _ hc q=>by have h1:(0:Int)<j:=hc.1;have h2:j<1073741824:=hc.2;exact floordiv_int (by omega) (by rw[Int.fdiv_eq_ediv_of_nonneg i (by omega)];exact q) (.inl (PyProof.noPylong_small (by omega)))
theorem jy:Kd X (binaryOp .Mod) (rI (fun _ j=>0<j) fun i j=>.int (i%j)):=aU fun i j _ _ _ _ _ hc q=>by have h1:(0:Int)<j:=hc;exact mod_int' (by omega) (by rw[Int.fmod_eq_emod_of_nonneg i (by omega)];exact q)
theorem Bw:Kd X (binaryOp .Pow) (rI tG fun i j=>.int (i^j.toNat)):=aU fun _ _ _ _ _ _ _ hc q=>pow_int_small hc.1 hc.2.1 hc.2.2 q
theorem Cw:Kd X (binaryOp .LShift) (rI tG fun i j=>.int (i*2^j.toNat)):=aU fun _ _ _ _ _ _ _ hc q=>lshift_int_small hc.1 hc.2.1 hc.2.2 q
theorem Dw:Kd X (binaryOp .RShift) (rI (fun _ j=>0<=j) fun i j=>.int (i/2^j.toNat)):=aU fun i j _ _ _ _ _ hc q=>rshift_int hc (by rw[Int.fdiv_eq_ediv_of_nonneg i (A7 _)];exact q)
theorem Zk:Kd X (binaryOp .BitAnd) (YJ fun i j=>.int (Builtin.bitAnd i j)):=VL fun _ _ _ _ _ _ _ q=>and_int q
theorem yg:Kd X (binaryOp .BitOr) (YJ fun i j=>.int (Builtin.bitOr i j)):=VL fun _ _ _ _ _ _ _ q=>or_int q
theorem Mh{f:Value->Sem Value}{g:Int->Int}
 (rule:∀(i:Int)(t:Tok)(s:Shared)(Q:Value->Shared->Prop)(E:Value->Shared->Prop),Q (.int (g i) s.toks) { s with toks:=s.toks+1 }->wpAny (model X.prog X.w) X.A (f (.int i t)) Q E s) :
 wZ X f (rU fun i=>.int (g i)):=by
 intro pins s σ H x v Q I rx h;obtain⟨i,rfl,q⟩:=h;obtain⟨t,rfl⟩:=rx;exact rule i t s _ _ ⟨.int (g i),H,I.tok _,⟨_,rfl⟩,q⟩
theorem Kg:wZ X (unaryOp .USub) (rU fun i=>.int (-i)):=Mh fun _ _ _ _ _ q=>neg_int q
theorem Jg:wZ X (unaryOp .Invert) (rU fun i=>.int (Builtin.bitNot i)):=Mh fun _ _ _ _ _ q=>invert_int q
end
noncomputable def YL:V->V->Bool
 | .non,.non=>true | .non,.int _=>true | .int _,.non=>true | .non,.bl _=>true | .bl _,.non=>true | .non,.str _=>true | .str _,.non=>true
 | .int _,.int _=>true | .bl _,.bl _=>true | .str _,.str _=>true | .Um _,.Um _=>true
 | .int _,.str _=>true | .str _,.int _=>true | .bl _,.str _=>true | .str _,.bl _=>true
 | _,_=>false
def Vh:R2:=fun x y H Q=>YL x y=true/\Q (.bl (decide (x=y))) H
def Wh:R2:=fun x y H Q=>YL x y=true/\Q (.bl (!decide (x=y))) H
theorem eY{i j:Int}:decide (V.int i=V.int j)=(i==j):=by rw[Bool.eq_iff_iff];simp
theorem pY{i j:Bool}:decide (V.bl i=V.bl j)=(i==j):=by rw[Bool.eq_iff_iff];simp
theorem fY{i j:Str}:decide (V.str i=V.str j)=(i==j):=by rw[Bool.eq_iff_iff];simp
theorem dY{i j:Array UInt8}:decide (V.Um i=V.Um j)=(i.toList==j.toList):=by rw[Bool.eq_iff_iff];cases i;cases j;simp
section
variable{X:Cx}{a b c:Expr}{ta tb tc:TE}{pos:Pos}
theorem lC{pins:List (Addr×Obj)}{σ:St}{H:Hp}{s:Shared}{Q:VK}{k k':Bool}(I:Inv X pins σ H s)(q:Q (.bl k) H)(e:k=k'):EP X pins σ Q (.bool k') s:=by subst e;exact⟨.bl k,H,I,rfl,q⟩
theorem jg:Kd X (compareOp .Eq) Vh:=by
 intro pins s σ H x y v u Q I rx ry h;obtain⟨hs,q⟩:=h;cases x with
 | non=>
  cases rx;cases y with
  | non=>cases ry;exact PySem.EqNone.eq_none_none (lC I q (by simp))
  | bl j=>cases ry;exact PySem.EqNone.eq_none_bool (lC I q (by simp))
  | int j=>obtain⟨t',rfl⟩:=ry;exact PySem.EqNone.eq_none_int (lC I q (by simp))
  | str j=>obtain⟨t',rfl⟩:=ry;exact PySem.EqNone.eq_none_str (lC I q (by simp))
  | _=>exact absurd (show false=true from hs) zef
 | bl i=>
  cases rx;cases y with
  | non=>cases ry;exact PySem.EqNone.eq_bool_none (lC I q (by simp))
  | bl j=>cases ry;exact eq_bool (lC I q pY)
  | str j=>obtain⟨t',rfl⟩:=ry;exact PySem.EqMixed.eq_bool_str (lC I q (by simp))
  | _=>exact absurd (show false=true from hs) zef
 | int i=>
  obtain⟨t,rfl⟩:=rx;cases y with
  | non=>cases ry;exact PySem.EqNone.eq_int_none (lC I q (by simp))
  | int j=>obtain⟨t',rfl⟩:=ry;exact eq_int (lC I q eY)
  | str j=>obtain⟨t',rfl⟩:=ry;exact PySem.EqMixed.eq_int_str (lC I q (by simp))
  | _=>exact absurd (show false=true from hs) zef
 | str i=>
  obtain⟨t,rfl⟩:=rx;cases y with
  | non=>cases ry;exact PySem.EqNone.eq_str_none (lC I q (by simp))
  | bl j=>cases ry;exact PySem.EqMixed.eq_str_bool (lC I q (by simp))
  | int j=>obtain⟨t',rfl⟩:=ry;exact PySem.EqMixed.eq_str_int (lC I q (by simp))
  | str j=>obtain⟨t',rfl⟩:=ry;exact eq_str (lC I q fY)
  | _=>exact absurd (show false=true from hs) zef
 | Um i=>
  obtain⟨t,rfl⟩:=rx;cases y with
  | Um j=>obtain⟨t',rfl⟩:=ry;exact PySem.W.eq_bytes (lC I q dY)
  | _=>exact absurd (show false=true from hs) zef
 | _=>cases y<;>exact absurd (show false=true from hs) zef
theorem xg:Kd X (compareOp .NotEq) Wh:=by
 intro pins s σ H x y v u Q I rx ry h;obtain⟨hs,q⟩:=h;cases x with
 | non=>
  cases rx;cases y with
  | non=>cases ry;exact PySem.EqNone.ne_none_none (lC I q (by simp))
  | bl j=>cases ry;exact PySem.EqNone.ne_none_bool (lC I q (by simp))
  | int j=>obtain⟨t',rfl⟩:=ry;exact PySem.EqNone.ne_none_int (lC I q (by simp))
  | str j=>obtain⟨t',rfl⟩:=ry;exact PySem.EqNone.ne_none_str (lC I q (by simp))
  | _=>exact absurd (show false=true from hs) zef
 | bl i=>
  cases rx;cases y with
  | non=>cases ry;exact PySem.EqNone.ne_bool_none (lC I q (by simp))
  | bl j=>cases ry;exact ne_bool (lC I q (congrArg not pY))
  | str j=>obtain⟨t',rfl⟩:=ry;exact PySem.EqMixed.ne_bool_str (lC I q (by simp))
  | _=>exact absurd (show false=true from hs) zef
 | int i=>
  obtain⟨t,rfl⟩:=rx;cases y with
  | non=>cases ry;exact PySem.EqNone.ne_int_none (lC I q (by simp))
  | int j=>obtain⟨t',rfl⟩:=ry;exact ne_int (lC I q (congrArg not eY))
  | str j=>obtain⟨t',rfl⟩:=ry;exact PySem.EqMixed.ne_int_str (lC I q (by simp))
  | _=>exact absurd (show false=true from hs) zef
 | str i=>
  obtain⟨t,rfl⟩:=rx;cases y with
  | non=>cases ry;exact PySem.EqNone.ne_str_none (lC I q (by simp))
  | bl j=>cases ry;exact PySem.EqMixed.ne_str_bool (lC I q (by simp))
  | int j=>obtain⟨t',rfl⟩:=ry;exact PySem.EqMixed.ne_str_int (lC I q (by simp))
  | str j=>obtain⟨t',rfl⟩:=ry;exact ne_str (lC I q (congrArg not fY))
  | _=>exact absurd (show false=true from hs) zef
 | Um i=>
  obtain⟨t,rfl⟩:=rx;cases y with
  | Um j=>obtain⟨t',rfl⟩:=ry;exact PySem.W.ne_bytes (lC I q (congrArg not dY))
  | _=>exact absurd (show false=true from hs) zef
 | _=>cases y<;>exact absurd (show false=true from hs) zef
theorem wg:Kd X (compareOp .Lt) (YJ fun i j=>.bl (decide (i<j))):=UL fun _ _ _ _ _ _ _ q=>lt_int q
theorem vg:Kd X (compareOp .LtE) (YJ fun i j=>.bl (decide (i<=j))):=UL fun _ _ _ _ _ _ _ q=>le_int q
theorem ug:Kd X (compareOp .Gt) (YJ fun i j=>.bl (decide (j<i))):=UL fun _ _ _ _ _ _ _ q=>gt_int q
theorem lg:Kd X (compareOp .GtE) (YJ fun i j=>.bl (decide (j<=i))):=UL fun _ _ _ _ _ _ _ q=>ge_int q
theorem iy:Kd X (compareOp .Is) (fun x y H Q=>y=.non/\Q (.bl (decide (x=.non))) H):=by
 intro pins s σ H x y v u Q I rx ry h;obtain⟨rfl,q⟩:=h;cases ry;refine is_none_gen (lC I q ?_);cases x<;>first
  | (cases rx;rfl)
  | (obtain⟨t,rfl⟩:=rx;rfl)
theorem OY(b:Expr){op:CmpOp}(h:op≠.In:=by decide)(h2:op≠.NotIn:=by decide):behindInMarks op b=false:=by
 have e1:(op==CmpOp.In)=false:=by cases op<;>first | rfl | exact absurd rfl h
 have e2:(op==CmpOp.NotIn)=false:=by cases op<;>first | rfl | exact absurd rfl h2
 cases b<;>simp[behindInMarks,e1,e2]
theorem Wj{op:CmpOp}{r:R2}(ho:Kd X (compareOp op) r)(ha:PE X a ta)(hb:PE X b tb)(hm:behindInMarks op b=false):PE X (.Compare a [op] [b] pos) (CU r ta tb):=by intro pins s σ H Q I h;exact wpAny_Compare1 (ZO ha hb I h fun v u s2 x y H2 I2 rx ry q=>ho pins s2 σ H2 x y v u Q I2 rx ry q) hm
noncomputable def rZ(t:TE):TT:=fun σ H Q=>t σ H fun x H'=>∃k,x=.bl k/\Q k H'
theorem Kv{op:CmpOp}{r:R2}(ho:Kd X (compareOp op) r)(ha:PE X a ta)(hb:PE X b tb)(hm:behindInMarks op b=false):PT X (.Compare a [op] [b] pos) (rZ (CU r ta tb)):=by
 intro pins s σ H Q I h;refine wpAny_isTrue_Compare1 (nB (ha pins s σ H _ I h) fun v s1 ⟨x,H1,I1,r1,q1⟩=>nB (hb pins s1 σ H1 _ I1 q1) fun u s2 ⟨y,H2,I2,r2,q2⟩=>
  nB (ho pins s2 σ H2 x y v u _ I2 r1 r2 q2) fun c s3 ⟨z,H3,I3,r3,k,e,q3⟩=>?_) hm
 subst e;cases r3;exact wpAny_truthy_bool ⟨H3,I3,q3⟩
noncomputable def yY(r r':R2)(ta tb tc:TE):TE:=fun σ H Q=>ta σ H fun x H1=>tb σ H1 fun y H2=>r x y H2 fun z H3=>∃k,z=.bl k/\
 (if k=true then tc σ H3 fun w' H4=>r' y w' H4 Q else Q (.bl false) H3)
theorem yj{op op':CmpOp}{r r':R2}(ho:Kd X (compareOp op) r)(ho':Kd X (compareOp op') r')(ha:PE X a ta)(hb:PE X b tb)(hc:PE X c tc)
 (hm:lastMarks [op,op'] [b,c]=false:=by with_unfolding_all rfl):PT X (.Compare a [op,op'] [b,c] pos) (rZ (yY r r' ta tb tc)):=by
 intro pins s σ H Q I h;refine isTrue_chain (nB (ha pins s σ H _ I h) fun v s1 ⟨x,H1,I1,r1,q1⟩=>test_link (nB (hb pins s1 σ H1 _ I1 q1) fun u s2 ⟨y,H2,I2,r2,q2⟩=>
  nB (ho pins s2 σ H2 x y v u _ I2 r1 r2 q2) fun d s3 ⟨z,H3,I3,r3,k,e,q3⟩=>?_)) hm
 subst e;cases r3;refine wpAny_truthy_bool ?_;cases k with
 | false=>obtain⟨k',e',q'⟩:=q3;cases e';exact ite_ff ⟨H3,I3,q'⟩
 | true=>refine ite_tt (test_last (nB (hc pins s3 σ H3 _ I3 q3) fun w' s4 ⟨z',H4,I4,r4,q4⟩=>nB (ho' pins s4 σ H4 y z' u w' _ I4 r2 r4 q4) fun d' s5 zz=>?_));obtain⟨z2,H5,I5,r5,k2,e2,q5⟩:=zz;subst e2;cases r5;exact wpAny_truthy_bool ⟨H5,I5,q5⟩
theorem wJ:(sizeLine:Nat)<2^63:=by rw[sizeLine_eq];decide
theorem qG{x:V}{us:List Value}(r:Vals [x] us):∃u,us=[u]/\RelV x u:=by
 cases r with
 | cons r1 r2=>cases r2;exact⟨_,rfl,r1⟩
theorem WT{x y:V}{us:List Value}(r:Vals [x,y] us):∃u w',us=[u,w']/\RelV x u/\RelV y w':=by
 cases r with
 | cons r1 r2=>
  cases r2 with
  | cons r3 r4=>cases r4;exact⟨_,_,rfl,r1,r3⟩
theorem P6 (hc:X.calm=true):Xf X (.builtin "max") (fun xs H Q=>∃i j,xs=[.int i,.int j]/\Q (.int (if j>i then j else i)) H):=by
 intro pins s σ H xs us Q I r h;obtain⟨i,j,rfl,q⟩:=h;obtain⟨u,w',rfl,⟨t,rfl⟩,⟨t',rfl⟩⟩:=WT r;refine max_two_ints (I.ok.hd hc) fun h' tk k=>⟨_,H,I.kept k,?_,q⟩
 by_cases hj:j>i
 · rw[if_pos hj,if_pos hj];exact⟨_,rfl⟩
 · rw[if_neg hj,if_neg hj];exact⟨_,rfl⟩
theorem T6 (hc:X.calm=true):Xf X (.builtin "min") (fun xs H Q=>∃i j,xs=[.int i,.int j]/\Q (.int (if j<i then j else i)) H):=by
 intro pins s σ H xs us Q I r h;obtain⟨i,j,rfl,q⟩:=h;obtain⟨u,w',rfl,⟨t,rfl⟩,⟨t',rfl⟩⟩:=WT r;refine min_two_ints (I.ok.hd hc) fun h' tk k=>⟨_,H,I.kept k,?_,q⟩
 by_cases hj:j<i
 · rw[if_pos hj,if_pos hj];exact⟨_,rfl⟩
 · rw[if_neg hj,if_neg hj];exact⟨_,rfl⟩
theorem N6:Xf X (.type "int") (fun xs H Q=>(∃i,xs=[.int i]/\Q (.int i) H)\/∃k,xs=[.bl k]/\Q (.int (if k then 1 else 0)) H):=by
 intro pins s σ H xs us Q I r h;rcases h with⟨i,rfl,q⟩ | ⟨k,rfl,q⟩
 · obtain⟨u,rfl,t,rfl⟩:=qG r;exact call_int_int ⟨.int i,H,I,⟨_,rfl⟩,q⟩
 · obtain⟨u,rfl,r1⟩:=qG r;cases r1;exact call_int_bool ⟨.int (if k then 1 else 0),H,I.tok _,⟨_,rfl⟩,q⟩
end
structure Am(h:Heap)(x dx C:Addr)(mA:Str->Option Value):Prop where
 obj:h.get? x=some (PySem.W.instObj C dx)
 ns:h.Ns1 dx mA
 ne:dx≠x
theorem D8{h:Heap}{dx:Addr}{mA:Str->Option Value}(n:h.Ns1 dx mA):∃od,h.get? dx=some od/\∀name,PySem.W.lookIn name od=some (mA name):=by
 obtain⟨o,es,ep,ho,hd,hk,_,hm⟩:=n;refine⟨o,ho,fun name=>?_⟩;have e:=hm name;unfold nsFind findBy at e;rw[<- Array.find?_toList]at e;unfold PySem.W.lookIn;rw[hd];dsimp only;split
 · rename_i y q;rw[q]at e;exact congrArg some e
 · rename_i q;rw[q]at e;have a:es.toList.any (·.refKey)=false:=by rw[any_eq_false];intro y hy;obtain⟨z,t,hkey⟩:=hk y (Array.mem_toList_iff.mp hy);simp[DictEntry.refKey,hkey]
   have a':¬es.toList.any (·.refKey)=true:=by rw[a];exact zef
   rw[if_neg a'];exact congrArg some e
theorem Am.look{h:Heap}{x dx C:Addr}{mA:Str->Option Value}(I:Am h x dx C mA):∃od,PySem.W.InstAt h x (PySem.W.instObj C dx) C (some od)/\∀name,PySem.W.lookIn name od=some (mA name):=
 let ⟨od,ho,hl⟩:=D8 I.ns
 ⟨od,⟨I.obj,rfl,rfl,ho⟩,hl⟩
section
variable{prog:Program}{w:World}{A:Around}{E:Value->Shared->Prop}{s:Shared}{K:Frag}{x dx C f:Addr}{mA:Str->Option Value}{name:Str}{v:Value}
theorem jq{expr:Bool}{Q:Value->Shared->Prop}(X:K.In s.heap)(I:Am s.heap x dx C mA)(hg:PySem.W.plainGet K C name=true)(hh:PySem.W.hasDictIn K C=true)
 (ha:findIn K (.ref C) name=some none) (hv:mA name=some v) (hv':PySem.W.handedIn v=true) (h:Q v { s with toks:=s.toks+1 }) :
 wpAny (model prog w) A (getAttr (.ref x) name expr) Q E s:=by
 obtain⟨od,J,hl⟩:=I.look;exact PySem.W.get_value X J (PySem.W.plainGet_of hg).1 (PySem.W.findObj_own hh ha rfl (by rw[hl,hv])) hv' h
theorem k9{pl:Sem Bool}{Q:Value×List Value->Shared->Prop}(X:K.In s.heap)(I:Am s.heap x dx C mA)(hg:PySem.W.plainGet K C name=true)
 (hf:findIn K (.ref C) name=some (some (.ref f))) (ht:PySem.W.isFn K (.ref f)=true) (hv:mA name=none) (h:Q (.ref f,[.ref x]) s) :
 wpAny (model prog w) A (getMethod (.ref x) name pl) Q E s:=by
 obtain⟨od,J,hl⟩:=I.look;exact PySem.W.method_fn X J (PySem.W.plainGet_of hg).1 (PySem.W.plainGet_of hg).2 hf (beq_iff_eq.mp ht) (by show(PySem.W.lookIn name od).map (·.isSome)=some false;rw[hl,hv];rfl) h
theorem Yv{ns:List Str}{Q:Unit->Shared->Prop}(X:K.In s.heap)(I:Am s.heap x dx C mA)
 (hs:findIn K (.ref C) "__setattr__" =some (some (.builtin "object.__setattr__"))) (hp:PySem.W.plainOver K C=true) (ht:PySem.W.takerIn K C name=some none) (hh:PySem.W.hasDictIn K C=true)
 (hw:PySem.Within mA ns) (hsz:ns.length<=sizeLine)
 (h:∀h',Am h' x dx C (fun y=>if y=name then some v else mA y)->Heap.SameBut dx s.heap h'->Q () { s with heap:=h',toks:=s.toks+2 }) :
 wpAny (model prog w) A (setAttr (.ref x) name v) Q E s:=by
 obtain⟨od,J,hl⟩:=I.look;refine PySem.W.set_plain X J hs (PySem.W.osa_open (s:={ s with toks:=s.toks+1 }) (r:=none) X J hp ht fun b=>?_);obtain⟨cd,hc,hd'⟩:=PySem.W.any_some hh;have hx:s.heap.get? x=some ⟨.ref C,some dx,.plain,#[]⟩:=I.obj;refine wpAny_bind (wpAny_pure (wpAny_bind (wpAny_bind (wpAny_loadPart hx (wpAny_bind (PySem.W.Looks.here (s:={ s with toks:=s.toks+1 }) (PySem.W.looks_clsIn X hc) ?_))))));rw[hd'];refine wpAny_pure (a:=some dx) (wpAny_bind (wpAny_pure (wpAny_bind ?_)));refine wpAny_nsSet1 (s:={ s with toks:=s.toks+1 }) I.ns fun h' hn2 hs2=>?_
 obtain⟨oD,esD,epD,hoD,hdD,hcD⟩:=hn2.count (PySem.Within.cons name v hw);refine wpAny_bind (wpAny_lookBehind hoD (by rw[hdD];exact pastItsLine_dict (Nat.le_trans hcD (by rw[zd3];omega))) ?_);exact wpAny_pure (h _ ⟨(hs2.2 _ (Ne.symm I.ne)).trans I.obj,hn2,I.ne⟩ hs2)
theorem D9{R:Result->Shared->Prop}{vs:List Value}{kw:List (Str×Value)}(X:K.In s.heap)(hm:PySem.W.makesIn K C=true)
 (hi:findIn K (.ref C) "__init__" =some (some (.ref f))) (hf:PySem.W.typeIn K (.ref f)=some (.type "function"))
 (h:codeAny (model prog w) (A.under (.builtin "type.__call__" ⟨.ref C::vs,kw⟩)) (.call (.ref f) ⟨.ref (s.heap.objs.size+1)::vs,kw⟩) (PySem.W.InitBack (s.heap.objs.size+1) R)
  { s with heap:=(s.heap.push PySem.W.emptyDict).push (PySem.W.instObj C s.heap.objs.size) }) :
 codeAny (model prog w) A (.call (.ref C) ⟨vs,kw⟩) R s:=by
 obtain⟨hh,g,d,t,os⟩:=s;exact PySem.W.make_core (PySem.W.makes_of X hm) (PySem.W.looks_findIn X hi) (fun self=>PySem.W.bind_fn X self hf) (.inl rfl) h
end
noncomputable def wB(f:Str)(v:V):List (Str×V)->List (Str×V)
 | []=>[(f,v)]
 | (g,x)::r=>if g=f then(g,v)::r else(g,x)::wB f v r
theorem ZU(f g:Str)(v:V):∀fs:List (Str×V),(wB f v fs).lookup g=if g=f then some v else fs.lookup g
 | []=>by
  show List.lookup g [(f,v)]=_;by_cases h:g=f
  · have hb:(g==f)=true:=beq_iff_eq.mpr h;simp only[List.lookup,hb,if_pos h]
  · have hb:(g==f)=false:=beq_eq_false_iff_ne.mpr h;simp only[List.lookup,hb,if_neg h]
 | (k,x)::r=>by
  have ih:=ZU f g v r;rw[show wB f v ((k,x)::r)=(if k=f then(k,v)::r else(k,x)::wB f v r)from rfl];by_cases hk:k=f
  · rw[if_pos hk];by_cases h:g=k
    · have hb:(g==k)=true:=beq_iff_eq.mpr h;simp only[List.lookup,hb,if_pos (h.trans hk)]
    · have hb:(g==k)=false:=beq_eq_false_iff_ne.mpr h;simp only[List.lookup,hb,if_neg (fun e:g=f=>h (e.trans hk.symm))]
  · rw[if_neg hk];by_cases h:g=k
    · have hb:(g==k)=true:=beq_iff_eq.mpr h;simp only[List.lookup,hb,if_neg (fun e:g=f=>hk (h.symm.trans e))]
    · have hb:(g==k)=false:=beq_eq_false_iff_ne.mpr h;simp only[List.lookup,hb];exact ih
theorem aR(f:Str)(v:V):∀fs:List (Str×V),f∈(wB f v fs).map (·.1)/\∀g,g∈fs.map (·.1)->g∈(wB f v fs).map (·.1)
 | []=>⟨by simp[wB],fun g h=>by simp at h⟩
 | (k,x)::r=>by
  obtain⟨i1,i2⟩:=aR f v r;rw[show wB f v ((k,x)::r)=(if k=f then(k,v)::r else(k,x)::wB f v r)from rfl];by_cases hk:k=f
  · rw[if_pos hk];subst hk;exact⟨by simp,fun g h=>by simpa using h⟩
  · rw[if_neg hk];refine⟨?_,fun g h=>?_⟩
    · rw[zd5];exact mem_cons_of_mem _ i1
    · rw[zd5]at h ⊢;rcases mem_cons.mp h with e | e
      · exact mem_cons.mpr (.inl e)
      · exact mem_cons_of_mem _ (i2 g e)
theorem XU(f:Str)(v:V):∀fs:List (Str×V),(wB f v fs).length<=fs.length+1
 | []=>by simp[wB]
 | (k,x)::r=>by
  have ih:=XU f v r;rw[show wB f v ((k,x)::r)=(if k=f then(k,v)::r else(k,x)::wB f v r)from rfl];by_cases hk:k=f
  · rw[if_pos hk,zd3,zd3];omega
  · rw[if_neg hk,zd3,zd3];omega
theorem Jc.some_of{v:V}{o:Option Value}(r:Jc (some v) o):∃u,o=some u/\RelV v u:=by
 cases o with
 | none=>exact(show False from r).elim
 | some u=>exact⟨u,rfl,r⟩
theorem Jc.none_of{o:Option Value}(r:Jc none o):o=none:=by
 cases o with
 | none=>rfl
 | some u=>exact(show False from r).elim
theorem J6{v:V}{u:Value}(r:RelV v u):PySem.W.handedIn u=true:=by
 cases v with
 | non=>cases (show u=Value.none from r);rfl
 | bl b=>cases (show u=Value.bool b from r);rfl
 | int i=>obtain⟨t,e⟩:=(show ∃t,u=Value.int i t from r);cases e;rfl
 | str x=>obtain⟨t,e⟩:=(show ∃t,u=Value.str x t from r);cases e;rfl
 | Um b=>obtain⟨t,e⟩:=(show ∃t,u=Value.bytes b t from r);cases e;rfl
 | flt b=>obtain⟨t,e⟩:=(show ∃t,u=Value.float b t from r);cases e;rfl
 | ref a=>cases (show u=Value.ref a from r);rfl
 | ty n=>cases (show u=Value.type n from r);rfl
section
variable{P:Program}{w:World}{H H':Hp}{h h':Heap}{a C dx:Addr}{fs fs':List (Str×V)}
theorem zS(hok:Yc P w H h)(e:H a=some (.ins C dx fs)):∃mA,Am h a dx C mA/\(∀f,Jc (fs.lookup f) (mA f))/\PySem.Within mA (fs.map (·.1))/\fs.length<=1000/\H dx=some (.own a):=by obtain⟨d,z,ne,ob,mA,n,r,q⟩:=(show Kf P w H h a (.ins C dx fs)from hok a _ e);exact⟨mA,⟨ob,n,ne⟩,r,q,z,d⟩
end
structure Cls(K:Frag)(C:Addr):Prop where
 pg:PySem.W.plainGet K C Str.empty=true
 hd:PySem.W.hasDictIn K C=true
 po:PySem.W.plainOver K C=true
 sa:findIn K (.ref C) "__setattr__" =some (some (.builtin "object.__setattr__"))
theorem Cls.get{K:Frag}{C:Addr}(c:Cls K C)(f:Str):PySem.W.plainGet K C f=true:=c.pg
noncomputable def Vc(K:Frag)(C:Addr)(f:Str):Prop:=findIn K (.ref C) f=some none
theorem Vc.taker{K:Frag}{C:Addr}{f:Str}(n:Vc K C f):PySem.W.takerIn K C f=some none:=by unfold PySem.W.takerIn;rw[show findIn K (.ref C) f=some none from n];rfl
structure IJ(K:Frag)(C:Addr)(m:Str)(f:Addr):Prop where
 at_:findIn K (.ref C) m=some (some (.ref f))
 fn:PySem.W.isFn K (.ref f)=true
 kp:keepIn K (.ref f)=true
section
variable{X:Cx}{pins:List (Addr×Obj)}{σ:St}{H:Hp}{s:Shared}{a C dx:Addr}{fs:List (Str×V)}{f:Str}{v:V}{A:Around}{E:Value->Shared->Prop}
theorem V5{b:Bool}{Q:Value->Shared->Prop}(I:Inv X pins σ H s)(e:H a=some (.ins C dx fs))(c:Cls X.K C)(n:Vc X.K C f)(l:fs.lookup f=some v)
 (h:∀u s',Inv X pins σ H s'->RelV v u->Q u s'):wpAny (model X.prog X.w) A (getAttr (.ref a) f b) Q E s:=by
 obtain⟨mA,O,r,_,_,_⟩:=zS I.hok e;obtain⟨u,hu,ru⟩:=Jc.some_of (v:=v) (o:=mA f) (by rw[<- l];exact r f);exact jq I.Tn O (c.get f) c.hd n hu (J6 ru) (h u _ (I.tok _) ru)
theorem hV{m:Str}{g:Addr}{pl:Sem Bool}{Q:Value×List Value->Shared->Prop}(I:Inv X pins σ H s)(e:H a=some (.ins C dx fs))(c:Cls X.K C)(k:IJ X.K C m g)(l:fs.lookup m=none)
 (h:Q (.ref g,[.ref a]) s):wpAny (model X.prog X.w) A (getMethod (.ref a) m pl) Q E s:=by
 obtain⟨mA,O,r,_,_,_⟩:=zS I.hok e;have hn:mA m=none:=Jc.none_of (by rw[<- l];exact r m);exact k9 I.Tn O (c.get m) k.at_ k.fn hn h
theorem T5{y:V}{u:Value}{Q:Unit->Shared->Prop}(I:Inv X pins σ H s)(e:H a=some (.ins C dx fs))(c:Cls X.K C)(n:Vc X.K C f)(hl:fs.length<1000)(ry:RelV y u)
 (h:∀s',Inv X pins σ (xB H a (.ins C dx (wB f y fs))) s'->Q () s'):wpAny (model X.prog X.w) A (setAttr (.ref a) f u) Q E s:=by
 obtain⟨mA,O,r,wi,_,ho⟩:=zS I.hok e;have hz:(fs.map (·.1)).length<=sizeLine:=by rw[length_map,sizeLine_eq];omega
 refine Yv I.Tn O c.sa c.po n.taker c.hd wi hz fun h' O' sb=>h _ ?_
 have hd:∃o,h'.get? dx=some o:=let ⟨o,_,_,e',_⟩:=O'.ns;⟨o,e'⟩
 refine I.write (x:=a) (e:=dx) (by rw[e];exact True.intro) (.inr ho) (fun b q hb z=>(sb.2 b hb).trans z) hd ?_;refine⟨by rw[QA O.ne];exact ho,?_,O.ne,O'.obj,_,O'.ns,fun g=>?_,fun g hg=>?_⟩
 · have:=XU f y fs;omega
 · show Jc ((wB f y fs).lookup g) (if g=f then some u else mA g);rw[ZU];by_cases q:g=f
   · rw[if_pos q,if_pos q];exact ry
   · rw[if_neg q,if_neg q];exact r g
 · by_cases q:g=f
   · rw[q];exact(aR f y fs).1
   · refine(aR f y fs).2 g (wi g fun z=>hg ?_);show(if g=f then some u else mA g)=none;rw[if_neg q];exact z
theorem Inv.made(I:Inv X pins σ H s):Inv X pins σ (xB (xB H s.heap.objs.size (.own (s.heap.objs.size+1))) (s.heap.objs.size+1) (.ins C s.heap.objs.size []))
 { s with heap:=(s.heap.push PySem.W.emptyDict).push (PySem.W.instObj C s.heap.objs.size) }:=by
 have e1:(s.heap.push PySem.W.emptyDict).get? s.heap.objs.size=some PySem.W.emptyDict:=Heap.get?_push_size s.heap rfl;have e2:((s.heap.push PySem.W.emptyDict).push (PySem.W.instObj C s.heap.objs.size)).get? (s.heap.objs.size+1)=some (PySem.W.instObj C s.heap.objs.size):=by have:=Heap.get?_push_size (s.heap.push PySem.W.emptyDict) (o:=PySem.W.instObj C s.heap.objs.size) rfl;rwa[Heap.size_push]at this
 have e3:(s.heap.push PySem.W.emptyDict).Ns s.heap.objs.size (fun _=>none):=⟨PySem.W.emptyDict,#[],_,e1,rfl,(fun e he=>absurd he (by simp)),fun _=>rfl⟩;have I1:=I.laid (a:=s.heap.objs.size) (o:=.own (s.heap.objs.size+1)) (h':=s.heap.push PySem.W.emptyDict) (t':=s.toks) (fun b u q=>Heap.get?_push_of_some _ q) (zeg _) ⟨_,e1⟩;refine I1.laid (a:=s.heap.objs.size+1) (o:=.ins C s.heap.objs.size []) (t':=s.toks) (fun b u q=>Heap.get?_push_of_some _ q) (Nat.le_of_eq (Heap.size_push _ _)) ?_;have ne:s.heap.objs.size≠s.heap.objs.size+1:=Nat.ne_of_lt (Nat.lt_succ_self _);refine⟨by rw[QA ne,SC],Nat.zero_le _,ne,e2,fun _=>none,(Heap.Ns1.of_empty e3).at fun o q=>Heap.get?_push_of_some _ q,fun _=>True.intro,fun y hy=>absurd rfl hy⟩
theorem Yq{prog:Program}{w:World}{env:Env}{e:Expr}{f:Str}{pos:Pos}{s:Shared}{Q:Value->Shared->Prop}(hb:attributeBase e f env (eval e env)=eval e env)
 (h:wpAny (model prog w) A (eval e env) (fun o s₁=>wpAny (model prog w) A (getAttr o f true) Q E s₁) E s):wpAny (model prog w) A (eval (.Attribute e f pos) env) Q E s:=
 Attribute_any_ h (by rw[arm_eval_Attribute,hb])
end
def D0(K:Frag)(ta:TE)(f:Str):TE:=fun σ H Q=>ta σ H fun x H1=>∃a C dx fs v,x=.ref a/\H1 a=some (.ins C dx fs)/\Cls K C/\Vc K C f/\fs.lookup f=some v/\Q v H1
def A0(K:Frag)(ta tv:TE)(f:Str):TS:=fun D σ H=>tv σ H fun y H1=>ta σ H1 fun x H2=>∃a C dx fs,x=.ref a/\H2 a=some (.ins C dx fs)/\Cls K C/\Vc K C f/\fs.length<1000/\
 D.nx σ (xB H2 a (.ins C dx (wB f y fs)))
section
variable{X:Cx}{o e value:Expr}{f:Str}{pos pos' tpos:Pos}{ta tv:TE}
theorem Hw(he:PE X e ta)(hb:attributeBase e f X.env (eval e X.env)=eval e X.env):PE X (.Attribute e f pos) (D0 X.K ta f):=by intro pins s σ H Q I h;refine Yq hb (nB (he pins s σ H _ I h) fun u s1 zz=>?_);obtain⟨x,H1,I1,rx,a,C,dx,fs,v,ex,ea,c,n,l,q⟩:=zz;subst ex;obtain rfl:u=Value.ref a:=rx;exact V5 I1 ea c n l fun u' s2 I2 ru=>⟨v,H1,I2,ru,q⟩
theorem Uw(ha:PE X o ta)(hv:PE X value tv)(hs:swapsWith value (some (.Attribute o f pos')) pos.line X.env=pure false):PS X (.Assign [.Attribute o f pos'] value pos) (A0 X.K ta tv f):=by intro pins s σ H D I h;refine plainObj_wpAny_Assign_Attribute (nB (hv pins s σ H _ I h) fun u s1 ⟨y,H1,I1,ry,q⟩=>nB (ha pins s1 σ H1 _ I1 q) fun ov s2 zz=>?_) hs;obtain⟨x,H2,I2,rx,a,C,dx,fs,ex,ea,c,n,l,q2⟩:=zz;subst ex;obtain rfl:ov=Value.ref a:=rx;exact T5 I2 ea c n l ry fun s3 I3=>⟨σ,_,I3,q2⟩
theorem Nr{pl:Sem Bool}{m:Str}{apos:Pos}{args:List Expr}{pins:List (Addr×Obj)}{s:Shared}{σ:St}{H:Hp}{Q:Value->Shared->Prop}{te:TE}(he:PE X e te)(I:Inv X pins σ H s)
 (h:te σ H fun x H1=>∃a C dx fs g,x=.ref a/\H1 a=some (.ins C dx fs)/\Cls X.K C/\IJ X.K C m g/\fs.lookup m=none/\
  ∀s1,Inv X pins σ H1 s1->wpAny (model X.prog X.w) X.A (callWith pos (.ref g) [.ref a] (backTo pos (starEach args X.env)) (backToKw pos (keywordEach [] X.env))) Q X.xe s1)
 (ht:eval (.Call (.Attribute e m apos) args [] pos) X.env=(do
  let ov <- eval e X.env
  standAt apos.atName
  let (f,first) <- holding [ov] (getMethod ov m pl)
  callWith pos f first (backTo pos (starEach args X.env)) (backToKw pos (keywordEach [] X.env)))) :
 wpAny (model X.prog X.w) X.A (eval (.Call (.Attribute e m apos) args [] pos) X.env) Q X.xe s:=by
 refine PySem.W.methodCall_KW (pl:=pl) (nB (he pins s σ H _ I h) fun u s1 zz=>?_) ht;obtain⟨x,H1,I1,rx,a,C,dx,fs,g,ex,ea,c,k,l,q⟩:=zz;subst ex;obtain rfl:u=Value.ref a:=rx;exact hV I1 ea c k l (q s1 I1)
end
section
variable{X:Cx}{pins:List (Addr×Obj)}{σ:St}{H:Hp}{s:Shared}{A:Around}{E:Value->Shared->Prop}{Q:Value->Shared->Prop}{c:Value}{b:Bool}
end
structure Qf(k:Nat)(A:Around):Prop where
 hd:A.handled=none
 dp:A.depth+3*k+5<recursionLimit
 un:A.units+16*k+200<cLine
theorem Qf.mono{j k:Nat}{A:Around}(r:Qf k A)(h:j<=k):Qf j A:=⟨r.hd,by have:=r.dp;omega,by have:=r.un;omega⟩
theorem Qf.deeper{k:Nat}{A:Around}(r:Qf (k+1) A)(env:Env):Qf k (A.deeper env):=
 ⟨r.hd,by have:=r.dp;show A.depth+1+3*k+5<_;omega,by have:=r.un;show A.units+3+16*k+200<_;omega⟩
theorem Z5 {A:Around} {C:Addr} {us:List Value} {kw:List (Str×Value)}:(A.under (.builtin "type.__call__" ⟨.ref C::us,kw⟩)).depth=A.depth+1:=by first | rfl | simp[Around.under,Code.weight,Code.isCreation,Code.isGuard,Code.isCaller,Code.frames,Code.isFrame,guardIds]
theorem d6 {A:Around} {C:Addr} {us:List Value} {kw:List (Str×Value)}:(A.under (.builtin "type.__call__" ⟨.ref C::us,kw⟩)).units=A.units+1:=by first | rfl | simp[Around.under,Code.cUnits,Code.frames,Code.isFrame]
theorem Qf.make {k:Nat} {A:Around} (r:Qf (k+1) A) (C:Addr) (us:List Value) (kw:List (Str×Value)):Qf k (A.under (.builtin "type.__call__" ⟨.ref C::us,kw⟩)):=
 ⟨r.hd,by have:=r.dp;rw[Z5];omega,by have:=r.un;rw[d6];omega⟩
theorem Qf.depth{k:Nat}{A:Around}(r:Qf k A):A.depth<recursionLimit:=by have:=r.dp;omega
theorem Qf.units{k:Nat}{A:Around}(r:Qf k A):A.units+64<cLine:=by have:=r.un;omega
noncomputable def BU:TA:=fun _ H Q=>Q [] H
noncomputable def qZ(ta:TE)(tr:TA):TA:=fun σ H Q=>ta σ H fun x H1=>tr σ H1 fun xs H2=>Q (x::xs) H2
section
variable{X:Cx}{e:Expr}{es:List Expr}{te:TE}{t:TA}{pos:Pos}
theorem vE:PA X [] BU:=fun _ _ _ _ H Q I h=>Calls.spliced_nil ⟨[],H,I,.nil,h⟩
theorem mD(ha:PE X e te)(hr:PA X es t)(hs:starEach (e::es) X.env=(false,eval e X.env)::starEach es X.env:=by rfl):PA X (e::es) (qZ te t):=by intro pos pins s σ H Q I h;rw[hs];show wpAny _ _ (spliced ((false,eval e X.env)::backTo pos (starEach es X.env))) _ _ s;refine Calls.spliced_cons (nB (ha pins s σ H _ I h) fun u s1 zz=>?_);obtain⟨x,H1,I1,r1,q1⟩:=zz;exact nB (hr pos pins s1 σ H1 _ I1 q1) fun us s2 ⟨xs,H2,I2,r2,q2⟩=>⟨x::xs,H2,I2,.cons r1 r2,q2⟩
def O0(t:TA):TE:=fun σ H Q=>t σ H fun xs H1=>xs.length<=sizeLine/\∀p,H1 p=none->Q (.ref p) (xB H1 p (.tup xs))
def AU(t:TA):TE:=fun σ H Q=>t σ H fun xs H1=>xs.length<=sizeLine/\∀p,H1 p=none->Q (.ref p) (xB H1 p (.lst xs))
theorem FY{x1}(h:PA X es t):PE X (.Tuple es x1 pos) (O0 t):=by intro pins s σ H Q I hq;refine wpAny_Tuple_spliced (nB (h pos pins s σ H _ I hq) fun us s1 ⟨xs,H1,I1,r,z,q⟩=>⟨by rw[<- r.length];exact z,?_⟩);have hf:H1 s1.heap.objs.size=none:=I1.hok.fresh (zeg _);refine⟨.ref s1.heap.objs.size,xB H1 s1.heap.objs.size (.tup xs),I1.laid (t':=s1.toks) (fun b u e=>Heap.get?_push_of_some _ e) (zeg _) ?_,rfl,q _ hf⟩;exact⟨z,us,r,⟨_,Heap.get?_push_size _ rfl,rfl,_,rfl⟩⟩
theorem lO(h:PA X es t):PE X (.List es pos) (AU t):=by intro pins s σ H Q I hq;refine wpAny_List_spliced (nB (h pos pins s σ H _ I hq) fun us s1 ⟨xs,H1,I1,r,z,q⟩=>⟨by rw[<- r.length];exact z,?_⟩);have hf:H1 s1.heap.objs.size=none:=I1.hok.fresh (zeg _);refine⟨.ref s1.heap.objs.size,xB H1 s1.heap.objs.size (.lst xs),I1.laid (t':=s1.toks) (fun b u e=>Heap.get?_push_of_some _ e) (zeg _) ?_,rfl,q _ hf⟩;exact⟨z,us,0,r,Heap.get?_push_size _ rfl⟩
end
abbrev Sp:=List V->Hp->VK->XK->Prop
abbrev FJ:=List Env->Hp->Shared->XK->Value->Shared->Prop
structure rm(P:Program)(w:World)(K:Frag)(mg:Str->Option Value)(base:Heap)(A:Around)(outer:List Env)(s:Shared)(H:Hp):Prop where
 frames:A.frames=some outer
 mod:Mod K mg base
 bs:∀b o,base.get? b=some o->s.heap.get? b=some o/\H b=none
 Yp:base.objs.size<=s.heap.objs.size
 Jb:s.heap.FunFrames base outer
 frf:∀b∈NJ outer,H b=none
 hok:Yc P w H s.heap
 bare:AllBare s.gens
def CE(outer:List Env)(P:Program)(w:World)(H:Hp)(s:Shared)(Q:VK)(u:Value)(s':Shared):Prop:=
 ∃v H',s'.os=s.os/\AllBare s'.gens/\Un (NJ outer) [] H H' s.heap s'.heap/\Yc P w H' s'.heap/\RelV v u/\Q v H'
def CR(CX:FJ)(outer:List Env)(P:Program)(w:World)(H:Hp)(s:Shared)(Q:VK)(E:XK)(r:Result)(s':Shared):Prop:=
 match r with
 | .ok (.ret u)=>CE outer P w H s Q u s'
 | .ok _=>False
 | .error e=>CX outer H s E e s'
structure Jd(P:Program)(w:World)(K:Frag)(mg:Str->Option Value)(base:Heap)(CX:FJ)(k:Nat)(f:Addr)(fd:FuncData)(ps:List Str)(sp:Sp):Prop where
 len:∀vs H Q E,sp vs H Q E->vs.length=ps.length
 run:∀(A:Around)(outer:List Env)(s:Shared)(H:Hp)(args:Args)(us:List Value)(vs:List V)(Q:VK)(E:XK),Qf k A->rm P w K mg base A outer s H->BindsTo s fd args (ps.zip us)->Vals vs us->sp vs H Q E->
  codeAny (model P w) A (.call (.ref f) args) (CR CX outer P w H s Q E) s
theorem Jd.mono{P:Program}{w:World}{K:Frag}{mg:Str->Option Value}{base:Heap}{CX:FJ}{j k:Nat}{f:Addr}{fd:FuncData}{ps:List Str}{sp:Sp}(F:Jd P w K mg base CX j f fd ps sp)(h:j<=k) :
 Jd P w K mg base CX k f fd ps sp:=⟨F.len,fun A outer s H args us vs Q E hr=>F.run A outer s H args us vs Q E (hr.mono h)⟩
theorem rm.make{P:Program}{w:World}{K:Frag}{mg:Str->Option Value}{base:Heap}{A:Around}{outer:List Env}{s:Shared}{H:Hp}(e:rm P w K mg base A outer s H)(C:Addr)(us:List Value)(kw:List (Str×Value)) :
 rm P w K mg base (A.under (.builtin "type.__call__" ⟨.ref C::us,kw⟩)) outer s H:=⟨by first | exact e.frames | (simpa[Around.under,Code.envs,Code.isFrame,pushEnvs]using e.frames),e.mod,e.bs,e.Yp,e.Jb,e.frf,e.hok,e.bare⟩
section
variable{X:Cx}{pins:List (Addr×Obj)}{σ:St}{H:Hp}{s s':Shared}
theorem Inv.env0(I:Inv X pins σ H s):rm X.prog X.w X.K X.mg X.base X.A X.stack s H:=
 ⟨I.ok.frames,I.ok.mod,I.bs,Nat.le_trans I.ok.Yp I.sz,I.stack,I.Qm,I.hok,I.bare⟩
theorem Inv.after{Q:VK}{u:Value}(I:Inv X pins σ H s)(h:CE X.stack X.prog X.w H s Q u s'):EP X pins σ Q u s':=by obtain⟨v,H',os,bare,un,hok,r,q⟩:=h;obtain⟨hh,g,d,t,os'⟩:=s';obtain rfl:os'=s.os:=os;exact⟨v,H',I.call (h':=hh) (g':=g) (d':=d) (t':=t) (ch:=[]) un hok bare (fun b z=>absurd z (by simp)),r,q⟩
end
noncomputable def W0(sp:Sp)(Xc:List V)(E:XK)(t:TA):TE:=fun σ H Q=>t σ H fun vs H1=>sp (vs++Xc) H1 Q E
def Z0(C:Addr)(m:Str)(sp:Sp)(Xc:List V)(E:XK)(ta:TE)(t:TA):TE:=fun σ H Q=>ta σ H fun x H1=>∃a dx fs,x=.ref a/\H1 a=some (.ins C dx fs)/\fs.lookup m=none/\
 t σ H1 fun vs H2=>sp (x::(vs++Xc)) H2 Q E
def Y0(C:Addr)(sp:Sp)(Xc:List V)(E:XK)(t:TA):TE:=fun σ H Q=>t σ H fun vs H1=>∀x dx,H1 x=none->H1 dx=none->dx≠x->
 sp (.ref x::(vs++Xc)) (xB (xB H1 dx (.own x)) x (.ins C dx [])) (fun v H2=>v=.non/\Q (.ref x) H2) E
noncomputable def Binds(K:Frag)(fd:FuncData)(ps:List Str)(ds:List Value):Prop:=
 ∀(s:Shared)(us:List Value),K.In s.heap->(us++ds).length=ps.length->BindsTo s fd ⟨us,[]⟩ (ps.zip (us++ds))
theorem Binds.all{K:Frag}{fd:FuncData}{ps:List Str}(h:∀us:List Value,us.length=ps.length->bindArgs fd ⟨us,[]⟩=pure (ps.zip us)):Binds K fd ps []:=fun s us _ hl=>by rw[zei]at hl ⊢;exact .of_eq (h us hl)
def sJ(CX:FJ)(X:Cx)(E:XK):Prop:=∀(pins:List (Addr×Obj))(σ:St)(H:Hp)(s:Shared)(e:Value)(s':Shared),Inv X pins σ H s->CX X.stack H s E e s'->X.xe e s'
section
variable{X:Cx}{CX:FJ}{k:Nat}{f C:Addr}{fd:FuncData}{ps:List Str}{sp:Sp}{Xc:List V}{ds:List Value}{E:XK}{x m:Str}{p pos apos:Pos}{e o:Expr}{es:List Expr}{ta:TE}{t:TA}
theorem KY{pins:List (Addr×Obj)}{σ:St}{H:Hp}{s:Shared}{Q:VK}{us:List Value}{vs:List V}(F:Jd X.prog X.w X.K X.mg X.base CX k f fd ps sp)(hr:Qf k X.A)(hb:Binds X.K fd ps ds)(hd:Vals Xc ds)(hx:sJ CX X E)
 (I:Inv X pins σ H s) (r:Vals vs us) (h:sp (vs++Xc) H Q E):wpAny (model X.prog X.w) X.A (call (.ref f) us) (EP X pins σ Q) X.xe s:=by
 have r2:Vals (vs++Xc) (us++ds):=r.append hd;have hl:(us++ds).length=ps.length:=by rw[<- r2.length];exact F.len _ _ _ _ h
 refine wpAny_call (codeAny_mono (F.run X.A X.stack s H ⟨us,[]⟩ (us++ds) (vs++Xc) Q E hr I.env0 (hb s us I.Tn hl) r2 h) fun r s' hq=>?_);cases r with
 | error e=>exact hx pins σ H s e s' I hq
 | ok fl=>
  cases fl with
  | ret u=>exact I.after hq
  | next=>exact False.elim hq
  | brk=>exact False.elim hq
  | cont=>exact False.elim hq
theorem Vj(F:Jd X.prog X.w X.K X.mg X.base CX k f fd ps sp)(hr:Qf k X.A)(hg:Gl X x)(hm:X.mg x=some (.ref f))(hk:keepIn X.K (.ref f)=true)(hb:Binds X.K fd ps ds)(hd:Vals Xc ds)(hx:sJ CX X E)
 (ha:PA X (e::es) t) (hdb:(x==("__debug__" :Str))=false:=by decide) (he:starEach (e::es) X.env=(false,eval e X.env)::starEach es X.env:=by rfl) (hpl:(backTo pos (starEach es X.env)).any (·.1)=false:=by rfl) :
 PE X (.Call (.Name x p) (e::es) [] pos) (W0 sp Xc E t):=by
 intro pins s σ H Q I h;refine wpAny_Call_Name_kw (AS I hg hm ?_ hdb);refine PySem.W.callWith_K (h₀:=X.base) I.ok.mod.kin hk (nB (ha pos pins s σ H _ I h) fun us s1 ⟨vs,H1,I1,r,q⟩=>⟨I1.Tn,?_⟩) he hpl;exact KY F hr hb hd hx I1 r q
theorem Zj{pl:Sem Bool}(he:PE X o ta)(c:Cls X.K C)(hm:IJ X.K C m f)(F:Jd X.prog X.w X.K X.mg X.base CX k f fd ps sp)(hr:Qf k X.A)(hb:Binds X.K fd ps ds)(hd:Vals Xc ds)(hx:sJ CX X E)(ha:PA X (e::es) t)
 (hst:starEach (e::es) X.env=(false,eval e X.env)::starEach es X.env:=by rfl) (hpl:(backTo pos (starEach es X.env)).any (·.1)=false:=by rfl)
 (ht:eval (.Call (.Attribute o m apos) (e::es) [] pos) X.env=(do
  let ov <- eval o X.env
  standAt apos.atName
  let (f,first) <- holding [ov] (getMethod ov m pl)
  callWith pos f first (backTo pos (starEach (e::es) X.env)) (backToKw pos (keywordEach [] X.env))):=by rfl) :
 PE X (.Call (.Attribute o m apos) (e::es) [] pos) (Z0 C m sp Xc E ta t):=by
 intro pins s σ H Q I h;refine PySem.W.methodCall_KW (pl:=pl) (nB (he pins s σ H _ I h) fun u s1 zz=>?_) ht;obtain⟨x,H1,I1,rx,a,dx,fs,ex,ea,l,q⟩:=zz;subst ex;obtain rfl:u=Value.ref a:=rx;refine hV I1 ea c hm l ?_;refine PySem.W.callWith_K (first:=[.ref a]) (h₀:=X.base) I.ok.mod.kin hm.kp (nB (ha pos pins s1 σ H1 _ I1 q) fun us s2 ⟨vs,H2,I2,r,q2⟩=>⟨I2.Tn,?_⟩) hst hpl;exact KY (us:=.ref a::us) (vs:=.ref a::vs) F hr hb hd hx I2 (.cons rfl r) q2
structure Mk(K:Frag)(C f:Addr):Prop where
 makes:PySem.W.makesIn K C=true
 init:findIn K (.ref C) "__init__" =some (some (.ref f))
 fn:PySem.W.isFn K (.ref f)=true
 kp:keepIn K (.ref C)=true
theorem Aj{pins:List (Addr×Obj)}{σ:St}{H:Hp}{s:Shared}{Q:VK}{us:List Value}{vs:List V}(M:Mk X.K C f)(F:Jd X.prog X.w X.K X.mg X.base CX k f fd ps sp)(hr:Qf (k+1) X.A)(hb:Binds X.K fd ps ds)(hd:Vals Xc ds)
 (hx:sJ CX X E) (I:Inv X pins σ H s) (r:Vals vs us)
 (h:∀x dx,H x=none->H dx=none->dx≠x->sp (.ref x::(vs++Xc)) (xB (xB H dx (.own x)) x (.ins C dx [])) (fun v H2=>v=.non/\Q (.ref x) H2) E) :
 wpAny (model X.prog X.w) X.A (call (.ref C) us) (EP X pins σ Q) X.xe s:=by
 have hq:=h (s.heap.objs.size+1) s.heap.objs.size (I.hok.fresh (Nat.le_succ _)) (I.hok.fresh (zeg _)) (Nat.ne_of_lt (Nat.lt_succ_self _));have I2:=Inv.made (C:=C) I;have r2:Vals (V.ref (s.heap.objs.size+1)::(vs++Xc)) (Value.ref (s.heap.objs.size+1)::(us++ds)):=.cons rfl (r.append hd);have hl:(Value.ref (s.heap.objs.size+1)::us++ds).length=ps.length:=by have e:=r2.length;rw[F.len _ _ _ _ hq]at e;exact e.symm
 refine wpAny_call (D9 (f:=f) I.Tn M.makes M.init (beq_iff_eq.mp M.fn) (codeAny_mono (F.run _ X.stack _ _ ⟨Value.ref (s.heap.objs.size+1)::us,[]⟩ (Value.ref (s.heap.objs.size+1)::(us++ds)) _ _ E (hr.make C us [])
  (I2.env0.make C us []) (hb _ (Value.ref (s.heap.objs.size+1)::us) I2.Tn hl) r2 hq) fun r s' hq'=>?_))
 cases r with
 | error e=>exact hx pins σ _ _ e s' I2 hq'
 | ok fl=>
  cases fl with
  | ret u=>obtain⟨v,H',I3,rv,ev,q3⟩:=I2.after hq';subst ev;exact⟨rv,⟨V.ref (s.heap.objs.size+1),H',I3,rfl,q3⟩⟩
  | next=>exact False.elim hq'
  | brk=>exact False.elim hq'
  | cont=>exact False.elim hq'
theorem Yj(M:Mk X.K C f)(F:Jd X.prog X.w X.K X.mg X.base CX k f fd ps sp)(hr:Qf (k+1) X.A)(hg:Gl X x)(hm:X.mg x=some (.ref C))(hb:Binds X.K fd ps ds)(hd:Vals Xc ds)(hx:sJ CX X E)
 (ha:PA X (e::es) t) (hdb:(x==("__debug__" :Str))=false:=by decide) (he:starEach (e::es) X.env=(false,eval e X.env)::starEach es X.env:=by rfl) (hpl:(backTo pos (starEach es X.env)).any (·.1)=false:=by rfl) :
 PE X (.Call (.Name x p) (e::es) [] pos) (Y0 C sp Xc E t):=by
 intro pins s σ H Q I h;refine wpAny_Call_Name_kw (AS I hg hm ?_ hdb);refine PySem.W.callWith_K (h₀:=X.base) I.ok.mod.kin M.kp (nB (ha pos pins s σ H _ I h) fun us s1 ⟨vs,H1,I1,r,q⟩=>⟨I1.Tn,?_⟩) he hpl;exact Aj M F hr hb hd hx I1 r q
end
section
variable{X:Cx}{CX:FJ}{k:Nat}{f C:Addr}{fd:FuncData}{ps ks:List Str}{sp:Sp}{E:XK}{x m:Str}{p pos apos kpos:Pos}{e o:Expr}{es:List Expr}{kws:List Keyword}{te ta:TE}{t tk:TA}{nm:Option Str}
variable{g:List Value->List Value->List Value}{gV:List V->List V->List V}
end
structure WA(N P:List Str)(sc:Scope):Prop where
 kind:sc.kind=.function
 co:sc.isCoroutine=false
 gen:sc.isGenerator=false
 nd:N.Nodup
 pre:N.take P.length=P
 par:∀x∈P,sc.names.lookup x=some .local\/sc.names.lookup x=some .cell
 zax:∀y∈sc.names,y.2≠.free
theorem VV{kindOf:Str->Option NameKind}{x:Str}:∀{binds:List (Str×Value)}{m:Str->Option Value},(∀v,(x,v)∉binds)->bindL kindOf binds m x=m x
 | [],_,_=>rfl
 | (n,v)::r,m,h=>by
  unfold bindL;rw[VV fun w hw=>h w (mem_cons_of_mem _ hw)];split
  · have:x≠n:=by rintro rfl;exact h v mem_cons_self
    simp[this]
  · rfl
theorem TV{kindOf:Str->Option NameKind}{x:Str}:∀{binds:List (Str×Value)}{m:Str->Option Value},(∀v,(x,v)∉binds)->bindC kindOf binds m x=m x
 | [],_,_=>rfl
 | (n,v)::r,m,h=>by
  unfold bindC;rw[TV fun w hw=>h w (mem_cons_of_mem _ hw)];split
  · rfl
  · have:x≠n:=by rintro rfl;exact h v mem_cons_self
    simp[this]
theorem UV{kindOf:Str->Option NameKind}{x:Str}{v:Value}:∀{P:List Str}{vs:List Value}{i:Nat}{m:Str->Option Value},P.Nodup->P[i]?=some x->vs[i]?=some v->kindOf x=some .local->
 bindL kindOf (P.zip vs) m x=some v
 | [],_,_,_,_,h,_,_=>by simp at h
 | _::_,[],_,_,_,_,h,_=>by simp at h
 | p::P,w::vs,0,m,nd,h1,h2,hk=>by simp at h1 h2;subst h1;subst h2;show bindL kindOf ((p,w)::P.zip vs) m p=_;unfold bindL;rw[VV fun v hv=>(nodup_cons.mp nd).1 (of_mem_zip hv).1,if_pos hk];simp
 | p::P,w::vs,i+1,m,nd,h1,h2,hk=>by show bindL kindOf ((p,w)::P.zip vs) m x=_;unfold bindL;exact UV (i:=i) (nodup_cons.mp nd).2 (by simpa using h1) (by simpa using h2) hk
theorem SV{kindOf:Str->Option NameKind}{x:Str}{v:Value}:∀{P:List Str}{vs:List Value}{i:Nat}{m:Str->Option Value},P.Nodup->P[i]?=some x->vs[i]?=some v->kindOf x≠some .local->
 bindC kindOf (P.zip vs) m x=some v
 | [],_,_,_,_,h,_,_=>by simp at h
 | _::_,[],_,_,_,_,h,_=>by simp at h
 | p::P,w::vs,0,m,nd,h1,h2,hk=>by simp at h1 h2;subst h1;subst h2;show bindC kindOf ((p,w)::P.zip vs) m p=_;unfold bindC;rw[TV fun v hv=>(nodup_cons.mp nd).1 (of_mem_zip hv).1,if_neg hk];simp
 | p::P,w::vs,i+1,m,nd,h1,h2,hk=>by show bindC kindOf ((p,w)::P.zip vs) m x=_;unfold bindC;exact SV (i:=i) (nodup_cons.mp nd).2 (by simpa using h1) (by simpa using h2) hk
noncomputable def gF(N:List Str)(vs:List V):St:=vs.map some++List.replicate (N.length-vs.length) none
noncomputable def kF(CX:FJ)(P:Program)(w:World)(K:Frag)(mg:Str->Option Value)(base:Heap)(N:List Str)(qual:Str)(scope:Scope)(f:Addr)(cd:Value)(A:Around)(outer:List Env)(s:Shared)(H:Hp)(E:XK):Cx where
 prog:=P
 w:=w
 K:=K
 mg:=mg
 base:=base
 A:=A.deeper (envOfC qual scope s.heap.objs.size f cd)
 N:=N
 s₀:=s
 H₀:=H
 env:=envOfC qual scope s.heap.objs.size f cd
 outer:=outer
 stack:=envOfC qual scope s.heap.objs.size f cd::outer
 ex:=[]
 calm:=true
 fn:=fun _=>true
 pn:=[]
 xe:=fun e s'=>wpAny (model P w) (A.deeper (envOfC qual scope s.heap.objs.size f cd)) (leaving (envOfC qual scope s.heap.objs.size f cd) e) (fun _ s''=>CX outer H s E e s'') (fun e' s''=>CX outer H s E e' s'') s'
theorem xW{sc:Scope}{n:Nat}{x:Str}(h:sc.names.lookup x=some .cell):∃c,(cellsFrom n sc.names []).lookup x=some c:=by have q:=PySem.W.cellsFrom_some sc.names n [] (.inl h);exact Option.isSome_iff_exists.mp q
theorem t8{CX:FJ}{P:Program}{w:World}{K:Frag}{mg:Str->Option Value}{base:Heap}{N ps:List Str}{qual:Str}{scope:Scope}{f:Addr}{cd:Value}{A:Around}{outer:List Env}{s s1:Shared}{H:Hp}{E:XK}{us:List Value}{vs:List V}
 (S:WA N ps scope) (hd:A.handled=none) (e0:rm P w K mg base A outer s H) (hl:vs.length=ps.length) (r:Vals vs us)
 (x:InCallC s s.heap.objs.size (bindL (envOfC qual scope s.heap.objs.size f cd).kindOf (ps.zip us) fun _=>none) (cellsFrom (s.heap.objs.size+1) scope.names []) (bindC (envOfC qual scope s.heap.objs.size f cd).kindOf (ps.zip us) fun _=>none) s1) :
 Inv (kF CX P w K mg base N qual scope f cd A outer s H E) [] (gF N vs) H s1:=by
 have hpl:ps.length<=N.length:=by have:=congrArg List.length S.pre;rw[length_take]at this;omega
 obtain⟨h1,tk,rfl,hk⟩:=x.done;have noA:∀b:Addr,b∉(kF CX P w K mg base N qual scope f cd A outer s H E).ex:=fun b z=>absurd (show b∈([]:List Addr)from z) (by simp)
 refine⟨⟨e0.mod,S.kind,rfl,rfl,zeg _,fun y z c h1 h2=>?_,fun y hy=>?_,fun y c _ h=>?_,fun _=>hd,Around.frames_deeper e0.frames,.inr ⟨rfl,rfl⟩,fun b z=>absurd z (noA b),e0.bs,e0.Yp,fun b _ _=>noA b,fun b z=>absurd z (noA b),e0.Jb,e0.frf⟩,
  rfl,e0.bare,Un.kept hk,⟨_,x.toInCall.ns,fun i y v h1 h2 h3=>?_⟩,fun y c h=>⟨_,x.cell y c h⟩,e0.hok.fresh (zeg _),fun y c h=>?_,fun p hp=>absurd (show p∈([]:List (Addr×Obj))from hp) (by simp),e0.hok.kept hk,?_⟩
 · exact name_of_addr x.apart (PySem.mem_of_lookup h1) (PySem.mem_of_lookup h2)
 · have hy:scope.names.lookup y=some .cell\/scope.names.lookup y=some .free:=hy;rcases hy with hy | hy
   · exact xW hy
   · exact absurd rfl (S.zax _ (PySem.mem_of_lookup hy))
 · exact Nat.le_of_lt (x.above y c (PySem.mem_of_lookup h))
 · have hi:i<vs.length:=by
    unfold gF at h2;by_cases hi:i<vs.length
    · exact hi
    · rw[zeh (by simpa using hi)]at h2;rw[getElem?_replicate]at h2;split at h2<;>cases h2
   have ha:vs[i]?=some v:=by
    unfold gF at h2;rw[zee (by simpa using hi),getElem?_map]at h2;cases e:vs[i]? with
    | none=>rw[e]at h2;cases h2
    | some a=>rw[e]at h2;cases h2;rfl
   obtain⟨u,hu,rv⟩:=r.get ha;have hp:ps[i]?=some y:=by rw[<- S.pre,getElem?_take_of_lt (by omega)];exact h1
   have ndP:ps.Nodup:=by rw[<- S.pre];exact S.nd.sublist (take_sublist _ _)
   refine⟨u,rv,?_⟩;rcases S.par y (mem_of_getElem? hp)with k | k
   · exact .inl ⟨k,UV ndP hp hu k⟩
   · obtain⟨c,e⟩:=xW (n:=s.heap.objs.size+1) k;refine .inr ⟨.inl k,c,e,?_⟩;have q:=x.cell y c e;rw[SV ndP hp hu (by show scope.names.lookup y≠_;rw[k];decide)]at q;exact q
 · exact e0.hok.fresh (Nat.le_of_lt (x.above y c (PySem.mem_of_lookup h)))
 · unfold gF;show _=N.length;rw[length_append,length_map,length_replicate];omega
theorem eZ{CX:FJ}{P:Program}{w:World}{K:Frag}{mg:Str->Option Value}{base:Heap}{k:Nat}{f:Addr}{name qual:Str}{params:Arguments}{body:List Stmt}{scope:Scope}{dV kV doc pm cdv ct oc:Value}{an od:Option Addr}
 {osl:Array (Option Value)} {N ps:List Str} {sp:Sp} (lk:K.lookup f=some ⟨oc,od,.func (fnOf name qual params body scope dV kV doc pm an cdv ct),osl⟩) (hcd:PySem.W.codeIn K cdv qual=true) (S:WA N ps scope)
 (len:∀vs H Q E,sp vs H Q E->vs.length=ps.length)
 (hbody:∀(A:Around)(outer:List Env)(s:Shared)(H:Hp)(vs:List V)(Q:VK)(E:XK),Qf k (A.deeper (envOfC qual scope s.heap.objs.size f cdv))->sp vs H Q E->
  ∃t,Qn (kF CX P w K mg base N qual scope f cdv A outer s H E) body t/\t { nx:=fun _ H'=>Q .non H',rt:=Q } (gF N vs) H) :
 Jd P w K mg base CX (k+1) f (fnOf name qual params body scope dV kV doc pm an cdv ct) ps sp:=by
 refine⟨len,fun A outer s H args us vs Q E hr e0 hb r hsp=>?_⟩;have hl:=len _ _ _ _ hsp;have KX:K.In s.heap:=e0.mod.kin.keeps fun b o e=>(e0.bs b o e).1
 have lim:s.heap.NoLimit:=e0.mod.nolimit.keeps fun b o e=>(e0.bs b o e).1
 have hkind:∀y∈ps.zip us,scope.names.lookup y.1=some .local\/(scope.names.lookup y.1=some .cell/\((cellsFrom (s.heap.objs.size+1) scope.names []).lookup y.1).isSome=true):=fun zz hy=>by
  obtain⟨n,v⟩:=zz;rcases S.par n (of_mem_zip hy).1 with q | q
  · exact .inl q
  · exact .inr ⟨q,PySem.W.cellsFrom_some _ _ _ (.inl q)⟩
 refine codeAny_call_function hr.depth (KX _ _ lk) rfl S.co S.gen rfl (PySem.W.codeRec_of KX hcd) (hb _ _ _ _ ?_);refine wpAny_newFunctionEnv_cells S.kind hkind fun env he s1 x=>?_
 subst he;refine⟨lim.keeps x.toInCall.keep,codeAny_func ?_⟩;obtain⟨t,ht,hq⟩:=hbody A outer s H vs Q E (hr.deeper _) hsp;have I:Inv (kF CX P w K mg base N qual scope f cdv A outer s H E) [] (gF N vs) H s1:=t8 S hr.hd e0 hl r x;refine wpAny_mono (ht [] s1 (gF N vs) H _ I hq) (fun fl s' hs=>?_) fun e s' hs=>hs
 have fin:∀{σ':St}{H':Hp}{v:V}{u:Value},Inv (kF CX P w K mg base N qual scope f cdv A outer s H E) [] σ' H' s'->RelV v u->Q v H'->CE outer P w H s Q u s':=
  fun {σ' H' v u} J rv q=>⟨v,H',J.os,J.bare,J.base,J.hok,rv,q⟩
 cases fl with
 | ret u=>obtain⟨v,σ',H',J,rv,q⟩:=hs;exact fin J rv q
 | next=>obtain⟨σ',H',J,q⟩:=hs;exact fin (v:=V.non) (u:=Value.none) J rfl q
 | brk=>obtain⟨_,_,_,q⟩:=hs;exact False.elim q
 | cont=>obtain⟨_,_,_,q⟩:=hs;exact False.elim q
section
variable{X:Cx}{x:Str}{p pos:Pos}{e:Expr}{es:List Expr}{t:TA}{id T:String}{r:List V->Hp->VK->Prop}
noncomputable def Kh(r:List V->Hp->VK->Prop)(t:TA):TE:=fun σ H Q=>t σ H fun vs H1=>r vs H1 Q
theorem IN (hc:Xf X (.builtin id) r) (hg:Gl X x) (hm:X.mg x=none) (hv:bootBuiltins x=some (.builtin id)) (ha:PA X (e::es) t) (hn:x ≠ "__name__" :=by decide) (hdb:(x==("__debug__" :Str))=false:=by decide)
 (he:starEach (e::es) X.env=(false,eval e X.env)::starEach es X.env:=by rfl) (hpl:(backTo pos (starEach es X.env)).any (·.1)=false:=by rfl):PE X (.Call (.Name x p) (e::es) [] pos) (Kh r t):=by
 intro pins s σ H Q I h;refine wpAny_Call_Name_kw (sH I hg hm hv ?_ hn hdb);exact PyProof.Rows.callWith_builtin1 (nB (ha pos pins s σ H _ I h) fun us s1 ⟨vs,H1,I1,r1,q1⟩=>hc pins s1 σ H1 vs us Q I1 r1 q1) he hpl
theorem Y7 (hc:Xf X (.type T) r) (hg:Gl X x) (hm:X.mg x=none) (hv:bootBuiltins x=some (.type T)) (ha:PA X (e::es) t) (hn:x ≠ "__name__" :=by decide) (hdb:(x==("__debug__" :Str))=false:=by decide)
 (he:starEach (e::es) X.env=(false,eval e X.env)::starEach es X.env:=by rfl) (hpl:(backTo pos (starEach es X.env)).any (·.1)=false:=by rfl):PE X (.Call (.Name x p) (e::es) [] pos) (Kh r t):=by
 intro pins s σ H Q I h;refine wpAny_Call_Name_kw (sH I hg hm hv ?_ hn hdb);exact PyProof.Rows.callWith_type1 (nB (ha pos pins s σ H _ I h) fun us s1 ⟨vs,H1,I1,r1,q1⟩=>hc pins s1 σ H1 vs us Q I1 r1 q1) he hpl
end
end L2
namespace HT
section
open PySem.SeqAt
open PySem.AutoSeq1 (wpAny_loadPart')
open PySem.MeetsSeq PySem.MeetsSeq2 PySem.MeetsSeq3
end
section
variable{prog:Program}{w:World}{A:Around}{E:Value->Shared->Prop}{s:Shared}
theorem Kp{t b:Addr}{vs ws:List Value}{Q:Value->Shared->Prop}(ht:IsTup s.heap t vs.toArray)(hb:IsTup s.heap b ws.toArray)(hv:vs ≠ [])
 (h1:ws=[]->Q (.ref t) s) (h2:ws ≠ []->Q (.ref s.heap.objs.size) { s with heap:=s.heap.push { cls:=.type "tuple",data:=.seq (vs++ws).toArray } })
 (hsz:vs.length+ws.length<=sizeLine):wpAny (model prog w) A (binaryOp .Add (.ref t) (.ref b)) Q E s:=by
 obtain⟨⟨cls,dd,data,sl⟩,ho,hc,n,hd⟩:=id ht;obtain⟨⟨cls2,dd2,data2,sl2⟩,ho2,hc2,n2,hd2⟩:=id hb;simp only at hc hd hc2 hd2;subst hc hd hc2 hd2;have e:vs.toArray++ws.toArray=(vs++ws).toArray:=by simp
 by_cases hw:ws=[]
 · exact concat_meets ⟨_,ho,rfl⟩ ⟨_,ho2,rfl⟩ noFill_tuple_add seq_tuple_add PySem.F.slot_tuple_add PySem.F.entry_tuple_add (PySem.F.args_tuple_add_2 _ _)
    (tuple_addW1 t b vs.toArray ws.toArray n n2 dd dd2 sl sl2 (by simpa using hv) (by simp[hw])) ⟨ho,ho2,h1 hw⟩
 · refine concat_meets ⟨_,ho,rfl⟩ ⟨_,ho2,rfl⟩ noFill_tuple_add seq_tuple_add PySem.F.slot_tuple_add PySem.F.entry_tuple_add (PySem.F.args_tuple_add_2 _ _)
    (tuple_addW2 t b vs.toArray ws.toArray n n2 dd dd2 sl sl2 (by simpa using hv) (by simpa using hw) (by rw[size_toArray,size_toArray];exact hsz)) ⟨ho,ho2,?_⟩
   rw[e];exact h2 hw
noncomputable def Xn(n d:Nat):Option Int->Nat
 | none=>d
 | some v=>if v<0 then(v+(n:Int)).toNat else min v.toNat n
end
end HT
namespace L2
abbrev TO:=St->Hp->(Option Int->Hp->Prop)->Prop
def PO(X:Cx)(e:Option Expr)(t:TO):Prop:=
 ∀(pins:List (Addr×Obj))(s:Shared)(σ:St)(H:Hp)(Q:Option Int->Hp->Prop),Inv X pins σ H s->t σ H Q->
  wpAny (model X.prog X.w) X.A (evalPart e X.env) (fun u s'=>∃o H',Inv X pins σ H' s'/\IsPart u o/\Q o H') X.xe s
noncomputable def bw:TO:=fun _ H Q=>Q none H
noncomputable def F1(t:TE):TO:=fun σ H Q=>t σ H fun x H1=>∃i,x=.int i/\Q (some i) H1
theorem YM{ns:List Int}:∀{us:List Value},Vals (ns.map V.int) us->IntsAre us ns:=by
 induction ns with
 | nil=>intro us r;rw[zd6]at r;cases r;exact .nil
 | cons n ns ih=>
  intro us r;rw[zd5]at r;cases r with
  | cons r1 r2=>obtain⟨t,e⟩:=r1;subst e;exact .cons n t (ih r2)
section
variable{X:Cx}{e:Expr}{te:TE}{lo hi:Option Expr}{tl th:TO}{pos p2:Pos}
theorem Dv:PO X none bw:=by intro pins s σ H Q I h;rw[evalPart_none];exact wpAny_pure ⟨none,H,I,.none,h⟩
theorem Fv(h:PE X e te):PO X (some e) (F1 te):=by
 intro pins s σ H Q I hw;rw[evalPart_some];refine nB (h pins s σ H _ I hw) fun u s1 zz=>?_
 obtain⟨x,H1,I1,r1,q1⟩:=zz;obtain⟨i,rfl,q⟩:=q1;obtain⟨t,rfl⟩:=r1;exact⟨some i,H1,I1,.int i t,q⟩
def oh(X:Cx)(r:V->Option Int->Option Int->Hp->VK->Prop):Prop:=
 ∀(pins:List (Addr×Obj))(s:Shared)(σ:St)(H:Hp)(x:V)(v vl vu:Value)(lo hi:Option Int)(sl:Addr)(Q:VK),Inv X pins σ H s->RelV x v->s.heap.IsSliceOf sl vl vu .none->IsPart vl lo->IsPart vu hi->r x lo hi H Q->
  ∃T id,typeLookup (.type T) "__getitem__" =pure (some (.builtin id))/\s.TypeIs v T/\wpAny (model X.prog X.w) X.A (getItem v (.ref sl)) (EP X pins σ Q) X.xe s
noncomputable def yt(r:V->Option Int->Option Int->Hp->VK->Prop)(te:TE)(tl th:TO):TE:=fun σ H Q=>te σ H fun x H1=>tl σ H1 fun l H2=>th σ H2 fun u H3=>r x l u H3 Q
theorem Y8{r:V->Option Int->Option Int->Hp->VK->Prop}(hr:oh X r)(he:PE X e te)(hl:PO X lo tl)(hu:PO X hi th):PE X (.Subscript e (.Slice lo hi none p2) pos) (yt r te tl th):=by
 intro pins s σ H Q I h;refine Subscript_ (nB (he pins s σ H _ I h) fun v s1 zz=>?_);obtain⟨x,H1,I1,r1,q1⟩:=zz;refine wpAny_Slice (nB (hl pins s1 σ H1 _ I1 q1) fun vl s2 ⟨l,H2,I2,pl,q2⟩=>nB (hu pins s2 σ H2 _ I2 q2) fun vu s3 zz=>?_);obtain⟨u,H3,I3,pu,q3⟩:=zz;rw[evalPart_none];refine wpAny_pure ?_;have I4:Inv X pins σ H3 { s3 with heap:=s3.heap.push { cls:=.type "slice",data:=.fields #[vl,vu,.none] } }:=I3.kept (t':=s3.toks) fun b ob q=>Heap.get?_push_of_some _ q
 obtain⟨T,id,hT,ht,hg⟩:=hr pins { s3 with heap:=s3.heap.push { cls:=.type "slice",data:=.fields #[vl,vu,.none] } } σ H3 x v vl vu l u s3.heap.objs.size Q I4 r1 (Heap.IsSliceOf.new ..) pl pu q3;show wpAny (model X.prog X.w) X.A (subscriptTail e (.Slice lo hi none p2) v (.ref s3.heap.objs.size)) (EP X pins σ Q) X.xe { s3 with heap:=s3.heap.push { cls:=.type "slice",data:=.fields #[vl,vu,.none] } };exact tail_any (ops:=[.ref s3.heap.objs.size,v]) ht hT hg (by with_unfolding_all rfl)
def EI(xs:List V)(lo hi:Option Int):List V:=(xs.drop (HT.Xn xs.length 0 lo)).take (HT.Xn xs.length xs.length hi-HT.Xn xs.length 0 lo)
theorem N4(xs:List V)(lo hi:Option Int):(EI xs lo hi).length<=xs.length:=by unfold EI;rw[length_take,length_drop];omega
def Dy(K:Frag):R2:=fun x y H Q=>∃a b xs ys,x=.ref a/\y=.ref b/\VG K H a xs/\VG K H b ys/\xs ≠ []/\xs.length+ys.length<=sizeLine/\
 (ys=[]->Q (.ref a) H)/\(ys ≠ []->∀p,H p=none->Q (.ref p) (xB H p (.tup (xs++ys))))
theorem Vals.Vn{xs:List V}{us:List Value}(r:Vals xs us):us=[]↔xs=[]:=by
 cases r with
 | nil=>simp
 | cons _ _=>simp
theorem Rj:Kd X (binaryOp .Add) (Dy X.K):=by intro pins s σ H x y v u Q I rx ry h;obtain⟨a,b,xs,ys,rfl,rfl,ha,hb,hx,hz,q1,q2⟩:=h;cases rx;cases ry;obtain⟨its,r1,p1,_⟩:=I.tuple ha;obtain⟨its2,r2,p2,_⟩:=I.tuple hb;refine HT.Kp p1 p2 (fun z=>hx (r1.Vn.mp z)) (fun z=>⟨.ref a,H,I,rfl,q1 (r2.Vn.mp z)⟩) (fun z=>?_) (by rw[<- r1.length,<- r2.length];exact hz);refine⟨.ref s.heap.objs.size,_,I.laid (t':=s.toks) (o:=.tup (xs++ys)) (fun b ob q=>Heap.get?_push_of_some _ q) (zeg _) ?_,rfl,q2 (fun w=>z (r2.Vn.mpr w)) _ (I.hok.fresh (zeg _))⟩;exact⟨by rw[length_append];exact hz,_,r1.append r2,IsTup.new _ _⟩
end
noncomputable def QG(n:Nat)(i:Int):Option Nat:=if 0<=i then(if i<n then some i.toNat else none)else if -(n:Int)<=i then some (i+n).toNat else none
def Xd{α:Type}(xs:List α)(i:Int):Option α:=(QG xs.length i).bind fun j=>xs[j]?
theorem BX{n:Nat}{i:Int}{j:Nat}(h:QG n i=some j):seqIndex? i n=some j/\j<n/\-(n:Int)<=i/\i<n:=by
 unfold QG at h;by_cases h0:0<=i
 · rw[if_pos h0]at h;by_cases h1:i<n
   · rw[if_pos h1]at h;have e:i.toNat=j:=Option.some.inj h;exact⟨by rw[seqIndex_of h0 h1,e],by omega,by omega,h1⟩
   · rw[if_neg h1]at h;cases h
 · rw[if_neg h0]at h;by_cases h1:-(n:Int)<=i
   · rw[if_pos h1]at h;have e:(i+n).toNat=j:=Option.some.inj h;exact⟨by rw[seqIndex_neg (by omega) h1,e],by omega,h1,by omega⟩
   · rw[if_neg h1]at h;cases h
theorem OS{α:Type}{xs:List α}{i:Int}{v:α}(h:Xd xs i=some v):∃j,seqIndex? i xs.length=some j/\xs[j]?=some v/\j<xs.length/\-(xs.length:Int)<=i/\i<xs.length:=by
 unfold Xd at h;cases e:QG xs.length i with
 | none=>rw[e]at h;cases h
 | some j=>rw[e]at h;obtain⟨h1,h2,h3,h4⟩:=BX e;exact⟨j,h1,h,h2,h3,h4⟩
theorem CC{α:Type}{xs:List α}{j:Nat}{v:α}(h:xs[j]?=some v):Xd xs (j:Int)=some v:=by
 have hj:j<xs.length:=(zed h).1;have e:QG xs.length (j:Int)=some j:=by unfold QG;rw[if_pos (by omega),if_pos (by omega)];simp
 unfold Xd;rw[e];exact h
noncomputable def YX(b:Expr):Prop:=∀o i,subscripted b false o i=operate [o,i] (getItem o i)
def Gp(X:Cx)(r:R2):Prop:=
 ∀(value slice:Expr)(pins:List (Addr×Obj))(s:Shared)(σ:St)(H:Hp)(x y:V)(v u:Value)(Q:VK),Inv X pins σ H s->RelV x v->RelV y u->r x y H Q->
  subscripted slice false v u=operate [v,u] (getItem v u)->wpAny (model X.prog X.w) X.A (subscriptTail value slice v u) (EP X pins σ Q) X.xe s
def Oh(X:Cx)(id:String)(r:V->List V->Hp->VK->Prop):Prop:=
 ∀(pins:List (Addr×Obj))(s:Shared)(σ:St)(H:Hp)(x:V)(xs:List V)(v:Value)(us:List Value)(Q:VK),Inv X pins σ H s->RelV x v->Vals xs us->r x xs H Q->
  wpAny (model X.prog X.w) X.A (call (.builtin id) (v::us)) (EP X pins σ Q) X.xe s
section
variable{X:Cx}{a b:Expr}{ta tb:TE}{pos:Pos}
theorem Gp.or{r r':R2}(h:Gp X r)(h':Gp X r'):Gp X (fun x y H Q=>r x y H Q\/r' x y H Q):=by
 intro value slice pins s σ H x y v u Q I rx ry q hs;rcases q with q | q
 · exact h value slice pins s σ H x y v u Q I rx ry q hs
 · exact h' value slice pins s σ H x y v u Q I rx ry q hs
theorem Bg{r:R2}(hr:Gp X r)(ha:PE X a ta)(hb:PE X b tb)(hs:YX b):PE X (.Subscript a b pos) (CU r ta tb):=by intro pins s σ H Q I h;exact Subscript_ (ZO ha hb I h fun v u s2 x y H2 I2 rx ry q=>hr a b pins s2 σ H2 x y v u Q I2 rx ry q (hs _ _))
def uU(K:Frag):R2:=fun x y H Q=>∃p xs i v,x=.ref p/\y=.int i/\Qd K H p xs/\Xd xs i=some v/\Q v H
def wU(K:Frag):R2:=fun x y H Q=>∃p xs i v,x=.ref p/\y=.int i/\VG K H p xs/\Xd xs i=some v/\Q v H
def vU:R2:=fun x y H Q=>∃z i c,x=.str z/\y=.int i/\z.length<=sizeLine/\Xd z.cps.toList i=some c/\Q (.str ⟨#[c]⟩) H
theorem Mp:Gp X (uU X.K):=by
 intro value slice pins s σ H x y v u Q I rx ry h hs;obtain⟨p,xs,i,z,rfl,rfl,hq,he,q⟩:=h;cases rx;obtain⟨t,rfl⟩:=ry;obtain⟨its,r,pl,hz⟩:=I.list hq;obtain⟨j,h1,h2,h3,h4,h5⟩:=OS he;obtain⟨w,ew,rw'⟩:=r.get h2;have hl:=r.length;have hn:=wJ;have fin:EP X pins σ Q w s:=⟨z,H,I,rw',q⟩;by_cases h0:0<=i
 · have hj:i.toNat=j:=by rw[seqIndex_of h0 h5]at h1;exact Option.some.inj h1
   exact item_listR pl.isList h0 (by omega) (by rw[hj];simpa using ew) fin hs
 · have hj:(i+(its.toArray.size:Int)).toNat=j:=by rw[seqIndex_neg (by omega) h4]at h1;rw[size_toArray,<- hl];exact Option.some.inj h1
   exact subscriptTail_builtinR (x:=w) pl.isList.typeIs slot_list_getitem.lookup
    (wpAny_getItem_list_neg (Q:=fun r s'=>r=w/\EP X pins σ Q r s') pl.isList (by omega) (by rw[size_toArray]<;>omega) (by omega) (by rw[hj];simpa using ew) ⟨rfl,fin⟩) hs
theorem zar:Gp X (wU X.K):=by
 intro value slice pins s σ H x y v u Q I rx ry h hs;obtain⟨p,xs,i,z,rfl,rfl,hq,he,q⟩:=h;cases rx;obtain⟨t,rfl⟩:=ry;obtain⟨its,r,pl,hz⟩:=I.tuple hq;obtain⟨j,h1,h2,h3,h4,h5⟩:=OS he;obtain⟨w,ew,rw'⟩:=r.get h2;have hl:=r.length;have hn:=wJ;have fin:EP X pins σ Q w s:=⟨z,H,I,rw',q⟩;exact subscriptTail_builtinR (x:=w) pl.typeIs slot_tuple_getitem.lookup
  (getItem_tuple (j:=j) (Q:=fun r s'=>r=w/\EP X pins σ Q r s') pl (by omega) (by omega) (by rw[size_toArray,<- hl];exact h1) (by simpa using ew) ⟨rfl,fin⟩) hs
theorem Ek:Gp X vU:=by
 intro value slice pins s σ H x y v u Q I rx ry h hs;obtain⟨z,i,c,rfl,rfl,hz,he,q⟩:=h;obtain⟨t,rfl⟩:=rx;obtain⟨t',rfl⟩:=ry;obtain⟨j,h1,h2,h3,h4,h5⟩:=OS he;have hl:z.cps.toList.length=z.length:=by simp[Str.length]
 rw[hl]at h1 h4 h5;have hn:=wJ;exact tail_any (typeIs_str s z t) slot_str_getitem.lookup (getItem_str (c:=c) (by
  have e1:decide (i < -(2^63:Int))=false:=decide_eq_false (by omega);have e2:decide (i >=2^63)=false:=decide_eq_false (by omega);rw[e1,e2,Bool.or_false]) (by rw[h1];simpa using h2) ⟨.str ⟨#[c]⟩,H,I.tok _,⟨_,rfl⟩,q⟩) hs
def Jh(K:Frag):R2:=fun x y H Q=>uU K x y H Q\/wU K x y H Q\/vU x y H Q
theorem Dk:Gp X (Jh X.K):=Mp.or (zar.or Ek)
theorem g6 (its:List Value) (n j:Nat) (u:Value):Obj.mapSeq (·.setIfInBounds j u) { cls:=.type "list",data:=.seq its.toArray n }={ cls:=.type "list",data:=.seq (its.set j u).toArray n }:=by simp[Obj.mapSeq]
theorem Inv.lst{pins:List (Addr×Obj)}{σ:St}{H:Hp}{s:Shared}{p:Addr}{xs:List V}(I:Inv X pins σ H s)(h:H p=some (.lst xs)) :
 ∃(its:List Value) (n:Nat),Vals xs its/\s.heap.get? p=some { cls:=.type "list",data:=.seq its.toArray n }/\xs.length<=sizeLine:=by
 obtain⟨z,its,n,r,e⟩:=I.hok p _ h;exact⟨its,n,r,e,z⟩
theorem Inv.zau{pins:List (Addr×Obj)}{σ:St}{H:Hp}{s:Shared}{p:Addr}{xs ys:List V}{its its':List Value}{n n':Nat}{f:Obj->Obj}(I:Inv X pins σ H s)(h:H p=some (.lst xs))
 (ho:s.heap.get? p=some { cls:=.type "list",data:=.seq its.toArray n }) (hf:f { cls:=.type "list",data:=.seq its.toArray n }={ cls:=.type "list",data:=.seq its'.toArray n' }) (r:Vals ys its') (hz:ys.length<=sizeLine) (t:Nat) :
 Inv X pins σ (xB H p (.lst ys)) { s with heap:=s.heap.update p f,toks:=t }:=by
 have e:(s.heap.update p f).get? p=some { cls:=.type "list",data:=.seq its'.toArray n' }:=by rw[Heap.get?_update_self f ho (by rw[hf]<;>rfl),hf]
 refine I.write (x:=p) (e:=p) (by rw[h];trivial) (.inl rfl) (fun b u hb q=>(Heap.get?_update_other _ _ (Ne.symm hb)).trans q) ⟨_,e⟩ ?_;exact⟨hz,its',n',r,e⟩
def Ey:V->V->V->Hp->(Hp->Prop)->Prop:=fun o i v H Q=>∃p xs k j,o=.ref p/\i=.int k/\H p=some (.lst xs)/\QG xs.length k=some j/\Q (xB H p (.lst (xs.set j v)))
theorem Fj:iU X Ey:=by
 intro pins s σ H o i v ov iv u Q I ro ri rv h;obtain⟨p,xs,k,j,rfl,rfl,hp,hj,q⟩:=h;cases ro;obtain⟨t,rfl⟩:=ri;obtain⟨its,n,r,ho,hz⟩:=I.lst hp;obtain⟨h1,h2,h3,h4⟩:=BX hj;have hl:=r.length;have hn:=wJ;have I':Inv X pins σ (xB H p (.lst (xs.set j v))) { s with heap:=s.heap.update p (Obj.mapSeq (·.setIfInBounds j u)) }:=
  I.zau hp ho (g6 its n j u) (r.set rv j) (by rw[length_set];exact hz) s.toks
 by_cases h0:0<=k
 · have hk:k.toNat=j:=by rw[seqIndex_of h0 h4]at h1;exact Option.some.inj h1
   exact PySem.W.ki_setAt ho h0 (by omega) (by rw[size_toArray,<- hl];exact h4) (by rw[hk];exact⟨_,I',q⟩)
 · have hk:(k+(its.toArray.size:Int)).toNat=j:=by rw[seqIndex_neg (by omega) h3]at h1;rw[size_toArray,<- hl];exact Option.some.inj h1
   exact PySem.W.ki_setBack ho (by omega) (by rw[size_toArray,<- hl];exact h3) (by omega) (by rw[hk];exact⟨_,I',q⟩)
theorem Y4(lo hi:Option Int)(n:Nat):(sliceBounds lo hi none n).1=((HT.Xn n 0 lo:Nat):Int)/\(sliceBounds lo hi none n).2.1=((HT.Xn n n hi:Nat):Int)/\(sliceBounds lo hi none n).2.2=1:=by
 refine⟨?_,?_,rfl⟩
 · cases lo with
   | none=>simp[sliceBounds,HT.Xn]
   | some i=>
    simp only[sliceBounds,HT.Xn,Option.getD_none,show(1:Int)>0 by decide,if_true];by_cases h:i<0
    · simp only[h,if_true]<;>omega
    · simp only[h,if_false]<;>omega
 · cases hi with
   | none=>simp[sliceBounds,HT.Xn]
   | some i=>
    simp only[sliceBounds,HT.Xn,Option.getD_none,show(1:Int)>0 by decide,if_true];by_cases h:i<0
    · simp only[h,if_true]<;>omega
    · simp only[h,if_false]<;>omega
theorem V3(its:List Value)(lo hi:Option Int):slicePick its.toArray lo hi none=((its.drop (HT.Xn its.length 0 lo)).take (HT.Xn its.length its.length hi-HT.Xn its.length 0 lo)).toArray:=by obtain⟨h1,h2,h3⟩:=Y4 lo hi its.toArray.size;unfold slicePick;rw[h1,h2,h3];simp only[sliceRange_one,pick_run,size_toArray]<;>rfl
def u0(K:Frag):V->Option Int->Option Int->Hp->VK->Prop:=fun x lo hi H Q=>∃a xs,x=.ref a/\Qd K H a xs/\∀p,H p=none->Q (.ref p) (xB H p (.lst (EI xs lo hi)))
theorem Zv:oh X (u0 X.K):=by intro pins s σ H x v vl vu lo hi sl Q I rx hs pl pu h;obtain⟨a,xs,rfl,hx,q⟩:=h;cases rx;obtain⟨its,r,ht,hz⟩:=I.list hx;have hlen:=r.length;refine⟨"list",_,slot_list_getitem.lookup,ht.isList.typeIs,?_⟩;refine wpAny_getItem_list_slice ht.isList hs pl pu .none (by simp) ?_ (by rw[size_toArray]<;>omega);rw[V3,<- hlen];refine⟨.ref s.heap.objs.size,_,I.laid (t':=s.toks) (o:=.lst (EI xs lo hi)) (fun b ob q=>Heap.get?_push_of_some _ q) (zeg _) ?_,rfl,q _ (I.hok.fresh (zeg _))⟩;exact⟨Nat.le_trans (N4 xs lo hi) hz,_,0,(r.drop (HT.Xn xs.length 0 lo)).take (HT.Xn xs.length xs.length hi-HT.Xn xs.length 0 lo),Heap.get?_push_size _ rfl⟩
noncomputable def oG:V->Bool
 | .non=>true
 | .bl _=>true
 | .int _=>true
 | .str _=>true
 | _=>false
noncomputable def KJ:V->V->Bool
 | .non,.non=>true
 | .bl a,.bl b=>a==b
 | .bl a,.int b=>(if a then 1 else 0)==b
 | .int a,.bl b=>a==(if b then 1 else 0)
 | .int a,.int b=>a==b
 | .str a,.str b=>a==b
 | _,_=>false
theorem Zx{A:Around}{s:Shared}{y x:V}{u v:Value}(ry:RelV y u)(rx:RelV x v)(fy:oG y=true)(fx:oG x=true):SeqAt.EqAt A s u v (KJ y x):=by
 cases y with
 | non=>
  cases ry;cases x with
  | non=>cases rx;exact SeqAt.EqAt.same _
  | bl b=>cases rx;exact SeqAt.EqAt.none_bool b
  | int b=>obtain⟨t,rfl⟩:=rx;exact SeqAt.EqAt.none_int b t
  | str b=>obtain⟨t,rfl⟩:=rx;exact SeqAt.EqAt.none_str b t
  | _=>exact absurd (show false=true from fx) zef
 | bl a=>
  cases ry;cases x with
  | non=>cases rx;exact SeqAt.EqAt.bool_none a
  | bl b=>cases rx;exact SeqAt.EqAt.bool_bool a b
  | int b=>obtain⟨t,rfl⟩:=rx;exact SeqAt.EqAt.bool_int a b t
  | str b=>obtain⟨t,rfl⟩:=rx;exact SeqAt.EqAt.bool_str a b t
  | _=>exact absurd (show false=true from fx) zef
 | int a=>
  obtain⟨t',rfl⟩:=ry;cases x with
  | non=>cases rx;exact SeqAt.EqAt.int_none a t'
  | bl b=>cases rx;exact SeqAt.EqAt.int_bool a t' b
  | int b=>obtain⟨t,rfl⟩:=rx;exact SeqAt.EqAt.int_int a t' b t
  | str b=>obtain⟨t,rfl⟩:=rx;exact SeqAt.EqAt.int_str a t' b t
  | _=>exact absurd (show false=true from fx) zef
 | str a=>
  obtain⟨t',rfl⟩:=ry;cases x with
  | non=>cases rx;exact SeqAt.EqAt.str_none a t'
  | bl b=>cases rx;exact SeqAt.EqAt.str_bool a t' b
  | int b=>obtain⟨t,rfl⟩:=rx;exact SeqAt.EqAt.str_int a t' b t
  | str b=>obtain⟨t,rfl⟩:=rx;exact SeqAt.EqAt.str_str a t' b t
  | _=>exact absurd (show false=true from fx) zef
 | _=>exact absurd (show false=true from fy) zef
def PH(x:V)(u:Value):Bool:=match u with
 | .none=>KJ .non x
 | .bool b=>KJ (.bl b) x
 | .int i _=>KJ (.int i) x
 | .str z _=>KJ (.str z) x
 | _=>false
theorem jY{x y:V}{u:Value}(r:RelV y u)(f:oG y=true):PH x u=KJ y x:=by
 cases y with
 | non=>cases r;rfl
 | bl b=>cases r;rfl
 | int i=>obtain⟨t,rfl⟩:=r;rfl
 | str z=>obtain⟨t,rfl⟩:=r;rfl
 | _=>exact absurd (show false=true from f) zef
theorem OK{x:V}:∀{xs:List V}{us:List Value},Vals xs us->xs.all oG=true->us.any (PH x)=xs.any fun y=>KJ y x
 | _,_,.nil,_=>rfl
 | y::xs,u::us,.cons r t,f=>by rw[all_cons,Bool.and_eq_true]at f;rw[any_cons,any_cons,jY r f.1,OK t f.2]
theorem RK{A:Around}{s:Shared}{x:V}{v:Value}(rx:RelV x v)(fx:oG x=true):∀{xs:List V}{us:List Value},Vals xs us->xs.all oG=true->∀u∈us,SeqAt.EqAt A s u v (PH x u)
 | _,_,.nil,_=>fun u hu=>by cases hu
 | y::xs,u::us,.cons r t,f=>fun u' hu=>by
  rw[all_cons,Bool.and_eq_true]at f;rcases mem_cons.mp hu with rfl | hu
  · rw[jY r f.1];exact Zx r rx f.1 fx
  · exact RK rx fx t f.2 u' hu
def zL(x:V)(xs:List V):Bool:=xs.any fun y=>KJ y x
def o0(K:Frag)(neg:Bool):R2:=fun x y H Q=>∃p xs,y=.ref p/\(Qd K H p xs\/VG K H p xs)/\oG x=true/\xs.all oG=true/\Q (.bl (if neg then !zL x xs else zL x xs)) H
theorem U7:Kd X (compareOp .In) (o0 X.K false):=by
 intro pins s σ H x y v u Q I rx ry h;obtain⟨p,xs,rfl,hq,fx,fs,q⟩:=h;cases ry;rcases hq with hq | hq
 · obtain⟨its,r,pl,hz⟩:=I.list hq;refine SeqAt.in_listAt (PH x) pl.isList (fun w hw=>RK rx fx r fs w (by simpa using hw)) ⟨.bl _,H,I,rfl,?_⟩;rw[show its.toArray.any (PH x)=its.any (PH x) by simp,OK r fs];exact q
 · obtain⟨its,r,pl,hz⟩:=I.tuple hq;refine SeqAt.in_tupleAt (PH x) pl (fun w hw=>RK rx fx r fs w (by simpa using hw)) ⟨.bl _,H,I,rfl,?_⟩;rw[show its.toArray.any (PH x)=its.any (PH x) by simp,OK r fs];exact q
theorem o5:Kd X (compareOp .NotIn) (o0 X.K true):=by
 intro pins s σ H x y v u Q I rx ry h;obtain⟨p,xs,rfl,hq,fx,fs,q⟩:=h;cases ry;rcases hq with hq | hq
 · obtain⟨its,r,pl,hz⟩:=I.list hq;refine SeqAt.notIn_listAt (PH x) pl.isList (fun w hw=>RK rx fx r fs w (by simpa using hw)) ⟨.bl _,H,I,rfl,?_⟩;rw[show its.toArray.any (PH x)=its.any (PH x) by simp,OK r fs];exact q
 · obtain⟨its,r,pl,hz⟩:=I.tuple hq;refine SeqAt.notIn_tupleAt (PH x) pl (fun w hw=>RK rx fx r fs w (by simpa using hw)) ⟨.bl _,H,I,rfl,?_⟩;rw[show its.toArray.any (PH x)=its.any (PH x) by simp,OK r fs];exact q
theorem A4:Xf X (.builtin "len") (fun xs H Q=>∃p ys,xs=[.ref p]/\(Qd X.K H p ys\/VG X.K H p ys)/\Q (.int ys.length) H):=by
 intro pins s σ H xs us Q I r h;obtain⟨p,ys,rfl,hq,q⟩:=h;obtain⟨u,rfl,rx⟩:=qG r;cases rx;have hn:=wJ;rcases hq with hq | hq
 · obtain⟨its,r',pl,hz⟩:=I.list hq;have hlen:=r'.length;exact Calls.call_len_list pl.isList (by simp only[size_toArray]<;>omega) ⟨.int ys.length,H,I.tok _,⟨s.toks+1,by rw[size_toArray,hlen]⟩,q⟩
 · obtain⟨its,r',pl,hz⟩:=I.tuple hq;have hlen:=r'.length;exact len_tuple pl (by simp only[size_toArray]<;>omega) ⟨.int ys.length,H,I.tok _,⟨s.toks+1,by rw[size_toArray,hlen]⟩,q⟩
theorem B4:Xf X (.builtin "len") (fun xs H Q=>∃z,xs=[.str z]/\z.length<=sizeLine/\Q (.int z.length) H):=by intro pins s σ H xs us Q I r h;obtain⟨z,rfl,hz,q⟩:=h;obtain⟨u,rfl,t,rfl⟩:=qG r;have hn:=wJ;exact len_str (by omega) ⟨.int z.length,H,I.tok _,⟨_,rfl⟩,q⟩
theorem Xf.or{f:Value}{r r':List V->Hp->VK->Prop}(h:Xf X f r)(h':Xf X f r'):Xf X f (fun xs H Q=>r xs H Q\/r' xs H Q):=by
 intro pins s σ H xs us Q I rs q;rcases q with q | q
 · exact h pins s σ H xs us Q I rs q
 · exact h' pins s σ H xs us Q I rs q
theorem C4:Xf X (.type "list") (fun xs H Q=>∃p ys,xs=[.ref p]/\(Qd X.K H p ys\/VG X.K H p ys)/\∀l,H l=none->Q (.ref l) (xB H l (.lst ys))):=by
 intro pins s σ H xs us Q I r h;obtain⟨p,ys,rfl,hq,q⟩:=h;obtain⟨u,rfl,rx⟩:=qG r;cases rx;have fin:∀(its:List Value),Vals ys its->ys.length<=sizeLine->∀(h':Heap)(c':Nat),(∀b o',s.heap.get? b=some o'->h'.get? b=some o')->
  h'.get? s.heap.objs.size=some { cls:=.type "list",dict:=none,data:=.seq its.toArray c',slots:=#[] }->EP X pins σ Q (.ref s.heap.objs.size) { s with heap:=h' }:=fun its r' hz h' c' kp e=>
  ⟨.ref s.heap.objs.size,_,I.laid (t':=s.toks) kp (zeg _) (show Kf X.prog X.w _ h' _ (.lst ys)from⟨hz,its,c',r',e⟩),rfl,q _ (I.hok.fresh (zeg _))⟩
 rcases hq with hq | hq
 · obtain⟨its,r',pl,hz⟩:=I.list hq;have hlen:=r'.length;obtain⟨o,ho,hc,n,hd⟩:=pl.isList;exact call_list_seq p (.inl rfl) ho hc hd (fun h' c' kp e=>fin its r' hz h' c' kp e) (by simp only[size_toArray]<;>omega)
 · obtain⟨its,r',pl,hz⟩:=I.tuple hq;have hlen:=r'.length;obtain⟨o,ho,hc,n,hd⟩:=pl;exact call_list_seq p (.inr rfl) ho hc hd (fun h' c' kp e=>fin its r' hz h' c' kp e) (by simp only[size_toArray]<;>omega)
def R0(K:Frag)(T:String)(x:V)(H:Hp):Prop:=match x with
 | .str _=>T = "str"
 | .int _=>T = "int"
 | .ref p=>(T = "list" /\ ∃xs,Qd K H p xs)\/(T = "tuple" /\ ∃o,K.lookup p=some o/\o.cls=.type "tuple" /\ o.dict=none)\/
  (T = "dict" /\ ((∃kvs,H p=some (.dK kvs))\/∃kvs,H p=some (.dT kvs)))\/(T = "set" /\ ∃S n,H p=some (.set S n))
 | _=>False
theorem Ig{pins:List (Addr×Obj)}{σ:St}{H:Hp}{s:Shared}{T:String}{x:V}{v:Value}(I:Inv X pins σ H s)(r:RelV x v)(ty:R0 X.K T x H) :
 s.TypeIs v T/\∀a,v=.ref a->∃ob,s.heap.get? a=some ob/\ob.dict=none:=by
 cases x with
 | str z=>obtain⟨t,rfl⟩:=r;cases (show T = "str" from ty);exact⟨typeIs_str s z t,fun _ e=>nomatch e⟩
 | int i=>obtain⟨t,rfl⟩:=r;cases (show T = "int" from ty);exact⟨typeIs_int s i t,fun _ e=>nomatch e⟩
 | ref p=>
  cases r;rcases ty with⟨rfl,xs,hq⟩ | ⟨rfl,o,hk,hc,hd⟩ | ⟨rfl,hk⟩ | ⟨rfl,S,n,hk⟩
  · obtain⟨its,_,pl,_⟩:=I.list hq;refine⟨pl.isList.typeIs,fun a e=>?_⟩;cases e;obtain⟨o,n,e,c,hd,_⟩:=pl;exact⟨o,e,hd⟩
  · refine⟨⟨o,I.Tn p o hk,hc⟩,fun a e=>?_⟩;cases e;exact⟨o,I.Tn _ o hk,hd⟩
  · have z:∃o,s.heap.get? p=some o/\o.ExactDict:=by
     rcases hk with⟨kvs,hk⟩ | ⟨kvs,hk⟩
     · obtain⟨_,_,_,_,o,_,_,e,ex,_⟩:=I.hok p _ hk;exact⟨o,e,ex⟩
     · obtain⟨_,_,_,_,o,_,_,e,ex,_⟩:=I.hok p _ hk;exact⟨o,e,ex⟩
    obtain⟨o,e,ex⟩:=z;refine⟨⟨o,e,ex.1⟩,fun a e2=>?_⟩;cases e2;exact⟨o,e,ex.2.1⟩
  · obtain⟨o,_,_,_,e,ex,_⟩:=I.hok p _ hk;refine⟨⟨o,e,ex.1⟩,fun a e2=>?_⟩;cases e2;exact⟨o,e,ex.2.1⟩
 | _=>exact False.elim ty
def Xh(K:Frag)(T:String)(r:V->List V->Hp->VK->Prop)(to:TE)(t:TA):TE:=fun σ H Q=>to σ H fun x H1=>R0 K T x H1/\t σ H1 fun xs H2=>r x xs H2 Q
variable{o e:Expr}{es:List Expr}{to:TE}{t:TA}{name:Str}{apos cpos:Pos}{T id:String}{r:V->List V->Hp->VK->Prop}
theorem vT (pa:PlainAttrs T) (slot:Slot T name id) (hty:typeOf (.builtin id)=pure (.type "method_descriptor")) (hm:Oh X id r) (ho:PE X o to) (ha:PA X (e::es) t)
 (hbase:attributeBase o name X.env (eval o X.env)=eval o X.env:=by rfl)
 (hfew:((backTo cpos (starEach (e::es) X.env)).all (fun x=>!x.1)&&(backToKw cpos (keywordEach [] X.env)).all (fun x=>x.1.isSome)
  && decide ((e::es).length+([]:List Keyword).length+(if([]:List Keyword).isEmpty then 0 else 1)<30))=true:=by rfl)
 (hline:(apos.endLine==cpos.line)=true:=by rfl) (hs:starEach (e::es) X.env=(false,eval e X.env)::starEach es X.env:=by rfl) (hplain:(backTo cpos (starEach es X.env)).any (·.1)=false:=by rfl) :
 PE X (.Call (.Attribute o name apos) (e::es) [] cpos) (Xh X.K T r to t):=by
 intro pins s σ H Q I h;refine wpAny_Call_method_late hbase hfew hline rfl (nB (ho pins s σ H _ I h) fun v s1 zz=>?_);obtain⟨x,H1,I1,r1,ty,q1⟩:=zz;obtain⟨h1,h2⟩:=Ig I1 r1 ty;refine⟨T,id,pa,slot,hty,h1,h2,?_⟩;have hA:=ha cpos pins s1 σ H1 _ I1 q1;rw[hs]at hA ⊢;refine Calls.callWith_builtin (by show(false || (backTo cpos (starEach es X.env)).any (·.1))=false;rw[hplain]<;>rfl) (Calls.evalArgs_plain ?_);exact nB hA fun us s2 ⟨vs,H2,I2,r2,q2⟩=>hm pins s2 σ H2 x vs v us Q I2 r1 r2 q2
end
def IZ(X:Cx)(id:String)(r:V->List V->Hp->VK->Prop):Prop:=
 ∀(pins:List (Addr×Obj))(s:Shared)(σ:St)(H:Hp)(x:V)(xs:List V)(v:Value)(us:List Value)(Q:VK),Inv X pins σ H s->RelV x v->Vals xs us->r x xs H Q->
  wpAny (model X.prog X.w) X.A (call (.builtin id) (v::us)) (EP X pins σ Q) X.xe s
theorem Vals.one:∀{x:V}{us:List Value},Vals [x] us->∃u,us=[u]/\RelV x u
 | _,_,.cons r .nil=>⟨_,rfl,r⟩
theorem Vals.zero:∀{us:List Value},Vals [] us->us=[]
 | _,.nil=>rfl
theorem Vals.eraseIdx:∀{xs:List V}{us:List Value}(i:Nat),Vals xs us->Vals (xs.eraseIdx i) (us.eraseIdx i)
 | _,_,_,.nil=>.nil
 | _,_,0,.cons _ t=>t
 | _,_,i+1,.cons r t=>.cons r (Vals.eraseIdx i t)
theorem Vals.rep{xs:List V}{us:List Value}(h:Vals xs us):∀k:Nat,Vals (List.replicate k xs).flatten (List.replicate k us).flatten
 | 0=>.nil
 | k+1=>by rw[replicate_succ,replicate_succ,flatten_cons,flatten_cons];exact Vals.append h (Vals.rep h k)
theorem tV{α:Type}:∀(l:List α)(i:Nat),(l.eraseIdx i).length<=l.length
 | [],_=>zeg _
 | _::_,0=>Nat.le_succ _
 | _::r,i+1=>Nat.succ_le_succ (tV r i)
theorem fW(its:List Value):∀(k:Nat)(acc:List Value),
 List.foldl (fun x1 x2=>x1++x2) acc.toArray (List.replicate k its.toArray)=(acc++(List.replicate k its).flatten).toArray
 | 0,acc=>by simp
 | k+1,acc=>by
  have e:acc.toArray++its.toArray=(acc++its).toArray:=by simp
  have e2:(acc++its)++(List.replicate k its).flatten=acc++(List.replicate (k+1) its).flatten:=by rw[replicate_succ,flatten_cons,append_assoc]
  rw[<- e2,<- fW its k (acc++its),<- e,replicate_succ,foldl_cons]
section
variable{X:Cx}{pins:List (Addr×Obj)}{σ:St}{H:Hp}{s:Shared}{l b:Addr}{xs ys zs:List V}
theorem Inv.zat{its its':List Value}{n:Nat}{f:Array Value->Array Value}{t':Nat}(I:Inv X pins σ H s)(hH:H l=some (.lst xs))
 (e:s.heap.get? l=some { cls:=.type "list",data:=.seq its.toArray n }) (hf:f its.toArray=its'.toArray) (hv:Vals ys its') (hz:ys.length<=sizeLine) :
 Inv X pins σ (xB H l (.lst ys)) { s with heap:=s.heap.update l (Obj.mapSeq f),toks:=t' }:=by
 have q:=PySem.IsL.update e f;rw[hf]at q;refine I.write (x:=l) (e:=l) (by rw[hH];exact trivial) (.inl rfl) (fun b' u hb hu=>(Heap.get?_update_other s.heap (Obj.mapSeq f) (Ne.symm hb)).trans hu) ⟨_,q⟩ ?_;exact⟨hz,its',_,hv,q⟩
theorem Inv.zas{its:List Value}{t':Nat}(I:Inv X pins σ H s)(hv:Vals ys its)(hz:ys.length<=sizeLine) :
 Inv X pins σ (xB H s.heap.objs.size (.lst ys)) { s with heap:=s.heap.push { cls:=.type "list",data:=.seq its.toArray },toks:=t' }:=
 I.laid (fun _ _ q=>Heap.get?_push_of_some _ q) (zeg _) ⟨hz,its,0,hv,Heap.get?_push_size _ rfl⟩
theorem Inv.fresh(I:Inv X pins σ H s):H s.heap.objs.size=none:=I.hok.fresh (zeg _)
theorem Inv.Ml (I:Inv X pins σ H s) (hH:H l=some (.lst xs)):xs.length<=sizeLine/\∃(its:List Value) (n:Nat),Vals xs its/\xs.length=its.length/\s.heap.get? l=some { cls:=.type "list",data:=.seq its.toArray n }:=by obtain⟨z,its,n,r,e⟩:=I.hok l _ hH;exact⟨z,its,n,r,r.length,e⟩
theorem eX{n:Nat}(h:n<=sizeLine):Builtin.List.listTooLong n=false:=by unfold Builtin.List.listTooLong;exact decide_eq_false (by omega)
end
section
variable{X:Cx}
def Uv:V->List V->Hp->VK->Prop:=fun x vs H Q=>∃l xs y,x=.ref l/\vs=[y]/\H l=some (.lst xs)/\xs.length<sizeLine/\Q .non (xB H l (.lst (xs++[y])))
theorem xV:IZ X "list.append" Uv:=by intro pins s σ H x vs v us Q I rx rv h;obtain⟨l,xs,y,rfl,rfl,hH,hz,q⟩:=h;cases rx;obtain⟨u,rfl,ru⟩:=rv.one;obtain⟨z,its,n,r,hl,e⟩:=I.Ml hH;refine call_meets F.slot_list_append ⟨_,e,rfl⟩ F.entry_list_append (F.args_list_append_2 _ _) (PySem.list_append l its.toArray n u (by rw[size_toArray];omega)) ⟨e,?_⟩;refine⟨.non,_,I.zat (its':=its++[u]) hH e (by simp) (r.append (.cons ru .nil)) ?_,rfl,q⟩;rw[length_append,length_singleton];omega
def Vv:V->List V->Hp->VK->Prop:=fun x vs H Q=>∃l b xs zs,x=.ref l/\vs=[.ref b]/\H l=some (.lst xs)/\H b=some (.lst zs)/\xs.length+zs.length<=sizeLine/\Q .non (xB H l (.lst (xs++zs)))
theorem N8:IZ X "list.extend" Vv:=by
 intro pins s σ H x vs v us Q I rx rv h;obtain⟨l,b,xs,zs,rfl,rfl,hH,hB,hz,q⟩:=h;cases rx;obtain⟨u,rfl,ru⟩:=rv.one;cases ru;obtain⟨z,its,n,r,hl,e⟩:=I.Ml hH;obtain⟨z2,its2,n2,r2,hl2,e2⟩:=I.Ml hB;have hsz:its.toArray.size+its2.toArray.size<=sizeLine:=by rw[size_toArray,size_toArray];omega
 have Jl:¬(!its.toArray.isEmpty&&Builtin.List.listTooLong (its.toArray.size+its2.toArray.size))=true:=by rw[eX hsz,Bool.and_false];exact zef
 refine call_meets F.slot_list_extend ⟨_,e,rfl⟩ F.entry_list_extend (F.args_list_extend_2 _ _)
  (AutoSeq1.list_extend_list_list_0 l its.toArray n b its2.toArray n2 Jl (by rw[size_toArray];omega) (by omega)) ⟨e,e2,?_⟩
 refine⟨.non,_,I.zat (its':=its++its2) hH e (by simp) (r.append r2) ?_,rfl,q⟩;rw[length_append];omega
def qw:V->List V->Hp->VK->Prop:=fun x vs H Q=>∃l xs i k y,x=.ref l/\vs=[.int i]/\H l=some (.lst xs)/\-(2^63)<=i/\i<2^63/\seqIndex? i xs.length=some k/\xs[k]?=some y/\Q y (xB H l (.lst (xs.eraseIdx k)))
theorem E9:IZ X "list.pop" qw:=by
 intro pins s σ H x vs v us Q I rx rv h;obtain⟨l,xs,i,k,y,rfl,rfl,hH,h1,h2,hk,hy,q⟩:=h;cases rx;obtain⟨u,rfl,ru⟩:=rv.one;obtain⟨t,rfl⟩:=ru;obtain⟨z,its,n,r,hl,e⟩:=I.Ml hH;obtain⟨w,hw,rw'⟩:=r.get hy;refine call_meets F.slot_list_pop ⟨_,e,rfl⟩ F.entry_list_pop (F.args_list_pop_2 _ _)
  (MeetsSeq.list_pop_at l its.toArray n i t k w (fitsIndex_both h1 h2) (by rw[size_toArray,<- hl];exact hk) (by rw[<- Array.getElem?_toList];exact hw) (by rw[size_toArray];omega)) ⟨e,?_⟩
 refine⟨y,_,I.zat (its':=its.eraseIdx k) hH e ?_ (r.eraseIdx k) ?_,rw',q⟩
 · show its.toArray.eraseIdxIfInBounds k=(its.eraseIdx k).toArray;rw[eraseIdxIfInBounds_toArray]
 · have:=tV xs k;omega
def xU:R2:=fun x y H Q=>∃l k xs,x=.ref l/\y=.int k/\H l=some (.lst xs)/\-(2^63)<=k/\k<2^63/\xs.length*k.toNat<=sizeLine/\
 ∀p,H p=none->Q (.ref p) (xB H p (.lst (List.replicate k.toNat xs).flatten))
theorem Jq{α:Type}(xs:List α)(k:Nat):(List.replicate k xs).flatten.length=k*xs.length:=by
 induction k with
 | zero=>simp
 | succ k ih=>rw[replicate_succ,flatten_cons,length_append,ih,Nat.succ_mul,Nat.add_comm]
theorem CY:Kd X (binaryOp .Mult) xU:=by
 intro pins s σ H x y v u Q I rx ry h;obtain⟨l,k,xs,rfl,rfl,hH,h1,h2,hz,q⟩:=h;cases rx;obtain⟨t,rfl⟩:=ry;obtain⟨z,its,n,r,hl,e⟩:=I.Ml hH;have hlen:its.toArray.size*k.toNat<=sizeLine:=by rw[size_toArray,<- hl];exact hz
 have hcap:¬its.toArray.size*k.toNat>(2^63-1)/8:=by
  have:(sizeLine:Nat)<=(2^63-1)/8:=by decide
  omega
 have hfit:¬(!Builtin.List.listFitsIndex k)=true:=by rw[fitsIndex_both h1 h2];exact zef
 have Jl:¬Builtin.List.listTooLong (its.toArray.size*k.toNat)=true:=by rw[eX hlen];exact zef
 have hnew:List.foldl (fun x1 x2=>x1++x2) #[] (List.replicate (if its.toArray.isEmpty=true then 0 else k.toNat) its.toArray)=(List.replicate k.toNat its).flatten.toArray:=by
  have f0:∀m:Nat,List.foldl (fun x1 x2=>x1++x2) #[] (List.replicate m its.toArray)=(List.replicate m its).flatten.toArray:=fun m=>by have:=fW its m [];rw[zeb]at this;exact this
  rw[f0];cases its with
  | nil=>simp
  | cons a r'=>rw[if_neg (by simp)]
 refine wpAny_binaryOp_repeat_ref (T := "list") (U := "int") (by decide) ⟨_,e,rfl⟩ (fun s'=>typeIs_int s' k t) noFill_list_mul F.fills_int_mul F.slot_int_rmul repeat_list F.slot_int_index.lookup
  (call_meets F.slot_int_rmul (typeIs_int s k t) F.entry_int_rmul (F.args_int_rmul_2 _ _) (int___rmul___int_list k t l its.toArray n)
   ⟨e,rfl,⟨_,e,rfl⟩,call_meets F.slot_list_mul ⟨_,e,rfl⟩ F.entry_list_mul (F.args_list_mul_2 _ _) (AutoListH.list___mul___list_int_3 l its.toArray n k t hfit hcap Jl) ⟨e,?_⟩⟩)
 rw[hnew];exact⟨.ref _,_,I.zas (t':=s.toks) (r.rep k.toNat) (by rw[Jq,Nat.mul_comm];exact hz),rfl,q _ I.fresh⟩
end
section
variable{prog:Program}{w:World}{A:Around}{E:Value->Shared->Prop}{s:Shared}
end
section
variable{X:Cx}
end
end L2
namespace Att
open PySem.W PySem.Calls
theorem J2{P:Params}{h:Heap}:∀(ns:List Int)(vs:List Value),WellAll P h vs (ns.map WData.int)->IntsAre vs ns:=by
 intro ns
 induction ns with
 | nil=>intro vs w;rw[zd6]at w;cases w;exact .nil
 | cons n ns ih=>
  intro vs w;rw[zd5]at w;cases w with
  | cons a b=>cases a;exact .cons _ _ (ih _ b)
theorem M7{l:OpenLaw}{n:Nat}(hn:l.most=some n){P:Params}{h:Heap}{args:List WData}{vals:List Value}
 (hpre:l.row.toRowW.claim.pre args=true) (hwl:WellAll P h vals args) :
 ∃a vs ns,vals=[Value.ref a]/\args=[WData.list (ns.map WData.int)]/\h.get? a=some { cls:=.type "list",data:=.seq vs.toArray }/\IntsAre vs ns/\ns.length<=n:=by
 have hsh:WShape.hasAll [] args [.list .int]=true:=(pre_splitW hpre).1;have hc:l.pre.holds [] { args:=args }=true:=(pre_splitW hpre).2;obtain⟨d,r,rfl,h1,h2⟩:=hasAllW_cons hsh;obtain rfl:=hasAllW_nil h2;obtain⟨xs,rfl,h3⟩:=hasW_list h1;obtain⟨ns,rfl⟩:=items_int h3;have hlen:ns.length<=n:=by
  unfold OpenLaw.pre at hc;have h4:(WTm.not (.lt (.lit (.int (n:Int))) (.len (.arg 0)))).holds [] { args:=[.list (ns.map .int)] }=true:=by have h4:=(holds_andW hc).1;rw[hn]at h4;exact h4
  have h5:=condW_of h4 (w_not (w_lt w_lit (w_len_list (w_arg rfl))));rw[length_map]at h5;refine Nat.le_of_not_lt fun q=>?_
  have q':(n:Int)<((ns.length:Nat):Int):=by omega
  first
   | (rw[decide_eq_true q']at h5;exact absurd h5 (by decide))
   | (simp at h5;omega)
 cases hwl with
 | cons w1 w2=>
  cases w2;cases w1 with
  | list ho hall=>exact⟨_,_,ns,rfl,rfl,ho,J2 ns _ hall,hlen⟩
theorem h8(l:OpenLaw)(args:List WData):l.row.toRowW.claim.post args (.bool true) args=true:=
 postW_of (r:=l.row.toRowW) (X:=(true==true))
  (show WShape.has [] (.bool true) .bool=true by first | rfl | decide | simp[WShape.has,WShape.arms,WShape.armsAll])
  (show(WTm.eq .res (.lit (.bool true))).value [] { args:=args,res:=some (.bool true),after:=args }=some (.bool (true==true))from w_eq_bool (w_res rfl) w_lit) rfl
theorem jm{l:OpenLaw}{n:Nat}{q:Program}{loose:List Str}{XP:(Str->Option Value)->Heap->Prop}{YP:World->Heap->Prop}{d:DefRec}
 (hn:l.most=some n) (hdf:d.params.defaults=[])
 (call:∀(w:World)(s₀ s₁:Shared)(mg mb:Str->Option Value)(fa:Addr)(o:Obj)(pm cd doc:Value)(a:Addr)(vs:List Value)(ns:List Int),
  Ground q loose [] XP w s₀ mg mb s₁.heap->YP w s₁.heap->
  s₁.heap.get? fa=some o->o.data=.func (docDef d.name d.params d.body d.scope pm cd doc)->s₁.heap.CodeRec cd d.name->mg d.name=some (.ref fa)->
  s₁.heap.get? a=some { cls:=.type "list",data:=.seq vs.toArray }->IntsAre vs ns->ns.length<=n->s₁.gens=#[]->
  codeAny (model l.prog w) callerA (.call (.ref fa) ⟨[.ref a],[]⟩) (fun r s'=>r=.ok (.ret (.bool true))/\OldK s₁.heap s'.heap/\s'.os=s₁.os/\AllBare s'.gens) s₁) :
 WalkO q loose XP YP l.row.toRowW d [] (fun f vs=>PySem.call f vs):=by
 intro w s₀ s₁ mg mb G Y fa o pm cd doc dV kV ho hd hcd hD hmg hg args vals as hpre hlay hrd hwl hlo;obtain rfl:dV=.none:=Dflts.none hD hdf;obtain rfl:kV=.none:=Dflts.noKw hD;obtain⟨a,vs,ns,rfl,rfl,hobj,hints,hlen⟩:=M7 hn hpre hwl;refine enter_call (codeAny_mono (call w s₀ s₁ mg mb fa o pm cd doc a vs ns G Y ho (fd_plain hd) hcd hmg hobj hints hlen hg) fun r s' hq=>?_);obtain⟨rfl,h2,h3,h4⟩:=hq;exact⟨.inl ⟨.bool true,.bool true,[],rfl,fun _=>rfl,.bool true,h8 l _,fun _=>⟨List.Pairwise.nil,fun _ hm=>(nomatch hm)⟩⟩,h2,h3,h4⟩
section
variable{prog:Program}{w:World}{A:Around}{E:Value->Shared->Prop}{s:Shared}{K:Frag}
end
end Att
namespace L2
theorem PV:∀{vs:List Value}{ns:List Int},IntsAre vs ns->Vals (ns.map V.int) vs
 | _,_,.nil=>.nil
 | _,_,.cons n t h=>.cons ⟨t,rfl⟩ (PV h)
noncomputable def VO(H:Hp):Prop:=∀b,H b=none\/∃o xs,H b=some (.Gb o (.lst xs))
theorem A9{P:Program}{w:World}{K:Frag}{mg mb:Str->Option Value}{CX:FJ}{k:Nat}{fa a:Addr}{fd:FuncData}{x:Str}{sp:Sp}{s₁:Shared}{vs:List Value}{ns:List Int}
 (KX:K.In s₁.heap) (hns:s₁.heap.Ns mainGlobals mg) (hb:s₁.heap.Ns builtinsNs mb) (hbb:∀x:Str,x ≠ "__name__" ->mb x=bootBuiltins x) (hlim:s₁.heap.NoLimit) (hg:s₁.gens=#[])
 (ha:s₁.heap.get? a=some { cls:=.type "list",data:=.seq vs.toArray }) (hi:IntsAre vs ns) (hl:ns.length<=sizeLine) (hr:Qf k callerA)
 (F:∀base:Heap,K.In base->base.Ns mainGlobals mg->Jd P w K mg base CX k fa fd [x] sp) (hbind:∀(s:Shared)(u:Value),BindsTo s fd ⟨[u],[]⟩ [(x,u)])
 (hsp:∀H:Hp,VO H->Qd K H a (ns.map V.int)->sp [.ref a] H (fun v _=>v=.bl true) fun _ _ _=>False)
 (hCX:∀H e s',CX [] H s₁ (fun _ _ _=>False) e s'->False) :
 codeAny (model P w) callerA (.call (.ref fa) ⟨[.ref a],[]⟩) (fun r s'=>r=.ok (.ret (.bool true))/\OldK s₁.heap s'.heap/\s'.os=s₁.os/\AllBare s'.gens) s₁:=by
 have rv:=PV hi;have lenV:=hi.length;have core:∀H:Hp,VO H->Qd K H a (ns.map V.int)->Yc P w H s₁.heap->(∀b,H b≠none->b=a)->(H a≠none->K.lookup a=none)->
  codeAny (model P w) callerA (.call (.ref fa) ⟨[.ref a],[]⟩) (fun r s'=>r=.ok (.ret (.bool true))/\OldK s₁.heap s'.heap/\s'.os=s₁.os/\AllBare s'.gens) s₁:=by
  intro H hO hS hok hA hK;have Jm:∀{b:Addr}{o:Obj},s₁.heap.get? b=some o->H b=none->(xG s₁.heap H).get? b=some o:=fun e n=>m9 e n
  have noA:∀{b:Addr}{o:Obj}{es:Array DictEntry}{ep:Nat},s₁.heap.get? b=some o->o.data=.dict es ep->H b=none:=fun {b o es ep} e d=>by
   cases q:H b with
   | none=>rfl
   | some u=>have e':b=a:=hA b (by rw[q];simp);subst e';rw[ha]at e;cases e;have d':Data.seq vs.toArray _=Data.dict es ep:=d;cases d'
  have nsK:∀{b:Addr}{m:Str->Option Value},s₁.heap.Ns b m->(xG s₁.heap H).Ns b m:=fun {b m} ⟨o,es,ep,e,d,r⟩=>⟨o,es,ep,Jm e (noA e d),d,r⟩
  have hKb:K.In (xG s₁.heap H):=fun b o e=>Jm (KX b o e) (by
   cases q:H b with
   | none=>rfl
   | some u=>
    have e':b=a:=hA b (by rw[q];simp);subst e';rw[hK (by rw[q];simp)]at e;cases e)
  have hM:Mod K mg (xG s₁.heap H):=⟨hKb,nsK hns,⟨mb,nsK hb,hbb⟩,let ⟨mc,h1,h2⟩:=hlim;⟨mc,nsK h1,h2⟩⟩;have e0:rm P w K mg (xG s₁.heap H) callerA [] s₁ H:=⟨rfl,hM,fun b o e=>Sq e,Nat.le_of_eq (K6 _ _),trivial,fun b hb=>absurd (show b∈([]:List Addr)from hb) (by simp),hok,.of_eq hg⟩;refine codeAny_mono ((F _ hKb (nsK hns)).run callerA [] s₁ H ⟨[.ref a],[]⟩ [.ref a] [.ref a] _ _ hr e0 (hbind s₁ (.ref a)) (.cons rfl .nil) (hsp H hO hS)) fun r s' h=>?_
  cases r with
  | error e=>exact(hCX H e s' h).elim
  | ok fl=>
   cases fl with
   | next=>exact False.elim h
   | brk=>exact False.elim h
   | cont=>exact False.elim h
   | ret u=>
    obtain⟨v,H',os,bare,un,hok',r',q⟩:=h;have q':v=.bl true:=q;subst q';obtain rfl:u=Value.bool true:=r';refine⟨rfl,OldK.of_keep fun b o e=>?_,os,bare⟩;cases q:H b with
    | none=>exact un.keep b o e q (by intro z;exact absurd (show b∈([]:List Addr)from z) (by simp)) (by simp)
    | some u=>
     rcases hO b with z | ⟨ob,xs,z⟩
     · rw[q]at z;cases z
     · have z2:=un.Bb b ob _ z;obtain⟨e1,_⟩:=hok b _ z;obtain⟨e2,_⟩:=hok' b _ z2;rw[e]at e1;cases e1;exact e2
 cases hk:K.lookup a with
 | some o=>have e:=KX a o hk;rw[ha]at e;cases e;refine core (fun _=>none) (fun _=>.inl rfl) (.inr ⟨_,vs.toArray,_,hk,rfl,rfl,rfl,by rw[size_toArray,lenV];exact hl,by simpa using rv⟩) (fun b u z=>by have z':(none:Option HO)=some u:=z;cases z') (fun b z=>absurd rfl z) fun z=>absurd rfl z
 | none=>
  refine core (fun b=>if b=a then some (.Gb { cls:=.type "list",data:=.seq vs.toArray } (.lst (ns.map V.int)))else none) (fun b=>?_) (.inl (.inr ⟨{ cls:=.type "list",data:=.seq vs.toArray },if_pos rfl⟩)) (fun b u z=>?_) (fun b z=>?_) fun _=>hk
  · by_cases hb:b=a
    · exact .inr ⟨_,_,if_pos hb⟩
    · exact .inl (if_neg hb)
  · by_cases hb:b=a
    · have z':=(if_pos hb).symm.trans z;cases z';subst hb;exact⟨ha,by rw[length_map];exact hl,vs,_,rv,ha⟩
    · have z':=(if_neg hb).symm.trans z;cases z'
  · by_cases hb:b=a
    · exact hb
    · exact absurd (if_neg hb) z
theorem Dz{l:PySem.W.OpenLaw}{n k:Nat}{q:Program}{loose:List Str}{XP:(Str->Option Value)->Heap->Prop}{YP:World->Heap->Prop}{d:DefRec}{K:Params->Frag}{CX:World->FJ}{sp:World->Sp}{x:Str}
 (hn:l.most=some n) (hn2:n<=sizeLine) (hdf:d.params.defaults=[]) (hr:Qf k callerA)
 (hY:∀(w:World)(h:Heap),YP w h->(K w.params).In h)
 (F:∀(w:World)(mg:Str->Option Value)(fa:Addr)(h:Heap),(K w.params).In h->h.Ns mainGlobals mg->mg d.name=some (.ref fa)->
  ∃fd:FuncData,(∀(s:Shared)(u:Value),BindsTo s fd ⟨[u],[]⟩ [(x,u)])/\
   ∀base:Heap,(K w.params).In base->base.Ns mainGlobals mg->Jd l.prog w (K w.params) mg base (CX w) k fa fd [x] (sp w))
 (hsp:∀(w:World)(H:Hp)(a:Addr)(ns:List Int),ns.length<=n->VO H->Qd (K w.params) H a (ns.map V.int)->sp w [.ref a] H (fun v _=>v=.bl true) fun _ _ _=>False)
 (hCX:∀(w:World)(H:Hp)(s:Shared)(e:Value)(s':Shared),CX w [] H s (fun _ _ _=>False) e s'->False) :
 PySem.W.WalkO q loose XP YP l.row.toRowW d [] (fun f vs=>PySem.call f vs):=by
 refine Att.jm hn hdf fun w s₀ s₁ mg mb fa o pm cd doc a vs ns G Y ho hd hcd hmg hobj hints hlen hg=>?_
 have KX:=hY w _ Y;obtain⟨fd,hb,hF⟩:=F w mg fa _ KX G.T.g hmg;exact A9 KX G.T.g G.T.b G.T.builtins G.T.nolimit hg hobj hints (Nat.le_trans hlen hn2) hr hF hb (fun H hO hS=>hsp w H a ns hlen hO hS) fun H e s'=>hCX w H s₁ e s'
noncomputable def yS(s:Stmt)(j:Nat):Stmt:=match s with
 | .ClassDef _ _ _ body _ _ _ _ _ _ _=>body.getD j (.Pass ⟨0,0,0,0⟩)
 | _=>.Pass ⟨0,0,0,0⟩
noncomputable def WE(s:Stmt):Arguments:=match s with
 | .FunctionDef _ a _ _ _ _ _ _ _ _=>a
 | _=>{ posonlyargs:=[],args:=[],vararg:=none,kwonlyargs:=[],kw_defaults:=[],kwarg:=none,defaults:=[] }
noncomputable def lD(s:Stmt):List Stmt:=match s with
 | .FunctionDef _ _ b _ _ _ _ _ _ _=>b
 | _=>[]
noncomputable def yA(s:Stmt):Scope:=match s with
 | .FunctionDef _ _ _ _ _ _ sc _ _ _=>sc
 | _=>{ kind:=.function,names:=[],isGenerator:=false,isCoroutine:=false }
noncomputable abbrev VF:FJ:=fun _ _ _ _ _ _=>False
noncomputable abbrev E0:XK:=fun _ _ _=>False
theorem uT{X:Cx}:sJ VF X E0:=fun _ _ _ _ _ _ _ h=>h.elim
structure El(K:Frag)(x qual:Str)(st:Stmt)(f:Addr)(fd:FuncData):Prop where
 ex:∃(oc:Value)(od:Option Addr)(kV doc pm:Value)(an:Option Addr)(cdv ct:Value)(osl:Array (Option Value)),
  fd=fnOf x qual (WE st) (lD st) (yA st) .none kV doc pm an cdv ct/\K.lookup f=some ⟨oc,od,.func fd,osl⟩/\PySem.W.codeIn K cdv qual=true
 kp:keepIn K (.ref f)=true
section
variable{P:Program}{w:World}{K:Frag}{mg:Str->Option Value}{base:Heap}
theorem El.ok{x qual:Str}{st:Stmt}{f:Addr}{fd:FuncData}{N ps:List Str}{k:Nat}{sp:Sp}(F:El K x qual st f fd)(S:WA N ps (yA st))(len:∀vs H Q E,sp vs H Q E->vs.length=ps.length)
 (hbody:∀(cdv:Value)(A:Around)(outer:List Env)(s:Shared)(H:Hp)(vs:List V)(Q:VK)(E:XK),Qf k (A.deeper (envOfC qual (yA st) s.heap.objs.size f cdv))->sp vs H Q E->
  ∃t,Qn (kF VF P w K mg base N qual (yA st) f cdv A outer s H E).Al (lD st) t/\t { nx:=fun _ H'=>Q .non H',rt:=Q } (gF N vs) H):Jd P w K mg base VF (k+1) f fd ps sp:=by
 obtain⟨oc,od,kV,doc,pm,an,cdv,ct,osl,rfl,lk,hcd⟩:=F.ex;refine eZ lk hcd S len fun A outer s H vs Q E hr hsp=>?_
 obtain⟨t,h,q⟩:=hbody cdv A outer s H vs Q E hr hsp;exact⟨t,h.Al,q⟩
theorem El.binds{x qual:Str}{st:Stmt}{f:Addr}{fd:FuncData}{ps:List Str}(F:El K x qual st f fd)
 (h:∀(kV doc pm:Value)(an:Option Addr)(cdv ct:Value)(us:List Value),us.length=ps.length->bindArgs (fnOf x qual (WE st) (lD st) (yA st) .none kV doc pm an cdv ct) ⟨us,[]⟩=pure (ps.zip us)):Binds K fd ps []:=by
 obtain⟨oc,od,kV,doc,pm,an,cdv,ct,osl,rfl,lk,hcd⟩:=F.ex;exact .all (h kV doc pm an cdv ct)
theorem eO{x qual:Str}{st:Stmt}{f:Addr}{oc:Value}{od an:Option Addr}{osl:Array (Option Value)}{kV doc pm cdv ct:Value}(l:K.lookup f=some ⟨oc,od,.func (fnOf x qual (WE st) (lD st) (yA st) .none kV doc pm an cdv ct),osl⟩)
 (c:PySem.W.codeIn K cdv qual=true) (k:keepIn K (.ref f)=true):El K x qual st f (fnOf x qual (WE st) (lD st) (yA st) .none kV doc pm an cdv ct):=⟨⟨oc,od,kV,doc,pm,an,cdv,ct,osl,rfl,l,c⟩,k⟩
end
section
variable{X:Cx}
end
theorem bH{A B:Prop}(h:B):if false=true then A else B:=by rw[if_neg zef];exact h
theorem cH{A B:Prop}(h:A):if true=true then A else B:=by rw[if_pos rfl];exact h
noncomputable def Same(H H':Hp):Prop:=∀b o,H b=some o->H' b=some o
theorem Same.refl(H:Hp):Same H H:=fun _ _ h=>h
theorem Same.trans{H H1 H2:Hp}(a:Same H H1)(b:Same H1 H2):Same H H2:=fun c o h=>b c o (a c o h)
theorem Same.free{H H':Hp}(e:Same H H'){l:Addr}(h:H' l=Option.none):H l=Option.none:=by
 cases q:H l with
 | none=>rfl
 | some o=>rw[e l o q]at h;cases h
open PySem.AutoSeq1 (wpAny_loadPart')
open PySem.SeqAt PySem.MeetsSeq PySem.MeetsSeq2 PySem.MeetsSeq3
theorem B8(l b:Addr)(items items2:Array Value)(n n2:Nat)(dd dd2:Option Addr)(sl sl2:Array (Option Value))(hc0:items.size+items2.size<=sizeLine) :
 Meets (Builtin.«list.__add__» ⟨[.ref l,.ref b],[]⟩) (fun _ R s=>s.heap.get? l=some { cls:=.type "list",dict:=dd,data:=.seq items n,slots:=sl }/\s.heap.get? b=some { cls:=.type "list",dict:=dd2,data:=.seq items2 n2,slots:=sl2 }/\R (.ok (.ret (Value.ref s.heap.objs.size))) { s with heap:=s.heap.push { cls:=Value.type "list",data:=Data.seq (items++items2) },toks:=s.toks }):=
 .of_wp fun prog w A R s h=>by obtain⟨hp,g,d,tk,os⟩:=s;obtain⟨hl,hb,h⟩:=h;have f1:=AutoSeq1.idx_int;have f2:=AutoSeq1.sub_tuple_tuple;have f3:=AutoSeq1.sub_list_list;have f4:=AutoSeq1.sub_tuple_list;have f5:=AutoSeq1.sub_list_tuple;wp_walk using wpAny_loadPart' hl,wpAny_loadPart' hb;exact⟨_,rfl,h⟩
section
variable{X:Cx}
theorem JX:Kd X (binaryOp .Add) (fun x y H Q=>∃l b xs zs,x=.ref l/\y=.ref b/\Qd X.K H l xs/\Qd X.K H b zs/\xs.length+zs.length<=sizeLine/\∀p,H p=none->Q (.ref p) (xB H p (.lst (xs++zs)))):=by
 intro pins s σ H x y v u Q I rx ry h;obtain⟨l,b,xs,zs,rfl,rfl,hH,hB,hz,q⟩:=h;cases rx;cases ry;obtain⟨its,r,⟨⟨c1,d1,t1,sl1⟩,n,e,k1,k2,k3⟩,z⟩:=I.list hH;obtain⟨its2,r2,⟨⟨c2,d2,t2,sl2⟩,n2,e2,m1,m2,m3⟩,z2⟩:=I.list hB;simp only at k1 k2 k3 m1 m2 m3;subst k1 k2 k3 m1 m2 m3;have hl:=r.length;have hl2:=r2.length;refine concat_meets ⟨_,e,rfl⟩ ⟨_,e2,rfl⟩ noFill_list_add seq_list_add F.slot_list_add F.entry_list_add (F.args_list_add_2 _ _) (B8 l b its.toArray its2.toArray n n2 none none sl1 sl2 (by rw[size_toArray,size_toArray];omega)) ⟨e,e2,?_⟩;have ea:its.toArray++its2.toArray=(its++its2).toArray:=by simp
 rw[ea];exact⟨.ref _,_,I.zas (t':=s.toks) (r.append r2) (by rw[length_append];omega),rfl,q _ I.fresh⟩
theorem aN{us:List Value}{ns:List Int}(h:IntsAre us ns):∃xs:Array (Int×Tok),us.toArray=intItems xs/\xs.toList.map (·.1)=ns:=by obtain⟨xs,e⟩:=h.allInts.items;refine⟨xs,e,?_⟩;have e2:=h.numsOf;rw[<- nums_intItems,<- e];exact e2
theorem W6 (hc:X.calm=true):Xf X (.builtin "sum") (fun xs H Q=>∃(p:Addr) (ns:List Int),xs=[.ref p]/\Qd X.K H p (ns.map V.int)/\Q (.int ns.sum) H):=by
 intro pins s σ H xs us Q I r h;obtain⟨p,ns,rfl,hq,q⟩:=h;obtain⟨u,rfl,rx⟩:=qG r;cases rx;obtain⟨its,r',pl,hz⟩:=I.list hq;obtain⟨ys,e,e2⟩:=aN (YM r');have hl:=pl.isList;rw[e]at hl;refine sum_intListG (I.ok.hd hc) hl fun h' tk t' k=>⟨.int ns.sum,H,I.kept k,⟨t',?_⟩,q⟩
 rw[preSum_eq,take_of_length_le (by simp),e2]
theorem Q6 (hc:X.calm=true):Xf X (.builtin "max") (fun xs H Q=>∃(p:Addr) (ns:List Int),xs=[.ref p]/\Qd X.K H p (ns.map V.int)/\ns ≠ []/\∀M,M∈ns->(∀a∈ns,a<=M)->Q (.int M) H):=by
 intro pins s σ H xs us Q I r h;obtain⟨p,ns,rfl,hq,hne,q⟩:=h;obtain⟨u,rfl,rx⟩:=qG r;cases rx;obtain⟨its,r',pl,hz⟩:=I.list hq;obtain⟨ys,e,e2⟩:=aN (YM r');have hl:=pl.isList;rw[e]at hl;have hsz:0<ys.size:=by
  rcases Nat.eq_zero_or_pos ys.size with z | z
  · exfalso;apply hne;rw[<- e2];have:ys.toList=[]:=by apply eq_nil_of_length_eq_zero;simpa using z
    rw[this];rfl
  · exact z
 refine max_intList (I.ok.hd hc) hl hsz fun v h' tk hv k=>?_
 obtain⟨t,rfl⟩:=intItems_at hv;obtain⟨h1,h2⟩:=argBest_gt (numAt ys) (ys.size-1);refine⟨.int _,H,I.kept k,⟨t,rfl⟩,q _ ?_ fun a ha=>?_⟩
 · rw[numAt_eq,<- e2];exact getD_mem (by rw[length_map,Array.length_toList];omega)
 · rw[<- e2]at ha;obtain⟨j,hj,rfl⟩:=mem_getD ha;rw[length_map,Array.length_toList]at hj;rw[<- numAt_eq];exact h2 j (by omega)
theorem V6 (hc:X.calm=true):Xf X (.builtin "min") (fun xs H Q=>∃(p:Addr) (ns:List Int),xs=[.ref p]/\Qd X.K H p (ns.map V.int)/\ns ≠ []/\∀M,M∈ns->(∀a∈ns,M<=a)->Q (.int M) H):=by
 intro pins s σ H xs us Q I r h;obtain⟨p,ns,rfl,hq,hne,q⟩:=h;obtain⟨u,rfl,rx⟩:=qG r;cases rx;obtain⟨its,r',pl,hz⟩:=I.list hq;obtain⟨ys,e,e2⟩:=aN (YM r');have hl:=pl.isList;rw[e]at hl;have hsz:0<ys.size:=by
  rcases Nat.eq_zero_or_pos ys.size with z | z
  · exfalso;apply hne;rw[<- e2];have:ys.toList=[]:=by apply eq_nil_of_length_eq_zero;simpa using z
    rw[this];rfl
  · exact z
 refine min_intList (I.ok.hd hc) hl hsz fun v h' tk hv k=>?_
 obtain⟨t,rfl⟩:=intItems_at hv;obtain⟨h1,h2⟩:=argBest_lt (numAt ys) (ys.size-1);refine⟨.int _,H,I.kept k,⟨t,rfl⟩,q _ ?_ fun a ha=>?_⟩
 · rw[numAt_eq,<- e2];exact getD_mem (by rw[length_map,Array.length_toList];omega)
 · rw[<- e2]at ha;obtain⟨j,hj,rfl⟩:=mem_getD ha;rw[length_map,Array.length_toList]at hj;rw[<- numAt_eq];exact h2 j (by omega)
def vh(K:Frag)(H:Hp)(x:V)(t:String):Prop:=match x with
 | .non=>t = "NoneType"
 | .bl _=>t = "bool"
 | .int _=>t = "int"
 | .str _=>t = "str"
 | .ref a=>(t = "list" /\ ∃xs,Qd K H a xs)\/(t = "tuple" /\ ∃xs,VG K H a xs)
 | _=>False
theorem P9 {T:String}:Xf X (.builtin "isinstance") (fun xs H Q=>∃x t b,xs=[x,.ty T]/\vh X.K H x t/\PySem.W.kitOne X.K (.type t) (.type T)=some b/\Q (.bl b) H):=by
 intro pins s σ H xs us Q I r h;obtain⟨x,t,b,rfl,ty,e,q⟩:=h;obtain⟨u,u2,rfl,rx,ry⟩:=WT r;cases ry;have fin:∀tk,EP X pins σ Q (.bool b) { s with toks:=tk }:=fun tk=>⟨.bl b,H,I.tok tk,rfl,q⟩
 cases x with
 | non=>cases (show t = "NoneType" from ty);cases rx;exact PySem.W.kia_one PySem.W.kitx_none I.Tn True.intro e (fun z=>nomatch z) fin
 | bl y=>cases (show t = "bool" from ty);cases rx;exact PySem.W.kia_one PySem.W.kitx_bool I.Tn True.intro e (fun z=>nomatch z) fin
 | int i=>cases (show t = "int" from ty);obtain⟨_,rfl⟩:=rx;exact PySem.W.kia_one PySem.W.kitx_int I.Tn True.intro e (fun z=>nomatch z) fin
 | str y=>cases (show t = "str" from ty);obtain⟨_,rfl⟩:=rx;exact PySem.W.kia_one PySem.W.kitx_str I.Tn True.intro e (fun z=>nomatch z) fin
 | ref a=>
  cases rx;rcases ty with⟨rfl,ys,sq⟩ | ⟨rfl,ys,sq⟩
  · obtain⟨its,_,⟨o,n,h1,h2,_,_⟩,_⟩:=I.list sq;exact PySem.W.kia_one PySem.W.kitx_list I.Tn ⟨o,h1,h2⟩ e (fun z=>nomatch z) fin
  · obtain⟨its,_,⟨o,h1,h2,_⟩,_⟩:=I.tuple sq;exact PySem.W.kia_one PySem.W.kitx_tuple I.Tn ⟨o,h1,h2⟩ e (fun z=>nomatch z) fin
 | Um _=>exact False.elim ty
 | flt _=>exact False.elim ty
 | ty _=>exact False.elim ty
end
open PySem.AutoSeq1 (wpAny_loadPart')
open PySem.SeqAt PySem.MeetsSeq PySem.MeetsSeq2 PySem.MeetsSeq3
theorem u7(l b:Addr)(items items2:Array Value)(n n2:Nat)(dd dd2:Option Addr)(sl sl2:Array (Option Value))(e:Nat->Bool) :
 Meets (Builtin.«tuple.__ne__» ⟨[.ref l,.ref b],[]⟩)
  (fun A R s=>s.heap.get? l=some { cls:=.type "tuple",dict:=dd,data:=.seq items n,slots:=sl }/\s.heap.get? b=some { cls:=.type "tuple",dict:=dd2,data:=.seq items2 n2,slots:=sl2 }/\
   (∀j (h1:j<items.size) (h2:j<items2.size),EqAt A.in1 s items[j] items2[j] (e j))/\
   R (.ok (.ret (.bool (!((List.range (min items.size items2.size)).all e&&items.size==items2.size))))) s):=
 .of_wp fun prog w A R s h=>by
  obtain⟨hp,g,d,tk,os⟩:=s;obtain⟨hl,hb,he,h⟩:=h;have f2:=AutoSeq1.sub_tuple_tuple;have hZ:(items.toList.zip items2.toList).length=min items.size items2.size:=by simp
  wp_walk using wpAny_loadPart' hl,wpAny_loadPart' hb,wpAny_forIn_list _ (fun rest b s'=>b.1=none/\s'=⟨hp,g,d,tk,os⟩/\∃i,rest=(items.toList.zip items2.toList).drop i/\
   R (.ok (.ret (.bool (!(((List.range (min items.size items2.size)).drop i).all e&&items.size==items2.size))))) ⟨hp,g,d,tk,os⟩) _
  case turn=>
   rintro⟨y,x⟩ rest b s' ⟨hb',rfl,i,hz,hR⟩;have hlt:i<(items.toList.zip items2.toList).length:=by
    rcases Nat.lt_or_ge i (items.toList.zip items2.toList).length with h' | h'
    · exact h'
    · rw[drop_of_length_le h']at hz;cases hz
   have hm:i<min items.size items2.size:=hZ ▸ hlt;have h1:i<items.size:=Nat.lt_of_lt_of_le hm (Nat.min_le_left _ _);have h2:i<items2.size:=Nat.lt_of_lt_of_le hm (Nat.min_le_right _ _);rw[drop_eq_getElem_cons hlt]at hz;injection hz with hyx hrest
   have hy:y=items[i]:=by have:=congrArg Prod.fst hyx;simpa using this
   have hx:x=items2[i]:=by have:=congrArg Prod.snd hyx;simpa using this
   subst hy hx;have hd:(List.range (min items.size items2.size)).drop i=i::(List.range (min items.size items2.size)).drop (i+1):=by simp[drop_eq_getElem_cons,hm]
   rw[hd,all_cons]at hR;refine wpAny_bind (he i h1 h2 prog w _ _ ?_);cases hy:e i with
   | true=>
    rw[hy]at hR
    wp_walk
    exact⟨rfl,rfl,i+1,hrest,by simpa only[Bool.true_and]using hR⟩
   | false=>
    rw[hy]at hR
    wp_walk
    exact⟨_,rfl,by simpa only[Bool.false_and,Bool.not_false]using hR⟩
  case fin=>
   rintro⟨b1,b2⟩ s' ⟨hb',rfl,i,hz,hR⟩;simp only at hb';subst hb';have hge:min items.size items2.size<=i:=by
    rcases Nat.lt_or_ge i (items.toList.zip items2.toList).length with h' | h'
    · rw[drop_eq_getElem_cons h']at hz;cases hz
    · exact hZ ▸ h'
   rw[drop_of_length_le (by simpa using hge)]at hR
   wp_walk
   exact⟨_,rfl,by simpa[Builtin.Tuple.tupleCompareSizes,bne]using hR⟩
  case h=>exact⟨rfl,rfl,0,rfl,by simpa only[drop_zero]using h⟩
theorem O8(l b:Addr)(items items2:Array Value)(n n2:Nat)(dd dd2:Option Addr)(sl sl2:Array (Option Value))(hsz:items.size=items2.size)(e:Nat->Bool)(k:Nat) :
 ∀i:Nat,items.size-i=k->Meets (Builtin.«list.__eq__.loop» ⟨[.ref l,.ref b,rawInt i,rawInt 3],[]⟩)
  (fun A R s=>s.heap.get? l=some { cls:=.type "list",dict:=dd,data:=.seq items n,slots:=sl }/\s.heap.get? b=some { cls:=.type "list",dict:=dd2,data:=.seq items2 n2,slots:=sl2 }/\
   (∀j (h1:j<items.size) (h2:j<items2.size),EqAt A.in1 s items[j] items2[j] (e j))/\
   R (.ok (.ret (.bool (!(((List.range items.size).drop i).all e))))) s):=by
 induction k with
 | zero=>
  intro i hk prog w A R s h;obtain⟨hp,g,d,tk,os⟩:=s;obtain⟨hl,hb,he,h⟩:=h
  wp_walk using wpAny_loadPart' hl,wpAny_loadPart' hb
  have hi1:items[((i:Nat):Int).toNat]?=none:=by simp;omega
  have hi2:items2[((i:Nat):Int).toNat]?=none:=by simp;omega
  have hd:(List.range items.size).drop i=[]:=by simp;omega
  rw[hd]at h;rw[hi1,hi2]
  wp_walk using wpAny_loadPart' hl,wpAny_loadPart' hb
  show R (.ok (.ret (.bool (items.size !=items2.size)))) _;rw[hsz];simpa using h
 | succ k ih=>
  intro i hk prog w A R s h;obtain⟨hp,g,d,tk,os⟩:=s;obtain⟨hl,hb,he,h⟩:=h
  wp_walk using wpAny_loadPart' hl,wpAny_loadPart' hb
  have hlt:i<items.size:=by omega
  have hlt2:i<items2.size:=by omega
  have hi1:items[((i:Nat):Int).toNat]?=some items[i]:=by simp[hlt]
  have hi2:items2[((i:Nat):Int).toNat]?=some items2[i]:=by simp[hlt2]
  have hd:(List.range items.size).drop i=i::(List.range items.size).drop (i+1):=by simp[drop_eq_getElem_cons,hlt]
  have hc:((i:Int)+1)=((i+1:Nat):Int):=by push_cast;rfl
  rw[hd,all_cons]at h;rw[hi1,hi2];refine wpAny_bind (he i hlt hlt2 prog w _ _ ?_);cases hb':e i with
  | true=>
   rw[hb']at h
   wp_walk
   rw[hc];exact⟨plainId_quiet plain_eq_loop _,codeAny_builtin entry_eq_loop (by
    rw[Around.under_plainId plain_eq_loop _];exact ih (i+1) (by omega) prog w A R _ ⟨hl,hb,he,by simpa only[Bool.true_and]using h⟩)⟩
  | false=>
   rw[hb']at h
   wp_walk using wpAny_loadPart' hl,wpAny_loadPart' hb
   rw[hi1,hi2]
   wp_walk
   simpa using h
theorem C8(l b:Addr)(items items2:Array Value)(n n2:Nat)(dd dd2:Option Addr)(sl sl2:Array (Option Value))(hsz:items.size=items2.size)(e:Nat->Bool) :
 Meets (Builtin.«list.__ne__» ⟨[.ref l,.ref b],[]⟩)
  (fun A R s=>s.heap.get? l=some { cls:=.type "list",dict:=dd,data:=.seq items n,slots:=sl }/\s.heap.get? b=some { cls:=.type "list",dict:=dd2,data:=.seq items2 n2,slots:=sl2 }/\
   (∀j (h1:j<items.size) (h2:j<items2.size),EqAt A.in1 s items[j] items2[j] (e j))/\
   R (.ok (.ret (.bool (!((List.range items.size).all e))))) s):=by
 intro prog w A R s h;obtain⟨hp,g,d,tk,os⟩:=s;obtain⟨hl,hb,he,h⟩:=h;have f3:=AutoSeq1.sub_list_list;have hne:¬(items.size !=items2.size)=true:=by simp[hsz]
 wp_walk using wpAny_loadPart' hl,wpAny_loadPart' hb
 exact⟨plainId_quiet plain_eq_loop _,codeAny_builtin entry_eq_loop (by
  rw[Around.under_plainId plain_eq_loop _];exact O8 l b items items2 n n2 dd dd2 sl sl2 hsz e _ 0 rfl prog w A R _ ⟨hl,hb,he,by simpa only[drop_zero]using h⟩)⟩
theorem o2(l b:Addr)(items items2:Array Value)(n n2:Nat)(dd dd2:Option Addr)(sl sl2:Array (Option Value))(hc0:(items.size !=items2.size)=true) :
 Meets (Builtin.«list.__ne__» ⟨[.ref l,.ref b],[]⟩)
  (fun _ R s=>s.heap.get? l=some { cls:=.type "list",dict:=dd,data:=.seq items n,slots:=sl }/\s.heap.get? b=some { cls:=.type "list",dict:=dd2,data:=.seq items2 n2,slots:=sl2 }/\
   R (.ok (.ret (.bool true))) s):=
 .of_wp fun prog w A R s h=>by
  obtain⟨hp,g,d,tk,os⟩:=s;obtain⟨hl,hb,h⟩:=h;have f3:=AutoSeq1.sub_list_list
  wp_walk using wpAny_loadPart' hl,wpAny_loadPart' hb
  exact⟨_,rfl,h⟩
section
variable{prog:Program}{w:World}{A:Around}{E:Value->Shared->Prop}{s:Shared}{Q:Value->Shared->Prop}
theorem P8{l b:Addr}{items items2:Array Value}{e:Nat->Bool}(hl:s.heap.IsTuple l items)(hb:s.heap.IsTuple b items2)(hu:A.units<cLine)
 (he:∀j (h1:j<items.size) (h2:j<items2.size),EqAt A.in1 s items[j] items2[j] (e j)) (h:Q (.bool (!((List.range (min items.size items2.size)).all e&&items.size==items2.size))) s):wpAny (model prog w) A (compareOp .NotEq (.ref l) (.ref b)) Q E s:=by
 obtain⟨⟨cls,dd,data,sl⟩,ho,hc,n,hd⟩:=id hl;obtain⟨⟨cls2,dd2,data2,sl2⟩,ho2,hc2,n2,hd2⟩:=id hb;simp only at hc hd hc2 hd2;subst hc hd hc2 hd2;exact richCompare_meets_room (op:=.NotEq) ⟨_,ho,rfl⟩ ⟨_,ho2,rfl⟩ F.slot_tuple_ne F.entry_tuple_ne (F.args_tuple_ne_2 _ _) (u7 l b items items2 n n2 dd dd2 sl sl2 e) ⟨ho,ho2,he,⟨(fun x=>nomatch x),h⟩⟩ hu
theorem F9{l b:Addr}{items items2:Array Value}{e:Nat->Bool}(hl:s.heap.IsList l items)(hb:s.heap.IsList b items2)(hsz:items.size=items2.size)(hu:A.units<cLine)
 (he:∀j (h1:j<items.size) (h2:j<items2.size),EqAt A.in1 s items[j] items2[j] (e j)) (h:Q (.bool (!((List.range items.size).all e))) s):wpAny (model prog w) A (compareOp .NotEq (.ref l) (.ref b)) Q E s:=by
 obtain⟨⟨cls,dd,data,sl⟩,ho,hc,n,hd⟩:=id hl;obtain⟨⟨cls2,dd2,data2,sl2⟩,ho2,hc2,n2,hd2⟩:=id hb;simp only at hc hd hc2 hd2;subst hc hd hc2 hd2;exact richCompare_meets_room (op:=.NotEq) ⟨_,ho,rfl⟩ ⟨_,ho2,rfl⟩ F.slot_list_ne F.entry_list_ne (F.args_list_ne_2 _ _) (C8 l b items items2 n n2 dd dd2 sl sl2 hsz e) ⟨ho,ho2,he,⟨(fun x=>nomatch x),h⟩⟩ hu
theorem j5{l b:Addr}{items items2:Array Value}(hl:s.heap.IsList l items)(hb:s.heap.IsList b items2)(hsz:(items.size !=items2.size)=true)(hu:A.units<cLine)
 (h:Q (.bool true) s):wpAny (model prog w) A (compareOp .NotEq (.ref l) (.ref b)) Q E s:=by
 obtain⟨⟨cls,dd,data,sl⟩,ho,hc,n,hd⟩:=id hl;obtain⟨⟨cls2,dd2,data2,sl2⟩,ho2,hc2,n2,hd2⟩:=id hb;simp only at hc hd hc2 hd2;subst hc hd hc2 hd2;exact richCompare_meets_room (op:=.NotEq) ⟨_,ho,rfl⟩ ⟨_,ho2,rfl⟩ F.slot_list_ne F.entry_list_ne (F.args_list_ne_2 _ _) (o2 l b items items2 n n2 dd dd2 sl sl2 hsz) ⟨ho,ho2,⟨(fun x=>nomatch x),h⟩⟩ hu
end
end L2
namespace SM
inductive Dt where
 | non | bl (b:Bool) | int (i:Int) | str (x:Str) | tup (xs:List Dt) | lst (xs:List Dt) | ref (n:Nat) | Zd (xs:List Int)
inductive Ob where
 | lst (xs:List Dt)
 | ins (x:Str) (fs:List (Str×Dt))
 | dk (kvs:List (cC×Dt))
 | dt (kvs:List (List Int×Dt))
 | df (kvs:List (List Int×Dt))
noncomputable abbrev HI:=List Ob
noncomputable abbrev LI:=List (Option Dt)
structure Rg where
 v:List Addr
 z:List Addr
noncomputable def Rg.no(ρ:Rg)(a:Addr):Prop:=a∉ρ.v/\a∉ρ.z
noncomputable def Rg.add(ρ:Rg)(p:Addr):Rg:=⟨ρ.v++[p],ρ.z⟩
noncomputable def Rg.hide(ρ:Rg)(p:Addr):Rg:=⟨ρ.v,p::ρ.z⟩
noncomputable def Rg.nil:Rg:=⟨[],[]⟩
def TupAt(K:Frag)(H:Hp)(ρ:Rg)(a:Addr)(vs:List V):Prop:=
 (ρ.no a/\Rd H a (.tup vs))\/
  ∃(o:Obj) (its:Array Value) (n:Nat),K.lookup a=some o/\o.cls=.type "tuple" /\ o.data=.seq its n/\its.size<=sizeLine/\Vals vs its.toList
def LstAt(K:Frag)(H:Hp)(ρ:Rg)(a:Addr)(vs:List V):Prop:=
 (ρ.no a/\Rd H a (.lst vs))\/
  ∃(o:Obj) (its:Array Value) (n:Nat),K.lookup a=some o/\o.cls=.type "list" /\ o.dict=none/\o.data=.seq its n/\its.size<=sizeLine/\Vals vs its.toList
theorem TupAt.sq{K:Frag}{H:Hp}{ρ:Rg}{a:Addr}{vs:List V}(h:TupAt K H ρ a vs):VG K H a vs:=by
 rcases h with⟨_,h⟩ | h
 · exact .inl h
 · exact .inr h
theorem LstAt.sq{K:Frag}{H:Hp}{ρ:Rg}{a:Addr}{vs:List V}(h:LstAt K H ρ a vs):Qd K H a vs:=by
 rcases h with⟨_,h⟩ | h
 · exact .inl h
 · exact .inr h
mutual
noncomputable def Wr(K:Frag)(H:Hp)(ρ:Rg):Dt->V->Prop
 | .non,v=>v=.non
 | .bl b,v=>v=.bl b
 | .int i,v=>v=.int i
 | .str x,v=>v=.str x
 | .tup xs,v=>∃a vs,v=.ref a/\TupAt K H ρ a vs/\Ur K H ρ xs vs
 | .lst xs,v=>∃a vs,v=.ref a/\LstAt K H ρ a vs/\Ur K H ρ xs vs
 | .ref n,v=>∃a,v=.ref a/\ρ.v[n]?=some a
 | .Zd xs,v=>∃a,v=.ref a/\ρ.no a/\H a=some (.tup (xs.map V.int))
noncomputable def Ur(K:Frag)(H:Hp)(ρ:Rg):List Dt->List V->Prop
 | [],vs=>vs=[]
 | x::xs,vs=>∃v r,vs=v::r/\Wr K H ρ x v/\Ur K H ρ xs r
end
structure Ext(ρ ρ':Rg)(H H':Hp):Prop where
 pre:∃e,ρ'.v=ρ.v++e/\∀a∈e,H a=none
 hid:ρ'.z=ρ.z
 keep:∀a o,H a=some o->a∉ρ.v->H' a=some o
 live:∀a,H' a=none->H a=none
 fz:∀a o u,H a=some (.Gb o u)->H' a=some (.Gb o u)
theorem Ext.refl(ρ:Rg)(H:Hp):Ext ρ ρ H H:=⟨⟨[],by simp,by simp⟩,rfl,fun _ _ h _=>h,fun _ h=>h,fun _ _ _ h=>h⟩
theorem Ext.za4{ρ ρ':Rg}{H H':Hp}(x:Ext ρ ρ' H H'){a:Addr}{o:HO}(h:H a=some o)(n:a∉ρ.v):a∉ρ'.v:=by
 obtain⟨e,e',hn⟩:=x.pre;rw[e'];intro hm;rcases mem_append.mp hm with hm | hm
 · exact n hm
 · have:=hn a hm;rw[h]at this;cases this
theorem Ext.Vl{ρ ρ':Rg}{H H':Hp}(x:Ext ρ ρ' H H'){a:Addr}{o:HO}(h:H a=some o)(n:ρ.no a):ρ'.no a:=⟨x.za4 h n.1,by rw[x.hid];exact n.2⟩
theorem Ext.trans{ρ ρ1 ρ2:Rg}{H H1 H2:Hp}(x:Ext ρ ρ1 H H1)(y:Ext ρ1 ρ2 H1 H2):Ext ρ ρ2 H H2:=by
 refine⟨?_,y.hid.trans x.hid,fun a o h n=>y.keep a o (x.keep a o h n) (x.za4 h n),fun a h=>x.live a (y.live a h),fun a o u h=>y.fz a o u (x.fz a o u h)⟩;obtain⟨e,q1,h1⟩:=x.pre;obtain⟨e',q2,h2⟩:=y.pre;refine⟨e++e',by rw[q2,q1,append_assoc],fun a ha=>?_⟩;rcases mem_append.mp ha with ha | ha
 · exact h1 a ha
 · exact x.live a (h2 a ha)
theorem Ext.get{ρ ρ':Rg}{H H':Hp}(x:Ext ρ ρ' H H'){n:Nat}{a:Addr}(h:ρ.v[n]?=some a):ρ'.v[n]?=some a:=by obtain⟨e,e',_⟩:=x.pre;have:=(zed h).1;rw[e',zee this];exact h
theorem Ext.fresh{ρ:Rg}{H:Hp}{p:Addr}{o:HO}(h:H p=none):Ext ρ ρ H (xB H p o):=by
 refine⟨⟨[],by simp,by simp⟩,rfl,fun a u e _=>?_,fun a e=>?_,fun a o u e=>by rw[QA (bD e h)];exact e⟩
 · rw[QA (bD e h)];exact e
 · by_cases ha:a=p
   · subst ha;exact h
   · rw[QA ha]at e;exact e
theorem Ext.own{ρ:Rg}{H:Hp}{p:Addr}{o:HO}(h:H p=none):Ext ρ (ρ.add p) H (xB H p o):=by refine⟨⟨[p],rfl,fun a ha=>?_⟩,rfl,(Ext.fresh (ρ:=ρ) h).keep,(Ext.fresh (ρ:=ρ) h).live,(Ext.fresh (ρ:=ρ) h).fz⟩;rw[mem_singleton.mp ha];exact h
noncomputable def XT(H:Hp)(a:Addr):Prop:=∀o u,H a≠some (.Gb o u)
theorem fH{H:Hp}{a:Addr}{vs:List V}(h:H a=some (.lst vs)):XT H a:=fun _ _ e=>by rw[h]at e;cases e
theorem Ext.write{ρ:Rg}{H:Hp}{a:Addr}{o:HO}(ha:a∈ρ.v)(nf:XT H a):Ext ρ ρ H (xB H a o):=by
 refine⟨⟨[],by simp,by simp⟩,rfl,fun b u e n=>?_,fun b e=>?_,fun b q u e=>by rw[QA (fun z:b=a=>nf q u (by rw[<- z];exact e))];exact e⟩
 · rw[QA (fun z=>n (by rw[z];exact ha))];exact e
 · by_cases hb:b=a
   · subst hb;rw[SC]at e;cases e
   · rw[QA hb]at e;exact e
structure jd(ρ ρ':Rg)(H H':Hp):Prop where
 no:∀a u,H a=some u->ρ.no a->ρ'.no a
 eq:∀a u,H a=some u->ρ.no a->H' a=some u
 ix:∀(n:Nat) a,ρ.v[n]?=some a->ρ'.v[n]?=some a
 fz:∀a o u,H a=some (.Gb o u)->H' a=some (.Gb o u)
theorem Ext.same{ρ ρ':Rg}{H H':Hp}(x:Ext ρ ρ' H H'):jd ρ ρ' H H':=⟨fun _ _ e n=>x.Vl e n,fun _ _ e n=>x.keep _ _ e n.1,fun _ _ e=>x.get e,x.fz⟩
theorem jd.trans{ρ ρ1 ρ2:Rg}{H H1 H2:Hp}(x:jd ρ ρ1 H H1)(y:jd ρ1 ρ2 H1 H2):jd ρ ρ2 H H2:=
 ⟨fun a u e n=>y.no a u (x.eq a u e n) (x.no a u e n),fun a u e n=>y.eq a u (x.eq a u e n) (x.no a u e n),fun n a e=>y.ix n a (x.ix n a e),fun a o u e=>y.fz a o u (x.fz a o u e)⟩
theorem TupAt.same{K:Frag}{ρ ρ':Rg}{H H':Hp}(x:jd ρ ρ' H H'){a:Addr}{vs:List V}(h:TupAt K H ρ a vs):TupAt K H' ρ' a vs:=by
 rcases h with⟨n,t | ⟨y,t⟩⟩ | t
 · exact .inl ⟨x.no _ _ t n,.inl (x.eq _ _ t n)⟩
 · exact .inl ⟨x.no _ _ t n,.inr ⟨y,x.eq _ _ t n⟩⟩
 · exact .inr t
theorem LstAt.same{K:Frag}{ρ ρ':Rg}{H H':Hp}(x:jd ρ ρ' H H'){a:Addr}{vs:List V}(h:LstAt K H ρ a vs):LstAt K H' ρ' a vs:=by
 rcases h with⟨n,t | ⟨y,t⟩⟩ | t
 · exact .inl ⟨x.no _ _ t n,.inl (x.eq _ _ t n)⟩
 · exact .inl ⟨x.no _ _ t n,.inr ⟨y,x.eq _ _ t n⟩⟩
 · exact .inr t
mutual
theorem Wr.same{K:Frag}{ρ ρ':Rg}{H H':Hp}(x:jd ρ ρ' H H'):∀(d:Dt){v:V},Wr K H ρ d v->Wr K H' ρ' d v
 | .non,_,h=>by simp only[Wr]at h ⊢;exact h
 | .bl _,_,h=>by simp only[Wr]at h ⊢;exact h
 | .int _,_,h=>by simp only[Wr]at h ⊢;exact h
 | .str _,_,h=>by simp only[Wr]at h ⊢;exact h
 | .tup xs,_,h=>by simp only[Wr]at h ⊢;obtain⟨a,vs,e,t,r⟩:=h;exact⟨a,vs,e,t.same x,Ur.same x xs r⟩
 | .lst xs,_,h=>by simp only[Wr]at h ⊢;obtain⟨a,vs,e,t,r⟩:=h;exact⟨a,vs,e,t.same x,Ur.same x xs r⟩
 | .ref _,_,h=>by simp only[Wr]at h ⊢;obtain⟨a,e,t⟩:=h;exact⟨a,e,x.ix _ _ t⟩
 | .Zd _,_,h=>by simp only[Wr]at h ⊢;obtain⟨a,e,n,t⟩:=h;exact⟨a,e,x.no _ _ t n,x.eq _ _ t n⟩
theorem Ur.same{K:Frag}{ρ ρ':Rg}{H H':Hp}(x:jd ρ ρ' H H'):∀(ds:List Dt){vs:List V},Ur K H ρ ds vs->Ur K H' ρ' ds vs
 | [],_,h=>by simp only[Ur]at h ⊢;exact h
 | d::ds,_,h=>by simp only[Ur]at h ⊢;obtain⟨v,r,e,h1,h2⟩:=h;exact⟨v,r,e,Wr.same x d h1,Ur.same x ds h2⟩
end
theorem Wr.ext{K:Frag}{ρ ρ':Rg}{H H':Hp}(x:Ext ρ ρ' H H')(d:Dt){v:V}(h:Wr K H ρ d v):Wr K H' ρ' d v:=Wr.same x.same d h
theorem Ur.ext{K:Frag}{ρ ρ':Rg}{H H':Hp}{ds:List Dt}{vs:List V}(h:Ur K H ρ ds vs)(x:Ext ρ ρ' H H'):Ur K H' ρ' ds vs:=Ur.same x.same ds h
section
variable{K:Frag}{H:Hp}{ρ:Rg}
theorem Ur.nil:Ur K H ρ [] []:=by simp only[Ur]
theorem Ur.cons{d:Dt}{v:V}{ds:List Dt}{vs:List V}(h:Wr K H ρ d v)(r:Ur K H ρ ds vs):Ur K H ρ (d::ds) (v::vs):=by simp only[Ur];exact⟨v,vs,rfl,h,r⟩
theorem Ur.zf{d:Dt}{ds:List Dt}{vs:List V}(h:Ur K H ρ (d::ds) vs):∃v r,vs=v::r/\Wr K H ρ d v/\Ur K H ρ ds r:=by simpa only[Ur]using h
theorem Ur.ud{vs:List V}(h:Ur K H ρ [] vs):vs=[]:=by simpa only[Ur]using h
theorem Ur.length:∀{ds:List Dt}{vs:List V},Ur K H ρ ds vs->vs.length=ds.length
 | [],_,h=>by rw[h.ud];rfl
 | d::ds,_,h=>by obtain⟨v,r,rfl,_,h2⟩:=h.zf;rw[zd3,zd3,Ur.length h2]
theorem Ur.get:∀{ds:List Dt}{vs:List V}{i:Nat}{d:Dt},Ur K H ρ ds vs->ds[i]?=some d->∃v,vs[i]?=some v/\Wr K H ρ d v
 | [],_,_,_,_,e=>by simp at e
 | d::ds,_,0,_,h,e=>by obtain⟨v,r,rfl,h1,_⟩:=h.zf;simp at e;subst e;exact⟨v,rfl,h1⟩
 | d::ds,_,i+1,d',h,e=>by obtain⟨v,r,rfl,_,h2⟩:=h.zf;obtain⟨u,q1,q2⟩:=Ur.get (i:=i) h2 (by simpa using e);exact⟨u,by simpa using q1,q2⟩
theorem Ur.append:∀{ds es:List Dt}{vs us:List V},Ur K H ρ ds vs->Ur K H ρ es us->Ur K H ρ (ds++es) (vs++us)
 | [],_,_,_,h,h'=>by rw[h.ud];exact h'
 | d::ds,_,_,_,h,h'=>by obtain⟨v,r,rfl,h1,h2⟩:=h.zf;exact .cons h1 (Ur.append h2 h')
theorem Ur.set:∀{ds:List Dt}{vs:List V}{d:Dt}{v:V}(i:Nat),Ur K H ρ ds vs->Wr K H ρ d v->Ur K H ρ (ds.set i d) (vs.set i v)
 | [],_,_,_,_,h,_=>by rw[h.ud];exact .nil
 | d::ds,_,_,_,0,h,q=>by obtain⟨v,r,rfl,h1,h2⟩:=h.zf;exact .cons q h2
 | d::ds,_,_,_,i+1,h,q=>by obtain⟨v,r,rfl,h1,h2⟩:=h.zf;exact .cons h1 (Ur.set i h2 q)
theorem Ur.take:∀{ds:List Dt}{vs:List V}(n:Nat),Ur K H ρ ds vs->Ur K H ρ (ds.take n) (vs.take n)
 | [],_,n,h=>by rw[h.ud];simp;exact .nil
 | d::ds,_,0,h=>.nil
 | d::ds,_,n+1,h=>by obtain⟨v,r,rfl,h1,h2⟩:=h.zf;exact .cons h1 (Ur.take n h2)
theorem Ur.drop:∀{ds:List Dt}{vs:List V}(n:Nat),Ur K H ρ ds vs->Ur K H ρ (ds.drop n) (vs.drop n)
 | [],_,n,h=>by rw[h.ud];simp;exact .nil
 | d::ds,_,0,h=>h
 | d::ds,_,n+1,h=>by obtain⟨v,r,rfl,h1,h2⟩:=h.zf;exact Ur.drop n h2
theorem Ur.ints(ns:List Int):Ur K H ρ (ns.map Dt.int) (ns.map V.int):=by
 induction ns with
 | nil=>exact .nil
 | cons n ns ih=>exact .cons (by simp only[Wr]) ih
theorem Ur.Eb:∀{ns:List Int}{vs:List V},Ur K H ρ (ns.map Dt.int) vs->vs=ns.map V.int
 | [],_,h=>h.ud
 | n::ns,_,h=>by obtain⟨v,r,rfl,h1,h2⟩:=Ur.zf h;simp only[Wr]at h1;rw[h1,Ur.Eb h2];rfl
theorem Vr{i:Int}{v:V}:Wr K H ρ (.int i) v↔v=.int i:=by simp only[Wr]
theorem Yr{i:Bool}{v:V}:Wr K H ρ (.bl i) v↔v=.bl i:=by simp only[Wr]
theorem Af{i:Str}{v:V}:Wr K H ρ (.str i) v↔v=.str i:=by simp only[Wr]
theorem vf{v:V}:Wr K H ρ .non v↔v=.non:=by simp only[Wr]
theorem bf{xs:List Dt}{v:V}:Wr K H ρ (.tup xs) v↔∃a vs,v=.ref a/\TupAt K H ρ a vs/\Ur K H ρ xs vs:=by simp only[Wr]
theorem Zr{xs:List Dt}{v:V}:Wr K H ρ (.lst xs) v↔∃a vs,v=.ref a/\LstAt K H ρ a vs/\Ur K H ρ xs vs:=by simp only[Wr]
theorem Td{xs:List Int}{v:V}:Wr K H ρ (.Zd xs) v↔∃a,v=.ref a/\ρ.no a/\H a=some (.tup (xs.map V.int)):=by simp only[Wr]
theorem uf{n:Nat}{v:V}:Wr K H ρ (.ref n) v↔∃a,v=.ref a/\ρ.v[n]?=some a:=by simp only[Wr]
end
def Ib(K:Frag)(H:Hp)(ρ:Rg)(a:Addr):Ob->Prop
 | .lst xs=>∃vs,H a=some (.lst vs)/\Ur K H ρ xs vs
 | .ins x fs=>∃C dx vs,nsIn K mainGlobals x=some (some (.ref C))/\H a=some (.ins C dx vs)/\fs.map (·.1)=vs.map (·.1)/\Ur K H ρ (fs.map (·.2)) (vs.map (·.2))
 | .dk kvs=>∃vs,H a=some (.dK vs)/\kvs.map (·.1)=vs.map (·.1)/\Ur K H ρ (kvs.map (·.2)) (vs.map (·.2))
 | .dt kvs=>∃vs:List (List cC×V),H a=some (.dT vs)/\vs.map (·.1)=kvs.map (fun p=>p.1.map Sum.inl)/\Ur K H ρ (kvs.map (·.2)) (vs.map (·.2))
 | .df kvs=>∃(o:Obj)(vs:List (List cC×V)),H a=some (.Gb o (.dT vs))/\vs.map (·.1)=kvs.map (fun p=>p.1.map Sum.inl)/\Ur K H ρ (kvs.map (·.2)) (vs.map (·.2))
structure jf(K:Frag)(ρ:Rg)(h:HI)(H:Hp):Prop where
 nd:ρ.v.Nodup
 len:ρ.v.length=h.length
 ob:∀(n:Nat) a o,ρ.v[n]?=some a->h[n]?=some o->Ib K H ρ a o
 zt:∀a∈ρ.z,a∉ρ.v/\∃vs,H a=some (.lst vs)
theorem Ib.ext{K:Frag}{H H':Hp}{ρ ρ':Rg}{a:Addr}{o:Ob}(x:Ext ρ ρ' H H')(e:H' a=H a)(h:Ib K H ρ a o):Ib K H' ρ' a o:=by
 cases o with
 | lst xs=>obtain⟨vs,h1,h2⟩:=h;exact⟨vs,e.trans h1,h2.ext x⟩
 | ins y fs=>obtain⟨C,dx,vs,h0,h1,h2,h3⟩:=h;exact⟨C,dx,vs,h0,e.trans h1,h2,h3.ext x⟩
 | dk kvs=>obtain⟨vs,h1,h2,h3⟩:=h;exact⟨vs,e.trans h1,h2,h3.ext x⟩
 | dt kvs=>obtain⟨vs,h1,h2,h3⟩:=h;exact⟨vs,e.trans h1,h2,h3.ext x⟩
 | df kvs=>obtain⟨o,vs,h1,h2,h3⟩:=h;exact⟨o,vs,e.trans h1,h2,h3.ext x⟩
theorem Ib.some{K:Frag}{H:Hp}{ρ:Rg}{a:Addr}{o:Ob}(h:Ib K H ρ a o):∃u,H a=some u:=by
 cases o with
 | lst xs=>obtain⟨vs,h1,_⟩:=h;exact⟨_,h1⟩
 | ins y fs=>obtain⟨C,dx,vs,_,h1,_⟩:=h;exact⟨_,h1⟩
 | dk kvs=>obtain⟨vs,h1,_⟩:=h;exact⟨_,h1⟩
 | dt kvs=>obtain⟨vs,h1,_⟩:=h;exact⟨_,h1⟩
 | df kvs=>obtain⟨o,vs,h1,_⟩:=h;exact⟨_,h1⟩
section
variable{K:Frag}{H H':Hp}{ρ:Rg}{h:HI}
theorem jf.nil:jf K .nil [] H:=⟨nodup_nil,rfl,fun _ _ _ e=>by simp[Rg.nil]at e,fun _ h=>nomatch h⟩
theorem jf.tracked(S:jf K ρ h H){a:Addr}(ha:a∈ρ.v):∃u,H a=some u:=by
 obtain⟨n,hn⟩:=mem_iff_getElem?.mp ha;have hl:n<h.length:=by rw[<- S.len];exact(zed hn).1
 exact(S.ob n a _ hn (getElem?_eq_getElem hl)).some
theorem jf.out(S:jf K ρ h H){p:Addr}(hp:H p=none):ρ.no p:=by
 refine⟨fun ha=>?_,fun ha=>?_⟩
 · obtain⟨u,e⟩:=S.tracked ha;rw[hp]at e;cases e
 · obtain⟨_,u,e⟩:=S.zt p ha;rw[hp]at e;cases e
theorem jf.fresh(S:jf K ρ h H){p:Addr}{o:HO}(hp:H p=none):jf K ρ h (xB H p o):=
 ⟨S.nd,S.len,fun n a u e1 e2=>(S.ob n a u e1 e2).ext (Ext.fresh hp) (QA (fun z=>(S.out hp).1 (z ▸ mem_of_getElem? e1))),fun a ha=>by
  obtain⟨n,u,e⟩:=S.zt a ha;exact⟨n,u,by rw[QA (bD e hp)];exact e⟩⟩
theorem jf.own(S:jf K ρ h H){p:Addr}{o:HO}{u:Ob}(hp:H p=none)(hu:Ib K (xB H p o) (ρ.add p) p u):jf K (ρ.add p) (h++[u]) (xB H p o):=by
 refine⟨?_,by simp only[Rg.add];rw[length_append,length_append,S.len];rfl,fun n a ob e1 e2=>?_,fun a ha=>?_⟩
 · simp only[Rg.add];rw[nodup_append];refine⟨S.nd,nodup_cons.mpr ⟨by simp,nodup_nil⟩,fun a ha b hb=>?_⟩;rw[mem_singleton.mp hb];intro z;exact(S.out hp).1 (z ▸ ha)
 · simp only[Rg.add]at e1;by_cases hn:n<h.length
   · rw[zee hn]at e2;rw[zee (by rw[S.len];exact hn)]at e1;exact(S.ob n a ob e1 e2).ext (Ext.own hp) (QA (fun z=>(S.out hp).1 (z ▸ mem_of_getElem? e1)))
   · have hn':h.length<=n:=Nat.not_lt.mp hn;rw[zeh hn']at e2;rw[zeh (by rw[S.len];exact hn'),S.len]at e1;cases hk:n-h.length with
     | zero=>rw[hk]at e1 e2;simp at e1 e2;subst e1 e2;exact hu
     | succ k=>rw[hk]at e2;simp at e2
 · obtain⟨n,u,e⟩:=S.zt a ha;refine⟨fun hm=>?_,u,by rw[QA (bD e hp)];exact e⟩;simp only[Rg.add]at hm;rcases mem_append.mp hm with hm | hm
   · exact n hm
   · rw[mem_singleton.mp hm,hp]at e;cases e
theorem jf.write(S:jf K ρ h H){n:Nat}{p:Addr}{o:HO}{u:Ob}(hn:ρ.v[n]?=some p)(nf:XT H p)(hu:Ib K (xB H p o) ρ p u):jf K ρ (h.set n u) (xB H p o):=by
 refine⟨S.nd,by rw[length_set];exact S.len,fun m a ob e1 e2=>?_,fun a ha=>?_⟩
 · by_cases hm:m=n
   · subst hm;rw[hn]at e1;cases e1;have hl:m<h.length:=by rw[<- S.len];exact(zed hn).1
     rw[getElem?_set_self hl]at e2;cases e2;exact hu
   · rw[getElem?_set_ne (Ne.symm hm)]at e2;refine(S.ob m a ob e1 e2).ext (Ext.write (mem_of_getElem? hn) nf) (QA fun z=>hm ?_);subst z;obtain⟨h1,q1⟩:=zed e1;obtain⟨h2,q2⟩:=zed hn;exact(getElem_inj S.nd).mp (q1.trans q2.symm)
 · obtain⟨m,w,e⟩:=S.zt a ha;exact⟨m,w,by rw[QA (fun z=>m (by rw[z];exact mem_of_getElem? hn))];exact e⟩
theorem jf.lst(S:jf K ρ h H){n:Nat}{a:Addr}{xs:List Dt}(hn:ρ.v[n]?=some a)(e:h[n]?=some (.lst xs)):∃vs,H a=some (.lst vs)/\Ur K H ρ xs vs:=S.ob n a _ hn e
end
structure Wf(K:Frag)(H:Hp)(ρ:Rg)(l:LI)(σ:L2.St):Prop where
 len:l.length=σ.length
 val:∀(i:Nat) d,l[i]?=some (some d)->∃v,σ[i]?=some (some v)/\Wr K H ρ d v
theorem Wf.ext{K:Frag}{H H':Hp}{ρ ρ':Rg}{l:LI}{σ:L2.St}(L:Wf K H ρ l σ)(x:Ext ρ ρ' H H'):Wf K H' ρ' l σ:=
 ⟨L.len,fun i d e=>let ⟨v,e1,r⟩:=L.val i d e;⟨v,e1,Wr.ext x d r⟩⟩
theorem Wf.set{K:Frag}{H:Hp}{ρ:Rg}{l:LI}{σ:L2.St}(L:Wf K H ρ l σ){d:Dt}{v:V}(i:Nat)(r:Wr K H ρ d v):Wf K H ρ (l.set i (some d)) (σ.set i (some v)):=by
 refine⟨by rw[length_set,length_set];exact L.len,fun j d' e=>?_⟩;by_cases hj:j=i
 · subst hj;have hl:j<l.length:=by have:=(zed e).1;rwa[length_set]at this
   rw[getElem?_set_self hl]at e;cases e;exact⟨v,getElem?_set_self (by rw[<- L.len];exact hl),r⟩
 · rw[getElem?_set_ne (Ne.symm hj)]at e;rw[getElem?_set_ne (Ne.symm hj)];exact L.val j d' e
abbrev RE:=LI->HI->Option (Dt×HI)
abbrev RT:=LI->HI->Option (Bool×HI)
abbrev RA:=LI->HI->Option (List Dt×HI)
inductive Rs where
 | nx (l:LI) (h:HI) | rt (d:Dt) (h:HI) | bk (l:LI) (h:HI) | ct (l:LI) (h:HI)
abbrev RS:=LI->HI->Option Rs
abbrev DD:=Dt->Dt->HI->Option (Dt×HI)
abbrev RB:=List Dt->HI->Option (Dt×HI)
noncomputable def uB:Expr->Bool
 | .Starred _ _=>false
 | _=>true
theorem lB{e:Expr}(h:uB e=true)(es:List Expr)(env:Env):starEach (e::es) env=(false,eval e env)::starEach es env:=by cases e<;>first | rfl | (exact absurd h zef)
theorem cJ{pos:Pos}{env:Env}:∀{es:List Expr},es.all uB=true->(backTo pos (starEach es env)).any (·.1)=false
 | [],_=>rfl
 | e::es,h=>by rw[all_cons,Bool.and_eq_true]at h;have ih:=cJ (pos:=pos) (env:=env) h.2;rw[lB h.1];unfold backTo at ih ⊢;simp only[zd5,any_cons,Bool.false_or];exact ih
theorem cS{pos:Pos}{env:Env}{b:Expr}(h:uB b=true):((backTo pos (starEach [b] env)).all (fun x=>!x.1)&&(backToKw pos (keywordEach [] env)).all (fun x=>x.1.isSome)
 && decide ([b].length+([]:List Keyword).length+(if([]:List Keyword).isEmpty then 0 else 1)<30))=true:=by
 rw[lB h];rfl
def Out(K:Frag)(ρ:Rg)(H:Hp)(d:Dt)(h':HI)(Q:VK):Prop:=
 ∀ρ' v H',Wr K H' ρ' d v->jf K ρ' h' H'->Ext ρ ρ' H H'->Q v H'
noncomputable def Fl(K:Frag)(ρ:Rg)(H:Hp)(h':HI)(Q:Hp->Prop):Prop:=
 ∀ρ' H',jf K ρ' h' H'->Ext ρ ρ' H H'->Q H'
def tM(K:Frag)(f:RE):TE:=fun σ H Q=>∃ρ l h d h',jf K ρ h H/\Wf K H ρ l σ/\f l h=some (d,h')/\Out K ρ H d h' Q
def OO(K:Frag)(f:RT):TT:=fun σ H Q=>∃ρ l h b h',jf K ρ h H/\Wf K H ρ l σ/\f l h=some (b,h')/\Fl K ρ H h' (Q b)
def Zh(K:Frag)(f:RA):TA:=fun σ H Q=>∃ρ l h ds h',jf K ρ h H/\Wf K H ρ l σ/\f l h=some (ds,h')/\∀ρ' vs H',Ur K H' ρ' ds vs->jf K ρ' h' H'->Ext ρ ρ' H H'->Q vs H'
def rM(K:Frag)(op:DD):R2:=fun x y H Q=>∃ρ h d1 d2 d h',jf K ρ h H/\Wr K H ρ d1 x/\Wr K H ρ d2 y/\op d1 d2 h=some (d,h')/\Out K ρ H d h' Q
def Ip(K:Frag)(ρ:Rg)(H:Hp)(D:GH):Rs->Prop
 | .nx l h=>∀ρ' σ' H',jf K ρ' h H'->Wf K H' ρ' l σ'->Ext ρ ρ' H H'->D.nx σ' H'
 | .bk l h=>∀ρ' σ' H',jf K ρ' h H'->Wf K H' ρ' l σ'->Ext ρ ρ' H H'->D.bk σ' H'
 | .ct l h=>∀ρ' σ' H',jf K ρ' h H'->Wf K H' ρ' l σ'->Ext ρ ρ' H H'->D.ct σ' H'
 | .rt d h=>Out K ρ H d h D.rt
def sM(K:Frag)(f:RS):TS:=fun D σ H=>∃ρ l h r,jf K ρ h H/\Wf K H ρ l σ/\f l h=some r/\Ip K ρ H D r
theorem Out.ext{K:Frag}{ρ ρ1:Rg}{H H1:Hp}{d:Dt}{h':HI}{Q:VK}(k:Out K ρ H d h' Q)(x:Ext ρ ρ1 H H1):Out K ρ1 H1 d h' Q:=fun ρ' v H' r s e=>k ρ' v H' r s (x.trans e)
theorem Fl.ext{K:Frag}{ρ ρ1:Rg}{H H1:Hp}{h':HI}{Q:Hp->Prop}(k:Fl K ρ H h' Q)(x:Ext ρ ρ1 H H1):Fl K ρ1 H1 h' Q:=fun ρ' H' s e=>k ρ' H' s (x.trans e)
theorem Ip.ext{K:Frag}{ρ ρ1:Rg}{H H1:Hp}{D:GH}{r:Rs}(k:Ip K ρ H D r)(x:Ext ρ ρ1 H H1):Ip K ρ1 H1 D r:=by
 cases r with
 | nx l h=>exact fun ρ' σ' H' s l e=>k ρ' σ' H' s l (x.trans e)
 | bk l h=>exact fun ρ' σ' H' s l e=>k ρ' σ' H' s l (x.trans e)
 | ct l h=>exact fun ρ' σ' H' s l e=>k ρ' σ' H' s l (x.trans e)
 | rt d h=>exact Out.ext k x
@[irreducible] def EM(X:Cx)(e:Expr)(f:RE):Prop:=PE X e (tM X.K f)
@[irreducible] def TM(X:Cx)(e:Expr)(f:RT):Prop:=PT X e (OO X.K f)
@[irreducible] def WM(X:Cx)(e:Expr)(f:RT):Prop:=PW X e (OO X.K f)
@[irreducible] def AM(X:Cx)(es:List Expr)(f:RA):Prop:=PA X es (Zh X.K f)
@[irreducible] def OM(X:Cx)(f:Value->Value->Sem Value)(op:DD):Prop:=Kd X f (rM X.K op)
@[irreducible] def ZM(X:Cx)(st:Stmt)(f:RS):Prop:=PS X st (sM X.K f)
@[irreducible] def MH(X:Cx)(st:List Stmt)(f:RS):Prop:=Qn X st (sM X.K f)
theorem PE.imp{X:Cx}{e:Expr}{t t':TE}(h:PE X e t)(i:∀σ H Q,t' σ H Q->t σ H Q):PE X e t':=fun pins s σ H Q I q=>h pins s σ H Q I (i σ H Q q)
theorem PT.imp{X:Cx}{e:Expr}{t t':TT}(h:PT X e t)(i:∀σ H Q,t' σ H Q->t σ H Q):PT X e t':=fun pins s σ H Q I q=>h pins s σ H Q I (i σ H Q q)
theorem PW.imp{X:Cx}{e:Expr}{t t':TT}(h:PW X e t)(i:∀σ H Q,t' σ H Q->t σ H Q):PW X e t':=fun wh pins s σ H Q I q=>h wh pins s σ H Q I (i σ H Q q)
theorem PA.imp{X:Cx}{e:List Expr}{t t':TA}(h:PA X e t)(i:∀σ H Q,t' σ H Q->t σ H Q):PA X e t':=fun pos pins s σ H Q I q=>h pos pins s σ H Q I (i σ H Q q)
theorem PS.imp{X:Cx}{e:Stmt}{t t':TS}(h:PS X e t)(i:∀D σ H,t' D σ H->t D σ H):PS X e t':=fun pins s σ H D I q=>h pins s σ H D I (i D σ H q)
theorem Qn.imp{X:Cx}{e:List Stmt}{t t':TS}(h:Qn X e t)(i:∀D σ H,t' D σ H->t D σ H):Qn X e t':=fun pins s σ H D I q=>h pins s σ H D I (i D σ H q)
theorem Kd.imp{X:Cx}{f:Value->Value->Sem Value}{t t':R2}(h:Kd X f t)(i:∀x y H Q,t' x y H Q->t x y H Q):Kd X f t':=fun pins s σ H x y v u Q I r1 r2 q=>h pins s σ H x y v u Q I r1 r2 (i x y H Q q)
noncomputable def eC(d:Dt):RE:=fun _ h=>some (d,h)
noncomputable def eV(i:Nat):RE:=fun l h=>match l[i]? with | some (some d)=>some (d,h) | _=>none
noncomputable def e2(op:DD)(fa fb:RE):RE:=fun l h=>(fa l h).bind fun r=>(fb l r.2).bind fun q=>op r.1 q.1 q.2
noncomputable def eA:RA:=fun _ h=>some ([],h)
noncomputable def bA(f:RE)(g:RA):RA:=fun l h=>(f l h).bind fun r=>(g l r.2).bind fun q=>some (r.1::q.1,q.2)
section
variable{X:Cx}{a b c:Expr}{fa fb fc:RE}{pos:Pos}
theorem dA{i j pos}:EM X (.Constant (.int i) j pos) (eC (.int i)):=by with_unfolding_all exact PE.imp Iw fun σ H Q zz=>by obtain⟨ρ,l,h,d,h',S,L,e,k⟩:=zz;cases e;exact k ρ _ H (Vr.mpr rfl) S (Ext.refl _ _)
theorem nG{i j pos}:EM X (.Constant (.bool i) j pos) (eC (.bl i)):=by with_unfolding_all exact PE.imp Ag fun σ H Q zz=>by obtain⟨ρ,l,h,d,h',S,L,e,k⟩:=zz;cases e;exact k ρ _ H (Yr.mpr rfl) S (Ext.refl _ _)
theorem pD{i j pos}:EM X (.Constant (.str i) j pos) (eC (.str i)):=by with_unfolding_all exact PE.imp Mw fun σ H Q zz=>by obtain⟨ρ,l,h,d,h',S,L,e,k⟩:=zz;cases e;exact k ρ _ H (Af.mpr rfl) S (Ext.refl _ _)
theorem pF{j pos}:EM X (.Constant .none j pos) (eC .non):=by with_unfolding_all exact PE.imp Jw fun σ H Q zz=>by obtain⟨ρ,l,h,d,h',S,L,e,k⟩:=zz;cases e;exact k ρ _ H (vf.mpr rfl) S (Ext.refl _ _)
theorem aA (i:Nat) {x:Str} {pos:Pos} (hN:X.N[i]?=some x:=by rfl) (hv:yZ X.env.scope x:=by first | exact Or.inl rfl | exact Or.inr (Or.inl rfl) | exact Or.inr (Or.inr rfl)) (hd:(x==("__debug__" :Str))=false:=by decide)
 (hcd:(x==("__classdict__" :Str))=false:=by decide):EM X (.Name x pos) (eV i):=by
 with_unfolding_all
  exact PE.imp (Ow hN hv hd hcd) fun σ H Q zz=>by
   obtain⟨ρ,l,h,d,h',S,L,e,k⟩:=zz;unfold eV at e;split at e
   · rename_i d' q;cases e;obtain⟨v,e1,r⟩:=L.val i _ q;exact⟨v,e1,k ρ v H r S (Ext.refl _ _)⟩
   · cases e
theorem Rx {x:Str} {v:V} {u:Value} {d:Dt} {pos:Pos} (hg:Gl X x) (hm:X.mg x=some u) (r:RelV v u) (rd:∀H ρ,Wr X.K H ρ d v) (hd:(x==("__debug__" :Str))=false:=by decide):EM X (.Name x pos) (eC d):=by with_unfolding_all exact PE.imp (Xj hg hm r hd) fun σ H Q zz=>by obtain⟨ρ,l,h,d',h',S,L,e,k⟩:=zz;cases e;exact k ρ v H (rd H ρ) S (Ext.refl _ _)
theorem nA{α β:Type}{o:Option α}{f:α->Option β}{b:β}(h:o.bind f=some b):∃a,o=some a/\f a=some b:=by
 cases o with
 | none=>cases h
 | some a=>exact⟨a,rfl,h⟩
theorem rA{op:Operator}{o:DD}(ho:OM X (binaryOp op) o)(ha:EM X a fa)(hb:EM X b fb):EM X (.BinOp a op b pos) (e2 o fa fb):=by
 with_unfolding_all
  exact PE.imp (xT ho ha hb) fun σ H Q zz=>by
   obtain⟨ρ,l,h,d,h',S,L,e,k⟩:=zz;obtain⟨⟨d1,h1⟩,e1,e⟩:=nA e;obtain⟨⟨d2,h2⟩,e2,e⟩:=nA e;exact⟨ρ,l,h,d1,h1,S,L,e1,fun ρ1 x H1 R1 S1 E1=>⟨ρ1,l,h1,d2,h2,S1,L.ext E1,e2,fun ρ2 y H2 R2 S2 E2=>
    ⟨ρ2,h2,d1,d2,d,h',S2,Wr.ext E2 _ R1,R2,e,k.ext (E1.trans E2)⟩⟩⟩
theorem dL{op:CmpOp}{o:DD}(ho:OM X (compareOp op) o)(ha:EM X a fa)(hb:EM X b fb)(hm:behindInMarks op b=false:=by first | exact OY _ | with_unfolding_all rfl):EM X (.Compare a [op] [b] pos) (e2 o fa fb):=by
 with_unfolding_all
  exact PE.imp (Wj ho ha hb hm) fun σ H Q zz=>by
   obtain⟨ρ,l,h,d,h',S,L,e,k⟩:=zz;obtain⟨⟨d1,h1⟩,e1,e⟩:=nA e;obtain⟨⟨d2,h2⟩,e2,e⟩:=nA e;exact⟨ρ,l,h,d1,h1,S,L,e1,fun ρ1 x H1 R1 S1 E1=>⟨ρ1,l,h1,d2,h2,S1,L.ext E1,e2,fun ρ2 y H2 R2 S2 E2=>
    ⟨ρ2,h2,d1,d2,d,h',S2,Wr.ext E2 _ R1,R2,e,k.ext (E1.trans E2)⟩⟩⟩
noncomputable def Rf(f:RE):RT:=fun l h=>(f l h).bind fun r=>match r.1 with | .bl b=>some (b,r.2) | _=>none
theorem GB{op:CmpOp}{o:DD}(ho:OM X (compareOp op) o)(ha:EM X a fa)(hb:EM X b fb)(hm:behindInMarks op b=false:=by first | exact OY _ | with_unfolding_all rfl):TM X (.Compare a [op] [b] pos) (Rf (e2 o fa fb)):=by
 with_unfolding_all
  exact PT.imp (Kv ho ha hb hm) fun σ H Q zz=>by
   obtain⟨ρ,l,h,bb,h',S,L,e,k⟩:=zz;obtain⟨⟨d,h3⟩,e0,e⟩:=nA e;obtain⟨⟨d1,h1⟩,e1,e0⟩:=nA e0;obtain⟨⟨d2,h2⟩,e2,e0⟩:=nA e0;refine⟨ρ,l,h,d1,h1,S,L,e1,fun ρ1 x H1 R1 S1 E1=>⟨ρ1,l,h1,d2,h2,S1,L.ext E1,e2,fun ρ2 y H2 R2 S2 E2=>
    ⟨ρ2,h2,d1,d2,d,h3,S2,Wr.ext E2 _ R1,R2,e0,fun ρ3 v H3 R3 S3 E3=>?_⟩⟩⟩
   cases d with
   | bl q=>cases e;exact⟨bb,Yr.mp R3,k ρ3 H3 S3 (E1.trans (E2.trans E3))⟩
   | _=>cases e
theorem gG{e:Expr}{f:RE}(h:EM X e f)(he:∀whole,isTrue e X.env whole=(do let v <- whole;standAt e.pos;holding [v] (truthy v)):=by intro _;rfl):TM X e (Rf f):=by
 with_unfolding_all
  exact PT.imp (Zw h he) fun σ H Q zz=>by
   obtain⟨ρ,l,h,bb,h',S,L,e,k⟩:=zz;obtain⟨⟨d,h3⟩,e0,e⟩:=nA e;refine⟨ρ,l,h,d,h3,S,L,e0,fun ρ3 v H3 R3 S3 E3=>?_⟩;cases d with
   | bl q=>cases e;exact⟨bb,Yr.mp R3,k ρ3 H3 S3 E3⟩
   | _=>cases e
noncomputable def gI(o o':DD)(fa fb fc:RE):RE:=fun l h=>(fa l h).bind fun r=>(fb l r.2).bind fun q=>(o r.1 q.1 q.2).bind fun z=>match z.1 with
 | .bl true=>(fc l z.2).bind fun y=>o' q.1 y.1 y.2
 | .bl false=>some (.bl false,z.2)
 | _=>none
theorem t6{r r':DD}{σ:L2.St}{H:Hp}{Q:VK}(h:tM X.K (gI r r' fa fb fc) σ H Q):yY (rM X.K r) (rM X.K r') (tM X.K fa) (tM X.K fb) (tM X.K fc) σ H Q:=by
 obtain⟨ρ,l,h,d,h',S,L,e,k⟩:=h;obtain⟨⟨d1,h1⟩,e1,e⟩:=nA e;obtain⟨⟨d2,h2⟩,e2,e⟩:=nA e;obtain⟨⟨d3,h3⟩,e3,e⟩:=nA e;refine⟨ρ,l,h,d1,h1,S,L,e1,fun ρ1 x H1 R1 S1 E1=>⟨ρ1,l,h1,d2,h2,S1,L.ext E1,e2,fun ρ2 y H2 R2 S2 E2=>
  ⟨ρ2,h2,d1,d2,d3,h3,S2,Wr.ext E2 _ R1,R2,e3,fun ρ3 v H3 R3 S3 E3=>?_⟩⟩⟩
 cases d3 with
 | bl q=>
  refine⟨q,Yr.mp R3,?_⟩;cases q with
  | true=>dsimp only at e;obtain⟨⟨d4,h4⟩,e4,e⟩:=nA e;refine cH ⟨ρ3,l,h3,d4,h4,S3,(L.ext (E1.trans (E2.trans E3))),e4,fun ρ4 u H4 R4 S4 E4=>⟨ρ4,h4,d2,d4,d,h',S4,Wr.ext (E3.trans E4) _ R2,R4,e,k.ext (E1.trans (E2.trans (E3.trans E4)))⟩⟩
  | false=>cases e;exact bH (k ρ3 _ H3 (Yr.mpr rfl) S3 (E1.trans (E2.trans E3)))
 | _=>cases e
theorem iS{op op':CmpOp}{r r':DD}(ho:OM X (compareOp op) r)(ho':OM X (compareOp op') r')(ha:EM X a fa)(hb:EM X b fb)(hc:EM X c fc)
 (hm:lastMarks [op,op'] [b,c]=false:=by with_unfolding_all rfl):TM X (.Compare a [op,op'] [b,c] pos) (Rf (gI r r' fa fb fc)):=by
 with_unfolding_all
  exact PT.imp (yj ho ho' ha hb hc hm) fun σ H Q zz=>by
   obtain⟨ρ,l,h,bb,h',S,L,e,k⟩:=zz;obtain⟨⟨d,h3⟩,e0,e⟩:=nA e;refine t6 ⟨ρ,l,h,d,h3,S,L,e0,fun ρ3 v H3 R3 S3 E3=>?_⟩;cases d with
   | bl q=>cases e;exact⟨bb,Yr.mp R3,k ρ3 H3 S3 E3⟩
   | _=>cases e
noncomputable def xL(t u:RT):RT:=fun l h=>(t l h).bind fun r=>if r.1=true then u l r.2 else some (false,r.2)
noncomputable def HF(t u:RT):RT:=fun l h=>(t l h).bind fun r=>if r.1=true then some (true,r.2)else u l r.2
noncomputable def pG(t:RT):RT:=fun l h=>(t l h).bind fun r=>some (!r.1,r.2)
variable{tA tB2:RT}{rest:List Expr}
theorem WM.tm{e:Expr}{f:RT}(h:WM X e f):TM X e f:=by with_unfolding_all exact PW.pt h
theorem tX(ha:TM X a tA):WM X (.BoolOp .And [a] pos) tA:=by with_unfolding_all exact Nv ha
theorem pL(ha:TM X a tA):WM X (.BoolOp .Or [a] pos) tA:=by with_unfolding_all exact wk ha
theorem QY(ha:TM X a tA)(hb:WM X (.BoolOp .And (b::rest) pos) tB2):WM X (.BoolOp .And (a::b::rest) pos) (xL tA tB2):=by
 with_unfolding_all
  exact PW.imp (ak ha hb) fun σ H Q zz=>by
   obtain⟨ρ,l,h,bb,h',S,L,e,k⟩:=zz;obtain⟨⟨b1,h1⟩,e1,e⟩:=nA e;refine⟨ρ,l,h,b1,h1,S,L,e1,fun ρ1 H1 S1 E1=>?_⟩;cases b1 with
   | true=>rw[if_pos rfl]at e;exact cH ⟨ρ1,l,h1,bb,h',S1,L.ext E1,e,k.ext E1⟩
   | false=>rw[if_neg zef]at e;cases e;exact bH (k ρ1 H1 S1 E1)
theorem OG(ha:TM X a tA)(hb:WM X (.BoolOp .Or (b::rest) pos) tB2):WM X (.BoolOp .Or (a::b::rest) pos) (HF tA tB2):=by
 with_unfolding_all
  exact PW.imp (sy ha hb) fun σ H Q zz=>by
   obtain⟨ρ,l,h,bb,h',S,L,e,k⟩:=zz;obtain⟨⟨b1,h1⟩,e1,e⟩:=nA e;refine⟨ρ,l,h,b1,h1,S,L,e1,fun ρ1 H1 S1 E1=>?_⟩;cases b1 with
   | true=>rw[if_pos rfl]at e;cases e;exact cH (k ρ1 H1 S1 E1)
   | false=>rw[if_neg zef]at e;exact bH ⟨ρ1,l,h1,bb,h',S1,L.ext E1,e,k.ext E1⟩
theorem wH(ha:TM X a tA):TM X (.UnaryOp .Not a pos) (pG tA):=by with_unfolding_all exact PT.imp (Yw ha) fun σ H Q zz=>by obtain⟨ρ,l,h,bb,h',S,L,e,k⟩:=zz;obtain⟨⟨b1,h1⟩,e1,e⟩:=nA e;cases e;exact⟨ρ,l,h,b1,h1,S,L,e1,fun ρ1 H1 S1 E1=>k ρ1 H1 S1 E1⟩
noncomputable def bM(t u:RE):RE:=fun l h=>(t l h).bind fun r=>match r.1 with | .bl true=>u l r.2 | .bl false=>some (.bl false,r.2) | _=>none
noncomputable def dM(t:RE):RE:=fun l h=>(t l h).bind fun r=>match r.1 with | .bl b=>some (.bl (!b),r.2) | _=>none
theorem Yz{op}(h:EM X a fa):EM X (.BoolOp op [a] pos) fa:=by with_unfolding_all exact Lw h
theorem Tz(ha:EM X a fa)(hb:EM X (.BoolOp .And (b::rest) pos) fb):EM X (.BoolOp .And (a::b::rest) pos) (bM fa fb):=by
 with_unfolding_all
  exact PE.imp (Gw ha hb) fun σ H Q zz=>by
   obtain⟨ρ,l,h,d,h',S,L,e,k⟩:=zz;obtain⟨⟨d1,h1⟩,e1,e⟩:=nA e;refine⟨ρ,l,h,d1,h1,S,L,e1,fun ρ1 v H1 R1 S1 E1=>?_⟩;cases d1 with
   | bl q=>
    refine⟨q,Yr.mp R1,?_⟩;cases q with
    | true=>exact cH ⟨ρ1,l,h1,d,h',S1,L.ext E1,e,k.ext E1⟩
    | false=>cases e;exact bH (k ρ1 _ H1 (Yr.mpr rfl) S1 E1)
   | _=>cases e
theorem Wz(ha:EM X a fa):EM X (.UnaryOp .Not a pos) (dM fa):=by
 with_unfolding_all
  exact PE.imp (Kw ha) fun σ H Q zz=>by
   obtain⟨ρ,l,h,d,h',S,L,e,k⟩:=zz;obtain⟨⟨d1,h1⟩,e1,e⟩:=nA e;refine⟨ρ,l,h,d1,h1,S,L,e1,fun ρ1 v H1 R1 S1 E1=>?_⟩;cases d1 with
   | bl q=>cases e;exact⟨q,Yr.mp R1,k ρ1 _ H1 (Yr.mpr rfl) S1 E1⟩
   | _=>cases e
noncomputable def cM(t:RT)(f g:RE):RE:=fun l h=>(t l h).bind fun r=>if r.1=true then f l r.2 else g l r.2
theorem MT{c:Expr}(hc:TM X c tA)(ha:EM X a fa)(hb:EM X b fb):EM X (.IfExp c a b pos) (cM tA fa fb):=by
 with_unfolding_all
  exact PE.imp (X8 hc ha hb) fun σ H Q zz=>by
   obtain⟨ρ,l,h,d,h',S,L,e,k⟩:=zz;obtain⟨⟨b1,h1⟩,e1,e⟩:=nA e;refine⟨ρ,l,h,b1,h1,S,L,e1,fun ρ1 H1 S1 E1=>?_⟩;cases b1 with
   | true=>rw[if_pos rfl]at e;exact cH ⟨ρ1,l,h1,d,h',S1,L.ext E1,e,k.ext E1⟩
   | false=>rw[if_neg zef]at e;exact bH ⟨ρ1,l,h1,d,h',S1,L.ext E1,e,k.ext E1⟩
theorem jA:AM X [] eA:=by with_unfolding_all exact PA.imp vE fun σ H Q zz=>by obtain⟨ρ,l,h,ds,h',S,L,e,k⟩:=zz;cases e;exact k ρ [] H .nil S (Ext.refl _ _)
theorem cA{e:Expr}{es:List Expr}{f:RE}{g:RA}(ha:EM X e f)(hr:AM X es g)(hs:uB e=true:=by rfl):AM X (e::es) (bA f g):=by with_unfolding_all exact PA.imp (mD ha hr (lB hs es X.env)) fun σ H Q zz=>by obtain⟨ρ,l,h,ds,h',S,L,e,k⟩:=zz;obtain⟨⟨d1,h1⟩,e1,e⟩:=nA e;obtain⟨⟨ds2,h2⟩,e2,e⟩:=nA e;cases e;exact⟨ρ,l,h,d1,h1,S,L,e1,fun ρ1 x H1 R1 S1 E1=>⟨ρ1,l,h1,ds2,h2,S1,L.ext E1,e2,fun ρ2 xs H2 R2 S2 E2=>k ρ2 _ H2 (.cons (Wr.ext E2 _ R1) R2) S2 (E1.trans E2)⟩⟩
noncomputable def mB(g:RA):RE:=fun l h=>(g l h).bind fun r=>if r.1.length<=sizeLine then some (.tup r.1,r.2)else none
noncomputable def uF(g:RA):RE:=fun l h=>(g l h).bind fun r=>if r.1.length<=sizeLine then some (.lst r.1,r.2)else none
noncomputable def EF(g:RA):RE:=fun l h=>(g l h).bind fun r=>if r.1.length<=sizeLine then some (.ref r.2.length,r.2++[.lst r.1])else none
theorem jL{K:Frag}{H:Hp}{ρ:Rg}{h:HI}{ds:List Dt}{vs:List V}{p:Addr}(S:jf K ρ h H)(R:Ur K H ρ ds vs)(hp:H p=none):Wr K (xB H p (.tup vs)) ρ (.tup ds) (.ref p):=
 bf.mpr ⟨p,vs,rfl,.inl ⟨S.out hp,.inl SC⟩,R.ext (Ext.fresh hp)⟩
theorem fO{K:Frag}{H:Hp}{ρ:Rg}{h:HI}{ds:List Dt}{vs:List V}{p:Addr}(S:jf K ρ h H)(R:Ur K H ρ ds vs)(hp:H p=none):Wr K (xB H p (.lst vs)) ρ (.lst ds) (.ref p):=
 Zr.mpr ⟨p,vs,rfl,.inl ⟨S.out hp,.inl SC⟩,R.ext (Ext.fresh hp)⟩
theorem tH{K:Frag}{H:Hp}{ρ:Rg}{h:HI}{ds:List Dt}{vs:List V}{p:Addr}(S:jf K ρ h H)(R:Ur K H ρ ds vs)(hp:H p=none) :
 Wr K (xB H p (.lst vs)) (ρ.add p) (.ref h.length) (.ref p)/\jf K (ρ.add p) (h++[.lst ds]) (xB H p (.lst vs)):=by
 refine⟨uf.mpr ⟨p,rfl,?_⟩,S.own hp ⟨vs,SC,R.ext (Ext.own hp)⟩⟩;simp only[Rg.add];rw[<- S.len,zeh (zeg _),Nat.sub_self];rfl
theorem nE{α:Type}{c:Prop}[Decidable c]{a b:α}(h:(if c then some a else none)=some b):c/\a=b:=by
 by_cases hc:c
 · rw[if_pos hc]at h;exact⟨hc,Option.some.inj h⟩
 · rw[if_neg hc]at h;cases h
theorem TB{es:List Expr}{g:RA}{x1}(h:AM X es g):EM X (.Tuple es x1 pos) (mB g):=by with_unfolding_all exact PE.imp (FY h) fun σ H Q zz=>by obtain⟨ρ,l,h,d,h',S,L,e,k⟩:=zz;obtain⟨⟨ds,h1⟩,e1,e⟩:=nA e;obtain⟨hz,e⟩:=nE e;cases e;exact⟨ρ,l,h,ds,h1,S,L,e1,fun ρ1 vs H1 R1 S1 E1=>⟨by rw[R1.length];exact hz,fun p hp=>k ρ1 _ _ (jL S1 R1 hp) (S1.fresh hp) (E1.trans (Ext.fresh hp))⟩⟩
theorem cG{es:List Expr}{g:RA}(h:AM X es g):EM X (.List es pos) (uF g):=by with_unfolding_all exact PE.imp (lO h) fun σ H Q zz=>by obtain⟨ρ,l,h,d,h',S,L,e,k⟩:=zz;obtain⟨⟨ds,h1⟩,e1,e⟩:=nA e;obtain⟨hz,e⟩:=nE e;cases e;exact⟨ρ,l,h,ds,h1,S,L,e1,fun ρ1 vs H1 R1 S1 E1=>⟨by rw[R1.length];exact hz,fun p hp=>k ρ1 _ _ (fO S1 R1 hp) (S1.fresh hp) (E1.trans (Ext.fresh hp))⟩⟩
theorem JG{es:List Expr}{g:RA}(h:AM X es g):EM X (.List es pos) (EF g):=by with_unfolding_all exact PE.imp (lO h) fun σ H Q zz=>by obtain⟨ρ,l,h,d,h',S,L,e,k⟩:=zz;obtain⟨⟨ds,h1⟩,e1,e⟩:=nA e;obtain⟨hz,e⟩:=nE e;cases e;exact⟨ρ,l,h,ds,h1,S,L,e1,fun ρ1 vs H1 R1 S1 E1=>⟨by rw[R1.length];exact hz,fun p hp=>k _ _ _ (tH S1 R1 hp).1 (tH S1 R1 hp).2 (E1.trans (Ext.own hp))⟩⟩
end
noncomputable def oI(C:Int->Int->Prop)[∀i j,Decidable (C i j)](g:Int->Int->Dt):DD:=fun a b h=>match a,b with
 | .int i,.int j=>if C i j then some (g i j,h)else none
 | _,_=>none
noncomputable def TJ(g:Int->Int->Dt):DD:=fun a b h=>match a,b with
 | .int i,.int j=>some (g i j,h)
 | _,_=>none
instance:∀i j,Decidable (GJ i j):=fun i j=>by unfold GJ;infer_instance
instance:∀i j,Decidable (Yn i j):=fun i j=>by unfold Yn;infer_instance
instance:∀i j,Decidable (tG i j):=fun i j=>by unfold tG;infer_instance
noncomputable def ED:Dt->Option V
 | .non=>some .non
 | .bl b=>some (.bl b)
 | .int i=>some (.int i)
 | .str x=>some (.str x)
 | _=>none
theorem mW{K:Frag}{H:Hp}{ρ:Rg}{d:Dt}{v:V}(e:ED d=some v):Wr K H ρ d v:=by cases d<;>simp only[ED]at e<;>first | (cases e;simp only[Wr]) | cases e
theorem fJ{K:Frag}{H:Hp}{ρ:Rg}{d:Dt}{v u:V}(e:ED d=some v)(r:Wr K H ρ d u):u=v:=by cases d<;>simp only[ED]at e<;>first | (cases e;simpa only[Wr]using r) | cases e
section
variable{X:Cx}
theorem JI{f:Value->Value->Sem Value}{C:Int->Int->Prop}[∀i j,Decidable (C i j)]{g:Int->Int->Dt}{g':Int->Int->V}(ho:Kd X f (rI C g'))(hg:∀i j,ED (g i j)=some (g' i j)):OM X f (oI C g):=by
 with_unfolding_all
  exact Kd.imp ho fun x y H Q zz=>by
   obtain⟨ρ,h,d1,d2,d,h',S,R1,R2,e,k⟩:=zz;unfold oI at e;split at e
   · rename_i i j;obtain⟨hc,e⟩:=nE e;cases e;exact⟨i,j,Vr.mp R1,Vr.mp R2,hc,k ρ _ H (mW (hg i j)) S (Ext.refl _ _)⟩
   · cases e
theorem DH{f:Value->Value->Sem Value}{g:Int->Int->Dt}{g':Int->Int->V}(ho:Kd X f (YJ g'))(hg:∀i j,ED (g i j)=some (g' i j)):OM X f (TJ g):=by
 with_unfolding_all
  exact Kd.imp ho fun x y H Q zz=>by
   obtain⟨ρ,h,d1,d2,d,h',S,R1,R2,e,k⟩:=zz;unfold TJ at e;split at e
   · rename_i i j;cases e;exact⟨i,j,Vr.mp R1,Vr.mp R2,k ρ _ H (mW (hg i j)) S (Ext.refl _ _)⟩
   · cases e
def VB:DD:=TJ fun i j=>.int (i+j)
def GF:DD:=TJ fun i j=>.int (i-j)
def YC:DD:=oI Yn fun i j=>.int (i*j)
def FD:DD:=oI GJ fun i j=>.int (i/j)
def uC:DD:=oI (fun _ j=>0<j) fun i j=>.int (i%j)
def QL:DD:=oI tG fun i j=>.int (i^j.toNat)
def yG:DD:=oI tG fun i j=>.int (i*2^j.toNat)
def II:DD:=oI (fun _ j=>0<=j) fun i j=>.int (i/2^j.toNat)
def AH:DD:=TJ fun i j=>.int (Builtin.bitAnd i j)
def OL:DD:=TJ fun i j=>.int (Builtin.bitOr i j)
def MO:DD:=TJ fun i j=>.bl (decide (i<j))
def BL:DD:=TJ fun i j=>.bl (decide (i<=j))
def AL:DD:=TJ fun i j=>.bl (decide (j<i))
def iP:DD:=TJ fun i j=>.bl (decide (j<=i))
theorem GC:OM X (binaryOp .Add) VB:=by with_unfolding_all exact DH Yk fun _ _=>rfl
theorem vH:OM X (binaryOp .Sub) GF:=by with_unfolding_all exact DH Ew fun _ _=>rfl
theorem uE:OM X (binaryOp .Mult) YC:=by with_unfolding_all exact JI qy fun _ _=>rfl
theorem YE:OM X (binaryOp .FloorDiv) FD:=by with_unfolding_all exact JI Tj fun _ _=>rfl
theorem qD:OM X (binaryOp .Mod) uC:=by with_unfolding_all exact JI jy fun _ _=>rfl
theorem Xk:OM X (binaryOp .Pow) QL:=by with_unfolding_all exact JI Bw fun _ _=>rfl
theorem yJ:OM X (binaryOp .LShift) yG:=by with_unfolding_all exact JI Cw fun _ _=>rfl
theorem mT:OM X (binaryOp .RShift) II:=by with_unfolding_all exact JI Dw fun _ _=>rfl
theorem pJ:OM X (binaryOp .BitAnd) AH:=by with_unfolding_all exact DH Zk fun _ _=>rfl
theorem zY:OM X (binaryOp .BitOr) OL:=by with_unfolding_all exact DH yg fun _ _=>rfl
theorem zO:OM X (compareOp .Lt) MO:=by with_unfolding_all exact DH wg fun _ _=>rfl
theorem xI:OM X (compareOp .LtE) BL:=by with_unfolding_all exact DH vg fun _ _=>rfl
theorem vL:OM X (compareOp .Gt) AL:=by with_unfolding_all exact DH ug fun _ _=>rfl
theorem yO:OM X (compareOp .GtE) iP:=by with_unfolding_all exact DH lg fun _ _=>rfl
def CZ:DD:=fun a b h=>match ED a,ED b with
 | some x,some y=>if YL x y=true then some (.bl (decide (x=y)),h)else none
 | _,_=>none
def DZ:DD:=fun a b h=>match ED a,ED b with
 | some x,some y=>if YL x y=true then some (.bl (!decide (x=y)),h)else none
 | _,_=>none
theorem Zy:OM X (compareOp .Eq) CZ:=by
 with_unfolding_all
  exact Kd.imp jg fun x y H Q zz=>by
   obtain⟨ρ,h,d1,d2,d,h',S,R1,R2,e,k⟩:=zz;unfold CZ at e;split at e
   · rename_i u v e1 e2;obtain⟨hc,e⟩:=nE e;cases e;rw[fJ e1 R1,fJ e2 R2];exact⟨hc,k ρ _ H (Yr.mpr rfl) S (Ext.refl _ _)⟩
   · cases e
theorem ig:OM X (compareOp .NotEq) DZ:=by
 with_unfolding_all
  exact Kd.imp xg fun x y H Q zz=>by
   obtain⟨ρ,h,d1,d2,d,h',S,R1,R2,e,k⟩:=zz;unfold DZ at e;split at e
   · rename_i u v e1 e2;obtain⟨hc,e⟩:=nE e;cases e;rw[fJ e1 R1,fJ e2 R2];exact⟨hc,k ρ _ H (Yr.mpr rfl) S (Ext.refl _ _)⟩
   · cases e
noncomputable def TF:Dt->Bool
 | .non=>true
 | _=>false
def iH:DD:=fun a b h=>match b with
 | .non=>some (.bl (TF a),h)
 | _=>none
theorem i8{K:Frag}{H:Hp}{ρ:Rg}{d:Dt}{v:V}(r:Wr K H ρ d v):decide (v=.non)=TF d:=by
 cases d with
 | non=>have e:=vf.mp r;subst e;rfl
 | bl b=>have e:=Yr.mp r;subst e;rfl
 | int i=>have e:=Vr.mp r;subst e;rfl
 | str x=>have e:=Af.mp r;subst e;rfl
 | tup xs=>obtain⟨a,vs,e,_⟩:=bf.mp r;subst e;rfl
 | lst xs=>obtain⟨a,vs,e,_⟩:=Zr.mp r;subst e;rfl
 | ref n=>obtain⟨a,e,_⟩:=uf.mp r;subst e;rfl
 | Zd n=>obtain⟨a,e,_⟩:=Td.mp r;subst e;rfl
theorem lL:OM X (compareOp .Is) iH:=by
 with_unfolding_all
  exact Kd.imp iy fun x y H Q zz=>by
   obtain⟨ρ,h,d1,d2,d,h',S,R1,R2,e,k⟩:=zz;unfold iH at e;split at e
   · cases e;exact⟨vf.mp R2,k ρ _ H (Yr.mpr (by rw[i8 R1])) S (Ext.refl _ _)⟩
   · cases e
noncomputable def pE(f:RE):RE:=fun l h=>(f l h).bind fun r=>match r.1 with | .int i=>some (.int (-i),r.2) | _=>none
theorem iI{a:Expr}{fa:RE}{pos:Pos}(ha:EM X a fa):EM X (.UnaryOp .USub a pos) (pE fa):=by
 with_unfolding_all
  exact PE.imp (iZ Kg ha) fun σ H Q zz=>by
   obtain⟨ρ,l,h,d,h',S,L,e,k⟩:=zz;obtain⟨⟨d1,h1⟩,e1,e⟩:=nA e;refine⟨ρ,l,h,d1,h1,S,L,e1,fun ρ1 x H1 R1 S1 E1=>?_⟩;cases d1 with
   | int i=>cases e;exact⟨i,Vr.mp R1,k ρ1 _ H1 (Vr.mpr rfl) S1 E1⟩
   | _=>cases e
end
noncomputable def FB(h:HI):Dt->Option (List Dt)
 | .lst xs=>some xs
 | .ref n=>match h[n]? with | some (.lst xs)=>some xs | _=>none
 | _=>none
def zD(h:HI):Dt->Option (List Dt)
 | .tup xs=>some xs
 | d=>FB h d
theorem CF{K:Frag}{H:Hp}{ρ:Rg}{h:HI}{d:Dt}{v:V}{xs:List Dt}(S:jf K ρ h H)(R:Wr K H ρ d v)(e:FB h d=some xs):∃a vs,v=.ref a/\Qd K H a vs/\Ur K H ρ xs vs:=by
 cases d with
 | lst ys=>cases e;obtain⟨a,vs,e,q,r⟩:=Zr.mp R;exact⟨a,vs,e,q.sq,r⟩
 | ref n=>
  simp only[FB]at e;split at e
  · rename_i ys q;cases e;obtain⟨a,rfl,ha⟩:=uf.mp R;obtain⟨vs,h1,h2⟩:=S.lst ha q;exact⟨a,vs,rfl,Qd.of h1,h2⟩
  · cases e
 | _=>simp only[FB]at e<;>cases e
theorem XN{K:Frag}{H:Hp}{ρ:Rg}{h:HI}{d:Dt}{v:V}{xs:List Dt}(S:jf K ρ h H)(R:Wr K H ρ d v)(e:zD h d=some xs):∃a vs,v=.ref a/\(Qd K H a vs\/VG K H a vs)/\Ur K H ρ xs vs:=by
 cases d with
 | tup ys=>cases e;obtain⟨a,vs,e,q,r⟩:=bf.mp R;exact⟨a,vs,e,.inr q.sq,r⟩
 | lst ys=>obtain⟨a,vs,e,q,r⟩:=CF S R (show FB h (.lst ys)=some xs from e);exact⟨a,vs,e,.inl q,r⟩
 | ref n=>obtain⟨a,vs,e,q,r⟩:=CF S R (show FB h (.ref n)=some xs from e);exact⟨a,vs,e,.inl q,r⟩
 | _=>cases e
theorem Ur.Xd{K:Frag}{H:Hp}{ρ:Rg}{ds:List Dt}{vs:List V}{i:Int}{d:Dt}(r:Ur K H ρ ds vs)(e:L2.Xd ds i=some d):∃v,L2.Xd vs i=some v/\Wr K H ρ d v:=by
 unfold L2.Xd at e ⊢;rw[r.length];cases q:QG ds.length i with
 | none=>rw[q]at e;cases e
 | some j=>rw[q]at e;exact r.get e
def uA:DD:=fun a b h=>match b with
 | .int i=>match a with
  | .str z=>if z.length<=sizeLine then(L2.Xd z.cps.toList i).map fun c=>(.str ⟨#[c]⟩,h)else none
  | _=>(zD h a).bind fun xs=>(L2.Xd xs i).map fun d=>(d,h)
 | _=>none
section
variable{X:Cx}{a b c:Expr}{fa fb fc:RE}{pos:Pos}
theorem Dq{x y:V}{H:Hp}{Q:VK}(h:rM X.K uA x y H Q):Jh X.K x y H Q:=by
 obtain⟨ρ,h,d1,d2,d,h',S,R1,R2,e,k⟩:=h;unfold uA at e;split at e
 · rename_i i;have ei:=Vr.mp R2;split at e
   · rename_i z;split at e
     · rename_i hz;cases q:L2.Xd z.cps.toList i with
       | none=>rw[q]at e;cases e
       | some c=>rw[q]at e;cases e;exact .inr (.inr ⟨z,i,c,Af.mp R1,ei,hz,q,k ρ _ H (Af.mpr rfl) S (Ext.refl _ _)⟩)
     · cases e
   · obtain⟨xs,e1,e⟩:=nA e;cases q:L2.Xd xs i with
     | none=>rw[q]at e;cases e
     | some u=>
      rw[q]at e;cases e;obtain⟨p,vs,e2,sq,r⟩:=XN S R1 e1;obtain⟨v,q1,q2⟩:=r.Xd q;rcases sq with sq | sq
      · exact .inl ⟨p,vs,i,v,e2,ei,sq,q1,k ρ _ H q2 S (Ext.refl _ _)⟩
      · exact .inr (.inl ⟨p,vs,i,v,e2,ei,sq,q1,k ρ _ H q2 S (Ext.refl _ _)⟩)
 · cases e
theorem fA(ha:EM X a fa)(hb:EM X b fb)(hs:YX b:=by intro _ _;rfl):EM X (.Subscript a b pos) (e2 uA fa fb):=by
 with_unfolding_all
  exact PE.imp (Bg Dk ha hb hs) fun σ H Q zz=>by
   obtain⟨ρ,l,h,d,h',S,L,e,k⟩:=zz;obtain⟨⟨d1,h1⟩,e1,e⟩:=nA e;obtain⟨⟨d2,h2⟩,e2,e⟩:=nA e;exact⟨ρ,l,h,d1,h1,S,L,e1,fun ρ1 x H1 R1 S1 E1=>⟨ρ1,l,h1,d2,h2,S1,L.ext E1,e2,fun ρ2 y H2 R2 S2 E2=>
    Dq ⟨ρ2,h2,d1,d2,d,h',S2,Wr.ext E2 _ R1,R2,e,k.ext (E1.trans E2)⟩⟩⟩
end
noncomputable def OB:RS:=fun l h=>some (.nx l h)
noncomputable def iA(f g:RS):RS:=fun l h=>(f l h).bind fun r=>match r with | .nx l' h'=>g l' h' | r=>some r
noncomputable def wA(i:Nat)(f:RE):RS:=fun l h=>(f l h).bind fun r=>some (.nx (l.set i (some r.1)) r.2)
noncomputable def cE(f:RE):RS:=fun l h=>(f l h).bind fun r=>some (.nx l r.2)
noncomputable def JA(f:RE):RS:=fun l h=>(f l h).bind fun r=>some (.rt r.1 r.2)
noncomputable def TD(t:RT)(f g:RS):RS:=fun l h=>(t l h).bind fun r=>if r.1=true then f l r.2 else g l r.2
section
variable{X:Cx}{st:Stmt}{rest:List Stmt}{e:Expr}{f:RE}{t u:RS}{c:RT}{pos:Pos}
theorem YB:MH X [] OB:=by with_unfolding_all exact Qn.imp Iv fun D σ H zz=>by obtain⟨ρ,l,h,r,S,L,e,k⟩:=zz;cases e;exact k ρ σ H S L (Ext.refl _ _)
theorem kA(h1:ZM X st t)(h2:MH X rest u):MH X (st::rest) (iA t u):=by
 with_unfolding_all
  exact Qn.imp (wj h1 h2) fun D σ H zz=>by
   obtain⟨ρ,l,h,r,S,L,e,k⟩:=zz;obtain⟨r1,e1,e⟩:=nA e;refine⟨ρ,l,h,r1,S,L,e1,?_⟩;cases r1 with
   | nx l' h'=>exact fun ρ' σ' H' S' L' E'=>⟨ρ',l',h',r,S',L',e,k.ext E'⟩
   | rt d h'=>cases e;exact k
   | bk l' h'=>cases e;exact k
   | ct l' h'=>cases e;exact k
theorem vA(h1:ZM X st t):MH X [st] t:=by with_unfolding_all exact Jv h1
theorem XE(he:EM X e f)(hs:swapsWith e none pos.line X.env=pure false:=by rfl):ZM X (.Expr e pos) (cE f):=by with_unfolding_all exact PS.imp (Hv he hs) fun D σ H zz=>by obtain⟨ρ,l,h,r,S,L,e,k⟩:=zz;obtain⟨⟨d1,h1⟩,e1,e⟩:=nA e;cases e;exact⟨ρ,l,h,d1,h1,S,L,e1,fun ρ1 v H1 R1 S1 E1=>k ρ1 σ H1 S1 (L.ext E1) E1⟩
theorem LA(he:EM X e f):ZM X (.Return (some e) pos) (JA f):=by with_unfolding_all exact PS.imp (Ww he) fun D σ H zz=>by obtain⟨ρ,l,h,r,S,L,e,k⟩:=zz;obtain⟨⟨d1,h1⟩,e1,e⟩:=nA e;cases e;exact⟨ρ,l,h,d1,h1,S,L,e1,k⟩
theorem bC{b:Expr}{ss ss':List Stmt}(hc:TM X b c)(ha:MH X ss t)(hb:MH X ss' u):ZM X (.If b ss ss' pos) (TD c t u):=by
 with_unfolding_all
  exact PS.imp (Cg hc ha hb) fun D σ H zz=>by
   obtain⟨ρ,l,h,r,S,L,e,k⟩:=zz;obtain⟨⟨b1,h1⟩,e1,e⟩:=nA e;refine⟨ρ,l,h,b1,h1,S,L,e1,fun ρ1 H1 S1 E1=>?_⟩;cases b1 with
   | true=>rw[if_pos rfl]at e;exact cH ⟨ρ1,l,h1,r,S1,L.ext E1,e,k.ext E1⟩
   | false=>rw[if_neg zef]at e;exact bH ⟨ρ1,l,h1,r,S1,L.ext E1,e,k.ext E1⟩
theorem DA(i:Nat){x:Str}{pos':Pos}(hN:X.N.Nodup)(he:EM X e f)(hi:X.N[i]?=some x:=by rfl)(hx:JO X.env.scope x:=by first | exact Or.inl rfl | exact Or.inr rfl)
 (hs:swapsWith e (some (.Name x pos')) pos.line X.env=pure false:=by rfl) (hf:X.fn x=true\/X.env.scope.names.lookup x=some .local:=by first | exact .inl rfl | exact .inr rfl | assumption) :
 ZM X (.Assign [.Name x pos'] e pos) (wA i f):=by
 with_unfolding_all exact PS.imp (Xw hN hi hx he hs hf) fun D σ H zz=>by obtain⟨ρ,l,h,r,S,L,e,k⟩:=zz;obtain⟨⟨d1,h1⟩,e1,e⟩:=nA e;cases e;exact⟨ρ,l,h,d1,h1,S,L,e1,fun ρ1 v H1 R1 S1 E1=>k ρ1 _ H1 S1 ((L.ext E1).set i R1) E1⟩
end
inductive Src where
 | vals (xs:List Dt)
 | rf (n:Nat)
 | zp (a b:Dt)
 | it (n:Nat)
 | en (n:Nat)
def Src.at(s:Src)(h:HI)(i:Nat):Option (Option Dt):=match s with
 | .vals xs=>some xs[i]?
 | .rf n=>match h[n]? with | some (.lst xs)=>some xs[i]? | _=>none
 | .zp a b=>match FB h a,FB h b with
  | some xs,some ys=>some (match xs[i]?,ys[i]? with | some x,some y=>some (.tup [x,y]) | _,_=>none)
  | _,_=>none
 | .it n=>match h[n]? with | some (.df kvs)=>some (kvs[i]?.map fun p=>.tup [.tup (p.1.map Dt.int),p.2]) | _=>none
 | .en n=>match h[n]? with | some (.lst xs)=>some (xs[i]?.map fun x=>.tup [.int (i:Int),x]) | _=>none
def Src.fuel(s:Src)(h:HI):Nat:=match s with
 | .vals xs=>xs.length+1
 | .rf n=>match h[n]? with | some (.lst xs)=>xs.length+1 | _=>0
 | .zp a _=>match FB h a with | some xs=>xs.length+1 | _=>0
 | .it n=>match h[n]? with | some (.df kvs)=>kvs.length+1 | _=>0
 | .en n=>match h[n]? with | some (.lst xs)=>xs.length+1 | _=>0
abbrev RI:=LI->HI->Option (Src×HI)
def bZ(K:Frag)(H:Hp)(ρ:Rg)(s:Src)(J:It):Prop:=
 ∀H2 ρ2 h2,jd ρ ρ2 H H2->jf K ρ2 h2 H2->∀i:Nat,match s.at h2 i with
  | none=>True
  | some none=>J.stop i H2
  | some (some d)=>J.go i H2/\∀v H3,J.yld i H2 v H3->Wr K H3 ρ2 d v/\Ext ρ2 ρ2 H2 H3/\jf K ρ2 h2 H3
def iM(K:Frag)(g:RI):TI:=fun σ H R=>∃ρ l h s h',jf K ρ h H/\Wf K H ρ l σ/\g l h=some (s,h')/\∀ρ' J H',bZ K H' ρ' s J->jf K ρ' h' H'->Ext ρ ρ' H H'->R J H'
@[irreducible] def IM(X:Cx)(tg iter:Expr)(g:RI):Prop:=PI X tg iter (iM X.K g)
theorem PI.imp{X:Cx}{tg e:Expr}{t t':TI}(h:PI X tg e t)(i:∀σ H Q,t' σ H Q->t σ H Q):PI X tg e t':=fun pins s σ H Q I q=>h pins s σ H Q I (i σ H Q q)
abbrev RG:=Dt->LI->Option LI
def gM(K:Frag)(g:RG):TG:=fun v σ H Q=>∃ρ l h d l',jf K ρ h H/\Wf K H ρ l σ/\Wr K H ρ d v/\g d l=some l'/\∀σ',Wf K H ρ l' σ'->Q σ' H
@[irreducible] def GM(X:Cx)(tg:Expr)(g:RG):Prop:=PG X tg (gM X.K g)
theorem PG.imp{X:Cx}{e:Expr}{t t':TG}(h:PG X e t)(i:∀v σ H Q,t' v σ H Q->t v σ H Q):PG X e t':=fun pins s σ H v u Q I r q=>h pins s σ H v u Q I r (i v σ H Q q)
noncomputable def AA(i:Nat):RG:=fun d l=>some (l.set i (some d))
def qC(bd:RG)(body:RS)(s:Src):Nat->Nat->RS
 | 0,_,_,_=>none
 | k+1,i,l,h=>match s.at h i with
  | none=>none
  | some none=>some (.nx l h)
  | some (some d)=>(bd d l).bind fun l1=>(body l1 h).bind fun r=>match r with
   | .nx l' h'=>qC bd body s k (i+1) l' h'
   | .ct l' h'=>qC bd body s k (i+1) l' h'
   | .bk l' h'=>some (.nx l' h')
   | .rt d h'=>some (.rt d h')
def FC(g:RI)(bd:RG)(body:RS):RS:=fun l h=>(g l h).bind fun r=>qC bd body r.1 (r.1.fuel r.2) 0 l r.2
section
variable{X:Cx}{tg iter:Expr}{pos:Pos}
theorem JB(i:Nat){x:Str}{pos:Pos}(hN:X.N.Nodup)(hi:X.N[i]?=some x:=by rfl)(hx:JO X.env.scope x:=by first | exact Or.inl rfl | exact Or.inr rfl)
 (hf:X.fn x=true\/X.env.scope.names.lookup x=some .local:=by first | exact .inl rfl | exact .inr rfl | assumption):GM X (.Name x pos) (AA i):=by
 with_unfolding_all exact PG.imp (IS hN hi hx hf) fun v σ H Q zz=>by obtain⟨ρ,l,h,d,l',S,L,R,e,k⟩:=zz;cases e;exact k _ (L.set i R)
noncomputable def FH(f:RE):RI:=fun l h=>(f l h).bind fun r=>match r.1 with | .int j=>if -(2^62)<=j/\j<2^62 then some (.vals ((List.range j.toNat).map fun(k:Nat)=>Dt.int (k:Int)),r.2)else none | _=>none
noncomputable def zZ(f g:RE):RI:=fun l h=>(f l h).bind fun r=>(g l r.2).bind fun q=>match r.1,q.1 with
 | .int i,.int j=>if -(2^62)<=i/\i<2^62/\-(2^62)<=j/\j<2^62 then some (.vals ((List.range (j-i).toNat).map fun(k:Nat)=>Dt.int (i+(k:Int))),q.2)else none | _,_=>none
theorem nF {a:Expr} {f:RE} {p pos:Pos} (hg:Gl X "range") (hm:X.mg "range" =none) (ha:EM X a f) (hs:uB a=true:=by rfl) :
 IM X tg (.Call (.Name "range" p) [a] [] pos) (FH f):=by
 with_unfolding_all
  exact PI.imp (Z7 hg hm (mD ha vE (lB hs _ _)) (lB hs _ _)) fun σ H R zz=>by
   obtain⟨ρ,l,h,s,h',S,L,e,k⟩:=zz;obtain⟨⟨d1,h1⟩,e1,e⟩:=nA e;refine⟨ρ,l,h,d1,h1,S,L,e1,fun ρ1 v H1 R1 S1 E1=>?_⟩;cases d1 with
   | int j=>
    obtain⟨⟨c1,c2⟩,e⟩:=nE e;cases e;refine⟨j,by rw[Vr.mp R1],c1,c2,k ρ1 _ H1 (fun H2 ρ2 h2 E2 S2 i=>?_) S1 E1⟩;simp only[Src.at,getElem?_map];by_cases hi:i<j.toNat
    · rw[getElem?_range hi];refine⟨hi,fun v H3 q=>?_⟩;obtain⟨rfl,rfl⟩:=q;exact⟨Vr.mpr (by simp),Ext.refl _ _,S2⟩
    · rw[getElem?_eq_none (by simpa using Nat.not_lt.mp hi)];exact Nat.not_lt.mp hi
   | _=>cases e
theorem L6 {a b:Expr} {f g:RE} {p pos:Pos} (hg:Gl X "range") (hm:X.mg "range" =none) (ha:EM X a f) (hb:EM X b g) (hs:uB a=true:=by rfl) (hs2:uB b=true:=by rfl) :
 IM X tg (.Call (.Name "range" p) [a,b] [] pos) (zZ f g):=by
 with_unfolding_all
  exact PI.imp (b8 hg hm (mD ha (mD hb vE (lB hs2 _ _)) (lB hs _ _)) (by rw[lB hs,lB hs2];rfl) (lB hs2 _ _)) fun σ H R zz=>by
   obtain⟨ρ,l,h,s,h',S,L,e,k⟩:=zz;obtain⟨⟨d1,h1⟩,e1,e⟩:=nA e;obtain⟨⟨d2,h2⟩,e2,e⟩:=nA e;refine⟨ρ,l,h,d1,h1,S,L,e1,fun ρ1 v H1 R1 S1 E1=>⟨ρ1,l,h1,d2,h2,S1,L.ext E1,e2,fun ρ2 u H2 R2 S2 E2=>?_⟩⟩;cases d1 with
   | int i=>
    cases d2 with
    | int j=>
     obtain⟨c,e⟩:=nE e;cases e;refine⟨i,j,by rw[Vr.mp R1,Vr.mp R2],c,k ρ2 _ H2 (fun H3 ρ3 h3 E3 S3 n=>?_) S2 (E1.trans E2)⟩;simp only[Src.at,getElem?_map];by_cases hi:n<(j-i).toNat
     · rw[getElem?_range hi];refine⟨hi,fun v H4 q=>?_⟩;obtain⟨rfl,rfl⟩:=q;exact⟨Vr.mpr rfl,Ext.refl _ _,S3⟩
     · rw[getElem?_eq_none (by simpa using Nat.not_lt.mp hi)];exact Nat.not_lt.mp hi
    | _=>cases e
   | _=>cases e
noncomputable def jU(f:RE):RI:=fun l h=>(f l h).bind fun r=>match r.1 with | .lst xs=>some (.vals xs,r.2) | .ref n=>some (.rf n,r.2) | _=>none
def DC(f:RE):RI:=fun l h=>(jU f l h).bind fun r=>if 0<r.1.fuel r.2 then some r else none
theorem dD{a:Expr}{f:RE}(ha:EM X a f):IM X tg a (DC f):=by
 with_unfolding_all
  exact PI.imp (Bv ha) fun σ H R zz=>by
   obtain⟨ρ,l,h,s,h',S,L,e,k⟩:=zz;obtain⟨⟨s1,h1⟩,e,ez⟩:=nA e;obtain⟨hz,ez⟩:=nE ez;cases ez;obtain⟨⟨d1,h2⟩,e1,e⟩:=nA e;refine⟨ρ,l,h,d1,h2,S,L,e1,fun ρ1 v H1 R1 S1 E1=>?_⟩;cases d1 with
   | lst xs=>
    cases e;obtain⟨a,vs,rfl,q,r⟩:=Zr.mp R1;refine⟨a,rfl,⟨vs,q.sq⟩,k ρ1 _ H1 (fun H2 ρ2 h2 E2 S2 i=>?_) S1 E1⟩;have q2:=q.same E2;have r2:=Ur.same E2 _ r;simp only[Src.at];cases ei:xs[i]? with
    | none=>refine⟨vs,q2.sq,?_⟩;rw[r.length];exact getElem?_eq_none_iff.mp ei
    | some d=>obtain⟨v,g1,g2⟩:=r2.get ei;refine⟨⟨vs,v,q2.sq,g1⟩,fun u H3 y=>?_⟩;obtain⟨rfl,y⟩:=y;have y2:=y vs q2.sq;rw[g1]at y2;cases y2;exact⟨g2,Ext.refl _ _,S2⟩
   | ref n=>
    cases e;obtain⟨a,rfl,ha⟩:=uf.mp R1;simp only[Src.fuel]at hz;split at hz
    · rename_i xs q0;obtain⟨Ep,g0,_⟩:=S1.lst ha q0;refine⟨a,rfl,⟨Ep,Qd.of g0⟩,k ρ1 _ H1 (fun H2 ρ2 h2 E2 S2 i=>?_) S1 E1⟩;have ha2:=E2.ix _ _ ha;simp only[Src.at];split
      · trivial
      · rename_i y;split at y
        · rename_i ys q2;obtain⟨vs,g1,r⟩:=S2.lst ha2 q2;refine⟨vs,Qd.of g1,?_⟩;rw[r.length];exact getElem?_eq_none_iff.mp (Option.some.inj y)
        · cases y
      · rename_i d y;split at y
        · rename_i ys q2;obtain⟨vs,g1,r⟩:=S2.lst ha2 q2;obtain⟨v,z1,z2⟩:=r.get (Option.some.inj y);refine⟨⟨vs,v,Qd.of g1,z1⟩,fun u H3 y=>?_⟩;obtain⟨rfl,y⟩:=y;have y2:=y vs (Qd.of g1);rw[z1]at y2;cases y2;exact⟨z2,Ext.refl _ _,S2⟩
        · cases y
    · exact absurd hz (by omega)
   | _=>cases e
noncomputable def wO(f:RE):RI:=fun l h=>(f l h).bind fun r=>match r.1 with | .tup xs=>some (.vals xs,r.2) | _=>none
theorem Bk{a:Expr}{f:RE}(ha:EM X a f):IM X tg a (wO f):=by
 with_unfolding_all
  exact PI.imp (Sw ha) fun σ H R zz=>by
   obtain⟨ρ,l,h,s,h',S,L,e,k⟩:=zz;obtain⟨⟨d1,h2⟩,e1,e⟩:=nA e;refine⟨ρ,l,h,d1,h2,S,L,e1,fun ρ1 v H1 R1 S1 E1=>?_⟩;cases d1 with
   | tup xs=>
    cases e;obtain⟨a,vs,rfl,q,r⟩:=bf.mp R1;refine⟨a,rfl,⟨vs,q.sq⟩,k ρ1 _ H1 (fun H2 ρ2 h2 E2 S2 i=>?_) S1 E1⟩;have q2:=q.same E2;have r2:=Ur.same E2 _ r;simp only[Src.at];cases ei:xs[i]? with
    | none=>refine⟨vs,q2.sq,?_⟩;rw[r.length];exact getElem?_eq_none_iff.mp ei
    | some d=>obtain⟨v,g1,g2⟩:=r2.get ei;refine⟨⟨vs,v,q2.sq,g1⟩,fun u H3 y=>?_⟩;obtain⟨rfl,y⟩:=y;have y2:=y vs q2.sq;rw[g1]at y2;cases y2;exact⟨g2,Ext.refl _ _,S2⟩
   | _=>cases e
theorem iD{body:List Stmt}{g:RI}{bd:RG}{f:RS}(hp:PassesOwn (model X.prog X.w) X.A X.env X.xe)(hc:X.calm=true)(hi:IM X tg iter g)(hg:GM X tg bd)(hb:MH X body f)
 (hs:∀x,foldedSetIterable iter X.env x=pure x:=by intro _;rfl):ZM X (.For tg iter body [] pos) (FC g bd f):=by
 with_unfolding_all
  exact PS.imp (Vw hp hc hi hg hb hs) fun D σ H zz=>by
   obtain⟨ρ,l,h,r,S,L,e,k⟩:=zz;obtain⟨⟨s,h1⟩,e1,e⟩:=nA e;refine⟨ρ,l,h,s,h1,S,L,e1,fun ρ1 J H1 ok S1 E1=>?_⟩;refine⟨fun i m σ' H'=>∃ρ' l' h',jf X.K ρ' h' H'/\Wf X.K H' ρ' l' σ'/\Ext ρ1 ρ' H1 H'/\qC bd f s m i l' h'=some r,⟨_,ρ1,l,h1,S1,L.ext E1,Ext.refl _ _,e⟩,?_⟩;rintro i m σ' H' ⟨ρ',l',h',S',L',E',e'⟩;cases m with
   | zero=>simp only[qC]at e';cases e'
   | succ m=>
    simp only[qC]at e';have ok':=ok H' ρ' h' E'.same S' i;cases q:s.at h' i with
    | none=>rw[q]at e';cases e'
    | some o=>
     rw[q]at e' ok';cases o with
     | none=>cases e';exact .inl ⟨ok',k ρ' σ' H' S' L' (E1.trans E')⟩
     | some d=>
      dsimp only at e';obtain⟨l1,b1,e'⟩:=nA e';obtain⟨r1,b2,e'⟩:=nA e';refine .inr ⟨ok'.1,fun σ2 H2=>∃m',m'<m+1/\∃ρ' l' h',jf X.K ρ' h' H2/\Wf X.K H2 ρ' l' σ2/\Ext ρ1 ρ' H1 H2/\qC bd f s m' (i+1) l' h'=some r,fun σ2 H2 q=>q,fun v H3 y=>?_⟩;obtain⟨R3,E3,S3⟩:=ok'.2 v H3 y;refine⟨ρ',l',h',d,l1,S3,L'.ext E3,R3,b1,fun σ4 L4=>⟨ρ',l1,h',r1,S3,L4,b2,?_⟩⟩;cases r1 with
      | nx l2 h2=>exact fun ρ5 σ5 H5 S5 L5 E5=>⟨m,Nat.lt_succ_self _,ρ5,l2,h2,S5,L5,E'.trans (E3.trans E5),e'⟩
      | ct l2 h2=>exact fun ρ5 σ5 H5 S5 L5 E5=>⟨m,Nat.lt_succ_self _,ρ5,l2,h2,S5,L5,E'.trans (E3.trans E5),e'⟩
      | bk l2 h2=>cases e';exact fun ρ5 σ5 H5 S5 L5 E5=>k ρ5 σ5 H5 S5 L5 (E1.trans (E'.trans (E3.trans E5)))
      | rt d2 h2=>cases e';exact fun ρ5 v5 H5 R5 S5 E5=>k ρ5 v5 H5 R5 S5 (E1.trans (E'.trans (E3.trans E5)))
end
noncomputable def nC(n N:Nat)(body:RS):RB:=fun ds h=>if ds.length=n then match body (ds.map some++List.replicate (N-n) none) h with
 | some (.rt d h')=>some (d,h')
 | some (.nx _ h')=>some (.non,h')
 | _=>none
 else none
def OI(K:Frag)(n:Nat)(F:RB):Sp:=fun vs H Q _=>∃ρ ds h d h',jf K ρ h H/\Ur K H ρ ds vs/\ds.length=n/\F ds h=some (d,h')/\Out K ρ H d h' Q
section
variable{P:Program}{w:World}{K:Frag}{mg:Str->Option Value}{base:Heap}
theorem iN{H:Hp}{ρ:Rg}{N:List Str}{ds:List Dt}{vs:List V}(R:Ur K H ρ ds vs):Wf K H ρ (ds.map some++List.replicate (N.length-ds.length) none) (L2.gF N vs):=by
 have hl:=R.length;refine⟨by simp[L2.gF,hl],fun i d e=>?_⟩;by_cases hi:i<ds.length
 · rw[zee (by simpa using hi),getElem?_map]at e;cases q:ds[i]? with
   | none=>rw[q]at e;cases e
   | some d'=>rw[q]at e;cases e;obtain⟨v,g1,g2⟩:=R.get q;refine⟨v,?_,g2⟩;unfold L2.gF;rw[zee (by simpa[hl]using hi),getElem?_map,g1];rfl
 · rw[zeh (by simpa using Nat.not_lt.mp hi),getElem?_replicate]at e;split at e<;>cases e
theorem sO{x qual:Str}{st:Stmt}{f:Addr}{fd:FuncData}{N ps:List Str}{k:Nat}{body:RS}(F:El K x qual st f fd)(S:WA N ps (yA st))
 (hb:∀(cdv:Value)(A:Around)(outer:List Env)(s:Shared)(H:Hp)(E:XK),Qf k (A.deeper (envOfC qual (yA st) s.heap.objs.size f cdv))->
  MH (kF VF P w K mg base N qual (yA st) f cdv A outer s H E).Al (lD st) body):Jd P w K mg base VF (k+1) f fd ps (OI K ps.length (nC ps.length N.length body)):=by
 with_unfolding_all
  refine F.ok S (fun vs H Q E h=>?_) (fun cdv A outer s H vs Q E hr h=>?_)
  · obtain⟨ρ,ds,h,d,h',S,R,hl,_⟩:=h;rw[R.length,hl]
  · obtain⟨ρ,ds,h,d,h',S,R,hl,e,k⟩:=h;refine⟨_,hb cdv A outer s H E hr,?_⟩;unfold nC at e;rw[if_pos hl]at e;rw[<- hl]at e;split at e
    · rename_i d1 h1 q;cases e;exact⟨ρ,_,h,_,S,iN R,q,k⟩
    · rename_i l1 h1 q;cases e;exact⟨ρ,_,h,_,S,iN R,q,fun ρ' σ' H' S' L' E'=>k ρ' _ H' (vf.mpr rfl) S' E'⟩
    · cases e
end
noncomputable def xA(F:RB)(Yb:List Dt)(g:RA):RE:=fun l h=>(g l h).bind fun r=>F (r.1++Yb) r.2
section
variable{X:Cx}{k n:Nat}{f:Addr}{fd:FuncData}{ps:List Str}{F:RB}{x:Str}{p pos:Pos}{e:Expr}{es:List Expr}{g:RA}{Xc:List V}{ds:List Value}{Yb:List Dt}
theorem zW(hF:Jd X.prog X.w X.K X.mg X.base VF k f fd ps (OI X.K n F))(hr:Qf k X.A)(hg:Gl X x)(hm:X.mg x=some (.ref f))(hk:keepIn X.K (.ref f)=true)(hb:Binds X.K fd ps ds)(hd:Vals Xc ds)(hdd:∀H ρ,Ur X.K H ρ Yb Xc)
 (ha:AM X (e::es) g) (hn:∀(F':List Dt->HI->Option (Dt×HI)),F'=F->∀ds h r,F' ds h=some r->ds.length=n) (hdb:(x==("__debug__" :Str))=false:=by decide) (he:uB e=true:=by rfl) (hpl:es.all uB=true:=by rfl) :
 EM X (.Call (.Name x p) (e::es) [] pos) (xA F Yb g):=by
 with_unfolding_all exact PE.imp (Vj hF hr hg hm hk hb hd (E:=E0) uT ha hdb (lB he _ _) (cJ hpl)) fun σ H Q zz=>by obtain⟨ρ,l,h,d,h',S,L,e,k⟩:=zz;obtain⟨⟨ds1,h1⟩,e1,e⟩:=nA e;exact⟨ρ,l,h,ds1,h1,S,L,e1,fun ρ1 vs H1 R1 S1 E1=>⟨ρ1,_,h1,d,h',S1,R1.append (hdd H1 ρ1),hn F rfl _ _ _ e,e,k.ext E1⟩⟩
theorem UN{n N:Nat}{body:RS}{ds:List Dt}{h:HI}{r:Dt×HI}(e:nC n N body ds h=some r):ds.length=n:=by
 unfold nC at e;split at e
 · assumption
 · cases e
end
end SM
namespace L2
noncomputable def xE(cells:List (Str×Addr)):List (Str×NameKind)->List (Str×Addr)->Option (List (Str×Addr))
 | [],cs=>some cs
 | (n,k)::r,cs=>if k==.free then match cells.lookup n with
  | some a=>xE cells r ((n,a)::cs)
  | none=>none
  else xE cells r cs
theorem MR{env:Env}:∀{l:List (Str×NameKind)}{cs cl:List (Str×Addr)},xE env.cells l cs=some cl->
 (forIn l cs fun(x:Str×NameKind) (r:List (Str×Addr))=>if(x.2==NameKind.free)=true then(do let a <- cellOf env x.1;pure (ForInStep.yield ((x.1,a)::r)):Sem _)else pure (ForInStep.yield r))=pure cl
 | [],cs,cl,h=>by simp only[xE]at h;cases h;rfl
 | (n,k)::r,cs,cl,h=>by
  simp only[xE]at h;rw[forIn_cons];cases hk:k==NameKind.free with
  | true=>
   rw[hk,if_pos rfl]at h;cases hc:env.cells.lookup n with
   | none=>rw[hc]at h;cases h
   | some a=>
    rw[hc]at h;have ih:=MR (env:=env) h;simp only[hk,if_true];have e:cellOf env n=pure a:=by unfold cellOf;rw[hc]
    rw[e];simp only[pure_bind];exact ih
  | false=>rw[hk,if_neg (by decide)]at h;have ih:=MR (env:=env) h;simp only[hk,zej,if_false,pure_bind];exact ih
theorem nV{scope:Scope}{env:Env}{cl:List (Str×Addr)}(h:xE env.cells scope.names []=some cl):closureFor scope env=pure cl:=by have e:=MR (env:=env) h;unfold closureFor;simp only[bind_pure];exact e
theorem eR{cells:List (Str×Addr)}:∀{l:List (Str×NameKind)}{cs cl:List (Str×Addr)},xE cells l cs=some cl->(∀x c,cs.lookup x=some c->cells.lookup x=some c)->
 (∀x c,cl.lookup x=some c->cells.lookup x=some c)/\(∀x c,cs.lookup x=some c->∃c',cl.lookup x=some c')/\∀n,(n,NameKind.free)∈l->∃c,cl.lookup n=some c
 | [],cs,cl,h,i=>by simp only[xE]at h;cases h;exact⟨i,fun x c e=>⟨c,e⟩,fun n hn=>nomatch hn⟩
 | (n,k)::r,cs,cl,h,i=>by
  simp only[xE]at h;cases hk:k==NameKind.free with
  | true=>
   rw[hk,if_pos rfl]at h;cases hc:cells.lookup n with
   | none=>rw[hc]at h;cases h
   | some a=>
    rw[hc]at h;have i':∀x c,((n,a)::cs).lookup x=some c->cells.lookup x=some c:=fun x c e=>by
     rw[lookup_cons]at e;cases hx:x==n with
     | true=>rw[hx]at e;cases e;rw[eq_of_beq hx];exact hc
     | false=>rw[hx]at e;exact i x c e
    obtain⟨h1,h2,h3⟩:=eR h i';refine⟨h1,fun x c e=>?_,fun m hm=>?_⟩
    · cases hx:x==n with
      | true=>exact h2 x a (by rw[lookup_cons,hx])
      | false=>exact h2 x c (by rw[lookup_cons,hx];exact e)
    · rcases mem_cons.mp hm with z | z
      · cases z;exact h2 _ a (by rw[lookup_cons,beq_self_eq_true])
      · exact h3 m z
  | false=>
   rw[hk,if_neg (by decide)]at h;obtain⟨h1,h2,h3⟩:=eR h i;refine⟨h1,h2,fun m hm=>?_⟩;rcases mem_cons.mp hm with z | z
   · cases z;cases hk
   · exact h3 m z
noncomputable def gC(X:Cx)(Nc:List Str)(scope:Scope)(cl:List (Str×Addr))(C:Addr)(s0:Shared)(H0:Hp)(fp:List Addr):Cx:=
 { X with N:=Nc,s₀:=s0,H₀:=H0,env:=compEnvC scope cl C X.env,outer:=X.stack,stack:=X.stack,ex:=fp,fn:=fun _=>false,pn:=[],xe:=fun _ _=>False }
theorem bV{env:Env}:∀{names:List (Str×NameKind)}{x:Str},(∀y∈names,y.2≠.cell)->
 ((names.map fun(n,k)=>if(k==NameKind.free&&env.scope.kind==.function&&env.kindOf n==some .cell)then(n,NameKind.cell)else(n,k)).lookup x=some .cell\/
  (names.map fun(n,k)=>if(k==NameKind.free&&env.scope.kind==.function&&env.kindOf n==some .cell)then(n,NameKind.cell)else(n,k)).lookup x=some .free)->(x,NameKind.free)∈names
 | [],_,_,h=>by simp at h
 | (n,k)::r,x,hc,h=>by
  have ih:=@bV env r x (fun y hy=>hc y (mem_cons_of_mem _ hy));have hk:k≠.cell:=hc (n,k) mem_cons_self;rw[zd5]at h;cases hx:x==n with
  | true=>
   have ex:=eq_of_beq hx;subst ex;by_cases hf:k=.free
   · subst hf;exact mem_cons_self
   · have hb:(k==NameKind.free)=false:=by simpa using hf
     simp only[hb,Bool.false_and,zej,if_false,lookup_cons,beq_self_eq_true]at h;rcases h with h | h
     · exact absurd (Option.some.inj h) hk
     · exact absurd (Option.some.inj h) hf
  | false=>
   refine mem_cons_of_mem _ (ih ?_);by_cases hq:(k==NameKind.free&&env.scope.kind==.function&&env.kindOf n==some .cell)=true
   · simp only[hq,if_true,lookup_cons,hx]at h;exact h
   · rw[Bool.not_eq_true]at hq;simp only[hq,zej,if_false,lookup_cons,hx]at h;exact h
noncomputable def Ed(X:Cx)(scope:Scope)(cl:List (Str×Addr)):List Str->List (Option Nat)->Prop
 | [],[]=>True
 | _::N,none::cs=>Ed X scope cl N cs
 | x::N,some j::cs=>(X.N[j]?=some x/\(X.env.kindOf x=some .cell\/X.env.kindOf x=some .free)/\((relabel scope X.env).names.lookup x=some .cell\/(relabel scope X.env).names.lookup x=some .free)/\
  cl.lookup x=X.env.cells.lookup x)/\Ed X scope cl N cs
 | _,_=>False
noncomputable def mG(σ:St)(cap:List (Option Nat)):St:=cap.map fun o=>match o with | some j=>(σ[j]?).join | none=>none
theorem Ed.get{X:Cx}{scope:Scope}{cl:List (Str×Addr)}:∀{N:List Str}{cs:List (Option Nat)},Ed X scope cl N cs->∀{i j:Nat}{x:Str},N[i]?=some x->cs[i]?=some (some j)->
 X.N[j]?=some x/\(X.env.kindOf x=some .cell\/X.env.kindOf x=some .free)/\((relabel scope X.env).names.lookup x=some .cell\/(relabel scope X.env).names.lookup x=some .free)/\cl.lookup x=X.env.cells.lookup x
 | [],[],_,i,j,x,h,_=>by simp at h
 | y::N,none::cs,h,0,j,x,_,e=>by simp at e
 | y::N,none::cs,h,i+1,j,x,e1,e2=>Ed.get (N:=N) (cs:=cs) h (i:=i) (by simpa using e1) (by simpa using e2)
 | y::N,some k::cs,h,0,j,x,e1,e2=>by simp at e1 e2;subst e1 e2;exact h.1
 | y::N,some k::cs,h,i+1,j,x,e1,e2=>Ed.get (N:=N) (cs:=cs) h.2 (i:=i) (by simpa using e1) (by simpa using e2)
 | [],_::_,h,_,_,_,_,_=>h.elim
 | _::_,[],h,_,_,_,_,_=>h.elim
theorem Ed.length{X:Cx}{scope:Scope}{cl:List (Str×Addr)}:∀{N:List Str}{cs:List (Option Nat)},Ed X scope cl N cs->cs.length=N.length
 | [],[],_=>rfl
 | y::N,none::cs,h=>by rw[zd3,zd3,Ed.length (N:=N) (cs:=cs) h]
 | y::N,some k::cs,h=>by rw[zd3,zd3,Ed.length (N:=N) (cs:=cs) h.2]
 | [],_::_,h=>h.elim
 | _::_,[],h=>h.elim
def BI(X:Cx)(ifs:List Expr)(t:TT):Prop:=
 ∀(pins:List (Addr×Obj))(s:Shared)(σ:St)(H:Hp)(Q:Bool->Hp->Prop),Inv X pins σ H s->t σ H Q->
  wpAny (model X.prog X.w) X.A (forIn ifs true fun c r=>if r=true then do let ok <- isTrue c X.env (eval c X.env);pure (ForInStep.yield ok)else pure (ForInStep.yield r)) (TP X pins σ Q) X.xe s
theorem kj{X:Cx}:BI X [] (fun _ H Q=>Q true H):=fun _ _ _ H _ I q=>wpAny_tests_nil ⟨H,I,q⟩
theorem mj{X:Cx}{c:Expr}{t:TT}(h:PT X c t):BI X [c] t:=fun pins s σ H Q I q=>wpAny_tests_one (h pins s σ H Q I q)
def VT(wi:TI)(g:TG)(tc:TT)(te:TE)(cap:List (Option Nat)):TE:=fun σ H Q=>wi σ H fun J H1=>∀D,H1 D=none->∃W:Nat->Nat->St->List V->Hp->Prop,
 (∃m,W 0 m (mG σ cap) [] (xB H1 D (.lst [])))/\∀i m σ' ys H',W i m σ' ys H'->
  (J.stop i H'/\Q (.ref D) H')\/(J.go i H'/\∀x H2,J.yld i H' x H2->g x σ' H2 fun σ2 H3=>tc σ2 H3 fun b H4=>if b=true then te σ2 H4 fun y H5=>
   H5 D=some (.lst ys)/\ys.length<sizeLine/\∃m',m'<m/\W (i+1) m' σ2 (ys++[y]) (xB H5 D (.lst (ys++[y])))else ∃m',m'<m/\W (i+1) m' σ2 ys H4)
section
variable{prog:Program}{w:World}{A:Around}{R:Result->Shared->Prop}{s:Shared}
theorem D4{elt target iter:Expr}{ifs:List Expr}{scope:Scope}{pos:Pos}{it acc:Value}{env:Env}(I:Nat->Shared->Prop)
 (turn:∀n s,I n s->wpAny (model prog w) A (pyNext it) (fun r s₁=>match r with
  | none=>R (.ok .next) s₁
  | some v=>wpAny (model prog w) A (letOwnedTupleGo target it v) (fun _ s₁'=>wpAny (model prog w) A (assign target env v) (fun _ s₂=>
   wpAny (model prog w) A (forIn ifs true fun c r=>if r=true then do let ok <- isTrue c env (eval c env);pure (ForInStep.yield ok)else pure (ForInStep.yield r)) (fun ok s₃=>
    if ok=true then wpAny (model prog w) A (eval elt env) (fun x s₄=>
     wpAny (model prog w) A (call (.builtin "list.append") [acc,x]) (fun _ s₅=>∃m,m<n/\I m s₅) (fun _ _=>False) s₄) (fun _ _=>False) s₃
    else ∃m,m<n/\I m s₃) (fun _ _=>False) s₂) (fun _ _=>False) s₁') (fun _ _=>False) s₁) (fun _ _=>False) s)
 (n:Nat) (h:I n s):codeAny (model prog w) A (.compLoop (.ListComp elt [⟨target,iter,ifs,0⟩] scope pos) 0 it acc env) R s:=by
 refine codeAny_loop rfl I (fun n s hI=>?_) n h;show wpAny _ A ((compTurn (.ListComp elt [⟨target,iter,ifs,0⟩] scope pos) 0 it acc env).onRaise (fun x=>do noteFrame x env;theTreesLotGoes x)) _ _ s;refine wpAny_noted ?_;rw[compTurn_list];refine wpAny_bind (wpAny_standAt (wpAny_bind (wpAny_mono (turn n s hI) (fun r s₁ h₁=>?_) fun _ _ h'=>h'.elim)));cases r with
 | none=>exact wpAny_pure h₁
 | some v=>
  refine wpAny_bind (wpAny_mono h₁ (fun _ s₁' h₁'=>?_) fun _ _ h'=>h'.elim);refine wpAny_bind (wpAny_mono h₁' (fun _ s₂ h₂=>wpAny_bind (wpAny_mono h₂ (fun ok s₃ h₃=>?_) fun _ _ h'=>h'.elim)) fun _ _ h'=>h'.elim);cases ok with
  | false=>exact wpAny_pure ⟨rfl,h₃⟩
  | true=>exact wpAny_bind (wpAny_bind (wpAny_mono h₃ (fun x s₄ h₄=>wpAny_bind (wpAny_mono h₄ (fun _ s₅ h₅=>wpAny_pure (wpAny_pure ⟨rfl,h₅⟩)) fun _ _ h'=>h'.elim)) fun _ _ h'=>h'.elim))
end
section
variable{X:Cx}{elt iter tg:Expr}{ifs:List Expr}{scope:Scope}{cl:List (Str×Addr)}{pos:Pos}{Nc:List Str}{wi:TI}{g:TG}{tc:TT}{te:TE}{cap:List (Option Nat)}
theorem oV{pins:List (Addr×Obj)}{σ:St}{H:Hp}{s:Shared}{it:Addr}{fp:List Addr}{tn:Nat->Heap->Prop}{J:It}{Q:VK}{RR:Value->Addr->Result->Shared->Prop}{E:Value->Shared->Prop}
 (hc:X.calm=true) (hcl:xE X.env.cells scope.names []=some cl) (hcell:∀y∈scope.names,y.2≠.cell) (hkind:scope.kind=.function) (hcap:Ed X scope cl Nc cap)
 (hg:∀C s0 H0 fp,PG (gC X Nc scope cl C s0 H0 fp) tg g) (ht:∀C s0 H0 fp,BI (gC X Nc scope cl C s0 H0 fp) ifs tc) (he:∀C s0 H0 fp,PE (gC X Nc scope cl C s0 H0 fp) elt te)
 (I:Inv X pins σ H s) (T:WG X.prog X.w X.K tg J fp it tn) (st:tn 0 s.heap) (hf:∀b∈fp,SE X pins H b)
 (read:∀D,H D=none->∃W:Nat->Nat->St->List V->Hp->Prop,
  (∃m,W 0 m (mG σ cap) [] (xB H D (.lst [])))/\∀i m σ' ys H',W i m σ' ys H'->
   (J.stop i H'/\Q (.ref D) H')\/(J.go i H'/\∀x H2,J.yld i H' x H2->g x σ' H2 fun σ2 H3=>tc σ2 H3 fun b H4=>if b=true then te σ2 H4 fun y H5=>
    H5 D=some (.lst ys)/\ys.length<sizeLine/\∃m',m'<m/\W (i+1) m' σ2 (ys++[y]) (xB H5 D (.lst (ys++[y])))else ∃m',m'<m/\W (i+1) m' σ2 ys H4))
 (hRR:∀(C D:Addr)(s':Shared)(H':Hp) m,Inv X pins σ H' s'->s'.heap.Ns C m->H' C=none->C≠X.env.locals->X.s₀.heap.objs.size<=C->(∀x c,X.env.cells.lookup x=some c->c≠C)->(∀p∈X.pn++pins,p.1≠C)->Q (.ref D) H'->RR (.ref D) C (.ok .next) s') :
 wpAny (model X.prog X.w) X.A (newList []) (fun acc s₃=>wpAny (model X.prog X.w) X.A (newFunctionEnv scope X.env.globals cl [] X.env.qual none .none (some X.env)) (fun cenv s₄=>
  codeAny (model X.prog X.w) X.A (.compStart (.ListComp elt [⟨tg,iter,ifs,0⟩] scope pos) 0 (.ref it) acc { cenv with scope:=relabel scope X.env }) (RR acc cenv.locals) s₄) E s₃) E s:=by
 obtain⟨sub,_,zck⟩:=eR hcl (fun _ _ e=>by simp at e);refine wpAny_newObj_type (wpAny_newFunctionEnv hcell (by intro y hy;simp at hy) (fun h₁ hns₁ hsb₁=>?_) hkind);have hD:=I.fresh;have I3:Inv X pins σ (xB H s.heap.objs.size (.lst [])) { s with heap:=s.heap.push { cls:=.type "list",data:=.seq ([]:List Value).toArray } }:=I.zas (ys:=[]) (its:=[]) (t':=s.toks) .nil (Nat.zero_le _);generalize hs3:({ s with heap:=s.heap.push { cls:=.type "list",data:=.seq ([]:List Value).toArray } }:Shared)=s3 at I3;generalize hH3:xB H s.heap.objs.size (.lst [])=H3 at I3;have hh3:s3.heap=s.heap.push { cls:=.type "list",dict:=none,data:=.seq ([]:List Value).toArray }:=by rw[<- hs3]
 dsimp only at hns₁ hsb₁ ⊢;rw[<- hh3]at hns₁ hsb₁;have hCn:H3 s3.heap.objs.size=none:=I3.fresh;have hCL:s3.heap.objs.size≠X.env.locals:=fun z=>by have:=I3.lt;rw[<- z]at this;exact Nat.lt_irrefl _ this
 have hC0:X.s₀.heap.objs.size<=s3.heap.objs.size:=I3.sz;have zal:∀x c,X.env.cells.lookup x=some c->c<s3.heap.objs.size:=fun x c e=>by obtain⟨v,o,ho,_⟩:=I3.cell x c e;exact Heap.lt_size ho
 have hCc:∀x c,X.env.cells.lookup x=some c->c≠s3.heap.objs.size:=fun x c e z=>by have:=zal x c e;rw[z]at this;exact Nat.lt_irrefl _ this
 have hCp:∀p∈X.pn++pins,p.1≠s3.heap.objs.size:=fun p hp z=>by have:=Heap.lt_size (I3.pin p hp).1;rw[z]at this;exact Nat.lt_irrefl _ this
 have zaU:∀b∈fp,b<s.heap.objs.size:=fun b hb=>by obtain⟨o,e,_⟩:=T.obj 0 _ st b hb;exact Heap.lt_size e
 have cU:s3.heap.objs.size=s.heap.objs.size+1:=by rw[hh3,Heap.size_push]
 have old:∀b o,s3.heap.get? b=some o->h₁.get? b=some o:=fun b o e=>hsb₁.extBut b o (Nat.ne_of_lt (Heap.lt_size e)) (Heap.get?_push_of_some _ e)
 have zcw:∀b o,s.heap.get? b=some o->s3.heap.get? b=some o:=fun b o e=>by rw[hh3];exact Heap.get?_push_of_some _ e
 have fpH:∀b∈fp,H3 b=none:=fun b hb=>by rw[<- hH3,QA (Nat.ne_of_lt (zaU b hb))];exact(hf b hb).1
 have okY:(gC X Nc scope cl s3.heap.objs.size s3 H3 fp).Ok:=by
  refine⟨I3.ok.mod,hkind,I3.ok.glob,I3.ok.blt,zeg _,fun x y c e1 e2=>I3.ok.inj x y c (sub x c e1) (sub y c e2),fun x hx=>?_,fun x c e _=>absurd e zef,I3.ok.hd,I3.ok.frames,.inl rfl,fun b hb=>⟨?_,fun x c e=>?_⟩,fun b o e=>I3.bs b o e,?_,fun b o e=>?_,fun b hb=>?_,I3.stack,I3.Qm⟩
  · exact zck x (bV hcell hx)
  · intro z;have:=zaU b hb;have z':b=s3.heap.objs.size:=z;rw[z',cU]at this;exact absurd this (Nat.not_lt.mpr (Nat.le_succ _))
  · exact(hf b hb).2.2.2.2.1 x c (sub x c e)
  · exact Nat.le_trans I3.ok.Yp I3.sz
  · intro hb;have h1:=(hf b hb).2.2.2.1;have h2:=I3.ok.bs b o e;rcases h1 with z | z
    · exact I3.ok.Ul b o e z
    · exact absurd (Nat.lt_of_lt_of_le (Heap.lt_size h2.1) z) (Nat.lt_irrefl _)
  · intro z;rcases mem_cons.mp (I3.Gm b z)with z | z
    · exact(hf b hb).2.1 z
    · exact(hf b hb).2.2.1 z
 have IY:Inv (gC X Nc scope cl s3.heap.objs.size s3 H3 fp) [] (mG σ cap) H3 { s3 with heap:=h₁,toks:=s3.toks+([]:List (Str×Value)).length }:=by
  refine⟨okY,rfl,I3.bare,Un.kept old,⟨_,hns₁,fun i x v e1 e2 _=>?_⟩,fun x c e=>?_,hCn,fun x c e=>I3.Qc x c (sub x c e),fun p hp=>absurd hp (by simp[gC]),I3.hok.kept old,?_⟩
  · have e2':(mG σ cap)[i]?=some (some v):=e2;unfold mG at e2';rw[getElem?_map]at e2';cases q:cap[i]? with
    | none=>rw[q]at e2';cases e2'
    | some o=>
     rw[q]at e2';cases o with
     | none=>cases e2'
     | some j=>
      have e3:(σ[j]?).join=some v:=by simpa using e2'
      have e4:σ[j]?=some (some v):=by
       cases z:σ[j]? with
       | none=>rw[z]at e3;cases e3
       | some y=>rw[z]at e3;simpa using e3
      obtain⟨n1,n2,n3,n4⟩:=hcap.get e1 q;obtain⟨m,_,hl⟩:=I3.loc;have hv:yZ X.env.scope x:=.inr n2;obtain⟨u,r,lk⟩:=hl j x v n1 e4 hv;refine⟨u,r,.inr ⟨n3,?_⟩⟩;rcases lk with⟨k,_⟩ | ⟨_,c,ec,ob,z1,z2⟩
      · rcases n2 with n2 | n2<;>rw[k]at n2<;>cases n2
      · exact⟨c,n4.trans ec,ob,old c ob z1,z2⟩
  · obtain⟨v,o,z1,z2⟩:=I3.cell x c (sub x c e);exact⟨v,o,old c o z1,z2⟩
  · show(mG σ cap).length=Nc.length;unfold mG;rw[length_map];exact hcap.length
 obtain⟨W,⟨m0,w0⟩,turn⟩:=read s.heap.objs.size hD;rw[hH3]at w0;have st1:tn 0 h₁:=T.keep 0 _ _ st fun b _ o e=>old b o (zcw b o e)
 have fpY:∀{H':Hp},(∀b∈fp,H' b=none)->∀b∈fp,SE (gC X Nc scope cl s3.heap.objs.size s3 H3 fp) [] H' b:=fun hn b hb=>⟨hn b hb,(okY.exf b hb).1,okY.Il b hb,.inl hb,fun x c e=>(okY.exf b hb).2 x c e,fun p hp=>absurd hp (by simp[gC])⟩
 have loop:codeAny (model X.prog X.w) X.A (.compLoop (.ListComp elt [⟨tg,iter,ifs,0⟩] scope pos) 0 (.ref it) (.ref s.heap.objs.size) (compEnvC scope cl s3.heap.objs.size X.env)) (RR (.ref s.heap.objs.size) s3.heap.objs.size)
  { s3 with heap:=h₁,toks:=s3.toks+([]:List (Str×Value)).length }:=by
  refine D4 (fun n s'=>∃i σ' ys H',Inv (gC X Nc scope cl s3.heap.objs.size s3 H3 fp) [] σ' H' s'/\tn i s'.heap/\(∀b∈fp,H' b=none)/\W i n σ' ys H') ?_ m0 ⟨0,_,[],H3,IY,st1,fpH,w0⟩;rintro n s4 ⟨i,σ4,ys,H4,I4,st4,fr4,w4⟩;rcases turn i n σ4 ys H4 w4 with⟨stop,qn⟩ | ⟨go,step⟩
  · refine nB (T.done (gC X Nc scope cl s3.heap.objs.size s3 H3 fp) rfl rfl rfl hc i [] s4 σ4 H4 _ I4 (fpY fr4) st4 stop) fun r s5 zz=>?_
    obtain⟨hr,I5⟩:=zz;subst hr;have I6:Inv X pins σ H4 s5:=I3.call' (ch:=fp) I5.os I5.base I5.hok I5.bare fun b hb=>⟨(hf b hb).2.2.2.1,(hf b hb).2.1,(hf b hb).2.2.2.2.1,(hf b hb).2.2.2.2.2⟩
    obtain⟨m,hn,_⟩:=I5.loc;exact hRR _ _ s5 H4 m I6 hn I5.free hCL hC0 hCc hCp qn
  · refine nB (T.item (gC X Nc scope cl s3.heap.objs.size s3 H3 fp) rfl rfl rfl hc i [] s4 σ4 H4 _ I4 (fpY fr4) st4 go) fun r s5 zz=>?_
    obtain⟨u,hr,h5⟩:=zz;subst hr;refine nB h5 fun _ s6 zz=>?_
    obtain⟨x,H6,I6,r6,y6,st6,fr6⟩:=zz;have I6':=I6.pinned (fpY fr6) (T.obj _ _ st6);refine nB (hg _ _ _ _ _ s6 σ4 H6 x u _ I6' r6 (step x H6 y6)) fun _ s7 zz=>?_
    obtain⟨σ7,H7,I7,q7⟩:=zz;refine nB (ht _ _ _ _ _ s7 σ7 H7 _ I7 q7) fun b s8 zz=>?_
    obtain⟨H8,I8,q8⟩:=zz;have again:∀{σ9:St}{H9:Hp}{s9:Shared}{ys9:List V},Inv (gC X Nc scope cl s3.heap.objs.size s3 H3 fp) ([]++mL fp s6.heap) σ9 H9 s9->(∃m',m'<n/\W (i+1) m' σ9 ys9 H9)->
     ∃m',m'<n/\∃i σ' ys H',Inv (gC X Nc scope cl s3.heap.objs.size s3 H3 fp) [] σ' H' s9/\tn i s9.heap/\(∀b∈fp,H' b=none)/\W i m' σ' ys H':=fun {σ9 H9 s9 ys9} I9 ⟨m',hm,w9⟩=>by
     refine⟨m',hm,i+1,σ9,ys9,H9,I9.gb,T.keep _ _ _ st6 fun b hb o e=>(I9.pin (b,o) (mem_append_right _ (mem_append_right _ (bN hb e)))).1,fun b hb=>?_,w9⟩;obtain⟨o,e,d⟩:=T.obj _ _ st6 b hb;exact(I9.pin (b,o) (mem_append_right _ (mem_append_right _ (bN hb e)))).2.1
    cases b with
    | false=>rw[if_neg zef]at q8 ⊢;exact again I8 q8
    | true=>
     rw[if_pos rfl]at q8 ⊢;refine nB (he _ _ _ _ _ s8 σ7 H8 _ I8 q8) fun y s9 zz=>?_
     obtain⟨v,H9,I9,r9,d9,z9,w9⟩:=zz;refine nB (xV (X:=gC X Nc scope cl s3.heap.objs.size s3 H3 fp) _ s9 σ7 H9 (.ref s.heap.objs.size) [v] (.ref s.heap.objs.size) [y] (fun _ H'=>H'=xB H9 s.heap.objs.size (.lst (ys++[v]))) I9 rfl (.cons r9 .nil) ⟨_,ys,v,rfl,rfl,d9,z9,rfl⟩) fun _ s10 zz=>?_
     obtain⟨_,H10,I10,_,e10⟩:=zz;subst e10;exact again I10 w9
 exact codeAny_compStart_list loop (T.self X.A 0 _ _ _ st1 loop)
theorem MX(hc:X.calm=true)(hi:PI X tg iter wi)(hcl:xE X.env.cells scope.names []=some cl)(hcell:∀y∈scope.names,y.2≠.cell)(hkind:scope.kind=.function)
 (hnames:∀y∈scope.names,y.2=.local->scope.names.lookup y.1=some .local) (hcap:Ed X scope cl Nc cap)
 (hg:∀C s0 H0 fp,PG (gC X Nc scope cl C s0 H0 fp) tg g) (ht:∀C s0 H0 fp,BI (gC X Nc scope cl C s0 H0 fp) ifs tc) (he:∀C s0 H0 fp,PE (gC X Nc scope cl C s0 H0 fp) elt te)
 (hs:∀x,foldedSetIterable iter X.env x=pure x:=by intro _;rfl):PE X (.ListComp elt [⟨tg,iter,ifs,0⟩] scope pos) (VT wi g tc te cap):=by
 intro pins s σ H Q I h;rw[eval_ListComp];refine wpAny_comprehension_free (use:=none) rfl hs (nV hcl) hkind hnames (nB (hi pins s σ H _ I h) fun v s1 h1=>nB h1 fun itv s2 h2=>?_);obtain⟨it,fp,tn,J,H2,e,I2,T,st2,f2,read⟩:=h2;subst e;refine oV hc hcl hcell hkind hcap hg ht he I2 T st2 f2 read fun C D s' H' m I' hn n1 n2 n3 n4 n5 q=>?_
 refine⟨m,hn,fun h' hs'=>⟨.ref D,H',?_,rfl,q⟩⟩;exact I'.turned (t':=s'.toks) (fun b o hb e=>hs'.extBut b o hb e) n1 n2 (.inr n3) n4 n5
theorem qV{i:Nat}{y:Str}{py spos:Pos}(hc:X.calm=true)(hN:X.N.Nodup)(hiN:X.N[i]?=some y)(hy:X.env.scope.names.lookup y=some .local)(hi:PI X tg iter wi)(hcl:xE X.env.cells scope.names []=some cl)(hcell:∀y∈scope.names,y.2≠.cell)(hkind:scope.kind=.function)
 (hnames:∀y∈scope.names,y.2=.local->scope.names.lookup y.1=some .local) (hcap:Ed X scope cl Nc cap)
 (hg:∀C s0 H0 fp,PG (gC X Nc scope cl C s0 H0 fp) tg g) (ht:∀C s0 H0 fp,BI (gC X Nc scope cl C s0 H0 fp) ifs tc) (he:∀C s0 H0 fp,PE (gC X Nc scope cl C s0 H0 fp) elt te)
 (hsw:swapsWith (.ListComp elt [⟨tg,iter,ifs,0⟩] scope pos) (some (.Name y py)) spos.line X.env=pure true)
 (hs:∀x,foldedSetIterable iter X.env x=pure x:=by intro _;rfl):PS X (.Assign [.Name y py] (.ListComp elt [⟨tg,iter,ifs,0⟩] scope pos) spos) (pP (VT wi g tc te cap) (tO i)):=by
 intro pins s σ H D I h;rw[exec_Assign_Name_used _ _ _ _ hsw];refine wpAny_bind (wpAny_standAt (wpAny_bind ?_));show wpAny _ X.A (do let _ <- comprehension (.ListComp elt [⟨tg,iter,ifs,0⟩] scope pos) scope X.env _ (newList []) false (eval iter X.env) (some (assign (.Name y py) X.env))) _ _ s;refine wpAny_bind (wpAny_mono (wpAny_comprehension_free (use:=some (assign (.Name y py) X.env)) (Q:=fun _ s'=>SP X pins D .next s') rfl hs (nV hcl) hkind hnames
  (nB (hi pins s σ H _ I h) fun v s1 h1=>nB h1 fun itv s2 h2=>?_)) (fun _ s' hq=>wpAny_pure (wpAny_pure hq)) fun _ _ e=>e)
 obtain⟨it,fp,tn,J,H2,e,I2,T,st2,f2,read⟩:=h2;subst e;refine oV (Q:=fun x H1=>tO i x σ H1 D.nx) hc hcl hcell hkind hcap hg ht he I2 T st2 f2 read fun C Dd s' H' m I' hn n1 n2 n3 n4 n5 q=>?_
 show wpAny _ X.A (assign (.Name y py) X.env (.ref Dd)) _ _ _;refine wpAny_assign_Name (MV I' hN hiN (.inl hy) (v:=.ref Dd) rfl (fun s4 I4 zz=>?_) (.inr hy));obtain⟨a,sb,ha⟩:=zz;have hCa:C≠a:=by
  rcases ha with ha | ha
  · rw[ha];exact n2
  · exact fun z=>n4 _ _ ha z.symm
 refine⟨m,hn.sameBut sb hCa,fun h' hs'=>⟨_,H',?_,q⟩⟩;exact I4.turned (t':=s4.toks) (fun b o hb e=>hs'.extBut b o hb e) n1 n2 (.inr n3) n4 n5
end
end L2
namespace SM
def aE(bd:RG)(tc:RT)(te:RE)(s:Src):Nat->Nat->LI->HI->List Dt->Option (List Dt×HI)
 | 0,_,_,_,_=>none
 | k+1,i,l,h,ys=>match s.at h i with
  | none=>none
  | some none=>some (ys,h)
  | some (some d)=>(bd d l).bind fun l1=>(tc l1 h).bind fun b=>if b.1=true then(te l1 b.2).bind fun r=>if ys.length<sizeLine then aE bd tc te s k (i+1) l1 r.2 (ys++[r.1])else none
   else aE bd tc te s k (i+1) l1 b.2 ys
noncomputable def jF(l:LI)(cap:List (Option Nat)):LI:=cap.map fun o=>match o with | some j=>(l[j]?).join | none=>none
def ID(g:RI)(bd:RG)(tc:RT)(te:RE)(cap:List (Option Nat)):RE:=fun l h=>(g l h).bind fun r=>(aE bd tc te r.1 (r.1.fuel r.2) 0 (jF l cap) r.2 []).bind fun q=>some (.lst q.1,q.2)
def IG(g:RI)(bd:RG)(tc:RT)(te:RE)(cap:List (Option Nat)):RE:=fun l h=>(g l h).bind fun r=>(aE bd tc te r.1 (r.1.fuel r.2) 0 (jF l cap) r.2 []).bind fun q=>some (.ref q.2.length,q.2++[.lst q.1])
noncomputable def QB:RT:=fun _ h=>some (true,h)
theorem qx{K:Frag}{H:Hp}{ρ:Rg}{l:LI}{σ:L2.St}(L:Wf K H ρ l σ)(cap:List (Option Nat)):Wf K H ρ (jF l cap) (mG σ cap):=by
 refine⟨by simp[jF,mG],fun i d e=>?_⟩;unfold jF at e;unfold mG;rw[getElem?_map]at e ⊢;cases q:cap[i]? with
 | none=>rw[q]at e;cases e
 | some o=>
  rw[q]at e;cases o with
  | none=>cases e
  | some j=>
   have e3:(l[j]?).join=some d:=by simpa using e
   have e4:l[j]?=some (some d):=by
    cases z:l[j]? with
    | none=>rw[z]at e3;cases e3
    | some y=>rw[z]at e3;simpa using e3
   obtain⟨v,g1,g2⟩:=L.val j d e4;refine⟨v,?_,g2⟩;simp[g1]
section
variable{X:Cx}{elt iter tg:Expr}{ifs:List Expr}{scope:Scope}{cl:List (Str×Addr)}{pos:Pos}{Nc:List Str}{g:RI}{bd:RG}{tc:RT}{te:RE}{cap:List (Option Nat)}
@[irreducible] def CM(X:Cx)(ifs:List Expr)(f:RT):Prop:=BI X ifs (OO X.K f)
theorem bF:CM X [] QB:=by with_unfolding_all exact fun pins s σ H Q I q=>by obtain⟨ρ,l,h,b,h',S,L,e,k⟩:=q;cases e;exact kj pins s σ H Q I (k ρ H S (Ext.refl _ _))
theorem cL{c:Expr}{f:RT}(h:TM X c f):CM X [c] f:=by with_unfolding_all exact mj h
end
section
variable{K:Frag}{H:Hp}{ρ:Rg}{p:Addr}{o:HO}{h:HI}
theorem Qq{a:Addr}{u:HO}(hp:H p=none)(e:H a=some u)(n:ρ.no a):(ρ.hide p).no a:=
 ⟨n.1,fun z=>by
  rcases mem_cons.mp z with z | z
  · rw[z,hp]at e;cases e
  · exact n.2 z⟩
theorem Ext.Bp{τ:Rg}{H':Hp}(x:Ext (ρ.hide p) τ H H'):∃ρ',τ=ρ'.hide p/\Ext ρ ρ' H H':=by
 refine⟨⟨τ.v,ρ.z⟩,?_,⟨x.pre,rfl,x.keep,x.live,x.fz⟩⟩;have e:=x.hid;cases τ with
 | mk v z=>have e':z=p::ρ.z:=e;subst e';rfl
theorem Ext.zaE{ρ':Rg}{H':Hp}(x:Ext ρ ρ' H H')(hp:H p=none):Ext ρ ρ' H (xB H' p o):=
 ⟨x.pre,x.hid,fun a u e n=>by rw[QA (bD e hp)];exact x.keep a u e n,fun a e=>by
  by_cases ha:a=p
  · rw[ha];exact hp
  · rw[QA ha]at e;exact x.live a e,fun a q u e=>by rw[QA (bD e hp)];exact x.fz a q u e⟩
theorem Ib.same{ρ':Rg}{H':Hp}{a:Addr}{u:Ob}(x:jd ρ ρ' H H')(e:H' a=H a)(q:Ib K H ρ a u):Ib K H' ρ' a u:=by
 cases u with
 | lst xs=>obtain⟨vs,h1,h2⟩:=q;exact⟨vs,e.trans h1,Ur.same x _ h2⟩
 | ins y fs=>obtain⟨C,dx,vs,h0,h1,h2,h3⟩:=q;exact⟨C,dx,vs,h0,e.trans h1,h2,Ur.same x _ h3⟩
 | dk kvs=>obtain⟨vs,h1,h2,h3⟩:=q;exact⟨vs,e.trans h1,h2,Ur.same x _ h3⟩
 | dt kvs=>obtain⟨vs,h1,h2,h3⟩:=q;exact⟨vs,e.trans h1,h2,Ur.same x _ h3⟩
 | df kvs=>obtain⟨o,vs,h1,h2,h3⟩:=q;exact⟨o,vs,e.trans h1,h2,Ur.same x _ h3⟩
theorem Wf.same{ρ':Rg}{H':Hp}{l:LI}{σ:L2.St}(x:jd ρ ρ' H H')(L:Wf K H ρ l σ):Wf K H' ρ' l σ:=
 ⟨L.len,fun i d e=>let ⟨v,e1,r⟩:=L.val i d e;⟨v,e1,Wr.same x d r⟩⟩
theorem FV(hp:H p=none):jd ρ (ρ.hide p) H (xB H p o):=
 ⟨fun _ _ e n=>Qq hp e n,fun a u e _=>by rw[QA (bD e hp)];exact e,fun _ _ e=>e,fun a q u e=>by rw[QA (bD e hp)];exact e⟩
theorem lR{o:HO}(nf:XT H p):jd (ρ.hide p) (ρ.hide p) H (xB H p o):=
 ⟨fun _ _ _ n=>n,fun a u e n=>by rw[QA (fun z=>n.2 (by rw[z];exact mem_cons_self))];exact e,fun _ _ e=>e,fun a q u e=>by rw[QA (fun z:a=p=>nf q u (by rw[<- z];exact e))];exact e⟩
theorem GV:jd (ρ.hide p) ρ H H:=⟨fun _ _ _ n=>⟨n.1,fun z=>n.2 (mem_cons_of_mem _ z)⟩,fun _ _ e _=>e,fun _ _ e=>e,fun _ _ _ e=>e⟩
theorem LW:jd (ρ.hide p) (ρ.add p) H H:=
 ⟨fun a _ _ n=>⟨fun z=>(mem_append.mp z).elim n.1 fun z=>n.2 (by rw[mem_singleton.mp z];exact mem_cons_self),fun z=>n.2 (mem_cons_of_mem _ z)⟩,fun _ _ e _=>e,fun n a e=>by
  have e':ρ.v[n]?=some a:=e;have:=(zed e').1;show(ρ.v++[p])[n]?=some a;rw[zee this];exact e',fun _ _ _ e=>e⟩
theorem jf.hide{xs:List V}(S:jf K ρ h H)(hp:H p=none):jf K (ρ.hide p) h (xB H p (.lst xs)):=
 ⟨S.nd,S.len,fun n a u e1 e2=>(S.ob n a u e1 e2).same (FV hp) (QA (fun z=>(S.out hp).1 (z ▸ mem_of_getElem? e1))),fun a ha=>by
  rcases mem_cons.mp ha with z | z
  · rw[z];exact⟨(S.out hp).1,xs,SC⟩
  · obtain⟨m,u,e⟩:=S.zt a z;exact⟨m,u,by rw[QA (bD e hp)];exact e⟩⟩
theorem jf.zaq{xs:List V}(S:jf K (ρ.hide p) h H):jf K (ρ.hide p) h (xB H p (.lst xs)):=
 ⟨S.nd,S.len,fun n a u e1 e2=>(S.ob n a u e1 e2).same (lR (fH (S.zt p mem_cons_self).2.choose_spec)) (QA (fun z=>(S.zt p mem_cons_self).1 (z ▸ mem_of_getElem? e1))),fun a ha=>by
  obtain⟨m,u,e⟩:=S.zt a ha;by_cases hap:a=p
  · subst hap;exact⟨m,xs,SC⟩
  · exact⟨m,u,by rw[QA hap];exact e⟩⟩
theorem jf.show(S:jf K (ρ.hide p) h H):jf K ρ h H:=
 ⟨S.nd,S.len,fun n a u e1 e2=>(S.ob n a u e1 e2).same GV rfl,fun a ha=>S.zt a (mem_cons_of_mem _ ha)⟩
theorem jf.Xl(S:jf K (ρ.hide p) h H)(hz:p∉ρ.z){ds:List Dt}{vs:List V}(e:H p=some (.lst vs))(R:Ur K H (ρ.hide p) ds vs):jf K (ρ.add p) (h++[.lst ds]) H:=by
 have nv:=(S.zt p mem_cons_self).1;refine⟨?_,by simp only[Rg.add];rw[length_append,length_append,<- S.len];rfl,fun n a ob e1 e2=>?_,fun a ha=>?_⟩
 · simp only[Rg.add];rw[nodup_append];refine⟨S.nd,nodup_cons.mpr ⟨by simp,nodup_nil⟩,fun a ha b hb=>?_⟩;rw[mem_singleton.mp hb];intro z;exact nv (z ▸ ha)
 · simp only[Rg.add]at e1;have hl:ρ.v.length=h.length:=S.len;by_cases hn:n<h.length
   · rw[zee hn]at e2;rw[zee (by rw[hl];exact hn)]at e1;exact(S.ob n a ob e1 e2).same LW rfl
   · have hn':h.length<=n:=Nat.not_lt.mp hn;rw[zeh hn']at e2;rw[zeh (by rw[hl];exact hn'),hl]at e1;cases hk:n-h.length with
     | zero=>rw[hk]at e1 e2;simp at e1 e2;subst e1 e2;exact⟨vs,e,Ur.same LW _ R⟩
     | succ k=>rw[hk]at e2;simp at e2
 · obtain⟨n,u,e'⟩:=S.zt a (mem_cons_of_mem _ ha);refine⟨fun hm=>?_,u,e'⟩;rcases mem_append.mp hm with hm | hm
   · exact n hm
   · exact hz ((mem_singleton.mp hm) ▸ ha)
end
section
variable{X:Cx}{elt iter tg:Expr}{ifs:List Expr}{scope:Scope}{cl:List (Str×Addr)}{pos:Pos}{Nc:List Str}{g:RI}{bd:RG}{tc:RT}{te:RE}{cap:List (Option Nat)}
theorem pN{σ:L2.St}{H:Hp}{Q:VK}(own:Bool){d:Dt}{h':HI}{ρ:Rg}{l:LI}{h:HI}(S:jf X.K ρ h H)(L:Wf X.K H ρ l σ)
 (e:(if own=true then IG g bd tc te cap else ID g bd tc te cap) l h=some (d,h')) (k:Out X.K ρ H d h' Q):VT (iM X.K g) (gM X.K bd) (OO X.K tc) (tM X.K te) cap σ H Q:=by
 have e0:∃s1 h1,g l h=some (s1,h1)/\∃ys h2,aE bd tc te s1 (s1.fuel h1) 0 (jF l cap) h1 []=some (ys,h2)/\h'=(if own=true then h2++[.lst ys]else h2)/\d=(if own=true then .ref h2.length else .lst ys):=by
  cases own with
  | true=>rw[if_pos rfl]at e;obtain⟨⟨s1,h1⟩,e1,e⟩:=nA e;obtain⟨⟨ys,h2⟩,e2,e⟩:=nA e;cases e;exact⟨s1,h1,e1,ys,h2,e2,rfl,rfl⟩
  | false=>rw[if_neg zef]at e;obtain⟨⟨s1,h1⟩,e1,e⟩:=nA e;obtain⟨⟨ys,h2⟩,e2,e⟩:=nA e;cases e;exact⟨s1,h1,e1,ys,h2,e2,rfl,rfl⟩
 obtain⟨s1,h1,e1,zs,h2,e2,eh,ed⟩:=e0;refine⟨ρ,l,h,s1,h1,S,L,e1,fun ρ1 J H1 ok S1 E1 D hD=>?_⟩;have hDz:D∉ρ1.z:=(S1.out hD).2;refine⟨fun i m σ' ys H'=>∃ρ' l' h' ds,jf X.K (ρ'.hide D) h' H'/\Wf X.K H' (ρ'.hide D) l' σ'/\Ext ρ1 ρ' H1 H'/\H' D=some (.lst ys)/\Ur X.K H' (ρ'.hide D) ds ys/\aE bd tc te s1 m i l' h' ds=some (zs,h2),?_,?_⟩
 · exact⟨_,ρ1,_,h1,[],S1.hide hD,qx (Wf.same (FV hD) (L.ext E1)) cap,Ext.fresh hD,SC,.nil,e2⟩
 · rintro i m σ' ys H' ⟨ρ',l',h3,ds,S',L',E',hD',R',e'⟩;cases m with
   | zero=>simp only[aE]at e';cases e'
   | succ m=>
    simp only[aE]at e';have sm:jd ρ1 (ρ'.hide D) H1 H':=⟨fun a u z n=>⟨(E'.Vl z n).1,fun w=>by
     rcases mem_cons.mp w with w | w
     · rw[w,hD]at z;cases z
     · exact(E'.Vl z n).2 w⟩,fun a u z n=>E'.keep a u z n.1,fun n a z=>E'.get z,E'.fz⟩
    have ok':=ok H' (ρ'.hide D) h3 sm S' i;cases q:s1.at h3 i with
    | none=>rw[q]at e';cases e'
    | some o=>
     rw[q]at e' ok';cases o with
     | none=>
      cases e';refine .inl ⟨ok',?_⟩;have nD:ρ'.no D:=⟨(S'.zt D mem_cons_self).1,by rw[E'.hid];exact hDz⟩;cases own with
      | false=>rw[if_neg zef]at eh ed;subst eh ed;exact k ρ' _ H' (Zr.mpr ⟨D,ys,rfl,.inl ⟨nD,.inl hD'⟩,Ur.same GV _ R'⟩) S'.show (E1.trans E')
      | true=>
       rw[if_pos rfl]at eh ed;subst eh ed;refine k (ρ'.add D) _ H' (uf.mpr ⟨D,rfl,?_⟩) (S'.Xl nD.2 hD' R') (E1.trans ⟨?_,E'.hid,E'.keep,E'.live,E'.fz⟩)
       · have hl:ρ'.v.length=h2.length:=S'.len;show(ρ'.v++[D])[h2.length]?=some D;rw[<- hl,zeh (zeg _),Nat.sub_self];rfl
       · obtain⟨x,q1,q2⟩:=E'.pre;refine⟨x++[D],by show ρ'.v++[D]=_;rw[q1,append_assoc],fun a ha=>?_⟩;rcases mem_append.mp ha with ha | ha
         · exact q2 a ha
         · rw[mem_singleton.mp ha];exact hD
     | some d0=>
      dsimp only at e';obtain⟨l1,b1,e'⟩:=nA e';obtain⟨⟨b,h4⟩,b2,e'⟩:=nA e';refine .inr ⟨ok'.1,fun v H3 y=>?_⟩;obtain⟨R3,E3,S3⟩:=ok'.2 v H3 y;have nDv:=(S'.zt D mem_cons_self).1;refine⟨ρ'.hide D,l',h3,d0,l1,S3,L'.ext E3,R3,b1,fun σ4 L4=>⟨ρ'.hide D,l1,h3,b,h4,S3,L4,b2,fun ρ5 H5 S5 E5=>?_⟩⟩;cases b with
      | true=>
       dsimp only at e';rw[if_pos rfl]at e';obtain⟨⟨d5,h5⟩,b3,e'⟩:=nA e';by_cases hz:ds.length<sizeLine
       · rw[if_pos hz]at e';refine cH ⟨ρ5,l1,h4,d5,h5,S5,L4.ext E5,b3,fun ρ6 v6 H6 R6 S6 E6=>⟨?_,by rw[R'.length];exact hz,m,Nat.lt_succ_self _,?_⟩⟩
         · exact(E3.trans (E5.trans E6)).keep D _ hD' nDv
         · obtain⟨ρ7,rfl,E7⟩:=(E3.trans (E5.trans E6)).Bp;refine⟨ρ7,l1,h5,ds++[d5],S6.zaq,Wf.same (lR (fH (S6.zt D mem_cons_self).2.choose_spec)) (L4.ext (E5.trans E6)),(E'.trans E7).zaE hD,SC,?_,e'⟩;exact Ur.same (lR (fH (S6.zt D mem_cons_self).2.choose_spec)) _ ((R'.ext (E3.trans (E5.trans E6))).append (.cons R6 .nil))
       · rw[if_neg hz]at e';cases e'
      | false=>dsimp only at e';rw[if_neg zef]at e';refine bH ⟨m,Nat.lt_succ_self _,?_⟩;obtain⟨ρ7,rfl,E7⟩:=(E3.trans E5).Bp;exact⟨ρ7,l1,h4,ds,S5,L4.ext E5,E'.trans E7,(E3.trans E5).keep D _ hD' nDv,R'.ext (E3.trans E5),e'⟩
theorem jG(hc:X.calm=true)(hi:IM X tg iter g)(hcell:∀y∈scope.names,y.2≠.cell)(hkind:scope.kind=.function)
 (hnames:∀y∈scope.names,y.2=.local->scope.names.lookup y.1=some .local) (hcl:xE X.env.cells scope.names []=some cl) (hcap:Ed X scope cl Nc cap)
 (hg:∀C s0 H0 fp,GM (gC X Nc scope cl C s0 H0 fp) tg bd) (ht:∀C s0 H0 fp,CM (gC X Nc scope cl C s0 H0 fp) ifs tc) (he:∀C s0 H0 fp,EM (gC X Nc scope cl C s0 H0 fp) elt te)
 (hs:∀x,foldedSetIterable iter X.env x=pure x:=by intro _;rfl):EM X (.ListComp elt [⟨tg,iter,ifs,0⟩] scope pos) (ID g bd tc te cap):=by
 with_unfolding_all exact PE.imp (MX (g:=gM X.K bd) (tc:=OO X.K tc) (te:=tM X.K te) hc hi hcl hcell hkind hnames hcap hg ht he hs) fun σ H Q ⟨ρ,l,h,d,h',S,L,e,k⟩=>pN (X:=X) false S L e k
theorem h9(hc:X.calm=true)(hi:IM X tg iter g)(hcell:∀y∈scope.names,y.2≠.cell)(hkind:scope.kind=.function)
 (hnames:∀y∈scope.names,y.2=.local->scope.names.lookup y.1=some .local) (hcl:xE X.env.cells scope.names []=some cl) (hcap:Ed X scope cl Nc cap)
 (hg:∀C s0 H0 fp,GM (gC X Nc scope cl C s0 H0 fp) tg bd) (ht:∀C s0 H0 fp,CM (gC X Nc scope cl C s0 H0 fp) ifs tc) (he:∀C s0 H0 fp,EM (gC X Nc scope cl C s0 H0 fp) elt te)
 (hs:∀x,foldedSetIterable iter X.env x=pure x:=by intro _;rfl):EM X (.ListComp elt [⟨tg,iter,ifs,0⟩] scope pos) (IG g bd tc te cap):=by
 with_unfolding_all exact PE.imp (MX (g:=gM X.K bd) (tc:=OO X.K tc) (te:=tM X.K te) hc hi hcl hcell hkind hnames hcap hg ht he hs) fun σ H Q ⟨ρ,l,h,d,h',S,L,e,k⟩=>pN (X:=X) true S L e k
theorem wK(i:Nat){y:Str}{py spos:Pos}(hc:X.calm=true)(hN:X.N.Nodup)(hi:IM X tg iter g)(hcell:∀y∈scope.names,y.2≠.cell)(hkind:scope.kind=.function)
 (hnames:∀y∈scope.names,y.2=.local->scope.names.lookup y.1=some .local) (hcl:xE X.env.cells scope.names []=some cl) (hcap:Ed X scope cl Nc cap)
 (hg:∀C s0 H0 fp,GM (gC X Nc scope cl C s0 H0 fp) tg bd) (ht:∀C s0 H0 fp,CM (gC X Nc scope cl C s0 H0 fp) ifs tc) (he:∀C s0 H0 fp,EM (gC X Nc scope cl C s0 H0 fp) elt te)
 (hsw:swapsWith (.ListComp elt [⟨tg,iter,ifs,0⟩] scope pos) (some (.Name y py)) spos.line X.env=pure true)
 (hiN:X.N[i]?=some y:=by rfl) (hy:X.env.scope.names.lookup y=some .local:=by rfl) (hs:∀x,foldedSetIterable iter X.env x=pure x:=by intro _;rfl) :
 ZM X (.Assign [.Name y py] (.ListComp elt [⟨tg,iter,ifs,0⟩] scope pos) spos) (wA i (ID g bd tc te cap)):=by
 with_unfolding_all exact PS.imp (qV (g:=gM X.K bd) (tc:=OO X.K tc) (te:=tM X.K te) hc hN hiN hy hi hcl hcell hkind hnames hcap hg ht he hsw hs) fun D σ H zz=>by obtain⟨ρ,l,h,r,S,L,e,k⟩:=zz;obtain⟨⟨d1,h1⟩,e1,e⟩:=nA e;cases e;exact pN (X:=X) false S L e1 fun ρ1 v H1 R1 S1 E1=>k ρ1 _ H1 S1 ((L.ext E1).set i R1) E1
theorem EQ(i:Nat){y:Str}{py spos:Pos}(hc:X.calm=true)(hN:X.N.Nodup)(hi:IM X tg iter g)(hcell:∀y∈scope.names,y.2≠.cell)(hkind:scope.kind=.function)
 (hnames:∀y∈scope.names,y.2=.local->scope.names.lookup y.1=some .local) (hcl:xE X.env.cells scope.names []=some cl) (hcap:Ed X scope cl Nc cap)
 (hg:∀C s0 H0 fp,GM (gC X Nc scope cl C s0 H0 fp) tg bd) (ht:∀C s0 H0 fp,CM (gC X Nc scope cl C s0 H0 fp) ifs tc) (he:∀C s0 H0 fp,EM (gC X Nc scope cl C s0 H0 fp) elt te)
 (hsw:swapsWith (.ListComp elt [⟨tg,iter,ifs,0⟩] scope pos) (some (.Name y py)) spos.line X.env=pure true)
 (hiN:X.N[i]?=some y:=by rfl) (hy:X.env.scope.names.lookup y=some .local:=by rfl) (hs:∀x,foldedSetIterable iter X.env x=pure x:=by intro _;rfl) :
 ZM X (.Assign [.Name y py] (.ListComp elt [⟨tg,iter,ifs,0⟩] scope pos) spos) (wA i (IG g bd tc te cap)):=by
 with_unfolding_all exact PS.imp (qV (g:=gM X.K bd) (tc:=OO X.K tc) (te:=tM X.K te) hc hN hiN hy hi hcl hcell hkind hnames hcap hg ht he hsw hs) fun D σ H zz=>by obtain⟨ρ,l,h,r,S,L,e,k⟩:=zz;obtain⟨⟨d1,h1⟩,e1,e⟩:=nA e;cases e;exact pN (X:=X) true S L e1 fun ρ1 v H1 R1 S1 E1=>k ρ1 _ H1 S1 ((L.ext E1).set i R1) E1
end
end SM
namespace L2
section
variable{X:Cx}{elt iter tg:Expr}{ifs:List Expr}{scope:Scope}{cl:List (Str×Addr)}{pos:Pos}{Nc:List Str}{wi:TI}{g:TG}{tc:TT}{te:TE}{cap:List (Option Nat)}{x0:Str}
end
end L2
namespace SM
section
variable{X:Cx}{elt iter tg:Expr}{ifs:List Expr}{scope:Scope}{cl:List (Str×Addr)}{pos:Pos}{Nc:List Str}{g:RI}{bd:RG}{tc:RT}{te:RE}{cap:List (Option Nat)}{x0:Str}
end
mutual
noncomputable def yB:Dt->Bool
 | .tup xs=>rD xs
 | .lst xs=>rD xs
 | .ref _=>false
 | .Zd _=>false
 | _=>true
noncomputable def rD:List Dt->Bool
 | []=>true
 | x::xs=>yB x&&rD xs
end
mutual
noncomputable def NH:Dt->Nat
 | .tup xs=>cF xs+1
 | .lst xs=>cF xs+1
 | _=>0
noncomputable def cF:List Dt->Nat
 | []=>0
 | x::xs=>max (NH x) (cF xs)
end
mutual
noncomputable def eD:Dt->Dt->Bool
 | .non,.non=>true
 | .bl a,.bl b=>a==b
 | .bl a,.int b=>(if a then 1 else 0)==b
 | .int a,.bl b=>a==(if b then 1 else 0)
 | .int a,.int b=>a==b
 | .str a,.str b=>a==b
 | .tup xs,.tup ys=>MD xs ys
 | .lst xs,.lst ys=>MD xs ys
 | _,_=>false
noncomputable def MD:List Dt->List Dt->Bool
 | [],[]=>true
 | x::xs,y::ys=>eD x y&&MD xs ys
 | _,_=>false
end
mutual
theorem PR:∀d:Dt,yB d=true->eD d d=true
 | .non,_=>by simp only[eD]
 | .bl b,_=>by simp only[eD,beq_self_eq_true]
 | .int i,_=>by simp only[eD,beq_self_eq_true]
 | .str x,_=>by simp only[eD,beq_self_eq_true]
 | .tup xs,h=>by simp only[eD];exact iR xs (by simpa only[yB]using h)
 | .lst xs,h=>by simp only[eD];exact iR xs (by simpa only[yB]using h)
 | .ref _,h=>by simp[yB]at h
 | .Zd _,h=>by simp[yB]at h
theorem iR:∀ds:List Dt,rD ds=true->MD ds ds=true
 | [],_=>by simp only[MD]
 | d::ds,h=>by simp only[rD,Bool.and_eq_true]at h;simp only[MD,Bool.and_eq_true];exact⟨PR d h.1,iR ds h.2⟩
end
section
variable{X:Cx}{pins:List (Addr×Obj)}{σ:L2.St}{H:Hp}{s:Shared}{ρ:Rg}
mutual
theorem kS(I:Inv X pins σ H s):∀(d d':Dt){v:V},yB d=true->yB d'=true->Wr X.K H ρ d v->Wr X.K H ρ d' v->d=d'
 | .non,d',v,_,p,r,r'=>by
  have e:=vf.mp r;subst e;cases d' with
  | non=>rfl
  | bl b=>have:=Yr.mp r';cases this
  | int b=>have:=Vr.mp r';cases this
  | str b=>have:=Af.mp r';cases this
  | tup b=>obtain⟨_,_,z,_⟩:=bf.mp r';cases z
  | lst b=>obtain⟨_,_,z,_⟩:=Zr.mp r';cases z
  | ref b=>obtain⟨_,z,_⟩:=uf.mp r';cases z
  | Zd b=>obtain⟨_,z,_⟩:=Td.mp r';cases z
 | .bl i,d',v,_,p,r,r'=>by
  have e:=Yr.mp r;subst e;cases d' with
  | non=>have:=vf.mp r';cases this
  | bl b=>have:=Yr.mp r';cases this;rfl
  | int b=>have:=Vr.mp r';cases this
  | str b=>have:=Af.mp r';cases this
  | tup b=>obtain⟨_,_,z,_⟩:=bf.mp r';cases z
  | lst b=>obtain⟨_,_,z,_⟩:=Zr.mp r';cases z
  | ref b=>obtain⟨_,z,_⟩:=uf.mp r';cases z
  | Zd b=>obtain⟨_,z,_⟩:=Td.mp r';cases z
 | .int i,d',v,_,p,r,r'=>by
  have e:=Vr.mp r;subst e;cases d' with
  | non=>have:=vf.mp r';cases this
  | bl b=>have:=Yr.mp r';cases this
  | int b=>have:=Vr.mp r';cases this;rfl
  | str b=>have:=Af.mp r';cases this
  | tup b=>obtain⟨_,_,z,_⟩:=bf.mp r';cases z
  | lst b=>obtain⟨_,_,z,_⟩:=Zr.mp r';cases z
  | ref b=>obtain⟨_,z,_⟩:=uf.mp r';cases z
  | Zd b=>obtain⟨_,z,_⟩:=Td.mp r';cases z
 | .str i,d',v,_,p,r,r'=>by
  have e:=Af.mp r;subst e;cases d' with
  | non=>have:=vf.mp r';cases this
  | bl b=>have:=Yr.mp r';cases this
  | int b=>have:=Vr.mp r';cases this
  | str b=>have:=Af.mp r';cases this;rfl
  | tup b=>obtain⟨_,_,z,_⟩:=bf.mp r';cases z
  | lst b=>obtain⟨_,_,z,_⟩:=Zr.mp r';cases z
  | ref b=>obtain⟨_,z,_⟩:=uf.mp r';cases z
  | Zd b=>obtain⟨_,z,_⟩:=Td.mp r';cases z
 | .tup xs,d',v,p0,p,r,r'=>by
  obtain⟨a,vs,e,q,rs⟩:=bf.mp r;subst e;cases d' with
  | non=>have:=vf.mp r';cases this
  | bl b=>have:=Yr.mp r';cases this
  | int b=>have:=Vr.mp r';cases this
  | str b=>have:=Af.mp r';cases this
  | tup ys=>obtain⟨b,ws,z,q',rs'⟩:=bf.mp r';cases z;have ee:=I.Dn q.sq q'.sq;subst ee;rw[XR I xs ys (by simpa only[yB]using p0) (by simpa only[yB]using p) rs rs']
  | lst ys=>
   obtain⟨b,ws,z,q',rs'⟩:=Zr.mp r';cases z;obtain⟨_,_,⟨o,e1,e2,_⟩,_⟩:=I.tuple q.sq;obtain⟨_,_,⟨o',_,e1',e2',_⟩,_⟩:=I.list q'.sq;rw[e1]at e1';cases e1';rw[e2]at e2';injection e2' with e3
   exact absurd e3 (by decide)
  | ref b=>simp[yB]at p
  | Zd b=>simp[yB]at p
 | .lst xs,d',v,p0,p,r,r'=>by
  obtain⟨a,vs,e,q,rs⟩:=Zr.mp r;subst e;cases d' with
  | non=>have:=vf.mp r';cases this
  | bl b=>have:=Yr.mp r';cases this
  | int b=>have:=Vr.mp r';cases this
  | str b=>have:=Af.mp r';cases this
  | lst ys=>obtain⟨b,ws,z,q',rs'⟩:=Zr.mp r';cases z;have ee:=I.Rb q.sq q'.sq;subst ee;rw[XR I xs ys (by simpa only[yB]using p0) (by simpa only[yB]using p) rs rs']
  | tup ys=>
   obtain⟨b,ws,z,q',rs'⟩:=bf.mp r';cases z;obtain⟨_,_,⟨o,e1,e2,_⟩,_⟩:=I.tuple q'.sq;obtain⟨_,_,⟨o',_,e1',e2',_⟩,_⟩:=I.list q.sq;rw[e1]at e1';cases e1';rw[e2]at e2';injection e2' with e3
   exact absurd e3 (by decide)
  | ref b=>simp[yB]at p
  | Zd b=>simp[yB]at p
 | .ref _,_,_,p,_,_,_=>by simp[yB]at p
 | .Zd _,_,_,p,_,_,_=>by simp[yB]at p
theorem XR(I:Inv X pins σ H s):∀(ds ds':List Dt){vs:List V},rD ds=true->rD ds'=true->Ur X.K H ρ ds vs->Ur X.K H ρ ds' vs->ds=ds'
 | [],[],_,_,_,_,_=>rfl
 | [],d'::ds',_,_,_,r,r'=>by rw[r.ud]at r';obtain⟨_,_,z,_⟩:=r'.zf;cases z
 | d::ds,[],_,_,_,r,r'=>by rw[r'.ud]at r;obtain⟨_,_,z,_⟩:=r.zf;cases z
 | d::ds,d'::ds',_,p,p',r,r'=>by simp only[rD,Bool.and_eq_true]at p p';obtain⟨v,vs,e,r1,r2⟩:=r.zf;subst e;obtain⟨v',vs',e,r1',r2'⟩:=r'.zf;cases e;rw[kS I d d' p.1 p'.1 r1 r1',XR I ds ds' p.2 p'.2 r2 r2']
end
def WF(xs ys:List Dt)(j:Nat):Bool:=match xs[j]?,ys[j]? with
 | some x,some y=>eD x y
 | _,_=>false
theorem aI:∀(xs ys:List Dt),xs.length=ys.length->(List.range xs.length).all (WF xs ys)=MD xs ys
 | [],[],_=>by simp[MD]
 | [],_::_,h=>by simp at h
 | _::_,[],h=>by simp at h
 | x::xs,y::ys,h=>by have ih:=aI xs ys (by simpa using h);rw[zd3,range_succ_eq_map,all_cons,all_map];simp only[MD];rw[<- ih];rfl
theorem ZH:∀(xs ys:List Dt),xs.length≠ys.length->MD xs ys=false
 | [],[],h=>absurd rfl h
 | [],_::_,_=>by simp only[MD]
 | _::_,[],_=>by simp only[MD]
 | x::xs,y::ys,h=>by simp only[MD];rw[ZH xs ys (fun z=>h (by simp[z])),Bool.and_false]
theorem ZQ(A:Around):A.in1.units<=A.units+1:=by first | exact zeg _ | simp[Around.in1]
theorem rE{h:Heap}{a:Addr}{its:Array Value}(p:IsTup h a its):h.IsTuple a its:=by obtain⟨o,h1,h2,n,h3⟩:=p;exact⟨o,h1,h2,n,h3⟩
mutual
theorem Yx(I:Inv X pins σ H s):∀(d d':Dt){v v':V}{u u':Value}(A:Around),yB d=true->yB d'=true->A.units+NH d<cLine->Wr X.K H ρ d v->Wr X.K H ρ d' v'->RelV v u->RelV v' u'->SeqAt.EqAt A s u u' (eD d d')
 | .tup xs,d',v,v',u,u',A,p,p',hu,r,r',q,q'=>by
  obtain⟨a,vs,e,t,rs⟩:=bf.mp r;subst e;cases q;simp only[NH]at hu;have hu0:A.units<cLine:=by omega
  obtain⟨its,rv,tp,_⟩:=I.tuple t.sq;cases d' with
  | non=>cases vf.mp r';cases q';simpa only[eD]using SeqAt.EqAt.tuple_none (rE tp) hu0
  | bl b=>cases Yr.mp r';cases q';simpa only[eD]using SeqAt.EqAt.tuple_bool b (rE tp) hu0
  | int b=>cases Vr.mp r';obtain⟨t',rfl⟩:=q';simpa only[eD]using SeqAt.EqAt.tuple_int b t' (rE tp) hu0
  | str b=>cases Af.mp r';obtain⟨t',rfl⟩:=q';simpa only[eD]using SeqAt.EqAt.tuple_str b t' (rE tp) hu0
  | lst ys=>obtain⟨b,ws,e,t',rs'⟩:=Zr.mp r';subst e;cases q';obtain⟨its',rv',Ec,_⟩:=I.list t'.sq;simpa only[eD]using SeqAt.EqAt.tuple_list (rE tp) Ec.isList hu0
  | tup ys=>
   obtain⟨b,ws,e,t',rs'⟩:=bf.mp r';subst e;cases q';obtain⟨its',rv',Ec,_⟩:=I.tuple t'.sq;by_cases hab:a=b
   · subst hab;have e:=kS I (.tup xs) (.tup ys) p p' r r';rw[<- e,PR _ p];exact SeqAt.EqAt.same _
   · refine .of_refs hab ?_;have l1:its.length=xs.length:=by rw[<- rv.length,rs.length]
     have l2:its'.length=ys.length:=by rw[<- rv'.length,rs'.length]
     have ih:=TN I xs ys A.in1 (by simpa only[yB]using p) (by simpa only[yB]using p') (by have:=ZQ A;omega) rs rs' rv rv';have z:=SeqAt.RcAt.tuples (e:=WF xs ys) (rE tp) (rE Ec) hu0 fun j h1 h2=>by rw[size_toArray]at h1 h2;simpa using ih j h1 h2
     rw[size_toArray,size_toArray,l1,l2]at z;simp only[eD];by_cases hl:xs.length=ys.length
     · rw[<- hl,Nat.min_self,aI xs ys hl,beq_self_eq_true,Bool.and_true]at z;exact z
     · rw[ZH xs ys hl];have hb:(xs.length==ys.length)=false:=by simpa using hl
       rw[hb,Bool.and_false]at z;exact z
  | ref b=>simp[yB]at p'
  | Zd b=>simp[yB]at p'
 | .lst xs,d',v,v',u,u',A,p,p',hu,r,r',q,q'=>by
  obtain⟨a,vs,e,t,rs⟩:=Zr.mp r;subst e;cases q;simp only[NH]at hu;have hu0:A.units<cLine:=by omega
  obtain⟨its,rv,tp,_⟩:=I.list t.sq;cases d' with
  | non=>cases vf.mp r';cases q';simpa only[eD]using SeqAt.EqAt.list_none tp.isList hu0
  | bl b=>cases Yr.mp r';cases q';simpa only[eD]using SeqAt.EqAt.list_bool b tp.isList hu0
  | int b=>cases Vr.mp r';obtain⟨t',rfl⟩:=q';simpa only[eD]using SeqAt.EqAt.list_int b t' tp.isList hu0
  | str b=>cases Af.mp r';obtain⟨t',rfl⟩:=q';simpa only[eD]using SeqAt.EqAt.list_str b t' tp.isList hu0
  | tup ys=>obtain⟨b,ws,e,t',rs'⟩:=bf.mp r';subst e;cases q';obtain⟨its',rv',Ec,_⟩:=I.tuple t'.sq;simpa only[eD]using SeqAt.EqAt.list_tuple tp.isList (rE Ec) hu0
  | lst ys=>
   obtain⟨b,ws,e,t',rs'⟩:=Zr.mp r';subst e;cases q';obtain⟨its',rv',Ec,_⟩:=I.list t'.sq;by_cases hab:a=b
   · subst hab;have e:=kS I (.lst xs) (.lst ys) p p' r r';rw[<- e,PR _ p];exact SeqAt.EqAt.same _
   · refine .of_refs hab ?_;have l1:its.length=xs.length:=by rw[<- rv.length,rs.length]
     have l2:its'.length=ys.length:=by rw[<- rv'.length,rs'.length]
     simp only[eD];by_cases hl:xs.length=ys.length
     · have ih:=TN I xs ys A.in1 (by simpa only[yB]using p) (by simpa only[yB]using p') (by have:=ZQ A;omega) rs rs' rv rv';have z:=SeqAt.RcAt.lists (e:=WF xs ys) tp.isList Ec.isList (by rw[size_toArray,size_toArray,l1,l2,hl]) hu0 fun j h1 h2=>by rw[size_toArray]at h1 h2;simpa using ih j h1 h2
       rw[size_toArray,l1,aI xs ys hl]at z;exact z
     · rw[ZH xs ys hl];exact SeqAt.RcAt.lists_lengths tp.isList Ec.isList (by rw[size_toArray,size_toArray,l1,l2];simpa using hl) hu0
  | ref b=>simp[yB]at p'
  | Zd b=>simp[yB]at p'
 | .ref _,_,_,_,_,_,_,p,_,_,_,_,_,_=>by simp[yB]at p
 | .Zd _,_,_,_,_,_,_,p,_,_,_,_,_,_=>by simp[yB]at p
 | .non,d',v,v',u,u',A,p,p',hu,r,r',q,q'=>by
  cases vf.mp r;cases q;have hu0:A.units<cLine:=by omega
  cases d' with
  | non=>cases vf.mp r';cases q';simp only[eD];exact SeqAt.EqAt.same _
  | bl b=>cases Yr.mp r';cases q';simpa only[eD]using SeqAt.EqAt.none_bool b
  | int b=>cases Vr.mp r';obtain⟨t',rfl⟩:=q';simpa only[eD]using SeqAt.EqAt.none_int b t'
  | str b=>cases Af.mp r';obtain⟨t',rfl⟩:=q';simpa only[eD]using SeqAt.EqAt.none_str b t'
  | tup ys=>obtain⟨b,ws,e,t',rs'⟩:=bf.mp r';subst e;cases q';obtain⟨its',rv',Ec,_⟩:=I.tuple t'.sq;simpa only[eD]using SeqAt.EqAt.none_tuple (rE Ec) hu0
  | lst ys=>obtain⟨b,ws,e,t',rs'⟩:=Zr.mp r';subst e;cases q';obtain⟨its',rv',Ec,_⟩:=I.list t'.sq;simpa only[eD]using SeqAt.EqAt.none_list Ec.isList hu0
  | ref b=>simp[yB]at p'
  | Zd b=>simp[yB]at p'
 | .bl i,d',v,v',u,u',A,p,p',hu,r,r',q,q'=>by
  cases Yr.mp r;cases q;have hu0:A.units<cLine:=by omega
  cases d' with
  | non=>cases vf.mp r';cases q';simpa only[eD]using SeqAt.EqAt.bool_none i
  | bl b=>cases Yr.mp r';cases q';simpa only[eD]using SeqAt.EqAt.bool_bool i b
  | int b=>cases Vr.mp r';obtain⟨t',rfl⟩:=q';simpa only[eD]using SeqAt.EqAt.bool_int i b t'
  | str b=>cases Af.mp r';obtain⟨t',rfl⟩:=q';simpa only[eD]using SeqAt.EqAt.bool_str i b t'
  | tup ys=>obtain⟨b,ws,e,t',rs'⟩:=bf.mp r';subst e;cases q';obtain⟨its',rv',Ec,_⟩:=I.tuple t'.sq;simpa only[eD]using SeqAt.EqAt.bool_tuple i (rE Ec) hu0
  | lst ys=>obtain⟨b,ws,e,t',rs'⟩:=Zr.mp r';subst e;cases q';obtain⟨its',rv',Ec,_⟩:=I.list t'.sq;simpa only[eD]using SeqAt.EqAt.bool_list i Ec.isList hu0
  | ref b=>simp[yB]at p'
  | Zd b=>simp[yB]at p'
 | .int i,d',v,v',u,u',A,p,p',hu,r,r',q,q'=>by
  cases Vr.mp r;obtain⟨ti,rfl⟩:=q;have hu0:A.units<cLine:=by omega
  cases d' with
  | non=>cases vf.mp r';cases q';simpa only[eD]using SeqAt.EqAt.int_none i ti
  | bl b=>cases Yr.mp r';cases q';simpa only[eD]using SeqAt.EqAt.int_bool i ti b
  | int b=>cases Vr.mp r';obtain⟨t',rfl⟩:=q';simpa only[eD]using SeqAt.EqAt.int_int i ti b t'
  | str b=>cases Af.mp r';obtain⟨t',rfl⟩:=q';simpa only[eD]using SeqAt.EqAt.int_str i ti b t'
  | tup ys=>obtain⟨b,ws,e,t',rs'⟩:=bf.mp r';subst e;cases q';obtain⟨its',rv',Ec,_⟩:=I.tuple t'.sq;simpa only[eD]using SeqAt.EqAt.int_tuple i ti (rE Ec) hu0
  | lst ys=>obtain⟨b,ws,e,t',rs'⟩:=Zr.mp r';subst e;cases q';obtain⟨its',rv',Ec,_⟩:=I.list t'.sq;simpa only[eD]using SeqAt.EqAt.int_list i ti Ec.isList hu0
  | ref b=>simp[yB]at p'
  | Zd b=>simp[yB]at p'
 | .str i,d',v,v',u,u',A,p,p',hu,r,r',q,q'=>by
  cases Af.mp r;obtain⟨ti,rfl⟩:=q;have hu0:A.units<cLine:=by omega
  cases d' with
  | non=>cases vf.mp r';cases q';simpa only[eD]using SeqAt.EqAt.str_none i ti
  | bl b=>cases Yr.mp r';cases q';simpa only[eD]using SeqAt.EqAt.str_bool i ti b
  | int b=>cases Vr.mp r';obtain⟨t',rfl⟩:=q';simpa only[eD]using SeqAt.EqAt.str_int i ti b t'
  | str b=>cases Af.mp r';obtain⟨t',rfl⟩:=q';simpa only[eD]using SeqAt.EqAt.str_str i ti b t'
  | tup ys=>obtain⟨b,ws,e,t',rs'⟩:=bf.mp r';subst e;cases q';obtain⟨its',rv',Ec,_⟩:=I.tuple t'.sq;simpa only[eD]using SeqAt.EqAt.str_tuple i ti (rE Ec) hu0
  | lst ys=>obtain⟨b,ws,e,t',rs'⟩:=Zr.mp r';subst e;cases q';obtain⟨its',rv',Ec,_⟩:=I.list t'.sq;simpa only[eD]using SeqAt.EqAt.str_list i ti Ec.isList hu0
  | ref b=>simp[yB]at p'
  | Zd b=>simp[yB]at p'
theorem TN(I:Inv X pins σ H s):∀(xs ys:List Dt){vs vs':List V}{us us':List Value}(A:Around),rD xs=true->rD ys=true->A.units+cF xs<cLine->Ur X.K H ρ xs vs->Ur X.K H ρ ys vs'->Vals vs us->Vals vs' us'->
 ∀(j:Nat)(h1:j<us.length)(h2:j<us'.length),SeqAt.EqAt A s us[j] us'[j] (WF xs ys j)
 | [],_,_,_,_,_,_,_,_,_,r,_,q,_,_,h1,_=>by rw[r.ud]at q;cases q;exact absurd h1 (by simp)
 | _::_,[],_,_,_,_,_,_,_,_,_,r',_,q',_,_,h2=>by rw[r'.ud]at q';cases q';exact absurd h2 (by simp)
 | x::xs,y::ys,vs,vs',us,us',A,p,p',hu,r,r',q,q',j,h1,h2=>by
  simp only[rD,Bool.and_eq_true]at p p';simp only[cF]at hu;obtain⟨v,r0,e,a1,a2⟩:=r.zf;subst e;obtain⟨v',r0',e,b1,b2⟩:=r'.zf;subst e;cases q with
  | cons q1 q2=>
   cases q' with
   | cons q1' q2'=>
    cases j with
    | zero=>exact Yx I x y A p.1 p'.1 (by omega) a1 b1 q1 q1'
    | succ j=>have ih:=TN I xs ys A p.2 p'.2 (by omega) a2 b2 q2 q2' j (by simpa using h1) (by simpa using h2);simpa[WF]using ih
end
end
section
variable{X:Cx}{a b c e:Expr}{es:List Expr}{fa fb fc f:RE}{g:RA}{p p2 pos:Pos}
def DF(xs ys:List Dt):Bool:=rD xs&&rD ys&&decide (cF xs<=50)
def XC:DD:=fun a b h=>match a,b with
 | .tup xs,.tup ys=>if DF xs ys=true then some (.bl (MD xs ys),h)else none
 | .lst xs,.lst ys=>if DF xs ys=true then some (.bl (MD xs ys),h)else none
 | a,b=>CZ a b h
def oE:DD:=fun a b h=>match a,b with
 | .tup xs,.tup ys=>if DF xs ys=true then some (.bl (!MD xs ys),h)else none
 | .lst xs,.lst ys=>if DF xs ys=true then some (.bl (!MD xs ys),h)else none
 | a,b=>DZ a b h
theorem jN{pins:List (Addr×Obj)}{σ:L2.St}{H:Hp}{s:Shared}{ρ:Rg}{xs ys:List Dt}{vs ws:List V}{its its':List Value}(I:Inv X pins σ H s)(hu:X.A.units+64<cLine)(ok:DF xs ys=true)(rs:Ur X.K H ρ xs vs)(rs':Ur X.K H ρ ys ws)(rv:Vals vs its)(rv':Vals ws its') :
 ∀(j:Nat)(h1:j<its.toArray.size)(h2:j<its'.toArray.size),SeqAt.EqAt X.A.in1 s its.toArray[j] its'.toArray[j] (WF xs ys j):=fun j h1 h2=>by
 simp only[DF,Bool.and_eq_true,decide_eq_true_eq]at ok;rw[size_toArray]at h1 h2;have:=TN I xs ys X.A.in1 ok.1.1 ok.1.2 (by have:=ZQ X.A;omega) rs rs' rv rv' j h1 h2;simpa using this
theorem ZE(hu:X.A.units+64<cLine):OM X (compareOp .Eq) XC:=by
 with_unfolding_all
  intro pins s σ H x y v u Q I rx ry h;obtain⟨ρ,h,d1,d2,d,h',S,R1,R2,e,k⟩:=h;unfold XC at e;split at e
  · rename_i xs ys;obtain⟨ok,e⟩:=nE e;cases e;obtain⟨a,vs,z,t,rs⟩:=bf.mp R1;obtain⟨b,ws,z',t',rs'⟩:=bf.mp R2;subst z z';cases rx;cases ry;obtain⟨its,rv,tp,_⟩:=I.tuple t.sq;obtain⟨its',rv',Ec,_⟩:=I.tuple t'.sq;have l1:its.length=xs.length:=by rw[<- rv.length,rs.length]
    have l2:its'.length=ys.length:=by rw[<- rv'.length,rs'.length]
    refine SeqAt.eq_tupleAt (e:=WF xs ys) (rE tp) (rE Ec) (by omega) (jN I hu ok rs rs' rv rv') ?_;refine⟨.bl _,H,I,rfl,k ρ _ H (Yr.mpr (congrArg V.bl ?_)) S (Ext.refl _ _)⟩;rw[size_toArray,size_toArray,l1,l2];by_cases hl:xs.length=ys.length
    · rw[<- hl,Nat.min_self,aI xs ys hl,beq_self_eq_true,Bool.and_true]
    · have hb:(xs.length==ys.length)=false:=by simpa using hl
      rw[ZH xs ys hl,hb,Bool.and_false]
  · rename_i xs ys;obtain⟨ok,e⟩:=nE e;cases e;obtain⟨a,vs,z,t,rs⟩:=Zr.mp R1;obtain⟨b,ws,z',t',rs'⟩:=Zr.mp R2;subst z z';cases rx;cases ry;obtain⟨its,rv,tp,_⟩:=I.list t.sq;obtain⟨its',rv',Ec,_⟩:=I.list t'.sq;have l1:its.length=xs.length:=by rw[<- rv.length,rs.length]
    have l2:its'.length=ys.length:=by rw[<- rv'.length,rs'.length]
    by_cases hl:xs.length=ys.length
    · refine SeqAt.eq_listAt (e:=WF xs ys) tp.isList Ec.isList (by rw[size_toArray,size_toArray,l1,l2,hl]) (by omega) (jN I hu ok rs rs' rv rv') ?_;refine⟨.bl _,H,I,rfl,k ρ _ H (Yr.mpr (congrArg V.bl ?_)) S (Ext.refl _ _)⟩;rw[size_toArray,l1,aI xs ys hl]
    · refine SeqAt.eq_list_lengthsAt tp.isList Ec.isList (by rw[size_toArray,size_toArray,l1,l2];simpa using hl) (by omega) ?_;exact⟨.bl _,H,I,rfl,k ρ _ H (Yr.mpr (by rw[ZH xs ys hl])) S (Ext.refl _ _)⟩
  · exact Zy pins s σ H x y v u Q I rx ry ⟨ρ,h,d1,d2,d,h',S,R1,R2,e,k⟩
theorem uH(hu:X.A.units+64<cLine):OM X (compareOp .NotEq) oE:=by
 with_unfolding_all
  intro pins s σ H x y v u Q I rx ry h;obtain⟨ρ,h,d1,d2,d,h',S,R1,R2,e,k⟩:=h;unfold oE at e;split at e
  · rename_i xs ys;obtain⟨ok,e⟩:=nE e;cases e;obtain⟨a,vs,z,t,rs⟩:=bf.mp R1;obtain⟨b,ws,z',t',rs'⟩:=bf.mp R2;subst z z';cases rx;cases ry;obtain⟨its,rv,tp,_⟩:=I.tuple t.sq;obtain⟨its',rv',Ec,_⟩:=I.tuple t'.sq;have l1:its.length=xs.length:=by rw[<- rv.length,rs.length]
    have l2:its'.length=ys.length:=by rw[<- rv'.length,rs'.length]
    refine P8 (e:=WF xs ys) (rE tp) (rE Ec) (by omega) (jN I hu ok rs rs' rv rv') ?_;refine⟨.bl _,H,I,rfl,k ρ _ H (Yr.mpr (congrArg V.bl ?_)) S (Ext.refl _ _)⟩;rw[size_toArray,size_toArray,l1,l2];by_cases hl:xs.length=ys.length
    · rw[<- hl,Nat.min_self,aI xs ys hl,beq_self_eq_true,Bool.and_true]
    · have hb:(xs.length==ys.length)=false:=by simpa using hl
      rw[ZH xs ys hl,hb,Bool.and_false]
  · rename_i xs ys;obtain⟨ok,e⟩:=nE e;cases e;obtain⟨a,vs,z,t,rs⟩:=Zr.mp R1;obtain⟨b,ws,z',t',rs'⟩:=Zr.mp R2;subst z z';cases rx;cases ry;obtain⟨its,rv,tp,_⟩:=I.list t.sq;obtain⟨its',rv',Ec,_⟩:=I.list t'.sq;have l1:its.length=xs.length:=by rw[<- rv.length,rs.length]
    have l2:its'.length=ys.length:=by rw[<- rv'.length,rs'.length]
    by_cases hl:xs.length=ys.length
    · refine F9 (e:=WF xs ys) tp.isList Ec.isList (by rw[size_toArray,size_toArray,l1,l2,hl]) (by omega) (jN I hu ok rs rs' rv rv') ?_;refine⟨.bl _,H,I,rfl,k ρ _ H (Yr.mpr (congrArg V.bl ?_)) S (Ext.refl _ _)⟩;rw[size_toArray,l1,aI xs ys hl]
    · refine j5 tp.isList Ec.isList (by rw[size_toArray,size_toArray,l1,l2];simpa using hl) (by omega) ?_;exact⟨.bl _,H,I,rfl,k ρ _ H (Yr.mpr (by rw[ZH xs ys hl];rfl)) S (Ext.refl _ _)⟩
  · exact ig pins s σ H x y v u Q I rx ry ⟨ρ,h,d1,d2,d,h',S,R1,R2,e,k⟩
def yE:List Dt->Option (List V)
 | []=>some []
 | d::ds=>(ED d).bind fun v=>(yE ds).map fun vs=>v::vs
theorem eW{K:Frag}{H:Hp}{ρ:Rg}:∀{ds:List Dt}{ws vs:List V},yE ds=some ws->Ur K H ρ ds vs->vs=ws
 | [],_,_,e,r=>by simp only[yE]at e;cases e;exact r.ud
 | d::ds,_,_,e,r=>by
  simp only[yE]at e;obtain⟨v,e1,e⟩:=nA e;cases q:yE ds with
  | none=>rw[q]at e;cases e
  | some vs=>rw[q]at e;cases e;obtain⟨v',r',z,r1,r2⟩:=r.zf;subst z;rw[fJ e1 r1,eW q r2]
theorem nY{d:Dt}{v:V}(e:ED d=some v):oG v=true:=by cases d<;>simp only[ED]at e<;>first | (cases e;rfl) | cases e
theorem xX:∀{ds:List Dt}{ws:List V},yE ds=some ws->ws.all oG=true
 | [],_,e=>by simp only[yE]at e;cases e;rfl
 | d::ds,_,e=>by
  simp only[yE]at e;obtain⟨v,e1,e⟩:=nA e;cases q:yE ds with
  | none=>rw[q]at e;cases e
  | some vs=>rw[q]at e;cases e;rw[all_cons,nY e1,xX q];rfl
def gH(neg:Bool):DD:=fun a b h=>(ED a).bind fun x=>(zD h b).bind fun ys=>(yE ys).bind fun zs=>some (.bl (if neg then !zL x zs else zL x zs),h)
theorem AX{neg:Bool}{x y:V}{H:Hp}{Q:VK}(h:rM X.K (gH neg) x y H Q):o0 X.K neg x y H Q:=by obtain⟨ρ,h,d1,d2,d,h',S,R1,R2,e,k⟩:=h;obtain⟨x',e1,e⟩:=nA e;obtain⟨ys,e2,e⟩:=nA e;obtain⟨zs,e3,e⟩:=nA e;cases e;obtain⟨p,vs,e4,sq,r⟩:=XN S R2 e2;have e5:=eW e3 r;subst e5;have e6:=fJ e1 R1;subst e6;exact⟨p,vs,e4,sq,nY e1,xX e3,k ρ _ H (Yr.mpr rfl) S (Ext.refl _ _)⟩
theorem cg:OM X (compareOp .In) (gH false):=by with_unfolding_all exact Kd.imp U7 fun _ _ _ _ h=>AX h
theorem UR:OM X (compareOp .NotIn) (gH true):=by with_unfolding_all exact Kd.imp o5 fun _ _ _ _ h=>AX h
def PL:DD:=fun a b h=>(FB h a).bind fun xs=>(FB h b).bind fun ys=>if xs.length+ys.length<=sizeLine then some (.lst (xs++ys),h)else none
def BH:DD:=fun a b h=>(FB h a).bind fun xs=>(FB h b).bind fun ys=>if xs.length+ys.length<=sizeLine then some (.ref h.length,h++[.lst (xs++ys)])else none
theorem Uk:OM X (binaryOp .Add) PL:=by with_unfolding_all exact Kd.imp JX fun x y H Q zz=>by obtain⟨ρ,h,d1,d2,d,h',S,R1,R2,e,k⟩:=zz;obtain⟨xs,e1,e⟩:=nA e;obtain⟨ys,e2,e⟩:=nA e;obtain⟨hz,e⟩:=nE e;cases e;obtain⟨l,vs,z1,q1,r1⟩:=CF S R1 e1;obtain⟨b,ws,z2,q2,r2⟩:=CF S R2 e2;exact⟨l,b,vs,ws,z1,z2,q1,q2,by rw[r1.length,r2.length];exact hz,fun p hp=>k ρ _ _ (fO S (r1.append r2) hp) (S.fresh hp) (Ext.fresh hp)⟩
theorem FS:OM X (binaryOp .Add) BH:=by with_unfolding_all exact Kd.imp JX fun x y H Q zz=>by obtain⟨ρ,h,d1,d2,d,h',S,R1,R2,e,k⟩:=zz;obtain⟨xs,e1,e⟩:=nA e;obtain⟨ys,e2,e⟩:=nA e;obtain⟨hz,e⟩:=nE e;cases e;obtain⟨l,vs,z1,q1,r1⟩:=CF S R1 e1;obtain⟨b,ws,z2,q2,r2⟩:=CF S R2 e2;exact⟨l,b,vs,ws,z1,z2,q1,q2,by rw[r1.length,r2.length];exact hz,fun p hp=>k _ _ _ (tH S (r1.append r2) hp).1 (tH S (r1.append r2) hp).2 (Ext.own hp)⟩
noncomputable def MC(F:Dt->HI->Option (Dt×HI))(f:RE):RE:=fun l h=>(f l h).bind fun r=>F r.1 r.2
theorem tL{x:Str}{id:String}{r:List V->Hp->VK->Prop}{F:Dt->HI->Option (Dt×HI)}(hc:Xf X (.builtin id) r)(hF:∀ρ h d v d' h' H Q,jf X.K ρ h H->Wr X.K H ρ d v->F d h=some (d',h')->Out X.K ρ H d' h' Q->r [v] H Q)
 (hg:Gl X x) (hm:X.mg x=none) (hv:bootBuiltins x=some (.builtin id)) (ha:EM X e f) (hn:x ≠ "__name__" :=by decide) (hdb:(x==("__debug__" :Str))=false:=by decide) (hs:uB e=true:=by rfl) :
 EM X (.Call (.Name x p) [e] [] pos) (MC F f):=by
 with_unfolding_all exact PE.imp (IN hc hg hm hv (mD ha vE (lB hs _ _)) hn hdb (he:=lB hs _ _)) fun σ H Q zz=>by obtain⟨ρ,l,h,d,h',S,L,e,k⟩:=zz;obtain⟨⟨d1,h1⟩,e1,e⟩:=nA e;exact⟨ρ,l,h,d1,h1,S,L,e1,fun ρ1 v H1 R1 S1 E1=>hF ρ1 h1 d1 v d h' H1 Q S1 R1 e (k.ext E1)⟩
theorem dZ{x:Str}{T:String}{r:List V->Hp->VK->Prop}{F:Dt->HI->Option (Dt×HI)}(hc:Xf X (.type T) r)(hF:∀ρ h d v d' h' H Q,jf X.K ρ h H->Wr X.K H ρ d v->F d h=some (d',h')->Out X.K ρ H d' h' Q->r [v] H Q)
 (hg:Gl X x) (hm:X.mg x=none) (hv:bootBuiltins x=some (.type T)) (ha:EM X e f) (hn:x ≠ "__name__" :=by decide) (hdb:(x==("__debug__" :Str))=false:=by decide) (hs:uB e=true:=by rfl) :
 EM X (.Call (.Name x p) [e] [] pos) (MC F f):=by
 with_unfolding_all exact PE.imp (Y7 hc hg hm hv (mD ha vE (lB hs _ _)) hn hdb (he:=lB hs _ _)) fun σ H Q zz=>by obtain⟨ρ,l,h,d,h',S,L,e,k⟩:=zz;obtain⟨⟨d1,h1⟩,e1,e⟩:=nA e;exact⟨ρ,l,h,d1,h1,S,L,e1,fun ρ1 v H1 R1 S1 E1=>hF ρ1 h1 d1 v d h' H1 Q S1 R1 e (k.ext E1)⟩
def sC:Dt->HI->Option (Dt×HI):=fun d h=>match d with
 | .str z=>if z.length<=sizeLine then some (.int z.length,h)else none
 | d=>(zD h d).map fun xs=>(.int xs.length,h)
theorem QD (hg:Gl X "len") (hm:X.mg "len" =none) (ha:EM X e f) (hs:uB e=true:=by rfl):EM X (.Call (.Name "len" p) [e] [] pos) (MC sC f):=by
 with_unfolding_all
  exact tL (Xf.or A4 B4) (fun ρ h d v d' h' H Q S R e k=>by
   unfold sC at e;split at e
   · rename_i z;obtain⟨hz,e⟩:=nE e;cases e;exact .inr ⟨z,by rw[Af.mp R],hz,k ρ _ H (Vr.mpr rfl) S (Ext.refl _ _)⟩
   · cases q:zD h d with
     | none=>rw[q]at e;cases e
     | some xs=>
      rw[q]at e;cases e;obtain⟨a,vs,z,sq,r⟩:=XN S R q;exact .inl ⟨a,vs,by rw[z],sq,by rw[r.length];exact k ρ _ H (Vr.mpr rfl) S (Ext.refl _ _)⟩) hg hm PySem.boot_len ha (hs:=hs)
noncomputable def MJ:Dt->HI->Option (Dt×HI):=fun d h=>match d with
 | .int i=>some (.int i,h)
 | .bl b=>some (.int (if b then 1 else 0),h)
 | _=>none
theorem iY (hg:Gl X "int") (hm:X.mg "int" =none) (ha:EM X e f) (hs:uB e=true:=by rfl):EM X (.Call (.Name "int" p) [e] [] pos) (MC MJ f):=by
 with_unfolding_all
  exact dZ N6 (fun ρ h d v d' h' H Q S R e k=>by
   unfold MJ at e;split at e
   · rename_i i;cases e;exact .inl ⟨i,by rw[Vr.mp R],k ρ _ H (Vr.mpr rfl) S (Ext.refl _ _)⟩
   · rename_i b;cases e;exact .inr ⟨b,by rw[Yr.mp R],k ρ _ H (Vr.mpr rfl) S (Ext.refl _ _)⟩
   · cases e) hg hm PyProof.Rows.boot_int ha (hs:=hs)
def OE:Dt->HI->Option (Dt×HI):=fun d h=>(zD h d).map fun xs=>(.ref h.length,h++[.lst xs])
theorem rN (hg:Gl X "list") (hm:X.mg "list" =none) (ha:EM X e f) (hs:uB e=true:=by rfl):EM X (.Call (.Name "list" p) [e] [] pos) (MC OE f):=by
 with_unfolding_all
  exact dZ C4 (fun ρ h d v d' h' H Q S R e k=>by
   unfold OE at e;cases q:zD h d with
   | none=>rw[q]at e;cases e
   | some xs=>
    rw[q]at e;cases e;obtain⟨a,vs,z,sq,r⟩:=XN S R q;exact⟨a,vs,by rw[z],sq,fun l hl=>k _ _ _ (tH S r hl).1 (tH S r hl).2 (Ext.own hl)⟩) hg hm PyProof.Rows.boot_list ha (hs:=hs)
noncomputable def fE:List Dt->Option (List Int)
 | []=>some []
 | .int i::ds=>(fE ds).map fun ns=>i::ns
 | _::_=>none
theorem iJ:∀{ds:List Dt}{ns:List Int},fE ds=some ns->ds=ns.map Dt.int
 | [],_,e=>by simp only[fE]at e;cases e;rfl
 | d::ds,_,e=>by
  cases d with
  | int i=>
   simp only[fE]at e;cases q:fE ds with
   | none=>rw[q]at e;cases e
   | some ns=>rw[q]at e;cases e;rw[iJ q];rfl
  | _=>simp only[fE]at e<;>cases e
def IL:Dt->HI->Option (Dt×HI):=fun d h=>(FB h d).bind fun xs=>(fE xs).map fun ns=>(.int ns.sum,h)
theorem Xx (hc:X.calm=true) (hg:Gl X "sum") (hm:X.mg "sum" =none) (ha:EM X e f) (hs:uB e=true:=by rfl):EM X (.Call (.Name "sum" p) [e] [] pos) (MC IL f):=by
 with_unfolding_all
  exact tL (W6 hc) (fun ρ h d v d' h' H Q S R e k=>by
   obtain⟨xs,e1,e⟩:=nA e;cases q:fE xs with
   | none=>rw[q]at e;cases e
   | some ns=>
    rw[q]at e;cases e;obtain⟨a,vs,z,sq,r⟩:=CF S R e1;rw[iJ q]at r;rw[r.Eb]at sq;exact⟨a,ns,by rw[z],sq,k ρ _ H (Vr.mpr rfl) S (Ext.refl _ _)⟩) hg hm PyProof.Rows.boot_sum ha (hs:=hs)
noncomputable def WC:List Int->Int
 | []=>0
 | [a]=>a
 | a::b::r=>max a (WC (b::r))
noncomputable def XB:List Int->Int
 | []=>0
 | [a]=>a
 | a::b::r=>min a (XB (b::r))
theorem bR:∀(ns:List Int),ns ≠ []->WC ns∈ns/\∀a∈ns,a<=WC ns
 | [],h=>absurd rfl h
 | [a],_=>by simp[WC]
 | a::b::r,_=>by
  obtain⟨h1,h2⟩:=bR (b::r) (by simp);simp only[WC];refine⟨?_,fun c hc=>?_⟩
  · rcases Int.le_total a (WC (b::r))with z | z
    · rw[Int.max_eq_right z];exact mem_cons_of_mem _ h1
    · rw[Int.max_eq_left z];exact mem_cons_self
  · rcases mem_cons.mp hc with z | z
    · rw[z];exact Int.le_max_left _ _
    · exact Int.le_trans (h2 c z) (Int.le_max_right _ _)
theorem cI:∀(ns:List Int),ns ≠ []->XB ns∈ns/\∀a∈ns,XB ns<=a
 | [],h=>absurd rfl h
 | [a],_=>by simp[XB]
 | a::b::r,_=>by
  obtain⟨h1,h2⟩:=cI (b::r) (by simp);simp only[XB];refine⟨?_,fun c hc=>?_⟩
  · rcases Int.le_total a (XB (b::r))with z | z
    · rw[Int.min_eq_left z];exact mem_cons_self
    · rw[Int.min_eq_right z];exact mem_cons_of_mem _ h1
  · rcases mem_cons.mp hc with z | z
    · rw[z];exact Int.min_le_left _ _
    · exact Int.le_trans (Int.min_le_right _ _) (h2 c z)
def YG:Dt->HI->Option (Dt×HI):=fun d h=>(FB h d).bind fun xs=>(fE xs).bind fun ns=>if ns ≠ []then some (.int (WC ns),h)else none
def ZG:Dt->HI->Option (Dt×HI):=fun d h=>(FB h d).bind fun xs=>(fE xs).bind fun ns=>if ns ≠ []then some (.int (XB ns),h)else none
theorem tY (hc:X.calm=true) (hg:Gl X "max") (hm:X.mg "max" =none) (ha:EM X e f) (hs:uB e=true:=by rfl):EM X (.Call (.Name "max" p) [e] [] pos) (MC YG f):=by
 with_unfolding_all
  exact tL (Q6 hc) (fun ρ h d v d' h' H Q S R e k=>by
   obtain⟨xs,e1,e⟩:=nA e;obtain⟨ns,q,e⟩:=nA e;obtain⟨hne,e⟩:=nE e;cases e;obtain⟨a,vs,z,sq,r⟩:=CF S R e1;rw[iJ q]at r;rw[r.Eb]at sq;obtain⟨m1,m2⟩:=bR ns hne;refine⟨a,ns,by rw[z],sq,hne,fun M h1 h2=>?_⟩;have:M=WC ns:=Int.le_antisymm (m2 M h1) (h2 _ m1);rw[this];exact k ρ _ H (Vr.mpr rfl) S (Ext.refl _ _)) hg hm PyProof.Rows.boot_max ha (hs:=hs)
theorem uY (hc:X.calm=true) (hg:Gl X "min") (hm:X.mg "min" =none) (ha:EM X e f) (hs:uB e=true:=by rfl):EM X (.Call (.Name "min" p) [e] [] pos) (MC ZG f):=by
 with_unfolding_all
  exact tL (V6 hc) (fun ρ h d v d' h' H Q S R e k=>by
   obtain⟨xs,e1,e⟩:=nA e;obtain⟨ns,q,e⟩:=nA e;obtain⟨hne,e⟩:=nE e;cases e;obtain⟨a,vs,z,sq,r⟩:=CF S R e1;rw[iJ q]at r;rw[r.Eb]at sq;obtain⟨m1,m2⟩:=cI ns hne;refine⟨a,ns,by rw[z],sq,hne,fun M h1 h2=>?_⟩;have:M=XB ns:=Int.le_antisymm (h2 _ m1) (m2 M h1);rw[this];exact k ρ _ H (Vr.mpr rfl) S (Ext.refl _ _)) hg hm PyProof.Rows.boot_min ha (hs:=hs)
noncomputable def sG(h:HI):Dt->Option String
 | .non=>some "NoneType"
 | .bl _=>some "bool"
 | .int _=>some "int"
 | .str _=>some "str"
 | .tup _=>some "tuple"
 | .lst _=>some "list"
 | .ref n=>match h[n]? with | some (.lst _)=>some "list" | _=>none
 | .Zd _=>none
noncomputable def ML (t T:String):Bool:=t==T || (t == "bool" && T == "int")
def OH(T:String)(f:RE):RE:=fun l h=>(f l h).bind fun r=>(sG r.2 r.1).map fun t=>(.bl (ML t T),r.2)
theorem Gq (K:Frag):∀t ∈ ["NoneType", "bool", "int", "str", "tuple", "list"],∀T ∈ ["bool", "int", "str", "tuple", "list"],PySem.W.kitOne K (.type t) (.type T)=some (ML t T):=by intro t ht T hT;simp only[mem_cons,mem_nil_iff,or_false]at ht hT;rcases ht with rfl | rfl | rfl | rfl | rfl | rfl<;>rcases hT with rfl | rfl | rfl | rfl | rfl<;>with_unfolding_all rfl
theorem Hg {h:HI} {d:Dt} {t:String} (e:sG h d=some t):t ∈ ["NoneType", "bool", "int", "str", "tuple", "list"]:=by
 cases d with
 | ref n=>
  simp only[sG]at e;split at e
  · cases e;decide
  · cases e
 | Zd n=>simp only[sG]at e;cases e
 | _=>simp only[sG]at e<;>cases e<;>decide
theorem P1{K:Frag}{H:Hp}{ρ:Rg}{h:HI}{d:Dt}{v:V}{t:String}(S:jf K ρ h H)(R:Wr K H ρ d v)(e:sG h d=some t):vh K H v t:=by
 cases d with
 | non=>cases vf.mp R;simp only[sG]at e;cases e;rfl
 | bl b=>cases Yr.mp R;simp only[sG]at e;cases e;rfl
 | int b=>cases Vr.mp R;simp only[sG]at e;cases e;rfl
 | str b=>cases Af.mp R;simp only[sG]at e;cases e;rfl
 | tup xs=>obtain⟨a,vs,z,t,rs⟩:=bf.mp R;subst z;simp only[sG]at e;cases e;exact .inr ⟨rfl,vs,t.sq⟩
 | lst xs=>obtain⟨a,vs,z,t,rs⟩:=Zr.mp R;subst z;simp only[sG]at e;cases e;exact .inl ⟨rfl,vs,t.sq⟩
 | ref n=>
  obtain⟨a,z,ha⟩:=uf.mp R;subst z;simp only[sG]at e;split at e
  · rename_i xs q;cases e;obtain⟨vs,h1,_⟩:=S.lst ha q;exact .inl ⟨rfl,vs,Qd.of h1⟩
  · cases e
 | Zd n=>simp only[sG]at e;cases e
theorem iL {T:Str} {TT:String} (hg:Gl X "isinstance") (hm:X.mg "isinstance" =none) (hgT:Gl X T) (hmT:X.mg T=none) (hv:bootBuiltins T=some (.type TT)) (hT:TT ∈ ["bool", "int", "str", "tuple", "list"]) (ha:EM X e f)
 (hnT:T ≠ "__name__" :=by decide) (hdT:(T==("__debug__" :Str))=false:=by decide)
 (hs:uB e=true:=by rfl) :
 EM X (.Call (.Name "isinstance" p) [e,.Name T p2] [] pos) (OH TT f):=by
 with_unfolding_all
  exact PE.imp (IN (P9 (T:=TT)) hg hm PyProof.Rows.boot_isinstance (mD ha (mD (Uj hgT hmT hv (v:=.ty TT) rfl hnT hdT) vE (lB rfl _ _)) (lB hs _ _)) (he:=lB hs _ _)) fun σ H Q zz=>by
   obtain⟨ρ,l,h,d,h',S,L,e,k⟩:=zz;obtain⟨⟨d1,h1⟩,e1,e⟩:=nA e;refine⟨ρ,l,h,d1,h1,S,L,e1,fun ρ1 v H1 R1 S1 E1=>?_⟩;cases q:sG h1 d1 with
   | none=>rw[q]at e;cases e
   | some t=>rw[q]at e;cases e;exact⟨v,t,ML t TT,rfl,P1 S1 R1 q,Gq X.K t (Hg q) TT hT,k ρ1 _ H1 (Yr.mpr rfl) S1 E1⟩
abbrev RO:=LI->HI->Option (Option Int×HI)
noncomputable def sU:RO:=fun _ h=>some (none,h)
noncomputable def NO(f:RE):RO:=fun l h=>(f l h).bind fun r=>match r.1 with | .int i=>some (some i,r.2) | _=>none
def jt(K:Frag)(f:RO):TO:=fun σ H Q=>∃ρ l h o h',jf K ρ h H/\Wf K H ρ l σ/\f l h=some (o,h')/\Fl K ρ H h' (Q o)
@[irreducible] def uZ(X:Cx)(e:Option Expr)(f:RO):Prop:=PO X e (jt X.K f)
theorem PO.imp{X:Cx}{e:Option Expr}{t t':TO}(h:PO X e t)(i:∀σ H Q,t' σ H Q->t σ H Q):PO X e t':=fun pins s σ H Q I q=>h pins s σ H Q I (i σ H Q q)
theorem Uq:uZ X none sU:=by with_unfolding_all exact PO.imp Dv fun σ H Q zz=>by obtain⟨ρ,l,h,o,h',S,L,e,k⟩:=zz;cases e;exact k ρ H S (Ext.refl _ _)
theorem GS(ha:EM X a fa):uZ X (some a) (NO fa):=by
 with_unfolding_all
  exact PO.imp (Fv ha) fun σ H Q zz=>by
   obtain⟨ρ,l,h,o,h',S,L,e,k⟩:=zz;obtain⟨⟨d1,h1⟩,e1,e⟩:=nA e;refine⟨ρ,l,h,d1,h1,S,L,e1,fun ρ1 v H1 R1 S1 E1=>?_⟩;cases d1 with
   | int i=>cases e;exact⟨i,Vr.mp R1,k ρ1 H1 S1 E1⟩
   | _=>cases e
def wG(xs:List Dt)(lo hi:Option Int):List Dt:=(xs.drop (HT.Xn xs.length 0 lo)).take (HT.Xn xs.length xs.length hi-HT.Xn xs.length 0 lo)
def ZT(f:RE)(lo hi:RO):RE:=fun l h=>(f l h).bind fun r=>(lo l r.2).bind fun o=>(hi l o.2).bind fun u=>(FB u.2 r.1).map fun xs=>(.lst (wG xs o.1 u.1),u.2)
theorem zx{K:Frag}{H:Hp}{ρ:Rg}{xs:List Dt}{vs:List V}(r:Ur K H ρ xs vs)(lo hi:Option Int):Ur K H ρ (wG xs lo hi) (EI vs lo hi):=by unfold wG EI;rw[r.length];exact(r.drop _).take _
theorem AW{lo hi:Option Expr}{fl fh:RO}(ha:EM X a fa)(hl:uZ X lo fl)(hh:uZ X hi fh):EM X (.Subscript a (.Slice lo hi none p2) pos) (ZT fa fl fh):=by
 with_unfolding_all
  exact PE.imp (Y8 Zv ha hl hh) fun σ H Q zz=>by
   obtain⟨ρ,l,h,d,h',S,L,e,k⟩:=zz;obtain⟨⟨d1,h1⟩,e1,e⟩:=nA e;obtain⟨⟨o,h2⟩,e2,e⟩:=nA e;obtain⟨⟨u,h3⟩,e3,e⟩:=nA e;refine⟨ρ,l,h,d1,h1,S,L,e1,fun ρ1 v H1 R1 S1 E1=>⟨ρ1,l,h1,o,h2,S1,L.ext E1,e2,fun ρ2 H2 S2 E2=>⟨ρ2,l,h2,u,h3,S2,L.ext (E1.trans E2),e3,fun ρ3 H3 S3 E3=>?_⟩⟩⟩;cases q:FB h3 d1 with
   | none=>dsimp only at e;rw[q]at e;cases e
   | some xs=>dsimp only at e;rw[q]at e;cases e;obtain⟨x,vs,z,sq,r⟩:=CF S3 (Wr.ext (E2.trans E3) _ R1) q;exact⟨x,vs,z,sq,fun p hp=>k ρ3 _ _ (fO S3 (zx r o u) hp) (S3.fresh hp) (E1.trans (E2.trans (E3.trans (Ext.fresh hp))))⟩
noncomputable def NZ(fo fa:RE):RE:=fun l h=>(fo l h).bind fun r=>match r.1 with
 | .ref n=>(fa l r.2).bind fun q=>match q.2[n]? with
  | some (.lst xs)=>if xs.length<sizeLine then some (.non,q.2.set n (.lst (xs++[q.1])))else none
  | _=>none
 | _=>none
theorem iT {K:Frag} {H:Hp} {ρ:Rg} {h:HI} {n:Nat} {xs:List Dt} {v:V} (S:jf K ρ h H) (R:Wr K H ρ (.ref n) v) (e:h[n]?=some (.lst xs)):R0 K "list" v H:=by obtain⟨a,z,ha⟩:=uf.mp R;subst z;obtain⟨vs,h1,_⟩:=S.lst ha e;exact .inl ⟨rfl,vs,Qd.of h1⟩
def IE(fa fb:RE):RE:=fun l h=>(fa l h).bind fun r=>match r.1 with
 | .ref n=>match r.2[n]? with
  | some (.lst _)=>NZ (eC (.ref n)) fb l r.2
  | _=>none
 | _=>none
theorem YF {apos cpos:Pos} (ho:EM X a fa) (hb:EM X b fb) (hbase:attributeBase a "append" X.env (eval a X.env)=eval a X.env:=by rfl)
 (hline:(apos.endLine==cpos.line)=true:=by rfl) (hs:uB b=true:=by rfl) :
 EM X (.Call (.Attribute a "append" apos) [b] [] cpos) (IE fa fb):=by
 with_unfolding_all
  exact PE.imp (vT PySem.F.plainAttrs_list PySem.F.slot_list_append PySem.F.type_list_append xV ho (mD hb vE (lB hs _ _)) hbase (cS hs) hline (lB hs _ _)) fun σ H Q zz=>by
   obtain⟨ρ,l,h,d,h',S,L,e,k⟩:=zz;obtain⟨⟨d1,h1⟩,e1,e⟩:=nA e;refine⟨ρ,l,h,d1,h1,S,L,e1,fun ρ1 v H1 R1 S1 E1=>?_⟩;cases d1 with
   | ref n=>
    dsimp only at e;split at e
    · rename_i xs0 q0;obtain⟨⟨d0,h0⟩,z0,e⟩:=nA e;cases z0;dsimp only at e;obtain⟨⟨d2,h2⟩,e2,e⟩:=nA e;refine⟨iT S1 R1 q0,ρ1,l,h1,d2,h2,S1,L.ext E1,e2,fun ρ2 y H2 R2 S2 E2=>?_⟩;dsimp only at e;split at e
      · rename_i xs q;obtain⟨hz,e⟩:=nE e;cases e;obtain⟨a,z,ha⟩:=uf.mp R1;subst z;have ha2:=E2.get ha;obtain⟨vs,g1,g2⟩:=S2.lst ha2 q;have hm:=mem_of_getElem? ha2;refine⟨a,vs,y,rfl,rfl,g1,by rw[g2.length];exact hz,k ρ2 _ _ (vf.mpr rfl) (S2.write ha2 (fH g1) ⟨_,SC,?_⟩) (E1.trans (E2.trans (Ext.write hm (fH g1))))⟩;exact(g2.append (.cons R2 .nil)).ext (Ext.write hm (fH g1))
      · cases e
    · cases e
   | _=>cases e
end
def kU:List Dt->Dt->Option Nat
 | [],_=>none
 | y::ys,x=>if eD y x=true then some 0 else(kU ys x).map (· + 1)
section
variable{X:Cx}{pins:List (Addr×Obj)}{σ:L2.St}{H:Hp}{s:Shared}{ρ:Rg}
open Classical in
end
def Uy(xs:List Dt)(d:Dt):Bool:=rD xs&&yB d&&decide (cF xs<=50)
section
variable{X:Cx}{a b:Expr}{fa fb:RE}
noncomputable def BD(K:Frag):Nat->Value->Option Dt
 | _,.none=>some .non
 | _,.bool b=>some (.bl b)
 | _,.int i _=>some (.int i)
 | _,.str x _=>some (.str x)
 | 0,_=>none
 | n+1,.ref a=>match K.lookup a with
  | some ⟨.type T,dd,.seq its _,_⟩=>if its.size<=sizeLine then
   if T = "tuple" then(its.toList.mapM (BD K n)).map .tup
   else if T = "list" then match dd with | none=>(its.toList.mapM (BD K n)).map .lst | some _=>none
   else none
   else none
  | _=>none
 | _,_=>none
noncomputable def dU:Value->V
 | .none=>.non
 | .bool b=>.bl b
 | .int i _=>.int i
 | .str x _=>.str x
 | .ref a=>.ref a
 | _=>.non
theorem SR{K:Frag}{H:Hp}{ρ:Rg}{f:Value->Option Dt}(h:∀u d,f u=some d->RelV (dU u) u/\Wr K H ρ d (dU u)):∀{us:List Value}{ds:List Dt},us.mapM f=some ds->Vals (us.map dU) us/\Ur K H ρ ds (us.map dU)
 | [],_,e=>by simp at e;subst e;exact⟨.nil,.nil⟩
 | u::us,ds,e=>by
  rw[mapM_cons]at e;cases q:f u with
  | none=>rw[q]at e;cases e
  | some d=>
   rw[q]at e;cases q2:us.mapM f with
   | none=>rw[q2]at e;cases e
   | some ds'=>rw[q2]at e;cases e;obtain⟨h1,h2⟩:=h u d q;obtain⟨h3,h4⟩:=SR h q2;exact⟨.cons h1 h3,.cons h2 h4⟩
theorem CV{K:Frag}{H:Hp}{ρ:Rg}:∀(n:Nat)(u:Value)(d:Dt),BD K n u=some d->RelV (dU u) u/\Wr K H ρ d (dU u):=by
 intro n
 induction n with
 | zero=>
  intro u d e;cases u with
  | none=>simp only[BD]at e;cases e;exact⟨rfl,vf.mpr rfl⟩
  | bool b=>simp only[BD]at e;cases e;exact⟨rfl,Yr.mpr rfl⟩
  | int i t=>simp only[BD]at e;cases e;exact⟨⟨_,rfl⟩,Vr.mpr rfl⟩
  | str x t=>simp only[BD]at e;cases e;exact⟨⟨_,rfl⟩,Af.mpr rfl⟩
  | _=>simp only[BD]at e<;>cases e
 | succ n ih=>
  intro u d e;cases u with
  | none=>simp only[BD]at e;cases e;exact⟨rfl,vf.mpr rfl⟩
  | bool b=>simp only[BD]at e;cases e;exact⟨rfl,Yr.mpr rfl⟩
  | int i t=>simp only[BD]at e;cases e;exact⟨⟨_,rfl⟩,Vr.mpr rfl⟩
  | str x t=>simp only[BD]at e;cases e;exact⟨⟨_,rfl⟩,Af.mpr rfl⟩
  | ref a=>
   simp only[BD]at e;split at e
   · rename_i T dd its m sl q;by_cases hz:its.size<=sizeLine
     · rw[if_pos hz]at e;by_cases hT:T = "tuple"
       · rw[if_pos hT]at e;cases q2:its.toList.mapM (BD K n)with
         | none=>rw[q2]at e;cases e
         | some ds=>rw[q2]at e;cases e;obtain⟨h1,h2⟩:=SR (K:=K) (H:=H) (ρ:=ρ) ih q2;subst hT;exact⟨rfl,bf.mpr ⟨a,_,rfl,.inr ⟨_,its,m,q,rfl,rfl,hz,h1⟩,h2⟩⟩
       · rw[if_neg hT]at e;by_cases hT2:T = "list"
         · rw[if_pos hT2]at e;split at e
           · cases q2:its.toList.mapM (BD K n)with
             | none=>rw[q2]at e;cases e
             | some ds=>rw[q2]at e;cases e;obtain⟨h1,h2⟩:=SR (K:=K) (H:=H) (ρ:=ρ) ih q2;subst hT2;exact⟨rfl,Zr.mpr ⟨a,_,rfl,.inr ⟨_,its,m,q,rfl,rfl,rfl,hz,h1⟩,h2⟩⟩
           · cases e
         · rw[if_neg hT2]at e;cases e
     · rw[if_neg hz]at e;cases e
   · cases e
  | _=>simp only[BD]at e<;>cases e
structure HJ(K:Frag)(mg:Str->Option Value)(x:Str)(d:Dt):Prop where
 ex:∃u n,mg x=some u/\BD K n u=some d
theorem uJ {x:Str} {d:Dt} {pos:Pos} (hg:Gl X x) (c:HJ X.K X.mg x d) (hd:(x==("__debug__" :Str))=false:=by decide):EM X (.Name x pos) (eC d):=by with_unfolding_all obtain⟨u,n,h1,h2⟩:=c.ex;exact Rx hg h1 (CV (H:=fun _=>none) (ρ:=.nil) n u d h2).1 (fun H ρ=>(CV n u d h2).2) hd
end
theorem Nk{K:Frag}{F:RB}{n:Nat}(h:∀ns:List Int,ns.length<=n->∃h',F [.lst (ns.map Dt.int)] []=some (.bl true,h'))(H:Hp)(a:Addr)(ns:List Int)(hl:ns.length<=n)(hS:Qd K H a (ns.map V.int)) :
 OI K 1 F [.ref a] H (fun v _=>v=.bl true) fun _ _ _=>False:=by
 obtain⟨h',e⟩:=h ns hl;have R:Wr K H .nil (.lst (ns.map Dt.int)) (.ref a):=Zr.mpr ⟨a,_,rfl,by
  rcases hS with hS | hS
  · exact .inl ⟨⟨by simp[Rg.nil],by simp[Rg.nil]⟩,hS⟩
  · exact .inr hS,Ur.ints ns⟩
 exact⟨.nil,[.lst (ns.map Dt.int)],[],.bl true,h',jf.nil,.cons R .nil,rfl,e,fun ρ' v H' R' S' E'=>Yr.mp R'⟩
structure kD(P:Program)(w:World)(K:Frag)(mg:Str->Option Value)(base:Heap)(k n:Nat)(x:Str)(F:RB):Prop where
 ex:∃f fd ps,Jd P w K mg base VF k f fd ps (OI K n F)/\mg x=some (.ref f)/\keepIn K (.ref f)=true/\Binds K fd ps []
 len:∀ds h r,F ds h=some r->ds.length=n
structure rB(K:Frag)(mg:Str->Option Value)(x:Str)(st:Stmt)(ps:List Str):Prop where
 ex:∃f fd,El K x x st f fd/\mg x=some (.ref f)/\Binds K fd ps []
section
variable{P:Program}{w:World}{K:Frag}{mg:Str->Option Value}{base:Heap}
theorem qz{x qual:Str}{st:Stmt}{f:Addr}{fd:FuncData}{N ps:List Str}{k n m:Nat}{body:RS}(F:El K x qual st f fd)(S:WA N ps (yA st))(hn:ps.length=n)(hm:N.length=m)
 (hb:∀(cdv:Value)(A:Around)(outer:List Env)(s:Shared)(H:Hp)(E:XK),Qf k (A.deeper (envOfC qual (yA st) s.heap.objs.size f cdv))->
  MH (kF VF P w K mg base N qual (yA st) f cdv A outer s H E).Al (lD st) body):Jd P w K mg base VF (k+1) f fd ps (OI K n (nC n m body)):=by
 with_unfolding_all subst hn hm;exact sO F S hb
theorem BB{x:Str}{st:Stmt}{N ps:List Str}{k n m:Nat}{body:RS}(D:rB K mg x st ps)(S:WA N ps (yA st))(hn:ps.length=n)(hm:N.length=m)
 (hb:∀(f:Addr)(cdv:Value)(A:Around)(outer:List Env)(s:Shared)(H:Hp)(E:XK),Qf k (A.deeper (envOfC x (yA st) s.heap.objs.size f cdv))->
  MH (kF VF P w K mg base N x (yA st) f cdv A outer s H E).Al (lD st) body):kD P w K mg base (k+1) n x (nC n m body):=by
 with_unfolding_all subst hn hm;obtain⟨f,fd,hF,hm,hB⟩:=D.ex;exact⟨⟨f,fd,ps,sO hF S fun cdv A outer s H E hr=>hb f cdv A outer s H E hr,hm,hF.kp,hB⟩,fun ds h r e=>UN e⟩
end
section
variable{X:Cx}{k k' n:Nat}{F:RB}{x:Str}{p pos:Pos}{e:Expr}{es:List Expr}{g:RA}
theorem oJ (c:kD X.prog X.w X.K X.mg X.base k n x F) (hr:Qf k' X.A) (hk:k<=k') (hg:Gl X x) (ha:AM X (e::es) g) (hdb:(x==("__debug__" :Str))=false:=by decide)
 (he:uB e=true:=by rfl) (hpl:es.all uB=true:=by rfl) :
 EM X (.Call (.Name x p) (e::es) [] pos) (xA F [] g):=by
 with_unfolding_all obtain⟨f,fd,ps,h1,h2,h3,h4⟩:=c.ex;exact zW h1 (hr.mono hk) hg h2 h3 h4 .nil (fun _ _=>.nil) ha (fun F' e ds h r q=>c.len ds h r (e ▸ q)) hdb he hpl
end
theorem B9{l:PySem.W.OpenLaw}{q:Program}{loose:List Str}{XP:(Str->Option Value)->Heap->Prop}{YP:World->Heap->Prop}{d:DefRec}{K:Params->Frag}{F:RB}{k:Nat}{x:Str}(hn:l.most=some 63)(hdf:d.params.defaults=[])(hr:Qf k callerA)
 (hY:∀(w:World)(h:Heap),YP w h->(K w.params).In h)
 (hF:∀(w:World)(mg:Str->Option Value)(fa:Addr)(h:Heap),(K w.params).In h->h.Ns mainGlobals mg->mg d.name=some (.ref fa)->
  ∃fd:FuncData,(∀(s:Shared)(u:Value),BindsTo s fd ⟨[u],[]⟩ [(x,u)])/\∀base:Heap,(K w.params).In base->base.Ns mainGlobals mg->Jd l.prog w (K w.params) mg base VF k fa fd [x] (OI (K w.params) 1 F))
 (h:∀ns:List Int,ns.length<=63->∃h',F [.lst (ns.map Dt.int)] []=some (.bl true,h')):PySem.W.WalkO q loose XP YP l.row.toRowW d [] (fun f vs=>PySem.call f vs):=
 L2.Dz (n:=63) (k:=k) (x:=x) (CX:=fun _=>VF) (sp:=fun w=>OI (K w.params) 1 F) hn (by decide) hdf hr hY hF (fun w H a ns hl _ hS=>Nk h H a ns hl hS) fun _ _ _ _ _ z=>z
end SM
namespace L2
section
variable{X:Cx}
theorem wY:∀{bs:List Bool}{us:List Value},Vals (bs.map V.bl) us->∀(i:Nat)(v:Value),us[i]?=some v->v=.bool (bs.getD i false)
 | [],us,r,i,v,e=>by cases r;simp at e
 | b::bs,us,r,i,v,e=>by
  cases r with
  | cons r rr=>
   cases i with
   | zero=>simp at e;subst e;exact r
   | succ i=>simpa using wY rr i v (by simpa using e)
end
end L2
namespace SM
noncomputable def lG:List Dt->Option (List Bool)
 | []=>some []
 | .bl b::ds=>(lG ds).map fun bs=>b::bs
 | _::_=>none
theorem tW:∀{ds:List Dt}{bs:List Bool},lG ds=some bs->ds=bs.map Dt.bl
 | [],bs,e=>by simp only[lG]at e;cases e;rfl
 | d::ds,bs,e=>by
  cases d with
  | bl b=>
   simp only[lG]at e;cases q:lG ds with
   | none=>rw[q]at e;cases e
   | some cs=>rw[q]at e;cases e;rw[tW q];rfl
  | _=>simp only[lG]at e<;>cases e
theorem Ur.zah{K:Frag}{H:Hp}{ρ:Rg}:∀{bs:List Bool}{vs:List V},Ur K H ρ (bs.map Dt.bl) vs->vs=bs.map V.bl
 | [],_,h=>h.ud
 | n::ns,_,h=>by obtain⟨v,r,rfl,h1,h2⟩:=Ur.zf h;simp only[Wr]at h1;rw[h1,Ur.zah h2];rfl
section
variable{X:Cx}{e:Expr}{f:RE}{p pos:Pos}
end
noncomputable def tI:Nat->List Dt->List Dt
 | _,[]=>[]
 | k,x::xs=>.tup [.int (k:Int),x]::tI (k+1) xs
noncomputable def dF(i j:Nat):RG:=fun d l=>match d with
 | .tup [a,b]=>some ((l.set i (some a)).set j (some b))
 | _=>none
end SM
namespace L2
section
variable{X:Cx}{pins:List (Addr×Obj)}{σ:List (Option V)}{H:Hp}{s:Shared}{h':Heap}
theorem Inv.zan{t':Nat}{e it p:Addr}{xs:List V}(I:Inv X pins σ H s)(k:∀b o,b≠e->b≠it->s.heap.get? b=some o->h'.get? b=some o)(fe:SE X pins H e)(fi:SE X pins H it)(hp:s.heap.objs.size<=p)
 (new:Kf X.prog X.w (xB H p (.tup xs)) h' p (.tup xs)):Inv X pins σ (xB H p (.tup xs)) { s with heap:=h',toks:=t' }:=by
 obtain⟨e0,e1,e2,e3,e4,e5⟩:=fe;obtain⟨i0,i1,i2,i3,i4,i5⟩:=fi;have hn:H p=none:=I.hok.fresh hp;have ne:∀b u,H b=some u->b≠e:=fun b u q z=>by rw[z,e0]at q;cases q
 have ni:∀b u,H b=some u->b≠it:=fun b u q z=>by rw[z,i0]at q;cases q
 have nc:∀{b},b ∉ [e,it]->b≠e/\b≠it:=fun hc=>⟨fun z=>hc (by simp[z]),fun z=>hc (by simp[z])⟩
 refine I.step (g':=s.gens) (d':=s.drawn) (ch:=[e,it]) (fun b hb=>?_) (fun b o _ _ hc q _=>k b o (nc hc).1 (nc hc).2 q) (fun b o _ _ hc q _=>⟨o.slots,k b o (nc hc).1 (nc hc).2 q⟩)
  (fun b o _ q n=>by rw[QA (Nat.ne_of_lt (Nat.lt_of_lt_of_le (Heap.lt_size q) hp))];exact n)
  (fun b o hc q=>⟨o,k b o (nc hc).1 (nc hc).2 q⟩) (fun b ys q=>by rw[QA (bD q hn)];exact q) (fun b o u q=>by rw[QA (bD q hn)];exact q)
  (fun b ps q=>⟨#[],by rw[QA (bD q hn),q];simp⟩) (fun m hm=>?_) (fun b u q=>?_) I.bare
 · have z:b=e\/b=it:=by simpa using hb
   rcases z with rfl | rfl
   · exact⟨e3,e1,e4,e5⟩
   · exact⟨i3,i1,i4,i5⟩
 · obtain⟨o,es,ep,ho,r⟩:=hm;exact⟨o,es,ep,k _ o (Ne.symm e1) (Ne.symm i1) ho,r⟩
 · by_cases hb:b=p
   · subst hb;rw[SC]at q;cases q;exact new
   · rw[QA hb]at q;refine(I.hok b u q).stay (fun c v hc q'=>?_) (fun c q=>by rw[QA (bD q hn)];exact q) fun c ys q=>by rw[QA (bD q hn)];exact q
     rcases hc with z | z
     · subst z;exact k c v (ne c u q) (ni c u q) q'
     · exact k c v (ne c _ z) (ni c _ z) q'
theorem Inv.Qp{t':Nat}{e it:Addr}(I:Inv X pins σ H s)(k:∀b o,b≠e->b≠it->s.heap.get? b=some o->h'.get? b=some o)(fe:SE X pins H e)(fi:SE X pins H it):Inv X pins σ H { s with heap:=h',toks:=t' }:=by
 obtain⟨e0,e1,e2,e3,e4,e5⟩:=fe;obtain⟨i0,i1,i2,i3,i4,i5⟩:=fi;have ne:∀b u,H b=some u->b≠e:=fun b u q z=>by rw[z,e0]at q;cases q
 have ni:∀b u,H b=some u->b≠it:=fun b u q z=>by rw[z,i0]at q;cases q
 have nc:∀{b},b ∉ [e,it]->b≠e/\b≠it:=fun hc=>⟨fun z=>hc (by simp[z]),fun z=>hc (by simp[z])⟩
 refine I.step (g':=s.gens) (d':=s.drawn) (ch:=[e,it]) (fun b hb=>?_) (fun b o _ _ hc q _=>k b o (nc hc).1 (nc hc).2 q) (fun b o _ _ hc q _=>⟨o.slots,k b o (nc hc).1 (nc hc).2 q⟩)
  (fun b o _ q n=>n) (fun b o hc q=>⟨o,k b o (nc hc).1 (nc hc).2 q⟩) (fun b ys q=>q) (fun b o u q=>q)
  (fun b ps q=>⟨#[],by rw[q];simp⟩) (fun m hm=>?_) (fun b u q=>?_) I.bare
 · have z:b=e\/b=it:=by simpa using hb
   rcases z with rfl | rfl
   · exact⟨e3,e1,e4,e5⟩
   · exact⟨i3,i1,i4,i5⟩
 · obtain⟨o,es,ep,ho,r⟩:=hm;exact⟨o,es,ep,k _ o (Ne.symm e1) (Ne.symm i1) ho,r⟩
 · refine(I.hok b u q).stay (fun c v hc q'=>?_) (fun c q=>q) fun c ys q=>q
   rcases hc with z | z
   · subst z;exact k c v (ne c u q) (ni c u q) q'
   · exact k c v (ne c _ z) (ni c _ z) q'
end
def Zg(K:Frag)(a:Addr):It:=
 ⟨fun i H=>∃xs x,Qd K H a xs/\xs[i]?=some x,fun i H x H'=>∃p y,H p=none/\x=.ref p/\(∀xs,Qd K H a xs->xs[i]?=some y)/\H'=xB H p (.tup [.int (i:Nat),y]),fun i H=>∃xs,Qd K H a xs/\xs.length<=i⟩
theorem R7{P:Program}{w:World}{K:Frag}{elts:List Expr}{x1}{pos:Pos}(a e it:Addr)(hne:e≠it):WG P w K (.Tuple elts x1 pos) (Zg K a) [e,it] e (fun i h=>(∃old,IsEnum h e it i old)/\h.IsListIter it a i) where
 mem:=by simp
 obj:=fun i h st b hb=>by
  obtain⟨⟨old,s1⟩,s2⟩:=st;have z:b=e\/b=it:=by simpa using hb
  rcases z with rfl | rfl
  · exact⟨_,s1,fun v z=>by cases z⟩
  · obtain⟨o,e,c,d⟩:=s2;exact⟨o,e,fun v z=>by rw[d]at z;cases z⟩
 keep:=fun i h h' st k=>by obtain⟨⟨old,s1⟩,s2⟩:=st;exact⟨⟨old,k e (by simp) _ s1⟩,s2.at fun o e=>k it (by simp) o e⟩
 item:=by
  intro X hP hw hK hc i pins s σ H E I hf st hg;subst hP hw hK;obtain⟨⟨old,s1⟩,s2⟩:=st;obtain⟨xs,x,hq,hx⟩:=hg;obtain⟨its,rv,p,hz⟩:=I.list hq;obtain⟨u,hu,ru⟩:=rv.get hx;have fe:=hf e (by simp);have fi:=hf it (by simp);refine wpAny_pyNext_enum_item s1 s2 p.isList (x:=u) (by simpa using hu) hne fun h' out it' tup sz kp=>?_
  refine⟨_,rfl,wpAny_letOwnedTupleGo_enum out fun h2 he2 sb=>?_⟩;have hpe:s.heap.objs.size≠e:=(Nat.ne_of_lt (Heap.lt_size s1)).symm;have hpi:s.heap.objs.size≠it:=by obtain⟨o,q,_⟩:=s2;exact(Nat.ne_of_lt (Heap.lt_size q)).symm
  have t2:h2.get? s.heap.objs.size=some { cls:=.type "tuple",data:=.seq #[.int i s.toks,u] }:=(sb.2 _ hpe).trans tup;refine⟨.ref s.heap.objs.size,xB H s.heap.objs.size (.tup [.int (i:Nat),x]),I.zan (fun b o h1 h3 q=>(sb.2 b h1).trans (kp b o h1 h3 q)) fe fi (zeg _) ⟨by simp only[zd3,zd4];rw[sizeLine_eq];decide,[.int i s.toks,u],.cons ⟨_,rfl⟩ (.cons ru .nil),⟨_,t2,rfl,_,rfl⟩⟩,rfl,⟨_,x,I.hok.fresh (zeg _),rfl,fun ys hy=>by rw[I.Rb hy hq];exact hx,rfl⟩,⟨⟨_,he2⟩,it'.at fun o q=>(sb.2 it (Ne.symm hne)).trans q⟩,fun b hb=>?_⟩;have z:b=e\/b=it:=by simpa using hb
  rcases z with rfl | rfl
  · rw[QA (Ne.symm hpe)];exact fe.1
  · rw[QA (Ne.symm hpi)];exact fi.1
 done:=by intro X hP hw hK hc i pins s σ H E I hf st hg;subst hP hw hK;obtain⟨⟨old,s1⟩,s2⟩:=st;obtain⟨xs,hq,hx⟩:=hg;obtain⟨its,rv,p,hz⟩:=I.list hq;have hl:=rv.length;exact wpAny_pyNext_enum_end (I.ok.hd hc) s1 s2 p.isList (by simp;omega) fun h' eb=>⟨rfl,I.Qp (t':=s.toks) (fun b o _ h3 q=>eb b o h3 q) (hf e (by simp)) (hf it (by simp))⟩
 self:=fun _ _ _ _ _ st h=>by obtain⟨⟨old,s1⟩,_⟩:=st;exact wpAny_pyIter_enum s1 h
section
variable{X:Cx}
def RZ(K:Frag)(ta:TA):TI:=fun σ H R=>ta σ H fun vs H1=>∃a,vs=[.ref a]/\(∃xs,Qd K H1 a xs)/\R (Zg K a) H1
theorem Av {elts:List Expr} {x1} {tp:Pos} {a:Expr} {ta:TA} {p pos:Pos} (hg:Gl X "enumerate") (hm:X.mg "enumerate" =none) (ha:PA X [a] ta) (hs:starEach [a] X.env=[(false,eval a X.env)]:=by rfl) :
 PI X (.Tuple elts x1 tp) (.Call (.Name "enumerate" p) [a] [] pos) (RZ X.K ta):=by
 intro pins s σ H R I h;refine Call_ (sH I hg hm boot_enumerate (PyProof.Rows.callWith_type1 (nB (ha pos pins s σ H _ I h) fun us s1 zz=>?_) hs rfl));obtain⟨vs,H1,I1,r1,q1⟩:=zz;obtain⟨b,e,⟨xs,hq⟩,q⟩:=q1;subst e;cases r1 with
 | cons r rr=>
  cases rr;cases r;obtain⟨its,rv,pl,hz⟩:=I1.list hq;refine call_enumerate_list pl.isList fun h' he hit hsz k=>?_
  have I2:Inv X pins σ H1 { s1 with heap:=h' }:=I1.kept (t':=s1.toks) k;refine wpAny_pyIter_enum he ?_;refine⟨s1.heap.objs.size+1,[s1.heap.objs.size+1,s1.heap.objs.size],_,_,H1,rfl,I2,R7 b (s1.heap.objs.size+1) s1.heap.objs.size (Nat.succ_ne_self _),⟨⟨_,he⟩,hit⟩,fun c hc=>?_,q⟩;have z:c=s1.heap.objs.size+1\/c=s1.heap.objs.size:=by simpa using hc
  rcases z with rfl | rfl
  · exact I1.Bm (Nat.le_succ _) (I1.hok.fresh (Nat.le_succ _))
  · exact I1.Bm (zeg _) (I1.hok.fresh (zeg _))
end
end L2
namespace SM
theorem cW:∀(xs:List Dt)(k i:Nat),(tI k xs)[i]?=(xs[i]?).map fun x=>.tup [.int ((k+i:Nat):Int),x]
 | [],_,_=>by simp[tI]
 | x::xs,k,0=>by simp[tI]
 | x::xs,k,i+1=>by
  simp only[tI,zd2];rw[cW xs (k+1) i];have:k+1+i=k+(i+1):=by omega
  rw[this]
section
variable{X:Cx}
theorem oY(i j:Nat){x y:Str}{px py pos:Pos}{x1}(hc:X.calm=true)(hN:X.N.Nodup)(hi:X.N[i]?=some x:=by rfl)(hj:X.N[j]?=some y:=by rfl)
 (hx:JO X.env.scope x:=by first | exact Or.inl rfl | exact Or.inr rfl) (hy:JO X.env.scope y:=by first | exact Or.inl rfl | exact Or.inr rfl)
 (hf:X.fn x=true\/X.env.scope.names.lookup x=some .local:=by first | exact .inl rfl | exact .inr rfl | assumption)
 (hf':X.fn y=true\/X.env.scope.names.lookup y=some .local:=by first | exact .inl rfl | exact .inr rfl | assumption):GM X (.Tuple [.Name x px,.Name y py] x1 pos) (dF i j):=by
 with_unfolding_all
  refine PG.imp (Rw (n:=2) hc (FW (IS hN hi hx hf) (FW (IS hN hj hy hf') Zz))) fun v σ H Q zz=>?_
  obtain⟨ρ,l,h,d,l',S,L,R,e,k⟩:=zz;unfold dF at e;split at e
  · cases e;obtain⟨a,vs,rfl,q,r⟩:=bf.mp R;obtain⟨v1,r1,rfl,R1,r⟩:=r.zf;obtain⟨v2,r2,rfl,R2,r⟩:=r.zf;cases r.ud;exact⟨a,[v1,v2],rfl,q.sq,rfl,v1,[v2],rfl,v2,[],rfl,rfl,k _ ((L.set i R1).set j R2)⟩
  · cases e
end
def kI(fe fo fi:RE):RS:=fun l h=>(fe l h).bind fun v=>(fo l v.2).bind fun o=>(fi l o.2).bind fun i=>match o.1,i.1 with
 | .ref n,.int k=>match i.2[n]? with
  | some (.lst xs)=>(QG xs.length k).bind fun j=>some (.nx l (i.2.set n (.lst (xs.set j v.1))))
  | _=>none
 | _,_=>none
noncomputable def Jr(i j k:Nat):RG:=fun d l=>match d with
 | .tup [a,b,c]=>some (((l.set i (some a)).set j (some b)).set k (some c))
 | _=>none
noncomputable def zG(d:Dt)(k:Int):List Dt:=List.replicate k.toNat d
def GI(fa fb:RE):RE:=fun l h=>(fa l h).bind fun a=>(fb l a.2).bind fun k=>match k.1 with
 | .int i=>if -(2^62)<=i/\i<=1000000 then some (.lst (zG a.1 i),k.2)else none
 | _=>none
def EJ(fa fb:RE):RE:=fun l h=>(fa l h).bind fun a=>(fb l a.2).bind fun k=>match k.1 with
 | .int i=>if -(2^62)<=i/\i<=1000000 then some (.ref k.2.length,k.2++[.lst (zG a.1 i)])else none
 | _=>none
def HL:Dt->HI->Option (Dt×HI):=fun d h=>(FB h d).bind fun xs=>(lG xs).map fun bs=>(.bl (bs.any id),h)
noncomputable def xD(f:Dt->Option Dt):List Dt->Option (List Dt)
 | []=>some []
 | x::xs=>(f x).bind fun y=>(xD f xs).map fun ys=>y::ys
def DB(h:HI):Nat->Dt->Option Dt
 | 0,_=>none
 | n+1,.tup xs=>(xD (DB h n) xs).map .tup
 | n+1,.lst xs=>(xD (DB h n) xs).map .lst
 | n+1,.ref k=>match h[k]? with | some (.lst xs)=>(xD (DB h n) xs).map .lst | _=>none
 | _+1,.Zd _=>none
 | _+1,d=>some d
def SJ:DD:=fun a b h=>(DB h 8 a).bind fun a'=>(DB h 8 b).bind fun b'=>(XC a' b' []).map fun r=>(r.1,h)
def SH:DD:=fun a b h=>(DB h 8 a).bind fun a'=>(DB h 8 b).bind fun b'=>(oE a' b' []).map fun r=>(r.1,h)
noncomputable def rF(t:RT)(body:RS):Nat->RS
 | 0,_,_=>none
 | n+1,l,h=>(t l h).bind fun c=>if c.1=true then(body l c.2).bind fun r=>match r with
  | .nx l' h'=>rF t body n l' h'
  | .ct l' h'=>rF t body n l' h'
  | .bk l' h'=>some (.nx l' h')
  | .rt d h'=>some (.rt d h')
  else some (.nx l c.2)
def oO(n:Nat)(t:RT)(body:RS):RS:=fun l h=>rF t body n l h
noncomputable def fI(fo fa:RE):RE:=fun l h=>(fo l h).bind fun r=>match r.1 with
 | .ref n=>match r.2[n]? with
  | some (.lst _)=>(fa l r.2).bind fun q=>match q.1 with
   | .ref m=>match q.2[n]?,q.2[m]? with
    | some (.lst xs),some (.lst ys)=>if xs.length+ys.length<=sizeLine then some (.non,q.2.set n (.lst (xs++ys)))else none
    | _,_=>none
   | _=>none
  | _=>none
 | _=>none
noncomputable def iO(fo fa:RE):RE:=fun l h=>(fo l h).bind fun r=>match r.1 with
 | .ref n=>match r.2[n]? with
  | some (.lst _)=>(fa l r.2).bind fun q=>match q.1 with
   | .int 0=>match q.2[n]? with
    | some (.lst (x::xs))=>some (x,q.2.set n (.lst xs))
    | _=>none
   | _=>none
  | _=>none
 | _=>none
noncomputable def yL(F:Dt->Dt->Option Dt)(fa fb:RE):RE:=fun l h=>(fa l h).bind fun r=>(fb l r.2).bind fun q=>(F r.1 q.1).map fun d=>(d,q.2)
noncomputable def uL:Dt->Dt->Option Dt:=fun a b=>match a,b with | .int i,.int j=>some (.int (if j>i then j else i)) | _,_=>none
noncomputable def zH:Dt->Dt->Option Dt:=fun a b=>match a,b with | .int i,.int j=>some (.int (if j<i then j else i)) | _,_=>none
noncomputable def ZL(f:RE):RE:=fun l h=>(f l h).bind fun r=>match r.1 with | .int i=>some (.int (Builtin.bitNot i),r.2) | _=>none
end SM
namespace L2
section
variable{X:Cx}
theorem M9(bs:List Bool):(List.range bs.length).any (fun i=>bs.getD i false)=bs.any id:=by
 induction bs with
 | nil=>rfl
 | cons b bs ih=>
  rw[zd3,range_succ_eq_map,any_cons,any_map,any_cons];have:((fun i=>(b::bs).getD i false) ∘ Nat.succ)=fun i=>bs.getD i false:=by
   funext i
   simp
  rw[this,ih];simp
theorem M6 (hc:X.calm=true):Xf X (.builtin "any") (fun xs H Q=>∃(p:Addr) (bs:List Bool),xs=[.ref p]/\Qd X.K H p (bs.map V.bl)/\Q (.bl (bs.any id)) H):=by
 intro pins s σ H xs us Q I r h;obtain⟨p,bs,rfl,hq,q⟩:=h;obtain⟨u,rfl,rx⟩:=qG r;cases rx;obtain⟨its,r',pl,hz⟩:=I.list hq;have hlt:p<s.heap.objs.size:=by obtain⟨_,e,_⟩:=pl.isList;exact Heap.lt_size e
 refine call_any_walk (wpAny_pyIter_list pl.isList ?_);refine⟨_,_,_,_,_,_,fun i=>bs.getD i false,rfl,Walks.list (A:=X.A.in1) (I.ok.hd hc) s.heap.objs.size p (Nat.ne_of_lt hlt) its.toArray,⟨⟨_,Heap.get?_push_size _ rfl,rfl,rfl⟩,pl.isList.push _⟩,?_,fun h' tk k=>?_⟩
 · intro i v s2 Q2 E2 hv hQ;have e:=wY r' i v (by simpa using hv);subst e;exact wpAny_truthy_bool hQ
 · have hl:=r'.length;have e:(List.range its.toArray.size).any (fun i=>bs.getD i false)=bs.any id:=by rw[show its.toArray.size=bs.length by simp at hl ⊢;omega,M9]
   rw[e];exact⟨.bl (bs.any id),H,I.kept (old_kept k),rfl,q⟩
end
section
variable{X:Cx}{pins:List (Addr×Obj)}{σ:List (Option V)}{H:Hp}{s:Shared}{h':Heap}
theorem Inv.zaT{t':Nat}{fp:List Addr}{p:Addr}{xs:List V}(I:Inv X pins σ H s)(k:∀b o,b∉fp->s.heap.get? b=some o->h'.get? b=some o)(ff:∀b∈fp,SE X pins H b)(hp:s.heap.objs.size<=p)
 (new:Kf X.prog X.w (xB H p (.tup xs)) h' p (.tup xs)):Inv X pins σ (xB H p (.tup xs)) { s with heap:=h',toks:=t' }:=by
 have hn:H p=none:=I.hok.fresh hp;have nt:∀b u,H b=some u->b∉fp:=fun b u q z=>by rw[(ff b z).1]at q;cases q
 refine I.step (g':=s.gens) (d':=s.drawn) (ch:=fp) (fun b hb=>?_) (fun b o _ _ hc q _=>k b o hc q) (fun b o _ _ hc q _=>⟨o.slots,k b o hc q⟩)
  (fun b o _ q n=>by rw[QA (Nat.ne_of_lt (Nat.lt_of_lt_of_le (Heap.lt_size q) hp))];exact n)
  (fun b o hc q=>⟨o,k b o hc q⟩) (fun b ys q=>by rw[QA (bD q hn)];exact q) (fun b o u q=>by rw[QA (bD q hn)];exact q)
  (fun b ps q=>⟨#[],by rw[QA (bD q hn),q];simp⟩) (fun m hm=>?_) (fun b u q=>?_) I.bare
 · obtain⟨e0,e1,e2,e3,e4,e5⟩:=ff b hb;exact⟨e3,e1,e4,e5⟩
 · obtain⟨o,es,ep,ho,r⟩:=hm;exact⟨o,es,ep,k _ o (fun z=>(ff _ z).2.1 rfl) ho,r⟩
 · by_cases hb:b=p
   · subst hb;rw[SC]at q;cases q;exact new
   · rw[QA hb]at q;refine(I.hok b u q).stay (fun c v hc q'=>?_) (fun c q=>by rw[QA (bD q hn)];exact q) fun c ys q=>by rw[QA (bD q hn)];exact q
     rcases hc with z | z
     · subst z;exact k c v (nt c u q) q'
     · exact k c v (nt c _ z) q'
theorem Inv.Rp{t':Nat}{fp:List Addr}(I:Inv X pins σ H s)(k:∀b o,b∉fp->s.heap.get? b=some o->h'.get? b=some o)(ff:∀b∈fp,SE X pins H b):Inv X pins σ H { s with heap:=h',toks:=t' }:=by
 have nt:∀b u,H b=some u->b∉fp:=fun b u q z=>by rw[(ff b z).1]at q;cases q
 refine I.step (g':=s.gens) (d':=s.drawn) (ch:=fp) (fun b hb=>?_) (fun b o _ _ hc q _=>k b o hc q) (fun b o _ _ hc q _=>⟨o.slots,k b o hc q⟩)
  (fun b o _ q n=>n) (fun b o hc q=>⟨o,k b o hc q⟩) (fun b ys q=>q) (fun b o u q=>q)
  (fun b ps q=>⟨#[],by rw[q];simp⟩) (fun m hm=>?_) (fun b u q=>?_) I.bare
 · obtain⟨e0,e1,e2,e3,e4,e5⟩:=ff b hb;exact⟨e3,e1,e4,e5⟩
 · obtain⟨o,es,ep,ho,r⟩:=hm;exact⟨o,es,ep,k _ o (fun z=>(ff _ z).2.1 rfl) ho,r⟩
 · refine(I.hok b u q).stay (fun c v hc q'=>?_) (fun c q=>q) fun c ys q=>q
   rcases hc with z | z
   · subst z;exact k c v (nt c u q) q'
   · exact k c v (nt c _ z) q'
end
section
variable{X:Cx}
end
end L2
namespace SM
section
variable{X:Cx}{e o i a b:Expr}{f g fe fo fi fa fb:RE}{p pos pos':Pos}
theorem Uz (hc:X.calm=true) (hg:Gl X "any") (hm:X.mg "any" =none) (ha:EM X e f) (hs:uB e=true:=by rfl):EM X (.Call (.Name "any" p) [e] [] pos) (MC HL f):=by
 with_unfolding_all
  exact tL (M6 hc) (fun ρ h d v d' h' H Q S R e k=>by
   obtain⟨xs,e1,e⟩:=nA e;cases q:lG xs with
   | none=>rw[q]at e;cases e
   | some ns=>
    rw[q]at e;cases e;obtain⟨a,vs,z,sq,r⟩:=CF S R e1;rw[tW q]at r;rw[r.zah]at sq;exact⟨a,ns,by rw[z],sq,k ρ _ H (Yr.mpr rfl) S (Ext.refl _ _)⟩) hg hm PyProof.Rows.boot_any ha (hs:=hs)
theorem SN(he:EM X e fe)(ho:EM X o fo)(hi:EM X i fi)
 (hs:swapsWithSole [.Subscript o i pos'] e pos.line X.env=pure false:=by rfl) (hw:swappedStores [.Subscript o i pos'] e X.env=pure none:=by rfl) (h1:(assignEach [.Subscript o i pos'] X.env).map (·.2)=[assign (.Subscript o i pos') X.env]:=by rfl)
 (ha:∀v,assign (.Subscript o i pos') X.env v=(do
  let ov <- holding [v] (eval o X.env)
  let iv <- holding [v,ov] (eval i X.env)
  standAt pos'
  holding [v,ov,iv] (setItem ov iv v)
  release [v,ov,iv] []):=by intro _;rfl):ZM X (.Assign [.Subscript o i pos'] e pos) (kI fe fo fi):=by
 with_unfolding_all
  exact PS.imp (Tw he (Qw ho hi Fj ha) hs hw h1) fun D σ H zz=>by
   obtain⟨ρ,l,h,r,S,L,e,k⟩:=zz;obtain⟨⟨v,hv⟩,e1,e⟩:=nA e;obtain⟨⟨d,hd⟩,e2,e⟩:=nA e;obtain⟨⟨j,hj⟩,e3,e⟩:=nA e;refine⟨ρ,l,h,v,hv,S,L,e1,fun ρ1 u H1 R1 S1 E1=>⟨ρ1,l,hv,d,hd,S1,L.ext E1,e2,fun ρ2 y H2 R2 S2 E2=>⟨ρ2,l,hd,j,hj,S2,L.ext (E1.trans E2),e3,fun ρ3 z H3 R3 S3 E3=>?_⟩⟩⟩;cases d with
   | ref n=>
    cases j with
    | int kk=>
     dsimp only at e;split at e
     · rename_i xs q;obtain⟨jj,e4,e⟩:=nA e;cases e;obtain⟨aa,zz,ha⟩:=uf.mp (Wr.ext E3 _ R2);obtain⟨vs,g1,g2⟩:=S3.lst ha q;have hm:=mem_of_getElem? ha;refine⟨aa,vs,kk,jj,zz,Vr.mp R3,g1,by rw[g2.length];exact e4,?_⟩;exact k ρ3 σ _ (S3.write ha (fH g1) ⟨_,SC,(g2.set jj (Wr.ext (E2.trans E3) _ R1)).ext (Ext.write hm (fH g1))⟩) (L.ext (E1.trans (E2.trans (E3.trans (Ext.write hm (fH g1)))))) (E1.trans (E2.trans (E3.trans (Ext.write hm (fH g1)))))
     · cases e
    | _=>cases e
   | _=>cases e
theorem oW{α:Type}(v:α):∀k:Nat,(List.replicate k [v]).flatten=List.replicate k v
 | 0=>rfl
 | k+1=>by rw[replicate_succ,flatten_cons,oW v k];rfl
theorem UX{K:Frag}{H:Hp}{ρ:Rg}{d:Dt}{v:V}(r:Wr K H ρ d v):∀k:Nat,Ur K H ρ (List.replicate k d) (List.replicate k v)
 | 0=>.nil
 | k+1=>.cons r (UX r k)
theorem KW{σ:L2.St}{H:Hp}{Q:VK}(own:Bool)(h:tM X.K (if own=true then EJ fa fb else GI fa fb) σ H Q):CU xU (AU (qZ (tM X.K fa) BU)) (tM X.K fb) σ H Q:=by
 obtain⟨ρ,l,h,d,h',S,L,e,k⟩:=h;have e0:∃d1 h1 d2 h2 i,fa l h=some (d1,h1)/\fb l h1=some (d2,h2)/\d2=.int i/\(-(2^62)<=i/\i<=1000000)/\(if own=true then(Dt.ref h2.length,h2++[.lst (zG d1 i)])else(Dt.lst (zG d1 i),h2))=(d,h'):=by
  cases own with
  | true=>
   rw[if_pos rfl]at e;obtain⟨⟨d1,h1⟩,e1,e⟩:=nA e;obtain⟨⟨d2,h2⟩,e2,e⟩:=nA e;cases d2 with
   | int i=>obtain⟨c,e⟩:=nE e;exact⟨d1,h1,_,h2,i,e1,e2,rfl,c,e⟩
   | _=>cases e
  | false=>
   rw[if_neg zef]at e;obtain⟨⟨d1,h1⟩,e1,e⟩:=nA e;obtain⟨⟨d2,h2⟩,e2,e⟩:=nA e;cases d2 with
   | int i=>obtain⟨c,e⟩:=nE e;exact⟨d1,h1,_,h2,i,e1,e2,rfl,c,e⟩
   | _=>cases e
 obtain⟨d1,h1,d2,h2,i,e1,e2,rfl,c,ed⟩:=e0;refine⟨ρ,l,h,d1,h1,S,L,e1,fun ρ1 v H1 R1 S1 E1=>⟨by simp only[zd3,zd4];rw[sizeLine_eq];decide,fun q hq=>?_⟩⟩;refine⟨ρ1,l,h1,.int i,h2,S1.fresh hq,L.ext (E1.trans (Ext.fresh hq)),e2,fun ρ2 y H2 R2 S2 E2=>?_⟩;have hk:=E2.keep q _ SC (S1.out hq).1;have hi:i.toNat<=1000000:=by omega
 refine⟨q,i,[v],rfl,Vr.mp R2,hk,by omega,by omega,by simp only[zd3,zd4];rw[sizeLine_eq];omega,fun q2 hq2=>?_⟩;rw[oW];have RR:Ur X.K H2 ρ2 (zG d1 i) (List.replicate i.toNat v):=UX (Wr.ext ((Ext.fresh hq).trans E2) _ R1) _;have EE:=E1.trans ((Ext.fresh hq).trans E2);cases own with
 | true=>rw[if_pos rfl]at ed;cases ed;exact k _ _ _ (tH S2 RR hq2).1 (tH S2 RR hq2).2 (EE.trans (Ext.own hq2))
 | false=>rw[if_neg zef]at ed;cases ed;exact k ρ2 _ _ (fO S2 RR hq2) (S2.fresh hq2) (EE.trans (Ext.fresh hq2))
theorem vY(ha:EM X a fa)(hb:EM X b fb)(hs:uB a=true:=by rfl):EM X (.BinOp (.List [a] p) .Mult b pos) (GI fa fb):=by with_unfolding_all exact PE.imp (xT CY (lO (mD ha vE (lB hs _ _))) hb) fun σ H Q h=>KW (fa:=fa) (fb:=fb) false h
theorem vX(ha:EM X a fa)(hb:EM X b fb)(hs:uB a=true:=by rfl):EM X (.BinOp (.List [a] p) .Mult b pos) (EJ fa fb):=by with_unfolding_all exact PE.imp (xT CY (lO (mD ha vE (lB hs _ _))) hb) fun σ H Q h=>KW (fa:=fa) (fb:=fb) true h
end
section
variable{K:Frag}{H:Hp}{ρ:Rg}{h:HI}
theorem jf.bare(S:jf K ρ h H):jf K ⟨[],ρ.z⟩ [] H:=⟨nodup_nil,rfl,fun _ _ _ e=>by simp at e,fun a ha=>⟨by simp,(S.zt a ha).2⟩⟩
theorem yN{f:Dt->Option Dt}(hf:∀d d' v,f d=some d'->Wr K H ρ d v->Wr K H ⟨[],ρ.z⟩ d' v):∀(xs:List Dt){ys:List Dt}{vs:List V},xD f xs=some ys->Ur K H ρ xs vs->Ur K H ⟨[],ρ.z⟩ ys vs
 | [],ys,vs,e,r=>by cases e;rw[r.ud];exact .nil
 | x::xs,ys,vs,e,r=>by
  obtain⟨v,rr,rfl,r1,r2⟩:=r.zf;obtain⟨y,e1,e⟩:=nA (show(f x).bind _=some ys from e);cases q:xD f xs with
  | none=>rw[q]at e;cases e
  | some zs=>rw[q]at e;cases e;exact .cons (hf _ _ _ e1 r1) (yN hf xs q r2)
theorem TupAt.bare{a:Addr}{vs:List V}(t:TupAt K H ρ a vs):TupAt K H ⟨[],ρ.z⟩ a vs:=by
 rcases t with⟨n,t⟩ | t
 · exact .inl ⟨⟨by simp,n.2⟩,t⟩
 · exact .inr t
theorem LstAt.bare{a:Addr}{vs:List V}(t:LstAt K H ρ a vs):LstAt K H ⟨[],ρ.z⟩ a vs:=by
 rcases t with⟨n,t⟩ | t
 · exact .inl ⟨⟨by simp,n.2⟩,t⟩
 · exact .inr t
theorem SK(S:jf K ρ h H):∀(n:Nat)(d d':Dt)(v:V),DB h n d=some d'->Wr K H ρ d v->Wr K H ⟨[],ρ.z⟩ d' v
 | 0,_,_,_,e,_=>by simp[DB]at e
 | n+1,.non,_,_,e,r=>by simp only[DB]at e;cases e;simp only[Wr]at r ⊢;exact r
 | n+1,.bl _,_,_,e,r=>by simp only[DB]at e;cases e;simp only[Wr]at r ⊢;exact r
 | n+1,.int _,_,_,e,r=>by simp only[DB]at e;cases e;simp only[Wr]at r ⊢;exact r
 | n+1,.str _,_,_,e,r=>by simp only[DB]at e;cases e;simp only[Wr]at r ⊢;exact r
 | n+1,.tup xs,_,_,e,r=>by
  simp only[DB]at e;cases q:xD (DB h n) xs with
  | none=>rw[q]at e;cases e
  | some ys=>rw[q]at e;cases e;obtain⟨a,vs,z,t,rr⟩:=bf.mp r;exact bf.mpr ⟨a,vs,z,t.bare,yN (fun d d' v=>SK S n d d' v) xs q rr⟩
 | n+1,.lst xs,_,_,e,r=>by
  simp only[DB]at e;cases q:xD (DB h n) xs with
  | none=>rw[q]at e;cases e
  | some ys=>rw[q]at e;cases e;obtain⟨a,vs,z,t,rr⟩:=Zr.mp r;exact Zr.mpr ⟨a,vs,z,t.bare,yN (fun d d' v=>SK S n d d' v) xs q rr⟩
 | n+1,.Zd m,_,_,e,r=>by simp only[DB]at e;cases e
 | n+1,.ref m,_,_,e,r=>by
  simp only[DB]at e;split at e
  · rename_i xs q0;cases q:xD (DB h n) xs with
    | none=>rw[q]at e;cases e
    | some ys=>rw[q]at e;cases e;obtain⟨a,z,ha⟩:=uf.mp r;obtain⟨vs,g1,g2⟩:=S.lst ha q0;refine Zr.mpr ⟨a,vs,z,.inl ⟨⟨by simp,fun hz=>(S.zt a hz).1 (mem_of_getElem? ha)⟩,.inl g1⟩,yN (fun d d' v=>SK S n d d' v) xs q g2⟩
  · cases e
theorem jf.grown{H':Hp}(S:jf K ρ h H)(g:∀a o,H a=some o->H' a=some o):jf K ρ h H':=by
 have sm:jd ρ ρ H H':=⟨fun _ _ _ n=>n,fun a u e _=>g a u e,fun _ _ e=>e,fun a q u e=>g a _ e⟩;refine⟨S.nd,S.len,fun n a o e1 e2=>?_,fun a ha=>?_⟩
 · have q:=S.ob n a o e1 e2;obtain⟨u,hu⟩:=q.some;exact Ib.same sm ((g a u hu).trans hu.symm) q
 · obtain⟨n,o,e⟩:=S.zt a ha;exact⟨n,o,g a _ e⟩
end
section
variable{X:Cx}
theorem BY{f:Value->Value->Sem Value}{op:DD}(hb:∀a b h d h',op a b h=some (d,h')->∃k,d=.bl k)(ho:OM X f op):OM X f (fun a b h=>(DB h 8 a).bind fun a'=>(DB h 8 b).bind fun b'=>(op a' b' []).map fun r=>(r.1,h)):=by
 with_unfolding_all
  exact Kd.imp ho fun x y H Q zz=>by
   obtain⟨ρ,h,d1,d2,d,h',S,R1,R2,e,k⟩:=zz;obtain⟨a',e1,e⟩:=nA e;obtain⟨b',e2,e⟩:=nA e;cases q:op a' b' []with
   | none=>rw[q]at e;cases e
   | some r=>
    obtain⟨r,hr⟩:=r;rw[q]at e;cases e;refine⟨⟨[],ρ.z⟩,[],a',b',r,hr,S.bare,SK S _ _ _ _ e1 R1,SK S _ _ _ _ e2 R2,q,fun ρ' v H' R' S' E'=>?_⟩;obtain⟨kk,rfl⟩:=hb _ _ _ _ _ q;have g:∀a o,H a=some o->H' a=some o:=fun a o ha=>E'.keep a o ha (by simp)
    exact k ρ v H' (Yr.mpr (Yr.mp R')) (S.grown g) ⟨⟨[],by simp,by simp⟩,rfl,fun a o ha _=>g a o ha,E'.live,fun a q u e=>g a _ e⟩
theorem dz(a b:Dt)(h:HI)(d:Dt)(h':HI)(e:XC a b h=some (d,h')):∃k,d=.bl k:=by
 unfold XC at e;split at e
 · obtain⟨_,e⟩:=nE e;cases e;exact⟨_,rfl⟩
 · obtain⟨_,e⟩:=nE e;cases e;exact⟨_,rfl⟩
 · unfold CZ at e;split at e
   · obtain⟨_,e⟩:=nE e;cases e;exact⟨_,rfl⟩
   · cases e
theorem Qk(a b:Dt)(h:HI)(d:Dt)(h':HI)(e:oE a b h=some (d,h')):∃k,d=.bl k:=by
 unfold oE at e;split at e
 · obtain⟨_,e⟩:=nE e;cases e;exact⟨_,rfl⟩
 · obtain⟨_,e⟩:=nE e;cases e;exact⟨_,rfl⟩
 · unfold DZ at e;split at e
   · obtain⟨_,e⟩:=nE e;cases e;exact⟨_,rfl⟩
   · cases e
theorem Vk(hu:X.A.units+64<cLine):OM X (compareOp .Eq) SJ:=BY dz (ZE hu)
theorem AY(hu:X.A.units+64<cLine):OM X (compareOp .NotEq) SH:=BY Qk (uH hu)
end
section
variable{X:Cx}{e o i a b:Expr}{f g fe fo fi fa fb:RE}{p pos pos' apos cpos:Pos}
theorem qN (ho:EM X a fa) (hb:EM X b fb) (hbase:attributeBase a "extend" X.env (eval a X.env)=eval a X.env:=by rfl)
 (hline:(apos.endLine==cpos.line)=true:=by rfl) (hs:uB b=true:=by rfl) :
 EM X (.Call (.Attribute a "extend" apos) [b] [] cpos) (fI fa fb):=by
 with_unfolding_all
  exact PE.imp (vT PySem.F.plainAttrs_list PySem.F.slot_list_extend PySem.F.type_list_extend N8 ho (mD hb vE (lB hs _ _)) hbase (cS hs) hline (lB hs _ _)) fun σ H Q zz=>by
   obtain⟨ρ,l,h,d,h',S,L,e,k⟩:=zz;obtain⟨⟨d1,h1⟩,e1,e⟩:=nA e;refine⟨ρ,l,h,d1,h1,S,L,e1,fun ρ1 v H1 R1 S1 E1=>?_⟩;cases d1 with
   | ref n=>
    dsimp only at e;split at e
    · rename_i xs0 q0;obtain⟨⟨d2,h2⟩,e2,e⟩:=nA e;refine⟨iT S1 R1 q0,ρ1,l,h1,d2,h2,S1,L.ext E1,e2,fun ρ2 y H2 R2 S2 E2=>?_⟩;dsimp only at e;cases d2 with
      | ref m=>
       dsimp only at e;split at e
       · rename_i xs ys q1 q2;obtain⟨hz,e⟩:=nE e;cases e;obtain⟨a,z,ha⟩:=uf.mp R1;subst z;obtain⟨a2,z2,ha2'⟩:=uf.mp R2;subst z2;have ha2:=E2.get ha;obtain⟨vs,g1,g2⟩:=S2.lst ha2 q1;obtain⟨ws,g3,g4⟩:=S2.lst ha2' q2;have hm:=mem_of_getElem? ha2;refine⟨a,a2,vs,ws,rfl,rfl,g1,g3,by rw[g2.length,g4.length];exact hz,k ρ2 _ _ (vf.mpr rfl) (S2.write ha2 (fH g1) ⟨_,SC,?_⟩) (E1.trans (E2.trans (Ext.write hm (fH g1))))⟩;exact(g2.append g4).ext (Ext.write hm (fH g1))
       · cases e
      | _=>cases e
    · cases e
   | _=>cases e
theorem j9 (ho:EM X a fa) (hb:EM X b fb) (hbase:attributeBase a "pop" X.env (eval a X.env)=eval a X.env:=by rfl)
 (hline:(apos.endLine==cpos.line)=true:=by rfl) (hs:uB b=true:=by rfl) :
 EM X (.Call (.Attribute a "pop" apos) [b] [] cpos) (iO fa fb):=by
 with_unfolding_all
  exact PE.imp (vT PySem.F.plainAttrs_list PySem.F.slot_list_pop PySem.F.type_list_pop E9 ho (mD hb vE (lB hs _ _)) hbase (cS hs) hline (lB hs _ _)) fun σ H Q zz=>by
   obtain⟨ρ,l,h,d,h',S,L,e,k⟩:=zz;obtain⟨⟨d1,h1⟩,e1,e⟩:=nA e;refine⟨ρ,l,h,d1,h1,S,L,e1,fun ρ1 v H1 R1 S1 E1=>?_⟩;cases d1 with
   | ref n=>
    dsimp only at e;split at e
    · rename_i xs0 q0;obtain⟨⟨d2,h2⟩,e2,e⟩:=nA e;refine⟨iT S1 R1 q0,ρ1,l,h1,d2,h2,S1,L.ext E1,e2,fun ρ2 y H2 R2 S2 E2=>?_⟩;dsimp only at e;split at e
      · rename_i z0;split at e
        · rename_i x xs q1;cases e;obtain⟨a,z,ha⟩:=uf.mp R1;subst z;have ha2:=E2.get ha;obtain⟨vs,g1,g2⟩:=S2.lst ha2 q1;have hm:=mem_of_getElem? ha2;obtain⟨v0,vr,rfl,r0,rr⟩:=g2.zf;have hlt:=S2.len;refine⟨a,v0::vr,0,0,v0,rfl,by rw[Vr.mp R2],g1,by decide,by decide,?_,rfl,k ρ2 _ _ (Wr.ext (Ext.write hm (fH g1)) _ r0) (S2.write ha2 (fH g1) ⟨_,SC,?_⟩) (E1.trans (E2.trans (Ext.write hm (fH g1))))⟩
          · rw[seqIndex_of (by decide) (by simp only[zd3];omega)];rfl
          · exact rr.ext (Ext.write hm (fH g1))
        · cases e
      · cases e
    · cases e
   | _=>cases e
theorem Vz(ha:EM X a fa):EM X (.UnaryOp .Invert a pos) (ZL fa):=by
 with_unfolding_all
  exact PE.imp (iZ Jg ha) fun σ H Q zz=>by
   obtain⟨ρ,l,h,d,h',S,L,e,k⟩:=zz;obtain⟨⟨d1,h1⟩,e1,e⟩:=nA e;refine⟨ρ,l,h,d1,h1,S,L,e1,fun ρ1 x H1 R1 S1 E1=>?_⟩;cases d1 with
   | int i=>cases e;exact⟨i,Vr.mp R1,k ρ1 _ H1 (Vr.mpr rfl) S1 E1⟩
   | _=>cases e
theorem EW{c:Expr}{body:List Stmt}{t:RT}{u:RS}{n:Nat}(hp:PassesOwn (model X.prog X.w) X.A X.env X.xe)(hc:TM X c t)(hb:MH X body u):ZM X (.While c body [] pos) (oO n t u):=by
 with_unfolding_all
  exact PS.imp (qj hp hc hb) fun D σ H zz=>by
   obtain⟨ρ,l,h,r,S,L,e,k⟩:=zz;refine⟨fun m σ' H'=>∃ρ' l' h',jf X.K ρ' h' H'/\Wf X.K H' ρ' l' σ'/\Ext ρ ρ' H H'/\rF t u m l' h'=some r,⟨n,ρ,l,h,S,L,Ext.refl _ _,e⟩,?_⟩;rintro m σ' H' ⟨ρ',l',h',S',L',E',e'⟩;cases m with
   | zero=>simp only[rF]at e';cases e'
   | succ m=>
    simp only[rF]at e';obtain⟨⟨b,h1⟩,e1,e'⟩:=nA e';refine⟨ρ',l',h',b,h1,S',L',e1,fun ρ2 H2 S2 E2=>?_⟩;cases b with
    | true=>
     rw[if_pos rfl]at e';obtain⟨r1,e2,e'⟩:=nA e';refine cH ⟨fun σ3 H3=>∃m',m'<m+1/\∃ρ' l' h',jf X.K ρ' h' H3/\Wf X.K H3 ρ' l' σ3/\Ext ρ ρ' H H3/\rF t u m' l' h'=some r,fun σ3 H3 q=>q,ρ2,l',h1,r1,S2,L'.ext E2,e2,?_⟩;cases r1 with
     | nx l2 h2=>exact fun ρ5 σ5 H5 S5 L5 E5=>⟨m,Nat.lt_succ_self _,ρ5,l2,h2,S5,L5,E'.trans (E2.trans E5),e'⟩
     | ct l2 h2=>exact fun ρ5 σ5 H5 S5 L5 E5=>⟨m,Nat.lt_succ_self _,ρ5,l2,h2,S5,L5,E'.trans (E2.trans E5),e'⟩
     | bk l2 h2=>cases e';exact fun ρ5 σ5 H5 S5 L5 E5=>k ρ5 σ5 H5 S5 L5 (E'.trans (E2.trans E5))
     | rt d2 h2=>cases e';exact fun ρ5 v5 H5 R5 S5 E5=>k ρ5 v5 H5 R5 S5 (E'.trans (E2.trans E5))
    | false=>rw[if_neg zef]at e';cases e';exact bH (k ρ2 σ' H2 S2 (L'.ext E2) (E'.trans E2))
theorem uX (hc:X.calm=true) (hg:Gl X "max") (hm:X.mg "max" =none) (ha:EM X a fa) (hb:EM X b fb) (hs:uB a=true:=by rfl) (hs2:uB b=true:=by rfl):EM X (.Call (.Name "max" p) [a,b] [] pos) (yL uL fa fb):=by
 with_unfolding_all
  exact PE.imp (IN (P6 hc) hg hm PyProof.Rows.boot_max (mD ha (mD hb vE (lB hs2 _ _)) (lB hs _ _)) (he:=lB hs _ _) (hpl:=cJ (by rw[all_cons,hs2];rfl))) fun σ H Q zz=>by
   obtain⟨ρ,l,h,d,h',S,L,e,k⟩:=zz;obtain⟨⟨d1,h1⟩,e1,e⟩:=nA e;obtain⟨⟨d2,h2⟩,e2,e⟩:=nA e;refine⟨ρ,l,h,d1,h1,S,L,e1,fun ρ1 v H1 R1 S1 E1=>⟨ρ1,l,h1,d2,h2,S1,L.ext E1,e2,fun ρ2 u H2 R2 S2 E2=>?_⟩⟩;cases d1 with
   | int i=>
    cases d2 with
    | int j=>cases e;exact⟨i,j,by rw[Vr.mp R1,Vr.mp R2],k ρ2 _ H2 (Vr.mpr rfl) S2 (E1.trans E2)⟩
    | _=>cases e
   | _=>cases e
theorem tS (hc:X.calm=true) (hg:Gl X "min") (hm:X.mg "min" =none) (ha:EM X a fa) (hb:EM X b fb) (hs:uB a=true:=by rfl) (hs2:uB b=true:=by rfl):EM X (.Call (.Name "min" p) [a,b] [] pos) (yL zH fa fb):=by
 with_unfolding_all
  exact PE.imp (IN (T6 hc) hg hm PyProof.Rows.boot_min (mD ha (mD hb vE (lB hs2 _ _)) (lB hs _ _)) (he:=lB hs _ _) (hpl:=cJ (by rw[all_cons,hs2];rfl))) fun σ H Q zz=>by
   obtain⟨ρ,l,h,d,h',S,L,e,k⟩:=zz;obtain⟨⟨d1,h1⟩,e1,e⟩:=nA e;obtain⟨⟨d2,h2⟩,e2,e⟩:=nA e;refine⟨ρ,l,h,d1,h1,S,L,e1,fun ρ1 v H1 R1 S1 E1=>⟨ρ1,l,h1,d2,h2,S1,L.ext E1,e2,fun ρ2 u H2 R2 S2 E2=>?_⟩⟩;cases d1 with
   | int i=>
    cases d2 with
    | int j=>cases e;exact⟨i,j,by rw[Vr.mp R1,Vr.mp R2],k ρ2 _ H2 (Vr.mpr rfl) S2 (E1.trans E2)⟩
    | _=>cases e
   | _=>cases e
end
end SM
namespace L2
section
variable{X:Cx}
end
end L2
namespace SM
section
variable{X:Cx}{e o i a b:Expr}{f g fe fo fi fa fb:RE}{p pos pos' apos cpos:Pos}
end
end SM
namespace L2
section
variable{κ:Type}[DecidableEq κ]
noncomputable def VE(kvs:List (κ×V))(k:κ):Option V:=(kvs.find? fun kv=>decide (kv.1=k)).map (·.2)
noncomputable def mF(kvs:List (κ×V))(k:κ)(v:V):List (κ×V):=
 if(kvs.any fun kv=>decide (kv.1=k))=true then kvs.map (fun kv=>if kv.1=k then(kv.1,v)else kv)else kvs++[(k,v)]
noncomputable def cZ(kvs:List (κ×V))(k:κ):List (κ×V):=kvs.filter fun kv=>decide (kv.1≠k)
theorem QN{p:κ×V}{r:List (κ×V)}{k:κ}(e:p.1=k):VE (p::r) k=some p.2:=by simp[VE,find?_cons,e]
theorem PN{p:κ×V}{r:List (κ×V)}{k:κ}(e:¬p.1=k):VE (p::r) k=VE r k:=by simp[VE,find?_cons,e]
theorem UW(k:κ):∀kvs:List (κ×V),(kvs.any fun kv=>decide (kv.1=k))=(VE kvs k).isSome
 | []=>rfl
 | p::r=>by
  rw[any_cons];by_cases e:p.1=k
  · simp only[QN e,decide_eq_true e,Bool.true_or,Option.isSome_some]
  · rw[PN e,decide_eq_false e,Bool.false_or];exact UW k r
theorem YU(kvs:List (κ×V))(k:κ)(v:V):(mF kvs k v).length<=kvs.length+1:=by
 unfold mF;split
 · rw[length_map];omega
 · rw[length_append,zd3,zd4];omega
theorem Jc.Vm{o:Option V}{u:Option Value}(r:Jc o u):o.isSome=u.isSome:=by
 cases o with
 | none=>cases u with
  | none=>rfl
  | some _=>exact(show False from r).elim
 | some _=>cases u with
  | none=>exact(show False from r).elim
  | some _=>rfl
theorem Jc.getD{o:Option V}{u:Option Value}{d:V}{d':Value}(r:Jc o u)(rd:RelV d d'):RelV (o.getD d) (u.getD d'):=by
 cases o with
 | none=>cases u with
  | none=>exact rd
  | some _=>exact(show False from r).elim
 | some _=>cases u with
  | none=>exact(show False from r).elim
  | some _=>exact r
theorem KV.val{kvs:List (κ×V)}{vs:List (κ×Value)}(r:KV kvs vs)(k:κ):Jc (VE kvs k) (valueAt vs k):=by
 unfold KV at r
 induction r with
 | nil=>exact True.intro
 | @cons p q ps qs h t ih=>
  obtain⟨h1,h2⟩:=h;by_cases e:p.1=k
  · have e':q.1=k:=h1.symm.trans e;have b:valueAt (q::qs) k=some q.2:=by simp[valueAt,find?_cons,e']
    rw[QN e,b];exact h2
  · have e':¬q.1=k:=fun z=>e (h1.trans z)
    have b:valueAt (q::qs) k=valueAt qs k:=by simp[valueAt,find?_cons,e']
    rw[PN e,b];exact ih
theorem KV.any{kvs:List (κ×V)}{vs:List (κ×Value)}(r:KV kvs vs)(k:κ):(kvs.any fun kv=>decide (kv.1=k))=vs.any fun kv=>decide (kv.1=k):=by
 unfold KV at r
 induction r with
 | nil=>rfl
 | cons h t ih=>rw[any_cons,any_cons,ih,h.1]
theorem KV.repl{kvs:List (κ×V)}{vs:List (κ×Value)}(r:KV kvs vs)(k:κ){y:V}{u:Value}(ry:RelV y u) :
 KV (kvs.map fun kv=>if kv.1=k then(kv.1,y)else kv) (vs.map fun kv=>if kv.1=k then(kv.1,u)else kv):=by
 unfold KV at r ⊢
 induction r with
 | nil=>exact .nil
 | @cons p q ps qs h t ih=>
  rw[zd5,zd5];refine .cons ?_ ih;obtain⟨h1,h2⟩:=h;by_cases e:p.1=k
  · rw[if_pos e,if_pos (h1.symm.trans e)];exact⟨h1,ry⟩
  · rw[if_neg e,if_neg (fun z=>e (h1.trans z))];exact⟨h1,h2⟩
theorem KV.put{kvs:List (κ×V)}{vs:List (κ×Value)}(r:KV kvs vs)(k:κ){y:V}{u:Value}(ry:RelV y u):KV (mF kvs k y) (stored vs k u):=by
 unfold mF stored;rw[r.any k];by_cases e:(vs.any fun kv=>decide (kv.1=k))=true
 · rw[if_pos e,if_pos e];exact r.repl k ry
 · rw[if_neg e,if_neg e];exact Paired.snoc r ⟨rfl,ry⟩
theorem KV.drop{kvs:List (κ×V)}{vs:List (κ×Value)}(r:KV kvs vs)(k:κ):KV (cZ kvs k) (without vs k):=by
 unfold KV at r ⊢;unfold cZ without
 induction r with
 | nil=>exact .nil
 | @cons p q ps qs h t ih=>
  obtain⟨h1,h2⟩:=h;rw[filter_cons,filter_cons];by_cases e:p.1=k
  · have a:¬decide (p.1≠k)=true:=by simp[e]
    have b:¬decide (q.1≠k)=true:=by simp[h1.symm.trans e]
    rw[if_neg a,if_neg b];exact ih
  · have e':¬q.1=k:=fun z=>e (h1.trans z)
    have a:decide (p.1≠k)=true:=by simp[e]
    have b:decide (q.1≠k)=true:=by simp[e']
    rw[if_pos a,if_pos b];exact .cons ⟨h1,h2⟩ ih
theorem KV.keys{kvs:List (κ×V)}{vs:List (κ×Value)}(r:KV kvs vs):kvs.map (·.1)=vs.map (·.1):=by
 unfold KV at r
 induction r with
 | nil=>rfl
 | cons h t ih=>rw[zd5,zd5,ih,h.1]
theorem KV.length{kvs:List (κ×V)}{vs:List (κ×Value)}(r:KV kvs vs):kvs.length=vs.length:=Paired.length r
end
theorem pT{P:Program}{w:World}{k:cC}{u:Value}(r:RelV (kV k) u):(jE P w).is k u=true:=by
 cases k with
 | inl i=>obtain⟨t,e⟩:=(show ∃t,u=Value.int i t from r);subst e;exact w5 P w i t
 | inr x=>obtain⟨t,e⟩:=(show ∃t,u=Value.str x t from r);subst e;exact A5 P w x t
theorem jW{P:Program}{w:World}:∀{ks:List cC}{us:List Value},Vals (ks.map kV) us->ItemsAre (jE P w) ks us
 | [],_,r=>by rw[zd6]at r;cases r;exact .nil
 | k::ks,_,r=>by
  rw[zd5]at r;cases r with
  | cons h t=>exact .cons (pT h) (jW t)
abbrev KT(H:Hp):List (List cC×V)->List (List cC×Addr×Value)->Prop:=Paired fun p q=>p.1=q.1/\H q.2.1=some (.tup (p.1.map kV))/\RelV p.2 q.2.2
theorem KT.val{H:Hp}{kvs:List (List cC×V)}{xs:List (List cC×Addr×Value)}(r:KT H kvs xs)(k:List cC):Jc (VE kvs k) ((atKey xs k).map (·.2)):=by
 induction r with
 | nil=>exact True.intro
 | @cons p q ps qs h t ih=>
  obtain⟨h1,_,h2⟩:=h;by_cases e:p.1=k
  · have e':q.1=k:=h1.symm.trans e;have b:atKey (q::qs) k=some q.2:=by simp[atKey,find?_cons,e']
    rw[QN e,b];exact h2
  · have e':¬q.1=k:=fun z=>e (h1.trans z)
    have b:atKey (q::qs) k=atKey qs k:=by simp[atKey,find?_cons,e']
    rw[PN e,b];exact ih
theorem KT.repl{H:Hp}{kvs:List (List cC×V)}{xs:List (List cC×Addr×Value)}(r:KT H kvs xs)(k:List cC){y:V}{u:Value}(ry:RelV y u) :
 KT H (kvs.map fun kv=>if kv.1=k then(kv.1,y)else kv) (xs.map (putAt k u)):=by
 induction r with
 | nil=>exact .nil
 | @cons p q ps qs h t ih=>
  rw[zd5,zd5];refine .cons ?_ ih;obtain⟨h1,h2,h3⟩:=h;unfold putAt;by_cases e:p.1=k
  · rw[if_pos e,if_pos (h1.symm.trans e)];exact⟨h1,h2,ry⟩
  · rw[if_neg e,if_neg (fun z=>e (h1.trans z))];exact⟨h1,h2,h3⟩
theorem KT.put{H:Hp}{kvs:List (List cC×V)}{xs:List (List cC×Addr×Value)}(r:KT H kvs xs)(k:List cC){b:Addr}{y:V}{u:Value}(hb:H b=some (.tup (k.map kV)))(ry:RelV y u) :
 KT H (mF kvs k y) (storedH xs k b u):=by
 have e:(kvs.any fun kv=>decide (kv.1=k))=(atKey xs k).isSome:=by rw[UW,(r.val k).Vm,Option.isSome_map]
 unfold mF storedH;rw[e];by_cases q:(atKey xs k).isSome=true
 · rw[if_pos q,if_pos q];exact r.repl k ry
 · rw[if_neg q,if_neg q];exact Paired.snoc r ⟨rfl,hb,ry⟩
theorem KT.keeps{H H':Hp}{kvs:List (List cC×V)}{xs:List (List cC×Addr×Value)}(r:KT H kvs xs)(ht:∀b ys,H b=some (.tup ys)->H' b=some (.tup ys)):KT H' kvs xs:=
 Paired.zav r fun _ _ z=>⟨z.1,ht _ _ z.2.1,z.2.2⟩
section
variable{P:Program}{w:World}{H:Hp}{h:Heap}{a:Addr}
theorem oZ{u:HO}(ok:Yc P w H h)(e:Rd H a u):Kf P w H h a u:=e.ok ok
theorem DT{kvs:List (cC×V)}(ok:Yc P w H h)(e:Rd H a (.dK kvs)):kvs.length<=sizeLine/\(a==sysModules)=false/\∃vs,KV kvs vs/\h.DictOf (jE P w) a vs:=
 show Kf P w H h a (.dK kvs)from oZ ok e
theorem Sg{kvs:List (cC×V)}(ok:Yc P w H h)(e:H a=some (.dK kvs)):kvs.length<=sizeLine/\(a==sysModules)=false/\∃vs,KV kvs vs/\h.DictOf (jE P w) a vs:=DT ok (.inl e)
theorem US{ks:List cC}(ok:Yc P w H h)(e:H a=some (.tup (ks.map kV))):(tupleKind (jE P w)).is h ks a:=by obtain⟨_,its,r,o,h1,h2,n,h3⟩:=(show Kf P w H h a (.tup (ks.map kV))from ok a _ e);exact⟨o,its.toArray,n,h1,h2,h3,by simpa using jW r⟩
theorem ET{kvs:List (List cC×V)}(ok:Yc P w H h)(e:Rd H a (.dT kvs)):kvs.length<=sizeLine/\(a==sysModules)=false/\
 ∃xs,KT H kvs xs/\h.DictOfH (tupleKind (jE P w)) a xs:=by
 obtain⟨z,y,xs,r,o,es,ep,h1,h2,h3,h4,h5⟩:=(show Kf P w H h a (.dT kvs)from oZ ok e);refine⟨z,y,xs,r,o,es,ep,h1,h2,h3,h4,fun x hx=>?_,h5⟩;have all:∀{l:List (List cC×V)}{m:List (List cC×Addr×Value)},KT H l m->∀x∈m,(tupleKind (jE P w)).is h x.1 x.2.1:=by
  intro l m q
  induction q with
  | nil=>intro x hx;exact nomatch hx
  | @cons p q ps qs hq t ih=>
   intro x hx;rcases mem_cons.mp hx with e | hx
   · subst e;exact US ok (by rw[<- hq.1];exact hq.2.1)
   · exact ih x hx
 exact all r x hx
theorem Tg{kvs:List (List cC×V)}(ok:Yc P w H h)(e:H a=some (.dT kvs)):kvs.length<=sizeLine/\(a==sysModules)=false/\
 ∃xs,KT H kvs xs/\h.DictOfH (tupleKind (jE P w)) a xs:=ET ok (.inl e)
end
def Bl(H:Hp)(a:Addr)(y:V)(r:Option V):Prop:=
 (∃kvs k,Rd H a (.dK kvs)/\y=kV k/\r=VE kvs k)\/∃kvs k b,Rd H a (.dT kvs)/\y=.ref b/\H b=some (.tup (k.map kV))/\r=VE kvs k
def Dl(H:Hp)(a:Addr)(y v:V)(H':Hp):Prop:=
 (∃kvs k,H a=some (.dK kvs)/\y=kV k/\kvs.length<sizeLine/\H'=xB H a (.dK (mF kvs k v)))\/
 ∃kvs k b,H a=some (.dT kvs)/\y=.ref b/\H b=some (.tup (k.map kV))/\kvs.length<sizeLine/\H'=xB H a (.dT (mF kvs k v))
theorem Bl.t{H:Hp}{a b:Addr}{kvs:List (List cC×V)}{k:List cC}(e:H a=some (.dT kvs))(eb:H b=some (.tup (k.map kV))):Bl H a (.ref b) (VE kvs k):=.inr ⟨kvs,k,b,.inl e,rfl,eb,rfl⟩
theorem Dl.t{H:Hp}{a b:Addr}{kvs:List (List cC×V)}{k:List cC}{v:V}(e:H a=some (.dT kvs))(eb:H b=some (.tup (k.map kV)))(hl:kvs.length<sizeLine) :
 Dl H a (.ref b) v (xB H a (.dT (mF kvs k v))):=.inr ⟨kvs,k,b,e,rfl,eb,hl,rfl⟩
section
variable{X:Cx}{pins:List (Addr×Obj)}{σ:St}{H:Hp}{s:Shared}{a:Addr}{y v:V}{u r:Value}{o:Option V}{A:Around}{E:Value->Shared->Prop}
theorem Inv.big(I:Inv X pins σ H s):sysModules<s.heap.objs.size:=by have h:mainGlobals<s.heap.objs.size:=(I.mod.glob.keeps I.bk).lt;exact Nat.lt_trans (by decide) h
theorem rS{h':Heap}{t':Nat}{ob:HO}(I:Inv X pins σ H s)(mu:hU (H a))(hs:Heap.SameBut a s.heap h')(he:∃q,h'.get? a=some q)(new:Kf X.prog X.w (xB H a ob) h' a ob) :
 Inv X pins σ (xB H a ob) { s with heap:=h',toks:=t' }:=
 I.write (x:=a) (e:=a) mu (.inl rfl) (fun b q hb z=>(hs.2 b hb).trans z) he new
theorem Pz{P:Program}{w:World}{H':Hp}{h':Heap}{kvs:List (cC×V)}{vs:List (cC×Value)}(z:kvs.length<=sizeLine)(hd:(a==sysModules)=false)(rel:KV kvs vs)(dd:h'.DictOf (jE P w) a vs) :
 Kf P w H' h' a (.dK kvs):=⟨z,hd,vs,rel,dd⟩
theorem d7{H':Hp}{Q:Unit->Shared->Prop}(hu:A.units+1<cLine)(I:Inv X pins σ H s)(g:Dl H a y v H')(ry:RelV y u)(rv:RelV v r)(h:∀s',Inv X pins σ H' s'->Q () s') :
 wpAny (model X.prog X.w) A (setItem (.ref a) u r) Q E s:=by
 rcases g with⟨kvs,k,e,ey,l,eH⟩ | ⟨kvs,k,b,e,ey,eb,l,eH⟩
 · subst ey eH;obtain⟨z,hd,vs,rel,dd⟩:=Sg I.hok e;have hz:vs.length<=sizeLine:=by rw[<- rel.length];exact z
   have hl:(mF kvs k v).length<=sizeLine:=by have:=YU kvs k v;omega
   refine wpAny_setItem_pairs (hsz:=hz) (pT ry) dd fun h' dd' hs=>h _ ?_
   have he:∃q,h'.get? a=some q:=let ⟨q,_,_,hq,_⟩:=dd';⟨q,hq⟩
   exact rS I (by rw[e];exact True.intro) hs he (Pz hl hd (rel.put k rv) dd')
 · subst ey eH;cases (show u=Value.ref b from ry);obtain⟨z,hd,xs,rel,dd⟩:=Tg I.hok e;have hz:xs.length<=sizeLine:=by rw[<- Paired.length rel];exact z
   have hl:(mF kvs k v).length<=sizeLine:=by have:=YU kvs k v;omega
   refine wpAny_setItem_heap (hsz:=hz) (tupleKind_room_in1 hu) (US I.hok eb) dd fun h' dd' hs=>h _ ?_
   obtain⟨q,es,ep,hq,h2,h3,h4,_,h5⟩:=dd';refine rS I (by rw[e];exact True.intro) hs ⟨q,hq⟩ ⟨hl,hd,_,(rel.put k eb rv).keeps fun c ys ec=>?_,q,es,ep,hq,h2,h3,h4,h5⟩;rw[QA (sT ec e (fun z=>nomatch z))];exact ec
end
section
variable{X:Cx}{pins:List (Addr×Obj)}{σ:St}{H:Hp}{s:Shared}{a:Addr}{kvs:List (cC×V)}{k:cC}{u:Value}{A:Around}{E:Value->Shared->Prop}
end
def Fy(td ty tv:TE):TS:=fun D σ H=>tv σ H fun v H1=>td σ H1 fun x H2=>ty σ H2 fun y H3=>∃a H4,x=.ref a/\Dl H3 a y v H4/\D.nx σ H4
section
variable{X:Cx}{o i e value:Expr}{pos pos' tpos:Pos}{td ty tv:TE}
theorem Gv(hu:X.A.units+1<cLine)(ho:PE X o td)(hi:PE X i ty)(hv:PE X value tv)(hs:swapsWith value (some (.Subscript o i pos')) pos.line X.env=pure false) :
 PS X (.Assign [.Subscript o i pos'] value pos) (Fy td ty tv):=by
 intro pins s σ H D I h;refine wpAny_Assign_Subscript (nB (hv pins s σ H _ I h) fun r s1 ⟨v,H1,I1,rv,q1⟩=>nB (ho pins s1 σ H1 _ I1 q1) fun u s2 ⟨x,H2,I2,rx,q2⟩=>nB (hi pins s2 σ H2 _ I2 q2) fun iv s3 zz=>?_) hs;obtain⟨y,H3,I3,ry,a,H4,ex,g,q3⟩:=zz;subst ex;obtain rfl:u=Value.ref a:=rx;exact d7 hu I3 g ry rv fun s4 I4=>⟨σ,H4,I4,q3⟩
end
theorem X9 {P:Program} {w:World} {H:Hp} (h:Heap) (hb:sysModules<h.objs.size):Kf P w H (h.push { cls:=.type "dict",data:=.dict #[] }) h.objs.size (.dT []):=
 ⟨Nat.zero_le _,beq_eq_false_iff_ne.mpr (Ne.symm (Nat.ne_of_lt hb)),[],.nil,_,#[],0,Heap.get?_push_size _ rfl,⟨rfl,rfl,rfl⟩,rfl,rfl,nodup_nil⟩
def Fg:TE:=fun _ H Q=>∀p,H p=none->Q (.ref p) (xB H p (.dT []))
section
variable{X:Cx}{pos:Pos}
theorem W8:PE X (.Dict [] [] pos) Fg:=fun pins s σ H Q I h=>wpAny_Dict_empty ⟨.ref s.heap.objs.size,_,I.laid (a:=s.heap.objs.size) (o:=.dT []) (t':=s.toks) (fun _ _ q=>Heap.get?_push_of_some _ q) (zeg _) (X9 s.heap I.big),rfl,h _ (I.hok.fresh (zeg _))⟩
end
structure M1(X:Cx)(o:Expr)(m:Str)(apos:Pos)(e:Expr)(cpos:Pos):Prop where
 base:attributeBase o m X.env (eval o X.env)=eval o X.env
 few:((backTo cpos (starEach [e] X.env)).all (fun x=>!x.1)&&(backToKw cpos (keywordEach [] X.env)).all (fun x=>x.1.isSome)
  && decide (([e]:List Expr).length+([]:List Keyword).length+(if([]:List Keyword).isEmpty then 0 else 1)<30))=true
 line:(apos.endLine==cpos.line)=true
 trees:backTo cpos (starEach [e] X.env)=[(false,eval e X.env)]
structure M2(X:Cx)(o:Expr)(m:Str)(apos:Pos)(e f:Expr)(cpos:Pos):Prop where
 base:attributeBase o m X.env (eval o X.env)=eval o X.env
 few:((backTo cpos (starEach [e,f] X.env)).all (fun x=>!x.1)&&(backToKw cpos (keywordEach [] X.env)).all (fun x=>x.1.isSome)
  && decide (([e,f]:List Expr).length+([]:List Keyword).length+(if([]:List Keyword).isEmpty then 0 else 1)<30))=true
 line:(apos.endLine==cpos.line)=true
 trees:backTo cpos (starEach [e,f] X.env)=[(false,eval e X.env),(false,eval f X.env)]
def GZ(H:Hp)(a:Addr):Prop:=(∃kvs,Rd H a (.dK kvs))\/∃kvs,Rd H a (.dT kvs)
theorem LY{X:Cx}{pins:List (Addr×Obj)}{σ:St}{H:Hp}{s:Shared}{a:Addr}(I:Inv X pins σ H s)(d:GZ H a) :
 s.TypeIs (.ref a) "dict" /\ (∀b,Value.ref a=.ref b->∃ob,s.heap.get? b=some ob/\ob.dict=none)/\(a==sysModules)=false:=by
 rcases d with⟨kvs,e⟩ | ⟨kvs,e⟩
 · obtain⟨_,hd,vs,_,dd⟩:=DT I.hok e;refine⟨dd.typeIs,fun b q=>?_,hd⟩;cases q;obtain⟨ob,_,_,h1,h2,_⟩:=dd;exact⟨ob,h1,h2.2.1⟩
 · obtain⟨_,hd,xs,_,dd⟩:=ET I.hok e;refine⟨dd.typeIs,fun b q=>?_,hd⟩;cases q;obtain⟨ob,_,_,h1,h2,_⟩:=dd;exact⟨ob,h1,h2.2.1⟩
section
variable{X:Cx}{pins:List (Addr×Obj)}{σ:St}{H:Hp}{s:Shared}{a:Addr}{y d:V}{u r:Value}{o:Option V}{A:Around}{E:Value->Shared->Prop}
theorem Oz{Q:Value->Shared->Prop}(hu:A.units+1<cLine)(I:Inv X pins σ H s)(g:Bl H a y o)(ry:RelV y u)(rd:RelV d r)(h:∀w' s',Inv X pins σ H s'->RelV (o.getD d) w'->Q w' s') :
 wpAny (model X.prog X.w) A (call (.builtin "dict.get") [.ref a,u,r]) Q E s:=by
 rcases g with⟨kvs,k,e,ey,l⟩ | ⟨kvs,k,b,e,ey,eb,l⟩
 · subst ey;obtain⟨z,hd,vs,rel,dd⟩:=DT I.hok e;refine call_meetsIn PySem.F.slot_dict_get dd.typeIs PySem.F.entry_dict_get (PySem.F.args_dict_get_3 _ _ _) (meets_dict_get_default (jE X.prog X.w) a (pT ry) hd r) ⟨_,dd.mapOf,h _ _ (I.tok _) ?_⟩;rw[l];exact(rel.val k).getD rd
 · subst ey;cases (show u=Value.ref b from ry);obtain⟨z,hd,xs,rel,dd⟩:=ET I.hok e;refine call_meetsIn PySem.F.slot_dict_get dd.typeIs PySem.F.entry_dict_get (PySem.F.args_dict_get_3 _ _ _) (meetsH_dict_get_default (tupleKind (jE X.prog X.w)) a b hd r) ⟨tupleKind_room_in1 hu,k,xs,US I.hok eb,dd,h _ _ (I.tok _) ?_⟩;rw[l];exact(rel.val k).getD rd
end
def Dg(td ty tx:TE):TE:=fun σ H Q=>td σ H fun x H1=>∃a,x=.ref a/\GZ H1 a/\ty σ H1 fun y H2=>tx σ H2 fun z H3=>∃o,Bl H3 a y o/\Q (o.getD z) H3
section
variable{X:Cx}{o e f:Expr}{apos cpos:Pos}{td ty tx:TE}
theorem V8 (hu:X.A.units+1<cLine) (ho:PE X o td) (he:PE X e ty) (hf:PE X f tx) (m:M2 X o "get" apos e f cpos):PE X (.Call (.Attribute o "get" apos) [e,f] [] cpos) (Dg td ty tx):=by
 intro pins s σ H Q I h;refine wpAny_Call_method m.base m.few m.line PySem.F.plainAttrs_dict PySem.F.slot_dict_get PySem.F.type_dict_get (nB (ho pins s σ H _ I h) fun u s1 zz=>?_);obtain⟨x,H1,I1,rx,a,ex,d,q1⟩:=zz;subst ex;obtain rfl:u=Value.ref a:=rx;obtain⟨t1,t2,_⟩:=LY I1 d;refine⟨t1,t2,?_⟩;rw[m.trees];refine Calls.callWith_builtin rfl (Calls.evalArgs_plain (Calls.spliced_cons (nB (he pins s1 σ H1 _ I1 q1) fun iv s2 ⟨y,H2,I2,ry,q2⟩=>
  Calls.spliced_cons (nB (hf pins s2 σ H2 _ I2 q2) fun fv s3 ⟨z,H3,I3,rz,ov,g,q3⟩=>Calls.spliced_nil ?_))))
 exact Oz hu I3 g ry rz fun w' s4 I4 rw'=>⟨_,H3,I4,rw',q3⟩
end
section
variable{X:Cx}{pins:List (Addr×Obj)}{σ:St}{H:Hp}{s:Shared}{a:Addr}{kvs:List (cC×V)}{A:Around}{E:Value->Shared->Prop}
end
section
variable{X:Cx}{pins:List (Addr×Obj)}{σ:St}{H:Hp}{s:Shared}{a:Addr}{y:V}{u:Value}{A:Around}{E:Value->Shared->Prop}
end
section
variable{prog:Program}{w:World}{A:Around}{E:Value->Shared->Prop}{s:Shared}
theorem DN {it:Addr} {R:String->Shared->Prop} (tt:s.TypeIs (.ref it) "dict_itemiterator") (q:R "dict_itemiterator" s) :
 wpAny (model prog w) A (typeNameOfWhole (.ref it)) R E s:=wpAny_typeNameOfWhole_itemiter tt q
theorem y9{d:Addr}{es:Array DictEntry}{ep:Nat}{od:Obj}{v:Addr}{R:Value->Shared->Prop}(gv:s.heap.IsItemsView v d)(gd:s.heap.get? d=some od)(gt:od.data=.dict es ep)
 (q:R (.ref s.heap.objs.size) { s with heap:=s.heap.push { cls:=.type "dict_itemiterator",data:=.fields #[.none,.bool false,.ref d,.int 0 0,.int es.size 0,.int ep 0,.none,.none] } }) :
 wpAny (model prog w) A (pyIter (.ref v)) R E s:=by
 obtain⟨o1,g1,g2,g3⟩:=id gv;refine wpAny_pyIter_slot gv.typeIs F.slot_dict_items_iter (wpAny_call_entry F.slot_dict_items_iter gv.typeIs F.entry_dict_items_iter ?c1 (F.args_dict_items_iter_1 _));unfold Builtin.«dict_items.__iter__»;refine wpAny_bind (wpAny_pure (wpAny_bind ?c2));unfold Builtin.Dict_items.dictOf;refine wpAny_bind (wpAny_field g1 g3 (x:=.ref d) rfl (wpAny_pure (wpAny_bind ?c3)));unfold Builtin.Dict_items.newIterator;refine wpAny_bind (wpAny_dictEntries gd gt (wpAny_bind (wpAny_dictEpoch gd gt ?c4)));have own1:Builtin.Dict_items.ownsTuple "dict_itemiterator" =true:=by decide
 simp only[own1,if_true];refine wpAny_newObj_type (wpAny_pure ⟨_,rfl, "dict_itemiterator",_,⟨_,Heap.get?_push_size _ rfl,rfl⟩,F.slot_dict_itemiterator_next.lookup,?c5⟩) ?c6
 · simpa[rawInt,Builtin.Dict_items.ownedTupleFields]using q
 · simp only[sizeOk,Builtin.Dict_items.ownedTupleFields,size_toArray,length_append,zd3,zd4,sizeLine_eq];omega
theorem v9{it d:Addr}{i ep:Nat}{es:Array DictEntry}{od:Obj}{k0 v0:Value}{R:Option Value->Shared->Prop}
 (gi:IsItemIter s.heap it d i es.size ep k0 v0) (gd:s.heap.get? d=some od) (gt:od.data=.dict es ep) (lt:i<es.size)
 (fin:∀h',IsItemIterOut h' it d (i+1) es.size ep es[i].key es[i].val s.heap.objs.size->
  h'.get? s.heap.objs.size=some { cls:=.type "tuple",data:=.seq #[es[i].key,es[i].val] }->h'.objs.size=s.heap.objs.size+1->
  (∀b o,b≠it->s.heap.get? b=some o->h'.get? b=some o)->R (some (.ref s.heap.objs.size)) { s with heap:=h' }) :
 wpAny (model prog w) A (pyNext (.ref it)) R E s:=by
 obtain⟨G,gg,dr,tk,os⟩:=s;have tt:Shared.TypeIs ⟨G,gg,dr,tk,os⟩ (.ref it) "dict_itemiterator" :=⟨_,gi,rfl⟩;unfold pyNext;refine wpAny_bind (wpAny_attempt (wpAny_callSpecial?_slot (name:=Str.ofString "__next__") tt F.slot_dict_itemiterator_next (wpAny_call_entry F.slot_dict_itemiterator_next tt F.entry_dict_itemiterator_next ?c1 (F.args_dict_itemiterator_next_1 _))));refine wpAny_bind (wpAny_pure (wpAny_bind (wpAny_bind ?c2)))
 first | refine wpAny_bind (DN tt (wpAny_pure ?c3)) | refine wpAny_bind (wpAny_typeNameOf_itemiter tt (wpAny_pure ?c3))
 refine wpAny_bind (wpAny_fieldsOf gi rfl ?c4);have own1:Builtin.Dict_items.ownsTuple "dict_itemiterator" =true:=by decide
 simp only[own1,if_true];show wpAny _ _ (if(Value.ref d==Value.none)=true then _ else _) _ _ _;rw[if_neg (show ¬((Value.ref d==Value.none)=true)from fun z=>zef z)];refine wpAny_bind (wpAny_pure (wpAny_bind (wpAny_dictEntries gd gt ?c5)));rw[if_neg (by simp)];refine wpAny_bind (wpAny_pure (wpAny_bind (wpAny_dictEpoch gd gt ?c6)));rw[if_neg (by simp)];refine wpAny_pure ?c7;simp only[show ¬((i:Int)<0)from by omega,if_false,Int.toNat_natCast,Array.getElem?_eq_getElem lt];refine wpAny_bind ?c8
 first | refine wpAny_bind (DN tt (wpAny_pure ?c9)) | refine wpAny_bind (wpAny_typeNameOf_itemiter tt (wpAny_pure ?c9))
 refine wpAny_bind (wpAny_isOneOf_itemiter tt ?c10);show wpAny _ _ (setField (.ref it) 3 (rawInt ((i:Int)+1)) >>=_) _ _ ⟨G,gg,dr,tk,os⟩;refine wpAny_bind (wpAny_setField_rec gi (by simp) fun G1 f1 b1=>?c11)
 replace b1:Heap.SameBut it G G1:=b1
 replace f1:IsItemIter G1 it d (i+1) es.size ep k0 v0:=by
  have z:((i+1:Nat):Int)=(i:Int)+1:=by omega
  unfold IsItemIter;rw[z];simpa[rawInt]using f1
 have tt1:Shared.TypeIs ⟨G1,gg,dr,tk,os⟩ (.ref it) "dict_itemiterator" :=⟨_,f1,rfl⟩;refine wpAny_bind (wpAny_holding (wpAny_bind (wpAny_isOneOf_itemiter tt1 (wpAny_bind (wpAny_isOneOf_itemiter tt1 ?c12)))));show wpAny _ _ (Builtin.Dict_items.pairFromOwner (.ref it) 6 es[i].key es[i].val) _ _ ⟨G1,gg,dr,tk,os⟩;unfold Builtin.Dict_items.pairFromOwner;refine wpAny_bind (wpAny_newTuple ?c13);have f2:IsItemIter (G1.push { cls:=.type "tuple",data:=.seq #[es[i].key,es[i].val] }) it d (i+1) es.size ep k0 v0:=Heap.get?_push_of_some _ f1;generalize eG:G1.push { cls:=.type "tuple",data:=.seq #[es[i].key,es[i].val] }=G2 at f2;have z1:G1.objs.size=G.objs.size:=b1.1;have il:it<G.objs.size:=Heap.lt_size gi;have t2:G2.get? G.objs.size=some { cls:=.type "tuple",data:=.seq #[es[i].key,es[i].val] }:=by rw[<- eG,<- z1];exact Heap.get?_push_size _ rfl
 have z2:G2.objs.size=G.objs.size+1:=by rw[<- eG,Heap.size_push,z1]
 have k2:∀b o,b≠it->G.get? b=some o->G2.get? b=some o:=fun b o nb e=>by rw[<- eG];exact Heap.get?_push_of_some _ (b1.extBut b o nb e)
 show wpAny _ _ (Builtin.Dict_items.ownedTupleIsFree (.ref it) >>=_) _ _ ⟨G2,gg,dr,tk,os⟩;rw[z1];clear eG f1 b1 tt1 z1 G1;refine wpAny_bind ?c14;unfold Builtin.Dict_items.ownedTupleIsFree;refine wpAny_bind (wpAny_field f2 rfl (x:=.none) rfl (wpAny_pure ?c15));simp only[if_true];refine wpAny_bind (wpAny_field f2 rfl (x:=k0) rfl (wpAny_bind (wpAny_field f2 rfl (x:=v0) rfl ?c16)));refine wpAny_bind (wpAny_setField_rec f2 (by simp) fun G3 f3 b3=>?c17)
 replace b3:Heap.SameBut it G2 G3:=b3
 replace f3:IsItemIter G3 it d (i+1) es.size ep es[i].key v0:=f3
 refine wpAny_bind (wpAny_setField_rec f3 (by simp) fun G4 f4 b4=>?c18)
 replace b4:Heap.SameBut it G3 G4:=b4
 replace f4:IsItemIter G4 it d (i+1) es.size ep es[i].key es[i].val:=f4
 refine wpAny_bind (wpAny_setField_rec f4 (by simp) fun G5 f5 b5=>?c19)
 replace b5:Heap.SameBut it G4 G5:=b5
 replace f5:IsItemIterOut G5 it d (i+1) es.size ep es[i].key es[i].val G.objs.size:=f5
 refine wpAny_bind (wpAny_setField_rec f5 (by simp) fun G6 f6 b6=>?c20)
 replace b6:Heap.SameBut it G5 G6:=b6
 replace f6:IsItemIterOut G6 it d (i+1) es.size ep es[i].key es[i].val G.objs.size:=f6
 have kk:∀b o,b≠it->G2.get? b=some o->G6.get? b=some o:=fun b o nb e=>b6.extBut b o nb (b5.extBut b o nb (b4.extBut b o nb (b3.extBut b o nb e)))
 refine wpAny_bind (wpAny_letGo (wpAny_pure (wpAny_pure ⟨_,rfl,wpAny_pure (fin G6 f6 (kk _ _ (Nat.ne_of_gt il) t2) ?c21 fun b o nb e=>kk b o nb (k2 b o nb e))⟩)));show G6.objs.size=G.objs.size+1;rw[b6.1,b5.1,b4.1,b3.1,z2]
theorem Bq{it d:Addr}{i ep:Nat}{es:Array DictEntry}{od:Obj}{k0 v0:Value}{R:Option Value->Shared->Prop}(hn:A.handled=none)
 (gi:IsItemIter s.heap it d i es.size ep k0 v0) (gd:s.heap.get? d=some od) (gt:od.data=.dict es ep) (ge:es.size<=i)
 (fin:∀h',Heap.ExtBut it s.heap h'->R none { s with heap:=h' }):wpAny (model prog w) A (pyNext (.ref it)) R E s:=by
 have tt:s.TypeIs (.ref it) "dict_itemiterator" :=⟨_,gi,rfl⟩;unfold pyNext;refine wpAny_bind (wpAny_attempt (wpAny_callSpecial?_slot (name:=Str.ofString "__next__") tt F.slot_dict_itemiterator_next (wpAny_call_entry F.slot_dict_itemiterator_next tt F.entry_dict_itemiterator_next ?c1 (F.args_dict_itemiterator_next_1 _))));refine wpAny_bind (wpAny_pure (wpAny_bind (wpAny_bind ?c2)))
 first | refine wpAny_bind (DN tt (wpAny_pure ?c3)) | refine wpAny_bind (wpAny_typeNameOf_itemiter tt (wpAny_pure ?c3))
 refine wpAny_bind (wpAny_fieldsOf gi rfl ?c4);have own1:Builtin.Dict_items.ownsTuple "dict_itemiterator" =true:=by decide
 simp only[own1,if_true];show wpAny _ _ (if(Value.ref d==Value.none)=true then _ else _) _ _ _;rw[if_neg (show ¬((Value.ref d==Value.none)=true)from fun z=>zef z)];refine wpAny_bind (wpAny_pure (wpAny_bind (wpAny_dictEntries gd gt ?c5)));rw[if_neg (by simp)];refine wpAny_bind (wpAny_pure (wpAny_bind (wpAny_dictEpoch gd gt ?c6)));rw[if_neg (by simp)];refine wpAny_pure ?c7;simp only[show ¬((i:Int)<0)from by omega,if_false,Int.toNat_natCast,Array.getElem?_eq_none ge];refine wpAny_bind ?c8
 first | refine wpAny_bind (DN tt (wpAny_pure ?c9)) | refine wpAny_bind (wpAny_typeNameOf_itemiter tt (wpAny_pure ?c9))
 show wpAny _ _ (setField (.ref it) 2 .none >>=_) _ _ _;refine wpAny_bind (wpAny_setField gi rfl (by simp) ?c10);show wpAny _ _ (newExc (.type "StopIteration") [] >>=_) _ _ _;refine wpAny_bind ?c11;simp only[newExc,newTuple];refine wpAny_bind (wpAny_newObj_type (wpAny_bind (m:=firstArgMember _ _) (wpAny_of_eq (a:=Value.none) (by first | rfl | (simp only[firstArgMember];rfl)) ?c12)) (by size_fits));refine wpAny_newObj_type ?c13 (by size_fits);simp only[raiseNew];refine wpAny_bind (wpAny_handled ?c14);rw[show A.in1.handled=none from hn];refine wpAny_bind (wpAny_pure (wpAny_throw ?c15));refine wpAny_bind (wpAny_isInstance (T := "StopIteration") (b:=true) ⟨_,Heap.get?_push_size _ rfl,rfl⟩ isSubtype_stop (wpAny_pure ?c16));exact fin _ (((Heap.SameBut.update ..).extBut.push _).push _)
theorem u9 {d:Addr} {R:Value->Shared->Prop} (tt:s.TypeIs (.ref d) "dict") (nm:(d==sysModules)=false)
 (q:R (.ref s.heap.objs.size) { s with heap:=s.heap.push { cls:=.type "dict_items",data:=.fields #[.ref d] } }):wpAny (model prog w) A (call (.builtin "dict.items") [.ref d]) R E s:=by
 have m:MeetsIn prog w (Builtin.«dict.items» ⟨[.ref d],[]⟩) (fun _ R s=>s.TypeIs (.ref d) "dict" /\ R (.ok (.ret (.ref s.heap.objs.size))) { s with heap:=s.heap.push { cls:=.type "dict_items",data:=.fields #[.ref d] } }):=
  .of_wp fun A R s zz=>by obtain⟨t1,r1⟩:=zz;unfold Builtin.«dict.items»;refine wpAny_bind ?c1;unfold Builtin.Dict.noArgs;refine wpAny_bind (wpAny_notOrdered_dict t1 ?c2);show wpAny _ _ (pure d) _ _ s;refine wpAny_pure ?c3;show wpAny _ _ (Builtin.Dict.showsAll d >>=_) _ _ s;unfold Builtin.Dict.showsAll;rw[if_neg (by rw[nm];exact zef)];exact wpAny_bind (wpAny_pure (wpAny_bind (wpAny_newObj_type (wpAny_pure ⟨_,rfl,r1⟩))))
 exact call_meetsIn PySem.F.slot_dict_items tt PySem.F.entry_dict_items (PySem.F.args_dict_items_1 _) m ⟨tt,q⟩
theorem A3:entryFor table "dict_itemiterator.__iter__" =some Builtin.«dict_keyiterator.__iter__»:=entryFor_alias (id' := "dict_keyiterator.__iter__") (by kernel_rfl) rfl (by decide +kernel) (by kernel_rfl)
theorem x9{it d:Addr}{i n ep:Nat}{k0 v0:Value}{R:Value->Shared->Prop}(gi:IsItemIter s.heap it d i n ep k0 v0)(q:R (.ref it) s):wpAny (model prog w) A (pyIter (.ref it)) R E s:=by have tt:s.TypeIs (.ref it) "dict_itemiterator" :=⟨_,gi,rfl⟩;refine wpAny_pyIter_slot tt F.slot_dict_itemiterator_iter (wpAny_call_entry F.slot_dict_itemiterator_iter tt A3 ?c1 (F.args_dict_itemiterator_iter_1 _));show wpAny _ _ (ret (.ref it)) _ _ s;exact wpAny_pure ⟨_,rfl, "dict_itemiterator",_,tt,F.slot_dict_itemiterator_next.lookup,q⟩
end
theorem Paired.Xd{α β:Type}{F:α->β->Prop}:∀{xs:List α}{ys:List β}{i:Nat}{x:α},Paired F xs ys->xs[i]?=some x->∃y,ys[i]?=some y/\F x y
 | _,_,i,x,.nil,e=>by simp at e
 | _,_,0,x,.cons r t,e=>by simp at e;subst e;exact⟨_,rfl,r⟩
 | _,_,i+1,x,.cons r t,e=>by obtain⟨y,e1,e2⟩:=Paired.Xd t (i:=i) (x:=x) (by simpa using e);exact⟨y,by simpa using e1,e2⟩
def fU(a:Addr)(o:Obj):It:=
 ⟨fun i H=>∃kvs p,H a=some (.Gb o (.dT kvs))/\kvs[i]?=some p,
  fun i H x H'=>∃q kb p,H q=none/\x=.ref q/\H kb=some (.tup (p.1.map kV))/\(∀kvs,H a=some (.Gb o (.dT kvs))->kvs[i]?=some p)/\H'=xB H q (.tup [.ref kb,p.2]),
  fun i H=>∃kvs,H a=some (.Gb o (.dT kvs))/\kvs.length<=i⟩
theorem cj{P:Program}{w:World}{K:Frag}{elts:List Expr}{x1}{pos:Pos}(a it:Addr){o:Obj}{es:Array DictEntry}{ep:Nat}(gt:o.data=.dict es ep) :
 WG P w K (.Tuple elts x1 pos) (fU a o) [it] it (fun i h=>∃k0 v0,IsItemIter h it a i es.size ep k0 v0) where
 mem:=by simp
 obj:=fun i h zz c hc=>by obtain⟨k0,v0,st⟩:=zz;rw[mem_singleton.mp hc];exact⟨_,st,fun v z=>by cases z⟩
 keep:=fun i h h' ⟨k0,v0,st⟩ k=>⟨k0,v0,k it (by simp) _ st⟩
 item:=by
  intro X hP hw hK hc i pins s σ H E I hf st hg;subst hP hw hK;obtain⟨k0,v0,gi⟩:=st;obtain⟨kvs,p,e,hp⟩:=hg;obtain⟨go,z,y,xs,r,ob,es',ep',h1,h2,h3,h4,h5⟩:=(show Kf X.prog X.w H s.heap a (.Gb o (.dT kvs))from I.hok a _ e);rw[go]at h1;cases h1;rw[gt]at h3;cases h3;obtain⟨q,hq,f1,f2,f3⟩:=Paired.Xd r hp;have e0:es.toList[i]?=some (entryOfKey (tupleKind (jE X.prog X.w)) q):=by rw[h4,getElem?_map,hq];rfl
  have hlt:i<es.size:=by have:=(zed e0).1;simpa using this
  have ei:es[i]=entryOfKey (tupleKind (jE X.prog X.w)) q:=by rw[Array.getElem?_toList,Array.getElem?_eq_getElem hlt]at e0;exact Option.some.inj e0
  refine v9 gi go gt hlt fun h' z1 tp sz kp=>⟨_,rfl,wpAny_letOwnedTupleGo_items z1 fun h2 he2 sb=>?_⟩
  have hne:s.heap.objs.size≠it:=Nat.ne_of_gt (Heap.lt_size gi);have t2:h2.get? s.heap.objs.size=some { cls:=.type "tuple",data:=.seq #[.ref q.2.1,q.2.2] }:=by rw[sb.2 _ hne,tp,ei];rfl
  have kk:∀c u,c ∉ [it]->s.heap.get? c=some u->h2.get? c=some u:=fun c u hc g=>by
   have hc':c≠it:=fun z=>hc (by rw[z];simp)
   exact(sb.2 c hc').trans (kp c u hc' g)
  refine⟨.ref s.heap.objs.size,xB H s.heap.objs.size (.tup [.ref q.2.1,p.2]),I.zaT kk hf (zeg _) ⟨by simp only[zd3,zd4];rw[sizeLine_eq];decide,[.ref q.2.1,q.2.2],.cons rfl (.cons f3 .nil),⟨_,t2,rfl,_,rfl⟩⟩,rfl,
   ⟨_,q.2.1,p,I.hok.fresh (zeg _),rfl,f2,fun kvs' e'=>by rw[e]at e';cases e';exact hp,rfl⟩,⟨_,_,he2⟩,fun c hc=>?_⟩
  rw[mem_singleton.mp hc,QA (Ne.symm hne)];exact(hf it (by simp)).1
 done:=by
  intro X hP hw hK hc i pins s σ H E I hf st hg;subst hP hw hK;obtain⟨k0,v0,gi⟩:=st;obtain⟨kvs,e,hp⟩:=hg;obtain⟨go,z,y,xs,r,ob,es',ep',h1,h2,h3,h4,h5⟩:=(show Kf X.prog X.w H s.heap a (.Gb o (.dT kvs))from I.hok a _ e);rw[go]at h1;cases h1;rw[gt]at h3;cases h3;have hs:es.size=kvs.length:=by rw[<- Array.length_toList,h4,length_map,<- Paired.length r]
  refine Bq (I.ok.hd hc) gi go gt (by omega) fun h' eb=>⟨rfl,I.Rp (t':=s.toks) (fp:=[it]) (fun c u hc q=>eb c u (fun z=>hc (by rw[z];simp)) q) hf⟩
 self:=fun _ _ _ _ _ st h=>by obtain⟨k0,v0,gi⟩:=st;exact x9 gi h
section
variable{X:Cx}
theorem Inv.freeze{pins:List (Addr×Obj)}{σ:St}{H:Hp}{s:Shared}{a:Addr}{o:Obj}{kvs:List (List cC×V)}(I:Inv X pins σ H s)(e:H a=some (.dT kvs))(go:s.heap.get? a=some o) :
 Inv X pins σ (xB H a (.Gb o (.dT kvs))) s:=by
 refine rS (t':=s.toks) I (by rw[e];exact True.intro) (Heap.SameBut.refl _ _) ⟨o,go⟩ ⟨go,?_⟩;refine Kf.stay (show Kf X.prog X.w H s.heap a (.dT kvs)from I.hok a _ e) (fun _ _ _ g=>g) (fun b q=>?_) fun b ys q=>?_
 · rw[QA (sT q e (fun z=>nomatch z))];exact q
 · rw[QA (sT q e (fun z=>nomatch z))];exact q
def SZ(td:TE):TI:=fun σ H R=>td σ H fun x H1=>∃a,x=.ref a/\((∃kvs,H1 a=some (.dT kvs)/\∀o,R (fU a o) (xB H1 a (.Gb o (.dT kvs))))\/∃o kvs,H1 a=some (.Gb o (.dT kvs))/\R (fU a o) H1)
theorem Z8 {elts:List Expr} {x1} {tp:Pos} {d:Expr} {td:TE} {apos cpos:Pos} (ho:PE X d td) (hbase:attributeBase d "items" X.env (eval d X.env)=eval d X.env:=by rfl) (hline:(apos.endLine==cpos.line)=true:=by rfl) :
 PI X (.Tuple elts x1 tp) (.Call (.Attribute d "items" apos) [] [] cpos) (SZ td):=by
 intro pins s σ H R I h;refine wpAny_Call_method0_late hbase hline (nB (ho pins s σ H _ I h) fun v s1 zz=>?_);obtain⟨x,H1,I1,r1,a,ex,q⟩:=zz;subst ex;obtain rfl:v=Value.ref a:=r1;have dd:GZ H1 a:=by
  rcases q with⟨kvs,e,_⟩ | ⟨o,kvs,e,_⟩
  · exact .inr ⟨kvs,.inl e⟩
  · exact .inr ⟨kvs,.inr ⟨o,e⟩⟩
 obtain⟨t1,t2,t3⟩:=LY I1 dd;have base:∀(o:Obj)(es:Array DictEntry)(ep:Nat)(H2:Hp),s1.heap.get? a=some o->o.data=.dict es ep->Inv X pins σ H2 s1->R (fU a o) H2->
  wpAny (model X.prog X.w) X.A (call (.builtin "dict.items") [.ref a]) (fun v s1=>wpAny (model X.prog X.w) X.A (pyIter v) (KZ X pins σ (.Tuple elts x1 tp) R) X.xe s1) X.xe s1:=by
  intro o es ep H2 go gt I2 q2;refine u9 t1 t3 ?_;have I3:Inv X pins σ H2 { s1 with heap:=s1.heap.push { cls:=.type "dict_items",data:=.fields #[.ref a] } }:=I2.kept (t':=s1.toks) fun b u g=>Heap.get?_push_of_some _ g
  refine y9 (od:=o) ⟨_,Heap.get?_push_size _ rfl,rfl,rfl⟩ (Heap.get?_push_of_some _ go) gt ?_;have I4:=I3.kept (t':=s1.toks) (h':=(s1.heap.push { cls:=.type "dict_items",data:=.fields #[.ref a] }).push { cls:=.type "dict_itemiterator",data:=.fields #[.none,.bool false,.ref a,.int 0 0,.int es.size 0,.int ep 0,.none,.none] }) fun b u g=>Heap.get?_push_of_some _ g
  refine⟨_,[_],_,_,H2,rfl,I4,cj a _ gt,⟨.none,.none,Heap.get?_push_size _ rfl⟩,fun c hc=>?_,q2⟩;rw[mem_singleton.mp hc];exact I3.Bm (zeg _) (I3.hok.fresh (zeg _))
 refine⟨"dict", "dict.items",PySem.F.plainAttrs_dict,PySem.F.slot_dict_items,PySem.F.type_dict_items,t1,t2,Calls.callWith_builtin rfl (PySem.evalArgs_none ?_)⟩;rcases q with⟨kvs,e,q⟩ | ⟨o,kvs,e,q⟩
 · obtain⟨_,_,_,_,o,es,ep,h1,_,h3,_⟩:=(show Kf X.prog X.w H1 s1.heap a (.dT kvs)from I1.hok a _ e);exact base o es ep _ h1 h3 (I1.freeze e h1) (q o)
 · obtain⟨go,_,_,_,_,o',es,ep,h1,_,h3,_⟩:=(show Kf X.prog X.w H1 s1.heap a (.Gb o (.dT kvs))from I1.hok a _ e);rw[go]at h1;cases h1;exact base o es ep _ go h3 I1 q
end
end L2
namespace SM
noncomputable def yI(kvs:List (List Int×Dt))(k:List Int):Option Dt:=(kvs.find? fun p=>decide (p.1=k)).map (·.2)
noncomputable def FI(kvs:List (List Int×Dt))(k:List Int)(d:Dt):List (List Int×Dt):=
 if(kvs.any fun p=>decide (p.1=k))=true then kvs.map (fun p=>if p.1=k then(p.1,d)else p)else kvs++[(k,d)]
noncomputable def IT:RE:=fun _ h=>some (.ref h.length,h++[.dt []])
def aP(g:RA):RE:=fun l h=>(g l h).bind fun r=>if r.1.length<=sizeLine then(fE r.1).map fun is=>(.Zd is,r.2)else none
def rH(fo fy fx:RE):RE:=fun l h=>(fo l h).bind fun o=>match o.1 with
 | .ref n=>match o.2[n]? with
  | some (.dt _)=>(fy l o.2).bind fun y=>match y.1 with
   | .Zd k=>(fx l y.2).bind fun x=>match x.2[n]? with
    | some (.dt kvs)=>some ((yI kvs k).getD x.1,x.2)
    | _=>none
   | _=>none
  | _=>none
 | _=>none
def EO(fe fo fy:RE):RS:=fun l h=>(fe l h).bind fun v=>(fo l v.2).bind fun o=>(fy l o.2).bind fun y=>match o.1,y.1 with
 | .ref n,.Zd k=>match y.2[n]? with
  | some (.dt kvs)=>if kvs.length<sizeLine then some (.nx l (y.2.set n (.dt (FI kvs k v.1))))else none
  | _=>none
 | _,_=>none
noncomputable def jI(f:RE):RI:=fun l h=>(f l h).bind fun r=>match r.1 with
 | .ref n=>match r.2[n]? with
  | some (.dt kvs)=>some (.it n,r.2.set n (.df kvs))
  | some (.df _)=>some (.it n,r.2)
  | _=>none
 | _=>none
section
variable{K:Frag}{H:Hp}{ρ:Rg}
abbrev KD(K:Frag)(H:Hp)(ρ:Rg)(kvs:List (List Int×Dt))(vs:List (List cC×V)):Prop:=vs.map (·.1)=kvs.map (fun p=>p.1.map Sum.inl)/\Ur K H ρ (kvs.map (·.2)) (vs.map (·.2))
theorem Zc{k k':List Int}:k.map (Sum.inl:Int->cC)=k'.map Sum.inl↔k=k':=⟨fun h=>(map_inj_right (fun _ _ z=>Sum.inl.inj z)).mp h,fun h=>by rw[h]⟩
theorem SS(k:List Int):(k.map (Sum.inl:Int->cC)).map kV=k.map V.int:=by rw[map_map];rfl
theorem KD.ud{vs:List (List cC×V)}(r:KD K H ρ [] vs):vs=[]:=by have:=r.1;simpa using this
theorem KD.zf{p:List Int×Dt}{kvs:List (List Int×Dt)}{vs:List (List cC×V)}(r:KD K H ρ (p::kvs) vs):∃v rs,vs=(p.1.map Sum.inl,v)::rs/\Wr K H ρ p.2 v/\KD K H ρ kvs rs:=by
 obtain⟨h1,h2⟩:=r;cases vs with
 | nil=>simp at h1
 | cons q rs=>simp only[zd5,List.cons.injEq]at h1;obtain⟨v,r',e,g1,g2⟩:=Ur.zf (by simpa only[zd5]using h2);simp only[zd5,List.cons.injEq]at e;obtain⟨q1,q2⟩:=q;have h11:q1=p.1.map Sum.inl:=h1.1;have e1:q2=v:=e.1;subst e1;exact⟨q2,rs,by rw[h11],g1,h1.2,by rw[e.2];exact g2⟩
theorem KD.cons{p:List Int×Dt}{v:V}{kvs:List (List Int×Dt)}{vs:List (List cC×V)}(g:Wr K H ρ p.2 v)(r:KD K H ρ kvs vs):KD K H ρ (p::kvs) ((p.1.map Sum.inl,v)::vs):=
 ⟨by simp only[zd5];rw[r.1],.cons g r.2⟩
theorem KD.length{kvs:List (List Int×Dt)}{vs:List (List cC×V)}(r:KD K H ρ kvs vs):vs.length=kvs.length:=by have:=congrArg List.length r.1;simpa using this
theorem KD.get:∀{kvs:List (List Int×Dt)}{vs:List (List cC×V)}{i:Nat}{p:List Int×Dt},KD K H ρ kvs vs->kvs[i]?=some p->∃v,vs[i]?=some (p.1.map Sum.inl,v)/\Wr K H ρ p.2 v
 | [],_,_,_,_,e=>by simp at e
 | q::kvs,_,0,p,r,e=>by obtain⟨v,rs,rfl,g,_⟩:=r.zf;simp at e;subst e;exact⟨v,rfl,g⟩
 | q::kvs,_,i+1,p,r,e=>by obtain⟨v,rs,rfl,_,r'⟩:=r.zf;obtain⟨u,e1,e2⟩:=KD.get (i:=i) r' (by simpa using e);exact⟨u,by simpa using e1,e2⟩
theorem KD.val(k:List Int):∀{kvs:List (List Int×Dt)}{vs:List (List cC×V)},KD K H ρ kvs vs->(∀d,yI kvs k=some d->∃v,VE vs (k.map Sum.inl)=some v/\Wr K H ρ d v)/\(yI kvs k=none->VE vs (k.map Sum.inl)=none)
 | [],_,r=>by rw[r.ud];exact⟨fun d e=>by simp[yI]at e,fun _=>rfl⟩
 | p::kvs,_,r=>by
  obtain⟨v,rs,rfl,g,r'⟩:=r.zf;by_cases c:p.1=k
  · have e1:yI (p::kvs) k=some p.2:=by simp[yI,find?_cons,c]
    rw[e1,QN (Zc.mpr c)];exact⟨fun d e=>by cases e;exact⟨v,rfl,g⟩,fun e=>by cases e⟩
  · have e1:yI (p::kvs) k=yI kvs k:=by simp[yI,find?_cons,c]
    rw[e1,PN (fun z=>c (Zc.mp z))];exact KD.val k r'
theorem KD.any(k:List Int):∀{kvs:List (List Int×Dt)}{vs:List (List cC×V)},KD K H ρ kvs vs->(vs.any fun p=>decide (p.1=k.map Sum.inl))=kvs.any fun p=>decide (p.1=k)
 | [],_,r=>by rw[r.ud];rfl
 | p::kvs,_,r=>by
  obtain⟨v,rs,rfl,g,r'⟩:=r.zf;rw[any_cons,any_cons,KD.any k r']
  congr 1
  exact decide_eq_decide.mpr Zc
theorem KD.repl(k:List Int){d:Dt}{v:V}(g:Wr K H ρ d v):∀{kvs:List (List Int×Dt)}{vs:List (List cC×V)},KD K H ρ kvs vs->
 KD K H ρ (kvs.map fun p=>if p.1=k then(p.1,d)else p) (vs.map fun p=>if p.1=k.map Sum.inl then(p.1,v)else p)
 | [],_,r=>by rw[r.ud];exact⟨rfl,.nil⟩
 | p::kvs,_,r=>by
  obtain⟨u,rs,rfl,g',r'⟩:=r.zf;rw[zd5,zd5];by_cases c:p.1=k
  · rw[if_pos c,if_pos (Zc.mpr c)];exact KD.cons (p:=(p.1,d)) g (KD.repl k g r')
  · rw[if_neg c,if_neg (fun z=>c (Zc.mp z))];exact KD.cons g' (KD.repl k g r')
theorem KD.put(k:List Int){d:Dt}{v:V}(g:Wr K H ρ d v){kvs:List (List Int×Dt)}{vs:List (List cC×V)}(r:KD K H ρ kvs vs):KD K H ρ (FI kvs k d) (mF vs (k.map Sum.inl) v):=by
 unfold FI mF;rw[r.any k];split
 · exact r.repl k g
 · refine⟨by rw[map_append,map_append,r.1];rfl,?_⟩;rw[map_append,map_append];exact r.2.append (.cons g .nil)
theorem KD.ext{ρ':Rg}{H':Hp}{kvs:List (List Int×Dt)}{vs:List (List cC×V)}(r:KD K H ρ kvs vs)(x:Ext ρ ρ' H H'):KD K H' ρ' kvs vs:=⟨r.1,r.2.ext x⟩
theorem jf.za3{h:HI}(S:jf K ρ h H){a:Addr}{vs:List V}(e:H a=some (.tup vs)):ρ.no a:=by
 refine⟨fun ha=>?_,fun ha=>?_⟩
 · obtain⟨n,hn⟩:=mem_iff_getElem?.mp ha;have hl:n<h.length:=by rw[<- S.len];exact(zed hn).1
   have ob:=S.ob n a _ hn (getElem?_eq_getElem hl);cases q:h[n]with
   | lst xs=>rw[q]at ob;obtain⟨_,g,_⟩:=ob;rw[e]at g;cases g
   | ins y fs=>rw[q]at ob;obtain⟨_,_,_,_,g,_⟩:=ob;rw[e]at g;cases g
   | dk kvs=>rw[q]at ob;obtain⟨_,g,_⟩:=ob;rw[e]at g;cases g
   | dt kvs=>rw[q]at ob;obtain⟨_,g,_⟩:=ob;rw[e]at g;cases g
   | df kvs=>rw[q]at ob;obtain⟨_,_,g,_⟩:=ob;rw[e]at g;cases g
 · obtain⟨_,_,g⟩:=S.zt a ha;rw[e]at g;cases g
theorem fP{a:Addr}{kvs:List (List cC×V)}(h:H a=some (.dT kvs)):XT H a:=fun _ _ e=>by rw[h]at e;cases e
end
section
variable{X:Cx}{e o i d a b f:Expr}{fe fo fi fa fb fy fx:RE}{pos pos' apos cpos:Pos}
theorem Qx:EM X (.Dict [] [] pos) IT:=by with_unfolding_all exact PE.imp W8 fun σ H Q zz=>by obtain⟨ρ,l,h,d,h',S,L,e,k⟩:=zz;cases e;intro p hp;refine k (ρ.add p) _ _ (uf.mpr ⟨p,rfl,?_⟩) (S.own hp ⟨[],SC,rfl,.nil⟩) (Ext.own hp);simp only[Rg.add];rw[<- S.len,zeh (zeg _),Nat.sub_self];rfl
theorem Xz{es:List Expr}{g:RA}{x1}(h:AM X es g):EM X (.Tuple es x1 pos) (aP g):=by
 with_unfolding_all
  exact PE.imp (FY h) fun σ H Q zz=>by
   obtain⟨ρ,l,h,d,h',S,L,e,k⟩:=zz;obtain⟨⟨ds,h1⟩,e1,e⟩:=nA e;dsimp only at e;by_cases hz:ds.length<=sizeLine
   · rw[if_pos hz]at e;cases q:fE ds with
     | none=>rw[q]at e;cases e
     | some is=>rw[q]at e;cases e;refine⟨ρ,l,h,ds,_,S,L,e1,fun ρ1 vs H1 R1 S1 E1=>⟨by rw[R1.length];exact hz,fun p hp=>k ρ1 _ _ (Td.mpr ⟨p,rfl,S1.out hp,?_⟩) (S1.fresh hp) (E1.trans (Ext.fresh hp))⟩⟩;rw[iJ q]at R1;rw[SC,R1.Eb]
   · rw[if_neg hz]at e;cases e
theorem i9 (hu:X.A.units+64<cLine) (ho:EM X o fo) (hy:EM X e fy) (hx:EM X f fx) (m:M2 X o "get" apos e f cpos:=by exact⟨rfl,rfl,rfl,rfl⟩) :
 EM X (.Call (.Attribute o "get" apos) [e,f] [] cpos) (rH fo fy fx):=by
 with_unfolding_all
  exact PE.imp (V8 (by omega) ho hy hx m) fun σ H Q zz=>by
   obtain⟨ρ,l,h,dd,h',S,L,e,k⟩:=zz;obtain⟨⟨d1,h1⟩,e1,e⟩:=nA e;refine⟨ρ,l,h,d1,h1,S,L,e1,fun ρ1 x H1 R1 S1 E1=>?_⟩;cases d1 with
   | ref n=>
    dsimp only at e;split at e
    · rename_i kv0 q0;obtain⟨⟨y,h2⟩,e2,e⟩:=nA e;dsimp only at e;cases y with
      | Zd ks=>
       obtain⟨⟨dx,h3⟩,e3,e⟩:=nA e;dsimp only at e;split at e
       · rename_i kvs q;cases e;obtain⟨aa,z,ha⟩:=uf.mp R1;obtain⟨Ep,g0,_⟩:=S1.ob n aa _ ha q0;refine⟨aa,z,.inr ⟨Ep,.inl g0⟩,ρ1,l,h1,.Zd ks,h2,S1,L.ext E1,e2,fun ρ2 y H2 R2 S2 E2=>⟨ρ2,l,h2,dx,_,S2,L.ext (E1.trans E2),e3,fun ρ3 x3 H3 R3 S3 E3=>?_⟩⟩;obtain⟨kb,zk,nk,gk⟩:=Td.mp (Wr.ext E3 _ R2);obtain⟨vs,g1,g2⟩:=S3.ob n aa _ ((E2.trans E3).get ha) q;refine⟨VE vs (ks.map Sum.inl),by rw[zk];exact Bl.t g1 (by rw[SS];exact gk),?_⟩;obtain⟨v1,v2⟩:=KD.val (K:=X.K) ks g2;refine k ρ3 _ H3 ?_ S3 (E1.trans (E2.trans E3));cases c:yI kvs ks with
         | none=>rw[v2 c];exact R3
         | some d4=>obtain⟨v4,e4,r4⟩:=v1 d4 c;rw[e4];exact r4
       · cases e
      | _=>cases e
    · cases e
   | _=>cases e
theorem Fz(hu:X.A.units+64<cLine)(he:EM X e fe)(ho:EM X o fo)(hi:EM X i fi)(hs:swapsWith e (some (.Subscript o i pos')) pos.line X.env=pure false:=by rfl) :
 ZM X (.Assign [.Subscript o i pos'] e pos) (EO fe fo fi):=by
 with_unfolding_all
  exact PS.imp (Gv (by omega) ho hi he hs) fun D σ H zz=>by
   obtain⟨ρ,l,h,r,S,L,e,k⟩:=zz;obtain⟨⟨v,hv⟩,e1,e⟩:=nA e;obtain⟨⟨d,hd⟩,e2,e⟩:=nA e;obtain⟨⟨j,hj⟩,e3,e⟩:=nA e;refine⟨ρ,l,h,v,hv,S,L,e1,fun ρ1 u H1 R1 S1 E1=>⟨ρ1,l,hv,d,hd,S1,L.ext E1,e2,fun ρ2 y H2 R2 S2 E2=>⟨ρ2,l,hd,j,hj,S2,L.ext (E1.trans E2),e3,fun ρ3 z H3 R3 S3 E3=>?_⟩⟩⟩;cases d with
   | ref n=>
    cases j with
    | Zd ks=>
     dsimp only at e;split at e
     · rename_i kvs q;obtain⟨hz,e⟩:=nE e;cases e;obtain⟨aa,zz,ha⟩:=uf.mp (Wr.ext E3 _ R2);obtain⟨vs,g1,g2⟩:=S3.ob n aa _ ha q;obtain⟨kb,zk,nk,gk⟩:=Td.mp R3;have hm:=mem_of_getElem? ha;have g3:KD X.K H3 ρ3 kvs vs:=g2;refine⟨aa,_,zz,by rw[zk];exact Dl.t g1 (by rw[SS];exact gk) (by rw[g3.length];exact hz),?_⟩;exact k ρ3 σ _ (S3.write ha (fP g1) ⟨_,SC,(g3.put ks (Wr.ext (E2.trans E3) _ R1)).ext (Ext.write hm (fP g1))⟩) (L.ext (E1.trans (E2.trans (E3.trans (Ext.write hm (fP g1)))))) (E1.trans (E2.trans (E3.trans (Ext.write hm (fP g1)))))
     · cases e
    | _=>cases e
   | _=>cases e
theorem JV{K:Frag}{H:Hp}{ρ:Rg}{n:Nat}{aa:Addr}{ob:Obj}{Ep:List (List cC×V)}(ha:ρ.v[n]?=some aa)(e:H aa=some (.Gb ob (.dT Ep))):bZ K H ρ (.it n) (fU aa ob):=by
 intro H2 ρ2 h2 sm S2 i;have f2:=sm.fz aa ob _ e;have ha2:=sm.ix n aa ha;simp only[Src.at];cases q:h2[n]? with
 | none=>trivial
 | some u=>
  cases u with
  | df kvs=>
   obtain⟨o',vs,g1,g2⟩:=S2.ob n aa _ ha2 q;have g3:KD K H2 ρ2 kvs vs:=g2;rw[f2]at g1;cases g1;dsimp only;cases hi:kvs[i]? with
   | none=>exact⟨Ep,f2,by rw[g3.length];exact getElem?_eq_none_iff.mp hi⟩
   | some p=>obtain⟨v,e1,r1⟩:=g3.get hi;refine⟨⟨Ep,_,f2,e1⟩,fun x H3 zz=>?_⟩;obtain⟨qq,kb,p',hn,ex,hk,hh,eH⟩:=zz;have ep:=hh Ep f2;rw[e1]at ep;cases ep;subst ex eH;rw[SS]at hk;exact⟨jL S2 (.cons (bf.mpr ⟨kb,_,rfl,.inl ⟨S2.za3 hk,.inl hk⟩,Ur.ints p.1⟩) (.cons r1 .nil)) hn,Ext.fresh hn,S2.fresh hn⟩
  | _=>trivial
theorem n9 {elts:List Expr} {x1} {tp:Pos} (ho:EM X d fa) (hbase:attributeBase d "items" X.env (eval d X.env)=eval d X.env:=by rfl) (hline:(apos.endLine==cpos.line)=true:=by rfl) :
 IM X (.Tuple elts x1 tp) (.Call (.Attribute d "items" apos) [] [] cpos) (jI fa):=by
 with_unfolding_all
  exact PI.imp (Z8 ho hbase hline) fun σ H R zz=>by
   obtain⟨ρ,l,h,s,h',S,L,e,k⟩:=zz;obtain⟨⟨d1,h1⟩,e1,e⟩:=nA e;refine⟨ρ,l,h,d1,h1,S,L,e1,fun ρ1 v H1 R1 S1 E1=>?_⟩;cases d1 with
   | ref n=>
    obtain⟨aa,z,ha⟩:=uf.mp R1;have hm:=mem_of_getElem? ha;refine⟨aa,z,?_⟩;dsimp only at e;split at e
    · rename_i kvs q;cases e;obtain⟨vs,g1,g2⟩:=S1.ob n aa _ ha q;have g3:KD X.K H1 ρ1 kvs vs:=g2;refine .inl ⟨vs,g1,fun ob=>k ρ1 _ _ (JV ha SC) (S1.write ha (fP g1) ⟨ob,vs,SC,g3.ext (Ext.write hm (fP g1))⟩) (E1.trans (Ext.write hm (fP g1)))⟩
    · rename_i kvs q;cases e;obtain⟨ob,vs,g1,g2⟩:=S1.ob n aa _ ha q;exact .inr ⟨ob,vs,g1,k ρ1 _ _ (JV ha g1) S1 E1⟩
    · cases e
   | _=>cases e
end
end SM
namespace L2
section
variable{prog:Program}{w:World}{A:Around}{R:Result->Shared->Prop}{I:Addr}{fp wr:List Addr}{n:Nat}{P:Nat->Value->Prop}{St:Nat->Heap->Prop}
noncomputable abbrev KO (dv:Value):List (Str×Value):=[(Str.ofString "default",dv)]
theorem L8(dv:Value)(Wk:Walks prog w A.in1 I fp wr n P St)(bt:Nat->Nat->Bool)(cmp:CmpOf prog w A.in1 .Lt P bt)(S:Addr)(nS:S∉fp) :
 ∀(k j:Nat)(s:Shared)(vb:Value)(c:Nat),n-(j+1)=k->j+1<=n->St (j+1) s.heap->P (argBest bt j) vb->
 s.heap.get? S=some { cls:=.type "list",dict:=none,data:=.seq #[vb,vb] c,slots:=#[] }->
 (∀v h' tk,P (argBest bt (n-1)) v->(∀b o,b∉wr->b≠S->s.heap.get? b=some o->h'.get? b=some o)->R (.ok (.ret v)) { s with heap:=h',toks:=tk })->
 codeAny (model prog w) A (.builtin "min.loop" ⟨[.ref I,.none,.ref S],KO dv⟩) R s:=by
 have nW:S∉wr:=fun h=>nS (Wk.sub _ h)
 have nm:(toString "min" ++ toString ".loop" :String) = "min.loop" :=by decide
 intro k
 induction k with
 | zero=>
  intro j s vb c ek hj st Pb gS fin;have ej:j+1=n:=by omega
  refine codeAny_builtin F.entry_min_loop ?_;rw[Around.under_plainId F.plain_min_loop _];show wpAny _ A.in1 (seqItems? (.ref S) >>=_) _ _ s;refine wpAny_bind (wpAny_seqItems gS rfl ?_);show wpAny _ A.in1 (tryCatch (pyNext (.ref I)) _ >>=_) _ _ s;refine wpAny_bind (wpAny_tryCatch (Wk.done s _ _ (ej ▸ st) fun h' tk kp=>?_));have gS':=kp S _ nW gS;show wpAny _ A.in1 (updateSeq S (fun _=>#[]) >>=_) _ _ _;refine wpAny_bind (wpAny_updateSeq gS' rfl (wpAny_bind (wpAny_letGo (wpAny_pure ?_))));exact fin vb _ tk (by rw[<- ej];exact Pb) fun b o nb ns e=>(Heap.get?_update_other _ _ (Ne.symm ns)).trans (kp b o nb e)
 | succ k ih=>
  intro j s vb c ek hj st Pb gS fin;have lt:j+1<n:=by omega
  refine codeAny_builtin F.entry_min_loop ?_;rw[Around.under_plainId F.plain_min_loop _];show wpAny _ A.in1 (seqItems? (.ref S) >>=_) _ _ s;refine wpAny_bind (wpAny_seqItems gS rfl ?_);show wpAny _ A.in1 (tryCatch (pyNext (.ref I)) _ >>=_) _ _ s;refine wpAny_bind (wpAny_tryCatch (Wk.item (j+1) s _ _ lt st fun v h' tk Pv st' kp=>?_));have gS':=kp S _ nW gS;show wpAny _ A.in1 (tryCatch (holding [v,v] (richCompare .Lt v vb >>=_)) _ >>=_) _ _ _;refine wpAny_bind (wpAny_tryCatch (wpAny_holding (wpAny_bind (cmp (j+1) (argBest bt j) v vb _ _ _ Pv Pb ?_))));refine wpAny_bind (wpAny_holding (wpAny_truthy_bool (wpAny_bind (wpAny_letGo (wpAny_pure ?_)))));cases cb:bt (j+1) (argBest bt j)with
  | true=>
   simp only[if_true];refine wpAny_bind (wpAny_updateSeq gS' rfl (wpAny_bind (wpAny_letGo ?_)));rw[nm];refine wpAny_pure ⟨plainId_quiet F.plain_min_loop _,ih (j+1) _ v _ (by omega) lt (Wk.frame _ _ _ st' fun b hbf o e=>?_) (by simp only[argBest,cb,if_true];exact Pv) (Heap.get?_update_self _ gS' rfl) fun v' h'' tk'' Pv' kp'=>?_⟩
   · exact(Heap.get?_update_other _ _ (fun z:S=b=>nS (by rw[z];exact hbf))).trans e
   · exact fin v' h'' tk'' Pv' fun b o nb ns e=>kp' b o nb ns ((Heap.get?_update_other _ _ (Ne.symm ns)).trans (kp b o nb e))
  | false=>simp only[zej,if_false];refine wpAny_bind (wpAny_letGo ?_);rw[nm];refine wpAny_pure ⟨plainId_quiet F.plain_min_loop _,ih (j+1) _ vb c (by omega) lt st' (by simp only[argBest,cb,zej,if_false];exact Pb) gS' fun v' h'' tk'' Pv' kp'=>?_⟩;exact fin v' h'' tk'' Pv' fun b o nb ns e=>kp' b o nb ns (kp b o nb e)
theorem i6(dv:Value)(Wk:Walks prog w A.in1 I fp wr n P St)(bt:Nat->Nat->Bool)(cmp:CmpOf prog w A.in1 .Lt P bt)(S:Addr)(nS:S∉fp)(hn:0<n){s:Shared}{c:Nat}(st:St 0 s.heap)
 (gS:s.heap.get? S=some { cls:=.type "list",dict:=none,data:=.seq #[] c,slots:=#[] })
 (fin:∀v h' tk,P (argBest bt (n-1)) v->(∀b o,b∉wr->b≠S->s.heap.get? b=some o->h'.get? b=some o)->R (.ok (.ret v)) { s with heap:=h',toks:=tk }) :
 codeAny (model prog w) A (.builtin "min.loop" ⟨[.ref I,.none,.ref S],KO dv⟩) R s:=by
 have nW:S∉wr:=fun h=>nS (Wk.sub _ h)
 have nm:(toString "min" ++ toString ".loop" :String) = "min.loop" :=by decide
 refine codeAny_builtin F.entry_min_loop ?_;rw[Around.under_plainId F.plain_min_loop _];show wpAny _ A.in1 (seqItems? (.ref S) >>=_) _ _ s;refine wpAny_bind (wpAny_seqItems gS rfl ?_);show wpAny _ A.in1 (tryCatch (pyNext (.ref I)) _ >>=_) _ _ s;refine wpAny_bind (wpAny_tryCatch (Wk.item 0 s _ _ hn st fun v h' tk Pv st' kp=>?_));have gS':=kp S _ nW gS;show wpAny _ A.in1 (updateSeq S (fun _=>#[v,v]) >>=_) _ _ _;refine wpAny_bind (wpAny_updateSeq gS' rfl ?_);rw[nm];refine wpAny_pure ⟨plainId_quiet F.plain_min_loop _,L8 dv Wk bt cmp S nS _ 0 _ v _ rfl hn (Wk.frame _ _ _ st' fun b hbf o e=>?_) Pv (Heap.get?_update_self _ gS' rfl) fun v' h'' tk'' Pv' kp'=>?_⟩
 · exact(Heap.get?_update_other _ _ (fun z:S=b=>nS (by rw[z];exact hbf))).trans e
 · exact fin v' h'' tk'' Pv' fun b o nb ns e=>kp' b o nb ns ((Heap.get?_update_other _ _ (Ne.symm ns)).trans (kp b o nb e))
end
section
variable{prog:Program}{w:World}{A:Around}{E:Value->Shared->Prop}{s:Shared}
theorem F7 (x d:Value):argsOk "min" ⟨[x],KO d⟩:=by unfold argsOk;kernel_rfl
theorem M8{x dv:Value}{R:Value->Shared->Prop}
 (h:wpAny (model prog w) A.in1 (pyIter x) (fun it s2=>∃I fp wr n P St bt,it=.ref I/\Walks prog w A.in1 I fp wr n P St/\St 0 s2.heap/\(∀b∈fp,b<s2.heap.objs.size)/\0<n/\CmpOf prog w A.in1 .Lt P bt/\
  ∀v h' tk,P (argBest bt (n-1)) v->(∀b o,b∉wr->s2.heap.get? b=some o->h'.get? b=some o)->R v { s2 with heap:=h',toks:=tk }) E s) :
 wpAny (model prog w) A (call (.builtin "min") [x] (KO dv)) R E s:=by
 have nm:(toString "min" ++ toString ".loop" :String) = "min.loop" :=by decide
 refine kmk_tree PySem.F.kind_min PySem.F.plain_min PySem.F.entry_min (F7 _ _) ?_;show wpAny _ A.in1 (Builtin.Builtins.bindParams "min" ["key", "default"] 0 ⟨[],KO dv⟩ >>=_) _ _ s;refine wpAny_bind (wpAny_of_eq (show Builtin.Builtins.bindParams "min" ["key", "default"] 0 ⟨[],KO dv⟩=pure [none,some dv]from rfl) (wpAny_bind (wpAny_pure ?_)));refine wpAny_bind (wpAny_mono h (fun it s2 h2=>?_) fun _ _ e=>e);obtain⟨I,fp,wr,n,P,St,bt,rfl,Wk,st,lo,hn,cmp,fin⟩:=h2;refine wpAny_bind (wpAny_newObj_type ?_);have nS:s2.heap.objs.size∉fp:=fun hm=>Nat.lt_irrefl _ (lo _ hm)
 rw[nm];refine wpAny_pure ⟨plainId_quiet F.plain_min_loop _,i6 dv Wk bt cmp s2.heap.objs.size nS hn (Wk.frame _ _ _ st fun b _ o e=>Heap.get?_push_of_some _ e) (Heap.get?_push_size _ rfl) fun v h' tk Pv kp=>?_⟩;exact fin v h' tk Pv fun b o nb e=>kp b o nb (Nat.ne_of_lt (Heap.lt_size e)) (Heap.get?_push_of_some _ e)
theorem K8{l:Addr}{xs:Array (Int×Tok)}{dv:Value}{R:Value->Shared->Prop}(hh:A.handled=none)(hl:s.heap.IsList l (intItems xs))(hne:0<xs.size)
 (h:∀v h' tk,(intItems xs)[argBest (fun i j=>decide (numAt xs i<numAt xs j)) (xs.size-1)]?=some v->(∀b o,s.heap.get? b=some o->h'.get? b=some o)->R v { s with heap:=h',toks:=tk }) :
 wpAny (model prog w) A (call (.builtin "min") [.ref l] (KO dv)) R E s:=by
 refine M8 (iter_intList hl fun s2 e st lo hlI=>?_);subst e;refine⟨_,_,_,_,_,_,_,rfl,Walks.list (A:=A.in1) hh _ l hlI (intItems xs),st,lo,by simpa[intItems]using hne,CmpOf.ints_lt (numAt xs) (fun _ _=>intItems_at),fun v h' tk Pv kp=>?_⟩;exact h v h' tk (by simpa[intItems]using Pv) (old_kept kp)
end
section
variable{X:Cx}{e d:Expr}{ta:TA}{td:TE}{p pos kp:Pos}
def A1(K:Frag)(ta:TA)(td:TE):TE:=fun σ H Q=>ta σ H fun xs H1=>td σ H1 fun _ H2=>∃(q:Addr)(ns:List Int),xs=[.ref q]/\Qd K H2 q (ns.map V.int)/\ns ≠ []/\∀M,M∈ns->(∀a∈ns,M<=a)->Q (.int M) H2
theorem aq (hc:X.calm=true) (hg:Gl X "min") (hm:X.mg "min" =none) (ha:PA X [e] ta) (hd:PE X d td) (he:starEach [e] X.env=[(false,eval e X.env)]:=by rfl) :
 PE X (.Call (.Name "min" p) [e] [⟨some "default",d,kp⟩] pos) (A1 X.K ta td):=by
 intro pins s σ H Q I h;refine wpAny_Call_Name_kw (sH I hg hm PyProof.Rows.boot_min ?_);refine callWith_kw ?z1 (by rw[he];rfl) (by rw[he];rfl) rfl rfl;refine nB (ha pos pins s σ H _ I h) fun us s1 ⟨vs,H1,I1,r1,q1⟩=>?z2
 refine kws_cons ?z3;refine nB (hd pins s1 σ H1 _ I1 q1) fun v s2 ⟨y,H2,I2,ry,q2⟩=>?z4
 refine kws_nil ?z5;show wpAny _ _ (call (.builtin "min") us (KO v)) _ _ _;obtain⟨q,ns,rfl,hq,hne,fin⟩:=q2;obtain⟨u,rfl,rx⟩:=qG r1;cases rx;obtain⟨its,r',pl,hz⟩:=I2.list hq;obtain⟨ys,e1,e2⟩:=aN (YM r');have hl:=pl.isList;rw[e1]at hl;have hsz:0<ys.size:=by
  rcases Nat.eq_zero_or_pos ys.size with z | z
  · exfalso;apply hne;rw[<- e2];have:ys.toList=[]:=eq_nil_of_length_eq_zero (by simpa using z);rw[this];rfl
  · exact z
 refine K8 (I2.ok.hd hc) hl hsz fun v h' tk hv k=>?_
 obtain⟨t,rfl⟩:=intItems_at hv;obtain⟨h1,h2⟩:=argBest_lt (numAt ys) (ys.size-1);refine⟨.int _,H2,I2.kept k,⟨t,rfl⟩,fin _ ?_ fun a ha=>?_⟩
 · rw[numAt_eq,<- e2];exact getD_mem (by rw[length_map,Array.length_toList];omega)
 · rw[<- e2]at ha;obtain⟨j,hj,rfl⟩:=mem_getD ha;rw[length_map,Array.length_toList]at hj;rw[<- numAt_eq];exact h2 j (by omega)
end
end L2
namespace SM
def JT(fa fd:RE):RE:=fun l h=>(fa l h).bind fun r=>(fd l r.2).bind fun q=>(FB q.2 r.1).bind fun xs=>(fE xs).bind fun ns=>if ns ≠ []then some (.int (XB ns),q.2)else none
section
variable{X:Cx}{e d:Expr}{fa fd:RE}{p pos kp:Pos}
theorem Ux (hc:X.calm=true) (hg:Gl X "min") (hm:X.mg "min" =none) (ha:EM X e fa) (hd:EM X d fd) (hs:uB e=true:=by rfl):EM X (.Call (.Name "min" p) [e] [⟨some "default",d,kp⟩] pos) (JT fa fd):=by with_unfolding_all exact PE.imp (aq hc hg hm (mD ha vE (lB hs _ _)) hd (lB hs _ _)) fun σ H Q zz=>by obtain⟨ρ,l,h,dd,h',S,L,e,k⟩:=zz;obtain⟨⟨d1,h1⟩,e1,e⟩:=nA e;obtain⟨⟨d2,h2⟩,e2,e⟩:=nA e;obtain⟨xs,e3,e⟩:=nA e;obtain⟨ns,q,e⟩:=nA e;obtain⟨hne,e⟩:=nE e;cases e;refine⟨ρ,l,h,d1,h1,S,L,e1,fun ρ1 v H1 R1 S1 E1=>⟨ρ1,l,h1,d2,_,S1,L.ext E1,e2,fun ρ2 v2 H2 R2 S2 E2=>?_⟩⟩;obtain⟨a,vs,z,sq,r⟩:=CF S2 (Wr.ext E2 _ R1) e3;rw[iJ q]at r;rw[r.Eb]at sq;obtain⟨m1,m2⟩:=cI ns hne;refine⟨a,ns,by rw[z],sq,hne,fun M g1 g2=>?_⟩;have:M=XB ns:=Int.le_antisymm (g2 _ m1) (m2 M g1);rw[this];exact k ρ2 _ H2 (Vr.mpr rfl) S2 (E1.trans E2)
end
end SM
namespace L2
section
variable{X:Cx}
end
end L2
namespace SM
section
variable{X:Cx}{e:Expr}{f:RE}{p p' pos pos':Pos}
end
end SM
namespace L2
noncomputable def jh(lo c:Int)(n:Nat):It:=⟨fun i _=>i<n,fun i H x H'=>H'=H/\x=.int (lo+(i:Int)*c),fun i _=>n<=i⟩
theorem T7{P:Program}{w:World}{K:Frag}{tg:Expr}(it:Addr)(lo c:Int)(n:Nat):WG P w K tg (jh lo c n) [it] it (fun i h=>IsRangeIter h it (lo+(i:Nat)*c) ((n:Int)-(i:Nat)) c) where
 mem:=by simp
 obj:=fun i h st b hb=>by
  have e:b=it:=by simpa using hb
  subst e;exact⟨_,st,fun v z=>by
   have z':Data.fields _=Data.cell v:=z;cases z'⟩
 keep:=fun i h h' st k=>k it (by simp) _ st
 item:=by
  intro X hP hw hK hc i pins s σ H E I hf st hg;subst hP hw hK;obtain⟨f0,f1,f2,f3,f4,f5⟩:=hf it (by simp);have W:=Walks.range (prog:=X.prog) (w:=X.w) (I.ok.hd hc) it lo c n;refine W.item i s _ _ hg st fun v h' tk hv st' kk=>?_
  obtain⟨t,rfl⟩:=hv;have I1:Inv X pins σ H { s with heap:=h',toks:=tk }:=I.turned (fun b o hb e=>kk b o (by simpa using hb) e) f0 f1 f3 f4 f5;exact⟨_,rfl,uO (s:={ s with heap:=h',toks:=tk }) (n := "range_iterator") st' rfl rfl (by decide) ⟨.int (lo+(i:Int)*c),H,I1,⟨t,rfl⟩,⟨rfl,rfl⟩,st',fun b hb=>(hf b hb).1⟩⟩
 done:=by intro X hP hw hK hc i pins s σ H E I hf st hg;subst hP hw hK;obtain⟨f0,f1,f2,f3,f4,f5⟩:=hf it (by simp);exact wpAny_pyNext_range_end (I.ok.hd hc) st (by have:n<=i:=hg;omega) fun h' eb=>⟨rfl,I.turned (t':=s.toks) (fun b o hb e=>eb b o hb e) f0 f1 f3 f4 f5⟩
 self:=fun _ _ _ _ _ st h=>wpAny_pyIter_rangeiter st h
section
variable{X:Cx}{tg:Expr}
def Sy(ta:TA):TI:=fun σ H R=>ta σ H fun vs H1=>∃(i j:Int)(c:Nat),vs=[.int i,.int j,.int (c:Int)]/\(0<=i/\i<2^61/\0<=j/\j<2^61/\0<c/\c<1000)/\R (jh i c ((j-i+(c:Int)-1)/(c:Int)).toNat) H1
theorem LV{i j:Int}{c:Nat}(hc:0<c):Builtin.Range.rangeSize i j (c:Int)=(((j-i+(c:Int)-1)/(c:Int)).toNat:Int):=by
 have c0:(c:Int)>0:=by omega
 unfold Builtin.Range.rangeSize;rw[if_pos c0];by_cases h:i<j
 · rw[if_pos h,show j-i+(c:Int)-1=(j-i-1)+1*(c:Int) by omega,Int.add_mul_ediv_right _ _ (by omega)];have:0<=(j-i-1)/(c:Int):=Int.ediv_nonneg (by omega) (by omega);omega
 · rw[if_neg h];have:(j-i+(c:Int)-1)/(c:Int)<=0:=by have h1:(j-i+(c:Int)-1)/(c:Int)<1:=Int.ediv_lt_of_lt_mul (by omega) (by omega);omega
   omega
theorem o7{i j:Int}{c:Nat}(q:0<=i/\i<2^61/\0<=j/\j<2^61/\0<c/\c<1000):Builtin.Range.small i j (c:Int)=true:=by
 obtain⟨a1,a2,a3,a4,a5,a6⟩:=q;have c0:(c:Int)>0:=by omega
 have sz:Builtin.Range.rangeSize i j (c:Int)<=2^61+1/\0<=Builtin.Range.rangeSize i j (c:Int):=by
  rw[LV a5];refine⟨?_,by omega⟩;have h1:(j-i+(c:Int)-1)/(c:Int)<2^61+1:=Int.ediv_lt_of_lt_mul (by omega) (by
   have:(2^61+1:Int)*(c:Int)=2^61*(c:Int)+(c:Int):=by rw[Int.add_mul,Int.one_mul]
   have h2:(2^61:Int)*1<=2^61*(c:Int):=Int.mul_le_mul_of_nonneg_left (by omega) (by decide);omega)
  omega
 unfold Builtin.Range.small;simp only[Builtin.Range.rangeFitsLong,Bool.and_eq_true,Bool.or_eq_true,decide_eq_true_eq,beq_iff_eq,c0,if_true];omega
theorem e8 {a b d:Expr} {ta:TA} {p pos:Pos} (hg:Gl X "range") (hm:X.mg "range" =none) (ha:PA X [a,b,d] ta) (hs:starEach [a,b,d] X.env=[(false,eval a X.env),(false,eval b X.env),(false,eval d X.env)]) (hs2:starEach [b,d] X.env=[(false,eval b X.env),(false,eval d X.env)]) :
 PI X tg (.Call (.Name "range" p) [a,b,d] [] pos) (Sy ta):=by
 intro pins s σ H R I h;refine Call_ (sH I hg hm boot_range (PyProof.Rows.callWith_type1 (nB (ha pos pins s σ H _ I h) fun us s1 zz=>?_) (by rw[hs,hs2]) (by rw[hs2];rfl)));obtain⟨vs,H1,I1,r1,q1⟩:=zz;obtain⟨i,j,c,e,qq,q⟩:=q1;subst e;cases r1 with
 | cons r rr=>
  cases rr with
  | cons r' rr=>
   cases rr with
   | cons r'' rr=>
    cases rr;obtain⟨t,rfl⟩:=r;obtain⟨t',rfl⟩:=r';obtain⟨t'',rfl⟩:=r'';have c5:=qq.2.2.2.2.1;have c6:=qq.2.2.2.2.2;refine call_range_3 (show((c:Nat):Int)≠0 by omega) ?_ (Or.inl (PyProof.noPylong_small (by omega)));refine wpAny_pyIter_range (IsRange.new ..) (o7 qq) ?_;have I2:Inv X pins σ H1 { s1 with heap:=s1.heap.push { cls:=.type "range",data:=.fields #[.int i t,.int j t',.int (c:Int) t''] },toks:=s1.toks }:=I1.kept fun b o e=>Heap.get?_push_of_some _ e
    refine⟨(s1.heap.push { cls:=.type "range",data:=.fields #[.int i t,.int j t',.int (c:Int) t''] }).objs.size,[(s1.heap.push { cls:=.type "range",data:=.fields #[.int i t,.int j t',.int (c:Int) t''] }).objs.size],_,_,H1,rfl,
     I2.kept (t':=s1.toks) fun b o e=>Heap.get?_push_of_some _ e,T7 _ i c ((j-i+(c:Int)-1)/(c:Int)).toNat,?_,fun b hb=>?_,q⟩
    · have e1:i+((0:Nat):Int)*(c:Int)=i:=by simp
      have e2:((((j-i+(c:Int)-1)/(c:Int)).toNat:Nat):Int)-((0:Nat):Int)=Builtin.Range.rangeSize i j (c:Int):=by rw[LV c5];omega
      show IsRangeIter _ _ (i+((0:Nat):Int)*(c:Int)) (((((j-i+(c:Int)-1)/(c:Int)).toNat:Nat):Int)-((0:Nat):Int)) (c:Int);rw[e1,e2];exact Heap.get?_push_size _ rfl
    · have e:b=(s1.heap.push { cls:=.type "range",data:=.fields #[.int i t,.int j t',.int (c:Int) t''] }).objs.size:=by simpa using hb
      subst e;exact I2.Bm (zeg _) (I2.hok.fresh (zeg _))
end
end L2
namespace SM
noncomputable def AZ(f g:RE)(c:Nat):RI:=fun l h=>(f l h).bind fun r=>(g l r.2).bind fun q=>match r.1,q.1 with
 | .int i,.int j=>if 0<=i/\i<2^61/\0<=j/\j<2^61/\0<c/\c<1000 then some (.vals ((List.range ((j-i+(c:Int)-1)/(c:Int)).toNat).map fun(k:Nat)=>Dt.int (i+(k:Int)*(c:Int))),q.2)else none | _,_=>none
noncomputable def uI:DD:=fun a b h=>match a,b with
 | .tup xs,.tup ys=>if xs ≠ []/\xs.length+ys.length<=sizeLine then some (.tup (xs++ys),h)else none
 | _,_=>none
noncomputable def DE(f:Str)(v:Dt):List (Str×Dt)->List (Str×Dt)
 | []=>[(f,v)]
 | (g,x)::r=>if g=f then(g,v)::r else(g,x)::DE f v r
noncomputable def vD(f:Str):List (Str×Dt)->Option Dt
 | []=>none
 | (g,x)::r=>if f=g then some x else vD f r
def XG(x f:Str)(fo:RE):RE:=fun l h=>(fo l h).bind fun r=>match r.1 with
 | .ref n=>(match r.2[n]? with
  | some (.ins y fs)=>if y=x then(vD f fs).bind fun d=>some (d,r.2)else none
  | _=>none)
 | _=>none
def mI(x f:Str)(fo fe:RE):RS:=fun l h=>(fe l h).bind fun r=>(fo l r.2).bind fun q=>match q.1 with
 | .ref n=>(match q.2[n]? with
  | some (.ins y fs)=>if y=x/\fs.length<1000 then some (.nx l (q.2.set n (.ins y (DE f r.1 fs))))else none
  | _=>none)
 | _=>none
noncomputable def qO(x:Str)(F:RB)(g:RA):RE:=fun l h=>(g l h).bind fun r=>(F (.ref r.2.length::r.1) (r.2++[.ins x []])).bind fun q=>match q.1 with
 | .non=>some (.ref r.2.length,q.2)
 | _=>none
def sI(x m:Str)(F:RB)(fo:RE)(g:RA):RE:=fun l h=>(fo l h).bind fun r=>match r.1 with
 | .ref n=>(match r.2[n]? with
  | some (.ins y fs)=>if y=x/\vD m fs=none then(g l r.2).bind fun q=>F (.ref n::q.1) q.2 else none
  | _=>none)
 | _=>none
section
variable{X:Cx}{tg:Expr}
theorem p8 {a b:Expr} {f g:RE} {c:Nat} {p pos:Pos} {d:Expr} (hg:Gl X "range") (hm:X.mg "range" =none) (ha:EM X a f) (hb:EM X b g) (hd:EM X d (eC (.int (c:Int)))) (hs:uB a=true:=by rfl) (hs2:uB b=true:=by rfl) (hs3:uB d=true:=by rfl) :
 IM X tg (.Call (.Name "range" p) [a,b,d] [] pos) (AZ f g c):=by
 with_unfolding_all
  exact PI.imp (e8 hg hm (mD ha (mD hb (mD hd vE (lB hs3 _ _)) (lB hs2 _ _)) (lB hs _ _)) (by rw[lB hs,lB hs2,lB hs3];rfl) (by rw[lB hs2,lB hs3];rfl)) fun σ H R zz=>by
   obtain⟨ρ,l,h,s,h',S,L,e,k⟩:=zz;obtain⟨⟨d1,h1⟩,e1,e⟩:=nA e;obtain⟨⟨d2,h2⟩,e2,e⟩:=nA e;refine⟨ρ,l,h,d1,h1,S,L,e1,fun ρ1 v H1 R1 S1 E1=>⟨ρ1,l,h1,d2,h2,S1,L.ext E1,e2,fun ρ2 u H2 R2 S2 E2=>⟨ρ2,l,h2,.int (c:Int),h2,S2,L.ext (E1.trans E2),rfl,fun ρ3 u3 H3 R3 S3 E3=>?_⟩⟩⟩;cases d1 with
   | int i=>
    cases d2 with
    | int j=>
     obtain⟨cc,e⟩:=nE e;cases e;refine⟨i,j,c,by rw[Vr.mp R1,Vr.mp R2,Vr.mp R3],cc,k ρ3 _ H3 (fun H4 ρ4 h4 E4 S4 n=>?_) S3 (E1.trans (E2.trans E3))⟩;simp only[Src.at,getElem?_map];by_cases hi:n<((j-i+(c:Int)-1)/(c:Int)).toNat
     · rw[getElem?_range hi];refine⟨hi,fun v H5 q=>?_⟩;obtain⟨rfl,rfl⟩:=q;exact⟨Vr.mpr rfl,Ext.refl _ _,S4⟩
     · rw[getElem?_eq_none (by simpa using Nat.not_lt.mp hi)];exact Nat.not_lt.mp hi
    | _=>cases e
   | _=>cases e
theorem HX:OM X (binaryOp .Add) uI:=by
 with_unfolding_all
  exact Kd.imp Rj fun x y H Q zz=>by
   obtain⟨ρ,h,d1,d2,d,h',S,R1,R2,e,k⟩:=zz;cases d1 with
   | tup xs=>
    cases d2 with
    | tup ys=>
     obtain⟨⟨hx,hz⟩,e⟩:=nE e;cases e;obtain⟨a,vs,z1,q1,r1⟩:=bf.mp R1;obtain⟨b,ws,z2,q2,r2⟩:=bf.mp R2;refine⟨a,b,vs,ws,z1,z2,q1.sq,q2.sq,fun z=>?_,by rw[r1.length,r2.length];exact hz,fun z=>?_,fun z p hp=>k ρ _ _ (jL S (r1.append r2) hp) (S.fresh hp) (Ext.fresh hp)⟩
     · have:=r1.length;rw[z]at this;exact hx (length_eq_zero_iff.mp this.symm)
     · have hl:=r2.length;rw[z]at hl;have hy:ys=[]:=length_eq_zero_iff.mp hl.symm;subst hy;rw[zei]at k;exact k ρ _ _ (z1 ▸ R1) S (Ext.refl _ _)
    | _=>cases e
   | _=>cases e
end
def vO(f:RE):RI:=fun l h=>(f l h).bind fun r=>match r.1 with
 | .lst xs=>some (.vals (tI 0 xs),r.2)
 | .ref n=>(match r.2[n]? with
  | some (.lst _)=>some (.en n,r.2)
  | _=>none)
 | _=>none
theorem xq {X:Cx} {elts:List Expr} {x1} {tp p pos:Pos} {a:Expr} {f:RE} (hg:Gl X "enumerate") (hm:X.mg "enumerate" =none) (ha:EM X a f) (hs:uB a=true:=by rfl):IM X (.Tuple elts x1 tp) (.Call (.Name "enumerate" p) [a] [] pos) (vO f):=by
 with_unfolding_all
  refine PI.imp (Av hg hm (mD ha vE (lB hs _ _)) (lB hs _ _)) fun σ H R zz=>?_
  obtain⟨ρ,l,h,s,h',S,L,e,k⟩:=zz;obtain⟨⟨d1,h2⟩,e1,e⟩:=nA e;refine⟨ρ,l,h,d1,h2,S,L,e1,fun ρ1 v H1 R1 S1 E1=>?_⟩;cases d1 with
  | lst xs=>
   cases e;obtain⟨b,ws,rfl,q,r⟩:=Zr.mp R1;refine⟨b,rfl,⟨ws,q.sq⟩,k ρ1 _ H1 (fun H2 ρ2 h2 E2 S2 i=>?_) S1 E1⟩;have q2:=q.same E2;have r2:=Ur.same E2 _ r;simp only[Src.at,cW,Nat.zero_add];cases ei:xs[i]? with
   | none=>refine⟨ws,q2.sq,?_⟩;rw[r.length];exact getElem?_eq_none_iff.mp ei
   | some d=>obtain⟨v,g1,g2⟩:=r2.get ei;refine⟨⟨ws,v,q2.sq,g1⟩,fun u H3 y=>?_⟩;obtain⟨p0,y0,hp,rfl,gy,rfl⟩:=y;have g3:=gy ws q2.sq;rw[g1]at g3;cases g3;exact⟨jL S2 (.cons (Vr.mpr rfl) (.cons g2 .nil)) hp,Ext.fresh hp,S2.fresh hp⟩
  | ref n=>
   dsimp only at e;split at e
   · rename_i xs0 q0;cases e;obtain⟨b,rfl,hb⟩:=uf.mp R1;obtain⟨Ep,g0,_⟩:=S1.lst hb q0;refine⟨b,rfl,⟨Ep,Qd.of g0⟩,k ρ1 _ H1 (fun H2 ρ2 h2 E2 S2 i=>?_) S1 E1⟩;have hb2:=E2.ix _ _ hb;simp only[Src.at];cases q:h2[n]? with
     | none=>trivial
     | some o=>
      cases o with
      | lst xs=>
       obtain⟨ws,g1,r⟩:=S2.lst hb2 q;dsimp only;cases ei:xs[i]? with
       | none=>refine⟨ws,Qd.of g1,?_⟩;rw[r.length];exact getElem?_eq_none_iff.mp ei
       | some d=>obtain⟨v,g2,g3⟩:=r.get ei;refine⟨⟨ws,v,Qd.of g1,g2⟩,fun u H3 y=>?_⟩;obtain⟨p0,y0,hp,rfl,gy,rfl⟩:=y;have g4:=gy ws (Qd.of g1);rw[g2]at g4;cases g4;exact⟨jL S2 (.cons (Vr.mpr rfl) (.cons g3 .nil)) hp,Ext.fresh hp,S2.fresh hp⟩
      | _=>trivial
   · cases e
  | _=>cases e
theorem lU{c:Prop}[Decidable c]{α:Type}{x:Option α}{b:α}(e:(if c then x else none)=some b):c/\x=some b:=by
 by_cases h:c
 · rw[if_pos h]at e;exact⟨h,e⟩
 · rw[if_neg h]at e;cases e
noncomputable def clsOf(K:Frag)(x:Str)(C:Addr):Prop:=nsIn K mainGlobals x=some (some (.ref C))
theorem clsOf.inj{K:Frag}{x:Str}{C C':Addr}(h:clsOf K x C)(h':clsOf K x C'):C=C':=by have:=h.symm.trans h';cases this;rfl
theorem jS{K:Frag}{H:Hp}{ρ:Rg}{f:Str}:∀{fs:List (Str×Dt)}{vs:List (Str×V)},fs.map (·.1)=vs.map (·.1)->Ur K H ρ (fs.map (·.2)) (vs.map (·.2))->
 (∀d,vD f fs=some d->∃v,vs.lookup f=some v/\Wr K H ρ d v)/\(vD f fs=none->vs.lookup f=none)
 | [],[],_,_=>⟨(fun _ h=>by cases h),fun _=>rfl⟩
 | [],_::_,e,_=>by cases e
 | _::_,[],e,_=>by cases e
 | (x,d)::fs,(y,v)::vs,e,r=>by
  simp only[zd5,List.cons.injEq]at e;obtain⟨e0,e⟩:=e;subst e0;obtain⟨v',rr,q,h1,h2⟩:=Ur.zf r;cases q;obtain⟨i1,i2⟩:=jS (f:=f) e h2;by_cases z:f=x
  · have zb:(f==x)=true:=beq_iff_eq.mpr z;refine⟨fun d' h=>?_,fun h=>?_⟩
    · simp only[vD,if_pos z]at h;cases h;exact⟨v,by simp only[List.lookup,zb],h1⟩
    · simp only[vD,if_pos z]at h;cases h
  · have zb:(f==x)=false:=by rw[<- Bool.not_eq_true,beq_iff_eq];exact z
    refine⟨fun d' h=>?_,fun h=>?_⟩
    · simp only[vD,if_neg z]at h;obtain⟨w,w1,w2⟩:=i1 d' h;exact⟨w,by simp only[List.lookup,zb];exact w1,w2⟩
    · simp only[vD,if_neg z]at h;simp only[List.lookup,zb];exact i2 h
theorem IW{K:Frag}{H:Hp}{ρ:Rg}{f:Str}{d:Dt}{v:V}(rd:Wr K H ρ d v):∀{fs:List (Str×Dt)}{vs:List (Str×V)},fs.map (·.1)=vs.map (·.1)->Ur K H ρ (fs.map (·.2)) (vs.map (·.2))->
 (DE f d fs).map (·.1)=(L2.wB f v vs).map (·.1)/\Ur K H ρ ((DE f d fs).map (·.2)) ((L2.wB f v vs).map (·.2))
 | [],[],_,_=>⟨rfl,.cons rd .nil⟩
 | [],_::_,e,_=>by cases e
 | _::_,[],e,_=>by cases e
 | (x,d0)::fs,(y,v0)::vs,e,r=>by
  simp only[zd5,List.cons.injEq]at e;obtain⟨e0,e⟩:=e;subst e0;obtain⟨v',rr,q,h1,h2⟩:=Ur.zf r;cases q;by_cases z:x=f
  · simp only[DE,L2.wB,if_pos z,zd5];exact⟨by rw[e],.cons rd h2⟩
  · obtain⟨i1,i2⟩:=IW rd (f:=f) e h2;simp only[DE,L2.wB,if_neg z,zd5];exact⟨by rw[i1],.cons h1 i2⟩
structure tJ(K:Frag)(x f:Str):Prop where
 ex:∃C,clsOf K x C/\Cls K C/\Vc K C f
structure UG(P:Program)(w:World)(K:Frag)(mg:Str->Option Value)(base:Heap)(k n:Nat)(x m:Str)(F:RB):Prop where
 ex:∃C f fd ps,clsOf K x C/\Cls K C/\IJ K C m f/\Jd P w K mg base VF k f fd ps (OI K n F)/\Binds K fd ps []
 len:∀ds h r,F ds h=some r->ds.length=n
structure bL(K:Frag)(x m qual:Str)(st:Stmt)(ps:List Str):Prop where
 ex:∃C f fd,clsOf K x C/\Cls K C/\IJ K C m f/\El K m qual st f fd/\Binds K fd ps []
structure UO(P:Program)(w:World)(K:Frag)(mg:Str->Option Value)(base:Heap)(k n:Nat)(x:Str)(F:RB):Prop where
 ex:∃C f fd ps,clsOf K x C/\Mk K C f/\Jd P w K mg base VF k f fd ps (OI K n F)/\mg x=some (.ref C)/\Binds K fd ps []
 len:∀ds h r,F ds h=some r->ds.length=n
structure aT(K:Frag)(mg:Str->Option Value)(x qual:Str)(st:Stmt)(ps:List Str):Prop where
 ex:∃C f fd,clsOf K x C/\Mk K C f/\El K "__init__" qual st f fd/\mg x=some (.ref C)/\Binds K fd ps []
section
variable{P:Program}{w:World}{K:Frag}{mg:Str->Option Value}{base:Heap}
theorem FX{x m qual:Str}{st:Stmt}{N ps:List Str}{k n mm:Nat}{body:RS}(D:bL K x m qual st ps)(S:WA N ps (yA st))(hn:ps.length=n)(hm:N.length=mm)
 (hb:∀(f:Addr)(cdv:Value)(A:Around)(outer:List Env)(s:Shared)(H:Hp)(E:XK),Qf k (A.deeper (envOfC qual (yA st) s.heap.objs.size f cdv))->
  MH (kF VF P w K mg base N qual (yA st) f cdv A outer s H E).Al (lD st) body):UG P w K mg base (k+1) n x m (nC n mm body):=by
 with_unfolding_all subst hn hm;obtain⟨C,f,fd,c1,c2,c3,hF,hB⟩:=D.ex;exact⟨⟨C,f,fd,ps,c1,c2,c3,sO hF S fun cdv A outer s H E hr=>hb f cdv A outer s H E hr,hB⟩,fun ds h r e=>UN e⟩
theorem Mq{x m qual:Str}{st:Stmt}{ps:List Str}{k n:Nat}(D:bL K x m qual st ps):UG P w K mg base k n x m (fun _ _=>none):=by
 with_unfolding_all
  obtain⟨C,f,fd,c1,c2,c3,hF,hB⟩:=D.ex;refine⟨⟨C,f,fd,ps,c1,c2,c3,⟨fun vs H Q E h=>?_,fun A outer s H args us vs Q E hr he hb hv h=>?_⟩,hB⟩,fun ds h r e=>by cases e⟩
  · obtain⟨ρ,ds,h,d,h',_,_,_,e,_⟩:=h;cases e
  · obtain⟨ρ,ds,h,d,h',_,_,_,e,_⟩:=h;cases e
theorem Fq{x qual:Str}{st:Stmt}{N ps:List Str}{k n mm:Nat}{body:RS}(D:aT K mg x qual st ps)(S:WA N ps (yA st))(hn:ps.length=n)(hm:N.length=mm)
 (hb:∀(f:Addr)(cdv:Value)(A:Around)(outer:List Env)(s:Shared)(H:Hp)(E:XK),Qf k (A.deeper (envOfC qual (yA st) s.heap.objs.size f cdv))->
  MH (kF VF P w K mg base N qual (yA st) f cdv A outer s H E).Al (lD st) body):UO P w K mg base (k+1) n x (nC n mm body):=by
 with_unfolding_all subst hn hm;obtain⟨C,f,fd,c1,c2,hF,c3,hB⟩:=D.ex;exact⟨⟨C,f,fd,ps,c1,c2,sO hF S fun cdv A outer s H E hr=>hb f cdv A outer s H E hr,c3,hB⟩,fun ds h r e=>UN e⟩
end
theorem BZ{H:Hp}{a C dx:Addr}{vs:List (Str×V)}(h:H a=some (.ins C dx vs)):XT H a:=fun _ _ e=>by rw[h]at e;cases e
section
variable{X:Cx}{e o value:Expr}{es:List Expr}{x f m:Str}{fo fe:RE}{g:RA}{pos pos' apos p:Pos}{k k' n:Nat}{F:RB}
theorem gL(cl:tJ X.K x f)(ha:EM X e fo)(hb:attributeBase e f X.env (eval e X.env)=eval e X.env:=by rfl):EM X (.Attribute e f pos) (XG x f fo):=by
 with_unfolding_all
  exact PE.imp (Hw ha hb) fun σ H Q zz=>by
   obtain⟨ρ,l,h,d,h',S,L,e,k⟩:=zz;obtain⟨⟨d1,h1⟩,e1,e⟩:=nA e;refine⟨ρ,l,h,d1,h1,S,L,e1,fun ρ1 v H1 R1 S1 E1=>?_⟩;cases d1 with
   | ref n=>
    dsimp only at e;split at e
    · rename_i y fs q;obtain⟨hy,e3⟩:=lU e;subst hy;obtain⟨d2,q2,e4⟩:=nA e3;cases e4;obtain⟨a,z,ha⟩:=uf.mp R1;obtain⟨C,dx,vs,c1,g1,g2,g3⟩:=S1.ob n a _ ha q;obtain⟨C',c2,c3,c4⟩:=cl.ex;have cc:C'=C:=clsOf.inj c2 c1;subst cc;obtain⟨v2,w1,w2⟩:=(jS g2 g3).1 _ q2;exact⟨a,C',dx,vs,v2,z,g1,c3,c4,w1,k ρ1 _ _ w2 S1 E1⟩
    · cases e
   | _=>cases e
theorem pO(cl:tJ X.K x f)(ha:EM X o fo)(hv:EM X value fe)(hs:swapsWith value (some (.Attribute o f pos')) pos.line X.env=pure false:=by rfl):ZM X (.Assign [.Attribute o f pos'] value pos) (mI x f fo fe):=by
 with_unfolding_all
  exact PS.imp (Uw ha hv hs) fun D σ H zz=>by
   obtain⟨ρ,l,h,r,S,L,e,k⟩:=zz;obtain⟨⟨v,hv⟩,e1,e⟩:=nA e;obtain⟨⟨d,hd⟩,e2,e⟩:=nA e;refine⟨ρ,l,h,v,hv,S,L,e1,fun ρ1 u H1 R1 S1 E1=>⟨ρ1,l,hv,d,hd,S1,L.ext E1,e2,fun ρ2 y H2 R2 S2 E2=>?_⟩⟩;cases d with
   | ref n=>
    dsimp only at e;split at e
    · rename_i y fs q;obtain⟨⟨hy,hl⟩,e⟩:=nE e;cases e;subst hy;obtain⟨a,zz,ha⟩:=uf.mp R2;obtain⟨C,dx,vs,c1,g1,g2,g3⟩:=S2.ob n a _ ha q;obtain⟨C',c2,c3,c4⟩:=cl.ex;have cc:C'=C:=clsOf.inj c2 c1;subst cc;have hm:=mem_of_getElem? ha;have hlen:vs.length=fs.length:=by have:=congrArg List.length g2;simpa using this.symm
      obtain⟨p1,p2⟩:=IW (f:=f) (Wr.ext E2 _ R1) g2 g3;refine⟨a,C',dx,vs,zz,g1,c3,c4,by rw[hlen];exact hl,?_⟩;exact k ρ2 σ _ (S2.write ha (BZ g1) ⟨C',dx,_,c1,SC,p1,p2.ext (Ext.write hm (BZ g1))⟩) (L.ext (E1.trans (E2.trans (Ext.write hm (BZ g1))))) (E1.trans (E2.trans (Ext.write hm (BZ g1))))
    · cases e
   | _=>cases e
theorem Sx (c:UO X.prog X.w X.K X.mg X.base k n x F) (hr:Qf k' X.A) (hk:k+1<=k') (hg:Gl X x) (ha:AM X (e::es) g) (hdb:(x==("__debug__" :Str))=false:=by decide)
 (he:uB e=true:=by rfl) (hpl:es.all uB=true:=by rfl):EM X (.Call (.Name x p) (e::es) [] pos) (qO x F g):=by
 with_unfolding_all
  obtain⟨C,f,fd,ps,c1,c2,c3,c4,c5⟩:=c.ex;exact PE.imp (Yj c2 c3 (hr.mono hk) hg c4 c5 .nil (E:=E0) uT ha hdb (lB he _ _) (cJ hpl)) fun σ H Q zz=>by
   obtain⟨ρ,l,h,d,h',S,L,e,k⟩:=zz;obtain⟨⟨ds1,h1⟩,e1,e⟩:=nA e;obtain⟨⟨d2,h2⟩,e2,e⟩:=nA e;cases d2 with
   | non=>
    cases e;refine⟨ρ,l,h,ds1,h1,S,L,e1,fun ρ1 vs H1 R1 S1 E1 xa dx hx hdx hne=>?_⟩;have S2:jf X.K ρ1 h1 (xB H1 dx (.own xa)):=S1.fresh hdx;have hx2:xB H1 dx (.own xa) xa=none:=by rw[QA (Ne.symm hne)];exact hx
    have S3:=S2.own (p:=xa) (o:=.ins C dx []) (u:=.ins x []) hx2 ⟨C,dx,[],c1,SC,rfl,.nil⟩;have E3:Ext ρ1 (ρ1.add xa) H1 (xB (xB H1 dx (.own xa)) xa (.ins C dx [])):=(Ext.fresh hdx).trans (Ext.own hx2);have at3:(ρ1.add xa).v[h1.length]?=some xa:=by simp[Rg.add,<- S1.len]
    have R3:Ur X.K (xB (xB H1 dx (.own xa)) xa (.ins C dx [])) (ρ1.add xa) (.ref h1.length::ds1) (.ref xa::(vs++[])):=.cons (uf.mpr ⟨xa,rfl,at3⟩) (by rw[zei];exact R1.ext E3);exact⟨ρ1.add xa,_,_,.non,h2,S3,R3,c.len _ _ _ e2,e2,fun ρ' v H' R' S' E'=>⟨vf.mp R',k ρ' _ H' (uf.mpr ⟨xa,rfl,E'.get at3⟩) S' (E1.trans (E3.trans E'))⟩⟩
   | _=>cases e
theorem sS{pl:Sem Bool}(c:UG X.prog X.w X.K X.mg X.base k n x m F)(hr:Qf k' X.A)(hk:k<=k')(ho:EM X o fo)(ha:AM X (e::es) g)
 (he:uB e=true:=by rfl) (hpl:es.all uB=true:=by rfl)
 (ht:eval (.Call (.Attribute o m apos) (e::es) [] pos) X.env=(do
  let ov <- eval o X.env
  standAt apos.atName
  let (f,first) <- holding [ov] (getMethod ov m pl)
  callWith pos f first (backTo pos (starEach (e::es) X.env)) (backToKw pos (keywordEach [] X.env))):=by rfl):EM X (.Call (.Attribute o m apos) (e::es) [] pos) (sI x m F fo g):=by
 with_unfolding_all
  obtain⟨C,f,fd,ps,c1,c2,c3,c4,c5⟩:=c.ex;exact PE.imp (Zj (pl:=pl) ho c2 c3 c4 (hr.mono hk) c5 .nil (E:=E0) uT ha (lB he _ _) (cJ hpl) ht) fun σ H Q zz=>by
   obtain⟨ρ,l,h,d,h',S,L,e,k⟩:=zz;obtain⟨⟨d1,h1⟩,e1,e⟩:=nA e;refine⟨ρ,l,h,d1,h1,S,L,e1,fun ρ1 v H1 R1 S1 E1=>?_⟩;cases d1 with
   | ref nn=>
    dsimp only at e;split at e
    · rename_i y fs q;obtain⟨⟨hy,hl⟩,e3⟩:=lU e;subst hy;obtain⟨⟨ds,h2⟩,e2,e4⟩:=nA e3;obtain⟨a,z,ha⟩:=uf.mp R1;obtain⟨C',dx,vs,c1',g1,g2,g3⟩:=S1.ob nn a _ ha q;have cc:C'=C:=clsOf.inj c1' c1;subst cc;refine⟨a,dx,vs,z,g1,(jS g2 g3).2 hl,ρ1,l,h1,ds,h2,S1,L.ext E1,e2,fun ρ2 us H2 R2 S2 E2=>?_⟩;exact⟨ρ2,_,h2,d,h',S2,.cons (Wr.ext E2 _ R1) (by rw[zei];exact R2),c.len _ _ _ e4,e4,(k.ext E1).ext E2⟩
    · cases e
   | _=>cases e
end
structure SO(K:Frag)(x qual:Str)(st:Stmt)(dV:Value)(f:Addr)(fd:FuncData):Prop where
 ex:∃(oc:Value)(od:Option Addr)(kV doc pm:Value)(an:Option Addr)(cdv ct:Value)(osl:Array (Option Value)),
  fd=fnOf x qual (WE st) (lD st) (yA st) dV kV doc pm an cdv ct/\K.lookup f=some ⟨oc,od,.func fd,osl⟩/\PySem.W.codeIn K cdv qual=true
 kp:keepIn K (.ref f)=true
section
variable{P:Program}{w:World}{K:Frag}{mg:Str->Option Value}{base:Heap}
theorem gq{x qual:Str}{st:Stmt}{f:Addr}{oc dV:Value}{od an:Option Addr}{osl:Array (Option Value)}{kV doc pm cdv ct:Value}(l:K.lookup f=some ⟨oc,od,.func (fnOf x qual (WE st) (lD st) (yA st) dV kV doc pm an cdv ct),osl⟩)
 (c:PySem.W.codeIn K cdv qual=true) (k:keepIn K (.ref f)=true):SO K x qual st dV f (fnOf x qual (WE st) (lD st) (yA st) dV kV doc pm an cdv ct):=⟨⟨oc,od,kV,doc,pm,an,cdv,ct,osl,rfl,l,c⟩,k⟩
theorem uz{x qual:Str}{st:Stmt}{dV:Value}{f:Addr}{fd:FuncData}{N ps:List Str}{k:Nat}{body:RS}(F:SO K x qual st dV f fd)(S:WA N ps (yA st))
 (hb:∀(cdv:Value)(A:Around)(outer:List Env)(s:Shared)(H:Hp)(E:XK),Qf k (A.deeper (envOfC qual (yA st) s.heap.objs.size f cdv))->
  MH (kF VF P w K mg base N qual (yA st) f cdv A outer s H E).Al (lD st) body):Jd P w K mg base VF (k+1) f fd ps (OI K ps.length (nC ps.length N.length body)):=by
 with_unfolding_all
  obtain⟨oc,od,kV,doc,pm,an,cdv,ct,osl,rfl,lk,hcd⟩:=F.ex;refine eZ lk hcd S (fun vs H Q E h=>?_) fun A outer s H vs Q E hr h=>?_
  · obtain⟨ρ,ds,h,d,h',S,R,hl,_⟩:=h;rw[R.length,hl]
  · obtain⟨ρ,ds,h,d,h',S,R,hl,e,k⟩:=h;refine⟨_,(hb cdv A outer s H E hr).Al,?_⟩;unfold nC at e;rw[if_pos hl]at e;rw[<- hl]at e;split at e
    · rename_i d1 h1 q;cases e;exact⟨ρ,_,h,_,S,iN R,q,k⟩
    · rename_i l1 h1 q;cases e;exact⟨ρ,_,h,_,S,iN R,q,fun ρ' σ' H' S' L' E'=>k ρ' _ H' (vf.mpr rfl) S' E'⟩
    · cases e
structure FL(K:Frag)(mg:Str->Option Value)(x:Str)(st:Stmt)(ps:List Str)(Yb:List Dt):Prop where
 ex:∃dV f fd ds Xc,SO K x x st dV f fd/\mg x=some (.ref f)/\Binds K fd ps ds/\Vals Xc ds/\∀H ρ,Ur K H ρ Yb Xc
structure DL(P:Program)(w:World)(K:Frag)(mg:Str->Option Value)(base:Heap)(k n:Nat)(x:Str)(F:RB)(Yb:List Dt):Prop where
 ex:∃f fd ps ds Xc,Jd P w K mg base VF k f fd ps (OI K n F)/\mg x=some (.ref f)/\keepIn K (.ref f)=true/\Binds K fd ps ds/\Vals Xc ds/\∀H ρ,Ur K H ρ Yb Xc
 len:∀ds h r,F ds h=some r->ds.length=n
theorem jx{x:Str}{st:Stmt}{N ps:List Str}{k n m:Nat}{body:RS}{Yb:List Dt}(D:FL K mg x st ps Yb)(S:WA N ps (yA st))(hn:ps.length=n)(hm:N.length=m)
 (hb:∀(f:Addr)(cdv:Value)(A:Around)(outer:List Env)(s:Shared)(H:Hp)(E:XK),Qf k (A.deeper (envOfC x (yA st) s.heap.objs.size f cdv))->
  MH (kF VF P w K mg base N x (yA st) f cdv A outer s H E).Al (lD st) body):DL P w K mg base (k+1) n x (nC n m body) Yb:=by
 with_unfolding_all subst hn hm;obtain⟨dV,f,fd,ds,Xc,hF,h1,h2,h3,h4⟩:=D.ex;exact⟨⟨f,fd,ps,ds,Xc,uz hF S fun cdv A outer s H E hr=>hb f cdv A outer s H E hr,h1,hF.kp,h2,h3,h4⟩,fun ds h r e=>UN e⟩
end
section
variable{X:Cx}{k k' n:Nat}{F:RB}{x:Str}{p pos:Pos}{e:Expr}{es:List Expr}{g:RA}{Yb:List Dt}
theorem g9 (c:DL X.prog X.w X.K X.mg X.base k n x F Yb) (hr:Qf k' X.A) (hk:k<=k') (hg:Gl X x) (ha:AM X (e::es) g) (hdb:(x==("__debug__" :Str))=false:=by decide)
 (he:uB e=true:=by rfl) (hpl:es.all uB=true:=by rfl) :
 EM X (.Call (.Name x p) (e::es) [] pos) (xA F Yb g):=by
 with_unfolding_all obtain⟨f,fd,ps,ds,Xc,h1,h2,h3,h4,h5,h6⟩:=c.ex;exact zW h1 (hr.mono hk) hg h2 h3 h4 h5 h6 ha (fun F' e ds h r q=>c.len ds h r (e ▸ q)) hdb he hpl
end
def qB(K:Frag)(x:Str)(st:Stmt):Prop:=∃(f:Addr)(oc:Value)(od:Option Addr)(kV dc pm:Value)(an:Option Addr)(cd ct:Value)(sl:Array (Option Value)),nsIn K mainGlobals x=some (some (.ref f))/\
 K.lookup f=some ⟨oc,od,.func (fnOf x x (WE st) (lD st) (yA st) .none kV dc pm an cd ct),sl⟩/\PySem.W.codeIn K cd x=true/\keepIn K (.ref f)=true
def WY(K:Frag)(x:Str)(st:Stmt)(d:Int):Prop:=∃(f:Addr)(oc:Value)(od:Option Addr)(td:Addr)(kV dc pm:Value)(an:Option Addr)(cd ct:Value)(sl:Array (Option Value))(ot:Obj)(t:Tok)(nt:Nat),nsIn K mainGlobals x=some (some (.ref f))/\
 K.lookup f=some ⟨oc,od,.func (fnOf x x (WE st) (lD st) (yA st) (.ref td) kV dc pm an cd ct),sl⟩/\PySem.W.codeIn K cd x=true/\keepIn K (.ref f)=true/\K.lookup td=some ot/\ot.data=.seq #[.int d t] nt
def sL(K:Frag)(C:Addr)(m qual:Str)(st:Stmt):Prop:=∃(f:Addr)(oc:Value)(od:Option Addr)(kV dc pm:Value)(an:Option Addr)(cd ct:Value)(sl:Array (Option Value)),findIn K (.ref C) m=some (some (.ref f))/\PySem.W.isFn K (.ref f)=true/\
 K.lookup f=some ⟨oc,od,.func (fnOf m qual (WE st) (lD st) (yA st) .none kV dc pm an cd ct),sl⟩/\PySem.W.codeIn K cd qual=true/\keepIn K (.ref f)=true
structure EL(K:Frag)(x:Str)(C:Addr):Prop where
 ac:nsIn K mainGlobals x=some (some (.ref C))
 pg:PySem.W.plainGet K C Str.empty=true
 hd:PySem.W.hasDictIn K C=true
 po:PySem.W.plainOver K C=true
 sa:findIn K (.ref C) "__setattr__" =some (some (.builtin "object.__setattr__"))
 mkk:PySem.W.makesIn K C=true
 kc:keepIn K (.ref C)=true
section
variable{K:Frag}{h:Heap}{mg:Str->Option Value}{x m qual:Str}{st:Stmt}{ps:List Str}{C:Addr}{d:Int}
theorem AB(X:K.In h)(G:h.Ns mainGlobals mg)(D:qB K x st)(hb:∀(kV doc pm:Value)(an:Option Addr)(cdv ct:Value)(us:List Value),us.length=ps.length->bindArgs (fnOf x x (WE st) (lD st) (yA st) .none kV doc pm an cdv ct) ⟨us,[]⟩=pure (ps.zip us)):rB K mg x st ps:=by obtain⟨f,oc,od,kV,dc,pm,an,cd,ct,sl,a,l,c,k⟩:=D;have F:=eO l c k;exact⟨⟨f,_,F,PySem.W.mg_of X G a,F.binds hb⟩⟩
theorem Ax(X:K.In h)(G:h.Ns mainGlobals mg)(D:WY K x st d)(hb:∀(s:Shared)(td:Addr)(ot:Obj)(t:Tok)(nt:Nat)(kV doc pm:Value)(an:Option Addr)(cdv ct:Value)(us:List Value),us.length=ps.length->s.heap.get? td=some ot->ot.data=.seq #[.int d t] nt->BindsTo s (fnOf x x (WE st) (lD st) (yA st) (.ref td) kV doc pm an cdv ct) ⟨us,[]⟩ (ps.zip (us++[]))):FL K mg x st ps []:=by obtain⟨f,oc,od,td,kV,dc,pm,an,cd,ct,sl,ot,t,nt,a,l,c,k,l2,e2⟩:=D;exact⟨⟨_,f,_,[],[],gq l c k,PySem.W.mg_of X G a,fun s us KX hl=>hb s td ot t nt _ _ _ _ _ _ us (by simpa using hl) (KX _ _ l2) e2,.nil,fun _ _=>.nil⟩⟩
theorem cX(k:EL K x C)(D:sL K C m qual st)(hb:∀(kV doc pm:Value)(an:Option Addr)(cdv ct:Value)(us:List Value),us.length=ps.length->bindArgs (fnOf m qual (WE st) (lD st) (yA st) .none kV doc pm an cdv ct) ⟨us,[]⟩=pure (ps.zip us)):bL K x m qual st ps:=by obtain⟨f,oc,od,kV,dc,pm,an,cd,ct,sl,a,i,l,c,k'⟩:=D;have F:=eO l c k';exact⟨⟨C,f,_,k.ac,⟨k.pg,k.hd,k.po,k.sa⟩,⟨a,i,k'⟩,F,F.binds hb⟩⟩
theorem o9 (X:K.In h) (G:h.Ns mainGlobals mg) (k:EL K x C) (D:sL K C "__init__" qual st) (hb:∀(kV doc pm:Value) (an:Option Addr) (cdv ct:Value) (us:List Value),us.length=ps.length->bindArgs (fnOf "__init__" qual (WE st) (lD st) (yA st) .none kV doc pm an cdv ct) ⟨us,[]⟩=pure (ps.zip us)):aT K mg x qual st ps:=by obtain⟨f,oc,od,kV,dc,pm,an,cd,ct,sl,a,i,l,c,k'⟩:=D;have F:=eO l c k';exact⟨⟨C,f,_,k.ac,⟨k.mkk,a,i,k.kc⟩,F,PySem.W.mg_of X G k.ac,F.binds hb⟩⟩
theorem vS{f:Str}(k:EL K x C)(n:findIn K (.ref C) f=some none):tJ K x f:=⟨⟨C,k.ac,⟨k.pg,k.hd,k.po,k.sa⟩,n⟩⟩
end
section
variable{Q:List Value->Prop}
theorem NL(h:Q []):∀us:List Value,us.length=0->Q us | [],_=>h
theorem XF{n:Nat}(h:∀a us,us.length=n->Q (a::us)):∀us:List Value,us.length=n+1->Q us | a::us,e=>h a us (Nat.succ.inj e)
theorem len1(h:∀a,Q [a]):∀us:List Value,us.length=1->Q us:=XF fun a=>NL (h a)
theorem ND(h:∀a b,Q [a,b]):∀us:List Value,us.length=2->Q us:=XF fun a=>XF fun b=>NL (h a b)
theorem vF(h:∀a b c,Q [a,b,c]):∀us:List Value,us.length=3->Q us:=XF fun a=>XF fun b=>XF fun c=>NL (h a b c)
theorem OJ(h:∀a b c d,Q [a,b,c,d]):∀us:List Value,us.length=4->Q us:=XF fun a=>XF fun b=>XF fun c=>XF fun d=>NL (h a b c d)
end
theorem jB{N P:List Str}{sc:Scope}(a:sc.kind=.function:=by exact rfl)(b:sc.isCoroutine=false:=by exact rfl)(c:sc.isGenerator=false:=by exact rfl)(d:N.Nodup:=by decide +kernel)(e:N.take P.length=P:=by exact rfl)
 (f:∀x∈P,sc.names.lookup x=some .local\/sc.names.lookup x=some .cell:=by decide +kernel) (g:∀y∈sc.names,y.2≠.free:=by decide +kernel):WA N P sc:=⟨a,b,c,d,e,f,g⟩
theorem MA {X:Cx} {k k' n:Nat} {x:Str} {F:RB} {e:Expr} {es:List Expr} {g:RA} {p pos:Pos} (c:kD X.prog X.w X.K X.mg X.base k n x F) (hr:Qf k' X.A) (ha:AM X (e::es) g) (hk:k<=k':=by decide) (hg:Gl X x:=by exact rfl) (hdb:(x==("__debug__" :Str))=false:=by decide)
 (he:uB e=true:=by rfl) (hpl:es.all uB=true:=by rfl):EM X (.Call (.Name x p) (e::es) [] pos) (xA F [] g):=oJ c hr hk hg ha hdb he hpl
end SM
namespace L2
section
variable{X:Cx}
end
end L2
namespace SM
section
variable{X:Cx}{a b:Expr}{fa fb:RE}
end
end SM
namespace L2
section
variable{X:Cx}
end
end L2
namespace SM
noncomputable def ZA{α β:Type}(o:Option α)(f:α->Option β):Option β:=o.bind f
@[simp] theorem lA{α β:Type}(a:α)(f:α->Option β):ZA (some a) f=f a:=by rfl
@[simp] theorem Cr{α β:Type}(f:α->Option β):ZA none f=none:=by rfl
@[simp] theorem yr{α β:Type}{c:Prop}[Decidable c](a b:Option α)(k:α->Option β):ZA (if c then a else b) k=if c then ZA a k else ZA b k:=by split<;>rfl
section
variable{l:LI}{h:HI}{f g fa fb fc:RE}
@[simp] theorem EA(d:Dt):eC d l h=some (d,h):=by rfl
noncomputable def QH(h:HI):Option (Option Dt)->Option (Dt×HI)
 | some (some d)=>some (d,h)
 | _=>none
@[simp] theorem qA(d:Dt):QH h (some (some d))=some (d,h):=by rfl
@[simp] theorem pA(i:Nat):eV i l h=QH h l[i]?:=by unfold eV QH;rfl
@[simp] theorem CA(op:DD):e2 op fa fb l h=ZA (fa l h) fun r=>ZA (fb l r.2) fun q=>op r.1 q.1 q.2:=by rfl
@[simp] theorem NA:eA l h=some ([],h):=by rfl
@[simp] theorem UA(r:RA):bA f r l h=ZA (f l h) fun r'=>ZA (r l r'.2) fun q=>some (r'.1::q.1,q.2):=by rfl
noncomputable def Lh:Dt×HI->Option (Bool×HI)
 | (.bl b,h)=>some (b,h)
 | _=>none
@[simp] theorem iB(b:Bool):Lh (.bl b,h)=some (b,h):=by rfl
@[simp] theorem dB:Rf f l h=ZA (f l h) Lh:=by
 unfold ZA;unfold Rf
 congr 1
 funext r
 obtain⟨d,h⟩:=r;cases d<;>rfl
@[simp] theorem jw(t u:RT):xL t u l h=ZA (t l h) fun r=>if r.1=true then u l r.2 else some (false,r.2):=by rfl
@[simp] theorem CO(t u:RT):HF t u l h=ZA (t l h) fun r=>if r.1=true then some (true,r.2)else u l r.2:=by rfl
@[simp] theorem mO(t:RT):pG t l h=ZA (t l h) fun r=>some (!r.1,r.2):=by rfl
noncomputable def SY(u:RE)(l:LI):Dt×HI->Option (Dt×HI)
 | (.bl true,h)=>u l h
 | (.bl false,h)=>some (.bl false,h)
 | _=>none
@[simp] theorem Zt(u:RE)(b:Bool):SY u l (.bl b,h)=if b=true then u l h else some (.bl false,h):=by cases b<;>rfl
@[simp] theorem Ut(u:RE):bM f u l h=ZA (f l h) (SY u l):=by
 unfold ZA;unfold bM
 congr 1
 funext r
 obtain⟨d,h⟩:=r;cases d<;>(try rfl);rename_i b;cases b<;>rfl
noncomputable def TY:Dt×HI->Option (Dt×HI)
 | (.bl b,h)=>some (.bl (!b),h)
 | _=>none
@[simp] theorem jr(b:Bool):TY (.bl b,h)=some (.bl (!b),h):=by rfl
@[simp] theorem Vt:dM f l h=ZA (f l h) TY:=by
 unfold ZA;unfold dM
 congr 1
 funext r
 obtain⟨d,h⟩:=r;cases d<;>rfl
@[simp] theorem nZ(t:RT):cM t f g l h=ZA (t l h) fun r=>if r.1=true then f l r.2 else g l r.2:=by rfl
noncomputable def Ah(o':DD)(fc:RE)(l:LI)(q:Dt):Dt×HI->Option (Dt×HI)
 | (.bl true,h)=>(fc l h).bind fun r=>o' q r.1 r.2
 | (.bl false,h)=>some (.bl false,h)
 | _=>none
@[simp] theorem Lz(o':DD)(q:Dt)(b:Bool):Ah o' fc l q (.bl b,h)=if b=true then ZA (fc l h) fun r=>o' q r.1 r.2 else some (.bl false,h):=by cases b<;>rfl
@[simp] theorem Ov(o o':DD):gI o o' fa fb fc l h=ZA (fa l h) fun r=>ZA (fb l r.2) fun q=>ZA (o r.1 q.1 q.2) (Ah o' fc l q.1):=by
 unfold ZA;unfold gI
 congr 1
 funext r
 congr 1
 funext q
 congr 1
 funext z
 obtain⟨d,h⟩:=z;cases d<;>(try rfl);rename_i b;cases b<;>rfl
@[simp] theorem RD(r:RA):mB r l h=ZA (r l h) fun r=>if r.1.length<=sizeLine then some (.tup r.1,r.2)else none:=by rfl
@[simp] theorem KG(r:RA):uF r l h=ZA (r l h) fun r=>if r.1.length<=sizeLine then some (.lst r.1,r.2)else none:=by rfl
@[simp] theorem LG(r:RA):EF r l h=ZA (r l h) fun r=>if r.1.length<=sizeLine then some (.ref r.2.length,r.2++[.lst r.1])else none:=by rfl
noncomputable def pU:Dt×HI->Option (Dt×HI)
 | (.int b,h)=>some (.int (-b),h)
 | _=>none
@[simp] theorem HN(b:Int):pU (.int b,h)=some (.int (-b),h):=by rfl
@[simp] theorem BO:pE f l h=ZA (f l h) pU:=by
 unfold ZA;unfold pE
 congr 1
 funext r
 obtain⟨d,h⟩:=r;cases d<;>rfl
@[simp] theorem bE(i j:Int):VB (.int i) (.int j) h=some (.int (i+j),h):=by rfl
@[simp] theorem wI(i j:Int):GF (.int i) (.int j) h=some (.int (i-j),h):=by rfl
@[simp] theorem kL(i j:Int):AH (.int i) (.int j) h=some (.int (Builtin.bitAnd i j),h):=by rfl
@[simp] theorem Kr(i j:Int):OL (.int i) (.int j) h=some (.int (Builtin.bitOr i j),h):=by rfl
@[simp] theorem ZZ(i j:Int):MO (.int i) (.int j) h=some (.bl (decide (i<j)),h):=by rfl
@[simp] theorem qU(i j:Int):BL (.int i) (.int j) h=some (.bl (decide (i<=j)),h):=by rfl
@[simp] theorem TL(i j:Int):AL (.int i) (.int j) h=some (.bl (decide (j<i)),h):=by rfl
@[simp] theorem SL(i j:Int):iP (.int i) (.int j) h=some (.bl (decide (j<=i)),h):=by rfl
theorem UF{i j:Int}(c:Yn i j):YC (.int i) (.int j) h=some (.int (i*j),h):=by simp only[YC,oI,if_pos c]
theorem sF{i j:Int}(c:GJ i j):FD (.int i) (.int j) h=some (.int (i/j),h):=by simp only[FD,oI,if_pos c]
theorem KE{i j:Int}(c:0<j):uC (.int i) (.int j) h=some (.int (i%j),h):=by simp only[uC,oI,if_pos c]
theorem Yy{i j:Int}(c:tG i j):QL (.int i) (.int j) h=some (.int (i^j.toNat),h):=by simp only[QL,oI,if_pos c]
theorem CJ{i j:Int}(c:tG i j):yG (.int i) (.int j) h=some (.int (i*2^j.toNat),h):=by simp only[yG,oI,if_pos c]
theorem tT{i j:Int}(c:0<=j):II (.int i) (.int j) h=some (.int (i/2^j.toNat),h):=by simp only[II,oI,if_pos c]
@[simp] theorem lF(i j:Int):XC (.int i) (.int j) h=some (.bl (decide (i=j)),h):=by show some (Dt.bl (decide (V.int i=V.int j)),h)=_;simp
@[simp] theorem UJ(i j:Int):oE (.int i) (.int j) h=some (.bl (!decide (i=j)),h):=by show some (Dt.bl (!decide (V.int i=V.int j)),h)=_;simp
@[simp] theorem eF(i j:Str):XC (.str i) (.str j) h=some (.bl (decide (i=j)),h):=by show some (Dt.bl (decide (V.str i=V.str j)),h)=_;simp
@[simp] theorem xO(i j:Str):oE (.str i) (.str j) h=some (.bl (!decide (i=j)),h):=by show some (Dt.bl (!decide (V.str i=V.str j)),h)=_;simp
theorem Xy{xs ys:List Dt}(c:DF xs ys=true):oE (.lst xs) (.lst ys) h=some (.bl (!MD xs ys),h):=by simp only[oE,if_pos c]
@[simp] theorem MG(d:Dt):iH d .non h=some (.bl (TF d),h):=by rfl
@[simp] theorem CC{α:Type}(xs:List α)(k:Nat):Xd xs (k:Int)=xs[k]?:=by
 unfold Xd QG;rw[if_pos (by omega)];by_cases hk:k<xs.length
 · rw[if_pos (by omega)];simp
 · rw[if_neg (by omega)];simp;omega
@[simp] theorem UB{α:Type}(xs:List α):Xd xs 0=xs[0]?:=CC xs 0
@[simp] theorem YD{α:Type}(xs:List α):Xd xs 1=xs[1]?:=CC xs 1
@[simp] theorem qI{α:Type}(xs:List α):Xd xs 2=xs[2]?:=CC xs 2
@[simp] theorem HB(xs:List Dt)(i:Int):uA (.tup xs) (.int i) h=(Xd xs i).map fun d=>(d,h):=by rfl
@[simp] theorem vI(xs:List Dt)(i:Int):uA (.lst xs) (.int i) h=(Xd xs i).map fun d=>(d,h):=by rfl
theorem fF{n:Nat}{xs:List Dt}(e:h[n]?=some (.lst xs))(i:Int):uA (.ref n) (.int i) h=(Xd xs i).map fun d=>(d,h):=by simp only[uA,zD,FB,e,zea]
noncomputable def yU(g:RS):Rs->Option Rs
 | .nx l h=>g l h
 | r=>some r
@[simp] theorem YA(g:RS):yU g (.nx l h)=g l h:=by rfl
@[simp] theorem qF(g:RS)(d:Dt):yU g (.rt d h)=some (.rt d h):=by rfl
@[simp] theorem XA(f g:RS):iA f g l h=ZA (f l h) (yU g):=by
 unfold ZA;unfold iA
 congr 1
@[simp] theorem KC:OB l h=some (.nx l h):=by rfl
@[simp] theorem fB(i:Nat):wA i f l h=ZA (f l h) fun r=>some (.nx (l.set i (some r.1)) r.2):=by rfl
@[simp] theorem JE:cE f l h=ZA (f l h) fun r=>some (.nx l r.2):=by rfl
@[simp] theorem CB:JA f l h=ZA (f l h) fun r=>some (.rt r.1 r.2):=by rfl
@[simp] theorem NB(t:RT)(f g:RS):TD t f g l h=ZA (t l h) fun r=>if r.1=true then f l r.2 else g l r.2:=by rfl
noncomputable def aH:Option Rs->Option (Dt×HI)
 | some (.rt d h')=>some (d,h')
 | some (.nx _ h')=>some (.non,h')
 | _=>none
@[simp] theorem MB(d:Dt):aH (some (.rt d h))=some (d,h):=by rfl
@[simp] theorem Vx:aH (some (.nx l h))=some (.non,h):=by rfl
@[simp] theorem Dr{c:Prop}[Decidable c](a b:Option Rs):aH (if c then a else b)=if c then aH a else aH b:=by split<;>rfl
@[simp] theorem sB(n N:Nat)(body:RS)(ds:List Dt):nC n N body ds h=if ds.length=n then aH (body (ds.map some++List.replicate (N-n) none) h)else none:=by unfold nC aH;rfl
@[simp] theorem aB(F:RB)(Yb:List Dt)(g:RA):xA F Yb g l h=ZA (g l h) fun r=>F (r.1++Yb) r.2:=by rfl
noncomputable def oP(go:LI->HI->Option Rs):Rs->Option Rs
 | .nx l h=>go l h
 | .ct l h=>go l h
 | .bk l h=>some (.nx l h)
 | .rt d h=>some (.rt d h)
@[simp] theorem Aw(go:LI->HI->Option Rs):oP go (.nx l h)=go l h:=by rfl
@[simp] theorem Hr(go:LI->HI->Option Rs):oP go (.ct l h)=go l h:=by rfl
@[simp] theorem xY(go:LI->HI->Option Rs)(d:Dt):oP go (.rt d h)=some (.rt d h):=by rfl
def AC(bd:RG)(body:RS):List Dt->LI->HI->Option Rs
 | [],l,h=>some (.nx l h)
 | x::xs,l,h=>(bd x l).bind fun l1=>(body l1 h).bind (oP (AC bd body xs))
theorem gW(bd:RG)(body:RS)(xs:List Dt):∀(n k:Nat)(l:LI)(h:HI),n=(xs.length-k)+1->k<=xs.length->qC bd body (.vals xs) n k l h=AC bd body (xs.drop k) l h:=by
 intro n
 induction n with
 | zero=>intro k l h e;omega
 | succ n ih=>
  intro k l h e hk;unfold qC;simp only[Src.at];by_cases hl:k<xs.length
  · rw[getElem?_eq_getElem hl,drop_eq_getElem_cons hl];simp only[AC]
    congr 1
    funext l1
    congr 1
    funext r
    cases r with
    | nx l' h'=>exact ih (k+1) l' h' (by omega) (by omega)
    | ct l' h'=>exact ih (k+1) l' h' (by omega) (by omega)
    | bk l' h'=>rfl
    | rt d h'=>rfl
  · rw[getElem?_eq_none (by omega),drop_eq_nil_of_le (by omega)];rfl
theorem Er{g:RI}{xs:List Dt}{h':HI}(e:g l h=some (.vals xs,h'))(bd:RG)(body:RS):FC g bd body l h=AC bd body xs l h':=by unfold FC;rw[e];simp only[zea,Src.fuel];exact gW bd body xs _ 0 _ _ (by omega) (by omega)
@[simp] theorem SF(i:Nat)(d:Dt):AA i d l=some (l.set i (some d)):=by rfl
def dE(bd:RG)(body:RS)(l:LI):Src×HI->Option Rs:=fun r=>qC bd body r.1 (r.1.fuel r.2) 0 l r.2
@[simp] theorem iE(g:RI)(bd:RG)(body:RS):FC g bd body l h=ZA (g l h) (dE bd body l):=by rfl
@[simp] theorem NF(bd:RG)(body:RS)(xs:List Dt):dE bd body l (.vals xs,h)=AC bd body xs l h:=by unfold dE;simp only[Src.fuel];exact gW bd body xs _ 0 _ _ (by omega) (by omega)
noncomputable def EZ:Dt×HI->Option (Src×HI)
 | (.int j,h)=>if -(2^62)<=j/\j<2^62 then some (.vals ((List.range j.toNat).map fun(k:Nat)=>Dt.int (k:Int)),h)else none
 | _=>none
@[simp] theorem lI:FH f l h=ZA (f l h) EZ:=by
 unfold ZA;unfold FH
 congr 1
 funext r
 obtain⟨d,h⟩:=r;cases d<;>rfl
theorem AF{j:Int}(a:-(2^62)<=j)(b:j<2^62):EZ (.int j,h)=some (.vals ((List.range j.toNat).map fun(k:Nat)=>Dt.int (k:Int)),h):=if_pos ⟨a,b⟩
noncomputable def Ih:Dt->Dt×HI->Option (Src×HI)
 | .int i,(.int j,h)=>if -(2^62)<=i/\i<2^62/\-(2^62)<=j/\j<2^62 then some (.vals ((List.range (j-i).toNat).map fun(k:Nat)=>Dt.int (i+(k:Int))),h)else none
 | _,_=>none
@[simp] theorem zy:zZ f g l h=ZA (f l h) fun r=>ZA (g l r.2) (Ih r.1):=by
 unfold ZA;unfold zZ
 congr 1
 funext r
 obtain⟨d,h⟩:=r
 congr 1
 funext q
 obtain⟨d',h'⟩:=q;cases d<;>cases d'<;>rfl
theorem Tv{i j:Int}(a:-(2^62)<=i)(a':i<2^62)(b:-(2^62)<=j)(b':j<2^62):Ih (.int i) (.int j,h)=some (.vals ((List.range (j-i).toNat).map fun(k:Nat)=>Dt.int (i+(k:Int))),h):=if_pos ⟨a,a',b,b'⟩
def NI:Dt×HI->Option (Src×HI)
 | (.lst xs,h)=>some (.vals xs,h)
 | (.ref n,h)=>if 0<Src.fuel (.rf n) h then some (.rf n,h)else none
 | _=>none
@[simp] theorem EG(xs:List Dt):NI (.lst xs,h)=some (.vals xs,h):=by rfl
@[simp] theorem SD:DC f l h=ZA (f l h) NI:=by
 unfold ZA;unfold DC jU;cases f l h with
 | none=>rfl
 | some r=>obtain⟨d,h⟩:=r;cases d<;>first | rfl | (simp[NI,Src.fuel];done)
noncomputable def DU:Dt×HI->Option (Src×HI)
 | (.tup xs,h)=>some (.vals xs,h)
 | _=>none
@[simp] theorem RW(xs:List Dt):DU (.tup xs,h)=some (.vals xs,h):=by rfl
@[simp] theorem SX:wO f l h=ZA (f l h) DU:=by
 unfold ZA;unfold wO
 congr 1
 funext r
 obtain⟨d,h⟩:=r;cases d<;>rfl
noncomputable def kE(bd:RG)(tc:RT)(te:RE):List Dt->LI->HI->Option (List Dt×HI)
 | [],_,h=>some ([],h)
 | x::xs,l,h=>(bd x l).bind fun l1=>(tc l1 h).bind fun b=>if b.1=true then(te l1 b.2).bind fun r=>(kE bd tc te xs l1 r.2).bind fun q=>some (r.1::q.1,q.2)
  else kE bd tc te xs l1 b.2
theorem u6(bd:RG)(tc:RT)(te:RE)(xs:List Dt)(hx:xs.length<sizeLine):∀(n k:Nat)(l:LI)(h:HI)(ys:List Dt),n=(xs.length-k)+1->k<=xs.length->ys.length<=k->
 aE bd tc te (.vals xs) n k l h ys=(kE bd tc te (xs.drop k) l h).bind fun q=>some (ys++q.1,q.2):=by
 intro n
 induction n with
 | zero=>intro k l h ys e;omega
 | succ n ih=>
  intro k l h ys e hk hy;unfold aE;simp only[Src.at];by_cases hl:k<xs.length
  · rw[getElem?_eq_getElem hl,drop_eq_getElem_cons hl];simp only[kE];cases bd xs[k] l with
    | none=>rfl
    | some l1=>
     simp only[zea];cases tc l1 h with
     | none=>rfl
     | some b=>
      simp only[zea];by_cases hb:b.1=true
      · simp only[if_pos hb];cases te l1 b.2 with
        | none=>rfl
        | some r=>
         simp only[zea];rw[if_pos (by omega),ih (k+1) l1 r.2 _ (by omega) (by omega) (by simp;omega)];cases kE bd tc te (xs.drop (k+1)) l1 r.2 with
         | none=>rfl
         | some q=>simp
      · simp only[if_neg hb];exact ih (k+1) l1 b.2 ys (by omega) (by omega) (by omega)
  · rw[getElem?_eq_none (by omega),drop_eq_nil_of_le (by omega)];simp[kE]
def ZD(bd:RG)(tc:RT)(te:RE)(l:LI):Src×HI->Option (List Dt×HI):=fun r=>aE bd tc te r.1 (r.1.fuel r.2) 0 l r.2 []
theorem oF(bd:RG)(tc:RT)(te:RE){xs:List Dt}(hx:xs.length<sizeLine):ZD bd tc te l (.vals xs,h)=kE bd tc te xs l h:=by unfold ZD;simp only[Src.fuel];rw[u6 bd tc te xs hx _ 0 _ _ _ (by omega) (by omega) (by simp)];rw[drop_zero];cases kE bd tc te xs l h<;>simp
@[simp] theorem GG(g:RI)(bd:RG)(tc:RT)(te:RE)(cap:List (Option Nat)):ID g bd tc te cap l h=ZA (ZA (g l h) (ZD bd tc te (jF l cap))) fun q=>some (.lst q.1,q.2):=by unfold ZA;unfold ID ZD;rw[Option.bind_assoc]
@[simp] theorem WR(g:RI)(bd:RG)(tc:RT)(te:RE)(cap:List (Option Nat)):IG g bd tc te cap l h=ZA (ZA (g l h) (ZD bd tc te (jF l cap))) fun q=>some (.ref q.2.length,q.2++[.lst q.1]):=by unfold ZA;unfold IG ZD;rw[Option.bind_assoc]
@[simp] theorem WN:QB l h=some (true,h):=by rfl
@[simp] theorem zF:jF l []=[]:=by rfl
@[simp] theorem xF(cap:List (Option Nat)):jF l (none::cap)=none::jF l cap:=by rfl
@[simp] theorem dJ(j:Nat)(cap:List (Option Nat)):jF l (some j::cap)=(l[j]?).join::jF l cap:=by rfl
theorem AK{α:Type}{te:RE}{i:Nat}{tc:RT}(D:α->Dt)(p:α->Bool)(F:α->Dt)(h:HI):∀(xs:List α)(l:LI),(∀x∈xs,tc (l.set i (some (D x))) h=some (p x,h)/\(p x=true->te (l.set i (some (D x))) h=some (F x,h)))->
 kE (AA i) tc te (xs.map D) l h=some ((xs.filter p).map F,h)
 | [],_,_=>rfl
 | x::xs,l,H=>by
  have hx:=H x (by simp);have ih:=AK D p F h xs (l.set i (some (D x))) (te:=te) (tc:=tc) (i:=i) (fun y hy=>by
   rw[set_set];exact H y (by simp[hy]))
  simp only[zd5,kE,SF,zea,hx.1];by_cases hp:p x=true
  · simp only[hp,if_true,hx.2 hp,zea,ih];simp[hp]
  · simp only[hp];rw[if_neg (by simp),ih];simp[hp]
theorem mH{α:Type}{te:RE}{i:Nat}{tc:RT}(D:α->Dt)(F:α->Dt)(h:HI)(xs:List α)(l:LI)(H:∀x∈xs,tc (l.set i (some (D x))) h=some (true,h)/\te (l.set i (some (D x))) h=some (F x,h)) :
 kE (AA i) tc te (xs.map D) l h=some (xs.map F,h):=by
 rw[AK D (fun _=>true) F h xs l fun x hx=>⟨(H x hx).1,fun _=>(H x hx).2⟩,filter_eq_self.mpr (by simp)]
@[simp] theorem vC(F:Dt->HI->Option (Dt×HI)):MC F f l h=ZA (f l h) fun r=>F r.1 r.2:=by rfl
@[simp] theorem ZK(xs:List Dt):sC (.lst xs) h=some (.int xs.length,h):=by rfl
@[simp] theorem lY(xs:List Dt):sC (.tup xs) h=some (.int xs.length,h):=by rfl
theorem vJ{n:Nat}{xs:List Dt}(e:h[n]?=some (.lst xs)):sC (.ref n) h=some (.int xs.length,h):=by simp only[sC,zD,FB,e,zd9]
@[simp] theorem Jt(b:Bool):MJ (.bl b) h=some (.int (if b=true then 1 else 0),h):=by rfl
@[simp] theorem q9(ns:List Int):fE (ns.map Dt.int)=some ns:=by
 induction ns with
 | nil=>rfl
 | cons n ns ih=>simp[fE,ih]
theorem Ly(ns:List Int):IL (.lst (ns.map Dt.int)) h=some (.int ns.sum,h):=by simp[IL,FB]
theorem Jy{ns:List Int}(c:ns ≠ []):YG (.lst (ns.map Dt.int)) h=some (.int (WC ns),h):=by simp[YG,FB,c]
theorem Ky{ns:List Int}(c:ns ≠ []):ZG (.lst (ns.map Dt.int)) h=some (.int (XB ns),h):=by simp[ZG,FB,c]
@[simp] theorem yT(T:String):OH T f l h=ZA (f l h) fun r=>(sG r.2 r.1).map fun t=>(.bl (ML t T),r.2):=by rfl
@[simp] theorem Ir (b:Int):sG h (.int b)=some "int" :=by rfl
@[simp] theorem Nt:ML "int" "int" =true:=by decide +kernel
@[simp] theorem Mt:ML "int" "bool" =false:=by decide +kernel
@[simp] theorem Lr:sU l h=some (none,h):=by rfl
noncomputable def yh:Dt×HI->Option (Option Int×HI)
 | (.int i,h)=>some (some i,h)
 | _=>none
@[simp] theorem ZX(i:Int):yh (.int i,h)=some (some i,h):=by rfl
@[simp] theorem mZ:NO f l h=ZA (f l h) yh:=by
 unfold ZA;unfold NO
 congr 1
 funext r
 obtain⟨d,h⟩:=r;cases d<;>rfl
@[simp] theorem kZ(lo hi:RO):ZT f lo hi l h=ZA (f l h) fun r=>ZA (lo l r.2) fun o=>ZA (hi l o.2) fun u=>(FB u.2 r.1).map fun xs=>(.lst (wG xs o.1 u.1),u.2):=by rfl
@[simp] theorem MW(xs:List Dt):FB h (.lst xs)=some xs:=by rfl
theorem Ej{n:Nat}{xs:List Dt}(e:h[n]?=some (.lst xs)):FB h (.ref n)=some xs:=by simp only[FB,e]
theorem U9(xs:List Dt)(k:Nat):wG xs (some (k:Int)) none=xs.drop k:=by
 unfold wG HT.Xn;have e:(if(k:Int)<0 then((k:Int)+(xs.length:Int)).toNat else min (k:Int).toNat xs.length)=min k xs.length:=by rw[if_neg (by omega),Int.toNat_natCast]
 simp only[e];rw[take_of_length_le (by rw[length_drop];omega)];by_cases hk:k<=xs.length
 · rw[Nat.min_eq_left hk]
 · rw[Nat.min_eq_right (by omega),drop_eq_nil_of_le (zeg _),drop_eq_nil_of_le (by omega)]
theorem Wy{xs ys:List Dt}(c:xs.length+ys.length<=sizeLine):PL (.lst xs) (.lst ys) h=some (.lst (xs++ys),h):=by simp only[PL,FB,zea,if_pos c]
@[simp] theorem qH:sizeLine=16777216:=by rfl
noncomputable def YO(g:RE)(l:LI):Dt×HI->Option (Dt×HI)
 | (.ref n,h)=>(match h[n]? with
  | some (.lst _)=>(g l h).bind fun q=>match q.2[n]? with
   | some (.lst xs)=>if xs.length<sizeLine then some (.non,q.2.set n (.lst (xs++[q.1])))else none
   | _=>none
  | _=>none)
 | _=>none
@[simp] theorem RF:IE f g l h=ZA (f l h) (YO g l):=by
 unfold ZA;unfold IE
 congr 1
 funext r
 obtain⟨d,h⟩:=r;cases d<;>(try rfl)
theorem DG{n:Nat}{xs ys:List Dt}{d:Dt}{h':HI}(e:h[n]?=some (.lst ys))(eg:g l h=some (d,h'))(e':h'[n]?=some (.lst xs))(c:xs.length<sizeLine):YO g l (.ref n,h)=some (.non,h'.set n (.lst (xs++[d]))):=by simp only[YO,e,eg,zea,e',if_pos c]
end
noncomputable def Pass(I:LI->HI->Prop):Rs->Prop
 | .nx l h=>I l h
 | .ct l h=>I l h
 | _=>False
theorem VW{α:Type}{i:Nat}{body:RS}(D:α->Dt)(I:LI->HI->Prop)(xs:List α)(H:∀x∈xs,∀l h,I l h->∃r,body (l.set i (some (D x))) h=some r/\Pass I r) :
 ∀l h,I l h->∃l' h',AC (AA i) body (xs.map D) l h=some (.nx l' h')/\I l' h':=by
 induction xs with
 | nil=>intro l h i;exact⟨l,h,rfl,i⟩
 | cons x xs ih=>
  intro l h i;obtain⟨r,e,p⟩:=H x (by simp) l h i;cases r with
  | nx l2 h2=>obtain⟨l',h',e',i'⟩:=ih (fun y hy=>H y (by simp[hy])) l2 h2 p;exact⟨l',h',by simp[AC,e,e'],i'⟩
  | ct l2 h2=>obtain⟨l',h',e',i'⟩:=ih (fun y hy=>H y (by simp[hy])) l2 h2 p;exact⟨l',h',by simp[AC,e,e'],i'⟩
  | bk l2 h2=>exact p.elim
  | rt d h2=>exact p.elim
theorem kN{α β:Type}{i:Nat}{body:RS}(D:α->Dt)(S:β->LI->HI->Prop)(f:β->α->β)(xs:List α)(H:∀x∈xs,∀b l h,S b l h->∃r,body (l.set i (some (D x))) h=some r/\Pass (S (f b x)) r) :
 ∀b l h,S b l h->∃l' h',AC (AA i) body (xs.map D) l h=some (.nx l' h')/\S (xs.foldl f b) l' h':=by
 induction xs with
 | nil=>intro b l h i;exact⟨l,h,rfl,i⟩
 | cons x xs ih=>
  intro b l h i;obtain⟨r,e,p⟩:=H x (by simp) b l h i;cases r with
  | nx l2 h2=>obtain⟨l',h',e',i'⟩:=ih (fun y hy=>H y (by simp[hy])) _ l2 h2 p;exact⟨l',h',by simp[AC,e,e'],i'⟩
  | ct l2 h2=>obtain⟨l',h',e',i'⟩:=ih (fun y hy=>H y (by simp[hy])) _ l2 h2 p;exact⟨l',h',by simp[AC,e,e'],i'⟩
  | bk l2 h2=>exact p.elim
  | rt d h2=>exact p.elim
section
variable{l:LI}{h:HI}{f g:RE}
@[simp] theorem ur(bs:List Bool):lG (bs.map Dt.bl)=some bs:=by
 induction bs with
 | nil=>rfl
 | cons n ns ih=>simp[lG,ih]
@[simp] theorem RX(i j:Nat)(a b:Dt):dF i j (.tup [a,b]) l=some ((l.set i (some a)).set j (some b)):=by rfl
end
theorem uw{α:Type}{i n:Nat}{body:RS}(D:α->Dt)(I:LI->HI->Prop)(xs:List α)(hI:∀l h,I l h->h[n]?=some (.lst (xs.map D)))(H:∀x∈xs,∀l h,I l h->∃r,body (l.set i (some (D x))) h=some r/\Pass I r)
 (l:LI) (h:HI) (h0:I l h):∃l' h',dE (AA i) body l (.rf n,h)=some (.nx l' h')/\I l' h':=by
 have go:∀(f k:Nat)(l:LI)(h:HI),I l h->f=xs.length-k+1->k<=xs.length->∃l' h',qC (AA i) body (.rf n) f k l h=some (.nx l' h')/\I l' h':=by
  intro f
  induction f with
  | zero=>intro k l h _ e;omega
  | succ f ih=>
   intro k l h i0 e hk;unfold qC;simp only[Src.at,hI l h i0,getElem?_map];by_cases hl:k<xs.length
   · rw[getElem?_eq_getElem hl];obtain⟨r,e1,p1⟩:=H xs[k] (getElem_mem hl) l h i0;simp only[zd9,SF,zea,e1];cases r with
     | nx l2 h2=>exact ih (k+1) l2 h2 p1 (by omega) (by omega)
     | ct l2 h2=>exact ih (k+1) l2 h2 p1 (by omega) (by omega)
     | bk l2 h2=>exact p1.elim
     | rt d h2=>exact p1.elim
   · rw[getElem?_eq_none (by omega)];exact⟨l,h,rfl,i0⟩
 have hf:Src.fuel (.rf n) h=xs.length-0+1:=by simp only[Src.fuel,hI l h h0,length_map];omega
 unfold dE;exact go _ 0 l h h0 hf (Nat.zero_le _)
theorem yF{h:HI}{n:Nat}{xs:List Dt}(e:h[n]?=some (.lst xs)):NI (.ref n,h)=some (.rf n,h):=by
 have:0<Src.fuel (.rf n) h:=by simp only[Src.fuel,e];omega
 simp only[NI,if_pos this]
section
variable{l:LI}{h:HI}{f g fe fo fi fa fb:RE}
def mP(l:LI)(v o:Dt):Dt×HI->Option Rs
 | (.int k,h)=>(match o with
  | .ref n=>(match h[n]? with
   | some (.lst xs)=>(QG xs.length k).bind fun j=>some (.nx l (h.set n (.lst (xs.set j v))))
   | _=>none)
  | _=>none)
 | _=>none
@[simp] theorem TX:kI fe fo fi l h=ZA (fe l h) fun v=>ZA (fo l v.2) fun o=>ZA (fi l o.2) (mP l v.1 o.1):=by
 unfold ZA kI
 congr 1
 funext v
 congr 1
 funext o
 congr 1
 funext i
 obtain⟨d,h⟩:=o;obtain⟨k,h⟩:=i;cases k<;>cases d<;>rfl
theorem Cq{n k:Nat}(hk:k<n):QG n (k:Int)=some k:=by unfold QG;rw[if_pos (by omega),if_pos (by omega)];simp
theorem JN{n k:Nat}{xs:List Dt}{v:Dt}(e:h[n]?=some (.lst xs))(hk:k<xs.length):mP l v (.ref n) (.int (k:Int),h)=some (.nx l (h.set n (.lst (xs.set k v)))):=by simp only[mP,e,Cq hk,zea]
def kP(a:Dt):Dt×HI->Option (Dt×HI)
 | (.int i,h)=>if -(2^62)<=i/\i<=1000000 then some (.lst (zG a i),h)else none
 | _=>none
def nT(a:Dt):Dt×HI->Option (Dt×HI)
 | (.int i,h)=>if -(2^62)<=i/\i<=1000000 then some (.ref h.length,h++[.lst (zG a i)])else none
 | _=>none
@[simp] theorem Mr:GI fa fb l h=ZA (fa l h) fun a=>ZA (fb l a.2) (kP a.1):=by
 unfold ZA GI
 congr 1
 funext v
 congr 1
 funext o
 obtain⟨d,h⟩:=o;cases d<;>rfl
@[simp] theorem Tt:EJ fa fb l h=ZA (fa l h) fun a=>ZA (fb l a.2) (nT a.1):=by
 unfold ZA EJ
 congr 1
 funext v
 congr 1
 funext o
 obtain⟨d,h⟩:=o;cases d<;>rfl
theorem JW(a:Dt){k:Nat}(hk:k<=1000000):kP a (.int (k:Int),h)=some (.lst (List.replicate k a),h):=by unfold kP;simp only;rw[if_pos ⟨by omega,by omega⟩];simp[zG]
theorem dN(a:Dt){k:Nat}(hk:k<=1000000):nT a (.int (k:Int),h)=some (.ref h.length,h++[.lst (List.replicate k a)]):=by unfold nT;simp only;rw[if_pos ⟨by omega,by omega⟩];simp[zG]
theorem Xg(bs:List Bool):HL (.lst (bs.map Dt.bl)) h=some (.bl (bs.any id),h):=by simp[HL,FB]
@[simp] theorem GU(i j:Int):SJ (.int i) (.int j) h=some (.bl (decide (i=j)),h):=by
 have r:∀k:Int,DB h 8 (.int k)=some (.int k):=fun _=>by simp[DB]
 simp only[SJ,r,zea,lF,zd9]
theorem VY{a b:Dt}{xs ys:List Dt}(e1:DB h 8 a=some (.lst xs))(e2:DB h 8 b=some (.lst ys))(c:DF xs ys=true):SH a b h=some (.bl (!MD xs ys),h):=by simp only[SH,e1,e2,zea,Xy c,zd9]
def Nh(go:RS)(body:RS)(l:LI):Bool×HI->Option Rs:=fun c=>if c.1=true then(body l c.2).bind (oP go)else some (.nx l c.2)
theorem F5(t:RT)(body:RS)(n:Nat):rF t body (n+1) l h=ZA (t l h) (Nh (rF t body n) body l):=by
 unfold ZA;rw[rF]
 congr 1
noncomputable def LJ(fa:RE)(l:LI):Dt×HI->Option (Dt×HI)
 | (.ref n,h)=>(match h[n]? with
  | some (.lst _)=>(fa l h).bind fun q=>match q.1 with
   | .ref m=>(match q.2[n]?,q.2[m]? with
    | some (.lst xs),some (.lst ys)=>if xs.length+ys.length<=sizeLine then some (.non,q.2.set n (.lst (xs++ys)))else none
    | _,_=>none)
   | _=>none
  | _=>none)
 | _=>none
@[simp] theorem tN:fI fo fa l h=ZA (fo l h) (LJ fa l):=by
 unfold ZA fI
 congr 1
 funext r
 obtain⟨d,h⟩:=r;cases d<;>(try rfl)
theorem kW{n m:Nat}{xs ys zs:List Dt}{h':HI}(e:h[n]?=some (.lst zs))(eg:fa l h=some (.ref m,h'))(e1:h'[n]?=some (.lst xs))(e2:h'[m]?=some (.lst ys))(c:xs.length+ys.length<=sizeLine):LJ fa l (.ref n,h)=some (.non,h'.set n (.lst (xs++ys))):=by simp only[LJ,e,eg,zea,e1,e2,if_pos c]
@[simp] theorem MI(F:Dt->Dt->Option Dt):yL F fa fb l h=ZA (fa l h) fun r=>ZA (fb l r.2) fun q=>(F r.1 q.1).map fun d=>(d,q.2):=by rfl
@[simp] theorem cO(i j:Int):uL (.int i) (.int j)=some (.int (max i j)):=by
 unfold uL;simp only
 congr 2
 split<;>omega
@[simp] theorem dO(i j:Int):zH (.int i) (.int j)=some (.int (min i j)):=by
 unfold zH;simp only
 congr 2
 split<;>omega
end
theorem S9{bd:RG}{tc:RT}{te:RE}{n:Nat}{xs:List Dt}(p1:∀l h b h',tc l h=some (b,h')->h[n]?=some (.lst xs)->h'[n]?=some (.lst xs))(p2:∀l h b h',te l h=some (b,h')->h[n]?=some (.lst xs)->h'[n]?=some (.lst xs)) :
 ∀(m k:Nat)(l:LI)(h:HI)(ys:List Dt),h[n]?=some (.lst xs)->aE bd tc te (.rf n) m k l h ys=aE bd tc te (.vals xs) m k l h ys:=by
 intro m
 induction m with
 | zero=>intros;rfl
 | succ m ih=>
  intro k l h ys e;unfold aE;simp only[Src.at,e];cases xs[k]? with
  | none=>rfl
  | some d=>
   simp only;cases bd d l with
   | none=>rfl
   | some l1=>
    simp only[zea];cases q:tc l1 h with
    | none=>rfl
    | some b=>
     obtain⟨b,h1⟩:=b;have e1:=p1 _ _ _ _ q e;simp only[zea];split
     · cases q2:te l1 h1 with
       | none=>rfl
       | some r=>
        obtain⟨r,h2⟩:=r;have e2:=p2 _ _ _ _ q2 e1;simp only[zea];split
        · exact ih _ _ _ _ e2
        · rfl
     · exact ih _ _ _ _ e1
theorem NR{bd:RG}{tc:RT}{te:RE}{n:Nat}{xs:List Dt}{l:LI}{h:HI}(e:h[n]?=some (.lst xs))(hx:xs.length<sizeLine)(p1:∀l h b h',tc l h=some (b,h')->h[n]?=some (.lst xs)->h'[n]?=some (.lst xs))(p2:∀l h b h',te l h=some (b,h')->h[n]?=some (.lst xs)->h'[n]?=some (.lst xs)) :
 ZD bd tc te l (.rf n,h)=kE bd tc te xs l h:=by
 rw[<- oF bd tc te hx];unfold ZD;have e1:Src.fuel (.rf n) h=xs.length+1:=by simp only[Src.fuel,e]
 have e2:Src.fuel (.vals xs) h=xs.length+1:=by simp only[Src.fuel]
 simp only[e1,e2];exact S9 p1 p2 _ _ _ _ _ e
theorem fR{α:Type}{te:RE}{i:Nat}(D:α->Dt)(O:α->Ob)(h0:HI):∀(xs:List α)(l:LI)(e:HI),(∀x∈xs,∀e,te (l.set i (some (D x))) (h0++e)=some (.ref (h0++e).length,h0++e++[O x]))->
 kE (AA i) QB te (xs.map D) l (h0++e)=some ((List.range xs.length).map (fun(k:Nat)=>Dt.ref ((h0++e).length+k)),h0++e++xs.map O)
 | [],_,e,_=>by simp[kE]
 | x::xs,l,e,H=>by
  have hx:=H x (by simp) e;have ih:=fR D O h0 xs (l.set i (some (D x))) (e++[O x]) (te:=te) (i:=i) (fun y hy e=>by
   rw[set_set];exact H y (by simp[hy]) e)
  simp only[zd5,kE,SF,zea,WN,hx,if_true];rw[<- append_assoc]at ih;rw[ih];simp only[zea,zd3,range_succ_eq_map,zd5,map_map,append_assoc,zec,zeb]
  congr 2
  rw[Nat.add_zero]
  congr 1
  refine map_congr_left fun k _=>?_
  simp;omega
theorem YK{α:Type}{i:Nat}{body:RS}(D:α->Dt)(S:Nat->LI->HI->Prop):∀(xs:List α)(k0:Nat)(_:∀(k:Nat) x,xs[k]?=some x->∀l h,S (k0+k) l h->∃r,body (l.set i (some (D x))) h=some r/\Pass (S (k0+k+1)) r)(l:LI)(h:HI),S k0 l h->
 ∃l' h',AC (AA i) body (xs.map D) l h=some (.nx l' h')/\S (k0+xs.length) l' h'
 | [],k0,_,l,h,s=>⟨l,h,rfl,s⟩
 | x::xs,k0,H,l,h,s=>by
  obtain⟨r,e,p⟩:=H 0 x rfl l h s;have H':∀(k:Nat) y,xs[k]?=some y->∀l h,S (k0+1+k) l h->∃r,body (l.set i (some (D y))) h=some r/\Pass (S (k0+1+k+1)) r:=by intro k y hy l h s;have:=H (k+1) y (by simpa using hy) l h (by rw[show k0+(k+1)=k0+1+k by omega];exact s);rw[show k0+(k+1)+1=k0+1+k+1 by omega]at this;exact this
  cases r with
  | nx l2 h2=>obtain⟨l',h',e',i'⟩:=YK D S xs (k0+1) H' l2 h2 p;exact⟨l',h',by simp[AC,e,e'],by rw[zd3,show k0+(xs.length+1)=k0+1+xs.length by omega];exact i'⟩
  | ct l2 h2=>obtain⟨l',h',e',i'⟩:=YK D S xs (k0+1) H' l2 h2 p;exact⟨l',h',by simp[AC,e,e'],by rw[zd3,show k0+(xs.length+1)=k0+1+xs.length by omega];exact i'⟩
  | bk l2 h2=>exact p.elim
  | rt d h2=>exact p.elim
theorem uK{i:Nat}{body:RS}(D:Nat->Dt)(S:Nat->LI->HI->Prop)(n:Nat)(H:∀k<n,∀l h,S k l h->∃r,body (l.set i (some (D k))) h=some r/\Pass (S (k+1)) r)(l:LI)(h:HI)(s:S 0 l h) :
 ∃l' h',AC (AA i) body ((List.range n).map D) l h=some (.nx l' h')/\S n l' h':=by
 obtain⟨l',h',e,i'⟩:=YK (i:=i) (body:=body) D S (List.range n) 0 (fun k x hx l h s=>by
  obtain⟨h1,h2⟩:=zed hx;simp at h1 h2;subst h2;rw[Nat.zero_add]at s ⊢;exact H k h1 l h s) l h s
 exact⟨l',h',e,by simpa using i'⟩
theorem DO{α:Type}{i n:Nat}{body:RS}(D:α->Dt)(S:Nat->LI->HI->Prop)(xs:List α)(hS:∀k l h,S k l h->h[n]?=some (.lst (xs.map D)))(H:∀(k:Nat) x,xs[k]?=some x->∀l h,S k l h->∃r,body (l.set i (some (D x))) h=some r/\Pass (S (k+1)) r)
 (l:LI) (h:HI) (h0:S 0 l h):∃l' h',dE (AA i) body l (.rf n,h)=some (.nx l' h')/\S xs.length l' h':=by
 have go:∀(f k:Nat)(l:LI)(h:HI),S k l h->f=xs.length-k+1->k<=xs.length->∃l' h',qC (AA i) body (.rf n) f k l h=some (.nx l' h')/\S xs.length l' h':=by
  intro f
  induction f with
  | zero=>intro k l h _ e;omega
  | succ f ih=>
   intro k l h i0 e hk;unfold qC;simp only[Src.at,hS k l h i0,getElem?_map];by_cases hl:k<xs.length
   · rw[getElem?_eq_getElem hl];obtain⟨r,e1,p1⟩:=H k xs[k] (getElem?_eq_getElem hl) l h i0;simp only[zd9,SF,zea,e1];cases r with
     | nx l2 h2=>exact ih (k+1) l2 h2 p1 (by omega) (by omega)
     | ct l2 h2=>exact ih (k+1) l2 h2 p1 (by omega) (by omega)
     | bk l2 h2=>exact p1.elim
     | rt d h2=>exact p1.elim
   · rw[getElem?_eq_none (by omega)];have:k=xs.length:=by omega
     subst this;exact⟨l,h,rfl,i0⟩
 have hf:Src.fuel (.rf n) h=xs.length-0+1:=by simp only[Src.fuel,hS 0 l h h0,length_map];omega
 unfold dE;exact go _ 0 l h h0 hf (Nat.zero_le _)
section
variable{l:LI}{h:HI}{fo fi fe f fa:RE}
noncomputable def jP(fa:RE)(l:LI):Dt×HI->Option (Dt×HI)
 | (.ref n,h)=>(match h[n]? with
  | some (.lst _)=>(fa l h).bind fun q=>match q.1 with
   | .int 0=>(match q.2[n]? with
    | some (.lst (x::xs))=>some (x,q.2.set n (.lst xs))
    | _=>none)
   | _=>none
  | _=>none)
 | _=>none
@[simp] theorem Rv:iO fo fa l h=ZA (fo l h) (jP fa l):=by
 unfold ZA iO
 congr 1
 funext r
 obtain⟨d,h⟩:=r;cases d<;>(try rfl)
theorem nj{n:Nat}{x:Dt}{xs:List Dt}(e:h[n]?=some (.lst (x::xs)))(ea:fa l h=some (.int 0,h)):jP fa l (.ref n,h)=some (x,h.set n (.lst xs)):=by simp only[jP,e,ea,zea]
noncomputable def mU:Dt×HI->Option (Dt×HI)
 | (.int b,h)=>some (.int (Builtin.bitNot b),h)
 | _=>none
@[simp] theorem t9(b:Int):mU (.int b,h)=some (.int (Builtin.bitNot b),h):=by rfl
@[simp] theorem Cy:ZL f l h=ZA (f l h) mU:=by
 unfold ZA ZL
 congr 1
 funext r
 obtain⟨d,h⟩:=r;cases d<;>rfl
@[simp] theorem Sv(n:Nat)(t:RT)(body:RS):oO n t body l h=rF t body n l h:=by rfl
end
noncomputable def nI(I:LI->HI->Prop)(E:Dt->HI->Prop):Rs->Prop
 | .nx l h=>I l h
 | .rt d h=>E d h
 | _=>False
theorem RV{t:RT}{body:RS}(I:Nat->LI->HI->Prop)(N:LI->HI->Prop)(E:Dt->HI->Prop)
 (H:∀m l h,I m l h->∃b h1,t l h=some (b,h1)/\if b=true then ∃r,body l h1=some r/\nI (fun l' h'=>∃m',m'<m/\I m' l' h') E r else N l h1) :
 ∀(n m:Nat)(l:LI)(h:HI),I m l h->m<n->∃r,rF t body n l h=some r/\nI N E r:=by
 intro n
 induction n with
 | zero=>intro m l h _ hn;omega
 | succ n ih=>
  intro m l h i hn;obtain⟨b,h1,e1,q⟩:=H m l h i;rw[F5,e1,lA];unfold Nh;cases b with
  | false=>rw[if_neg zef]at q ⊢;exact⟨_,rfl,q⟩
  | true=>
   rw[if_pos rfl]at q ⊢;obtain⟨r,e2,q⟩:=q;simp only[e2,zea];cases r with
   | nx l' h'=>obtain⟨m',hm,i'⟩:=q;exact ih m' l' h' i' (by omega)
   | rt d h'=>exact⟨_,rfl,q⟩
   | bk l' h'=>exact q.elim
   | ct l' h'=>exact q.elim
theorem JY{α:Type}{i n:Nat}{body:RS}(D:α->Dt)(S:Nat->LI->HI->Prop)(E:Dt->HI->Prop)(xs:List α)(hS:∀k l h,S k l h->h[n]?=some (.lst (xs.map D)))(H:∀(k:Nat) x,xs[k]?=some x->∀l h,S k l h->∃r,body (l.set i (some (D x))) h=some r/\nI (S (k+1)) E r)
 (l:LI) (h:HI) (h0:S 0 l h):∃r,dE (AA i) body l (.rf n,h)=some r/\nI (S xs.length) E r:=by
 have go:∀(f k:Nat)(l:LI)(h:HI),S k l h->f=xs.length-k+1->k<=xs.length->∃r,qC (AA i) body (.rf n) f k l h=some r/\nI (S xs.length) E r:=by
  intro f
  induction f with
  | zero=>intro k l h _ e;omega
  | succ f ih=>
   intro k l h i0 e hk;unfold qC;simp only[Src.at,hS k l h i0,getElem?_map];by_cases hl:k<xs.length
   · rw[getElem?_eq_getElem hl];obtain⟨r,e1,p1⟩:=H k xs[k] (getElem?_eq_getElem hl) l h i0;simp only[zd9,SF,zea,e1];cases r with
     | nx l2 h2=>exact ih (k+1) l2 h2 p1 (by omega) (by omega)
     | rt d h2=>exact⟨_,rfl,p1⟩
     | bk l2 h2=>exact p1.elim
     | ct l2 h2=>exact p1.elim
   · rw[getElem?_eq_none (by omega)];have:k=xs.length:=by omega
     subst this;exact⟨_,rfl,i0⟩
 have hf:Src.fuel (.rf n) h=xs.length-0+1:=by simp only[Src.fuel,hS 0 l h h0,length_map];omega
 unfold dE;exact go _ 0 l h h0 hf (Nat.zero_le _)
section
variable{l:LI}{h:HI}{f g fo fe:RE}{ga:RA}
noncomputable def j0(c:Nat):Dt->Dt×HI->Option (Src×HI)
 | .int i,(.int j,h)=>if 0<=i/\i<2^61/\0<=j/\j<2^61/\0<c/\c<1000 then some (.vals ((List.range ((j-i+(c:Int)-1)/(c:Int)).toNat).map fun(k:Nat)=>Dt.int (i+(k:Int)*(c:Int))),h)else none
 | _,_=>none
@[simp] theorem Ay(c:Nat):AZ f g c l h=ZA (f l h) fun r=>ZA (g l r.2) (j0 c r.1):=by
 unfold ZA;unfold AZ
 congr 1
 funext r
 obtain⟨d,h⟩:=r
 congr 1
 funext q
 obtain⟨d',h'⟩:=q;cases d<;>cases d'<;>rfl
def cP(x f:Str):Dt×HI->Option (Dt×HI)
 | (.ref n,h)=>(match h[n]? with
  | some (.ins y fs)=>if y=x then(vD f fs).bind fun d=>some (d,h)else none
  | _=>none)
 | _=>none
@[simp] theorem wL(x k:Str):XG x k fo l h=ZA (fo l h) (cP x k):=by
 unfold ZA XG
 congr 1
 funext r
 obtain⟨d,h⟩:=r;cases d<;>(try rfl)
theorem BN{x k:Str}{n:Nat}{fs:List (Str×Dt)}{d:Dt}(e:h[n]?=some (.ins x fs))(ef:vD k fs=some d):cP x k (.ref n,h)=some (d,h):=by simp only[cP,e,if_true,ef,zea]
def UT(x f:Str)(v:Dt)(l:LI):Dt×HI->Option Rs
 | (.ref n,h)=>(match h[n]? with
  | some (.ins y fs)=>if y=x/\fs.length<1000 then some (.nx l (h.set n (.ins y (DE f v fs))))else none
  | _=>none)
 | _=>none
@[simp] theorem HY(x k:Str):mI x k fo fe l h=ZA (fe l h) fun r=>ZA (fo l r.2) (UT x k r.1 l):=by
 unfold ZA mI
 congr 1
 funext r
 congr 1
 funext q
 obtain⟨d,h⟩:=q;cases d<;>(try rfl)
theorem gN{x k:Str}{n:Nat}{fs:List (Str×Dt)}{v:Dt}(e:h[n]?=some (.ins x fs))(hl:fs.length<1000):UT x k v l (.ref n,h)=some (.nx l (h.set n (.ins x (DE k v fs)))):=by simp only[UT,e,true_and,if_pos hl]
noncomputable def fZ(n:Nat):Dt×HI->Option (Dt×HI)
 | (.non,h)=>some (.ref n,h)
 | _=>none
@[simp] theorem G8(n:Nat):fZ n (.non,h)=some (.ref n,h):=by rfl
@[simp] theorem iw(x:Str)(F:RB):qO x F ga l h=ZA (ga l h) fun r=>ZA (F (.ref r.2.length::r.1) (r.2++[.ins x []])) (fZ r.2.length):=by
 unfold ZA qO
 congr 1
 funext r
 congr 1
 funext q
 obtain⟨d,h⟩:=q;cases d<;>(try rfl)
def qT(x m:Str)(F:RB)(ga:RA)(l:LI):Dt×HI->Option (Dt×HI)
 | (.ref n,h)=>(match h[n]? with
  | some (.ins y fs)=>if y=x/\vD m fs=none then(ga l h).bind fun q=>F (.ref n::q.1) q.2 else none
  | _=>none)
 | _=>none
@[simp] theorem eT(x m:Str)(F:RB):sI x m F fo ga l h=ZA (fo l h) (qT x m F ga l):=by
 unfold ZA sI
 congr 1
 funext r
 obtain⟨d,h⟩:=r;cases d<;>(try rfl)
theorem zR{x m:Str}{F:RB}{n:Nat}{fs:List (Str×Dt)}(e:h[n]?=some (.ins x fs))(hm:vD m fs=none):qT x m F ga l (.ref n,h)=ZA (ga l h) fun q=>F (.ref n::q.1) q.2:=by simp only[qT,e,true_and,if_pos hm];rfl
def OT:Dt×HI->Option (Src×HI)
 | (.lst xs,h)=>some (.vals (tI 0 xs),h)
 | (.ref n,h)=>(match h[n]? with
  | some (.lst _)=>some (.en n,h)
  | _=>none)
 | _=>none
@[simp] theorem Qv:vO f l h=ZA (f l h) OT:=by
 unfold ZA vO
 congr 1
 funext r
 obtain⟨d,h⟩:=r;cases d<;>(try rfl)
theorem F6{n:Nat}{xs:List Dt}(e:h[n]?=some (.lst xs)):OT (.ref n,h)=some (.en n,h):=by simp only[OT,e]
end
theorem NT{α:Type}{i j n:Nat}{body:RS}(D:α->Dt)(S:Nat->LI->HI->Prop)(xs:List α)(hS:∀k l h,S k l h->h[n]?=some (.lst (xs.map D)))(H:∀(k:Nat) x,xs[k]?=some x->∀l h,S k l h->∃r,body ((l.set i (some (.int (k:Int)))).set j (some (D x))) h=some r/\Pass (S (k+1)) r)
 (l:LI) (h:HI) (h0:S 0 l h):∃l' h',dE (dF i j) body l (.en n,h)=some (.nx l' h')/\S xs.length l' h':=by
 have go:∀(f k:Nat)(l:LI)(h:HI),S k l h->f=xs.length-k+1->k<=xs.length->∃l' h',qC (dF i j) body (.en n) f k l h=some (.nx l' h')/\S xs.length l' h':=by
  intro f
  induction f with
  | zero=>intro k l h _ e;omega
  | succ f ih=>
   intro k l h i0 e hk;unfold qC;simp only[Src.at,hS k l h i0,getElem?_map];by_cases hl:k<xs.length
   · rw[getElem?_eq_getElem hl];obtain⟨r,e1,p1⟩:=H k xs[k] (getElem?_eq_getElem hl) l h i0;simp only[zd9,RX,zea,e1];cases r with
     | nx l2 h2=>exact ih (k+1) l2 h2 p1 (by omega) (by omega)
     | ct l2 h2=>exact ih (k+1) l2 h2 p1 (by omega) (by omega)
     | bk l2 h2=>exact p1.elim
     | rt d h2=>exact p1.elim
   · rw[getElem?_eq_none (by omega)];have:k=xs.length:=by omega
     subst this;exact⟨l,h,rfl,i0⟩
 have hf:Src.fuel (.en n) h=xs.length-0+1:=by simp only[Src.fuel,hS 0 l h h0,length_map];omega
 unfold dE;exact go _ 0 l h h0 hf (Nat.zero_le _)
end SM
namespace G
def top(i:Nat):Stmt:=PySem.Challenge.pw_spanways_k25_whole_tame_ways_left_are_so.main.body.getD i (.Pass ⟨0,0,0,0⟩)
noncomputable abbrev rL:Dt:=(.int 8191)
noncomputable def Wq:List Dt:=[(.tup [(.int 0),(.int 0)]),(.tup [(.int 0),(.int 1)]),(.tup [(.int 0),(.int 2)]),(.tup [(.int 0),(.int 3)]),(.tup [(.int 0),(.int 4)]),(.tup [(.int 1),(.int 2)]),(.tup [(.int 1),(.int 3)]),(.tup [(.int 1),(.int 4)]),(.tup [(.int 2),(.int 2)]),(.tup [(.int 2),(.int 3)]),(.tup [(.int 2),(.int 4)]),(.tup [(.int 3),(.int 4)]),(.tup [(.int 4),(.int 4)])]
abbrev MS:Dt:=.tup Wq
noncomputable def Tf:List Dt:=[(.tup [(.int 1),(.int 1),(.int 1),(.int 1),(.int 1),(.int 1),(.int 1),(.int 1),(.int 295),(.int 295),(.int 295),(.int 295),(.int 8191)]),(.tup [(.int 1),(.int 1),(.int 1),(.int 1),(.int 1),(.int 2),(.int 2),(.int 2),(.int 292),(.int 292),(.int 292),(.int 584),(.int 7312)]),(.tup [(.int 1),(.int 1),(.int 7),(.int 7),(.int 31),(.int 4),(.int 4),(.int 28),(.int 292),(.int 292),(.int 2044),(.int 1168),(.int 7312)]),(.tup [(.int 1),(.int 2),(.int 4),(.int 8),(.int 16),(.int 4),(.int 8),(.int 16),(.int 292),(.int 584),(.int 1168),(.int 1168),(.int 7312)]),(.tup [(.int 31),(.int 28),(.int 28),(.int 16),(.int 16),(.int 28),(.int 16),(.int 16),(.int 2044),(.int 1168),(.int 1168),(.int 1168),(.int 7312)]),(.tup [(.int 1),(.int 1),(.int 7),(.int 7),(.int 31),(.int 32),(.int 32),(.int 224),(.int 256),(.int 256),(.int 1792),(.int 2048),(.int 4096)]),(.tup [(.int 1),(.int 2),(.int 4),(.int 8),(.int 16),(.int 32),(.int 64),(.int 128),(.int 256),(.int 512),(.int 1024),(.int 2048),(.int 4096)]),(.tup [(.int 31),(.int 28),(.int 28),(.int 16),(.int 16),(.int 224),(.int 128),(.int 128),(.int 1792),(.int 1024),(.int 1024),(.int 2048),(.int 4096)]),(.tup [(.int 1),(.int 1),(.int 295),(.int 295),(.int 8191),(.int 256),(.int 256),(.int 7936),(.int 256),(.int 256),(.int 7936),(.int 4096),(.int 4096)]),(.tup [(.int 1),(.int 2),(.int 292),(.int 584),(.int 7312),(.int 256),(.int 512),(.int 7168),(.int 256),(.int 512),(.int 7168),(.int 4096),(.int 4096)]),(.tup [(.int 31),(.int 28),(.int 2044),(.int 1168),(.int 7312),(.int 1792),(.int 1024),(.int 7168),(.int 1792),(.int 1024),(.int 7168),(.int 4096),(.int 4096)]),(.tup [(.int 31),(.int 224),(.int 1792),(.int 2048),(.int 4096),(.int 1792),(.int 2048),(.int 4096),(.int 1792),(.int 2048),(.int 4096),(.int 4096),(.int 4096)]),(.tup [(.int 8191),(.int 7936),(.int 7936),(.int 4096),(.int 4096),(.int 7936),(.int 4096),(.int 4096),(.int 7936),(.int 4096),(.int 4096),(.int 4096),(.int 4096)])]
abbrev uR:Dt:=.tup Tf
noncomputable abbrev ZS:Dt:=(.int 64)
abbrev pS:Stmt:=top 3
def WX:RS:=JA (e2 uA (eC MS) (eV 0))
def NS:RB:=nC 1 1 WX
abbrev FR:Stmt:=top 4
def wQ:RE:=eV 0
def xQ:RT:=Rf (e2 XC (e2 AH (e2 II (eV 1) (eV 0)) (eC (.int 1))) (eC (.int 1)))
def tR:RS:=JA (ID (FH (eC (.int 13))) (AA 0) xQ wQ [none,some 0])
def FG:RB:=nC 1 1 tR
abbrev aS:Stmt:=top 5
def WQ:RE:=e2 yG (eC (.int 1)) (eV 0)
def vR:RS:=JA (MC IL (ID (DC (eV 0)) (AA 0) QB WQ [none]))
def wN:RB:=nC 1 1 vR
abbrev bS:Stmt:=top 6
def OQ:RE:=e2 GF (eC (.int 12)) (eV 0)
def wR:RS:=JA (xA wN [] (bA (ID (DC (xA FG [] (bA (eV 0) eA))) (AA 0) QB OQ [none]) eA))
def xN:RB:=nC 1 1 wR
abbrev ZP:Stmt:=top 9
def sP:RS:=wA 3 (e2 OL (eV 3) (e2 uA (e2 uA (eC uR) (eV 4)) (eV 5)))
def kM:RS:=FC (DC (eV 2)) (AA 5) sP
def MP:RS:=iA (wA 2 (xA FG [] (bA (eV 1) eA))) (iA (wA 3 (eC (.int 0))) (iA (FC (DC (xA FG [] (bA (eV 0) eA))) (AA 4) kM) (JA (eV 3))))
def pM:RB:=nC 2 6 MP
abbrev kR:Stmt:=top 12
def VQ:RS:=JA (e2 BH (e2 PL (GI (eC rL) (eV 1)) (uF (bA (eC ZS) eA))) (GI (eC rL) (e2 GF (e2 GF (eV 0) (eV 1)) (eC (.int 1)))))
def RM:RB:=nC 2 2 VQ
abbrev fT:Stmt:=top 13
def xR:RE:=xA RM [] (bA (eV 1) (bA (eV 0) eA))
def YS:RS:=JA (IG (FH (eV 0)) (AA 0) QB xR [none,some 0])
def aL:RB:=nC 1 1 YS
abbrev NQ:Stmt:=top 14
def lQ:RS:=cE (IE (eV 1) (mB (bA (eV 2) (bA (eV 3) eA))))
def gQ:RS:=FC (zZ (e2 VB (eV 2) (eC (.int 1))) (eV 0)) (AA 3) lQ
def UQ:RS:=iA (wA 1 (EF eA)) (iA (FC (FH (eV 0)) (AA 2) gQ) (JA (eV 1)))
def oH:RB:=nC 1 4 UQ
abbrev MQ:Stmt:=top 15
def PU:RE:=MC OE (eV 0)
def TQ:RS:=iA (wA 4 (IG (DC (eV 0)) (AA 0) QB PU [none])) (iA (kI (e2 AH (e2 uA (e2 uA (eV 0) (eV 1)) (eV 3)) (eV 2)) (e2 uA (eV 4) (eV 1)) (eV 3)) (iA (kI (xA xN [] (bA (e2 uA (e2 uA (eV 4) (eV 1)) (eV 3)) eA)) (e2 uA (eV 4) (eV 3)) (eV 1)) (JA (eV 4))))
def nH:RB:=nC 4 5 TQ
abbrev AR:Stmt:=top 16
def oR:RS:=iA (wA 2 (e2 uA (e2 uA (eV 0) (e2 uA (eV 1) (eC (.int 0)))) (e2 uA (eV 1) (eC (.int 1))))) (iA (wA 3 (e2 uA (e2 uA (eV 0) (e2 uA (eV 1) (eC (.int 1)))) (e2 uA (eV 1) (eC (.int 2))))) (JA (e2 AH (e2 uA (e2 uA (eV 0) (e2 uA (eV 1) (eC (.int 0)))) (e2 uA (eV 1) (eC (.int 2)))) (xA pM [] (bA (eV 2) (bA (eV 3) eA))))))
def CK:RB:=nC 2 4 oR
abbrev DR:Stmt:=top 17
def qR:RS:=JA (e2 oE (xA CK [] (bA (eV 0) (bA (eV 1) eA))) (e2 uA (e2 uA (eV 0) (e2 uA (eV 1) (eC (.int 0)))) (e2 uA (eV 1) (eC (.int 2)))))
def nN:RB:=nC 2 2 qR
abbrev BR:Stmt:=top 18
def pR:RS:=JA (xA nH [] (bA (eV 0) (bA (e2 uA (eV 1) (eC (.int 0))) (bA (xA CK [] (bA (eV 0) (bA (eV 1) eA))) (bA (e2 uA (eV 1) (eC (.int 2))) eA)))))
def mN:RB:=nC 2 2 pR
abbrev LQ:Stmt:=top 19
def OU:RE:=e2 (gH false) (eC (.int 0)) (eV 0)
def SQ:RS:=JA (MC HL (ID (DC (eV 0)) (AA 0) QB OU [none]))
def QM:RB:=nC 1 1 SQ
abbrev JP:Stmt:=top 20
def tP:RS:=TD (Rf (e2 (gH true) (eV 3) (eV 0))) (iA (cE (IE (eV 2) (mB (bA (e2 uA (eV 0) (eC (.int 0))) (bA (e2 uA (eV 0) (eC (.int 1))) (bA (eV 3) eA)))))) (cE (IE (eV 2) (mB (bA (e2 uA (eV 0) (eC (.int 1))) (bA (e2 uA (eV 0) (eC (.int 0))) (bA (eV 3) eA))))))) OB
def QP:RS:=iA (wA 2 (EF eA)) (iA (FC (FH (eV 1)) (AA 3) tP) (JA (eV 2)))
def uM:RB:=nC 2 4 QP
abbrev HP:Stmt:=top 21
def KU:RE:=MC OE (eV 0)
def VI:RS:=TD (Rf (xA nN [] (bA (eV 3) (bA (eV 6) eA)))) (iA (wA 3 (xA mN [] (bA (eV 3) (bA (eV 6) eA)))) (iA (cE (IE (eV 2) (eV 6))) (iA (TD (Rf (e2 SJ (e2 uA (e2 uA (eV 3) (e2 uA (eV 6) (eC (.int 0)))) (e2 uA (eV 6) (eC (.int 2)))) (eC (.int 0)))) (JA (mB (bA (eC .non) (bA (eV 2) eA)))) OB) (cE (IE (eV 4) (mB (bA (e2 uA (eV 6) (eC (.int 0))) (bA (e2 uA (eV 6) (eC (.int 2))) eA)))))))) OB
def mK:RS:=iA (wA 5 (iO (eV 4) (eC (.int 0)))) (FC (DC (xA uM [] (bA (eV 5) (bA (MC sC (eV 0)) eA)))) (AA 6) VI)
def bK:RT:=Rf (e2 SH (eV 4) (uF eA))
def oM:RS:=iA (wA 2 (EF eA)) (iA (TD (Rf (xA QM [] (bA (eV 0) eA))) (JA (mB (bA (eC .non) (bA (eV 2) eA)))) OB) (iA (wA 3 (IG (DC (eV 0)) (AA 0) QB KU [none])) (iA (wA 4 (MC OE (eV 1))) (iA (oO 1000000 bK mK) (JA (mB (bA (eV 3) (bA (eV 2) eA))))))))
def VH:RB:=nC 2 7 oM
abbrev ER:Stmt:=top 22
def sR:RS:=JA (xA VH [] (bA (eV 0) (bA (xA oH [] (bA (MC sC (eV 0)) eA)) eA)))
def oN:RB:=nC 1 1 sR
abbrev CQ:Stmt:=top 24
def iK:RS:=TD (Rf (e2 XC (e2 uA (eV 3) (eC (.int 0))) (eC (.str "ways")))) (wA 2 (xA nH [] (bA (eV 2) (bA (e2 uA (eV 3) (eC (.int 1))) (bA (e2 uA (eV 3) (eC (.int 2))) (bA (e2 uA (eV 3) (eC (.int 3))) eA)))))) OB
def uQ:RS:=iA (wA 2 (xA aL [] (bA (eV 0) eA))) (iA (FC (DC (eV 1)) (AA 3) iK) (JA (eV 2)))
def oK:RB:=nC 2 4 uQ
abbrev GQ:Stmt:=top 25
def LU:RE:=mB (bA (e2 uA (eV 0) (eC (.int 1))) (bA (e2 uA (eV 0) (eC (.int 2))) (bA (e2 uA (eV 0) (eC (.int 3))) eA)))
def RP:RT:=Rf (e2 XC (e2 uA (eV 0) (eC (.int 0))) (eC (.str "long")))
def jQ:RS:=JA (ID (DC (eV 0)) (AA 0) RP LU [none])
def JM:RB:=nC 1 1 jQ
abbrev DQ:Stmt:=top 26
def TU:RE:=e2 uA (eV 0) (eC (.int 1))
def oQ:RT:=Rf (e2 XC (e2 uA (eV 0) (eC (.int 0))) (eC (.str "one")))
def vQ:RS:=JA (ID (DC (eV 0)) (AA 0) oQ TU [none])
def pK:RB:=nC 1 1 vQ
abbrev qQ:Stmt:=top 27
def zM:RS:=iA (wA 5 (cM (Rf (e2 XC (eV 3) (eV 2))) (e2 uA (eV 4) (eC (.int 2))) (e2 AH (eC rL) (ZL (e2 uA (eV 4) (eC (.int 2))))))) (wA 0 (xA nH [] (bA (eV 0) (bA (e2 uA (eV 4) (eC (.int 1))) (bA (eV 5) (bA (e2 uA (eV 4) (eC (.int 3))) eA))))))
def mQ:RS:=iA (FC (vO (eV 1)) (dF 3 4) zM) (JA (eV 0))
def vM:RB:=nC 3 6 mQ
abbrev DP:Stmt:=top 28
def eM:RS:=TD (Rf (e2 AL (MC sC (xA FG [] (bA (e2 uA (e2 uA (eV 0) (e2 uA (eV 1) (eC (.int 0)))) (e2 uA (eV 1) (eC (.int 1)))) eA))) (eC (.int 1)))) (JA (eV 1)) OB
def nM:RS:=iA (FC (DC (xA oH [] (bA (MC sC (eV 0)) eA))) (AA 1) eM) (JA (eC .non))
def eK:RB:=nC 1 2 nM
abbrev jR:Stmt:=top 29
def FM:RE:=xA vM [] (bA (eV 1) (bA (eV 2) (bA (eV 0) eA)))
def QU:RE:=mB (bA (e2 uA (eV 0) (eC (.int 1))) (bA (e2 uA (eV 0) (eC (.int 3))) eA))
def HM:RE:=xA nH [] (bA (eV 1) (bA (e2 uA (eV 2) (eC (.int 0))) (bA (e2 yG (eC (.int 1)) (eV 0)) (bA (e2 uA (eV 2) (eC (.int 1))) eA))))
def xK:RS:=iA (TD (Rf (e2 SH (eV 1) (uF eA))) (iA (wA 2 (e2 uA (eV 1) (eC (.int 0)))) (iA (wA 3 (ID (FH (MC sC (eV 2))) (AA 0) QB FM [none,some 0,some 2])) (JA (mB (bA (eC (.str "one")) (bA (mB eA) (bA (eV 3) (bA (ID (DC (eV 2)) (AA 0) QB QU [none]) eA)))))))) OB) (iA (wA 4 (xA eK [] (bA (eV 0) eA))) (iA (TD (Rf (e2 iH (eV 4) (eC .non))) (JA (eC .non)) OB) (iA (wA 5 (e2 uA (e2 uA (eV 0) (e2 uA (eV 4) (eC (.int 0)))) (e2 uA (eV 4) (eC (.int 1))))) (iA (wA 3 (ID (DC (xA FG [] (bA (eV 5) eA))) (AA 0) QB HM [none,some 0,some 4])) (JA (mB (bA (eC (.str "split")) (bA (eV 4) (bA (eV 3) (bA (uF (bA (eV 4) eA)) eA))))))))))
def pH:RB:=nC 2 6 xK
abbrev lS:Stmt:=top 31
def KS:RS:=JA (e2 VB (e2 YC (eC (.int 2)) (eV 0)) (eC (.int 1)))
def IK:RB:=nC 1 1 KS
abbrev fQ:Stmt:=top 32
def aQ:RS:=iA (wA 2 (e2 YC (eC (.int 2)) (e2 uA (eV 0) (eC (.int 0))))) (JA (EF (bA (mB (bA (eV 2) (bA (e2 VB (eV 2) (eC (.int 1))) (bA (e2 YC (pE (e2 uA (eV 0) (eC (.int 1)))) (eV 1)) eA)))) (bA (mB (bA (e2 VB (eV 2) (eC (.int 1))) (bA (eV 2) (bA (e2 YC (e2 uA (eV 0) (eC (.int 2))) (eV 1)) eA)))) eA))))
def nK:RB:=nC 2 3 aQ
abbrev GP:Stmt:=top 33
def NP:RS:=iA (wA 4 (EF eA)) (iA (TD (Rf (e2 BL (MC YG (eV 3)) (eV 2))) (cE (IE (eV 4) (mB (bA (eV 0) (bA (eV 1) (bA (cM (Rf (e2 MO (MC YG (eV 3)) (eV 2))) (pE (eC (.int 1))) (eC (.int 0))) eA)))))) OB) (iA (TD (Rf (e2 iP (MC ZG (eV 3)) (eV 2))) (cE (IE (eV 4) (mB (bA (eV 1) (bA (eV 0) (bA (cM (Rf (e2 AL (MC ZG (eV 3)) (eV 2))) (pE (eC (.int 1))) (eC (.int 0))) eA)))))) OB) (JA (eV 4))))
def UH:RB:=nC 4 5 NP
abbrev HQ:Stmt:=top 34
def jK:RE:=e2 uA (xA NS [] (bA (eV 0) eA)) (eV 1)
def lK:RS:=iA (wA 5 (ID (DC (xA FG [] (bA (eV 1) eA))) (AA 0) QB jK [none,some 4])) (iA (cE (fI (eV 3) (xA UH [] (bA (e2 VB (e2 YC (eC (.int 2)) (eV 0)) (eV 4)) (bA (e2 YC (eC (.int 2)) (eV 2)) (bA (eC (.int 1)) (bA (eV 5) eA))))))) (cE (fI (eV 3) (xA UH [] (bA (e2 VB (e2 YC (eC (.int 2)) (eV 0)) (eV 4)) (bA (e2 VB (e2 YC (eC (.int 2)) (eV 2)) (eC (.int 1))) (bA (eC (.int 3)) (bA (eV 5) eA))))))))
def kQ:RS:=iA (wA 3 (EF eA)) (iA (FC (FH (eC (.int 2))) (AA 4) lK) (JA (eV 3)))
def XI:RB:=nC 3 6 kQ
abbrev ZR:Stmt:=top 35
def NM:RE:=mB (bA (e2 YC (eC (.int 2)) (eV 0)) (bA (e2 VB (e2 YC (eC (.int 2)) (eV 0)) (eC (.int 1))) (bA (pE (eC (.int 1))) eA)))
def UM:RS:=cE (fI (eV 2) (xA nK [] (bA (eV 3) (bA (xA IK [] (bA (MC sC (eV 0)) eA)) eA))))
def WH:RS:=cE (fI (eV 2) (xA XI [] (bA (e2 uA (eV 4) (eC (.int 0))) (bA (e2 uA (e2 uA (eV 0) (e2 uA (eV 4) (eC (.int 0)))) (e2 uA (eV 4) (eC (.int 1)))) (bA (e2 uA (eV 4) (eC (.int 1))) eA)))))
def yR:RS:=iA (wA 2 (IG (FH (MC sC (eV 0))) (AA 0) QB NM [none])) (iA (FC (DC (eV 1)) (AA 3) UM) (iA (FC (DC (xA oH [] (bA (MC sC (eV 0)) eA))) (AA 4) WH) (JA (eV 2))))
def vN:RB:=nC 2 5 yR
abbrev FP:Stmt:=top 36
def cK:RS:=iA (wA 3 (aP (bA (e2 uA (eV 2) (eC (.int 0))) (bA (e2 uA (eV 2) (eC (.int 1))) eA)))) (EO (yL zH (rH (eV 1) (eV 3) (e2 uA (eV 2) (eC (.int 2)))) (e2 uA (eV 2) (eC (.int 2)))) (eV 1) (eV 3))
def BM:RS:=iA (wA 1 IT) (iA (FC (DC (eV 0)) (AA 2) cK) (JA (eV 1)))
def UI:RB:=nC 1 4 BM
abbrev mS:Stmt:=top 37
def bI:RS:=TD (Rf (e2 AL (e2 uA (eV 1) (e2 uA (eV 4) (eC (.int 0)))) (e2 VB (e2 uA (eV 1) (e2 uA (eV 4) (eC (.int 1)))) (eV 5)))) (iA (kI (e2 VB (e2 uA (eV 1) (e2 uA (eV 4) (eC (.int 1)))) (eV 5)) (eV 1) (e2 uA (eV 4) (eC (.int 0)))) (iA (kI (e2 uA (eV 4) (eC (.int 1))) (eV 2) (e2 uA (eV 4) (eC (.int 0)))) (wA 3 (e2 uA (eV 4) (eC (.int 0)))))) OB
def LS:RS:=iA (wA 3 (eC .non)) (iA (FC (jI (eV 0)) (dF 4 5) bI) (JA (eV 3)))
def lJ:RB:=nC 3 6 LS
abbrev rQ:Stmt:=top 38
def cQ:RS:=wA 0 (e2 uA (eV 1) (eV 0))
def dQ:RS:=cE (IE (eV 3) (e2 uA (eV 1) (e2 uA (eV 3) (pE (eC (.int 1))))))
def bQ:RT:=Rf (e2 oE (e2 uA (eV 3) (pE (eC (.int 1)))) (eV 0))
def nQ:RS:=iA (FC (FH (MC sC (eV 1))) (AA 2) cQ) (iA (wA 3 (EF (bA (eV 0) (bA (e2 uA (eV 1) (eV 0)) eA)))) (iA (oO 100 bQ dQ) (JA (eV 3))))
def wM:RB:=nC 2 4 nQ
abbrev oS:Stmt:=top 39
def BK:RE:=e2 GF (eV 0) (eV 1)
def gJ:RS:=iA (wA 6 (xA lJ [] (bA (eV 2) (bA (eV 3) (bA (eV 4) eA))))) (TD (Rf (e2 iH (eV 6) (eC .non))) (iA (wA 7 (JT (eV 3) (eC (.int 0)))) (JA (mB (bA (eC (.str "times")) (bA (ID (DC (eV 3)) (AA 0) QB BK [none,some 7]) eA))))) OB)
def kJ:RS:=iA (wA 2 (xA UI [] (bA (eV 1) eA))) (iA (wA 3 (EJ (eC (.int 0)) (eV 0))) (iA (wA 4 (EJ (eC .non) (eV 0))) (iA (FC (FH (e2 VB (eV 0) (eC (.int 1)))) (AA 5) gJ) (JA (mB (bA (eC (.str "ring")) (bA (xA wM [] (bA (eV 6) (bA (eV 4) eA))) eA)))))))
def iG:RB:=nC 2 8 kJ
abbrev yP:Stmt:=yS (top 41) 0
def xP:RS:=iA (mI "Search" "lengths" (eV 0) (eV 1)) (iA (mI "Search" "most" (eV 0) (eV 2)) (mI "Search" "made" (eV 0) (eC (.int 0))))
def fK:RB:=nC 3 3 xP
abbrev IP:Stmt:=top 42
def mM:RE:=mB (bA (e2 uA (eV 1) (eV 0)) (bA (e2 uA (eV 1) (e2 VB (eV 0) (eC (.int 1)))) eA))
def OP:RS:=JA (ID (AZ (eC (.int 0)) (MC sC (eV 0)) 2) (AA 0) QB mM [none,some 0])
def qM:RB:=nC 1 1 OP
abbrev rP:Stmt:=yS (top 41) 2
def ZJ (R:RB):RS:=iA (wA 6 (sI "Search" "look" R (eV 0) (bA (eV 5) (bA (e2 uA (eV 1) (eC (.int 3))) (bA (eV 3) eA))))) (iA (TD (Rf (e2 oE (e2 uA (eV 6) (eC (.int 0))) (eC (.str "clash")))) (JA (eV 6)) OB) (cE (IE (eV 4) (e2 uA (eV 6) (eC (.int 1))))))
def aK (R:RB):RS:=iA (wA 4 (EF eA)) (iA (FC (DC (e2 uA (eV 1) (eC (.int 2)))) (AA 5) (ZJ R)) (JA (mB (bA (eC (.str "clash")) (bA (e2 uI (e2 uI (mB (bA (e2 uA (eV 1) (eC (.int 0))) (bA (eV 2) eA))) (e2 uA (eV 1) (eC (.int 1)))) (mB (bA (eV 4) eA))) eA)))))
def jH(R:RB):RB:=nC 4 7 (aK R)
abbrev pQ:Stmt:=yS (top 41) 1
def AG (R:RB):RS:=iA (wA 4 (xA VH [] (bA (eV 1) (bA (eV 2) eA)))) (iA (wA 5 (e2 uA (eV 4) (eC (.int 0)))) (iA (wA 6 (e2 uA (eV 4) (eC (.int 1)))) (iA (TD (Rf (e2 iH (eV 5) (eC .non))) (JA (mB (bA (eC (.str "clash")) (bA (mB (bA (eC (.str "threes")) (bA (eV 6) eA))) eA)))) OB) (iA (wA 7 (xA iG [] (bA (e2 YC (eC (.int 2)) (MC sC (eV 5))) (bA (xA vN [] (bA (eV 5) (bA (XG "Search" "lengths" (eV 0)) eA))) eA)))) (iA (TD (Rf (e2 XC (e2 uA (eV 7) (eC (.int 0))) (eC (.str "ring")))) (JA (mB (bA (eC (.str "clash")) (bA (mB (bA (eC (.str "ring")) (bA (eV 6) (bA (e2 uA (eV 7) (eC (.int 1))) eA)))) eA)))) OB) (iA (wA 8 (xA pH [] (bA (eV 5) (bA (eV 3) eA)))) (iA (TD (Rf (e2 iH (eV 8) (eC .non))) (JA (mB (bA (eC (.str "laid")) (bA (xA qM [] (bA (e2 uA (eV 7) (eC (.int 1))) eA)) eA)))) OB) (iA (TD (Rf (e2 iP (XG "Search" "made" (eV 0)) (XG "Search" "most" (eV 0)))) (JA (mB (bA (eC (.str "open")) (bA (eC .non) eA)))) OB) (iA (mI "Search" "made" (eV 0) (e2 VB (XG "Search" "made" (eV 0)) (eC (.int 1)))) (JA (sI "Search" "look_at_branches" (jH R) (eV 0) (bA (eV 8) (bA (eV 6) (bA (ZT (eV 3) (NO (eC (.int 1))) sU) eA))))))))))))))
def MF(n:Nat):RB:=Nat.rec (fun _ _=>none) (fun _ R=>nC 4 9 (AG R)) n
abbrev fN:Stmt:=top 43
def rR:RS:=iA (wA 3 (qO "Search" fK (bA (xA JM [] (bA (eV 1) eA)) (bA (eV 2) eA)))) (iA (wA 4 (sI "Search" "look" (MF 12) (eV 3) (bA (xA oK [] (bA (eV 0) (bA (eV 1) eA))) (bA (xA oH [] (bA (eV 0) eA)) (bA (xA pK [] (bA (eV 1) eA)) eA))))) (JA (mB (bA (e2 uA (eV 4) (eC (.int 0))) (bA (e2 uA (eV 4) (eC (.int 1))) (bA (XG "Search" "made" (eV 3)) eA))))))
def YI:RB:=nC 3 5 rR
abbrev yQ:Stmt:=top 45
def sQ:RS:=iA (TD (Rf (e2 MO (eV 1) (MC sC (eV 0)))) (JA (e2 uA (eV 0) (eV 1))) OB) (JA (eC (.int 0)))
def aG:RB:=nC 2 2 sQ
abbrev KQ:Stmt:=top 46
def RQ:RS:=JA (e2 uC (e2 YC (e2 VB (e2 uC (eV 0) (eC (.int 1000000007))) (eC (.int 1))) (eV 1)) (eV 2))
def YH:RB:=nC 3 3 RQ
abbrev FQ:Stmt:=top 47
def iQ:RS:=JA (bM (OH "int" (eV 0)) (dM (OH "bool" (eV 0))))
def WI:RB:=nC 1 1 iQ
abbrev BQ:Stmt:=top 48
def XH:RS:=iA (TD (Rf (e2 MO (eV 0) (e2 uA (eV 1) (eC (.int 0))))) (JA (eC (.int 0))) OB) (iA (TD (Rf (e2 XC (eV 0) (e2 uA (eV 1) (eC (.int 0))))) (JA (eC (.int 1))) OB) (JA (e2 VB (e2 VB (eC (.int 2)) (MC MJ (e2 iP (eV 0) (e2 uA (eV 1) (eC (.int 1)))))) (MC MJ (e2 AL (eV 0) (e2 uA (eV 1) (eC (.int 1))))))))
def LF:RB:=nC 2 2 XH
abbrev VP:Stmt:=top 49
def KP:RS:=JA (e2 VB (e2 uA (uF (bA (eC (.int 0)) (bA (eC (.int 3)) (bA (eC (.int 6)) (bA (eC (.int 7)) (bA (eC (.int 8)) eA)))))) (xA LF [] (bA (e2 uA (eV 0) (eC (.int 0))) (bA (eV 1) eA)))) (xA LF [] (bA (e2 uA (eV 0) (eC (.int 1))) (bA (eV 1) eA))))
def SI:RB:=nC 2 2 KP
abbrev vP:Stmt:=top 50
def CP:RS:=iA (wA 6 (xA YH [] (bA (e2 VB (xA aG [] (bA (eV 0) (bA (e2 VB (eV 1) (eV 5)) eA))) (e2 YC (eV 5) (eV 5))) (bA (eC (.int 742938285)) (bA (eC (.int 2147483647)) eA))))) (iA (wA 7 (e2 YC (e2 GF (e2 uC (eV 6) (eC (.int 8))) (eC (.int 3))) (eV 3))) (cE (IE (eV 4) (mB (bA (eV 7) (bA (e2 VB (eV 7) (e2 YC (e2 VB (eC (.int 1)) (e2 uC (e2 FD (eV 6) (eC (.int 8))) (eC (.int 5)))) (eV 3))) eA))))))
def BP:RS:=iA (wA 3 (e2 uA (uF (bA (eC (.int 1)) (bA (eC (.int 1)) (bA (eC (.int 1)) (bA (e2 VB (e2 QL (eC (.int 10)) (eC (.int 40))) (eC (.int 7))) eA))))) (e2 uC (e2 FD (xA aG [] (bA (eV 0) (bA (eC (.int 0)) eA))) (eC (.int 5))) (eC (.int 4))))) (iA (wA 4 (EF eA)) (iA (FC (FH (eV 2)) (AA 5) CP) (JA (eV 4))))
def jM:RB:=nC 3 8 BP
abbrev JQ:Stmt:=top 51
def KM:RS:=TD (xL (Rf (gI BL BL (eV 0) (e2 uA (eV 4) (eV 7)) (eV 1))) (Rf (gI BL BL (eV 2) (e2 uA (eV 5) (eV 7)) (eV 3)))) (wA 6 (e2 OL (eV 6) (e2 yG (eC (.int 1)) (eV 7)))) OB
def QQ:RS:=iA (wA 4 (uF (bA (eC (.int 0)) (bA (eC (.int 0)) (bA (eC (.int 0)) (bA (eC (.int 0)) (bA (eC (.int 0)) (bA (eC (.int 1)) (bA (eC (.int 1)) (bA (eC (.int 1)) (bA (eC (.int 2)) (bA (eC (.int 2)) (bA (eC (.int 2)) (bA (eC (.int 3)) (bA (eC (.int 4)) eA))))))))))))))) (iA (wA 5 (uF (bA (eC (.int 0)) (bA (eC (.int 1)) (bA (eC (.int 2)) (bA (eC (.int 3)) (bA (eC (.int 4)) (bA (eC (.int 2)) (bA (eC (.int 3)) (bA (eC (.int 4)) (bA (eC (.int 2)) (bA (eC (.int 3)) (bA (eC (.int 4)) (bA (eC (.int 4)) (bA (eC (.int 4)) eA))))))))))))))) (iA (wA 6 (eC (.int 0))) (iA (FC (FH (eC (.int 13))) (AA 7) KM) (JA (eV 6)))))
def PM:RB:=nC 4 8 QQ
abbrev zQ:Stmt:=top 52
def aJ:RS:=iA (wA 3 (MC sC (eV 1))) (iA (wA 4 (xA YH [] (bA (eV 0) (bA (eC (.int 950706376)) (bA (eC (.int 2147483399)) eA))))) (iA (wA 5 (e2 uC (eV 4) (eV 3))) (iA (wA 6 (e2 uC (e2 VB (e2 VB (eV 5) (eC (.int 1))) (e2 uC (e2 FD (eV 4) (eC (.int 8))) (e2 GF (eV 3) (eC (.int 1))))) (eV 3))) (iA (wA 7 (xA LF [] (bA (e2 uA (e2 uA (eV 1) (eV 5)) (eC (.int 0))) (bA (e2 uA (eV 1) (eV 6)) eA)))) (iA (wA 8 (xA LF [] (bA (e2 uA (e2 uA (eV 1) (eV 5)) (eC (.int 1))) (bA (e2 uA (eV 1) (eV 6)) eA)))) (iA (wA 4 (xA YH [] (bA (eV 0) (bA (eC (.int 742938285)) (bA (eC (.int 2147483647)) eA))))) (iA (TD (xL (Rf (eV 2)) (Rf (e2 AL (e2 uC (e2 FD (eV 4) (eC (.int 625))) (eC (.int 4))) (eC (.int 0))))) (iA (wA 7 (e2 uC (e2 FD (eV 4) (eC (.int 2500))) (eC (.int 5)))) (wA 8 (e2 uC (e2 FD (eV 4) (eC (.int 12500))) (eC (.int 5))))) OB) (iA (wA 9 (yL zH (eV 7) (e2 uC (eV 4) (eC (.int 5))))) (iA (wA 10 (yL uL (eV 7) (e2 uC (e2 FD (eV 4) (eC (.int 5))) (eC (.int 5))))) (iA (wA 11 (xA PM [] (bA (eV 9) (bA (eV 10) (bA (yL zH (eV 8) (e2 uC (e2 FD (eV 4) (eC (.int 25))) (eC (.int 5)))) (bA (yL uL (eV 8) (e2 uC (e2 FD (eV 4) (eC (.int 125))) (eC (.int 5)))) eA)))))) (iA (TD (Rf (e2 XC (eV 11) (eC (.int 0)))) (wA 11 (e2 yG (eC (.int 1)) (xA SI [] (bA (e2 uA (eV 1) (eV 5)) (bA (e2 uA (eV 1) (eV 6)) eA))))) OB) (JA (mB (bA (eC (.str "ways")) (bA (eV 5) (bA (eV 11) (bA (eV 6) eA)))))))))))))))))
def KF:RB:=nC 3 12 aJ
abbrev AQ:Stmt:=top 53
def gK:RS:=iA (TD (HF (pG (Rf (OH "tuple" (eV 3)))) (Rf (e2 oE (MC sC (eV 3)) (eC (.int 2))))) (JA (eC (.bl false))) OB) (TD (HF (pG (Rf (xA WI [] (bA (e2 uA (eV 3) (eC (.int 0))) eA)))) (HF (pG (Rf (xA WI [] (bA (e2 uA (eV 3) (eC (.int 1))) eA)))) (HF (Rf (e2 MO (e2 uA (eV 3) (eC (.int 0))) (eC (.int 0)))) (Rf (e2 iP (e2 uA (eV 3) (eC (.int 0))) (e2 uA (eV 3) (eC (.int 1)))))))) (JA (eC (.bl false))) OB)
def xM:RS:=TD (Rf (e2 XC (e2 AH (e2 II (e2 uA (eV 4) (eC (.int 2))) (xA SI [] (bA (e2 uA (eV 0) (e2 uA (eV 4) (eC (.int 1)))) (bA (e2 uA (eV 0) (e2 uA (eV 4) (eC (.int 3)))) eA)))) (eC (.int 1))) (eC (.int 0)))) (JA (eC (.bl false))) OB
def tQ:RS:=iA (TD (HF (pG (Rf (OH "list" (eV 0)))) (Rf (e2 oE (MC sC (eV 0)) (eV 2)))) (JA (eC (.bl false))) OB) (iA (FC (DC (eV 0)) (AA 3) gK) (iA (FC (DC (eV 1)) (AA 4) xM) (JA (eC (.bl true)))))
def DM:RB:=nC 3 5 tQ
abbrev WP:Stmt:=top 54
def LP:RS:=iA (wA 3 (xA YI [] (bA (eV 0) (bA (eV 1) (bA (eV 2) eA))))) (iA (TD (HF (pG (Rf (OH "tuple" (eV 3)))) (HF (Rf (e2 oE (MC sC (eV 3)) (eC (.int 3)))) (HF (pG (Rf (xA WI [] (bA (e2 uA (eV 3) (eC (.int 2))) eA)))) (pG (Rf (gI BL BL (eC (.int 0)) (e2 uA (eV 3) (eC (.int 2))) (eV 2))))))) (JA (mB (bA (eC (.str "")) (bA (eC .non) (bA (eC (.int 0)) eA))))) OB) (JA (eV 3)))
def kK:RB:=nC 3 4 LP
abbrev oT:Stmt:=top 55
def aO:RE:=xA KF [] (bA (eV 0) (bA (eV 1) (bA (eC (.bl false)) eA)))
def NK:RS:=wA 4 (xA nH [] (bA (eV 4) (bA (e2 uA (eV 5) (eC (.int 1))) (bA (e2 uA (eV 5) (eC (.int 2))) (bA (e2 uA (eV 5) (eC (.int 3))) eA)))))
def PK:RE:=eV 0
def JK:RT:=Rf (e2 XC (e2 AH (e2 II (e2 uA (e2 uA (eV 1) (eV 2)) (eV 3)) (eV 0)) (eC (.int 1))) (eC (.int 1)))
def HK:RE:=eV 0
def MK:RT:=Rf (e2 (gH true) (eV 0) (eV 1))
def mJ:RS:=iA (wA 14 (e2 BH (eV 3) (uF (bA (mB (bA (eC (.str "ways")) (bA (eV 9) (bA (e2 yG (eC (.int 1)) (eV 13)) (bA (eV 10) eA))))) eA)))) (iA (wA 15 (xA kK [] (bA (eV 1) (bA (MC OE (eV 14)) (bA (eV 7) eA))))) (TD (HF (Rf (e2 oE (e2 uA (eV 15) (eC (.int 0))) (eC (.str "laid")))) (pG (Rf (xA DM [] (bA (e2 uA (eV 15) (eC (.int 1))) (bA (eV 14) (bA (eV 1) eA))))))) (JA (eC (.bl false))) OB))
def qL:RS:=iA (wA 1 (e2 VB (eC (.int 2)) (e2 uC (xA aG [] (bA (eV 0) (bA (eC (.int 0)) eA))) (eC (.int 2))))) (iA (TD (Rf (e2 XC (e2 uC (e2 FD (xA aG [] (bA (eV 0) (bA (eC (.int 0)) eA))) (eC (.int 20))) (eC (.int 4))) (eC (.int 1)))) (wA 1 (eC (.int 4))) OB) (iA (wA 2 (xA jM [] (bA (eV 0) (bA (eC (.int 1)) (bA (eV 1) eA))))) (iA (wA 3 (ID (DC (ZT (eV 0) (NO (eC (.int 9))) (NO (eC (.int 29))))) (AA 0) QB aO [none,some 2])) (iA (wA 4 (xA aL [] (bA (eV 1) eA))) (iA (FC (DC (eV 3)) (AA 5) NK) (iA (wA 6 (e2 uA (xA oN [] (bA (eV 4) eA)) (eC (.int 0)))) (iA (TD (Rf (e2 iH (eV 6) (eC .non))) (JA (eC (.bl false))) OB) (iA (wA 7 (e2 FD (e2 YC (eV 1) (e2 GF (eV 1) (eC (.int 1)))) (eC (.int 2)))) (iA (wA 8 (xA YH [] (bA (xA aG [] (bA (eV 0) (bA (eC (.int 7)) eA))) (bA (eC (.int 62089911)) (bA (eC (.int 2147483587)) eA))))) (iA (wA 9 (e2 uC (eV 8) (eV 1))) (iA (wA 10 (e2 uC (e2 VB (e2 VB (eV 9) (eC (.int 1))) (e2 uC (e2 FD (eV 8) (eC (.int 8))) (e2 GF (eV 1) (eC (.int 1))))) (eV 1))) (iA (wA 11 (ID (FH (eC (.int 13))) (AA 0) JK PK [none,some 6,some 9,some 10])) (iA (wA 12 (ID (FH (eC (.int 13))) (AA 0) MK HK [none,some 11])) (iA (TD (Rf (e2 (gH true) (xA SI [] (bA (e2 uA (eV 2) (eV 9)) (bA (e2 uA (eV 2) (eV 10)) eA))) (eV 11))) (JA (eC (.bl false))) OB) (iA (FC (wO (mB (bA (e2 uA (eV 11) (eC (.int 0))) (bA (e2 uA (eV 11) (pE (eC (.int 1)))) (bA (e2 uA (eV 11) (e2 uC (e2 FD (eV 8) (eC (.int 64))) (MC sC (eV 11)))) eA))))) (AA 13) mJ) (iA (TD (Rf (e2 XC (MC sC (eV 12)) (eC (.int 0)))) (JA (eC (.bl true))) OB) (iA (wA 14 (e2 BH (eV 3) (uF (bA (mB (bA (eC (.str "ways")) (bA (eV 9) (bA (e2 yG (eC (.int 1)) (e2 uA (eV 12) (e2 uC (e2 FD (eV 8) (eC (.int 64))) (MC sC (eV 12))))) (bA (eV 10) eA))))) eA)))) (JA (e2 XC (e2 uA (xA kK [] (bA (eV 1) (bA (eV 14) (bA (eV 7) eA)))) (eC (.int 0))) (eC (.str "clash")))))))))))))))))))))
def pI:RB:=nC 1 16 qL
structure uh(K:Frag)(mg:Str->Option Value):Prop where
 zbT:rB K mg "zones" pS ["way"]
 zbK:rB K mg "ways_in" FR ["mask"]
 zbN:rB K mg "set_of" aS ["ways"]
 zbO:rB K mg "turned" bS ["mask"]
 zbf:rB K mg "chained_sets" ZP ["one", "other"]
 zbE:rB K mg "wide_row" kR ["count", "i"]
 zbU:rB K mg "wide" fT ["count"]
 zbC:rB K mg "pairs_of" NQ ["count"]
 zbB:rB K mg "narrowed" MQ ["net", "i", "mask", "j"]
 zbG:rB K mg "left_by" AR ["net", "three"]
 zbI:rB K mg "narrows" DR ["net", "three"]
 zbH:rB K mg "made_of" BR ["net", "three"]
 zbA:rB K mg "is_empty" LQ ["net"]
 zbk:rB K mg "threes_along" JP ["pair", "count"]
 zbi:rB K mg "rounded_from" HP ["net", "pairs"]
 zbJ:rB K mg "rounded" ER ["net"]
 zbu:rB K mg "first_net" CQ ["count", "facts"]
 zbm:rB K mg "lengths_in" GQ ["facts"]
 zbv:rB K mg "groups_in" DQ ["facts"]
 zbo:rB K mg "only_member" qQ ["net", "group", "chosen"]
 zbb:rB K mg "first_loose_pair" DP ["net"]
 zbD:rB K mg "split_of" jR ["net", "groups"]
 zbQ:rB K mg "grain" lS ["count"]
 zbe:rB K mg "length_bounds" fQ ["length", "one"]
 zbh:rB K mg "point_bounds" GP ["p", "q", "at", "seen"]
 zbn:rB K mg "set_bounds" HQ ["i", "mask", "j"]
 zbM:rB K mg "bounds" ZR ["net", "lengths"]
 zbg:rB K mg "least_bounds" FP ["found"]
 zbR:rB K mg "moved" mS ["least", "times", "causes"]
 zbp:rB K mg "ring_behind" rQ ["point", "causes"]
 zbS:rB K mg "timed" oS ["points", "bounds"]
 zbL:aT K mg "Search" "Search.__init__" yP ["self", "lengths", "most"]
 zaH:bL K "Search" "look" "Search.look" pQ ["self", "net", "pairs", "groups"]
 za9:bL K "Search" "look_at_branches" "Search.look_at_branches" rP ["self", "split", "steps", "groups"]
 zbj:rB K mg "stretches_at" IP ["times"]
 zbw:FL K mg "planned" fN ["count", "facts", "most"] []
 zbq:rB K mg "_law_cell" yQ ["_law_script", "_law_k"]
 zbz:rB K mg "_law_mix" KQ ["_law_cell_here", "_law_factor", "_law_prime"]
 zbl:rB K mg "_law_whole" FQ ["_law_told"]
 zbt:rB K mg "_law_zone" BQ ["_law_time", "_law_one"]
 zbc:rB K mg "_law_between" VP ["_law_one", "_law_other"]
 zba:rB K mg "_law_stretches" vP ["_law_script", "_law_at", "_law_count"]
 zby:rB K mg "_law_box" JQ ["_law_a", "_law_b", "_law_c", "_law_d"]
 zbr:rB K mg "_law_fact" zQ ["_law_cell_here", "_law_stretches_here", "_law_loose"]
 zbs:rB K mg "_law_laid" AQ ["_law_thing", "_law_facts", "_law_count"]
 zbd:rB K mg "_law_planned" WP ["_law_count", "_law_facts", "_law_most"]
 zaF:tJ K "Search" "lengths"
 zaG:tJ K "Search" "most"
 Ym:tJ K "Search" "made"
 zbX:mg "any" =none
 zbW:mg "bool" =none
 zbx:mg "enumerate" =none
 Xp:mg "int" =none
 Xm:mg "isinstance" =none
 uc:mg "len" =none
 Zm:mg "list" =none
 Cp:mg "max" =none
 Im:mg "min" =none
 Kc:mg "range" =none
 zbY:mg "sum" =none
 zaI:mg "tuple" =none
 Tp:HJ K mg "ALL" rL
 zbP:HJ K mg "ZONES" MS
 zbF:HJ K mg "CHAINED" uR
 zbV:HJ K mg "SAME" ZS
section
variable{P:Program}{w:World}{K:Frag}{mg:Str->Option Value}
theorem Cj:WA ["way"] ["way"] (yA pS):=jB
theorem Q5:WA ["mask"] ["mask"] (yA FR):=jB
theorem n8:WA ["ways"] ["ways"] (yA aS):=jB
theorem o8:WA ["mask"] ["mask"] (yA bS):=jB
theorem pB:WA ["one", "other", "seconds", "reached", "first", "second"] ["one", "other"] (yA ZP):=jB
theorem D5:WA ["count", "i"] ["count", "i"] (yA kR):=jB
theorem Wv:WA ["count"] ["count"] (yA fT):=jB
theorem wD:WA ["count", "found", "i", "j"] ["count"] (yA NQ):=jB
theorem tF:WA ["net", "i", "mask", "j", "made"] ["net", "i", "mask", "j"] (yA MQ):=jB
theorem FE:WA ["net", "three", "first", "second"] ["net", "three"] (yA AR):=jB
theorem N5:WA ["net", "three"] ["net", "three"] (yA DR):=jB
theorem M5:WA ["net", "three"] ["net", "three"] (yA BR):=jB
theorem C5:WA ["net"] ["net"] (yA LQ):=jB
theorem OC:WA ["pair", "count", "found", "other"] ["pair", "count"] (yA JP):=jB
theorem eB:WA ["net", "pairs", "steps", "end", "waiting", "pair", "three"] ["net", "pairs"] (yA HP):=jB
theorem P5:WA ["net"] ["net"] (yA ER):=jB
theorem aD:WA ["count", "facts", "net", "fact"] ["count", "facts"] (yA CQ):=jB
theorem T3:WA ["facts"] ["facts"] (yA GQ):=jB
theorem X4:WA ["facts"] ["facts"] (yA DQ):=jB
theorem wC:WA ["net", "group", "chosen", "place", "member", "mask"] ["net", "group", "chosen"] (yA qQ):=jB
theorem UC:WA ["net", "pair"] ["net"] (yA DP):=jB
theorem pC:WA ["net", "groups", "group", "nets", "pair", "mask"] ["net", "groups"] (yA jR):=jB
theorem Bj:WA ["count"] ["count"] (yA lS):=jB
theorem GD:WA ["length", "one", "start"] ["length", "one"] (yA fQ):=jB
theorem VD:WA ["p", "q", "at", "seen", "found"] ["p", "q", "at", "seen"] (yA GP):=jB
theorem HC:WA ["i", "mask", "j", "found", "side", "seen"] ["i", "mask", "j"] (yA HQ):=jB
theorem mE:WA ["net", "lengths", "found", "length", "pair"] ["net", "lengths"] (yA ZR):=jB
theorem jC:WA ["found", "least", "bound", "pair"] ["found"] (yA FP):=jB
theorem UE:WA ["least", "times", "causes", "last", "pair", "most"] ["least", "times", "causes"] (yA mS):=jB
theorem xC:WA ["point", "causes", "step", "ring"] ["point", "causes"] (yA rQ):=jB
theorem gD:WA ["points", "bounds", "least", "times", "causes", "turn", "last", "first"] ["points", "bounds"] (yA oS):=jB
theorem B2:WA ["self", "lengths", "most"] ["self", "lengths", "most"] (yA yP):=jB
theorem D3:WA ["times"] ["times"] (yA IP):=jB
theorem VA:WA ["self", "split", "steps", "groups", "branches", "net", "told"] ["self", "split", "steps", "groups"] (yA rP):=jB
theorem EB:WA ["self", "net", "pairs", "groups", "gone_round", "end", "steps", "laid", "split"] ["self", "net", "pairs", "groups"] (yA pQ):=jB
theorem HE:WA ["count", "facts", "most", "search", "told"] ["count", "facts", "most"] (yA fN):=jB
theorem V4:WA ["_law_script", "_law_k"] ["_law_script", "_law_k"] (yA yQ):=jB
theorem B5:WA ["_law_cell_here", "_law_factor", "_law_prime"] ["_law_cell_here", "_law_factor", "_law_prime"] (yA KQ):=jB
theorem Q3:WA ["_law_told"] ["_law_told"] (yA FQ):=jB
theorem W4:WA ["_law_time", "_law_one"] ["_law_time", "_law_one"] (yA BQ):=jB
theorem C3:WA ["_law_one", "_law_other"] ["_law_one", "_law_other"] (yA VP):=jB
theorem bB:WA ["_law_script", "_law_at", "_law_count", "_law_large", "_law_made", "_law_k", "_law_number", "_law_start"] ["_law_script", "_law_at", "_law_count"] (yA vP):=jB
theorem oC:WA ["_law_a", "_law_b", "_law_c", "_law_d", "_law_starts", "_law_ends", "_law_mask", "_law_way"] ["_law_a", "_law_b", "_law_c", "_law_d"] (yA JQ):=jB
theorem FA:WA ["_law_cell_here", "_law_stretches_here", "_law_loose", "_law_count", "_law_number", "_law_i", "_law_j", "_law_start", "_law_end", "_law_a", "_law_b", "_law_mask"] ["_law_cell_here", "_law_stretches_here", "_law_loose"] (yA zQ):=jB
theorem OD:WA ["_law_thing", "_law_facts", "_law_count", "_law_one", "_law_fact_here"] ["_law_thing", "_law_facts", "_law_count"] (yA AQ):=jB
theorem UD:WA ["_law_count", "_law_facts", "_law_most", "_law_told"] ["_law_count", "_law_facts", "_law_most"] (yA WP):=jB
theorem LB:WA ["_law_script", "_law_count", "_law_stretches_here", "_law_facts", "_law_net", "_law_fact_here", "_law_end", "_law_most", "_law_number", "_law_i", "_law_j", "_law_left", "_law_gone", "_law_way", "_law_more", "_law_told"] ["_law_script"] (yA oT):=jB
variable(T:uh K mg)(b:Heap)
include T
theorem L7:kD P w K mg b 1 1 "zones" NS:=
 BB (k:=0) (body:=WX) T.zbT Cj rfl rfl fun _ _ _ _ _ _ _ hr=>vA (LA (fA (uJ rfl T.zbP) (aA 0)))
theorem bJ:kD P w K mg b 1 1 "ways_in" FG:=
 BB (k:=0) (body:=tR) T.zbK Q5 rfl rfl fun _ _ _ _ _ _ _ hr=>vA (LA (jG (Nc:=["way", "mask"]) rfl (nF rfl T.Kc dA) (by decide +kernel) rfl (by decide +kernel) (by rfl) (by exact⟨⟨rfl,.inl rfl,.inl rfl,rfl⟩,trivial⟩) (fun _ _ _ _=>JB 0 (show(["way", "mask"]:List Str).Nodup by decide +kernel)) (fun _ _ _ _=>cL (GB (ZE hr.units) (rA pJ (rA mT (aA 1) (aA 0)) dA) dA)) (fun _ _ _ _=>aA 0)))
theorem n6:kD P w K mg b 1 1 "set_of" wN:=
 BB (k:=0) (body:=vR) T.zbN n8 rfl rfl fun _ _ _ _ _ _ _ hr=>vA (LA (Xx rfl rfl T.zbY (jG (Nc:=["way"]) rfl (dD (aA 0)) (by decide +kernel) rfl (by decide +kernel) (by rfl) (by exact trivial) (fun _ _ _ _=>JB 0 (show(["way"]:List Str).Nodup by decide +kernel)) (fun _ _ _ _=>bF) (fun _ _ _ _=>rA yJ dA (aA 0)))))
theorem o6:kD P w K mg b 2 1 "turned" xN:=
 BB (k:=1) (body:=wR) T.zbO o8 rfl rfl fun _ _ _ _ _ _ _ hr=>vA (LA (MA (n6 T b) hr (cA (jG (Nc:=["way"]) rfl (dD (MA (bJ T b) hr (cA (aA 0) jA))) (by decide +kernel) rfl (by decide +kernel) (by rfl) (by exact trivial) (fun _ _ _ _=>JB 0 (show(["way"]:List Str).Nodup by decide +kernel)) (fun _ _ _ _=>bF) (fun _ _ _ _=>rA vH dA (aA 0))) jA)))
theorem X1:kD P w K mg b 2 2 "chained_sets" pM:=
 BB (k:=1) (body:=MP) T.zbf pB rfl rfl fun _ _ _ _ _ _ _ hr=>kA (DA 2 pB.nd (MA (bJ T b) hr (cA (aA 1) jA))) (kA (DA 3 pB.nd dA) (kA (iD PassesOwn.never rfl (dD (MA (bJ T b) hr (cA (aA 0) jA))) (JB 4 pB.nd) (vA (iD PassesOwn.never rfl (dD (aA 2)) (JB 5 pB.nd) (vA (DA 3 pB.nd (rA zY (aA 3) (fA (fA (uJ rfl T.zbF) (aA 4)) (aA 5)))))))) (vA (LA (aA 3)))))
theorem o4:kD P w K mg b 1 2 "wide_row" RM:=
 BB (k:=0) (body:=VQ) T.zbE D5 rfl rfl fun _ _ _ _ _ _ _ hr=>vA (LA (rA FS (rA Uk (vY (uJ rfl T.Tp) (aA 1)) (cG (cA (uJ rfl T.zbV) jA))) (vY (uJ rfl T.Tp) (rA vH (rA vH (aA 0) (aA 1)) dA))))
theorem wW:kD P w K mg b 2 1 "wide" aL:=
 BB (k:=1) (body:=YS) T.zbU Wv rfl rfl fun _ _ _ _ _ _ _ hr=>vA (LA (h9 (Nc:=["i", "count"]) rfl (nF rfl T.Kc (aA 0)) (by decide +kernel) rfl (by decide +kernel) (by rfl) (by exact⟨⟨rfl,.inl rfl,.inl rfl,rfl⟩,trivial⟩) (fun _ _ _ _=>JB 0 (show(["i", "count"]:List Str).Nodup by decide +kernel)) (fun _ _ _ _=>bF) (fun _ _ _ _=>MA (o4 T b) hr (cA (aA 1) (cA (aA 0) jA)))))
theorem MM:kD P w K mg b 1 1 "pairs_of" oH:=
 BB (k:=0) (body:=UQ) T.zbC wD rfl rfl fun _ _ _ _ _ _ _ hr=>kA (DA 1 wD.nd (JG jA)) (kA (iD PassesOwn.never rfl (nF rfl T.Kc (aA 0)) (JB 2 wD.nd) (vA (iD PassesOwn.never rfl (L6 rfl T.Kc (rA GC (aA 2) dA) (aA 0)) (JB 3 wD.nd) (vA (XE (YF (aA 1) (TB (cA (aA 2) (cA (aA 3) jA))))))))) (vA (LA (aA 1))))
theorem sK:kD P w K mg b 3 4 "narrowed" nH:=
 BB (k:=2) (body:=TQ) T.zbB tF rfl rfl fun _ _ _ _ _ _ _ hr=>kA (EQ (Nc:=["row"]) 4 rfl tF.nd (dD (aA 0)) (by decide +kernel) rfl (by decide +kernel) (by rfl) (by exact trivial) (fun _ _ _ _=>JB 0 (show(["row"]:List Str).Nodup by decide +kernel)) (fun _ _ _ _=>bF) (fun _ _ _ _=>rN rfl T.Zm (aA 0)) (by rfl)) (kA (SN (rA pJ (fA (fA (aA 0) (aA 1)) (aA 3)) (aA 2)) (fA (aA 4) (aA 1)) (aA 3)) (kA (SN (MA (o6 T b) hr (cA (fA (fA (aA 4) (aA 1)) (aA 3)) jA)) (fA (aA 4) (aA 3)) (aA 1)) (vA (LA (aA 4)))))
theorem WU:kD P w K mg b 3 2 "left_by" CK:=
 BB (k:=2) (body:=oR) T.zbG FE rfl rfl fun _ _ _ _ _ _ _ hr=>kA (DA 2 FE.nd (fA (fA (aA 0) (fA (aA 1) dA)) (fA (aA 1) dA))) (kA (DA 3 FE.nd (fA (fA (aA 0) (fA (aA 1) dA)) (fA (aA 1) dA))) (vA (LA (rA pJ (fA (fA (aA 0) (fA (aA 1) dA)) (fA (aA 1) dA)) (MA (X1 T b) hr (cA (aA 2) (cA (aA 3) jA)))))))
theorem K4:kD P w K mg b 4 2 "narrows" nN:=
 BB (k:=3) (body:=qR) T.zbI N5 rfl rfl fun _ _ _ _ _ _ _ hr=>vA (LA (dL (uH hr.units) (MA (WU T b) hr (cA (aA 0) (cA (aA 1) jA))) (fA (fA (aA 0) (fA (aA 1) dA)) (fA (aA 1) dA))))
theorem J4:kD P w K mg b 4 2 "made_of" mN:=
 BB (k:=3) (body:=pR) T.zbH M5 rfl rfl fun _ _ _ _ _ _ _ hr=>vA (LA (MA (sK T b) hr (cA (aA 0) (cA (fA (aA 1) dA) (cA (MA (WU T b) hr (cA (aA 0) (cA (aA 1) jA))) (cA (fA (aA 1) dA) jA))))))
theorem Z3:kD P w K mg b 1 1 "is_empty" QM:=
 BB (k:=0) (body:=SQ) T.zbA C5 rfl rfl fun _ _ _ _ _ _ _ hr=>vA (LA (Uz rfl rfl T.zbX (jG (Nc:=["row"]) rfl (dD (aA 0)) (by decide +kernel) rfl (by decide +kernel) (by rfl) (by exact trivial) (fun _ _ _ _=>JB 0 (show(["row"]:List Str).Nodup by decide +kernel)) (fun _ _ _ _=>bF) (fun _ _ _ _=>dL cg dA (aA 0)))))
theorem Z2:kD P w K mg b 1 2 "threes_along" uM:=
 BB (k:=0) (body:=QP) T.zbk OC rfl rfl fun _ _ _ _ _ _ _ hr=>kA (DA 2 OC.nd (JG jA)) (kA (iD PassesOwn.never rfl (nF rfl T.Kc (aA 1)) (JB 3 OC.nd) (vA (bC (GB UR (aA 3) (aA 0)) (kA (XE (YF (aA 2) (TB (cA (fA (aA 0) dA) (cA (fA (aA 0) dA) (cA (aA 3) jA)))))) (vA (XE (YF (aA 2) (TB (cA (fA (aA 0) dA) (cA (fA (aA 0) dA) (cA (aA 3) jA)))))))) YB))) (vA (LA (aA 2))))
theorem JU:kD P w K mg b 5 2 "rounded_from" VH:=
 BB (k:=4) (body:=oM) T.zbi eB rfl rfl fun _ _ _ _ _ _ _ hr=>kA (DA 2 eB.nd (JG jA)) (kA (bC (gG (MA (Z3 T b) hr (cA (aA 0) jA))) (vA (LA (TB (cA pF (cA (aA 2) jA))))) YB) (kA (EQ (Nc:=["row"]) 3 rfl eB.nd (dD (aA 0)) (by decide +kernel) rfl (by decide +kernel) (by rfl) (by exact trivial) (fun _ _ _ _=>JB 0 (show(["row"]:List Str).Nodup by decide +kernel)) (fun _ _ _ _=>bF) (fun _ _ _ _=>rN rfl T.Zm (aA 0)) (by rfl)) (kA (DA 4 eB.nd (rN rfl T.Zm (aA 1))) (kA (EW PassesOwn.never (GB (AY hr.units) (aA 4) (cG jA)) (kA (DA 5 eB.nd (j9 (aA 4) dA)) (vA (iD PassesOwn.never rfl (dD (MA (Z2 T b) hr (cA (aA 5) (cA (QD rfl T.uc (aA 0)) jA)))) (JB 6 eB.nd) (vA (bC (gG (MA (K4 T b) hr (cA (aA 3) (cA (aA 6) jA)))) (kA (DA 3 eB.nd (MA (J4 T b) hr (cA (aA 3) (cA (aA 6) jA)))) (kA (XE (YF (aA 2) (aA 6))) (kA (bC (GB (Vk hr.units) (fA (fA (aA 3) (fA (aA 6) dA)) (fA (aA 6) dA)) dA) (vA (LA (TB (cA pF (cA (aA 2) jA))))) YB) (vA (XE (YF (aA 4) (TB (cA (fA (aA 6) dA) (cA (fA (aA 6) dA) jA))))))))) YB)))))) (vA (LA (TB (cA (aA 3) (cA (aA 2) jA)))))))))
theorem M4:kD P w K mg b 6 1 "rounded" oN:=
 BB (k:=5) (body:=sR) T.zbJ P5 rfl rfl fun _ _ _ _ _ _ _ hr=>vA (LA (MA (JU T b) hr (cA (aA 0) (cA (MA (MM T b) hr (cA (QD rfl T.uc (aA 0)) jA)) jA))))
theorem L3:kD P w K mg b 4 2 "first_net" oK:=
 BB (k:=3) (body:=uQ) T.zbu aD rfl rfl fun _ _ _ _ _ _ _ hr=>kA (DA 2 aD.nd (MA (wW T b) hr (cA (aA 0) jA))) (kA (iD PassesOwn.never rfl (dD (aA 1)) (JB 3 aD.nd) (vA (bC (GB (ZE hr.units) (fA (aA 3) dA) pD) (vA (DA 2 aD.nd (MA (sK T b) hr (cA (aA 2) (cA (fA (aA 3) dA) (cA (fA (aA 3) dA) (cA (fA (aA 3) dA) jA))))))) YB))) (vA (LA (aA 2))))
theorem F3:kD P w K mg b 1 1 "lengths_in" JM:=
 BB (k:=0) (body:=jQ) T.zbm T3 rfl rfl fun _ _ _ _ _ _ _ hr=>vA (LA (jG (Nc:=["fact"]) rfl (dD (aA 0)) (by decide +kernel) rfl (by decide +kernel) (by rfl) (by exact trivial) (fun _ _ _ _=>JB 0 (show(["fact"]:List Str).Nodup by decide +kernel)) (fun _ _ _ _=>cL (GB (ZE hr.units) (fA (aA 0) dA) pD)) (fun _ _ _ _=>TB (cA (fA (aA 0) dA) (cA (fA (aA 0) dA) (cA (fA (aA 0) dA) jA))))))
theorem M3:kD P w K mg b 1 1 "groups_in" pK:=
 BB (k:=0) (body:=vQ) T.zbv X4 rfl rfl fun _ _ _ _ _ _ _ hr=>vA (LA (jG (Nc:=["fact"]) rfl (dD (aA 0)) (by decide +kernel) rfl (by decide +kernel) (by rfl) (by exact trivial) (fun _ _ _ _=>JB 0 (show(["fact"]:List Str).Nodup by decide +kernel)) (fun _ _ _ _=>cL (GB (ZE hr.units) (fA (aA 0) dA) pD)) (fun _ _ _ _=>fA (aA 0) dA)))
theorem K2:kD P w K mg b 4 3 "only_member" vM:=
 BB (k:=3) (body:=mQ) T.zbo wC rfl rfl fun _ _ _ _ _ _ _ hr=>kA (iD PassesOwn.never rfl (xq rfl T.zbx (aA 1)) (oY 3 4 rfl wC.nd) (kA (DA 5 wC.nd (MT (GB (ZE hr.units) (aA 3) (aA 2)) (fA (aA 4) dA) (rA pJ (uJ rfl T.Tp) (Vz (fA (aA 4) dA))))) (vA (DA 0 wC.nd (MA (sK T b) hr (cA (aA 0) (cA (fA (aA 4) dA) (cA (aA 5) (cA (fA (aA 4) dA) jA))))))))) (vA (LA (aA 0)))
theorem V1:kD P w K mg b 2 1 "first_loose_pair" eK:=
 BB (k:=1) (body:=nM) T.zbb UC rfl rfl fun _ _ _ _ _ _ _ hr=>kA (iD PassesOwn.never rfl (dD (MA (MM T b) hr (cA (QD rfl T.uc (aA 0)) jA))) (JB 1 UC.nd) (vA (bC (GB vL (QD rfl T.uc (MA (bJ T b) hr (cA (fA (fA (aA 0) (fA (aA 1) dA)) (fA (aA 1) dA)) jA))) dA) (vA (LA (aA 1))) YB))) (vA (LA pF))
theorem l4:kD P w K mg b 5 2 "split_of" pH:=
 BB (k:=4) (body:=xK) T.zbD pC rfl rfl fun _ _ _ _ _ _ _ hr=>kA (bC (GB (AY hr.units) (aA 1) (cG jA)) (kA (DA 2 pC.nd (fA (aA 1) dA)) (kA (wK (Nc:=["chosen", "net", "group"]) 3 rfl pC.nd (nF rfl T.Kc (QD rfl T.uc (aA 2))) (by decide +kernel) rfl (by decide +kernel) (by rfl) (by exact⟨⟨rfl,.inl rfl,.inl rfl,rfl⟩,⟨⟨rfl,.inl rfl,.inl rfl,rfl⟩,trivial⟩⟩) (fun _ _ _ _=>JB 0 (show(["chosen", "net", "group"]:List Str).Nodup by decide +kernel)) (fun _ _ _ _=>bF) (fun _ _ _ _=>MA (K2 T b) hr (cA (aA 1) (cA (aA 2) (cA (aA 0) jA)))) (by rfl)) (vA (LA (TB (cA pD (cA (TB jA) (cA (aA 3) (cA (jG (Nc:=["member"]) rfl (dD (aA 2)) (by decide +kernel) rfl (by decide +kernel) (by rfl) (by exact trivial) (fun _ _ _ _=>JB 0 (show(["member"]:List Str).Nodup by decide +kernel)) (fun _ _ _ _=>bF) (fun _ _ _ _=>TB (cA (fA (aA 0) dA) (cA (fA (aA 0) dA) jA)))) jA))))))))) YB) (kA (DA 4 pC.nd (MA (V1 T b) hr (cA (aA 0) jA))) (kA (bC (GB lL (aA 4) pF) (vA (LA pF)) YB) (kA (DA 5 pC.nd (fA (fA (aA 0) (fA (aA 4) dA)) (fA (aA 4) dA))) (kA (wK (Nc:=["way", "net", "pair"]) 3 rfl pC.nd (dD (MA (bJ T b) hr (cA (aA 5) jA))) (by decide +kernel) rfl (by decide +kernel) (by rfl) (by exact⟨⟨rfl,.inl rfl,.inl rfl,rfl⟩,⟨⟨rfl,.inl rfl,.inl rfl,rfl⟩,trivial⟩⟩) (fun _ _ _ _=>JB 0 (show(["way", "net", "pair"]:List Str).Nodup by decide +kernel)) (fun _ _ _ _=>bF) (fun _ _ _ _=>MA (sK T b) hr (cA (aA 1) (cA (fA (aA 2) dA) (cA (rA yJ dA (aA 0)) (cA (fA (aA 2) dA) jA))))) (by rfl)) (vA (LA (TB (cA pD (cA (aA 4) (cA (aA 3) (cA (cG (cA (aA 4) jA)) jA)))))))))))
theorem G7:kD P w K mg b 1 1 "grain" IK:=
 BB (k:=0) (body:=KS) T.zbQ Bj rfl rfl fun _ _ _ _ _ _ _ hr=>vA (LA (rA GC (rA uE dA (aA 0)) dA))
theorem Z1:kD P w K mg b 1 2 "length_bounds" nK:=
 BB (k:=0) (body:=aQ) T.zbe GD rfl rfl fun _ _ _ _ _ _ _ hr=>kA (DA 2 GD.nd (rA uE dA (fA (aA 0) dA))) (vA (LA (JG (cA (TB (cA (aA 2) (cA (rA GC (aA 2) dA) (cA (rA uE (iI (fA (aA 0) dA)) (aA 1)) jA)))) (cA (TB (cA (rA GC (aA 2) dA) (cA (aA 2) (cA (rA uE (fA (aA 0) dA) (aA 1)) jA)))) jA)))))
theorem IU:kD P w K mg b 1 4 "point_bounds" UH:=
 BB (k:=0) (body:=NP) T.zbh VD rfl rfl fun _ _ _ _ _ _ _ hr=>kA (DA 4 VD.nd (JG jA)) (kA (bC (GB xI (tY rfl rfl T.Cp (aA 3)) (aA 2)) (vA (XE (YF (aA 4) (TB (cA (aA 0) (cA (aA 1) (cA (MT (GB zO (tY rfl rfl T.Cp (aA 3)) (aA 2)) (iI dA) dA) jA))))))) YB) (kA (bC (GB yO (uY rfl rfl T.Im (aA 3)) (aA 2)) (vA (XE (YF (aA 4) (TB (cA (aA 1) (cA (aA 0) (cA (MT (GB vL (uY rfl rfl T.Im (aA 3)) (aA 2)) (iI dA) dA) jA))))))) YB) (vA (LA (aA 4)))))
theorem J3:kD P w K mg b 2 3 "set_bounds" XI:=
 BB (k:=1) (body:=kQ) T.zbn HC rfl rfl fun _ _ _ _ _ _ _ hr=>kA (DA 3 HC.nd (JG jA)) (kA (iD PassesOwn.never rfl (nF rfl T.Kc dA) (JB 4 HC.nd) (kA (wK (Nc:=["way", "side"]) 5 rfl HC.nd (dD (MA (bJ T b) hr (cA (aA 1) jA))) (by decide +kernel) rfl (by decide +kernel) (by rfl) (by exact⟨⟨rfl,.inl rfl,.inl rfl,rfl⟩,trivial⟩) (fun _ _ _ _=>JB 0 (show(["way", "side"]:List Str).Nodup by decide +kernel)) (fun _ _ _ _=>bF) (fun _ _ _ _=>fA (MA (L7 T b) hr (cA (aA 0) jA)) (aA 1)) (by rfl)) (kA (XE (qN (aA 3) (MA (IU T b) hr (cA (rA GC (rA uE dA (aA 0)) (aA 4)) (cA (rA uE dA (aA 2)) (cA dA (cA (aA 5) jA))))))) (vA (XE (qN (aA 3) (MA (IU T b) hr (cA (rA GC (rA uE dA (aA 0)) (aA 4)) (cA (rA GC (rA uE dA (aA 2)) dA) (cA dA (cA (aA 5) jA))))))))))) (vA (LA (aA 3))))
theorem j6:kD P w K mg b 3 2 "bounds" vN:=
 BB (k:=2) (body:=yR) T.zbM mE rfl rfl fun _ _ _ _ _ _ _ hr=>kA (EQ (Nc:=["i"]) 2 rfl mE.nd (nF rfl T.Kc (QD rfl T.uc (aA 0))) (by decide +kernel) rfl (by decide +kernel) (by rfl) (by exact trivial) (fun _ _ _ _=>JB 0 (show(["i"]:List Str).Nodup by decide +kernel)) (fun _ _ _ _=>bF) (fun _ _ _ _=>TB (cA (rA uE dA (aA 0)) (cA (rA GC (rA uE dA (aA 0)) dA) (cA (iI dA) jA)))) (by rfl)) (kA (iD PassesOwn.never rfl (dD (aA 1)) (JB 3 mE.nd) (vA (XE (qN (aA 2) (MA (Z1 T b) hr (cA (aA 3) (cA (MA (G7 T b) hr (cA (QD rfl T.uc (aA 0)) jA)) jA))))))) (kA (iD PassesOwn.never rfl (dD (MA (MM T b) hr (cA (QD rfl T.uc (aA 0)) jA))) (JB 4 mE.nd) (vA (XE (qN (aA 2) (MA (J3 T b) hr (cA (fA (aA 4) dA) (cA (fA (fA (aA 0) (fA (aA 4) dA)) (fA (aA 4) dA)) (cA (fA (aA 4) dA) jA)))))))) (vA (LA (aA 2)))))
theorem Y1:kD P w K mg b 1 1 "least_bounds" UI:=
 BB (k:=0) (body:=BM) T.zbg jC rfl rfl fun _ _ _ _ _ _ _ hr=>kA (DA 1 jC.nd Qx) (kA (iD PassesOwn.never rfl (dD (aA 0)) (JB 2 jC.nd) (kA (DA 3 jC.nd (Xz (cA (fA (aA 2) dA) (cA (fA (aA 2) dA) jA)))) (vA (Fz hr.units (tS rfl rfl T.Im (i9 hr.units (aA 1) (aA 3) (fA (aA 2) dA)) (fA (aA 2) dA)) (aA 1) (aA 3))))) (vA (LA (aA 1))))
theorem J7:kD P w K mg b 1 3 "moved" lJ:=
 BB (k:=0) (body:=LS) T.zbR UE rfl rfl fun _ _ _ _ _ _ _ hr=>kA (DA 3 UE.nd pF) (kA (iD PassesOwn.never rfl (n9 (aA 0)) (oY 4 5 rfl UE.nd) (vA (bC (GB vL (fA (aA 1) (fA (aA 4) dA)) (rA GC (fA (aA 1) (fA (aA 4) dA)) (aA 5))) (kA (SN (rA GC (fA (aA 1) (fA (aA 4) dA)) (aA 5)) (aA 1) (fA (aA 4) dA)) (kA (SN (fA (aA 4) dA) (aA 2) (fA (aA 4) dA)) (vA (DA 3 UE.nd (fA (aA 4) dA))))) YB))) (vA (LA (aA 3))))
theorem P2:kD P w K mg b 1 2 "ring_behind" wM:=
 BB (k:=0) (body:=nQ) T.zbp xC rfl rfl fun _ _ _ _ _ _ _ hr=>kA (iD PassesOwn.never rfl (nF rfl T.Kc (QD rfl T.uc (aA 1))) (JB 2 xC.nd) (vA (DA 0 xC.nd (fA (aA 1) (aA 0))))) (kA (DA 3 xC.nd (JG (cA (aA 0) (cA (fA (aA 1) (aA 0)) jA)))) (kA (EW PassesOwn.never (GB (uH hr.units) (fA (aA 3) (iI dA)) (aA 0)) (vA (XE (YF (aA 3) (fA (aA 1) (fA (aA 3) (iI dA))))))) (vA (LA (aA 3)))))
theorem K7:kD P w K mg b 2 2 "timed" iG:=
 BB (k:=1) (body:=kJ) T.zbS gD rfl rfl fun _ _ _ _ _ _ _ hr=>kA (DA 2 gD.nd (MA (Y1 T b) hr (cA (aA 1) jA))) (kA (DA 3 gD.nd (vX dA (aA 0))) (kA (DA 4 gD.nd (vX pF (aA 0))) (kA (iD PassesOwn.never rfl (nF rfl T.Kc (rA GC (aA 0) dA)) (JB 5 gD.nd) (kA (DA 6 gD.nd (MA (J7 T b) hr (cA (aA 2) (cA (aA 3) (cA (aA 4) jA))))) (vA (bC (GB lL (aA 6) pF) (kA (DA 7 gD.nd (Ux rfl rfl T.Im (aA 3) dA)) (vA (LA (TB (cA pD (cA (jG (Nc:=["time", "first"]) rfl (dD (aA 3)) (by decide +kernel) rfl (by decide +kernel) (by rfl) (by exact⟨⟨rfl,.inl rfl,.inl rfl,rfl⟩,trivial⟩) (fun _ _ _ _=>JB 0 (show(["time", "first"]:List Str).Nodup by decide +kernel)) (fun _ _ _ _=>bF) (fun _ _ _ _=>rA vH (aA 0) (aA 1))) jA)))))) YB)))) (vA (LA (TB (cA pD (cA (MA (P2 T b) hr (cA (aA 6) (cA (aA 4) jA))) jA))))))))
theorem u5:UO P w K mg b 1 3 "Search" fK:=
 by unfold fK;exact Fq (k:=0) (body:=xP) T.zbL B2 rfl rfl fun _ _ _ _ _ _ _ hr=>kA (pO T.zaF (aA 0) (aA 1)) (kA (pO T.zaG (aA 0) (aA 2)) (vA (pO T.Ym (aA 0) dA)))
theorem Y2:kD P w K mg b 1 1 "stretches_at" qM:=
 BB (k:=0) (body:=OP) T.zbj D3 rfl rfl fun _ _ _ _ _ _ _ hr=>vA (LA (jG (Nc:=["start", "times"]) rfl (p8 (c:=2) rfl T.Kc dA (QD rfl T.uc (aA 0)) dA) (by decide +kernel) rfl (by decide +kernel) (by rfl) (by exact⟨⟨rfl,.inl rfl,.inl rfl,rfl⟩,trivial⟩) (fun _ _ _ _=>JB 0 (show(["start", "times"]:List Str).Nodup by decide +kernel)) (fun _ _ _ _=>bF) (fun _ _ _ _=>TB (cA (fA (aA 1) (aA 0)) (cA (fA (aA 1) (rA GC (aA 0) dA)) jA)))))
theorem T1 {R:RB} {k:Nat} (hk:5<=k) (hR:UG P w K mg b k 4 "Search" "look" R):UG P w K mg b (k+1) 4 "Search" "look_at_branches" (jH R):=
 by unfold jH;exact FX (k:=k) (body:=aK R) T.za9 VA rfl rfl fun _ _ _ _ _ _ _ hr=>kA (DA 4 VA.nd (JG jA)) (kA (iD PassesOwn.never rfl (dD (fA (aA 1) dA)) (JB 5 VA.nd) (kA (DA 6 VA.nd (sS hR hr (by omega) (aA 0) (cA (aA 5) (cA (fA (aA 1) dA) (cA (aA 3) jA))))) (kA (bC (GB (uH hr.units) (fA (aA 6) dA) pD) (vA (LA (aA 6))) YB) (vA (XE (YF (aA 4) (fA (aA 6) dA))))))) (vA (LA (TB (cA pD (cA (rA HX (rA HX (TB (cA (fA (aA 1) dA) (cA (aA 2) jA))) (fA (aA 1) dA)) (TB (cA (aA 4) jA))) jA))))))
theorem A2 {R:RB} {k:Nat} (hk:5<=k) (hR:UG P w K mg b k 4 "Search" "look" R):UG P w K mg b (k+2) 4 "Search" "look" (nC 4 9 (AG R)):=
 FX (k:=k+1) (body:=AG R) T.zaH EB rfl rfl fun _ _ _ _ _ _ _ hr=>kA (DA 4 EB.nd (oJ (JU T b) hr (by omega) rfl (cA (aA 1) (cA (aA 2) jA)))) (kA (DA 5 EB.nd (fA (aA 4) dA)) (kA (DA 6 EB.nd (fA (aA 4) dA)) (kA (bC (GB lL (aA 5) pF) (vA (LA (TB (cA pD (cA (TB (cA pD (cA (aA 6) jA))) jA))))) YB) (kA (DA 7 EB.nd (oJ (K7 T b) hr (by omega) rfl (cA (rA uE dA (QD rfl T.uc (aA 5))) (cA (oJ (j6 T b) hr (by omega) rfl (cA (aA 5) (cA (gL T.zaF (aA 0)) jA))) jA)))) (kA (bC (GB (ZE hr.units) (fA (aA 7) dA) pD) (vA (LA (TB (cA pD (cA (TB (cA pD (cA (aA 6) (cA (fA (aA 7) dA) jA)))) jA))))) YB) (kA (DA 8 EB.nd (oJ (l4 T b) hr (by omega) rfl (cA (aA 5) (cA (aA 3) jA)))) (kA (bC (GB lL (aA 8) pF) (vA (LA (TB (cA pD (cA (oJ (Y2 T b) hr (by omega) rfl (cA (fA (aA 7) dA) jA)) jA))))) YB) (kA (bC (GB yO (gL T.Ym (aA 0)) (gL T.zaG (aA 0))) (vA (LA (TB (cA pD (cA pF jA))))) YB) (kA (pO T.Ym (aA 0) (rA GC (gL T.Ym (aA 0)) dA)) (vA (LA (sS (T1 T b hk hR) hr (by omega) (aA 0) (cA (aA 8) (cA (aA 6) (cA (AW (aA 3) (GS dA) Uq) jA)))))))))))))))
theorem MU:∀n:Nat,UG P w K mg b (5+2*n) 4 "Search" "look" (MF n)
 | 0=>Mq T.zaH
 | n+1=>A2 T b (Nat.le_add_right _ _) (MU n)
theorem p4 {Yb:List Dt} (D:FL K mg "planned" fN ["count", "facts", "most"] Yb):DL P w K mg b 30 3 "planned" YI Yb:=
 by unfold YI;exact jx (k:=29) (body:=rR) D HE rfl rfl fun _ _ _ _ _ _ _ hr=>kA (DA 3 HE.nd (Sx (u5 T b) hr (by decide) rfl (cA (MA (F3 T b) hr (cA (aA 1) jA)) (cA (aA 2) jA)))) (kA (DA 4 HE.nd (sS (MU T b 12) hr (by decide) (aA 3) (cA (MA (L3 T b) hr (cA (aA 0) (cA (aA 1) jA))) (cA (MA (MM T b) hr (cA (aA 0) jA)) (cA (MA (M3 T b) hr (cA (aA 1) jA)) jA))))) (vA (LA (TB (cA (fA (aA 4) dA) (cA (fA (aA 4) dA) (cA (gL T.Ym (aA 3)) jA)))))))
theorem K3:DL P w K mg b 30 3 "planned" YI []:=p4 T b T.zbw
theorem rK:kD P w K mg b 1 2 "_law_cell" aG:=
 BB (k:=0) (body:=sQ) T.zbq V4 rfl rfl fun _ _ _ _ _ _ _ hr=>kA (bC (GB zO (aA 1) (QD rfl T.uc (aA 0))) (vA (LA (fA (aA 0) (aA 1)))) YB) (vA (LA dA))
theorem LM:kD P w K mg b 1 3 "_law_mix" YH:=
 BB (k:=0) (body:=RQ) T.zbz B5 rfl rfl fun _ _ _ _ _ _ _ hr=>vA (LA (rA qD (rA uE (rA GC (rA qD (aA 0) dA) dA) (aA 1)) (aA 2)))
theorem UP:kD P w K mg b 1 1 "_law_whole" WI:=
 BB (k:=0) (body:=iQ) T.zbl Q3 rfl rfl fun _ _ _ _ _ _ _ hr=>vA (LA (Tz (iL rfl T.Xm rfl T.Xp PyProof.Rows.boot_int (by decide) (aA 0)) (Yz (Wz (iL rfl T.Xm rfl T.zbW PyProof.Rows.boot_bool (by decide) (aA 0))))))
theorem yM:kD P w K mg b 1 2 "_law_zone" LF:=
 BB (k:=0) (body:=XH) T.zbt W4 rfl rfl fun _ _ _ _ _ _ _ hr=>kA (bC (GB zO (aA 0) (fA (aA 1) dA)) (vA (LA dA)) YB) (kA (bC (GB (ZE hr.units) (aA 0) (fA (aA 1) dA)) (vA (LA dA)) YB) (vA (LA (rA GC (rA GC dA (iY rfl T.Xp (dL yO (aA 0) (fA (aA 1) dA)))) (iY rfl T.Xp (dL vL (aA 0) (fA (aA 1) dA)))))))
theorem uP:kD P w K mg b 2 2 "_law_between" SI:=
 BB (k:=1) (body:=KP) T.zbc C3 rfl rfl fun _ _ _ _ _ _ _ hr=>vA (LA (rA GC (fA (cG (cA dA (cA dA (cA dA (cA dA (cA dA jA)))))) (MA (yM T b) hr (cA (fA (aA 0) dA) (cA (aA 1) jA)))) (MA (yM T b) hr (cA (fA (aA 0) dA) (cA (aA 1) jA)))))
theorem W1:kD P w K mg b 2 3 "_law_stretches" jM:=
 BB (k:=1) (body:=BP) T.zba bB rfl rfl fun _ _ _ _ _ _ _ hr=>kA (DA 3 bB.nd (fA (cG (cA dA (cA dA (cA dA (cA (rA GC (rA Xk dA dA) dA) jA))))) (rA qD (rA YE (MA (rK T b) hr (cA (aA 0) (cA dA jA))) dA) dA))) (kA (DA 4 bB.nd (JG jA)) (kA (iD PassesOwn.never rfl (nF rfl T.Kc (aA 2)) (JB 5 bB.nd) (kA (DA 6 bB.nd (MA (LM T b) hr (cA (rA GC (MA (rK T b) hr (cA (aA 0) (cA (rA GC (aA 1) (aA 5)) jA))) (rA uE (aA 5) (aA 5))) (cA dA (cA dA jA))))) (kA (DA 7 bB.nd (rA uE (rA vH (rA qD (aA 6) dA) dA) (aA 3))) (vA (XE (YF (aA 4) (TB (cA (aA 7) (cA (rA GC (aA 7) (rA uE (rA GC dA (rA qD (rA YE (aA 6) dA) dA)) (aA 3))) jA))))))))) (vA (LA (aA 4)))))
theorem Y3:kD P w K mg b 1 4 "_law_box" PM:=
 BB (k:=0) (body:=QQ) T.zby oC rfl rfl fun _ _ _ _ _ _ _ hr=>kA (DA 4 oC.nd (cG (cA dA (cA dA (cA dA (cA dA (cA dA (cA dA (cA dA (cA dA (cA dA (cA dA (cA dA (cA dA (cA dA jA))))))))))))))) (kA (DA 5 oC.nd (cG (cA dA (cA dA (cA dA (cA dA (cA dA (cA dA (cA dA (cA dA (cA dA (cA dA (cA dA (cA dA (cA dA jA))))))))))))))) (kA (DA 6 oC.nd dA) (kA (iD PassesOwn.never rfl (nF rfl T.Kc dA) (JB 7 oC.nd) (vA (bC (WM.tm (QY (iS xI xI (aA 0) (fA (aA 4) (aA 7)) (aA 1)) (tX (iS xI xI (aA 2) (fA (aA 5) (aA 7)) (aA 3))))) (vA (DA 6 oC.nd (rA zY (aA 6) (rA yJ dA (aA 7))))) YB))) (vA (LA (aA 6))))))
theorem W3:kD P w K mg b 3 3 "_law_fact" KF:=
 BB (k:=2) (body:=aJ) T.zbr FA rfl rfl fun _ _ _ _ _ _ _ hr=>kA (DA 3 FA.nd (QD rfl T.uc (aA 1))) (kA (DA 4 FA.nd (MA (LM T b) hr (cA (aA 0) (cA dA (cA dA jA))))) (kA (DA 5 FA.nd (rA qD (aA 4) (aA 3))) (kA (DA 6 FA.nd (rA qD (rA GC (rA GC (aA 5) dA) (rA qD (rA YE (aA 4) dA) (rA vH (aA 3) dA))) (aA 3))) (kA (DA 7 FA.nd (MA (yM T b) hr (cA (fA (fA (aA 1) (aA 5)) dA) (cA (fA (aA 1) (aA 6)) jA)))) (kA (DA 8 FA.nd (MA (yM T b) hr (cA (fA (fA (aA 1) (aA 5)) dA) (cA (fA (aA 1) (aA 6)) jA)))) (kA (DA 4 FA.nd (MA (LM T b) hr (cA (aA 0) (cA dA (cA dA jA))))) (kA (bC (WM.tm (QY (gG (aA 2)) (tX (GB vL (rA qD (rA YE (aA 4) dA) dA) dA)))) (kA (DA 7 FA.nd (rA qD (rA YE (aA 4) dA) dA)) (vA (DA 8 FA.nd (rA qD (rA YE (aA 4) dA) dA)))) YB) (kA (DA 9 FA.nd (tS rfl rfl T.Im (aA 7) (rA qD (aA 4) dA))) (kA (DA 10 FA.nd (uX rfl rfl T.Cp (aA 7) (rA qD (rA YE (aA 4) dA) dA))) (kA (DA 11 FA.nd (MA (Y3 T b) hr (cA (aA 9) (cA (aA 10) (cA (tS rfl rfl T.Im (aA 8) (rA qD (rA YE (aA 4) dA) dA)) (cA (uX rfl rfl T.Cp (aA 8) (rA qD (rA YE (aA 4) dA) dA)) jA)))))) (kA (bC (GB (ZE hr.units) (aA 11) dA) (vA (DA 11 FA.nd (rA yJ dA (MA (uP T b) hr (cA (fA (aA 1) (aA 5)) (cA (fA (aA 1) (aA 6)) jA)))))) YB) (vA (LA (TB (cA pD (cA (aA 5) (cA (aA 11) (cA (aA 6) jA))))))))))))))))))
theorem X3:kD P w K mg b 3 3 "_law_laid" DM:=
 BB (k:=2) (body:=tQ) T.zbs OD rfl rfl fun _ _ _ _ _ _ _ hr=>kA (bC (WM.tm (OG (wH (gG (iL rfl T.Xm rfl T.Zm PyProof.Rows.boot_list (by decide) (aA 0)))) (pL (GB (uH hr.units) (QD rfl T.uc (aA 0)) (aA 2))))) (vA (LA nG)) YB) (kA (iD PassesOwn.never rfl (dD (aA 0)) (JB 3 OD.nd) (kA (bC (WM.tm (OG (wH (gG (iL rfl T.Xm rfl T.zaI PyProof.Rows.boot_tuple (by decide) (aA 3)))) (pL (GB (uH hr.units) (QD rfl T.uc (aA 3)) dA)))) (vA (LA nG)) YB) (vA (bC (WM.tm (OG (wH (gG (MA (UP T b) hr (cA (fA (aA 3) dA) jA)))) (OG (wH (gG (MA (UP T b) hr (cA (fA (aA 3) dA) jA)))) (OG (GB zO (fA (aA 3) dA) dA) (pL (GB yO (fA (aA 3) dA) (fA (aA 3) dA))))))) (vA (LA nG)) YB)))) (kA (iD PassesOwn.never rfl (dD (aA 1)) (JB 4 OD.nd) (vA (bC (GB (ZE hr.units) (rA pJ (rA mT (fA (aA 4) dA) (MA (uP T b) hr (cA (fA (aA 0) (fA (aA 4) dA)) (cA (fA (aA 0) (fA (aA 4) dA)) jA)))) dA) dA) (vA (LA nG)) YB))) (vA (LA nG))))
theorem HU:kD P w K mg b 31 3 "_law_planned" kK:=
 BB (k:=30) (body:=LP) T.zbd UD rfl rfl fun _ _ _ _ _ _ _ hr=>kA (DA 3 UD.nd (g9 (K3 T b) hr (by decide) rfl (cA (aA 0) (cA (aA 1) (cA (aA 2) jA))))) (kA (bC (WM.tm (OG (wH (gG (iL rfl T.Xm rfl T.zaI PyProof.Rows.boot_tuple (by decide) (aA 3)))) (OG (GB (uH hr.units) (QD rfl T.uc (aA 3)) dA) (OG (wH (gG (MA (UP T b) hr (cA (fA (aA 3) dA) jA)))) (pL (wH (iS xI xI dA (fA (aA 3) dA) (aA 2)))))))) (vA (LA (TB (cA pD (cA pF (cA dA jA)))))) YB) (vA (LA (aA 3))))
theorem mz {f:Addr} {fd:FuncData} (F:El K "law" "law" oT f fd):Jd P w K mg b VF 32 f fd ["_law_script"] (OI K 1 pI):=by unfold pI;exact qz (k:=31) (body:=qL) F LB rfl rfl fun cdv A outer s H E hr=>by(unfold qL mJ MK HK JK PK NK aO;exact kA (DA 1 LB.nd (rA GC dA (rA qD (MA (rK T b) hr (cA (aA 0) (cA dA jA))) dA))) (kA (bC (GB (ZE hr.units) (rA qD (rA YE (MA (rK T b) hr (cA (aA 0) (cA dA jA))) dA) dA) dA) (vA (DA 1 LB.nd dA)) YB) (kA (DA 2 LB.nd (MA (W1 T b) hr (cA (aA 0) (cA dA (cA (aA 1) jA))))) (kA (wK (Nc:=["_law_cell_here", "_law_stretches_here"]) 3 rfl LB.nd (dD (AW (aA 0) (GS dA) (GS dA))) (by decide +kernel) rfl (by decide +kernel) (by rfl) (by exact⟨⟨rfl,.inl rfl,.inl rfl,rfl⟩,trivial⟩) (fun _ _ _ _=>JB 0 (show(["_law_cell_here", "_law_stretches_here"]:List Str).Nodup by decide +kernel)) (fun _ _ _ _=>bF) (fun _ _ _ _=>MA (W3 T b) hr (cA (aA 0) (cA (aA 1) (cA nG jA)))) (by rfl)) (kA (DA 4 LB.nd (MA (wW T b) hr (cA (aA 1) jA))) (kA (iD PassesOwn.never rfl (dD (aA 3)) (JB 5 LB.nd) (vA (DA 4 LB.nd (MA (sK T b) hr (cA (aA 4) (cA (fA (aA 5) dA) (cA (fA (aA 5) dA) (cA (fA (aA 5) dA) jA)))))))) (kA (DA 6 LB.nd (fA (MA (M4 T b) hr (cA (aA 4) jA)) dA)) (kA (bC (GB lL (aA 6) pF) (vA (LA nG)) YB) (kA (DA 7 LB.nd (rA YE (rA uE (aA 1) (rA vH (aA 1) dA)) dA)) (kA (DA 8 LB.nd (MA (LM T b) hr (cA (MA (rK T b) hr (cA (aA 0) (cA dA jA))) (cA dA (cA dA jA))))) (kA (DA 9 LB.nd (rA qD (aA 8) (aA 1))) (kA (DA 10 LB.nd (rA qD (rA GC (rA GC (aA 9) dA) (rA qD (rA YE (aA 8) dA) (rA vH (aA 1) dA))) (aA 1))) (kA (DA 11 LB.nd (jG (Nc:=["_law_way", "_law_end", "_law_i", "_law_j"]) rfl (nF rfl T.Kc dA) (by decide +kernel) rfl (by decide +kernel) (by rfl) (by exact⟨⟨rfl,.inl rfl,.inl rfl,rfl⟩,⟨⟨rfl,.inl rfl,.inl rfl,rfl⟩,⟨⟨rfl,.inl rfl,.inl rfl,rfl⟩,trivial⟩⟩⟩) (fun _ _ _ _=>JB 0 (show(["_law_way", "_law_end", "_law_i", "_law_j"]:List Str).Nodup by decide +kernel)) (fun _ _ _ _=>cL (GB (ZE hr.units) (rA pJ (rA mT (fA (fA (aA 1) (aA 2)) (aA 3)) (aA 0)) dA) dA)) (fun _ _ _ _=>aA 0))) (kA (wK (Nc:=["_law_way", "_law_left"]) 12 rfl LB.nd (nF rfl T.Kc dA) (by decide +kernel) rfl (by decide +kernel) (by rfl) (by exact⟨⟨rfl,.inl rfl,.inl rfl,rfl⟩,trivial⟩) (fun _ _ _ _=>JB 0 (show(["_law_way", "_law_left"]:List Str).Nodup by decide +kernel)) (fun _ _ _ _=>cL (GB UR (aA 0) (aA 1))) (fun _ _ _ _=>aA 0) (by rfl)) (kA (bC (GB UR (MA (uP T b) hr (cA (fA (aA 2) (aA 9)) (cA (fA (aA 2) (aA 10)) jA))) (aA 11)) (vA (LA nG)) YB) (kA (iD PassesOwn.never rfl (Bk (TB (cA (fA (aA 11) dA) (cA (fA (aA 11) (iI dA)) (cA (fA (aA 11) (rA qD (rA YE (aA 8) dA) (QD rfl T.uc (aA 11)))) jA))))) (JB 13 LB.nd) (kA (DA 14 LB.nd (rA FS (aA 3) (cG (cA (TB (cA pD (cA (aA 9) (cA (rA yJ dA (aA 13)) (cA (aA 10) jA))))) jA)))) (kA (DA 15 LB.nd (MA (HU T b) hr (cA (aA 1) (cA (rN rfl T.Zm (aA 14)) (cA (aA 7) jA))))) (vA (bC (WM.tm (OG (GB (uH hr.units) (fA (aA 15) dA) pD) (pL (wH (gG (MA (X3 T b) hr (cA (fA (aA 15) dA) (cA (aA 14) (cA (aA 1) jA))))))))) (vA (LA nG)) YB))))) (kA (bC (GB (ZE hr.units) (QD rfl T.uc (aA 12)) dA) (vA (LA nG)) YB) (kA (DA 14 LB.nd (rA FS (aA 3) (cG (cA (TB (cA pD (cA (aA 9) (cA (rA yJ dA (fA (aA 12) (rA qD (rA YE (aA 8) dA) (QD rfl T.uc (aA 12))))) (cA (aA 10) jA))))) jA)))) (vA (LA (dL (ZE hr.units) (fA (MA (HU T b) hr (cA (aA 1) (cA (aA 14) (cA (aA 7) jA)))) dA) pD)))))))))))))))))))))
end
end G
namespace BF
noncomputable def put{α:Type}(f:Nat->α)(i:Nat)(a:α):Nat->α:=fun j=>if j=i then a else f j
theorem QF{α:Type}(f:Nat->α)(i:Nat)(a:α):put f i a i=a:=if_pos rfl
theorem QE{α:Type}(f:Nat->α){i j:Nat}(a:α)(h:j≠i):put f i a j=f j:=if_neg h
noncomputable abbrev Bd:=Nat×Nat×Int
structure vG where
 t:Nat->Int
 c:Nat->Option Nat
 l:Option Nat
def step(s:vG)(e:Bd):vG:=if s.t e.1>s.t e.2.1+e.2.2 then⟨put s.t e.1 (s.t e.2.1+e.2.2),put s.c e.1 (some e.2.1),some e.1⟩else s
def turn(E:List Bd)(s:vG):vG:=E.foldl step ⟨s.t,s.c,none⟩
noncomputable def iF(t:Nat->Int)(e:Bd):Prop:=t e.1<=t e.2.1+e.2.2
structure YT(n:Nat)(E:List Bd):Prop where
 lt:∀e∈E,e.1<n/\e.2.1<n/\e.1≠e.2.1
 un:∀e∈E,∀e'∈E,e.1=e'.1->e.2.1=e'.2.1->e.2.2=e'.2.2
noncomputable def JZ(w:Nat->Nat->Int)(c:Nat->Option Nat):Prop:=
 ∀C:List Nat,C ≠ []->C.Nodup->(C.map c).Perm (C.map some)->(C.map fun x=>w x ((c x).getD 0)).sum<0
structure Ok(n:Nat)(E:List Bd)(w:Nat->Nat->Int)(r:Nat)(D:List Bd)(u:Nat->Nat)(s:vG):Prop where
 cau:∀x y,s.c x=some y->(x,y,w x y)∈E/\s.t y+w x y<=s.t x/\1<=u x/\u x<=u y+1
 top:∀x,u x<=r+1
 has:∀x,1<=u x->∃y,s.c x=some y
 old:∀e∈E,r<=u e.2.1\/iF s.t e
 new:∀e∈D,r+1<=u e.2.1\/iF s.t e
 neg:JZ w s.c
 lst:∀x,s.l=some x->u x=r+1
theorem zJ{f g:Nat->Int}:∀(D:List Nat),(∀x∈D,f x<=g x)->(D.map f).sum<=(D.map g).sum
 | [],_=>Int.le_refl _
 | x::D,h=>by
  simp only[zd5,sum_cons];have h1:=h x mem_cons_self;have h2:=zJ D fun y hy=>h y (mem_cons_of_mem _ hy)
  omega
theorem nX{f g:Nat->Int}:∀(D:List Nat),(D.map fun x=>f x-g x).sum=(D.map f).sum-(D.map g).sum
 | []=>rfl
 | x::D=>by simp only[zd5,sum_cons];have:=nX (f:=f) (g:=g) D;omega
theorem jX{l l':List Int}(h:l.Perm l'):l.sum=l'.sum:=by
 induction h with
 | nil=>rfl
 | cons x _ ih=>simp only[sum_cons,ih]
 | swap x y l=>simp only[sum_cons];omega
 | trans _ _ h1 h2=>exact h1.trans h2
theorem map_none{C:List Nat}{c:Nat->Option Nat}(h:(C.map c).Perm (C.map some)):∀x∈C,∃y,c x=some y:=by intro x hx;have:c x∈C.map some:=h.subset (mem_map_of_mem hx);obtain⟨y,_,e⟩:=mem_map.mp this;exact⟨y,e.symm⟩
theorem EK{α β:Type}{f g:α->β}{C:List α}(h:∀x∈C,f x=g x):C.map f=C.map g:=map_congr_left h
theorem Pq{w:Nat->Nat->Int}{c:Nat->Option Nat}{t:Nat->Int}{p q:Nat}(hn:JZ w c)(hc:∀x y,c x=some y->t y+w x y<=t x)(hm:t p>t q+w p q):JZ w (put c p (some q)):=by
 intro C h0 hd hp;by_cases hin:p∈C
 · obtain⟨D1,D2,rfl⟩:=append_of_mem hin;have pp:(D1++p::D2).Perm (p::(D1++D2)):=perm_middle;have nd:(p::(D1++D2)).Nodup:=pp.nodup_iff.mp hd;have np:p∉D1++D2:=(nodup_cons.mp nd).1;generalize D1++D2=D at pp np;have ec:D.map (put c p (some q))=D.map c:=EK fun x hx=>QE c _ (fun z=>np (z ▸ hx))
   have h1:((p::D).map (put c p (some q))).Perm ((p::D).map some):=((pp.map _).symm.trans hp).trans (pp.map _);rw[zd5,QF,ec]at h1;have hall:∀x∈D,∃y,c x=some y:=fun x hx=>by have:c x∈(p::D).map some:=h1.subset (mem_cons_of_mem _ (mem_map_of_mem hx));obtain⟨y,_,e⟩:=mem_map.mp this;exact⟨y,e.symm⟩
   have h2:=jX (h1.map fun o=>t (o.getD 0));simp only[zd5,map_map,sum_cons,Function.comp_def,Option.getD_some]at h2
   change t q+_=t p+(D.map t).sum at h2
   have h3:((D1++p::D2).map fun x=>w x ((put c p (some q) x).getD 0)).sum=w p q+(D.map fun x=>w x ((c x).getD 0)).sum:=by
    have:=jX (pp.map fun x=>w x ((put c p (some q) x).getD 0));rw[this,zd5,sum_cons,QF]
    congr 1
    rw[EK (f:=fun x=>w x ((put c p (some q) x).getD 0)) (g:=fun x=>w x ((c x).getD 0)) fun x hx=>by rw[QE c _ (fun z:x=p=>np (z ▸ hx))]]
   have h4:(D.map fun x=>w x ((c x).getD 0)).sum<=(D.map fun x=>t x-t ((c x).getD 0)).sum:=zJ D fun x hx=>by obtain⟨y,ey⟩:=hall x hx;have:=hc x y ey;rw[ey];simp only[Option.getD_some];omega
   rw[nX]at h4;rw[h3];omega
 · have ec:C.map (put c p (some q))=C.map c:=EK fun x hx=>QE c _ (fun z=>hin (z ▸ hx))
   rw[ec]at hp;have:=hn C h0 hd hp;rw[EK (f:=fun x=>w x ((put c p (some q) x).getD 0)) (g:=fun x=>w x ((c x).getD 0)) fun x hx=>by rw[QE c _ (fun z:x=p=>hin (z ▸ hx))]];exact this
theorem Tq{n:Nat}{E:List Bd}{w:Nat->Nat->Int}{r:Nat}{D:List Bd}{u:Nat->Nat}{s:vG}(T:YT n E)(hw:∀e∈E,w e.1 e.2.1=e.2.2)(I:Ok n E w r D u s){e:Bd}(he:e∈E) :
 ∃u',Ok n E w r (e::D) u' (step s e):=by
 obtain⟨p,q,m⟩:=e;obtain⟨_,_,hne⟩:=T.lt _ he;have ew:w p q=m:=hw _ he;have hne':q≠p:=fun z=>hne z.symm
 by_cases hm:s.t p>s.t q+m
 · have es:step s (p,q,m)=⟨put s.t p (s.t q+m),put s.c p (some q),some p⟩:=if_pos hm;rw[es];have uq:r<=u q:=by
    rcases I.old _ he with z | z
    · exact z
    · exact absurd z (by simp only[iF];omega)
   have up:u p<=r+1:=I.top p;have dec:∀x,put s.t p (s.t q+m) x<=s.t x:=fun x=>by
    by_cases hx:x=p
    · rw[hx,QF];omega
    · rw[QE _ _ hx];exact Int.le_refl _
   have grow:∀x,u x<=put u p (r+1) x:=fun x=>by
    by_cases hx:x=p
    · rw[hx,QF];exact up
    · rw[QE _ _ hx];exact zeg _
   have keep:∀k,∀e:Bd,k<=r+1->(k<=u e.2.1\/iF s.t e)->(k<=put u p (r+1) e.2.1\/iF (put s.t p (s.t q+m)) e):=fun k e hk h=>by
    by_cases hx:e.2.1=p
    · exact .inl (by rw[hx,QF];exact hk)
    · rcases h with h | h
      · exact .inl (Nat.le_trans h (grow _))
      · refine .inr ?_;simp only[iF]at h ⊢;rw[QE _ _ hx];exact Int.le_trans (dec _) h
   refine⟨put u p (r+1),⟨fun x y h=>?_,fun x=>?_,fun x h=>?_,fun e h=>keep r e (Nat.le_succ r) (I.old e h),fun e h=>?_,Pq I.neg (fun x y h=>(I.cau x y h).2.1) (by rw[ew];exact hm),fun x h=>?_⟩⟩
   · by_cases hx:x=p
     · subst hx;simp only[QF]at h ⊢;cases h;rw[QE _ _ hne',QE _ _ hne',ew];exact⟨he,Int.le_refl _,by omega,by omega⟩
     · simp only[QE _ _ hx]at h ⊢;obtain⟨h1,h2,h3,h4⟩:=I.cau x y h;exact⟨h1,Int.le_trans (Int.add_le_add_right (dec y) _) h2,h3,Nat.le_trans h4 (Nat.add_le_add_right (grow y) 1)⟩
   · by_cases hx:x=p
     · rw[hx,QF];exact zeg _
     · rw[QE _ _ hx];exact I.top x
   · by_cases hx:x=p
     · subst hx;exact⟨q,QF _ _ _⟩
     · rw[QE _ _ hx]at h;obtain⟨y,hy⟩:=I.has x h;exact⟨y,by simp only[QE _ _ hx];exact hy⟩
   · rcases mem_cons.mp h with z | z
     · subst z;refine .inr ?_;simp only[iF,QF,QE _ _ hne'];exact Int.le_refl _
     · exact keep (r+1) e (zeg _) (I.new e z)
   · cases h;exact QF _ _ _
 · have es:step s (p,q,m)=s:=if_neg hm;rw[es];refine⟨u,⟨I.cau,I.top,I.has,I.old,fun e h=>?_,I.neg,I.lst⟩⟩;rcases mem_cons.mp h with z | z
   · subst z;exact .inr (by simp only[iF];omega)
   · exact I.new e z
theorem ES{n:Nat}{E:List Bd}{w:Nat->Nat->Int}{r:Nat}(T:YT n E)(hw:∀e∈E,w e.1 e.2.1=e.2.2):∀(L D:List Bd)(u:Nat->Nat)(s:vG),(∀e∈L,e∈E)->Ok n E w r D u s->∃u' D',Ok n E w r D' u' (L.foldl step s)/\(∀e∈L,e∈D')/\∀e∈D,e∈D'
 | [],D,u,s,_,I=>⟨u,D,I,(fun _ h=>nomatch h),fun _ h=>h⟩
 | e::L,D,u,s,hs,I=>by
  obtain⟨u1,I1⟩:=Tq T hw I (hs e mem_cons_self);obtain⟨u2,D2,I2,h1,h2⟩:=ES T hw L (e::D) u1 (step s e) (fun x hx=>hs x (mem_cons_of_mem _ hx)) I1;refine⟨u2,D2,I2,fun x hx=>?_,fun x hx=>h2 x (mem_cons_of_mem _ hx)⟩;rcases mem_cons.mp hx with z | z
  · rw[z];exact h2 e mem_cons_self
  · exact h1 x z
def LD(E:List Bd):Nat->vG->vG
 | 0,s=>s
 | r+1,s=>turn E (LD E r s)
noncomputable def s0:vG:=⟨fun _=>0,fun _=>none,none⟩
theorem TR{n:Nat}{E:List Bd}{w:Nat->Nat->Int}(T:YT n E)(hw:∀e∈E,w e.1 e.2.1=e.2.2):∀r,∃u D,Ok n E w r D u (LD E (r+1) s0)/\∀e∈E,e∈D
 | 0=>by
  have I:Ok n E w 0 [] (fun _=>0) ⟨s0.t,s0.c,none⟩:=by
   refine⟨fun x y h=>(by cases h),fun x=>Nat.zero_le _,fun x h=>(by omega),fun e h=>.inl (Nat.zero_le _),(fun e h=>nomatch h),fun C h0 hd hp=>?_,fun x h=>(by cases h)⟩;cases C with
   | nil=>exact absurd rfl h0
   | cons x C=>obtain⟨y,e⟩:=map_none hp x mem_cons_self;cases e
  obtain⟨u,D,I',h1,_⟩:=ES T hw E [] _ _ (fun _ h=>h) I;exact⟨u,D,I',h1⟩
 | r+1=>by
  obtain⟨u,D,I,hD⟩:=TR T hw r;have I1:Ok n E w (r+1) [] u ⟨(LD E (r+1) s0).t,(LD E (r+1) s0).c,none⟩:=
   ⟨I.cau,fun x=>Nat.le_succ_of_le (I.top x),I.has,fun e h=>I.new e (hD e h),(fun e h=>nomatch h),I.neg,fun x h=>(by cases h)⟩
  obtain⟨u2,D2,I2,h1,_⟩:=ES T hw E [] _ _ (fun _ h=>h) I1;exact⟨u2,D2,I2,h1⟩
theorem AV:∀(L:List Bd)(s:vG),(L.foldl step s).l=none->s.l=none/\L.foldl step s=s/\∀e∈L,iF s.t e
 | [],s,h=>⟨h,rfl,(fun _ h=>nomatch h)⟩
 | e::L,s,h=>by
  obtain⟨h1,h2,h3⟩:=AV L (step s e) h;by_cases hm:s.t e.1>s.t e.2.1+e.2.2
  · have es:step s e=⟨put s.t e.1 (s.t e.2.1+e.2.2),put s.c e.1 (some e.2.1),some e.1⟩:=if_pos hm;rw[es]at h1;cases h1
  · have es:step s e=s:=if_neg hm;rw[es]at h1 h2 h3;refine⟨h1,by rw[foldl_cons,es];exact h2,fun x hx=>?_⟩;rcases mem_cons.mp hx with z | z
    · subst z;simp only[iF];omega
    · exact h3 x z
noncomputable def KB(f:Nat->Nat):Nat->Nat->Nat
 | 0,x=>x
 | k+1,x=>f (KB f k x)
theorem kG(f:Nat->Nat)(x:Nat)(b:Nat):∀a,KB f (a+b) x=KB f a (KB f b x)
 | 0=>by rw[Nat.zero_add];rfl
 | a+1=>by rw[Nat.add_right_comm];show f (KB f (a+b) x)=f (KB f a (KB f b x));rw[kG f x b a]
theorem Gh:∀(n:Nat)(g:Nat->Nat),(∀k,k<=n->g k<n)->∃i j,i<j/\j<=n/\g i=g j
 | 0,g,h=>absurd (h 0 (zeg _)) (Nat.not_lt_zero _)
 | n+1,g,h=>by
  by_cases hx:∃k,k<=n/\g k=g (n+1)
  · obtain⟨k,h1,h2⟩:=hx;exact⟨k,n+1,by omega,zeg _,h2⟩
  · have ne:∀k,k<=n->g k≠g (n+1):=fun k hk e=>hx ⟨k,hk,e⟩
    have hl:=h (n+1) (zeg _);obtain⟨i,j,h1,h2,h3⟩:=Gh n (fun k=>if g k>g (n+1)then g k-1 else g k) fun k hk=>by have h1:=h k (by omega);have h2:=ne k hk;show(if g k>g (n+1)then g k-1 else g k)<n;split<;>omega
    refine⟨i,j,h1,by omega,?_⟩;have a1:=ne i (by omega);have a2:=ne j h2;have b1:(if g i>g (n+1)then g i-1 else g i)=(if g j>g (n+1)then g j-1 else g j):=h3;split at b1<;>split at b1<;>omega
theorem z8{Q:Nat->Prop}:∀d,1<=d->Q d->∃k,1<=k/\k<=d/\Q k/\∀i,1<=i->i<k->¬Q i:=by
 intro d
 induction d using Nat.strongRecOn with
 | ind d ih=>
  intro h1 hq;by_cases hx:∃i,1<=i/\i<d/\Q i
  · obtain⟨i,a,b,c⟩:=hx;obtain⟨k,k1,k2,k3,k4⟩:=ih i b a c;exact⟨k,k1,by omega,k3,k4⟩
  · exact⟨d,h1,zeg _,hq,fun i a b c=>hx ⟨i,a,b,c⟩⟩
noncomputable def nxt(c:Nat->Option Nat)(x:Nat):Nat:=(c x).getD 0
structure JH(n:Nat)(E:List Bd)(w:Nat->Nat->Int)(c:Nat->Option Nat)(P k:Nat):Prop where
 pos:1<=k
 le:k<=n
 back:KB (nxt c) k P=P
 first:∀i,1<=i->i<k->KB (nxt c) i P≠P
 edge:∀i,i<=k->(KB (nxt c) i P,KB (nxt c) (i+1) P,w (KB (nxt c) i P) (KB (nxt c) (i+1) P))∈E/\c (KB (nxt c) i P)=some (KB (nxt c) (i+1) P)
 sum:((List.range k).map fun i=>w (KB (nxt c) i P) (KB (nxt c) (i+1) P)).sum<0
theorem apart{f:Nat->Nat}{P k:Nat}(hb:KB f k P=P)(hf:∀i,1<=i->i<k->KB f i P≠P){i j:Nat}(hij:i<j)(hj:j<=k)(h0:i=0->j<k):KB f i P≠KB f j P:=by
 intro e;have e2:KB f ((k-j)+i) P=KB f ((k-j)+j) P:=by rw[kG,kG,e]
 rw[Nat.sub_add_cancel hj,hb]at e2;refine hf (k-j+i) ?_ ?_ e2
 · by_cases h:i=0
   · have:=h0 h;omega
   · omega
 · omega
theorem B3{α:Type}{g:Nat->α}(k:Nat)(h:∀i j,i<j->j<k->g i≠g j):((List.range k).map g).Nodup:=by rw[nodup_iff_pairwise_ne,pairwise_map];refine List.Pairwise.imp_of_mem ?_ (pairwise_lt_range (n:=k));intro a b ha hb hab;exact h a b hab (mem_range.mp hb)
theorem VX{n:Nat}{E:List Bd}{w:Nat->Nat->Int}{D:List Bd}{u:Nat->Nat}{s:vG}{x:Nat}(T:YT n E)(I:Ok n E w n D u s)(hx:s.l=some x):∃k,JH n E w s.c (KB (nxt s.c) n x) k/\
 ∀i,i<=n->s.c (KB (nxt s.c) i x)=some (KB (nxt s.c) (i+1) x)/\KB (nxt s.c) i x<n:=by
 have ux:=I.lst x hx;have zaQ:∀y,1<=u y->s.c y=some (nxt s.c y):=fun y hy=>by obtain⟨z,e⟩:=I.has y hy;unfold nxt;rw[e];rfl
 have ch:∀i,i<=n->n+1<=u (KB (nxt s.c) i x)+i:=by
  intro i
  induction i with
  | zero=>intro _;show n+1<=u x+0;omega
  | succ i ih=>intro hi;have h1:=ih (by omega);have h2:=zaQ (KB (nxt s.c) i x) (by omega);have h3:=(I.cau _ _ h2).2.2.2;show n+1<=u (nxt s.c (KB (nxt s.c) i x))+(i+1);omega
 have cd:∀i,i<=n->s.c (KB (nxt s.c) i x)=some (KB (nxt s.c) (i+1) x):=fun i hi=>zaQ _ (by have:=ch i hi;omega)
 have lt:∀i,i<=n->KB (nxt s.c) i x<n:=fun i hi=>(T.lt _ (I.cau _ _ (cd i hi)).1).1
 obtain⟨i,j,hij,hj,e⟩:=Gh n (fun i=>KB (nxt s.c) i x) lt;have per:KB (nxt s.c) (j-i) (KB (nxt s.c) n x)=KB (nxt s.c) n x:=by
  rw[<- kG];have a1:j-i+n=(n-i)+j:=by omega
  rw[a1,kG,<- e,<- kG]
  congr 1
  omega
 obtain⟨k,k1,k2,k3,k4⟩:=z8 (Q:=fun d=>KB (nxt s.c) d (KB (nxt s.c) n x)=KB (nxt s.c) n x) (j-i) (by omega) per;have shf:∀m,KB (nxt s.c) (j+m) x=KB (nxt s.c) (i+m) x:=fun m=>by rw[Nat.add_comm j m,Nat.add_comm i m,kG,kG,e]
 have ed:∀m,m<=k->s.c (KB (nxt s.c) m (KB (nxt s.c) n x))=some (KB (nxt s.c) (m+1) (KB (nxt s.c) n x)):=fun m hm=>by
  rw[<- kG,<- kG];by_cases h:m+n<=n
  · have:m=0:=by omega
    subst this;rw[Nat.zero_add,Nat.add_comm];exact cd n (zeg _)
  · have a1:m+n=j+(m+n-j):=by omega
    have a2:m+1+n=j+(m+n-j+1):=by omega
    rw[a1,a2,shf,shf];exact cd _ (by omega)
 refine⟨k,⟨k1,by omega,k3,k4,fun m hm=>⟨(I.cau _ _ (ed m hm)).1,ed m hm⟩,?_⟩,fun i hi=>⟨cd i hi,lt i hi⟩⟩;generalize KB (nxt s.c) n x=P at *;have hn:=I.neg ((List.range k).map fun m=>KB (nxt s.c) m P) (by
  intro z;have:=congrArg List.length z;simp at this;omega) (B3 k fun a b hab hb=>apart k3 k4 hab (by omega) (fun _=>hb)) (by
  rw[map_map,map_map];have e1:(List.range k).map (s.c ∘ fun m=>KB (nxt s.c) m P)=(List.range k).map (fun m=>some (KB (nxt s.c) (m+1) P)):=EK fun m hm=>ed m (Nat.le_of_lt (mem_range.mp hm))
  rw[e1];obtain⟨k',rfl⟩:∃k',k=k'+1:=⟨k-1,by omega⟩
  rw[range_succ,map_append];have e2:(List.range k'++[k']).map (some ∘ fun m=>KB (nxt s.c) m P)=some P::(List.range k').map (fun m=>some (KB (nxt s.c) (m+1) P)):=by rw[<- range_succ,range_succ_eq_map,zd5,map_map];rfl
  rw[e2];have e3:[k'].map (fun m=>some (KB (nxt s.c) (m+1) P))=[some P]:=by rw[zd5,zd6,k3]
  rw[e3];exact perm_append_singleton _ _)
 rw[map_map]at hn;have e4:(List.range k).map ((fun y=>w y ((s.c y).getD 0)) ∘ fun m=>KB (nxt s.c) m P)=(List.range k).map fun i=>w (KB (nxt s.c) i P) (KB (nxt s.c) (i+1) P):=rfl
 rw[e4]at hn;exact hn
end BF
namespace SM
section
variable{l:LI}{h:HI}{f g fo fy fx fe fa fd:RE}
@[simp] theorem Qt:IT l h=some (.ref h.length,h++[.dt []]):=by rfl
def gP:List Dt×HI->Option (Dt×HI):=fun r=>if r.1.length<=sizeLine then(fE r.1).map fun is=>(.Zd is,r.2)else none
@[simp] theorem lZ(r:RA):aP r l h=ZA (r l h) gP:=by rfl
theorem gX(i j:Int):gP ([.int i,.int j],h)=some (.Zd [i,j],h):=by unfold gP;rw[if_pos (show([Dt.int i,Dt.int j]:List Dt).length<=sizeLine by simp)];rfl
def MZ(n:Nat)(k:List Int):Dt×HI->Option (Dt×HI):=fun x=>match x.2[n]? with
 | some (.dt kvs)=>some ((yI kvs k).getD x.1,x.2)
 | _=>none
theorem qY{n:Nat}{k:List Int}{d:Dt}{kvs:List (List Int×Dt)}(e:h[n]?=some (.dt kvs)):MZ n k (d,h)=some ((yI kvs k).getD d,h):=by simp only[MZ,e]
theorem QX{n:Nat}{k:List Int}{kvs:List (List Int×Dt)}(e1:fo l h=some (.ref n,h))(e2:h[n]?=some (.dt kvs))(e3:fy l h=some (.Zd k,h)):rH fo fy fx l h=ZA (fx l h) (MZ n k):=by simp only[rH,e1,e2,e3,zea];rfl
theorem GY{n:Nat}{k:List Int}{kvs:List (List Int×Dt)}{d:Dt}(e0:fe l h=some (d,h))(e1:fo l h=some (.ref n,h))(e2:h[n]?=some (.dt kvs))(e3:fy l h=some (.Zd k,h))(c:kvs.length<sizeLine) :
 EO fe fo fy l h=some (.nx l (h.set n (.dt (FI kvs k d)))):=by
 simp only[EO,e0,e1,e2,e3,zea,if_pos c]
theorem w8{n:Nat}{kvs:List (List Int×Dt)}(e1:f l h=some (.ref n,h))(e2:h[n]?=some (.dt kvs)):jI f l h=some (.it n,h.set n (.df kvs)):=by simp only[jI,e1,e2,zea]
theorem v8{n:Nat}{kvs:List (List Int×Dt)}(e1:f l h=some (.ref n,h))(e2:h[n]?=some (.df kvs)):jI f l h=some (.it n,h):=by simp only[jI,e1,e2,zea]
def rT(fd:RE)(l:LI):Dt×HI->Option (Dt×HI):=fun r=>ZA (fd l r.2) fun q=>(FB q.2 r.1).bind fun xs=>(fE xs).bind fun ns=>if ns ≠ []then some (.int (XB ns),q.2)else none
@[simp] theorem Rt:JT fa fd l h=ZA (fa l h) (rT fd l):=by rfl
end
theorem Aq{β:Type}{i j n:Nat}{body:RS}{kvs:List (List Int×Dt)}(S:β->LI->HI->Prop)(F:β->List Int×Dt->β)(hS:∀b l h,S b l h->h[n]?=some (.df kvs))
 (H:∀x∈kvs,∀b l h,S b l h->∃r,body ((l.set i (some (.tup (x.1.map Dt.int)))).set j (some x.2)) h=some r/\Pass (S (F b x)) r) :
 ∀(m k:Nat)(b:β)(l:LI)(h:HI),m=(kvs.length-k)+1->k<=kvs.length->S b l h->∃l' h',qC (dF i j) body (.it n) m k l h=some (.nx l' h')/\S ((kvs.drop k).foldl F b) l' h':=by
 intro m
 induction m with
 | zero=>intro k b l h hm;omega
 | succ m ih=>
  intro k b l h hm hk s;have e:=hS b l h s;by_cases hlt:k<kvs.length
  · have ek:kvs[k]?=some kvs[k]:=getElem?_eq_getElem hlt;obtain⟨r,e1,p⟩:=H kvs[k] (getElem_mem hlt) b l h s;have ed:(kvs.drop k).foldl F b=(kvs.drop (k+1)).foldl F (F b kvs[k]):=by rw[drop_eq_getElem_cons hlt,foldl_cons]
    rw[ed];have eu:qC (dF i j) body (.it n) (m+1) k l h=ZA (body ((l.set i (some (.tup (kvs[k].1.map Dt.int)))).set j (some kvs[k].2)) h) (oP (qC (dF i j) body (.it n) m (k+1))):=by
     simp only[qC,Src.at,e,ek,zd9,RX,zea];cases body ((l.set i (some (.tup (kvs[k].1.map Dt.int)))).set j (some kvs[k].2)) h with
     | none=>rfl
     | some r=>cases r<;>rfl
    rw[eu,e1,lA];cases r with
    | nx l2 h2=>exact ih (k+1) _ l2 h2 (by omega) hlt p
    | ct l2 h2=>exact ih (k+1) _ l2 h2 (by omega) hlt p
    | bk l2 h2=>exact p.elim
    | rt d h2=>exact p.elim
  · have ek:kvs[k]?=none:=getElem?_eq_none (by omega);refine⟨l,h,by simp only[qC,Src.at,e,ek,Option.map_none],?_⟩;rw[drop_eq_nil_of_le (by omega)];exact s
theorem Wx{β:Type}{i j n:Nat}{body:RS}{kvs:List (List Int×Dt)}{l:LI}{h:HI}(S:β->LI->HI->Prop)(F:β->List Int×Dt->β)(hS:∀b l h,S b l h->h[n]?=some (.df kvs))
 (H:∀x∈kvs,∀b l h,S b l h->∃r,body ((l.set i (some (.tup (x.1.map Dt.int)))).set j (some x.2)) h=some r/\Pass (S (F b x)) r) (b:β) (s:S b l h) :
 ∃l' h',dE (dF i j) body l (.it n,h)=some (.nx l' h')/\S (kvs.foldl F b) l' h':=by
 have e:=hS b l h s;have:=Aq (i:=i) (j:=j) S F hS H (kvs.length+1) 0 b l h (by omega) (Nat.zero_le _) s;rw[drop_zero]at this;obtain⟨l',h',e1,e2⟩:=this;refine⟨l',h',?_,e2⟩;show qC (dF i j) body (.it n) (Src.fuel (.it n) h) 0 l h=_;have ef:Src.fuel (.it n) h=kvs.length+1:=by simp only[Src.fuel,e]
 rw[ef];exact e1
end SM
namespace G
noncomputable def cB(e:Bd):List Int×Dt:=([(e.1:Int),(e.2.1:Int)],.int e.2.2)
noncomputable def gA(e:Bd):Dt:=.tup [.int (e.1:Nat),.int (e.2.1:Nat),.int e.2.2]
noncomputable def fD(p q:Nat)(x:Bd):Bool:=decide (x.1=p)&&decide (x.2.1=q)
def EH(E:List Bd)(p q:Nat):Option Int:=(E.find? (fD p q)).map (·.2.2)
def KI(E:List Bd)(p q:Nat)(v:Int):List Bd:=if E.any (fD p q)=true then E.map (fun x=>if fD p q x=true then(x.1,x.2.1,v)else x)else E++[(p,q,v)]
def LC(E:List Bd)(e:Bd):List Bd:=KI E e.1 e.2.1 (min ((EH E e.1 e.2.1).getD e.2.2) e.2.2)
theorem VS(p q:Nat)(x:Bd):decide ((cB x).1=[(p:Int),(q:Int)])=fD p q x:=by unfold cB fD;by_cases h1:x.1=p<;>by_cases h2:x.2.1=q<;>simp[h1,h2]<;>omega
theorem XS(p q:Nat):∀E:List Bd,yI (E.map cB) [(p:Int),(q:Int)]=(EH E p q).map Dt.int
 | []=>rfl
 | x::E=>by
  have ih:=XS p q E;unfold yI EH at ih ⊢;rw[zd5,find?_cons,find?_cons,VS];cases fD p q x with
  | true=>rfl
  | false=>exact ih
theorem Kz(p q:Nat)(E:List Bd):((E.map cB).any fun y=>decide (y.1=[(p:Int),(q:Int)]))=E.any (fD p q):=by
 rw[any_map]
 congr 1
 funext x
 exact VS p q x
theorem cY(p q:Nat)(v:Int)(E:List Bd):FI (E.map cB) [(p:Int),(q:Int)] (.int v)=(KI E p q v).map cB:=by
 unfold FI KI;rw[Kz];split
 · rw[map_map,map_map];refine map_congr_left fun x _=>?_
   have k:=VS p q x;simp only[Function.comp_def];cases c:fD p q x with
   | true=>rw[c]at k;rw[if_pos (of_decide_eq_true k),if_pos rfl];rfl
   | false=>rw[c]at k;rw[if_neg (of_decide_eq_false k),if_neg zef]
 · rw[map_append];rfl
structure DJ(told E:List Bd):Prop where
 mem:∀x∈E,x∈told
 low:∀e∈told,∃x∈E,x.1=e.1/\x.2.1=e.2.1/\x.2.2<=e.2.2
 un:∀x∈E,∀y∈E,x.1=y.1->x.2.1=y.2.1->x.2.2=y.2.2
 len:E.length<=told.length
theorem Ld{p q:Nat}{x:Bd}:fD p q x=true↔x.1=p/\x.2.1=q:=by simp[fD]
theorem wz:DJ [] []:=⟨fun _ h=>h,fun _ h=>(nomatch h),fun _ h=>(nomatch h),zeg _⟩
theorem gw{told E:List Bd}(I:DJ told E)(e:Bd):DJ (told++[e]) (LC E e):=by
 obtain⟨p,q,m⟩:=e;unfold LC KI;cases ha:EH E p q with
 | none=>
  have nk:∀x∈E,fD p q x=false:=by unfold EH at ha;simpa using ha
  have na:E.any (fD p q)=false:=by rw[any_eq_false];intro x hx;rw[nk x hx];exact zef
  simp only[na,zej,if_false,ha,Option.getD_none,Int.min_self];refine⟨fun x hx=>?_,fun e' he=>?_,fun x hx y hy h1 h2=>?_,by simp;exact I.len⟩
  · rcases mem_append.mp hx with hx | hx
    · exact mem_append_left _ (I.mem x hx)
    · exact mem_append_right _ hx
  · rcases mem_append.mp he with he | he
    · obtain⟨x,hx,r⟩:=I.low e' he;exact⟨x,mem_append_left _ hx,r⟩
    · rw[mem_singleton.mp he];exact⟨_,mem_append_right _ (mem_singleton.mpr rfl),rfl,rfl,Int.le_refl _⟩
  · rcases mem_append.mp hx with hx | hx<;>rcases mem_append.mp hy with hy | hy
    · exact I.un x hx y hy h1 h2
    · have:=nk x hx;rw[mem_singleton.mp hy]at h1 h2;rw[Ld.mpr ⟨h1,h2⟩]at this;cases this
    · have:=nk y hy;rw[mem_singleton.mp hx]at h1 h2;rw[Ld.mpr ⟨h1.symm,h2.symm⟩]at this;cases this
    · rw[mem_singleton.mp hx,mem_singleton.mp hy]
 | some v0=>
  obtain⟨x0,hf,rfl⟩:∃x0,E.find? (fD p q)=some x0/\x0.2.2=v0:=by unfold EH at ha;simpa using ha
  have k0:=find?_some hf;have m0:=mem_of_find?_eq_some hf;have na:E.any (fD p q)=true:=any_eq_true.mpr ⟨x0,m0,k0⟩;obtain⟨k1,k2⟩:=Ld.mp k0;have un0:∀x∈E,fD p q x=true->x.2.2=x0.2.2:=fun x hx h=>by obtain⟨h1,h2⟩:=Ld.mp h;exact I.un x hx x0 m0 (h1.trans k1.symm) (h2.trans k2.symm)
  simp only[na,if_true,Option.getD_some];have vm:((p,q,min x0.2.2 m):Bd)∈told++[(p,q,m)]:=by
   by_cases h:x0.2.2<=m
   · rw[Int.min_eq_left h];refine mem_append_left _ ?_;have:=I.mem x0 m0;rw[<- k1,<- k2];exact this
   · rw[Int.min_eq_right (by omega)];exact mem_append_right _ (mem_singleton.mpr rfl)
  refine⟨fun x hx=>?_,fun e' he=>?_,fun x hx y hy h1 h2=>?_,by simp;have:=I.len;omega⟩
  · obtain⟨y,hy,rfl⟩:=mem_map.mp hx;split
    · rename_i h;obtain⟨h1,h2⟩:=Ld.mp h;rw[h1,h2];exact vm
    · exact mem_append_left _ (I.mem y hy)
  · have new:∀x∈E,(if fD p q x=true then(x.1,x.2.1,min x0.2.2 m)else x)∈E.map (fun x=>if fD p q x=true then(x.1,x.2.1,min x0.2.2 m)else x):=fun x hx=>mem_map_of_mem hx
    rcases mem_append.mp he with he | he
    · obtain⟨x,hx,r1,r2,r3⟩:=I.low e' he;refine⟨_,new x hx,?_⟩;split
      · rename_i h;refine⟨r1,r2,?_⟩;have:=un0 x hx h;show min x0.2.2 m<=e'.2.2;have:=Int.min_le_left x0.2.2 m;omega
      · exact⟨r1,r2,r3⟩
    · rw[mem_singleton.mp he];refine⟨_,new x0 m0,?_⟩;rw[if_pos k0];exact⟨k1,k2,Int.min_le_right _ _⟩
  · obtain⟨x',hx',rfl⟩:=mem_map.mp hx;obtain⟨y',hy',rfl⟩:=mem_map.mp hy;have fst:∀z:Bd,(if fD p q z=true then((z.1,z.2.1,min x0.2.2 m):Bd)else z).1=z.1/\(if fD p q z=true then((z.1,z.2.1,min x0.2.2 m):Bd)else z).2.1=z.2.1:=fun z=>by split<;>exact⟨rfl,rfl⟩
    rw[(fst x').1,(fst y').1]at h1;rw[(fst x').2,(fst y').2]at h2;have kk:fD p q x'=fD p q y':=by unfold fD;rw[h1,h2]
    rw[kk];split
    · rfl
    · exact I.un x' hx' y' hy' h1 h2
theorem OW:∀(L told E:List Bd),DJ told E->DJ (told++L) (L.foldl LC E)
 | [],told,E,I=>by rw[zei];exact I
 | e::L,told,E,I=>by have:=OW L (told++[e]) (LC E e) (gw I e);rw[append_assoc]at this;exact this
def dC(told:List Bd):List Bd:=told.foldl LC []
theorem AJ(told:List Bd):DJ told (dC told):=by have:=OW told [] [] wz;rwa[zeb]at this
theorem XW(E:List Bd)(p q:Nat)(v:Int):(KI E p q v).length<=E.length+1:=by
 unfold KI;split
 · simp
 · simp
theorem NV{α β:Type}(f:β->α->β)(b:β){xs:List α}{k:Nat}{x:α}(hx:xs[k]?=some x):(xs.take (k+1)).foldl f b=f ((xs.take k).foldl f b) x:=by rw[take_add_one,hx,foldl_append];rfl
theorem o3(told:List Bd)(hl:told.length<=1000)(h:HI):UI [.lst (told.map gA)] h=some (.ref h.length,h++[.dt ((dC told).map cB)]):=by
 obtain⟨l',h',e,⟨y2,y3,rfl⟩,rfl,_⟩:=YK (i:=2) (body:=cK) gA (fun k l h'=>(∃y2 y3,l=[some (.lst (told.map gA)),some (.ref h.length),y2,y3])/\h'=h++[.dt (((told.take k).foldl LC []).map cB)]/\((told.take k).foldl LC []).length<=k) told 0 (by
  rintro k x hx l h' ⟨⟨y2,y3,rfl⟩,rfl,hk⟩;rw[Nat.zero_add]at hk ⊢;have kl:k<told.length:=(zed hx).1;rw[NV LC [] hx];generalize (told.take k).foldl LC []=E at hk;have ed:(h++[Ob.dt (E.map cB)])[h.length]?=some (.dt (E.map cB)):=by simp
  have LL:([some (Dt.lst (told.map gA)),some (.ref h.length),y2,y3]:LI).set 2 (some (gA x))=[some (Dt.lst (told.map gA)),some (.ref h.length),some (gA x),y3]:=rfl;rw[LL];refine⟨.nx [some (.lst (told.map gA)),some (.ref h.length),some (gA x),some (.Zd [(x.1:Int),(x.2.1:Int)])] (h++[.dt ((LC E x).map cB)]),?_,⟨_,_,rfl⟩,rfl,?_⟩
  · have g1:rH (eV 1) (eV 3) (e2 uA (eV 2) (eC (.int 2))) [some (.lst (told.map gA)),some (.ref h.length),some (gA x),some (.Zd [(x.1:Int),(x.2.1:Int)])] (h++[.dt (E.map cB)])=some (.int ((EH E x.1 x.2.1).getD x.2.2),h++[.dt (E.map cB)]):=by rw[QX (n:=h.length) (k:=[(x.1:Int),(x.2.1:Int)]) (kvs:=E.map cB) (by simp) ed (by simp)];simp only[CA,pA,EA,zd1,zd2,qA,lA,gA,HB,qI,zd9];rw[qY ed,XS];cases EH E x.1 x.2.1<;>rfl
    have g2:=GY (l:=[some (.lst (told.map gA)),some (.ref h.length),some (gA x),some (.Zd [(x.1:Int),(x.2.1:Int)])]) (h:=h++[.dt (E.map cB)]) (fe:=yL zH (rH (eV 1) (eV 3) (e2 uA (eV 2) (eC (.int 2)))) (e2 uA (eV 2) (eC (.int 2)))) (fo:=eV 1) (fy:=eV 3) (n:=h.length) (k:=[(x.1:Int),(x.2.1:Int)]) (kvs:=E.map cB)
     (d:=.int (min ((EH E x.1 x.2.1).getD x.2.2) x.2.2)) (by
      rw[MI,g1,lA];simp[gA]) (by simp) ed (by simp) (by simp;omega)
    rw[cY]at g2;have es:(h++[Ob.dt (E.map cB)]).set h.length (.dt ((LC E x).map cB))=h++[.dt ((LC E x).map cB)]:=by simp
    simp only[cK,XA,fB,lZ,UA,NA,CA,pA,EA,zd1,zd2,qA,lA,gA,HB,UB,YD,zd9,gX,zd8,zd7,YA];have g3:=g2;simp only[gA]at g3;rw[g3];show some (Rs.nx _ ((h++[Ob.dt (E.map cB)]).set h.length (.dt ((LC E x).map cB))))=_;rw[es]
  · have:=XW E x.1 x.2.1 (min ((EH E x.1 x.2.1).getD x.2.2) x.2.2);show(LC E x).length<=k+1;unfold LC;omega) [some (.lst (told.map gA)),some (.ref h.length),none,none] (h++[.dt []]) ⟨⟨_,_,rfl⟩,by simp,by simp⟩
 rw[Nat.zero_add,take_length]at e;simp[UI,BM,e];rfl
noncomputable def sE:Option Nat->Dt
 | none=>.non
 | some q=>.int (q:Nat)
noncomputable def mC(n:Nat)(t:Nat->Int):List Dt:=(List.range n).map fun i=>.int (t i)
def PD(n:Nat)(c:Nat->Option Nat):List Dt:=(List.range n).map fun i=>sE (c i)
theorem HR(n:Nat)(t:Nat->Int):(mC n t).length=n:=by simp[mC]
theorem lV(n:Nat)(c:Nat->Option Nat):(PD n c).length=n:=by simp[PD]
theorem LN{n p:Nat}(t:Nat->Int)(hp:p<n):(mC n t)[p]?=some (.int (t p)):=by simp[mC,hp]
theorem dR{n p:Nat}(c:Nat->Option Nat)(hp:p<n):(PD n c)[p]?=some (sE (c p)):=by simp[PD,hp]
theorem BV{α β:Type}(n p:Nat)(f:Nat->α)(D:α->β)(v:α):((List.range n).map fun i=>D (f i)).set p (D v)=(List.range n).map fun i=>D (put f p v i):=by
 apply ext_getElem?;intro i;rw[getElem?_set];simp only[getElem?_map,length_map,length_range];by_cases h:p=i
 · subst h;by_cases hp:p<n
   · simp[hp,QF]
   · simp[hp,getElem?_eq_none]
 · have h':i≠p:=fun z=>h z.symm
   rw[if_neg h];by_cases hi:i<n
   · simp[hi,QE _ _ h']
   · simp[getElem?_eq_none,hi]
theorem Q7(n p:Nat)(t:Nat->Int)(v:Int):(mC n t).set p (.int v)=mC n (put t p v):=BV n p t Dt.int v
theorem p6(n p q:Nat)(c:Nat->Option Nat):(PD n c).set p (.int (q:Nat))=PD n (put c p (some q)):=BV n p c sE (some q)
structure HH(h0:HI)(a b c n:Nat)(E:List Bd)(s:vG)(h:HI):Prop where
 len:h.length=h0.length
 da:h[a]?=some (.df (E.map cB))
 db:h[b]?=some (.lst (mC n s.t))
 dc:h[c]?=some (.lst (PD n s.c))
 els:∀m,m≠a->m≠b->m≠c->h[m]?=h0[m]?
noncomputable def aM(x:List Int×Dt):Bd:=match x with
 | ([p,q],.int m)=>(p.toNat,q.toNat,m)
 | _=>(0,0,0)
theorem sZ(e:Bd):aM (cB e)=e:=by simp[aM,cB]
theorem Nq{h0:HI}{a b c n:Nat}(ab:a≠b)(ac:a≠c)(bc:b≠c){E:List Bd}{e:Bd}(he:e.1<n/\e.2.1<n){s:vG}{h:HI}(M:HH h0 a b c n E s h) :
 ∃h',bI [some (.ref a),some (.ref b),some (.ref c),some (sE s.l),some (.tup [.int (e.1:Nat),.int (e.2.1:Nat)]),some (.int e.2.2)] h=some (.nx [some (.ref a),some (.ref b),some (.ref c),some (sE (step s e).l),some (.tup [.int (e.1:Nat),.int (e.2.1:Nat)]),some (.int e.2.2)] h')/\HH h0 a b c n E (step s e) h':=by
 obtain⟨p,q,m⟩:=e;obtain⟨hp,hq⟩:=he;have xb:=fun i=>fF M.db i
 have tp:=LN s.t hp;have tq:=LN s.t hq;have blt:b<h.length:=(zed M.db).1;have clt:c<h.length:=(zed M.dc).1;by_cases hm:s.t p>s.t q+m
 · have es:step s (p,q,m)=⟨put s.t p (s.t q+m),put s.c p (some q),some p⟩:=if_pos hm;rw[es];have hm':decide (s.t q+m<s.t p)=true:=decide_eq_true hm;have g1:=JN (l:=[some (.ref a),some (.ref b),some (.ref c),some (sE s.l),some (.tup [.int (p:Nat),.int (q:Nat)]),some (.int m)]) (v:=.int (s.t q+m)) (k:=p) M.db (by rw[HR];exact hp);rw[Q7]at g1;have c2:(h.set b (.lst (mC n (put s.t p (s.t q+m)))))[c]?=some (.lst (PD n s.c)):=by rw[getElem?_set_ne bc];exact M.dc
   have g2:=JN (l:=[some (.ref a),some (.ref b),some (.ref c),some (sE s.l),some (.tup [.int (p:Nat),.int (q:Nat)]),some (.int m)]) (v:=.int (q:Nat)) (k:=p) c2 (by rw[lV];exact hp);rw[p6]at g2;refine⟨(h.set b (.lst (mC n (put s.t p (s.t q+m))))).set c (.lst (PD n (put s.c p (some q)))),?_,?_⟩
   · simp only[bI,NB,dB,CA,pA,EA,zd1,zd2,qA,lA,HB,UB,YD,zd9,xb,SM.CC,tp,tq,bE,TL,iB,hm',if_true,XA,TX,g1,YA,g2,fB,zd8,zd7];rfl
   · refine⟨by simp[M.len],?_,?_,?_,fun k h1 h2 h3=>?_⟩
     · rw[getElem?_set_ne (Ne.symm ac),getElem?_set_ne (Ne.symm ab)];exact M.da
     · rw[getElem?_set_ne (Ne.symm bc),getElem?_set_self blt]
     · rw[getElem?_set_self (by simp;exact clt)]
     · rw[getElem?_set_ne (Ne.symm h3),getElem?_set_ne (Ne.symm h2)];exact M.els k h1 h2 h3
 · have es:step s (p,q,m)=s:=if_neg hm;rw[es];have hm':decide (s.t q+m<s.t p)=false:=decide_eq_false hm;refine⟨h,?_,M⟩;simp only[bI,NB,dB,CA,pA,EA,zd1,zd2,qA,lA,HB,UB,YD,zd9,xb,SM.CC,tp,tq,bE,TL,iB,hm',zej,if_false,KC]
theorem Oq{h0:HI}{a b c n:Nat}(ab:a≠b)(ac:a≠c)(bc:b≠c){E:List Bd}(hE:∀e∈E,e.1<n/\e.2.1<n){s:vG}{h:HI}(M:HH h0 a b c n E s h)(x4 x5:Option Dt) :
 ∃x4' x5' h',dE (dF 4 5) bI [some (.ref a),some (.ref b),some (.ref c),some (sE s.l),x4,x5] (.it a,h)=some (.nx [some (.ref a),some (.ref b),some (.ref c),some (sE (E.foldl step s).l),x4',x5'] h')/\HH h0 a b c n E (E.foldl step s) h':=by
 obtain⟨l',h',e,⟨y4,y5,rfl⟩,M'⟩:=Wx (i:=4) (j:=5) (n:=a) (body:=bI) (kvs:=E.map cB) (fun(s:vG) l h=>(∃y4 y5,l=[some (.ref a),some (.ref b),some (.ref c),some (sE s.l),y4,y5])/\HH h0 a b c n E s h) (fun s x=>step s (aM x)) (fun s l h ⟨_,M⟩=>M.da) (by
  rintro x hx s l h ⟨⟨y4,y5,rfl⟩,M⟩;obtain⟨e,he,rfl⟩:=mem_map.mp hx;obtain⟨h',e1,M'⟩:=Nq ab ac bc (hE e he) M;rw[sZ];exact⟨_,e1,⟨_,_,rfl⟩,M'⟩) s ⟨⟨x4,x5,rfl⟩,M⟩
 have ef:(E.map cB).foldl (fun s x=>step s (aM x)) s=E.foldl step s:=by simp only[foldl_map,sZ]
 rw[ef]at e M';exact⟨y4,y5,h',e,M'⟩
theorem Nx{a b c n:Nat}(ab:a≠b)(ac:a≠c)(bc:b≠c){E:List Bd}(hE:∀e∈E,e.1<n/\e.2.1<n){s:vG}{h:HI}(da:h[a]?=some (.dt (E.map cB))\/h[a]?=some (.df (E.map cB)))(db:h[b]?=some (.lst (mC n s.t)))(dc:h[c]?=some (.lst (PD n s.c))) :
 ∃h',lJ [.ref a,.ref b,.ref c] h=some (sE (turn E s).l,h')/\HH h a b c n E (turn E s) h':=by
 have alt:a<h.length:=by rcases da with da | da<;>exact(zed da).1
 obtain⟨h1,ei,M⟩:∃h1,jI (eV 0) [some (.ref a),some (.ref b),some (.ref c),some .non,none,none] h=some (.it a,h1)/\HH h a b c n E ⟨s.t,s.c,none⟩ h1:=by
  rcases da with da | da
  · refine⟨_,w8 (by simp) da,⟨by simp,getElem?_set_self alt,?_,?_,fun m h1 _ _=>getElem?_set_ne (Ne.symm h1)⟩⟩
    · rw[getElem?_set_ne ab];exact db
    · rw[getElem?_set_ne ac];exact dc
  · exact⟨_,v8 (by simp) da,⟨rfl,da,db,dc,fun _ _ _ _=>rfl⟩⟩
 obtain⟨y4,y5,h',e,M'⟩:=Oq ab ac bc hE M none none;refine⟨h',?_,M'⟩;have e':dE (dF 4 5) bI [some (.ref a),some (.ref b),some (.ref c),some .non,none,none] (.it a,h1)=_:=e;simp only[lJ,LS,sB,zd3,zd4,if_true,zd5,zd6,List.replicate,zec,zeb,XA,fB,EA,lA,zd8,zd7,YA,iE];simp[ei,e'];rfl
theorem Mj(l:LI)(h:HI)(b:Dt)(h':HI)(e:BK l h=some (b,h')):h'=h:=by
 simp only[BK,CA,pA]at e;rcases h0:l[0]? with _ | _ | d0
 · rw[h0]at e;cases e
 · rw[h0]at e;cases e
 · rcases h1:l[1]? with _ | _ | d1
   · rw[h0,h1]at e;cases e
   · rw[h0,h1]at e;cases e
   · rw[h0,h1]at e;simp only[qA,lA]at e;cases d0<;>cases d1<;>simp[GF,TJ]at e;exact e.2.symm
theorem rV(n:Nat)(t:Nat->Int):mC n t=((List.range n).map t).map Dt.int:=by unfold mC;rw[map_map];rfl
structure LH(h0:HI)(n:Nat)(E:List Bd)(s:vG)(h:HI):Prop where
 len:h.length=h0.length+3
 da:h[h0.length]?=some (.dt (E.map cB))\/h[h0.length]?=some (.df (E.map cB))
 db:h[h0.length+1]?=some (.lst (mC n s.t))
 dc:h[h0.length+2]?=some (.lst (PD n s.c))
 els:∀m,m<h0.length->h[m]?=h0[m]?
def hC(n:Nat)(t:Nat->Int):Nat->Int:=fun i=>t i-XB ((List.range n).map t)
theorem Az{h0:HI}{n:Nat}(hn:1<=n)(hn2:n<=1000){E:List Bd}(hE:∀e∈E,e.1<n/\e.2.1<n){s:vG}{h:HI}(M:LH h0 n E s h)(x0 x1 x5 x6 x7:Option Dt) :
 ∃h',LH h0 n E (turn E s) h'/\gJ [x0,x1,some (.ref h0.length),some (.ref (h0.length+1)),some (.ref (h0.length+2)),x5,x6,x7] h =
  (match(turn E s).l with
  | none=>some (.rt (.tup [.str "times", .lst (mC n (hC n (turn E s).t))]) h')
  | some p=>some (.nx [x0,x1,some (.ref h0.length),some (.ref (h0.length+1)),some (.ref (h0.length+2)),x5,some (.int (p:Nat)),x7] h')):=by
 obtain⟨h',e,M'⟩:=Nx (a:=h0.length) (b:=h0.length+1) (c:=h0.length+2) (by omega) (by omega) (by omega) hE M.da M.db M.dc;refine⟨h',⟨by rw[M'.len,M.len],.inr M'.da,M'.db,M'.dc,fun m hm=>(M'.els m (by omega) (by omega) (by omega)).trans (M.els m hm)⟩,?_⟩;cases q:(turn E s).l with
 | some p=>rw[q]at e;have e':lJ [.ref h0.length,.ref (h0.length+1),.ref (h0.length+2)] h=some (.int (p:Nat),h'):=e;simp[gJ,e',TF]
 | none=>
  rw[q]at e;have e':lJ [.ref h0.length,.ref (h0.length+1),.ref (h0.length+2)] h=some (.non,h'):=e;have hne:(List.range n).map (turn E s).t ≠ []:=by intro z;have:=congrArg List.length z;simp at this;omega
  have em:rT (eC (.int 0)) [x0,x1,some (.ref h0.length),some (.ref (h0.length+1)),some (.ref (h0.length+2)),x5,some .non,x7] (.ref (h0.length+1),h')=some (.int (XB ((List.range n).map (turn E s).t)),h'):=by unfold rT;rw[EA,lA,Ej M'.db,rV];simp only[zea,SM.q9];rw[if_pos hne]
  have ec:ZD (AA 0) QB BK [none,some (.int (XB ((List.range n).map (turn E s).t)))] (.rf (h0.length+1),h')=some (mC n (hC n (turn E s).t),h'):=by
   rw[NR M'.db (by rw[HR];simp;omega) (fun l h b h' e q=>by simp at e;rw[<- e.2];exact q) (fun l h b h' e q=>by rw[Mj l h b h' e];exact q)];rw[rV,mH Dt.int (fun x=>Dt.int (x-XB ((List.range n).map (turn E s).t))) h' _ _ (by
    intro x hx;exact⟨by simp,by simp[BK]⟩)]
   unfold mC hC;rw[map_map];rfl
  simp[gJ,e',TF,em,yF M'.db,ec]
theorem QS{h0:HI}{n:Nat}(hn:1<=n)(hn2:n<=1000){E:List Bd}(hE:∀e∈E,e.1<n/\e.2.1<n)(x0 x1:Option Dt):∀(xs:List Dt)(k:Nat)(x5 x6 x7:Option Dt)(h:HI),LH h0 n E (LD E k s0) h->(1<=k->∃p:Nat,(LD E k s0).l=some p/\x6=some (.int (p:Nat)))->
 (∃s h',s.l=none/\(∀e∈E,iF s.t e)/\LH h0 n E s h'/\AC (AA 5) gJ xs [x0,x1,some (.ref h0.length),some (.ref (h0.length+1)),some (.ref (h0.length+2)),x5,x6,x7] h=some (.rt (.tup [.str "times", .lst (mC n (hC n s.t))]) h'))\/
 (∃y5 y6 h',LH h0 n E (LD E (k+xs.length) s0) h'/\(1<=k+xs.length->∃p:Nat,(LD E (k+xs.length) s0).l=some p/\y6=some (.int (p:Nat)))/\
  AC (AA 5) gJ xs [x0,x1,some (.ref h0.length),some (.ref (h0.length+1)),some (.ref (h0.length+2)),x5,x6,x7] h=some (.nx [x0,x1,some (.ref h0.length),some (.ref (h0.length+1)),some (.ref (h0.length+2)),y5,y6,x7] h'))
 | [],k,x5,x6,x7,h,M,q=>.inr ⟨x5,x6,h,M,q,rfl⟩
 | x::xs,k,x5,x6,x7,h,M,q=>by
  obtain⟨h1,M1,e1⟩:=Az hn hn2 hE M x0 x1 (some x) x6 x7;cases ql:(turn E (LD E k s0)).l with
  | none=>
   rw[ql]at e1;obtain⟨_,p2,p3⟩:=AV E _ ql;refine .inl ⟨turn E (LD E k s0),h1,ql,?_,M1,by simp[AC,e1]⟩;show ∀e∈E,iF (E.foldl step _).t e
   rw[p2];exact p3
  | some p=>
   rw[ql]at e1;have:=QS hn hn2 hE x0 x1 xs (k+1) (some x) (some (.int (p:Nat))) x7 h1 M1 (fun _=>⟨p,ql,rfl⟩);rw[show k+(x::xs).length=k+1+xs.length by simp;omega];rcases this with⟨s,h',a1,a2,a3,a4⟩ | ⟨y5,y6,h',a1,a2,a3⟩
   · exact .inl ⟨s,h',a1,a2,a3,by simp[AC,e1,a4]⟩
   · exact .inr ⟨y5,y6,h',a1,a2,by simp[AC,e1,a3]⟩
def JC(c:Nat->Option Nat)(P i:Nat):List Dt:=(List.range (i+1)).map fun m=>.int ((KB (nxt c) m P:Nat):Int)
theorem k8(c:Nat->Option Nat)(P i:Nat):Xd (JC c P i) (-1)=some (.int ((KB (nxt c) i P:Nat):Int)):=by
 unfold JC Xd QG;have h1:(1:Int)<=(i:Int)+1:=by omega
 have h2:(-1+((i:Int)+1)).toNat=i:=by omega
 simp[h1,h2]
theorem VU{n a k x:Nat}(hn:1<=n)(hn2:n<=90){E:List Bd}{w:Nat->Nat->Int}{c:Nat->Option Nat}{h:HI}(dc:h[a]?=some (.lst (PD n c)))(T:YT n E)
 (R:JH n E w c (KB (nxt c) n x) k) (cd:∀i,i<=n->c (KB (nxt c) i x)=some (KB (nxt c) (i+1) x)/\KB (nxt c) i x<n) :
 wM [.int (x:Nat),.ref a] h=some (.ref h.length,h++[.lst (JC c (KB (nxt c) n x) k)]):=by
 have xc:=fun i=>fF dc i
 have er:=AF (h:=h) (show(-(2^62):Int)<=(n:Int) by omega) (show(n:Int)<2^62 by omega);simp only[Int.toNat_natCast]at er;obtain⟨l',h',e,⟨y,rfl⟩,hh⟩:=uK (i:=2) (body:=cQ) (fun(k:Nat)=>Dt.int (k:Int)) (fun i l h'=>(∃y,l=[some (.int ((KB (nxt c) i x:Nat):Int)),some (.ref a),y,none])/\h'=h) n (by
  rintro i hi l h' ⟨⟨y,rfl⟩,rfl⟩;obtain⟨c1,c2⟩:=cd i (by omega);have ca:=dR c c2;rw[c1]at ca;refine⟨.nx [some (.int ((KB (nxt c) (i+1) x:Nat):Int)),some (.ref a),some (.int (i:Nat)),none] h',?_,⟨_,rfl⟩,rfl⟩;simp only[cQ,fB,CA,pA,zd8,zd7,zd1,zd2,qA,lA,xc,SM.CC,ca,zd9,sE]) [some (.int (x:Nat)),some (.ref a),none,none] h ⟨⟨_,rfl⟩,rfl⟩
 rw[hh]at e;clear hh;obtain⟨c1,c2⟩:=cd n (zeg _);generalize hP:KB (nxt c) n x=P at R e c1 c2;have c1':c P=some (KB (nxt c) (n+1) x):=c1;have caP:=dR c c2;have f1:KB (nxt c) (n+1) x=nxt c P:=by show nxt c (KB (nxt c) n x)=_;rw[hP]
 rw[c1',f1]at caP;obtain⟨r,ew,Rr⟩:=RV (t:=bQ) (body:=dQ) (fun m l h'=>∃i,1<=i/\i<=k/\m=k-i/\l=[some (.int (P:Nat)),some (.ref a),y,some (.ref h.length)]/\h'=h++[.lst (JC c P i)])
  (fun l h'=>l=[some (.int (P:Nat)),some (.ref a),y,some (.ref h.length)]/\h'=h++[.lst (JC c P k)]) (fun _ _=>False) (by
  rintro m l h' ⟨i,i1,i2,rfl,rfl,rfl⟩;have dr:(h++[Ob.lst (JC c P i)])[h.length]?=some (.lst (JC c P i)):=by simp
  have dc':(h++[Ob.lst (JC c P i)])[a]?=some (.lst (PD n c)):=by rw[zee (zed dc).1];exact dc
  have xr:=fun j=>fF dr j
  have xc':=fun j=>fF dc' j
  have rl:=k8 c P i;refine⟨!decide (((KB (nxt c) i P:Nat):Int)=(P:Int)),h++[.lst (JC c P i)],?_,?_⟩
  · simp only[bQ,dB,CA,pA,BO,EA,HN,zd1,zd2,qA,lA,xr,rl,zd9,UJ,iB]
  · by_cases hk:i=k
    · subst hk;rw[R.back];simp
    · have ne:=R.first i i1 (by omega);have ne':¬(((KB (nxt c) i P:Nat):Int)=(P:Int)):=fun z=>ne (by omega)
      rw[decide_eq_false ne'];obtain⟨g1,g2⟩:=R.edge i i2;have glt:=(T.lt _ g1).1;have ca:=dR c glt;rw[g2]at ca;have ea:e2 uA (eV 1) (e2 uA (eV 3) (pE (eC (.int 1)))) [some (.int (P:Nat)),some (.ref a),y,some (.ref h.length)] (h++[.lst (JC c P i)])=some (.int ((KB (nxt c) (i+1) P:Nat):Int),h++[.lst (JC c P i)]):=by simp only[CA,pA,BO,EA,HN,zd1,zd2,qA,lA,xr,rl,zd9,xc',SM.CC,ca,sE]
      have ap:=DG (l:=[some (.int (P:Nat)),some (.ref a),y,some (.ref h.length)]) (g:=e2 uA (eV 1) (e2 uA (eV 3) (pE (eC (.int 1))))) dr ea dr (by have:=R.le;simp[JC];omega);have en:JC c P i++[.int ((KB (nxt c) (i+1) P:Nat):Int)]=JC c P (i+1):=by unfold JC;rw[range_succ (n:=i+1),map_append];rfl
      rw[en]at ap;have es:(h++[Ob.lst (JC c P i)]).set h.length (.lst (JC c P (i+1)))=h++[.lst (JC c P (i+1))]:=by simp
      rw[es]at ap;refine⟨.nx [some (.int (P:Nat)),some (.ref a),y,some (.ref h.length)] (h++[.lst (JC c P (i+1))]),?_,k-(i+1),by omega,i+1,by omega,by omega,rfl,rfl,rfl⟩;simp only[dQ,JE,RF,pA,zd1,zd2,qA,lA,ap]) 100 (k-1) [some (.int (P:Nat)),some (.ref a),y,some (.ref h.length)] (h++[.lst (JC c P 1)]) ⟨1,zeg _,R.pos,rfl,rfl,rfl⟩ (by have:=R.le;omega)
 cases r with
 | nx l2 h2=>obtain⟨rfl,rfl⟩:=Rr;have e1:JC c P 1=[.int (P:Nat),.int ((nxt c P:Nat):Int)]:=rfl;rw[e1]at ew;simp[wM,nQ,vJ dc,lV,er,e,xc,caP,sE,ew]
 | rt d h2=>exact Rr.elim
 | bk l2 h2=>exact Rr.elim
 | ct l2 h2=>exact Rr.elim
def QO(told:List Bd)(p q:Nat):Int:=(EH (dC told) p q).getD 0
theorem EU{told:List Bd}{e:Bd}(he:e∈dC told):QO told e.1 e.2.1=e.2.2:=by
 unfold QO EH;cases q:(dC told).find? (fD e.1 e.2.1)with
 | none=>have:=find?_eq_none.mp q e he;exact absurd (Ld.mpr ⟨rfl,rfl⟩) this
 | some x=>obtain⟨h1,h2⟩:=Ld.mp (find?_some q);exact(AJ told).un x (mem_of_find?_eq_some q) e he h1 h2
theorem oX{n:Nat}{told:List Bd}(hT:∀e∈told,e.1<n/\e.2.1<n/\e.1≠e.2.1):YT n (dC told):=⟨fun e he=>hT e ((AJ told).mem e he),(AJ told).un⟩
theorem Ar{n:Nat}(hn:1<=n)(hn2:n<=16)(told:List Bd)(hT:∀e∈told,e.1<n/\e.2.1<n/\e.1≠e.2.1)(hl:told.length<=1000)(h:HI) :
 (∃t h',(∀e∈told,iF t e)/\(∀m,m<h.length->h'[m]?=h[m]?)/\iG [.int (n:Nat),.lst (told.map gA)] h=some (.tup [.str "times", .lst (mC n (hC n t))],h'))\/
 (∃c P k r h',JH n (dC told) (QO told) c P k/\(∀m,m<h.length->h'[m]?=h[m]?)/\h'[r]?=some (.lst (JC c P k))/\iG [.int (n:Nat),.lst (told.map gA)] h=some (.tup [.str "ring", .ref r],h')):=by
 have T:=oX hT;have hE:∀e∈dC told,e.1<n/\e.2.1<n:=fun e he=>⟨(T.lt e he).1,(T.lt e he).2.1⟩
 have eb:=o3 told hl h;have r1:=dN (h:=h++[.dt ((dC told).map cB)]) (Dt.int 0) (show n<=1000000 by omega);have r2:=dN (h:=h++[.dt ((dC told).map cB)]++[.lst (List.replicate n (Dt.int 0))]) Dt.non (show n<=1000000 by omega);have t0:List.replicate n (Dt.int 0)=mC n s0.t:=by unfold mC;rw[show(fun i=>Dt.int (s0.t i))=fun _=>Dt.int 0 from rfl,map_const',length_range]
 have c0:List.replicate n Dt.non=PD n s0.c:=by unfold PD;rw[show(fun i=>sE (s0.c i))=fun _=>Dt.non from rfl,map_const',length_range]
 rw[t0]at r1 r2;rw[c0]at r2;simp only[append_assoc,zec,zeb,length_append,zd3,zd4,Nat.zero_add]at r1 r2;have er:=fun h=>AF (h:=h) (show(-(2^62):Int)<=(n:Int)+1 by omega) (show(n:Int)+1<2^62 by omega)
 have en:((n:Int)+1).toNat=n+1:=by omega
 rw[en]at er;have M:LH h n (dC told) (LD (dC told) 0 s0) (h++[.dt ((dC told).map cB),.lst (mC n s0.t),.lst (PD n s0.c)]):=by
  refine⟨by simp,.inl ?_,?_,?_,fun m hm=>zee hm⟩
  · rw[zeh (zeg _),Nat.sub_self];rfl
  · rw[zeh (by omega),Nat.add_sub_cancel_left];rfl
  · rw[zeh (by omega),Nat.add_sub_cancel_left];rfl
 rcases QS hn (by omega) hE (some (.int (n:Nat))) (some (.lst (told.map gA))) ((List.range (n+1)).map fun(k:Nat)=>Dt.int (k:Int)) 0 none none none _ M (fun h=>absurd h (by omega))with⟨s,h',a1,a2,a3,a4⟩ | ⟨y5,y6,h',a1,a2,a3⟩
 · refine .inl ⟨s.t,h',fun e he=>?_,a3.els,?_⟩
   · obtain⟨x,hx,x1,x2,x3⟩:=(AJ told).low e he;have:=a2 x hx;simp only[iF]at this ⊢;rw[x1,x2]at this;omega
   · simp[iG,kJ,eb,r1,r2,er,a4]
 · rw[length_map,length_range,Nat.zero_add]at a1 a2;obtain⟨p,ql,rfl⟩:=a2 (by omega);obtain⟨u,D,I,_⟩:=TR T (fun e he=>EU he) n;obtain⟨k,R,cd⟩:=VX T I ql;have g:=VU hn (by omega) a1.dc T R cd;refine .inr ⟨(LD (dC told) (n+1) s0).c,KB (nxt (LD (dC told) (n+1) s0).c) n p,k,h'.length,h'++[.lst (JC (LD (dC told) (n+1) s0).c (KB (nxt (LD (dC told) (n+1) s0).c) n p) k)],R,fun m hm=>?_,?_,?_⟩
   · rw[zee (by rw[a1.len];omega)];exact a1.els m hm
   · rw[zeh (zeg _),Nat.sub_self];rfl
   · simp[iG,kJ,eb,r1,r2,er,a3,g]
theorem V2(told:List Bd)(hl:told.length<=1000)(h:HI){a:Nat}(da:h[a]?=some (.lst (told.map gA))):UI [.ref a] h=some (.ref h.length,h++[.dt ((dC told).map cB)]):=by
 obtain⟨l',h',e,⟨y2,y3,rfl⟩,rfl,_⟩:=DO (i:=2) (n:=a) (body:=cK) gA (fun k l h'=>(∃y2 y3,l=[some (.ref a),some (.ref h.length),y2,y3])/\h'=h++[.dt (((told.take k).foldl LC []).map cB)]/\((told.take k).foldl LC []).length<=k) told (by
  rintro k l h' ⟨_,rfl,_⟩;rw[zee (zed da).1];exact da) (by
  rintro k x hx l h' ⟨⟨y2,y3,rfl⟩,rfl,hk⟩;have kl:k<told.length:=(zed hx).1;rw[NV LC [] hx];generalize (told.take k).foldl LC []=E at hk;have ed:(h++[Ob.dt (E.map cB)])[h.length]?=some (.dt (E.map cB)):=by simp
  have LL:([some (Dt.ref a),some (.ref h.length),y2,y3]:LI).set 2 (some (gA x))=[some (Dt.ref a),some (.ref h.length),some (gA x),y3]:=rfl;rw[LL];refine⟨.nx [some (.ref a),some (.ref h.length),some (gA x),some (.Zd [(x.1:Int),(x.2.1:Int)])] (h++[.dt ((LC E x).map cB)]),?_,⟨_,_,rfl⟩,rfl,?_⟩
  · have g1:rH (eV 1) (eV 3) (e2 uA (eV 2) (eC (.int 2))) [some (.ref a),some (.ref h.length),some (gA x),some (.Zd [(x.1:Int),(x.2.1:Int)])] (h++[.dt (E.map cB)])=some (.int ((EH E x.1 x.2.1).getD x.2.2),h++[.dt (E.map cB)]):=by rw[QX (n:=h.length) (k:=[(x.1:Int),(x.2.1:Int)]) (kvs:=E.map cB) (by simp) ed (by simp)];simp only[CA,pA,EA,zd1,zd2,qA,lA,gA,HB,qI,zd9];rw[qY ed,XS];cases EH E x.1 x.2.1<;>rfl
    have g2:=GY (l:=[some (.ref a),some (.ref h.length),some (gA x),some (.Zd [(x.1:Int),(x.2.1:Int)])]) (h:=h++[.dt (E.map cB)]) (fe:=yL zH (rH (eV 1) (eV 3) (e2 uA (eV 2) (eC (.int 2)))) (e2 uA (eV 2) (eC (.int 2)))) (fo:=eV 1) (fy:=eV 3) (n:=h.length) (k:=[(x.1:Int),(x.2.1:Int)]) (kvs:=E.map cB)
     (d:=.int (min ((EH E x.1 x.2.1).getD x.2.2) x.2.2)) (by
      rw[MI,g1,lA];simp[gA]) (by simp) ed (by simp) (by simp;omega)
    rw[cY]at g2;have es:(h++[Ob.dt (E.map cB)]).set h.length (.dt ((LC E x).map cB))=h++[.dt ((LC E x).map cB)]:=by simp
    simp only[cK,XA,fB,lZ,UA,NA,CA,pA,EA,zd1,zd2,qA,lA,gA,HB,UB,YD,zd9,gX,zd8,zd7,YA];have g3:=g2;simp only[gA]at g3;rw[g3];show some (Rs.nx _ ((h++[Ob.dt (E.map cB)]).set h.length (.dt ((LC E x).map cB))))=_;rw[es]
  · have:=XW E x.1 x.2.1 (min ((EH E x.1 x.2.1).getD x.2.2) x.2.2);show(LC E x).length<=k+1;unfold LC;omega) [some (.ref a),some (.ref h.length),none,none] (h++[.dt []]) ⟨⟨_,_,rfl⟩,by simp,by simp⟩
 have da':(h++[Ob.dt []])[a]?=some (.lst (told.map gA)):=by rw[zee (zed da).1];exact da
 rw[take_length]at e;simp[UI,BM,yF da',e];rfl
theorem yW{n a:Nat}(hn:1<=n)(hn2:n<=16)(told:List Bd)(hT:∀e∈told,e.1<n/\e.2.1<n/\e.1≠e.2.1)(hl:told.length<=1000)(h:HI)(da:h[a]?=some (.lst (told.map gA))) :
 (∃t h',(∀e∈told,iF t e)/\(∀m,m<h.length->h'[m]?=h[m]?)/\iG [.int (n:Nat),.ref a] h=some (.tup [.str "times", .lst (mC n (hC n t))],h'))\/
 (∃c P k r h',JH n (dC told) (QO told) c P k/\(∀m,m<h.length->h'[m]?=h[m]?)/\h'[r]?=some (.lst (JC c P k))/\iG [.int (n:Nat),.ref a] h=some (.tup [.str "ring", .ref r],h')/\h.length<=r):=by
 have T:=oX hT;have hE:∀e∈dC told,e.1<n/\e.2.1<n:=fun e he=>⟨(T.lt e he).1,(T.lt e he).2.1⟩
 have eb:=V2 told hl h da;have r1:=dN (h:=h++[.dt ((dC told).map cB)]) (Dt.int 0) (show n<=1000000 by omega);have r2:=dN (h:=h++[.dt ((dC told).map cB)]++[.lst (List.replicate n (Dt.int 0))]) Dt.non (show n<=1000000 by omega);have t0:List.replicate n (Dt.int 0)=mC n s0.t:=by unfold mC;rw[show(fun i=>Dt.int (s0.t i))=fun _=>Dt.int 0 from rfl,map_const',length_range]
 have c0:List.replicate n Dt.non=PD n s0.c:=by unfold PD;rw[show(fun i=>sE (s0.c i))=fun _=>Dt.non from rfl,map_const',length_range]
 rw[t0]at r1 r2;rw[c0]at r2;simp only[append_assoc,zec,zeb,length_append,zd3,zd4,Nat.zero_add]at r1 r2;have er:=fun h=>AF (h:=h) (show(-(2^62):Int)<=(n:Int)+1 by omega) (show(n:Int)+1<2^62 by omega)
 have en:((n:Int)+1).toNat=n+1:=by omega
 rw[en]at er;have M:LH h n (dC told) (LD (dC told) 0 s0) (h++[.dt ((dC told).map cB),.lst (mC n s0.t),.lst (PD n s0.c)]):=by
  refine⟨by simp,.inl ?_,?_,?_,fun m hm=>zee hm⟩
  · rw[zeh (zeg _),Nat.sub_self];rfl
  · rw[zeh (by omega),Nat.add_sub_cancel_left];rfl
  · rw[zeh (by omega),Nat.add_sub_cancel_left];rfl
 rcases QS hn (by omega) hE (some (.int (n:Nat))) (some (.ref a)) ((List.range (n+1)).map fun(k:Nat)=>Dt.int (k:Int)) 0 none none none _ M (fun h=>absurd h (by omega))with⟨s,h',a1,a2,a3,a4⟩ | ⟨y5,y6,h',a1,a2,a3⟩
 · refine .inl ⟨s.t,h',fun e he=>?_,a3.els,?_⟩
   · obtain⟨x,hx,x1,x2,x3⟩:=(AJ told).low e he;have:=a2 x hx;simp only[iF]at this ⊢;rw[x1,x2]at this;omega
   · simp[iG,kJ,eb,r1,r2,er,a4]
 · rw[length_map,length_range,Nat.zero_add]at a1 a2;obtain⟨p,ql,rfl⟩:=a2 (by omega);obtain⟨u,D,I,_⟩:=TR T (fun e he=>EU he) n;obtain⟨k,R,cd⟩:=VX T I ql;have g:=VU hn (by omega) a1.dc T R cd;refine .inr ⟨(LD (dC told) (n+1) s0).c,KB (nxt (LD (dC told) (n+1) s0).c) n p,k,h'.length,h'++[.lst (JC (LD (dC told) (n+1) s0).c (KB (nxt (LD (dC told) (n+1) s0).c) n p) k)],R,fun m hm=>?_,?_,?_,by rw[a1.len];omega⟩
   · rw[zee (by rw[a1.len];omega)];exact a1.els m hm
   · rw[zeh (zeg _),Nat.sub_self];rfl
   · simp[iG,kJ,eb,r1,r2,er,a3,g]
theorem CS{n:Nat}{told:List Bd}{b:Nat->Int}{c:Nat->Option Nat}{P k:Nat}(hb:∀e∈told,b e.1-b e.2.1<=e.2.2)(R:JH n (dC told) (QO told) c P k):False:=by
 have h1:∀i,i<=k->b P-b (KB (nxt c) i P)<=((List.range i).map fun m=>QO told (KB (nxt c) m P) (KB (nxt c) (m+1) P)).sum:=by
  intro i
  induction i with
  | zero=>intro _;show b P-b P<=0;omega
  | succ i ih=>intro hi;have h2:=ih (by omega);have h3:=hb _ ((AJ told).mem _ (R.edge i (by omega)).1);rw[range_succ,map_append,sum_append];simp only[zd5,zd6,sum_cons,sum_nil,Int.add_zero]at h3 ⊢;omega
 have h2:=h1 k (zeg _);rw[R.back]at h2;have:=R.sum;omega
theorem Ht{α:Type}{bd:RG}{n:Nat}{body:RS}(D:α->Dt)(I:LI->HI->Prop)(xs:List α)(hI:∀l h,I l h->h[n]?=some (.lst (xs.map D)))
 (H:∀x∈xs,∀l h,I l h->∃l1 r,bd (D x) l=some l1/\body l1 h=some r/\Pass I r):∀l h,I l h->∃l' h',dE bd body l (.rf n,h)=some (.nx l' h')/\I l' h':=by
 have go:∀(f k:Nat)(l:LI)(h:HI),I l h->f=xs.length-k+1->k<=xs.length->∃l' h',qC bd body (.rf n) f k l h=some (.nx l' h')/\I l' h':=by
  intro f
  induction f with
  | zero=>intro k l h _ e;omega
  | succ f ih=>
   intro k l h i hf hk;have e:=hI l h i;by_cases hlt:k<xs.length
   · obtain⟨l1,r,e1,e2,p⟩:=H xs[k] (getElem_mem hlt) l h i;have ek:(xs.map D)[k]?=some (D xs[k]):=by rw[getElem?_map,getElem?_eq_getElem hlt];rfl
     have eu:qC bd body (.rf n) (f+1) k l h=ZA (body l1 h) (oP (qC bd body (.rf n) f (k+1))):=by
      simp only[qC,Src.at,e,ek,e1,zea];cases body l1 h with
      | none=>rfl
      | some r=>cases r<;>rfl
     rw[eu,e2,lA];cases r with
     | nx l2 h2=>exact ih (k+1) l2 h2 p (by omega) hlt
     | ct l2 h2=>exact ih (k+1) l2 h2 p (by omega) hlt
     | bk l2 h2=>exact p.elim
     | rt d h2=>exact p.elim
   · have ek:(xs.map D)[k]?=none:=getElem?_eq_none (by rw[length_map];omega);exact⟨l,h,by simp only[qC,Src.at,e,ek],i⟩
 intro l h i;have e:=hI l h i;obtain⟨l',h',e1,e2⟩:=go (xs.length+1) 0 l h i (by omega) (Nat.zero_le _);refine⟨l',h',?_,e2⟩;show qC bd body (.rf n) (Src.fuel (.rf n) h) 0 l h=_;have ef:Src.fuel (.rf n) h=xs.length+1:=by simp only[Src.fuel,e,length_map]
 rw[ef];exact e1
theorem J8{n:Nat}(hn:1<=n)(t:Nat->Int):(List.range n).map (hC n t) ≠ []/\XB ((List.range n).map (hC n t))=0:=by
 have ne:∀g:Nat->Int,(List.range n).map g ≠ []:=fun g z=>by have:=congrArg List.length z;simp at this;omega
 refine⟨ne _,?_⟩;obtain⟨a1,a2⟩:=cI _ (ne t);obtain⟨b1,b2⟩:=cI _ (ne (hC n t));obtain⟨i,hi,e⟩:=mem_map.mp a1;obtain⟨j,hj,e'⟩:=mem_map.mp b1;have c1:=b2 (hC n t i) (mem_map_of_mem hi);have c2:=a2 (t j) (mem_map_of_mem hj);have d1:hC n t i=0:=by unfold hC;rw[e];omega
 have d2:hC n t j=t j-XB ((List.range n).map t):=rfl;omega
noncomputable def vB(t a b:Int):Nat:=if t<a then 0 else if t=a then 1 else if t<b then 2 else if t=b then 3 else 4
noncomputable def Ad:List (Nat×Nat):=[(0,0),(0,1),(0,2),(0,3),(0,4),(1,2),(1,3),(1,4),(2,2),(2,3),(2,4),(3,4),(4,4)]
theorem cN{a b c d:Int}(h1:a<b)(h2:c<d):(vB a c d,vB b c d)∈Ad:=by
 unfold vB
 repeat' split
 all_goals first | (exfalso;omega) | decide
noncomputable def pr(p:Nat×Nat):Dt:=.tup [.int (p.1:Int),.int (p.2:Int)]
noncomputable def QC(s:Int×Int):Dt:=.tup [.int s.1,.int s.2]
def Bf(s o:Int×Int):Nat:=Ad.idxOf (vB s.1 o.1 o.2,vB s.2 o.1 o.2)
noncomputable def IC(s:Int×Int):Prop:=s.1<s.2
theorem XD{s o:Int×Int}(h1:IC s)(h2:IC o):Bf s o<13:=idxOf_lt_length_of_mem (cN h1 h2)
theorem Br:∀p∈Ad,Uy (Ad.map pr) (pr p)=true/\kU (Ad.map pr) (pr p)=some (Ad.idxOf p):=by intro p hp;simp only[Ad,mem_cons,not_mem_nil,or_false]at hp;rcases hp with rfl | rfl | rfl | rfl | rfl | rfl | rfl | rfl | rfl | rfl | rfl | rfl | rfl<;>exact⟨rfl,rfl⟩
noncomputable def PJ(n:Nat)(p:Nat->Bool):Nat:=match n with
 | 0=>0
 | n+1=>PJ n p+(if p n=true then 2^n else 0)
theorem kT(p:Nat->Bool):∀n,PJ n p<2^n
 | 0=>by simp[PJ]
 | n+1=>by have:=kT p n;simp only[PJ];rw[Nat.pow_succ];split<;>omega
theorem GX(p:Nat->Bool):∀n k,(PJ n p).testBit k=(decide (k<n)&&p k)
 | 0,k=>by simp[PJ]
 | n+1,k=>by
  have ih:=GX p n k;have lt:=kT p n;simp only[PJ];by_cases hp:p n=true
  · rw[if_pos hp,Nat.add_comm];rcases Nat.lt_trichotomy k n with h | h | h
    · rw[Nat.testBit_two_pow_add_gt h,ih];simp[h,Nat.lt_succ_of_lt h]
    · subst h;rw[Nat.testBit_two_pow_add_eq,ih];simp[hp]
    · have:2^n+PJ n p<2^k:=Nat.lt_of_lt_of_le (show 2^n+PJ n p<2^(n+1) by rw[Nat.pow_succ];omega) (Nat.pow_le_pow_right (by decide) h);rw[Nat.testBit_lt_two_pow this];have:¬k<n+1:=by omega
      simp[this]
  · rw[if_neg hp,Nat.add_zero,ih];by_cases h:k=n
    · subst h;simp[hp]
    · have:(k<n+1)=(k<n):=by apply propext;omega
      simp[this]
theorem eI{a b:Nat}(ha:a<8192)(hb:b<8192)(h:∀k<13,a.testBit k=b.testBit k):a=b:=by
 apply Nat.eq_of_testBit_eq;intro k;by_cases hk:k<13
 · exact h k hk
 · have hp:8192<=2^k:=by have:=Nat.pow_le_pow_right (show 1<=2 by decide) (show 13<=k by omega);exact this
   rw[Nat.testBit_lt_two_pow (by omega),Nat.testBit_lt_two_pow (by omega)]
def mk(p:Nat->Bool):Nat:=PJ 13 p
theorem Vy(p:Nat->Bool):mk p<8192:=kT p 13
theorem MY(p:Nat->Bool){k:Nat}(hk:k<13):(mk p).testBit k=p k:=by unfold mk;rw[GX];simp[hk]
noncomputable def HA(m:Nat):List Nat:=(List.range 13).filter m.testBit
theorem Df{m k:Nat}:k∈HA m↔k<13/\m.testBit k=true:=by simp[HA]
theorem p7(g:Nat->Int)(p:Nat->Bool)(xs:List Nat):((xs.filter p).map g).sum=(xs.map fun k=>if p k=true then g k else 0).sum:=by
 induction xs with
 | nil=>rfl
 | cons x xs ih=>by_cases h:p x=true<;>simp[h,ih]
theorem Nj(p:Nat->Bool):((((List.range 13).filter p).map fun k=>(2:Int)^(12-k))).sum=(mk (fun j=>p (12-j)):Int):=by
 rw[p7];simp only[mk,PJ,List.range,List.range.loop,zd5,zd6,sum_cons,sum_nil,Nat.reduceSub];generalize p 0=a0;generalize p 1=a1;generalize p 2=a2;generalize p 3=a3;generalize p 4=a4;generalize p 5=a5;generalize p 6=a6;generalize p 7=a7;generalize p 8=a8;generalize p 9=a9;generalize p 10=a10;generalize p 11=a11;generalize p 12=a12;have f:∀(b:Bool)(k:Nat),(if b=true then(2:Int)^k else 0)=((if b=true then 2^k else 0:Nat):Int):=by intro b k;cases b<;>simp
 simp only[f];omega
def Cd(m:Nat):Nat:=mk fun j=>m.testBit (12-j)
theorem qJ(m:Nat):Cd m<8192:=Vy _
theorem qE(m:Nat){k:Nat}(hk:k<13):(Cd m).testBit k=m.testBit (12-k):=MY _ hk
theorem IR{m:Nat}(hm:m<8192):Cd (Cd m)=m:=eI (qJ _) hm fun k hk=>by
 rw[qE _ hk,qE _ (by omega)]
 congr 1
 omega
theorem zN(a b:Nat):Builtin.bitAnd (a:Int) (b:Int)=((a&&&b:Nat):Int):=by unfold Builtin.bitAnd;simp
theorem aY(a b:Nat):Builtin.bitOr (a:Int) (b:Int)=((a|||b:Nat):Int):=by
 unfold Builtin.bitOr Builtin.bitAnd Builtin.bitNot;have h1:decide (0<=-(a:Int)-1)=false:=by simp;omega
 have h2:decide (0<=-(b:Int)-1)=false:=by simp;omega
 have e:∀x:Int,-(-x-1)-1=x:=by intro x;omega
 simp only[h1,h2,e];simp
theorem WS(m k:Nat):decide (Builtin.bitAnd ((m:Int)/2^k) 1=1)=m.testBit k:=by
 have e:((m:Int)/2^k)=((m/2^k:Nat):Int):=by simp
 rw[e];have:=zN (m/2^k) 1;simp only[Int.cast_ofNat_Int]at this;rw[this,Nat.testBit_eq_decide_div_mod_eq];have e2:(m/2^k&&&1)=m/2^k%2:=Nat.and_one_is_mod _;rw[e2]
 congr 1
 apply propext;omega
theorem CI{k:Nat}(hk:k<13):tG 1 (k:Int):=⟨by omega,by omega,by decide⟩
theorem Hh(h:HI):EZ (.int 13,h)=some (.vals ((List.range 13).map fun(k:Nat)=>Dt.int (k:Int)),h):=AF (by decide) (by decide)
theorem VZ{α:Type}(f:Nat->α):((List.range 13).map f).length<sizeLine:=by rw[length_map,length_range];decide
theorem XZ{i:Nat}(h:i<13):i=0\/i=1\/i=2\/i=3\/i=4\/i=5\/i=6\/i=7\/i=8\/i=9\/i=10\/i=11\/i=12:=by revert i;decide
theorem GK(m:Nat):(HA m).length<=13:=by unfold HA;exact Nat.le_trans (length_filter_le _ _) (by simp)
theorem DK(m:Nat)(h:HI):FG [.int m] h=some (.lst ((HA m).map fun(k:Nat)=>Dt.int (k:Int)),h):=by
 have ec:=AK (te:=wQ) (tc:=xQ) (i:=0) (fun(k:Nat)=>Dt.int (k:Int)) m.testBit (fun(k:Nat)=>Dt.int (k:Int)) h (List.range 13) [none,some (.int m)] fun k _=>⟨by
  simp[xQ,tT,WS],fun _=>by simp[wQ]⟩
 simp[FG,tR,Hh,oF _ _ _ (VZ _),ec,HA]
theorem b9(ks:List Nat)(hk:∀k∈ks,k<13)(hl:ks.length<=13)(h:HI):wN [.lst (ks.map fun(k:Nat)=>Dt.int (k:Int))] h=some (.int ((ks.map fun k=>(2:Int)^k).sum),h):=by
 have ec:=mH (te:=WQ) (tc:=QB) (i:=0) (fun(k:Nat)=>Dt.int (k:Int)) (fun(k:Nat)=>Dt.int ((2:Int)^k)) h ks [none] fun k hm=>⟨rfl,by
  simp[WQ,CJ (CI (hk k hm))]⟩
 have hs:((ks.map fun(k:Nat)=>Dt.int (k:Int))).length<sizeLine:=by rw[length_map];exact Nat.lt_of_le_of_lt hl (by decide)
 have es:=Ly (h:=h) (ks.map fun k=>(2:Int)^k);rw[map_map]at es;have:(Dt.int ∘ fun k=>(2:Int)^k)=fun(k:Nat)=>Dt.int ((2:Int)^k):=rfl
 rw[this]at es;simp[wN,vR,oF _ _ _ hs,ec,es]
theorem f9(m:Nat)(h:HI):xN [.int m] h=some (.int (Cd m),h):=by
 have ec:=mH (te:=OQ) (tc:=QB) (i:=0) (fun(k:Nat)=>Dt.int (k:Int)) (fun(k:Nat)=>Dt.int (((12-k:Nat):Nat):Int)) h (HA m) [none] fun k hm=>⟨rfl,by
  have:=(Df.mp hm).1;simp[OQ];omega⟩
 have hs:((HA m).map fun(k:Nat)=>Dt.int (k:Int)).length<sizeLine:=by rw[length_map];exact Nat.lt_of_le_of_lt (GK m) (by decide)
 have es:=b9 ((HA m).map fun k=>12-k) (by intro k hk;obtain⟨j,_,rfl⟩:=mem_map.mp hk;omega) (by rw[length_map];exact GK m) h;rw[map_map,map_map]at es;have e1:((fun(k:Nat)=>Dt.int (k:Int)) ∘ fun k=>12-k)=fun(k:Nat)=>Dt.int (((12-k:Nat):Nat):Int):=rfl
 have e2:((fun(k:Nat)=>(2:Int)^k) ∘ fun k=>12-k)=fun(k:Nat)=>(2:Int)^(12-k):=rfl
 have e3:((HA m).map fun k=>(2:Int)^(12-k)).sum=(Cd m:Int):=Nj _;rw[e1,e2,e3]at es;simp[xN,wR,DK,oF _ _ _ hs,ec,es]
theorem lH(t a b:Int)(hab:a<b):(t<a/\vB t a b=0)\/(t=a/\vB t a b=1)\/(a<t/\t<b/\vB t a b=2)\/(t=b/\vB t a b=3)\/(b<t/\vB t a b=4):=by
 unfold vB
 repeat' split
 all_goals omega
theorem dj{w:Nat}(hw:w<13):Cd (2^w)=2^(12-w):=by
 have h1:2^(12-w)<8192:=Nat.lt_of_le_of_lt (Nat.pow_le_pow_right (by decide) (show 12-w<=12 by omega)) (by decide);refine eI (qJ _) h1 fun k hk=>?_
 rw[qE _ hk,Nat.testBit_two_pow,Nat.testBit_two_pow]
 congr 1
 apply propext;omega
noncomputable def gZ(ns:List Int):List Nat:=0::8191::ns.map fun c=>(c%8192).toNat
theorem Wt{ns:List Int}{m:Nat}(h:m∈gZ ns):m<8192:=by
 simp only[gZ,mem_cons,mem_map]at h;rcases h with rfl | rfl | ⟨c,_,rfl⟩
 · decide
 · decide
 · have:=Int.emod_lt_of_pos c (show(0:Int)<8192 by decide);have:=Int.emod_nonneg c (show(8192:Int)≠0 by decide);omega
def CH(i j:Nat):Nat:=match Tf[i]? with
 | some (.tup r)=>(match r[j]? with
  | some (.int n)=>n.toNat
  | _=>0)
 | _=>0
noncomputable def YZ:Dt->Nat
 | .int n=>n.toNat
 | _=>0
def WL:Dt->List Nat
 | .tup r=>r.map YZ
 | _=>[]
theorem Iz:Tf=(Tf.map WL).map fun r=>.tup (r.map fun n:Nat=>.int (n:Int)):=by rfl
theorem Pg:(Tf.map WL).length=13/\∀r∈Tf.map WL,r.length=13:=by decide +kernel
theorem Qg{i j:Nat}(hi:i<13)(hj:j<13):∃r,Tf[i]?=some (.tup r)/\r[j]?=some (.int (CH i j)):=by
 obtain⟨N,hN⟩:∃N,Tf.map WL=N:=⟨_,rfl⟩
 have T:=Iz;have T2:=Pg;rw[hN]at T T2;have hi':i<N.length:=by rw[T2.1];exact hi
 have e1:Tf[i]?=some (.tup (N[i].map fun n:Nat=>.int (n:Int))):=by rw[T,getElem?_map,getElem?_eq_getElem hi'];rfl
 have hj':j<N[i].length:=by rw[T2.2 _ (getElem_mem hi')];exact hj
 have e2:(N[i].map fun n:Nat=>Dt.int (n:Int))[j]?=some (.int (N[i][j]:Int)):=by rw[getElem?_map,getElem?_eq_getElem hj'];rfl
 refine⟨_,e1,?_⟩;rw[e2];unfold CH;rw[e1];dsimp only;rw[e2];rfl
theorem Gz:∀i<13,∀j<13,1<=CH i j/\CH i j<8192:=by decide +kernel
theorem XX:∀i<13,∀j<13,∀k<13,(CH (12-j) (12-i)).testBit (12-k)=(CH i j).testBit k:=by decide +kernel
noncomputable def rk(l:List Int)(x:Int):Nat:=match l with
 | []=>0
 | z::l=>(if z<x then 1 else 0)+rk l x
theorem pZ{x y:Int}(h:x<=y):∀l,rk l x<=rk l y
 | []=>zeg _
 | z::l=>by have:=pZ h l;unfold rk;split<;>split<;>omega
theorem xH{x y:Int}(h:x<y):∀l,x∈l->rk l x<rk l y
 | z::l,m=>by
  unfold rk;rcases mem_cons.mp m with rfl | m
  · have:=pZ (Int.le_of_lt h) l;rw[if_neg (Int.lt_irrefl _),if_pos h];omega
  · have:=xH h l m;split<;>split<;>omega
theorem nO{x:Int}:∀l,x∈l->rk l x<l.length
 | z::l,m=>by
  have q:∀l,rk l x<=l.length:=by
   intro l;induction l with
   | nil=>exact zeg _
   | cons z l ih=>unfold rk;rw[zd3];split<;>omega
  unfold rk;rw[zd3];rcases mem_cons.mp m with rfl | m
  · have:=q l;rw[if_neg (Int.lt_irrefl _)];omega
  · have:=nO l m;split<;>omega
theorem EV{l:List Int}{x y:Int}(hx:x∈l)(hy:y∈l):(x<y)=((rk l x:Int)<(rk l y:Int)):=by
 apply propext;constructor
 · intro h;have:=xH h l hx;omega
 · intro h;rcases Int.lt_trichotomy x y with g | g | g
   · exact g
   · subst g;omega
   · have:=xH g l hy;omega
theorem DV{l:List Int}{x y:Int}(hx:x∈l)(hy:y∈l):(x=y)=((rk l x:Int)=(rk l y:Int)):=by
 apply propext;constructor
 · intro h;rw[h]
 · intro h;rcases Int.lt_trichotomy x y with g | g | g
   · have:=xH g l hx;omega
   · exact g
   · have:=xH g l hy;omega
theorem rJ{l:List Int}{t a b:Int}(ht:t∈l)(ha:a∈l)(hb:b∈l):vB t a b=vB (rk l t) (rk l a) (rk l b):=by unfold vB;simp only[EV ht ha,DV ht ha,EV ht hb,DV ht hb]
noncomputable def yH(t a b:Nat):Nat:=if t<a then 0 else if t=a then 1 else if t<b then 2 else if t=b then 3 else 4
theorem Lg(t a b:Nat):vB t a b=yH t a b:=by unfold vB yH;simp only[Int.ofNat_lt,Int.ofNat_inj]
noncomputable def QI(z y:Nat):Nat:=[0,3,6,7,8].getD z 0+y
theorem UY:∀z<5,∀y<5,(z,y)∈Ad->Ad.idxOf (z,y)=QI z y:=by decide +kernel
theorem L9:∀b<6,∀a<b,∀d<6,∀c<d,∀q<6,∀p<q,
 (CH (QI (yH a c d) (yH b c d)) (QI (yH c p q) (yH d p q))).testBit (QI (yH a p q) (yH b p q))=true:=by decide +kernel
theorem FO(t a b:Int):vB t a b<5:=by
 unfold vB
 repeat' split
 all_goals decide
theorem BW{s o t:Int×Int}(h1:IC s)(h2:IC o)(h3:IC t):(CH (Bf s o) (Bf o t)).testBit (Bf s t)=true:=by
 obtain⟨a,b⟩:=s;obtain⟨c,d⟩:=o;obtain⟨p,q⟩:=t;unfold IC at h1 h2 h3;simp only at h1 h2 h3;have W:∀{a b c d:Int},a<b->c<d->Bf (a,b) (c,d)=QI (vB a c d) (vB b c d):=fun g1 g2=>UY _ (FO _ _ _) _ (FO _ _ _) (cN g1 g2)
 rw[W h1 h2,W h2 h3,W h1 h3];have ma:a ∈ [a,b,c,d,p,q]:=by simp
 have mb:b ∈ [a,b,c,d,p,q]:=by simp
 have mc:c ∈ [a,b,c,d,p,q]:=by simp
 have md:d ∈ [a,b,c,d,p,q]:=by simp
 have mp:p ∈ [a,b,c,d,p,q]:=by simp
 have mq:q ∈ [a,b,c,d,p,q]:=by simp
 have k1:=xH h1 _ ma;have k2:=xH h2 _ mc;have k3:=xH h3 _ mp;have t1:=nO _ mb;have t2:=nO _ md;have t3:=nO _ mq;rw[rJ ma mc md,rJ mb mc md,rJ mc mp mq,rJ md mp mq,rJ ma mp mq,rJ mb mp mq];generalize rk [a,b,c,d,p,q] a=a' at *;generalize rk [a,b,c,d,p,q] b=b' at *;generalize rk [a,b,c,d,p,q] c=c' at *;generalize rk [a,b,c,d,p,q] d=d' at *;generalize rk [a,b,c,d,p,q] p=p' at *;generalize rk [a,b,c,d,p,q] q=q' at *;simp only[Lg];exact L9 _ t1 _ k1 _ t2 _ k2 _ t3 _ k3
theorem Y9:∀i<13,∀j<13,(CH i j).testBit 6=true->j=12-i:=by decide +kernel
theorem CW{s:Int×Int}(h:IC s):Bf s s=6:=by obtain⟨a,b⟩:=s;have h:a<b:=h;unfold Bf vB;simp[h,Int.ne_of_gt h,show ¬b<a by omega];rfl
theorem vK{s o:Int×Int}(h1:IC s)(h2:IC o):Bf o s=12-Bf s o:=by have:=BW h1 h2 h1;rw[CW h1]at this;exact Y9 _ (XD h1 h2) _ (XD h2 h1) this
noncomputable def CL(f:Nat->Nat)(xs:List Nat)(a:Nat):Nat:=xs.foldl (fun acc x=>acc|||f x) a
theorem LX(f:Nat->Nat)(k:Nat):∀(xs:List Nat)(a:Nat),(CL f xs a).testBit k=(a.testBit k || xs.any fun x=>(f x).testBit k)
 | [],a=>by simp[CL]
 | x::xs,a=>by have:=LX f k xs (a|||f x);unfold CL at this ⊢;rw[foldl_cons,this];simp[Nat.testBit_or,Bool.or_assoc]
theorem DY(f:Nat->Nat):∀(xs:List Nat)(a:Nat),a<8192->(∀x∈xs,f x<8192)->CL f xs a<8192
 | [],a,ha,_=>ha
 | x::xs,a,ha,h=>by unfold CL;rw[foldl_cons];exact DY f xs (a|||f x) (Nat.or_lt_two_pow (n:=13) ha (h x (by simp))) fun y hy=>h y (by simp[hy])
def DI(a b:Nat):Nat:=(HA a).foldl (fun acc i=>CL (CH i) (HA b) acc) 0
theorem mV(b k:Nat):∀(xs:List Nat)(a:Nat),(xs.foldl (fun acc i=>CL (CH i) (HA b) acc) a).testBit k=(a.testBit k || xs.any fun i=>(HA b).any fun j=>(CH i j).testBit k)
 | [],a=>by simp
 | x::xs,a=>by rw[foldl_cons,mV b k xs,LX];simp[Bool.or_assoc]
theorem nJ(a b k:Nat):(DI a b).testBit k=true↔∃i j,i<13/\a.testBit i=true/\j<13/\b.testBit j=true/\(CH i j).testBit k=true:=by
 unfold DI;rw[mV];simp only[Nat.zero_testBit,Bool.false_or,any_eq_true,Df];constructor
 · rintro⟨i,⟨h1,h2⟩,j,⟨h3,h4⟩,h5⟩;exact⟨i,j,h1,h2,h3,h4,h5⟩
 · rintro⟨i,j,h1,h2,h3,h4,h5⟩;exact⟨i,⟨h1,h2⟩,j,⟨h3,h4⟩,h5⟩
theorem WV(b:Nat):∀(xs:List Nat)(a:Nat),a<8192->(∀i∈xs,i<13)->xs.foldl (fun acc i=>CL (CH i) (HA b) acc) a<8192
 | [],a,ha,_=>ha
 | x::xs,a,ha,h=>by rw[foldl_cons];exact WV b xs _ (DY _ _ _ ha fun j hj=>(Gz x (h x (by simp)) j (Df.mp hj).1).2) fun y hy=>h y (by simp[hy])
theorem Mz(a b:Nat):DI a b<8192:=WV b _ 0 (by decide) fun i hi=>(Df.mp hi).1
theorem vW{a b:Bool}(h:a=true↔b=true):a=b:=by cases a<;>cases b<;>simp_all
theorem Xv{a b:Nat}(ha:a<8192)(hb:b<8192)(h:∀k<13,a.testBit k=true↔b.testBit k=true):a=b:=eI ha hb fun k hk=>vW (h k hk)
theorem R9(a b:Nat):DI (Cd b) (Cd a)=Cd (DI a b):=by
 refine Xv (Mz _ _) (qJ _) fun k hk=>?_
 rw[qE _ hk,nJ,nJ];constructor
 · rintro⟨i,j,h1,h2,h3,h4,h5⟩;rw[qE _ h1]at h2;rw[qE _ h3]at h4;refine⟨12-j,12-i,by omega,h4,by omega,h2,?_⟩;have:=XX i h1 j h3 k hk;rw[this];exact h5
 · rintro⟨i,j,h1,h2,h3,h4,h5⟩;refine⟨12-j,12-i,by omega,?_,by omega,?_,?_⟩
   · rw[qE _ (by omega),show 12-(12-j)=j by omega];exact h4
   · rw[qE _ (by omega),show 12-(12-i)=i by omega];exact h2
   · have:=XX i h1 j h3 (12-k) (by omega);rw[show 12-(12-k)=k by omega]at this;rw[this];exact h5
theorem Gx{i:Nat}(hi:i<13)(b acc:Nat)(x y z:Option Dt)(h:HI):∃z',kM [x,y,some (.lst ((HA b).map fun(k:Nat)=>Dt.int (k:Int))),some (.int acc),some (.int i),z] h=some (.nx [x,y,some (.lst ((HA b).map fun(k:Nat)=>Dt.int (k:Int))),some (.int (CL (CH i) (HA b) acc)),some (.int i),z'] h):=by
 obtain⟨l',h',e,⟨z',rfl⟩,rfl⟩:=kN (i:=5) (body:=sP) (fun(k:Nat)=>Dt.int (k:Int)) (fun(a:Nat) l h'=>(∃z',l=[x,y,some (.lst ((HA b).map fun(k:Nat)=>Dt.int (k:Int))),some (.int a),some (.int i),z'])/\h'=h) (fun a j=>a|||CH i j) (HA b) (by
  rintro j hj a l h ⟨⟨z',rfl⟩,rfl⟩;obtain⟨r,e1,e2⟩:=Qg hi (Df.mp hj).1;refine⟨.nx [x,y,some (.lst ((HA b).map fun(k:Nat)=>Dt.int (k:Int))),some (.int ((a|||CH i j:Nat):Int)),some (.int i),some (.int j)] h,?_,⟨_,rfl⟩,rfl⟩;simp[sP,e1,e2,aY]) acc [x,y,some (.lst ((HA b).map fun(k:Nat)=>Dt.int (k:Int))),some (.int acc),some (.int i),z] h ⟨⟨z,rfl⟩,rfl⟩
 refine⟨z',?_⟩;simp[kM,e];rfl
theorem l3(a b:Nat)(h:HI):pM [.int a,.int b] h=some (.int (DI a b),h):=by
 obtain⟨l',h',e,⟨z,w,rfl⟩,rfl⟩:=kN (i:=4) (body:=kM) (fun(k:Nat)=>Dt.int (k:Int)) (fun(c:Nat) l h'=>(∃z w,l=[some (.int a),some (.int b),some (.lst ((HA b).map fun(k:Nat)=>Dt.int (k:Int))),some (.int c),z,w])/\h'=h) (fun acc i=>CL (CH i) (HA b) acc) (HA a) (by
  rintro i hi c l h ⟨⟨z,w,rfl⟩,rfl⟩;obtain⟨z',e⟩:=Gx (Df.mp hi).1 b c (some (.int a)) (some (.int b)) w h;exact⟨_,e,⟨_,_,rfl⟩,rfl⟩) 0 [some (.int a),some (.int b),some (.lst ((HA b).map fun(k:Nat)=>Dt.int (k:Int))),some (.int 0),none,none] h ⟨⟨none,none,rfl⟩,rfl⟩
 simp[pM,MP,DK,e];rfl
noncomputable def NC(c:Nat)(g:Nat->Nat):List Dt:=(List.range c).map fun(j:Nat)=>Dt.int (g j:Nat)
noncomputable def wF(b c:Nat):List Dt:=(List.range c).map fun(k:Nat)=>Dt.ref (b+k)
structure Xr(h:HI)(b c:Nat)(f:Nat->Nat->Nat):Prop where
 row:∀i<c,h[b+i]?=some (.lst (NC c (f i)))
 top:h[b+c]?=some (.lst (wF b c))
def RC(b c:Nat)(f:Nat->Nat->Nat):HI:=((List.range c).map fun i=>Ob.lst (NC c (f i)))++[.lst (wF b c)]
theorem Xr.lt{h:HI}{b c:Nat}{f:Nat->Nat->Nat}(N:Xr h b c f):b+c<h.length:=(zed N.top).1
theorem Xr.grow{h:HI}{b c:Nat}{f:Nat->Nat->Nat}(N:Xr h b c f)(e:HI):Xr (h++e) b c f:=by have:=N.lt;exact⟨fun i hi=>by rw[zee (by omega)];exact N.row i hi,by rw[zee (by omega)];exact N.top⟩
theorem OF(h:HI)(c:Nat)(f:Nat->Nat->Nat):Xr (h++RC h.length c f) h.length c f:=by
 constructor
 · intro i hi;rw[zeh (by omega)];unfold RC;rw[zee (by simp;omega)];simp[hi]
 · rw[zeh (by omega)];unfold RC;rw[zeh (by simp)];simp
theorem uN(c:Nat)(g:Nat->Nat):(NC c g).length=c:=by simp[NC]
theorem ON(b c:Nat):(wF b c).length=c:=by simp[wF]
theorem TK{c j:Nat}(hj:j<c)(g:Nat->Nat):(NC c g)[j]?=some (.int (g j:Nat)):=by simp[NC,hj]
theorem MN{b c j:Nat}(hj:j<c):(wF b c)[j]?=some (.ref (b+j)):=by simp[wF,hj]
theorem K5{c:Nat}{g g':Nat->Nat}(e:∀j<c,g j=g' j):NC c g=NC c g':=map_congr_left fun j hj=>by rw[e j (mem_range.mp hj)]
theorem zj{c j:Nat}(g:Nat->Nat)(v:Nat):(NC c g).set j (.int (v:Nat))=NC c (fun x=>if x=j then v else g x):=by
 apply ext_getElem?;intro k;rw[getElem?_set];simp only[NC,length_map,length_range,getElem?_map];by_cases hk:k<c
 · rw[getElem?_range hk];by_cases hj:j=k
   · subst hj;simp[hk]
   · have:¬k=j:=fun z=>hj z.symm
     simp[hj,this]
 · rw[getElem?_eq_none (by simpa using hk)];split
   · have:¬j<c:=by omega
     simp[this]
   · rfl
theorem Xr.congr{h:HI}{b c:Nat}{f g:Nat->Nat->Nat}(N:Xr h b c f)(e:∀i<c,∀j<c,f i j=g i j):Xr h b c g:=
 ⟨fun i hi=>by rw[<- K5 (e i hi)];exact N.row i hi,N.top⟩
noncomputable def wB(f:Nat->Nat->Nat)(i j v:Nat):Nat->Nat->Nat:=fun a b=>if a=i then(if b=j then v else f a b)else f a b
theorem Xr.other{h:HI}{b c:Nat}{f:Nat->Nat->Nat}(N:Xr h b c f){n:Nat}(hn:n<b\/b+c<n)(o:Ob):Xr (h.set n o) b c f:=
 ⟨fun i hi=>by rw[getElem?_set_ne (by omega)];exact N.row i hi,by rw[getElem?_set_ne (by omega)];exact N.top⟩
theorem Xr.ix{h:HI}{b c:Nat}{f:Nat->Nat->Nat}(N:Xr h b c f){i:Nat}(hi:i<c):uA (.ref (b+c)) (.int (i:Nat)) h=some (.ref (b+i),h):=by rw[fF N.top,SM.CC,MN hi];rfl
theorem Xr.jl{h:HI}{b c:Nat}{f:Nat->Nat->Nat}(N:Xr h b c f){i j:Nat}(hi:i<c)(hj:j<c):uA (.ref (b+i)) (.int (j:Nat)) h=some (.int (f i j:Nat),h):=by rw[fF (N.row i hi),SM.CC,TK hj];rfl
theorem Xr.len{h:HI}{b c:Nat}{f:Nat->Nat->Nat}(N:Xr h b c f):sC (.ref (b+c)) h=some (.int (c:Nat),h):=by rw[vJ N.top,ON]
theorem Xr.seq{h:HI}{b c:Nat}{f:Nat->Nat->Nat}(N:Xr h b c f):NI (.ref (b+c),h)=some (.rf (b+c),h):=yF N.top
theorem Xr.len1{h:HI}{b c:Nat}{f:Nat->Nat->Nat}(N:Xr h b c f){i:Nat}(hi:i<c):sC (.ref (b+i)) h=some (.int (c:Nat),h):=by rw[vJ (N.row i hi),uN]
theorem Y6{i n:Nat}{xs:List Dt}:∀(l:LI)(h:HI)(b:Dt)(h':HI),MC OE (eV i) l h=some (b,h')->h[n]?=some (.lst xs)->h'[n]?=some (.lst xs):=by
 intro l h b h' e q;have hn:=(zed q).1;rw[vC,pA]at e;cases z:l[i]? with
 | none=>rw[z]at e;simp[QH]at e
 | some o=>
  rw[z]at e;cases o with
  | none=>simp[QH]at e
  | some d=>
   simp only[qA,lA,OE]at e;cases y:zD h d with
   | none=>rw[y]at e;cases e
   | some ys=>rw[y]at e;simp only[zd9,Option.some.injEq,Prod.mk.injEq]at e;obtain⟨_,rfl⟩:=e;rw[zee hn];exact q
theorem OV{n:Nat}{xs:List Dt}:∀(l:LI)(h:HI)(b:Bool)(h':HI),QB l h=some (b,h')->h[n]?=some (.lst xs)->h'[n]?=some (.lst xs):=by intro l h b h' e q;simp only[WN,Option.some.injEq,Prod.mk.injEq]at e;rw[<- e.2];exact q
theorem ZV{te:RE}(ht:te=MC OE (eV 0)){h:HI}{b c:Nat}{f:Nat->Nat->Nat}(N:Xr h b c f)(hc:c<=1000)(l:LI)(hl:0<l.length):ZD (AA 0) QB te l (.rf (b+c),h)=some (wF h.length c,h++(List.range c).map fun i=>Ob.lst (NC c (f i))):=by
 subst ht;rw[NR N.top (by rw[ON];simp;omega) OV Y6];have:=fR (te:=MC OE (eV 0)) (i:=0) (fun(k:Nat)=>Dt.ref (b+k)) (fun i=>Ob.lst (NC c (f i))) h (List.range c) l [] (by
  intro k hk e;have hk:=mem_range.mp hk;have q:=(N.grow e).row k hk;rw[vC,pA,getElem?_set_self hl,qA,lA];simp only[OE,zD,FB,q,zd9])
 rw[zei,length_range]at this;exact this
theorem qW{α:Type}{F:Dt->Option Dt}(D E:α->Dt):∀(xs:List α),(∀x∈xs,F (D x)=some (E x))->xD F (xs.map D)=some (xs.map E)
 | [],_=>rfl
 | x::xs,H=>by simp only[zd5,xD,H x (by simp),zea,qW D E xs fun y hy=>H y (by simp[hy]),zd9]
noncomputable def kB(i j:Nat):Nat:=if i=j then 64 else 8191
theorem iV(b c:Nat)(f:Nat->Nat->Nat):(RC b c f).length=c+1:=by simp[RC]
theorem jV(h:HI){c i:Nat}(hi:i<c)(f:Nat->Nat->Nat)(j v:Nat):(h++RC h.length c f).set (h.length+i) (.lst ((NC c (f i)).set j (.int (v:Nat))))=h++RC h.length c (wB f i j v):=by
 rw[set_append_right _ _ (by omega),Nat.add_sub_cancel_left]
 congr 1
 unfold RC;rw[set_append_left _ _ (by simpa using hi)]
 congr 1
 apply ext_getElem?;intro k;rw[getElem?_set];simp only[length_map,length_range,getElem?_map];by_cases hk:k<c
 · rw[getElem?_range hk];by_cases e:i=k
   · subst e;have:(fun x=>if x=j then v else f i x)=wB f i j v i:=by funext x;simp[wB]
     simp[hi,zj,this]
   · have:¬k=i:=by omega
     have q:wB f i j v k=f k:=by funext x;simp[wB,this]
     simp[e,q]
 · rw[getElem?_eq_none (by simpa using hk)];have:¬i=k:=by omega
   simp[this]
theorem Mv(f:Nat->Nat->Nat)(i j v:Nat):wB f i j v i j=v:=by simp[wB]
def gB(f:Nat->Nat->Nat)(i m j:Nat):Nat->Nat->Nat:=wB (wB f i j (f i j&&&m)) j i (Cd (f i j&&&m))
theorem yK{h:HI}{b c:Nat}{f:Nat->Nat->Nat}(N:Xr h b c f)(hc:c<=1000){i j:Nat}(hi:i<c)(hj:j<c)(m:Nat) :
 nH [.ref (b+c),.int (i:Nat),.int (m:Nat),.int (j:Nat)] h=some (.ref (h.length+c),h++RC h.length c (gB f i m j)):=by
 have e1:=ZV (te:=PU) rfl N hc [none] (by simp);have N1:=N.grow (RC h.length c f);have M1:=OF h c f;have M2:=OF h c (wB f i j (f i j&&&m));have p1:=jV h hi f j (f i j&&&m);have p2:=jV h hj (wB f i j (f i j&&&m)) i (Cd (f i j&&&m));have t1:=f9 (f i j&&&m) (h++RC h.length c (wB f i j (f i j&&&m)));have r1:=fun(l:LI)=>JN (l:=l) (v:=.int ((f i j&&&m:Nat):Nat)) (M1.row i hi) (show j<(NC c (f i)).length by rw[uN];exact hj)
 have r2:=fun(l:LI)=>JN (l:=l) (v:=.int ((Cd (f i j&&&m):Nat):Nat)) (M2.row j hj) (show i<(NC c (wB f i j (f i j&&&m) j)).length by rw[uN];exact hi)
 have x2:=M2.jl hi hj;rw[Mv]at x2;have en:(h++(List.range c).map fun i=>Ob.lst (NC c (f i)))++[Ob.lst (wF h.length c)]=h++RC h.length c f:=by rw[append_assoc];rfl
 have el:(h++(List.range c).map fun i=>Ob.lst (NC c (f i))).length=h.length+c:=by simp
 simp only[nH,TQ,sB,XA,fB,WR,SD,pA,zd5,zd6,zec,zeb,zd3,zd4,zd1,zd2,qA,lA,N.seq,xF,zF,e1,en,el,YA,if_true,Nat.reduceSub,Nat.reduceAdd,List.replicate,zd8,zd7,TX,CA,N1.ix hi,N1.jl hi hj,M1.ix hi,kL,zN,r1,p1,aB,UA,NA,M2.ix hi,x2,zei,t1,M2.ix hj,r2,p2,CB,MB];rfl
theorem Ck(c:Nat)(g:Nat->Nat)(z:Nat){h:HI}{n:Nat}(e:h[n]?=some (.lst (NC c g))):gH false (.int (z:Nat)) (.ref n) h=some (.bl ((List.range c).any fun j=>g j==z),h):=by
 have f1:∀xs:List Nat,yE (xs.map fun(j:Nat)=>Dt.int (g j:Nat))=some (xs.map fun(j:Nat)=>V.int (g j:Nat)):=by
  intro xs
  induction xs with
  | nil=>rfl
  | cons x xs ih=>simp[yE,ED,ih]
 have f2:zL (V.int (z:Nat)) ((List.range c).map fun(j:Nat)=>V.int (g j:Nat))=(List.range c).any fun j=>g j==z:=by
  unfold zL;rw[any_map]
  congr 1
  funext j
  simp only[Function.comp];unfold KJ;by_cases q:g j=z
  · simp[q]
  · have:(g j:Int)≠(z:Int):=by omega
    show((g j:Int)==(z:Int))=(g j==z);rw[beq_eq_false_iff_ne.mpr this,beq_eq_false_iff_ne.mpr q]
 simp only[gH,ED,zD,FB,e,zea,NC,f1,f2];simp
noncomputable def aC(c:Nat)(f:Nat->Nat->Nat):Bool:=(List.range c).any fun i=>(List.range c).any fun j=>f i j==0
theorem zq{n:Nat}{xs:List Dt}(a:Dt)(i:Nat):∀(l:LI)(h:HI)(b:Dt)(h':HI),e2 (gH false) (eC a) (eV i) l h=some (b,h')->h[n]?=some (.lst xs)->h'[n]?=some (.lst xs):=by
 intro l h b h' e q;rw[CA,EA,lA,pA]at e;cases z:l[i]? with
 | none=>rw[z]at e;simp[QH]at e
 | some o=>
  rw[z]at e;cases o with
  | none=>simp[QH]at e
  | some d=>
   simp only[qA,lA,gH]at e;cases z1:ED a with
   | none=>rw[z1]at e;cases e
   | some a1=>
    rw[z1]at e;cases z2:zD h d with
    | none=>rw[z2]at e;cases e
    | some a2=>
     rw[z2]at e;cases z3:yE a2 with
     | none=>simp[z3]at e
     | some a3=>simp only[zea,z3,Option.some.injEq,Prod.mk.injEq]at e;rw[<- e.2];exact q
theorem T9{te:RE}(ht:te=e2 (gH false) (eC (.int 0)) (eV 0)){h:HI}{b c:Nat}{f:Nat->Nat->Nat}(N:Xr h b c f)(hc:c<=1000):ZD (AA 0) QB te [none] (.rf (b+c),h)=some (((List.range c).map fun i=>(List.range c).any fun j=>f i j==0).map Dt.bl,h):=by
 subst ht;rw[NR N.top (by rw[ON];simp;omega) OV (zq _ _)];have:=mH (te:=e2 (gH false) (eC (.int 0)) (eV 0)) (tc:=QB) (i:=0) (fun(k:Nat)=>Dt.ref (b+k)) (fun i=>Dt.bl ((List.range c).any fun j=>f i j==0)) h (List.range c) [none] (by
  intro k hk;have:=Ck c (f k) 0 (N.row k (mem_range.mp hk));simp only[Int.ofNat_eq_natCast,Int.cast_ofNat_Int]at this;exact⟨rfl,by simp[this]⟩)
 rw[wF,this];simp[map_map]
theorem B6{h:HI}{b c:Nat}{f:Nat->Nat->Nat}(N:Xr h b c f)(hc:c<=1000):QM [.ref (b+c)] h=some (.bl (aC c f),h):=by have e:=T9 (te:=OU) rfl N hc;have a:=Xg (h:=h) ((List.range c).map fun i=>(List.range c).any fun j=>f i j==0);simp only[QM,SQ,sB,CB,vC,GG,SD,pA,zd5,zd6,zec,zeb,zd3,zd4,zd1,qA,lA,N.seq,xF,zF,e,a,if_true,MB,Nat.reduceAdd];simp[aC,any_map]
noncomputable def sA(p:Nat×Nat):Dt:=.tup [.int (p.1:Nat),.int (p.2:Nat)]
noncomputable def TC(c:Nat)(n:Nat):List (Nat×Nat):=(List.range n).flatMap fun i=>(List.range (c-i-1)).map fun k=>(i,i+1+k)
def BA(c:Nat):List (Nat×Nat):=TC c c
theorem Hf{c:Nat}{p:Nat×Nat}:p∈BA c↔p.1<p.2/\p.2<c:=by
 obtain⟨i,j⟩:=p;unfold BA TC;simp only[mem_flatMap,mem_range,mem_map,Prod.mk.injEq];constructor
 · rintro⟨a,ha,k,hk,rfl,rfl⟩;omega
 · rintro⟨h1,h2⟩;exact⟨i,by omega,j-i-1,by omega,rfl,by omega⟩
theorem jJ(c n:Nat):(TC c n).length<=n*c:=by
 induction n with
 | zero=>simp[TC]
 | succ n ih=>
  have:TC c (n+1)=TC c n++(List.range (c-n-1)).map fun k=>(n,n+1+k):=by unfold TC;rw[range_succ,flatMap_append];simp
  rw[this,length_append,length_map,length_range,Nat.succ_mul];omega
theorem VM{c:Nat}(hc:c<=1000)(h:HI):oH [.int (c:Nat)] h=some (.ref h.length,h++[.lst ((BA c).map sA)]):=by
 have er:=AF (h:=h++[.lst []]) (show(-(2^62):Int)<=(c:Int) by omega) (show(c:Int)<2^62 by omega);simp only[Int.toNat_natCast]at er;have hcc:c*c<=1000*1000:=Nat.mul_le_mul hc hc;obtain⟨l',h',e,⟨y,z,rfl⟩,rfl⟩:=uK (i:=2) (body:=gQ) (fun(k:Nat)=>Dt.int (k:Int)) (fun(n:Nat) l h'=>(∃y z,l=[some (.int (c:Nat)),some (.ref h.length),y,z])/\h'=h++[.lst ((TC c n).map sA)]) c (by
  rintro n hn l h1 ⟨⟨y,z,rfl⟩,rfl⟩;have hl:=jJ c n;have hnc:n*c<=c*c:=Nat.mul_le_mul_right _ (by omega);obtain⟨l',h',e,⟨y,rfl⟩,rfl⟩:=uK (i:=3) (body:=lQ) (fun(k:Nat)=>Dt.int ((n:Int)+1+(k:Int))) (fun(m:Nat) l h'=>(∃y,l=[some (.int (c:Nat)),some (.ref h.length),some (.int (n:Nat)),y])/\h'=h++[.lst ((TC c n++(List.range m).map fun k=>(n,n+1+k)).map sA)]) (c-n-1) (by
   rintro m hm l h1 ⟨⟨y,rfl⟩,rfl⟩;refine⟨.nx [some (.int (c:Nat)),some (.ref h.length),some (.int (n:Nat)),some (.int ((n:Int)+1+(m:Int)))] (h++[.lst ((TC c n++(List.range (m+1)).map fun k=>(n,n+1+k)).map sA)]),?_,⟨_,rfl⟩,rfl⟩;have ea:=fun(l:LI) (g:RE) (d:Dt) (eg:g l (h++[.lst ((TC c n++(List.range m).map fun k=>(n,n+1+k)).map sA)])=some (d,h++[.lst ((TC c n++(List.range m).map fun k=>(n,n+1+k)).map sA)]))=>DG (h:=h++[.lst ((TC c n++(List.range m).map fun k=>(n,n+1+k)).map sA)]) (l:=l) (n:=h.length) (ys:=(TC c n++(List.range m).map fun k=>(n,n+1+k)).map sA) (xs:=(TC c n++(List.range m).map fun k=>(n,n+1+k)).map sA) (by simp) eg (by simp) (by simp;omega)
   simp only[lQ,JE,RF,pA,zd7,zd8,zd1,zd2,qA,lA];rw[ea _ _ (sA (n,n+1+m))]
   · simp only[lA];rw[show ∀(o o':Ob),(h++[o]).set h.length o'=h++[o'] by simp];simp[range_succ]
   · simp[sA]) [some (.int (c:Nat)),some (.ref h.length),some (.int (n:Nat)),z] (h++[.lst ((TC c n).map sA)]) ⟨⟨z,rfl⟩,by simp⟩
  have er:=Tv (h:=h++[.lst ((TC c n).map sA)]) (i:=(n:Int)+1) (j:=(c:Int)) (by omega) (by omega) (by omega) (by omega);rw[show((c:Int)-((n:Int)+1)).toNat=c-n-1 by omega]at er;have ep:TC c (n+1)=TC c n++(List.range (c-n-1)).map fun k=>(n,n+1+k):=by unfold TC;rw[range_succ,flatMap_append];simp
  refine⟨.nx [some (.int (c:Nat)),some (.ref h.length),some (.int (n:Nat)),y] (h++[.lst ((TC c (n+1)).map sA)]),?_,⟨_,_,rfl⟩,rfl⟩
  · simp only[gQ,iE,zy,CA,pA,EA,zd7,zd8,zd1,zd2,qA,lA,bE,er,NF];rw[e,ep]) [some (.int (c:Nat)),some (.ref h.length),none,none] (h++[.lst []]) ⟨⟨none,none,rfl⟩,by simp[TC]⟩
 simp only[oH,UQ,sB,XA,fB,LG,NA,zd5,zd6,zec,zeb,zd3,zd4,if_true,lA,YA,Nat.reduceAdd,Nat.reduceSub,List.replicate,zd7,zd8,iE,lI,pA,zd1,zd2,qA,er,NF,qH,Nat.zero_le,e,CB,MB];rfl
theorem N9(m k:Nat):decide (Builtin.bitAnd ((m:Int)/2^k) 1=0)=!m.testBit k:=by
 have h1:=WS m k;have e:((m:Int)/2^k)=((m/2^k:Nat):Int):=by simp
 have h2:=zN (m/2^k) 1;rw[e]at h1 ⊢;simp only[Int.cast_ofNat_Int]at h2;rw[h2]at h1 ⊢;have:=Nat.and_one_is_mod (m/2^k);rw[<- h1];by_cases q:(m/2^k&&&1)=0
 · simp[q]
 · have q1:(m/2^k&&&1)=1:=by omega
   rw[q1];decide
structure SA(c:Nat)(f:Nat->Nat->Nat):Prop where
 lt:∀i<c,∀j<c,f i j<8192
 tn:∀i<c,∀j<c,f j i=Cd (f i j)
theorem ZN(c:Nat):SA c kB:=by
 constructor
 · intro i _ j _;unfold kB;split<;>decide
 · intro i _ j _;unfold kB;by_cases h:i=j
   · subst h;rw[if_pos rfl];decide +kernel
   · have:¬j=i:=fun z=>h z.symm
     rw[if_neg h,if_neg this];decide +kernel
theorem dG{c:Nat}{f:Nat->Nat->Nat}(o:SA c f){i j:Nat}(hi:i<c)(hj:j<c)(hij:i≠j)(m:Nat):SA c (gB f i m j):=by
 have hv:f i j&&&m<8192:=Nat.lt_of_le_of_lt Nat.and_le_left (o.lt i hi j hj);have hji:¬j=i:=fun z=>hij z.symm
 constructor
 · intro a ha b hb;unfold gB wB
   repeat' split
   all_goals first | exact qJ _ | exact hv | exact o.lt a ha b hb
 · intro a ha b hb;unfold gB wB;by_cases h1:a=i
   · subst h1;by_cases h2:b=j
     · subst h2;simp[hij,hji]
     · by_cases h3:b=a
       · subst h3;simp[hij,h2];exact o.tn _ ha _ hb
       · simp[h2,h3,hij];exact o.tn _ ha _ hb
   · by_cases h2:a=j
     · subst h2;by_cases h3:b=i
       · subst h3;simp[hij,hji,IR hv]
       · simp[h1,h3];exact o.tn _ ha _ hb
     · simp[h1,h2];exact o.tn _ ha _ hb
noncomputable def AD(i k j:Nat):Dt:=.tup [.int (i:Nat),.int (k:Nat),.int (j:Nat)]
def Ef(f:Nat->Nat->Nat)(i k j:Nat):Nat:=f i j&&&DI (f i k) (f k j)
theorem bW{h:HI}{b c:Nat}{f:Nat->Nat->Nat}(N:Xr h b c f){i k j:Nat}(hi:i<c)(hk:k<c)(hj:j<c):CK [.ref (b+c),AD i k j] h=some (.int (Ef f i k j:Nat),h):=by simp only[CK,oR,AD,sB,XA,fB,CA,pA,EA,zd5,zd6,zec,zeb,zd3,zd4,if_true,Nat.reduceAdd,Nat.reduceSub,List.replicate,zd1,zd2,qA,lA,HB,UB,YD,qI,zd9,N.ix hi,N.jl hi hk,N.ix hk,N.jl hk hj,N.jl hi hj,YA,zd7,zd8,CB,aB,UA,NA,zei,l3,kL,zN,MB];rfl
theorem g7{h:HI}{b c:Nat}{f:Nat->Nat->Nat}(N:Xr h b c f)(hc:c<=1000){i k j:Nat}(hi:i<c)(hk:k<c)(hj:j<c):mN [.ref (b+c),AD i k j] h=some (.ref (h.length+c),h++RC h.length c (gB f i (Ef f i k j) j)):=by have e1:=bW N hi hk hj;have e2:=yK N hc hi hj (Ef f i k j);unfold AD at e1 ⊢;simp only[mN,pR,sB,CA,pA,EA,zd5,zd6,zec,zeb,zd3,zd4,if_true,Nat.reduceAdd,Nat.reduceSub,List.replicate,zd1,zd2,qA,lA,HB,UB,YD,qI,zd9,CB,aB,UA,NA,zei,e1,e2,MB]
theorem WW(f:Nat->Nat->Nat)(i k j:Nat):f i j&&&Ef f i k j=Ef f i k j:=by unfold Ef;rw[<- Nat.and_assoc,Nat.and_self]
def BC(f:Nat->Nat->Nat)(i k j:Nat):Nat->Nat->Nat:=gB f i (Ef f i k j) j
theorem HG(f:Nat->Nat->Nat){i k j:Nat}(hij:i≠j):BC f i k j i j=Ef f i k j:=by unfold BC gB wB;simp[hij,WW]
theorem dS(f:Nat->Nat->Nat)(i k j:Nat):BC f i k j j i=Cd (Ef f i k j):=by unfold BC gB wB;simp[WW]
theorem BG(f:Nat->Nat->Nat){i k j a b:Nat}(h1:¬(a=i/\b=j))(h2:¬(a=j/\b=i)):BC f i k j a b=f a b:=by
 unfold BC gB wB;by_cases q1:a=j
 · subst q1;have:¬b=i:=fun z=>h2 ⟨rfl,z⟩
   by_cases q2:a=i
   · subst q2;simp[this]
   · simp[this,q2]
 · by_cases q2:a=i
   · subst q2;have:¬b=j:=fun z=>h1 ⟨rfl,z⟩
     simp[q1,this]
   · simp[q1,q2]
noncomputable def Nf(a b:Nat):Prop:=a&&&b=a
theorem Jf{a b:Nat}:Nf a b↔∀k,a.testBit k=true->b.testBit k=true:=by
 unfold Nf;constructor
 · intro h k hk;rw[<- h,Nat.testBit_and,Bool.and_eq_true]at hk;exact hk.2
 · intro h;apply Nat.eq_of_testBit_eq;intro k;rw[Nat.testBit_and];cases q:a.testBit k with
   | false=>rfl
   | true=>rw[h k q];rfl
theorem Nf.refl(a:Nat):Nf a a:=Nat.and_self a
theorem Nf.trans{a b c:Nat}(h1:Nf a b)(h2:Nf b c):Nf a c:=Jf.mpr fun k hk=>Jf.mp h2 k (Jf.mp h1 k hk)
theorem kH(a b:Nat):Nf (a&&&b) a:=Jf.mpr fun k hk=>by rw[Nat.testBit_and,Bool.and_eq_true]at hk;exact hk.1
theorem Lj{a b c:Nat}(h1:Nf a b)(h2:Nf a c):Nf a (b&&&c):=Jf.mpr fun k hk=>by rw[Nat.testBit_and,Jf.mp h1 k hk,Jf.mp h2 k hk];rfl
theorem Q9{a b a' b':Nat}(h1:Nf a a')(h2:Nf b b'):Nf (DI a b) (DI a' b'):=Jf.mpr fun k hk=>by obtain⟨i,j,q1,q2,q3,q4,q5⟩:=(nJ a b k).mp hk;exact(nJ a' b' k).mpr ⟨i,j,q1,Jf.mp h1 i q2,q3,Jf.mp h2 j q4,q5⟩
theorem SW(a b:Nat):Cd (a&&&b)=Cd a&&&Cd b:=by
 refine eI (qJ _) (Nat.lt_of_le_of_lt Nat.and_le_left (qJ a)) fun k hk=>?_
 rw[qE _ hk,Nat.testBit_and,Nat.testBit_and,qE _ hk,qE _ hk]
theorem Pj{a b:Nat}(ha:a<8192)(hb:b<8192)(h:Cd a=Cd b):a=b:=by rw[<- IR ha,h,IR hb]
theorem En:Cd 0=0:=by decide +kernel
theorem GR{a b:Nat}(h:Nf a b):Nf (Cd a) (Cd b):=by unfold Nf at h ⊢;rw[<- SW,h]
theorem EX{c:Nat}{f:Nat->Nat->Nat}(o:SA c f){i k j:Nat}(hi:i<c)(hj:j<c):Ef f i k j<8192:=Nat.lt_of_le_of_lt Nat.and_le_left (o.lt i hi j hj)
theorem C9{c:Nat}{f:Nat->Nat->Nat}(o:SA c f){i k j:Nat}(hi:i<c)(hk:k<c)(hj:j<c):Ef f j k i=Cd (Ef f i k j):=by unfold Ef;rw[o.tn i hi j hj,o.tn k hk j hj,o.tn i hi k hk,R9,SW]
theorem BS{c:Nat}{f:Nat->Nat->Nat}(o:SA c f){i k j:Nat}(hi:i<c)(hk:k<c)(hj:j<c)(h:Ef f j k i≠f j i):Ef f i k j≠f i j:=by intro e;apply h;rw[C9 o hi hk hj,e,<- o.tn i hi j hj]
theorem mX{c:Nat}{f:Nat->Nat->Nat}(o:SA c f){i k j:Nat}(hi:i<c)(hj:j<c)(hij:i≠j):SA c (BC f i k j):=dG o hi hj hij _
noncomputable def CD(W:List (Nat×Nat))(i k j:Nat):Prop:=(i,k)∈W\/(k,i)∈W\/(k,j)∈W\/(j,k)∈W
noncomputable def uG(i k j:Nat):Prop:=i≠k/\k≠j/\i≠j
def tD(c:Nat)(f:Nat->Nat->Nat)(W:List (Nat×Nat))(R:List (Nat×Nat×Nat)):Prop:=
 ∀i<c,∀k<c,∀j<c,uG i k j->Ef f i k j≠f i j->CD W i k j\/(i,k,j)∈R\/(j,k,i)∈R
noncomputable def PF(a b c:Nat):List (Nat×Nat×Nat):=(List.range c).flatMap fun o=>if o=a\/o=b then []else [(a,b,o),(b,a,o)]
theorem Od{a b c:Nat}{t:Nat×Nat×Nat}:t∈PF a b c↔∃o,o<c/\o≠a/\o≠b/\(t=(a,b,o)\/t=(b,a,o)):=by
 unfold PF;simp only[mem_flatMap,mem_range];constructor
 · rintro⟨o,ho,h⟩;by_cases q:o=a\/o=b
   · rw[if_pos q]at h;cases h
   · rw[if_neg q]at h;simp only[mem_cons,not_mem_nil,or_false]at h;exact⟨o,ho,fun z=>q (.inl z),fun z=>q (.inr z),h⟩
 · rintro⟨o,ho,h1,h2,h⟩;refine⟨o,ho,?_⟩;rw[if_neg (by rintro(z | z);exact h1 z;exact h2 z)];simpa using h
theorem G9{c:Nat}{f:Nat->Nat->Nat}{a b:Nat}{W:List (Nat×Nat)}(h:tD c f ((a,b)::W) []):tD c f W (PF a b c):=by
 intro i hi k hk j hj d n;obtain⟨d1,d2,d3⟩:=d;rcases h i hi k hk j hj ⟨d1,d2,d3⟩ n with h | h | h
 · unfold CD at h ⊢;simp only[mem_cons,Prod.mk.injEq]at h;rcases h with(⟨rfl,rfl⟩ | h) | (⟨rfl,rfl⟩ | h) | (⟨rfl,rfl⟩ | h) | (⟨rfl,rfl⟩ | h)
   · exact .inr (.inl (Od.mpr ⟨j,hj,Ne.symm d3,Ne.symm d2,.inl rfl⟩))
   · exact .inl (.inl h)
   · exact .inr (.inl (Od.mpr ⟨j,hj,Ne.symm d2,Ne.symm d3,.inr rfl⟩))
   · exact .inl (.inr (.inl h))
   · exact .inr (.inr (Od.mpr ⟨i,hi,d1,d3,.inr rfl⟩))
   · exact .inl (.inr (.inr (.inl h)))
   · exact .inr (.inr (Od.mpr ⟨i,hi,d3,d1,.inl rfl⟩))
   · exact .inl (.inr (.inr (.inr h)))
 · cases h
 · cases h
theorem B7{c:Nat}{f:Nat->Nat->Nat}(o:SA c f){x y z:Nat}(hx:x<c)(hy:y<c)(hz:z<c){W:List (Nat×Nat)}{R:List (Nat×Nat×Nat)}(h:tD c f W ((x,y,z)::R))(n:Ef f x y z=f x z):tD c f W R:=by
 intro i hi k hk j hj d m;rcases h i hi k hk j hj d m with h | h | h
 · exact .inl h
 · rcases mem_cons.mp h with h | h
   · cases h;exact absurd n m
   · exact .inr (.inl h)
 · rcases mem_cons.mp h with h | h
   · cases h;exact absurd n (BS o hx hy hz m)
   · exact .inr (.inr h)
theorem sW{a b e:Nat}(h:Nf a b)(q:b&&&e=b):a&&&e=a:=Nf.trans h q
theorem C7{c:Nat}{f:Nat->Nat->Nat}(o:SA c f){x y z:Nat}(hx:x<c)(hy:y<c)(hz:z<c)(dd:uG x y z){W:List (Nat×Nat)}{R:List (Nat×Nat×Nat)}(h:tD c f W ((x,y,z)::R)):tD c (BC f x y z) (W++[(x,z)]) R:=by
 obtain⟨d1,d2,d3⟩:=dd;have o':=mX (k:=y) o hx hz d3;have main:∀i<c,∀k<c,∀j<c,uG i k j->¬(i=z/\j=x)->Ef (BC f x y z) i k j≠BC f x y z i j->CD (W++[(x,z)]) i k j\/(i,k,j)∈R\/(j,k,i)∈R:=by
  intro i hi k hk j hj d nz m;obtain⟨e1,e2,e3⟩:=d;have grow:∀{i k j},CD W i k j->CD (W++[(x,z)]) i k j:=by
   intro i k j q;unfold CD at q ⊢;simp only[mem_append];rcases q with q | q | q | q
   · exact .inl (.inl q)
   · exact .inr (.inl (.inl q))
   · exact .inr (.inr (.inl (.inl q)))
   · exact .inr (.inr (.inr (.inl q)))
  by_cases ht:i=x/\j=z
  · obtain⟨rfl,rfl⟩:=ht;have l1:BC f i y j i k=f i k:=BG f (fun q=>e2 q.2) (fun q=>e1 q.2.symm);have l2:BC f i y j k j=f k j:=BG f (fun q=>e1 q.1.symm) (fun q=>e2 q.1);have lf:Ef (BC f i y j) i k j=Ef f i y j&&&DI (f i k) (f k j):=by unfold Ef;rw[l1,l2,HG f e3];rfl
    by_cases ky:k=y
    · subst ky;exfalso;apply m;rw[lf,HG f e3];unfold Ef;rw[Nat.and_assoc,Nat.and_self]
    · have n:Ef f i k j≠f i j:=by intro q;apply m;rw[lf,HG f e3];exact sW (kH (f i j) _) q
      rcases h i hi k hk j hj ⟨e1,e2,e3⟩ n with q | q | q
      · exact .inl (grow q)
      · rcases mem_cons.mp q with q | q
        · cases q;exact absurd rfl ky
        · exact .inr (.inl q)
      · rcases mem_cons.mp q with q | q
        · simp only[Prod.mk.injEq]at q;exact absurd q.1.symm e3
        · exact .inr (.inr q)
  · by_cases Kl:CD [(x,z)] i k j
    · refine .inl ?_;unfold CD at Kl ⊢;simp only[mem_append];rcases Kl with q | q | q | q
      · exact .inl (.inr q)
      · exact .inr (.inl (.inr q))
      · exact .inr (.inr (.inl (.inr q)))
      · exact .inr (.inr (.inr (.inr q)))
    · unfold CD at Kl;simp only[mem_cons,not_mem_nil,or_false,Prod.mk.injEq,not_or]at Kl;obtain⟨g1,g2,g3,g4⟩:=Kl;have l0:BC f x y z i j=f i j:=BG f (fun q=>ht q) (fun q=>nz q);have l1:BC f x y z i k=f i k:=BG f (fun q=>g1 q) (fun q=>g2 ⟨q.2,q.1⟩);have l2:BC f x y z k j=f k j:=BG f (fun q=>g3 q) (fun q=>g4 ⟨q.2,q.1⟩);have n:Ef f i k j≠f i j:=by unfold Ef at m ⊢;rw[l0,l1,l2]at m;exact m
      rcases h i hi k hk j hj ⟨e1,e2,e3⟩ n with q | q | q
      · exact .inl (grow q)
      · rcases mem_cons.mp q with q | q
        · simp only[Prod.mk.injEq]at q;exact absurd ⟨q.1,q.2.2⟩ ht
        · exact .inr (.inl q)
      · rcases mem_cons.mp q with q | q
        · simp only[Prod.mk.injEq]at q;exact absurd ⟨q.2.2,q.1⟩ nz
        · exact .inr (.inr q)
 intro i hi k hk j hj d m;by_cases nz:i=z/\j=x
 · obtain⟨e1,e2,e3⟩:=d;have m':=BS o' hj hk hi m;rcases main j hj k hk i hi ⟨Ne.symm e2,Ne.symm e1,Ne.symm e3⟩ (fun q=>e3 (by omega)) m' with q | q | q
   · refine .inl ?_;unfold CD at q ⊢;rcases q with q | q | q | q
     · exact .inr (.inr (.inr q))
     · exact .inr (.inr (.inl q))
     · exact .inr (.inl q)
     · exact .inl q
   · exact .inr (.inr q)
   · exact .inr (.inl q)
 · exact main i hi k hk j hj d nz m
def aF(c:Nat)(f:Nat->Nat->Nat):Prop:=∀i<c,∀k<c,∀j<c,uG i k j->Ef f i k j=f i j
theorem g5{c:Nat}{f:Nat->Nat->Nat}(h:tD c f [] []):aF c f:=by
 intro i hi k hk j hj d;apply Classical.byContradiction;intro n;rcases h i hi k hk j hj d n with q | q | q
 · unfold CD at q;simp at q
 · cases q
 · cases q
theorem JR(c:Nat)(f:Nat->Nat->Nat):tD c f (BA c) []:=by
 intro i hi k hk j hj d _;refine .inl ?_;unfold CD;obtain⟨d1,_,_⟩:=d;rcases Nat.lt_or_gt_of_ne d1 with h | h
 · exact .inl (Hf.mpr ⟨h,hk⟩)
 · exact .inr (.inl (Hf.mpr ⟨h,hi⟩))
def TH(m:Nat):Nat:=(HA m).length
theorem XQ{α:Type}{p q:α->Bool}:∀(xs:List α),(∀x∈xs,p x=true->q x=true)->(xs.filter p).length<=(xs.filter q).length
 | [],_=>by simp
 | x::xs,H=>by
  have ih:=XQ xs fun y hy=>H y (by simp[hy])
  have hx:=H x (by simp);by_cases h1:p x=true
  · simp[h1,hx h1];exact ih
  · by_cases h2:q x=true
    · simp[h1,h2];omega
    · simp[h1,h2];exact ih
theorem YQ{α:Type}{p q:α->Bool}:∀(xs:List α),(∀x∈xs,p x=true->q x=true)->(∃x∈xs,p x=false/\q x=true)->(xs.filter p).length<(xs.filter q).length
 | [],_,h=>by obtain⟨x,h,_⟩:=h;cases h
 | x::xs,H,h=>by
  have hx:=H x (by simp);have ihl:=XQ xs fun y hy=>H y (by simp[hy])
  by_cases h1:p x=true
  · obtain⟨y,hy,g1,g2⟩:=h;rcases mem_cons.mp hy with rfl | hy
    · rw[h1]at g1;cases g1
    · have:=YQ xs (fun y hy=>H y (by simp[hy])) ⟨y,hy,g1,g2⟩;simp[h1,hx h1];exact this
  · by_cases h2:q x=true
    · simp[h1,h2];omega
    · obtain⟨y,hy,g1,g2⟩:=h;rcases mem_cons.mp hy with rfl | hy
      · rw[g2]at h2;exact absurd rfl h2
      · have:=YQ xs (fun y hy=>H y (by simp[hy])) ⟨y,hy,g1,g2⟩;simp[h1,h2];exact this
theorem rX{a b:Nat}(h:Nf a b):TH a<=TH b:=XQ _ fun k _ hk=>Jf.mp h k hk
theorem Ez{a b:Nat}(h:Nf a b)(ha:a<8192)(hb:b<8192)(n:a≠b):TH a<TH b:=by
 refine YQ _ (fun k _ hk=>Jf.mp h k hk) ?_;apply Classical.byContradiction;intro hno;apply n;refine eI ha hb fun k hk=>?_
 cases q:b.testBit k with
 | true=>
  cases q2:a.testBit k with
  | true=>rfl
  | false=>exact absurd ⟨k,mem_range.mpr hk,q2,q⟩ hno
 | false=>
  cases q2:a.testBit k with
  | false=>rfl
  | true=>rw[Jf.mp h k q2]at q;cases q
theorem zJ{α:Type}{u v:α->Nat}:∀(xs:List α),(∀x∈xs,u x<=v x)->(xs.map u).sum<=(xs.map v).sum
 | [],_=>by simp
 | x::xs,H=>by
  have:=zJ xs fun y hy=>H y (by simp[hy])
  have:=H x (by simp);simp only[zd5,sum_cons];omega
theorem gT{α:Type}{u v:α->Nat}:∀(xs:List α),(∀x∈xs,u x<=v x)->(∃x∈xs,u x<v x)->(xs.map u).sum<(xs.map v).sum
 | [],_,h=>by obtain⟨x,h,_⟩:=h;cases h
 | x::xs,H,h=>by
  have h0:=zJ xs fun y hy=>H y (by simp[hy])
  have h1:=H x (by simp);simp only[zd5,sum_cons];obtain⟨y,hy,g⟩:=h;rcases mem_cons.mp hy with rfl | hy
  · omega
  · have:=gT xs (fun y hy=>H y (by simp[hy])) ⟨y,hy,g⟩;omega
def AE(c:Nat)(f:Nat->Nat->Nat):Nat:=((List.range c).map fun i=>((List.range c).map fun j=>TH (f i j)).sum).sum
theorem IQ{α:Type}{u:α->Nat}{m:Nat}:∀(xs:List α),(∀x∈xs,u x<=m)->(xs.map u).sum<=xs.length*m
 | [],_=>by simp
 | x::xs,H=>by
  have:=IQ xs fun y hy=>H y (by simp[hy])
  have:=H x (by simp);simp only[zd5,sum_cons,zd3,Nat.succ_mul];omega
theorem QW(c:Nat)(f:Nat->Nat->Nat):AE c f<=c*(c*13):=by
 have:=IQ (u:=fun i=>((List.range c).map fun j=>TH (f i j)).sum) (m:=c*13) (List.range c) fun i _=>by
  have:=IQ (u:=fun j=>TH (f i j)) (m:=13) (List.range c) fun j _=>GK _
  simpa using this
 simpa[AE]using this
theorem eS{c:Nat}{f:Nat->Nat->Nat}(o:SA c f){i k j:Nat}(hi:i<c)(hj:j<c)(hij:i≠j)(a b:Nat):Nf (BC f i k j a b) (f a b):=by
 by_cases h1:a=i/\b=j
 · obtain⟨rfl,rfl⟩:=h1;rw[HG f hij];exact kH _ _
 · by_cases h2:a=j/\b=i
   · obtain⟨rfl,rfl⟩:=h2;rw[dS,o.tn b hi a hj];exact GR (kH _ _)
   · rw[BG f h1 h2];exact Nf.refl _
theorem t7{c:Nat}{f:Nat->Nat->Nat}(o:SA c f){i k j:Nat}(hi:i<c)(hj:j<c)(hij:i≠j)(n:Ef f i k j≠f i j):AE c (BC f i k j)<AE c f:=by refine gT _ (fun a _=>zJ _ fun b _=>rX (eS o hi hj hij a b)) ⟨i,mem_range.mpr hi,gT _ (fun b _=>rX (eS o hi hj hij i b)) ⟨j,mem_range.mpr hj,?_⟩⟩;rw[HG f hij];exact Ez (kH _ _) (EX o hi hj) (o.lt i hi j hj) n
inductive Steps(c:Nat)(f:Nat->Nat->Nat):List (Nat×Nat×Nat)->(Nat->Nat->Nat)->Prop where
 | nil:Steps c f [] f
 | snoc {st:List (Nat×Nat×Nat)} {g:Nat->Nat->Nat} {i k j:Nat} (h:Steps c f st g) (hi:i<c) (hk:k<c) (hj:j<c) (d:uG i k j) (ne:aC c g=false) (n:Ef g i k j≠g i j):Steps c f (st++[(i,k,j)]) (BC g i k j)
theorem Steps.ok{c:Nat}{f g:Nat->Nat->Nat}{st:List (Nat×Nat×Nat)}(h:Steps c f st g)(o:SA c f):SA c g:=by
 induction h with
 | nil=>exact o
 | snoc h hi hk hj d ne n ih=>exact mX ih hi hj d.2.2
theorem Yd{c:Nat}{f:Nat->Nat->Nat}:aC c f=true↔∃i<c,∃j<c,f i j=0:=by unfold aC;simp only[any_eq_true,mem_range,beq_iff_eq]
theorem Mf{c:Nat}{f:Nat->Nat->Nat}(h:aC c f=false){i j:Nat}(hi:i<c)(hj:j<c):f i j≠0:=fun e=>by have:=Yd.mpr ⟨i,hi,j,hj,e⟩;rw[h]at this;cases this
theorem Cz{a:Nat}(ha:a<8192)(h:a≠0):Cd a≠0:=fun e=>h (Pj ha (by decide) (e.trans En.symm))
theorem m7{c:Nat}{f:Nat->Nat->Nat}(o:SA c f){i k j:Nat}(hi:i<c)(hj:j<c)(hij:i≠j)(ne:aC c f=false):aC c (BC f i k j)=decide (Ef f i k j=0):=by
 by_cases h:Ef f i k j=0
 · rw[decide_eq_true h];exact Yd.mpr ⟨i,hi,j,hj,by rw[HG f hij];exact h⟩
 · rw[decide_eq_false h];cases q:aC c (BC f i k j)with
   | false=>rfl
   | true=>
    obtain⟨a,ha,b,hb,e⟩:=Yd.mp q;exfalso;by_cases h1:a=i/\b=j
    · obtain⟨rfl,rfl⟩:=h1;rw[HG f hij]at e;exact h e
    · by_cases h2:a=j/\b=i
      · obtain⟨rfl,rfl⟩:=h2;rw[dS]at e;exact Cz (EX o hi hj) h e
      · rw[BG f h1 h2]at e;exact Mf ne ha hb e
def HD(t:Nat×Nat×Nat):Dt:=AD t.1 t.2.1 t.2.2
theorem h7{h:HI}{b c:Nat}{f:Nat->Nat->Nat}(N:Xr h b c f){i k j:Nat}(hi:i<c)(hk:k<c)(hj:j<c):nN [.ref (b+c),AD i k j] h=some (.bl (!decide (Ef f i k j=f i j)),h):=by
 have e1:=bW N hi hk hj;have q:decide (((Ef f i k j:Nat):Int)=((f i j:Nat):Int))=decide (Ef f i k j=f i j):=by
  congr 1
  apply propext;omega
 unfold AD at e1 ⊢;simp only[nN,qR,sB,CA,pA,EA,zd5,zd6,zec,zeb,zd3,zd4,if_true,Nat.reduceAdd,Nat.reduceSub,List.replicate,zd1,zd2,qA,lA,HB,UB,qI,zd9,CB,aB,UA,NA,zei,e1,N.ix hi,N.jl hi hj,UJ,q,MB]
theorem yq(o a b:Nat)(h:HI):gH true (.int (o:Nat)) (sA (a,b)) h=some (.bl (!(decide (o=a) || decide (o=b))),h):=by
 have f2:zL (V.int (o:Nat)) [V.int (a:Nat),V.int (b:Nat)]=(decide (o=a) || decide (o=b)):=by
  unfold zL;simp only[any_cons,any_nil,Bool.or_false];show(((a:Nat):Int)==((o:Nat):Int) || ((b:Nat):Int)==((o:Nat):Int))=_;have e1:(((a:Nat):Int)==((o:Nat):Int))=decide (o=a):=by
   by_cases q:o=a
   · subst q;simp
   · have:((a:Nat):Int)≠((o:Nat):Int):=by omega
     simp[q,this]
  have e2:(((b:Nat):Int)==((o:Nat):Int))=decide (o=b):=by
   by_cases q:o=b
   · subst q;simp
   · have:((b:Nat):Int)≠((o:Nat):Int):=by omega
     simp[q,this]
  rw[e1,e2]
 have f1:yE [Dt.int (a:Nat),Dt.int (b:Nat)]=some [V.int (a:Nat),V.int (b:Nat)]:=rfl;simp only[gH,ED,zD,sA,zea,f1,f2];rfl
noncomputable def sD(a b n:Nat):List (Nat×Nat×Nat):=(List.range n).flatMap fun o=>if o=a\/o=b then []else [(a,b,o),(b,a,o)]
theorem Z4(a b n:Nat):(sD a b n).length<=2*n:=by
 induction n with
 | zero=>simp[sD]
 | succ n ih=>
  have:sD a b (n+1)=sD a b n++(if n=a\/n=b then []else [(a,b,n),(b,a,n)]):=by unfold sD;rw[range_succ,flatMap_append];simp
  rw[this,length_append];split<;>simp<;>omega
theorem e9{a b c:Nat}(hc:c<=1000)(h:HI):uM [sA (a,b),.int (c:Nat)] h=some (.ref h.length,h++[.lst ((PF a b c).map HD)]):=by
 have er:=AF (h:=h++[.lst []]) (show(-(2^62):Int)<=(c:Int) by omega) (show(c:Int)<2^62 by omega);simp only[Int.toNat_natCast]at er;have za7:∀(o o':Ob),(h++[o]).set h.length o'=h++[o']:=by simp
 obtain⟨l',h',e,⟨y,rfl⟩,rfl⟩:=uK (i:=3) (body:=tP) (fun(k:Nat)=>Dt.int (k:Int)) (fun(n:Nat) l h'=>(∃y,l=[some (sA (a,b)),some (.int (c:Nat)),some (.ref h.length),y])/\h'=h++[.lst ((sD a b n).map HD)]) c (by
  rintro n hn l h1 ⟨⟨y,rfl⟩,rfl⟩;have hl:=Z4 a b n;have ep:sD a b (n+1)=sD a b n++(if n=a\/n=b then []else [(a,b,n),(b,a,n)]):=by unfold sD;rw[range_succ,flatMap_append];simp
  refine⟨.nx [some (sA (a,b)),some (.int (c:Nat)),some (.ref h.length),some (.int (n:Nat))] (h++[.lst ((sD a b (n+1)).map HD)]),?_,⟨_,rfl⟩,rfl⟩;have ip:=yq n a b (h++[.lst ((sD a b n).map HD)]);have ea1:=fun(l:LI) (g:RE) (eg:g l (h++[.lst ((sD a b n).map HD)])=some (HD (a,b,n),h++[.lst ((sD a b n).map HD)]))=>DG (h:=h++[.lst ((sD a b n).map HD)]) (l:=l) (n:=h.length) (ys:=(sD a b n).map HD) (xs:=(sD a b n).map HD) (by simp) eg (by simp) (by simp;omega)
  have ea2:=fun(l:LI) (g:RE) (eg:g l (h++[.lst ((sD a b n).map HD++[HD (a,b,n)])])=some (HD (b,a,n),h++[.lst ((sD a b n).map HD++[HD (a,b,n)])]))=>DG (h:=h++[.lst ((sD a b n).map HD++[HD (a,b,n)])]) (l:=l) (n:=h.length) (ys:=(sD a b n).map HD++[HD (a,b,n)]) (xs:=(sD a b n).map HD++[HD (a,b,n)]) (by simp) eg (by simp) (by simp;omega)
  simp only[tP,NB,dB,CA,pA,zd7,zd8,zd1,zd2,qA,lA,ip,iB,XA,JE,RF,KC];by_cases q:n=a\/n=b
  · have:(decide (n=a) || decide (n=b))=true:=by simpa using q
    rw[this,ep,if_pos q];simp
  · have:(decide (n=a) || decide (n=b))=false:=by simpa using q
    rw[this,ep,if_neg q];simp only[Bool.not_false,if_true];rw[ea1 _ _ (by simp[sA,HD,AD])];simp only[lA,YA,za7,JE,RF,pA,zd1,zd2,qA];rw[ea2 _ _ (by simp[sA,HD,AD])];simp only[lA,za7];simp) [some (sA (a,b)),some (.int (c:Nat)),some (.ref h.length),none] (h++[.lst []]) ⟨⟨_,rfl⟩,by simp[sD]⟩
 simp only[uM,QP,sB,XA,fB,LG,NA,zd5,zd6,zec,zeb,zd3,zd4,if_true,lA,YA,Nat.reduceAdd,Nat.reduceSub,List.replicate,zd7,zd8,iE,lI,pA,zd1,zd2,qA,er,NF,qH,Nat.zero_le,e,CB,MB];rfl
structure Rm(h0:HI)(c:Nat)(f:Nat->Nat->Nat)(s w b:Nat)(st:List (Nat×Nat×Nat))(W:List (Nat×Nat))(g:Nat->Nat->Nat)(h:HI):Prop where
 low:∀n,n<h0.length->h[n]?=h0[n]?
 len:h0.length<=h.length
 hs:h[s]?=some (.lst (st.map HD))
 hw:h[w]?=some (.lst (W.map sA))
 net:Xr h b c g
 s0:h0.length<=s
 w0:h0.length<=w
 b0:h0.length<=b
 sw:s≠w
 sb:s<b\/b+c<s
 wb:w<b\/b+c<w
 run:Steps c f st g
 ne:aC c g=false
 sm:st.length+AE c g<=AE c f
 wc:∀p∈W,p.1<c/\p.2<c/\p.1≠p.2
theorem Rm.grow{h0:HI}{c:Nat}{f:Nat->Nat->Nat}{s w b:Nat}{st:List (Nat×Nat×Nat)}{W:List (Nat×Nat)}{g:Nat->Nat->Nat}{h:HI}(R:Rm h0 c f s w b st W g h)(e:HI):Rm h0 c f s w b st W g (h++e):=by
 have l1:=(zed R.hs).1;have l2:=(zed R.hw).1;exact { R with
  low:=fun n hn=>by rw[zee (by have:=R.len;omega)];exact R.low n hn
  len:=by have:=R.len;rw[length_append];omega
  hs:=by rw[zee l1];exact R.hs
  hw:=by rw[zee l2];exact R.hw
  net:=R.net.grow e }
def JJ(h0:HI)(c:Nat)(f:Nat->Nat->Nat)(d:Dt)(h:HI):Prop:=
 ∃x s st g,d=.tup [x,.ref s]/\h0.length<=s/\h0.length<=h.length/\(∀n,n<h0.length->h[n]?=h0[n]?)/\h[s]?=some (.lst (st.map HD))/\Steps c f st g/\st.length<=AE c f/\
  ((x=.non/\aC c g=true)\/∃b,x=.ref (b+c)/\h0.length<=b/\Xr h b c g/\aF c g/\aC c g=false/\(s<b\/b+c<s))
theorem Ox{h0:HI}{c:Nat}(hc:c<=100){f:Nat->Nat->Nat}(of:SA c f){s w b:Nat}{st:List (Nat×Nat×Nat)}{W:List (Nat×Nat)}{g:Nat->Nat->Nat}{h:HI}(R:Rm h0 c f s w b st W g h){x y z:Nat}(hx:x<c)(hy:y<c)(hz:z<c)(d:uG x y z)(lW:W.length<=2000000)(x0 x1 x5:Option Dt) :
 ∃r,VI [x0,x1,some (.ref s),some (.ref (b+c)),some (.ref w),x5,some (AD x y z)] h=some r/\
  nI (fun l' h'=>∃b' st' W' g',l'=[x0,x1,some (.ref s),some (.ref (b'+c)),some (.ref w),x5,some (AD x y z)]/\Rm h0 c f s w b' st' W' g' h'/\(∀n,n<h.length->n≠s->n≠w->h'[n]?=h[n]?)/\h.length<=h'.length/\
   ((Ef g x y z=g x z/\b'=b/\st'=st/\W'=W/\g'=g/\h'=h)\/(W'=W++[(x,z)]/\g'=BC g x y z/\AE c g'<AE c g))) (JJ h0 c f) r:=by
 have og:=R.run.ok of;have tl:=QW c f;have hcc:c*(c*13)<=100*(100*13):=Nat.mul_le_mul hc (Nat.mul_le_mul_right 13 hc);have en:=h7 R.net hx hy hz;by_cases q:Ef g x y z=g x z
 · refine⟨.nx [x0,x1,some (.ref s),some (.ref (b+c)),some (.ref w),x5,some (AD x y z)] h,?_,b,st,W,g,rfl,R,fun _ _ _ _=>rfl,zeg _,.inl ⟨q,rfl,rfl,rfl,rfl,rfl⟩⟩;simp only[VI,NB,dB,aB,UA,NA,pA,zd1,zd2,qA,lA,zei,en,iB,q,decide_true,Bool.not_true,zej,if_false,KC]
 · have em:=g7 R.net (show c<=1000 by omega) hx hy hz;obtain⟨h1,hh1⟩:∃h1,h1=h++RC h.length c (BC g x y z):=⟨_,rfl⟩
   rw[show gB g x (Ef g x y z) z=BC g x y z from rfl,<- hh1]at em;have len1:h1.length=h.length+(c+1):=by rw[hh1,length_append,iV]
   have M1:Xr h1 h.length c (BC g x y z):=hh1 ▸ OF h c _;have ls:=(zed R.hs).1;have lw:=(zed R.hw).1;have hs1:h1[s]?=some (.lst (st.map HD)):=by rw[hh1,zee ls];exact R.hs
   have hw1:h1[w]?=some (.lst (W.map sA)):=by rw[hh1,zee lw];exact R.hw
   have sm:=R.sm;have ts:=t7 og hx hz d.2.2 q;obtain⟨h2,Ab⟩:∃h2,h2=h1.set s (.lst (st.map HD++[AD x y z])):=⟨_,rfl⟩
   have ea:=DG (h:=h1) (l:=[x0,x1,some (.ref s),some (.ref (h.length+c)),some (.ref w),x5,some (AD x y z)]) (g:=eV 6) (n:=s) (ys:=st.map HD) (xs:=st.map HD) (d:=AD x y z) (h':=h1) hs1 (by simp) hs1 (by simp;omega);rw[<- Ab]at ea;have M2:Xr h2 h.length c (BC g x y z):=Ab ▸ M1.other (.inl ls) _;have hs2:h2[s]?=some (.lst ((st++[(x,y,z)]).map HD)):=by rw[Ab,getElem?_set_self (by omega)];simp[HD]
   have hw2:h2[w]?=some (.lst (W.map sA)):=by rw[Ab,getElem?_set_ne R.sw];exact hw1
   have za6:=R.run.snoc hx hy hz d R.ne q;have za0:∀n,n<h0.length->h2[n]?=h0[n]?:=fun n hn=>by have:=R.len;have:=R.s0;rw[Ab,getElem?_set_ne (by omega),hh1,zee (by omega)];exact R.low n hn
   have ND:h2.length=h.length+(c+1):=by rw[Ab,length_set];exact len1
   have ix1:=M2.ix hx;have jl:=M2.jl hx hz;rw[HG g d.2.2]at jl;have se:=m7 (k:=y) og hx hz d.2.2 R.ne;have zi:(decide (((Ef g x y z:Nat):Int)=0))=decide (Ef g x y z=0):=by
    congr 1
    apply propext;omega
   by_cases q0:Ef g x y z=0
   · refine⟨.rt (.tup [.non,.ref s]) h2,?_,.non,s,st++[(x,y,z)],BC g x y z,rfl,R.s0,by have:=R.len;omega,za0,hs2,za6,by simp;omega,.inl ⟨rfl,by rw[se];simp[q0]⟩⟩;simp only[VI,NB,dB,aB,UA,NA,pA,zd1,zd2,qA,lA,zei,en,iB,q,decide_false,Bool.not_false,if_true,XA,fB,em,zd7,zd8,YA,JE,RF,ea];simp only[AD,NB,dB,CA,pA,EA,zd1,zd2,qA,lA,HB,UB,qI,zd9,ix1,jl,GU,zi,q0,decide_true,iB,if_true,CB,RD,UA,NA,qF];simp
   · have ea2:=DG (h:=h2) (l:=[x0,x1,some (.ref s),some (.ref (h.length+c)),some (.ref w),x5,some (AD x y z)]) (g:=mB (bA (e2 uA (eV 6) (eC (.int 0))) (bA (e2 uA (eV 6) (eC (.int 2))) eA))) (n:=w) (ys:=W.map sA) (xs:=W.map sA) (d:=sA (x,z)) (h':=h2) hw2 (by simp[AD,sA]) hw2 (by simp;omega);have vF:∀o,(h2.set w o).length=h.length+(c+1):=fun o=>by rw[length_set];exact ND
     have hlw:w<h2.length:=(zed hw2).1;have hw0:=R.w0;have hl0:=R.len;refine⟨.nx [x0,x1,some (.ref s),some (.ref (h.length+c)),some (.ref w),x5,some (AD x y z)] (h2.set w (.lst (W.map sA++[sA (x,z)]))),?_,h.length,st++[(x,y,z)],W++[(x,z)],BC g x y z,rfl,?_,?_,by rw[vF];omega,.inr ⟨rfl,rfl,ts⟩⟩
     · simp only[VI,NB,dB,aB,UA,NA,pA,zd1,zd2,qA,lA,zei,en,iB,q,decide_false,Bool.not_false,if_true,XA,fB,em,zd7,zd8,YA,JE,RF,ea];have tst:Rf (e2 SJ (e2 uA (e2 uA (eV 3) (e2 uA (eV 6) (eC (.int 0)))) (e2 uA (eV 6) (eC (.int 2)))) (eC (.int 0))) [x0,x1,some (.ref s),some (.ref (h.length+c)),some (.ref w),x5,some (AD x y z)] h2=some (false,h2):=by simp only[AD,dB,CA,pA,EA,zd1,zd2,qA,lA,HB,UB,qI,zd9,ix1,jl,GU,zi,q0,decide_false,iB]
       simp only[dB]at tst;simp only[tst,lA,zej,if_false,KC,YA,JE,RF,pA,zd1,zd2,qA,ea2]
     · exact {
        low:=fun n hn=>by rw[getElem?_set_ne (by omega)];exact za0 n hn
        len:=by rw[vF];omega
        hs:=by rw[getElem?_set_ne (Ne.symm R.sw)];exact hs2
        hw:=by rw[getElem?_set_self hlw];simp
        net:=M2.other (.inl lw) _
        s0:=R.s0
        w0:=R.w0
        b0:=hl0
        sw:=R.sw
        sb:=.inl ls
        wb:=.inl lw
        run:=za6
        ne:=by rw[se];simp[q0]
        sm:=by simp;omega
        wc:=fun p hp=>by
         rcases mem_append.mp hp with hp | hp
         · exact R.wc p hp
         · rw[mem_singleton.mp hp];exact⟨hx,hz,d.2.2⟩ }
     · intro n hn h1' h2';rw[getElem?_set_ne (Ne.symm h2'),Ab,getElem?_set_ne (Ne.symm h1'),hh1,zee hn]
theorem V7(W:List (Nat×Nat)):rD (W.map sA)=true:=by
 induction W with
 | nil=>rfl
 | cons p W ih=>simp only[zd5,rD,sA,yB,ih,Bool.and_self]
theorem U8(W:List (Nat×Nat)):cF (W.map sA)<=2:=by
 induction W with
 | nil=>simp[cF]
 | cons p W ih=>simp only[zd5,cF,NH,sA];omega
theorem j8{h:HI}{w:Nat}{W:List (Nat×Nat)}(e:h[w]?=some (.lst (W.map sA)))(k:Nat):DB h (k+3) (.ref w)=some (.lst (W.map sA)):=by
 have:xD (DB h (k+2)) (W.map sA)=some (W.map sA):=qW _ _ _ fun x _=>by unfold sA;simp[DB,xD]
 rw[DB];simp only[e,this,zd9]
theorem Rk{h:HI}{w:Nat}{W:List (Nat×Nat)}(e:h[w]?=some (.lst (W.map sA))):SH (.ref w) (.lst []) h=some (.bl (!W.isEmpty),h):=by
 have r2:DB h 8 (.lst [])=some (.lst []):=by simp[DB,xD]
 have d:=U8 W;have ok:DF (W.map sA) []=true:=by unfold DF;rw[V7];simp[rD];omega
 rw[VY (j8 e 5) r2 ok];cases W with
 | nil=>rfl
 | cons p W=>rfl
theorem Bx{h0:HI}{c:Nat}(hc:c<=100){f:Nat->Nat->Nat}(of:SA c f){bn:Nat}{f0:Nat->Nat->Nat}(N0:Xr h0 bn c f0){s w b:Nat}{st:List (Nat×Nat×Nat)}{W:List (Nat×Nat)}{g:Nat->Nat->Nat}{h:HI}{u v:Nat}(R:Rm h0 c f s w b st ((u,v)::W) g h)
 (wt:tD c g ((u,v)::W) []) (x1 x5 x6:Option Dt) (lM:2*AE c g+(W.length+1)<=1000000) :
 ∃r,mK [some (.ref (bn+c)),x1,some (.ref s),some (.ref (b+c)),some (.ref w),x5,x6] h=some r/\
  nI (fun l' h'=>∃b' st' W' g' x5 x6,l'=[some (.ref (bn+c)),x1,some (.ref s),some (.ref (b'+c)),some (.ref w),x5,x6]/\Rm h0 c f s w b' st' W' g' h'/\tD c g' W' []/\2*AE c g'+W'.length<2*AE c g+(W.length+1)) (JJ h0 c f) r:=by
 have hu:=R.wc (u,v) (by simp);simp only at hu;have pk:=nj (fa:=eC (Dt.int 0)) (l:=[some (.ref (bn+c)),x1,some (.ref s),some (.ref (b+c)),some (.ref w),x5,x6]) (show h[w]?=some (.lst (sA (u,v)::W.map sA))from R.hw) rfl;obtain⟨h1,hh1⟩:∃h1,h1=h.set w (.lst (W.map sA)):=⟨_,rfl⟩
 rw[<- hh1]at pk;have lw:=(zed R.hw).1;have len1:h1.length=h.length:=by rw[hh1,length_set]
 have R1:Rm h0 c f s w b st W g h1:={ R with
  low:=fun n hn=>by have:=R.w0;rw[hh1,getElem?_set_ne (by omega)];exact R.low n hn
  len:=by rw[len1];exact R.len
  hs:=by rw[hh1,getElem?_set_ne (Ne.symm R.sw)];exact R.hs
  hw:=by rw[hh1,getElem?_set_self lw]
  net:=hh1 ▸ R.net.other (by have:=R.wb;omega) _
  wc:=fun p hp=>R.wc p (by simp[hp]) }
 have N1:sC (.ref (bn+c)) h1=some (.int (c:Nat),h1):=by have:=N0.lt;rw[vJ (xs:=wF bn c) (by rw[R1.low _ this];exact N0.top),ON]
 have et:=e9 (a:=u) (b:=v) (show c<=1000 by omega) h1;obtain⟨h2,Ab⟩:∃h2,h2=h1++[.lst ((PF u v c).map HD)]:=⟨_,rfl⟩
 rw[<- Ab]at et;have R2:Rm h0 c f s w b st W g h2:=Ab ▸ R1.grow _;have q2:h2[h1.length]?=some (.lst ((PF u v c).map HD)):=by rw[Ab];simp
 have sk:=yF q2;have ls:=(zed R1.hs).1;have lw1:=(zed R1.hw).1;obtain⟨r,e,er⟩:=JY (i:=6) (n:=h1.length) (body:=VI) HD (fun k l' h'=>∃b' st' W' g' x6,l'=[some (.ref (bn+c)),x1,some (.ref s),some (.ref (b'+c)),some (.ref w),some (sA (u,v)),x6]/\Rm h0 c f s w b' st' W' g' h'/\tD c g' W' ((PF u v c).drop k)/\h'[h1.length]?=some (.lst ((PF u v c).map HD))/\h1.length<h'.length/\2*AE c g'+W'.length<=2*AE c g+W.length) (JJ h0 c f) (PF u v c) (by
  rintro k l' h' ⟨b',st',W',g',x6,rfl,R',Fp,q',lq,mm⟩;exact q') (by
  rintro k t ht l' h' ⟨b',st',W',g',x6,rfl,R',Fp,q',lq,mm⟩;have hk:=(zed ht).1;have dk:(PF u v c).drop k=t::(PF u v c).drop (k+1):=by rw[drop_eq_getElem_cons hk,(zed ht).2]
  obtain⟨o,ho,hou,hov,hto⟩:=Od.mp (mem_of_getElem? ht);obtain⟨x,y,z⟩:=t;have dd:x<c/\y<c/\z<c/\uG x y z:=by
   rcases hto with hto | hto<;>(simp only[Prod.mk.injEq]at hto;obtain⟨rfl,rfl,rfl⟩:=hto)
   · exact⟨hu.1,hu.2.1,ho,hu.2.2,Ne.symm hov,Ne.symm hou⟩
   · exact⟨hu.2.1,hu.1,ho,Ne.symm hu.2.2,Ne.symm hou,Ne.symm hov⟩
  obtain⟨hx,hy,hz,dist⟩:=dd;rw[dk]at Fp;have og:=R'.run.ok of;obtain⟨r,e,er⟩:=Ox hc of R' hx hy hz dist (by omega) (some (.ref (bn+c))) x1 (some (sA (u,v)));refine⟨r,e,?_⟩;cases r with
  | nx l2 h2=>
   obtain⟨b2,st2,W2,g2,rfl,R2',kp,ll,q⟩:=er;have ne1:h1.length≠s:=by omega
   have ne2:h1.length≠w:=by omega
   refine⟨b2,st2,W2,g2,_,rfl,R2',?_,by rw[kp _ lq ne1 ne2];exact q',by omega,?_⟩
   · rcases q with⟨n,rfl,rfl,rfl,rfl,rfl⟩ | ⟨rfl,rfl,tt⟩
     · exact B7 og hx hy hz Fp n
     · exact C7 og hx hy hz dist Fp
   · rcases q with⟨n,rfl,rfl,rfl,rfl,rfl⟩ | ⟨rfl,rfl,tt⟩
     · exact mm
     · simp only[length_append,zd3,zd4];omega
  | rt d h2=>exact er
  | bk l2 h2=>exact er.elim
  | ct l2 h2=>exact er.elim) [some (.ref (bn+c)),x1,some (.ref s),some (.ref (b+c)),some (.ref w),some (sA (u,v)),x6] h2 ⟨b,st,W,g,x6,rfl,R2,G9 wt,q2,by rw[Ab];simp,zeg _⟩
 refine⟨r,?_,?_⟩
 · simp only[mK,XA,fB,Rv,pA,zd1,zd2,qA,lA,pk,YA,zd7,zd8,iE,SD,aB,UA,NA,vC,N1,zei,et,sk];exact e
 · cases r with
   | nx l' h'=>obtain⟨b',st',W',g',x6,rfl,R',Fp,q',lq,mm⟩:=er;rw[drop_length]at Fp;exact⟨b',st',W',g',_,_,rfl,R',Fp,by omega⟩
   | rt d h2=>exact er
   | bk l2 h2=>exact er.elim
   | ct l2 h2=>exact er.elim
theorem eQ{h:HI}{c:Nat}(hc:c<=100){f:Nat->Nat->Nat}(of:SA c f){bn:Nat}{pd:Dt}(N:Xr h bn c f){P:List (Nat×Nat)}(hp:∀e:HI,zD (h++e) pd=some (P.map sA))(pc:∀p∈P,p.1<c/\p.2<c/\p.1≠p.2)(wt:tD c f P [])(lP:P.length<=100000) :
 ∃d h',VH [.ref (bn+c),pd] h=some (d,h')/\JJ h c f d h':=by
 have tl:=QW c f;have hcc:c*(c*13)<=100*(100*13):=Nat.mul_le_mul hc (Nat.mul_le_mul_right 13 hc);have lN:=N.lt;have N1:=N.grow [.lst []];have em:=B6 N1 (show c<=1000 by omega);by_cases ne:aC c f=true
 · refine⟨.tup [.non,.ref h.length],h++[.lst []],?_,.non,h.length,[],f,rfl,zeg _,by simp,fun n hn=>by rw[zee hn],by simp,.nil,by simp,.inl ⟨rfl,ne⟩⟩;rw[ne]at em;simp only[VH,oM,sB,XA,fB,LG,NA,zd5,zd6,zec,zeb,zd3,zd4,if_true,lA,YA,Nat.reduceAdd,Nat.reduceSub,List.replicate,zd7,zd8,qH,Nat.zero_le,NB,dB,aB,UA,pA,zd1,zd2,qA,zei,em,iB,CB,RD,EA,qF];simp
 · have ne':aC c f=false:=by simpa using ne
   rw[ne']at em;obtain⟨h1,hh1⟩:∃h1:HI,h1=h++[.lst []]:=⟨_,rfl⟩
   rw[<- hh1]at em N1;have len1:h1.length=h.length+1:=by rw[hh1];simp
   have cp:=ZV (te:=KU) rfl N1 (show c<=1000 by omega) [none] (by simp);have en:(h1++(List.range c).map fun i=>Ob.lst (NC c (f i)))++[Ob.lst (wF h1.length c)]=h1++RC h1.length c f:=by rw[append_assoc];rfl
   have el:(h1++(List.range c).map fun i=>Ob.lst (NC c (f i))).length=h1.length+c:=by simp
   obtain⟨h2,Ab⟩:∃h2:HI,h2=h1++RC h1.length c f:=⟨_,rfl⟩
   have ND:h2.length=h1.length+(c+1):=by rw[Ab,length_append,iV]
   have C2:Xr h2 h1.length c f:=Ab ▸ OF h1 c f;have hp2:zD h2 pd=some (P.map sA):=by rw[Ab,hh1,append_assoc];exact hp _
   have fl:OE pd h2=some (.ref h2.length,h2++[.lst (P.map sA)]):=by simp only[OE,hp2,zd9]
   obtain⟨h3,hh3⟩:∃h3:HI,h3=h2++[.lst (P.map sA)]:=⟨_,rfl⟩
   rw[<- hh3]at fl;have R:Rm h c f h.length h2.length h1.length [] P f h3:={
    low:=fun n hn=>by rw[hh3,zee (by omega),Ab,zee (by omega),hh1,zee hn]
    len:=by rw[hh3];simp;omega
    hs:=by rw[hh3,zee (by omega),Ab,zee (by omega),hh1];simp
    hw:=by rw[hh3];simp
    net:=hh3 ▸ C2.grow _
    s0:=zeg _
    w0:=by omega
    b0:=by omega
    sw:=by omega
    sb:=.inl (by omega)
    wb:=.inr (by omega)
    run:=.nil
    ne:=ne'
    sm:=by simp
    wc:=pc }
   obtain⟨r,e,er⟩:=RV (t:=bK) (body:=mK) (fun m l' h'=>∃b' st' W' g' x5 x6,l'=[some (.ref (bn+c)),some pd,some (.ref h.length),some (.ref (b'+c)),some (.ref h2.length),x5,x6]/\Rm h c f h.length h2.length b' st' W' g' h'/\tD c g' W' []/\m=2*AE c g'+W'.length/\m<=1000000)
    (fun l' h'=>∃b' st' g' x5 x6,l'=[some (.ref (bn+c)),some pd,some (.ref h.length),some (.ref (b'+c)),some (.ref h2.length),x5,x6]/\Rm h c f h.length h2.length b' st' [] g' h'/\aF c g') (JJ h c f) (by
    rintro m l' h' ⟨b',st',W',g',x5,x6,rfl,R',Fp,rfl,lm⟩;have nn:=Rk R'.hw;cases W' with
    | nil=>
     refine⟨false,h',?_,?_⟩
     · simp only[bK,dB,CA,pA,KG,NA,zd1,zd2,qA,lA,zd4,qH,Nat.zero_le,if_true,nn,iB];rfl
     · rw[if_neg zef];exact⟨b',st',g',x5,x6,rfl,R',g5 Fp⟩
    | cons p W'=>
     obtain⟨u,v⟩:=p;refine⟨true,h',?_,?_⟩
     · simp only[bK,dB,CA,pA,KG,NA,zd1,zd2,qA,lA,zd4,qH,Nat.zero_le,if_true,nn,iB];rfl
     · rw[if_pos rfl];obtain⟨r,e,er⟩:=Bx hc of N R' Fp (some pd) x5 x6 lm;refine⟨r,e,?_⟩;cases r with
       | nx l2 h2=>obtain⟨b2,st2,W2,g2,y5,y6,rfl,R2,wt2,mm⟩:=er;exact⟨_,mm,b2,st2,W2,g2,y5,y6,rfl,R2,wt2,rfl,by simp only[zd3]at lm;omega⟩
       | rt d h2=>exact er
       | bk l2 h2=>exact er.elim
       | ct l2 h2=>exact er.elim) 1000000 (2*AE c f+P.length) [some (.ref (bn+c)),some pd,some (.ref h.length),some (.ref (h1.length+c)),some (.ref h2.length),none,none] h3 ⟨h1.length,[],P,f,none,none,rfl,R,wt,rfl,by omega⟩ (by omega)
   have go:∀(k:Rs->Option Rs),VH [.ref (bn+c),pd] h=aH (ZA (rF bK mK 1000000 [some (.ref (bn+c)),some pd,some (.ref h.length),some (.ref (h1.length+c)),some (.ref h2.length),none,none] h3) (yU (JA (mB (bA (eV 3) (bA (eV 2) eA)))))):=by intro _;simp only[VH,oM,sB,XA,fB,LG,NA,zd5,zd6,zec,zeb,zd3,zd4,if_true,lA,YA,Nat.reduceAdd,Nat.reduceSub,List.replicate,zd7,zd8,qH,Nat.zero_le,NB,dB,aB,UA,pA,zd1,zd2,qA,zei];rw[<- hh1];simp only[em,lA,iB,zej,if_false,KC,YA,XA,fB,WR,SD,pA,zd1,zd2,qA,N1.seq,xF,zF,cp,en,el,zd7,zd8,vC];rw[<- Ab];simp only[fl,lA,YA,XA,Sv,zd7,zd8]
   rw[go some,e,lA];cases r with
   | nx l' h'=>obtain⟨b',st',g',x5,x6,rfl,R',cl⟩:=er;refine⟨.tup [.ref (b'+c),.ref h.length],h',?_,.ref (b'+c),h.length,st',g',rfl,R'.s0,R'.len,R'.low,R'.hs,R'.run,by have:=R'.sm;omega,.inr ⟨b',rfl,R'.b0,R'.net,cl,R'.ne,R'.sb⟩⟩;simp
   | rt d h'=>exact⟨d,h',by simp,er⟩
   | bk l2 h2=>exact er.elim
   | ct l2 h2=>exact er.elim
def KH(c:Nat)(m f:Nat->Nat->Nat):Prop:=∀i<c,∀j<c,Nf (m i j) (f i j)
theorem Nf.antisymm{a b:Nat}(h1:Nf a b)(h2:Nf b a):a=b:=by unfold Nf at h1 h2;rw[Nat.and_comm]at h2;exact h1.symm.trans h2
theorem Steps.sub{c:Nat}{f g:Nat->Nat->Nat}{st:List (Nat×Nat×Nat)}(h:Steps c f st g)(o:SA c f):KH c g f:=by
 induction h with
 | nil=>exact fun i _ j _=>Nf.refl _
 | snoc h hi hk hj d ne n ih=>exact fun a ha b hb=>(eS (h.ok o) hi hj d.2.2 a b).trans (ih a ha b hb)
theorem Steps.keeps{c:Nat}{f g m:Nat->Nat->Nat}{st:List (Nat×Nat×Nat)}(h:Steps c f st g)(om:SA c m)(cm:aF c m)(s:KH c m f):KH c m g:=by
 induction h with
 | nil=>exact s
 | @snoc st g i k j h hi hk hj d ne n ih=>
  have l:Nf (m i j) (Ef g i k j):=by have:=cm i hi k hk j hj d;unfold Ef at this ⊢;exact Lj (ih i hi j hj) ((show Nf (m i j) (DI (m i k) (m k j))from this).trans (Q9 (ih i hi k hk) (ih k hk j hj)))
  intro a ha b hb;by_cases h1:a=i/\b=j
  · obtain⟨rfl,rfl⟩:=h1;rw[HG g d.2.2];exact l
  · by_cases h2:a=j/\b=i
    · obtain⟨rfl,rfl⟩:=h2;rw[dS,om.tn b hi a hj];exact GR l
    · rw[BG g h1 h2];exact ih a ha b hb
theorem Steps.diag{c:Nat}{f g:Nat->Nat->Nat}{st:List (Nat×Nat×Nat)}(h:Steps c f st g)(d0:∀i<c,f i i=64):∀i<c,g i i=64:=by
 induction h with
 | nil=>exact d0
 | snoc h hi hk hj d ne n ih=>intro a ha;rw[BG _ (fun q=>d.2.2 (q.1.symm.trans q.2)) (fun q=>d.2.2 (q.2.symm.trans q.1))];exact ih a ha
structure zm(c:Nat)(p q:Nat->Nat):Prop where
 pl:∀i<c,p i<c
 ql:∀i<c,q i<c
 qp:∀i<c,q (p i)=i
 pq:∀i<c,p (q i)=i
theorem zm.symm{c:Nat}{p q:Nat->Nat}(P:zm c p q):zm c q p:=⟨P.ql,P.pl,P.pq,P.qp⟩
noncomputable def Up(h h':HI):Prop:=h.length<=h'.length/\∀n,n<h.length->h'[n]?=h[n]?
theorem Up.refl(h:HI):Up h h:=⟨zeg _,fun _ _=>rfl⟩
theorem Up.trans{h h1 h2:HI}(a:Up h h1)(b:Up h1 h2):Up h h2:=⟨Nat.le_trans a.1 b.1,fun n hn=>by rw[b.2 n (by have:=a.1;omega),a.2 n hn]⟩
theorem Up.app(h e:HI):Up h (h++e):=⟨by simp,fun n hn=>zee hn⟩
theorem Up.net{h h':HI}(u:Up h h'){b c:Nat}{f:Nat->Nat->Nat}(N:Xr h b c f):Xr h' b c f:=by have:=N.lt;exact⟨fun i hi=>by rw[u.2 _ (by omega)];exact N.row i hi,by rw[u.2 _ this];exact N.top⟩
theorem Up.get{h h':HI}(u:Up h h'){n:Nat}{o:Ob}(e:h[n]?=some o):h'[n]?=some o:=by rw[u.2 n (zed e).1];exact e
noncomputable def rG(p q:Nat)(a mx mn:Int):List Bd:=(if mx<=a then [(p,q,if mx<a then -1 else 0)]else [])++(if a<=mn then [(q,p,if a<mn then -1 else 0)]else [])
theorem NU(p q:Nat)(a:Int){seen:List Int}(hs:seen ≠ [])(h:HI):UH [.int (p:Nat),.int (q:Nat),.int a,.lst (seen.map Dt.int)] h=some (.ref h.length,h++[.lst ((rG p q a (WC seen) (XB seen)).map gA)]):=by
 have e1:=fun h=>Jy (h:=h) hs
 have em:=fun h=>Ky (h:=h) hs
 generalize WC seen=mx at e1;generalize XB seen=mn at em;have ap:=fun(l:LI) (xs:List Bd) (g:RE) (d:Bd) (c:xs.length<5) (eg:g l (h++[.lst (xs.map gA)])=some (gA d,h++[.lst (xs.map gA)]))=>DG (h:=h++[.lst (xs.map gA)]) (l:=l) (n:=h.length) (ys:=xs.map gA) (xs:=xs.map gA) (d:=gA d) (by simp) eg (by simp) (by simp;omega)
 have es:∀(xs:List Bd)(d:Bd),(h++[Ob.lst (xs.map gA)]).set h.length (.lst (xs.map gA++[gA d]))=h++[.lst ((xs++[d]).map gA)]:=fun xs d=>by simp
 have first:∀l2:LI,l2=[some (.int (p:Nat)),some (.int (q:Nat)),some (.int a),some (.lst (seen.map Dt.int)),some (.ref h.length)]->TD (Rf (e2 BL (MC YG (eV 3)) (eV 2))) (cE (IE (eV 4) (mB (bA (eV 0) (bA (eV 1) (bA (cM (Rf (e2 MO (MC YG (eV 3)) (eV 2))) (pE (eC (.int 1))) (eC (.int 0))) (eA))))))) (OB) l2 (h++[.lst []]) =
  some (.nx l2 (h++[.lst ((if mx<=a then [((p,q,if mx<a then -1 else 0):Bd)]else []).map gA)])):=fun l2 hl2=>by
  subst hl2;by_cases c1:mx<=a
  · have g:=ap [some (.int (p:Nat)),some (.int (q:Nat)),some (.int a),some (.lst (seen.map Dt.int)),some (.ref h.length)] [] (mB (bA (eV 0) (bA (eV 1) (bA (cM (Rf (e2 MO (MC YG (eV 3)) (eV 2))) (pE (eC (.int 1))) (eC (.int 0))) (eA))))) (p,q,if mx<a then -1 else 0) (by simp) (by
     by_cases c2:mx<a<;>simp[e1,c2,gA])
    rw[es]at g;simp only[zd6,zeb]at g;simp only[NB,dB,CA,vC,pA,zd1,zd2,qA,lA,e1,qU,iB,c1,decide_true,if_true,JE,RF,g]
  · simp[e1,c1]
 have second:∀(xs:List Bd),xs.length<5->TD (Rf (e2 iP (MC ZG (eV 3)) (eV 2))) (cE (IE (eV 4) (mB (bA (eV 1) (bA (eV 0) (bA (cM (Rf (e2 AL (MC ZG (eV 3)) (eV 2))) (pE (eC (.int 1))) (eC (.int 0))) (eA))))))) (OB) [some (.int (p:Nat)),some (.int (q:Nat)),some (.int a),some (.lst (seen.map Dt.int)),some (.ref h.length)] (h++[.lst (xs.map gA)]) =
  some (.nx [some (.int (p:Nat)),some (.int (q:Nat)),some (.int a),some (.lst (seen.map Dt.int)),some (.ref h.length)] (h++[.lst ((xs++if a<=mn then [((q,p,if a<mn then -1 else 0):Bd)]else []).map gA)])):=fun xs hx=>by
  by_cases c1:a<=mn
  · have g:=ap [some (.int (p:Nat)),some (.int (q:Nat)),some (.int a),some (.lst (seen.map Dt.int)),some (.ref h.length)] xs (mB (bA (eV 1) (bA (eV 0) (bA (cM (Rf (e2 AL (MC ZG (eV 3)) (eV 2))) (pE (eC (.int 1))) (eC (.int 0))) (eA))))) (q,p,if a<mn then -1 else 0) hx (by
     by_cases c2:a<mn<;>simp[em,c2,gA])
    rw[es]at g;simp only[NB,dB,CA,vC,pA,zd1,zd2,qA,lA,em,SL,iB,c1,decide_true,if_true,JE,RF,g]
  · simp[em,c1]
 have f1:=first _ rfl
 have f2:=second (if mx<=a then [((p,q,if mx<a then -1 else 0):Bd)]else []) (by split<;>simp);unfold rG;simp only[UH,NP,sB,zd3,zd4,if_true,zd5,zd6,Nat.reduceAdd,Nat.reduceSub,List.replicate,zec,zeb,XA,fB,LG,NA,lA,Nat.zero_le,qH,zd8,zd7,YA,f1,f2,CB,pA,zd1,zd2,qA,MB]
def pz(w:Nat):Nat×Nat:=Ad.getD w (0,0)
theorem Px{w:Nat}(hw:w<13)(h:HI):NS [.int w] h=some (pr (pz w),h):=by rcases XZ hw with rfl | rfl | rfl | rfl | rfl | rfl | rfl | rfl | rfl | rfl | rfl | rfl | rfl<;>kernel_rfl
def zs(side w:Nat):Int:=if side=0 then((pz w).1:Int)else((pz w).2:Int)
def PB(side m:Nat):List Int:=(HA m).map (zs side)
theorem kX{side m:Nat}(hm:HA m ≠ []):PB side m ≠ []:=by unfold PB;intro z;exact hm (map_eq_nil_iff.mp z)
def ME(i j side m:Nat):List Bd:=rG (2*i+side) (2*j) 1 (WC (PB side m)) (XB (PB side m))++rG (2*i+side) (2*j+1) 3 (WC (PB side m)) (XB (PB side m))
theorem IX{c:Prop}[Decidable c](x:Bd):(if c then [x]else []).length<=1:=by split<;>simp
theorem HS(p q:Nat)(a mx mn:Int):(rG p q a mx mn).length<=2:=by unfold rG;rw[length_append];exact Nat.add_le_add (IX _) (IX _)
theorem kY{h:HI}{F G:List Bd}{rest:List Ob}{l:LI}{g:RE}(c:F.length+G.length<=100000)(eg:g l (h++.lst (F.map gA)::rest)=some (.ref (h++.lst (F.map gA)::rest).length,(h++.lst (F.map gA)::rest)++[.lst (G.map gA)])) :
 LJ g l (.ref h.length,h++.lst (F.map gA)::rest)=some (.non,h++.lst ((F++G).map gA)::(rest++[.lst (G.map gA)])):=by
 have e0:(h++Ob.lst (F.map gA)::rest)[h.length]?=some (.lst (F.map gA)):=by simp
 have e1:((h++Ob.lst (F.map gA)::rest)++[Ob.lst (G.map gA)])[h.length]?=some (.lst (F.map gA)):=by rw[zee (by simp)];exact e0
 have e2:((h++Ob.lst (F.map gA)::rest)++[Ob.lst (G.map gA)])[(h++Ob.lst (F.map gA)::rest).length]?=some (.lst (G.map gA)):=by rw[zeh (zeg _),Nat.sub_self];rfl
 rw[kW e0 eg e1 e2 (by simp;omega)];simp
theorem HV(i j m side:Nat)(hs:side=0\/side=1)(hi:i<=1000)(hj:j<=1000)(hm:HA m ≠ [])(h:HI)(F:List Bd)(hF:F.length<=1000)(rest:List Ob)(y5:Option Dt):∃y rest',lK [some (.int (i:Nat)),some (.int (m:Nat)),some (.int (j:Nat)),some (.ref h.length),some (.int (side:Nat)),y5] (h++.lst (F.map gA)::rest) =
 some (.nx [some (.int (i:Nat)),some (.int (m:Nat)),some (.int (j:Nat)),some (.ref h.length),some (.int (side:Nat)),y] (h++.lst ((F++ME i j side m).map gA)::rest')):=by
 have ew:=fun h=>DK m h
 have wl:∀k∈HA m,k<13:=fun k hk=>mem_range.mp (mem_filter.mp hk).1
 have ln:((HA m).map fun(k:Nat)=>Dt.int (k:Int)).length<sizeLine:=by have:(HA m).length<=13:=Nat.le_trans (length_filter_le _ _) (by simp);simp;omega
 have ec:=mH (te:=jK) (tc:=QB) (i:=0) (fun(k:Nat)=>Dt.int (k:Int)) (fun k=>Dt.int (zs side k)) (h++.lst (F.map gA)::rest) (HA m) [none,some (.int (side:Nat))] (by
  intro k hk;have ez:=Px (wl k hk) (h++.lst (F.map gA)::rest);refine⟨by simp,?_⟩;rcases hs with rfl | rfl
  · simp[jK,ez,pr,zs]
  · simp[jK,ez,pr,zs])
 have ek:=oF (l:=[none,some (.int (side:Nat))]) (h:=h++.lst (F.map gA)::rest) (AA 0) QB jK ln;rw[ec]at ek;have sl:(HA m).map (fun k=>Dt.int (zs side k))=(PB side m).map Dt.int:=by unfold PB;rw[map_map];rfl
 rw[sl]at ek;have hp:=fun h=>NU (2*i+side) (2*j) 1 (kX (side:=side) hm) h
 have hq:=fun h=>NU (2*i+side) (2*j+1) 3 (kX (side:=side) hm) h
 have pl:∀p q a mx mn,(rG p q a mx mn).length<=2:=HS
 have u:=fun(i:Int) (h:HI)=>UF (h:=h) (i:=2) (j:=i) (Or.inl ⟨by decide,by decide⟩)
 have ca:(2:Int)*(i:Int)+(side:Int)=((2*i+side:Nat):Int):=by omega
 have cb:(2:Int)*(j:Int)=((2*j:Nat):Int):=by omega
 have cc:((2*j:Nat):Int)+1=((2*j+1:Nat):Int):=by omega
 have x1:=kY (h:=h) (F:=F) (G:=rG (2*i+side) (2*j) 1 (WC (PB side m)) (XB (PB side m))) (rest:=rest) (l:=[some (.int (i:Nat)),some (.int (m:Nat)),some (.int (j:Nat)),some (.ref h.length),some (.int (side:Nat)),some (.lst ((PB side m).map Dt.int))])
  (g:=xA UH [] (bA (e2 VB (e2 YC (eC (.int 2)) (eV 0)) (eV 4)) (bA (e2 YC (eC (.int 2)) (eV 2)) (bA (eC (.int 1)) (bA (eV 5) (eA)))))) (by have:=pl (2*i+side) (2*j) 1 (WC (PB side m)) (XB (PB side m));omega) (by
   simp only[aB,UA,NA,CA,EA,pA,zd1,zd2,qA,lA,u,bE,ca,cb,zei];exact hp _)
 have x2:=kY (h:=h) (F:=F++rG (2*i+side) (2*j) 1 (WC (PB side m)) (XB (PB side m))) (G:=rG (2*i+side) (2*j+1) 3 (WC (PB side m)) (XB (PB side m))) (rest:=rest++[.lst ((rG (2*i+side) (2*j) 1 (WC (PB side m)) (XB (PB side m))).map gA)]) (l:=[some (.int (i:Nat)),some (.int (m:Nat)),some (.int (j:Nat)),some (.ref h.length),some (.int (side:Nat)),some (.lst ((PB side m).map Dt.int))])
  (g:=xA UH [] (bA (e2 VB (e2 YC (eC (.int 2)) (eV 0)) (eV 4)) (bA (e2 VB (e2 YC (eC (.int 2)) (eV 2)) (eC (.int 1))) (bA (eC (.int 3)) (bA (eV 5) (eA)))))) (by have:=pl (2*i+side) (2*j) 1 (WC (PB side m)) (XB (PB side m));have:=pl (2*i+side) (2*j+1) 3 (WC (PB side m)) (XB (PB side m));simp;omega) (by
   simp only[aB,UA,NA,CA,EA,pA,zd1,zd2,qA,lA,u,bE,ca,cb,cc,zei];exact hq _)
 refine⟨some (.lst ((PB side m).map Dt.int)),rest++[.lst ((rG (2*i+side) (2*j) 1 (WC (PB side m)) (XB (PB side m))).map gA)]++[.lst ((rG (2*i+side) (2*j+1) 3 (WC (PB side m)) (XB (PB side m))).map gA)],?_⟩;unfold ME;rw[<- append_assoc];simp only[lK,XA,fB,GG,SD,aB,UA,NA,pA,zd1,zd2,qA,lA,zei,ew,EG,xF,dJ,zF,Option.join,zea,id,ek,zd8,zd7,YA,JE,tN,x1,x2]
theorem dI(i j side m:Nat):(ME i j side m).length<=4:=by unfold ME;rw[length_append];have h1:=HS (2*i+side) (2*j) 1 (WC (PB side m)) (XB (PB side m));have h2:=HS (2*i+side) (2*j+1) 3 (WC (PB side m)) (XB (PB side m));omega
def yC(i m j:Nat):List Bd:=ME i j 0 m++ME i j 1 m
theorem SU(i m j:Nat)(hi:i<=1000)(hj:j<=1000)(hm:HA m ≠ [])(h:HI):∃rest,XI [.int (i:Nat),.int (m:Nat),.int (j:Nat)] h=some (.ref h.length,h++.lst ((yC i m j).map gA)::rest):=by
 obtain⟨y1,r1,e1⟩:=HV i j m 0 (.inl rfl) hi hj hm h [] (by simp) [] none;obtain⟨y2,r2,e2⟩:=HV i j m 1 (.inr rfl) hi hj hm h (ME i j 0 m) (by have:=dI i j 0 m;omega) r1 y1;have er:EZ (.int 2,h++[.lst []])=some (.vals [.int 0,.int 1],h++[.lst []]):=by rw[AF (by decide) (by decide)];rfl
 refine⟨r2,?_⟩;have e1':lK [some (.int (i:Nat)),some (.int (m:Nat)),some (.int (j:Nat)),some (.ref h.length),some (.int 0),none] (h++[.lst []])=some (.nx [some (.int (i:Nat)),some (.int (m:Nat)),some (.int (j:Nat)),some (.ref h.length),some (.int 0),y1] (h++.lst ((ME i j 0 m).map gA)::r1)):=e1;have e2':lK [some (.int (i:Nat)),some (.int (m:Nat)),some (.int (j:Nat)),some (.ref h.length),some (.int 1),y1] (h++.lst ((ME i j 0 m).map gA)::r1)=some (.nx [some (.int (i:Nat)),some (.int (m:Nat)),some (.int (j:Nat)),some (.ref h.length),some (.int 1),y2] (h++.lst ((yC i m j).map gA)::r2)):=e2;simp[XI,kQ,er,AC,e1',e2']
theorem X2(i:Nat)(lo hi:Int){g:Nat}(hg:g<=1000)(h:HI):nK [.tup [.int (i:Nat),.int lo,.int hi],.int (g:Nat)] h=some (.ref h.length,h++[.lst (([(2*i,2*i+1,-lo*g),(2*i+1,2*i,hi*g)]:List Bd).map gA)]):=by
 have u:=fun(h:HI)=>UF (h:=h) (i:=2) (j:=(i:Int)) (Or.inl ⟨by decide,by decide⟩)
 have v:=fun(x:Int) (h:HI)=>UF (h:=h) (i:=x) (j:=(g:Int)) (Or.inr ⟨by omega,by omega⟩)
 simp[nK,aQ,u,v,gA]
noncomputable abbrev Ln:=Nat×Int×Int
noncomputable def kC(x:Ln):Dt:=.tup [.int (x.1:Nat),.int x.2.1,.int x.2.2]
noncomputable def EC(g:Nat)(x:Ln):List Bd:=[(2*x.1,2*x.1+1,-x.2.1*g),(2*x.1+1,2*x.1,x.2.2*g)]
noncomputable def dH(c:Nat)(N:Nat->Nat->Nat):List Dt:=(List.range c).map fun i=>.lst ((List.range c).map fun j=>.int ((N i j:Nat):Int))
noncomputable def ZC(c:Nat):List Bd:=(List.range c).map fun i=>(2*i,2*i+1,-1)
def uD(c:Nat)(N:Nat->Nat->Nat)(ls:List Ln):List Bd:=ZC c++ls.flatMap (EC (2*c+1))++(BA c).flatMap fun p=>yC p.1 (N p.1 p.2) p.2
theorem uS{h:HI}{F G:List Bd}{rest Vb:List Ob}{l:LI}{g:RE}(c:F.length+G.length<=100000)(eg:g l (h++.lst (F.map gA)::rest)=some (.ref (h++.lst (F.map gA)::rest).length,(h++.lst (F.map gA)::rest)++.lst (G.map gA)::Vb)) :
 LJ g l (.ref h.length,h++.lst (F.map gA)::rest)=some (.non,h++.lst ((F++G).map gA)::(rest++.lst (G.map gA)::Vb)):=by
 have e0:(h++Ob.lst (F.map gA)::rest)[h.length]?=some (.lst (F.map gA)):=by simp
 have e1:((h++Ob.lst (F.map gA)::rest)++Ob.lst (G.map gA)::Vb)[h.length]?=some (.lst (F.map gA)):=by rw[zee (by simp)];exact e0
 have e2:((h++Ob.lst (F.map gA)::rest)++Ob.lst (G.map gA)::Vb)[(h++Ob.lst (F.map gA)::rest).length]?=some (.lst (G.map gA)):=by rw[zeh (zeg _),Nat.sub_self];rfl
 rw[kW e0 eg e1 e2 (by simp;omega)];simp
theorem hJ{α β:Type}(f:α->List β){xs:List α}{k:Nat}{x:α}(hx:xs[k]?=some x):(xs.take (k+1)).flatMap f=(xs.take k).flatMap f++f x:=by rw[take_add_one,hx,flatMap_append];simp
theorem Jx(c:Nat)(h:HI):IK [.int (c:Nat)] h=some (.int ((2*c+1:Nat):Int),h):=by
 have u:=fun(h:HI)=>UF (h:=h) (i:=2) (j:=(c:Int)) (Or.inl ⟨by decide,by decide⟩)
 simp[IK,KS,u]
theorem Yt{c b:Nat}(hc:c<=100){N:Nat->Nat->Nat}(hN:∀i j,HA (N i j) ≠ []){h:HI}{F:List Bd}(hF:F.length<=3000){r0:List Ob}(db:∀G:List Bd,∀r2:List Ob,(h++.lst (G.map gA)::(r0++r2))[b]?=some (.lst ((BA c).map sA)))(x1 y3:Option Dt)(pl:(BA c).length<=10000)(pin:∀p∈BA c,p.1<c/\p.2<c) :
 ∃y rest,dE (AA 4) WH [some (.lst (dH c N)),x1,some (.ref h.length),y3,none] (.rf b,h++.lst (F.map gA)::r0) =
 some (.nx [some (.lst (dH c N)),x1,some (.ref h.length),y3,y] (h++.lst ((F++(BA c).flatMap fun p=>yC p.1 (N p.1 p.2) p.2).map gA)::rest)):=by
 obtain⟨l',h',e,⟨y,rfl⟩,r2,rfl,_⟩:=DO (i:=4) (n:=b) (body:=WH) sA (fun k l h'=>(∃y,l=[some (.lst (dH c N)),x1,some (.ref h.length),y3,y])/\∃r2,h'=h++.lst ((F++((BA c).take k).flatMap fun p=>yC p.1 (N p.1 p.2) p.2).map gA)::(r0++r2)/\(((BA c).take k).flatMap fun p=>yC p.1 (N p.1 p.2) p.2).length<=8*k) (BA c) (by
  rintro k l h' ⟨_,r2,rfl,_⟩;exact db _ r2) (by
  rintro k x hx l h' ⟨⟨y,rfl⟩,r2,rfl,hk⟩;have kl:k<(BA c).length:=(zed hx).1;obtain⟨p1,p2⟩:=pin x (mem_of_getElem? hx);have l8:(yC x.1 (N x.1 x.2) x.2).length<=8:=by unfold yC;rw[length_append];have:=dI x.1 x.2 0 (N x.1 x.2);have:=dI x.1 x.2 1 (N x.1 x.2);omega
  obtain⟨rs,eb⟩:=SU x.1 (N x.1 x.2) x.2 (by omega) (by omega) (hN _ _) (h++.lst ((F++((BA c).take k).flatMap fun p=>yC p.1 (N p.1 p.2) p.2).map gA)::(r0++r2));have n1:(dH c N)[x.1]?=some (.lst ((List.range c).map fun j=>.int ((N x.1 j:Nat):Int))):=by simp[dH,p1]
  have n2:((List.range c).map fun j=>Dt.int ((N x.1 j:Nat):Int))[x.2]?=some (.int ((N x.1 x.2:Nat):Int)):=by simp[p2]
  have xx:=uS (h:=h) (F:=F++((BA c).take k).flatMap fun p=>yC p.1 (N p.1 p.2) p.2) (G:=yC x.1 (N x.1 x.2) x.2) (rest:=r0++r2) (Vb:=rs) (l:=[some (.lst (dH c N)),x1,some (.ref h.length),y3,some (sA x)]) (g:=xA XI [] (bA (e2 uA (eV 4) (eC (.int 0))) (bA (e2 uA (e2 uA (eV 0) (e2 uA (eV 4) (eC (.int 0)))) (e2 uA (eV 4) (eC (.int 1)))) (bA (e2 uA (eV 4) (eC (.int 1))) (eA))))) (by rw[length_append];omega) (by
   simp only[aB,UA,NA,CA,EA,pA,zd1,zd2,qA,lA,sA,HB,UB,YD,zd9,vI,SM.CC,n1,n2,zei];exact eb)
  refine⟨.nx [some (.lst (dH c N)),x1,some (.ref h.length),y3,some (sA x)] (h++.lst ((F++((BA c).take (k+1)).flatMap fun p=>yC p.1 (N p.1 p.2) p.2).map gA)::(r0++(r2++.lst ((yC x.1 (N x.1 x.2) x.2).map gA)::rs))),?_,⟨_,rfl⟩,_,rfl,?_⟩
  · rw[hJ _ hx,<- append_assoc,<- append_assoc];simp only[WH,JE,tN,pA,zd8,zd7,zd1,zd2,qA,lA,xx]
  · rw[hJ _ hx,length_append];omega) [some (.lst (dH c N)),x1,some (.ref h.length),y3,none] (h++.lst (F.map gA)::r0) ⟨⟨_,rfl⟩,[],by simp,by simp⟩
 rw[take_length]at e;exact⟨y,_,e⟩
theorem VR{c:Nat}{p:Nat×Nat}(h:p∈BA c):p.1<c/\p.2<c:=by unfold BA TC at h;obtain⟨i,hi,h⟩:=mem_flatMap.mp h;obtain⟨k,hk,rfl⟩:=mem_map.mp h;have:=mem_range.mp hi;have:=mem_range.mp hk;exact⟨by omega,by show i+1+k<c;omega⟩
theorem J5{c i:Nat}(hi:i<c):List.replicate i (Dt.int 8191)++[Dt.int 64]++List.replicate (c-i-1) (Dt.int 8191)=NC c (kB i):=by
 apply ext_getElem?;intro k;by_cases hk:k<c
 · rw[TK hk];rcases Nat.lt_trichotomy k i with h | h | h
   · rw[append_assoc,zee (by simpa using h)];have:¬i=k:=by omega
     simp[h,kB,this]
   · subst h;rw[append_assoc,zeh (by simp)];simp[kB]
   · rw[zeh (by simp;omega)];have:¬i=k:=by omega
     have q:k-(i+1)<c-i-1:=by omega
     simp[kB,this,getElem?_replicate,q]
 · rw[getElem?_eq_none (by simp;omega),getElem?_eq_none (by rw[uN];omega)]
theorem D6{c i:Nat}(hi:i<c)(hc:c<=1000)(h:HI):RM [.int (c:Nat),.int (i:Nat)] h=some (.ref h.length,h++[.lst (NC c (kB i))]):=by
 have e1:=JW (h:=h) (Dt.int 8191) (show i<=1000000 by omega);have e2:=JW (h:=h) (Dt.int 8191) (show c-i-1<=1000000 by omega);have ec:(c:Int)-(i:Int)-1=((c-i-1:Nat):Int):=by omega
 have e3:=Wy (h:=h) (xs:=List.replicate i (Dt.int 8191)) (ys:=[Dt.int 64]) (by simp;omega);have e4:BH (.lst (List.replicate i (Dt.int 8191)++[Dt.int 64])) (.lst (List.replicate (c-i-1) (Dt.int 8191))) h=some (.ref h.length,h++[.lst (List.replicate i (Dt.int 8191)++[Dt.int 64]++List.replicate (c-i-1) (Dt.int 8191))]):=by simp only[BH,FB,zea];rw[if_pos (by simp;omega)]
 rw[J5 hi]at e4;simp[RM,VQ,e1,ec,e2,e3,e4]
theorem sY{c:Nat}(hc:c<=1000)(h:HI):aL [.int (c:Nat)] h=some (.ref (h.length+c),h++RC h.length c kB):=by
 have er:=AF (h:=h) (show(-(2^62):Int)<=(c:Int) by omega) (show(c:Int)<2^62 by omega);simp only[Int.toNat_natCast]at er;have hn:=fR (te:=xR) (i:=0) (fun(k:Nat)=>Dt.int (k:Int)) (fun i=>Ob.lst (NC c (kB i))) h (List.range c) [none,some (.int (c:Nat))] [] (by
  intro k hk e;have:=D6 (mem_range.mp hk) hc (h++e);simp[xR,this])
 rw[zei,length_range]at hn;have hs:((List.range c).map fun(k:Nat)=>Dt.int (k:Int)).length<sizeLine:=by simp;omega
 simp[aL,YS,er,oF _ _ _ hs,hn,RC,wF]
noncomputable def Wc(h h':HI):Prop:=h.length<=h'.length/\∀(n:Nat)(xs:List Dt),h[n]?=some (.lst xs)->h'[n]?=some (.lst xs)
theorem Wc.refl(h:HI):Wc h h:=⟨zeg _,fun _ _ e=>e⟩
theorem Wc.trans{h h1 h2:HI}(a:Wc h h1)(b:Wc h1 h2):Wc h h2:=⟨Nat.le_trans a.1 b.1,fun n xs e=>b.2 n xs (a.2 n xs e)⟩
theorem Up.l{h h':HI}(u:Up h h'):Wc h h':=⟨u.1,fun _ _ e=>u.get e⟩
theorem Wc.app(h e:HI):Wc h (h++e):=(Up.app h e).l
theorem Wc.net{h h':HI}(u:Wc h h'){b c:Nat}{f:Nat->Nat->Nat}(N:Xr h b c f):Xr h' b c f:=⟨fun i hi=>u.2 _ _ (N.row i hi),u.2 _ _ N.top⟩
theorem Wc.set{h:HI}{n:Nat}{x:Str}{fs fs':List (Str×Dt)}(e:h[n]?=some (.ins x fs)):Wc h (h.set n (.ins x fs')):=by
 refine⟨by simp,fun k xs q=>?_⟩;rw[getElem?_set];by_cases z:n=k
 · subst z;rw[e]at q;cases q
 · rw[if_neg z];exact q
noncomputable abbrev WB:=Nat×Nat×Nat
noncomputable def KA (m:WB):Dt:=.tup [.str "ways", .int (m.1:Nat),.int (m.2.1:Nat),.int (m.2.2:Nat)]
noncomputable def jD(c:Nat)(m:WB):Prop:=m.1<c/\m.2.2<c/\m.1≠m.2.2/\m.2.1<8192
def Zn(h:HI)(d:Dt)(g:List WB):Prop:=∃n,d=.ref n/\h[n]?=some (.lst (g.map KA))
theorem Zn.up{h h':HI}{d:Dt}{g:List WB}(q:Zn h d g)(u:Wc h h'):Zn h' d g:=by obtain⟨n,e,q⟩:=q;exact⟨n,e,u.2 _ _ q⟩
noncomputable def VC(c:Nat)(g:Nat->Nat->Nat):Nat->Nat->Nat:=fun i j=>if i<c/\j<c then g i j else 0
theorem NE{c:Nat}(g:Nat->Nat->Nat){i j:Nat}(hi:i<c)(hj:j<c):VC c g i j=g i j:=if_pos ⟨hi,hj⟩
theorem Z6{c:Nat}{g g':Nat->Nat->Nat}(e:∀i<c,∀j<c,g i j=g' i j):VC c g=VC c g':=by
 funext i j
 unfold VC;split
 · rename_i q;exact e i q.1 j q.2
 · rfl
theorem yx{h:HI}{b c:Nat}{g:Nat->Nat->Nat}(N:Xr h b c g):Xr h b c (VC c g):=N.congr fun _ hi _ hj=>(NE g hi hj).symm
theorem Nz{c:Nat}{g:Nat->Nat->Nat}(o:SA c g):SA c (VC c g):=⟨fun i hi j hj=>by rw[NE g hi hj];exact o.lt i hi j hj,fun i hi j hj=>by rw[NE g hi hj,NE g hj hi];exact o.tn i hi j hj⟩
theorem W9{c:Nat}{g:Nat->Nat->Nat}{i k j:Nat}(hi:i<c)(hk:k<c)(hj:j<c):Ef (VC c g) i k j=Ef g i k j:=by unfold Ef;rw[NE g hi hj,NE g hi hk,NE g hk hj]
theorem A6{c:Nat}{g:Nat->Nat->Nat}(o:aF c g):aF c (VC c g):=fun i hi k hk j hj d=>by rw[W9 hi hk hj,NE g hi hj];exact o i hi k hk j hj d
theorem cR{α:Type}{p q:α->Bool}:∀{xs:List α},(∀x∈xs,p x=q x)->xs.any p=xs.any q
 | [],_=>rfl
 | x::xs,h=>by rw[any_cons,any_cons,h x (by simp),cR fun y hy=>h y (by simp[hy])]
theorem t5{c:Nat}{g g':Nat->Nat->Nat}(e:∀i<c,∀j<c,g i j=g' i j):aC c g=aC c g':=by unfold aC;exact cR fun i hi=>cR fun j hj=>by rw[e i (mem_range.mp hi) j (mem_range.mp hj)]
theorem b7(c:Nat)(g:Nat->Nat->Nat):aC c (VC c g)=aC c g:=t5 fun _ hi _ hj=>NE g hi hj
def Xb(c:Nat)(f:Nat->Nat->Nat)(st:List (Nat×Nat×Nat))(g:Nat->Nat->Nat):Prop:=∃g0,Steps c f st g0/\aF c g0/\aC c g0=false/\g=VC c g0
theorem Xb.ok{c:Nat}{f g:Nat->Nat->Nat}{st:List (Nat×Nat×Nat)}(e:Xb c f st g)(o:SA c f):SA c g/\aF c g/\aC c g=false:=by obtain⟨g0,s,cl,ne,rfl⟩:=e;exact⟨Nz (s.ok o),A6 cl,by rw[b7];exact ne⟩
theorem Xb.unique{c:Nat}{f g g':Nat->Nat->Nat}{st st':List (Nat×Nat×Nat)}(o:SA c f)(e:Xb c f st g)(e':Xb c f st' g'):g=g':=by
 obtain⟨g0,s,cl,ne,rfl⟩:=e;obtain⟨g1,s',cl',ne',rfl⟩:=e';refine Z6 fun i hi j hj=>?_
 have a1:=s.keeps (s'.ok o) cl' (s'.sub o) i hi j hj;have a2:=s'.keeps (s.ok o) cl (s.sub o) i hi j hj;exact Nf.antisymm a2 a1
theorem Xb.Mf{c:Nat}{f g g':Nat->Nat->Nat}{st st':List (Nat×Nat×Nat)}(o:SA c f)(e:Xb c f st g)(s':Steps c f st' g'):aC c g'=false:=by
 obtain⟨g0,s,cl,ne,rfl⟩:=e;have a1:=s'.keeps (s.ok o) cl (s.sub o);cases z:aC c g' with
 | false=>rfl
 | true=>
  obtain⟨i,hi,j,hj,e⟩:=Yd.mp z;have:=a1 i hi j hj;rw[e]at this;have h0:g0 i j=0:=by unfold Nf at this;rw[Nat.and_zero]at this;exact this.symm
  exact absurd h0 (G.Mf ne hi hj)
noncomputable def notM(m:Nat):Nat:=8191-m
def gE(f:Nat->Nat->Nat)(k:Nat):List WB->Nat->(Nat->Nat->Nat)
 | [],_=>f
 | m::ms,p=>gE (gB f m.1 (if p=k then m.2.1 else notM m.2.1) m.2.2) k ms (p+1)
def AO(f:Nat->Nat->Nat)(g:List WB)(k:Nat):Nat->Nat->Nat:=gE f k g 0
theorem aV(k:Nat)(m:WB):∀(ms:List WB)(f:Nat->Nat->Nat)(p:Nat),gE f k (ms++[m]) p=gB (gE f k ms p) m.1 (if p+ms.length=k then m.2.1 else notM m.2.1) m.2.2
 | [],f,p=>by simp[gE]
 | x::ms,f,p=>by show gE (gB f x.1 (if p=k then x.2.1 else notM x.2.1) x.2.2) k (ms++[m]) (p+1)=_;rw[aV k m ms _ (p+1),zd3,show p+(ms.length+1)=p+1+ms.length by omega];rfl
theorem yV{c k:Nat}:∀(ms:List WB)(_:∀m∈ms,jD c m)(f:Nat->Nat->Nat)(p:Nat),SA c f->SA c (gE f k ms p)
 | [],_,f,p,o=>o
 | m::ms,h,f,p,o=>by obtain⟨a,b,d,_⟩:=h m (by simp);exact yV ms (fun x hx=>h x (by simp[hx])) _ _ (dG o a b d _)
def tE(c:Nat)(g:Nat->Nat->Nat):Option (Nat×Nat):=(BA c).find? fun p=>decide (1<(HA (g p.1 p.2)).length)
theorem Rq{m:Nat}(h:m<8192):Builtin.bitAnd 8191 (Builtin.bitNot ((m:Nat):Int))=((notM m:Nat):Int):=by
 have h1:Builtin.bitNot (Builtin.bitNot ((m:Nat):Int))=(m:Int):=by unfold Builtin.bitNot;omega
 have h2:¬(0<=Builtin.bitNot ((m:Nat):Int)):=by unfold Builtin.bitNot;omega
 have h3:(8191:Nat)&&&m=m:=by rw[Nat.and_comm,show(8191:Nat)=2^13-1 from rfl,Nat.and_two_pow_sub_one_eq_mod];exact Nat.mod_eq_of_lt h
 unfold Builtin.bitAnd;have d1:decide ((8191:Int) >=0)=true:=by decide
 have d2:decide (Builtin.bitNot ((m:Nat):Int) >=0)=false:=decide_eq_false h2;simp only[d1,d2,h1];show(8191:Int)-(((8191:Int).toNat&&&(m:Int).toNat:Nat):Int)=_;rw[show(8191:Int).toNat=8191 from rfl,Int.toNat_natCast,h3];unfold notM;omega
theorem Oj{α:Type}{xs:List α}{k:Nat}(h:k<=xs.length):(xs.take k).length=k:=by rw[length_take];omega
theorem FK{α:Type}{xs:List α}{k:Nat}{x:α}(h:xs[k]?=some x):xs.take (k+1)=xs.take k++[x]:=by rw[take_add_one,h];rfl
theorem P3{h:HI}{b c:Nat}{f:Nat->Nat->Nat}(N:Xr h b c f)(hc:c<=1000){n:Nat}{g:List WB}(hg:h[n]?=some (.lst (g.map KA)))(ok:∀m∈g,jD c m)(k:Nat) :
 ∃b' h',vM [.ref (b+c),.ref n,.int (k:Nat)] h=some (.ref (b'+c),h')/\Xr h' b' c (AO f g k)/\Up h h':=by
 obtain⟨l',h',e,b',y3,y4,y5,rfl,N',U⟩:=NT (i:=3) (j:=4) (n:=n) (body:=zM) KA (fun k' l h'=>∃b' y3 y4 y5,l=[some (.ref (b'+c)),some (.ref n),some (.int (k:Nat)),y3,y4,y5]/\Xr h' b' c (gE f k (g.take k') 0)/\Up h h') g (by
  rintro k' l h' ⟨b',y3,y4,y5,rfl,N',U⟩;exact U.get hg) (by
  rintro k' x hx l h' ⟨b',y3,y4,y5,rfl,N',U⟩;obtain⟨a1,a2,a3,a4⟩:=ok x (mem_of_getElem? hx);have kl:k'<g.length:=(zed hx).1;have eq:gE f k (g.take (k'+1)) 0=gB (gE f k (g.take k') 0) x.1 (if k'=k then x.2.1 else notM x.2.1) x.2.2:=by rw[FK hx,aV,Oj (by omega),Nat.zero_add]
  have en:=yK N' hc a1 a2 (if k'=k then x.2.1 else notM x.2.1);rw[<- eq]at en;have M:=OF h' c (gE f k (g.take (k'+1)) 0);refine⟨.nx [some (.ref (h'.length+c)),some (.ref n),some (.int (k:Nat)),some (.int (k':Nat)),some (KA x),some (.int ((if k'=k then x.2.1 else notM x.2.1:Nat):Int))] (h'++RC h'.length c (gE f k (g.take (k'+1)) 0)),?_,h'.length,_,_,_,rfl,M,U.trans (Up.app _ _)⟩;have m2:Xd [Dt.str "ways",Dt.int (x.1:Nat),Dt.int (x.2.1:Nat),Dt.int (x.2.2:Nat)] 2=some (.int (x.2.1:Nat)):=rfl;have m1:Xd [Dt.str "ways",Dt.int (x.1:Nat),Dt.int (x.2.1:Nat),Dt.int (x.2.2:Nat)] 1=some (.int (x.1:Nat)):=rfl;have m3:Xd [Dt.str "ways",Dt.int (x.1:Nat),Dt.int (x.2.1:Nat),Dt.int (x.2.2:Nat)] 3=some (.int (x.2.2:Nat)):=rfl;by_cases z:k'=k
  · subst z;rw[if_pos rfl]at en ⊢;have dd:decide ((k':Int)=(k':Int))=true:=decide_eq_true rfl;simp only[zM,XA,fB,nZ,dB,CA,pA,EA,zd8,zd7,zd1,zd2,qA,lA,lF,decide_true,iB,if_true,KA,HB,m1,m2,m3,zd9,YA,aB,UA,NA,zei,en]
  · rw[if_neg z]at en ⊢;have dd:decide ((k':Int)=(k:Int))=false:=decide_eq_false (by omega);simp only[zM,XA,fB,nZ,dB,CA,pA,EA,zd8,zd7,zd1,zd2,qA,lA,lF,dd,iB,zej,if_false,KA,HB,m1,m2,m3,zd9,Cy,t9,kL,Rq a4,YA,aB,UA,NA,zei,en]) [some (.ref (b+c)),some (.ref n),some (.int (k:Nat)),none,none,none] h ⟨b,_,_,_,rfl,N,Up.refl h⟩
 rw[take_length]at N';refine⟨b',h',?_,N',U⟩;simp only[vM,mQ,sB,zd3,zd4,if_true,zd5,zd6,Nat.reduceAdd,Nat.reduceSub,List.replicate,zec,zeb,XA,iE,Qv,pA,zd1,zd2,qA,lA,F6 hg,e,YA,CB,MB]
theorem N3{h:HI}{b c:Nat}{g:Nat->Nat->Nat}(N:Xr h b c g)(hc:c<=1000) :
 ∃h',eK [.ref (b+c)] h=some ((match tE c g with | none=>.non | some p=>sA p),h')/\Up h h':=by
 have ep:=VM hc h;have U:Up h (h++[.lst ((BA c).map sA)]):=Up.app _ _;have N1:Xr (h++[.lst ((BA c).map sA)]) b c g:=U.net N;have hl:(h++[Ob.lst ((BA c).map sA)])[h.length]?=some (.lst ((BA c).map sA)):=by simp
 refine⟨h++[.lst ((BA c).map sA)],?_,U⟩;have body:∀p∈BA c,∀y,eM [some (.ref (b+c)),some (sA p)] (h++[.lst ((BA c).map sA)])=some (if decide (1<(HA (g p.1 p.2)).length)=true then .rt (sA p) (h++[.lst ((BA c).map sA)])else .nx [some (.ref (b+c)),some (sA p)] (h++[.lst ((BA c).map sA)]))\/y:=by
  intro p hp y;obtain⟨p1,p2⟩:=VR hp
  left
  have i1:=fF N1.top (p.1:Int);rw[SM.CC,MN p1,zd9]at i1;have i2:=fF (N1.row _ p1) (p.2:Int);rw[SM.CC,TK p2,zd9]at i2;have dd:decide ((1:Int)<(((HA (g p.1 p.2)).map fun(k:Nat)=>Dt.int (k:Int)).length:Nat))=decide (1<(HA (g p.1 p.2)).length):=by
   rw[length_map];by_cases z:1<(HA (g p.1 p.2)).length
   · rw[decide_eq_true z,decide_eq_true (by omega)]
   · rw[decide_eq_false z,decide_eq_false (by omega)]
  simp only[eM,NB,dB,CA,vC,aB,UA,NA,pA,EA,zd1,zd2,qA,lA,sA,HB,UB,YD,zd9,i1,i2,zei,DK,ZK,TL,dd,iB,CB,KC];split<;>rfl
 obtain⟨r,e,er⟩:=JY (i:=1) (n:=h.length) (body:=eM) sA (fun k l h'=>(∃y,l=[some (.ref (b+c)),y])/\h'=h++[.lst ((BA c).map sA)]/\((BA c).take k).find? (fun p=>decide (1<(HA (g p.1 p.2)).length))=none) (fun d h'=>h'=h++[.lst ((BA c).map sA)]/\∃p,tE c g=some p/\d=sA p) (BA c) (by
  rintro k l h' ⟨_,rfl,_⟩;exact hl) (by
  rintro k x hx l h' ⟨⟨y,rfl⟩,rfl,nf⟩;rcases body x (mem_of_getElem? hx) False with bb | bb
  · refine⟨_,bb,?_⟩;by_cases z:decide (1<(HA (g x.1 x.2)).length)=true
    · rw[if_pos z];refine⟨rfl,x,?_,rfl⟩;unfold tE;rw[<- take_append_drop k (BA c),find?_append,nf,Option.none_or];have:(BA c).drop k=x::(BA c).drop (k+1):=by obtain⟨q1,q2⟩:=zed hx;rw[<- q2];exact drop_eq_getElem_cons q1
      rw[this,find?_cons,z]
    · rw[if_neg z];refine⟨⟨_,rfl⟩,rfl,?_⟩;rw[FK hx,find?_append,nf,Option.none_or,find?_cons];simp only[show decide (1<(HA (g x.1 x.2)).length)=false by simpa using z];rfl
  · exact bb.elim) [some (.ref (b+c)),none] (h++[.lst ((BA c).map sA)]) ⟨⟨_,rfl⟩,rfl,rfl⟩
 have fl:=N.len;cases r with
 | nx l' h'=>obtain⟨_,rfl,nf⟩:=er;rw[take_length]at nf;have:tE c g=none:=nf;rw[this];simp only[eK,nM,sB,zd3,zd4,if_true,zd5,zd6,Nat.reduceAdd,Nat.reduceSub,List.replicate,zec,zeb,XA,iE,SD,aB,UA,NA,vC,pA,zd1,qA,lA,fl,zei,ep,yF hl,e,YA,CB,EA,MB]
 | rt d h'=>obtain⟨rfl,p,e1,rfl⟩:=er;rw[e1];simp only[eK,nM,sB,zd3,zd4,if_true,zd5,zd6,Nat.reduceAdd,Nat.reduceSub,List.replicate,zec,zeb,XA,iE,SD,aB,UA,NA,vC,pA,zd1,qA,lA,fl,zei,ep,yF hl,e,qF,MB]
 | bk l' h'=>exact er.elim
 | ct l' h'=>exact er.elim
inductive Fact where
 | ways (m:WB)
 | long (x:Ln)
 | one (g:List WB)
def Ud(h:HI)(d:Dt):Fact->Prop
 | .ways m=>d=KA m
 | .long x=>d=.tup [.str "long", .int (x.1:Nat),.int x.2.1,.int x.2.2]
 | .one g=>∃gd,d=.tup [.str "one",gd]/\Zn h gd g
theorem Ud.up{h h':HI}{d:Dt}{f:Fact}(q:Ud h d f)(u:Wc h h'):Ud h' d f:=by
 cases f with
 | ways m=>exact q
 | long x=>exact q
 | one g=>obtain⟨gd,e,q⟩:=q;exact⟨gd,e,q.up u⟩
def bG(c:Nat):Fact->Prop
 | .ways m=>jD c m
 | .long x=>x.1<c
 | .one g=>∀m∈g,jD c m
inductive Gf(h:HI):List Dt->List Fact->Prop where
 | nil:Gf h [] []
 | cons {d:Dt} {f:Fact} {ds:List Dt} {fs:List Fact} (a:Ud h d f) (r:Gf h ds fs):Gf h (d::ds) (f::fs)
theorem Gf.up{h h':HI}{ds:List Dt}{fs:List Fact}(q:Gf h ds fs)(u:Wc h h'):Gf h' ds fs:=by
 induction q with
 | nil=>exact .nil
 | cons a r ih=>exact .cons (a.up u) ih
theorem Gf.len{h:HI}{ds:List Dt}{fs:List Fact}(q:Gf h ds fs):ds.length=fs.length:=by
 induction q with
 | nil=>rfl
 | cons a r ih=>simp[ih]
theorem Gf.get{h:HI}{ds:List Dt}{fs:List Fact}(q:Gf h ds fs):∀{k:Nat}{d:Dt},ds[k]?=some d->∃f,fs[k]?=some f/\Ud h d f:=by
 induction q with
 | nil=>intro k d e;simp at e
 | cons a r ih=>
  intro k d e;cases k with
  | zero=>simp at e;subst e;exact⟨_,by simp,a⟩
  | succ k=>exact(by obtain⟨f,e1,e2⟩:=ih (k:=k) (by simpa using e);exact⟨f,by simpa using e1,e2⟩)
theorem Gf.snoc{h:HI}{ds:List Dt}{fs:List Fact}(q:Gf h ds fs){d:Dt}{f:Fact}(a:Ud h d f):Gf h (ds++[d]) (fs++[f]):=by
 induction q with
 | nil=>exact .cons a .nil
 | cons b r ih=>exact .cons b ih
noncomputable def dP:Fact->Bool
 | .ways _=>true
 | _=>false
noncomputable def JL:Fact->Bool
 | .long _=>true
 | _=>false
noncomputable def KL:Fact->Bool
 | .one _=>true
 | _=>false
theorem Qh:decide ((("long" :Str))=(("ways" :Str)))=false:=by decide +kernel
theorem Uh:decide ((("one" :Str))=(("ways" :Str)))=false:=by decide +kernel
theorem Et:decide ((("ways" :Str))=(("long" :Str)))=false:=by decide +kernel
theorem Sh:decide ((("one" :Str))=(("long" :Str)))=false:=by decide +kernel
theorem Ft:decide ((("ways" :Str))=(("one" :Str)))=false:=by decide +kernel
theorem Ph:decide ((("long" :Str))=(("one" :Str)))=false:=by decide +kernel
theorem L1 {h:HI} {d:Dt} {f:Fact} (q:Ud h d f) (l:LI) (k:HI) (i:Nat) (hi:l[i]?=some (some d)):e2 XC (e2 uA (eV i) (eC (.int 0))) (eC (.str "ways")) l k=some (.bl (dP f),k):=by
 cases f with
 | ways m=>rw[show d=KA m from q]at hi;simp only[CA,pA,hi,qA,lA,EA,KA,HB,UB,zd1,zd9,eF,decide_true,dP]
 | long x=>rw[show d=_ from q]at hi;simp only[CA,pA,hi,qA,lA,EA,HB,UB,zd1,zd9,eF,Qh,dP]
 | one g=>obtain⟨gd,rfl,_⟩:=q;simp only[CA,pA,hi,qA,lA,EA,HB,UB,zd1,zd9,eF,Uh,dP]
theorem J1 {h:HI} {d:Dt} {f:Fact} (q:Ud h d f) (l:LI) (k:HI) (i:Nat) (hi:l[i]?=some (some d)):e2 XC (e2 uA (eV i) (eC (.int 0))) (eC (.str "long")) l k=some (.bl (JL f),k):=by
 cases f with
 | ways m=>rw[show d=KA m from q]at hi;simp only[CA,pA,hi,qA,lA,EA,KA,HB,UB,zd1,zd9,eF,Et,JL]
 | long x=>rw[show d=_ from q]at hi;simp only[CA,pA,hi,qA,lA,EA,HB,UB,zd1,zd9,eF,decide_true,JL]
 | one g=>obtain⟨gd,rfl,_⟩:=q;simp only[CA,pA,hi,qA,lA,EA,HB,UB,zd1,zd9,eF,Sh,JL]
theorem K1 {h:HI} {d:Dt} {f:Fact} (q:Ud h d f) (l:LI) (k:HI) (i:Nat) (hi:l[i]?=some (some d)):e2 XC (e2 uA (eV i) (eC (.int 0))) (eC (.str "one")) l k=some (.bl (KL f),k):=by
 cases f with
 | ways m=>rw[show d=KA m from q]at hi;simp only[CA,pA,hi,qA,lA,EA,KA,HB,UB,zd1,zd9,eF,Ft,KL]
 | long x=>rw[show d=_ from q]at hi;simp only[CA,pA,hi,qA,lA,EA,HB,UB,zd1,zd9,eF,Ph,KL]
 | one g=>obtain⟨gd,rfl,_⟩:=q;simp only[CA,pA,hi,qA,lA,EA,HB,UB,zd1,zd9,eF,decide_true,KL]
def rC(f:Nat->Nat->Nat):List Fact->(Nat->Nat->Nat)
 | []=>f
 | .ways m::fs=>rC (gB f m.1 m.2.1 m.2.2) fs
 | _::fs=>rC f fs
theorem tK(x:Fact):∀(fs:List Fact)(f:Nat->Nat->Nat),rC f (fs++[x])=rC (rC f fs) [x]
 | [],f=>rfl
 | .ways m::fs,f=>tK x fs _
 | .long m::fs,f=>tK x fs _
 | .one m::fs,f=>tK x fs _
theorem ZI{c:Nat}:∀(fs:List Fact)(_:∀x∈fs,bG c x)(f:Nat->Nat->Nat),SA c f->SA c (rC f fs)
 | [],_,f,o=>o
 | .ways m::fs,h,f,o=>by obtain⟨a,b,d,_⟩:=h (.ways m) (by simp);exact ZI fs (fun x hx=>h x (by simp[hx])) _ (dG o a b d _)
 | .long m::fs,h,f,o=>ZI fs (fun x hx=>h x (by simp[hx])) _ o
 | .one m::fs,h,f,o=>ZI fs (fun x hx=>h x (by simp[hx])) _ o
theorem P4{h:HI}{a c:Nat}(hc:c<=1000){ds:List Dt}(ha:h[a]?=some (.lst ds)){fs:List Fact}(F:Gf h ds fs)(ok:∀x∈fs,bG c x) :
 ∃b h',oK [.int (c:Nat),.ref a] h=some (.ref (b+c),h')/\Xr h' b c (rC kB fs)/\Up h h':=by
 have ew:=sY hc h;have U0:Up h (h++RC h.length c kB):=Up.app _ _;have M0:=OF h c kB;have mp:ds=ds.map id:=by simp
 obtain⟨l',h',e,b',y,rfl,N',U⟩:=DO (i:=3) (n:=a) (body:=iK) id (fun k l h'=>∃b' y,l=[some (.int (c:Nat)),some (.ref a),some (.ref (b'+c)),y]/\Xr h' b' c (rC kB (fs.take k))/\Up h h') ds (by
  rintro k l h' ⟨b',y,rfl,N',U⟩;rw[<- mp];exact U.get ha) (by
  rintro k d hd l h' ⟨b',y,rfl,N',U⟩;obtain⟨x,hx,q⟩:=F.get hd;have tw:=L1 q [some (.int (c:Nat)),some (.ref a),some (.ref (b'+c)),some d] h' 3 rfl;have okx:=ok x (mem_of_getElem? hx);have eq:rC kB (fs.take (k+1))=rC (rC kB (fs.take k)) [x]:=by rw[FK hx,tK]
  have LL:([some (.int (c:Nat)),some (.ref a),some (.ref (b'+c)),y]:LI).set 3 (some (id d))=[some (.int (c:Nat)),some (.ref a),some (.ref (b'+c)),some d]:=rfl;rw[LL];cases x with
  | ways m=>obtain⟨a1,a2,a3,a4⟩:=okx;have qd:d=KA m:=q;have en:=yK N' hc a1 a2 m.2.1;have M:=OF h' c (gB (rC kB (fs.take k)) m.1 m.2.1 m.2.2);refine⟨.nx [some (.int (c:Nat)),some (.ref a),some (.ref (h'.length+c)),some d] (h'++RC h'.length c (gB (rC kB (fs.take k)) m.1 m.2.1 m.2.2)),?_,h'.length,_,rfl,by rw[eq];exact M,U.trans (Up.app _ _)⟩;have m2:Xd [Dt.str "ways",Dt.int (m.1:Nat),Dt.int (m.2.1:Nat),Dt.int (m.2.2:Nat)] 2=some (.int (m.2.1:Nat)):=rfl;have m1:Xd [Dt.str "ways",Dt.int (m.1:Nat),Dt.int (m.2.1:Nat),Dt.int (m.2.2:Nat)] 1=some (.int (m.1:Nat)):=rfl;have m3:Xd [Dt.str "ways",Dt.int (m.1:Nat),Dt.int (m.2.1:Nat),Dt.int (m.2.2:Nat)] 3=some (.int (m.2.2:Nat)):=rfl;unfold iK;rw[NB,dB,tw];rw[qd];simp only[dP,lA,iB,if_true,fB,aB,UA,NA,CA,pA,EA,zd1,zd2,qA,KA,HB,m1,m2,m3,zd9,zei,en,zd8,zd7]
  | long m=>refine⟨.nx [some (.int (c:Nat)),some (.ref a),some (.ref (b'+c)),some d] h',?_,b',_,rfl,by rw[eq];exact N',U⟩;unfold iK;rw[NB,dB,tw];simp only[dP,lA,iB,zej,if_false,KC]
  | one m=>
   refine⟨.nx [some (.int (c:Nat)),some (.ref a),some (.ref (b'+c)),some d] h',?_,b',_,rfl,by rw[eq];exact N',U⟩;unfold iK;rw[NB,dB,tw];simp only[dP,lA,iB,zej,if_false,KC]) [some (.int (c:Nat)),some (.ref a),some (.ref (h.length+c)),none] (h++RC h.length c kB) ⟨h.length,_,rfl,M0,U0⟩
 rw[F.len,take_length]at N';refine⟨b',h',?_,N',U⟩;simp only[oK,uQ,sB,zd3,zd4,if_true,zd5,zd6,Nat.reduceAdd,Nat.reduceSub,List.replicate,zec,zeb,XA,fB,aB,UA,NA,pA,zd1,zd2,qA,lA,zei,ew,YA,zd8,zd7,iE,SD,yF (U0.get ha),e,CB,MB]
theorem YV{te:RE}{tc:RT}{n:Nat}(p:Fact->Bool)(Fd:Dt->Fact->Dt){ds:List Dt}{fs:List Fact}(l:LI)(h:HI)(F:Gf h ds fs)(e:h[n]?=some (.lst ds))(hx:ds.length<sizeLine)
 (H:∀d f,Ud h d f->f∈fs->tc (l.set 0 (some d)) h=some (p f,h)/\(p f=true->te (l.set 0 (some d)) h=some (Fd d f,h))) :
 ZD (AA 0) tc te l (.rf n,h)=some (((ds.zip fs).filter fun x=>p x.2).map fun x=>Fd x.1 x.2,h):=by
 have go:∀(m k:Nat)(l':LI),(∀d,l'.set 0 d=l.set 0 d)->m=ds.length-k+1->k<=ds.length->∀ys:List Dt,ys.length<=k->ys=((((ds.zip fs).take k).filter fun x=>p x.2).map fun x=>Fd x.1 x.2)->aE (AA 0) tc te (.rf n) m k l' h ys=some (((ds.zip fs).filter fun x=>p x.2).map fun x=>Fd x.1 x.2,h):=by
  intro m
  induction m with
  | zero=>intro k l' _ e;omega
  | succ m ih=>
   intro k l' hl' hm hk ys yl yy;unfold aE;simp only[Src.at,e];by_cases hlt:k<ds.length
   · obtain⟨f,hf,q⟩:=F.get (getElem?_eq_getElem hlt);have hz:(ds.zip fs)[k]?=some (ds[k],f):=by rw[getElem?_zip_eq_some];exact⟨getElem?_eq_getElem hlt,hf⟩
     obtain⟨t1,t2⟩:=H ds[k] f q (mem_of_getElem? hf);rw[getElem?_eq_getElem hlt];simp only[SF,zea,hl',t1];by_cases z:p f=true
     · rw[if_pos z];simp only[t2 z,zea];rw[if_pos (by omega)];refine ih (k+1) _ (fun d=>by rw[set_set]) (by omega) (by omega) _ (by simp;omega) ?_;rw[FK hz,filter_append,map_append,<- yy];simp[z]
     · rw[if_neg z];refine ih (k+1) _ (fun d=>by rw[set_set]) (by omega) (by omega) _ (by omega) ?_;rw[FK hz,filter_append,map_append,<- yy];simp[z]
   · rw[getElem?_eq_none (by omega)];have lz:(ds.zip fs).length=ds.length:=by rw[length_zip,F.len];omega
     rw[take_of_length_le (by omega)]at yy;rw[yy]
 have hf:Src.fuel (.rf n) h=ds.length-0+1:=by simp only[Src.fuel,e];omega
 unfold ZD;simp only[hf];exact go _ 0 l (fun _=>rfl) rfl (Nat.zero_le _) [] (by simp) (by simp)
def eE:List Fact->List Ln
 | []=>[]
 | .long x::fs=>x::eE fs
 | _::fs=>eE fs
def fG:List Fact->List (List WB)
 | []=>[]
 | .one g::fs=>g::fG fs
 | _::fs=>fG fs
def Eh:Fact->Dt
 | .long x=>kC x
 | _=>.non
noncomputable def Dh:Dt->Dt
 | .tup [_,x]=>x
 | _=>.non
theorem F4{h:HI}{a:Nat}{ds:List Dt}(ha:h[a]?=some (.lst ds))(hz:ds.length<sizeLine){fs:List Fact}(F:Gf h ds fs):JM [.ref a] h=some (.lst ((eE fs).map kC),h):=by
 have ck:=YV (te:=LU) (tc:=RP) JL (fun _ f=>Eh f) [none] h F ha hz (by
  intro d f q _;refine⟨?_,fun z=>?_⟩
  · unfold RP;rw[dB,J1 q _ _ 0 rfl];rfl
  · cases f with
    | long x=>rw[show d=_ from q];rfl
    | ways m=>cases z
    | one g=>cases z)
 have eq:∀(ds:List Dt)(fs:List Fact),Gf h ds fs->((ds.zip fs).filter fun x=>JL x.2).map (fun x=>Eh x.2)=(eE fs).map kC:=by
  intro ds fs F
  induction F with
  | nil=>rfl
  | @cons d f ds fs a r ih=>
   rw[zip_cons_cons,filter_cons];cases f with
   | long x=>rw[if_pos (show JL (Fact.long x)=true from rfl),zd5,ih];rfl
   | ways m=>rw[if_neg (show ¬JL (Fact.ways m)=true from zef),ih];rfl
   | one g=>rw[if_neg (show ¬JL (Fact.one g)=true from zef),ih];rfl
 rw[eq _ _ F]at ck;simp only[JM,jQ,sB,zd3,zd4,if_true,zd5,zd6,Nat.reduceAdd,Nat.reduceSub,List.replicate,zec,zeb,zei,CB,GG,SD,pA,zd1,qA,lA,yF ha,xF,zF,ck,MB]
inductive Vf(h:HI):List Dt->List (List WB)->Prop where
 | nil:Vf h [] []
 | cons {d:Dt} {g:List WB} {ds:List Dt} {gs:List (List WB)} (a:Zn h d g) (r:Vf h ds gs):Vf h (d::ds) (g::gs)
theorem Vf.up{h h':HI}{ds:List Dt}{gs:List (List WB)}(q:Vf h ds gs)(u:Wc h h'):Vf h' ds gs:=by
 induction q with
 | nil=>exact .nil
 | cons a r ih=>exact .cons (a.up u) ih
theorem Q4{h:HI}{a:Nat}{ds:List Dt}(ha:h[a]?=some (.lst ds))(hz:ds.length<sizeLine){fs:List Fact}(F:Gf h ds fs):∃Bc,Vf h Bc (fG fs)/\pK [.ref a] h=some (.lst Bc,h):=by
 have ck:=YV (te:=TU) (tc:=oQ) KL (fun d _=>Dh d) [none] h F ha hz (by
  intro d f q _;refine⟨?_,fun z=>?_⟩
  · unfold oQ;rw[dB,K1 q _ _ 0 rfl];rfl
  · cases f with
    | one g=>obtain⟨gd,rfl,_⟩:=q;rfl
    | ways m=>cases z
    | long x=>cases z)
 refine⟨((ds.zip fs).filter fun x=>KL x.2).map fun x=>Dh x.1,?_,?_⟩
 rotate_left
 · simp only[pK,vQ,sB,zd3,zd4,if_true,zd5,zd6,Nat.reduceAdd,Nat.reduceSub,List.replicate,zec,zeb,zei,CB,GG,SD,pA,zd1,qA,lA,yF ha,xF,zF,ck,MB]
 · clear ck ha hz
   induction F with
   | nil=>exact .nil
   | @cons d f ds fs a r ih=>
    rw[zip_cons_cons,filter_cons];cases f with
    | one g=>obtain⟨gd,rfl,q⟩:=a;rw[if_pos (show KL (Fact.one g)=true from rfl),zd5];exact .cons q ih
    | ways m=>rw[if_neg (show ¬KL (Fact.ways m)=true from zef)];exact ih
    | long x=>rw[if_neg (show ¬KL (Fact.long x)=true from zef)];exact ih
theorem X6{α:Type}{te:RE}{i n:Nat}(D F:α->Dt)(xs:List α)(l:LI)(h:HI)(e:h[n]?=some (.lst (xs.map D)))(hx:xs.length<sizeLine)(H:∀x∈xs,te (l.set i (some (D x))) h=some (F x,h)) :
 ZD (AA i) QB te l (.rf n,h)=some (xs.map F,h):=by
 have go:∀(m k:Nat)(l':LI),(∀d,l'.set i d=l.set i d)->m=xs.length-k+1->k<=xs.length->aE (AA i) QB te (.rf n) m k l' h ((xs.take k).map F)=some (xs.map F,h):=by
  intro m
  induction m with
  | zero=>intro k l' _ e;omega
  | succ m ih=>
   intro k l' hl' hm hk;unfold aE;simp only[Src.at,e,getElem?_map];by_cases hlt:k<xs.length
   · rw[getElem?_eq_getElem hlt];have hx':=H xs[k] (getElem_mem hlt);have ln:((xs.take k).map F).length<sizeLine:=by rw[length_map,length_take];omega
     simp only[zd9,SF,zea,WN,if_true,hl',hx',if_pos ln];have:=ih (k+1) (l.set i (some (D xs[k]))) (fun d=>by rw[set_set]) (by omega) (by omega);rw[take_add_one,getElem?_eq_getElem hlt,map_append]at this;exact this
   · rw[getElem?_eq_none (by omega)];have:k=xs.length:=by omega
     subst this;simp only[Option.map_none,take_length]
 have hf:Src.fuel (.rf n) h=xs.length-0+1:=by simp only[Src.fuel,e,length_map];omega
 unfold ZD;have:=go (xs.length-0+1) 0 l (fun _=>rfl) rfl (Nat.zero_le _);simp only[hf];exact this
inductive Uc{α β:Type}(R:α->β->Prop):List α->List β->Prop where
 | nil:Uc R [] []
 | cons {a:α} {b:β} {as:List α} {bs:List β} (h:R a b) (r:Uc R as bs):Uc R (a::as) (b::bs)
theorem Uc.imp{α β:Type}{R S:α->β->Prop}(i:∀a b,R a b->S a b){as:List α}{bs:List β}(h:Uc R as bs):Uc S as bs:=by
 induction h with
 | nil=>exact .nil
 | cons a r ih=>exact .cons (i _ _ a) ih
theorem Uc.Ub{α β γ:Type}{R:γ->β->Prop}{f:α->γ}:∀{as:List α}{bs:List β},Uc (fun a b=>R (f a) b) as bs->Uc R (as.map f) bs
 | _,_,.nil=>.nil
 | _,_,.cons h r=>.cons h (Uc.Ub r)
theorem PQ{α:Type}{te:RE}(D:α->Dt)(P:HI->α->Dt->Prop)(up:∀h h' x d,Up h h'->P h x d->P h' x d):∀(xs:List α)(l:LI)(h:HI),(∀x∈xs,∀h',Up h h'->∃d h2,te (l.set 0 (some (D x))) h'=some (d,h2)/\Up h' h2/\P h2 x d)->
 ∃ds h',kE (AA 0) QB te (xs.map D) l h=some (ds,h')/\Up h h'/\Uc (P h') xs ds
 | [],l,h,_=>⟨[],h,rfl,Up.refl h,.nil⟩
 | x::xs,l,h,H=>by
  obtain⟨d,h1,e1,u1,p1⟩:=H x (by simp) h (Up.refl h);obtain⟨ds,h2,e2,u2,p2⟩:=PQ D P up xs (l.set 0 (some (D x))) h1 (fun y hy h' u=>by
   rw[set_set];exact H y (by simp[hy]) h' (u1.trans u))
  refine⟨d::ds,h2,?_,u1.trans u2,.cons (up _ _ _ _ u2 p1) p2⟩;simp only[zd5,kE,SF,zea,WN,if_true,e1,e2]
noncomputable def Pn(h:HI)(c:Nat)(f:Nat->Nat->Nat)(d:Dt):Prop:=∃b,d=.ref (b+c)/\Xr h b c f
theorem Pn.up{h h':HI}{c:Nat}{f:Nat->Nat->Nat}{d:Dt}(n:Pn h c f d)(u:Wc h h'):Pn h' c f d:=by obtain⟨b,e,N⟩:=n;exact⟨b,e,u.net N⟩
def cD(c:Nat)(g:Nat->Nat->Nat):List (List WB)->Option (Option (Nat×Nat)×List (Nat->Nat->Nat)×List (Nat×Nat))
 | grp::_=>some (none,(List.range grp.length).map (AO g grp),grp.map fun m=>(m.1,m.2.2))
 | []=>match tE c g with
  | none=>none
  | some p=>some (some p,(HA (g p.1 p.2)).map fun w=>gB g p.1 (2^w) p.2,[p])
def WD(tag:Option (Nat×Nat))(Ac:List Dt)(ps:List (Nat×Nat)):Dt:=match tag with
 | none=>.tup [.str "one", .tup [],.lst Ac,.lst (ps.map sA)]
 | some p=>.tup [.str "split",sA p,.lst Ac,.lst (ps.map sA)]
theorem wV:∀g:List WB,rD (g.map KA)=true
 | []=>rfl
 | m::g=>by rw[zd5];simp only[rD,KA,yB,Bool.true_and];exact wV g
theorem aX:∀g:List WB,cF (g.map KA)<=1
 | []=>Nat.zero_le _
 | m::g=>by rw[zd5];have:=aX g;have e1:NH (KA m)=1:=rfl;simp only[cF,e1];omega
theorem bX(h:HI):∀g:List WB,xD (DB h 6) (g.map KA)=some (g.map KA)
 | []=>rfl
 | m::g=>by rw[zd5];have ih:=bX h g;have e1:DB h 6 (KA m)=some (KA m):=rfl;simp only[xD,e1,ih,zea,zd9]
theorem l9{h:HI}{ds:List Dt}{gs:List (List WB)}(q:Vf h ds gs):xD (DB h 7) ds=some (gs.map fun g=>.lst (g.map KA)):=by
 induction q with
 | nil=>rfl
 | @cons d g ds gs a r ih=>
  obtain⟨n,rfl,e⟩:=a;have e1:DB h 7 (.ref n)=some (.lst (g.map KA)):=by show(match h[n]? with | some (.lst xs)=>(xD (DB h 6) xs).map Dt.lst | _=>none)=_;rw[e];simp only[bX,zd9]
  simp only[xD,e1,ih,zea,zd9,zd5]
theorem hW:∀gs:List (List WB),rD (gs.map fun g=>.lst (g.map KA))=true
 | []=>rfl
 | g::gs=>by rw[zd5];simp only[rD,yB,wV,Bool.true_and];exact hW gs
theorem pW:∀gs:List (List WB),cF (gs.map fun g=>.lst (g.map KA))<=2
 | []=>Nat.zero_le _
 | g::gs=>by rw[zd5];have:=pW gs;have h1:=aX g;simp only[cF,NH];omega
theorem nq{h:HI}{ds:List Dt}{gs:List (List WB)}(q:Vf h ds gs):SH (.lst ds) (.lst []) h=some (.bl (!gs.isEmpty),h):=by
 have r1:DB h 8 (.lst ds)=some (.lst (gs.map fun g=>.lst (g.map KA))):=by show(xD (DB h 7) ds).map Dt.lst=_;rw[l9 q];rfl
 have r2:DB h 8 (.lst [])=some (.lst []):=by simp[DB,xD]
 have ok:DF (gs.map fun g=>Dt.lst (g.map KA)) []=true:=by unfold DF;rw[hW];have:=pW gs;simp[rD];omega
 rw[VY r1 r2 ok];cases gs with
 | nil=>rfl
 | cons p W=>rfl
theorem C6{h:HI}{b c:Nat}{g:Nat->Nat->Nat}(N:Xr h b c g)(og:SA c g)(hc:c<=100){Bc:List Dt}{gs:List (List WB)}(Q:Vf h Bc gs)(ok:∀x∈gs,∀m∈x,jD c m)(sm:∀x∈gs,x.length<=1000) :
 ∃h',Up h h'/\match cD c g gs with
  | none=>pH [.ref (b+c),.lst Bc] h=some (.non,h')
  | some (tag,bs,ps)=>∃Ac,Uc (Pn h' c) bs Ac/\pH [.ref (b+c),.lst Bc] h=some (WD tag Ac ps,h'):=by
 have ne:=nq Q;cases Q with
 | @cons d grp ds gs' a r=>
  obtain⟨n,rfl,en⟩:=a;have gl:=sm grp (by simp);have gok:=ok grp (by simp);have er:=fun h=>AF (h:=h) (show(-(2^62):Int)<=(grp.length:Int) by omega) (show(grp.length:Int)<2^62 by omega)
  simp only[Int.toNat_natCast]at er;obtain⟨Ac,h',e,U,A⟩:=PQ (te:=FM) (fun(k:Nat)=>Dt.int (k:Int)) (fun h k d=>Pn h c (AO g grp k) d) (fun h h' k d u q=>q.up u.l) (List.range grp.length) [none,some (.ref (b+c)),some (.ref n)] h (by
   intro k _ h' u;obtain⟨b',h2,e,N',U'⟩:=P3 (u.net N) (by omega) (u.get en) gok k;refine⟨_,h2,?_,U',b',rfl,N'⟩;simp only[FM,aB,UA,NA,pA,zd7,zd1,zd2,qA,lA,zei,e])
  have ck:=oF (l:=[none,some (.ref (b+c)),some (.ref n)]) (h:=h) (AA 0) QB FM (xs:=(List.range grp.length).map fun(k:Nat)=>Dt.int (k:Int)) (by simp[sizeLine];omega);rw[e]at ck;have ck2:=X6 (te:=QU) (i:=0) KA (fun m:WB=>sA (m.1,m.2.2)) grp [none] h' (U.get en) (by simp[sizeLine];omega) (by
   intro m _;rfl)
  have fl:=vJ en;rw[length_map]at fl;refine⟨h',U,?_⟩;show ∃Ac,Uc (Pn h' c) ((List.range grp.length).map (AO g grp)) Ac/\pH [.ref (b+c),.lst (.ref n::ds)] h=some (WD none Ac (grp.map fun m=>(m.1,m.2.2)),h')
  refine⟨Ac,A.Ub,?_⟩;have pm:grp.map (fun m:WB=>sA (m.1,m.2.2))=(grp.map fun m=>(m.1,m.2.2)).map sA:=by rw[map_map];rfl
  rw[pm]at ck2;have sk:=yF (U.get en);simp only[pH,xK,sB,zd3,zd4,if_true,zd5,zd6,Nat.reduceAdd,Nat.reduceSub,List.replicate,zec,zeb,XA,NB,dB,CA,pA,EA,KG,NA,zd1,zd2,qA,lA,Nat.zero_le,ne,isEmpty_cons,Bool.not_false,iB,fB,vI,UB,zd9,zd8,zd7,YA,GG,lI,vC,fl,er,xF,dJ,zF,Option.join_some,ck,CB,RD,UA,SD,sk,ck2,qF,MB];rfl
 | nil=>
  obtain⟨h1,e1,U1⟩:=N3 N (show c<=1000 by omega);have cn:∀k:HI->Option Rs,True:=fun _=>trivial
  cases lp:tE c g with
  | none=>
   rw[lp]at e1;refine⟨h1,U1,?_⟩;have sp:cD c g []=none:=by simp only[cD,lp]
   rw[sp];simp only[pH,xK,sB,zd3,zd4,if_true,zd5,zd6,Nat.reduceAdd,Nat.reduceSub,List.replicate,zec,zeb,XA,NB,dB,CA,pA,EA,KG,NA,zd1,zd2,qA,lA,Nat.zero_le,ne,isEmpty_nil,Bool.not_true,iB,zej,if_false,KC,YA,fB,aB,UA,zei,e1,zd8,zd7,MG,TF,CB,qF,MB]
  | some p=>
   rw[lp]at e1;have sp:cD c g []=some (some p,(HA (g p.1 p.2)).map (fun w=>gB g p.1 (2^w) p.2),[p]):=by simp only[cD,lp]
   rw[sp];have hp:p∈BA c:=mem_of_find?_eq_some lp;obtain⟨p1,p2⟩:=VR hp;have N1:=U1.net N;obtain⟨Ac,h',e,U,A⟩:=PQ (te:=HM) (fun(w:Nat)=>Dt.int (w:Int)) (fun h w d=>Pn h c (gB g p.1 (2^w) p.2) d) (fun h h' k d u q=>q.up u.l) (HA (g p.1 p.2)) [none,some (.ref (b+c)),some (sA p)] h1 (by
    intro w hw h' u;have wl:=(Df.mp hw).1;have en:=yK (u.net N1) (show c<=1000 by omega) p1 p2 (2^w);refine⟨_,_,?_,Up.app _ _,h'.length,rfl,OF h' c _⟩;have sh:=CJ (h:=h') (CI wl);have pw:(1:Int)*2^w=((2^w:Nat):Int):=by simp
    simp only[HM,aB,UA,NA,CA,EA,pA,zd7,zd1,zd2,qA,lA,sA,HB,UB,YD,zd9,sh,Int.toNat_natCast,pw,zei,en])
   have wl:=GK (g p.1 p.2);have ck:=oF (l:=[none,some (.ref (b+c)),some (sA p)]) (h:=h1) (AA 0) QB HM (xs:=(HA (g p.1 p.2)).map fun(w:Nat)=>Dt.int (w:Int)) (by simp[sizeLine];omega);rw[e]at ck;have i1:=fF N1.top (p.1:Int);rw[SM.CC,MN p1,zd9]at i1;have i2:=fF (N1.row _ p1) (p.2:Int);rw[SM.CC,TK p2,zd9]at i2;refine⟨h',U1.trans U,Ac,A.Ub,?_⟩;have np:TF (sA p)=false:=rfl;have x0:uA (sA p) (.int 0) h1=some (.int (p.1:Nat),h1):=rfl;have x1:uA (sA p) (.int 1) h1=some (.int (p.2:Nat),h1):=rfl;simp only[pH,xK,sB,zd3,zd4,if_true,zd5,zd6,Nat.reduceAdd,Nat.reduceSub,List.replicate,zec,zeb,XA,NB,dB,CA,pA,EA,KG,NA,zd1,zd2,qA,lA,Nat.zero_le,ne,isEmpty_nil,Bool.not_true,iB,zej,if_false,KC,YA,fB,aB,UA,zei,e1,zd8,zd7,MG,np,x0,x1,i1,i2,GG,SD,DK,EG,xF,dJ,zF,Option.join_some,ck,CB,RD,MB];rfl
theorem A8{c nb:Nat}(hc:c<=100){N:Nat->Nat->Nat}{ls:List Ln}(hl:ls.length<=1000){h:HI}(NN:Xr h nb c N)(x1 x4:Option Dt):∃y rest,AC (AA 3) UM (ls.map kC) [some (.ref (nb+c)),x1,some (.ref h.length),none,x4] (h++[.lst ((ZC c).map gA)]) =
 some (.nx [some (.ref (nb+c)),x1,some (.ref h.length),y,x4] (h++.lst ((ZC c++ls.flatMap (EC (2*c+1))).map gA)::rest)):=by
 have ol:(ZC c).length=c:=by simp[ZC]
 obtain⟨l',h',e,⟨y,rfl⟩,rest,rfl,_⟩:=YK (i:=3) (body:=UM) kC (fun k l h'=>(∃y,l=[some (.ref (nb+c)),x1,some (.ref h.length),y,x4])/\∃rest,h'=h++.lst ((ZC c++(ls.take k).flatMap (EC (2*c+1))).map gA)::rest/\((ls.take k).flatMap (EC (2*c+1))).length<=2*k) ls 0 (by
  rintro k x hx l h' ⟨⟨y,rfl⟩,rest,rfl,hk⟩;rw[Nat.zero_add]at hk ⊢;have kl:k<ls.length:=(zed hx).1;have l2:(EC (2*c+1) x).length=2:=rfl;have nl:=(NN.grow (.lst ((ZC c++(ls.take k).flatMap (EC (2*c+1))).map gA)::rest)).len;have eb:=X2 x.1 x.2.1 x.2.2 (g:=2*c+1) (by omega) (h++.lst ((ZC c++(ls.take k).flatMap (EC (2*c+1))).map gA)::rest);have x1:=uS (h:=h) (F:=ZC c++(ls.take k).flatMap (EC (2*c+1))) (G:=EC (2*c+1) x) (rest:=rest) (Vb:=[]) (l:=[some (.ref (nb+c)),x1,some (.ref h.length),some (kC x),x4]) (g:=xA nK [] (bA (eV 3) (bA (xA IK [] (bA (MC sC (eV 0)) (eA))) (eA)))) (by rw[length_append,ol,l2];omega) (by
   simp only[aB,UA,NA,vC,pA,zd1,zd2,qA,lA,nl,Jx,zei,kC];exact eb)
  refine⟨.nx [some (.ref (nb+c)),_,some (.ref h.length),some (kC x),x4] (h++.lst ((ZC c++(ls.take (k+1)).flatMap (EC (2*c+1))).map gA)::(rest++[.lst ((EC (2*c+1) x).map gA)])),?_,⟨some (kC x),rfl⟩,rest++[.lst ((EC (2*c+1) x).map gA)],rfl,?_⟩
  · rw[hJ _ hx,<- append_assoc];simp only[UM,JE,tN,pA,zd8,zd7,zd1,zd2,qA,lA,x1]
  · rw[hJ _ hx,length_append,l2];omega) [some (.ref (nb+c)),x1,some (.ref h.length),none,x4] (h++[.lst ((ZC c).map gA)]) ⟨⟨_,rfl⟩,[],by simp,by simp⟩
 rw[Nat.zero_add,take_length]at *;exact⟨y,rest,e⟩
theorem N7{c nb b:Nat}(hc:c<=100){N:Nat->Nat->Nat}(hN:∀i j,i<c->j<c->HA (N i j) ≠ []){h:HI}(NN:Xr h nb c N){F:List Bd}(hF:F.length<=3000){r0:List Ob}(db:∀G:List Bd,∀r2:List Ob,(h++.lst (G.map gA)::(r0++r2))[b]?=some (.lst ((BA c).map sA)))(x1 y3:Option Dt)(pl:(BA c).length<=10000)(pin:∀p∈BA c,p.1<c/\p.2<c) :
 ∃y rest,dE (AA 4) WH [some (.ref (nb+c)),x1,some (.ref h.length),y3,none] (.rf b,h++.lst (F.map gA)::r0) =
 some (.nx [some (.ref (nb+c)),x1,some (.ref h.length),y3,y] (h++.lst ((F++(BA c).flatMap fun p=>yC p.1 (N p.1 p.2) p.2).map gA)::rest)):=by
 obtain⟨l',h',e,⟨y,rfl⟩,r2,rfl,_⟩:=DO (i:=4) (n:=b) (body:=WH) sA (fun k l h'=>(∃y,l=[some (.ref (nb+c)),x1,some (.ref h.length),y3,y])/\∃r2,h'=h++.lst ((F++((BA c).take k).flatMap fun p=>yC p.1 (N p.1 p.2) p.2).map gA)::(r0++r2)/\(((BA c).take k).flatMap fun p=>yC p.1 (N p.1 p.2) p.2).length<=8*k) (BA c) (by
  rintro k l h' ⟨_,r2,rfl,_⟩;exact db _ r2) (by
  rintro k x hx l h' ⟨⟨y,rfl⟩,r2,rfl,hk⟩;have kl:k<(BA c).length:=(zed hx).1;obtain⟨p1,p2⟩:=pin x (mem_of_getElem? hx);have l8:(yC x.1 (N x.1 x.2) x.2).length<=8:=by unfold yC;rw[length_append];have:=dI x.1 x.2 0 (N x.1 x.2);have:=dI x.1 x.2 1 (N x.1 x.2);omega
  have NG:=NN.grow (.lst ((F++((BA c).take k).flatMap fun p=>yC p.1 (N p.1 p.2) p.2).map gA)::(r0++r2));obtain⟨rs,eb⟩:=SU x.1 (N x.1 x.2) x.2 (by omega) (by omega) (hN _ _ p1 p2) (h++.lst ((F++((BA c).take k).flatMap fun p=>yC p.1 (N p.1 p.2) p.2).map gA)::(r0++r2));have i1:=fF NG.top (x.1:Int);rw[SM.CC,MN p1,zd9]at i1;have i2:=fF (NG.row _ p1) (x.2:Int);rw[SM.CC,TK p2,zd9]at i2;have xx:=uS (h:=h) (F:=F++((BA c).take k).flatMap fun p=>yC p.1 (N p.1 p.2) p.2) (G:=yC x.1 (N x.1 x.2) x.2) (rest:=r0++r2) (Vb:=rs) (l:=[some (.ref (nb+c)),x1,some (.ref h.length),y3,some (sA x)]) (g:=xA XI [] (bA (e2 uA (eV 4) (eC (.int 0))) (bA (e2 uA (e2 uA (eV 0) (e2 uA (eV 4) (eC (.int 0)))) (e2 uA (eV 4) (eC (.int 1)))) (bA (e2 uA (eV 4) (eC (.int 1))) (eA))))) (by rw[length_append];omega) (by
   simp only[aB,UA,NA,CA,EA,pA,zd1,zd2,qA,lA,sA,HB,UB,YD,zd9,i1,i2,zei];exact eb)
  refine⟨.nx [some (.ref (nb+c)),x1,some (.ref h.length),y3,some (sA x)] (h++.lst ((F++((BA c).take (k+1)).flatMap fun p=>yC p.1 (N p.1 p.2) p.2).map gA)::(r0++(r2++.lst ((yC x.1 (N x.1 x.2) x.2).map gA)::rs))),?_,⟨_,rfl⟩,_,rfl,?_⟩
  · rw[hJ _ hx,<- append_assoc,<- append_assoc];simp only[WH,JE,tN,pA,zd8,zd7,zd1,zd2,qA,lA,xx]
  · rw[hJ _ hx,length_append];omega) [some (.ref (nb+c)),x1,some (.ref h.length),y3,none] (h++.lst (F.map gA)::r0) ⟨⟨_,rfl⟩,[],by simp,by simp⟩
 rw[take_length]at e;exact⟨y,_,e⟩
theorem f7{c nb:Nat}(hc:c<=100){N:Nat->Nat->Nat}(hN:∀i j,i<c->j<c->HA (N i j) ≠ []){ls:List Ln}(hl:ls.length<=1000){h:HI}(NN:Xr h nb c N) :
 ∃rest,vN [.ref (nb+c),.lst (ls.map kC)] h=some (.ref h.length,h++.lst ((uD c N ls).map gA)::rest):=by
 have nl:=NN.len;have er:=AF (h:=h) (show(-(2^62):Int)<=(c:Int) by omega) (show(c:Int)<2^62 by omega);simp only[Int.toNat_natCast]at er;have u:=fun(i:Int) (h:HI)=>UF (h:=h) (i:=2) (j:=i) (Or.inl ⟨by decide,by decide⟩)
 have ec:=mH (te:=NM) (tc:=QB) (i:=0) (fun(k:Nat)=>Dt.int (k:Int)) (fun k=>gA (2*k,2*k+1,-1)) h (List.range c) [none] (by
  intro k _;exact⟨by simp,by simp[NM,u,gA]⟩)
 have ek:=oF (l:=[none]) (h:=h) (AA 0) QB NM (xs:=(List.range c).map fun(k:Nat)=>Dt.int (k:Int)) (by simp;omega);rw[ec]at ek;have eo:(List.range c).map (fun k=>gA (2*k,2*k+1,-1))=(ZC c).map gA:=by unfold ZC;rw[map_map];rfl
 rw[eo]at ek;obtain⟨y,r0,e1⟩:=A8 hc hl NN (some (.lst (ls.map kC))) none;have nl2:=(NN.grow (.lst ((ZC c++ls.flatMap (EC (2*c+1))).map gA)::r0)).len;have ep:=VM (c:=c) (by omega) (h++.lst ((ZC c++ls.flatMap (EC (2*c+1))).map gA)::r0);have fl:(ls.flatMap (EC (2*c+1))).length<=2*ls.length:=by
  clear e1 ep ek nl2
  induction ls with
  | nil=>simp
  | cons x ls ih=>rw[flatMap_cons,length_append,zd3];have:(EC (2*c+1) x).length=2:=rfl;have:=ih (by simp at hl;omega);omega
 have pl:(BA c).length<=10000:=by have:=jJ c c;have h2:c*c<=100*100:=Nat.mul_le_mul hc hc;unfold BA;omega
 obtain⟨y4,rest,e2⟩:=N7 (b:=(h++Ob.lst ((ZC c++ls.flatMap (EC (2*c+1))).map gA)::r0).length) hc hN NN (F:=ZC c++ls.flatMap (EC (2*c+1))) (by simp[ZC]at fl ⊢;omega) (r0:=r0++[.lst ((BA c).map sA)]) (fun G r2=>by
  have:h++Ob.lst (G.map gA)::(r0++[Ob.lst ((BA c).map sA)]++r2)=(h++Ob.lst (G.map gA)::r0)++Ob.lst ((BA c).map sA)::r2:=by simp
  rw[this,zeh (by simp)];simp) (some (.lst (ls.map kC))) y pl (fun p hp=>VR hp)
 refine⟨rest,?_⟩;have es:(h++Ob.lst ((ZC c++ls.flatMap (EC (2*c+1))).map gA)::r0)++[Ob.lst ((BA c).map sA)]=h++Ob.lst ((ZC c++ls.flatMap (EC (2*c+1))).map gA)::(r0++[Ob.lst ((BA c).map sA)]):=by simp
 rw[es]at ep;have sk:=yF (h:=h++Ob.lst ((ZC c++ls.flatMap (EC (2*c+1))).map gA)::(r0++[Ob.lst ((BA c).map sA)])) (n:=(h++Ob.lst ((ZC c++ls.flatMap (EC (2*c+1))).map gA)::r0).length) (xs:=(BA c).map sA) (by
  rw[<- es,zeh (zeg _),Nat.sub_self];rfl)
 unfold uD;simp only[vN,yR,sB,zd3,zd4,if_true,zd5,zd6,Nat.reduceAdd,Nat.reduceSub,List.replicate,zec,zeb,XA,fB,WR,lI,vC,pA,zd1,zd2,qA,lA,nl,nl2,er,xF,zF,ek,zd8,zd7,YA,iE,SD,EG,NF,e1,aB,UA,NA,zei,ep,sk,e2,CB,MB]
theorem xJ(f:Nat->Nat->Nat){i j:Nat}(m:Nat)(hij:i≠j):gB f i m j i j=f i j&&&m:=by unfold gB wB;have:¬i=j:=hij;simp[this]
theorem lT(f:Nat->Nat->Nat)(i m j:Nat):gB f i m j j i=Cd (f i j&&&m):=by unfold gB wB;simp
theorem ZF(f:Nat->Nat->Nat){i m j a b:Nat}(h1:¬(a=i/\b=j))(h2:¬(a=j/\b=i)):gB f i m j a b=f a b:=by
 unfold gB wB;by_cases e1:a=j
 · by_cases e2:b=i
   · exact absurd ⟨e1,e2⟩ h2
   · rw[if_pos e1,if_neg e2];by_cases e3:a=i
     · by_cases e4:b=j
       · exact absurd ⟨e3,e4⟩ h1
       · rw[if_pos e3,if_neg e4]
     · rw[if_neg e3]
 · rw[if_neg e1];by_cases e3:a=i
   · by_cases e4:b=j
     · exact absurd ⟨e3,e4⟩ h1
     · rw[if_pos e3,if_neg e4]
   · rw[if_neg e3]
theorem RU{c:Nat}{f:Nat->Nat->Nat}(h:aF c f):tD c f [] []:=fun i hi k hk j hj d n=>absurd (h i hi k hk j hj d) n
theorem QV{c:Nat}{f:Nat->Nat->Nat}(o:SA c f){x z:Nat}(hx:x<c)(hz:z<c)(d3:x≠z)(mm:Nat){W:List (Nat×Nat)}(h:tD c f W []):tD c (gB f x mm z) (W++[(x,z)]) []:=by
 have o':=dG o hx hz d3 mm;have main:∀i<c,∀k<c,∀j<c,uG i k j->¬(i=z/\j=x)->Ef (gB f x mm z) i k j≠gB f x mm z i j->CD (W++[(x,z)]) i k j:=by
  intro i hi k hk j hj d nz m;obtain⟨e1,e2,e3⟩:=d;have grow:∀{i k j},CD W i k j->CD (W++[(x,z)]) i k j:=by
   intro i k j q;unfold CD at q ⊢;simp only[mem_append];rcases q with q | q | q | q
   · exact .inl (.inl q)
   · exact .inr (.inl (.inl q))
   · exact .inr (.inr (.inl (.inl q)))
   · exact .inr (.inr (.inr (.inl q)))
  have un:∀{i k j},Ef f i k j≠f i j->i<c->k<c->j<c->uG i k j->CD W i k j:=by
   intro i k j n hi hk hj d;rcases h i hi k hk j hj d n with q | q | q
   · exact q
   · cases q
   · cases q
  by_cases ht:i=x/\j=z
  · obtain⟨rfl,rfl⟩:=ht;have l1:gB f i mm j i k=f i k:=ZF f (fun q=>e2 q.2) (fun q=>e1 q.2.symm);have l2:gB f i mm j k j=f k j:=ZF f (fun q=>e1 q.1.symm) (fun q=>e2 q.1);have n:Ef f i k j≠f i j:=by intro q;apply m;unfold Ef;rw[l1,l2,xJ f mm e3];exact sW (kH (f i j) _) q
    exact grow (un n hi hk hj ⟨e1,e2,e3⟩)
  · by_cases Kl:CD [(x,z)] i k j
    · unfold CD at Kl ⊢;simp only[mem_append];rcases Kl with q | q | q | q
      · exact .inl (.inr q)
      · exact .inr (.inl (.inr q))
      · exact .inr (.inr (.inl (.inr q)))
      · exact .inr (.inr (.inr (.inr q)))
    · unfold CD at Kl;simp only[mem_cons,not_mem_nil,or_false,Prod.mk.injEq,not_or]at Kl;obtain⟨g1,g2,g3,g4⟩:=Kl;have l0:gB f x mm z i j=f i j:=ZF f (fun q=>ht q) (fun q=>nz q);have l1:gB f x mm z i k=f i k:=ZF f (fun q=>g1 q) (fun q=>g2 ⟨q.2,q.1⟩);have l2:gB f x mm z k j=f k j:=ZF f (fun q=>g3 q) (fun q=>g4 ⟨q.2,q.1⟩);have n:Ef f i k j≠f i j:=by unfold Ef at m ⊢;rw[l0,l1,l2]at m;exact m
      exact grow (un n hi hk hj ⟨e1,e2,e3⟩)
 intro i hi k hk j hj d m
 left
 by_cases nz:i=z/\j=x
 · obtain⟨e1,e2,e3⟩:=d;have m':=BS o' hj hk hi m;have q:=main j hj k hk i hi ⟨Ne.symm e2,Ne.symm e1,Ne.symm e3⟩ (fun q=>e3 (by omega)) m';unfold CD at q ⊢;rcases q with q | q | q | q
   · exact .inr (.inr (.inr q))
   · exact .inr (.inr (.inl q))
   · exact .inr (.inl q)
   · exact .inl q
 · exact main i hi k hk j hj d nz m
theorem sV{c k:Nat}:∀(ms:List WB)(_:∀m∈ms,jD c m)(f:Nat->Nat->Nat)(p:Nat)(W:List (Nat×Nat)),SA c f->tD c f W []->tD c (gE f k ms p) (W++ms.map fun m=>(m.1,m.2.2)) []
 | [],_,f,p,W,o,h=>by simpa[gE]using h
 | m::ms,hm,f,p,W,o,h=>by obtain⟨a,b,d,_⟩:=hm m (by simp);have:=sV (k:=k) ms (fun x hx=>hm x (by simp[hx])) _ (p+1) _ (dG o a b d (if p=k then m.2.1 else notM m.2.1)) (QV o a b d (if p=k then m.2.1 else notM m.2.1) h);rw[append_assoc]at this;exact this
inductive Tr where
 | Wb (st:List (Nat×Nat×Nat))
 | ring (st:List (Nat×Nat×Nat)) (cs:Nat->Option Nat) (P k:Nat)
 | one (st:List (Nat×Nat×Nat)) (bs:List Tr)
 | split (st:List (Nat×Nat×Nat)) (p:Nat×Nat) (bs:List Tr)
inductive Gn where
 | Dm
 | laid (t:Nat->Int)
 | clash (tr:Tr)
inductive Wd where | Dm | laid | clash
noncomputable def Gn.wd:Gn->Wd
 | .Dm=>.Dm
 | .laid _=>.laid
 | .clash _=>.clash
noncomputable def oU(tag:Option (Nat×Nat))(st:List (Nat×Nat×Nat))(bs:List Tr):Tr:=match tag with
 | none=>.one st bs
 | some p=>.split st p bs
noncomputable abbrev OA:=Nat->Nat->Nat
def BE(L:OA->List (List WB)->Nat->Gn->Nat->Prop)(tag:Option (Nat×Nat))(st:List (Nat×Nat×Nat))(gs:List (List WB)):List OA->Nat->List Tr->Gn->Nat->Prop
 | [],made,acc,a,Rc=>a=.clash (oU tag st acc)/\Rc=made
 | b::bs,made,acc,a,Rc=>(∃tr zac,L b gs made (.clash tr) zac/\BE L tag st gs bs zac (acc++[tr]) a Rc)\/(a.wd≠.clash/\L b gs made a Rc)
def zC(c m:Nat)(ls:List Ln):Nat->OA->List (List WB)->Nat->Gn->Nat->Prop
 | 0,_,_,_,_,_=>False
 | n+1,f,gs,made,a,Rc=>
  (∃st g,Steps c f st g/\aC c g=true/\a=.clash (.Wb st)/\Rc=made)\/
  ∃st g,Xb c f st g/\
   ((∃cs P k,JH (2*c) (dC (uD c g ls)) (QO (uD c g ls)) cs P k/\a=.clash (.ring st cs P k)/\Rc=made)\/
    (∃t,(∀e∈uD c g ls,iF t e)/\
     ((cD c g gs=none/\a=.laid t/\Rc=made)\/
      (∃tag bs ps,cD c g gs=some (tag,bs,ps)/\
       ((m<=made/\a=.Dm/\Rc=made)\/(made<m/\BE (zC c m ls n) tag st gs.tail bs (made+1) [] a Rc))))))
def vd(c:Nat)(gs:List (List WB)):Prop:=∀x∈gs,∀m∈x,jD c m
theorem vd.tail{c:Nat}{gs:List (List WB)}(h:vd c gs):vd c gs.tail:=fun x hx=>h x (mem_of_mem_tail hx)
theorem UK{c:Nat}{g:OA}(o:SA c g){gs:List (List WB)}(ok:vd c gs){tag:Option (Nat×Nat)}{bs:List OA}{ps:List (Nat×Nat)}(h:cD c g gs=some (tag,bs,ps)):∀b∈bs,SA c b:=by
 cases gs with
 | cons grp gs=>simp only[cD,Option.some.injEq,Prod.mk.injEq]at h;obtain⟨_,rfl,_⟩:=h;intro b hb;obtain⟨k,_,rfl⟩:=mem_map.mp hb;exact yV grp (ok grp (by simp)) g 0 o
 | nil=>
  simp only[cD]at h;cases lp:tE c g with
  | none=>rw[lp]at h;cases h
  | some p=>rw[lp]at h;simp only[Option.some.injEq,Prod.mk.injEq]at h;obtain⟨_,rfl,_⟩:=h;intro b hb;obtain⟨w,_,rfl⟩:=mem_map.mp hb;have hp:p∈BA c:=mem_of_find?_eq_some lp;obtain⟨q1,q2⟩:=Hf.mp hp;exact dG o (by omega) (by omega) (by omega) _
theorem YR{c:Nat}{g:OA}{ls:List Ln}{cs:Nat->Option Nat}{P k:Nat}(R:JH (2*c) (dC (uD c g ls)) (QO (uD c g ls)) cs P k){t:Nat->Int}(ht:∀e∈uD c g ls,iF t e):False:=
 CS (b:=t) (fun e he=>by have:=ht e he;unfold iF at this;omega) R
theorem eJ{c m:Nat}{ls:List Ln}:∀(n:Nat)(f:OA)(gs:List (List WB))(made:Nat)(a a':Gn)(s s':Nat),SA c f->vd c gs->zC c m ls n f gs made a s->zC c m ls n f gs made a' s'->a.wd=a'.wd/\s=s'
 | 0,_,_,_,_,_,_,_,_,_,h,_=>h.elim
 | n+1,f,gs,made,a,a',s,s',of,og,h,h'=>by
  rcases h with⟨st,g,h1,h2,rfl,rfl⟩ | ⟨st,g,h1,h⟩
  · rcases h' with⟨st',g',k1,k2,rfl,rfl⟩ | ⟨st',g',k1,h'⟩
    · exact⟨rfl,rfl⟩
    · have:=k1.Mf of h1;rw[h2]at this;cases this
  · rcases h' with⟨st',g',k1,k2,rfl,rfl⟩ | ⟨st',g',k1,h'⟩
    · have:=h1.Mf of k1;rw[k2]at this;cases this
    · have eg:=h1.unique of k1;subst eg;have Nb:=(h1.ok of).1;rcases h with⟨cs,P,k,R,rfl,rfl⟩ | ⟨t,ht,h⟩
      · rcases h' with⟨cs',P',k',R',rfl,rfl⟩ | ⟨t',ht',h'⟩
        · exact⟨rfl,rfl⟩
        · exact(YR R ht').elim
      · rcases h' with⟨cs',P',k',R',rfl,rfl⟩ | ⟨t',ht',h'⟩
        · exact(YR R' ht).elim
        · rcases h with⟨sp,rfl,rfl⟩ | ⟨tag,bs,ps,sp,h⟩
          · rcases h' with⟨Em,rfl,rfl⟩ | ⟨tag',bs',ps',Em,h'⟩
            · exact⟨rfl,rfl⟩
            · rw[sp]at Em;cases Em
          · rcases h' with⟨Em,rfl,rfl⟩ | ⟨tag',bs',ps',Em,h'⟩
            · rw[sp]at Em;cases Em
            · rw[sp]at Em;cases Em;rcases h with⟨lm,rfl,rfl⟩ | ⟨lm,h⟩
              · rcases h' with⟨lm',rfl,rfl⟩ | ⟨lm',h'⟩
                · exact⟨rfl,rfl⟩
                · omega
              · rcases h' with⟨lm',rfl,rfl⟩ | ⟨lm',h'⟩
                · omega
                · have Jp:=UK Nb og sp;have go:∀(bs:List OA),(∀b∈bs,SA c b)->∀(md:Nat)(acc acc':List Tr)(a a':Gn)(s s':Nat),BE (zC c m ls n) tag st gs.tail bs md acc a s->BE (zC c m ls n) tag st' gs.tail bs md acc' a' s'->a.wd=a'.wd/\s=s':=by
                   intro bs
                   induction bs with
                   | nil=>rintro _ md acc acc' a a' s s' ⟨rfl,rfl⟩ ⟨rfl,rfl⟩;exact⟨rfl,rfl⟩
                   | cons b bs ih=>
                    intro hb md acc acc' a a' s s' q q';have hb0:=hb b (by simp);have hb1:∀x∈bs,SA c x:=fun x hx=>hb x (by simp[hx])
                    rcases q with⟨tr,m1,q1,q2⟩ | ⟨q1,q2⟩
                    · rcases q' with⟨tr',m1',q1',q2'⟩ | ⟨q1',q2'⟩
                      · obtain⟨_,rfl⟩:=eJ n b _ md _ _ _ _ hb0 og.tail q1 q1';exact ih hb1 _ _ _ _ _ _ _ q2 q2'
                      · obtain⟨z,_⟩:=eJ n b _ md _ _ _ _ hb0 og.tail q1 q2';exact absurd z.symm q1'
                    · rcases q' with⟨tr',m1',q1',q2'⟩ | ⟨q1',q2'⟩
                      · obtain⟨z,_⟩:=eJ n b _ md _ _ _ _ hb0 og.tail q2 q1';exact absurd z q1
                      · exact eJ n b _ md _ _ _ _ hb0 og.tail q2 q2'
                  exact go bs Jp _ _ _ _ _ _ _ h h'
theorem VN{c m:Nat}{ls:List Ln}:∀(n:Nat)(f:OA)(gs:List (List WB))(made:Nat)(a:Gn)(s:Nat),zC c m ls n f gs made a s->made<=s/\(made<=m->s<=m)/\(made<=m->a.wd=.Dm->s=m)
 | 0,_,_,_,_,_,h=>h.elim
 | n+1,f,gs,made,a,s,h=>by
  rcases h with⟨st,g,h1,h2,rfl,rfl⟩ | ⟨st,g,h1,h⟩
  · exact⟨zeg _,id,fun _ z=>by cases z⟩
  · rcases h with⟨cs,P,k,R,rfl,rfl⟩ | ⟨t,ht,h⟩
    · exact⟨zeg _,id,fun _ z=>by cases z⟩
    · rcases h with⟨sp,rfl,rfl⟩ | ⟨tag,bs,ps,sp,h⟩
      · exact⟨zeg _,id,fun _ z=>by cases z⟩
      · rcases h with⟨lm,rfl,rfl⟩ | ⟨lm,h⟩
        · exact⟨zeg _,id,fun _ _=>by omega⟩
        · have go:∀(bs:List OA)(md:Nat)(acc:List Tr)(a:Gn)(s:Nat),BE (zC c m ls n) tag st gs.tail bs md acc a s->md<=s/\(md<=m->s<=m)/\(md<=m->a.wd=.Dm->s=m):=by
           intro bs
           induction bs with
           | nil=>rintro md acc a s ⟨rfl,rfl⟩;refine⟨zeg _,id,fun _ z=>by cases z⟩
           | cons b bs ih=>
            intro md acc a s q;rcases q with⟨tr,m1,q1,q2⟩ | ⟨q1,q2⟩
            · obtain⟨a1,a2,_⟩:=VN n b _ md _ _ q1;obtain⟨b1,b2,b3⟩:=ih _ _ _ _ q2;exact⟨by omega,fun z=>b2 (a2 z),fun z=>b3 (a2 z)⟩
            · exact VN n b _ md _ _ q2
          obtain⟨a1,a2,a3⟩:=go bs _ _ _ _ h;exact⟨by omega,fun _=>a2 (by omega),fun _=>a3 (by omega)⟩
mutual
noncomputable def Vd(lo:Nat)(h:HI):Tr->Dt->Prop
 | .Wb st,d=>∃s,d=.tup [.str "threes", .ref s]/\lo<=s/\h[s]?=some (.lst (st.map HD))
 | .ring st cs P k,d=>∃s r,d=.tup [.str "ring", .ref s,.ref r]/\lo<=s/\lo<=r/\h[s]?=some (.lst (st.map HD))/\h[r]?=some (.lst (JC cs P k))
 | .one st bs,d=>∃s r ds,d=.tup [.str "one", .ref s,.ref r]/\lo<=s/\lo<=r/\h[s]?=some (.lst (st.map HD))/\h[r]?=some (.lst ds)/\Lf lo h bs ds
 | .split st p bs,d=>∃s r ds,d=.tup [.str "split", .ref s,.int (p.1:Nat),.int (p.2:Nat),.ref r]/\lo<=s/\lo<=r/\h[s]?=some (.lst (st.map HD))/\h[r]?=some (.lst ds)/\Lf lo h bs ds
noncomputable def Lf(lo:Nat)(h:HI):List Tr->List Dt->Prop
 | [],ds=>ds=[]
 | t::ts,ds=>∃d r,ds=d::r/\Vd lo h t d/\Lf lo h ts r
end
noncomputable def xZ(lo:Nat)(h h':HI):Prop:=∀(n:Nat)(xs:List Dt),lo<=n->h[n]?=some (.lst xs)->h'[n]?=some (.lst xs)
mutual
theorem Vd.up{lo lo':Nat}(hl:lo'<=lo){h h':HI}(u:xZ lo h h'):∀(t:Tr){d:Dt},Vd lo h t d->Vd lo' h' t d
 | .Wb st,d,q=>by simp only[Vd]at q ⊢;obtain⟨s,e,l,q⟩:=q;exact⟨s,e,by omega,u _ _ l q⟩
 | .ring st cs P k,d,q=>by simp only[Vd]at q ⊢;obtain⟨s,r,e,l1,l2,q1,q2⟩:=q;exact⟨s,r,e,by omega,by omega,u _ _ l1 q1,u _ _ l2 q2⟩
 | .one st bs,d,q=>by simp only[Vd]at q ⊢;obtain⟨s,r,ds,e,l1,l2,q1,q2,q3⟩:=q;exact⟨s,r,ds,e,by omega,by omega,u _ _ l1 q1,u _ _ l2 q2,Lf.up hl u bs q3⟩
 | .split st p bs,d,q=>by simp only[Vd]at q ⊢;obtain⟨s,r,ds,e,l1,l2,q1,q2,q3⟩:=q;exact⟨s,r,ds,e,by omega,by omega,u _ _ l1 q1,u _ _ l2 q2,Lf.up hl u bs q3⟩
theorem Lf.up{lo lo':Nat}(hl:lo'<=lo){h h':HI}(u:xZ lo h h'):∀(ts:List Tr){ds:List Dt},Lf lo h ts ds->Lf lo' h' ts ds
 | [],ds,q=>by simp only[Lf]at q ⊢;exact q
 | t::ts,ds,q=>by simp only[Lf]at q ⊢;obtain⟨d,r,e,q1,q2⟩:=q;exact⟨d,r,e,Vd.up hl u t q1,Lf.up hl u ts q2⟩
end
theorem Lf.snoc{lo:Nat}{h:HI}{t:Tr}{d:Dt}(a:Vd lo h t d):∀(ts:List Tr){ds:List Dt},Lf lo h ts ds->Lf lo h (ts++[t]) (ds++[d])
 | [],ds,q=>by simp only[Lf]at q;subst q;simp only[zeb,Lf];exact⟨d,[],rfl,a,rfl⟩
 | t'::ts,ds,q=>by simp only[Lf]at q;obtain⟨d',r,rfl,q1,q2⟩:=q;simp only[zec,Lf];exact⟨d',r++[d],rfl,q1,Lf.snoc a ts q2⟩
noncomputable def JD(c:Nat)(u:Nat->Int):List Dt:=(List.range c).map fun k=>.tup [.int (u (2*k)),.int (u (2*k+1))]
def Fb(lo:Nat)(h:HI)(c:Nat):Gn->Dt->Prop
 | .Dm,d=>d=.tup [.str "open", .non]
 | .laid t,d=>d=.tup [.str "laid", .lst (JD c (hC (2*c) t))]
 | .clash tr,d=>∃x,d=.tup [.str "clash",x]/\Vd lo h tr x
theorem Fb.up{lo lo':Nat}(hl:lo'<=lo){h h':HI}(u:xZ lo h h'){c:Nat}{a:Gn}{d:Dt}(q:Fb lo h c a d):Fb lo' h' c a d:=by
 cases a with
 | Dm=>exact q
 | laid t=>exact q
 | clash tr=>obtain⟨x,e,q⟩:=q;exact⟨x,e,Vd.up hl u tr q⟩
theorem v3{c:Nat}(hc:c<=100)(u:Nat->Int)(h:HI):qM [.lst (mC (2*c) u)] h=some (.lst (JD c u),h):=by
 have er:j0 2 (.int 0) (.int ((2*c:Nat):Int),h)=some (.vals ((List.range c).map fun(k:Nat)=>Dt.int (0+(k:Int)*(2:Nat))),h):=by
  have e1:((((2*c:Nat):Int)-0+((2:Nat):Int)-1)/((2:Nat):Int)).toNat=c:=by omega
  have cc:(0:Int)<=0/\(0:Int)<2^61/\0<=((2*c:Nat):Int)/\((2*c:Nat):Int)<2^61/\0<2/\2<1000:=by omega
  simp only[j0,if_pos cc,e1]
 have ec:=mH (te:=mM) (tc:=QB) (i:=0) (fun(k:Nat)=>Dt.int (0+(k:Int)*(2:Nat))) (fun k=>Dt.tup [.int (u (2*k)),.int (u (2*k+1))]) h (List.range c) [none,some (.lst (mC (2*c) u))] (by
  intro k hk;have hk:=mem_range.mp hk;refine⟨by simp,?_⟩;have g1:(0:Int)+(k:Int)*((2:Nat):Int)=((2*k:Nat):Int):=by omega
  have g2:((2*k:Nat):Int)+1=((2*k+1:Nat):Int):=by omega
  have t1:=LN u (show 2*k<2*c by omega);have t2:=LN u (show 2*k+1<2*c by omega);rw[g1];simp only[mM,RD,UA,NA,CA,EA,pA,zd7,zd1,zd2,qA,lA,bE,g2,vI,SM.CC,t1,t2,zd9];rfl)
 have ck:=oF (l:=[none,some (.lst (mC (2*c) u))]) (h:=h) (AA 0) QB mM (xs:=(List.range c).map fun(k:Nat)=>Dt.int (0+(k:Int)*(2:Nat))) (by simp[sizeLine];omega);rw[ec]at ck;have tl:=HR (2*c) u;simp only[qM,OP,sB,zd3,zd4,if_true,zd5,zd6,Nat.reduceAdd,Nat.reduceSub,List.replicate,zei,CB,GG,Ay,EA,vC,pA,zd1,qA,lA,ZK,tl,er,xF,dJ,zF,Option.join_some,ck,MB];rfl
def zai(h:HI)(d:Dt)(P:List (Nat×Nat)):Prop:=d=.lst (P.map sA)\/∃n,d=.ref n/\h[n]?=some (.lst (P.map sA))
theorem zai.seq{h:HI}{d:Dt}{P:List (Nat×Nat)}(q:zai h d P)(e:HI):zD (h++e) d=some (P.map sA):=by
 rcases q with rfl | ⟨n,rfl,q⟩
 · rfl
 · have:=(Up.app h e).get q;simp only[zD,FB,this]
def yc (h:HI) (o:Nat) (ls:List Ln) (m made:Nat):Prop:=h[o]?=some (.ins "Search" [("lengths", .lst (ls.map kC)),("most", .int (m:Nat)),("made", .int (made:Nat))])
theorem yc.up{h h':HI}(u:Up h h'){o m made:Nat}{ls:List Ln}(s:yc h o ls m made):yc h' o ls m made:=u.get s
theorem YN{m:Nat}(hm:m<8192)(h:m≠0):HA m ≠ []:=by
 intro e;apply h;refine eI hm (by decide) fun k hk=>?_
 cases z:m.testBit k with
 | false=>simp
 | true=>have:k∈HA m:=Df.mpr ⟨hk,z⟩;rw[e]at this;cases this
theorem R8{c:Nat}{g:OA}(o:SA c g)(ne:aC c g=false):∀i j,i<c->j<c->HA (g i j) ≠ []:=fun i j hi hj=>YN (o.lt i hi j hj) (Mf ne hi hj)
theorem hX{c:Nat}{p:Nat×Nat}(h:p∈BA c):p.1<p.2/\p.2<c:=by unfold BA TC at h;obtain⟨i,hi,h⟩:=mem_flatMap.mp h;obtain⟨k,hk,rfl⟩:=mem_map.mp h;have:=mem_range.mp hi;have:=mem_range.mp hk;exact⟨by show i<i+1+k;omega,by show i+1+k<c;omega⟩
theorem X7{c i j:Nat}(h1:i<j)(h2:j<c):(i,j)∈BA c:=by unfold BA TC;refine mem_flatMap.mpr ⟨i,mem_range.mpr (by omega),mem_map.mpr ⟨j-i-1,mem_range.mpr (by omega),?_⟩⟩;rw[show i+1+(j-i-1)=j by omega]
theorem EY{p q:Nat}{a mx mn:Int}{e:Bd}(h:e∈rG p q a mx mn):(e.1=p/\e.2.1=q)\/(e.1=q/\e.2.1=p):=by
 unfold rG at h;rcases mem_append.mp h with h | h
 · split at h
   · rw[mem_singleton.mp h];exact .inl ⟨rfl,rfl⟩
   · exact nomatch h
 · split at h
   · rw[mem_singleton.mp h];exact .inr ⟨rfl,rfl⟩
   · exact nomatch h
theorem lX{i j side m:Nat}{e:Bd}(h:e∈ME i j side m):∃z:Nat,z<2/\((e.1=2*i+side/\e.2.1=2*j+z)\/(e.1=2*j+z/\e.2.1=2*i+side)):=by
 unfold ME at h;rcases mem_append.mp h with h | h
 · exact⟨0,by omega,EY h⟩
 · exact⟨1,by omega,EY h⟩
theorem bY{c:Nat}(N:Nat->Nat->Nat){ls:List Ln}(hl:∀x∈ls,x.1<c):∀e∈uD c N ls,e.1<2*c/\e.2.1<2*c/\e.1≠e.2.1:=by
 intro e he;unfold uD at he;rcases mem_append.mp he with he | he
 · rcases mem_append.mp he with he | he
   · obtain⟨i,hi,rfl⟩:=mem_map.mp he;have:=mem_range.mp hi;refine⟨?_,?_,?_⟩<;>simp only<;>omega
   · obtain⟨x,hx,he⟩:=mem_flatMap.mp he;have:=hl x hx;unfold EC at he;simp only[mem_cons,not_mem_nil,or_false]at he;rcases he with rfl | rfl
     · refine⟨?_,?_,?_⟩<;>simp only<;>omega
     · refine⟨?_,?_,?_⟩<;>simp only<;>omega
 · obtain⟨p,hp,he⟩:=mem_flatMap.mp he;obtain⟨h1,h2⟩:=hX hp;unfold yC at he;rcases mem_append.mp he with he | he
   · obtain⟨z,hz,⟨a,b⟩ | ⟨a,b⟩⟩:=lX he
     · rw[a,b];omega
     · rw[a,b];omega
   · obtain⟨z,hz,⟨a,b⟩ | ⟨a,b⟩⟩:=lX he
     · rw[a,b];omega
     · rw[a,b];omega
theorem QR{α β:Type}(f:α->List β)(n:Nat):∀(xs:List α)(_:∀x∈xs,(f x).length<=n),(xs.flatMap f).length<=n*xs.length
 | [],_=>by simp
 | x::xs,h=>by have:=QR f n xs (fun y hy=>h y (by simp[hy]));have:=h x (by simp);rw[flatMap_cons,length_append,zd3,Nat.mul_succ];omega
theorem uW{c:Nat}(hc:c<=8)(N:Nat->Nat->Nat){ls:List Ln}(hl:ls.length<=100):(uD c N ls).length<=1000:=by
 unfold uD;rw[length_append,length_append];have a1:(ZC c).length=c:=by simp[ZC]
 have a2:=QR (EC (2*c+1)) 2 ls (fun x _=>zeg _);have a3:=QR (fun p:Nat×Nat=>yC p.1 (N p.1 p.2) p.2) 8 (BA c) (fun x _=>by
  unfold yC;rw[length_append];have:=dI x.1 x.2 0 (N x.1 x.2);have:=dI x.1 x.2 1 (N x.1 x.2);omega)
 have a4:=jJ c c;have h2:c*c<=8*8:=Nat.mul_le_mul hc hc;have a5:(BA c).length<=64:=by unfold BA;omega
 omega
theorem RY{h h':HI}(f:∀m,m<h.length->h'[m]?=h[m]?):Up h h':=by refine⟨?_,f⟩;apply Classical.byContradiction;intro n;have e:=f h'.length (by omega);rw[getElem?_eq_none (zeg _),getElem?_eq_getElem (by omega)]at e;cases e
theorem vq{h:HI}{ds:List Dt}{gs:List (List WB)}(q:Vf h ds gs):Vf h (ds.drop 1) gs.tail:=by
 cases q with
 | nil=>exact .nil
 | cons a r=>exact r
theorem Yg {x y z:Dt}:vD "lengths" [("lengths",x),("most",y),("made",z)]=some x:=by rfl
theorem iz {x y z:Dt}:vD "most" [("lengths",x),("most",y),("made",z)]=some y:=by
 have:¬((("most" :Str))=(("lengths" :Str))):=by decide +kernel
 simp only[vD,if_neg this,if_true]
theorem mY {x y z:Dt}:vD "made" [("lengths",x),("most",y),("made",z)]=some z:=by
 have h1:¬((("made" :Str))=(("lengths" :Str))):=by decide +kernel
 have h2:¬((("made" :Str))=(("most" :Str))):=by decide +kernel
 simp only[vD,if_neg h1,if_neg h2,if_true]
theorem wX {x y z:Dt}:vD "look" [("lengths",x),("most",y),("made",z)]=none:=by
 have h1:¬((("look" :Str))=(("lengths" :Str))):=by decide +kernel
 have h2:¬((("look" :Str))=(("most" :Str))):=by decide +kernel
 have h3:¬((("look" :Str))=(("made" :Str))):=by decide +kernel
 simp only[vD,if_neg h1,if_neg h2,if_neg h3]
theorem jz {x y z:Dt}:vD "look_at_branches" [("lengths",x),("most",y),("made",z)]=none:=by
 have h1:¬((("look_at_branches" :Str))=(("lengths" :Str))):=by decide +kernel
 have h2:¬((("look_at_branches" :Str))=(("most" :Str))):=by decide +kernel
 have h3:¬((("look_at_branches" :Str))=(("made" :Str))):=by decide +kernel
 simp only[vD,if_neg h1,if_neg h2,if_neg h3]
theorem Fw {x y z v:Dt}:DE "made" v [("lengths",x),("most",y),("made",z)]=([("lengths",x),("most",y),("made",v)]:List (Str×Dt)):=by
 have h1:¬((("lengths" :Str))=(("made" :Str))):=by decide +kernel
 have h2:¬((("most" :Str))=(("made" :Str))):=by decide +kernel
 simp only[DE,if_neg h1,if_neg h2,if_true]
theorem Rh:decide ((("open" :Str))=(("clash" :Str)))=false:=by decide +kernel
theorem WZ:decide ((("laid" :Str))=(("clash" :Str)))=false:=by decide +kernel
theorem Q0:decide ((("times" :Str))=(("ring" :Str)))=false:=by decide +kernel
def aj(c m:Nat)(ls:List Ln)(n:Nat)(f:OA)(gs:List (List WB))(made o:Nat)(h:HI)(r:Option (Dt×HI)):Prop:=
 ∃d h' a s,r=some (d,h')/\zC c m ls n f gs made a s/\Fb h.length h' c a d/\Wc h h'/\yc h' o ls m s
structure Mg(c m:Nat)(ls:List Ln)(n:Nat)(f:OA)(gs:List (List WB))(Bc:List Dt)(made b o:Nat)(pd:Dt)(P:List (Nat×Nat))(h:HI):Prop where
 ex:∃a s,zC c m ls n f gs made a s
 of:SA c f
 og:vd c gs
 sg:∀x∈gs,x.length<=1000
 net:Xr h b c f
 grp:Vf h Bc gs
 prs:zai h pd P
 pc:∀p∈P,p.1<c/\p.2<c/\p.1≠p.2
 wt:tD c f P []
 lp:P.length<=1000
 ob:yc h o ls m made
def bT(c m:Nat)(ls:List Ln)(n:Nat):Prop:=∀(f:OA)(gs:List (List WB))(Bc:List Dt)(made b o:Nat)(pd:Dt)(P:List (Nat×Nat))(h:HI),Mg c m ls n f gs Bc made b o pd P h->aj c m ls n f gs made o h (MF n [.ref o,.ref (b+c),pd,.lst Bc] h)
theorem Gy(tag:Option (Nat×Nat))(Ac:List Dt)(ps:List (Nat×Nat))(k:HI):uA (WD tag Ac ps) (.int 2) k=some (.lst Ac,k):=by cases tag<;>rfl
theorem Hy(tag:Option (Nat×Nat))(Ac:List Dt)(ps:List (Nat×Nat))(k:HI):uA (WD tag Ac ps) (.int 3) k=some (.lst (ps.map sA),k):=by cases tag<;>rfl
theorem O9{c m n:Nat}{ls:List Ln}(IH:bT c m ls n){tag:Option (Nat×Nat)}{st st0:List (Nat×Nat×Nat)}{gs:List (List WB)}{Bc:List Dt}{ps:List (Nat×Nat)}{Wm:List Dt}{hB:HI}{o sr:Nat}(og:vd c gs)(sg:∀x∈gs,x.length<=1000)(G0:Vf hB Bc gs)(pc:∀p∈ps,p.1<c/\p.2<c/\p.1≠p.2)(lp:ps.length<=1000) :
 ∀(bs:List OA)(Ac:List Dt)(made:Nat)(acc acc0:List Tr)(Sd:List Dt)(h:HI)(y5 y6:Option Dt)(a0:Gn)(s0:Nat),BE (zC c m ls n) tag st0 gs bs made acc0 a0 s0->(∀b∈bs,SA c b)->(∀b∈bs,tD c b ps [])->Uc (Pn hB c) bs Ac->Wc hB h->h[hB.length]?=some (.lst Sd)->Lf (hB.length+1) h acc Sd->Sd.length+bs.length<=5000->yc h o ls m made->
  ∃r,AC (AA 5) (ZJ (MF n)) Ac [some (.ref o),some (WD tag Wm ps),some (.ref sr),some (.lst Bc),some (.ref hB.length),y5,y6] h=some r/\
   ((∃y5' y6' h' acc' Rn s',r=.nx [some (.ref o),some (WD tag Wm ps),some (.ref sr),some (.lst Bc),some (.ref hB.length),y5',y6'] h'/\Wc hB h'/\h'[hB.length]?=some (.lst Rn)/\Lf (hB.length+1) h' acc' Rn/\yc h' o ls m s'/\BE (zC c m ls n) tag st gs bs made acc (.clash (oU tag st acc')) s')\/
    (∃d h' a s',r=.rt d h'/\Wc hB h'/\Fb (hB.length+1) h' c a d/\yc h' o ls m s'/\a.wd≠.clash/\BE (zC c m ls n) tag st gs bs made acc a s')):=by
 intro bs
 induction bs with
 | nil=>intro Ac made acc acc0 Sd h y5 y6 a0 s0 q _ _ A U hb T _ O;cases A;exact⟨_,rfl,.inl ⟨y5,y6,h,acc,Sd,made,rfl,U,hb,T,O,rfl,rfl⟩⟩
 | cons b bs ih=>
  intro Ac made acc acc0 Sd h y5 y6 a0 s0 q okb wtb A U hb T sz O;cases A with
  | @cons _ nd _ zcr nd1 A=>
  have hbl:hB.length+1<=h.length:=(zed hb).1;obtain⟨b1,rfl,N1⟩:=nd1;have exb:∃a s,zC c m ls n b gs made a s:=by
   rcases q with⟨tr,m1,q1,_⟩ | ⟨_,q2⟩
   · exact⟨_,_,q1⟩
   · exact⟨_,_,q2⟩
  obtain⟨d,h1,a,s,e,L,AN,U1,O1⟩:=IH b gs Bc made b1 o (.lst (ps.map sA)) ps h ⟨exb,okb b (by simp),og,sg,U.net N1,G0.up U,.inl rfl,pc,wtb b (by simp),lp,O⟩;have mt:=zR (x := "Search") (m := "look") (F:=MF n) (ga:=bA (eV 5) (bA (e2 uA (eV 1) (eC (.int 3))) (bA (eV 3) eA))) (l:=[some (.ref o),some (WD tag Wm ps),some (.ref sr),some (.lst Bc),some (.ref hB.length),some (.ref (b1+c)),y6]) O wX;have ev:sI "Search" "look" (MF n) (eV 0) (bA (eV 5) (bA (e2 uA (eV 1) (eC (.int 3))) (bA (eV 3) eA))) [some (.ref o),some (WD tag Wm ps),some (.ref sr),some (.lst Bc),some (.ref hB.length),some (.ref (b1+c)),y6] h=some (d,h1):=by simp only[eT,pA,zd1,qA,lA,mt,UA,NA,CA,EA,zd2,Hy,e]
  cases a with
  | Dm=>have dd:d=.tup [.str "open", .non]:=AN;refine⟨.rt d h1,?_,.inr ⟨d,h1,.Dm,s,rfl,U.trans U1,AN,O1,(fun z=>by cases z),.inr ⟨(fun z=>by cases z),L⟩⟩⟩;subst dd;simp only[zd5,AC,SF,zea,zd8,zd7,ZJ,XA,fB,ev,lA,YA,NB,dB,CA,pA,EA,zd1,zd2,qA,HB,UB,zd9,xO,Rh,Bool.not_false,iB,if_true,CB,qF,xY]
  | laid t=>have dd:d=.tup [.str "laid", .lst (JD c (hC (2*c) t))]:=AN;refine⟨.rt d h1,?_,.inr ⟨d,h1,.laid t,s,rfl,U.trans U1,AN,O1,(fun z=>by cases z),.inr ⟨(fun z=>by cases z),L⟩⟩⟩;subst dd;simp only[zd5,AC,SF,zea,zd8,zd7,ZJ,XA,fB,ev,lA,YA,NB,dB,CA,pA,EA,zd1,zd2,qA,HB,UB,zd9,xO,WZ,Bool.not_false,iB,if_true,CB,qF,xY]
  | clash tr=>
   obtain⟨x,rfl,TA⟩:=AN;have hb1:=U1.2 _ _ hb;obtain⟨h2,Ab⟩:∃h2:HI,h2=h1.set hB.length (.lst (Sd++[x])):=⟨_,rfl⟩
   have l1:hB.length<h1.length:=(zed hb1).1;have g2:∀k,k≠hB.length->h2[k]?=h1[k]?:=fun k hk=>by rw[Ab,getElem?_set_ne (Ne.symm hk)]
   have U2:Wc hB h2:=⟨by rw[Ab,length_set];exact Nat.le_trans U.1 U1.1,fun k xs hk=>by
    have kl:=(zed hk).1;rw[g2 k (by omega)];exact U1.2 _ _ (U.2 _ _ hk)⟩
   have F2:xZ (hB.length+1) h1 h2:=fun k xs hk hx=>by rw[g2 k (by omega)];exact hx
   have hb2:h2[hB.length]?=some (.lst (Sd++[x])):=by rw[Ab,getElem?_set_self l1]
   have O2:yc h2 o ls m s:=by
    have:o≠hB.length:=by intro z;unfold yc at O1;rw[z,hb1]at O1;cases O1
    unfold yc;rw[g2 o this];exact O1
   have T2:Lf (hB.length+1) h2 (acc++[tr]) (Sd++[x]):=Lf.snoc (Vd.up hbl (fun k xs hk hx=>F2 k xs (by omega) hx) tr TA) acc (Lf.up (zeg _) (fun k xs hk hx=>F2 k xs hk (U1.2 _ _ hx)) acc T);have ap:=DG (l:=[some (.ref o),some (WD tag Wm ps),some (.ref sr),some (.lst Bc),some (.ref hB.length),some (.ref (b1+c)),some (.tup [.str "clash",x])]) (h:=h1) (g:=e2 uA (eV 6) (eC (.int 1))) (d:=x) hb1 (by simp) hb1 (by simp at sz;simp[sizeLine];omega);rw[<- Ab]at ap;obtain⟨a1,s1,zaj,q3⟩:∃a1 s1 zaj,BE (zC c m ls n) tag st0 gs bs s zaj a1 s1:=by
    rcases q with⟨tr',m1,q1,q2⟩ | ⟨q1,q2⟩
    · obtain⟨_,z⟩:=eJ n b gs made _ _ _ _ (okb b (by simp)) og q1 L;subst z;exact⟨_,_,_,q2⟩
    · obtain⟨z,_⟩:=eJ n b gs made _ _ _ _ (okb b (by simp)) og q2 L;exact absurd z q1
   obtain⟨r,e3,er⟩:=ih zcr s (acc++[tr]) zaj (Sd++[x]) h2 (some (.ref (b1+c))) (some (.tup [.str "clash",x])) a1 s1 q3 (fun y hy=>okb y (by simp[hy])) (fun y hy=>wtb y (by simp[hy])) A U2 hb2 T2 (by simp at sz ⊢;omega) O2;refine⟨r,?_,?_⟩
   · simp only[zd5,AC,SF,zea,zd8,zd7,ZJ,XA,fB,ev,lA,YA,NB,dB,CA,pA,EA,zd1,zd2,qA,HB,UB,zd9,xO,decide_true,Bool.not_true,iB,zej,if_false,KC,JE,RF,ap,Aw];exact e3
   · rcases er with⟨y5',y6',h',acc',Rn,s',z1,z2,z3,z4,z5,z6⟩ | ⟨d,h',a,s',z1,z2,z3,z4,z5,z6⟩
     · exact .inl ⟨y5',y6',h',acc',Rn,s',z1,z2,z3,z4,z5,.inl ⟨tr,s,L,z6⟩⟩
     · exact .inr ⟨d,h',a,s',z1,z2,z3,z4,z5,.inl ⟨tr,s,L,z6⟩⟩
theorem zU:1<=sizeLine:=by decide
theorem bU:2<=sizeLine:=by decide
theorem cU:3<=sizeLine:=by decide
theorem QJ:TF Dt.non=true:=rfl
theorem RJ(k:Nat):TF (Dt.ref k)=false:=rfl
theorem Vg{c m n:Nat}{ls:List Ln}(IH:bT c m ls n){tag:Option (Nat×Nat)}{st st0:List (Nat×Nat×Nat)}{gs:List (List WB)}{Bc:List Dt}{ps:List (Nat×Nat)}{bs:List OA}{Ac:List Dt}{hB:HI}{o sr lo made:Nat}{a0:Gn}{s0:Nat}(og:vd c gs)(sg:∀x∈gs,x.length<=1000)(G0:Vf hB Bc gs)(pc:∀p∈ps,p.1<c/\p.2<c/\p.1≠p.2)(lp:ps.length<=1000)
 (q:BE (zC c m ls n) tag st0 gs bs made [] a0 s0) (okb:∀b∈bs,SA c b) (wtb:∀b∈bs,tD c b ps []) (A:Uc (Pn hB c) bs Ac) (lb:bs.length<=4000) (O:yc hB o ls m made) (hs:hB[sr]?=some (.lst (st.map HD))) (l1:lo<=sr) (l2:lo<=hB.length) :
 ∃d h' a s,jH (MF n) [.ref o,WD tag Ac ps,.ref sr,.lst Bc] hB=some (d,h')/\BE (zC c m ls n) tag st gs bs made [] a s/\Fb lo h' c a d/\Wc hB h'/\yc h' o ls m s:=by
 have U0:Wc hB (hB++[.lst []]):=Wc.app _ _;obtain⟨r,e,er⟩:=O9 IH (tag:=tag) (st:=st) (st0:=st0) (Wm:=Ac) (sr:=sr) og sg G0 pc lp bs Ac made [] [] [] (hB++[.lst []]) none none a0 s0 q okb wtb A U0 (by simp) (by simp only[Lf]) (by simp;omega) (yc.up (Up.app hB [.lst []]) O);have s2:=fun k=>Gy tag Ac ps k
 rcases er with⟨y5,y6,h',acc,Sd,s,rfl,U,hb,T,O',B⟩ | ⟨d,h',a,s,rfl,U,AN,O',na,B⟩
 · have hs':=U.2 _ _ hs;have T':Lf lo h' acc Sd:=Lf.up (by omega) (fun k xs hk hx=>hx) acc T;cases tag with
   | none=>
    refine⟨.tup [.str "clash", .tup [.str "one", .ref sr,.ref hB.length]],h',_,s,?_,B,⟨_,rfl,?_⟩,U,O'⟩
    · have c1:∀k:HI,uI (.tup [.str "one", .ref sr]) (.tup []) k=some (.tup [.str "one", .ref sr],k):=fun _=>rfl
      have c2:∀k:HI,uI (.tup [.str "one", .ref sr]) (.tup [.ref hB.length]) k=some (.tup [.str "one", .ref sr,.ref hB.length],k):=fun _=>rfl
      have t2:∀x y:Dt,[x,y].length<=sizeLine:=fun _ _=>by simp[sizeLine]
      have t1:∀x:Dt,[x].length<=sizeLine:=fun _=>by simp[sizeLine]
      have x0:∀k:HI,uA (WD none Ac ps) (.int 0) k=some (.str "one",k):=fun _=>rfl
      have x1:∀k:HI,uA (WD none Ac ps) (.int 1) k=some (.tup [],k):=fun _=>rfl
      simp only[jH,aK,sB,zd3,zd4,if_true,zd5,zd6,Nat.reduceAdd,Nat.reduceSub,List.replicate,zec,zeb,XA,fB,LG,NA,lA,Nat.zero_le,zd8,zd7,YA,iE,SD,CA,pA,EA,zd1,zd2,qA,s2,EG,NF,e,CB,RD,UA,x0,x1,zU,bU,c1,c2,MB]
    · show Vd lo h' (.one st acc) _;simp only[Vd];exact⟨sr,hB.length,Sd,rfl,l1,l2,hs',hb,T'⟩
   | some p=>
    refine⟨.tup [.str "clash", .tup [.str "split", .ref sr,.int (p.1:Nat),.int (p.2:Nat),.ref hB.length]],h',_,s,?_,B,⟨_,rfl,?_⟩,U,O'⟩
    · have c1:∀k:HI,uI (.tup [.str "split", .ref sr]) (sA p) k=some (.tup [.str "split", .ref sr,.int (p.1:Nat),.int (p.2:Nat)],k):=fun _=>rfl
      have c2:∀k:HI,uI (.tup [.str "split", .ref sr,.int (p.1:Nat),.int (p.2:Nat)]) (.tup [.ref hB.length]) k=some (.tup [.str "split", .ref sr,.int (p.1:Nat),.int (p.2:Nat),.ref hB.length],k):=fun _=>rfl
      have t2:∀x y:Dt,[x,y].length<=sizeLine:=fun _ _=>by simp[sizeLine]
      have t1:∀x:Dt,[x].length<=sizeLine:=fun _=>by simp[sizeLine]
      have x0:∀k:HI,uA (WD (some p) Ac ps) (.int 0) k=some (.str "split",k):=fun _=>rfl
      have x1:∀k:HI,uA (WD (some p) Ac ps) (.int 1) k=some (sA p,k):=fun _=>rfl
      simp only[jH,aK,sB,zd3,zd4,if_true,zd5,zd6,Nat.reduceAdd,Nat.reduceSub,List.replicate,zec,zeb,XA,fB,LG,NA,lA,Nat.zero_le,zd8,zd7,YA,iE,SD,CA,pA,EA,zd1,zd2,qA,s2,EG,NF,e,CB,RD,UA,x0,x1,zU,bU,c1,c2,MB]
    · show Vd lo h' (.split st p acc) _;simp only[Vd];exact⟨sr,hB.length,Sd,rfl,l1,l2,hs',hb,T'⟩
 · refine⟨d,h',a,s,?_,B,AN.up (by omega) (fun k xs hk hx=>hx),U,O'⟩;simp only[jH,aK,sB,zd3,zd4,if_true,zd5,zd6,Nat.reduceAdd,Nat.reduceSub,List.replicate,zec,zeb,XA,fB,LG,NA,lA,Nat.zero_le,zd8,zd7,YA,iE,SD,CA,pA,EA,zd1,zd2,qA,s2,EG,NF,e,qF,MB]
theorem Jj{c:Nat}{g:OA}(o:SA c g)(cl:aF c g){gs:List (List WB)}(ok:vd c gs)(sg:∀x∈gs,x.length<=1000){tag:Option (Nat×Nat)}{bs:List OA}{ps:List (Nat×Nat)}(h:cD c g gs=some (tag,bs,ps)):(∀p∈ps,p.1<c/\p.2<c/\p.1≠p.2)/\ps.length<=1000/\(∀b∈bs,tD c b ps [])/\bs.length<=1000:=by
 cases gs with
 | cons grp gs=>
  simp only[cD,Option.some.injEq,Prod.mk.injEq]at h;obtain⟨_,rfl,rfl⟩:=h;have gk:=ok grp (by simp);refine⟨fun p hp=>?_,by simp;exact sg grp (by simp),fun b hb=>?_,by simp;exact sg grp (by simp)⟩
  · obtain⟨x,hx,rfl⟩:=mem_map.mp hp;obtain⟨a,b,d,_⟩:=gk x hx;exact⟨a,b,d⟩
  · obtain⟨k,_,rfl⟩:=mem_map.mp hb;have:=sV (k:=k) grp gk g 0 [] o (RU cl);rw[zeb]at this;exact this
 | nil=>
  simp only[cD]at h;cases lp:tE c g with
  | none=>rw[lp]at h;cases h
  | some p=>
   rw[lp]at h;simp only[Option.some.injEq,Prod.mk.injEq]at h;obtain⟨_,rfl,rfl⟩:=h;have hp:p∈BA c:=mem_of_find?_eq_some lp;obtain⟨q1,q2⟩:=Hf.mp hp;refine⟨fun x hx=>?_,by simp,fun b hb=>?_,by have:=GK (g p.1 p.2);simp;omega⟩
   · rw[mem_singleton.mp hx];omega
   · obtain⟨w,_,rfl⟩:=mem_map.mp hb;have:=QV o (show p.1<c by omega) (show p.2<c by omega) (by omega) (2^w) (RU cl);rw[zeb]at this;exact this
theorem qK(n:Nat):MF (n+1)=nC 4 9 (AG (MF n)):=rfl
theorem Rz{c m:Nat}{ls:List Ln}(hc1:1<=c)(hc:c<=8)(hl:ls.length<=100)(lok:∀x∈ls,x.1<c):∀n,bT c m ls n:=by
 intro n
 induction n with
 | zero=>intro f gs Bc made b o pd P h K;obtain⟨a,s,q⟩:=K.ex;exact q.elim
 | succ n IH=>
  intro f gs Bc made b o pd P h K;obtain⟨a0,s0,q0⟩:=K.ex;obtain⟨d,h1,e1,x,sr,st,g,rfl,r1,r2,r3,r4,r5,r6,r7⟩:=eQ (show c<=100 by omega) K.of K.net (pd:=pd) (P:=P) (fun e=>K.prs.seq e) K.pc K.wt (by have:=K.lp;omega);have U1:Up h h1:=⟨r2,r3⟩;have O1:yc h1 o ls m made:=K.ob.up U1;rcases r7 with⟨rfl,em⟩ | ⟨bg,rfl,bl,Ng,cl,ne,_⟩
  · refine⟨.tup [.str "clash", .tup [.str "threes", .ref sr]],h1,.clash (.Wb st),made,?_,.inl ⟨st,g,r5,em,rfl,rfl⟩,⟨_,rfl,?_⟩,U1.l,O1⟩
    · rw[qK];have t2:∀x y:Dt,[x,y].length<=sizeLine:=fun _ _=>by simp[sizeLine]
      simp only[AG,sB,zd3,zd4,if_true,zd5,zd6,Nat.reduceAdd,Nat.reduceSub,List.replicate,zec,zeb,XA,fB,aB,UA,NA,pA,zd1,zd2,qA,lA,zei,e1,zd8,zd7,YA,CA,EA,HB,UB,YD,zd9,NB,dB,MG,QJ,RJ,iB,CB,RD,bU,qF,MB]
    · show Vd h.length h1 (.Wb st) _;simp only[Vd];exact⟨sr,rfl,r1,r4⟩
  · have EN:Xb c f st (VC c g):=⟨g,r5,cl,ne,rfl⟩;obtain⟨Nb,Dp,neg⟩:=EN.ok K.of;have Ng':=yx Ng;generalize VC c g=g' at EN Nb Dp neg Ng';obtain⟨rest,eb⟩:=f7 (show c<=100 by omega) (R8 Nb neg) (show ls.length<=1000 by omega) Ng';obtain⟨h2,Ab⟩:∃h2:HI,h2=h1++.lst ((uD c g' ls).map gA)::rest:=⟨_,rfl⟩
    rw[<- Ab]at eb;have U2:Up h1 h2:=Ab ▸ Up.app _ _;have hb2:h2[h1.length]?=some (.lst ((uD c g' ls).map gA)):=by rw[Ab];simp
    have O2:=O1.up U2;have nl:=Ng'.len;have u1:=fun(h:HI)=>UF (h:=h) (i:=2) (j:=(c:Int)) (Or.inl ⟨by decide,by decide⟩)
    have g2:(2:Int)*(c:Int)=((2*c:Nat):Int):=by omega
    have fL:=fun(d:Dt)=>BN (x := "Search") (k := "lengths") O1 (Yg)
    have t2:∀x y:Dt,[x,y].length<=sizeLine:=fun _ _=>by simp[sizeLine]
    have t3:∀x y z:Dt,[x,y,z].length<=sizeLine:=fun _ _ _=>by simp[sizeLine]
    have fl1:=fL .non;rcases yW (n:=2*c) (a:=h1.length) (by omega) (by omega) (uD c g' ls) (bY g' lok) (uW hc g' hl) h2 hb2 with⟨t,h3,sat,fr,et⟩ | ⟨cs,PP,k,r,h3,R,fr,hr,et,rl⟩
    · have U3:Up h2 h3:=RY fr;have O3:=O2.up U3;obtain⟨h4,U4,es⟩:=C6 ((U2.trans U3).net Ng') Nb (show c<=100 by omega) (K.grp.up (U1.trans (U2.trans U3)).l) K.og K.sg;have O4:=O3.up U4;have UU:Up h h4:=U1.trans (U2.trans (U3.trans U4));cases sp:cD c g' gs with
      | none=>rw[sp]at es;have esa:=v3 (c:=c) (by omega) (hC (2*c) t) h4;refine⟨.tup [.str "laid", .lst (JD c (hC (2*c) t))],h4,.laid t,made,?_,.inr ⟨st,g',EN,.inr ⟨t,sat,.inl ⟨sp,rfl,rfl⟩⟩⟩,rfl,UU.l,O4⟩;rw[qK];simp only[AG,sB,zd3,zd4,if_true,zd5,zd6,Nat.reduceAdd,Nat.reduceSub,List.replicate,zec,zeb,XA,fB,aB,UA,NA,pA,zd1,zd2,qA,lA,zei,e1,zd8,zd7,YA,CA,EA,HB,UB,YD,zd9,NB,dB,MG,QJ,RJ,iB,zej,if_false,KC,vC,nl,u1,g2,wL,fl1,eb,et,eF,Q0,es,CB,RD,esa,bU,qF,MB]
      | some v=>
       obtain⟨tag,bs,ps⟩:=v;rw[sp]at es;obtain⟨Ac,A,es⟩:=es;have fm:=BN (x := "Search") (k := "made") O4 (mY);have fM:=BN (x := "Search") (k := "most") O4 (iz);have nn:TF (WD tag Ac ps)=false:=by cases tag<;>rfl
       by_cases lm:m<=made
       · refine⟨.tup [.str "open", .non],h4,.Dm,made,?_,.inr ⟨st,g',EN,.inr ⟨t,sat,.inr ⟨tag,bs,ps,sp,.inl ⟨lm,rfl,rfl⟩⟩⟩⟩,rfl,UU.l,O4⟩;have dg:decide (((m:Nat):Int)<=((made:Nat):Int))=true:=decide_eq_true (by omega);rw[qK];simp only[AG,sB,zd3,zd4,if_true,zd5,zd6,Nat.reduceAdd,Nat.reduceSub,List.replicate,zec,zeb,XA,fB,aB,UA,NA,pA,zd1,zd2,qA,lA,zei,e1,zd8,zd7,YA,CA,EA,HB,UB,YD,zd9,NB,dB,MG,QJ,RJ,iB,zej,if_false,KC,vC,nl,u1,g2,wL,fl1,eb,et,eF,Q0,es,nn,fm,fM,SL,dg,CB,RD,bU,qF,MB]
       · have dg:decide (((m:Nat):Int)<=((made:Nat):Int))=false:=decide_eq_false (by omega);have Jp:=UK Nb K.og sp;obtain⟨pc,pl,wb,lb⟩:=Jj Nb Dp K.og K.sg sp;obtain⟨h5,hh5⟩:∃h5:HI,h5=h4.set o (.ins "Search" [("lengths", .lst (ls.map kC)),("most", .int (m:Nat)),("made", .int ((made+1:Nat):Int))]):=⟨_,rfl⟩
         have ol:=(zed O4).1;have O5:yc h5 o ls m (made+1):=by unfold yc;rw[hh5,getElem?_set_self ol]
         have U5:Wc h4 h5:=hh5 ▸ Wc.set O4;have l5:h5.length=h4.length:=by rw[hh5,length_set]
         have sf:=gN (x := "Search") (k := "made") (v:=.int ((made+1:Nat):Int)) (l:=[some (.ref o),some (.ref (b+c)),some pd,some (.lst Bc),some (.tup [.ref (bg+c),.ref sr]),some (.ref (bg+c)),some (.ref sr),some (.tup [.str "times", .lst (mC (2*c) (hC (2*c) t))]),some (WD tag Ac ps)]) O4 (by simp);rw[Fw,<- hh5]at sf;have m1:((made:Nat):Int)+1=((made+1:Nat):Int):=by omega
         have hs5:h5[sr]?=some (.lst (st.map HD)):=U5.2 _ _ ((U2.trans (U3.trans U4)).get r4);have qb:∃st0,BE (zC c m ls n) tag st0 gs.tail bs (made+1) [] a0 s0:=by
          rcases q0 with⟨st',g1,k1,k2,_,_⟩ | ⟨st',g1,k1,k⟩
          · have:=EN.Mf K.of k1;rw[k2]at this;cases this
          · have eg:=EN.unique K.of k1;subst eg;rcases k with⟨cs',P',k',R',_,_⟩ | ⟨t',ht',k⟩
            · exact(YR R' sat).elim
            · rcases k with⟨Em,_,_⟩ | ⟨tag',bs',ps',Em,k⟩
              · rw[sp]at Em;cases Em
              · rw[sp]at Em;cases Em;rcases k with⟨lm',_,_⟩ | ⟨lm',k⟩
                · omega
                · exact⟨_,k⟩
         obtain⟨st0,qb⟩:=qb;obtain⟨d,h',a,s,e6,B,AN,U6,O6⟩:=Vg IH (tag:=tag) (st:=st) (Bc:=Bc.drop 1) (sr:=sr) (lo:=h.length) (hB:=h5) K.og.tail (fun x hx=>K.sg x (mem_of_mem_tail hx)) (vq (K.grp.up (UU.l.trans U5))) pc pl qb Jp wb (A.imp fun _ _ z=>z.up U5) (by omega) O5 hs5 r1 (by have:=UU.1;omega);refine⟨d,h',a,s,?_,.inr ⟨st,g',EN,.inr ⟨t,sat,.inr ⟨tag,bs,ps,sp,.inr ⟨by omega,B⟩⟩⟩⟩,AN,UU.l.trans (U5.trans U6),O6⟩;have mt:=zR (x := "Search") (m := "look_at_branches") (F:=jH (MF n)) (ga:=bA (eV 8) (bA (eV 6) (bA (ZT (eV 3) (NO (eC (.int 1))) sU) eA))) (l:=[some (.ref o),some (.ref (b+c)),some pd,some (.lst Bc),some (.tup [.ref (bg+c),.ref sr]),some (.ref (bg+c)),some (.ref sr),some (.tup [.str "times", .lst (mC (2*c) (hC (2*c) t))]),some (WD tag Ac ps)]) O5 jz;have cf:wG Bc (some 1) none=Bc.drop 1:=U9 Bc 1;have esl:ZT (eV 3) (NO (eC (.int 1))) sU [some (.ref o),some (.ref (b+c)),some pd,some (.lst Bc),some (.tup [.ref (bg+c),.ref sr]),some (.ref (bg+c)),some (.ref sr),some (.tup [.str "times", .lst (mC (2*c) (hC (2*c) t))]),some (WD tag Ac ps)] h5=some (.lst (Bc.drop 1),h5):=by simp[cf,FB]
         rw[qK];simp only[AG,sB,zd3,zd4,if_true,zd5,zd6,Nat.reduceAdd,Nat.reduceSub,List.replicate,zec,zeb,XA,fB,aB,UA,NA,pA,zd1,zd2,qA,lA,zei,e1,zd8,zd7,YA,CA,EA,HB,UB,YD,zd9,NB,dB,MG,QJ,RJ,iB,zej,if_false,KC,vC,nl,u1,g2,wL,fl1,eb,et,eF,Q0,es,nn,fm,fM,SL,dg,HY,bE,m1,sf,CB,eT,mt,esl,e6,MB]
    · have U3:Up h2 h3:=RY fr;have UU:Up h h3:=U1.trans (U2.trans U3);refine⟨.tup [.str "clash", .tup [.str "ring", .ref sr,.ref r]],h3,.clash (.ring st cs PP k),made,?_,.inr ⟨st,g',EN,.inl ⟨cs,PP,k,R,rfl,rfl⟩⟩,⟨_,rfl,?_⟩,UU.l,O2.up U3⟩
      · rw[qK];simp only[AG,sB,zd3,zd4,if_true,zd5,zd6,Nat.reduceAdd,Nat.reduceSub,List.replicate,zec,zeb,XA,fB,aB,UA,NA,pA,zd1,zd2,qA,lA,zei,e1,zd8,zd7,YA,CA,EA,HB,UB,YD,zd9,NB,dB,MG,QJ,RJ,iB,zej,if_false,KC,vC,nl,u1,g2,wL,fl1,eb,et,eF,decide_true,CB,RD,bU,cU,qF,MB]
      · show Vd h.length h3 (.ring st cs PP k) _;simp only[Vd];refine⟨sr,r,rfl,r1,?_,(U2.trans U3).get r4,hr⟩;have:=(U1.trans U2).1;omega
theorem k7{c:Nat}(hc:c<=8){f:OA}(of:SA c f):∃st,(∃g,Steps c f st g/\aC c g=true)\/(∃g,Xb c f st g):=by
 have N:=OF [] c f;have hl:=jJ c c;have hcc:c*c<=8*8:=Nat.mul_le_mul hc hc;obtain⟨d,h1,e1,x,sr,st,g,rfl,r1,r2,r3,r4,r5,r6,r7⟩:=eQ (show c<=100 by omega) of N (pd:=.lst ((BA c).map sA)) (P:=BA c) (fun e=>rfl) (fun p hp=>by
  obtain⟨q1,q2⟩:=Hf.mp hp;omega) (JR c f) (by unfold BA;omega)
 rcases r7 with⟨rfl,em⟩ | ⟨bg,rfl,bl,Ng,cl,ne,_⟩
 · exact⟨st,.inl ⟨g,r5,em⟩⟩
 · exact⟨st,.inr ⟨_,g,r5,cl,ne,rfl⟩⟩
theorem Y5{c m:Nat}{ls:List Ln}(hc1:1<=c)(hc:c<=8)(hl:ls.length<=100)(lok:∀x∈ls,x.1<c):∀(n:Nat)(f:OA)(gs:List (List WB))(made:Nat),SA c f->vd c gs->made<=m->m+1<=made+n->∃a s,zC c m ls n f gs made a s:=by
 intro n
 induction n with
 | zero=>intro f gs made _ _ h1 h2;omega
 | succ n ih=>
  intro f gs made of og h1 h2;obtain⟨st,⟨g,s,em⟩ | ⟨g,EN⟩⟩:=k7 hc of
  · exact⟨_,_,.inl ⟨st,g,s,em,rfl,rfl⟩⟩
  · obtain⟨Nb,Dp,neg⟩:=EN.ok of;rcases yW (n:=2*c) (a:=0) (by omega) (by omega) (uD c g ls) (bY g lok) (uW hc g hl) [.lst ((uD c g ls).map gA)] rfl with⟨t,h3,sat,fr,et⟩ | ⟨cs,PP,k,r,h3,R,fr,hr,et,rl⟩
    · cases sp:cD c g gs with
      | none=>exact⟨_,_,.inr ⟨st,g,EN,.inr ⟨t,sat,.inl ⟨sp,rfl,rfl⟩⟩⟩⟩
      | some v=>
       obtain⟨tag,bs,ps⟩:=v;by_cases lm:m<=made
       · exact⟨_,_,.inr ⟨st,g,EN,.inr ⟨t,sat,.inr ⟨tag,bs,ps,sp,.inl ⟨lm,rfl,rfl⟩⟩⟩⟩⟩
       · have Jp:=UK Nb og sp;have go:∀(bs:List OA),(∀b∈bs,SA c b)->∀(md:Nat)(acc:List Tr),md<=m->m+1<=md+n->∃a s,BE (zC c m ls n) tag st gs.tail bs md acc a s:=by
          intro bs
          induction bs with
          | nil=>intro _ md acc _ _;exact⟨_,_,rfl,rfl⟩
          | cons b bs ih2=>
           intro hb md acc m1 m2;obtain⟨a,s,q⟩:=ih b gs.tail md (hb b (by simp)) og.tail m1 m2;obtain⟨z1,z2,_⟩:=VN n b _ md _ _ q;have z3:=z2 m1;cases a with
           | clash tr=>obtain⟨a',s',q'⟩:=ih2 (fun x hx=>hb x (by simp[hx])) s (acc++[tr]) z3 (by omega);exact⟨a',s',.inl ⟨tr,s,q,q'⟩⟩
           | Dm=>exact⟨_,_,.inr ⟨(fun z=>by cases z),q⟩⟩
           | laid t=>exact⟨_,_,.inr ⟨(fun z=>by cases z),q⟩⟩
         obtain⟨a,s,q⟩:=go bs Jp (made+1) [] (by omega) (by omega);exact⟨a,s,.inr ⟨st,g,EN,.inr ⟨t,sat,.inr ⟨tag,bs,ps,sp,.inr ⟨by omega,q⟩⟩⟩⟩⟩
    · exact⟨_,_,.inr ⟨st,g,EN,.inl ⟨cs,PP,k,R,rfl,rfl⟩⟩⟩
noncomputable def qP:Wd->Dt
 | .Dm=>.str "open"
 | .laid=>.str "laid"
 | .clash=>.str "clash"
structure XY(c:Nat)(h:HI)(a:Nat)(fs:List Fact):Prop where
 ds:∃ds,h[a]?=some (.lst ds)/\Gf h ds fs
 ok:∀x∈fs,bG c x
 sg:∀x∈fG fs,x.length<=1000
 len:fs.length<=100
theorem sN:∀fs:List Fact,(eE fs).length<=fs.length
 | []=>zeg _
 | .long x::fs=>by have:=sN fs;simp only[eE,zd3];omega
 | .ways x::fs=>by have:=sN fs;simp only[eE,zd3];omega
 | .one x::fs=>by have:=sN fs;simp only[eE,zd3];omega
theorem QK{c:Nat}:∀fs:List Fact,(∀x∈fs,bG c x)->∀x∈eE fs,x.1<c
 | [],_,x,hx=>nomatch hx
 | .long y::fs,h,x,hx=>by
  simp only[eE,mem_cons]at hx;rcases hx with rfl | hx
  · exact h (.long x) (by simp)
  · exact QK fs (fun z hz=>h z (by simp[hz])) x hx
 | .ways y::fs,h,x,hx=>QK fs (fun z hz=>h z (by simp[hz])) x hx
 | .one y::fs,h,x,hx=>QK fs (fun z hz=>h z (by simp[hz])) x hx
theorem WK{c:Nat}:∀fs:List Fact,(∀x∈fs,bG c x)->vd c (fG fs)
 | [],_,x,hx=>nomatch hx
 | .one y::fs,h,x,hx=>by
  simp only[fG,mem_cons]at hx;rcases hx with rfl | hx
  · exact h (.one x) (by simp)
  · exact WK fs (fun z hz=>h z (by simp[hz])) x hx
 | .ways y::fs,h,x,hx=>WK fs (fun z hz=>h z (by simp[hz])) x hx
 | .long y::fs,h,x,hx=>WK fs (fun z hz=>h z (by simp[hz])) x hx
def zT(c m:Nat)(fs:List Fact)(n:Nat)(a:Gn)(s:Nat):Prop:=zC c m (eE fs) n (rC kB fs) (fG fs) 0 a s
theorem Qz {h:HI} (ls:List Ln) (m:Nat):fK [.ref h.length,.lst (ls.map kC),.int (m:Nat)] (h++[.ins "Search" []])=some (.non,h++[.ins "Search" [("lengths", .lst (ls.map kC)),("most", .int (m:Nat)),("made", .int ((0:Nat):Int))]]):=by
 have n1:¬((("lengths" :Str))=(("most" :Str))):=by decide +kernel
 have n2:¬((("lengths" :Str))=(("made" :Str))):=by decide +kernel
 have n3:¬((("most" :Str))=(("made" :Str))):=by decide +kernel
 have p1:DE "lengths" (.lst (ls.map kC)) []=([("lengths", .lst (ls.map kC))]:List (Str×Dt)):=rfl;have p2:DE "most" (.int (m:Nat)) [("lengths", .lst (ls.map kC))]=([("lengths", .lst (ls.map kC)),("most", .int (m:Nat))]:List (Str×Dt)):=by simp only[DE,if_neg n1]
 have p3:DE "made" (.int 0) [("lengths", .lst (ls.map kC)),("most", .int (m:Nat))]=([("lengths", .lst (ls.map kC)),("most", .int (m:Nat)),("made", .int 0)]:List (Str×Dt)):=by simp only[DE,if_neg n2,if_neg n3]
 have s1:=gN (h:=h++[.ins "Search" []]) (n:=h.length) (x := "Search") (k := "lengths") (v:=.lst (ls.map kC)) (l:=[some (.ref h.length),some (.lst (ls.map kC)),some (.int (m:Nat))]) (fs:=[]) (by simp) (by simp);have s2:=gN (h:=h++[.ins "Search" [("lengths", .lst (ls.map kC))]]) (n:=h.length) (x := "Search") (k := "most") (v:=.int (m:Nat)) (l:=[some (.ref h.length),some (.lst (ls.map kC)),some (.int (m:Nat))]) (fs:=[("lengths", .lst (ls.map kC))]) (by simp) (by simp);have s3:=gN (h:=h++[.ins "Search" [("lengths", .lst (ls.map kC)),("most", .int (m:Nat))]]) (n:=h.length) (x := "Search") (k := "made") (v:=.int 0) (l:=[some (.ref h.length),some (.lst (ls.map kC)),some (.int (m:Nat))]) (fs:=[("lengths", .lst (ls.map kC)),("most", .int (m:Nat))]) (by simp) (by simp);rw[p1]at s1;rw[p2]at s2;rw[p3]at s3;have hs:∀x y:Ob,(h++[x]).set h.length y=h++[y]:=fun x y=>by simp
 rw[hs]at s1 s2 s3;simp only[fK,xP,sB,zd3,zd4,if_true,zd5,zd6,Nat.reduceAdd,Nat.reduceSub,List.replicate,zei,XA,HY,pA,EA,zd1,zd2,qA,lA,s1,YA,s2,s3,Vx];rfl
theorem i7{c m:Nat}(hc1:1<=c)(hc:c<=8){h:HI}{a:Nat}{fs:List Fact}(F:XY c h a fs)(ex:∃A s,zT c m fs 12 A s) :
 ∃A s x h',zT c m fs 12 A s/\YI [.int (c:Nat),.ref a,.int (m:Nat)] h=some (.tup [qP A.wd,x,.int (s:Nat)],h')/\Fb h.length h' c A (.tup [qP A.wd,x])/\Wc h h':=by
 obtain⟨ds,ha,D⟩:=F.ds;have dl:=D.len;have fl:=F.len;have hz:ds.length<sizeLine:=by rw[dl];simp[sizeLine];omega
 have eL:=F4 ha hz D;obtain⟨h1,hh1⟩:∃h1:HI,h1=h++[.ins "Search" [("lengths", .lst ((eE fs).map kC)),("most", .int (m:Nat)),("made", .int ((0:Nat):Int))]]:=⟨_,rfl⟩
 have ei:=Qz (h:=h) (eE fs) m;rw[<- hh1]at ei;have U1:Up h h1:=hh1 ▸ Up.app _ _;have O1:yc h1 h.length (eE fs) m 0:=by unfold yc;rw[hh1];simp
 obtain⟨b,h2,eN,N2,U2⟩:=P4 (show c<=1000 by omega) (U1.get ha) (D.up U1.l) F.ok;have eP:=VM (show c<=1000 by omega) h2;obtain⟨h3,hh3⟩:∃h3:HI,h3=h2++[.lst ((BA c).map sA)]:=⟨_,rfl⟩
 rw[<- hh3]at eP;have U3:Up h2 h3:=hh3 ▸ Up.app _ _;have UU:Up h h3:=U1.trans (U2.trans U3);obtain⟨Bc,GA,eG⟩:=Q4 (UU.get ha) hz (D.up UU.l);have pl:=jJ c c;have hcc:c*c<=8*8:=Nat.mul_le_mul hc hc;obtain⟨d,h',A,s,e,L,AN,U4,O4⟩:=Rz (m:=m) hc1 hc (show(eE fs).length<=100 by have:=sN fs;omega) (QK fs F.ok) 12 (rC kB fs) (fG fs) Bc 0 b h.length (.ref h2.length) (BA c) h3
  ⟨ex,ZI fs F.ok _ (ZN c),WK fs F.ok,F.sg,U3.net N2,GA,.inr ⟨h2.length,rfl,by rw[hh3];simp⟩,(fun p hp=>by obtain⟨q1,q2⟩:=Hf.mp hp;omega),JR c _,by unfold BA;omega,(O1.up U2).up U3⟩
 have lo:h.length<=h3.length:=UU.1;have fm:=BN (x := "Search") (k := "made") O4 (mY);have mt:=zR (h:=h1) (x := "Search") (m := "look") (F:=MF 12) (ga:=bA (xA oK [] (bA (eV 0) (bA (eV 1) eA))) (bA (xA oH [] (bA (eV 0) eA)) (bA (xA pK [] (bA (eV 1) eA)) eA))) (l:=[some (.int (c:Nat)),some (.ref a),some (.int (m:Nat)),some (.ref h.length),none]) O1 wX;obtain⟨x,hx⟩:∃x,d=.tup [qP A.wd,x]:=by
  cases A with
  | Dm=>exact⟨_,AN⟩
  | laid t=>exact⟨_,AN⟩
  | clash tr=>obtain⟨x,e,_⟩:=AN;exact⟨x,e⟩
 subst hx;refine⟨A,s,x,h',L,?_,AN.up lo (fun k xs hk hx=>hx),(UU.l).trans U4⟩;simp only[YI,rR,sB,zd3,zd4,if_true,zd5,zd6,Nat.reduceAdd,Nat.reduceSub,List.replicate,zec,zeb,XA,fB,iw,aB,UA,NA,pA,zd1,zd2,qA,lA,zei,eL,ei,G8,zd8,zd7,YA,eT,mt,eN,eP,eG,e,CB,RD,CA,EA,HB,UB,YD,zd9,wL,fm,cU,MB]
def yd(c:Nat)(f:OA)(s:Nat->Int×Int):Prop:=∀i<c,∀j<c,i≠j->(f i j).testBit (Bf (s i) (s j))=true
theorem yd.Ql{c:Nat}{f:OA}{s:Nat->Int×Int}(ok:∀i,i<c->IC (s i))(h:yd c f s){i j:Nat}(hi:i<c)(hj:j<c)(hij:i≠j){m:Nat}(hm:m.testBit (Bf (s i) (s j))=true):yd c (gB f i m j) s:=by
 have hw:=XD (ok i hi) (ok j hj);have hb:(f i j&&&m).testBit (Bf (s i) (s j))=true:=by rw[Nat.testBit_and,h i hi j hj hij,hm];rfl
 intro a ha b hb' hab;by_cases e1:a=i/\b=j
 · obtain⟨rfl,rfl⟩:=e1;rw[xJ f m hij];exact hb
 · by_cases e2:a=j/\b=i
   · obtain⟨rfl,rfl⟩:=e2;rw[lT,vK (ok b hb') (ok a ha),qE _ (by omega),show 12-(12-Bf (s b) (s a))=Bf (s b) (s a) by omega];exact hb
   · rw[ZF f e1 e2];exact h a ha b hb' hab
theorem yd.Wn{c:Nat}{f:OA}{s:Nat->Int×Int}(ok:∀i,i<c->IC (s i)){i j m:Nat}(hi:i<c)(hj:j<c)(hij:i≠j)(o:SA c f)(h:yd c (gB f i m j) s):yd c f s/\m.testBit (Bf (s i) (s j))=true:=by
 have h1:=h i hi j hj hij;rw[xJ f m hij,Nat.testBit_and,Bool.and_eq_true]at h1;refine⟨fun a ha b hb hab=>?_,h1.2⟩;by_cases e1:a=i/\b=j
 · obtain⟨rfl,rfl⟩:=e1;exact h1.1
 · by_cases e2:a=j/\b=i
   · obtain⟨rfl,rfl⟩:=e2;have hw:=XD (ok b hb) (ok a ha);rw[o.tn b hb a ha,vK (ok b hb) (ok a ha),qE _ (by omega),show 12-(12-Bf (s b) (s a))=Bf (s b) (s a) by omega];exact h1.1
   · have:=h a ha b hb hab;rw[ZF f e1 e2]at this;exact this
theorem yd.sub{c:Nat}{f g:OA}{s:Nat->Int×Int}(h:yd c g s)(q:KH c g f):yd c f s:=fun i hi j hj hij=>Jf.mp (q i hi j hj) _ (h i hi j hj hij)
theorem yd.steps{c:Nat}{f g:OA}{st:List (Nat×Nat×Nat)}{s:Nat->Int×Int}(ok:∀i,i<c->IC (s i))(h:Steps c f st g)(q:yd c f s):yd c g s:=by
 induction h with
 | nil=>exact q
 | @snoc st g i k j h hi hk hj d ne n ih=>refine yd.Ql ok ih hi hj d.2.2 ?_;unfold Ef;rw[Nat.testBit_and,ih i hi j hj d.2.2,Bool.true_and];exact(nJ _ _ _).mpr ⟨_,_,XD (ok i hi) (ok k hk),ih i hi k hk d.1,XD (ok k hk) (ok j hj),ih k hk j hj d.2.1,BW (ok i hi) (ok k hk) (ok j hj)⟩
theorem yd.cut{c:Nat}{f:OA}{s:Nat->Int×Int}(h:yd c f s):yd c (VC c f) s:=fun i hi j hj hij=>by rw[NE f hi hj];exact h i hi j hj hij
theorem yd.zaA{c:Nat}{f:OA}{s:Nat->Int×Int}(h:yd c (VC c f) s):yd c f s:=fun i hi j hj hij=>by have:=h i hi j hj hij;rw[NE f hi hj]at this;exact this
theorem gj(k:Nat):(0:Nat).testBit k=false:=by simp
theorem yd.ne{c:Nat}{f:OA}{s:Nat->Int×Int}(h:yd c f s)(d:∀i<c,f i i=64):aC c f=false:=by
 cases z:aC c f with
 | false=>rfl
 | true=>
  obtain⟨i,hi,j,hj,e⟩:=Yd.mp z;by_cases hij:i=j
  · subst hij;rw[d i hi]at e;cases e
  · have:=h i hi j hj hij;rw[e,gj]at this;cases this
theorem FN{c:Nat}{f:OA}(d:∀i<c,f i i=64){i j:Nat}(hij:i≠j)(m:Nat):∀k<c,gB f i m j k k=64:=fun k hk=>by rw[ZF f (fun q=>hij (q.1.symm.trans q.2)) (fun q=>hij (q.2.symm.trans q.1))];exact d k hk
theorem zV{c k:Nat}:∀(ms:List WB)(_:∀m∈ms,jD c m)(f:OA)(p:Nat),(∀i<c,f i i=64)->∀i<c,gE f k ms p i i=64
 | [],_,f,p,d=>d
 | m::ms,h,f,p,d=>zV ms (fun x hx=>h x (by simp[hx])) _ _ (FN d (h m (by simp)).2.2.1 _)
theorem fX{m k:Nat}(hm:m<8192)(hk:k<13):(notM m).testBit k=!m.testBit k:=by
 have:notM m=2^13-(m+1):=by unfold notM;omega
 rw[this,Nat.testBit_two_pow_sub_succ hm];simp[hk]
def lE(s:Nat->Int×Int)(m:WB):Bool:=m.2.1.testBit (Bf (s m.1) (s m.2.2))
theorem yd.only{c k:Nat}{s:Nat->Int×Int}(ok:∀i,i<c->IC (s i)):∀(ms:List WB)(_:∀m∈ms,jD c m)(f:OA)(p:Nat),yd c f s->(∀(i:Nat) m,ms[i]?=some m->lE s m=decide (p+i=k))->yd c (gE f k ms p) s
 | [],_,f,p,q,_=>q
 | m::ms,h,f,p,q,H=>by
  obtain⟨a,b,d,e⟩:=h m (by simp);have h0:=H 0 m rfl;refine yd.only ok ms (fun x hx=>h x (by simp[hx])) _ _ (q.Ql ok a b d ?_) (fun i x hx=>?_)
  · unfold lE at h0;by_cases z:p=k
    · rw[if_pos z];rw[decide_eq_true (show p+0=k by omega)]at h0;exact h0
    · rw[if_neg z,fX e (XD (ok _ a) (ok _ b)),h0,decide_eq_false (show ¬p+0=k by omega)];rfl
  · rw[H (i+1) x (by simpa using hx)]
    congr 1
    rw[show p+(i+1)=p+1+i by omega]
theorem yd.Nm{c k:Nat}{s:Nat->Int×Int}(ok:∀i,i<c->IC (s i)):∀(ms:List WB)(_:∀m∈ms,jD c m)(f:OA)(p:Nat),SA c f->yd c (gE f k ms p) s->yd c f s/\∀(i:Nat) m,ms[i]?=some m->lE s m=decide (p+i=k)
 | [],_,f,p,o,q=>⟨q,fun i m h=>by simp at h⟩
 | m::ms,h,f,p,o,q=>by
  obtain⟨a,b,d,e⟩:=h m (by simp);obtain⟨q1,H⟩:=yd.Nm ok ms (fun x hx=>h x (by simp[hx])) _ _ (dG o a b d _) q;obtain⟨q2,z⟩:=yd.Wn ok a b d o q1;refine⟨q2,fun i x hx=>?_⟩;cases i with
  | zero=>
   simp at hx;subst hx;unfold lE;by_cases y:p=k
   · rw[if_pos y]at z;rw[z,decide_eq_true (show p+0=k by omega)]
   · rw[if_neg y,fX e (XD (ok _ a) (ok _ b))]at z;rw[decide_eq_false (show ¬p+0=k by omega)];simpa using z
  | succ i=>
   rw[H i x (by simpa using hx)]
   congr 1
   rw[show p+(i+1)=p+1+i by omega]
def ZY(s:Nat->Int×Int)(g:List WB):Prop:=∃k,k<g.length/\∀(i:Nat) m,g[i]?=some m->lE s m=decide (i=k)
noncomputable def VJ(s:Nat->Int×Int)(p:Nat):Int:=if p%2=0 then(s (p/2)).1 else(s (p/2)).2
theorem WJ(s:Nat->Int×Int)(i:Nat):VJ s (2*i)=(s i).1:=by unfold VJ;rw[if_pos (by omega),show 2*i/2=i by omega]
theorem XJ(s:Nat->Int×Int)(i:Nat):VJ s (2*i+1)=(s i).2:=by unfold VJ;rw[if_neg (by omega),show(2*i+1)/2=i by omega]
noncomputable def Alike(T t:Nat->Int)(p q:Nat):Prop:=(T p<T q->t p<t q)/\(T p=T q->t p=t q)/\(T q<T p->t q<t p)
theorem Alike.symm{T t:Nat->Int}{p q:Nat}(h:Alike T t p q):Alike T t q p:=⟨h.2.2,fun e=>(h.2.1 e.symm).symm,h.1⟩
noncomputable def YY(c:Nat)(s:Nat->Int×Int)(x:Ln):Prop:=x.1<c/\x.2.1<=(s x.1).2-(s x.1).1/\(s x.1).2-(s x.1).1<=x.2.2
theorem xS{g x y:Int}(hg:1<=g)(h:x<y):g*x-g*y<=-1:=by rw[<- Int.mul_sub];have h1:g*(x-y)<=g*(-1):=Int.mul_le_mul_of_nonneg_left (by omega) (by omega);omega
theorem yX{g x y:Int}(hg:1<=g)(h:x<=y):g*x-g*y<=0:=by rw[<- Int.mul_sub];have h1:g*(x-y)<=g*0:=Int.mul_le_mul_of_nonneg_left (by omega) (by omega);omega
theorem iX{g:Int}(hg:1<=g){T:Nat->Int}{p q:Nat}{a mx mn z:Int}(z1:z<=mx)(z2:mn<=z)(lt:z<a->T p<T q)(eq:z=a->T p=T q)(gt:a<z->T q<T p):∀e∈rG p q a mx mn,g*T e.1-g*T e.2.1<=e.2.2:=by
 intro e he;unfold rG at he;rcases mem_append.mp he with he | he
 · by_cases c1:mx<=a
   · rw[if_pos c1]at he;rw[mem_singleton.mp he];by_cases c2:mx<a
     · rw[if_pos c2];exact xS hg (lt (by omega))
     · rw[if_neg c2];refine yX hg (x:=T p) (y:=T q) ?_;rcases Int.lt_trichotomy z a with y | y | y
       · have:=lt y;omega
       · have:=eq y;omega
       · omega
   · rw[if_neg c1]at he;exact nomatch he
 · by_cases c1:a<=mn
   · rw[if_pos c1]at he;rw[mem_singleton.mp he];by_cases c2:a<mn
     · rw[if_pos c2];exact xS hg (gt (by omega))
     · rw[if_neg c2];refine yX hg (x:=T q) (y:=T p) ?_;rcases Int.lt_trichotomy z a with y | y | y
       · omega
       · have:=eq y;omega
       · have:=gt y;omega
   · rw[if_neg c1]at he;exact nomatch he
theorem Ak:∀p∈Ad,pz (Ad.idxOf p)=p:=by decide +kernel
theorem nL{s o:Int×Int}(h1:IC s)(h2:IC o):pz (Bf s o)=(vB s.1 o.1 o.2,vB s.2 o.1 o.2):=Ak _ (cN h1 h2)
theorem Dj{s o:Int×Int}(h1:IC s)(h2:IC o){m:Nat}(hm:m.testBit (Bf s o)=true)(side:Nat)(hs:side<2):((vB (if side=0 then s.1 else s.2) o.1 o.2:Nat):Int)∈PB side m:=by unfold PB;refine mem_map.mpr ⟨Bf s o,Df.mpr ⟨XD h1 h2,hm⟩,?_⟩;unfold zs;rw[nL h1 h2];rcases(show side=0\/side=1 by omega)with rfl | rfl<;>rfl
theorem IV{c:Nat}{g:OA}{s:Nat->Int×Int}(ok:∀i,i<c->IC (s i))(q:yd c g s){G:Int}(hG:1<=G){i j side:Nat}(hi:i<c)(hj:j<c)(hij:i≠j)(hs:side<2):∀e∈ME i j side (g i j),G*VJ s e.1-G*VJ s e.2.1<=e.2.2:=by
 have mem:=Dj (ok i hi) (ok j hj) (q i hi j hj hij) side hs;have ne:PB side (g i j) ≠ []:=fun z=>by rw[z]at mem;cases mem
 have mx:=(bR _ ne).2 _ mem;have mn:=(cI _ ne).2 _ mem;have pt:VJ s (2*i+side)=(if side=0 then(s i).1 else(s i).2):=by
  rcases(show side=0\/side=1 by omega)with rfl | rfl
  · rw[Nat.add_zero,WJ];rfl
  · rw[XJ];rfl
 have okj:(s j).1<(s j).2:=ok j hj;intro e he;unfold ME at he;have zc:=lH (if side=0 then(s i).1 else(s i).2) (s j).1 (s j).2 okj;rcases mem_append.mp he with he | he
 · refine iX hG mx mn ?_ ?_ ?_ e he<;>rw[pt,WJ]<;>intro z<;>rcases zc with⟨y,w⟩ | ⟨y,w⟩ | ⟨y,y',w⟩ | ⟨y,w⟩ | ⟨y,w⟩<;>rw[w]at z<;>omega
 · refine iX hG mx mn ?_ ?_ ?_ e he<;>rw[pt,XJ]<;>intro z<;>rcases zc with⟨y,w⟩ | ⟨y,w⟩ | ⟨y,y',w⟩ | ⟨y,w⟩ | ⟨y,w⟩<;>rw[w]at z<;>omega
theorem zX{c:Nat}{g:OA}{s:Nat->Int×Int}(ok:∀i,i<c->IC (s i))(q:yd c g s){ls:List Ln}(hl:∀x∈ls,YY c s x):∀e∈uD c g ls,((2*c+1:Nat):Int)*VJ s e.1-((2*c+1:Nat):Int)*VJ s e.2.1<=e.2.2:=by
 intro e he;unfold uD at he;have hg:(1:Int)<=((2*c+1:Nat):Int):=by omega
 generalize 2*c+1=G at he hg;rcases mem_append.mp he with he | he
 · rcases mem_append.mp he with he | he
   · obtain⟨i,hi,rfl⟩:=mem_map.mp he;simp only[WJ,XJ];exact xS hg (ok i (mem_range.mp hi))
   · obtain⟨x,hx,he⟩:=mem_flatMap.mp he;obtain⟨h1,h2,h3⟩:=hl x hx;unfold EC at he;have a1:(G:Int)*((s x.1).1-(s x.1).2)<=G*(-x.2.1):=Int.mul_le_mul_of_nonneg_left (by omega) (by omega);have a2:(G:Int)*((s x.1).2-(s x.1).1)<=G*x.2.2:=Int.mul_le_mul_of_nonneg_left (by omega) (by omega);simp only[mem_cons,not_mem_nil,or_false]at he;rcases he with rfl | rfl
     · simp only[WJ,XJ];rw[<- Int.mul_sub,Int.mul_comm (-x.2.1)];exact a1
     · simp only[WJ,XJ];rw[<- Int.mul_sub,Int.mul_comm x.2.2];exact a2
 · obtain⟨p,hp,he⟩:=mem_flatMap.mp he;obtain⟨p1,p2⟩:=hX hp;unfold yC at he;rcases mem_append.mp he with he | he
   · exact IV ok q hg (by omega) p2 (by omega) (by omega) e he
   · exact IV ok q hg (by omega) p2 (by omega) (by omega) e he
theorem F8{c m:Nat}{ls:List Ln}{s:Nat->Int×Int}(ok:∀i,i<c->IC (s i))(hl:∀x∈ls,YY c s x):∀(n:Nat)(f:OA)(gs:List (List WB))(made:Nat)(a:Gn)(sp:Nat),zC c m ls n f gs made a sp->SA c f->vd c gs->(∀i<c,f i i=64)->yd c f s->(∀g∈gs,ZY s g)->a.wd≠.clash
 | 0,_,_,_,_,_,h,_,_,_,_,_=>h.elim
 | n+1,f,gs,made,a,sp,h,of,og,dg,q,hg=>by
  rcases h with⟨st,g,h1,h2,rfl,rfl⟩ | ⟨st,g,EN,h⟩
  · have:=(q.steps ok h1).ne (h1.diag dg);rw[h2]at this;cases this
  · obtain⟨Nb,Dp,neg⟩:=EN.ok of;obtain⟨g0,s0,_,_,rfl⟩:=EN;have qg:yd c (VC c g0) s:=(q.steps ok s0).cut;have dg':∀i<c,VC c g0 i i=64:=fun i hi=>by rw[NE g0 hi hi];exact s0.diag dg i hi
    generalize VC c g0=g at Nb Dp neg qg dg' h;rcases h with⟨cs,P,k,R,rfl,rfl⟩ | ⟨t,ht,h⟩
    · exact(CS (b:=fun p=>((2*c+1:Nat):Int)*VJ s p) (zX ok qg hl) R).elim
    · rcases h with⟨_,rfl,rfl⟩ | ⟨tag,bs,ps,hs,h⟩
      · intro z;cases z
      · rcases h with⟨_,rfl,rfl⟩ | ⟨_,h⟩
        · intro z;cases z
        · have Jp:=UK Nb og hs;have ex:∃b∈bs,yd c b s:=by
           cases gs with
           | cons grp gs=>simp only[cD,Option.some.injEq,Prod.mk.injEq]at hs;obtain⟨_,rfl,_⟩:=hs;obtain⟨k,kl,H⟩:=hg grp (by simp);exact⟨_,mem_map.mpr ⟨k,mem_range.mpr kl,rfl⟩,yd.only ok grp (og grp (by simp)) g 0 qg (fun i x hx=>by rw[H i x hx,Nat.zero_add])⟩
           | nil=>
            simp only[cD]at hs;cases lp:tE c g with
            | none=>rw[lp]at hs;cases hs
            | some p=>
             rw[lp]at hs;simp only[Option.some.injEq,Prod.mk.injEq]at hs;obtain⟨_,rfl,_⟩:=hs;obtain⟨q1,q2⟩:=Hf.mp (mem_of_find?_eq_some lp);have p1:p.1<c:=by omega
             have p2:p.2<c:=by omega
             have hb:=qg p.1 p1 p.2 p2 (by omega);have wl:=XD (ok _ p1) (ok _ p2);exact⟨_,mem_map.mpr ⟨_,Df.mpr ⟨wl,hb⟩,rfl⟩,qg.Ql ok p1 p2 (by omega) (by rw[Nat.testBit_two_pow];simp)⟩
          have dgb:∀b∈bs,∀i<c,b i i=64:=by
           cases gs with
           | cons grp gs=>simp only[cD,Option.some.injEq,Prod.mk.injEq]at hs;obtain⟨_,rfl,_⟩:=hs;intro b hb;obtain⟨k,_,rfl⟩:=mem_map.mp hb;exact zV grp (og grp (by simp)) g 0 dg'
           | nil=>
            simp only[cD]at hs;cases lp:tE c g with
            | none=>rw[lp]at hs;cases hs
            | some p=>rw[lp]at hs;simp only[Option.some.injEq,Prod.mk.injEq]at hs;obtain⟨_,rfl,_⟩:=hs;obtain⟨q1,q2⟩:=Hf.mp (mem_of_find?_eq_some lp);intro b hb;obtain⟨w,_,rfl⟩:=mem_map.mp hb;exact FN dg' (by omega) _
          have go:∀(bs:List OA),(∀b∈bs,SA c b)->(∀b∈bs,∀i<c,b i i=64)->(∃b∈bs,yd c b s)->∀(md:Nat)(acc:List Tr)(a:Gn)(sp:Nat),BE (zC c m ls n) tag st gs.tail bs md acc a sp->a.wd≠.clash:=by
           intro bs
           induction bs with
           | nil=>rintro _ _ ⟨b,hb,_⟩;cases hb
           | cons b bs ih=>
            rintro h1 h2 ⟨b',hb',qb⟩ md acc a sp q;rcases q with⟨tr,m1,q1,q2⟩ | ⟨q1,q2⟩
            · rcases mem_cons.mp hb' with rfl | hb'
              · exact absurd rfl (F8 ok hl n b' _ md _ _ q1 (h1 b' (by simp)) og.tail (h2 b' (by simp)) qb (fun x hx=>hg x (mem_of_mem_tail hx)))
              · exact ih (fun x hx=>h1 x (by simp[hx])) (fun x hx=>h2 x (by simp[hx])) ⟨b',hb',qb⟩ _ _ _ _ q2
            · exact q1
          exact go bs Jp dgb ex _ _ _ _ h
def tU(p j:Nat)(z:Int):List Bd:=rG p (2*j) 1 z z++rG p (2*j+1) 3 z z
theorem PX{t:Nat->Int}{p j z:Nat}(hz:z<5)(hj:t (2*j)<t (2*j+1))(h:∀e∈tU p j (z:Int),iF t e):vB (t p) (t (2*j)) (t (2*j+1))=z:=by
 rcases(show z=0\/z=1\/z=2\/z=3\/z=4 by omega)with rfl | rfl | rfl | rfl | rfl<;>simp[tU,rG,iF]at h<;>unfold vB
 · rw[if_pos (by omega)]
 · rw[if_neg (by omega),if_pos (by omega)]
 · rw[if_neg (by omega),if_neg (by omega),if_pos (by omega)]
 · rw[if_neg (by omega),if_neg (by omega),if_neg (by omega),if_pos (by omega)]
 · rw[if_neg (by omega),if_neg (by omega),if_neg (by omega),if_neg (by omega)]
theorem uy:∀w<13,(pz w).1<5/\(pz w).2<5/\Ad.idxOf (pz w)=w:=by decide +kernel
theorem DW:∀w:Nat,w<13->HA (2^w)=[w]:=by decide +kernel
theorem Ij{i j side w:Nat}(hw:w<13)(hs:side<2):ME i j side (2^w)=tU (2*i+side) j ((if side=0 then(pz w).1 else(pz w).2:Nat):Int):=by unfold ME tU PB;rw[DW w hw];rcases(show side=0\/side=1 by omega)with rfl | rfl<;>rfl
theorem Qj{m:Nat}(hm:m<8192)(h0:m≠0)(h1:¬1<(HA m).length):∃w,w<13/\m=2^w:=by
 have ne:=YN hm h0;obtain⟨w,hw⟩:∃w,HA m=[w]:=by
  cases e:HA m with
  | nil=>exact absurd e ne
  | cons w r=>
   cases r with
   | nil=>exact⟨w,rfl⟩
   | cons x r=>rw[e]at h1;simp at h1
 have wm:w∈HA m:=by rw[hw];simp
 obtain⟨w13,wb⟩:=Df.mp wm;refine⟨w,w13,eI hm (zcy w13) fun k hk=>?_⟩;rw[Nat.testBit_two_pow];by_cases z:w=k
 · subst z;rw[wb];simp
 · rw[decide_eq_false z];cases b:m.testBit k with
   | false=>rfl
   | true=>have:k∈HA m:=Df.mpr ⟨hk,b⟩;rw[hw]at this;exact absurd (mem_singleton.mp this).symm z
where zcy {w:Nat} (h:w<13):2^w<8192:=Nat.pow_lt_pow_right (by decide) h (m:=w) (n:=13)
noncomputable def fC(t:Nat->Int)(k:Nat):Int×Int:=(t (2*k),t (2*k+1))
theorem OX{c:Nat}{g:OA}{ls:List Ln}{t:Nat->Int}(ht:∀e∈uD c g ls,iF t e):∀i,i<c->IC (fC t i):=by intro i hi;have h:=ht (2*i,2*i+1,-1) (mem_append.mpr (.inl (mem_append.mpr (.inl (mem_map.mpr ⟨i,mem_range.mpr hi,rfl⟩)))));simp only[iF]at h;show t (2*i)<t (2*i+1);omega
theorem Cv{c:Nat}{g:OA}(og:SA c g)(ne:aC c g=false)(lp:tE c g=none){ls:List Ln}{t:Nat->Int}(ht:∀e∈uD c g ls,iF t e):yd c g (fC t):=by
 have ok:=OX ht;have up:∀i j,i<j->j<c->g i j=2^Bf (fC t i) (fC t j):=by
  intro i j hij hj;have hi:i<c:=by omega
  have hp:=X7 hij hj;have nl:¬1<(HA (g i j)).length:=by have:=find?_eq_none.mp lp (i,j) hp;simpa using this
  obtain⟨w,hw,e⟩:=Qj (og.lt i hi j hj) (Mf ne hi hj) nl;obtain⟨z1,z2,zi⟩:=uy w hw;have sd:∀side,side<2->∀x∈tU (2*i+side) j ((if side=0 then(pz w).1 else(pz w).2:Nat):Int),iF t x:=by
   intro side hs x hx;rw[<- Ij (i:=i) hw hs,<- e]at hx;refine ht x (mem_append.mpr (.inr (mem_flatMap.mpr ⟨(i,j),hp,?_⟩)));unfold yC;rcases(show side=0\/side=1 by omega)with rfl | rfl
   · exact mem_append.mpr (.inl hx)
   · exact mem_append.mpr (.inr hx)
  have a1:=PX (p:=2*i) z1 (ok j hj) (sd 0 (by omega));have a2:=PX (p:=2*i+1) z2 (ok j hj) (sd 1 (by omega));have:Bf (fC t i) (fC t j)=w:=by unfold Bf fC;simp only;rw[a1,a2];exact zi
  rw[this];exact e
 intro i hi j hj hij;rcases Nat.lt_or_gt_of_ne hij with z | z
 · rw[up i j z hj,Nat.testBit_two_pow];simp
 · have hw:=XD (ok j hj) (ok i hi);rw[og.tn j hj i hi,up j i z hi,vK (ok j hj) (ok i hi),dj hw,Nat.testBit_two_pow];simp
theorem Kq{c:Nat}{g:OA}{ls:List Ln}{t:Nat->Int}(ht:∀e∈uD c g ls,iF t e){x:Ln}(hx:x∈ls):x.2.1*((2*c+1:Nat):Int)<=t (2*x.1+1)-t (2*x.1)/\t (2*x.1+1)-t (2*x.1)<=x.2.2*((2*c+1:Nat):Int):=by have h1:=ht (2*x.1,2*x.1+1,-x.2.1*((2*c+1:Nat):Int)) (mem_append.mpr (.inl (mem_append.mpr (.inr (mem_flatMap.mpr ⟨x,hx,by simp[EC]⟩)))));have h2:=ht (2*x.1+1,2*x.1,x.2.2*((2*c+1:Nat):Int)) (mem_append.mpr (.inl (mem_append.mpr (.inr (mem_flatMap.mpr ⟨x,hx,by simp[EC]⟩)))));simp only[iF,Int.neg_mul]at h1 h2;omega
structure gU(c:Nat)(ls:List Ln)(f:OA)(gs:List (List WB))(t:Nat->Int):Prop where
 ok:∀i,i<c->IC (fC t i)
 net:yd c f (fC t)
 one:∀g∈gs,ZY (fC t) g
 len:∀x∈ls,x.2.1*((2*c+1:Nat):Int)<=t (2*x.1+1)-t (2*x.1)/\t (2*x.1+1)-t (2*x.1)<=x.2.2*((2*c+1:Nat):Int)
theorem uV{c m:Nat}{ls:List Ln}:∀(n:Nat)(f:OA)(gs:List (List WB))(made:Nat)(t:Nat->Int)(sp:Nat),zC c m ls n f gs made (.laid t) sp->SA c f->vd c gs->gU c ls f gs t
 | 0,_,_,_,_,_,h,_,_=>h.elim
 | n+1,f,gs,made,t,sp,h,of,og=>by
  rcases h with⟨st,g,h1,h2,h3,_⟩ | ⟨st,g,EN,h⟩
  · cases h3
  · obtain⟨Nb,Dp,neg⟩:=EN.ok of;obtain⟨g0,s0,_,_,rfl⟩:=EN;have sub:∀{s:Nat->Int×Int},yd c (VC c g0) s->yd c f s:=fun q=>q.zaA.sub (s0.sub of)
    generalize VC c g0=g at Nb Dp neg sub h;rcases h with⟨cs,P,k,R,h3,_⟩ | ⟨t',ht,h⟩
    · cases h3
    · rcases h with⟨hs,h3,_⟩ | ⟨tag,bs,ps,hs,h⟩
      · cases h3;cases gs with
        | cons grp gs=>simp only[cD]at hs;cases hs
        | nil=>
         have lp:tE c g=none:=by
          simp only[cD]at hs;cases lp:tE c g with
          | none=>rfl
          | some p=>rw[lp]at hs;cases hs
         exact⟨OX ht,sub (Cv Nb neg lp ht),(fun g hg=>nomatch hg),fun x hx=>Kq ht hx⟩
      · rcases h with⟨_,h3,_⟩ | ⟨_,h⟩
        · cases h3
        · have Jp:=UK Nb og hs;have go:∀(bs:List OA),(∀b∈bs,SA c b)->∀(md:Nat)(acc:List Tr)(sp:Nat),BE (zC c m ls n) tag st gs.tail bs md acc (.laid t) sp->∃b∈bs,gU c ls b gs.tail t:=by
           intro bs
           induction bs with
           | nil=>rintro _ md acc sp ⟨q,_⟩;cases q
           | cons b bs ih=>
            intro h1 md acc sp q;rcases q with⟨tr,m1,q1,q2⟩ | ⟨q1,q2⟩
            · obtain⟨b',hb',k⟩:=ih (fun x hx=>h1 x (by simp[hx])) _ _ _ q2;exact⟨b',by simp[hb'],k⟩
            · exact⟨b,by simp,uV n b _ md _ _ q2 (h1 b (by simp)) og.tail⟩
          obtain⟨b,hb,K⟩:=go bs Jp _ _ _ h;cases gs with
          | cons grp gs=>
           simp only[cD,Option.some.injEq,Prod.mk.injEq]at hs;obtain⟨_,rfl,_⟩:=hs;obtain⟨k,kl,rfl⟩:=mem_map.mp hb;obtain⟨q1,H⟩:=yd.Nm K.ok grp (og grp (by simp)) g 0 Nb K.net;refine⟨K.ok,sub q1,fun x hx=>?_,K.len⟩;rcases mem_cons.mp hx with rfl | hx
           · exact⟨k,mem_range.mp kl,fun i m hm=>by rw[H i m hm,Nat.zero_add]⟩
           · exact K.one x hx
          | nil=>
           simp only[cD]at hs;cases lp:tE c g with
           | none=>rw[lp]at hs;cases hs
           | some p=>rw[lp]at hs;simp only[Option.some.injEq,Prod.mk.injEq]at hs;obtain⟨_,rfl,_⟩:=hs;obtain⟨w,_,rfl⟩:=mem_map.mp hb;obtain⟨q1,q2⟩:=Hf.mp (mem_of_find?_eq_some lp);obtain⟨q3,_⟩:=yd.Wn K.ok (by omega) (by omega) (by omega) Nb K.net;exact⟨K.ok,sub q3,(fun g hg=>nomatch hg),K.len⟩
noncomputable def RL:List Nat:=[1,2,3,4,6,7,8,12,14,15,16,24,28,30,31,32,36,38,39,64,72,96,108,110,111,128,144,192,216,224,252,254,255,256,288,292,294,295,512,576,584,768,864,876,878,879,1024,1152,1168,1536,1728,1752,1792,2016,2044,2046,2047,2048,3072,3200,3216,3584,3776,3800,3840,4064,4092,4094,4095,4096,6144,7168,7296,7312,7680,7872,7896,7936,8160,8188,8190,8191]
theorem cT:∀k<13,2^k∈RL:=by decide +kernel
theorem Vq:∀m∈RL,Cd m∈RL:=by decide +kernel
theorem gO:∀m∈RL,∀n∈RL,(m&&&n)=0\/(m&&&n)∈RL:=by decide +kernel
theorem Og:∀m∈RL,∀n∈RL,DI m n∈RL:=by decide +kernel
theorem aZ:∀m∈RL,m≠0/\m<8192:=by decide +kernel
abbrev zA(w:Nat):Nat:=(pz w).1
abbrev zE(w:Nat):Nat:=(pz w).2
def zI(f:Nat->Nat)(m:Nat):Nat:=((HA m).map f).foldl Nat.min 4
def AI(f:Nat->Nat)(m:Nat):Nat:=((HA m).map f).foldl Nat.max 0
theorem bO:∀m∈RL,(zI zA m<5/\AI zA m<5/\zI zE m<5/\AI zE m<5)/\∀w<13,m.testBit w=((decide (zI zA m<=zA w)&&decide (zA w<=AI zA m))&&(decide (zI zE m<=zE w)&&decide (zE w<=AI zE m))):=by decide +kernel
theorem AT{m w:Nat}(hm:m∈RL)(hw:w<13):m.testBit w=true↔(zI zA m<=zA w/\zA w<=AI zA m)/\(zI zE m<=zE w/\zE w<=AI zE m):=by rw[(bO m hm).2 w hw];simp only[Bool.and_eq_true,decide_eq_true_eq]
noncomputable def yD(M:Int)(z:Nat)(o:Int×Int):Int:=match z with
 | 0=>-M
 | 1=>4*o.1
 | 2=>4*o.1+1
 | 3=>4*o.2
 | _=>4*o.2+1
noncomputable def JF(M:Int)(z:Nat)(o:Int×Int):Int:=match z with
 | 0=>4*o.1-1
 | 1=>4*o.1
 | 2=>4*o.2-1
 | 3=>4*o.2
 | _=>M
structure GO(M:Int)(o:Int×Int):Prop where
 ok:o.1<o.2
 lo:-M<4*o.1-1
 up:4*o.2+1<M
theorem RH{z:Nat}(h:z<5):z=0\/z=1\/z=2\/z=3\/z=4:=by omega
theorem YW{M:Int}{o:Int×Int}(I:GO M o){z z':Nat}(h:z<=z')(h5:z'<5):yD M z o<=yD M z' o:=by obtain⟨a,b,c⟩:=I;rcases RH (show z<5 by omega)with rfl | rfl | rfl | rfl | rfl<;>rcases RH h5 with rfl | rfl | rfl | rfl | rfl<;>simp only[yD]<;>omega
theorem pX{M:Int}{o:Int×Int}(I:GO M o){z z':Nat}(h:z<=z')(h5:z'<5):JF M z o<=JF M z' o:=by obtain⟨a,b,c⟩:=I;rcases RH (show z<5 by omega)with rfl | rfl | rfl | rfl | rfl<;>rcases RH h5 with rfl | rfl | rfl | rfl | rfl<;>simp only[JF]<;>omega
theorem ZW{M:Int}{o:Int×Int}(ok:o.1<o.2){z:Nat}{t:Int}(h5:z<5)(h:yD M z o<=t):z<=vB t (4*o.1) (4*o.2):=by rcases lH t (4*o.1) (4*o.2) (by omega)with⟨y,w⟩ | ⟨y,w⟩ | ⟨y,y',w⟩ | ⟨y,w⟩ | ⟨y,w⟩<;>rw[w]<;>rcases RH h5 with rfl | rfl | rfl | rfl | rfl<;>simp only[yD]at h<;>omega
theorem qX{M:Int}{o:Int×Int}(ok:o.1<o.2){z:Nat}{t:Int}(h5:z<5)(h:t<=JF M z o):vB t (4*o.1) (4*o.2)<=z:=by rcases lH t (4*o.1) (4*o.2) (by omega)with⟨y,w⟩ | ⟨y,w⟩ | ⟨y,y',w⟩ | ⟨y,w⟩ | ⟨y,w⟩<;>rw[w]<;>rcases RH h5 with rfl | rfl | rfl | rfl | rfl<;>simp only[JF]at h<;>omega
def LO(za zb w:Nat):Bool:=decide (za=0) || decide (zb=4) ||
 (let zP:=if za<=2 then zA w else zE w
  if(za=2\/za=4)\/(zb=0\/zb=2)then(if zb<=1 then decide (zP=0)else decide (zP<=2))else(if zb<=1 then decide (zP<=1)else decide (zP<=3)))
def nU(za zb w:Nat):Bool:=decide (za=0) || decide (zb=4) ||
 (let zP:=if za<=2 then zA w else zE w
  if zb<=1 then decide (zP=0)else decide (zP<=2))
theorem Z9:∀p<13,∀q<13,∀w<13,(CH p q).testBit w=true->
 (LO (zA (12-p)) (zA q) w&&LO (zE (12-p)) (zE q) w&&nU (zA (12-p)) (zE q) w)=true:=by decide +kernel
theorem RN:∀q<13,(pz q).1<5/\(pz q).2<5/\(LO (zA q) (zA q) 6&&LO (zE q) (zE q) 6&&nU (zA q) (zE q) 6)=true:=by decide +kernel
theorem DX{M:Int}{A B:Int×Int}(IA:GO M A)(IB:GO M B){za zb:Nat}(ha:za<5)(hb:zb<5)(h:LO za zb (Bf A B)=true):yD M za A<=JF M zb B:=by obtain⟨a1,a2,a3⟩:=IA;obtain⟨b1,b2,b3⟩:=IB;have pw:pz (Bf A B)=(vB A.1 B.1 B.2,vB A.2 B.1 B.2):=nL a1 b1;have c1:=lH A.1 B.1 B.2 b1;have c2:=lH A.2 B.1 B.2 b1;unfold LO at h;simp only[zA,zE,pw]at h;rcases RH ha with rfl | rfl | rfl | rfl | rfl<;>rcases RH hb with rfl | rfl | rfl | rfl | rfl<;>simp at h<;>simp only[yD,JF]<;>omega
theorem Lq{M:Int}{A B:Int×Int}(IA:GO M A)(IB:GO M B){za zb:Nat}(ha:za<5)(hb:zb<5)(h:nU za zb (Bf A B)=true):yD M za A<JF M zb B:=by obtain⟨a1,a2,a3⟩:=IA;obtain⟨b1,b2,b3⟩:=IB;have pw:pz (Bf A B)=(vB A.1 B.1 B.2,vB A.2 B.1 B.2):=nL a1 b1;have c1:=lH A.1 B.1 B.2 b1;have c2:=lH A.2 B.1 B.2 b1;unfold nU at h;simp only[zA,zE,pw]at h;rcases RH ha with rfl | rfl | rfl | rfl | rfl<;>rcases RH hb with rfl | rfl | rfl | rfl | rfl<;>simp at h<;>simp only[yD,JF]<;>omega
noncomputable def Yl:List (Int×Int):=[(0,1),(0,2),(0,3),(0,4),(0,5),(2,3),(2,4),(2,5),(3,4),(3,4),(3,5),(4,5),(5,6)]
noncomputable def vp:List (Int×Int):=[(2,4),(2,4),(2,4),(2,4),(2,4),(2,4),(2,4),(2,4),(2,5),(2,4),(2,4),(2,4),(2,4)]
theorem qS:∀w<13,(Yl.getD w (0,0)).1<(Yl.getD w (0,0)).2/\(vp.getD w (0,0)).1<(vp.getD w (0,0)).2/\Bf (Yl.getD w (0,0)) (vp.getD w (0,0))=w:=by decide +kernel
theorem fj(w:Nat)(hw:w<13):∃A B,IC A/\IC B/\Bf A B=w:=⟨_,_,(qS w hw).1,(qS w hw).2.1,(qS w hw).2.2⟩
theorem Q1(t a b:Int):vB (4*t) (4*a) (4*b)=vB t a b:=by unfold vB;simp only[show(4*t<4*a)=(t<a)from propext (by omega),show(4*t=4*a)=(t=a)from propext (by omega),show(4*t<4*b)=(t<b)from propext (by omega),show(4*t=4*b)=(t=b)from propext (by omega)]
noncomputable def FF(o:Int×Int):Int×Int:=(4*o.1,4*o.2)
theorem FU(a b:Int×Int):Bf (FF a) (FF b)=Bf a b:=by unfold Bf FF;simp only[Q1]
theorem Bh(s:Nat->Int×Int):∀S:List Nat,(∀i∈S,IC (s i))->∃M:Int,0<M/\∀i∈S,GO M (s i)
 | [],_=>⟨1,by decide,(fun _ h=>nomatch h)⟩
 | i::S,h=>by
  obtain⟨M,hM,q⟩:=Bh s S fun j hj=>h j (by simp[hj])
  have o:(s i).1<(s i).2:=h i (by simp);refine⟨M+4*((s i).1.natAbs:Int)+4*((s i).2.natAbs:Int)+2,by omega,fun j hj=>?_⟩;rcases mem_cons.mp hj with rfl | hj
  · exact⟨o,by omega,by omega⟩
  · obtain⟨a,b,c⟩:=q j hj;exact⟨a,by omega,by omega⟩
theorem QT(f:Nat->Int)(b:Int):∀S:List Nat,∃a,(∀i∈S,f i<=a)/\b<=a/\(a=b\/∃i∈S,a=f i)
 | []=>⟨b,(fun _ h=>nomatch h),Int.le_refl _,.inl rfl⟩
 | i::S=>by
  obtain⟨a,h1,h2,h3⟩:=QT f b S;by_cases z:a<=f i
  · refine⟨f i,fun j hj=>?_,by omega,.inr ⟨i,by simp,rfl⟩⟩;rcases mem_cons.mp hj with rfl | hj
    · exact Int.le_refl _
    · have:=h1 j hj;omega
  · refine⟨a,fun j hj=>?_,h2,?_⟩
    · rcases mem_cons.mp hj with rfl | hj
      · omega
      · exact h1 j hj
    · rcases h3 with h3 | ⟨j,hj,h3⟩
      · exact .inl h3
      · exact .inr ⟨j,by simp[hj],h3⟩
theorem Wg(f:Nat->Int)(b:Int)(S:List Nat):∃a,(∀i∈S,a<=f i)/\a<=b/\(a=b\/∃i∈S,a=f i):=by
 obtain⟨a,h1,h2,h3⟩:=QT (fun i=>-f i) (-b) S;refine⟨-a,fun i hi=>by have:=h1 i hi;omega,by omega,?_⟩;rcases h3 with h3 | ⟨j,hj,h3⟩
 · exact .inl (by omega)
 · exact .inr ⟨j,hj,by omega⟩
def CT(c:Nat)(g:OA):Prop:=∀i<c,∀j<c,i≠j->g i j∈RL
def eU(S:List Nat)(g:OA)(s:Nat->Int×Int):Prop:=∀i∈S,∀j∈S,i≠j->(g i j).testBit (Bf (s i) (s j))=true
theorem NY{m:Nat}(hm:m<8192)(h0:m≠0):∃q,q<13/\m.testBit q=true:=by
 cases e:HA m with
 | nil=>exact absurd e (YN hm h0)
 | cons q r=>exact⟨q,Df.mp (by rw[e];simp)⟩
section
variable{c:Nat}{g:OA}(o:SA c g)(cl:aF c g)(tm:CT c g)
include o cl tm
theorem W7{k:Nat}(hk:k<c){S:List Nat}(hS:∀i∈S,i<c/\i≠k){s:Nat->Int×Int}{M:Int}(I:∀i∈S,GO M (s i))(q:eU S g s){i j:Nat}(hi:i∈S)(hj:j∈S) :
 yD M (zI zA (g k i)) (s i)<=JF M (AI zA (g k j)) (s j)/\yD M (zI zE (g k i)) (s i)<=JF M (AI zE (g k j)) (s j)/\yD M (zI zA (g k i)) (s i)<JF M (AI zE (g k j)) (s j):=by
 obtain⟨ic,ik⟩:=hS i hi;obtain⟨jc,jk⟩:=hS j hj;have ti:=tm k hk i ic (Ne.symm ik);have tj:=tm k hk j jc (Ne.symm jk);obtain⟨⟨i1,i2,i3,i4⟩,_⟩:=bO _ ti;obtain⟨⟨j1,j2,j3,j4⟩,_⟩:=bO _ tj;have fin:∀x y,x<13->y<13->(g k i).testBit x=true->(g k j).testBit y=true->(LO (zA x) (zA y) (Bf (s i) (s j))&&LO (zE x) (zE y) (Bf (s i) (s j))&&nU (zA x) (zE y) (Bf (s i) (s j)))=true->
  yD M (zI zA (g k i)) (s i)<=JF M (AI zA (g k j)) (s j)/\yD M (zI zE (g k i)) (s i)<=JF M (AI zE (g k j)) (s j)/\yD M (zI zA (g k i)) (s i)<JF M (AI zE (g k j)) (s j):=by
  intro x y hx hy bx hby h;simp only[Bool.and_eq_true]at h;obtain⟨⟨h1,h2⟩,h3⟩:=h;obtain⟨⟨x1,_⟩,x2,_⟩:=(AT ti hx).mp bx;obtain⟨⟨_,y1⟩,_,y2⟩:=(AT tj hy).mp hby;obtain⟨x5,x6,_⟩:=RN x hx;obtain⟨y5,y6,_⟩:=RN y hy;have a1:=DX (I i hi) (I j hj) x5 y5 h1;have a2:=DX (I i hi) (I j hj) x6 y6 h2;have a3:=Lq (I i hi) (I j hj) x5 y6 h3;have l1:=YW (I i hi) x1 x5;have l2:=YW (I i hi) x2 x6;have u1:=pX (I j hj) y1 j2;have u2:=pX (I j hj) y2 j4;exact⟨Int.le_trans l1 (Int.le_trans a1 u1),Int.le_trans l2 (Int.le_trans a2 u2),Int.lt_of_le_of_lt l1 (Int.lt_of_lt_of_le a3 u2)⟩
 by_cases e:i=j
 · subst e;obtain⟨n0,nl⟩:=aZ _ ti;obtain⟨x,hx,bx⟩:=NY nl n0;have wt:=(RN x hx).2.2;have w6:=CW (I i hi).ok;exact fin x x hx hx bx bx (by rw[w6];exact wt)
 · have cb:=Jf.mp (show Nf (g i j) (DI (g i k) (g k j))from cl i ic k hk j jc ⟨ik,Ne.symm jk,e⟩) _ (q i hi j hj e);obtain⟨p,y,hp,bp,hy,hby,hc⟩:=(nJ _ _ _).mp cb;have wl:=XD (I i hi).ok (I j hj).ok;have bx:(g k i).testBit (12-p)=true:=by rw[o.tn i ic k hk,qE _ (by omega),show 12-(12-p)=p by omega];exact bp
   exact fin (12-p) y (by omega) hy bx hby (Z9 p hp y hy _ wl hc)
theorem T8{k:Nat}(hk:k<c){S:List Nat}(hS:∀i∈S,i<c/\i≠k){s:Nat->Int×Int}(ok:∀i∈S,IC (s i))(q:eU S g s) :
 ∃s',(∀i∈k::S,IC (s' i))/\eU (k::S) g s'/\∀i∈S,s' i=FF (s i):=by
 obtain⟨M,hM,I⟩:=Bh s S ok;obtain⟨a,a1,a2,a3⟩:=QT (fun i=>yD M (zI zA (g k i)) (s i)) (-M) S;obtain⟨b,b1,b2,b3⟩:=Wg (fun i=>JF M (AI zE (g k i)) (s i)) M S;have P:=fun {i j:Nat} (hi:i∈S) (hj:j∈S)=>W7 o cl tm hk hS I q hi hj
 have dn:∀i∈S,∀z,z<5->-M<=JF M z (s i)/\-M<JF M 4 (s i)/\yD M z (s i)<=M:=by
  intro i hi z hz;obtain⟨c1,c2,c3⟩:=I i hi;refine⟨?_,?_,?_⟩
  · rcases RH hz with rfl | rfl | rfl | rfl | rfl<;>simp only[JF]<;>omega
  · simp only[JF];omega
  · rcases RH hz with rfl | rfl | rfl | rfl | rfl<;>simp only[yD]<;>omega
 have R:=fun {i:Nat} (hi:i∈S)=>(bO _ (tm k hk i (hS i hi).1 (Ne.symm (hS i hi).2))).1
 have au:∀i∈S,a<=JF M (AI zA (g k i)) (s i):=by
  intro i hi;rcases a3 with rfl | ⟨j,hj,rfl⟩
  · exact(dn i hi _ (R hi).2.1).1
  · exact(P hj hi).1
 have bl:∀i∈S,yD M (zI zE (g k i)) (s i)<=b:=by
  intro i hi;rcases b3 with rfl | ⟨j,hj,rfl⟩
  · exact(dn i hi _ (R hi).2.2.1).2.2
  · exact(P hi hj).2.1
 have lo:∀i∈S,∀z,z<5->-M<JF M z (s i)/\yD M z (s i)<M:=by
  intro i hi z hz;obtain⟨c1,c2,c3⟩:=I i hi;constructor
  · rcases RH hz with rfl | rfl | rfl | rfl | rfl<;>simp only[JF]<;>omega
  · rcases RH hz with rfl | rfl | rfl | rfl | rfl<;>simp only[yD]<;>omega
 have ab:a<b:=by
  rcases a3 with rfl | ⟨j,hj,rfl⟩<;>rcases b3 with rfl | ⟨i,hi,rfl⟩
  · omega
  · exact(lo i hi _ (R hi).2.2.2).1
  · exact(lo j hj _ (R hj).1).2
  · exact(P hj hi).2.2
 obtain⟨s',e1,e2⟩:∃s':Nat->Int×Int,s' k=(a,b)/\∀i,i≠k->s' i=FF (s i):=⟨fun i=>if i=k then(a,b)else FF (s i),if_pos rfl,fun i hi=>if_neg hi⟩
 refine⟨s',fun i hi=>?_,?_,fun i hi=>e2 i (hS i hi).2⟩
 · rcases mem_cons.mp hi with rfl | hi
   · rw[e1];exact ab
   · rw[e2 i (hS i hi).2];have:(s i).1<(s i).2:=ok i hi;show 4*(s i).1<4*(s i).2;omega
 · have new:∀i∈S,(g k i).testBit (Bf (a,b) (FF (s i)))=true:=by
    intro i hi;have oi:(s i).1<(s i).2:=ok i hi;have of:IC (FF (s i)):=show 4*(s i).1<4*(s i).2 by omega
    have wl:=XD (s:=(a,b)) ab of;refine(AT (tm k hk i (hS i hi).1 (Ne.symm (hS i hi).2)) wl).mpr ?_;have pw:=nL (s:=(a,b)) ab of;simp only[zA,zE,pw];exact⟨⟨ZW oi (R hi).1 (a1 i hi),qX oi (R hi).2.1 (au i hi)⟩,ZW oi (R hi).2.2.1 (bl i hi),qX oi (R hi).2.2.2 (b1 i hi)⟩
   intro i hi0 j hj0 hij;rcases mem_cons.mp hi0 with hi | hi
   · subst hi;rcases mem_cons.mp hj0 with hj | hj
     · exact absurd hj.symm hij
     · rw[e1,e2 j (hS j hj).2];exact new j hj
   · rcases mem_cons.mp hj0 with hj | hj
     · rw[hj,e1,e2 i (hS i hi).2];have oi:(s i).1<(s i).2:=ok i hi;have of:IC (FF (s i)):=show 4*(s i).1<4*(s i).2 by omega
       have wl:=XD (s:=(a,b)) ab of;rw[o.tn k hk i (hS i hi).1,vK (s:=(a,b)) ab of,qE _ (by omega),show 12-(12-Bf (a,b) (FF (s i)))=Bf (a,b) (FF (s i)) by omega];exact new i hi
     · rw[e2 i (hS i hi).2,e2 j (hS j hj).2,FU];exact q i hi j hj hij
theorem rW:∀(n:Nat),n<=c->∀{S:List Nat},(∀i∈S,i<c)->∀{s:Nat->Int×Int},(∀i∈S,IC (s i))->eU S g s->
 ∃s' S',(∀i∈S,i∈S')/\(∀i<n,i∈S')/\(∀i∈S',i<c)/\(∀i∈S',IC (s' i))/\eU S' g s'/\∀i∈S,∀j∈S,Bf (s' i) (s' j)=Bf (s i) (s j)
 | 0,_,S,hS,s,ok,q=>⟨s,S,fun _ h=>h,fun _ h=>by omega,hS,ok,q,fun _ _ _ _=>rfl⟩
 | n+1,hn,S,hS,s,ok,q=>by
  obtain⟨s1,S1,b1,b2,b3,b4,b5,b6⟩:=rW n (by omega) hS ok q;by_cases z:n∈S1
  · exact⟨s1,S1,b1,fun i hi=>if e:i=n then e ▸ z else b2 i (by omega),b3,b4,b5,b6⟩
  · obtain⟨s2,c1,c2,c3⟩:=T8 o cl tm (k:=n) (by omega) (fun i hi=>⟨b3 i hi,fun e=>z (e ▸ hi)⟩) b4 b5;refine⟨s2,n::S1,fun i hi=>by simp[b1 i hi],fun i hi=>?_,fun i hi=>?_,c1,c2,fun i hi j hj=>?_⟩
    · by_cases e:i=n
      · simp[e]
      · simp[b2 i (by omega)]
    · rcases mem_cons.mp hi with rfl | hi
      · omega
      · exact b3 i hi
    · rw[c3 i (b1 i hi),c3 j (b1 j hj),FU];exact b6 i hi j hj
theorem fS{i j:Nat}(hi:i<c)(hj:j<c)(hij:i≠j){w:Nat}(hw:w<13)(hb:(g i j).testBit w=true):∃s:Nat->Int×Int,(∀i,i<c->IC (s i))/\yd c g s/\Bf (s i) (s j)=w:=by
 obtain⟨A,B,oA,oB,e⟩:=fj w hw;obtain⟨s,hs1,hs2⟩:∃s:Nat->Int×Int,s i=A/\s j=B:=⟨fun k=>if k=i then A else B,if_pos rfl,if_neg (Ne.symm hij)⟩
 obtain⟨s',S',b1,b2,b3,b4,b5,b6⟩:=rW o cl tm c (zeg c) (S:=[i,j]) (by simp[hi,hj]) (s:=s) (by
  intro k hk;simp only[mem_cons,not_mem_nil,or_false]at hk;rcases hk with rfl | rfl
  · rw[hs1];exact oA
  · rw[hs2];exact oB) (by
  intro k hk l hl hkl;simp only[mem_cons,not_mem_nil,or_false]at hk hl;rcases hk with rfl | rfl<;>rcases hl with rfl | rfl
  · exact absurd rfl hkl
  · rw[hs1,hs2,e];exact hb
  · rw[hs1,hs2,vK oA oB,e,o.tn _ hi _ hj,qE _ (by omega),show 12-(12-w)=w by omega];exact hb
  · exact absurd rfl hkl)
 refine⟨s',fun k hk=>b4 k (b2 k hk),fun k hk l hl hkl=>b5 k (b2 k hk) l (b2 l hl) hkl,?_⟩;rw[b6 i (by simp) j (by simp),hs1,hs2,e]
end
def Zf(c:Nat)(g:OA):Prop:=∀i<c,∀j<c,i≠j->g i j=0\/g i j∈RL
theorem Zf.Ql{c:Nat}{f:OA}(h:Zf c f){i j m:Nat}(hi:i<c)(hj:j<c)(hij:i≠j)(hm:f i j∈RL->f i j&&&m=0\/f i j&&&m∈RL):Zf c (gB f i m j):=by
 have at':f i j&&&m=0\/f i j&&&m∈RL:=by
  rcases h i hi j hj hij with e | e
  · left;rw[e];simp
  · exact hm e
 intro a ha b hb hab;by_cases e1:a=i/\b=j
 · obtain⟨rfl,rfl⟩:=e1;rw[xJ f m hij];exact at'
 · by_cases e2:a=j/\b=i
   · obtain⟨rfl,rfl⟩:=e2;rw[lT];rcases at' with e | e
     · left;rw[e];exact En
     · exact .inr (Vq _ e)
   · rw[ZF f e1 e2];exact h a ha b hb hab
theorem Zf.tame{c:Nat}{g:OA}(h:Zf c g)(ne:aC c g=false):CT c g:=fun i hi j hj hij=>by
 rcases h i hi j hj hij with e | e
 · exact absurd e (Mf ne hi hj)
 · exact e
theorem Zf.steps{c:Nat}{f g:OA}{st:List (Nat×Nat×Nat)}(h:Steps c f st g)(q:Zf c f):Zf c g:=by
 induction h with
 | nil=>exact q
 | @snoc st g i k j h hi hk hj d ne n ih=>
  have t:=ih.tame ne;refine ih.Ql hi hj d.2.2 fun e=>?_
  unfold Ef;rw[<- Nat.and_assoc,Nat.and_self];exact gO _ e _ (Og _ (t i hi k hk d.1) _ (t k hk j hj d.2.1))
def lc(c:Nat)(g:OA):Nat:=(BA c).countP fun p=>decide (1<(HA (g p.1 p.2)).length)
theorem KR{a b:Nat}(h:Nf a b):(HA a).length<=(HA b).length:=by unfold HA;rw[<- countP_eq_length_filter,<- countP_eq_length_filter];exact countP_mono_left fun k _ hk=>Jf.mp h k hk
theorem Hq{c:Nat}{f g:OA}(h:KH c g f):lc c g<=lc c f:=countP_mono_left fun p hp hk=>by obtain⟨p1,p2⟩:=Hf.mp hp;have:=KR (h p.1 (by omega) p.2 p2);simp only[decide_eq_true_eq]at hk ⊢;omega
theorem aW{α:Type}{p q:α->Bool}{x:α}:∀{l:List α},(∀y∈l,p y=true->q y=true)->x∈l->q x=true->p x=false->l.countP p<l.countP q
 | y::l,h,hx,hq,hp=>by
  have m:=countP_mono_left (p:=p) (q:=q) (l:=l) fun z hz=>h z (by simp[hz])
  rcases mem_cons.mp hx with rfl | hx
  · rw[countP_cons_of_pos hq,countP_cons_of_neg (by rw[hp];decide)];omega
  · have ih:=aW (fun z hz=>h z (by simp[hz])) hx hq hp;by_cases e:p y=true
    · rw[countP_cons_of_pos e,countP_cons_of_pos (h y (by simp) e)];omega
    · rw[countP_cons_of_neg e];have:l.countP q<=(y::l).countP q:=by rw[countP_cons];omega
      omega
theorem Pk{c:Nat}{g:OA}(o:SA c g){p:Nat×Nat}(lp:tE c g=some p){w:Nat}(hw:w<13):lc c (gB g p.1 (2^w) p.2)<lc c g:=by
 have hp:=mem_of_find?_eq_some lp;obtain⟨p1,p2⟩:=Hf.mp hp;have sub:KH c (gB g p.1 (2^w) p.2) g:=by
  intro a ha b hb;by_cases e1:a=p.1/\b=p.2
  · obtain⟨rfl,rfl⟩:=e1;rw[xJ g _ (by omega)];exact kH _ _
  · by_cases e2:a=p.2/\b=p.1
    · obtain⟨rfl,rfl⟩:=e2;rw[lT,o.tn p.1 (by omega) p.2 p2];exact GR (kH _ _)
    · rw[ZF g e1 e2];exact Nf.refl _
 have lq:(fun p:Nat×Nat=>decide (1<(HA (g p.1 p.2)).length)) p=true:=find?_some (p:=fun p:Nat×Nat=>decide (1<(HA (g p.1 p.2)).length)) (l:=BA c) lp;refine aW (x:=p) (fun q hq hk=>?_) hp lq ?_
 · obtain⟨q1,q2⟩:=Hf.mp hq;have:=KR (sub q.1 (by omega) q.2 q2);simp only[decide_eq_true_eq]at hk ⊢;omega
 · show decide (1<(HA (gB g p.1 (2^w) p.2 p.1 p.2)).length)=false;rw[xJ g _ (by omega)];have h1:Nf (g p.1 p.2&&&2^w) (2^w):=by rw[Nat.and_comm];exact kH _ _
   have:=KR h1;rw[DW w hw]at this;simp only[zd3,zd4]at this;exact decide_eq_false (by omega)
theorem vV{c m:Nat}:∀(n:Nat)(f:OA)(made:Nat)(a:Gn)(sp:Nat),zC c m [] n f [] made a sp->SA c f->(∀i<c,f i i=64)->Zf c f->(∃s:Nat->Int×Int,(∀i,i<c->IC (s i))/\yd c f s)->made+lc c f<=m->a.wd=.laid
 | 0,_,_,_,_,h,_,_,_,_,_=>h.elim
 | n+1,f,made,a,sp,h,of,dg,tz,⟨s,ok,q⟩,hm=>by
  rcases h with⟨st,g,h1,h2,rfl,rfl⟩ | ⟨st,g,EN,h⟩
  · have:=(q.steps ok h1).ne (h1.diag dg);rw[h2]at this;cases this
  · obtain⟨Nb,Dp,neg⟩:=EN.ok of;obtain⟨g0,s0,_,ne0,rfl⟩:=EN;have qg:yd c (VC c g0) s:=(q.steps ok s0).cut;have dg':∀i<c,VC c g0 i i=64:=fun i hi=>by rw[NE g0 hi hi];exact s0.diag dg i hi
    have t0:=(Zf.steps s0 tz).tame ne0;have tg:CT c (VC c g0):=fun i hi j hj hij=>by rw[NE g0 hi hj];exact t0 i hi j hj hij
    have sub:KH c (VC c g0) f:=fun i hi j hj=>by rw[NE g0 hi hj];exact s0.sub of i hi j hj
    have lm:=Hq sub;generalize VC c g0=g at Nb Dp neg qg dg' tg lm h;rcases h with⟨cs,P,k,R,rfl,rfl⟩ | ⟨t,ht,h⟩
    · exact(CS (b:=fun p=>((2*c+1:Nat):Int)*VJ s p) (zX ok qg (fun x hx=>absurd hx (by simp))) R).elim
    · rcases h with⟨_,rfl,rfl⟩ | ⟨tag,bs,ps,hs,h⟩
      · rfl
      · simp only[cD]at hs;cases lp:tE c g with
        | none=>rw[lp]at hs;cases hs
        | some p=>
         rw[lp]at hs;simp only[Option.some.injEq,Prod.mk.injEq]at hs;obtain⟨_,rfl,_⟩:=hs;obtain⟨q1,q2⟩:=Hf.mp (mem_of_find?_eq_some lp);cases ew:HA (g p.1 p.2)with
         | nil=>exact absurd ew (YN (Nb.lt _ (by omega) _ q2) (Mf neg (by omega) q2))
         | cons w r=>
          obtain⟨w13,wb⟩:=Df.mp (show w∈HA (g p.1 p.2) by rw[ew];simp);have lw:=Pk Nb lp w13;rcases h with⟨hl,rfl,rfl⟩ | ⟨_,h⟩
          · omega
          · rw[ew]at h;obtain⟨s',ok',qs,e⟩:=fS Nb Dp tg (show p.1<c by omega) q2 (by omega) w13 wb;have qb:yd c (gB g p.1 (2^w) p.2) s':=qs.Ql ok' (by omega) q2 (by omega) (by rw[e,Nat.testBit_two_pow];simp);have go:∀a1 m1,zC c m [] n (gB g p.1 (2^w) p.2) [] (made+1) a1 m1->a1.wd=.laid:=fun a1 m1 L=>vV n _ _ a1 m1 L (dG Nb (by omega) q2 (by omega) _) (FN dg' (by omega) _) (Zf.Ql (fun i hi j hj hij=>.inr (tg i hi j hj hij)) (by omega) q2 (by omega) (fun z=>gO _ z _ (cT _ w13))) ⟨s',ok',qb⟩ (by omega)
            rcases h with⟨tr,m1,h1,_⟩ | ⟨_,h1⟩
            · have:=go _ _ h1;cases this
            · exact go _ _ h1
theorem gY(i:Int)(h:HI):WI [.int i] h=some (.bl true,h):=by simp[WI,iQ]
theorem jO(ns:List Int)(k:Nat)(h:HI):aG [.lst (ns.map Dt.int),.int (k:Int)] h=some (.int (ns[k]?.getD 0),h):=by
 simp[aG,sQ];by_cases hk:k<ns.length
 · simp[hk]
 · simp[hk]
theorem rO(c:Int){f p:Int}(hf:0<=f)(hf':f<2^64)(hp:0<p)(h:HI):YH [.int c,.int f,.int p] h=some (.int (((c%1000000007+1)*f%p).toNat:Nat),h):=by have c1:Yn (c%1000000007+1) f:=Or.inr ⟨by omega,hf'⟩;have nn:=Int.emod_nonneg ((c%1000000007+1)*f) (show p≠0 by omega);rw[Int.toNat_of_nonneg nn];simp[YH,RQ,UF c1,KE hp,KE (show(0:Int)<1000000007 by decide)]
theorem kO{o:Int×Int}(ok:IC o)(t:Int)(h:HI):LF [.int t,QC o] h=some (.int (vB t o.1 o.2:Nat),h):=by
 have okk:o.1<o.2:=ok;rcases lH t o.1 o.2 okk with⟨y,w⟩ | ⟨y,w⟩ | ⟨y,y',w⟩ | ⟨y,w⟩ | ⟨y,w⟩<;>rw[w]
 · simp[LF,XH,QC,y]
 · simp[LF,XH,QC,y]
 · have n1:¬t<o.1:=by omega
   have n2:¬t=o.1:=by omega
   have n3:¬o.2<=t:=by omega
   have n4:¬o.2<t:=by omega
   simp[LF,XH,QC,n1,n2,n3,n4]
 · have n1:¬t<o.1:=by omega
   have n2:¬t=o.1:=by omega
   have n3:o.2<=t:=by omega
   have n4:¬o.2<t:=by omega
   simp[LF,XH,QC,n1,n2,n3,n4]
 · have n1:¬t<o.1:=by omega
   have n2:¬t=o.1:=by omega
   have n3:o.2<=t:=by omega
   simp[LF,XH,QC,n1,n2,n3,y]
theorem gR{a b:Int×Int}(ha:IC a)(hb:IC b)(h:HI):SI [QC a,QC b] h=some (.int (Bf a b:Nat),h):=by
 have z1:=fun h=>kO hb a.1 h
 have z2:=fun h=>kO hb a.2 h
 have l1:=FO a.1 b.1 b.2;have l2:=FO a.2 b.1 b.2;have w:Bf a b=QI (vB a.1 b.1 b.2) (vB a.2 b.1 b.2):=UY _ l1 _ l2 (cN ha hb);rw[w];have x0:∀k:HI,uA (QC a) (.int 0) k=some (.int a.1,k):=fun _=>rfl
 have x1:∀k:HI,uA (QC a) (.int 1) k=some (.int a.2,k):=fun _=>rfl
 have ix:∀z,z<5->∀k:HI,uA (.lst [.int 0,.int 3,.int 6,.int 7,.int 8]) (.int (z:Nat)) k=some (.int (([0,3,6,7,8].getD z 0:Nat):Int),k):=by intro z hz k;rcases RH hz with rfl | rfl | rfl | rfl | rfl<;>rfl
 have s5:5<=sizeLine:=by decide
 simp only[SI,KP,sB,zd3,zd4,if_true,zd5,zd6,Nat.reduceAdd,Nat.reduceSub,List.replicate,zec,zeb,zei,CB,CA,KG,UA,NA,EA,pA,aB,zd1,zd2,qA,lA,x0,x1,z1,z2,s5,ix _ l1,bE,MB];rfl
def iC(s:Nat->Int×Int)(c:Nat):List Dt:=(List.range c).map fun k=>QC (s k)
theorem KN{s:Nat->Int×Int}{c k:Nat}(hk:k<c):(iC s c)[k]?=some (QC (s k)):=by simp[iC,hk]
theorem l7(s:Nat->Int×Int)(k:Nat):iC s (k+1)=iC s k++[QC (s k)]:=by unfold iC;rw[range_succ,map_append];rfl
noncomputable def Cm(ns:List Int)(k:Nat):Nat:=(((ns[1+k]?.getD 0+(k:Int)*k)%1000000007+1)*742938285%2147483647).toNat
def SG(ns:List Int)(L:Int)(k:Nat):Int×Int:=(((Cm ns k:Nat)%8-3)*L,((Cm ns k:Nat)%8-3)*L+(1+(Cm ns k:Nat)/8%5)*L)
theorem yw(ns:List Int){L:Int}(h:1<=L)(k:Nat):IC (SG ns L k):=by unfold IC SG;have:0<(1+(Cm ns k:Int)/8%5)*L:=Int.mul_pos (by omega) (by omega);simp only;omega
theorem T4(ns:List Int){c:Nat}(hc:c<=8)(h:HI):∃L:Int,1<=L/\jM [.lst (ns.map Dt.int),.int 1,.int (c:Nat)] h=some (.ref h.length,h++[.lst (iC (SG ns L) c)]):=by
 obtain⟨L,hL,eL⟩:∃L:Int,1<=L/\Xd [Dt.int 1,.int 1,.int 1,.int (10^40+7)] (ns[0]?.getD 0/5%4)=some (.int L):=by
  rcases(show ns[0]?.getD (0:Int)/5%4=0\/ns[0]?.getD (0:Int)/5%4=1\/ns[0]?.getD (0:Int)/5%4=2\/ns[0]?.getD (0:Int)/5%4=3 by omega)with z | z | z | z<;>rw[z]
  · exact⟨1,by decide,rfl⟩
  · exact⟨1,by decide,rfl⟩
  · exact⟨1,by decide,rfl⟩
  · exact⟨10^40+7,by decide,rfl⟩
 refine⟨L,hL,?_⟩;have er:=fun h=>AF (h:=h) (show(-(2^62):Int)<=(c:Int) by omega) (show(c:Int)<2^62 by omega)
 simp only[Int.toNat_natCast]at er;have m8:=fun(i:Int) (h:HI)=>KE (h:=h) (i:=i) (show(0:Int)<8 by decide)
 have m5:=fun(i:Int) (h:HI)=>KE (h:=h) (i:=i) (show(0:Int)<5 by decide)
 have m4:=fun(i:Int) (h:HI)=>KE (h:=h) (i:=i) (show(0:Int)<4 by decide)
 have d8:=fun(i:Int) (h:HI)=>sF (h:=h) (i:=i) (j:=8) ⟨by decide,by decide⟩
 have d5:=fun(i:Int) (h:HI)=>sF (h:=h) (i:=i) (j:=5) ⟨by decide,by decide⟩
 have c0:=fun h=>jO ns 0 h
 simp only[Int.cast_ofNat_Int]at c0;have pw:=fun(h:HI)=>Yy (h:=h) (i:=10) (j:=40) ⟨by decide,by decide,by decide⟩
 simp only[show(40:Int).toNat=40 from rfl]at pw;obtain⟨l',h',e,⟨y5,y6,y7,rfl⟩,rfl⟩:=uK (i:=5) (body:=CP) (fun(k:Nat)=>Dt.int (k:Int)) (fun k l h'=>(∃y5 y6 y7,l=[some (.lst (ns.map Dt.int)),some (.int 1),some (.int (c:Nat)),some (.int L),some (.ref h.length),y5,y6,y7])/\h'=h++[.lst (iC (SG ns L) k)]) c (by
  rintro k hk l h' ⟨⟨y5,y6,y7,rfl⟩,rfl⟩;have cc:=fun h=>jO ns (1+k) h
  have ca:(1:Int)+(k:Int)=((1+k:Nat):Int):=by omega
  have u1:=fun(h:HI)=>UF (h:=h) (i:=(k:Int)) (j:=(k:Int)) (Or.inl ⟨by omega,by omega⟩)
  have em:=fun(x:Int) (h:HI)=>rO x (f:=742938285) (p:=2147483647) (by decide) (by decide) (by decide) h
  have en:(((ns[1+k]?.getD 0+(k:Int)*(k:Int))%1000000007+1)*742938285%2147483647).toNat=Cm ns k:=rfl;generalize Cm ns k=N at en;have u3:=fun(h:HI)=>UF (h:=h) (i:=(N:Int)%8-3) (j:=L) (Or.inl ⟨by omega,by omega⟩)
  have u4:=fun(h:HI)=>UF (h:=h) (i:=1+(N:Int)/8%5) (j:=L) (Or.inl ⟨by omega,by omega⟩)
  have dh:(h++[Ob.lst (iC (SG ns L) k)])[h.length]?=some (.lst (iC (SG ns L) k)):=by simp
  have eN:Cm ns k=N:=en;have sp:QC (SG ns L k)=.tup [.int (((N:Int)%8-3)*L),.int (((N:Int)%8-3)*L+(1+(N:Int)/8%5)*L)]:=by unfold QC SG;rw[eN]
  refine⟨.nx [some (.lst (ns.map Dt.int)),some (.int 1),some (.int (c:Nat)),some (.int L),some (.ref h.length),some (.int (k:Nat)),some (.int (N:Nat)),some (.int (((N:Int)%8-3)*L))] (h++[.lst (iC (SG ns L) (k+1))]),?_,⟨_,_,_,rfl⟩,rfl⟩;have ap:=DG (l:=[some (.lst (ns.map Dt.int)),some (.int 1),some (.int (c:Nat)),some (.int L),some (.ref h.length),some (.int (k:Nat)),some (.int (N:Nat)),some (.int (((N:Int)%8-3)*L))]) (h:=h++[Ob.lst (iC (SG ns L) k)]) (g:=mB (bA (eV 7) (bA (e2 VB (eV 7) (e2 YC (e2 VB (eC (.int 1)) (e2 uC (e2 FD (eV 6) (eC (.int 8))) (eC (.int 5)))) (eV 3))) (eA)))) (d:=QC (SG ns L k)) dh (by rw[sp];simp[d8,m5,u4]) dh (by simp[iC];omega);have es:(h++[Ob.lst (iC (SG ns L) k)]).set h.length (.lst (iC (SG ns L) k++[QC (SG ns L k)]))=h++[.lst (iC (SG ns L) (k+1))]:=by rw[l7];simp
  rw[es]at ap;simp only[CP,XA,fB,aB,UA,NA,CA,pA,EA,zd8,zd7,zd1,zd2,qA,lA,bE,ca,cc,u1,zei,em,en,YA,m8,wI,u3,JE,RF,ap]) [some (.lst (ns.map Dt.int)),some (.int 1),some (.int (c:Nat)),some (.int L),some (.ref h.length),none,none,none] (h++[.lst []]) ⟨⟨_,_,_,rfl⟩,by simp[iC]⟩
 simp only[jM,BP,sB,zd3,zd4,if_true,zd5,zd6,Nat.reduceAdd,Nat.reduceSub,List.replicate,zec,zeb,zei,XA,fB,CA,KG,UA,NA,EA,pA,aB,zd1,zd2,qA,lA,pw,bE,Nat.reduceLeDiff,c0,d5,m4,vI,eL,zd9,zd8,zd7,YA,LG,qH,Nat.zero_le,iE,lI,er,NF,e,CB,MB]
def GL(a b c d w:Nat):Bool:=(decide (a<=zA w)&&decide (zA w<=b))&&(decide (c<=zE w)&&decide (zE w<=d))
def Vp(a b c d acc w:Nat):Nat:=if GL a b c d w=true then acc|||2^w else acc
def qm(a b c d:Nat):Nat:=(List.range 13).foldl (Vp a b c d) 0
set_option synthInstance.maxSize 1000 in
set_option synthInstance.maxHeartbeats 0 in
theorem Hz:∀a<5,∀b<5,∀c<5,∀d<5,qm a b c d=0\/qm a b c d∈RL:=by decide +kernel
theorem Zq:∀a<5,∀b<5,∀c<5,∀d<5,mk (GL a b c d)=qm a b c d:=by decide +kernel
def nP:List Dt:=(List.range 13).map fun w=>.int ((pz w).1:Nat)
def bP:List Dt:=(List.range 13).map fun w=>.int ((pz w).2:Nat)
theorem S0{w:Nat}(hw:w<13):Xd nP (w:Int)=some (.int ((pz w).1:Nat)):=by rw[SM.CC];simp[nP,hw]
theorem NT{w:Nat}(hw:w<13):Xd bP (w:Int)=some (.int ((pz w).2:Nat)):=by rw[SM.CC];simp[bP,hw]
theorem Fx{a b c d w:Nat}(hw:w<13)(acc:Nat)(h:HI):KM [some (.int a),some (.int b),some (.int c),some (.int d),some (.lst nP),some (.lst bP),some (.int acc),some (.int w)] h=some (.nx [some (.int a),some (.int b),some (.int c),some (.int d),some (.lst nP),some (.lst bP),some (.int (Vp a b c d acc w:Nat)),some (.int w)] h):=by have s1:=CJ (h:=h) (CI hw);simp only[Int.toNat_natCast,Int.one_mul]at s1;have b':=aY acc (2^w);simp only[Int.natCast_pow,Int.cast_ofNat_Int]at b';simp[KM,S0 hw,NT hw,s1,b',Vp,GL,zA,zE];by_cases h1:a<=(pz w).1<;>by_cases h2:(pz w).1<=b<;>by_cases h3:c<=(pz w).2<;>by_cases h4:(pz w).2<=d<;>simp[h1,h2,h3,h4,Int.ofNat_le]
theorem Ug(a b c d:Nat)(h:HI):PM [.int a,.int b,.int c,.int d] h=some (.int (qm a b c d:Nat),h):=by
 obtain⟨l',h',e,⟨z,rfl⟩,rfl⟩:=kN (i:=7) (body:=KM) (fun(k:Nat)=>Dt.int (k:Int)) (fun(acc:Nat) l h'=>(∃z,l=[some (.int a),some (.int b),some (.int c),some (.int d),some (.lst nP),some (.lst bP),some (.int acc),z])/\h'=h) (Vp a b c d) (List.range 13) (by
  rintro w hw acc l h ⟨⟨z,rfl⟩,rfl⟩;exact⟨_,Fx (mem_range.mp hw) acc _,⟨_,rfl⟩,rfl⟩) 0 [some (.int a),some (.int b),some (.int c),some (.int d),some (.lst nP),some (.lst bP),some (.int 0),none] h ⟨⟨none,rfl⟩,rfl⟩
 change _=some (Rs.nx [_,_,_,_,_,_,some (.int (qm a b c d:Nat)),z] h')at e
 have s1:Dt.lst [.int 0,.int 0,.int 0,.int 0,.int 0,.int 1,.int 1,.int 1,.int 2,.int 2,.int 2,.int 3,.int 4]=.lst nP:=by kernel_rfl
 have s2:Dt.lst [.int 0,.int 1,.int 2,.int 3,.int 4,.int 2,.int 3,.int 4,.int 2,.int 3,.int 4,.int 4,.int 4]=.lst bP:=by kernel_rfl
 generalize qm a b c d=r at *;simp[PM,QQ,Hh,s1,s2,e]
theorem PY{c:Nat}(hc2:2<=c)(n k:Nat):∃i j:Nat,i<c/\j<c/\i≠j/\((n:Int)%(c:Int))=(i:Int)/\((i:Int)+1+(n:Int)/(k:Int)%((c:Int)-1))%(c:Int)=(j:Int):=by
 refine⟨n%c,(n%c+1+n/k%(c-1))%c,Nat.mod_lt _ (by omega),Nat.mod_lt _ (by omega),?_,by simp,?_⟩
 · have t:n/k%(c-1)<c-1:=Nat.mod_lt _ (by omega);have hi:n%c<c:=Nat.mod_lt _ (by omega);generalize n/k%(c-1)=q at t;generalize n%c=i at hi;by_cases w:i+1+q<c
   · rw[Nat.mod_eq_of_lt w];omega
   · rw[Nat.mod_eq_sub_mod (by omega),Nat.mod_eq_of_lt (by omega)];omega
 · rw[show(c:Int)-1=((c-1:Nat):Int) by omega];simp
theorem jZ{k:Nat}(h:k<13):2^k<8192:=Nat.pow_lt_pow_right (by decide) h (m:=k) (n:=13)
theorem rY{c:Nat}(hc2:2<=c)(hc:c<=100){s:Nat->Int×Int}(ok:∀i,IC (s i))(cell:Int)(lo:Bool):∃m,jD c m/\m.2.1∈RL/\(lo=false->lE s m=true)/\
 ∀(h:HI)(n:Nat),h[n]?=some (.lst (iC s c))->KF [.int cell,.ref n,.bl lo] h=some (KA m,h):=by
 have em1:=fun(h:HI)=>rO cell (f:=950706376) (p:=2147483399) (by decide) (by decide) (by decide) h
 have em2:=fun(h:HI)=>rO cell (f:=742938285) (p:=2147483647) (by decide) (by decide) (by decide) h
 generalize ((cell%1000000007+1)*950706376%2147483399).toNat=N at em1;generalize ((cell%1000000007+1)*742938285%2147483647).toNat=M at em2;obtain⟨i,j,hi,hj,hij,e1,e2'⟩:=PY hc2 N 8;simp only[Int.cast_ofNat_Int]at e2';have mc:=fun(x:Int) (h:HI)=>KE (h:=h) (i:=x) (show(0:Int)<(c:Int) by omega)
 have mc1:=fun(x:Int) (h:HI)=>KE (h:=h) (i:=x) (show(0:Int)<(c:Int)-1 by omega)
 have m4:=fun(x:Int) (h:HI)=>KE (h:=h) (i:=x) (show(0:Int)<4 by decide)
 have m5:=fun(x:Int) (h:HI)=>KE (h:=h) (i:=x) (show(0:Int)<5 by decide)
 have d8:=fun(i:Int) (h:HI)=>sF (h:=h) (i:=i) (j:=8) ⟨by decide,by decide⟩
 have d5:=fun(i:Int) (h:HI)=>sF (h:=h) (i:=i) (j:=5) ⟨by decide,by decide⟩
 have d25:=fun(i:Int) (h:HI)=>sF (h:=h) (i:=i) (j:=25) ⟨by decide,by decide⟩
 have Lp:=fun(i:Int) (h:HI)=>sF (h:=h) (i:=i) (j:=125) ⟨by decide,by decide⟩
 have zcf:=fun(i:Int) (h:HI)=>sF (h:=h) (i:=i) (j:=625) ⟨by decide,by decide⟩
 have zaa:=fun(i:Int) (h:HI)=>sF (h:=h) (i:=i) (j:=2500) ⟨by decide,by decide⟩
 have Hl:=fun(i:Int) (h:HI)=>sF (h:=h) (i:=i) (j:=12500) ⟨by decide,by decide⟩
 obtain⟨w,hw⟩:∃w,w=Bf (s i) (s j):=⟨_,rfl⟩
 have wl:w<13:=hw ▸ XD (ok i) (ok j);have pw:=nL (ok i) (ok j);rw[<- hw]at pw;have z1:=fun(h:HI)=>kO (ok j) (s i).1 h
 have z2:=fun(h:HI)=>kO (ok j) (s i).2 h
 have zz1:vB (s i).1 (s j).1 (s j).2=zA w:=by unfold zA;rw[pw]
 have zz2:vB (s i).2 (s j).1 (s j).2=zE w:=by unfold zE;rw[pw]
 rw[zz1]at z1;rw[zz2]at z2;obtain⟨w1,w2,_⟩:=RN w wl;have sz4:4<=sizeLine:=by decide
 obtain⟨b,hb⟩:∃b:Bool,b=(lo&&decide ((0:Int)<(M:Int)/625%4)):=⟨_,rfl⟩
 obtain⟨p,hp⟩:∃p:Nat,p=(if b=true then M/2500%5 else zA w):=⟨_,rfl⟩
 obtain⟨q,hq⟩:∃q:Nat,q=(if b=true then M/12500%5 else zE w):=⟨_,rfl⟩
 have p5:p<5:=by rw[hp];split;exact Nat.mod_lt _ (by decide);exact w1
 have q5:q<5:=by rw[hq];split;exact Nat.mod_lt _ (by decide);exact w2
 have k1:(M:Int)%5=((M%5:Nat):Int):=by omega
 have k2:(M:Int)/5%5=((M/5%5:Nat):Int):=by omega
 have k3:(M:Int)/25%5=((M/25%5:Nat):Int):=by omega
 have k4:(M:Int)/125%5=((M/125%5:Nat):Int):=by omega
 have k5:(M:Int)/2500%5=((M/2500%5:Nat):Int):=by omega
 have k6:(M:Int)/12500%5=((M/12500%5:Nat):Int):=by omega
 have r1:M%5<5:=Nat.mod_lt _ (by decide);have r2:M/5%5<5:=Nat.mod_lt _ (by decide);have r3:M/25%5<5:=Nat.mod_lt _ (by decide);have r4:M/125%5<5:=Nat.mod_lt _ (by decide);generalize M%5=t1 at k1 r1;generalize M/5%5=t2 at k2 r2;generalize M/25%5=t3 at k3 r3;generalize M/125%5=t4 at k4 r4;have mn:∀a b:Nat,min (a:Int) (b:Int)=((min a b:Nat):Int):=fun a b=>by omega
 have mx:∀a b:Nat,max (a:Int) (b:Int)=((max a b:Nat):Int):=fun a b=>by omega
 have bx:=fun(h:HI)=>Ug (min p t1) (max p t2) (min q t3) (max q t4) h
 have rb:=Hz (min p t1) (by omega) (max p t2) (by omega) (min q t3) (by omega) (max q t4) (by omega);have bb:=Zq (min p t1) (by omega) (max p t2) (by omega) (min q t3) (by omega) (max q t4) (by omega);have inb:lo=false->(qm (min p t1) (max p t2) (min q t3) (max q t4)).testBit w=true:=by
  intro hl;have b0:b=false:=by rw[hb,hl];rfl
  have p0:p=zA w:=by rw[hp,b0];rfl
  have q0:q=zE w:=by rw[hq,b0];rfl
  rw[<- bb,MY _ wl];unfold GL;rw[decide_eq_true (show min p t1<=zA w by omega),decide_eq_true (show zA w<=max p t2 by omega),decide_eq_true (show min q t3<=zE w by omega),decide_eq_true (show zE w<=max q t4 by omega)];rfl
 generalize qm (min p t1) (max p t2) (min q t3) (max q t4)=B at bx rb inb;have sh:=fun(h:HI)=>CJ (h:=h) (CI wl)
 have pw2:(1:Int)*2^((w:Int)).toNat=((2^w:Nat):Int):=by simp
 have eb:=fun(h:HI)=>gR (ok i) (ok j) h
 rw[<- hw]at eb;have pi:(iC s c)[i]?=some (QC (s i)):=KN hi;have pj:(iC s c)[j]?=some (QC (s j)):=KN hj;have sl:(iC s c).length=c:=by simp[iC]
 have x0:∀(o:Int×Int)(k:HI),uA (QC o) (.int 0) k=some (.int o.1,k):=fun _ _=>rfl
 have x1:∀(o:Int×Int)(k:HI),uA (QC o) (.int 1) k=some (.int o.2,k):=fun _ _=>rfl
 have run:∀(m:Nat),m=(if B=0 then 2^w else B)->∀(h:HI)(n:Nat),h[n]?=some (.lst (iC s c))->KF [.int cell,.ref n,.bl lo] h=some (KA (i,m,j),h):=by
  intro m hm h n hn;have ixn:=fun(z:Int)=>fF hn z
  have ln:=vJ hn;rw[sl]at ln;have cond:∀l:LI,l[2]?=some (some (.bl lo))->l[4]?=some (some (.int (M:Nat)))->xL (Rf (eV 2)) (Rf (e2 AL (e2 uC (e2 FD (eV 4) (eC (.int 625))) (eC (.int 4))) (eC (.int 0)))) l h=some (b,h):=by intro l h2 h4;rw[hb];cases lo<;>simp only[jw,dB,pA,h2,qA,lA,iB,CA,EA,h4,zcf,m4,TL,if_true,zej,if_false,Bool.true_and,Bool.false_and]
  have zB:decide ((B:Int)=0)=decide (B=0):=by
   by_cases z:B=0
   · rw[decide_eq_true z,decide_eq_true (by omega)]
   · rw[decide_eq_false z,decide_eq_false (by omega)]
  have body:KF [.int cell,.ref n,.bl lo] h=some (.tup [.str "ways", .int (i:Nat),.int (m:Nat),.int (j:Nat)],h):=by
   by_cases bt:b=true
   · rw[if_pos bt]at hp hq;rw[<- hp]at k5;rw[<- hq]at k6;rw[bt]at cond;by_cases z:B=0
     · rw[if_pos z]at hm;subst hm;simp only[KF,aJ,sB,zd3,zd4,if_true,zd5,zd6,Nat.reduceAdd,Nat.reduceSub,List.replicate,zec,zeb,zei,XA,fB,CA,pA,EA,vC,MI,aB,UA,NA,zd1,zd2,qA,lA,ln,zd8,zd7,YA,em1,mc,e1,bE,wI,d8,mc1,e2',ixn,SM.CC,pi,pj,zd9,x0,x1,z1,z2,em2,NB,cond,zaa,m5,k5,Hl,k6,k1,dO,mn,d5,k2,cO,mx,d25,k3,Lp,k4,bx,dB,lF,zB,decide_eq_true z,iB,eb,sh,pw2,CB,RD,sz4,MB]
     · rw[if_neg z]at hm;subst hm;simp only[KF,aJ,sB,zd3,zd4,if_true,zd5,zd6,Nat.reduceAdd,Nat.reduceSub,List.replicate,zec,zeb,zei,XA,fB,CA,pA,EA,vC,MI,aB,UA,NA,zd1,zd2,qA,lA,ln,zd8,zd7,YA,em1,mc,e1,bE,wI,d8,mc1,e2',ixn,SM.CC,pi,pj,zd9,x0,x1,z1,z2,em2,NB,cond,zaa,m5,k5,Hl,k6,k1,dO,mn,d5,k2,cO,mx,d25,k3,Lp,k4,bx,dB,lF,zB,decide_eq_false z,iB,zej,if_false,KC,CB,RD,sz4,MB]
   · rw[if_neg bt]at hp hq;rw[<- hp]at z1;rw[<- hq]at z2;rw[Bool.eq_false_iff.mpr bt]at cond;by_cases z:B=0
     · rw[if_pos z]at hm;subst hm;simp only[KF,aJ,sB,zd3,zd4,if_true,zd5,zd6,Nat.reduceAdd,Nat.reduceSub,List.replicate,zec,zeb,zei,XA,fB,CA,pA,EA,vC,MI,aB,UA,NA,zd1,zd2,qA,lA,ln,zd8,zd7,YA,em1,mc,e1,bE,wI,d8,mc1,e2',ixn,SM.CC,pi,pj,zd9,x0,x1,z1,z2,em2,NB,cond,zej,if_false,KC,m5,k1,dO,mn,d5,k2,cO,mx,d25,k3,Lp,k4,bx,dB,lF,zB,decide_eq_true z,iB,eb,sh,pw2,CB,RD,sz4,MB]
     · rw[if_neg z]at hm;subst hm;simp only[KF,aJ,sB,zd3,zd4,if_true,zd5,zd6,Nat.reduceAdd,Nat.reduceSub,List.replicate,zec,zeb,zei,XA,fB,CA,pA,EA,vC,MI,aB,UA,NA,zd1,zd2,qA,lA,ln,zd8,zd7,YA,em1,mc,e1,bE,wI,d8,mc1,e2',ixn,SM.CC,pi,pj,zd9,x0,x1,z1,z2,em2,NB,cond,zej,if_false,KC,m5,k1,dO,mn,d5,k2,cO,mx,d25,k3,Lp,k4,bx,dB,lF,zB,decide_eq_false z,iB,CB,RD,sz4,MB]
  exact body
 by_cases z:B=0
 · refine⟨(i,2^w,j),⟨hi,hj,hij,jZ wl⟩,cT w wl,fun _=>?_,run (2^w) (if_pos z).symm⟩;unfold lE;rw[<- hw,Nat.testBit_two_pow];simp
 · have hB:=rb.resolve_left z;refine⟨(i,B,j),⟨hi,hj,hij,(aZ B hB).2⟩,hB,fun hl=>?_,run B (if_neg z).symm⟩;unfold lE;rw[<- hw];exact inb hl
theorem zK{c:Nat}:∀(fs:List Fact)(f:OA),(∀x∈fs,bG c x)->(∀i<c,f i i=64)->∀i<c,rC f fs i i=64
 | [],f,_,q=>q
 | x::fs,f,h,q=>by
  have h':∀y∈fs,bG c y:=fun y hy=>h y (by simp[hy])
  cases x with
  | ways m=>obtain⟨a,b,d,e⟩:jD c m:=h (.ways m) (by simp);exact zK fs _ h' (FN q d _)
  | long y=>exact zK fs _ h' q
  | one g=>exact zK fs _ h' q
theorem D7(x a b d:Int):vB (x-d) (a-d) (b-d)=vB x a b:=by have a1:(x-d<a-d)=(x<a):=propext ⟨fun h=>by omega,fun h=>by omega⟩;have a2:(x-d=a-d)=(x=a):=propext ⟨fun h=>by omega,fun h=>by omega⟩;have a3:(x-d<b-d)=(x<b):=propext ⟨fun h=>by omega,fun h=>by omega⟩;have a4:(x-d=b-d)=(x=b):=propext ⟨fun h=>by omega,fun h=>by omega⟩;unfold vB;simp only[a1,a2,a3,a4]
theorem J9(t:Nat->Int)(n i j:Nat):Bf (fC (hC n t) i) (fC (hC n t) j)=Bf (fC t i) (fC t j):=by unfold Bf fC hC;simp only[D7]
theorem CN{c:Nat}{s:Nat->Int×Int}(ok:∀i,i<c->IC (s i)):∀(fs:List Fact)(_:∀x∈fs,bG c x)(f:OA),SA c f->yd c (rC f fs) s->yd c f s/\∀m,Fact.ways m∈fs->lE s m=true
 | [],_,f,_,q=>⟨q,fun m hm=>by cases hm⟩
 | x::fs,h,f,o,q=>by
  have h':∀y∈fs,bG c y:=fun y hy=>h y (by simp[hy])
  cases x with
  | ways m=>
   obtain⟨a,b,d,e⟩:jD c m:=h (.ways m) (by simp);obtain⟨q1,H⟩:=CN ok fs h' (gB f m.1 m.2.1 m.2.2) (dG o a b d _) q;obtain⟨q2,hb⟩:=q1.Wn ok a b d o;refine⟨q2,fun y hy=>?_⟩;rcases mem_cons.mp hy with z | z
   · cases z;exact hb
   · exact H y z
  | long y=>obtain⟨q1,H⟩:=CN ok fs h' f o q;exact⟨q1,fun y hy=>(mem_cons.mp hy).elim (fun z=>by cases z) (H y)⟩
  | one g=>obtain⟨q1,H⟩:=CN ok fs h' f o q;exact⟨q1,fun y hy=>(mem_cons.mp hy).elim (fun z=>by cases z) (H y)⟩
theorem O7(t:Nat->Int)(n:Nat)(m:WB):lE (fC (hC n t)) m=lE (fC t) m:=by unfold lE;rw[J9]
theorem NX{c k:Nat}(u:Nat->Int)(hk:k<c):(JD c u)[k]?=some (QC (fC u k)):=by simp[JD,hk,QC,fC]
theorem Hj{c:Nat}{t:Nat->Int}(n:Nat)(ok:∀i,i<c->IC (fC t i)):∀i,i<c->IC (fC (hC n t) i):=fun i hi=>by have:t (2*i)<t (2*i+1):=ok i hi;show hC n t (2*i)<hC n t (2*i+1);unfold hC;omega
theorem X5{c:Nat}{u:Nat->Int}(ok:∀i,i<c->IC (fC u i)){m:WB}(hm:jD c m)(km:lE (fC u) m=true)(x1 x2 x3:Option Dt)(h:HI):xM [some (.lst (JD c u)),x1,x2,x3,some (KA m)] h=some (.nx [some (.lst (JD c u)),x1,x2,x3,some (KA m)] h):=by
 obtain⟨a,b,d,e⟩:=hm;have p1:=NX u a;have p2:=NX u b;have ew:=fun h=>gR (ok _ a) (ok _ b) h
 have bt:=N9 m.2.1 (Bf (fC u m.1) (fC u m.2.2));have km':m.2.1.testBit (Bf (fC u m.1) (fC u m.2.2))=true:=km;rw[km']at bt;have m1:∀k:HI,uA (KA m) (.int 1) k=some (.int (m.1:Nat),k):=fun _=>rfl
 have m2:∀k:HI,uA (KA m) (.int 2) k=some (.int (m.2.1:Nat),k):=fun _=>rfl
 have m3:∀k:HI,uA (KA m) (.int 3) k=some (.int (m.2.2:Nat),k):=fun _=>rfl
 have sr:=fun(h:HI)=>tT (h:=h) (i:=(m.2.1:Int)) (show(0:Int)<=((Bf (fC u m.1) (fC u m.2.2):Nat):Int) by omega)
 simp only[xM,NB,dB,CA,pA,EA,zd1,zd2,qA,lA,m2,aB,UA,NA,m1,m3,vI,SM.CC,p1,p2,zd9,zei,ew,sr,Int.toNat_natCast,kL,lF,bt,Bool.not_true,iB,zej,if_false,KC]
theorem W5{u:Nat->Int}{k:Nat}(o:u (2*k)<u (2*k+1))(nn:0<=u (2*k))(x0 x1 x2 x4:Option Dt)(h:HI):gK [x0,x1,x2,some (.tup [.int (u (2*k)),.int (u (2*k+1))]),x4] h=some (.nx [x0,x1,x2,some (.tup [.int (u (2*k)),.int (u (2*k+1))]),x4] h):=by
 have d2:decide (((2:Nat):Int)=2)=true:=rfl;have dg:decide (u (2*k+1)<=u (2*k))=false:=decide_eq_false (by omega);have dn:decide (u (2*k)<0)=false:=decide_eq_false (by omega);have t1:∀xs,sG h (.tup xs)=some "tuple" :=fun _=>rfl
 have t3:ML "tuple" "tuple" =true:=by decide
 simp only[gK,XA,NB,CO,mO,dB,yT,CA,pA,EA,vC,zd1,zd2,qA,lA,t1,t3,zd9,iB,Bool.not_true,zej,if_false,lY,zd3,zd4,Nat.reduceAdd,Int.cast_ofNat_Int,UJ,decide_true,aB,UA,NA,HB,UB,YD,zei,gY,KC,YA,ZZ,dn,SL,dg]
theorem Gj{n:Nat}(t:Nat->Int){i:Nat}(hi:i<n):0<=hC n t i:=by obtain⟨m1,m2⟩:=J8 (n:=n) (by omega) t;have:=(cI _ m1).2 (hC n t i) (mem_map_of_mem (mem_range.mpr hi));omega
theorem Lx{c:Nat}{u:Nat->Int}(ok:∀i,i<c->IC (fC u i))(nn:∀i,i<2*c->0<=u i)(fd:Dt)(h:HI):∃y,AC (AA 3) gK (JD c u) [some (.lst (JD c u)),some fd,some (.int (c:Nat)),none,none] h=some (.nx [some (.lst (JD c u)),some fd,some (.int (c:Nat)),y,none] h):=by
 obtain⟨l',h',e,⟨y,rfl⟩,hh⟩:=VW (i:=3) (body:=gK) (fun k:Nat=>Dt.tup [.int (u (2*k)),.int (u (2*k+1))]) (fun l h'=>(∃y,l=[some (.lst (JD c u)),some fd,some (.int (c:Nat)),y,none])/\h'=h) (List.range c) (by
  rintro k hk l h' ⟨⟨y,rfl⟩,rfl⟩;have hk:=mem_range.mp hk;exact⟨_,W5 (ok k hk) (nn _ (by omega)) _ _ _ _ _,⟨_,rfl⟩,rfl⟩) [some (.lst (JD c u)),some fd,some (.int (c:Nat)),none,none] h ⟨⟨_,rfl⟩,rfl⟩
 rw[hh]at e;exact⟨y,e⟩
theorem j7{h:HI}{c:Nat}(hc:c<=100){f:Nat->Nat->Nat}(of:SA c f){bn:Nat}(N:Xr h bn c f):∃x s h' st g,oN [.ref (bn+c)] h=some (.tup [x,.ref s],h')/\Wc h h'/\Steps c f st g/\((x=.non/\aC c g=true)\/∃b,x=.ref (b+c)/\Xr h' b c g/\aF c g/\aC c g=false):=by
 have ep:=VM (show c<=1000 by omega) h;have hl:=jJ c c;have hcc:c*c<=100*100:=Nat.mul_le_mul hc hc;obtain⟨d,h',e,x,s,st,g,rfl,r1,r2,r3,r4,r5,r6,r7⟩:=eQ hc of (N.grow [.lst ((BA c).map sA)]) (pd:=.ref h.length) (P:=BA c) (fun z=>by simp[zD,FB]) (fun p hp=>by
  obtain⟨q1,q2⟩:=Hf.mp hp;omega) (JR c f) (by unfold BA;omega)
 refine⟨x,s,h',st,g,?_,⟨by simp at r2;omega,fun n xs hn=>?_⟩,r5,?_⟩
 · simp only[oN,sR,sB,CB,aB,UA,NA,vC,pA,zd5,zd6,zec,zeb,zd3,zd4,if_true,zd1,qA,lA,N.len,zei,ep,e,MB,Nat.reduceAdd]
 · have hn':n<h.length:=(zed hn).1;rw[r3 n (by simp;omega),zee hn'];exact hn
 · rcases r7 with r7 | ⟨b,q1,q2,q3,q4,q5,q6⟩
   · exact .inl r7
   · exact .inr ⟨b,q1,q3,q4,q5⟩
theorem sX(h:HI):∀ms:List WB,Gf h (ms.map KA) (ms.map Fact.ways)
 | []=>.nil
 | m::ms=>.cons rfl (sX h ms)
theorem nR:∀ms:List WB,eE (ms.map Fact.ways)=[]
 | []=>rfl
 | _::ms=>nR ms
theorem LR:∀ms:List WB,fG (ms.map Fact.ways)=[]
 | []=>rfl
 | _::ms=>LR ms
theorem mR{c:Nat}{ms:List WB}(ok:∀m∈ms,jD c m)(hl:ms.length<=100){h:HI}{a:Nat}(ha:h[a]?=some (.lst (ms.map KA))):XY c h a (ms.map Fact.ways):=
 ⟨⟨_,ha,sX h ms⟩,(fun x hx=>by obtain⟨m,hm,rfl⟩:=mem_map.mp hx;exact ok m hm),(fun x hx=>by rw[LR]at hx;exact absurd hx (by simp)),by simpa using hl⟩
theorem K9(c:Nat):Zf c kB:=fun i _ j _ hij=>by
 have:kB i j=8191:=by simp[kB,hij]
 rw[this];exact .inr (by decide)
theorem fV{c:Nat}:∀(ms:List WB)(f:OA),Zf c f->(∀m∈ms,jD c m/\m.2.1∈RL)->Zf c (rC f (ms.map Fact.ways))
 | [],_,q,_=>q
 | m::ms,f,q,h=>by obtain⟨⟨a,b,d,_⟩,t⟩:=h m (by simp);exact fV ms _ (q.Ql a b d fun z=>gO _ z _ t) fun x hx=>h x (by simp[hx])
theorem P7{c:Nat}(hc:2<=c){f g:OA}{st:List (Nat×Nat×Nat)}(of:SA c f)(tz:Zf c f)(s:Steps c f st g)(cl:aF c g)(ne:aC c g=false):∃p:Nat->Int×Int,(∀i,i<c->IC (p i))/\yd c f p:=by have og:=s.ok of;have tg:=(Zf.steps s tz).tame ne;obtain⟨w,hw,hb⟩:=NY (og.lt 0 (by omega) 1 (by omega)) (Mf ne (by omega) (by omega));obtain⟨p,ok,q,_⟩:=fS og cl tg (by omega) (by omega) (by decide) hw hb;exact⟨p,ok,q.sub (s.sub of)⟩
theorem p9{c:Nat}{s:Nat->Int×Int}(ok:∀i,i<c->IC (s i)):yd c kB s:=fun i hi j hj hij=>by
 have e:kB i j=8191:=by simp[kB,hij]
 have hw:=XD (ok i hi) (ok j hj);rw[e,show(8191:Nat)=2^13-1 from rfl,Nat.testBit_two_pow_sub_one];exact decide_eq_true hw
theorem iW{c:Nat}{s:Nat->Int×Int}(ok:∀i,i<c->IC (s i)):∀(ms:List WB)(f:OA),yd c f s->(∀m∈ms,jD c m/\lE s m=true)->yd c (rC f (ms.map Fact.ways)) s
 | [],_,q,_=>q
 | m::ms,f,q,h=>by obtain⟨⟨a,b,d,_⟩,t⟩:=h m (by simp);exact iW ok ms _ (q.Ql ok a b d t) fun x hx=>h x (by simp[hx])
theorem XM(ms:List WB)(m:WB)(f:OA):rC f ((ms++[m]).map Fact.ways)=gB (rC f (ms.map Fact.ways)) m.1 m.2.1 m.2.2:=by rw[map_append,zd5,zd6,tK];rfl
theorem dW:∀ks:List Nat,yE (ks.map fun(k:Nat)=>Dt.int (k:Int))=some (ks.map fun(k:Nat)=>V.int (k:Int))
 | []=>rfl
 | k::ks=>by have ih:=dW ks;simp only[zd5,yE,ED,zea,zd9,ih]
theorem DS(k:Nat)(ks:List Nat)(h:HI):gH true (.int (k:Int)) (.lst (ks.map fun(k:Nat)=>Dt.int (k:Int))) h=some (.bl (!decide (k∈ks)),h):=by
 have e:zL (.int (k:Int)) (ks.map fun(k:Nat)=>V.int (k:Int))=decide (k∈ks):=by
  unfold zL;rw[any_map];apply vW;rw[any_eq_true,decide_eq_true_eq];constructor
  · rintro⟨x,hx,q⟩;have:(x:Int)=(k:Int):=by simpa[KJ]using q
    have:x=k:=by omega
    exact this ▸ hx
  · intro hk;exact⟨k,hk,by simp[KJ]⟩
 simp only[gH,ED,zea,zD,FB,dW,e,if_true]
theorem JS(ks:List Nat){j:Nat}(hj:j<ks.length):∃w∈ks,Xd (ks.map fun(k:Nat)=>Dt.int (k:Int)) (j:Int)=some (.int (w:Nat)):=by refine⟨ks[j],getElem_mem hj,?_⟩;rw[SM.CC,getElem?_map,getElem?_eq_getElem hj];rfl
theorem g8(ks:List Nat)(hk:0<ks.length):∃w∈ks,Xd (ks.map fun(k:Nat)=>Dt.int (k:Int)) (-1)=some (.int (w:Nat)):=by
 obtain⟨w,hw,e⟩:=JS ks (j:=ks.length-1) (by omega);refine⟨w,hw,?_⟩;rw[<- e];unfold Xd;rw[length_map];have a:QG ks.length (-1)=some (ks.length-1):=by
  unfold QG;rw[if_neg (by decide),if_pos (by omega)]
  congr 1
  omega
 have b:QG ks.length ((ks.length-1:Nat):Int)=some (ks.length-1):=by unfold QG;rw[if_pos (by omega),if_pos (by omega),Int.toNat_natCast]
 rw[a,b]
theorem GW(ks:List Nat)(hk:0<ks.length)(n:Nat):∃w∈ks,Xd (ks.map fun(k:Nat)=>Dt.int (k:Int)) ((n:Int)%((ks.length:Nat):Int))=some (.int (w:Nat)):=by
 have e:(n:Int)%((ks.length:Nat):Int)=((n%ks.length:Nat):Int):=by simp
 rw[e];exact JS ks (Nat.mod_lt _ hk)
theorem Mx{c:Nat}{u:Nat->Int}(ok:∀i,i<c->IC (fC u i))(nn:∀i,i<2*c->0<=u i){ms:List WB}(hm:∀m∈ms,jD c m/\lE (fC u) m=true)(lm:ms.length<=100){h:HI}{n:Nat}(hn:h[n]?=some (.lst (ms.map KA))):DM [.lst (JD c u),.ref n,.int (c:Nat)] h=some (.bl true,h):=by
 obtain⟨y,e0⟩:=Lx ok nn (.ref n) h;obtain⟨l',h',e,⟨z,rfl⟩,hh⟩:=uw (i:=4) (n:=n) (body:=xM) KA (fun l h'=>(∃z,l=[some (.lst (JD c u)),some (.ref n),some (.int (c:Nat)),y,z])/\h'=h) ms (by
  rintro l h' ⟨_,rfl⟩;exact hn) (by
  rintro m hmm l h' ⟨⟨z,rfl⟩,rfl⟩;exact⟨_,X5 ok (hm m hmm).1 (hm m hmm).2 _ _ _ _,⟨_,rfl⟩,rfl⟩) [some (.lst (JD c u)),some (.ref n),some (.int (c:Nat)),y,none] h ⟨⟨_,rfl⟩,rfl⟩
 rw[hh]at e;have pl:(JD c u).length=c:=by simp[JD]
 have t2:∀xs,sG h (.lst xs)=some "list" :=fun _=>rfl
 have t4:ML "list" "list" =true:=by decide
 simp only[DM,tQ,sB,zd3,zd4,if_true,zd5,zd6,Nat.reduceAdd,Nat.reduceSub,List.replicate,zec,zeb,XA,NB,CO,mO,dB,yT,CA,pA,EA,vC,zd1,zd2,qA,lA,t2,t4,zd9,iB,Bool.not_true,zej,if_false,ZK,pl,UJ,decide_true,KC,YA,iE,SD,EG,NF,e0,yF hn,e,CB,MB]
theorem pV{c m:Nat}(hc1:1<=c)(hc:c<=8)(m6:m<=6){ms:List WB}(mok:∀x∈ms,jD c x)(lm:ms.length<=100){h:HI}{a:Nat}(ha:h[a]?=some (.lst (ms.map KA))) :
 ∃A sp x h',zC c m [] 12 (rC kB (ms.map Fact.ways)) [] 0 A sp/\kK [.int (c:Nat),.ref a,.int (m:Nat)] h=some (.tup [qP A.wd,x,.int (sp:Nat)],h')/\Fb h.length h' c A (.tup [qP A.wd,x])/\Wc h h':=by
 have FT:=mR mok lm ha;have fok:=FT.ok;have nok:=ZI _ fok _ (ZN c);have ex:=Y5 (m:=m) hc1 hc (show(eE (ms.map Fact.ways)).length<=100 by rw[nR];simp) (QK _ fok) 12 (rC kB (ms.map Fact.ways)) (fG (ms.map Fact.ways)) 0 nok (WK _ fok) (by omega) (by omega);obtain⟨A,sp,x,h',LK,ep,AN,U⟩:=i7 hc1 hc FT ex;obtain⟨_,l2,_⟩:=VN 12 _ _ 0 _ _ LK;have l2:=l2 (by omega);have LK':zC c m [] 12 (rC kB (ms.map Fact.ways)) [] 0 A sp:=by have z:=LK;unfold zT at z;rw[nR,LR]at z;exact z
 refine⟨A,sp,x,h',LK',?_,AN,U⟩;have t1:∀(h:HI) xs,sG h (.tup xs)=some "tuple" :=fun _ _=>rfl
 have t3:ML "tuple" "tuple" =true:=by decide
 have x2:∀a b d:Dt,Xd [a,b,d] 2=some d:=fun _ _ _=>rfl
 have g1:decide ((0:Int)<=((sp:Nat):Int))=true:=decide_eq_true (by omega);have g2:decide (((sp:Nat):Int)<=((m:Nat):Int))=true:=decide_eq_true (by omega);simp only[kK,LP,sB,zd3,zd4,if_true,zd5,zd6,Nat.reduceAdd,Nat.reduceSub,List.replicate,zec,zeb,XA,fB,CA,EA,pA,aB,UA,NA,zd8,zd7,zd1,zd2,qA,lA,zei,ep,YA,NB,CO,mO,dB,yT,t1,t3,zd9,iB,Bool.not_true,zej,if_false,vC,lY,Int.cast_ofNat_Int,UJ,decide_true,HB,x2,gY,Ov,qU,g1,g2,Lz,KC,CB,MB]
theorem E8{c m n:Nat}(hc:2<=c){f:OA}{a:Gn}{sp:Nat}(h:zC c m [] (n+1) f [] 0 a sp)(of:SA c f)(tz:Zf c f)(no:∀s:Nat->Int×Int,(∀i,i<c->IC (s i))->¬yd c f s):a.wd=.clash:=by
 rcases h with⟨st,g,h1,h2,rfl,rfl⟩ | ⟨st,g,EN,h⟩
 · rfl
 · obtain⟨g0,s0,cl,ne,rfl⟩:=EN;obtain⟨p,Np,q⟩:=P7 hc of tz s0 cl ne;exact absurd q (no p Np)
theorem V9(ns:List Int)(lo hi:Option Int):∃ms:List Int,wG (ns.map Dt.int) lo hi=ms.map Dt.int/\ms.length<=ns.length:=by unfold SM.wG;rw[<- map_drop,<- map_take];refine⟨_,rfl,?_⟩;rw[length_take,length_drop];omega
theorem cV:∀(ms:List WB)(f:OA),rC f (ms.map Fact.ways)=ms.foldl (fun f m=>gB f m.1 m.2.1 m.2.2) f
 | [],_=>rfl
 | _::ms,_=>cV ms _
theorem jT(m:WB)(k:HI):uA (KA m) (.int 1) k=some (.int (m.1:Nat),k)/\uA (KA m) (.int 2) k=some (.int (m.2.1:Nat),k)/\uA (KA m) (.int 3) k=some (.int (m.2.2:Nat),k):=⟨rfl,rfl,rfl⟩
theorem Hx{c:Nat}(hc2:2<=c)(hc:c<=100){s:Nat->Int×Int}(ok:∀i,IC (s i))(lo:Bool){te:RE}{l:LI}(xs:List Int)(hx:xs.length<=63){h:HI}{n:Nat}(hte:∀x:Int,te (l.set 0 (some (.int x))) h=KF [.int x,.ref n,.bl lo] h)(hn:h[n]?=some (.lst (iC s c))) :
 ∃ms:List WB,ms.length=xs.length/\(∀m∈ms,jD c m/\m.2.1∈RL/\(lo=false->lE s m=true))/\ZD (AA 0) QB te l (.vals (xs.map Dt.int),h)=some (ms.map KA,h):=by
 let fm:Int->WB:=fun x=>(rY hc2 hc ok x lo).choose
 have hf:∀x,jD c (fm x)/\(fm x).2.1∈RL/\(lo=false->lE s (fm x)=true)/\∀(h:HI)(n:Nat),h[n]?=some (.lst (iC s c))->KF [.int x,.ref n,.bl lo] h=some (KA (fm x),h):=fun x=>(rY hc2 hc ok x lo).choose_spec
 refine⟨xs.map fm,by simp,fun m hm=>?_,?_⟩
 · obtain⟨x,_,rfl⟩:=mem_map.mp hm;exact⟨(hf x).1,(hf x).2.1,(hf x).2.2.1⟩
 · have ca:=mH (te:=te) (i:=0) (tc:=QB) Dt.int (fun x=>KA (fm x)) h xs l (by
    intro x _;exact⟨rfl,(hte x).trans ((hf x).2.2.2 h n hn)⟩)
   rw[oF _ _ _ (by simp[sizeLine];omega),ca,map_map];rfl
noncomputable def B0:Dt->Dt
 | .tup [_,y]=>y
 | _=>.non
theorem law_true(ns:List Int)(hl:ns.length<=63):∃h',pI [.lst (ns.map Dt.int)] []=some (.bl true,h'):=by
 have c0:=fun h=>jO ns 0 h
 have c7:=fun h=>jO ns 7 h
 simp only[Int.cast_ofNat_Int]at c0 c7;have m2:=fun(x:Int) (h:HI)=>KE (h:=h) (i:=x) (show(0:Int)<2 by decide)
 have m4:=fun(x:Int) (h:HI)=>KE (h:=h) (i:=x) (show(0:Int)<4 by decide)
 have d20:=fun(i:Int) (h:HI)=>sF (h:=h) (i:=i) (j:=20) ⟨by decide,by decide⟩
 have d2:=fun(i:Int) (h:HI)=>sF (h:=h) (i:=i) (j:=2) ⟨by decide,by decide⟩
 have d8:=fun(i:Int) (h:HI)=>sF (h:=h) (i:=i) (j:=8) ⟨by decide,by decide⟩
 have d64:=fun(i:Int) (h:HI)=>sF (h:=h) (i:=i) (j:=64) ⟨by decide,by decide⟩
 obtain⟨c,hc2,hc4,gF⟩:∃c:Nat,2<=c/\c<=4/\∀R:RS,ZA (wA 1 (e2 VB (eC (.int 2)) (e2 uC (xA aG [] (bA (eV 0) (bA (eC (.int 0)) eA))) (eC (.int 2)))) [some (.lst (ns.map Dt.int)),none,none,none,none,none,none,none,none,none,none,none,none,none,none,none] []) (yU (iA (TD (Rf (e2 XC (e2 uC (e2 FD (xA aG [] (bA (eV 0) (bA (eC (.int 0)) eA))) (eC (.int 20))) (eC (.int 4))) (eC (.int 1)))) (wA 1 (eC (.int 4))) OB) R))=R [some (.lst (ns.map Dt.int)),some (.int (c:Nat)),none,none,none,none,none,none,none,none,none,none,none,none,none,none] []:=by
  by_cases z:ns[0]?.getD (0:Int)/20%4=1
  · refine⟨4,by decide,by decide,fun R=>?_⟩;simp only[fB,CA,EA,pA,aB,UA,NA,zd1,qA,lA,zei,c0,m2,bE,zd8,zd7,YA,XA,NB,dB,d20,m4,lF,decide_eq_true z,iB,if_true];rfl
  · obtain⟨c,hcc,h2,h4⟩:∃c:Nat,2+ns[0]?.getD (0:Int)%2=(c:Int)/\2<=c/\c<=4:=⟨(2+ns[0]?.getD (0:Int)%2).toNat,by omega,by omega,by omega⟩
    refine⟨c,h2,h4,fun R=>?_⟩;simp only[fB,CA,EA,pA,aB,UA,NA,zd1,qA,lA,zei,c0,m2,bE,hcc,zd8,zd7,YA,XA,NB,dB,d20,m4,lF,decide_eq_false z,iB,zej,if_false,KC]
 obtain⟨m,hm,mp,m6⟩:∃m:Nat,(c:Int)*((c:Int)-1)/2=(m:Int)/\(BA c).length<=m/\m<=6:=by
  rcases(show c=2\/c=3\/c=4 by omega)with rfl | rfl | rfl
  · exact⟨1,by decide,by decide,by decide⟩
  · exact⟨3,by decide,by decide,by decide⟩
  · exact⟨6,by decide,by decide,by decide⟩
 have um:=fun(h:HI)=>UF (h:=h) (i:=(c:Int)) (j:=(c:Int)-1) (Or.inl ⟨by omega,by omega⟩)
 obtain⟨L,hL,es⟩:=T4 ns (show c<=8 by omega) [];have ok:∀i,IC (SG ns L i):=fun i=>yw ns hL i
 have ok':∀i,i<c->IC (SG ns L i):=fun i _=>ok i
 generalize SG ns L=s at es ok ok';obtain⟨xs,cx,lx⟩:=V9 ns (some 9) (some 29);obtain⟨ms,lm,hms,eC'⟩:=Hx hc2 (show c<=100 by omega) ok false (te:=aO) (l:=[none,some (.ref 0)]) xs (by omega) (h:=[.lst (iC s c)]) (n:=0) (fun x=>by simp only[aO,aB,UA,NA,pA,EA,zd7,zd1,zd2,qA,lA,zei]) rfl;have mok:∀x∈ms,jD c x:=fun x hx=>(hms x hx).1
 have fok:∀x∈ms.map Fact.ways,bG c x:=fun x hx=>by obtain⟨y,hy,rfl⟩:=mem_map.mp hx;exact mok y hy
 have ew:=sY (show c<=1000 by omega) [Ob.lst (iC s c)];obtain⟨l1,h1,e1,⟨b,y,rfl,N1,hs1⟩⟩:=kN (i:=5) (body:=NK) KA (fun(f:OA) l h=>∃b y,l=[some (.lst (ns.map Dt.int)),some (.int (c:Nat)),some (.ref 0),some (.lst (ms.map KA)),some (.ref (b+c)),y,none,none,none,none,none,none,none,none,none,none]/\Xr h b c f/\h[0]?=some (.lst (iC s c))) (fun f m=>gB f m.1 m.2.1 m.2.2) ms (by
  rintro x hx f l h ⟨b,y,rfl,N,h0⟩;obtain⟨⟨a1,a2,a3,a4⟩,t,_⟩:=hms x hx;have en:=yK N (show c<=1000 by omega) a1 a2 x.2.1;have i1:=fun k=>(jT x k).1
  have i2:=fun k=>(jT x k).2.1
  have i3:=fun k=>(jT x k).2.2
  have hl0:0<h.length:=(zed h0).1;refine⟨.nx [some (.lst (ns.map Dt.int)),some (.int (c:Nat)),some (.ref 0),some (.lst (ms.map KA)),some (.ref (h.length+c)),some (KA x),none,none,none,none,none,none,none,none,none,none] (h++RC h.length c (gB f x.1 x.2.1 x.2.2)),?_,h.length,_,rfl,OF h c _,by rw[zee hl0];exact h0⟩;simp only[NK,CA,aB,UA,NA,pA,EA,zd8,zd7,zd1,zd2,qA,lA,i1,i2,i3,zei,fB,en]) kB [some (.lst (ns.map Dt.int)),some (.int (c:Nat)),some (.ref 0),some (.lst (ms.map KA)),some (.ref (1+c)),none,none,none,none,none,none,none,none,none,none,none] ([.lst (iC s c)]++RC 1 c kB) ⟨1,none,rfl,OF [Ob.lst (iC s c)] c kB,rfl⟩
 rw[<- cV]at N1;have nok:=ZI _ fok _ (ZN c);have dg:=zK _ kB fok (fun i _=>by simp[kB]) (c:=c);have tz:=fV ms kB (K9 c) fun x hx=>⟨mok x hx,(hms x hx).2.1⟩
 have inF:=iW ok' ms kB (p9 ok') fun x hx=>⟨mok x hx,(hms x hx).2.2 rfl⟩
 obtain⟨x,sr,h2,st,g,er,U2,ST,r7⟩:=j7 (show c<=100 by omega) nok N1;have hs2:=U2.2 _ _ hs1;have inG:=inF.steps ok' ST;have neG:=inG.ne (ST.diag dg);obtain⟨bg,rfl,Ng,cl⟩:∃b,x=.ref (b+c)/\Xr h2 b c g/\aF c g:=by
  rcases r7 with⟨_,em⟩ | ⟨bg,e,Ng,cl,_⟩
  · rw[em]at neG;cases neG
  · exact⟨bg,e,Ng,cl⟩
 have og:=ST.ok nok;have tg:=(Zf.steps ST tz).tame neG;have e7:=fun h=>rO (ns[7]?.getD 0) (f:=62089911) (p:=2147483587) (by decide) (by decide) (by decide) h
 generalize ((ns[7]?.getD 0%1000000007+1)*62089911%2147483587).toNat=N at e7;obtain⟨i,j,hi,hj,hij,ei,ej⟩:=PY hc2 N 8;simp only[Int.cast_ofNat_Int]at ej;have mc:=fun(x:Int) (h:HI)=>KE (h:=h) (i:=x) (show(0:Int)<(c:Int) by omega)
 have mc1:=fun(x:Int) (h:HI)=>KE (h:=h) (i:=x) (show(0:Int)<(c:Int)-1 by omega)
 obtain⟨lf,hlf⟩:∃lf,lf=HA (g i j):=⟨_,rfl⟩
 have w0:Bf (s i) (s j)∈lf:=by rw[hlf];exact Df.mpr ⟨XD (ok i) (ok j),inG i hi j hj hij⟩
 have lf0:0<lf.length:=length_pos_of_mem w0;have zco:∀w∈lf,w<13/\(g i j).testBit w=true:=fun w hw=>Df.mp (by rw[<- hlf];exact hw)
 have ecl:ZD (AA 0) JK PK [none,some (.ref (bg+c)),some (.int (i:Nat)),some (.int (j:Nat))] (.vals ((List.range 13).map fun(k:Nat)=>Dt.int (k:Int)),h2)=some (lf.map (fun(k:Nat)=>Dt.int (k:Int)),h2):=by
  have ec:=AK (te:=PK) (tc:=JK) (i:=0) (fun(k:Nat)=>Dt.int (k:Int)) (g i j).testBit (fun(k:Nat)=>Dt.int (k:Int)) h2 (List.range 13) [none,some (.ref (bg+c)),some (.int (i:Nat)),some (.int (j:Nat))] fun k hk=>⟨by
   have sr:=tT (h:=h2) (i:=((g i j:Nat):Int)) (show(0:Int)<=(k:Int) by omega);have bt:=WS (g i j) k;simp only[JK,dB,CA,pA,EA,zd7,zd1,zd2,qA,lA,Ng.ix hi,Ng.jl hi hj,sr,Int.toNat_natCast,kL,lF,bt,iB],fun _=>by
   simp only[PK,pA,zd7,zd1,qA]⟩
  rw[oF _ _ _ (VZ _),ec,hlf];rfl
 obtain⟨gn,hgn⟩:∃gn,gn=(List.range 13).filter fun k=>!decide (k∈lf):=⟨_,rfl⟩
 have ecg:ZD (AA 0) MK HK [none,some (.lst (lf.map fun(k:Nat)=>Dt.int (k:Int)))] (.vals ((List.range 13).map fun(k:Nat)=>Dt.int (k:Int)),h2)=some (gn.map (fun(k:Nat)=>Dt.int (k:Int)),h2):=by
  have ec:=AK (te:=HK) (tc:=MK) (i:=0) (fun(k:Nat)=>Dt.int (k:Int)) (fun k=>!decide (k∈lf)) (fun(k:Nat)=>Dt.int (k:Int)) h2 (List.range 13) [none,some (.lst (lf.map fun(k:Nat)=>Dt.int (k:Int)))] fun k hk=>⟨by
   simp only[MK,dB,CA,pA,zd7,zd1,zd2,qA,lA,DS,iB],fun _=>by
   simp only[HK,pA,zd7,zd1,qA]⟩
  rw[oF _ _ _ (VZ _),ec,hgn]
 have zcm:∀w∈gn,w<13/\(g i j).testBit w=false:=by
  intro w hw;rw[hgn]at hw;obtain⟨q1,q2⟩:=mem_filter.mp hw;refine⟨mem_range.mp q1,?_⟩;cases z:(g i j).testBit w with
  | false=>rfl
  | true=>
   have:w∈lf:=by rw[hlf];exact Df.mpr ⟨mem_range.mp q1,z⟩
   simp[this]at q2
 have eb:=fun h=>gR (ok i) (ok j) h
 have pi:(iC s c)[i]?=some (QC (s i)):=KN hi;have pj:(iC s c)[j]?=some (QC (s j)):=KN hj;have sz4:4<=sizeLine:=by decide
 have zU:1<=sizeLine:=by decide
 have cat:∀(w:Nat) (h:HI),BH (.lst (ms.map KA)) (.lst [.tup [.str "ways", .int (i:Nat),.int ((2^w:Nat):Int),.int (j:Nat)]]) h=some (.ref h.length,h++[.lst ((ms++[(i,2^w,j)]).map KA)]):=by
  intro w h;have:(List.map KA ms).length+1<=sizeLine:=by simp[sizeLine];omega
  simp only[BH,FB,zea,zd3,zd4,Nat.zero_add,this,if_true,map_append,zd5,zd6];rfl
 have Ol:∀w,w<13->∀x∈ms++[(i,2^w,j)],jD c x:=by
  intro w hw x hx;rcases mem_append.mp hx with hx | hx
  · exact mok x hx
  · rw[mem_singleton.mp hx];exact⟨hi,hj,hij,jZ hw⟩
 have lmw:∀w:Nat,(ms++[(i,2^w,j)]).length<=100:=fun w=>by simp;omega
 have tzw:∀w,w<13->Zf c (rC kB ((ms++[(i,2^w,j)]).map Fact.ways)):=fun w hw=>by rw[XM];exact tz.Ql hi hj hij fun z=>gO _ z _ (cT w hw)
 have zaz:∀w,w<13->SA c (rC kB ((ms++[(i,2^w,j)]).map Fact.ways)):=fun w hw=>by rw[XM];exact dG nok hi hj hij _
 have body:∀w∈lf,∀(x5 y13 y14 y15:Option Dt)(h:HI),∃z14 z15 h',mJ [some (.lst (ns.map Dt.int)),some (.int (c:Nat)),some (.ref 0),some (.lst (ms.map KA)),some (.ref (b+c)),x5,some (.ref (bg+c)),some (.int (m:Nat)),some (.int (N:Nat)),some (.int (i:Nat)),some (.int (j:Nat)),some (.lst (lf.map fun(k:Nat)=>Dt.int (k:Int))),some (.lst (gn.map fun(k:Nat)=>Dt.int (k:Int))),some (.int (w:Nat)),y14,y15] h=some (.nx [some (.lst (ns.map Dt.int)),some (.int (c:Nat)),some (.ref 0),some (.lst (ms.map KA)),some (.ref (b+c)),x5,some (.ref (bg+c)),some (.int (m:Nat)),some (.int (N:Nat)),some (.int (i:Nat)),some (.int (j:Nat)),some (.lst (lf.map fun(k:Nat)=>Dt.int (k:Int))),some (.lst (gn.map fun(k:Nat)=>Dt.int (k:Int))),some (.int (w:Nat)),z14,z15] h'):=by
  intro w hw x5 y13 y14 y15 h;obtain⟨w13,wb⟩:=zco w hw;have sh:=fun(h:HI)=>CJ (h:=h) (CI w13)
  have pw2:(1:Int)*2^((w:Int)).toNat=((2^w:Nat):Int):=by simp
  have hn0:(h++[Ob.lst ((ms++[(i,2^w,j)]).map KA)])[h.length]?=some (.lst ((ms++[(i,2^w,j)]).map KA)):=by simp
  obtain⟨k1,hk1⟩:∃k1:HI,k1=h++[Ob.lst ((ms++[(i,2^w,j)]).map KA)]:=⟨_,rfl⟩
  rw[<- hk1]at hn0;have fl:OE (.ref h.length) k1=some (.ref k1.length,k1++[.lst ((ms++[(i,2^w,j)]).map KA)]):=by simp only[OE,zD,FB,hn0,zd9]
  obtain⟨A,sp,x',h',LK,ep,AN,U⟩:=pV (m:=m) (show 1<=c by omega) (show c<=8 by omega) m6 (Ol w w13) (lmw w) (h:=k1++[.lst ((ms++[(i,2^w,j)]).map KA)]) (a:=k1.length) (by simp);obtain⟨p,Np,pin,pwy⟩:=fS og cl tg hi hj hij w13 wb;have zcx:yd c (rC kB ((ms++[(i,2^w,j)]).map Fact.ways)) p:=by rw[XM];exact(pin.sub (ST.sub nok)).Ql Np hi hj hij (by rw[pwy,Nat.testBit_two_pow];simp)
  have dgw:=zK _ kB (mR (Ol w w13) (lmw w) hn0).ok (fun i _=>by simp[kB]) (c:=c);have lcm:0+lc c (rC kB ((ms++[(i,2^w,j)]).map Fact.ways))<=m:=by have:lc c (rC kB ((ms++[(i,2^w,j)]).map Fact.ways))<=(BA c).length:=countP_le_length;omega
  have hwd:=vV 12 _ 0 A sp LK (zaz w w13) dgw (tzw w w13) ⟨p,Np,zcx⟩ lcm;cases A with
  | Dm=>cases hwd
  | clash tr=>cases hwd
  | laid t=>
   have hx:x'=.lst (JD c (hC (2*c) t)):=congrArg B0 AN;rw[hx]at ep;have K:=uV 12 _ _ 0 t sp LK (zaz w w13) (fun z hz=>absurd hz (by simp));obtain⟨_,H⟩:=CN K.ok _ (mR (Ol w w13) (lmw w) hn0).ok kB (ZN c) K.net;have hn':h'[h.length]?=some (.lst ((ms++[(i,2^w,j)]).map KA)):=U.2 _ _ (by
    have hl1:h.length<k1.length:=by rw[hk1];simp
    rw[zee hl1];exact hn0)
   have el:=Mx (Hj (2*c) K.ok) (fun i hi=>Gj t hi) (ms:=ms++[(i,2^w,j)]) (fun y hy=>⟨Ol w w13 y hy,by rw[O7];exact H y (mem_map_of_mem hy)⟩) (lmw w) hn';refine⟨some (.ref h.length),some (.tup [.str "laid", .lst (JD c (hC (2*c) t)),.int (sp:Nat)]),h',?_⟩;simp only[mJ,XA,fB,CA,KG,RD,EA,pA,aB,UA,NA,zd3,zd4,Nat.reduceAdd,zd8,zd7,zd1,zd2,qA,lA,zei,sh,pw2,sz4,zU,if_true,cat,<- hk1,YA,vC,fl,ep,NB,CO,mO,dB,HB,UB,YD,zd9,Gn.wd,qP,xO,decide_true,Bool.not_true,iB,zej,if_false,el,KC]
 obtain⟨w1,hw1,a1⟩:=JS lf lf0;obtain⟨w2,hw2,a2⟩:=g8 lf lf0;obtain⟨w3,hw3,a3⟩:=GW lf lf0 (N/64);simp only[Int.cast_ofNat_Int]at a1;have eN:(N:Int)/64=((N/64:Nat):Int):=by omega
 rw[<- eN]at a3;obtain⟨l6,h6,e6,⟨z13,z14,z15,rfl⟩⟩:=VW (i:=13) (body:=mJ) (fun(k:Nat)=>Dt.int (k:Int)) (fun l h=>∃z13 z14 z15,l=[some (.lst (ns.map Dt.int)),some (.int (c:Nat)),some (.ref 0),some (.lst (ms.map KA)),some (.ref (b+c)),y,some (.ref (bg+c)),some (.int (m:Nat)),some (.int (N:Nat)),some (.int (i:Nat)),some (.int (j:Nat)),some (.lst (lf.map fun(k:Nat)=>Dt.int (k:Int))),some (.lst (gn.map fun(k:Nat)=>Dt.int (k:Int))),z13,z14,z15]) [w1,w2,w3] (by
  rintro w hw l h ⟨z13,z14,z15,rfl⟩;have hwl:w∈lf:=by
   simp only[mem_cons,not_mem_nil,or_false]at hw;rcases hw with rfl | rfl | rfl
   · exact hw1
   · exact hw2
   · exact hw3
  obtain⟨u14,u15,h',e⟩:=body w hwl y z13 z14 z15 h;exact⟨_,e,_,_,_,rfl⟩) [some (.lst (ns.map Dt.int)),some (.int (c:Nat)),some (.ref 0),some (.lst (ms.map KA)),some (.ref (b+c)),y,some (.ref (bg+c)),some (.int (m:Nat)),some (.int (N:Nat)),some (.int (i:Nat)),some (.int (j:Nat)),some (.lst (lf.map fun(k:Nat)=>Dt.int (k:Int))),some (.lst (gn.map fun(k:Nat)=>Dt.int (k:Int))),none,none,none] h2 ⟨none,none,none,rfl⟩
 have e6':AC (AA 13) mJ [Dt.int (w1:Nat),Dt.int (w2:Nat),Dt.int (w3:Nat)] [some (.lst (ns.map Dt.int)),some (.int (c:Nat)),some (.ref 0),some (.lst (ms.map KA)),some (.ref (b+c)),y,some (.ref (bg+c)),some (.int (m:Nat)),some (.int (N:Nat)),some (.int (i:Nat)),some (.int (j:Nat)),some (.lst (lf.map fun(k:Nat)=>Dt.int (k:Int))),some (.lst (gn.map fun(k:Nat)=>Dt.int (k:Int))),none,none,none] h2=_:=e6;have n1:TF (.ref (bg+c))=false:=rfl;have ixs:=fun(z:Int)=>fF hs2 z
 have dw:decide (Bf (s i) (s j)∈lf)=true:=decide_eq_true w0;have e1':AC (AA 5) NK (ms.map KA) [some (.lst (ns.map Dt.int)),some (.int (c:Nat)),some (.ref 0),some (.lst (ms.map KA)),some (.ref (1+c)),none,none,none,none,none,none,none,none,none,none,none] (Ob.lst (iC s c)::RC 1 c kB)=_:=e1;have ml:=fun(x:Int) (h:HI)=>KE (h:=h) (i:=x) (show(0:Int)<((lf.length:Nat):Int) by omega)
 have lfl:(lf.map fun(k:Nat)=>Dt.int (k:Int)).length=lf.length:=length_map _;have gnl:(gn.map fun(k:Nat)=>Dt.int (k:Int)).length=gn.length:=length_map _;have zao:=fun h=>AF (h:=h) (show(-(2^62):Int)<=13 by decide) (show(13:Int)<2^62 by decide)
 simp only[show(13:Int).toNat=13 from rfl]at zao;by_cases gz:gn.length=0
 · have dgz:decide (((gn.length:Nat):Int)=0)=true:=decide_eq_true (by omega);refine⟨h6,?_⟩;simp only[pI,qL,sB,zd3,zd4,if_true,zd5,zd6,Nat.reduceAdd,Nat.reduceSub,List.replicate,zec,zeb,XA];simp only[gF];simp only[XA,fB,CA,EA,pA,aB,UA,NA,zd8,zd7,zd1,zd2,qA,lA,zei,zec,zeb,zd3,zd4,Nat.reduceAdd,YA,es,GG,SD,kZ,mZ,ZX,MW,zd9,cx,EG,xF,dJ,zF,Option.join_some,eC',ew,iE,NF,e1',er,HB,UB,NB,dB,MG,n1,iB,zej,if_false,KC,wI,um,d2,hm,c7,e7,mc,ei,bE,d8,mc1,ej,lI,zao,ecl,ecg,ixs,SM.CC,pi,pj,eb,DS,dw,Bool.not_true,SX,RD,vI,a1,BO,HN,a2,d64,vC,ZK,lfl,ml,a3,cU,if_true,RW,e6',gnl,lF,dgz,CB,qF,MB]
 · have dgz:decide (((gn.length:Nat):Int)=0)=false:=decide_eq_false (by omega);obtain⟨w,hw,aw⟩:=GW gn (by omega) (N/64);rw[<- eN]at aw;obtain⟨w13,wb⟩:=zcm w hw;have mg:=fun(x:Int) (h:HI)=>KE (h:=h) (i:=x) (show(0:Int)<((gn.length:Nat):Int) by omega)
   have sh:=fun(h:HI)=>CJ (h:=h) (CI w13)
   have pw2:(1:Int)*2^((w:Int)).toNat=((2^w:Nat):Int):=by simp
   obtain⟨A,sp,x',h',LK,ep,AN,U⟩:=pV (m:=m) (show 1<=c by omega) (show c<=8 by omega) m6 (Ol w w13) (lmw w) (h:=h6++[.lst ((ms++[(i,2^w,j)]).map KA)]) (a:=h6.length) (by simp);have hwd:=E8 hc2 LK (zaz w w13) (tzw w w13) (fun p Np q=>by
    rw[XM]at q;obtain⟨q1,q2⟩:=q.Wn Np hi hj hij nok;have q3:=(q1.steps Np ST) i hi j hj hij;have wl:=XD (Np i hi) (Np j hj);rw[Nat.testBit_two_pow]at q2;rw[<- of_decide_eq_true q2,wb]at q3;cases q3)
   rw[hwd]at ep;refine⟨h',?_⟩;simp only[pI,qL,sB,zd3,zd4,if_true,zd5,zd6,Nat.reduceAdd,Nat.reduceSub,List.replicate,zec,zeb,XA];simp only[gF];simp only[XA,fB,CA,EA,pA,aB,UA,NA,zd8,zd7,zd1,zd2,qA,lA,zei,zec,zeb,zd3,zd4,Nat.reduceAdd,YA,es,GG,SD,kZ,mZ,ZX,MW,zd9,cx,EG,xF,dJ,zF,Option.join_some,eC',ew,iE,NF,e1',er,HB,UB,NB,dB,MG,n1,iB,zej,if_false,KC,wI,um,d2,hm,c7,e7,mc,ei,bE,d8,mc1,ej,lI,zao,ecl,ecg,ixs,SM.CC,pi,pj,eb,DS,dw,Bool.not_true,SX,RD,vI,a1,BO,HN,a2,d64,vC,ZK,lfl,ml,a3,cU,if_true,RW,e6',gnl,lF,dgz,mg,aw,sh,pw2,KG,sz4,zU,cat,ep,qP,eF,decide_true,CB,MB]
set_option maxHeartbeats 0 in
theorem Jz {l:PySem.W.OpenLaw} {w:World} {K:Frag} {h:Heap} {mg:Str->Option Value} {fa:Addr} (X:K.In h) (G:h.Ns mainGlobals mg) (hfa:mg "law" =some (.ref fa))
 {Gd:Addr} {zag:Value} {Km:Addr} {Zb:Addr} {yp:Value}
 (yq0:EL K "Search" Gd) (yq1:findIn K (.ref Gd) "lengths" =some none) (yq2:findIn K (.ref Gd) "most" =some none) (yq3:findIn K (.ref Gd) "made" =some none) (yq4:qB K "zones" pS) (yq5:qB K "ways_in" FR) (yq6:qB K "set_of" aS) (yq7:qB K "turned" bS) (yq8:qB K "chained_sets" ZP) (yq9:qB K "wide_row" kR) (yq10:qB K "wide" fT) (yq11:qB K "pairs_of" NQ) (yq12:qB K "narrowed" MQ) (yq13:qB K "left_by" AR) (yq14:qB K "narrows" DR) (yq15:qB K "made_of" BR) (yq16:qB K "is_empty" LQ) (yq17:qB K "threes_along" JP) (yq18:qB K "rounded_from" HP) (yq19:qB K "rounded" ER) (yq20:qB K "first_net" CQ) (yq21:qB K "lengths_in" GQ) (yq22:qB K "groups_in" DQ) (yq23:qB K "only_member" qQ) (yq24:qB K "first_loose_pair" DP) (yq25:qB K "split_of" jR) (yq26:qB K "grain" lS) (yq27:qB K "length_bounds" fQ) (yq28:qB K "point_bounds" GP) (yq29:qB K "set_bounds" HQ) (yq30:qB K "bounds" ZR) (yq31:qB K "least_bounds" FP) (yq32:qB K "moved" mS) (yq33:qB K "ring_behind" rQ) (yq34:qB K "timed" oS) (yq35:sL K Gd "__init__" "Search.__init__" yP) (yq36:sL K Gd "look" "Search.look" pQ) (yq37:sL K Gd "look_at_branches" "Search.look_at_branches" rP) (yq38:qB K "stretches_at" IP) (yq39:WY K "planned" fN 200) (yq40:qB K "_law_cell" yQ) (yq41:qB K "_law_mix" KQ) (yq42:qB K "_law_whole" FQ) (yq43:qB K "_law_zone" BQ) (yq44:qB K "_law_between" VP) (yq45:qB K "_law_stretches" vP) (yq46:qB K "_law_box" JQ) (yq47:qB K "_law_fact" zQ) (yq48:qB K "_law_laid" AQ) (yq49:qB K "_law_planned" WP) (yq50:qB K "law" oT) (yq51:nsIn K mainGlobals "any" =some none) (yq52:nsIn K mainGlobals "bool" =some none) (yq53:nsIn K mainGlobals "enumerate" =some none) (yq54:nsIn K mainGlobals "int" =some none) (yq55:nsIn K mainGlobals "isinstance" =some none) (yq56:nsIn K mainGlobals "len" =some none) (yq57:nsIn K mainGlobals "list" =some none) (yq58:nsIn K mainGlobals "max" =some none) (yq59:nsIn K mainGlobals "min" =some none) (yq60:nsIn K mainGlobals "range" =some none) (yq61:nsIn K mainGlobals "sum" =some none) (yq62:nsIn K mainGlobals "tuple" =some none) (yq63:nsIn K mainGlobals "ALL" =some (some zag)) (yq64:BD K 6 zag=some rL) (yq65:nsIn K mainGlobals "ZONES" =some (some (.ref Km))) (yq66:BD K 6 (.ref Km)=some MS) (yq67:nsIn K mainGlobals "CHAINED" =some (some (.ref Zb))) (yq68:BD K 6 (.ref Zb)=some uR) (yq69:nsIn K mainGlobals "SAME" =some (some yp)) (yq70:BD K 6 yp=some ZS)
 :∃fd:FuncData,(∀(s:Shared) (v:Value),BindsTo s fd ⟨[v],[]⟩ [("_law_script",v)])/\∀base:Heap,K.In base->base.Ns mainGlobals mg->Jd l.prog w K mg base VF 32 fa fd ["_law_script"] (OI K 1 pI):=by
 have T:uh K mg:={
  zbT:=AB X G yq4 fun _ _ _ _ _ _=>len1 (fun _=>rfl)
  zbK:=AB X G yq5 fun _ _ _ _ _ _=>len1 (fun _=>rfl)
  zbN:=AB X G yq6 fun _ _ _ _ _ _=>len1 (fun _=>rfl)
  zbO:=AB X G yq7 fun _ _ _ _ _ _=>len1 (fun _=>rfl)
  zbf:=AB X G yq8 fun _ _ _ _ _ _=>ND (fun _ _=>rfl)
  zbE:=AB X G yq9 fun _ _ _ _ _ _=>ND (fun _ _=>rfl)
  zbU:=AB X G yq10 fun _ _ _ _ _ _=>len1 (fun _=>rfl)
  zbC:=AB X G yq11 fun _ _ _ _ _ _=>len1 (fun _=>rfl)
  zbB:=AB X G yq12 fun _ _ _ _ _ _=>OJ (fun _ _ _ _=>rfl)
  zbG:=AB X G yq13 fun _ _ _ _ _ _=>ND (fun _ _=>rfl)
  zbI:=AB X G yq14 fun _ _ _ _ _ _=>ND (fun _ _=>rfl)
  zbH:=AB X G yq15 fun _ _ _ _ _ _=>ND (fun _ _=>rfl)
  zbA:=AB X G yq16 fun _ _ _ _ _ _=>len1 (fun _=>rfl)
  zbk:=AB X G yq17 fun _ _ _ _ _ _=>ND (fun _ _=>rfl)
  zbi:=AB X G yq18 fun _ _ _ _ _ _=>ND (fun _ _=>rfl)
  zbJ:=AB X G yq19 fun _ _ _ _ _ _=>len1 (fun _=>rfl)
  zbu:=AB X G yq20 fun _ _ _ _ _ _=>ND (fun _ _=>rfl)
  zbm:=AB X G yq21 fun _ _ _ _ _ _=>len1 (fun _=>rfl)
  zbv:=AB X G yq22 fun _ _ _ _ _ _=>len1 (fun _=>rfl)
  zbo:=AB X G yq23 fun _ _ _ _ _ _=>vF (fun _ _ _=>rfl)
  zbb:=AB X G yq24 fun _ _ _ _ _ _=>len1 (fun _=>rfl)
  zbD:=AB X G yq25 fun _ _ _ _ _ _=>ND (fun _ _=>rfl)
  zbQ:=AB X G yq26 fun _ _ _ _ _ _=>len1 (fun _=>rfl)
  zbe:=AB X G yq27 fun _ _ _ _ _ _=>ND (fun _ _=>rfl)
  zbh:=AB X G yq28 fun _ _ _ _ _ _=>OJ (fun _ _ _ _=>rfl)
  zbn:=AB X G yq29 fun _ _ _ _ _ _=>vF (fun _ _ _=>rfl)
  zbM:=AB X G yq30 fun _ _ _ _ _ _=>ND (fun _ _=>rfl)
  zbg:=AB X G yq31 fun _ _ _ _ _ _=>len1 (fun _=>rfl)
  zbR:=AB X G yq32 fun _ _ _ _ _ _=>vF (fun _ _ _=>rfl)
  zbp:=AB X G yq33 fun _ _ _ _ _ _=>ND (fun _ _=>rfl)
  zbS:=AB X G yq34 fun _ _ _ _ _ _=>ND (fun _ _=>rfl)
  zbL:=o9 X G yq0 yq35 fun _ _ _ _ _ _=>vF (fun _ _ _=>rfl)
  zaH:=cX yq0 yq36 fun _ _ _ _ _ _=>OJ (fun _ _ _ _=>rfl)
  za9:=cX yq0 yq37 fun _ _ _ _ _ _=>OJ (fun _ _ _ _=>rfl)
  zbj:=AB X G yq38 fun _ _ _ _ _ _=>len1 (fun _=>rfl)
  zbw:=Ax X G yq39 fun _ _ _ _ _ _ _ _ _ _ _ us hl h1 h2=>match us,hl with | [_,_,_],_=>BindsTo.of_defaults rfl h1 h2 rfl rfl
  zbq:=AB X G yq40 fun _ _ _ _ _ _=>ND (fun _ _=>rfl)
  zbz:=AB X G yq41 fun _ _ _ _ _ _=>vF (fun _ _ _=>rfl)
  zbl:=AB X G yq42 fun _ _ _ _ _ _=>len1 (fun _=>rfl)
  zbt:=AB X G yq43 fun _ _ _ _ _ _=>ND (fun _ _=>rfl)
  zbc:=AB X G yq44 fun _ _ _ _ _ _=>ND (fun _ _=>rfl)
  zba:=AB X G yq45 fun _ _ _ _ _ _=>vF (fun _ _ _=>rfl)
  zby:=AB X G yq46 fun _ _ _ _ _ _=>OJ (fun _ _ _ _=>rfl)
  zbr:=AB X G yq47 fun _ _ _ _ _ _=>vF (fun _ _ _=>rfl)
  zbs:=AB X G yq48 fun _ _ _ _ _ _=>vF (fun _ _ _=>rfl)
  zbd:=AB X G yq49 fun _ _ _ _ _ _=>vF (fun _ _ _=>rfl)
  zaF:=vS yq0 yq1
  zaG:=vS yq0 yq2
  Ym:=vS yq0 yq3
  zbX:=mg_none_of X G yq51
  zbW:=mg_none_of X G yq52
  zbx:=mg_none_of X G yq53
  Xp:=mg_none_of X G yq54
  Xm:=mg_none_of X G yq55
  uc:=mg_none_of X G yq56
  Zm:=mg_none_of X G yq57
  Cp:=mg_none_of X G yq58
  Im:=mg_none_of X G yq59
  Kc:=mg_none_of X G yq60
  zbY:=mg_none_of X G yq61
  zaI:=mg_none_of X G yq62
  Tp:=⟨⟨_,6,PySem.W.mg_of X G yq63,yq64⟩⟩
  zbP:=⟨⟨_,6,PySem.W.mg_of X G yq65,yq66⟩⟩
  zbF:=⟨⟨_,6,PySem.W.mg_of X G yq67,yq68⟩⟩
  zbV:=⟨⟨_,6,PySem.W.mg_of X G yq69,yq70⟩⟩
 }
 obtain⟨f,oc,od,kV,dc,pm,an,cd,ct,sl,a,l1,c1,k1⟩:=yq50;have e:=hfa.symm.trans (PySem.W.mg_of X G a);cases e;exact⟨_,fun s v=>.of_eq rfl,fun base _ _=>mz T base (eO l1 c1 k1)⟩
end G
open PySem.W
set_option maxRecDepth 100000 in
set_option maxHeartbeats 0 in
theorem PySem.Challenge.cw_spanways_k25_whole_tame_ways_left_are_so_holds : PySem.Challenge.rw_spanways_k25_whole_tame_ways_left_are_so.Holds := by
 refine HD.top ?_
 k_fill
 refine SM.B9 (l:=PySem.Challenge.rw_spanways_k25_whole_tame_ways_left_are_so) (F:=G.pI) (k:=32) (x := "_law_script") rfl rfl ⟨rfl,by decide,by decide⟩ (fun w h Y=>PySem.W.kIn_of Y) ?F G.law_true
 case F=>
  intro w mg fa h KX GN hmg
  refine' G.Jz KX GN hmg ?yq0 ?yq1 ?yq2 ?yq3 ?yq4 ?yq5 ?yq6 ?yq7 ?yq8 ?yq9 ?yq10 ?yq11 ?yq12 ?yq13 ?yq14 ?yq15 ?yq16 ?yq17 ?yq18 ?yq19 ?yq20 ?yq21 ?yq22 ?yq23 ?yq24 ?yq25 ?yq26 ?yq27 ?yq28 ?yq29 ?yq30 ?yq31 ?yq32 ?yq33 ?yq34 ?yq35 ?yq36 ?yq37 ?yq38 ?yq39 ?yq40 ?yq41 ?yq42 ?yq43 ?yq44 ?yq45 ?yq46 ?yq47 ?yq48 ?yq49 ?yq50 ?yq51 ?yq52 ?yq53 ?yq54 ?yq55 ?yq56 ?yq57 ?yq58 ?yq59 ?yq60 ?yq61 ?yq62 ?yq63 ?yq64 ?yq65 ?yq66 ?yq67 ?yq68 ?yq69 ?yq70
  (case yq0=>exact⟨by k_is,by k_is,by k_is,by k_is,by k_is,by k_is,by k_is⟩)
  (case yq1 | yq2 | yq3=>k_is)
  (case yq4 | yq5 | yq6 | yq7 | yq8 | yq9 | yq10 | yq11 | yq12 | yq13 | yq14 | yq15 | yq16 | yq17 | yq18 | yq19 | yq20 | yq21 | yq22 | yq23 | yq24 | yq25 | yq26 | yq27 | yq28 | yq29 | yq30 | yq31 | yq32 | yq33 | yq34=>exact⟨_,_,_,_,_,_,_,_,_,_,by k_is,by k_is,by k_is,by k_is⟩)
  (case yq35 | yq36 | yq37=>exact⟨_,_,_,_,_,_,_,_,_,_,by k_is,by k_is,by k_is,by k_is,by k_is⟩)
  (case yq38=>exact⟨_,_,_,_,_,_,_,_,_,_,by k_is,by k_is,by k_is,by k_is⟩)
  (case yq39=>exact⟨_,_,_,_,_,_,_,_,_,_,_,_,_,_,by k_is,by k_is,by k_is,by k_is,by k_is,by rfl⟩)
  (case yq40 | yq41 | yq42 | yq43 | yq44 | yq45 | yq46 | yq47 | yq48 | yq49 | yq50=>exact⟨_,_,_,_,_,_,_,_,_,_,by k_is,by k_is,by k_is,by k_is⟩)
  (case yq51 | yq52 | yq53 | yq54 | yq55 | yq56 | yq57 | yq58 | yq59 | yq60 | yq61 | yq62 | yq63=>k_is)
  (case yq64=>kernel_rfl)
  (case yq65=>k_is)
  (case yq66=>kernel_rfl)
  (case yq67=>k_is)
  (case yq68=>kernel_rfl)
  (case yq69=>k_is)
  (case yq70=>kernel_rfl)
end
