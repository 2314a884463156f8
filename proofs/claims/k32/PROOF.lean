import PyProof.Rows.All
import Wide.All
import OpenK.AllK
import Wide.FinOn
import Lean
import PyProof.EqAt
import PyProof.EqKinds
import PyProof.TupleCall
import PySem.Challenge.RW_spanways_k32_a_full_book
set_option Elab.async false
set_option linter.all false
set_option maxRecDepth 100000
set_option bootstrap.genMatcherCode false
noncomputable section
section
open PySem PySem.W PyProof.Rows
namespace HD
noncomputable abbrev rw:=PySem.Challenge.rw_spanways_k32_a_full_book.row.toRowW
noncomputable def vw:Program:={rw.prog with main:={rw.prog.main with body:=[0,1,3,5,6,7,8,9,10,11,13,14,15,16,17,18,20,21,22,23,24,26,27,28,29,30,31,32,33,34,35,36,37,38,39,40,41].filterMap (rw.prog.main.body[·]?)}}
noncomputable abbrev xt:Shared->Bool:=fun s=>xlAt HD.vw [] s && recOk (RowW.records HD.rw) s
theorem jn {p q:Program}{l:List Str}{X:Shared->Bool}{α:Type}{Y:Shared->α}{Z:World->α}{N:Nat}(a:∀ w,(openEnds treeTable p w N).map (fun s=>(openSeen q l (importedModules p.main.body) X true s).1)=some (openGood q l).1)(b:∀ w,(openEnds treeTable p w N).map (fun s=>(openSeen q l (importedModules p.main.body) X true s).2)=some (openGood q l).2)(c:∀ w,(openEnds treeTable p w N).map Y=some (Z w)):LeftO p q l X Y Z N:=fun w=>by
  obtain ⟨s,e,d⟩:=Option.map_eq_some_iff.mp (a w)
  have f:=b w
  have g:=c w
  rw [e] at f g
  show (openEnds treeTable p w N).map _=_
  rw [e]
  exact congrArg some (Prod.ext (Prod.ext d (Option.some.inj f)) (Option.some.inj g))
set_option maxHeartbeats 0
theorem a1:∀ w,(openEnds treeTable rw.prog w 5812).map (fun s=>(openSeen vw [] (importedModules rw.prog.main.body) xt true s).1)=some (openGood vw []).1:=by intro w; kernel_rfl
theorem a2:∀ w,(openEnds treeTable rw.prog w 5812).map (fun s=>(openSeen vw [] (importedModules rw.prog.main.body) xt true s).2)=some (openGood vw []).2:=by intro w; kernel_rfl
local macro_rules | `(tactic|o_head $H)=>do
  let hw:=Lean.mkIdent `hw
  `(tactic|(refine holds_open (q:=HD.vw) (loose:=[]) (Xt:=HD.xt) (XP:=XL HD.vw []) (Yf:=Hook.obs $H) (Ya:=Hook.val $H) (YP:=Hook.says $H) (N:=5812) ?_ (Hook.of $H) (Hook.keeps $H) (fun s e=>xl_of s (Bool.and_eq_true_iff.mp e).1) XL.keeps (by rfl) (by rfl) (by rfl) (fun s e=>recFacts_of (Bool.and_eq_true_iff.mp e).2) (by rfl) (by first | assumption | decide +kernel) (by decide +kernel) ⟨rfl,rfl,rfl,rfl,rfl,by decide +kernel⟩ ?$hw ?_; focus (refine HD.jn HD.a1 HD.a2 ?_; intro w; kernel_rfl)))
open_top top for PySem.Challenge.rw_spanways_k32_a_full_book
end HD
end
namespace L2
end L2
namespace SM
end SM
namespace G
end G
open PySem PySem.Spec PyProof.Rows L2 SM G List
theorem Dy{α:Type _}{a:α}{l:List α}:(a::l)[0]?=some a:=rfl
theorem Ey{α:Type _}{a:α}{l:List α}{i:Nat}:(a::l)[i+1]?=l[i]?:=rfl
theorem Fy{α:Type _}{a:α}{l:List α}:(a::l).length=l.length+1:=rfl
theorem Gy{α:Type _}:([]:List α).length=0:=rfl
theorem Hy{α β:Type _}{f:α->β}{a:α}{l:List α}:(a::l).map f=f a::l.map f:=rfl
theorem Jy{α β:Type _}{f:α->β}:[].map f=[]:=rfl
theorem Ky{α:Type _}{a b:α}{l:List α}:(a::l).set 0 b=b::l:=rfl
theorem Ly{α:Type _}{a b:α}{l:List α}{i:Nat}:(a::l).set (i+1) b=a::l.set i b:=rfl
theorem Ny{α β:Type _}{f:α->β}{a:α}:(some a).map f=some (f a):=rfl
theorem Py{α β:Type _}{a:α}{f:α->Option β}:(some a).bind f=f a:=rfl
theorem Qy{α:Type _}{l:List α}:[]++l=l:=rfl
theorem Ry{α:Type _}{a:α}{l k:List α}:a::l++k=a::(l++k):=rfl
theorem Sy{α:Type _}{l:List α}{i:Nat}{a:α}:l[i]?=some a->∃h:i<l.length,l[i]=a:=List.getElem?_eq_some_iff.mp
theorem Uy{α:Type _}{l k:List α}{i:Nat}(h:i<l.length):(l++k)[i]?=l[i]?:=List.getElem?_append_left h
theorem Vy:false≠true:=Bool.false_ne_true
theorem Xy(n:Nat):n<=n:=Nat.le_refl n
theorem Yy{α:Type _}{l k:List α}{i:Nat}(h:l.length<=i):(l++k)[i]?=k[i-l.length]?:=List.getElem?_append_right h
theorem Zy{α:Type _}(l:List α):l++[]=l:=List.append_nil l
theorem cg:(false=true)=False:=Bool.false_eq_true
open PySem.W (Frag nsIn findIn keepIn fnOf mg_none_of)
namespace L2
noncomputable abbrev qA:=Sum Int Str
noncomputable def tH:qA->Value->Bool
 | .inl k,v=>Value.isInt k v
 | .inr x,v=>Value.isStrOf x v
noncomputable def ZS(w:World):qA->Int
 | .inl k=>hashInt k
 | .inr x=>hashStr w x
theorem tE:∀{k:qA}{v:Value},tH k v=true->(∃i t,k=Sum.inl i/\v=Value.int i t)\/(∃x t,k=Sum.inr x/\v=Value.str x t)
 | .inl i,v,h=>by obtain⟨t,e⟩:=Value.isInt_shape (k:=i) (v:=v) h;exact .inl ⟨i,t,rfl,e⟩
 | .inr x,v,h=>by obtain⟨t,e⟩:=Value.isStrOf_shape (x:=x) (v:=v) h;exact .inr ⟨x,t,rfl,e⟩
theorem yW(i:Int)(t:Tok):tH (.inl i) (.int i t)=true:=by simp[tH,Value.isInt]
theorem zW(x:Str)(t:Tok):tH (.inr x) (.str x t)=true:=by simp[tH,Value.isStrOf]
theorem B0(a b:Int):decide ((Sum.inl a:qA)=Sum.inl b)=(a==b):=by
 by_cases e:a=b
 · subst e;simp
 · have h:¬(Sum.inl a:qA)=Sum.inl b:=fun q=>e (Sum.inl.inj q)
   rw[decide_eq_false h];exact(beq_eq_false_iff_ne.mpr e).symm
theorem G0(a b:Str):decide ((Sum.inr a:qA)=Sum.inr b)=decide (a=b):=by
 by_cases e:a=b
 · subst e;simp
 · have h:¬(Sum.inr a:qA)=Sum.inr b:=fun q=>e (Sum.inr.inj q)
   rw[decide_eq_false h,decide_eq_false e]
theorem D0(a:Int)(b:Str):decide ((Sum.inl a:qA)=Sum.inr b)=false:=decide_eq_false (fun q=>nomatch q)
theorem F0(a:Str)(b:Int):decide ((Sum.inr a:qA)=Sum.inl b)=false:=decide_eq_false (fun q=>nomatch q)
def LB(prog:Program)(w:World):PySem.KeyKind prog w qA where
 is:=tH
 hash:=ZS w
 inj:=fun v a b ha hb=>by
  rcases tE ha with⟨i,t,rfl,rfl⟩ | ⟨x,t,rfl,rfl⟩
  · rcases tE hb with⟨j,u,rfl,e⟩ | ⟨y,u,rfl,e⟩
    · injection e with e1 _;rw[e1]
    · exact nomatch e
  · rcases tE hb with⟨j,u,rfl,e⟩ | ⟨y,u,rfl,e⟩
    · exact nomatch e
    · injection e with e1 _;rw[e1]
 byValue:=fun k v h=>by rcases tE h with⟨i,t,rfl,rfl⟩ | ⟨x,t,rfl,rfl⟩<;>rfl
 pyHash:=fun hv h=>by
  rcases tE hv with⟨i,t,rfl,rfl⟩ | ⟨x,t,rfl,rfl⟩
  · exact wpAny_pyHash_int h
  · exact wpAny_pyHash_str h
 eqBool:=fun hu hv h=>by
  rcases tE hu with⟨i,t,rfl,rfl⟩ | ⟨x,t,rfl,rfl⟩
  · rcases tE hv with⟨j,u,rfl,rfl⟩ | ⟨y,u,rfl,rfl⟩
    · rw[B0]at h;exact wpAny_eqBool_int h
    · rw[D0]at h;exact SeqAt.EqAt.int_str i t y u _ _ _ _ h
  · rcases tE hv with⟨j,u,rfl,rfl⟩ | ⟨y,u,rfl,rfl⟩
    · rw[F0]at h;exact SeqAt.EqAt.str_int x t j u _ _ _ _ h
    · rw[G0]at h;exact wpAny_eqBool_str h
 «strs»:=fun k x t v h=>by
  rcases tE h with⟨i,u,rfl,e⟩ | ⟨y,u,rfl,e⟩
  · exact nomatch e
  · injection e with e1 _
    subst e1;cases v<;>rfl
theorem XU(prog:Program)(w:World)(i:Int)(t:Tok):(LB prog w).is (.inl i) (.int i t)=true:=yW i t
theorem YU(prog:Program)(w:World)(x:Str)(t:Tok):(LB prog w).is (.inr x) (.str x t)=true:=zW x t
inductive V where
 | non | bl (b:Bool) | int (i:Int) | str (x:Str) | kj (b:Array UInt8) | flt (b:UInt64) | ref (a:Addr) | ty (n:String)
 deriving DecidableEq
noncomputable def RelV:V->Value->Prop
 | .non,u=>u=Value.none
 | .bl b,u=>u=Value.bool b
 | .int i,u=>∃t,u=Value.int i t
 | .str x,u=>∃t,u=Value.str x t
 | .kj b,u=>∃t,u=Value.bytes b t
 | .flt b,u=>∃t,u=Value.float b t
 | .ref a,u=>u=Value.ref a
 | .ty n,u=>u=Value.type n
abbrev Vals:List V->List Value->Prop:=Paired RelV
theorem Vals.length{xs:List V}{us:List Value}(r:Vals xs us):xs.length=us.length:=Paired.length r
theorem Vals.get:∀{xs:List V}{us:List Value}{i:Nat}{x:V},Vals xs us->xs[i]?=some x->∃u,us[i]?=some u/\RelV x u
 | _,_,_,_,.nil,e=>by simp at e
 | _,_,0,_,.cons r _,e=>by simp at e;subst e;exact⟨_,rfl,r⟩
 | _,_,i+1,x,.cons _ t,e=>by obtain⟨u,h1,h2⟩:=Vals.get (i:=i) (x:=x) t (by simpa using e);exact⟨u,by simpa using h1,h2⟩
theorem Vals.set{x:V}{u:Value}(r:RelV x u):∀{xs:List V}{us:List Value}(i:Nat),Vals xs us->Vals (xs.set i x) (us.set i u)
 | _,_,_,.nil=>.nil
 | _,_,0,.cons _ t=>.cons r t
 | _,_,i+1,.cons q t=>.cons q (Vals.set r i t)
theorem Vals.append:∀{xs ys:List V}{us ws:List Value},Vals xs us->Vals ys ws->Vals (xs++ys) (us++ws)
 | _,_,_,_,.nil,s=>s
 | _,_,_,_,.cons r t,s=>.cons r (Vals.append t s)
theorem Vals.take:∀{xs:List V}{us:List Value}(n:Nat),Vals xs us->Vals (xs.take n) (us.take n)
 | _,_,0,_=>.nil
 | _,_,_+1,.nil=>.nil
 | _,_,n+1,.cons r t=>.cons r (Vals.take n t)
theorem Vals.drop:∀{xs:List V}{us:List Value}(n:Nat),Vals xs us->Vals (xs.drop n) (us.drop n)
 | _,_,0,r=>r
 | _,_,_+1,.nil=>.nil
 | _,_,n+1,.cons _ t=>Vals.drop n t
theorem Vals.none_of:∀{xs:List V}{us:List Value}{i:Nat},Vals xs us->xs[i]?=none->us[i]?=none:=fun {xs us i} r e=>by have h1:=r.length;have h2:xs.length<=i:=getElem?_eq_none_iff.mp e;exact getElem?_eq_none_iff.mpr (by omega)
def M8:Option V->Option Value->Prop
 | some v,some u=>RelV v u
 | none,none=>True
 | _,_=>False
def KV{κ:Type}:List (κ×V)->List (κ×Value)->Prop:=Paired fun(p:κ×V) (q:κ×Value)=>p.1=q.1/\RelV p.2 q.2
noncomputable def kV:qA->V
 | .inl i=>.int i
 | .inr x=>.str x
inductive HO where
 | lst (xs:List V)
 | tup (xs:List V)
 | dK (kvs:List (qA×V)) | dT (kvs:List (List qA×V))
 | set (S:Int->Bool) (n:Nat)
 | ins (C dx:Addr) (fs:List (Str×V))
 | own (x:Addr)
 | xd (fs:List (Str×V))
 | met (f x:Addr)
 | rng (lo hi:Int)
 | b9 (o:Obj) (u:HO)
 | vq (ps:Array Value)
 | ext (φ:Heap->Prop)
noncomputable abbrev Hp:=Addr->Option HO
noncomputable def DA(H:Hp)(a:Addr)(o:HO):Hp:=fun b=>if b=a then some o else H b
theorem AB{H:Hp}{a:Addr}{o:HO}:DA H a o a=some o:=by unfold DA;rw[if_pos rfl]
theorem CA{H:Hp}{a b:Addr}{o:HO}(h:b≠a):DA H a o b=H b:=by unfold DA;rw[if_neg h]
theorem HN{H:Hp}{a:Addr}{o u:HO}:DA (DA H a o) a u=DA H a u:=by funext b;unfold DA;split<;>rfl
theorem BO{H:Hp}{a b:Addr}{o u:HO}(h:H a=some o)(h':H b=some u)(d:o≠u):a≠b:=by intro e;subst e;rw[h]at h';exact d (Option.some.inj h')
theorem lC{H:Hp}{a b:Addr}{o:HO}(h:H a=some o)(h':H b=none):a≠b:=by intro e;subst e;rw[h]at h';cases h'
section
variable(P:Program)(w:World)
def Y7(H:Hp)(h:Heap)(a:Addr):HO->Prop
 | .lst xs=>xs.length<=sizeLine/\∃(its:List Value) (n:Nat),Vals xs its/\h.get? a=some { cls:=.type "list",data:=.seq its.toArray n }
 | .tup xs=>xs.length<=sizeLine/\∃its:List Value,Vals xs its/\IsTup h a its.toArray
 | .dK kvs=>kvs.length<=sizeLine/\(a==sysModules)=false/\∃vs,KV kvs vs/\h.DictOf (LB P w) a vs
 | .dT kvs=>kvs.length<=sizeLine/\(a==sysModules)=false/\∃xs:List (List qA×Addr×Value),
  Paired (fun(p:List qA×V) (q:List qA×Addr×Value)=>p.1=q.1/\H q.2.1=some (.tup (p.1.map kV))/\RelV p.2 q.2.2) kvs xs/\
  ∃o es ep,h.get? a=some o/\o.ExactDict/\o.data=.dict es ep/\es.toList=xs.map (entryOfKey (tupleKind (LB P w)))/\(xs.map (·.1)).Nodup
 | .set S n=>h.SetOf (intKind P w) a S n
 | .ins C dx fs=>H dx=some (.own a)/\fs.length<=1000/\dx≠a/\h.get? a=some (PySem.W.instObj C dx)/\
  ∃mA,h.Ns1 dx mA/\(∀f,M8 (fs.lookup f) (mA f))/\PySem.Within mA (fs.map (·.1))
 | .own _=>∃o,h.get? a=some o
 | .xd fs=>∃mA,h.Ns1 a mA/\∀f,M8 (fs.lookup f) (mA f)
 | .rng lo hi=>∃t u v,h.get? a=some { cls:=.type "range",data:=.fields #[.int lo t,.int hi u,.int 1 v] }
 | .b9 o u=>h.get? a=some o/\Y7 H h a u
 | .vq ps=>h.get? a=some { cls:=.none,data:=.fields ps }
 | .met f x=>h.get? a=some (PySem.W.methodObj (.ref f) (.ref x))
 | .ext φ=>φ h/\(∃o,h.get? a=some o)/\∀h1 h2:Heap,φ h1->(∀o,h1.get? a=some o->h2.get? a=some o)->φ h2
def Z8(H:Hp)(h:Heap):Prop:=∀a o,H a=some o->Y7 P w H h a o
end
section
variable{P:Program}{w:World}{H H':Hp}{h h':Heap}{a:Addr}{o:HO}
theorem Y7.lt(x:Y7 P w H h a o):a<h.objs.size:=by
 cases o with
 | lst xs=>obtain⟨_,_,_,_,e⟩:=x;exact Heap.lt_size e
 | tup xs=>obtain⟨_,_,_,p⟩:=x;exact p.lt
 | dK kvs=>obtain⟨_,_,_,_,o,_,_,e,_⟩:=x;exact Heap.lt_size e
 | dT kvs=>obtain⟨_,_,_,_,o,_,_,e,_⟩:=x;exact Heap.lt_size e
 | set S n=>obtain⟨o,_,_,_,e,_⟩:=x;exact Heap.lt_size e
 | ins C dx fs=>obtain⟨_,_,_,e,_⟩:=x;exact Heap.lt_size e
 | own y=>obtain⟨_,e⟩:=x;exact Heap.lt_size e
 | xd fs=>obtain⟨_,⟨_,_,_,e,_⟩,_⟩:=x;exact Heap.lt_size e
 | rng lo hi=>obtain⟨_,_,_,e⟩:=x;exact Heap.lt_size e
 | b9 ob u=>obtain⟨e,_⟩:=x;exact Heap.lt_size e
 | vq ps=>exact Heap.lt_size (show h.get? a=some _ from x)
 | met f y=>exact Heap.lt_size (show h.get? a=some _ from x)
 | ext φ=>obtain⟨_,⟨_,e⟩,_⟩:=x;exact Heap.lt_size e
theorem Paired.nq{α β:Type}{F G:α->β->Prop}:∀{l₁:List α}{l₂:List β},Paired F l₁ l₂->(∀a b,F a b->G a b)->Paired G l₁ l₂
 | _,_,.nil,_=>.nil
 | _,_,.cons r t,f=>.cons (f _ _ r) (Paired.nq t f)
theorem Y7.stay(x:Y7 P w H h a o)(k:∀b u,(b=a\/H b=some (.own a))->h.get? b=some u->h'.get? b=some u)
 (ho:∀b,H b=some (.own a)->H' b=some (.own a)) (ht:∀b xs,H b=some (.tup xs)->H' b=some (.tup xs)):Y7 P w H' h' a o:=by
 induction o with
 | lst xs=>obtain⟨z,its,n,r,e⟩:=x;exact⟨z,its,n,r,k _ _ (.inl rfl) e⟩
 | tup xs=>obtain⟨z,its,r,ob,e,c⟩:=x;exact⟨z,its,r,ob,k _ _ (.inl rfl) e,c⟩
 | dK kvs=>obtain⟨z,y,vs,r,ob,es,ep,e,c⟩:=x;exact⟨z,y,vs,r,ob,es,ep,k _ _ (.inl rfl) e,c⟩
 | dT kvs=>obtain⟨z,y,xs,r,ob,es,ep,e,c⟩:=x;exact⟨z,y,xs,Paired.nq r fun p q z=>⟨z.1,ht _ _ z.2.1,z.2.2⟩,ob,es,ep,k _ _ (.inl rfl) e,c⟩
 | set S n=>obtain⟨ob,es,ep,t,e,c⟩:=x;exact⟨ob,es,ep,t,k _ _ (.inl rfl) e,c⟩
 | ins C dx fs=>obtain⟨d,z,ne,e,mA,⟨od,es,ep,e2,c⟩,r⟩:=x;exact⟨ho _ d,z,ne,k _ _ (.inl rfl) e,mA,⟨od,es,ep,k _ _ (.inr d) e2,c⟩,r⟩
 | own y=>obtain⟨ob,e⟩:=x;exact⟨ob,k _ _ (.inl rfl) e⟩
 | xd fs=>obtain⟨mA,⟨od,es,ep,e,c⟩,r⟩:=x;exact⟨mA,⟨od,es,ep,k _ _ (.inl rfl) e,c⟩,r⟩
 | rng lo hi=>obtain⟨t,u,v,e⟩:=x;exact⟨t,u,v,k _ _ (.inl rfl) e⟩
 | b9 ob u ih=>obtain⟨e,q⟩:=x;exact⟨k _ _ (.inl rfl) e,ih q⟩
 | vq ps=>have e:h.get? a=some { cls:=.none,data:=.fields ps }:=x;show h'.get? a=some { cls:=.none,data:=.fields ps };exact k a _ (.inl rfl) e
 | met f y=>have e:h.get? a=some (PySem.W.methodObj (.ref f) (.ref y)):=x;show h'.get? a=some (PySem.W.methodObj (.ref f) (.ref y));exact k a _ (.inl rfl) e
 | ext φ=>obtain⟨p,⟨o,e⟩,st⟩:=x;exact⟨st _ _ p fun o q=>k _ _ (.inl rfl) q,⟨o,k _ _ (.inl rfl) e⟩,st⟩
theorem Z8.lt(x:Z8 P w H h)(e:H a=some o):a<h.objs.size:=(x a o e).lt
theorem Z8.fresh(x:Z8 P w H h)(e:h.objs.size<=a):H a=none:=by
 cases q:H a with
 | none=>rfl
 | some u=>exact absurd (Nat.lt_of_lt_of_le (x.lt q) e) (Nat.lt_irrefl _)
theorem Z8.kept(x:Z8 P w H h)(k:∀b u,h.get? b=some u->h'.get? b=some u):Z8 P w H h':=fun a o e=>(x a o e).stay (fun b u _ q=>k b u q) (fun _ q=>q) fun _ _ q=>q
theorem Z8.laid(x:Z8 P w H h)(k:∀b u,h.get? b=some u->h'.get? b=some u)(hp:h.objs.size<=a)(new:Y7 P w (DA H a o) h' a o):Z8 P w (DA H a o) h':=fun b u e=>by
 have hn:=x.fresh hp;by_cases hb:b=a
 · subst hb;rw[AB]at e;cases e;exact new
 · rw[CA hb]at e;exact(x b u e).stay (fun c v _ q=>k c v q) (fun c q=>by rw[CA (lC q hn)];exact q) fun c xs q=>by rw[CA (lC q hn)];exact q
end
noncomputable def Rd(H:Hp)(a:Addr)(u:HO):Prop:=H a=some u\/∃o,H a=some (.b9 o u)
theorem Rd.ok{P:Program}{w:World}{H:Hp}{h:Heap}{a:Addr}{u:HO}(r:Rd H a u)(x:Z8 P w H h):Y7 P w H h a u:=by
 rcases r with r | ⟨o,r⟩
 · exact x a u r
 · obtain⟨_,q⟩:=x a _ r;exact q
noncomputable def GO:Option HO->Prop
 | some (.lst _)=>True
 | some (.dK _)=>True
 | some (.dT _)=>True
 | some (.set _ _)=>True
 | some (.ins _ _ _)=>True
 | some (.ext _)=>True
 | _=>False
section
variable{P:Program}{w:World}{H:Hp}{h h':Heap}{x e:Addr}{o':HO}
theorem Z8.write(ok:Z8 P w H h)(mu:GO (H x))(he:e=x\/H e=some (.own x))(k:∀b u,b≠e->h.get? b=some u->h'.get? b=some u)(heo:∃u,h'.get? e=some u)
 (new:Y7 P w (DA H x o') h' x o'):Z8 P w (DA H x o') h':=fun b u q=>by
 have Uq:∀c y,H c=some (.own y)->c≠x:=fun c y r z=>by subst z;rw[r]at mu;exact mu
 have Kv:∀c xs,H c=some (.tup xs)->c≠x:=fun c xs r z=>by subst z;rw[r]at mu;exact mu
 by_cases hb:b=x
 · subst hb;rw[AB]at q;cases q;exact new
 · rw[CA hb]at q;by_cases hbe:b=e
   · have q':H b=some (.own x):=by
      rcases he with z | z
      · exact absurd (hbe.trans z) hb
      · rw[hbe];exact z
     rw[q]at q';cases q';obtain⟨v,hv⟩:=heo;exact⟨v,by rw[hbe];exact hv⟩
   · refine(ok b u q).stay (fun c v hc r=>k c v ?_ r) (fun c r=>by rw[CA (Uq c b r)];exact r) fun c xs r=>by rw[CA (Kv c xs r)];exact r
     rcases hc with rfl | hc
     · exact hbe
     · rintro rfl;rcases he with z | z
       · exact Uq c b hc z
       · rw[hc]at z;cases z;exact hb rfl
end
structure Un(fs ex:List Addr)(H H':Hp)(h h':Heap):Prop where
 keep:∀b o,h.get? b=some o->H b=none->b∉fs->b∉ex->h'.get? b=some o
 slot:∀b o,h.get? b=some o->H b=none->b∈fs->b∉ex->∃sl,h'.get? b=some { o with slots:=sl }
 free:∀b o,h.get? b=some o->H b=none->b∉ex->H' b=none
 there:∀b o,h.get? b=some o->b∉ex->∃o',h'.get? b=some o'
 tups:∀b xs,H b=some (.tup xs)->H' b=some (.tup xs)
 Y8:∀b o u,H b=some (.b9 o u)->H' b=some (.b9 o u)
 n9:∀b ps,H b=some (.vq ps)->∃more,H' b=some (.vq (ps++more))
section
variable{fs fs' ex ex':List Addr}{H H1 H2:Hp}{h h1 h2 h':Heap}{a x e:Addr}{o:HO}
theorem Un.any(u:Un fs ex H H1 h h1){b:Addr}{ob:Obj}(q:h.get? b=some ob)(n:H b=none)(hx:b∉ex):∃sl,h1.get? b=some { ob with slots:=sl }:=by
 by_cases hb:b∈fs
 · exact u.slot b ob q n hb hx
 · exact⟨ob.slots,u.keep b ob q n hb hx⟩
theorem Un.trans(a:Un fs ex H H1 h h1)(b:Un fs ex H1 H2 h1 h2):Un fs ex H H2 h h2 where
 keep:=fun c ob q n hc hx=>b.keep c ob (a.keep c ob q n hc hx) (a.free c ob q n hx) hc hx
 slot:=fun c ob q n hc hx=>by obtain⟨sl,e1⟩:=a.slot c ob q n hc hx;obtain⟨sl',e2⟩:=b.slot c _ e1 (a.free c ob q n hx) hc hx;exact⟨sl',e2⟩
 free:=fun c ob q n hx=>by obtain⟨o',e1⟩:=a.there c ob q hx;exact b.free c o' e1 (a.free c ob q n hx) hx
 there:=fun c ob q hx=>by obtain⟨o',e1⟩:=a.there c ob q hx;exact b.there c o' e1 hx
 tups:=fun c xs q=>b.tups c xs (a.tups c xs q)
 Y8:=fun c ob xs q=>b.Y8 c ob xs (a.Y8 c ob xs q)
 n9:=fun c ps q=>by obtain⟨m1,e1⟩:=a.n9 c ps q;obtain⟨m2,e2⟩:=b.n9 c _ e1;exact⟨m1++m2,by rw[e2,Array.append_assoc]⟩
theorem Un.kept(k:∀b u,h.get? b=some u->h'.get? b=some u):Un fs ex H H h h':=
 ⟨fun b ob q _ _ _=>k b ob q,fun b ob q _ _ _=>⟨ob.slots,k b ob q⟩,fun _ _ _ n _=>n,fun b ob q _=>⟨ob,k b ob q⟩,fun _ _ q=>q,fun _ _ _ q=>q,fun _ ps q=>⟨#[],by rw[q];simp⟩⟩
theorem Un.refl:Un fs ex H H h h:=Un.kept fun _ _ q=>q
theorem Un.laid(k:∀b u,h.get? b=some u->h'.get? b=some u)(hp:h.objs.size<=a)(hn:H a=none):Un fs ex H (DA H a o) h h' where
 keep:=fun b u q _ _ _=>k b u q
 slot:=fun b u q _ _ _=>⟨u.slots,k b u q⟩
 free:=fun b u q n _=>by rw[CA (Nat.ne_of_lt (Nat.lt_of_lt_of_le (Heap.lt_size q) hp))];exact n
 there:=fun b u q _=>⟨u,k b u q⟩
 tups:=fun b xs q=>by rw[CA (lC q hn)];exact q
 Y8:=fun b u xs q=>by rw[CA (lC q hn)];exact q
 n9:=fun b ps q=>⟨#[],by rw[CA (lC q hn),q];simp⟩
theorem Un.write(mu:GO (H x))(he:e=x\/H e=some (.own x))(k:∀b u,b≠e->h.get? b=some u->h'.get? b=some u)(heo:∃u,h'.get? e=some u):Un fs ex H (DA H x o) h h':=by
 have hx:∀b,H b=none->b≠x:=fun b n z=>by subst z;rw[n]at mu;exact mu
 have hb:∀b,H b=none->b≠e:=fun b n z=>by
  subst z;rcases he with r | r
  · exact hx b n r
  · rw[n]at r;cases r
 have hm:∀b u,H b=some u->¬GO (some u)->b≠x:=fun b u q nm z=>by subst z;rw[q]at mu;exact nm mu
 refine⟨fun b u q n _ _=>k b u (hb b n) q,fun b u q n _ _=>⟨u.slots,k b u (hb b n) q⟩,fun b u q n _=>by rw[CA (hx b n)];exact n,fun b u q _=>?_,
  fun b xs q=>by rw[CA (hm b _ q fun z=>z)];exact q,fun b u xs q=>by rw[CA (hm b _ q fun z=>z)];exact q,fun b ps q=>⟨#[],by rw[CA (hm b _ q fun z=>z),q];simp⟩⟩
 by_cases hbe:b=e
 · subst hbe;exact heo
 · exact⟨u,k b u hbe q⟩
theorem Un.mono(u:Un fs ex H H1 h h1)(hs:∀b∈fs,b∈fs')(hx:∀b∈ex,b∈ex'):Un fs' ex' H H1 h h1:=
 ⟨fun b ob q n hb he=>u.keep b ob q n (fun z=>hb (hs b z)) fun z=>he (hx b z),fun _ _ q n _ he=>u.any q n fun z=>he (hx _ z),fun b ob q n he=>u.free b ob q n fun z=>he (hx b z),fun b ob q he=>u.there b ob q fun z=>he (hx b z),u.tups,u.Y8,u.n9⟩
end
noncomputable def GS(h:Heap)(H:Hp):List Addr:=(List.range h.objs.size).filter fun a=>(H a).isSome
def IE(h:Heap)(H:Hp):Heap:=PySem.W.hideAll h (GS h H)
theorem sW(h:Heap)(H:Hp):(IE h H).objs.size=h.objs.size:=PySem.W.hideAll_size _ _
theorem aX{h:Heap}{H:Hp}{b:Addr}{o:Obj}(e:h.get? b=some o)(n:H b=none):(IE h H).get? b=some o:=
 PySem.W.hideAll_get _ e fun hm=>by have q:(H b).isSome=true:=(mem_filter.mp hm).2;rw[n]at q;simp at q
theorem JY{h:Heap}{H:Hp}{b:Addr}{o:Obj}(e:(IE h H).get? b=some o):h.get? b=some o/\H b=none:=by
 have e':h.get? b=some o:=PySem.W.of_hideAll (GS h H) e;refine⟨e',?_⟩;cases q:H b with
 | none=>rfl
 | some x=>have hm:b∈GS h H:=mem_filter.mpr ⟨mem_range.mpr (Heap.lt_size e'),by simp[q]⟩;have z:(IE h H).get? b=none:=PySem.W.hideAll_none (GS h H) hm;rw[z]at e;cases e
noncomputable def AX(g h:Heap)(L:Addr):List (Addr×Obj):=(List.range h.objs.size).filterMap fun a=>if a=L\/(g.get? a).isSome=true then none else(h.get? a).map fun o=>(a,o)
def rest(g h:Heap)(L d:Addr):List (Addr×Obj):=(AX g h L).filter fun p=>decide (p.1≠d)
structure Mod(K:Frag)(mg:Str->Option Value)(base:Heap):Prop where
 Uj:K.In base
 glob:base.Ns mainGlobals mg
 blt:∃mb,base.Ns builtinsNs mb/\∀x:Str,x ≠ "__name__" ->mb x=bootBuiltins x
 nolimit:base.NoLimit
structure Cx where
 prog:Program
 w:World
 K:Frag
 mg:Str->Option Value
 base:Heap
 A:Around
 N:List Str
 s₀:Shared
 H₀:Hp
 env:Env
 outer:List Env
 stack:List Env
 ex:List Addr
 fn:Str->Bool
 calm:Bool
 pn:List (Addr×Obj)
 xe:Value->Shared->Prop
noncomputable def GF(l:List Env):List Addr:=l.filterMap (·.frame)
abbrev Cx.fs(X:Cx):List Addr:=GF X.outer
noncomputable def RK(sc:Scope)(x:Str):Prop:=sc.names.lookup x=some .local\/sc.names.lookup x=some .cell\/sc.names.lookup x=some .free
noncomputable def YI(sc:Scope)(x:Str):Prop:=sc.names.lookup x=some .local\/sc.names.lookup x=some .cell
noncomputable def LS(env:Env)(h:Heap)(m:Str->Option Value)(x:Str)(u:Value):Prop:=
 (env.kindOf x=some .local/\m x=some u)\/((env.kindOf x=some .cell\/env.kindOf x=some .free)/\∃c,env.cells.lookup x=some c/\h.IsCell c (some u))
structure Cx.Ok(X:Cx):Prop where
 mod:Mod X.K X.mg X.base
 kind:X.env.scope.kind=.function
 glob:X.env.globals=mainGlobals
 blt:X.env.builtins=builtinsNs
 above:X.s₀.heap.objs.size<=X.env.locals
 inj:∀x y c,X.env.cells.lookup x=some c->X.env.cells.lookup y=some c->x=y
 has:∀x,(X.env.kindOf x=some .cell\/X.env.kindOf x=some .free)->∃c,X.env.cells.lookup x=some c
 cab:∀x c,X.fn x=true->X.env.cells.lookup x=some c->X.s₀.heap.objs.size<=c
 hd:X.calm=true->X.A.handled=none
 frames:X.A.frames=some X.stack
 stk:X.stack=X.outer\/(X.stack=X.env::X.outer/\X.env.frame=some X.env.locals)
 Gq:∀b∈X.ex,b≠X.env.locals/\∀x c,X.env.cells.lookup x=some c->c≠b
 bs:∀b o,X.base.get? b=some o->X.s₀.heap.get? b=some o/\X.H₀ b=none
 Mj:X.base.objs.size<=X.s₀.heap.objs.size
 nj:∀b o,X.base.get? b=some o->b∉X.ex
 mj:∀b∈X.ex,b∉X.fs
 q9:X.s₀.heap.FunFrames X.base X.outer
 Tj:∀b∈X.fs,X.H₀ b=none
structure Inv(X:Cx)(pins:List (Addr×Obj))(σ:List (Option V))(H:Hp)(s:Shared):Prop where
 ok:X.Ok
 os:s.os=X.s₀.os
 bare:AllBare s.gens
 base:Un X.fs X.ex X.H₀ H X.s₀.heap s.heap
 loc:∃m,s.heap.Ns X.env.locals m/\∀(i:Nat)(x:Str)(v:V),X.N[i]?=some x->σ[i]?=some (some v)->RK X.env.scope x->∃u,RelV v u/\LS X.env s.heap m x u
 cell:∀x c,X.env.cells.lookup x=some c->∃v,s.heap.IsCell c v
 free:H X.env.locals=none
 C8:∀x c,X.env.cells.lookup x=some c->H c=none
 pin:∀p∈X.pn++pins,s.heap.get? p.1=some p.2/\H p.1=none/\p.1≠X.env.locals/\p.1∉X.fs/\∀v,p.2.data≠.cell v
 hok:Z8 X.prog X.w H s.heap
 len:σ.length=X.N.length
section
variable{X:Cx}{pins:List (Addr×Obj)}{σ:List (Option V)}{H H':Hp}{s:Shared}{h':Heap}
theorem Cx.Ok.Iv(ok:X.Ok){b:Addr}{o:Obj}(e:X.base.get? b=some o):b∉X.fs:=fun hb=>by have:=(ok.q9.mem hb).1;rw[e]at this;cases this
theorem Inv.bs(I:Inv X pins σ H s):∀b o,X.base.get? b=some o->s.heap.get? b=some o/\H b=none:=fun b o e=>⟨I.base.keep b o (I.ok.bs b o e).1 (I.ok.bs b o e).2 (I.ok.Iv e) (I.ok.nj b o e),I.base.free b o (I.ok.bs b o e).1 (I.ok.bs b o e).2 (I.ok.nj b o e)⟩
theorem Inv.bk(I:Inv X pins σ H s):∀b o,X.base.get? b=some o->s.heap.get? b=some o:=fun b o e=>(I.bs b o e).1
theorem Inv.mod(I:Inv X pins σ H s):Mod X.K X.mg X.base:=I.ok.mod
theorem Inv.R8(I:Inv X pins σ H s):X.K.In s.heap:=I.ok.mod.Uj.keeps I.bk
theorem Inv.nolimit(I:Inv X pins σ H s):s.heap.NoLimit:=I.ok.mod.nolimit.keeps I.bk
theorem Inv.lt(I:Inv X pins σ H s):X.env.locals<s.heap.objs.size:=let ⟨_,hn,_⟩:=I.loc;hn.lt
theorem Inv.sz(I:Inv X pins σ H s):X.s₀.heap.objs.size<=s.heap.objs.size:=Nat.le_trans I.ok.above (Nat.le_of_lt I.lt)
theorem Inv.Jv(I:Inv X pins σ H s){a:Addr}(h:s.heap.objs.size<=a):a∉X.fs:=fun hb=>by obtain⟨_,o,ho,_⟩:=I.ok.q9.mem hb;exact absurd (Nat.lt_of_lt_of_le (Heap.lt_size ho) (Nat.le_trans I.sz h)) (Nat.lt_irrefl _)
theorem Inv.Nj(I:Inv X pins σ H s):∀x c,X.env.cells.lookup x=some c->c≠X.env.locals:=fun x c e z=>by obtain⟨v,o,ho,hd⟩:=I.cell x c e;obtain⟨m,⟨o',es,ep,ho',hd',_⟩,_⟩:=I.loc;rw[z,ho']at ho;cases ho;rw[hd']at hd;cases hd
theorem Inv.q9(I:Inv X pins σ H s):s.heap.FunFrames X.base X.outer:=by
 have all:∀(l:List Env),(∀b∈GF l,b∈X.fs)->X.s₀.heap.FunFrames X.base l->s.heap.FunFrames X.base l:=by
  intro l
  induction l with
  | nil=>intro _ _;trivial
  | cons env r ih=>
   intro hs hl;obtain⟨hk,⟨L,o,hf,hn,ho,hd⟩,hr⟩:=hl;have hL:L∈X.fs:=hs L (by unfold GF;rw[filterMap_cons,hf];exact mem_cons_self);obtain⟨sl,e⟩:=I.base.slot L o ho (I.ok.Tj L hL) hL fun z=>I.ok.mj L z hL
   exact⟨hk,⟨L,_,hf,hn,e,hd⟩,ih (fun b hb=>hs b (by unfold GF;rw[filterMap_cons,hf];exact mem_cons_of_mem _ hb)) hr⟩
 exact all X.outer (fun _ hb=>hb) I.ok.q9
theorem Inv.stack(I:Inv X pins σ H s):s.heap.FunFrames X.base X.stack:=by
 rcases I.ok.stk with e | ⟨e,hf⟩
 · rw[e];exact I.q9
 · rw[e];obtain⟨m,hn,_⟩:=I.loc;refine .cons (by rw[I.ok.kind];decide) hf hn ?_ I.q9;exact Heap.get?_none_of_le (Nat.le_trans I.ok.Mj I.ok.above)
theorem Inv.P9(I:Inv X pins σ H s):∀b∈GF X.stack,b∈X.env.locals::X.fs:=fun b hb=>by
 rcases I.ok.stk with e | ⟨e,hf⟩
 · rw[e]at hb;exact mem_cons_of_mem _ hb
 · rw[e]at hb;unfold GF at hb;rw[filterMap_cons,hf]at hb;exact hb
theorem Inv.O9(I:Inv X pins σ H s):∀b∈GF X.stack,H b=none:=fun b hb=>by
 rcases mem_cons.mp (I.P9 b hb)with e | hb
 · rw[e];exact I.free
 · obtain⟨_,o,ho,_⟩:=I.ok.q9.mem hb;exact I.base.free b o ho (I.ok.Tj b hb) fun z=>I.ok.mj b z hb
theorem Inv.step{g':Array GenState}{t':Nat}{d':Drawn}{ch:List Addr}(I:Inv X pins σ H s)
 (hch:∀b∈ch,(b∈X.ex\/X.s₀.heap.objs.size<=b)/\b≠X.env.locals/\(∀x c,X.env.cells.lookup x=some c->c≠b)/\∀p∈X.pn++pins,p.1≠b)
 (keep:∀b o,b≠X.env.locals->b∉X.fs->b∉ch->s.heap.get? b=some o->H b=none->h'.get? b=some o)
 (slot:∀b o,b≠X.env.locals->b∈X.fs->b∉ch->s.heap.get? b=some o->H b=none->∃sl,h'.get? b=some { o with slots:=sl }) (free:∀b o,b∉ch->s.heap.get? b=some o->H b=none->H' b=none)
 (there:∀b o,b∉ch->s.heap.get? b=some o->∃o',h'.get? b=some o')
 (tups:∀b xs,H b=some (.tup xs)->H' b=some (.tup xs)) (Y8:∀b o u,H b=some (.b9 o u)->H' b=some (.b9 o u)) (n9:∀b ps,H b=some (.vq ps)->∃more,H' b=some (.vq (ps++more)))
 (ns:∀m,s.heap.Ns X.env.locals m->h'.Ns X.env.locals m) (hok:Z8 X.prog X.w H' h') (hg:AllBare g') :
 Inv X pins σ H' { s with heap:=h',gens:=g',drawn:=d',toks:=t' }:=by
 have Rq:∀b o,X.s₀.heap.get? b=some o->b≠X.env.locals:=fun b o e=>Nat.ne_of_lt (Nat.lt_of_lt_of_le (Heap.lt_size e) I.ok.above)
 have Rz:∀b o,X.s₀.heap.get? b=some o->b∉X.ex->b∉ch:=fun b o e hx hb=>by
  rcases(hch b hb).1 with z | z
  · exact hx z
  · exact absurd (Nat.lt_of_lt_of_le (Heap.lt_size e) z) (Nat.lt_irrefl _)
 have cellK:∀x c,X.env.cells.lookup x=some c->∀v,s.heap.IsCell c v->h'.IsCell c v:=fun x c e v zz=>by
  obtain⟨o,ho,hd⟩:=zz;have Qq:c∉ch:=fun z=>(hch c z).2.2.1 x c e rfl
  by_cases hc:c∈X.fs
  · obtain⟨sl,q⟩:=slot c o (I.Nj x c e) hc Qq ho (I.C8 x c e);exact⟨_,q,hd⟩
  · exact⟨o,keep c o (I.Nj x c e) hc Qq ho (I.C8 x c e),hd⟩
 refine⟨I.ok,I.os,hg,⟨fun b o e n hb hx=>?_,fun b o e n hb hx=>?_,fun b o e n hx=>?_,fun b o e hx=>?_,fun b xs e=>tups b xs (I.base.tups b xs e),fun b o xs e=>Y8 b o xs (I.base.Y8 b o xs e),fun b ps e=>?_⟩,?_,fun x c e=>?_,?_,fun x c e=>?_,fun p hp=>?_,hok,I.len⟩
 · exact keep b o (Rq b o e) hb (Rz b o e hx) (I.base.keep b o e n hb hx) (I.base.free b o e n hx)
 · obtain⟨sl,e1⟩:=I.base.slot b o e n hb hx;obtain⟨sl',e2⟩:=slot b _ (Rq b o e) hb (Rz b o e hx) e1 (I.base.free b o e n hx);exact⟨sl',e2⟩
 · obtain⟨o',e1⟩:=I.base.there b o e hx;exact free b o' (Rz b o e hx) e1 (I.base.free b o e n hx)
 · obtain⟨o',e1⟩:=I.base.there b o e hx;exact there b o' (Rz b o e hx) e1
 · obtain⟨m1,e1⟩:=I.base.n9 b ps e;obtain⟨m2,e2⟩:=n9 b _ e1;exact⟨m1++m2,by rw[e2,Array.append_assoc]⟩
 · obtain⟨m,hn,hl⟩:=I.loc;refine⟨m,ns m hn,fun i x v e1 e2 e3=>?_⟩;obtain⟨u,r,l⟩:=hl i x v e1 e2 e3;refine⟨u,r,?_⟩;rcases l with l | ⟨k,c,e,z⟩
   · exact .inl l
   · exact .inr ⟨k,c,e,cellK x c e _ z⟩
 · obtain⟨v,z⟩:=I.cell x c e;exact⟨v,cellK x c e v z⟩
 · obtain⟨m,⟨o,_,_,ho,_⟩,_⟩:=I.loc;exact free _ o (fun z=>(hch _ z).2.1 rfl) ho I.free
 · obtain⟨v,o,ho,hd⟩:=I.cell x c e;exact free c o (fun z=>(hch c z).2.2.1 x c e rfl) ho (I.C8 x c e)
 · obtain⟨e,n,ne,nf,d⟩:=I.pin p hp;have Qq:p.1∉ch:=fun z=>(hch p.1 z).2.2.2 p hp rfl
   exact⟨keep p.1 p.2 ne nf Qq e n,free p.1 p.2 Qq e n,ne,nf,d⟩
theorem Inv.un{t':Nat}(I:Inv X pins σ H s)(u:Un X.fs [] H H' s.heap h')(hok:Z8 X.prog X.w H' h'):Inv X pins σ H' { s with heap:=h',toks:=t' }:=by
 obtain⟨m,⟨o,es,ep,ho,r⟩,_⟩:=id I.loc;obtain⟨sl,hL⟩:=u.any ho I.free (by simp);exact I.step (g':=s.gens) (d':=s.drawn) (ch:=[]) (fun _ z=>nomatch z) (fun b o _ hb _ e n=>u.keep b o e n hb (by simp)) (fun b o _ hb _ e n=>u.slot b o e n hb (by simp)) (fun b o _ e n=>u.free b o e n (by simp)) (fun b o _ e=>u.there b o e (by simp)) u.tups u.Y8 u.n9 (fun m' hm=>by
  obtain⟨o',es',ep',ho',r'⟩:=hm;rw[ho]at ho';cases ho';exact⟨_,es',ep',hL,r'⟩) hok I.bare
theorem Inv.call{g':Array GenState}{t':Nat}{d':Drawn}{ch:List Addr}(I:Inv X pins σ H s)(u:Un (GF X.stack) ch H H' s.heap h')(hok:Z8 X.prog X.w H' h')(hg:AllBare g')
 (hch:∀b∈ch,(b∈X.ex\/X.s₀.heap.objs.size<=b)/\b≠X.env.locals/\(∀x c,X.env.cells.lookup x=some c->c≠b)/\∀p∈X.pn++pins,p.1≠b) :
 Inv X pins σ H' { s with heap:=h',gens:=g',drawn:=d',toks:=t' }:=by
 obtain⟨m,⟨o,es,ep,ho,r⟩,_⟩:=id I.loc;obtain⟨sl,hL⟩:=u.any ho I.free fun z=>(hch _ z).2.1 rfl
 exact I.step (ch:=ch) hch (fun b o hL hb hc e n=>u.keep b o e n (fun z=>(mem_cons.mp (I.P9 b z)).elim hL hb) hc) (fun b o _ _ hc e n=>u.any e n hc) (fun b o hc e n=>u.free b o e n hc) (fun b o hc e=>u.there b o e hc) u.tups u.Y8 u.n9 (fun m' hm=>by
  obtain⟨o',es',ep',ho',r'⟩:=hm;rw[ho]at ho';cases ho';exact⟨_,es',ep',hL,r'⟩) hok hg
theorem Inv.turned{t':Nat}{it:Addr}(I:Inv X pins σ H s)(k:∀b o,b≠it->s.heap.get? b=some o->h'.get? b=some o)(hn:H it=none)(hL:it≠X.env.locals)
 (h1:it∈X.ex\/X.s₀.heap.objs.size<=it) (h2:∀x c,X.env.cells.lookup x=some c->c≠it) (h3:∀p∈X.pn++pins,p.1≠it):Inv X pins σ H { s with heap:=h',toks:=t' }:=by
 have Aw:∀b u,H b=some u->b≠it:=fun b u e z=>by rw[z,hn]at e;cases e
 refine I.step (g':=s.gens) (d':=s.drawn) (ch:=[it]) (fun b hb=>?_) (fun b o _ _ hc e _=>k b o (fun z=>hc (by simp[z])) e) (fun b o _ _ hc e _=>⟨o.slots,k b o (fun z=>hc (by simp[z])) e⟩) (fun _ _ _ _ n=>n)
  (fun b o hc e=>⟨o,k b o (fun z=>hc (by simp[z])) e⟩) (fun _ _ e=>e) (fun _ _ _ e=>e) (fun b ps e=>⟨#[],by rw[e];simp⟩) (fun m hm=>?_) (fun b u e=>?_) I.bare
 · have e:b=it:=by simpa using hb
   subst e;exact⟨h1,hL,h2,h3⟩
 · obtain⟨o,es,ep,ho,r⟩:=hm;exact⟨o,es,ep,k _ o (Ne.symm hL) ho,r⟩
 · refine(I.hok b u e).stay (fun c v hc q=>k c v ?_ q) (fun _ q=>q) fun _ _ q=>q
   rcases hc with z | z
   · rw[z];exact Aw b u e
   · exact Aw c _ z
theorem Inv.tok(I:Inv X pins σ H s)(t:Nat):Inv X pins σ H { s with toks:=t }:=I.un (h':=s.heap) (t':=t) Un.refl I.hok
theorem Inv.kept{t':Nat}(I:Inv X pins σ H s)(k:∀b u,s.heap.get? b=some u->h'.get? b=some u):Inv X pins σ H { s with heap:=h',toks:=t' }:=I.un (Un.kept k) (I.hok.kept k)
theorem Inv.laid{a:Addr}{o:HO}{t':Nat}(I:Inv X pins σ H s)(k:∀b u,s.heap.get? b=some u->h'.get? b=some u)(hp:s.heap.objs.size<=a)(new:Y7 X.prog X.w (DA H a o) h' a o) :
 Inv X pins σ (DA H a o) { s with heap:=h',toks:=t' }:=I.un (Un.laid k hp (I.hok.fresh hp)) (I.hok.laid k hp new)
theorem Inv.write{x e:Addr}{o:HO}{t':Nat}(I:Inv X pins σ H s)(mu:GO (H x))(he:e=x\/H e=some (.own x))(k:∀b u,b≠e->s.heap.get? b=some u->h'.get? b=some u)(heo:∃u,h'.get? e=some u)
 (new:Y7 X.prog X.w (DA H x o) h' x o):Inv X pins σ (DA H x o) { s with heap:=h',toks:=t' }:=I.un (Un.write mu he k heo) (I.hok.write mu he k heo new)
theorem Inv.cj{Dj:List (Addr×Obj)}(I:Inv X pins σ H s)(h:∀p∈Dj,s.heap.get? p.1=some p.2/\H p.1=none/\p.1≠X.env.locals/\p.1∉X.fs/\∀v,p.2.data≠.cell v):Inv X Dj σ H s:=
 ⟨I.ok,I.os,I.bare,I.base,I.loc,I.cell,I.free,I.C8,fun p hp=>(mem_append.mp hp).elim (fun z=>I.pin p (mem_append_left _ z)) (h p),I.hok,I.len⟩
theorem kN{N:List Str}(hN:N.Nodup){i j:Nat}{x:Str}(a:N[i]?=some x)(b:N[j]?=some x):i=j:=by obtain⟨h1,e1⟩:=Sy a;obtain⟨h2,e2⟩:=Sy b;exact(getElem_inj hN).mp (e1.trans e2.symm)
theorem fQ{M:Model}{A:Around}{E:Value->Shared->Prop}{i:Nat}{x:Str}{v:V}{u:Value}{Q:Unit->Shared->Prop}(I:Inv X pins σ H s)(hN:X.N.Nodup)(hi:X.N[i]?=some x)(hx:YI X.env.scope x)(r:RelV v u)
 (h:∀s',Inv X pins (σ.set i (some v)) H s'->(∃a,Heap.SameBut a s.heap s'.heap/\(a=X.env.locals\/X.env.cells.lookup x=some a))->Q () s') (hf:X.fn x=true\/X.env.scope.names.lookup x=some .local:=by first | exact .inl rfl | exact .inr rfl | assumption):wpAny M A (storeName X.env x u) Q E s:=by
 obtain⟨m,hn,hl⟩:=id I.loc;have hcls:(X.env.scope.kind==.class || (X.env.scope.kind==.module&&X.env.locals !=X.env.globals))=false:=by rw[I.ok.kind];rfl
 have gw:i<σ.length:=by rw[I.len];exact(Sy hi).1
 have Nj:=I.Nj;have tracked:∀{a:Addr}{h':Heap},(∃o,s.heap.get? a=some o/\H a=none)->Heap.SameBut a s.heap h'->Z8 X.prog X.w H h':=fun {a h'} ha hs b ob e=>by
  obtain⟨_,_,hfree⟩:=ha;refine(I.hok b ob e).stay (fun c w' hc q=>(hs.2 c ?_).trans q) (fun _ q=>q) fun _ _ q=>q
  rintro rfl;rcases hc with rfl | hc
  · rw[hfree]at e;cases e
  · rw[hfree]at hc;cases hc
 rcases hx with hk | hk
 · refine wpAny_storeName_local hk hn (fun h' hn' hs=>?_) hcls;obtain⟨oL,_,_,hoL,_⟩:=id hn;refine h _ ⟨I.ok,I.os,I.bare,⟨fun b o e n hb hx=>?_,fun b o e n hb hx=>?_,I.base.free,fun b o e hx=>?_,I.base.tups,I.base.Y8,I.base.n9⟩,⟨_,hn',fun j y v' e1 e2 e3=>?_⟩,fun y c e=>?_,I.free,I.C8,fun p hp=>?_,tracked ⟨oL,hoL,I.free⟩ hs,by simpa using I.len⟩ ⟨_,hs,.inl rfl⟩
   · exact(hs.2 b (Nat.ne_of_lt (Nat.lt_of_lt_of_le (Heap.lt_size e) I.ok.above))).trans (I.base.keep b o e n hb hx)
   · obtain⟨sl,e1⟩:=I.base.slot b o e n hb hx;exact⟨sl,(hs.2 b (Nat.ne_of_lt (Nat.lt_of_lt_of_le (Heap.lt_size e) I.ok.above))).trans e1⟩
   · obtain⟨o',e1⟩:=I.base.there b o e hx;exact⟨o',(hs.2 b (Nat.ne_of_lt (Nat.lt_of_lt_of_le (Heap.lt_size e) I.ok.above))).trans e1⟩
   · by_cases hj:j=i
     · subst hj;rw[hi]at e1;cases e1;rw[getElem?_set_self gw]at e2;cases e2;exact⟨u,r,.inl ⟨hk,by simp⟩⟩
     · rw[getElem?_set_ne (Ne.symm hj)]at e2;obtain⟨u',r',q⟩:=hl j y v' e1 e2 e3;refine⟨u',r',?_⟩;rcases q with⟨k,e⟩ | ⟨k,c,e,z⟩
       · refine .inl ⟨k,?_⟩;have:y≠x:=fun e=>hj (kN hN e1 (e ▸ hi))
         simp[this,e]
       · exact .inr ⟨k,c,e,z.sameBut hs (Nj y c e)⟩
   · obtain⟨w',z⟩:=I.cell y c e;exact⟨w',z.sameBut hs (Nj y c e)⟩
   · obtain⟨e,n,ne,nf,d⟩:=I.pin p hp;exact⟨(hs.2 p.1 ne).trans e,n,ne,nf,d⟩
 · have hfn:X.fn x=true:=by
    rcases hf with z | z
    · exact z
    · rw[z]at hk;cases hk
   obtain⟨c,hc⟩:=I.ok.has x (.inl hk);obtain⟨w',z⟩:=I.cell x c hc;refine wpAny_storeName_cell I.ok.kind hk hc z (fun h' hc' hs=>?_);obtain⟨oc,hoc,Fv⟩:=id z;refine h { s with heap:=h' } ⟨I.ok,I.os,I.bare,⟨fun b o e n hb hx=>?_,fun b o e n hb hx=>?_,I.base.free,fun b o e hx=>?_,I.base.tups,I.base.Y8,I.base.n9⟩,⟨m,hn.sameBut hs (Ne.symm (Nj x c hc)),fun j y v' e1 e2 e3=>?_⟩,fun y c' e=>?_,I.free,I.C8,fun p hp=>?_,tracked ⟨oc,hoc,I.C8 x c hc⟩ hs,by simpa using I.len⟩ ⟨c,hs,.inr hc⟩
   · exact(hs.2 b (Nat.ne_of_lt (Nat.lt_of_lt_of_le (Heap.lt_size e) (I.ok.cab x c hfn hc)))).trans (I.base.keep b o e n hb hx)
   · obtain⟨sl,e1⟩:=I.base.slot b o e n hb hx;exact⟨sl,(hs.2 b (Nat.ne_of_lt (Nat.lt_of_lt_of_le (Heap.lt_size e) (I.ok.cab x c hfn hc)))).trans e1⟩
   · obtain⟨o',e1⟩:=I.base.there b o e hx;exact⟨o',(hs.2 b (Nat.ne_of_lt (Nat.lt_of_lt_of_le (Heap.lt_size e) (I.ok.cab x c hfn hc)))).trans e1⟩
   · by_cases hj:j=i
     · subst hj;rw[hi]at e1;cases e1;rw[getElem?_set_self gw]at e2;cases e2;exact⟨u,r,.inr ⟨.inl hk,c,hc,hc'⟩⟩
     · rw[getElem?_set_ne (Ne.symm hj)]at e2;obtain⟨u',r',q⟩:=hl j y v' e1 e2 e3;refine⟨u',r',?_⟩;rcases q with q | ⟨k,c',e,z'⟩
       · exact .inl q
       · refine .inr ⟨k,c',e,z'.sameBut hs ?_⟩;rintro rfl;exact hj (kN hN e1 (I.ok.inj _ _ _ e hc ▸ hi))
   · by_cases hcc:c'=c
     · subst hcc;exact⟨_,hc'⟩
     · obtain⟨w2,z2⟩:=I.cell y c' e;exact⟨w2,z2.sameBut hs hcc⟩
   · obtain⟨e,n,ne,nf,d⟩:=I.pin p hp;refine⟨(hs.2 p.1 ?_).trans e,n,ne,nf,d⟩;intro q;rw[q,hoc]at e;have q':oc=p.2:=Option.some.inj e;exact d w' (by rw[<- q'];exact Fv)
theorem QJ{M:Model}{A:Around}{E:Value->Shared->Prop}{i:Nat}{x:Str}{v:V}{u:Value}{Q:Unit->Shared->Prop}(I:Inv X pins σ H s)(hN:X.N.Nodup)(hi:X.N[i]?=some x)(hx:YI X.env.scope x)(r:RelV v u)
 (h:∀s',Inv X pins (σ.set i (some v)) H s'->Q () s') (hf:X.fn x=true\/X.env.scope.names.lookup x=some .local:=by first | exact .inl rfl | exact .inr rfl | assumption):wpAny M A (storeName X.env x u) Q E s:=
 fQ I hN hi hx r (fun s' I' _=>h s' I') hf
theorem Inv.call'{s':Shared}{ch:List Addr}(I:Inv X pins σ H s)(ho:s'.os=s.os)(u:Un (GF X.stack) ch H H' s.heap s'.heap)(hok:Z8 X.prog X.w H' s'.heap)(hg:AllBare s'.gens)
 (hch:∀b∈ch,(b∈X.ex\/X.s₀.heap.objs.size<=b)/\b≠X.env.locals/\(∀x c,X.env.cells.lookup x=some c->c≠b)/\∀p∈X.pn++pins,p.1≠b):Inv X pins σ H' s':=by
 obtain⟨h',g',d',t',o'⟩:=s';have e:o'=s.os:=ho;subst e;exact I.call (g':=g') (t':=t') (d':=d') u hok hg hch
end
abbrev XK:=Value->Option Addr->Hp->Prop
noncomputable abbrev St:=List (Option V)
abbrev VK:=V->Hp->Prop
abbrev TE:=St->Hp->VK->Prop
abbrev TT:=St->Hp->(Bool->Hp->Prop)->Prop
abbrev TA:=St->Hp->(List V->Hp->Prop)->Prop
structure HE where
 nx:St->Hp->Prop
 rt:VK
 bk:St->Hp->Prop:=fun _ _=>False
 ct:St->Hp->Prop:=fun _ _=>False
abbrev TS:=HE->St->Hp->Prop
def EP(X:Cx)(pins:List (Addr×Obj))(σ:St)(Q:VK)(u:Value)(s':Shared):Prop:=∃v H',Inv X pins σ H' s'/\RelV v u/\Q v H'
noncomputable def TP(X:Cx)(pins:List (Addr×Obj))(σ:St)(Q:Bool->Hp->Prop)(b:Bool)(s':Shared):Prop:=∃H',Inv X pins σ H' s'/\Q b H'
def AP(X:Cx)(pins:List (Addr×Obj))(σ:St)(Q:List V->Hp->Prop)(us:List Value)(s':Shared):Prop:=∃vs H',Inv X pins σ H' s'/\Vals vs us/\Q vs H'
def SP(X:Cx)(pins:List (Addr×Obj))(D:HE)(f:Flow)(s':Shared):Prop:=
 match f with
 | .next=>∃σ' H',Inv X pins σ' H' s'/\D.nx σ' H'
 | .brk=>∃σ' H',Inv X pins σ' H' s'/\D.bk σ' H'
 | .cont=>∃σ' H',Inv X pins σ' H' s'/\D.ct σ' H'
 | .ret u=>∃v σ' H',Inv X pins σ' H' s'/\RelV v u/\D.rt v H'
def PE(X:Cx)(e:Expr)(t:TE):Prop:=
 ∀(pins:List (Addr×Obj))(s:Shared)(σ:St)(H:Hp)(Q:VK),Inv X pins σ H s->t σ H Q->wpAny (model X.prog X.w) X.A (eval e X.env) (EP X pins σ Q) X.xe s
def PT(X:Cx)(e:Expr)(t:TT):Prop:=
 ∀(pins:List (Addr×Obj))(s:Shared)(σ:St)(H:Hp)(Q:Bool->Hp->Prop),Inv X pins σ H s->t σ H Q->wpAny (model X.prog X.w) X.A (isTrue e X.env (eval e X.env)) (TP X pins σ Q) X.xe s
def PW(X:Cx)(e:Expr)(t:TT):Prop:=
 ∀(whole:Sem Value)(pins:List (Addr×Obj))(s:Shared)(σ:St)(H:Hp)(Q:Bool->Hp->Prop),Inv X pins σ H s->t σ H Q->wpAny (model X.prog X.w) X.A (isTrue e X.env whole) (TP X pins σ Q) X.xe s
theorem PW.pt{X:Cx}{e:Expr}{t:TT}(h:PW X e t):PT X e t:=h _
def PA(X:Cx)(es:List Expr)(t:TA):Prop:=
 ∀(pos:Pos)(pins:List (Addr×Obj))(s:Shared)(σ:St)(H:Hp)(Q:List V->Hp->Prop),Inv X pins σ H s->t σ H Q->wpAny (model X.prog X.w) X.A (spliced (backTo pos (starEach es X.env))) (AP X pins σ Q) X.xe s
def PS(X:Cx)(st:Stmt)(t:TS):Prop:=
 ∀(pins:List (Addr×Obj))(s:Shared)(σ:St)(H:Hp)(D:HE),Inv X pins σ H s->t D σ H->wpAny (model X.prog X.w) X.A (exec st X.env) (SP X pins D) X.xe s
def F9(X:Cx)(st:List Stmt)(t:TS):Prop:=
 ∀(pins:List (Addr×Obj))(s:Shared)(σ:St)(H:Hp)(D:HE),Inv X pins σ H s->t D σ H->wpAny (model X.prog X.w) X.A (execs st X.env) (SP X pins D) X.xe s
theorem IA{α:Type}{t:Sem α}{Q Q':α->Shared->Prop}{M:Model}{A:Around}{E:Value->Shared->Prop}{s:Shared}(h:wpAny M A t Q E s)(hQ:∀a s,Q a s->Q' a s):wpAny M A t Q' E s:=wpAny_mono h hQ fun _ _ x=>x
section
variable{X:Cx}
theorem D7{a b:Expr}{ta tb:TE}(ha:PE X a ta)(hb:PE X b tb){pins:List (Addr×Obj)}{s:Shared}{σ:St}{H:Hp}{R:V->V->Hp->Prop}(I:Inv X pins σ H s)(h:ta σ H fun x H1=>tb σ H1 fun y H2=>R x y H2)
 {α:Type} {Q:α->Shared->Prop} {f:Value->Value->Sem α}
 (hf:∀v u s2 x y H2,Inv X pins σ H2 s2->RelV x v->RelV y u->R x y H2->wpAny (model X.prog X.w) X.A (f v u) Q X.xe s2) :
 wpAny (model X.prog X.w) X.A (eval a X.env) (fun v s₁=>wpAny (model X.prog X.w) X.A (eval b X.env) (fun u s₂=>wpAny (model X.prog X.w) X.A (f v u) Q X.xe s₂) X.xe s₁) X.xe s:=by
 refine IA (ha pins s σ H _ I h) fun v s1 zz=>?_
 obtain⟨x,H1,I1,r1,q1⟩:=zz;refine IA (hb pins s1 σ H1 _ I1 q1) fun u s2 zz=>?_
 obtain⟨y,H2,I2,r2,q2⟩:=zz;exact hf v u s2 x y H2 I2 r1 r2 q2
noncomputable def iJ(i:Nat):TE:=fun σ H Q=>∃v,σ[i]?=some (some v)/\Q v H
noncomputable def tC(v:V):TE:=fun _ H Q=>Q v H
theorem xK {i:Nat} {x:Str} {pos:Pos} (hN:X.N[i]?=some x) (hv:RK X.env.scope x) (hd:(x==("__debug__" :Str))=false:=by decide) (hcd:(x==("__classdict__" :Str))=false:=by decide):PE X (.Name x pos) (iJ i):=by
 intro pins s σ H Q I h;obtain⟨v,e,h⟩:=h;obtain⟨m,hn,hl⟩:=I.loc;obtain⟨u,r,l⟩:=hl i x v hN e hv;have fin:EP X pins σ Q u s:=⟨v,H,I,r,h⟩;rcases l with⟨hk,hm⟩ | ⟨hk,c,hc,hcell⟩
 · exact wpAny_Name (wpAny_loadName_local I.ok.kind hk hn hm fin) hd
 · rcases hk with hk | hk
   · exact wpAny_Name (wpAny_loadName_cell I.ok.kind hk hc hcell fin) hd
   · exact wpAny_Name (wpAny_loadName_free I.ok.kind hk hc hcell fin hcd) hd
theorem W3{i j pos}:PE X (.Constant (.int i) j pos) (tC (.int i)):=fun _ _ _ H _ I h=>wpAny_Constant_int ⟨.int i,H,I.tok _,⟨_,rfl⟩,h⟩
theorem Z5{b j pos}:PE X (.Constant (.bool b) j pos) (tC (.bl b)):=fun _ _ _ H _ I h=>Constant_bool ⟨.bl b,H,I,rfl,h⟩
theorem X3{j pos}:PE X (.Constant .none j pos) (tC .non):=fun _ _ _ H _ I h=>Constant_none ⟨.non,H,I,rfl,h⟩
theorem j4{x j pos}:PE X (.Constant (.str x) j pos) (tC (.str x)):=fun _ _ _ H _ I h=>Calls.Constant_str ⟨.str x,H,I.tok _,⟨_,rfl⟩,h⟩
noncomputable def Gl(X:Cx)(x:Str):Prop:=X.env.kindOf x=some .globalImplicit
theorem uF{E:Value->Shared->Prop}{pins:List (Addr×Obj)}{s:Shared}{σ:St}{H:Hp}{x:Str}{u:Value}{pos:Pos}{Q:Value->Shared->Prop}(I:Inv X pins σ H s)(hg:Gl X x)(hm:X.mg x=some u)(h:Q u s)
 (hd:(x==("__debug__" :Str))=false:=by decide):wpAny (model X.prog X.w) X.A (eval (.Name x pos) X.env) Q E s:=
 Calls.Name_function_global I.ok.kind hg (Calls.loadGlobal_global (by rw[I.ok.glob];exact I.mod.glob.keeps I.bk) hm h) hd
theorem lH{E:Value->Shared->Prop}{pins:List (Addr×Obj)}{s:Shared}{σ:St}{H:Hp}{x:Str}{u:Value}{pos:Pos}{Q:Value->Shared->Prop}(I:Inv X pins σ H s)(hg:Gl X x)(hm:X.mg x=none)(hv:bootBuiltins x=some u)(h:Q u s)
 (hn:x ≠ "__name__" :=by decide) (hd:(x==("__debug__" :Str))=false:=by decide):wpAny (model X.prog X.w) X.A (eval (.Name x pos) X.env) Q E s:=by
 obtain⟨mb,h1,h2⟩:=I.mod.blt;exact Calls.Name_function_global I.ok.kind hg (Calls.loadGlobal_builtin (by rw[I.ok.glob];exact I.mod.glob.keeps I.bk) hm (by rw[I.ok.blt];exact h1.keeps I.bk) ((h2 x hn).trans hv) h) hd
theorem RY {x:Str} {v:V} {u:Value} {pos:Pos} (hg:Gl X x) (hm:X.mg x=some u) (r:RelV v u) (hd:(x==("__debug__" :Str))=false:=by decide):PE X (.Name x pos) (tC v):=
 fun _ _ _ H _ I h=>uF I hg hm ⟨v,H,I,r,h⟩ hd
theorem RQ {x:Str} {v:V} {u:Value} {pos:Pos} (hg:Gl X x) (hm:X.mg x=none) (hv:bootBuiltins x=some u) (r:RelV v u) (hn:x ≠ "__name__" :=by decide) (hd:(x==("__debug__" :Str))=false:=by decide):PE X (.Name x pos) (tC v):=
 fun _ _ _ H _ I h=>lH I hg hm hv ⟨v,H,I,r,h⟩ hn hd
variable{a b:Expr}{ta tb:TE}{pos:Pos}
def PC(X:Cx)(op:CmpOp)(a b:Expr)(t:TE):Prop:=
 ∀(pins:List (Addr×Obj))(s:Shared)(σ:St)(H:Hp)(Q:VK),Inv X pins σ H s->t σ H Q->
  wpAny (model X.prog X.w) X.A (eval a X.env) (fun v s₁=>wpAny (model X.prog X.w) X.A (eval b X.env) (fun u s₂=>wpAny (model X.prog X.w) X.A (compareOp op v u) (EP X pins σ Q) X.xe s₂) X.xe s₁) X.xe s
theorem JW(b:Expr){op:CmpOp}(h:op≠.In)(h2:op≠.NotIn):behindInMarks op b=false:=by
 have e1:(op==CmpOp.In)=false:=by cases op<;>first | rfl | exact absurd rfl h
 have e2:(op==CmpOp.NotIn)=false:=by cases op<;>first | rfl | exact absurd rfl h2
 cases b<;>simp[behindInMarks,e1,e2]
noncomputable def tB(t:TE):TT:=fun σ H Q=>t σ H fun x H1=>∃c,x=.bl c/\Q c H1
theorem BR{op:CmpOp}{t:TE}(h:PC X op a b t)(h1:behindInMarks op b=false:=by first | exact JW _ (by decide) (by decide) | rfl):PT X (.Compare a [op] [b] pos) (tB t):=by intro pins s σ H Q I hw;refine wpAny_isTrue_Compare1 (IA (h pins s σ H _ I hw) fun v s1 h1=>IA h1 fun u s2 h2=>IA h2 fun c s3 zz=>?_) h1;obtain⟨x,H1,I1,r1,q1⟩:=zz;obtain⟨d,rfl,q⟩:=q1;cases r1;exact wpAny_truthy_bool ⟨H1,I1,q⟩
theorem F4{e:Expr}{t:TE}(h:PE X e t)(he:∀whole,isTrue e X.env whole=(do let v <- whole;standAt e.pos;holding [v] (truthy v)):=by intro _;rfl):PT X e (tB t):=by intro pins s σ H Q I hw;refine isTrue_plain (IA (h pins s σ H _ I hw) fun v s1 zz=>?_) (he _);obtain⟨x,H1,I1,r1,q1⟩:=zz;obtain⟨d,rfl,q⟩:=q1;cases r1;exact wpAny_truthy_bool ⟨H1,I1,q⟩
variable{tA b8:TT}{rest:List Expr}
noncomputable def lT(t u:TT):TT:=fun σ H Q=>t σ H fun c H1=>if c=true then u σ H1 Q else Q false H1
noncomputable def W6(t u:TT):TT:=fun σ H Q=>t σ H fun c H1=>if c=true then Q true H1 else u σ H1 Q
noncomputable def tT(t:TT):TT:=fun σ H Q=>t σ H fun c H1=>Q (!c) H1
theorem tY(ha:PT X a tA):PW X (.BoolOp .And [a] pos) tA:=by
 intro wh pins s σ H Q I h;refine isTrue_and (IA (ha pins s σ H Q I h) fun c s1 e=>?_);cases c with
 | true=>exact isTrue_and_nil e
 | false=>exact e
theorem K4(ha:PT X a tA):PW X (.BoolOp .Or [a] pos) tA:=by
 intro wh pins s σ H Q I h;refine isTrue_or (IA (ha pins s σ H Q I h) fun c s1 e=>?_);cases c with
 | false=>exact isTrue_or_nil e
 | true=>exact e
theorem J4(ha:PT X a tA)(hb:PW X (.BoolOp .And (b::rest) pos) b8):PW X (.BoolOp .And (a::b::rest) pos) (lT tA b8):=by
 intro wh pins s σ H Q I h;refine isTrue_and (IA (ha pins s σ H _ I h) fun c s1 zz=>?_);obtain⟨H1,I1,q1⟩:=zz;cases c with
 | true=>exact hb wh pins s1 σ H1 Q I1 q1
 | false=>exact⟨H1,I1,q1⟩
theorem i6(ha:PT X a tA)(hb:PW X (.BoolOp .Or (b::rest) pos) b8):PW X (.BoolOp .Or (a::b::rest) pos) (W6 tA b8):=by
 intro wh pins s σ H Q I h;refine isTrue_or (IA (ha pins s σ H _ I h) fun c s1 zz=>?_);obtain⟨H1,I1,q1⟩:=zz;cases c with
 | true=>exact⟨H1,I1,q1⟩
 | false=>exact hb wh pins s1 σ H1 Q I1 q1
theorem D4(ha:PT X a tA):PT X (.UnaryOp .Not a pos) (tT tA):=by intro pins s σ H Q I h;exact isTrue_not (ha pins s σ H (fun c H1=>Q (!c) H1) I h)
noncomputable def V4(ta tb:TE):TE:=fun σ H Q=>ta σ H fun x H1=>∃c,x=.bl c/\if c=true then tb σ H1 Q else Q (.bl false) H1
noncomputable def uT(ta tb:TE):TE:=fun σ H Q=>ta σ H fun x H1=>∃c,x=.bl c/\if c=true then Q (.bl true) H1 else tb σ H1 Q
noncomputable def l5(ta:TE):TE:=fun σ H Q=>ta σ H fun x H1=>∃c,x=.bl c/\Q (.bl (!c)) H1
theorem Z3{op}{t:TE}(h:PE X a t):PE X (.BoolOp op [a] pos) t:=fun pins s σ H Q I hw=>BoolOp_one (h pins s σ H Q I hw)
theorem U3(ha:PE X a ta)(hb:PE X (.BoolOp .And (b::rest) pos) tb):PE X (.BoolOp .And (a::b::rest) pos) (V4 ta tb):=by
 intro pins s σ H Q I h;refine BoolOp_and (IA (ha pins s σ H _ I h) fun v s1 zz=>?_);obtain⟨x,H1,I1,r1,q1⟩:=zz;obtain⟨c,rfl,q1⟩:=q1;cases r1;refine wpAny_truthy_bool ?_;cases c with
 | true=>exact hb pins s1 σ H1 Q I1 q1
 | false=>exact⟨.bl false,H1,I1,rfl,q1⟩
theorem f6(ha:PE X a ta)(hb:PE X (.BoolOp .Or (b::rest) pos) tb):PE X (.BoolOp .Or (a::b::rest) pos) (uT ta tb):=by
 intro pins s σ H Q I h;refine BoolOp_or (IA (ha pins s σ H _ I h) fun v s1 zz=>?_);obtain⟨x,H1,I1,r1,q1⟩:=zz;obtain⟨c,rfl,q1⟩:=q1;cases r1;refine wpAny_truthy_bool ?_;cases c with
 | false=>exact hb pins s1 σ H1 Q I1 q1
 | true=>exact⟨.bl true,H1,I1,rfl,q1⟩
theorem Y3(ha:PE X a ta):PE X (.UnaryOp .Not a pos) (l5 ta):=by intro pins s σ H Q I h;refine UnaryOp_ (IA (ha pins s σ H _ I h) fun v s1 zz=>?_);obtain⟨x,H1,I1,r1,q1⟩:=zz;obtain⟨c,rfl,q1⟩:=q1;cases r1;exact not_of (wpAny_truthy_bool ⟨.bl (!c),H1,I1,rfl,q1⟩)
noncomputable def U6(t:TT)(ta tb:TE):TE:=fun σ H Q=>t σ H fun c H1=>if c=true then ta σ H1 Q else tb σ H1 Q
theorem bY{c:Expr}(hc:PT X c tA)(ha:PE X a ta)(hb:PE X b tb):PE X (.IfExp c a b pos) (U6 tA ta tb):=by
 intro pins s σ H Q I h;refine wpAny_IfExp (IA (hc pins s σ H _ I h) fun d s1 zz=>?_);obtain⟨H1,I1,q1⟩:=zz;cases d with
 | true=>exact ha pins s1 σ H1 Q I1 q1
 | false=>exact hb pins s1 σ H1 Q I1 q1
end
def N8(K:Frag)(H:Hp)(a:Addr)(xs:List V):Prop:=
 Rd H a (.lst xs)\/
  ∃(o:Obj) (its:Array Value) (n:Nat),K.lookup a=some o/\o.cls=.type "list" /\ o.dict=none/\o.data=.seq its n/\its.size<=sizeLine/\Vals xs its.toList
def CH(K:Frag)(H:Hp)(a:Addr)(xs:List V):Prop:=
 Rd H a (.tup xs)\/
  ∃(o:Obj) (its:Array Value) (n:Nat),K.lookup a=some o/\o.cls=.type "tuple" /\ o.data=.seq its n/\its.size<=sizeLine/\Vals xs its.toList
noncomputable def OS:Value->Option V
 | .none=>some .non
 | .bool b=>some (.bl b)
 | .int i _=>some (.int i)
 | .str x _=>some (.str x)
 | .bytes b _=>some (.kj b)
 | .float b _=>some (.flt b)
 | .ref a=>some (.ref a)
 | .type n=>some (.ty n)
 | _=>none
theorem RelV.abs{x:V}{u:Value}(r:RelV x u):OS u=some x:=by
 cases x with
 | non=>cases r;rfl
 | bl _=>cases r;rfl
 | int _=>obtain⟨t,rfl⟩:=r;rfl
 | str _=>obtain⟨t,rfl⟩:=r;rfl
 | kj _=>obtain⟨t,rfl⟩:=r;rfl
 | flt _=>obtain⟨t,rfl⟩:=r;rfl
 | ref _=>cases r;rfl
 | ty _=>cases r;rfl
theorem RelV.inj{x y:V}{u:Value}(r:RelV x u)(q:RelV y u):x=y:=Option.some.inj (r.abs.symm.trans q.abs)
theorem Vals.inj:∀{xs ys:List V}{us:List Value},Vals xs us->Vals ys us->xs=ys
 | _,_,_,.nil,.nil=>rfl
 | _,_,_,.cons r t,.cons r' t'=>by rw[r.inj r',Vals.inj t t']
section
variable{X:Cx}{pins:List (Addr×Obj)}{σ:St}{H:Hp}{s:Shared}{a:Addr}{xs ys:List V}
theorem N8.of{K:Frag}(h:H a=some (.lst xs)):N8 K H a xs:=.inl (.inl h)
theorem Inv.list(I:Inv X pins σ H s)(h:N8 X.K H a xs):∃its:List Value,Vals xs its/\PlainL s.heap a its.toArray/\xs.length<=sizeLine:=by
 rcases h with h | ⟨o,its,n,hk,hc,hd,hs,hz,r⟩
 · obtain⟨z,its,n,r,e⟩:=h.ok I.hok;exact⟨its,r,⟨_,n,e,rfl,rfl,rfl⟩,z⟩
 · refine⟨its.toList,r,⟨o,n,I.R8 a o hk,hc,hd,by simpa using hs⟩,?_⟩;have e:=r.length;simp only[Array.length_toList]at e;omega
theorem Inv.tuple(I:Inv X pins σ H s)(h:CH X.K H a xs):∃its:List Value,Vals xs its/\IsTup s.heap a its.toArray/\xs.length<=sizeLine:=by
 rcases h with h | ⟨o,its,n,hk,hc,hs,hz,r⟩
 · obtain⟨z,its,r,p⟩:=h.ok I.hok;exact⟨its,r,p,z⟩
 · refine⟨its.toList,r,⟨o,I.R8 a o hk,hc,n,by simpa using hs⟩,?_⟩;have e:=r.length;simp only[Array.length_toList]at e;omega
theorem Inv.D9(I:Inv X pins σ H s)(h:N8 X.K H a xs)(h':N8 X.K H a ys):xs=ys:=by
 obtain⟨its,r,⟨o,n,e,_,_,d⟩,_⟩:=I.list h;obtain⟨its',r',⟨o',n',e',_,_,d'⟩,_⟩:=I.list h';rw[e]at e';cases e';rw[d]at d';injection d' with d1 _
 have:its=its':=by simpa using congrArg Array.toList d1
 subst this;exact r.inj r'
theorem Inv.qj(I:Inv X pins σ H s)(h:CH X.K H a xs)(h':CH X.K H a ys):xs=ys:=by
 obtain⟨its,r,⟨o,e,_,n,d⟩,_⟩:=I.tuple h;obtain⟨its',r',⟨o',e',_,n',d'⟩,_⟩:=I.tuple h';rw[e]at e';cases e';rw[d]at d';injection d' with d1 _
 have:its=its':=by simpa using congrArg Array.toList d1
 subst this;exact r.inj r'
end
noncomputable abbrev Cx.wish(X:Cx)(E:Value->Shared->Prop):Cx:={ X with xe:=E }
abbrev Cx.Y9(X:Cx):Cx:=X.wish fun _ _=>False
theorem Cx.Ok.wish{X:Cx}(ok:X.Ok)(E:Value->Shared->Prop):(X.wish E).Ok:=
 ⟨ok.mod,ok.kind,ok.glob,ok.blt,ok.above,ok.inj,ok.has,ok.cab,ok.hd,ok.frames,ok.stk,ok.Gq,ok.bs,ok.Mj,ok.nj,ok.mj,ok.q9,ok.Tj⟩
theorem Cx.Ok.k8{X:Cx}{E:Value->Shared->Prop}(ok:(X.wish E).Ok):X.Ok:=
 ⟨ok.mod,ok.kind,ok.glob,ok.blt,ok.above,ok.inj,ok.has,ok.cab,ok.hd,ok.frames,ok.stk,ok.Gq,ok.bs,ok.Mj,ok.nj,ok.mj,ok.q9,ok.Tj⟩
section
variable{X:Cx}{pins:List (Addr×Obj)}{σ:St}{H:Hp}{s:Shared}{E:Value->Shared->Prop}
theorem Inv.wish(I:Inv X pins σ H s)(E:Value->Shared->Prop):Inv (X.wish E) pins σ H s:=⟨I.ok.wish E,I.os,I.bare,I.base,I.loc,I.cell,I.free,I.C8,I.pin,I.hok,I.len⟩
theorem Inv.k8(I:Inv (X.wish E) pins σ H s):Inv X pins σ H s:=⟨I.ok.k8,I.os,I.bare,I.base,I.loc,I.cell,I.free,I.C8,I.pin,I.hok,I.len⟩
theorem SP.k8{D:HE}{f:Flow}{s':Shared}(h:SP (X.wish E) pins D f s'):SP X pins D f s':=by
 cases f with
 | next=>obtain⟨σ',H',I,q⟩:=h;exact⟨σ',H',I.k8,q⟩
 | brk=>obtain⟨σ',H',I,q⟩:=h;exact⟨σ',H',I.k8,q⟩
 | cont=>obtain⟨σ',H',I,q⟩:=h;exact⟨σ',H',I.k8,q⟩
 | ret u=>obtain⟨v,σ',H',I,r,q⟩:=h;exact⟨v,σ',H',I.k8,r,q⟩
theorem F9.Y9{st:List Stmt}{t:TS}(h:F9 X.Y9 st t):F9 X st t:=fun pins s σ H D I hw=>wpAny_mono (h pins s σ H D (I.wish _) hw) (fun _ _ q=>q.k8) fun _ _ z=>False.elim z
end
section
variable{X:Cx}{st:Stmt}{rest:List Stmt}{t u:TS}{e:Expr}{te:TE}{pos:Pos}
noncomputable def j5:TS:=fun D σ H=>D.nx σ H
noncomputable def xT(t u:TS):TS:=fun D σ H=>t { D with nx:=u D } σ H
theorem bZ:F9 X [] j5:=fun _ _ σ H _ I h=>wpAny_execs_nil ⟨σ,H,I,h⟩
theorem oN(h1:PS X st t)(h2:F9 X rest u):F9 X (st::rest) (xT t u):=by
 intro pins s σ H D I h;refine wpAny_execs_cons (IA (h1 pins s σ H { D with nx:=u D } I h) fun f s1 q=>?_);cases f with
 | next=>obtain⟨σ',H',I',q⟩:=q;exact h2 pins s1 σ' H' D I' q
 | ret v=>exact q
 | brk=>exact q
 | cont=>exact q
theorem ZJ(h1:PS X st t):F9 X [st] t:=by
 intro pins s σ H D I h;refine wpAny_execs_cons (IA (h1 pins s σ H D I h) fun f s1 q=>?_);cases f with
 | next=>exact wpAny_execs_nil q
 | ret v=>exact q
 | brk=>exact q
 | cont=>exact q
noncomputable def X2:TS:=fun D σ H=>D.bk σ H
theorem iY:PS X (.Break pos) X2:=fun _ _ σ H _ I h=>wpAny_Break ⟨σ,H,I,h⟩
theorem Inv.quiet{pins:List (Addr×Obj)}{σ:St}{H:Hp}{s:Shared}(I:Inv X pins σ H s):interactive X.env=false:=by simp[interactive,I.ok.kind]
noncomputable def Z4(te:TE):TS:=fun D σ H=>te σ H fun _ H1=>D.nx σ H1
theorem UQ(he:PE X e te)(hs:swapsWith e none pos.line X.env=pure false:=by rfl):PS X (.Expr e pos) (Z4 te):=by intro pins s σ H D I h;exact wpAny_Expr_any (IA (he pins s σ H _ I h) fun v s1 ⟨x,H1,I1,r1,q1⟩=>⟨σ,H1,I1,q1⟩) I.quiet hs
noncomputable def vT(te:TE):TS:=fun D σ H=>te σ H D.rt
theorem A4(he:PE X e te):PS X (.Return (some e) pos) (vT te):=by intro pins s σ H D I h;exact wpAny_Return_some (IA (he pins s σ H _ I h) fun v s1 ⟨x,H1,I1,r1,q1⟩=>⟨x,σ,H1,I1,r1,q1⟩)
noncomputable def qT(c:TT)(t u:TS):TS:=fun D σ H=>c σ H fun b H1=>if b=true then t D σ H1 else u D σ H1
theorem iS{c:Expr}{a b:List Stmt}{tc:TT}(hc:PT X c tc)(ha:F9 X a t)(hb:F9 X b u):PS X (.If c a b pos) (qT tc t u):=by
 intro pins s σ H D I h;refine wpAny_If (IA (hc pins s σ H _ I h) fun d s1 zz=>?_);obtain⟨H1,I1,q1⟩:=zz;cases d with
 | true=>exact ha pins s1 σ H1 D I1 q1
 | false=>exact hb pins s1 σ H1 D I1 q1
end
abbrev TG:=V->St->Hp->(St->Hp->Prop)->Prop
abbrev aL:=List V->St->Hp->(St->Hp->Prop)->Prop
def PG(X:Cx)(target:Expr)(t:TG):Prop:=
 ∀(pins:List (Addr×Obj))(s:Shared)(σ:St)(H:Hp)(v:V)(u:Value)(Q:St->Hp->Prop),Inv X pins σ H s->RelV v u->t v σ H Q->
  wpAny (model X.prog X.w) X.A (assign target X.env u) (fun _ s'=>∃σ' H',Inv X pins σ' H' s'/\Q σ' H') X.xe s
def tS(X:Cx)(ts:List Expr)(t:aL):Prop:=
 ∀(pins:List (Addr×Obj))(s:Shared)(σ:St)(H:Hp)(vs:List V)(us:List Value)(Q:St->Hp->Prop),Inv X pins σ H s->Vals vs us->t vs σ H Q->
  wpAny (model X.prog X.w) X.A (assignInOrder ((assignEach ts X.env).map (·.2)) us) (fun _ s'=>∃σ' H',Inv X pins σ' H' s'/\Q σ' H') X.xe s
abbrev bL:=V->V->V->Hp->(Hp->Prop)->Prop
def OO(X:Cx)(t:bL):Prop:=
 ∀(pins:List (Addr×Obj))(s:Shared)(σ:St)(H:Hp)(o i v:V)(ov iv u:Value)(Q:Hp->Prop),Inv X pins σ H s->RelV o ov->RelV i iv->RelV v u->t o i v H Q->
  wpAny (model X.prog X.w) X.A (setItem ov iv u) (fun _ s'=>∃H',Inv X pins σ H' s'/\Q H') X.xe s
section
variable{X:Cx}{pos:Pos}
noncomputable def EI(i:Nat):TG:=fun v σ H Q=>Q (σ.set i (some v)) H
theorem TN{i:Nat}{x:Str}(hN:X.N.Nodup)(hi:X.N[i]?=some x)(hx:YI X.env.scope x)(hf:X.fn x=true\/X.env.scope.names.lookup x=some .local:=by first | exact .inl rfl | exact .inr rfl | assumption):PG X (.Name x pos) (EI i):=by intro pins s σ H v u Q I r h;exact wpAny_assign_Name (QJ I hN hi hx r (fun s' I'=>⟨_,H,I',h⟩) hf)
noncomputable def US:aL:=fun vs σ H Q=>vs=[]/\Q σ H
noncomputable def J2(t:TG)(u:aL):aL:=fun vs σ H Q=>∃v r,vs=v::r/\t v σ H fun σ' H'=>u r σ' H' Q
theorem UY:tS X [] US:=by intro pins s σ H vs us Q I r h;obtain⟨e,h⟩:=h;subst e;cases r;exact assignInOrder_nil ⟨σ,H,I,h⟩
theorem wQ{e:Expr}{es:List Expr}{t:TG}{u:aL}(h1:PG X e t)(h2:tS X es u)
 (hs:(assignEach (e::es) X.env).map (·.2)=assign e X.env::(assignEach es X.env).map (·.2):=by rfl):tS X (e::es) (J2 t u):=by
 intro pins s σ H vs us Q I r h;obtain⟨v,vr,e1,h⟩:=h;subst e1;cases r with
 | cons r rr=>rw[hs];refine assignInOrder_cons (IA (h1 pins s σ H _ _ _ I r h) fun _ s1 zz=>?_);obtain⟨σ1,H1,I1,q1⟩:=zz;exact h2 pins s1 σ1 H1 _ _ Q I1 rr q1
def WS(K:Frag)(n:Nat)(t:aL):TG:=fun v σ H Q=>∃a xs,v=.ref a/\CH K H a xs/\xs.length=n/\t xs σ H Q
theorem v4{es:List Expr}{k:Nat}{t:aL}{n:Nat}(hc:X.calm=true)(h:tS X es t)
 (hn:(assignEach es X.env).length=n:=by rfl) (hst:(assignEach es X.env).findIdx? (·.1)=none:=by rfl):PG X (.Tuple es k pos) (WS X.K n t):=by
 intro pins s σ H v u Q I r hw;obtain⟨a,xs,e1,hq,hl,hw⟩:=hw;subst e1;cases r;obtain⟨its,rv,ht,hz⟩:=I.tuple hq;refine assign_Tuple_tuple (I.ok.hd hc) ht (by simp[hn,<- hl,rv.length]) hst fun h' hx=>?_
 have I1:Inv X pins σ H { s with heap:=h' }:=I.kept (t':=s.toks) fun b o e=>hx b o (Nat.ne_of_lt (Heap.lt_size e)) e
 exact h pins _ σ H xs _ Q I1 (by simpa using rv) hw
noncomputable def VS(to ti:TE)(t:bL):TG:=fun v σ H Q=>to σ H fun o H1=>ti σ H1 fun i H2=>t o i v H2 fun H3=>Q σ H3
theorem o4{o i:Expr}{to ti:TE}{t:bL}(ho:PE X o to)(hi:PE X i ti)(hs:OO X t)
 (ha:∀v,assign (.Subscript o i pos) X.env v=(do
  let ov <- holding [v] (eval o X.env)
  let iv <- holding [v,ov] (eval i X.env)
  standAt pos
  holding [v,ov,iv] (setItem ov iv v)
  release [v,ov,iv] []):=by intro _;rfl):PG X (.Subscript o i pos) (VS to ti t):=by
 intro pins s σ H v u Q I r h;rw[ha];refine wpAny_bind (wpAny_holding (IA (ho pins s σ H _ I h) fun ov s1 zz=>?_));obtain⟨x,H1,I1,r1,q1⟩:=zz;refine wpAny_bind (wpAny_holding (IA (hi pins s1 σ H1 _ I1 q1) fun iv s2 zz=>?_));obtain⟨y,H2,I2,r2,q2⟩:=zz;refine wpAny_bind (wpAny_standAt (wpAny_bind (wpAny_holding (IA (hs pins s2 σ H2 x y v ov iv u _ I2 r1 r2 r q2) fun _ s3 zz=>?_))));obtain⟨H3,I3,q3⟩:=zz;exact wpAny_release ⟨σ,H3,I3,q3⟩
noncomputable def gJ(te:TE)(g:TG):TS:=fun D σ H=>te σ H fun x H1=>g x σ H1 D.nx
theorem zR{tg e:Expr}{te:TE}{g:TG}(he:PE X e te)(hg:PG X tg g)(hs:swapsWithSole [tg] e pos.line X.env=pure false:=by rfl)(hw:swappedStores [tg] e X.env=pure none:=by rfl)
 (h1:(assignEach [tg] X.env).map (·.2)=[assign tg X.env]:=by rfl):PS X (.Assign [tg] e pos) (gJ te g):=by
 intro pins s σ H D I h;refine wpAny_Assign_stores (IA (he pins s σ H _ I h) fun v s1 zz=>?_) hs hw;obtain⟨x,H1,I1,r1,q1⟩:=zz;rw[h1];exact IA (hg pins s1 σ H1 x v _ I1 r1 q1) fun _ s2 q=>q
theorem aO{i:Nat}{x:Str}{e:Expr}{te:TE}{pos':Pos}(hN:X.N.Nodup)(hi:X.N[i]?=some x)(hx:YI X.env.scope x)(he:PE X e te)(hs:swapsWith e (some (.Name x pos')) pos.line X.env=pure false:=by rfl)(hf:X.fn x=true\/X.env.scope.names.lookup x=some .local:=by first | exact .inl rfl | exact .inr rfl | assumption) :
 PS X (.Assign [.Name x pos'] e pos) (gJ te (EI i)):=by
 intro pins s σ H D I h;refine wpAny_Assign_Name (IA (he pins s σ H _ I h) fun v s1 zz=>?_) hs;obtain⟨y,H1,I1,r1,q1⟩:=zz;exact QJ I1 hN hi hx r1 (fun s2 I2=>⟨_,H1,I2,q1⟩) hf
end
structure It where
 go:Nat->Hp->Prop
 Wq:Nat->Hp->V->Hp->Prop
 stop:Nat->Hp->Prop
def QD(X:Cx)(pins:List (Addr×Obj))(H:Hp)(b:Addr):Prop:=
 H b=none/\b≠X.env.locals/\b∉X.fs/\(b∈X.ex\/X.s₀.heap.objs.size<=b)/\(∀x c,X.env.cells.lookup x=some c->c≠b)/\∀p∈X.pn++pins,p.1≠b
theorem Inv.Aj{X:Cx}{pins:List (Addr×Obj)}{σ:St}{H H':Hp}{s:Shared}{b:Addr}(I:Inv X pins σ H s)(hb:s.heap.objs.size<=b)(hn:H' b=none):QD X pins H' b:=by
 refine⟨hn,Nat.ne_of_gt (Nat.lt_of_lt_of_le I.lt hb),I.Jv hb,.inr (Nat.le_trans I.sz hb),fun x c e z=>?_,fun p hp z=>?_⟩
 · obtain⟨v,q⟩:=I.cell x c e;exact absurd (Nat.lt_of_lt_of_le q.lt (by rw[z];exact hb)) (Nat.lt_irrefl _)
 · exact absurd (Nat.lt_of_lt_of_le (Heap.lt_size (I.pin p hp).1) (by rw[z];exact hb)) (Nat.lt_irrefl _)
structure xG(P:Program)(w:World)(K:Frag)(tg:Expr)(J:It)(fp:List Addr)(it:Addr)(tn:Nat->Heap->Prop):Prop where
 mem:it∈fp
 obj:∀i h,tn i h->∀b∈fp,∃o,h.get? b=some o/\∀v,o.data≠.cell v
 keep:∀i h h',tn i h->(∀b∈fp,∀o,h.get? b=some o->h'.get? b=some o)->tn i h'
 item:∀(X:Cx),X.prog=P->X.w=w->X.K=K->X.calm=true->∀(i:Nat)(pins:List (Addr×Obj))(s:Shared)(σ:St)(H:Hp)(E:Value->Shared->Prop),Inv X pins σ H s->(∀b∈fp,QD X pins H b)->tn i s.heap->J.go i H->
  wpAny (model P w) X.A (pyNext (.ref it)) (fun r s1=>∃u,r=some u/\
   wpAny (model P w) X.A (letOwnedTupleGo tg (.ref it) u) (fun _ s2=>∃x H',Inv X pins σ H' s2/\RelV x u/\J.Wq i H x H'/\tn (i+1) s2.heap/\∀b∈fp,H' b=none) E s1) E s
 done:∀(X:Cx),X.prog=P->X.w=w->X.K=K->X.calm=true->∀(i:Nat)(pins:List (Addr×Obj))(s:Shared)(σ:St)(H:Hp)(E:Value->Shared->Prop),Inv X pins σ H s->(∀b∈fp,QD X pins H b)->tn i s.heap->J.stop i H->
  wpAny (model P w) X.A (pyNext (.ref it)) (fun r s1=>r=none/\Inv X pins σ H s1) E s
 self:∀(A:Around)(i:Nat)(s:Shared)(Q:Value->Shared->Prop)(E:Value->Shared->Prop),tn i s.heap->Q (.ref it) s->wpAny (model P w) A (pyIter (.ref it)) Q E s
abbrev TI:=St->Hp->(It->Hp->Prop)->Prop
def NS(X:Cx)(pins:List (Addr×Obj))(σ:St)(tg:Expr)(R:It->Hp->Prop)(itv:Value)(s2:Shared):Prop:=
 ∃(it:Addr)(fp:List Addr)(tn:Nat->Heap->Prop)(J:It)(H':Hp),itv=.ref it/\Inv X pins σ H' s2/\xG X.prog X.w X.K tg J fp it tn/\tn 0 s2.heap/\(∀b∈fp,QD X pins H' b)/\R J H'
def PI(X:Cx)(tg iter:Expr)(wi:TI):Prop:=
 ∀(pins:List (Addr×Obj))(s:Shared)(σ:St)(H:Hp)(R:It->Hp->Prop),Inv X pins σ H s->wi σ H R->
  wpAny (model X.prog X.w) X.A (eval iter X.env) (fun v s1=>wpAny (model X.prog X.w) X.A (pyIter v) (NS X pins σ tg R) X.xe s1) X.xe s
theorem vO{M:Model}{A:Around}{E:Value->Shared->Prop}{s:Shared}{tg:Expr}{it:Addr}{u:Value}{o:Obj}{n:String}{vs:Array Value}{Q:Unit->Shared->Prop}(ho:s.heap.get? it=some o)(hc:o.cls=.type n)(hd:o.data=.fields vs)
 (hn:["enumerate", "zip", "dict_itemiterator", "dict_reverseitemiterator", "odict_iterator", "itertools.zip_longest", "itertools.pairwise"].contains n=false) (hQ:Q () s):wpAny M A (letOwnedTupleGo tg (.ref it) u) Q E s:=by
 unfold letOwnedTupleGo;cases tg<;>first
  | exact wpAny_pure hQ
  | (cases u<;>first
   | exact wpAny_pure hQ
   | (refine wpAny_bind (wpAny_load ho ?_);rw[hc,hd];show wpAny M A (if(["enumerate", "zip", "dict_itemiterator", "dict_reverseitemiterator", "odict_iterator", "itertools.zip_longest", "itertools.pairwise"].contains n&&vs[0]?==some (rawInt _))=true then _ else _) Q E s;rw[if_neg (by intro h;rw[hn,Bool.false_and]at h;cases h)];exact wpAny_pure hQ))
def z6(K:Frag)(a:Addr):It:=
 ⟨fun i H=>∃xs x,N8 K H a xs/\xs[i]?=some x,fun i H x H'=>H'=H/\∀xs,N8 K H a xs->xs[i]?=some x,fun i H=>∃xs,N8 K H a xs/\xs.length<=i⟩
noncomputable def qS(lo:Int)(n:Nat):It:=⟨fun i _=>i<n,fun i H x H'=>H'=H/\x=.int (lo+i),fun i _=>n<=i⟩
theorem oX{P:Program}{w:World}{K:Frag}{tg:Expr}(a it:Addr):xG P w K tg (z6 K a) [it] it (fun i h=>h.IsListIter it a i) where
 mem:=by simp
 obj:=fun i h st b hb=>by
  have e:b=it:=by simpa using hb
  subst e;obtain⟨o,e,c,d⟩:=st;exact⟨o,e,fun v z=>by rw[d]at z;cases z⟩
 keep:=fun i h h' st k=>st.at fun o e=>k it (by simp) o e
 item:=by
  intro X hP hw hK hc i pins s σ H E I hf st hg;subst hP hw hK;obtain⟨xs,x,hq,hx⟩:=hg;obtain⟨its,rv,p,hz⟩:=I.list hq;obtain⟨u,hu,ru⟩:=rv.get hx;obtain⟨f0,f1,f2,f3,f4,f5⟩:=hf it (by simp);refine wpAny_pyNext_list_item st p.isList (x:=u) (by simpa using hu) fun h' st' sb=>?_
  have I1:Inv X pins σ H { s with heap:=h' }:=I.turned (t':=s.toks) (fun b o hb e=>(sb.2 b hb).trans e) f0 f1 f3 f4 f5;obtain⟨o,e,c,d⟩:=id st';exact⟨u,rfl,vO (s:={ s with heap:=h' }) e c d (by decide) ⟨x,H,I1,ru,⟨rfl,fun ys hy=>by rw[I.D9 hy hq];exact hx⟩,st',fun b hb=>(hf b hb).1⟩⟩
 done:=by intro X hP hw hK hc i pins s σ H E I hf st hg;subst hP hw hK;obtain⟨xs,hq,hx⟩:=hg;obtain⟨its,rv,p,hz⟩:=I.list hq;obtain⟨f0,f1,f2,f3,f4,f5⟩:=hf it (by simp);have hl:=rv.length;exact wpAny_pyNext_list_end (I.ok.hd hc) st p.isList (by simp;omega) fun h' eb=>⟨rfl,I.turned (t':=s.toks) (fun b o hb e=>eb b o hb e) f0 f1 f3 f4 f5⟩
 self:=fun _ _ _ _ _ st h=>wpAny_pyIter_listiter st h
theorem qV{P:Program}{w:World}{K:Frag}{tg:Expr}(it:Addr)(lo:Int)(n:Nat):xG P w K tg (qS lo n) [it] it (fun i h=>IsRangeIter h it (lo+(i:Nat)*1) ((n:Int)-(i:Nat)) 1) where
 mem:=by simp
 obj:=fun i h st b hb=>by
  have e:b=it:=by simpa using hb
  subst e;exact⟨_,st,fun v z=>by
   have z':Data.fields _=Data.cell v:=z;cases z'⟩
 keep:=fun i h h' st k=>k it (by simp) _ st
 item:=by
  intro X hP hw hK hc i pins s σ H E I hf st hg;subst hP hw hK;obtain⟨f0,f1,f2,f3,f4,f5⟩:=hf it (by simp);have W:=Walks.range (prog:=X.prog) (w:=X.w) (I.ok.hd hc) it lo 1 n;refine W.item i s _ _ hg st fun v h' tk hv st' kk=>?_
  obtain⟨t,rfl⟩:=hv;have I1:Inv X pins σ H { s with heap:=h',toks:=tk }:=I.turned (fun b o hb e=>kk b o (by simpa using hb) e) f0 f1 f3 f4 f5;refine⟨_,rfl,vO (s:={ s with heap:=h',toks:=tk }) (n := "range_iterator") st' rfl rfl (by decide) ⟨.int (lo+i),H,I1,⟨t,?_⟩,⟨rfl,rfl⟩,st',fun b hb=>(hf b hb).1⟩⟩;rw[Int.mul_one]
 done:=by intro X hP hw hK hc i pins s σ H E I hf st hg;subst hP hw hK;obtain⟨f0,f1,f2,f3,f4,f5⟩:=hf it (by simp);exact wpAny_pyNext_range_end (I.ok.hd hc) st (by have:n<=i:=hg;omega) fun h' eb=>⟨rfl,I.turned (t':=s.toks) (fun b o hb e=>eb b o hb e) f0 f1 f3 f4 f5⟩
 self:=fun _ _ _ _ _ st h=>wpAny_pyIter_rangeiter st h
section
variable{X:Cx}{tg:Expr}
def K2(K:Frag)(tl:TE):TI:=fun σ H R=>tl σ H fun x H1=>∃a,x=.ref a/\(∃xs,N8 K H1 a xs)/\R (z6 K a) H1
theorem WY{l:Expr}{tl:TE}(hl:PE X l tl):PI X tg l (K2 X.K tl):=by
 intro pins s σ H R I h;refine IA (hl pins s σ H _ I h) fun v s1 zz=>?_
 obtain⟨x,H1,I1,r1,q1⟩:=zz;obtain⟨a,e,⟨xs,hq⟩,q⟩:=q1;subst e;cases r1;obtain⟨its,rv,p,hz⟩:=I1.list hq;refine wpAny_pyIter_list p.isList ?_;refine⟨s1.heap.objs.size,[s1.heap.objs.size],_,_,H1,rfl,I1.kept (t':=s1.toks) fun b o e=>Heap.get?_push_of_some _ e,oX a _,⟨_,Heap.get?_push_size _ rfl,rfl,rfl⟩,fun b hb=>?_,q⟩;have e:b=s1.heap.objs.size:=by simpa using hb
 subst e;exact I1.Aj (Xy _) (I1.hok.fresh (Xy _))
theorem AQ{pins:List (Addr×Obj)}{σ:St}{H:Hp}{s:Shared}{R:It->Hp->Prop}{E:Value->Shared->Prop}{lo hi:Int}{t u v:Tok}{tk:Nat}(I:Inv X pins σ H s)(h1:-(2^62)<=lo)(h2:lo<2^62)(h3:-(2^62)<=hi)(h4:hi<2^62)
 (q:R (qS lo (hi-lo).toNat) H):wpAny (model X.prog X.w) X.A (pyIter (.ref s.heap.objs.size)) (NS X pins σ tg R) E { s with heap:=s.heap.push { cls:=.type "range",data:=.fields #[.int lo t,.int hi u,.int 1 v] },toks:=tk }:=by
 refine wpAny_pyIter_range (IsRange.new ..) (small_one h1 h2 h3 h4) ?_;have I1:Inv X pins σ H { s with heap:=s.heap.push { cls:=.type "range",data:=.fields #[.int lo t,.int hi u,.int 1 v] },toks:=tk }:=I.kept fun b o e=>Heap.get?_push_of_some _ e
 refine⟨(s.heap.push { cls:=.type "range",data:=.fields #[.int lo t,.int hi u,.int 1 v] }).objs.size,[(s.heap.push { cls:=.type "range",data:=.fields #[.int lo t,.int hi u,.int 1 v] }).objs.size],_,_,H,rfl,
  I1.kept (t':=tk) fun b o e=>Heap.get?_push_of_some _ e,qV _ lo (hi-lo).toNat,?_,fun b hb=>?_,q⟩
 · have e1:lo+((0:Nat):Int)*1=lo:=by simp
   have e2:(((hi-lo).toNat:Nat):Int)-((0:Nat):Int)=Builtin.Range.rangeSize lo hi 1:=by rw[rangeSize_one];split<;>omega
   show IsRangeIter _ _ (lo+((0:Nat):Int)*1) ((((hi-lo).toNat:Nat):Int)-((0:Nat):Int)) 1;rw[e1,e2];exact Heap.get?_push_size _ rfl
 · have e:b=(s.heap.push { cls:=.type "range",data:=.fields #[.int lo t,.int hi u,.int 1 v] }).objs.size:=by simpa using hb
   subst e;exact I1.Aj (Xy _) (I1.hok.fresh (Xy _))
def M2(ta:TA):TI:=fun σ H R=>ta σ H fun vs H1=>∃j:Int,vs=[.int j]/\-(2^62)<=j/\j<2^62/\R (qS 0 j.toNat) H1
def D5(ta:TA):TI:=fun σ H R=>ta σ H fun vs H1=>∃i j:Int,vs=[.int i,.int j]/\(-(2^62)<=i/\i<2^62/\-(2^62)<=j/\j<2^62)/\R (qS i (j-i).toNat) H1
theorem iW {a:Expr} {ta:TA} {p pos:Pos} (hg:Gl X "range") (hm:X.mg "range" =none) (ha:PA X [a] ta) (hs:starEach [a] X.env=[(false,eval a X.env)]:=by rfl):PI X tg (.Call (.Name "range" p) [a] [] pos) (M2 ta):=by
 intro pins s σ H R I h;refine Call_ (lH I hg hm boot_range (PyProof.Rows.callWith_type1 (IA (ha pos pins s σ H _ I h) fun us s1 zz=>?_) hs rfl));obtain⟨vs,H1,I1,r1,q1⟩:=zz;obtain⟨j,e,q1,q2,q⟩:=q1;subst e;cases r1 with
 | cons r rr=>cases rr;obtain⟨t,rfl⟩:=r;exact call_range_1 (AQ I1 (by omega) (by omega) q1 q2 (by simpa using q))
theorem jW {a b:Expr} {ta:TA} {p pos:Pos} (hg:Gl X "range") (hm:X.mg "range" =none) (ha:PA X [a,b] ta) (hs:starEach [a,b] X.env=[(false,eval a X.env),(false,eval b X.env)]:=by rfl) (hs2:starEach [b] X.env=[(false,eval b X.env)]:=by rfl) :
 PI X tg (.Call (.Name "range" p) [a,b] [] pos) (D5 ta):=by
 intro pins s σ H R I h;refine Call_ (lH I hg hm boot_range (PyProof.Rows.callWith_type1 (IA (ha pos pins s σ H _ I h) fun us s1 zz=>?_) (by rw[hs,hs2]) (by rw[hs2];rfl)));obtain⟨vs,H1,I1,r1,q1⟩:=zz;obtain⟨i,j,e,⟨q1,q2,q3,q4⟩,q⟩:=q1;subst e;cases r1 with
 | cons r rr=>
  cases rr with
  | cons r' rr=>cases rr;obtain⟨t,rfl⟩:=r;obtain⟨t',rfl⟩:=r';exact call_range_2 (AQ I1 q1 q2 q3 q4 q)
def pT(wi:TI)(g:TG)(tb:TS):TS:=fun D σ H=>wi σ H fun J H1=>∃W:Nat->Nat->St->Hp->Prop,(∃m,W 0 m σ H1)/\∀i m σ H,W i m σ H->
 (J.stop i H/\D.nx σ H)\/(J.go i H/\∃N:St->Hp->Prop,(∀σ' H',N σ' H'->∃m',m'<m/\W (i+1) m' σ' H')/\∀x H',J.Wq i H x H'->g x σ H' fun σ2 H2=>tb { D with nx:=N,ct:=N,bk:=D.nx } σ2 H2)
noncomputable def BI(fp:List Addr)(h:Heap):List (Addr×Obj):=fp.filterMap fun b=>(h.get? b).map fun o=>(b,o)
theorem DJ{fp:List Addr}{h:Heap}{b:Addr}{o:Obj}(hb:b∈fp)(e:h.get? b=some o):(b,o)∈BI fp h:=mem_filterMap.mpr ⟨b,hb,by rw[e];rfl⟩
theorem dW{fp:List Addr}{h:Heap}{p:Addr×Obj}(hp:p∈BI fp h):p.1∈fp/\h.get? p.1=some p.2:=by
 obtain⟨b,hb,e⟩:=mem_filterMap.mp hp;cases q:h.get? b with
 | none=>rw[q]at e;cases e
 | some o=>rw[q]at e;have e':(b,o)=p:=Option.some.inj e;subst e';exact⟨hb,q⟩
theorem Inv.pinned{pins:List (Addr×Obj)}{σ:St}{H:Hp}{s:Shared}{fp:List Addr}(I:Inv X pins σ H s)(hf:∀b∈fp,QD X pins H b)(ho:∀b∈fp,∃o,s.heap.get? b=some o/\∀v,o.data≠.cell v):Inv X (pins++BI fp s.heap) σ H s:=
 I.cj fun p hp=>(mem_append.mp hp).elim (fun z=>I.pin p (mem_append_right _ z)) fun z=>by obtain⟨hb,e⟩:=dW z;obtain⟨f0,f1,f2,_⟩:=hf p.1 hb;obtain⟨o,e',d⟩:=ho p.1 hb;rw[e]at e';cases e';exact⟨e,f0,f1,f2,d⟩
theorem Inv.o9{pins pl:List (Addr×Obj)}{σ:St}{H:Hp}{s:Shared}(I:Inv X (pins++pl) σ H s):Inv X pins σ H s:=I.cj fun p hp=>I.pin p (mem_append_right _ (mem_append_left _ hp))
theorem AR{iter:Expr}{body:List Stmt}{wi:TI}{g:TG}{tb:TS}{pos:Pos}(hp:PassesOwn (model X.prog X.w) X.A X.env X.xe)(hc:X.calm=true)(hi:PI X tg iter wi)(hg:PG X tg g)(hb:F9 X body tb)
 (hs:∀x,foldedSetIterable iter X.env x=pure x:=by intro _;rfl):PS X (.For tg iter body [] pos) (pT wi g tb):=by
 intro pins s σ H D I h;refine wpAny_For (IA (hi pins s σ H _ I h) fun v s1 h1=>IA h1 fun itv s2 h2=>?_) hs;obtain⟨it,fp,tn,J,H2,e,I2,T,st2,f2,W,⟨m0,w0⟩,turn⟩:=h2;subst e;have stat:∀{H':Hp},(∀b∈fp,H' b=none)->∀b∈fp,QD X pins H' b:=fun hn b hb=>⟨hn b hb,(f2 b hb).2⟩
 refine codeAny_forLoop_any (fun n s'=>∃i σ' H',Inv X pins σ' H' s'/\tn i s'.heap/\(∀b∈fp,H' b=none)/\W i n σ' H') ?_ m0 ⟨0,σ,H2,I2,st2,fun b hb=>(f2 b hb).1,w0⟩;rintro n s3 ⟨i,σ3,H3,I3,st3,Yv,w3⟩;rcases turn i n σ3 H3 w3 with⟨stop,qn⟩ | ⟨go,N,hN,step⟩
 · refine wpAny_passesOwn hp (IA (T.done X rfl rfl rfl hc i pins s3 σ3 H3 X.xe I3 (stat Yv) st3 stop) fun r s4 zz=>?_);obtain⟨hr,I4⟩:=zz;subst hr;exact wpAny_execs_nil ⟨σ3,H3,I4,qn⟩
 · refine wpAny_passesOwn hp (IA (T.item X rfl rfl rfl hc i pins s3 σ3 H3 X.xe I3 (stat Yv) st3 go) fun r s4 zz=>?_);obtain⟨u,hr,h4⟩:=zz;subst hr;refine wpAny_passesOwn hp (IA h4 fun _ s5 zz=>?_);obtain⟨x,H5,I5,r5,y5,Nv,Ak⟩:=zz;have Dw:=I5.pinned (stat Ak) (T.obj _ _ Nv);refine wpAny_passesOwn hp (IA (hg _ s5 σ3 H5 x u _ Dw r5 (step x H5 y5)) fun _ s6 zz=>?_);obtain⟨σ6,H6,I6,q6⟩:=zz;refine wpAny_passesOwn hp (IA (hb _ s6 σ6 H6 _ I6 q6) fun f s7 q7=>?_);have again:∀{σ7:St}{H7:Hp},Inv X (pins++BI fp s5.heap) σ7 H7 s7->N σ7 H7->∃m,m<n/\∃i σ' H',Inv X pins σ' H' s7/\tn i s7.heap/\(∀b∈fp,H' b=none)/\W i m σ' H':=fun {σ7 H7} I7 n7=>by obtain⟨m',hm,w7⟩:=hN σ7 H7 n7;refine⟨m',hm,i+1,σ7,H7,I7.o9,T.keep _ _ _ Nv fun b hb o e=>(I7.pin (b,o) (mem_append_right _ (mem_append_right _ (DJ hb e)))).1,fun b hb=>?_,w7⟩;obtain⟨o,e,d⟩:=T.obj _ _ Nv b hb;exact(I7.pin (b,o) (mem_append_right _ (mem_append_right _ (DJ hb e)))).2.1
   cases f with
   | next=>obtain⟨σ7,H7,I7,n7⟩:=q7;exact again I7 n7
   | cont=>obtain⟨σ7,H7,I7,n7⟩:=q7;exact again I7 n7
   | brk=>obtain⟨σ7,H7,I7,q7⟩:=q7;exact⟨σ7,H7,I7.o9,q7⟩
   | ret v=>obtain⟨x7,σ7,H7,I7,r7,q7⟩:=q7;exact⟨x7,σ7,H7,I7.o9,r7,q7⟩
end
abbrev R2:=V->V->Hp->VK->Prop
def L8(X:Cx)(f:Value->Value->Sem Value)(r:R2):Prop:=
 ∀(pins:List (Addr×Obj))(s:Shared)(σ:St)(H:Hp)(x y:V)(v u:Value)(Q:VK),Inv X pins σ H s->RelV x v->RelV y u->r x y H Q->
  wpAny (model X.prog X.w) X.A (f v u) (EP X pins σ Q) X.xe s
def t8(X:Cx)(f:Value)(r:List V->Hp->VK->Prop):Prop:=
 ∀(pins:List (Addr×Obj))(s:Shared)(σ:St)(H:Hp)(xs:List V)(us:List Value)(Q:VK),Inv X pins σ H s->Vals xs us->r xs H Q->
  wpAny (model X.prog X.w) X.A (call f us) (EP X pins σ Q) X.xe s
noncomputable def FS(r:R2)(ta tb:TE):TE:=fun σ H Q=>ta σ H fun x H1=>tb σ H1 fun y H2=>r x y H2 Q
noncomputable def rI(C:Int->Int->Prop)(g:Int->Int->V):R2:=fun x y H Q=>∃i j,x=.int i/\y=.int j/\C i j/\Q (g i j) H
noncomputable def eJ(g:Int->Int->V):R2:=fun x y H Q=>∃i j,x=.int i/\y=.int j/\Q (g i j) H
section
variable{X:Cx}{a b c:Expr}{ta tb tc:TE}{pos:Pos}
theorem dL(ha:PE X a ta)(hb:PE X b tb){pins:List (Addr×Obj)}{s:Shared}{σ:St}{H:Hp}{R:V->V->Hp->Prop}(I:Inv X pins σ H s)
 (h:ta σ H fun x H1=>tb σ H1 fun y H2=>R x y H2) {Q:Value->Shared->Prop} {f:Value->Value->Sem Value}
 (hf:∀v u s2 x y H2,Inv X pins σ H2 s2->RelV x v->RelV y u->R x y H2->wpAny (model X.prog X.w) X.A (f v u) Q X.xe s2) :
 wpAny (model X.prog X.w) X.A (eval a X.env) (fun v s₁=>wpAny (model X.prog X.w) X.A (eval b X.env) (fun u s₂=>wpAny (model X.prog X.w) X.A (f v u) Q X.xe s₂) X.xe s₁) X.xe s:=by
 refine IA (ha pins s σ H _ I h) fun v s1 zz=>?_
 obtain⟨x,H1,I1,r1,q1⟩:=zz;refine IA (hb pins s1 σ H1 _ I1 q1) fun u s2 zz=>?_
 obtain⟨y,H2,I2,r2,q2⟩:=zz;exact hf v u s2 x y H2 I2 r1 r2 q2
theorem b6{op:Operator}{r:R2}(ho:L8 X (binaryOp op) r)(ha:PE X a ta)(hb:PE X b tb):PE X (.BinOp a op b pos) (FS r ta tb):=by intro pins s σ H Q I h;exact wpAny_BinOp (dL ha hb I h fun v u s2 x y H2 I2 rx ry q=>ho pins s2 σ H2 x y v u Q I2 rx ry q)
theorem AS{f:Value->Value->Sem Value}{C:Int->Int->Prop}{g:Int->Int->Int}
 (rule:∀(i j:Int)(t u:Tok)(s:Shared)(Q:Value->Shared->Prop)(E:Value->Shared->Prop),C i j->Q (.int (g i j) s.toks) { s with toks:=s.toks+1 }->wpAny (model X.prog X.w) X.A (f (.int i t) (.int j u)) Q E s) :
 L8 X f (rI C fun i j=>.int (g i j)):=by
 intro pins s σ H x y v u Q I rx ry h;obtain⟨i,j,rfl,rfl,hc,q⟩:=h;obtain⟨t,rfl⟩:=rx;obtain⟨t',rfl⟩:=ry;exact rule i j t t' s _ _ hc ⟨.int (g i j),H,I.tok _,⟨_,rfl⟩,q⟩
theorem YO{f:Value->Value->Sem Value}{g:Int->Int->Int}
 (rule:∀(i j:Int)(t u:Tok)(s:Shared)(Q:Value->Shared->Prop)(E:Value->Shared->Prop),Q (.int (g i j) s.toks) { s with toks:=s.toks+1 }->wpAny (model X.prog X.w) X.A (f (.int i t) (.int j u)) Q E s) :
 L8 X f (eJ fun i j=>.int (g i j)):=by
 intro pins s σ H x y v u Q I rx ry h;obtain⟨i,j,rfl,rfl,q⟩:=h;obtain⟨t,rfl⟩:=rx;obtain⟨t',rfl⟩:=ry;exact rule i j t t' s _ _ ⟨.int (g i j),H,I.tok _,⟨_,rfl⟩,q⟩
theorem dJ{f:Value->Value->Sem Value}{g:Int->Int->Bool}
 (rule:∀(i j:Int)(t u:Tok)(s:Shared)(Q:Value->Shared->Prop)(E:Value->Shared->Prop),Q (.bool (g i j)) s->wpAny (model X.prog X.w) X.A (f (.int i t) (.int j u)) Q E s) :
 L8 X f (eJ fun i j=>.bl (g i j)):=by
 intro pins s σ H x y v u Q I rx ry h;obtain⟨i,j,rfl,rfl,q⟩:=h;obtain⟨t,rfl⟩:=rx;obtain⟨t',rfl⟩:=ry;exact rule i j t t' s _ _ ⟨.bl (g i j),H,I,rfl,q⟩
noncomputable def yH(i j:Int):Prop:=0<j/\j<1073741824
noncomputable def zH(i j:Int):Prop:=0<=j/\j<=1000000/\i.natAbs<2^64
noncomputable def V9(i j:Int):Prop:=(-(2^64)<i/\i<2^64)\/(-(2^64)<j/\j<2^64)
theorem V9.ok{i j:Int}(h:V9 i j):IntMulOk i j:=by
 rcases h with⟨h1,h2⟩ | ⟨h1,h2⟩
 · exact .of_left (intBits_le_64 h1 h2)
 · exact .of_right (intBits_le_64 h1 h2)
theorem LZ:L8 X (binaryOp .Add) (eJ fun i j=>.int (i+j)):=YO fun _ _ _ _ _ _ _ q=>add_int q
theorem Q3:L8 X (binaryOp .Sub) (eJ fun i j=>.int (i-j)):=YO fun _ _ _ _ _ _ _ q=>sub_int q
theorem O3:L8 X (binaryOp .Mult) (rI V9 fun i j=>.int (i*j)):=AS fun _ _ _ _ _ _ _ hc q=>mul_int q hc.ok
theorem MY:L8 X (binaryOp .FloorDiv) (rI yH fun i j=>.int (i/j)):=AS fun i j _ _ _ _ _ hc q=>by have h1:(0:Int)<j:=hc.1;have h2:j<1073741824:=hc.2;exact floordiv_int (by omega) (by rw[Int.fdiv_eq_ediv_of_nonneg i (by omega)];exact q) (.inl (PyProof.noPylong_small (by omega)))
theorem N3:L8 X (binaryOp .Mod) (rI (fun _ j=>0<j) fun i j=>.int (i%j)):=AS fun i j _ _ _ _ _ hc q=>by have h1:(0:Int)<j:=hc;exact mod_int' (by omega) (by rw[Int.fmod_eq_emod_of_nonneg i (by omega)];exact q)
theorem P3:L8 X (binaryOp .Pow) (rI zH fun i j=>.int (i^j.toNat)):=AS fun _ _ _ _ _ _ _ hc q=>pow_int_small hc.1 hc.2.1 hc.2.2 q
end
noncomputable def MH:V->V->Bool
 | .non,.non=>true | .non,.int _=>true | .int _,.non=>true | .non,.bl _=>true | .bl _,.non=>true | .non,.str _=>true | .str _,.non=>true
 | .int _,.int _=>true | .bl _,.bl _=>true | .str _,.str _=>true | .kj _,.kj _=>true
 | .int _,.str _=>true | .str _,.int _=>true | .bl _,.str _=>true | .str _,.bl _=>true
 | _,_=>false
def P6:R2:=fun x y H Q=>MH x y=true/\Q (.bl (decide (x=y))) H
def Q6:R2:=fun x y H Q=>MH x y=true/\Q (.bl (!decide (x=y))) H
theorem nR{i j:Int}:decide (V.int i=V.int j)=(i==j):=by rw[Bool.eq_iff_iff];simp
theorem tR{i j:Bool}:decide (V.bl i=V.bl j)=(i==j):=by rw[Bool.eq_iff_iff];simp
theorem KN{i j:Str}:decide (V.str i=V.str j)=(i==j):=by rw[Bool.eq_iff_iff];simp
theorem mR{i j:Array UInt8}:decide (V.kj i=V.kj j)=(i.toList==j.toList):=by rw[Bool.eq_iff_iff];cases i;cases j;simp
section
variable{X:Cx}{a b c:Expr}{ta tb tc:TE}{pos:Pos}
theorem vB{pins:List (Addr×Obj)}{σ:St}{H:Hp}{s:Shared}{Q:VK}{k k':Bool}(I:Inv X pins σ H s)(q:Q (.bl k) H)(e:k=k'):EP X pins σ Q (.bool k') s:=by subst e;exact⟨.bl k,H,I,rfl,q⟩
theorem T5:L8 X (compareOp .Eq) P6:=by
 intro pins s σ H x y v u Q I rx ry h;obtain⟨hs,q⟩:=h;cases x with
 | non=>
  cases rx;cases y with
  | non=>cases ry;exact PySem.EqNone.eq_none_none (vB I q (by simp))
  | bl j=>cases ry;exact PySem.EqNone.eq_none_bool (vB I q (by simp))
  | int j=>obtain⟨t',rfl⟩:=ry;exact PySem.EqNone.eq_none_int (vB I q (by simp))
  | str j=>obtain⟨t',rfl⟩:=ry;exact PySem.EqNone.eq_none_str (vB I q (by simp))
  | _=>exact absurd (show false=true from hs) Vy
 | bl i=>
  cases rx;cases y with
  | non=>cases ry;exact PySem.EqNone.eq_bool_none (vB I q (by simp))
  | bl j=>cases ry;exact eq_bool (vB I q tR)
  | str j=>obtain⟨t',rfl⟩:=ry;exact PySem.EqMixed.eq_bool_str (vB I q (by simp))
  | _=>exact absurd (show false=true from hs) Vy
 | int i=>
  obtain⟨t,rfl⟩:=rx;cases y with
  | non=>cases ry;exact PySem.EqNone.eq_int_none (vB I q (by simp))
  | int j=>obtain⟨t',rfl⟩:=ry;exact eq_int (vB I q nR)
  | str j=>obtain⟨t',rfl⟩:=ry;exact PySem.EqMixed.eq_int_str (vB I q (by simp))
  | _=>exact absurd (show false=true from hs) Vy
 | str i=>
  obtain⟨t,rfl⟩:=rx;cases y with
  | non=>cases ry;exact PySem.EqNone.eq_str_none (vB I q (by simp))
  | bl j=>cases ry;exact PySem.EqMixed.eq_str_bool (vB I q (by simp))
  | int j=>obtain⟨t',rfl⟩:=ry;exact PySem.EqMixed.eq_str_int (vB I q (by simp))
  | str j=>obtain⟨t',rfl⟩:=ry;exact eq_str (vB I q KN)
  | _=>exact absurd (show false=true from hs) Vy
 | kj i=>
  obtain⟨t,rfl⟩:=rx;cases y with
  | kj j=>obtain⟨t',rfl⟩:=ry;exact PySem.W.eq_bytes (vB I q mR)
  | _=>exact absurd (show false=true from hs) Vy
 | _=>cases y<;>exact absurd (show false=true from hs) Vy
theorem Y5:L8 X (compareOp .NotEq) Q6:=by
 intro pins s σ H x y v u Q I rx ry h;obtain⟨hs,q⟩:=h;cases x with
 | non=>
  cases rx;cases y with
  | non=>cases ry;exact PySem.EqNone.ne_none_none (vB I q (by simp))
  | bl j=>cases ry;exact PySem.EqNone.ne_none_bool (vB I q (by simp))
  | int j=>obtain⟨t',rfl⟩:=ry;exact PySem.EqNone.ne_none_int (vB I q (by simp))
  | str j=>obtain⟨t',rfl⟩:=ry;exact PySem.EqNone.ne_none_str (vB I q (by simp))
  | _=>exact absurd (show false=true from hs) Vy
 | bl i=>
  cases rx;cases y with
  | non=>cases ry;exact PySem.EqNone.ne_bool_none (vB I q (by simp))
  | bl j=>cases ry;exact ne_bool (vB I q (congrArg not tR))
  | str j=>obtain⟨t',rfl⟩:=ry;exact PySem.EqMixed.ne_bool_str (vB I q (by simp))
  | _=>exact absurd (show false=true from hs) Vy
 | int i=>
  obtain⟨t,rfl⟩:=rx;cases y with
  | non=>cases ry;exact PySem.EqNone.ne_int_none (vB I q (by simp))
  | int j=>obtain⟨t',rfl⟩:=ry;exact ne_int (vB I q (congrArg not nR))
  | str j=>obtain⟨t',rfl⟩:=ry;exact PySem.EqMixed.ne_int_str (vB I q (by simp))
  | _=>exact absurd (show false=true from hs) Vy
 | str i=>
  obtain⟨t,rfl⟩:=rx;cases y with
  | non=>cases ry;exact PySem.EqNone.ne_str_none (vB I q (by simp))
  | bl j=>cases ry;exact PySem.EqMixed.ne_str_bool (vB I q (by simp))
  | int j=>obtain⟨t',rfl⟩:=ry;exact PySem.EqMixed.ne_str_int (vB I q (by simp))
  | str j=>obtain⟨t',rfl⟩:=ry;exact ne_str (vB I q (congrArg not KN))
  | _=>exact absurd (show false=true from hs) Vy
 | kj i=>
  obtain⟨t,rfl⟩:=rx;cases y with
  | kj j=>obtain⟨t',rfl⟩:=ry;exact PySem.W.ne_bytes (vB I q (congrArg not mR))
  | _=>exact absurd (show false=true from hs) Vy
 | _=>cases y<;>exact absurd (show false=true from hs) Vy
theorem X5:L8 X (compareOp .Lt) (eJ fun i j=>.bl (decide (i<j))):=dJ fun _ _ _ _ _ _ _ q=>lt_int q
theorem W5:L8 X (compareOp .LtE) (eJ fun i j=>.bl (decide (i<=j))):=dJ fun _ _ _ _ _ _ _ q=>le_int q
theorem V5:L8 X (compareOp .Gt) (eJ fun i j=>.bl (decide (j<i))):=dJ fun _ _ _ _ _ _ _ q=>gt_int q
theorem U5:L8 X (compareOp .GtE) (eJ fun i j=>.bl (decide (j<=i))):=dJ fun _ _ _ _ _ _ _ q=>ge_int q
theorem M3:L8 X (compareOp .Is) (fun x y H Q=>y=.non/\Q (.bl (decide (x=.non))) H):=by
 intro pins s σ H x y v u Q I rx ry h;obtain⟨rfl,q⟩:=h;cases ry;refine is_none_gen (vB I q ?_);cases x<;>first
  | (cases rx;rfl)
  | (obtain⟨t,rfl⟩:=rx;rfl)
theorem JR(b:Expr){op:CmpOp}(h:op≠.In:=by decide)(h2:op≠.NotIn:=by decide):behindInMarks op b=false:=by
 have e1:(op==CmpOp.In)=false:=by cases op<;>first | rfl | exact absurd rfl h
 have e2:(op==CmpOp.NotIn)=false:=by cases op<;>first | rfl | exact absurd rfl h2
 cases b<;>simp[behindInMarks,e1,e2]
theorem OY{op:CmpOp}{r:R2}(ho:L8 X (compareOp op) r)(ha:PE X a ta)(hb:PE X b tb)(hm:behindInMarks op b=false):PE X (.Compare a [op] [b] pos) (FS r ta tb):=by intro pins s σ H Q I h;exact wpAny_Compare1 (dL ha hb I h fun v u s2 x y H2 I2 rx ry q=>ho pins s2 σ H2 x y v u Q I2 rx ry q) hm
noncomputable def o5(t:TE):TT:=fun σ H Q=>t σ H fun x H'=>∃k,x=.bl k/\Q k H'
theorem cZ{op:CmpOp}{r:R2}(ho:L8 X (compareOp op) r)(ha:PE X a ta)(hb:PE X b tb)(hm:behindInMarks op b=false):PT X (.Compare a [op] [b] pos) (o5 (FS r ta tb)):=by
 intro pins s σ H Q I h;refine wpAny_isTrue_Compare1 (IA (ha pins s σ H _ I h) fun v s1 ⟨x,H1,I1,r1,q1⟩=>IA (hb pins s1 σ H1 _ I1 q1) fun u s2 ⟨y,H2,I2,r2,q2⟩=>
  IA (ho pins s2 σ H2 x y v u _ I2 r1 r2 q2) fun c s3 ⟨z,H3,I3,r3,k,e,q3⟩=>?_) hm
 subst e;cases r3;exact wpAny_truthy_bool ⟨H3,I3,q3⟩
noncomputable def XR(r r':R2)(ta tb tc:TE):TE:=fun σ H Q=>ta σ H fun x H1=>tb σ H1 fun y H2=>r x y H2 fun z H3=>∃k,z=.bl k/\
 (if k=true then tc σ H3 fun w' H4=>r' y w' H4 Q else Q (.bl false) H3)
theorem VX{op op':CmpOp}{r r':R2}(ho:L8 X (compareOp op) r)(ho':L8 X (compareOp op') r')(ha:PE X a ta)(hb:PE X b tb)(hc:PE X c tc)
 (hm:lastMarks [op,op'] [b,c]=false:=by with_unfolding_all rfl):PE X (.Compare a [op,op'] [b,c] pos) (XR r r' ta tb tc):=by
 intro pins s σ H Q I h;refine Compare_chain (IA (ha pins s σ H _ I h) fun v s1 ⟨x,H1,I1,r1,q1⟩=>chain_link (IA (hb pins s1 σ H1 _ I1 q1) fun u s2 ⟨y,H2,I2,r2,q2⟩=>
  IA (ho pins s2 σ H2 x y v u _ I2 r1 r2 q2) fun d s3 ⟨z,H3,I3,r3,k,e,q3⟩=>?_)) hm
 subst e;cases r3;refine wpAny_truthy_bool ?_;cases k with
 | false=>exact ite_ff ⟨.bl false,H3,I3,rfl,q3⟩
 | true=>exact ite_tt (chain_last (IA (hc pins s3 σ H3 _ I3 q3) fun w' s4 ⟨z',H4,I4,r4,q4⟩=>ho' pins s4 σ H4 y z' u w' Q I4 r2 r4 q4))
theorem gG:(sizeLine:Nat)<2^63:=by rw[sizeLine_eq];decide
theorem JV:L8 X (binaryOp .Add) (fun x y H Q=>∃i j,x=.str i/\y=.str j/\i.length+j.length<=sizeLine/\Q (.str (i++j)) H):=by intro pins s σ H x y v u Q I rx ry h;obtain⟨i,j,rfl,rfl,hz,q⟩:=h;obtain⟨t,rfl⟩:=rx;obtain⟨t',rfl⟩:=ry;exact add_str (fun t' tk=>⟨.str (i++j),H,I.tok _,⟨_,rfl⟩,q⟩) hz
theorem BF{x:V}{us:List Value}(r:Vals [x] us):∃u,us=[u]/\RelV x u:=by
 cases r with
 | cons r1 r2=>cases r2;exact⟨_,rfl,r1⟩
theorem C5{x y:V}{us:List Value}(r:Vals [x,y] us):∃u w',us=[u,w']/\RelV x u/\RelV y w':=by
 cases r with
 | cons r1 r2=>
  cases r2 with
  | cons r3 r4=>cases r4;exact⟨_,_,rfl,r1,r3⟩
theorem vV:t8 X (.type "int") (fun xs H Q=>(∃i,xs=[.int i]/\Q (.int i) H)\/∃k,xs=[.bl k]/\Q (.int (if k then 1 else 0)) H):=by
 intro pins s σ H xs us Q I r h;rcases h with⟨i,rfl,q⟩ | ⟨k,rfl,q⟩
 · obtain⟨u,rfl,t,rfl⟩:=BF r;exact call_int_int ⟨.int i,H,I,⟨_,rfl⟩,q⟩
 · obtain⟨u,rfl,r1⟩:=BF r;cases r1;exact call_int_bool ⟨.int (if k then 1 else 0),H,I.tok _,⟨_,rfl⟩,q⟩
end
structure X9(h:Heap)(x dx C:Addr)(mA:Str->Option Value):Prop where
 obj:h.get? x=some (PySem.W.instObj C dx)
 ns:h.Ns1 dx mA
 ne:dx≠x
theorem SV{h:Heap}{dx:Addr}{mA:Str->Option Value}(n:h.Ns1 dx mA):∃od,h.get? dx=some od/\∀name,PySem.W.lookIn name od=some (mA name):=by
 obtain⟨o,es,ep,ho,hd,hk,_,hm⟩:=n;refine⟨o,ho,fun name=>?_⟩;have e:=hm name;unfold nsFind findBy at e;rw[<- Array.find?_toList]at e;unfold PySem.W.lookIn;rw[hd];dsimp only;split
 · rename_i y q;rw[q]at e;exact congrArg some e
 · rename_i q;rw[q]at e;have a:es.toList.any (·.refKey)=false:=by rw[any_eq_false];intro y hy;obtain⟨z,t,hkey⟩:=hk y (Array.mem_toList_iff.mp hy);simp[DictEntry.refKey,hkey]
   have a':¬es.toList.any (·.refKey)=true:=by rw[a];exact Vy
   rw[if_neg a'];exact congrArg some e
theorem X9.look{h:Heap}{x dx C:Addr}{mA:Str->Option Value}(I:X9 h x dx C mA):∃od,PySem.W.InstAt h x (PySem.W.instObj C dx) C (some od)/\∀name,PySem.W.lookIn name od=some (mA name):=
 let ⟨od,ho,hl⟩:=SV I.ns
 ⟨od,⟨I.obj,rfl,rfl,ho⟩,hl⟩
section
variable{prog:Program}{w:World}{A:Around}{E:Value->Shared->Prop}{s:Shared}{K:Frag}{x dx C f:Addr}{mA:Str->Option Value}{name:Str}{v:Value}
theorem tZ{expr:Bool}{Q:Value->Shared->Prop}(X:K.In s.heap)(I:X9 s.heap x dx C mA)(hg:PySem.W.plainGet K C name=true)(hh:PySem.W.hasDictIn K C=true)
 (ha:findIn K (.ref C) name=some none) (hv:mA name=some v) (hv':PySem.W.handedIn v=true) (h:Q v { s with toks:=s.toks+1 }) :
 wpAny (model prog w) A (getAttr (.ref x) name expr) Q E s:=by
 obtain⟨od,J,hl⟩:=I.look;exact PySem.W.get_value X J (PySem.W.plainGet_of hg).1 (PySem.W.findObj_own hh ha rfl (by rw[hl,hv])) hv' h
theorem ZW{pl:Sem Bool}{Q:Value×List Value->Shared->Prop}(X:K.In s.heap)(I:X9 s.heap x dx C mA)(hg:PySem.W.plainGet K C name=true)
 (hf:findIn K (.ref C) name=some (some (.ref f))) (ht:PySem.W.isFn K (.ref f)=true) (hv:mA name=none) (h:Q (.ref f,[.ref x]) s) :
 wpAny (model prog w) A (getMethod (.ref x) name pl) Q E s:=by
 obtain⟨od,J,hl⟩:=I.look;exact PySem.W.method_fn X J (PySem.W.plainGet_of hg).1 (PySem.W.plainGet_of hg).2 hf (beq_iff_eq.mp ht) (by show(PySem.W.lookIn name od).map (·.isSome)=some false;rw[hl,hv];rfl) h
theorem S0{ns:List Str}{Q:Unit->Shared->Prop}(X:K.In s.heap)(I:X9 s.heap x dx C mA)
 (hs:findIn K (.ref C) "__setattr__" =some (some (.builtin "object.__setattr__"))) (hp:PySem.W.plainOver K C=true) (ht:PySem.W.takerIn K C name=some none) (hh:PySem.W.hasDictIn K C=true)
 (hw:PySem.Within mA ns) (hsz:ns.length<=sizeLine)
 (h:∀h',X9 h' x dx C (fun y=>if y=name then some v else mA y)->Heap.SameBut dx s.heap h'->Q () { s with heap:=h',toks:=s.toks+2 }) :
 wpAny (model prog w) A (setAttr (.ref x) name v) Q E s:=by
 obtain⟨od,J,hl⟩:=I.look;refine PySem.W.set_plain X J hs (PySem.W.osa_open (s:={ s with toks:=s.toks+1 }) (r:=none) X J hp ht fun b=>?_);obtain⟨cd,hc,hd'⟩:=PySem.W.any_some hh;have hx:s.heap.get? x=some ⟨.ref C,some dx,.plain,#[]⟩:=I.obj;refine wpAny_bind (wpAny_pure (wpAny_bind (wpAny_bind (wpAny_loadPart hx (wpAny_bind (PySem.W.Looks.here (s:={ s with toks:=s.toks+1 }) (PySem.W.looks_clsIn X hc) ?_))))));rw[hd'];refine wpAny_pure (a:=some dx) (wpAny_bind (wpAny_pure (wpAny_bind ?_)));refine wpAny_nsSet1 (s:={ s with toks:=s.toks+1 }) I.ns fun h' hn2 hs2=>?_
 obtain⟨oD,esD,epD,hoD,hdD,hcD⟩:=hn2.count (PySem.Within.cons name v hw);refine wpAny_bind (wpAny_lookBehind hoD (by rw[hdD];exact pastItsLine_dict (Nat.le_trans hcD (by rw[Fy];omega))) ?_);exact wpAny_pure (h _ ⟨(hs2.2 _ (Ne.symm I.ne)).trans I.obj,hn2,I.ne⟩ hs2)
theorem CW{R:Result->Shared->Prop}{vs:List Value}{kw:List (Str×Value)}(X:K.In s.heap)(hm:PySem.W.makesIn K C=true)
 (hi:findIn K (.ref C) "__init__" =some (some (.ref f))) (hf:PySem.W.typeIn K (.ref f)=some (.type "function"))
 (h:codeAny (model prog w) (A.under (.builtin "type.__call__" ⟨.ref C::vs,kw⟩)) (.call (.ref f) ⟨.ref (s.heap.objs.size+1)::vs,kw⟩) (PySem.W.InitBack (s.heap.objs.size+1) R)
  { s with heap:=(s.heap.push PySem.W.emptyDict).push (PySem.W.instObj C s.heap.objs.size) }) :
 codeAny (model prog w) A (.call (.ref C) ⟨vs,kw⟩) R s:=by
 obtain⟨hh,g,d,t,os⟩:=s;exact PySem.W.make_core (PySem.W.makes_of X hm) (PySem.W.looks_findIn X hi) (fun self=>PySem.W.bind_fn X self hf) (.inl rfl) h
end
noncomputable def jC(f:Str)(v:V):List (Str×V)->List (Str×V)
 | []=>[(f,v)]
 | (g,x)::r=>if g=f then(g,v)::r else(g,x)::jC f v r
theorem CP(f g:Str)(v:V):∀fs:List (Str×V),(jC f v fs).lookup g=if g=f then some v else fs.lookup g
 | []=>by
  show List.lookup g [(f,v)]=_;by_cases h:g=f
  · have hb:(g==f)=true:=beq_iff_eq.mpr h;simp only[List.lookup,hb,if_pos h]
  · have hb:(g==f)=false:=beq_eq_false_iff_ne.mpr h;simp only[List.lookup,hb,if_neg h]
 | (k,x)::r=>by
  have ih:=CP f g v r;rw[show jC f v ((k,x)::r)=(if k=f then(k,v)::r else(k,x)::jC f v r)from rfl];by_cases hk:k=f
  · rw[if_pos hk];by_cases h:g=k
    · have hb:(g==k)=true:=beq_iff_eq.mpr h;simp only[List.lookup,hb,if_pos (h.trans hk)]
    · have hb:(g==k)=false:=beq_eq_false_iff_ne.mpr h;simp only[List.lookup,hb,if_neg (fun e:g=f=>h (e.trans hk.symm))]
  · rw[if_neg hk];by_cases h:g=k
    · have hb:(g==k)=true:=beq_iff_eq.mpr h;simp only[List.lookup,hb,if_neg (fun e:g=f=>hk (h.symm.trans e))]
    · have hb:(g==k)=false:=beq_eq_false_iff_ne.mpr h;simp only[List.lookup,hb];exact ih
theorem gN(f:Str)(v:V):∀fs:List (Str×V),f∈(jC f v fs).map (·.1)/\∀g,g∈fs.map (·.1)->g∈(jC f v fs).map (·.1)
 | []=>⟨by simp[jC],fun g h=>by simp at h⟩
 | (k,x)::r=>by
  obtain⟨i1,i2⟩:=gN f v r;rw[show jC f v ((k,x)::r)=(if k=f then(k,v)::r else(k,x)::jC f v r)from rfl];by_cases hk:k=f
  · rw[if_pos hk];subst hk;exact⟨by simp,fun g h=>by simpa using h⟩
  · rw[if_neg hk];refine⟨?_,fun g h=>?_⟩
    · rw[Hy];exact mem_cons_of_mem _ i1
    · rw[Hy]at h ⊢;rcases mem_cons.mp h with e | e
      · exact mem_cons.mpr (.inl e)
      · exact mem_cons_of_mem _ (i2 g e)
theorem zP(f:Str)(v:V):∀fs:List (Str×V),(jC f v fs).length<=fs.length+1
 | []=>by simp[jC]
 | (k,x)::r=>by
  have ih:=zP f v r;rw[show jC f v ((k,x)::r)=(if k=f then(k,v)::r else(k,x)::jC f v r)from rfl];by_cases hk:k=f
  · rw[if_pos hk,Fy,Fy];omega
  · rw[if_neg hk,Fy,Fy];omega
theorem M8.some_of{v:V}{o:Option Value}(r:M8 (some v) o):∃u,o=some u/\RelV v u:=by
 cases o with
 | none=>exact(show False from r).elim
 | some u=>exact⟨u,rfl,r⟩
theorem M8.none_of{o:Option Value}(r:M8 none o):o=none:=by
 cases o with
 | none=>rfl
 | some u=>exact(show False from r).elim
theorem rW{v:V}{u:Value}(r:RelV v u):PySem.W.handedIn u=true:=by
 cases v with
 | non=>cases (show u=Value.none from r);rfl
 | bl b=>cases (show u=Value.bool b from r);rfl
 | int i=>obtain⟨t,e⟩:=(show ∃t,u=Value.int i t from r);cases e;rfl
 | str x=>obtain⟨t,e⟩:=(show ∃t,u=Value.str x t from r);cases e;rfl
 | kj b=>obtain⟨t,e⟩:=(show ∃t,u=Value.bytes b t from r);cases e;rfl
 | flt b=>obtain⟨t,e⟩:=(show ∃t,u=Value.float b t from r);cases e;rfl
 | ref a=>cases (show u=Value.ref a from r);rfl
 | ty n=>cases (show u=Value.type n from r);rfl
section
variable{P:Program}{w:World}{H H':Hp}{h h':Heap}{a C dx:Addr}{fs fs':List (Str×V)}
theorem PN(hok:Z8 P w H h)(e:H a=some (.ins C dx fs)):∃mA,X9 h a dx C mA/\(∀f,M8 (fs.lookup f) (mA f))/\PySem.Within mA (fs.map (·.1))/\fs.length<=1000/\H dx=some (.own a):=by obtain⟨d,z,ne,ob,mA,n,r,q⟩:=(show Y7 P w H h a (.ins C dx fs)from hok a _ e);exact⟨mA,⟨ob,n,ne⟩,r,q,z,d⟩
end
structure Cls(K:Frag)(C:Addr):Prop where
 pg:PySem.W.plainGet K C Str.empty=true
 hd:PySem.W.hasDictIn K C=true
 po:PySem.W.plainOver K C=true
 sa:findIn K (.ref C) "__setattr__" =some (some (.builtin "object.__setattr__"))
theorem Cls.get{K:Frag}{C:Addr}(c:Cls K C)(f:Str):PySem.W.plainGet K C f=true:=c.pg
noncomputable def K8(K:Frag)(C:Addr)(f:Str):Prop:=findIn K (.ref C) f=some none
theorem K8.taker{K:Frag}{C:Addr}{f:Str}(n:K8 K C f):PySem.W.takerIn K C f=some none:=by unfold PySem.W.takerIn;rw[show findIn K (.ref C) f=some none from n];rfl
structure jF(K:Frag)(C:Addr)(m:Str)(f:Addr):Prop where
 at_:findIn K (.ref C) m=some (some (.ref f))
 fn:PySem.W.isFn K (.ref f)=true
 kp:keepIn K (.ref f)=true
section
variable{X:Cx}{pins:List (Addr×Obj)}{σ:St}{H:Hp}{s:Shared}{a C dx:Addr}{fs:List (Str×V)}{f:Str}{v:V}{A:Around}{E:Value->Shared->Prop}
theorem DV{b:Bool}{Q:Value->Shared->Prop}(I:Inv X pins σ H s)(e:H a=some (.ins C dx fs))(c:Cls X.K C)(n:K8 X.K C f)(l:fs.lookup f=some v)
 (h:∀u s',Inv X pins σ H s'->RelV v u->Q u s'):wpAny (model X.prog X.w) A (getAttr (.ref a) f b) Q E s:=by
 obtain⟨mA,O,r,_,_,_⟩:=PN I.hok e;obtain⟨u,hu,ru⟩:=M8.some_of (v:=v) (o:=mA f) (by rw[<- l];exact r f);exact tZ I.R8 O (c.get f) c.hd n hu (rW ru) (h u _ (I.tok _) ru)
theorem CJ{m:Str}{g:Addr}{pl:Sem Bool}{Q:Value×List Value->Shared->Prop}(I:Inv X pins σ H s)(e:H a=some (.ins C dx fs))(c:Cls X.K C)(k:jF X.K C m g)(l:fs.lookup m=none)
 (h:Q (.ref g,[.ref a]) s):wpAny (model X.prog X.w) A (getMethod (.ref a) m pl) Q E s:=by
 obtain⟨mA,O,r,_,_,_⟩:=PN I.hok e;have hn:mA m=none:=M8.none_of (by rw[<- l];exact r m);exact ZW I.R8 O (c.get m) k.at_ k.fn hn h
theorem oV{y:V}{u:Value}{Q:Unit->Shared->Prop}(I:Inv X pins σ H s)(e:H a=some (.ins C dx fs))(c:Cls X.K C)(n:K8 X.K C f)(hl:fs.length<1000)(ry:RelV y u)
 (h:∀s',Inv X pins σ (DA H a (.ins C dx (jC f y fs))) s'->Q () s'):wpAny (model X.prog X.w) A (setAttr (.ref a) f u) Q E s:=by
 obtain⟨mA,O,r,wi,_,ho⟩:=PN I.hok e;have hz:(fs.map (·.1)).length<=sizeLine:=by rw[length_map,sizeLine_eq];omega
 refine S0 I.R8 O c.sa c.po n.taker c.hd wi hz fun h' O' sb=>h _ ?_
 have hd:∃o,h'.get? dx=some o:=let ⟨o,_,_,e',_⟩:=O'.ns;⟨o,e'⟩
 refine I.write (x:=a) (e:=dx) (by rw[e];exact True.intro) (.inr ho) (fun b q hb z=>(sb.2 b hb).trans z) hd ?_;refine⟨by rw[CA O.ne];exact ho,?_,O.ne,O'.obj,_,O'.ns,fun g=>?_,fun g hg=>?_⟩
 · have:=zP f y fs;omega
 · show M8 ((jC f y fs).lookup g) (if g=f then some u else mA g);rw[CP];by_cases q:g=f
   · rw[if_pos q,if_pos q];exact ry
   · rw[if_neg q,if_neg q];exact r g
 · by_cases q:g=f
   · rw[q];exact(gN f y fs).1
   · refine(gN f y fs).2 g (wi g fun z=>hg ?_);show(if g=f then some u else mA g)=none;rw[if_neg q];exact z
theorem Inv.made(I:Inv X pins σ H s):Inv X pins σ (DA (DA H s.heap.objs.size (.own (s.heap.objs.size+1))) (s.heap.objs.size+1) (.ins C s.heap.objs.size []))
 { s with heap:=(s.heap.push PySem.W.emptyDict).push (PySem.W.instObj C s.heap.objs.size) }:=by
 have e1:(s.heap.push PySem.W.emptyDict).get? s.heap.objs.size=some PySem.W.emptyDict:=Heap.get?_push_size s.heap rfl;have e2:((s.heap.push PySem.W.emptyDict).push (PySem.W.instObj C s.heap.objs.size)).get? (s.heap.objs.size+1)=some (PySem.W.instObj C s.heap.objs.size):=by have:=Heap.get?_push_size (s.heap.push PySem.W.emptyDict) (o:=PySem.W.instObj C s.heap.objs.size) rfl;rwa[Heap.size_push]at this
 have e3:(s.heap.push PySem.W.emptyDict).Ns s.heap.objs.size (fun _=>none):=⟨PySem.W.emptyDict,#[],_,e1,rfl,(fun e he=>absurd he (by simp)),fun _=>rfl⟩;have I1:=I.laid (a:=s.heap.objs.size) (o:=.own (s.heap.objs.size+1)) (h':=s.heap.push PySem.W.emptyDict) (t':=s.toks) (fun b u q=>Heap.get?_push_of_some _ q) (Xy _) ⟨_,e1⟩;refine I1.laid (a:=s.heap.objs.size+1) (o:=.ins C s.heap.objs.size []) (t':=s.toks) (fun b u q=>Heap.get?_push_of_some _ q) (Nat.le_of_eq (Heap.size_push _ _)) ?_;have ne:s.heap.objs.size≠s.heap.objs.size+1:=Nat.ne_of_lt (Nat.lt_succ_self _);refine⟨by rw[CA ne,AB],Nat.zero_le _,ne,e2,fun _=>none,(Heap.Ns1.of_empty e3).at fun o q=>Heap.get?_push_of_some _ q,fun _=>True.intro,fun y hy=>absurd rfl hy⟩
theorem BX{prog:Program}{w:World}{env:Env}{e:Expr}{f:Str}{pos:Pos}{s:Shared}{Q:Value->Shared->Prop}(hb:attributeBase e f env (eval e env)=eval e env)
 (h:wpAny (model prog w) A (eval e env) (fun o s₁=>wpAny (model prog w) A (getAttr o f true) Q E s₁) E s):wpAny (model prog w) A (eval (.Attribute e f pos) env) Q E s:=
 Attribute_any_ h (by rw[arm_eval_Attribute,hb])
end
def nT(K:Frag)(ta:TE)(f:Str):TE:=fun σ H Q=>ta σ H fun x H1=>∃a C dx fs v,x=.ref a/\H1 a=some (.ins C dx fs)/\Cls K C/\K8 K C f/\fs.lookup f=some v/\Q v H1
def kT(K:Frag)(ta tv:TE)(f:Str):TS:=fun D σ H=>tv σ H fun y H1=>ta σ H1 fun x H2=>∃a C dx fs,x=.ref a/\H2 a=some (.ins C dx fs)/\Cls K C/\K8 K C f/\fs.length<1000/\
 D.nx σ (DA H2 a (.ins C dx (jC f y fs)))
section
variable{X:Cx}{o e value:Expr}{f:Str}{pos pos' tpos:Pos}{ta tv:TE}
theorem V3(he:PE X e ta)(hb:attributeBase e f X.env (eval e X.env)=eval e X.env):PE X (.Attribute e f pos) (nT X.K ta f):=by intro pins s σ H Q I h;refine BX hb (IA (he pins s σ H _ I h) fun u s1 zz=>?_);obtain⟨x,H1,I1,rx,a,C,dx,fs,v,ex,ea,c,n,l,q⟩:=zz;subst ex;obtain rfl:u=Value.ref a:=rx;exact DV I1 ea c n l fun u' s2 I2 ru=>⟨v,H1,I2,ru,q⟩
theorem z4(ha:PE X o ta)(hv:PE X value tv)(hs:swapsWith value (some (.Attribute o f pos')) pos.line X.env=pure false):PS X (.Assign [.Attribute o f pos'] value pos) (kT X.K ta tv f):=by intro pins s σ H D I h;refine plainObj_wpAny_Assign_Attribute (IA (hv pins s σ H _ I h) fun u s1 ⟨y,H1,I1,ry,q⟩=>IA (ha pins s1 σ H1 _ I1 q) fun ov s2 zz=>?_) hs;obtain⟨x,H2,I2,rx,a,C,dx,fs,ex,ea,c,n,l,q2⟩:=zz;subst ex;obtain rfl:ov=Value.ref a:=rx;exact oV I2 ea c n l ry fun s3 I3=>⟨σ,_,I3,q2⟩
theorem Z6{pl:Sem Bool}{m:Str}{apos:Pos}{args:List Expr}{pins:List (Addr×Obj)}{s:Shared}{σ:St}{H:Hp}{Q:Value->Shared->Prop}{te:TE}(he:PE X e te)(I:Inv X pins σ H s)
 (h:te σ H fun x H1=>∃a C dx fs g,x=.ref a/\H1 a=some (.ins C dx fs)/\Cls X.K C/\jF X.K C m g/\fs.lookup m=none/\
  ∀s1,Inv X pins σ H1 s1->wpAny (model X.prog X.w) X.A (callWith pos (.ref g) [.ref a] (backTo pos (starEach args X.env)) (backToKw pos (keywordEach [] X.env))) Q X.xe s1)
 (ht:eval (.Call (.Attribute e m apos) args [] pos) X.env=(do
  let ov <- eval e X.env
  standAt apos.atName
  let (f,first) <- holding [ov] (getMethod ov m pl)
  callWith pos f first (backTo pos (starEach args X.env)) (backToKw pos (keywordEach [] X.env)))) :
 wpAny (model X.prog X.w) X.A (eval (.Call (.Attribute e m apos) args [] pos) X.env) Q X.xe s:=by
 refine PySem.W.methodCall_KW (pl:=pl) (IA (he pins s σ H _ I h) fun u s1 zz=>?_) ht;obtain⟨x,H1,I1,rx,a,C,dx,fs,g,ex,ea,c,k,l,q⟩:=zz;subst ex;obtain rfl:u=Value.ref a:=rx;exact CJ I1 ea c k l (q s1 I1)
end
section
variable{X:Cx}{pins:List (Addr×Obj)}{σ:St}{H:Hp}{s:Shared}{A:Around}{E:Value->Shared->Prop}{Q:Value->Shared->Prop}{c:Value}{b:Bool}
end
structure Z7(k:Nat)(A:Around):Prop where
 hd:A.handled=none
 dp:A.depth+3*k+5<recursionLimit
 un:A.units+16*k+200<cLine
theorem Z7.mono{j k:Nat}{A:Around}(r:Z7 k A)(h:j<=k):Z7 j A:=⟨r.hd,by have:=r.dp;omega,by have:=r.un;omega⟩
theorem Z7.deeper{k:Nat}{A:Around}(r:Z7 (k+1) A)(env:Env):Z7 k (A.deeper env):=
 ⟨r.hd,by have:=r.dp;show A.depth+1+3*k+5<_;omega,by have:=r.un;show A.units+3+16*k+200<_;omega⟩
theorem GV {A:Around} {C:Addr} {us:List Value} {kw:List (Str×Value)}:(A.under (.builtin "type.__call__" ⟨.ref C::us,kw⟩)).depth=A.depth+1:=by first | rfl | simp[Around.under,Code.weight,Code.isCreation,Code.isGuard,Code.isCaller,Code.frames,Code.isFrame,guardIds]
theorem HV {A:Around} {C:Addr} {us:List Value} {kw:List (Str×Value)}:(A.under (.builtin "type.__call__" ⟨.ref C::us,kw⟩)).units=A.units+1:=by first | rfl | simp[Around.under,Code.cUnits,Code.frames,Code.isFrame]
theorem Z7.make {k:Nat} {A:Around} (r:Z7 (k+1) A) (C:Addr) (us:List Value) (kw:List (Str×Value)):Z7 k (A.under (.builtin "type.__call__" ⟨.ref C::us,kw⟩)):=
 ⟨r.hd,by have:=r.dp;rw[GV];omega,by have:=r.un;rw[HV];omega⟩
theorem Z7.depth{k:Nat}{A:Around}(r:Z7 k A):A.depth<recursionLimit:=by have:=r.dp;omega
theorem Z7.units{k:Nat}{A:Around}(r:Z7 k A):A.units+64<cLine:=by have:=r.un;omega
noncomputable def dP:TA:=fun _ H Q=>Q [] H
noncomputable def X4(ta:TE)(tr:TA):TA:=fun σ H Q=>ta σ H fun x H1=>tr σ H1 fun xs H2=>Q (x::xs) H2
section
variable{X:Cx}{e:Expr}{es:List Expr}{te:TE}{t:TA}{pos:Pos}
theorem XC:PA X [] dP:=fun _ _ _ _ H Q I h=>Calls.spliced_nil ⟨[],H,I,.nil,h⟩
theorem qC(ha:PE X e te)(hr:PA X es t)(hs:starEach (e::es) X.env=(false,eval e X.env)::starEach es X.env:=by rfl):PA X (e::es) (X4 te t):=by intro pos pins s σ H Q I h;rw[hs];show wpAny _ _ (spliced ((false,eval e X.env)::backTo pos (starEach es X.env))) _ _ s;refine Calls.spliced_cons (IA (ha pins s σ H _ I h) fun u s1 zz=>?_);obtain⟨x,H1,I1,r1,q1⟩:=zz;exact IA (hr pos pins s1 σ H1 _ I1 q1) fun us s2 ⟨xs,H2,I2,r2,q2⟩=>⟨x::xs,H2,I2,.cons r1 r2,q2⟩
def zT(t:TA):TE:=fun σ H Q=>t σ H fun xs H1=>xs.length<=sizeLine/\∀p,H1 p=none->Q (.ref p) (DA H1 p (.tup xs))
def rT(t:TA):TE:=fun σ H Q=>t σ H fun xs H1=>xs.length<=sizeLine/\∀p,H1 p=none->Q (.ref p) (DA H1 p (.lst xs))
theorem k4{x1}(h:PA X es t):PE X (.Tuple es x1 pos) (zT t):=by intro pins s σ H Q I hq;refine wpAny_Tuple_spliced (IA (h pos pins s σ H _ I hq) fun us s1 ⟨xs,H1,I1,r,z,q⟩=>⟨by rw[<- r.length];exact z,?_⟩);have hf:H1 s1.heap.objs.size=none:=I1.hok.fresh (Xy _);refine⟨.ref s1.heap.objs.size,DA H1 s1.heap.objs.size (.tup xs),I1.laid (t':=s1.toks) (fun b u e=>Heap.get?_push_of_some _ e) (Xy _) ?_,rfl,q _ hf⟩;exact⟨z,us,r,⟨_,Heap.get?_push_size _ rfl,rfl,_,rfl⟩⟩
theorem LR(h:PA X es t):PE X (.List es pos) (rT t):=by intro pins s σ H Q I hq;refine wpAny_List_spliced (IA (h pos pins s σ H _ I hq) fun us s1 ⟨xs,H1,I1,r,z,q⟩=>⟨by rw[<- r.length];exact z,?_⟩);have hf:H1 s1.heap.objs.size=none:=I1.hok.fresh (Xy _);refine⟨.ref s1.heap.objs.size,DA H1 s1.heap.objs.size (.lst xs),I1.laid (t':=s1.toks) (fun b u e=>Heap.get?_push_of_some _ e) (Xy _) ?_,rfl,q _ hf⟩;exact⟨z,us,0,r,Heap.get?_push_size _ rfl⟩
end
abbrev Sp:=List V->Hp->VK->XK->Prop
abbrev FF:=List Env->Hp->Shared->XK->Value->Shared->Prop
structure W9(P:Program)(w:World)(K:Frag)(mg:Str->Option Value)(base:Heap)(A:Around)(outer:List Env)(s:Shared)(H:Hp):Prop where
 frames:A.frames=some outer
 mod:Mod K mg base
 bs:∀b o,base.get? b=some o->s.heap.get? b=some o/\H b=none
 Mj:base.objs.size<=s.heap.objs.size
 q9:s.heap.FunFrames base outer
 Tj:∀b∈GF outer,H b=none
 hok:Z8 P w H s.heap
 bare:AllBare s.gens
def CE(outer:List Env)(P:Program)(w:World)(H:Hp)(s:Shared)(Q:VK)(u:Value)(s':Shared):Prop:=
 ∃v H',s'.os=s.os/\AllBare s'.gens/\Un (GF outer) [] H H' s.heap s'.heap/\Z8 P w H' s'.heap/\RelV v u/\Q v H'
def CR(CX:FF)(outer:List Env)(P:Program)(w:World)(H:Hp)(s:Shared)(Q:VK)(E:XK)(r:Result)(s':Shared):Prop:=
 match r with
 | .ok (.ret u)=>CE outer P w H s Q u s'
 | .ok _=>False
 | .error e=>CX outer H s E e s'
structure l8(P:Program)(w:World)(K:Frag)(mg:Str->Option Value)(base:Heap)(CX:FF)(k:Nat)(f:Addr)(fd:FuncData)(ps:List Str)(sp:Sp):Prop where
 len:∀vs H Q E,sp vs H Q E->vs.length=ps.length
 run:∀(A:Around)(outer:List Env)(s:Shared)(H:Hp)(args:Args)(us:List Value)(vs:List V)(Q:VK)(E:XK),Z7 k A->W9 P w K mg base A outer s H->BindsTo s fd args (ps.zip us)->Vals vs us->sp vs H Q E->
  codeAny (model P w) A (.call (.ref f) args) (CR CX outer P w H s Q E) s
theorem l8.mono{P:Program}{w:World}{K:Frag}{mg:Str->Option Value}{base:Heap}{CX:FF}{j k:Nat}{f:Addr}{fd:FuncData}{ps:List Str}{sp:Sp}(F:l8 P w K mg base CX j f fd ps sp)(h:j<=k) :
 l8 P w K mg base CX k f fd ps sp:=⟨F.len,fun A outer s H args us vs Q E hr=>F.run A outer s H args us vs Q E (hr.mono h)⟩
theorem W9.make{P:Program}{w:World}{K:Frag}{mg:Str->Option Value}{base:Heap}{A:Around}{outer:List Env}{s:Shared}{H:Hp}(e:W9 P w K mg base A outer s H)(C:Addr)(us:List Value)(kw:List (Str×Value)) :
 W9 P w K mg base (A.under (.builtin "type.__call__" ⟨.ref C::us,kw⟩)) outer s H:=⟨by first | exact e.frames | (simpa[Around.under,Code.envs,Code.isFrame,pushEnvs]using e.frames),e.mod,e.bs,e.Mj,e.q9,e.Tj,e.hok,e.bare⟩
section
variable{X:Cx}{pins:List (Addr×Obj)}{σ:St}{H:Hp}{s s':Shared}
theorem Inv.env0(I:Inv X pins σ H s):W9 X.prog X.w X.K X.mg X.base X.A X.stack s H:=
 ⟨I.ok.frames,I.ok.mod,I.bs,Nat.le_trans I.ok.Mj I.sz,I.stack,I.O9,I.hok,I.bare⟩
theorem Inv.after{Q:VK}{u:Value}(I:Inv X pins σ H s)(h:CE X.stack X.prog X.w H s Q u s'):EP X pins σ Q u s':=by obtain⟨v,H',os,bare,un,hok,r,q⟩:=h;obtain⟨hh,g,d,t,os'⟩:=s';obtain rfl:os'=s.os:=os;exact⟨v,H',I.call (h':=hh) (g':=g) (d':=d) (t':=t) (ch:=[]) un hok bare (fun b z=>absurd z (by simp)),r,q⟩
end
noncomputable def W4(sp:Sp)(a9:List V)(E:XK)(t:TA):TE:=fun σ H Q=>t σ H fun vs H1=>sp (vs++a9) H1 Q E
def QI(C:Addr)(m:Str)(sp:Sp)(a9:List V)(E:XK)(ta:TE)(t:TA):TE:=fun σ H Q=>ta σ H fun x H1=>∃a dx fs,x=.ref a/\H1 a=some (.ins C dx fs)/\fs.lookup m=none/\
 t σ H1 fun vs H2=>sp (x::(vs++a9)) H2 Q E
def b5(C:Addr)(sp:Sp)(a9:List V)(E:XK)(t:TA):TE:=fun σ H Q=>t σ H fun vs H1=>∀x dx,H1 x=none->H1 dx=none->dx≠x->
 sp (.ref x::(vs++a9)) (DA (DA H1 dx (.own x)) x (.ins C dx [])) (fun v H2=>v=.non/\Q (.ref x) H2) E
noncomputable def Binds(K:Frag)(fd:FuncData)(ps:List Str)(ds:List Value):Prop:=
 ∀(s:Shared)(us:List Value),K.In s.heap->(us++ds).length=ps.length->BindsTo s fd ⟨us,[]⟩ (ps.zip (us++ds))
theorem Binds.all{K:Frag}{fd:FuncData}{ps:List Str}(h:∀us:List Value,us.length=ps.length->bindArgs fd ⟨us,[]⟩=pure (ps.zip us)):Binds K fd ps []:=fun s us _ hl=>by rw[Zy]at hl ⊢;exact .of_eq (h us hl)
def bE(CX:FF)(X:Cx)(E:XK):Prop:=∀(pins:List (Addr×Obj))(σ:St)(H:Hp)(s:Shared)(e:Value)(s':Shared),Inv X pins σ H s->CX X.stack H s E e s'->X.xe e s'
section
variable{X:Cx}{CX:FF}{k:Nat}{f C:Addr}{fd:FuncData}{ps:List Str}{sp:Sp}{a9:List V}{ds:List Value}{E:XK}{x m:Str}{p pos apos:Pos}{e o:Expr}{es:List Expr}{ta:TE}{t:TA}
theorem bO{pins:List (Addr×Obj)}{σ:St}{H:Hp}{s:Shared}{Q:VK}{us:List Value}{vs:List V}(F:l8 X.prog X.w X.K X.mg X.base CX k f fd ps sp)(hr:Z7 k X.A)(hb:Binds X.K fd ps ds)(hd:Vals a9 ds)(hx:bE CX X E)
 (I:Inv X pins σ H s) (r:Vals vs us) (h:sp (vs++a9) H Q E):wpAny (model X.prog X.w) X.A (call (.ref f) us) (EP X pins σ Q) X.xe s:=by
 have r2:Vals (vs++a9) (us++ds):=r.append hd;have hl:(us++ds).length=ps.length:=by rw[<- r2.length];exact F.len _ _ _ _ h
 refine wpAny_call (codeAny_mono (F.run X.A X.stack s H ⟨us,[]⟩ (us++ds) (vs++a9) Q E hr I.env0 (hb s us I.R8 hl) r2 h) fun r s' hq=>?_);cases r with
 | error e=>exact hx pins σ H s e s' I hq
 | ok fl=>
  cases fl with
  | ret u=>exact I.after hq
  | next=>exact False.elim hq
  | brk=>exact False.elim hq
  | cont=>exact False.elim hq
theorem NY(F:l8 X.prog X.w X.K X.mg X.base CX k f fd ps sp)(hr:Z7 k X.A)(hg:Gl X x)(hm:X.mg x=some (.ref f))(hk:keepIn X.K (.ref f)=true)(hb:Binds X.K fd ps ds)(hd:Vals a9 ds)(hx:bE CX X E)
 (ha:PA X (e::es) t) (hdb:(x==("__debug__" :Str))=false:=by decide) (he:starEach (e::es) X.env=(false,eval e X.env)::starEach es X.env:=by rfl) (hpl:(backTo pos (starEach es X.env)).any (·.1)=false:=by rfl) :
 PE X (.Call (.Name x p) (e::es) [] pos) (W4 sp a9 E t):=by
 intro pins s σ H Q I h;refine wpAny_Call_Name_kw (uF I hg hm ?_ hdb);refine PySem.W.callWith_K (h₀:=X.base) I.ok.mod.Uj hk (IA (ha pos pins s σ H _ I h) fun us s1 ⟨vs,H1,I1,r,q⟩=>⟨I1.R8,?_⟩) he hpl;exact bO F hr hb hd hx I1 r q
theorem TQ{pl:Sem Bool}(he:PE X o ta)(c:Cls X.K C)(hm:jF X.K C m f)(F:l8 X.prog X.w X.K X.mg X.base CX k f fd ps sp)(hr:Z7 k X.A)(hb:Binds X.K fd ps ds)(hd:Vals a9 ds)(hx:bE CX X E)(ha:PA X (e::es) t)
 (hst:starEach (e::es) X.env=(false,eval e X.env)::starEach es X.env:=by rfl) (hpl:(backTo pos (starEach es X.env)).any (·.1)=false:=by rfl)
 (ht:eval (.Call (.Attribute o m apos) (e::es) [] pos) X.env=(do
  let ov <- eval o X.env
  standAt apos.atName
  let (f,first) <- holding [ov] (getMethod ov m pl)
  callWith pos f first (backTo pos (starEach (e::es) X.env)) (backToKw pos (keywordEach [] X.env))):=by rfl) :
 PE X (.Call (.Attribute o m apos) (e::es) [] pos) (QI C m sp a9 E ta t):=by
 intro pins s σ H Q I h;refine PySem.W.methodCall_KW (pl:=pl) (IA (he pins s σ H _ I h) fun u s1 zz=>?_) ht;obtain⟨x,H1,I1,rx,a,dx,fs,ex,ea,l,q⟩:=zz;subst ex;obtain rfl:u=Value.ref a:=rx;refine CJ I1 ea c hm l ?_;refine PySem.W.callWith_K (first:=[.ref a]) (h₀:=X.base) I.ok.mod.Uj hm.kp (IA (ha pos pins s1 σ H1 _ I1 q) fun us s2 ⟨vs,H2,I2,r,q2⟩=>⟨I2.R8,?_⟩) hst hpl;exact bO (us:=.ref a::us) (vs:=.ref a::vs) F hr hb hd hx I2 (.cons rfl r) q2
theorem cY{pl:Sem Bool}(he:PE X o ta)(c:Cls X.K C)(hm:jF X.K C m f)(F:l8 X.prog X.w X.K X.mg X.base CX k f fd ps sp)(hr:Z7 k X.A)(hb:Binds X.K fd ps ds)(hd:Vals a9 ds)(hx:bE CX X E)
 (ht:eval (.Call (.Attribute o m apos) [] [] pos) X.env=(do
  let ov <- eval o X.env
  standAt apos.atName
  let (f,first) <- holding [ov] (getMethod ov m pl)
  callWith pos f first (backTo pos (starEach [] X.env)) (backToKw pos (keywordEach [] X.env))):=by rfl) :
 PE X (.Call (.Attribute o m apos) [] [] pos) (QI C m sp a9 E ta dP):=by
 intro pins s σ H Q I h;refine PySem.W.methodCall_KW (pl:=pl) (IA (he pins s σ H _ I h) fun u s1 zz=>?_) ht;obtain⟨x,H1,I1,rx,a,dx,fs,ex,ea,l,q⟩:=zz;subst ex;obtain rfl:u=Value.ref a:=rx;refine CJ I1 ea c hm l ?_;exact PySem.W.callWith_K0 (first:=[.ref a]) I1.R8 hm.kp (bO (us:=[.ref a]) (vs:=[.ref a]) F hr hb hd hx I1 (.cons rfl .nil) q)
structure Mk(K:Frag)(C f:Addr):Prop where
 makes:PySem.W.makesIn K C=true
 init:findIn K (.ref C) "__init__" =some (some (.ref f))
 fn:PySem.W.isFn K (.ref f)=true
 kp:keepIn K (.ref C)=true
theorem qY{pins:List (Addr×Obj)}{σ:St}{H:Hp}{s:Shared}{Q:VK}{us:List Value}{vs:List V}(M:Mk X.K C f)(F:l8 X.prog X.w X.K X.mg X.base CX k f fd ps sp)(hr:Z7 (k+1) X.A)(hb:Binds X.K fd ps ds)(hd:Vals a9 ds)
 (hx:bE CX X E) (I:Inv X pins σ H s) (r:Vals vs us)
 (h:∀x dx,H x=none->H dx=none->dx≠x->sp (.ref x::(vs++a9)) (DA (DA H dx (.own x)) x (.ins C dx [])) (fun v H2=>v=.non/\Q (.ref x) H2) E) :
 wpAny (model X.prog X.w) X.A (call (.ref C) us) (EP X pins σ Q) X.xe s:=by
 have hq:=h (s.heap.objs.size+1) s.heap.objs.size (I.hok.fresh (Nat.le_succ _)) (I.hok.fresh (Xy _)) (Nat.ne_of_lt (Nat.lt_succ_self _));have I2:=Inv.made (C:=C) I;have r2:Vals (V.ref (s.heap.objs.size+1)::(vs++a9)) (Value.ref (s.heap.objs.size+1)::(us++ds)):=.cons rfl (r.append hd);have hl:(Value.ref (s.heap.objs.size+1)::us++ds).length=ps.length:=by have e:=r2.length;rw[F.len _ _ _ _ hq]at e;exact e.symm
 refine wpAny_call (CW (f:=f) I.R8 M.makes M.init (beq_iff_eq.mp M.fn) (codeAny_mono (F.run _ X.stack _ _ ⟨Value.ref (s.heap.objs.size+1)::us,[]⟩ (Value.ref (s.heap.objs.size+1)::(us++ds)) _ _ E (hr.make C us [])
  (I2.env0.make C us []) (hb _ (Value.ref (s.heap.objs.size+1)::us) I2.R8 hl) r2 hq) fun r s' hq'=>?_))
 cases r with
 | error e=>exact hx pins σ _ _ e s' I2 hq'
 | ok fl=>
  cases fl with
  | ret u=>obtain⟨v,H',I3,rv,ev,q3⟩:=I2.after hq';subst ev;exact⟨rv,⟨V.ref (s.heap.objs.size+1),H',I3,rfl,q3⟩⟩
  | next=>exact False.elim hq'
  | brk=>exact False.elim hq'
  | cont=>exact False.elim hq'
theorem SY(M:Mk X.K C f)(F:l8 X.prog X.w X.K X.mg X.base CX k f fd ps sp)(hr:Z7 (k+1) X.A)(hg:Gl X x)(hm:X.mg x=some (.ref C))(hb:Binds X.K fd ps ds)(hd:Vals a9 ds)(hx:bE CX X E)
 (ha:PA X (e::es) t) (hdb:(x==("__debug__" :Str))=false:=by decide) (he:starEach (e::es) X.env=(false,eval e X.env)::starEach es X.env:=by rfl) (hpl:(backTo pos (starEach es X.env)).any (·.1)=false:=by rfl) :
 PE X (.Call (.Name x p) (e::es) [] pos) (b5 C sp a9 E t):=by
 intro pins s σ H Q I h;refine wpAny_Call_Name_kw (uF I hg hm ?_ hdb);refine PySem.W.callWith_K (h₀:=X.base) I.ok.mod.Uj M.kp (IA (ha pos pins s σ H _ I h) fun us s1 ⟨vs,H1,I1,r,q⟩=>⟨I1.R8,?_⟩) he hpl;exact qY M F hr hb hd hx I1 r q
end
section
variable{X:Cx}{CX:FF}{k:Nat}{f C:Addr}{fd:FuncData}{ps ks:List Str}{sp:Sp}{E:XK}{x m:Str}{p pos apos kpos:Pos}{e o:Expr}{es:List Expr}{kws:List Keyword}{te ta:TE}{t tk:TA}{nm:Option Str}
variable{g:List Value->List Value->List Value}{gV:List V->List V->List V}
end
structure ZA(N P:List Str)(sc:Scope):Prop where
 kind:sc.kind=.function
 co:sc.isCoroutine=false
 gen:sc.isGenerator=false
 nd:N.Nodup
 pre:N.take P.length=P
 par:∀x∈P,sc.names.lookup x=some .local\/sc.names.lookup x=some .cell
 pq:∀y∈sc.names,y.2≠.free
theorem NP{kindOf:Str->Option NameKind}{x:Str}:∀{binds:List (Str×Value)}{m:Str->Option Value},(∀v,(x,v)∉binds)->bindL kindOf binds m x=m x
 | [],_,_=>rfl
 | (n,v)::r,m,h=>by
  unfold bindL;rw[NP fun w hw=>h w (mem_cons_of_mem _ hw)];split
  · have:x≠n:=by rintro rfl;exact h v mem_cons_self
    simp[this]
  · rfl
theorem FP{kindOf:Str->Option NameKind}{x:Str}:∀{binds:List (Str×Value)}{m:Str->Option Value},(∀v,(x,v)∉binds)->bindC kindOf binds m x=m x
 | [],_,_=>rfl
 | (n,v)::r,m,h=>by
  unfold bindC;rw[FP fun w hw=>h w (mem_cons_of_mem _ hw)];split
  · rfl
  · have:x≠n:=by rintro rfl;exact h v mem_cons_self
    simp[this]
theorem GP{kindOf:Str->Option NameKind}{x:Str}{v:Value}:∀{P:List Str}{vs:List Value}{i:Nat}{m:Str->Option Value},P.Nodup->P[i]?=some x->vs[i]?=some v->kindOf x=some .local->
 bindL kindOf (P.zip vs) m x=some v
 | [],_,_,_,_,h,_,_=>by simp at h
 | _::_,[],_,_,_,_,h,_=>by simp at h
 | p::P,w::vs,0,m,nd,h1,h2,hk=>by simp at h1 h2;subst h1;subst h2;show bindL kindOf ((p,w)::P.zip vs) m p=_;unfold bindL;rw[NP fun v hv=>(nodup_cons.mp nd).1 (of_mem_zip hv).1,if_pos hk];simp
 | p::P,w::vs,i+1,m,nd,h1,h2,hk=>by show bindL kindOf ((p,w)::P.zip vs) m x=_;unfold bindL;exact GP (i:=i) (nodup_cons.mp nd).2 (by simpa using h1) (by simpa using h2) hk
theorem DP{kindOf:Str->Option NameKind}{x:Str}{v:Value}:∀{P:List Str}{vs:List Value}{i:Nat}{m:Str->Option Value},P.Nodup->P[i]?=some x->vs[i]?=some v->kindOf x≠some .local->
 bindC kindOf (P.zip vs) m x=some v
 | [],_,_,_,_,h,_,_=>by simp at h
 | _::_,[],_,_,_,_,h,_=>by simp at h
 | p::P,w::vs,0,m,nd,h1,h2,hk=>by simp at h1 h2;subst h1;subst h2;show bindC kindOf ((p,w)::P.zip vs) m p=_;unfold bindC;rw[FP fun v hv=>(nodup_cons.mp nd).1 (of_mem_zip hv).1,if_neg hk];simp
 | p::P,w::vs,i+1,m,nd,h1,h2,hk=>by show bindC kindOf ((p,w)::P.zip vs) m x=_;unfold bindC;exact DP (i:=i) (nodup_cons.mp nd).2 (by simpa using h1) (by simpa using h2) hk
noncomputable def fE(N:List Str)(vs:List V):St:=vs.map some++List.replicate (N.length-vs.length) none
noncomputable def iC(CX:FF)(P:Program)(w:World)(K:Frag)(mg:Str->Option Value)(base:Heap)(N:List Str)(qual:Str)(scope:Scope)(f:Addr)(cd:Value)(A:Around)(outer:List Env)(s:Shared)(H:Hp)(E:XK):Cx where
 prog:=P
 w:=w
 K:=K
 mg:=mg
 base:=base
 A:=A.deeper (envOfC qual scope s.heap.objs.size f cd)
 N:=N
 s₀:=s
 H₀:=H
 env:=envOfC qual scope s.heap.objs.size f cd
 outer:=outer
 stack:=envOfC qual scope s.heap.objs.size f cd::outer
 ex:=[]
 calm:=true
 fn:=fun _=>true
 pn:=[]
 xe:=fun e s'=>wpAny (model P w) (A.deeper (envOfC qual scope s.heap.objs.size f cd)) (leaving (envOfC qual scope s.heap.objs.size f cd) e) (fun _ s''=>CX outer H s E e s'') (fun e' s''=>CX outer H s E e' s'') s'
theorem KP{sc:Scope}{n:Nat}{x:Str}(h:sc.names.lookup x=some .cell):∃c,(cellsFrom n sc.names []).lookup x=some c:=by have q:=PySem.W.cellsFrom_some sc.names n [] (.inl h);exact Option.isSome_iff_exists.mp q
theorem uW{CX:FF}{P:Program}{w:World}{K:Frag}{mg:Str->Option Value}{base:Heap}{N ps:List Str}{qual:Str}{scope:Scope}{f:Addr}{cd:Value}{A:Around}{outer:List Env}{s s1:Shared}{H:Hp}{E:XK}{us:List Value}{vs:List V}
 (S:ZA N ps scope) (hd:A.handled=none) (e0:W9 P w K mg base A outer s H) (hl:vs.length=ps.length) (r:Vals vs us)
 (x:InCallC s s.heap.objs.size (bindL (envOfC qual scope s.heap.objs.size f cd).kindOf (ps.zip us) fun _=>none) (cellsFrom (s.heap.objs.size+1) scope.names []) (bindC (envOfC qual scope s.heap.objs.size f cd).kindOf (ps.zip us) fun _=>none) s1) :
 Inv (iC CX P w K mg base N qual scope f cd A outer s H E) [] (fE N vs) H s1:=by
 have hpl:ps.length<=N.length:=by have:=congrArg List.length S.pre;rw[length_take]at this;omega
 obtain⟨h1,tk,rfl,hk⟩:=x.done;have Sq:∀b:Addr,b∉(iC CX P w K mg base N qual scope f cd A outer s H E).ex:=fun b z=>absurd (show b∈([]:List Addr)from z) (by simp)
 refine⟨⟨e0.mod,S.kind,rfl,rfl,Xy _,fun y z c h1 h2=>?_,fun y hy=>?_,fun y c _ h=>?_,fun _=>hd,Around.frames_deeper e0.frames,.inr ⟨rfl,rfl⟩,fun b z=>absurd z (Sq b),e0.bs,e0.Mj,fun b _ _=>Sq b,fun b z=>absurd z (Sq b),e0.q9,e0.Tj⟩,
  rfl,e0.bare,Un.kept hk,⟨_,x.toInCall.ns,fun i y v h1 h2 h3=>?_⟩,fun y c h=>⟨_,x.cell y c h⟩,e0.hok.fresh (Xy _),fun y c h=>?_,fun p hp=>absurd (show p∈([]:List (Addr×Obj))from hp) (by simp),e0.hok.kept hk,?_⟩
 · exact name_of_addr x.apart (PySem.mem_of_lookup h1) (PySem.mem_of_lookup h2)
 · have hy:scope.names.lookup y=some .cell\/scope.names.lookup y=some .free:=hy;rcases hy with hy | hy
   · exact KP hy
   · exact absurd rfl (S.pq _ (PySem.mem_of_lookup hy))
 · exact Nat.le_of_lt (x.above y c (PySem.mem_of_lookup h))
 · have hi:i<vs.length:=by
    unfold fE at h2;by_cases hi:i<vs.length
    · exact hi
    · rw[Yy (by simpa using hi)]at h2;rw[getElem?_replicate]at h2;split at h2<;>cases h2
   have ha:vs[i]?=some v:=by
    unfold fE at h2;rw[Uy (by simpa using hi),getElem?_map]at h2;cases e:vs[i]? with
    | none=>rw[e]at h2;cases h2
    | some a=>rw[e]at h2;cases h2;rfl
   obtain⟨u,hu,rv⟩:=r.get ha;have hp:ps[i]?=some y:=by rw[<- S.pre,getElem?_take_of_lt (by omega)];exact h1
   have yw:ps.Nodup:=by rw[<- S.pre];exact S.nd.sublist (take_sublist _ _)
   refine⟨u,rv,?_⟩;rcases S.par y (mem_of_getElem? hp)with k | k
   · exact .inl ⟨k,GP yw hp hu k⟩
   · obtain⟨c,e⟩:=KP (n:=s.heap.objs.size+1) k;refine .inr ⟨.inl k,c,e,?_⟩;have q:=x.cell y c e;rw[DP yw hp hu (by show scope.names.lookup y≠_;rw[k];decide)]at q;exact q
 · exact e0.hok.fresh (Nat.le_of_lt (x.above y c (PySem.mem_of_lookup h)))
 · unfold fE;show _=N.length;rw[length_append,length_map,length_replicate];omega
theorem dS{CX:FF}{P:Program}{w:World}{K:Frag}{mg:Str->Option Value}{base:Heap}{k:Nat}{f:Addr}{name qual:Str}{params:Arguments}{body:List Stmt}{scope:Scope}{dV kV doc pm cdv ct oc:Value}{an od:Option Addr}
 {osl:Array (Option Value)} {N ps:List Str} {sp:Sp} (lk:K.lookup f=some ⟨oc,od,.func (fnOf name qual params body scope dV kV doc pm an cdv ct),osl⟩) (hcd:PySem.W.codeIn K cdv qual=true) (S:ZA N ps scope)
 (len:∀vs H Q E,sp vs H Q E->vs.length=ps.length)
 (hbody:∀(A:Around)(outer:List Env)(s:Shared)(H:Hp)(vs:List V)(Q:VK)(E:XK),Z7 k (A.deeper (envOfC qual scope s.heap.objs.size f cdv))->sp vs H Q E->
  ∃t,F9 (iC CX P w K mg base N qual scope f cdv A outer s H E) body t/\t { nx:=fun _ H'=>Q .non H',rt:=Q } (fE N vs) H) :
 l8 P w K mg base CX (k+1) f (fnOf name qual params body scope dV kV doc pm an cdv ct) ps sp:=by
 refine⟨len,fun A outer s H args us vs Q E hr e0 hb r hsp=>?_⟩;have hl:=len _ _ _ _ hsp;have KX:K.In s.heap:=e0.mod.Uj.keeps fun b o e=>(e0.bs b o e).1
 have lim:s.heap.NoLimit:=e0.mod.nolimit.keeps fun b o e=>(e0.bs b o e).1
 have hkind:∀y∈ps.zip us,scope.names.lookup y.1=some .local\/(scope.names.lookup y.1=some .cell/\((cellsFrom (s.heap.objs.size+1) scope.names []).lookup y.1).isSome=true):=fun zz hy=>by
  obtain⟨n,v⟩:=zz;rcases S.par n (of_mem_zip hy).1 with q | q
  · exact .inl q
  · exact .inr ⟨q,PySem.W.cellsFrom_some _ _ _ (.inl q)⟩
 refine codeAny_call_function hr.depth (KX _ _ lk) rfl S.co S.gen rfl (PySem.W.codeRec_of KX hcd) (hb _ _ _ _ ?_);refine wpAny_newFunctionEnv_cells S.kind hkind fun env he s1 x=>?_
 subst he;refine⟨lim.keeps x.toInCall.keep,codeAny_func ?_⟩;obtain⟨t,ht,hq⟩:=hbody A outer s H vs Q E (hr.deeper _) hsp;have I:Inv (iC CX P w K mg base N qual scope f cdv A outer s H E) [] (fE N vs) H s1:=uW S hr.hd e0 hl r x;refine wpAny_mono (ht [] s1 (fE N vs) H _ I hq) (fun fl s' hs=>?_) fun e s' hs=>hs
 have fin:∀{σ':St}{H':Hp}{v:V}{u:Value},Inv (iC CX P w K mg base N qual scope f cdv A outer s H E) [] σ' H' s'->RelV v u->Q v H'->CE outer P w H s Q u s':=
  fun {σ' H' v u} J rv q=>⟨v,H',J.os,J.bare,J.base,J.hok,rv,q⟩
 cases fl with
 | ret u=>obtain⟨v,σ',H',J,rv,q⟩:=hs;exact fin J rv q
 | next=>obtain⟨σ',H',J,q⟩:=hs;exact fin (v:=V.non) (u:=Value.none) J rfl q
 | brk=>obtain⟨_,_,_,q⟩:=hs;exact False.elim q
 | cont=>obtain⟨_,_,_,q⟩:=hs;exact False.elim q
section
variable{X:Cx}{x:Str}{p pos:Pos}{e:Expr}{es:List Expr}{t:TA}{id T:String}{r:List V->Hp->VK->Prop}
noncomputable def J6(r:List V->Hp->VK->Prop)(t:TA):TE:=fun σ H Q=>t σ H fun vs H1=>r vs H1 Q
theorem nN (hc:t8 X (.builtin id) r) (hg:Gl X x) (hm:X.mg x=none) (hv:bootBuiltins x=some (.builtin id)) (ha:PA X (e::es) t) (hn:x ≠ "__name__" :=by decide) (hdb:(x==("__debug__" :Str))=false:=by decide)
 (he:starEach (e::es) X.env=(false,eval e X.env)::starEach es X.env:=by rfl) (hpl:(backTo pos (starEach es X.env)).any (·.1)=false:=by rfl):PE X (.Call (.Name x p) (e::es) [] pos) (J6 r t):=by
 intro pins s σ H Q I h;refine wpAny_Call_Name_kw (lH I hg hm hv ?_ hn hdb);exact PyProof.Rows.callWith_builtin1 (IA (ha pos pins s σ H _ I h) fun us s1 ⟨vs,H1,I1,r1,q1⟩=>hc pins s1 σ H1 vs us Q I1 r1 q1) he hpl
theorem fW (hc:t8 X (.type T) r) (hg:Gl X x) (hm:X.mg x=none) (hv:bootBuiltins x=some (.type T)) (ha:PA X (e::es) t) (hn:x ≠ "__name__" :=by decide) (hdb:(x==("__debug__" :Str))=false:=by decide)
 (he:starEach (e::es) X.env=(false,eval e X.env)::starEach es X.env:=by rfl) (hpl:(backTo pos (starEach es X.env)).any (·.1)=false:=by rfl):PE X (.Call (.Name x p) (e::es) [] pos) (J6 r t):=by
 intro pins s σ H Q I h;refine wpAny_Call_Name_kw (lH I hg hm hv ?_ hn hdb);exact PyProof.Rows.callWith_type1 (IA (ha pos pins s σ H _ I h) fun us s1 ⟨vs,H1,I1,r1,q1⟩=>hc pins s1 σ H1 vs us Q I1 r1 q1) he hpl
end
end L2
namespace HT
section
open PySem.SeqAt
open PySem.AutoSeq1 (wpAny_loadPart')
open PySem.MeetsSeq PySem.MeetsSeq2 PySem.MeetsSeq3
end
section
variable{prog:Program}{w:World}{A:Around}{E:Value->Shared->Prop}{s:Shared}
noncomputable def E9(n d:Nat):Option Int->Nat
 | none=>d
 | some v=>if v<0 then(v+(n:Int)).toNat else min v.toNat n
theorem dj(n d k:Nat):E9 n d (some (k:Int))=min k n:=by show(if(k:Int)<0 then((k:Int)+(n:Int)).toNat else min (k:Int).toNat n)=min k n;rw[if_neg (by omega),Int.toNat_natCast]
end
end HT
namespace L2
abbrev TO:=St->Hp->(Option Int->Hp->Prop)->Prop
def PO(X:Cx)(e:Option Expr)(t:TO):Prop:=
 ∀(pins:List (Addr×Obj))(s:Shared)(σ:St)(H:Hp)(Q:Option Int->Hp->Prop),Inv X pins σ H s->t σ H Q->
  wpAny (model X.prog X.w) X.A (evalPart e X.env) (fun u s'=>∃o H',Inv X pins σ H' s'/\IsPart u o/\Q o H') X.xe s
noncomputable def C1:TO:=fun _ H Q=>Q none H
noncomputable def m5(t:TE):TO:=fun σ H Q=>t σ H fun x H1=>∃i,x=.int i/\Q (some i) H1
section
variable{X:Cx}{e:Expr}{te:TE}{lo hi:Option Expr}{tl th:TO}{pos p2:Pos}
theorem XY:PO X none C1:=by intro pins s σ H Q I h;rw[evalPart_none];exact wpAny_pure ⟨none,H,I,.none,h⟩
theorem YY(h:PE X e te):PO X (some e) (m5 te):=by
 intro pins s σ H Q I hw;rw[evalPart_some];refine IA (h pins s σ H _ I hw) fun u s1 zz=>?_
 obtain⟨x,H1,I1,r1,q1⟩:=zz;obtain⟨i,rfl,q⟩:=q1;obtain⟨t,rfl⟩:=r1;exact⟨some i,H1,I1,.int i t,q⟩
def B6(X:Cx)(r:V->Option Int->Option Int->Hp->VK->Prop):Prop:=
 ∀(pins:List (Addr×Obj))(s:Shared)(σ:St)(H:Hp)(x:V)(v vl vu:Value)(lo hi:Option Int)(sl:Addr)(Q:VK),Inv X pins σ H s->RelV x v->s.heap.IsSliceOf sl vl vu .none->IsPart vl lo->IsPart vu hi->r x lo hi H Q->
  ∃T id,typeLookup (.type T) "__getitem__" =pure (some (.builtin id))/\s.TypeIs v T/\wpAny (model X.prog X.w) X.A (getItem v (.ref sl)) (EP X pins σ Q) X.xe s
noncomputable def X6(r:V->Option Int->Option Int->Hp->VK->Prop)(te:TE)(tl th:TO):TE:=fun σ H Q=>te σ H fun x H1=>tl σ H1 fun l H2=>th σ H2 fun u H3=>r x l u H3 Q
theorem eY{r:V->Option Int->Option Int->Hp->VK->Prop}(hr:B6 X r)(he:PE X e te)(hl:PO X lo tl)(hu:PO X hi th):PE X (.Subscript e (.Slice lo hi none p2) pos) (X6 r te tl th):=by
 intro pins s σ H Q I h;refine Subscript_ (IA (he pins s σ H _ I h) fun v s1 zz=>?_);obtain⟨x,H1,I1,r1,q1⟩:=zz;refine wpAny_Slice (IA (hl pins s1 σ H1 _ I1 q1) fun vl s2 ⟨l,H2,I2,pl,q2⟩=>IA (hu pins s2 σ H2 _ I2 q2) fun vu s3 zz=>?_);obtain⟨u,H3,I3,pu,q3⟩:=zz;rw[evalPart_none];refine wpAny_pure ?_;have I4:Inv X pins σ H3 { s3 with heap:=s3.heap.push { cls:=.type "slice",data:=.fields #[vl,vu,.none] } }:=I3.kept (t':=s3.toks) fun b ob q=>Heap.get?_push_of_some _ q
 obtain⟨T,id,hT,ht,hg⟩:=hr pins { s3 with heap:=s3.heap.push { cls:=.type "slice",data:=.fields #[vl,vu,.none] } } σ H3 x v vl vu l u s3.heap.objs.size Q I4 r1 (Heap.IsSliceOf.new ..) pl pu q3;show wpAny (model X.prog X.w) X.A (subscriptTail e (.Slice lo hi none p2) v (.ref s3.heap.objs.size)) (EP X pins σ Q) X.xe { s3 with heap:=s3.heap.push { cls:=.type "slice",data:=.fields #[vl,vu,.none] } };exact tail_any (ops:=[.ref s3.heap.objs.size,v]) ht hT hg (by with_unfolding_all rfl)
def zG(xs:List V)(lo hi:Option Int):List V:=(xs.drop (HT.E9 xs.length 0 lo)).take (HT.E9 xs.length xs.length hi-HT.E9 xs.length 0 lo)
theorem RU(xs:List V)(lo hi:Option Int):(zG xs lo hi).length<=xs.length:=by unfold zG;rw[length_take,length_drop];omega
end
noncomputable def DG(n:Nat)(i:Int):Option Nat:=if 0<=i then(if i<n then some i.toNat else none)else if -(n:Int)<=i then some (i+n).toNat else none
def g9{α:Type}(xs:List α)(i:Int):Option α:=(DG xs.length i).bind fun j=>xs[j]?
theorem OQ{n:Nat}{i:Int}{j:Nat}(h:DG n i=some j):seqIndex? i n=some j/\j<n/\-(n:Int)<=i/\i<n:=by
 unfold DG at h;by_cases h0:0<=i
 · rw[if_pos h0]at h;by_cases h1:i<n
   · rw[if_pos h1]at h;have e:i.toNat=j:=Option.some.inj h;exact⟨by rw[seqIndex_of h0 h1,e],by omega,by omega,h1⟩
   · rw[if_neg h1]at h;cases h
 · rw[if_neg h0]at h;by_cases h1:-(n:Int)<=i
   · rw[if_pos h1]at h;have e:(i+n).toNat=j:=Option.some.inj h;exact⟨by rw[seqIndex_neg (by omega) h1,e],by omega,h1,by omega⟩
   · rw[if_neg h1]at h;cases h
theorem JN{α:Type}{xs:List α}{i:Int}{v:α}(h:g9 xs i=some v):∃j,seqIndex? i xs.length=some j/\xs[j]?=some v/\j<xs.length/\-(xs.length:Int)<=i/\i<xs.length:=by
 unfold g9 at h;cases e:DG xs.length i with
 | none=>rw[e]at h;cases h
 | some j=>rw[e]at h;obtain⟨h1,h2,h3,h4⟩:=OQ e;exact⟨j,h1,h,h2,h3,h4⟩
theorem ED{α:Type}{xs:List α}{j:Nat}{v:α}(h:xs[j]?=some v):g9 xs (j:Int)=some v:=by
 have hj:j<xs.length:=(Sy h).1;have e:DG xs.length (j:Int)=some j:=by unfold DG;rw[if_pos (by omega),if_pos (by omega)];simp
 unfold g9;rw[e];exact h
noncomputable def jR(b:Expr):Prop:=∀o i,subscripted b false o i=operate [o,i] (getItem o i)
def Lj(X:Cx)(r:R2):Prop:=
 ∀(value slice:Expr)(pins:List (Addr×Obj))(s:Shared)(σ:St)(H:Hp)(x y:V)(v u:Value)(Q:VK),Inv X pins σ H s->RelV x v->RelV y u->r x y H Q->
  subscripted slice false v u=operate [v,u] (getItem v u)->wpAny (model X.prog X.w) X.A (subscriptTail value slice v u) (EP X pins σ Q) X.xe s
def rS(X:Cx)(id:String)(r:V->List V->Hp->VK->Prop):Prop:=
 ∀(pins:List (Addr×Obj))(s:Shared)(σ:St)(H:Hp)(x:V)(xs:List V)(v:Value)(us:List Value)(Q:VK),Inv X pins σ H s->RelV x v->Vals xs us->r x xs H Q->
  wpAny (model X.prog X.w) X.A (call (.builtin id) (v::us)) (EP X pins σ Q) X.xe s
section
variable{X:Cx}{a b:Expr}{ta tb:TE}{pos:Pos}
theorem Lj.or{r r':R2}(h:Lj X r)(h':Lj X r'):Lj X (fun x y H Q=>r x y H Q\/r' x y H Q):=by
 intro value slice pins s σ H x y v u Q I rx ry q hs;rcases q with q | q
 · exact h value slice pins s σ H x y v u Q I rx ry q hs
 · exact h' value slice pins s σ H x y v u Q I rx ry q hs
theorem a6{r:R2}(hr:Lj X r)(ha:PE X a ta)(hb:PE X b tb)(hs:jR b):PE X (.Subscript a b pos) (FS r ta tb):=by intro pins s σ H Q I h;exact Subscript_ (dL ha hb I h fun v u s2 x y H2 I2 rx ry q=>hr a b pins s2 σ H2 x y v u Q I2 rx ry q (hs _ _))
def aP(K:Frag):R2:=fun x y H Q=>∃p xs i v,x=.ref p/\y=.int i/\N8 K H p xs/\g9 xs i=some v/\Q v H
def cP(K:Frag):R2:=fun x y H Q=>∃p xs i v,x=.ref p/\y=.int i/\CH K H p xs/\g9 xs i=some v/\Q v H
def bP:R2:=fun x y H Q=>∃z i c,x=.str z/\y=.int i/\z.length<=sizeLine/\g9 z.cps.toList i=some c/\Q (.str ⟨#[c]⟩) H
theorem Pj:Lj X (aP X.K):=by
 intro value slice pins s σ H x y v u Q I rx ry h hs;obtain⟨p,xs,i,z,rfl,rfl,hq,he,q⟩:=h;cases rx;obtain⟨t,rfl⟩:=ry;obtain⟨its,r,pl,hz⟩:=I.list hq;obtain⟨j,h1,h2,h3,h4,h5⟩:=JN he;obtain⟨w,ew,N9⟩:=r.get h2;have hl:=r.length;have hn:=gG;have fin:EP X pins σ Q w s:=⟨z,H,I,N9,q⟩;by_cases h0:0<=i
 · have hj:i.toNat=j:=by rw[seqIndex_of h0 h5]at h1;exact Option.some.inj h1
   exact item_listR pl.isList h0 (by omega) (by rw[hj];simpa using ew) fin hs
 · have hj:(i+(its.toArray.size:Int)).toNat=j:=by rw[seqIndex_neg (by omega) h4]at h1;rw[size_toArray,<- hl];exact Option.some.inj h1
   exact subscriptTail_builtinR (x:=w) pl.isList.typeIs slot_list_getitem.lookup
    (wpAny_getItem_list_neg (Q:=fun r s'=>r=w/\EP X pins σ Q r s') pl.isList (by omega) (by rw[size_toArray]<;>omega) (by omega) (by rw[hj];simpa using ew) ⟨rfl,fin⟩) hs
theorem gq:Lj X (cP X.K):=by
 intro value slice pins s σ H x y v u Q I rx ry h hs;obtain⟨p,xs,i,z,rfl,rfl,hq,he,q⟩:=h;cases rx;obtain⟨t,rfl⟩:=ry;obtain⟨its,r,pl,hz⟩:=I.tuple hq;obtain⟨j,h1,h2,h3,h4,h5⟩:=JN he;obtain⟨w,ew,N9⟩:=r.get h2;have hl:=r.length;have hn:=gG;have fin:EP X pins σ Q w s:=⟨z,H,I,N9,q⟩;exact subscriptTail_builtinR (x:=w) pl.typeIs slot_tuple_getitem.lookup
  (getItem_tuple (j:=j) (Q:=fun r s'=>r=w/\EP X pins σ Q r s') pl (by omega) (by omega) (by rw[size_toArray,<- hl];exact h1) (by simpa using ew) ⟨rfl,fin⟩) hs
theorem u0:Lj X bP:=by
 intro value slice pins s σ H x y v u Q I rx ry h hs;obtain⟨z,i,c,rfl,rfl,hz,he,q⟩:=h;obtain⟨t,rfl⟩:=rx;obtain⟨t',rfl⟩:=ry;obtain⟨j,h1,h2,h3,h4,h5⟩:=JN he;have hl:z.cps.toList.length=z.length:=by simp[Str.length]
 rw[hl]at h1 h4 h5;have hn:=gG;exact tail_any (typeIs_str s z t) slot_str_getitem.lookup (getItem_str (c:=c) (by
  have e1:decide (i < -(2^63:Int))=false:=decide_eq_false (by omega);have e2:decide (i >=2^63)=false:=decide_eq_false (by omega);rw[e1,e2,Bool.or_false]) (by rw[h1];simpa using h2) ⟨.str ⟨#[c]⟩,H,I.tok _,⟨_,rfl⟩,q⟩) hs
def G6(K:Frag):R2:=fun x y H Q=>aP K x y H Q\/cP K x y H Q\/bP x y H Q
theorem n0:Lj X (G6 X.K):=Pj.or (gq.or u0)
theorem IV (its:List Value) (n j:Nat) (u:Value):Obj.mapSeq (·.setIfInBounds j u) { cls:=.type "list",data:=.seq its.toArray n }={ cls:=.type "list",data:=.seq (its.set j u).toArray n }:=by simp[Obj.mapSeq]
theorem Inv.lst{pins:List (Addr×Obj)}{σ:St}{H:Hp}{s:Shared}{p:Addr}{xs:List V}(I:Inv X pins σ H s)(h:H p=some (.lst xs)) :
 ∃(its:List Value) (n:Nat),Vals xs its/\s.heap.get? p=some { cls:=.type "list",data:=.seq its.toArray n }/\xs.length<=sizeLine:=by
 obtain⟨z,its,n,r,e⟩:=I.hok p _ h;exact⟨its,n,r,e,z⟩
theorem Inv.lq{pins:List (Addr×Obj)}{σ:St}{H:Hp}{s:Shared}{p:Addr}{xs ys:List V}{its its':List Value}{n n':Nat}{f:Obj->Obj}(I:Inv X pins σ H s)(h:H p=some (.lst xs))
 (ho:s.heap.get? p=some { cls:=.type "list",data:=.seq its.toArray n }) (hf:f { cls:=.type "list",data:=.seq its.toArray n }={ cls:=.type "list",data:=.seq its'.toArray n' }) (r:Vals ys its') (hz:ys.length<=sizeLine) (t:Nat) :
 Inv X pins σ (DA H p (.lst ys)) { s with heap:=s.heap.update p f,toks:=t }:=by
 have e:(s.heap.update p f).get? p=some { cls:=.type "list",data:=.seq its'.toArray n' }:=by rw[Heap.get?_update_self f ho (by rw[hf]<;>rfl),hf]
 refine I.write (x:=p) (e:=p) (by rw[h];trivial) (.inl rfl) (fun b u hb q=>(Heap.get?_update_other _ _ (Ne.symm hb)).trans q) ⟨_,e⟩ ?_;exact⟨hz,its',n',r,e⟩
def P4:V->V->V->Hp->(Hp->Prop)->Prop:=fun o i v H Q=>∃p xs k j,o=.ref p/\i=.int k/\H p=some (.lst xs)/\DG xs.length k=some j/\Q (DA H p (.lst (xs.set j v)))
theorem rY:OO X P4:=by
 intro pins s σ H o i v ov iv u Q I ro ri rv h;obtain⟨p,xs,k,j,rfl,rfl,hp,hj,q⟩:=h;cases ro;obtain⟨t,rfl⟩:=ri;obtain⟨its,n,r,ho,hz⟩:=I.lst hp;obtain⟨h1,h2,h3,h4⟩:=OQ hj;have hl:=r.length;have hn:=gG;have I':Inv X pins σ (DA H p (.lst (xs.set j v))) { s with heap:=s.heap.update p (Obj.mapSeq (·.setIfInBounds j u)) }:=
  I.lq hp ho (IV its n j u) (r.set rv j) (by rw[length_set];exact hz) s.toks
 by_cases h0:0<=k
 · have hk:k.toNat=j:=by rw[seqIndex_of h0 h4]at h1;exact Option.some.inj h1
   exact PySem.W.ki_setAt ho h0 (by omega) (by rw[size_toArray,<- hl];exact h4) (by rw[hk];exact⟨_,I',q⟩)
 · have hk:(k+(its.toArray.size:Int)).toNat=j:=by rw[seqIndex_neg (by omega) h3]at h1;rw[size_toArray,<- hl];exact Option.some.inj h1
   exact PySem.W.ki_setBack ho (by omega) (by rw[size_toArray,<- hl];exact h3) (by omega) (by rw[hk];exact⟨_,I',q⟩)
theorem yU(lo hi:Option Int)(n:Nat):(sliceBounds lo hi none n).1=((HT.E9 n 0 lo:Nat):Int)/\(sliceBounds lo hi none n).2.1=((HT.E9 n n hi:Nat):Int)/\(sliceBounds lo hi none n).2.2=1:=by
 refine⟨?_,?_,rfl⟩
 · cases lo with
   | none=>simp[sliceBounds,HT.E9]
   | some i=>
    simp only[sliceBounds,HT.E9,Option.getD_none,show(1:Int)>0 by decide,if_true];by_cases h:i<0
    · simp only[h,if_true]<;>omega
    · simp only[h,if_false]<;>omega
 · cases hi with
   | none=>simp[sliceBounds,HT.E9]
   | some i=>
    simp only[sliceBounds,HT.E9,Option.getD_none,show(1:Int)>0 by decide,if_true];by_cases h:i<0
    · simp only[h,if_true]<;>omega
    · simp only[h,if_false]<;>omega
theorem uU(its:List Value)(lo hi:Option Int):slicePick its.toArray lo hi none=((its.drop (HT.E9 its.length 0 lo)).take (HT.E9 its.length its.length hi-HT.E9 its.length 0 lo)).toArray:=by obtain⟨h1,h2,h3⟩:=yU lo hi its.toArray.size;unfold slicePick;rw[h1,h2,h3];simp only[sliceRange_one,pick_run,size_toArray]<;>rfl
def jT(K:Frag):V->Option Int->Option Int->Hp->VK->Prop:=fun x lo hi H Q=>∃a xs,x=.ref a/\N8 K H a xs/\∀p,H p=none->Q (.ref p) (DA H p (.lst (zG xs lo hi)))
theorem U0:B6 X (jT X.K):=by intro pins s σ H x v vl vu lo hi sl Q I rx hs pl pu h;obtain⟨a,xs,rfl,hx,q⟩:=h;cases rx;obtain⟨its,r,ht,hz⟩:=I.list hx;have hlen:=r.length;refine⟨"list",_,slot_list_getitem.lookup,ht.isList.typeIs,?_⟩;refine wpAny_getItem_list_slice ht.isList hs pl pu .none (by simp) ?_ (by rw[size_toArray]<;>omega);rw[uU,<- hlen];refine⟨.ref s.heap.objs.size,_,I.laid (t':=s.toks) (o:=.lst (zG xs lo hi)) (fun b ob q=>Heap.get?_push_of_some _ q) (Xy _) ?_,rfl,q _ (I.hok.fresh (Xy _))⟩;exact⟨Nat.le_trans (RU xs lo hi) hz,_,0,(r.drop (HT.E9 xs.length 0 lo)).take (HT.E9 xs.length xs.length hi-HT.E9 xs.length 0 lo),Heap.get?_push_size _ rfl⟩
theorem mU:t8 X (.builtin "len") (fun xs H Q=>∃p ys,xs=[.ref p]/\(N8 X.K H p ys\/CH X.K H p ys)/\Q (.int ys.length) H):=by
 intro pins s σ H xs us Q I r h;obtain⟨p,ys,rfl,hq,q⟩:=h;obtain⟨u,rfl,rx⟩:=BF r;cases rx;have hn:=gG;rcases hq with hq | hq
 · obtain⟨its,r',pl,hz⟩:=I.list hq;have hlen:=r'.length;exact Calls.call_len_list pl.isList (by simp only[size_toArray]<;>omega) ⟨.int ys.length,H,I.tok _,⟨s.toks+1,by rw[size_toArray,hlen]⟩,q⟩
 · obtain⟨its,r',pl,hz⟩:=I.tuple hq;have hlen:=r'.length;exact len_tuple pl (by simp only[size_toArray]<;>omega) ⟨.int ys.length,H,I.tok _,⟨s.toks+1,by rw[size_toArray,hlen]⟩,q⟩
theorem nU:t8 X (.builtin "len") (fun xs H Q=>∃z,xs=[.str z]/\z.length<=sizeLine/\Q (.int z.length) H):=by intro pins s σ H xs us Q I r h;obtain⟨z,rfl,hz,q⟩:=h;obtain⟨u,rfl,t,rfl⟩:=BF r;have hn:=gG;exact len_str (by omega) ⟨.int z.length,H,I.tok _,⟨_,rfl⟩,q⟩
theorem t8.or{f:Value}{r r':List V->Hp->VK->Prop}(h:t8 X f r)(h':t8 X f r'):t8 X f (fun xs H Q=>r xs H Q\/r' xs H Q):=by
 intro pins s σ H xs us Q I rs q;rcases q with q | q
 · exact h pins s σ H xs us Q I rs q
 · exact h' pins s σ H xs us Q I rs q
theorem oU:t8 X (.type "list") (fun xs H Q=>∃p ys,xs=[.ref p]/\(N8 X.K H p ys\/CH X.K H p ys)/\∀l,H l=none->Q (.ref l) (DA H l (.lst ys))):=by
 intro pins s σ H xs us Q I r h;obtain⟨p,ys,rfl,hq,q⟩:=h;obtain⟨u,rfl,rx⟩:=BF r;cases rx;have fin:∀(its:List Value),Vals ys its->ys.length<=sizeLine->∀(h':Heap)(c':Nat),(∀b o',s.heap.get? b=some o'->h'.get? b=some o')->
  h'.get? s.heap.objs.size=some { cls:=.type "list",dict:=none,data:=.seq its.toArray c',slots:=#[] }->EP X pins σ Q (.ref s.heap.objs.size) { s with heap:=h' }:=fun its r' hz h' c' kp e=>
  ⟨.ref s.heap.objs.size,_,I.laid (t':=s.toks) kp (Xy _) (show Y7 X.prog X.w _ h' _ (.lst ys)from⟨hz,its,c',r',e⟩),rfl,q _ (I.hok.fresh (Xy _))⟩
 rcases hq with hq | hq
 · obtain⟨its,r',pl,hz⟩:=I.list hq;have hlen:=r'.length;obtain⟨o,ho,hc,n,hd⟩:=pl.isList;exact call_list_seq p (.inl rfl) ho hc hd (fun h' c' kp e=>fin its r' hz h' c' kp e) (by simp only[size_toArray]<;>omega)
 · obtain⟨its,r',pl,hz⟩:=I.tuple hq;have hlen:=r'.length;obtain⟨o,ho,hc,n,hd⟩:=pl;exact call_list_seq p (.inr rfl) ho hc hd (fun h' c' kp e=>fin its r' hz h' c' kp e) (by simp only[size_toArray]<;>omega)
def AT(K:Frag)(T:String)(x:V)(H:Hp):Prop:=match x with
 | .str _=>T = "str"
 | .int _=>T = "int"
 | .ref p=>(T = "list" /\ ∃xs,N8 K H p xs)\/(T = "tuple" /\ ∃o,K.lookup p=some o/\o.cls=.type "tuple" /\ o.dict=none)\/
  (T = "dict" /\ ((∃kvs,H p=some (.dK kvs))\/∃kvs,H p=some (.dT kvs)))\/(T = "set" /\ ∃S n,H p=some (.set S n))
 | _=>False
theorem C3{pins:List (Addr×Obj)}{σ:St}{H:Hp}{s:Shared}{T:String}{x:V}{v:Value}(I:Inv X pins σ H s)(r:RelV x v)(ty:AT X.K T x H) :
 s.TypeIs v T/\∀a,v=.ref a->∃ob,s.heap.get? a=some ob/\ob.dict=none:=by
 cases x with
 | str z=>obtain⟨t,rfl⟩:=r;cases (show T = "str" from ty);exact⟨typeIs_str s z t,fun _ e=>nomatch e⟩
 | int i=>obtain⟨t,rfl⟩:=r;cases (show T = "int" from ty);exact⟨typeIs_int s i t,fun _ e=>nomatch e⟩
 | ref p=>
  cases r;rcases ty with⟨rfl,xs,hq⟩ | ⟨rfl,o,hk,hc,hd⟩ | ⟨rfl,hk⟩ | ⟨rfl,S,n,hk⟩
  · obtain⟨its,_,pl,_⟩:=I.list hq;refine⟨pl.isList.typeIs,fun a e=>?_⟩;cases e;obtain⟨o,n,e,c,hd,_⟩:=pl;exact⟨o,e,hd⟩
  · refine⟨⟨o,I.R8 p o hk,hc⟩,fun a e=>?_⟩;cases e;exact⟨o,I.R8 _ o hk,hd⟩
  · have z:∃o,s.heap.get? p=some o/\o.ExactDict:=by
     rcases hk with⟨kvs,hk⟩ | ⟨kvs,hk⟩
     · obtain⟨_,_,_,_,o,_,_,e,ex,_⟩:=I.hok p _ hk;exact⟨o,e,ex⟩
     · obtain⟨_,_,_,_,o,_,_,e,ex,_⟩:=I.hok p _ hk;exact⟨o,e,ex⟩
    obtain⟨o,e,ex⟩:=z;refine⟨⟨o,e,ex.1⟩,fun a e2=>?_⟩;cases e2;exact⟨o,e,ex.2.1⟩
  · obtain⟨o,_,_,_,e,ex,_⟩:=I.hok p _ hk;refine⟨⟨o,e,ex.1⟩,fun a e2=>?_⟩;cases e2;exact⟨o,e,ex.2.1⟩
 | _=>exact False.elim ty
def T6(K:Frag)(T:String)(r:V->List V->Hp->VK->Prop)(to:TE)(t:TA):TE:=fun σ H Q=>to σ H fun x H1=>AT K T x H1/\t σ H1 fun xs H2=>r x xs H2 Q
variable{o e:Expr}{es:List Expr}{to:TE}{t:TA}{name:Str}{apos cpos:Pos}{T id:String}{r:V->List V->Hp->VK->Prop}
theorem KI (pa:PlainAttrs T) (slot:Slot T name id) (hty:typeOf (.builtin id)=pure (.type "method_descriptor")) (hm:rS X id r) (ho:PE X o to) (ha:PA X (e::es) t)
 (hbase:attributeBase o name X.env (eval o X.env)=eval o X.env:=by rfl)
 (hfew:((backTo cpos (starEach (e::es) X.env)).all (fun x=>!x.1)&&(backToKw cpos (keywordEach [] X.env)).all (fun x=>x.1.isSome)
  && decide ((e::es).length+([]:List Keyword).length+(if([]:List Keyword).isEmpty then 0 else 1)<30))=true:=by rfl)
 (hline:(apos.endLine==cpos.line)=true:=by rfl) (hs:starEach (e::es) X.env=(false,eval e X.env)::starEach es X.env:=by rfl) (hplain:(backTo cpos (starEach es X.env)).any (·.1)=false:=by rfl) :
 PE X (.Call (.Attribute o name apos) (e::es) [] cpos) (T6 X.K T r to t):=by
 intro pins s σ H Q I h;refine wpAny_Call_method_late hbase hfew hline rfl (IA (ho pins s σ H _ I h) fun v s1 zz=>?_);obtain⟨x,H1,I1,r1,ty,q1⟩:=zz;obtain⟨h1,h2⟩:=C3 I1 r1 ty;refine⟨T,id,pa,slot,hty,h1,h2,?_⟩;have hA:=ha cpos pins s1 σ H1 _ I1 q1;rw[hs]at hA ⊢;refine Calls.callWith_builtin (by show(false || (backTo cpos (starEach es X.env)).any (·.1))=false;rw[hplain]<;>rfl) (Calls.evalArgs_plain ?_);exact IA hA fun us s2 ⟨vs,H2,I2,r2,q2⟩=>hm pins s2 σ H2 x vs v us Q I2 r1 r2 q2
end
def A6(X:Cx)(id:String)(r:V->List V->Hp->VK->Prop):Prop:=
 ∀(pins:List (Addr×Obj))(s:Shared)(σ:St)(H:Hp)(x:V)(xs:List V)(v:Value)(us:List Value)(Q:VK),Inv X pins σ H s->RelV x v->Vals xs us->r x xs H Q->
  wpAny (model X.prog X.w) X.A (call (.builtin id) (v::us)) (EP X pins σ Q) X.xe s
theorem Vals.one:∀{x:V}{us:List Value},Vals [x] us->∃u,us=[u]/\RelV x u
 | _,_,.cons r .nil=>⟨_,rfl,r⟩
theorem Vals.two:∀{x y:V}{us:List Value},Vals [x,y] us->∃u v,us=[u,v]/\RelV x u/\RelV y v
 | _,_,_,.cons r (.cons q .nil)=>⟨_,_,rfl,r,q⟩
theorem Vals.zero:∀{us:List Value},Vals [] us->us=[]
 | _,.nil=>rfl
section
variable{X:Cx}{pins:List (Addr×Obj)}{σ:St}{H:Hp}{s:Shared}{l b:Addr}{xs ys zs:List V}
theorem Inv.Oq{its its':List Value}{n:Nat}{f:Array Value->Array Value}{t':Nat}(I:Inv X pins σ H s)(hH:H l=some (.lst xs))
 (e:s.heap.get? l=some { cls:=.type "list",data:=.seq its.toArray n }) (hf:f its.toArray=its'.toArray) (hv:Vals ys its') (hz:ys.length<=sizeLine) :
 Inv X pins σ (DA H l (.lst ys)) { s with heap:=s.heap.update l (Obj.mapSeq f),toks:=t' }:=by
 have q:=PySem.IsL.update e f;rw[hf]at q;refine I.write (x:=l) (e:=l) (by rw[hH];exact trivial) (.inl rfl) (fun b' u hb hu=>(Heap.get?_update_other s.heap (Obj.mapSeq f) (Ne.symm hb)).trans hu) ⟨_,q⟩ ?_;exact⟨hz,its',_,hv,q⟩
theorem Inv.Nq{its:List Value}{t':Nat}(I:Inv X pins σ H s)(hv:Vals ys its)(hz:ys.length<=sizeLine) :
 Inv X pins σ (DA H s.heap.objs.size (.lst ys)) { s with heap:=s.heap.push { cls:=.type "list",data:=.seq its.toArray },toks:=t' }:=
 I.laid (fun _ _ q=>Heap.get?_push_of_some _ q) (Xy _) ⟨hz,its,0,hv,Heap.get?_push_size _ rfl⟩
theorem Inv.fresh(I:Inv X pins σ H s):H s.heap.objs.size=none:=I.hok.fresh (Xy _)
theorem Inv.jq (I:Inv X pins σ H s) (hH:H l=some (.lst xs)):xs.length<=sizeLine/\∃(its:List Value) (n:Nat),Vals xs its/\xs.length=its.length/\s.heap.get? l=some { cls:=.type "list",data:=.seq its.toArray n }:=by obtain⟨z,its,n,r,e⟩:=I.hok l _ hH;exact⟨z,its,n,r,r.length,e⟩
theorem KW{n:Nat}(h:n<=sizeLine):Builtin.List.listTooLong n=false:=by unfold Builtin.List.listTooLong;exact decide_eq_false (by omega)
end
section
variable{X:Cx}
def Q0:V->List V->Hp->VK->Prop:=fun x vs H Q=>∃l xs y,x=.ref l/\vs=[y]/\H l=some (.lst xs)/\xs.length<sizeLine/\Q .non (DA H l (.lst (xs++[y])))
theorem ZP:A6 X "list.append" Q0:=by intro pins s σ H x vs v us Q I rx rv h;obtain⟨l,xs,y,rfl,rfl,hH,hz,q⟩:=h;cases rx;obtain⟨u,rfl,ru⟩:=rv.one;obtain⟨z,its,n,r,hl,e⟩:=I.jq hH;refine call_meets F.slot_list_append ⟨_,e,rfl⟩ F.entry_list_append (F.args_list_append_2 _ _) (PySem.list_append l its.toArray n u (by rw[size_toArray];omega)) ⟨e,?_⟩;refine⟨.non,_,I.Oq (its':=its++[u]) hH e (by simp) (r.append (.cons ru .nil)) ?_,rfl,q⟩;rw[length_append,length_singleton];omega
def R0:V->List V->Hp->VK->Prop:=fun x vs H Q=>∃l b xs zs,x=.ref l/\vs=[.ref b]/\H l=some (.lst xs)/\H b=some (.lst zs)/\xs.length+zs.length<=sizeLine/\Q .non (DA H l (.lst (xs++zs)))
theorem WV:A6 X "list.extend" R0:=by
 intro pins s σ H x vs v us Q I rx rv h;obtain⟨l,b,xs,zs,rfl,rfl,hH,hB,hz,q⟩:=h;cases rx;obtain⟨u,rfl,ru⟩:=rv.one;cases ru;obtain⟨z,its,n,r,hl,e⟩:=I.jq hH;obtain⟨z2,its2,n2,r2,hl2,e2⟩:=I.jq hB;have hsz:its.toArray.size+its2.toArray.size<=sizeLine:=by rw[size_toArray,size_toArray];omega
 have Lq:¬(!its.toArray.isEmpty&&Builtin.List.listTooLong (its.toArray.size+its2.toArray.size))=true:=by rw[KW hsz,Bool.and_false];exact Vy
 refine call_meets F.slot_list_extend ⟨_,e,rfl⟩ F.entry_list_extend (F.args_list_extend_2 _ _)
  (AutoSeq1.list_extend_list_list_0 l its.toArray n b its2.toArray n2 Lq (by rw[size_toArray];omega) (by omega)) ⟨e,e2,?_⟩
 refine⟨.non,_,I.Oq (its':=its++its2) hH e (by simp) (r.append r2) ?_,rfl,q⟩;rw[length_append];omega
end
section
variable{prog:Program}{w:World}{A:Around}{E:Value->Shared->Prop}{s:Shared}
end
section
variable{X:Cx}
end
end L2
namespace Vv
open PySem.W PySem.Calls
theorem UT{P:Params}{h:Heap}:∀(ns:List Int)(vs:List Value),WellAll P h vs (ns.map WData.int)->IntsAre vs ns:=by
 intro ns
 induction ns with
 | nil=>intro vs w;rw[Jy]at w;cases w;exact .nil
 | cons n ns ih=>
  intro vs w;rw[Hy]at w;cases w with
  | cons a b=>cases a;exact .cons _ _ (ih _ b)
theorem kX{l:OpenLaw}{n:Nat}(hn:l.most=some n){P:Params}{h:Heap}{args:List WData}{vals:List Value}
 (hpre:l.row.toRowW.claim.pre args=true) (hwl:WellAll P h vals args) :
 ∃a vs ns,vals=[Value.ref a]/\args=[WData.list (ns.map WData.int)]/\h.get? a=some { cls:=.type "list",data:=.seq vs.toArray }/\IntsAre vs ns/\ns.length<=n:=by
 have hsh:WShape.hasAll [] args [.list .int]=true:=(pre_splitW hpre).1;have hc:l.pre.holds [] { args:=args }=true:=(pre_splitW hpre).2;obtain⟨d,r,rfl,h1,h2⟩:=hasAllW_cons hsh;obtain rfl:=hasAllW_nil h2;obtain⟨xs,rfl,h3⟩:=hasW_list h1;obtain⟨ns,rfl⟩:=items_int h3;have hlen:ns.length<=n:=by
  unfold OpenLaw.pre at hc;have h4:(WTm.not (.lt (.lit (.int (n:Int))) (.len (.arg 0)))).holds [] { args:=[.list (ns.map .int)] }=true:=by have h4:=(holds_andW hc).1;rw[hn]at h4;exact h4
  have h5:=condW_of h4 (w_not (w_lt w_lit (w_len_list (w_arg rfl))));rw[length_map]at h5;refine Nat.le_of_not_lt fun q=>?_
  have q':(n:Int)<((ns.length:Nat):Int):=by omega
  first
   | (rw[decide_eq_true q']at h5;exact absurd h5 (by decide))
   | (simp at h5;omega)
 cases hwl with
 | cons w1 w2=>
  cases w2;cases w1 with
  | list ho hall=>exact⟨_,_,ns,rfl,rfl,ho,UT ns _ hall,hlen⟩
theorem MV(l:OpenLaw)(args:List WData):l.row.toRowW.claim.post args (.bool true) args=true:=
 postW_of (r:=l.row.toRowW) (X:=(true==true))
  (show WShape.has [] (.bool true) .bool=true by first | rfl | decide | simp[WShape.has,WShape.arms,WShape.armsAll])
  (show(WTm.eq .res (.lit (.bool true))).value [] { args:=args,res:=some (.bool true),after:=args }=some (.bool (true==true))from w_eq_bool (w_res rfl) w_lit) rfl
theorem Q9{l:OpenLaw}{n:Nat}{q:Program}{loose:List Str}{XP:(Str->Option Value)->Heap->Prop}{YP:World->Heap->Prop}{d:DefRec}
 (hn:l.most=some n) (hdf:d.params.defaults=[])
 (call:∀(w:World)(s₀ s₁:Shared)(mg mb:Str->Option Value)(fa:Addr)(o:Obj)(pm cd doc:Value)(a:Addr)(vs:List Value)(ns:List Int),
  Ground q loose [] XP w s₀ mg mb s₁.heap->YP w s₁.heap->
  s₁.heap.get? fa=some o->o.data=.func (docDef d.name d.params d.body d.scope pm cd doc)->s₁.heap.CodeRec cd d.name->mg d.name=some (.ref fa)->
  s₁.heap.get? a=some { cls:=.type "list",data:=.seq vs.toArray }->IntsAre vs ns->ns.length<=n->s₁.gens=#[]->
  codeAny (model l.prog w) callerA (.call (.ref fa) ⟨[.ref a],[]⟩) (fun r s'=>r=.ok (.ret (.bool true))/\OldK s₁.heap s'.heap/\s'.os=s₁.os/\AllBare s'.gens) s₁) :
 WalkO q loose XP YP l.row.toRowW d [] (fun f vs=>PySem.call f vs):=by
 intro w s₀ s₁ mg mb G Y fa o pm cd doc dV kV ho hd hcd hD hmg hg args vals as hpre hlay hrd hwl hlo;obtain rfl:dV=.none:=Dflts.none hD hdf;obtain rfl:kV=.none:=Dflts.noKw hD;obtain⟨a,vs,ns,rfl,rfl,hobj,hints,hlen⟩:=kX hn hpre hwl;refine enter_call (codeAny_mono (call w s₀ s₁ mg mb fa o pm cd doc a vs ns G Y ho (fd_plain hd) hcd hmg hobj hints hlen hg) fun r s' hq=>?_);obtain⟨rfl,h2,h3,h4⟩:=hq;exact⟨.inl ⟨.bool true,.bool true,[],rfl,fun _=>rfl,.bool true,MV l _,fun _=>⟨List.Pairwise.nil,fun _ hm=>(nomatch hm)⟩⟩,h2,h3,h4⟩
section
variable{prog:Program}{w:World}{A:Around}{E:Value->Shared->Prop}{s:Shared}{K:Frag}
end
end Vv
namespace L2
theorem iQ:∀{vs:List Value}{ns:List Int},IntsAre vs ns->Vals (ns.map V.int) vs
 | _,_,.nil=>.nil
 | _,_,.cons n t h=>.cons ⟨t,rfl⟩ (iQ h)
noncomputable def ZK(H:Hp):Prop:=∀b,H b=none\/∃o xs,H b=some (.b9 o (.lst xs))
theorem fX{P:Program}{w:World}{K:Frag}{mg mb:Str->Option Value}{CX:FF}{k:Nat}{fa a:Addr}{fd:FuncData}{x:Str}{sp:Sp}{s₁:Shared}{vs:List Value}{ns:List Int}
 (KX:K.In s₁.heap) (hns:s₁.heap.Ns mainGlobals mg) (hb:s₁.heap.Ns builtinsNs mb) (hbb:∀x:Str,x ≠ "__name__" ->mb x=bootBuiltins x) (hlim:s₁.heap.NoLimit) (hg:s₁.gens=#[])
 (ha:s₁.heap.get? a=some { cls:=.type "list",data:=.seq vs.toArray }) (hi:IntsAre vs ns) (hl:ns.length<=sizeLine) (hr:Z7 k callerA)
 (F:∀base:Heap,K.In base->base.Ns mainGlobals mg->l8 P w K mg base CX k fa fd [x] sp) (hbind:∀(s:Shared)(u:Value),BindsTo s fd ⟨[u],[]⟩ [(x,u)])
 (hsp:∀H:Hp,ZK H->N8 K H a (ns.map V.int)->sp [.ref a] H (fun v _=>v=.bl true) fun _ _ _=>False)
 (Zz:∀H e s',CX [] H s₁ (fun _ _ _=>False) e s'->False) :
 codeAny (model P w) callerA (.call (.ref fa) ⟨[.ref a],[]⟩) (fun r s'=>r=.ok (.ret (.bool true))/\OldK s₁.heap s'.heap/\s'.os=s₁.os/\AllBare s'.gens) s₁:=by
 have rv:=iQ hi;have lenV:=hi.length;have core:∀H:Hp,ZK H->N8 K H a (ns.map V.int)->Z8 P w H s₁.heap->(∀b,H b≠none->b=a)->(H a≠none->K.lookup a=none)->
  codeAny (model P w) callerA (.call (.ref fa) ⟨[.ref a],[]⟩) (fun r s'=>r=.ok (.ret (.bool true))/\OldK s₁.heap s'.heap/\s'.os=s₁.os/\AllBare s'.gens) s₁:=by
  intro H hO hS hok hA hK;have iK:∀{b:Addr}{o:Obj},s₁.heap.get? b=some o->H b=none->(IE s₁.heap H).get? b=some o:=fun e n=>aX e n
  have Sq:∀{b:Addr}{o:Obj}{es:Array DictEntry}{ep:Nat},s₁.heap.get? b=some o->o.data=.dict es ep->H b=none:=fun {b o es ep} e d=>by
   cases q:H b with
   | none=>rfl
   | some u=>have e':b=a:=hA b (by rw[q];simp);subst e';rw[ha]at e;cases e;have d':Data.seq vs.toArray _=Data.dict es ep:=d;cases d'
  have Tz:∀{b:Addr}{m:Str->Option Value},s₁.heap.Ns b m->(IE s₁.heap H).Ns b m:=fun {b m} ⟨o,es,ep,e,d,r⟩=>⟨o,es,ep,iK e (Sq e d),d,r⟩
  have bw:K.In (IE s₁.heap H):=fun b o e=>iK (KX b o e) (by
   cases q:H b with
   | none=>rfl
   | some u=>
    have e':b=a:=hA b (by rw[q];simp);subst e';rw[hK (by rw[q];simp)]at e;cases e)
  have hM:Mod K mg (IE s₁.heap H):=⟨bw,Tz hns,⟨mb,Tz hb,hbb⟩,let ⟨mc,h1,h2⟩:=hlim;⟨mc,Tz h1,h2⟩⟩;have e0:W9 P w K mg (IE s₁.heap H) callerA [] s₁ H:=⟨rfl,hM,fun b o e=>JY e,Nat.le_of_eq (sW _ _),trivial,fun b hb=>absurd (show b∈([]:List Addr)from hb) (by simp),hok,.of_eq hg⟩;refine codeAny_mono ((F _ bw (Tz hns)).run callerA [] s₁ H ⟨[.ref a],[]⟩ [.ref a] [.ref a] _ _ hr e0 (hbind s₁ (.ref a)) (.cons rfl .nil) (hsp H hO hS)) fun r s' h=>?_
  cases r with
  | error e=>exact(Zz H e s' h).elim
  | ok fl=>
   cases fl with
   | next=>exact False.elim h
   | brk=>exact False.elim h
   | cont=>exact False.elim h
   | ret u=>
    obtain⟨v,H',os,bare,un,hok',r',q⟩:=h;have q':v=.bl true:=q;subst q';obtain rfl:u=Value.bool true:=r';refine⟨rfl,OldK.of_keep fun b o e=>?_,os,bare⟩;cases q:H b with
    | none=>exact un.keep b o e q (by intro z;exact absurd (show b∈([]:List Addr)from z) (by simp)) (by simp)
    | some u=>
     rcases hO b with z | ⟨ob,xs,z⟩
     · rw[q]at z;cases z
     · have z2:=un.Y8 b ob _ z;obtain⟨e1,_⟩:=hok b _ z;obtain⟨e2,_⟩:=hok' b _ z2;rw[e]at e1;cases e1;exact e2
 cases hk:K.lookup a with
 | some o=>have e:=KX a o hk;rw[ha]at e;cases e;refine core (fun _=>none) (fun _=>.inl rfl) (.inr ⟨_,vs.toArray,_,hk,rfl,rfl,rfl,by rw[size_toArray,lenV];exact hl,by simpa using rv⟩) (fun b u z=>by have z':(none:Option HO)=some u:=z;cases z') (fun b z=>absurd rfl z) fun z=>absurd rfl z
 | none=>
  refine core (fun b=>if b=a then some (.b9 { cls:=.type "list",data:=.seq vs.toArray } (.lst (ns.map V.int)))else none) (fun b=>?_) (.inl (.inr ⟨{ cls:=.type "list",data:=.seq vs.toArray },if_pos rfl⟩)) (fun b u z=>?_) (fun b z=>?_) fun _=>hk
  · by_cases hb:b=a
    · exact .inr ⟨_,_,if_pos hb⟩
    · exact .inl (if_neg hb)
  · by_cases hb:b=a
    · have z':=(if_pos hb).symm.trans z;cases z';subst hb;exact⟨ha,by rw[length_map];exact hl,vs,_,rv,ha⟩
    · have z':=(if_neg hb).symm.trans z;cases z'
  · by_cases hb:b=a
    · exact hb
    · exact absurd (if_neg hb) z
theorem F1{l:PySem.W.OpenLaw}{n k:Nat}{q:Program}{loose:List Str}{XP:(Str->Option Value)->Heap->Prop}{YP:World->Heap->Prop}{d:DefRec}{K:Params->Frag}{CX:World->FF}{sp:World->Sp}{x:Str}
 (hn:l.most=some n) (hn2:n<=sizeLine) (hdf:d.params.defaults=[]) (hr:Z7 k callerA)
 (hY:∀(w:World)(h:Heap),YP w h->(K w.params).In h)
 (F:∀(w:World)(mg:Str->Option Value)(fa:Addr)(h:Heap),(K w.params).In h->h.Ns mainGlobals mg->mg d.name=some (.ref fa)->
  ∃fd:FuncData,(∀(s:Shared)(u:Value),BindsTo s fd ⟨[u],[]⟩ [(x,u)])/\
   ∀base:Heap,(K w.params).In base->base.Ns mainGlobals mg->l8 l.prog w (K w.params) mg base (CX w) k fa fd [x] (sp w))
 (hsp:∀(w:World)(H:Hp)(a:Addr)(ns:List Int),ns.length<=n->ZK H->N8 (K w.params) H a (ns.map V.int)->sp w [.ref a] H (fun v _=>v=.bl true) fun _ _ _=>False)
 (Zz:∀(w:World)(H:Hp)(s:Shared)(e:Value)(s':Shared),CX w [] H s (fun _ _ _=>False) e s'->False) :
 PySem.W.WalkO q loose XP YP l.row.toRowW d [] (fun f vs=>PySem.call f vs):=by
 refine Vv.Q9 hn hdf fun w s₀ s₁ mg mb fa o pm cd doc a vs ns G Y ho hd hcd hmg hobj hints hlen hg=>?_
 have KX:=hY w _ Y;obtain⟨fd,hb,hF⟩:=F w mg fa _ KX G.T.g hmg;exact fX KX G.T.g G.T.b G.T.builtins G.T.nolimit hg hobj hints (Nat.le_trans hlen hn2) hr hF hb (fun H hO hS=>hsp w H a ns hlen hO hS) fun H e s'=>Zz w H s₁ e s'
noncomputable def vE(s:Stmt)(j:Nat):Stmt:=match s with
 | .ClassDef _ _ _ body _ _ _ _ _ _ _=>body.getD j (.Pass ⟨0,0,0,0⟩)
 | _=>.Pass ⟨0,0,0,0⟩
noncomputable def eE(s:Stmt):Arguments:=match s with
 | .FunctionDef _ a _ _ _ _ _ _ _ _=>a
 | _=>{ posonlyargs:=[],args:=[],vararg:=none,kwonlyargs:=[],kw_defaults:=[],kwarg:=none,defaults:=[] }
noncomputable def fC(s:Stmt):List Stmt:=match s with
 | .FunctionDef _ _ b _ _ _ _ _ _ _=>b
 | _=>[]
noncomputable def oA(s:Stmt):Scope:=match s with
 | .FunctionDef _ _ _ _ _ _ sc _ _ _=>sc
 | _=>{ kind:=.function,names:=[],isGenerator:=false,isCoroutine:=false }
noncomputable abbrev TD:FF:=fun _ _ _ _ _ _=>False
noncomputable abbrev E0:XK:=fun _ _ _=>False
theorem LK{X:Cx}:bE TD X E0:=fun _ _ _ _ _ _ _ h=>h.elim
structure Z9(K:Frag)(x qual:Str)(st:Stmt)(f:Addr)(fd:FuncData):Prop where
 ex:∃(oc:Value)(od:Option Addr)(kV doc pm:Value)(an:Option Addr)(cdv ct:Value)(osl:Array (Option Value)),
  fd=fnOf x qual (eE st) (fC st) (oA st) .none kV doc pm an cdv ct/\K.lookup f=some ⟨oc,od,.func fd,osl⟩/\PySem.W.codeIn K cdv qual=true
 kp:keepIn K (.ref f)=true
section
variable{P:Program}{w:World}{K:Frag}{mg:Str->Option Value}{base:Heap}
theorem Z9.ok{x qual:Str}{st:Stmt}{f:Addr}{fd:FuncData}{N ps:List Str}{k:Nat}{sp:Sp}(F:Z9 K x qual st f fd)(S:ZA N ps (oA st))(len:∀vs H Q E,sp vs H Q E->vs.length=ps.length)
 (hbody:∀(cdv:Value)(A:Around)(outer:List Env)(s:Shared)(H:Hp)(vs:List V)(Q:VK)(E:XK),Z7 k (A.deeper (envOfC qual (oA st) s.heap.objs.size f cdv))->sp vs H Q E->
  ∃t,F9 (iC TD P w K mg base N qual (oA st) f cdv A outer s H E).Y9 (fC st) t/\t { nx:=fun _ H'=>Q .non H',rt:=Q } (fE N vs) H):l8 P w K mg base TD (k+1) f fd ps sp:=by
 obtain⟨oc,od,kV,doc,pm,an,cdv,ct,osl,rfl,lk,hcd⟩:=F.ex;refine dS lk hcd S len fun A outer s H vs Q E hr hsp=>?_
 obtain⟨t,h,q⟩:=hbody cdv A outer s H vs Q E hr hsp;exact⟨t,h.Y9,q⟩
theorem Z9.binds{x qual:Str}{st:Stmt}{f:Addr}{fd:FuncData}{ps:List Str}(F:Z9 K x qual st f fd)
 (h:∀(kV doc pm:Value)(an:Option Addr)(cdv ct:Value)(us:List Value),us.length=ps.length->bindArgs (fnOf x qual (eE st) (fC st) (oA st) .none kV doc pm an cdv ct) ⟨us,[]⟩=pure (ps.zip us)):Binds K fd ps []:=by
 obtain⟨oc,od,kV,doc,pm,an,cdv,ct,osl,rfl,lk,hcd⟩:=F.ex;exact .all (h kV doc pm an cdv ct)
theorem xI{x qual:Str}{st:Stmt}{f:Addr}{oc:Value}{od an:Option Addr}{osl:Array (Option Value)}{kV doc pm cdv ct:Value}(l:K.lookup f=some ⟨oc,od,.func (fnOf x qual (eE st) (fC st) (oA st) .none kV doc pm an cdv ct),osl⟩)
 (c:PySem.W.codeIn K cdv qual=true) (k:keepIn K (.ref f)=true):Z9 K x qual st f (fnOf x qual (eE st) (fC st) (oA st) .none kV doc pm an cdv ct):=⟨⟨oc,od,kV,doc,pm,an,cdv,ct,osl,rfl,l,c⟩,k⟩
end
section
variable{X:Cx}
end
theorem WD{A B:Prop}(h:B):if false=true then A else B:=by rw[if_neg Vy];exact h
theorem XD{A B:Prop}(h:A):if true=true then A else B:=by rw[if_pos rfl];exact h
noncomputable def Same(H H':Hp):Prop:=∀b o,H b=some o->H' b=some o
theorem Same.refl(H:Hp):Same H H:=fun _ _ h=>h
theorem Same.trans{H H1 H2:Hp}(a:Same H H1)(b:Same H1 H2):Same H H2:=fun c o h=>b c o (a c o h)
theorem Same.free{H H':Hp}(e:Same H H'){l:Addr}(h:H' l=Option.none):H l=Option.none:=by
 cases q:H l with
 | none=>rfl
 | some o=>rw[e l o q]at h;cases h
open PySem.AutoSeq1 (wpAny_loadPart')
open PySem.SeqAt PySem.MeetsSeq PySem.MeetsSeq2 PySem.MeetsSeq3
theorem AW(l b:Addr)(items items2:Array Value)(n n2:Nat)(dd dd2:Option Addr)(sl sl2:Array (Option Value))(hc0:items.size+items2.size<=sizeLine) :
 Meets (Builtin.«list.__add__» ⟨[.ref l,.ref b],[]⟩) (fun _ R s=>s.heap.get? l=some { cls:=.type "list",dict:=dd,data:=.seq items n,slots:=sl }/\s.heap.get? b=some { cls:=.type "list",dict:=dd2,data:=.seq items2 n2,slots:=sl2 }/\R (.ok (.ret (Value.ref s.heap.objs.size))) { s with heap:=s.heap.push { cls:=Value.type "list",data:=Data.seq (items++items2) },toks:=s.toks }):=
 .of_wp fun prog w A R s h=>by obtain⟨hp,g,d,tk,os⟩:=s;obtain⟨hl,hb,h⟩:=h;have f1:=AutoSeq1.idx_int;have f2:=AutoSeq1.sub_tuple_tuple;have f3:=AutoSeq1.sub_list_list;have f4:=AutoSeq1.sub_tuple_list;have f5:=AutoSeq1.sub_list_tuple;wp_walk using wpAny_loadPart' hl,wpAny_loadPart' hb;exact⟨_,rfl,h⟩
section
variable{X:Cx}
theorem LY:L8 X (binaryOp .Add) (fun x y H Q=>∃l b xs zs,x=.ref l/\y=.ref b/\N8 X.K H l xs/\N8 X.K H b zs/\xs.length+zs.length<=sizeLine/\∀p,H p=none->Q (.ref p) (DA H p (.lst (xs++zs)))):=by
 intro pins s σ H x y v u Q I rx ry h;obtain⟨l,b,xs,zs,rfl,rfl,hH,hB,hz,q⟩:=h;cases rx;cases ry;obtain⟨its,r,⟨⟨c1,d1,t1,Vq⟩,n,e,k1,k2,k3⟩,z⟩:=I.list hH;obtain⟨its2,r2,⟨⟨c2,d2,t2,sl2⟩,n2,e2,m1,m2,m3⟩,z2⟩:=I.list hB;simp only at k1 k2 k3 m1 m2 m3;subst k1 k2 k3 m1 m2 m3;have hl:=r.length;have hl2:=r2.length;refine concat_meets ⟨_,e,rfl⟩ ⟨_,e2,rfl⟩ noFill_list_add seq_list_add F.slot_list_add F.entry_list_add (F.args_list_add_2 _ _) (AW l b its.toArray its2.toArray n n2 none none Vq sl2 (by rw[size_toArray,size_toArray];omega)) ⟨e,e2,?_⟩;have ea:its.toArray++its2.toArray=(its++its2).toArray:=by simp
 rw[ea];exact⟨.ref _,_,I.Nq (t':=s.toks) (r.append r2) (by rw[length_append];omega),rfl,q _ I.fresh⟩
def C6(K:Frag)(H:Hp)(x:V)(t:String):Prop:=match x with
 | .non=>t = "NoneType"
 | .bl _=>t = "bool"
 | .int _=>t = "int"
 | .str _=>t = "str"
 | .ref a=>(t = "list" /\ ∃xs,N8 K H a xs)\/(t = "tuple" /\ ∃xs,CH K H a xs)
 | _=>False
theorem wX {T:String}:t8 X (.builtin "isinstance") (fun xs H Q=>∃x t b,xs=[x,.ty T]/\C6 X.K H x t/\PySem.W.kitOne X.K (.type t) (.type T)=some b/\Q (.bl b) H):=by
 intro pins s σ H xs us Q I r h;obtain⟨x,t,b,rfl,ty,e,q⟩:=h;obtain⟨u,u2,rfl,rx,ry⟩:=C5 r;cases ry;have fin:∀tk,EP X pins σ Q (.bool b) { s with toks:=tk }:=fun tk=>⟨.bl b,H,I.tok tk,rfl,q⟩
 cases x with
 | non=>cases (show t = "NoneType" from ty);cases rx;exact PySem.W.kia_one PySem.W.kitx_none I.R8 True.intro e (fun z=>nomatch z) fin
 | bl y=>cases (show t = "bool" from ty);cases rx;exact PySem.W.kia_one PySem.W.kitx_bool I.R8 True.intro e (fun z=>nomatch z) fin
 | int i=>cases (show t = "int" from ty);obtain⟨_,rfl⟩:=rx;exact PySem.W.kia_one PySem.W.kitx_int I.R8 True.intro e (fun z=>nomatch z) fin
 | str y=>cases (show t = "str" from ty);obtain⟨_,rfl⟩:=rx;exact PySem.W.kia_one PySem.W.kitx_str I.R8 True.intro e (fun z=>nomatch z) fin
 | ref a=>
  cases rx;rcases ty with⟨rfl,ys,sq⟩ | ⟨rfl,ys,sq⟩
  · obtain⟨its,_,⟨o,n,h1,h2,_,_⟩,_⟩:=I.list sq;exact PySem.W.kia_one PySem.W.kitx_list I.R8 ⟨o,h1,h2⟩ e (fun z=>nomatch z) fin
  · obtain⟨its,_,⟨o,h1,h2,_⟩,_⟩:=I.tuple sq;exact PySem.W.kia_one PySem.W.kitx_tuple I.R8 ⟨o,h1,h2⟩ e (fun z=>nomatch z) fin
 | kj _=>exact False.elim ty
 | flt _=>exact False.elim ty
 | ty _=>exact False.elim ty
end
open PySem.AutoSeq1 (wpAny_loadPart')
open PySem.SeqAt PySem.MeetsSeq PySem.MeetsSeq2 PySem.MeetsSeq3
theorem pV(l b:Addr)(items items2:Array Value)(n n2:Nat)(dd dd2:Option Addr)(sl sl2:Array (Option Value))(e:Nat->Bool) :
 Meets (Builtin.«tuple.__ne__» ⟨[.ref l,.ref b],[]⟩)
  (fun A R s=>s.heap.get? l=some { cls:=.type "tuple",dict:=dd,data:=.seq items n,slots:=sl }/\s.heap.get? b=some { cls:=.type "tuple",dict:=dd2,data:=.seq items2 n2,slots:=sl2 }/\
   (∀j (h1:j<items.size) (h2:j<items2.size),EqAt A.in1 s items[j] items2[j] (e j))/\
   R (.ok (.ret (.bool (!((List.range (min items.size items2.size)).all e&&items.size==items2.size))))) s):=
 .of_wp fun prog w A R s h=>by
  obtain⟨hp,g,d,tk,os⟩:=s;obtain⟨hl,hb,he,h⟩:=h;have f2:=AutoSeq1.sub_tuple_tuple;have hZ:(items.toList.zip items2.toList).length=min items.size items2.size:=by simp
  wp_walk using wpAny_loadPart' hl,wpAny_loadPart' hb,wpAny_forIn_list _ (fun rest b s'=>b.1=none/\s'=⟨hp,g,d,tk,os⟩/\∃i,rest=(items.toList.zip items2.toList).drop i/\
   R (.ok (.ret (.bool (!(((List.range (min items.size items2.size)).drop i).all e&&items.size==items2.size))))) ⟨hp,g,d,tk,os⟩) _
  case turn=>
   rintro⟨y,x⟩ rest b s' ⟨hb',rfl,i,hz,hR⟩;have hlt:i<(items.toList.zip items2.toList).length:=by
    rcases Nat.lt_or_ge i (items.toList.zip items2.toList).length with h' | h'
    · exact h'
    · rw[drop_of_length_le h']at hz;cases hz
   have hm:i<min items.size items2.size:=hZ ▸ hlt;have h1:i<items.size:=Nat.lt_of_lt_of_le hm (Nat.min_le_left _ _);have h2:i<items2.size:=Nat.lt_of_lt_of_le hm (Nat.min_le_right _ _);rw[drop_eq_getElem_cons hlt]at hz;injection hz with hyx hrest
   have hy:y=items[i]:=by have:=congrArg Prod.fst hyx;simpa using this
   have hx:x=items2[i]:=by have:=congrArg Prod.snd hyx;simpa using this
   subst hy hx;have hd:(List.range (min items.size items2.size)).drop i=i::(List.range (min items.size items2.size)).drop (i+1):=by simp[drop_eq_getElem_cons,hm]
   rw[hd,all_cons]at hR;refine wpAny_bind (he i h1 h2 prog w _ _ ?_);cases hy:e i with
   | true=>
    rw[hy]at hR
    wp_walk
    exact⟨rfl,rfl,i+1,hrest,by simpa only[Bool.true_and]using hR⟩
   | false=>
    rw[hy]at hR
    wp_walk
    exact⟨_,rfl,by simpa only[Bool.false_and,Bool.not_false]using hR⟩
  case fin=>
   rintro⟨b1,b2⟩ s' ⟨hb',rfl,i,hz,hR⟩;simp only at hb';subst hb';have hge:min items.size items2.size<=i:=by
    rcases Nat.lt_or_ge i (items.toList.zip items2.toList).length with h' | h'
    · rw[drop_eq_getElem_cons h']at hz;cases hz
    · exact hZ ▸ h'
   rw[drop_of_length_le (by simpa using hge)]at hR
   wp_walk
   exact⟨_,rfl,by simpa[Builtin.Tuple.tupleCompareSizes,bne]using hR⟩
  case h=>exact⟨rfl,rfl,0,rfl,by simpa only[drop_zero]using h⟩
theorem aW(l b:Addr)(items items2:Array Value)(n n2:Nat)(dd dd2:Option Addr)(sl sl2:Array (Option Value))(hsz:items.size=items2.size)(e:Nat->Bool)(k:Nat) :
 ∀i:Nat,items.size-i=k->Meets (Builtin.«list.__eq__.loop» ⟨[.ref l,.ref b,rawInt i,rawInt 3],[]⟩)
  (fun A R s=>s.heap.get? l=some { cls:=.type "list",dict:=dd,data:=.seq items n,slots:=sl }/\s.heap.get? b=some { cls:=.type "list",dict:=dd2,data:=.seq items2 n2,slots:=sl2 }/\
   (∀j (h1:j<items.size) (h2:j<items2.size),EqAt A.in1 s items[j] items2[j] (e j))/\
   R (.ok (.ret (.bool (!(((List.range items.size).drop i).all e))))) s):=by
 induction k with
 | zero=>
  intro i hk prog w A R s h;obtain⟨hp,g,d,tk,os⟩:=s;obtain⟨hl,hb,he,h⟩:=h
  wp_walk using wpAny_loadPart' hl,wpAny_loadPart' hb
  have hi1:items[((i:Nat):Int).toNat]?=none:=by simp;omega
  have hi2:items2[((i:Nat):Int).toNat]?=none:=by simp;omega
  have hd:(List.range items.size).drop i=[]:=by simp;omega
  rw[hd]at h;rw[hi1,hi2]
  wp_walk using wpAny_loadPart' hl,wpAny_loadPart' hb
  show R (.ok (.ret (.bool (items.size !=items2.size)))) _;rw[hsz];simpa using h
 | succ k ih=>
  intro i hk prog w A R s h;obtain⟨hp,g,d,tk,os⟩:=s;obtain⟨hl,hb,he,h⟩:=h
  wp_walk using wpAny_loadPart' hl,wpAny_loadPart' hb
  have hlt:i<items.size:=by omega
  have hlt2:i<items2.size:=by omega
  have hi1:items[((i:Nat):Int).toNat]?=some items[i]:=by simp[hlt]
  have hi2:items2[((i:Nat):Int).toNat]?=some items2[i]:=by simp[hlt2]
  have hd:(List.range items.size).drop i=i::(List.range items.size).drop (i+1):=by simp[drop_eq_getElem_cons,hlt]
  have hc:((i:Int)+1)=((i+1:Nat):Int):=by push_cast;rfl
  rw[hd,all_cons]at h;rw[hi1,hi2];refine wpAny_bind (he i hlt hlt2 prog w _ _ ?_);cases hb':e i with
  | true=>
   rw[hb']at h
   wp_walk
   rw[hc];exact⟨plainId_quiet plain_eq_loop _,codeAny_builtin entry_eq_loop (by
    rw[Around.under_plainId plain_eq_loop _];exact ih (i+1) (by omega) prog w A R _ ⟨hl,hb,he,by simpa only[Bool.true_and]using h⟩)⟩
  | false=>
   rw[hb']at h
   wp_walk using wpAny_loadPart' hl,wpAny_loadPart' hb
   rw[hi1,hi2]
   wp_walk
   simpa using h
theorem RV(l b:Addr)(items items2:Array Value)(n n2:Nat)(dd dd2:Option Addr)(sl sl2:Array (Option Value))(hsz:items.size=items2.size)(e:Nat->Bool) :
 Meets (Builtin.«list.__ne__» ⟨[.ref l,.ref b],[]⟩)
  (fun A R s=>s.heap.get? l=some { cls:=.type "list",dict:=dd,data:=.seq items n,slots:=sl }/\s.heap.get? b=some { cls:=.type "list",dict:=dd2,data:=.seq items2 n2,slots:=sl2 }/\
   (∀j (h1:j<items.size) (h2:j<items2.size),EqAt A.in1 s items[j] items2[j] (e j))/\
   R (.ok (.ret (.bool (!((List.range items.size).all e))))) s):=by
 intro prog w A R s h;obtain⟨hp,g,d,tk,os⟩:=s;obtain⟨hl,hb,he,h⟩:=h;have f3:=AutoSeq1.sub_list_list;have hne:¬(items.size !=items2.size)=true:=by simp[hsz]
 wp_walk using wpAny_loadPart' hl,wpAny_loadPart' hb
 exact⟨plainId_quiet plain_eq_loop _,codeAny_builtin entry_eq_loop (by
  rw[Around.under_plainId plain_eq_loop _];exact aW l b items items2 n n2 dd dd2 sl sl2 hsz e _ 0 rfl prog w A R _ ⟨hl,hb,he,by simpa only[drop_zero]using h⟩)⟩
theorem XT(l b:Addr)(items items2:Array Value)(n n2:Nat)(dd dd2:Option Addr)(sl sl2:Array (Option Value))(hc0:(items.size !=items2.size)=true) :
 Meets (Builtin.«list.__ne__» ⟨[.ref l,.ref b],[]⟩)
  (fun _ R s=>s.heap.get? l=some { cls:=.type "list",dict:=dd,data:=.seq items n,slots:=sl }/\s.heap.get? b=some { cls:=.type "list",dict:=dd2,data:=.seq items2 n2,slots:=sl2 }/\
   R (.ok (.ret (.bool true))) s):=
 .of_wp fun prog w A R s h=>by
  obtain⟨hp,g,d,tk,os⟩:=s;obtain⟨hl,hb,h⟩:=h;have f3:=AutoSeq1.sub_list_list
  wp_walk using wpAny_loadPart' hl,wpAny_loadPart' hb
  exact⟨_,rfl,h⟩
section
variable{prog:Program}{w:World}{A:Around}{E:Value->Shared->Prop}{s:Shared}{Q:Value->Shared->Prop}
theorem bW{l b:Addr}{items items2:Array Value}{e:Nat->Bool}(hl:s.heap.IsTuple l items)(hb:s.heap.IsTuple b items2)(hu:A.units<cLine)
 (he:∀j (h1:j<items.size) (h2:j<items2.size),EqAt A.in1 s items[j] items2[j] (e j)) (h:Q (.bool (!((List.range (min items.size items2.size)).all e&&items.size==items2.size))) s):wpAny (model prog w) A (compareOp .NotEq (.ref l) (.ref b)) Q E s:=by
 obtain⟨⟨cls,dd,data,sl⟩,ho,hc,n,hd⟩:=id hl;obtain⟨⟨cls2,dd2,data2,sl2⟩,ho2,hc2,n2,hd2⟩:=id hb;simp only at hc hd hc2 hd2;subst hc hd hc2 hd2;exact richCompare_meets_room (op:=.NotEq) ⟨_,ho,rfl⟩ ⟨_,ho2,rfl⟩ F.slot_tuple_ne F.entry_tuple_ne (F.args_tuple_ne_2 _ _) (pV l b items items2 n n2 dd dd2 sl sl2 e) ⟨ho,ho2,he,⟨(fun x=>nomatch x),h⟩⟩ hu
theorem HW{l b:Addr}{items items2:Array Value}{e:Nat->Bool}(hl:s.heap.IsList l items)(hb:s.heap.IsList b items2)(hsz:items.size=items2.size)(hu:A.units<cLine)
 (he:∀j (h1:j<items.size) (h2:j<items2.size),EqAt A.in1 s items[j] items2[j] (e j)) (h:Q (.bool (!((List.range items.size).all e))) s):wpAny (model prog w) A (compareOp .NotEq (.ref l) (.ref b)) Q E s:=by
 obtain⟨⟨cls,dd,data,sl⟩,ho,hc,n,hd⟩:=id hl;obtain⟨⟨cls2,dd2,data2,sl2⟩,ho2,hc2,n2,hd2⟩:=id hb;simp only at hc hd hc2 hd2;subst hc hd hc2 hd2;exact richCompare_meets_room (op:=.NotEq) ⟨_,ho,rfl⟩ ⟨_,ho2,rfl⟩ F.slot_list_ne F.entry_list_ne (F.args_list_ne_2 _ _) (RV l b items items2 n n2 dd dd2 sl sl2 hsz e) ⟨ho,ho2,he,⟨(fun x=>nomatch x),h⟩⟩ hu
theorem AU{l b:Addr}{items items2:Array Value}(hl:s.heap.IsList l items)(hb:s.heap.IsList b items2)(hsz:(items.size !=items2.size)=true)(hu:A.units<cLine)
 (h:Q (.bool true) s):wpAny (model prog w) A (compareOp .NotEq (.ref l) (.ref b)) Q E s:=by
 obtain⟨⟨cls,dd,data,sl⟩,ho,hc,n,hd⟩:=id hl;obtain⟨⟨cls2,dd2,data2,sl2⟩,ho2,hc2,n2,hd2⟩:=id hb;simp only at hc hd hc2 hd2;subst hc hd hc2 hd2;exact richCompare_meets_room (op:=.NotEq) ⟨_,ho,rfl⟩ ⟨_,ho2,rfl⟩ F.slot_list_ne F.entry_list_ne (F.args_list_ne_2 _ _) (XT l b items items2 n n2 dd dd2 sl sl2 hsz) ⟨ho,ho2,⟨(fun x=>nomatch x),h⟩⟩ hu
end
noncomputable abbrev LF(C t0:Addr)(dx:Option Addr):Obj:={ cls:=.ref C,dict:=dx,data:=.fields #[.ref t0,.none,.none,.none,.bool false,.none] }
abbrev XO(a C t0:Addr)(dx:Option Addr):HO:=.ext fun h=>h.get? a=some (LF C t0 dx)
noncomputable abbrev XL(e:Addr)(cls:Value)(dx:Option Addr):HO:=.ext fun h=>∃oe vs,h.get? e=some oe/\(oe.cls=cls/\oe.dict=dx)/\oe.data=.fields vs
noncomputable def xV:Sum Int Str->V
 | .inl i=>.int i
 | .inr z=>.str z
end L2
namespace SM
inductive Dt where
 | non | bl (b:Bool) | int (i:Int) | str (x:Str) | tup (xs:List Dt) | lst (xs:List Dt) | ref (n:Nat) | y9 (xs:List Int) | err (x f:Str) (i:Sum Int Str) | thr (x f:Str) (i:Sum Int Str)
inductive Ob where
 | lst (xs:List Dt)
 | ins (x:Str) (fs:List (Str×Dt))
 | dk (kvs:List (qA×Dt))
 | dt (kvs:List (List Int×Dt))
 | df (kvs:List (List Int×Dt))
 | U9 (kvs:List (qA×Dt))
noncomputable abbrev HI:=List Ob
noncomputable abbrev LI:=List (Option Dt)
structure Rg where
 v:List Addr
 z:List Addr
noncomputable def Rg.no(ρ:Rg)(a:Addr):Prop:=a∉ρ.v/\a∉ρ.z
noncomputable def Rg.add(ρ:Rg)(p:Addr):Rg:=⟨ρ.v++[p],ρ.z⟩
noncomputable def Rg.hide(ρ:Rg)(p:Addr):Rg:=⟨ρ.v,p::ρ.z⟩
noncomputable def Rg.nil:Rg:=⟨[],[]⟩
def TupAt(K:Frag)(H:Hp)(ρ:Rg)(a:Addr)(vs:List V):Prop:=
 (ρ.no a/\Rd H a (.tup vs))\/
  ∃(o:Obj) (its:Array Value) (n:Nat),K.lookup a=some o/\o.cls=.type "tuple" /\ o.data=.seq its n/\its.size<=sizeLine/\Vals vs its.toList
def LstAt(K:Frag)(H:Hp)(ρ:Rg)(a:Addr)(vs:List V):Prop:=
 (ρ.no a/\Rd H a (.lst vs))\/
  ∃(o:Obj) (its:Array Value) (n:Nat),K.lookup a=some o/\o.cls=.type "list" /\ o.dict=none/\o.data=.seq its n/\its.size<=sizeLine/\Vals vs its.toList
theorem TupAt.sq{K:Frag}{H:Hp}{ρ:Rg}{a:Addr}{vs:List V}(h:TupAt K H ρ a vs):CH K H a vs:=by
 rcases h with⟨_,h⟩ | h
 · exact .inl h
 · exact .inr h
theorem LstAt.sq{K:Frag}{H:Hp}{ρ:Rg}{a:Addr}{vs:List V}(h:LstAt K H ρ a vs):N8 K H a vs:=by
 rcases h with⟨_,h⟩ | h
 · exact .inl h
 · exact .inr h
mutual
noncomputable def J7(K:Frag)(H:Hp)(ρ:Rg):Dt->V->Prop
 | .non,v=>v=.non
 | .bl b,v=>v=.bl b
 | .int i,v=>v=.int i
 | .str x,v=>v=.str x
 | .tup xs,v=>∃a vs,v=.ref a/\TupAt K H ρ a vs/\G7 K H ρ xs vs
 | .lst xs,v=>∃a vs,v=.ref a/\LstAt K H ρ a vs/\G7 K H ρ xs vs
 | .ref n,v=>∃a,v=.ref a/\ρ.v[n]?=some a
 | .y9 xs,v=>∃a,v=.ref a/\ρ.no a/\H a=some (.tup (xs.map V.int))
 | .err x f i,v=>∃a C dx,v=.ref a/\nsIn K mainGlobals x=some (some (.ref C))/\ρ.no a/\H a=some (XL a (.ref C) dx)/\((f = "" /\ dx=none)\/∃b,dx=some b/\ρ.no b/\H b=some (.xd [(f,xV i)]))
 | .thr _ _ _,_=>False
noncomputable def G7(K:Frag)(H:Hp)(ρ:Rg):List Dt->List V->Prop
 | [],vs=>vs=[]
 | x::xs,vs=>∃v r,vs=v::r/\J7 K H ρ x v/\G7 K H ρ xs r
end
structure Ext(ρ ρ':Rg)(H H':Hp):Prop where
 pre:∃e,ρ'.v=ρ.v++e/\∀a∈e,H a=none
 hid:ρ'.z=ρ.z
 keep:∀a o,H a=some o->a∉ρ.v->H' a=some o
 live:∀a,H' a=none->H a=none
 fz:∀a o u,H a=some (.b9 o u)->H' a=some (.b9 o u)
theorem Ext.refl(ρ:Rg)(H:Hp):Ext ρ ρ H H:=⟨⟨[],by simp,by simp⟩,rfl,fun _ _ h _=>h,fun _ h=>h,fun _ _ _ h=>h⟩
theorem Ext.Tq{ρ ρ':Rg}{H H':Hp}(x:Ext ρ ρ' H H'){a:Addr}{o:HO}(h:H a=some o)(n:a∉ρ.v):a∉ρ'.v:=by
 obtain⟨e,e',hn⟩:=x.pre;rw[e'];intro hm;rcases mem_append.mp hm with hm | hm
 · exact n hm
 · have:=hn a hm;rw[h]at this;cases this
theorem Ext.Bj{ρ ρ':Rg}{H H':Hp}(x:Ext ρ ρ' H H'){a:Addr}{o:HO}(h:H a=some o)(n:ρ.no a):ρ'.no a:=⟨x.Tq h n.1,by rw[x.hid];exact n.2⟩
theorem Ext.trans{ρ ρ1 ρ2:Rg}{H H1 H2:Hp}(x:Ext ρ ρ1 H H1)(y:Ext ρ1 ρ2 H1 H2):Ext ρ ρ2 H H2:=by
 refine⟨?_,y.hid.trans x.hid,fun a o h n=>y.keep a o (x.keep a o h n) (x.Tq h n),fun a h=>x.live a (y.live a h),fun a o u h=>y.fz a o u (x.fz a o u h)⟩;obtain⟨e,q1,h1⟩:=x.pre;obtain⟨e',q2,h2⟩:=y.pre;refine⟨e++e',by rw[q2,q1,append_assoc],fun a ha=>?_⟩;rcases mem_append.mp ha with ha | ha
 · exact h1 a ha
 · exact x.live a (h2 a ha)
theorem Ext.get{ρ ρ':Rg}{H H':Hp}(x:Ext ρ ρ' H H'){n:Nat}{a:Addr}(h:ρ.v[n]?=some a):ρ'.v[n]?=some a:=by obtain⟨e,e',_⟩:=x.pre;have:=(Sy h).1;rw[e',Uy this];exact h
theorem Ext.fresh{ρ:Rg}{H:Hp}{p:Addr}{o:HO}(h:H p=none):Ext ρ ρ H (DA H p o):=by
 refine⟨⟨[],by simp,by simp⟩,rfl,fun a u e _=>?_,fun a e=>?_,fun a o u e=>by rw[CA (lC e h)];exact e⟩
 · rw[CA (lC e h)];exact e
 · by_cases ha:a=p
   · subst ha;exact h
   · rw[CA ha]at e;exact e
theorem Ext.own{ρ:Rg}{H:Hp}{p:Addr}{o:HO}(h:H p=none):Ext ρ (ρ.add p) H (DA H p o):=by refine⟨⟨[p],rfl,fun a ha=>?_⟩,rfl,(Ext.fresh (ρ:=ρ) h).keep,(Ext.fresh (ρ:=ρ) h).live,(Ext.fresh (ρ:=ρ) h).fz⟩;rw[mem_singleton.mp ha];exact h
noncomputable def JO(H:Hp)(a:Addr):Prop:=∀o u,H a≠some (.b9 o u)
theorem EG{H:Hp}{a:Addr}{vs:List V}(h:H a=some (.lst vs)):JO H a:=fun _ _ e=>by rw[h]at e;cases e
theorem Ext.write{ρ:Rg}{H:Hp}{a:Addr}{o:HO}(ha:a∈ρ.v)(nf:JO H a):Ext ρ ρ H (DA H a o):=by
 refine⟨⟨[],by simp,by simp⟩,rfl,fun b u e n=>?_,fun b e=>?_,fun b q u e=>by rw[CA (fun z:b=a=>nf q u (by rw[<- z];exact e))];exact e⟩
 · rw[CA (fun z=>n (by rw[z];exact ha))];exact e
 · by_cases hb:b=a
   · subst hb;rw[AB]at e;cases e
   · rw[CA hb]at e;exact e
structure v8(ρ ρ':Rg)(H H':Hp):Prop where
 no:∀a u,H a=some u->ρ.no a->ρ'.no a
 eq:∀a u,H a=some u->ρ.no a->H' a=some u
 ix:∀(n:Nat) a,ρ.v[n]?=some a->ρ'.v[n]?=some a
 fz:∀a o u,H a=some (.b9 o u)->H' a=some (.b9 o u)
theorem Ext.same{ρ ρ':Rg}{H H':Hp}(x:Ext ρ ρ' H H'):v8 ρ ρ' H H':=⟨fun _ _ e n=>x.Bj e n,fun _ _ e n=>x.keep _ _ e n.1,fun _ _ e=>x.get e,x.fz⟩
theorem v8.trans{ρ ρ1 ρ2:Rg}{H H1 H2:Hp}(x:v8 ρ ρ1 H H1)(y:v8 ρ1 ρ2 H1 H2):v8 ρ ρ2 H H2:=
 ⟨fun a u e n=>y.no a u (x.eq a u e n) (x.no a u e n),fun a u e n=>y.eq a u (x.eq a u e n) (x.no a u e n),fun n a e=>y.ix n a (x.ix n a e),fun a o u e=>y.fz a o u (x.fz a o u e)⟩
theorem TupAt.same{K:Frag}{ρ ρ':Rg}{H H':Hp}(x:v8 ρ ρ' H H'){a:Addr}{vs:List V}(h:TupAt K H ρ a vs):TupAt K H' ρ' a vs:=by
 rcases h with⟨n,t | ⟨y,t⟩⟩ | t
 · exact .inl ⟨x.no _ _ t n,.inl (x.eq _ _ t n)⟩
 · exact .inl ⟨x.no _ _ t n,.inr ⟨y,x.eq _ _ t n⟩⟩
 · exact .inr t
theorem LstAt.same{K:Frag}{ρ ρ':Rg}{H H':Hp}(x:v8 ρ ρ' H H'){a:Addr}{vs:List V}(h:LstAt K H ρ a vs):LstAt K H' ρ' a vs:=by
 rcases h with⟨n,t | ⟨y,t⟩⟩ | t
 · exact .inl ⟨x.no _ _ t n,.inl (x.eq _ _ t n)⟩
 · exact .inl ⟨x.no _ _ t n,.inr ⟨y,x.eq _ _ t n⟩⟩
 · exact .inr t
mutual
theorem J7.same{K:Frag}{ρ ρ':Rg}{H H':Hp}(x:v8 ρ ρ' H H'):∀(d:Dt){v:V},J7 K H ρ d v->J7 K H' ρ' d v
 | .non,_,h=>by simp only[J7]at h ⊢;exact h
 | .bl _,_,h=>by simp only[J7]at h ⊢;exact h
 | .int _,_,h=>by simp only[J7]at h ⊢;exact h
 | .str _,_,h=>by simp only[J7]at h ⊢;exact h
 | .tup xs,_,h=>by simp only[J7]at h ⊢;obtain⟨a,vs,e,t,r⟩:=h;exact⟨a,vs,e,t.same x,G7.same x xs r⟩
 | .lst xs,_,h=>by simp only[J7]at h ⊢;obtain⟨a,vs,e,t,r⟩:=h;exact⟨a,vs,e,t.same x,G7.same x xs r⟩
 | .ref _,_,h=>by simp only[J7]at h ⊢;obtain⟨a,e,t⟩:=h;exact⟨a,e,x.ix _ _ t⟩
 | .y9 _,_,h=>by simp only[J7]at h ⊢;obtain⟨a,e,n,t⟩:=h;exact⟨a,e,x.no _ _ t n,x.eq _ _ t n⟩
 | .err _ _ _,_,h=>by
  simp only[J7]at h ⊢;obtain⟨a,C,dx,e,c,n,t,q⟩:=h;refine⟨a,C,dx,e,c,x.no _ _ t n,x.eq _ _ t n,?_⟩;rcases q with q | ⟨b,q,n',t'⟩
  · exact .inl q
  · exact .inr ⟨b,q,x.no _ _ t' n',x.eq _ _ t' n'⟩
 | .thr _ _ _,_,h=>by simp only[J7]at h
theorem G7.same{K:Frag}{ρ ρ':Rg}{H H':Hp}(x:v8 ρ ρ' H H'):∀(ds:List Dt){vs:List V},G7 K H ρ ds vs->G7 K H' ρ' ds vs
 | [],_,h=>by simp only[G7]at h ⊢;exact h
 | d::ds,_,h=>by simp only[G7]at h ⊢;obtain⟨v,r,e,h1,h2⟩:=h;exact⟨v,r,e,J7.same x d h1,G7.same x ds h2⟩
end
theorem J7.ext{K:Frag}{ρ ρ':Rg}{H H':Hp}(x:Ext ρ ρ' H H')(d:Dt){v:V}(h:J7 K H ρ d v):J7 K H' ρ' d v:=J7.same x.same d h
theorem G7.ext{K:Frag}{ρ ρ':Rg}{H H':Hp}{ds:List Dt}{vs:List V}(h:G7 K H ρ ds vs)(x:Ext ρ ρ' H H'):G7 K H' ρ' ds vs:=G7.same x.same ds h
section
variable{K:Frag}{H:Hp}{ρ:Rg}
theorem G7.nil:G7 K H ρ [] []:=by simp only[G7]
theorem G7.cons{d:Dt}{v:V}{ds:List Dt}{vs:List V}(h:J7 K H ρ d v)(r:G7 K H ρ ds vs):G7 K H ρ (d::ds) (v::vs):=by simp only[G7];exact⟨v,vs,rfl,h,r⟩
theorem G7.V7{d:Dt}{ds:List Dt}{vs:List V}(h:G7 K H ρ (d::ds) vs):∃v r,vs=v::r/\J7 K H ρ d v/\G7 K H ρ ds r:=by simpa only[G7]using h
theorem G7.o8{vs:List V}(h:G7 K H ρ [] vs):vs=[]:=by simpa only[G7]using h
theorem G7.length:∀{ds:List Dt}{vs:List V},G7 K H ρ ds vs->vs.length=ds.length
 | [],_,h=>by rw[h.o8];rfl
 | d::ds,_,h=>by obtain⟨v,r,rfl,_,h2⟩:=h.V7;rw[Fy,Fy,G7.length h2]
theorem G7.get:∀{ds:List Dt}{vs:List V}{i:Nat}{d:Dt},G7 K H ρ ds vs->ds[i]?=some d->∃v,vs[i]?=some v/\J7 K H ρ d v
 | [],_,_,_,_,e=>by simp at e
 | d::ds,_,0,_,h,e=>by obtain⟨v,r,rfl,h1,_⟩:=h.V7;simp at e;subst e;exact⟨v,rfl,h1⟩
 | d::ds,_,i+1,d',h,e=>by obtain⟨v,r,rfl,_,h2⟩:=h.V7;obtain⟨u,q1,q2⟩:=G7.get (i:=i) h2 (by simpa using e);exact⟨u,by simpa using q1,q2⟩
theorem G7.append:∀{ds es:List Dt}{vs us:List V},G7 K H ρ ds vs->G7 K H ρ es us->G7 K H ρ (ds++es) (vs++us)
 | [],_,_,_,h,h'=>by rw[h.o8];exact h'
 | d::ds,_,_,_,h,h'=>by obtain⟨v,r,rfl,h1,h2⟩:=h.V7;exact .cons h1 (G7.append h2 h')
theorem G7.set:∀{ds:List Dt}{vs:List V}{d:Dt}{v:V}(i:Nat),G7 K H ρ ds vs->J7 K H ρ d v->G7 K H ρ (ds.set i d) (vs.set i v)
 | [],_,_,_,_,h,_=>by rw[h.o8];exact .nil
 | d::ds,_,_,_,0,h,q=>by obtain⟨v,r,rfl,h1,h2⟩:=h.V7;exact .cons q h2
 | d::ds,_,_,_,i+1,h,q=>by obtain⟨v,r,rfl,h1,h2⟩:=h.V7;exact .cons h1 (G7.set i h2 q)
theorem G7.take:∀{ds:List Dt}{vs:List V}(n:Nat),G7 K H ρ ds vs->G7 K H ρ (ds.take n) (vs.take n)
 | [],_,n,h=>by rw[h.o8];simp;exact .nil
 | d::ds,_,0,h=>.nil
 | d::ds,_,n+1,h=>by obtain⟨v,r,rfl,h1,h2⟩:=h.V7;exact .cons h1 (G7.take n h2)
theorem G7.drop:∀{ds:List Dt}{vs:List V}(n:Nat),G7 K H ρ ds vs->G7 K H ρ (ds.drop n) (vs.drop n)
 | [],_,n,h=>by rw[h.o8];simp;exact .nil
 | d::ds,_,0,h=>h
 | d::ds,_,n+1,h=>by obtain⟨v,r,rfl,h1,h2⟩:=h.V7;exact G7.drop n h2
theorem G7.ints(ns:List Int):G7 K H ρ (ns.map Dt.int) (ns.map V.int):=by
 induction ns with
 | nil=>exact .nil
 | cons n ns ih=>exact .cons (by simp only[J7]) ih
theorem K7{i:Int}{v:V}:J7 K H ρ (.int i) v↔v=.int i:=by simp only[J7]
theorem L7{i:Bool}{v:V}:J7 K H ρ (.bl i) v↔v=.bl i:=by simp only[J7]
theorem N7{i:Str}{v:V}:J7 K H ρ (.str i) v↔v=.str i:=by simp only[J7]
theorem T7{v:V}:J7 K H ρ .non v↔v=.non:=by simp only[J7]
theorem U7{xs:List Dt}{v:V}:J7 K H ρ (.tup xs) v↔∃a vs,v=.ref a/\TupAt K H ρ a vs/\G7 K H ρ xs vs:=by simp only[J7]
theorem O7{xs:List Dt}{v:V}:J7 K H ρ (.lst xs) v↔∃a vs,v=.ref a/\LstAt K H ρ a vs/\G7 K H ρ xs vs:=by simp only[J7]
theorem l9{xs:List Int}{v:V}:J7 K H ρ (.y9 xs) v↔∃a,v=.ref a/\ρ.no a/\H a=some (.tup (xs.map V.int)):=by simp only[J7]
theorem O8 {x f:Str} {i:Sum Int Str} {v:V}:J7 K H ρ (.err x f i) v↔∃a C dx,v=.ref a/\nsIn K mainGlobals x=some (some (.ref C))/\ρ.no a/\H a=some (XL a (.ref C) dx)/\((f = "" /\ dx=none)\/∃b,dx=some b/\ρ.no b/\H b=some (.xd [(f,xV i)])):=by simp only[J7]
theorem U8{x f:Str}{i:Sum Int Str}{v:V}:J7 K H ρ (.thr x f i) v↔False:=by simp only[J7]
theorem R7{n:Nat}{v:V}:J7 K H ρ (.ref n) v↔∃a,v=.ref a/\ρ.v[n]?=some a:=by simp only[J7]
end
def A9(K:Frag)(H:Hp)(ρ:Rg)(a:Addr):Ob->Prop
 | .lst xs=>∃vs,H a=some (.lst vs)/\G7 K H ρ xs vs
 | .ins x fs=>∃C dx vs,nsIn K mainGlobals x=some (some (.ref C))/\H a=some (.ins C dx vs)/\fs.map (·.1)=vs.map (·.1)/\G7 K H ρ (fs.map (·.2)) (vs.map (·.2))
 | .dk kvs=>∃vs,H a=some (.dK vs)/\kvs.map (·.1)=vs.map (·.1)/\G7 K H ρ (kvs.map (·.2)) (vs.map (·.2))
 | .dt kvs=>∃vs:List (List qA×V),H a=some (.dT vs)/\vs.map (·.1)=kvs.map (fun p=>p.1.map Sum.inl)/\G7 K H ρ (kvs.map (·.2)) (vs.map (·.2))
 | .df kvs=>∃(o:Obj)(vs:List (List qA×V)),H a=some (.b9 o (.dT vs))/\vs.map (·.1)=kvs.map (fun p=>p.1.map Sum.inl)/\G7 K H ρ (kvs.map (·.2)) (vs.map (·.2))
 | .U9 kvs=>∃(o:Obj)(vs:List (qA×V)),H a=some (.b9 o (.dK vs))/\kvs.map (·.1)=vs.map (·.1)/\G7 K H ρ (kvs.map (·.2)) (vs.map (·.2))
structure M7(K:Frag)(ρ:Rg)(h:HI)(H:Hp):Prop where
 nd:ρ.v.Nodup
 len:ρ.v.length=h.length
 ob:∀(n:Nat) a o,ρ.v[n]?=some a->h[n]?=some o->A9 K H ρ a o
 zt:∀a∈ρ.z,a∉ρ.v/\∃vs,H a=some (.lst vs)
theorem A9.ext{K:Frag}{H H':Hp}{ρ ρ':Rg}{a:Addr}{o:Ob}(x:Ext ρ ρ' H H')(e:H' a=H a)(h:A9 K H ρ a o):A9 K H' ρ' a o:=by
 cases o with
 | lst xs=>obtain⟨vs,h1,h2⟩:=h;exact⟨vs,e.trans h1,h2.ext x⟩
 | ins y fs=>obtain⟨C,dx,vs,h0,h1,h2,h3⟩:=h;exact⟨C,dx,vs,h0,e.trans h1,h2,h3.ext x⟩
 | dk kvs=>obtain⟨vs,h1,h2,h3⟩:=h;exact⟨vs,e.trans h1,h2,h3.ext x⟩
 | dt kvs=>obtain⟨vs,h1,h2,h3⟩:=h;exact⟨vs,e.trans h1,h2,h3.ext x⟩
 | df kvs=>obtain⟨o,vs,h1,h2,h3⟩:=h;exact⟨o,vs,e.trans h1,h2,h3.ext x⟩
 | U9 kvs=>obtain⟨o,vs,h1,h2,h3⟩:=h;exact⟨o,vs,e.trans h1,h2,h3.ext x⟩
theorem A9.some{K:Frag}{H:Hp}{ρ:Rg}{a:Addr}{o:Ob}(h:A9 K H ρ a o):∃u,H a=some u:=by
 cases o with
 | lst xs=>obtain⟨vs,h1,_⟩:=h;exact⟨_,h1⟩
 | ins y fs=>obtain⟨C,dx,vs,_,h1,_⟩:=h;exact⟨_,h1⟩
 | dk kvs=>obtain⟨vs,h1,_⟩:=h;exact⟨_,h1⟩
 | dt kvs=>obtain⟨vs,h1,_⟩:=h;exact⟨_,h1⟩
 | df kvs=>obtain⟨o,vs,h1,_⟩:=h;exact⟨_,h1⟩
 | U9 kvs=>obtain⟨o,vs,h1,_⟩:=h;exact⟨_,h1⟩
section
variable{K:Frag}{H H':Hp}{ρ:Rg}{h:HI}
theorem M7.nil:M7 K .nil [] H:=⟨nodup_nil,rfl,fun _ _ _ e=>by simp[Rg.nil]at e,fun _ h=>nomatch h⟩
theorem M7.tracked(S:M7 K ρ h H){a:Addr}(ha:a∈ρ.v):∃u,H a=some u:=by
 obtain⟨n,hn⟩:=mem_iff_getElem?.mp ha;have hl:n<h.length:=by rw[<- S.len];exact(Sy hn).1
 exact(S.ob n a _ hn (getElem?_eq_getElem hl)).some
theorem M7.out(S:M7 K ρ h H){p:Addr}(hp:H p=none):ρ.no p:=by
 refine⟨fun ha=>?_,fun ha=>?_⟩
 · obtain⟨u,e⟩:=S.tracked ha;rw[hp]at e;cases e
 · obtain⟨_,u,e⟩:=S.zt p ha;rw[hp]at e;cases e
theorem M7.fresh(S:M7 K ρ h H){p:Addr}{o:HO}(hp:H p=none):M7 K ρ h (DA H p o):=
 ⟨S.nd,S.len,fun n a u e1 e2=>(S.ob n a u e1 e2).ext (Ext.fresh hp) (CA (fun z=>(S.out hp).1 (z ▸ mem_of_getElem? e1))),fun a ha=>by
  obtain⟨n,u,e⟩:=S.zt a ha;exact⟨n,u,by rw[CA (lC e hp)];exact e⟩⟩
theorem M7.own(S:M7 K ρ h H){p:Addr}{o:HO}{u:Ob}(hp:H p=none)(hu:A9 K (DA H p o) (ρ.add p) p u):M7 K (ρ.add p) (h++[u]) (DA H p o):=by
 refine⟨?_,by simp only[Rg.add];rw[length_append,length_append,S.len];rfl,fun n a ob e1 e2=>?_,fun a ha=>?_⟩
 · simp only[Rg.add];rw[nodup_append];refine⟨S.nd,nodup_cons.mpr ⟨by simp,nodup_nil⟩,fun a ha b hb=>?_⟩;rw[mem_singleton.mp hb];intro z;exact(S.out hp).1 (z ▸ ha)
 · simp only[Rg.add]at e1;by_cases hn:n<h.length
   · rw[Uy hn]at e2;rw[Uy (by rw[S.len];exact hn)]at e1;exact(S.ob n a ob e1 e2).ext (Ext.own hp) (CA (fun z=>(S.out hp).1 (z ▸ mem_of_getElem? e1)))
   · have hn':h.length<=n:=Nat.not_lt.mp hn;rw[Yy hn']at e2;rw[Yy (by rw[S.len];exact hn'),S.len]at e1;cases hk:n-h.length with
     | zero=>rw[hk]at e1 e2;simp at e1 e2;subst e1 e2;exact hu
     | succ k=>rw[hk]at e2;simp at e2
 · obtain⟨n,u,e⟩:=S.zt a ha;refine⟨fun hm=>?_,u,by rw[CA (lC e hp)];exact e⟩;simp only[Rg.add]at hm;rcases mem_append.mp hm with hm | hm
   · exact n hm
   · rw[mem_singleton.mp hm,hp]at e;cases e
theorem M7.write(S:M7 K ρ h H){n:Nat}{p:Addr}{o:HO}{u:Ob}(hn:ρ.v[n]?=some p)(nf:JO H p)(hu:A9 K (DA H p o) ρ p u):M7 K ρ (h.set n u) (DA H p o):=by
 refine⟨S.nd,by rw[length_set];exact S.len,fun m a ob e1 e2=>?_,fun a ha=>?_⟩
 · by_cases hm:m=n
   · subst hm;rw[hn]at e1;cases e1;have hl:m<h.length:=by rw[<- S.len];exact(Sy hn).1
     rw[getElem?_set_self hl]at e2;cases e2;exact hu
   · rw[getElem?_set_ne (Ne.symm hm)]at e2;refine(S.ob m a ob e1 e2).ext (Ext.write (mem_of_getElem? hn) nf) (CA fun z=>hm ?_);subst z;obtain⟨h1,q1⟩:=Sy e1;obtain⟨h2,q2⟩:=Sy hn;exact(getElem_inj S.nd).mp (q1.trans q2.symm)
 · obtain⟨m,w,e⟩:=S.zt a ha;exact⟨m,w,by rw[CA (fun z=>m (by rw[z];exact mem_of_getElem? hn))];exact e⟩
theorem M7.lst(S:M7 K ρ h H){n:Nat}{a:Addr}{xs:List Dt}(hn:ρ.v[n]?=some a)(e:h[n]?=some (.lst xs)):∃vs,H a=some (.lst vs)/\G7 K H ρ xs vs:=S.ob n a _ hn e
end
structure g8(K:Frag)(H:Hp)(ρ:Rg)(l:LI)(σ:L2.St):Prop where
 len:l.length=σ.length
 val:∀(i:Nat) d,l[i]?=some (some d)->∃v,σ[i]?=some (some v)/\J7 K H ρ d v
theorem g8.ext{K:Frag}{H H':Hp}{ρ ρ':Rg}{l:LI}{σ:L2.St}(L:g8 K H ρ l σ)(x:Ext ρ ρ' H H'):g8 K H' ρ' l σ:=
 ⟨L.len,fun i d e=>let ⟨v,e1,r⟩:=L.val i d e;⟨v,e1,J7.ext x d r⟩⟩
theorem g8.set{K:Frag}{H:Hp}{ρ:Rg}{l:LI}{σ:L2.St}(L:g8 K H ρ l σ){d:Dt}{v:V}(i:Nat)(r:J7 K H ρ d v):g8 K H ρ (l.set i (some d)) (σ.set i (some v)):=by
 refine⟨by rw[length_set,length_set];exact L.len,fun j d' e=>?_⟩;by_cases hj:j=i
 · subst hj;have hl:j<l.length:=by have:=(Sy e).1;rwa[length_set]at this
   rw[getElem?_set_self hl]at e;cases e;exact⟨v,getElem?_set_self (by rw[<- L.len];exact hl),r⟩
 · rw[getElem?_set_ne (Ne.symm hj)]at e;rw[getElem?_set_ne (Ne.symm hj)];exact L.val j d' e
abbrev RE:=LI->HI->Option (Dt×HI)
abbrev RT:=LI->HI->Option (Bool×HI)
abbrev RA:=LI->HI->Option (List Dt×HI)
inductive Rs where
 | nx (l:LI) (h:HI) | rt (d:Dt) (h:HI) | bk (l:LI) (h:HI) | ct (l:LI) (h:HI)
abbrev RS:=LI->HI->Option Rs
abbrev LC:=Dt->Dt->HI->Option (Dt×HI)
abbrev jB:=List Dt->HI->Option (Dt×HI)
noncomputable def eB:Expr->Bool
 | .Starred _ _=>false
 | _=>true
theorem gB{e:Expr}(h:eB e=true)(es:List Expr)(env:Env):starEach (e::es) env=(false,eval e env)::starEach es env:=by cases e<;>first | rfl | (exact absurd h Vy)
theorem YF{pos:Pos}{env:Env}:∀{es:List Expr},es.all eB=true->(backTo pos (starEach es env)).any (·.1)=false
 | [],_=>rfl
 | e::es,h=>by rw[all_cons,Bool.and_eq_true]at h;have ih:=YF (pos:=pos) (env:=env) h.2;rw[gB h.1];unfold backTo at ih ⊢;simp only[Hy,any_cons,Bool.false_or];exact ih
theorem aI{pos:Pos}{env:Env}{b:Expr}(h:eB b=true):((backTo pos (starEach [b] env)).all (fun x=>!x.1)&&(backToKw pos (keywordEach [] env)).all (fun x=>x.1.isSome)
 && decide ([b].length+([]:List Keyword).length+(if([]:List Keyword).isEmpty then 0 else 1)<30))=true:=by
 rw[gB h];rfl
def Out(K:Frag)(ρ:Rg)(H:Hp)(d:Dt)(h':HI)(Q:VK):Prop:=
 ∀ρ' v H',J7 K H' ρ' d v->M7 K ρ' h' H'->Ext ρ ρ' H H'->Q v H'
noncomputable def zj(K:Frag)(ρ:Rg)(H:Hp)(h':HI)(Q:Hp->Prop):Prop:=
 ∀ρ' H',M7 K ρ' h' H'->Ext ρ ρ' H H'->Q H'
def tM(K:Frag)(f:RE):TE:=fun σ H Q=>∃ρ l h d h',M7 K ρ h H/\g8 K H ρ l σ/\f l h=some (d,h')/\Out K ρ H d h' Q
def uL(K:Frag)(f:RT):TT:=fun σ H Q=>∃ρ l h b h',M7 K ρ h H/\g8 K H ρ l σ/\f l h=some (b,h')/\zj K ρ H h' (Q b)
def sT(K:Frag)(f:RA):TA:=fun σ H Q=>∃ρ l h ds h',M7 K ρ h H/\g8 K H ρ l σ/\f l h=some (ds,h')/\∀ρ' vs H',G7 K H' ρ' ds vs->M7 K ρ' h' H'->Ext ρ ρ' H H'->Q vs H'
def rM(K:Frag)(op:LC):R2:=fun x y H Q=>∃ρ h d1 d2 d h',M7 K ρ h H/\J7 K H ρ d1 x/\J7 K H ρ d2 y/\op d1 d2 h=some (d,h')/\Out K ρ H d h' Q
def M9(K:Frag)(ρ:Rg)(H:Hp)(D:HE):Rs->Prop
 | .nx l h=>∀ρ' σ' H',M7 K ρ' h H'->g8 K H' ρ' l σ'->Ext ρ ρ' H H'->D.nx σ' H'
 | .bk l h=>∀ρ' σ' H',M7 K ρ' h H'->g8 K H' ρ' l σ'->Ext ρ ρ' H H'->D.bk σ' H'
 | .ct l h=>∀ρ' σ' H',M7 K ρ' h H'->g8 K H' ρ' l σ'->Ext ρ ρ' H H'->D.ct σ' H'
 | .rt d h=>Out K ρ H d h D.rt
def sM(K:Frag)(f:RS):TS:=fun D σ H=>∃ρ l h r,M7 K ρ h H/\g8 K H ρ l σ/\f l h=some r/\M9 K ρ H D r
theorem Out.ext{K:Frag}{ρ ρ1:Rg}{H H1:Hp}{d:Dt}{h':HI}{Q:VK}(k:Out K ρ H d h' Q)(x:Ext ρ ρ1 H H1):Out K ρ1 H1 d h' Q:=fun ρ' v H' r s e=>k ρ' v H' r s (x.trans e)
theorem zj.ext{K:Frag}{ρ ρ1:Rg}{H H1:Hp}{h':HI}{Q:Hp->Prop}(k:zj K ρ H h' Q)(x:Ext ρ ρ1 H H1):zj K ρ1 H1 h' Q:=fun ρ' H' s e=>k ρ' H' s (x.trans e)
theorem M9.ext{K:Frag}{ρ ρ1:Rg}{H H1:Hp}{D:HE}{r:Rs}(k:M9 K ρ H D r)(x:Ext ρ ρ1 H H1):M9 K ρ1 H1 D r:=by
 cases r with
 | nx l h=>exact fun ρ' σ' H' s l e=>k ρ' σ' H' s l (x.trans e)
 | bk l h=>exact fun ρ' σ' H' s l e=>k ρ' σ' H' s l (x.trans e)
 | ct l h=>exact fun ρ' σ' H' s l e=>k ρ' σ' H' s l (x.trans e)
 | rt d h=>exact Out.ext k x
@[irreducible] def EM(X:Cx)(e:Expr)(f:RE):Prop:=PE X e (tM X.K f)
@[irreducible] def TM(X:Cx)(e:Expr)(f:RT):Prop:=PT X e (uL X.K f)
@[irreducible] def WM(X:Cx)(e:Expr)(f:RT):Prop:=PW X e (uL X.K f)
@[irreducible] def AM(X:Cx)(es:List Expr)(f:RA):Prop:=PA X es (sT X.K f)
@[irreducible] def OM(X:Cx)(f:Value->Value->Sem Value)(op:LC):Prop:=L8 X f (rM X.K op)
@[irreducible] def ZM(X:Cx)(st:Stmt)(f:RS):Prop:=PS X st (sM X.K f)
@[irreducible] def yG(X:Cx)(st:List Stmt)(f:RS):Prop:=F9 X st (sM X.K f)
theorem PE.imp{X:Cx}{e:Expr}{t t':TE}(h:PE X e t)(i:∀σ H Q,t' σ H Q->t σ H Q):PE X e t':=fun pins s σ H Q I q=>h pins s σ H Q I (i σ H Q q)
theorem PT.imp{X:Cx}{e:Expr}{t t':TT}(h:PT X e t)(i:∀σ H Q,t' σ H Q->t σ H Q):PT X e t':=fun pins s σ H Q I q=>h pins s σ H Q I (i σ H Q q)
theorem PW.imp{X:Cx}{e:Expr}{t t':TT}(h:PW X e t)(i:∀σ H Q,t' σ H Q->t σ H Q):PW X e t':=fun wh pins s σ H Q I q=>h wh pins s σ H Q I (i σ H Q q)
theorem PA.imp{X:Cx}{e:List Expr}{t t':TA}(h:PA X e t)(i:∀σ H Q,t' σ H Q->t σ H Q):PA X e t':=fun pos pins s σ H Q I q=>h pos pins s σ H Q I (i σ H Q q)
theorem PS.imp{X:Cx}{e:Stmt}{t t':TS}(h:PS X e t)(i:∀D σ H,t' D σ H->t D σ H):PS X e t':=fun pins s σ H D I q=>h pins s σ H D I (i D σ H q)
theorem F9.imp{X:Cx}{e:List Stmt}{t t':TS}(h:F9 X e t)(i:∀D σ H,t' D σ H->t D σ H):F9 X e t':=fun pins s σ H D I q=>h pins s σ H D I (i D σ H q)
theorem L8.imp{X:Cx}{f:Value->Value->Sem Value}{t t':R2}(h:L8 X f t)(i:∀x y H Q,t' x y H Q->t x y H Q):L8 X f t':=fun pins s σ H x y v u Q I r1 r2 q=>h pins s σ H x y v u Q I r1 r2 (i x y H Q q)
noncomputable def eC(d:Dt):RE:=fun _ h=>some (d,h)
noncomputable def eV(i:Nat):RE:=fun l h=>match l[i]? with | some (some d)=>some (d,h) | _=>none
noncomputable def e2(op:LC)(fa fb:RE):RE:=fun l h=>(fa l h).bind fun r=>(fb l r.2).bind fun q=>op r.1 q.1 q.2
noncomputable def fA:RA:=fun _ h=>some ([],h)
noncomputable def bA(f:RE)(g:RA):RA:=fun l h=>(f l h).bind fun r=>(g l r.2).bind fun q=>some (r.1::q.1,q.2)
section
variable{X:Cx}{a b c:Expr}{fa fb fc:RE}{pos:Pos}
theorem dA{i j pos}:EM X (.Constant (.int i) j pos) (eC (.int i)):=by with_unfolding_all exact PE.imp W3 fun σ H Q zz=>by obtain⟨ρ,l,h,d,h',S,L,e,k⟩:=zz;cases e;exact k ρ _ H (K7.mpr rfl) S (Ext.refl _ _)
theorem KC{i j pos}:EM X (.Constant (.bool i) j pos) (eC (.bl i)):=by with_unfolding_all exact PE.imp Z5 fun σ H Q zz=>by obtain⟨ρ,l,h,d,h',S,L,e,k⟩:=zz;cases e;exact k ρ _ H (L7.mpr rfl) S (Ext.refl _ _)
theorem AA{i j pos}:EM X (.Constant (.str i) j pos) (eC (.str i)):=by with_unfolding_all exact PE.imp j4 fun σ H Q zz=>by obtain⟨ρ,l,h,d,h',S,L,e,k⟩:=zz;cases e;exact k ρ _ H (N7.mpr rfl) S (Ext.refl _ _)
theorem uR{j pos}:EM X (.Constant .none j pos) (eC .non):=by with_unfolding_all exact PE.imp X3 fun σ H Q zz=>by obtain⟨ρ,l,h,d,h',S,L,e,k⟩:=zz;cases e;exact k ρ _ H (T7.mpr rfl) S (Ext.refl _ _)
theorem aA (i:Nat) {x:Str} {pos:Pos} (hN:X.N[i]?=some x:=by rfl) (hv:RK X.env.scope x:=by first | exact Or.inl rfl | exact Or.inr (Or.inl rfl) | exact Or.inr (Or.inr rfl)) (hd:(x==("__debug__" :Str))=false:=by decide)
 (hcd:(x==("__classdict__" :Str))=false:=by decide):EM X (.Name x pos) (eV i):=by
 with_unfolding_all
  exact PE.imp (xK hN hv hd hcd) fun σ H Q zz=>by
   obtain⟨ρ,l,h,d,h',S,L,e,k⟩:=zz;unfold eV at e;split at e
   · rename_i d' q;cases e;obtain⟨v,e1,r⟩:=L.val i _ q;exact⟨v,e1,k ρ v H r S (Ext.refl _ _)⟩
   · cases e
theorem iZ {x:Str} {v:V} {u:Value} {d:Dt} {pos:Pos} (hg:Gl X x) (hm:X.mg x=some u) (r:RelV v u) (rd:∀H ρ,J7 X.K H ρ d v) (hd:(x==("__debug__" :Str))=false:=by decide):EM X (.Name x pos) (eC d):=by with_unfolding_all exact PE.imp (RY hg hm r hd) fun σ H Q zz=>by obtain⟨ρ,l,h,d',h',S,L,e,k⟩:=zz;cases e;exact k ρ v H (rd H ρ) S (Ext.refl _ _)
theorem eA{α β:Type}{o:Option α}{f:α->Option β}{b:β}(h:o.bind f=some b):∃a,o=some a/\f a=some b:=by
 cases o with
 | none=>cases h
 | some a=>exact⟨a,rfl,h⟩
theorem lA{op:Operator}{o:LC}(ho:OM X (binaryOp op) o)(ha:EM X a fa)(hb:EM X b fb):EM X (.BinOp a op b pos) (e2 o fa fb):=by
 with_unfolding_all
  exact PE.imp (b6 ho ha hb) fun σ H Q zz=>by
   obtain⟨ρ,l,h,d,h',S,L,e,k⟩:=zz;obtain⟨⟨d1,h1⟩,e1,e⟩:=eA e;obtain⟨⟨d2,h2⟩,e2,e⟩:=eA e;exact⟨ρ,l,h,d1,h1,S,L,e1,fun ρ1 x H1 R1 S1 E1=>⟨ρ1,l,h1,d2,h2,S1,L.ext E1,e2,fun ρ2 y H2 R2 S2 E2=>
    ⟨ρ2,h2,d1,d2,d,h',S2,J7.ext E2 _ R1,R2,e,k.ext (E1.trans E2)⟩⟩⟩
theorem sI{op:CmpOp}{o:LC}(ho:OM X (compareOp op) o)(ha:EM X a fa)(hb:EM X b fb)(hm:behindInMarks op b=false:=by first | exact JR _ | with_unfolding_all rfl):EM X (.Compare a [op] [b] pos) (e2 o fa fb):=by
 with_unfolding_all
  exact PE.imp (OY ho ha hb hm) fun σ H Q zz=>by
   obtain⟨ρ,l,h,d,h',S,L,e,k⟩:=zz;obtain⟨⟨d1,h1⟩,e1,e⟩:=eA e;obtain⟨⟨d2,h2⟩,e2,e⟩:=eA e;exact⟨ρ,l,h,d1,h1,S,L,e1,fun ρ1 x H1 R1 S1 E1=>⟨ρ1,l,h1,d2,h2,S1,L.ext E1,e2,fun ρ2 y H2 R2 S2 E2=>
    ⟨ρ2,h2,d1,d2,d,h',S2,J7.ext E2 _ R1,R2,e,k.ext (E1.trans E2)⟩⟩⟩
noncomputable def b8(f:RE):RT:=fun l h=>(f l h).bind fun r=>match r.1 with | .bl b=>some (b,r.2) | _=>none
theorem nB{op:CmpOp}{o:LC}(ho:OM X (compareOp op) o)(ha:EM X a fa)(hb:EM X b fb)(hm:behindInMarks op b=false:=by first | exact JR _ | with_unfolding_all rfl):TM X (.Compare a [op] [b] pos) (b8 (e2 o fa fb)):=by
 with_unfolding_all
  exact PT.imp (cZ ho ha hb hm) fun σ H Q zz=>by
   obtain⟨ρ,l,h,bb,h',S,L,e,k⟩:=zz;obtain⟨⟨d,h3⟩,e0,e⟩:=eA e;obtain⟨⟨d1,h1⟩,e1,e0⟩:=eA e0;obtain⟨⟨d2,h2⟩,e2,e0⟩:=eA e0;refine⟨ρ,l,h,d1,h1,S,L,e1,fun ρ1 x H1 R1 S1 E1=>⟨ρ1,l,h1,d2,h2,S1,L.ext E1,e2,fun ρ2 y H2 R2 S2 E2=>
    ⟨ρ2,h2,d1,d2,d,h3,S2,J7.ext E2 _ R1,R2,e0,fun ρ3 v H3 R3 S3 E3=>?_⟩⟩⟩
   cases d with
   | bl q=>cases e;exact⟨bb,L7.mp R3,k ρ3 H3 S3 (E1.trans (E2.trans E3))⟩
   | _=>cases e
theorem ZC{e:Expr}{f:RE}(h:EM X e f)(he:∀whole,isTrue e X.env whole=(do let v <- whole;standAt e.pos;holding [v] (truthy v)):=by intro _;rfl):TM X e (b8 f):=by
 with_unfolding_all
  exact PT.imp (F4 h he) fun σ H Q zz=>by
   obtain⟨ρ,l,h,bb,h',S,L,e,k⟩:=zz;obtain⟨⟨d,h3⟩,e0,e⟩:=eA e;refine⟨ρ,l,h,d,h3,S,L,e0,fun ρ3 v H3 R3 S3 E3=>?_⟩;cases d with
   | bl q=>cases e;exact⟨bb,L7.mp R3,k ρ3 H3 S3 E3⟩
   | _=>cases e
noncomputable def jH(o o':LC)(fa fb fc:RE):RE:=fun l h=>(fa l h).bind fun r=>(fb l r.2).bind fun q=>(o r.1 q.1 q.2).bind fun z=>match z.1 with
 | .bl true=>(fc l z.2).bind fun y=>o' q.1 y.1 y.2
 | .bl false=>some (.bl false,z.2)
 | _=>none
theorem KU{r r':LC}{σ:L2.St}{H:Hp}{Q:VK}(h:tM X.K (jH r r' fa fb fc) σ H Q):XR (rM X.K r) (rM X.K r') (tM X.K fa) (tM X.K fb) (tM X.K fc) σ H Q:=by
 obtain⟨ρ,l,h,d,h',S,L,e,k⟩:=h;obtain⟨⟨d1,h1⟩,e1,e⟩:=eA e;obtain⟨⟨d2,h2⟩,e2,e⟩:=eA e;obtain⟨⟨d3,h3⟩,e3,e⟩:=eA e;refine⟨ρ,l,h,d1,h1,S,L,e1,fun ρ1 x H1 R1 S1 E1=>⟨ρ1,l,h1,d2,h2,S1,L.ext E1,e2,fun ρ2 y H2 R2 S2 E2=>
  ⟨ρ2,h2,d1,d2,d3,h3,S2,J7.ext E2 _ R1,R2,e3,fun ρ3 v H3 R3 S3 E3=>?_⟩⟩⟩
 cases d3 with
 | bl q=>
  refine⟨q,L7.mp R3,?_⟩;cases q with
  | true=>dsimp only at e;obtain⟨⟨d4,h4⟩,e4,e⟩:=eA e;refine XD ⟨ρ3,l,h3,d4,h4,S3,(L.ext (E1.trans (E2.trans E3))),e4,fun ρ4 u H4 R4 S4 E4=>⟨ρ4,h4,d2,d4,d,h',S4,J7.ext (E3.trans E4) _ R2,R4,e,k.ext (E1.trans (E2.trans (E3.trans E4)))⟩⟩
  | false=>cases e;exact WD (k ρ3 _ H3 (L7.mpr rfl) S3 (E1.trans (E2.trans E3)))
 | _=>cases e
theorem FQ{op op':CmpOp}{r r':LC}(ho:OM X (compareOp op) r)(ho':OM X (compareOp op') r')(ha:EM X a fa)(hb:EM X b fb)(hc:EM X c fc)
 (hm:lastMarks [op,op'] [b,c]=false:=by with_unfolding_all rfl):EM X (.Compare a [op,op'] [b,c] pos) (jH r r' fa fb fc):=by
 with_unfolding_all exact PE.imp (VX ho ho' ha hb hc hm) fun _ _ _ h=>KU h
noncomputable def ND(t u:RT):RT:=fun l h=>(t l h).bind fun r=>if r.1=true then u l r.2 else some (false,r.2)
noncomputable def DD(t u:RT):RT:=fun l h=>(t l h).bind fun r=>if r.1=true then some (true,r.2)else u l r.2
noncomputable def cD(t:RT):RT:=fun l h=>(t l h).bind fun r=>some (!r.1,r.2)
variable{tA Vz:RT}{rest:List Expr}
theorem WM.tm{e:Expr}{f:RT}(h:WM X e f):TM X e f:=by with_unfolding_all exact PW.pt h
theorem fK(ha:TM X a tA):WM X (.BoolOp .And [a] pos) tA:=by with_unfolding_all exact tY ha
theorem zF(ha:TM X a tA):WM X (.BoolOp .Or [a] pos) tA:=by with_unfolding_all exact K4 ha
theorem mI(ha:TM X a tA)(hb:WM X (.BoolOp .And (b::rest) pos) Vz):WM X (.BoolOp .And (a::b::rest) pos) (ND tA Vz):=by
 with_unfolding_all
  exact PW.imp (J4 ha hb) fun σ H Q zz=>by
   obtain⟨ρ,l,h,bb,h',S,L,e,k⟩:=zz;obtain⟨⟨b1,h1⟩,e1,e⟩:=eA e;refine⟨ρ,l,h,b1,h1,S,L,e1,fun ρ1 H1 S1 E1=>?_⟩;cases b1 with
   | true=>rw[if_pos rfl]at e;exact XD ⟨ρ1,l,h1,bb,h',S1,L.ext E1,e,k.ext E1⟩
   | false=>rw[if_neg Vy]at e;cases e;exact WD (k ρ1 H1 S1 E1)
theorem EE(ha:TM X a tA)(hb:WM X (.BoolOp .Or (b::rest) pos) Vz):WM X (.BoolOp .Or (a::b::rest) pos) (DD tA Vz):=by
 with_unfolding_all
  exact PW.imp (i6 ha hb) fun σ H Q zz=>by
   obtain⟨ρ,l,h,bb,h',S,L,e,k⟩:=zz;obtain⟨⟨b1,h1⟩,e1,e⟩:=eA e;refine⟨ρ,l,h,b1,h1,S,L,e1,fun ρ1 H1 S1 E1=>?_⟩;cases b1 with
   | true=>rw[if_pos rfl]at e;cases e;exact XD (k ρ1 H1 S1 E1)
   | false=>rw[if_neg Vy]at e;exact WD ⟨ρ1,l,h1,bb,h',S1,L.ext E1,e,k.ext E1⟩
theorem GD(ha:TM X a tA):TM X (.UnaryOp .Not a pos) (cD tA):=by with_unfolding_all exact PT.imp (D4 ha) fun σ H Q zz=>by obtain⟨ρ,l,h,bb,h',S,L,e,k⟩:=zz;obtain⟨⟨b1,h1⟩,e1,e⟩:=eA e;cases e;exact⟨ρ,l,h,b1,h1,S,L,e1,fun ρ1 H1 S1 E1=>k ρ1 H1 S1 E1⟩
noncomputable def JG(t u:RE):RE:=fun l h=>(t l h).bind fun r=>match r.1 with | .bl true=>u l r.2 | .bl false=>some (.bl false,r.2) | _=>none
noncomputable def HS(t u:RE):RE:=fun l h=>(t l h).bind fun r=>match r.1 with | .bl true=>some (.bl true,r.2) | .bl false=>u l r.2 | _=>none
noncomputable def kJ(t:RE):RE:=fun l h=>(t l h).bind fun r=>match r.1 with | .bl b=>some (.bl (!b),r.2) | _=>none
theorem qK{op}(h:EM X a fa):EM X (.BoolOp op [a] pos) fa:=by with_unfolding_all exact Z3 h
theorem eO(ha:EM X a fa)(hb:EM X (.BoolOp .And (b::rest) pos) fb):EM X (.BoolOp .And (a::b::rest) pos) (JG fa fb):=by
 with_unfolding_all
  exact PE.imp (U3 ha hb) fun σ H Q zz=>by
   obtain⟨ρ,l,h,d,h',S,L,e,k⟩:=zz;obtain⟨⟨d1,h1⟩,e1,e⟩:=eA e;refine⟨ρ,l,h,d1,h1,S,L,e1,fun ρ1 v H1 R1 S1 E1=>?_⟩;cases d1 with
   | bl q=>
    refine⟨q,L7.mp R1,?_⟩;cases q with
    | true=>exact XD ⟨ρ1,l,h1,d,h',S1,L.ext E1,e,k.ext E1⟩
    | false=>cases e;exact WD (k ρ1 _ H1 (L7.mpr rfl) S1 E1)
   | _=>cases e
theorem F2(ha:EM X a fa)(hb:EM X (.BoolOp .Or (b::rest) pos) fb):EM X (.BoolOp .Or (a::b::rest) pos) (HS fa fb):=by
 with_unfolding_all
  exact PE.imp (f6 ha hb) fun σ H Q zz=>by
   obtain⟨ρ,l,h,d,h',S,L,e,k⟩:=zz;obtain⟨⟨d1,h1⟩,e1,e⟩:=eA e;refine⟨ρ,l,h,d1,h1,S,L,e1,fun ρ1 v H1 R1 S1 E1=>?_⟩;cases d1 with
   | bl q=>
    refine⟨q,L7.mp R1,?_⟩;cases q with
    | true=>cases e;exact XD (k ρ1 _ H1 (L7.mpr rfl) S1 E1)
    | false=>exact WD ⟨ρ1,l,h1,d,h',S1,L.ext E1,e,k.ext E1⟩
   | _=>cases e
theorem PZ(ha:EM X a fa):EM X (.UnaryOp .Not a pos) (kJ fa):=by
 with_unfolding_all
  exact PE.imp (Y3 ha) fun σ H Q zz=>by
   obtain⟨ρ,l,h,d,h',S,L,e,k⟩:=zz;obtain⟨⟨d1,h1⟩,e1,e⟩:=eA e;refine⟨ρ,l,h,d1,h1,S,L,e1,fun ρ1 v H1 R1 S1 E1=>?_⟩;cases d1 with
   | bl q=>cases e;exact⟨q,L7.mp R1,k ρ1 _ H1 (L7.mpr rfl) S1 E1⟩
   | _=>cases e
noncomputable def CT(t:RT)(f g:RE):RE:=fun l h=>(t l h).bind fun r=>if r.1=true then f l r.2 else g l r.2
theorem D2{c:Expr}(hc:TM X c tA)(ha:EM X a fa)(hb:EM X b fb):EM X (.IfExp c a b pos) (CT tA fa fb):=by
 with_unfolding_all
  exact PE.imp (bY hc ha hb) fun σ H Q zz=>by
   obtain⟨ρ,l,h,d,h',S,L,e,k⟩:=zz;obtain⟨⟨b1,h1⟩,e1,e⟩:=eA e;refine⟨ρ,l,h,b1,h1,S,L,e1,fun ρ1 H1 S1 E1=>?_⟩;cases b1 with
   | true=>rw[if_pos rfl]at e;exact XD ⟨ρ1,l,h1,d,h',S1,L.ext E1,e,k.ext E1⟩
   | false=>rw[if_neg Vy]at e;exact WD ⟨ρ1,l,h1,d,h',S1,L.ext E1,e,k.ext E1⟩
theorem pA:AM X [] fA:=by with_unfolding_all exact PA.imp XC fun σ H Q zz=>by obtain⟨ρ,l,h,ds,h',S,L,e,k⟩:=zz;cases e;exact k ρ [] H .nil S (Ext.refl _ _)
theorem cA{e:Expr}{es:List Expr}{f:RE}{g:RA}(ha:EM X e f)(hr:AM X es g)(hs:eB e=true:=by rfl):AM X (e::es) (bA f g):=by with_unfolding_all exact PA.imp (qC ha hr (gB hs es X.env)) fun σ H Q zz=>by obtain⟨ρ,l,h,ds,h',S,L,e,k⟩:=zz;obtain⟨⟨d1,h1⟩,e1,e⟩:=eA e;obtain⟨⟨Rw,h2⟩,e2,e⟩:=eA e;cases e;exact⟨ρ,l,h,d1,h1,S,L,e1,fun ρ1 x H1 R1 S1 E1=>⟨ρ1,l,h1,Rw,h2,S1,L.ext E1,e2,fun ρ2 xs H2 R2 S2 E2=>k ρ2 _ H2 (.cons (J7.ext E2 _ R1) R2) S2 (E1.trans E2)⟩⟩
noncomputable def dC(g:RA):RE:=fun l h=>(g l h).bind fun r=>if r.1.length<=sizeLine then some (.tup r.1,r.2)else none
noncomputable def uC(g:RA):RE:=fun l h=>(g l h).bind fun r=>if r.1.length<=sizeLine then some (.lst r.1,r.2)else none
noncomputable def CG(g:RA):RE:=fun l h=>(g l h).bind fun r=>if r.1.length<=sizeLine then some (.ref r.2.length,r.2++[.lst r.1])else none
theorem HR{K:Frag}{H:Hp}{ρ:Rg}{h:HI}{ds:List Dt}{vs:List V}{p:Addr}(S:M7 K ρ h H)(R:G7 K H ρ ds vs)(hp:H p=none):J7 K (DA H p (.tup vs)) ρ (.tup ds) (.ref p):=
 U7.mpr ⟨p,vs,rfl,.inl ⟨S.out hp,.inl AB⟩,R.ext (Ext.fresh hp)⟩
theorem AI{K:Frag}{H:Hp}{ρ:Rg}{h:HI}{ds:List Dt}{vs:List V}{p:Addr}(S:M7 K ρ h H)(R:G7 K H ρ ds vs)(hp:H p=none):J7 K (DA H p (.lst vs)) ρ (.lst ds) (.ref p):=
 O7.mpr ⟨p,vs,rfl,.inl ⟨S.out hp,.inl AB⟩,R.ext (Ext.fresh hp)⟩
theorem GR{K:Frag}{H:Hp}{ρ:Rg}{h:HI}{ds:List Dt}{vs:List V}{p:Addr}(S:M7 K ρ h H)(R:G7 K H ρ ds vs)(hp:H p=none) :
 J7 K (DA H p (.lst vs)) (ρ.add p) (.ref h.length) (.ref p)/\M7 K (ρ.add p) (h++[.lst ds]) (DA H p (.lst vs)):=by
 refine⟨R7.mpr ⟨p,rfl,?_⟩,S.own hp ⟨vs,AB,R.ext (Ext.own hp)⟩⟩;simp only[Rg.add];rw[<- S.len,Yy (Xy _),Nat.sub_self];rfl
theorem gE{α:Type}{c:Prop}[Decidable c]{a b:α}(h:(if c then some a else none)=some b):c/\a=b:=by
 by_cases hc:c
 · rw[if_pos hc]at h;exact⟨hc,Option.some.inj h⟩
 · rw[if_neg hc]at h;cases h
theorem EC{es:List Expr}{g:RA}{x1}(h:AM X es g):EM X (.Tuple es x1 pos) (dC g):=by with_unfolding_all exact PE.imp (k4 h) fun σ H Q zz=>by obtain⟨ρ,l,h,d,h',S,L,e,k⟩:=zz;obtain⟨⟨ds,h1⟩,e1,e⟩:=eA e;obtain⟨hz,e⟩:=gE e;cases e;exact⟨ρ,l,h,ds,h1,S,L,e1,fun ρ1 vs H1 R1 S1 E1=>⟨by rw[R1.length];exact hz,fun p hp=>k ρ1 _ _ (HR S1 R1 hp) (S1.fresh hp) (E1.trans (Ext.fresh hp))⟩⟩
theorem dE{es:List Expr}{g:RA}(h:AM X es g):EM X (.List es pos) (uC g):=by with_unfolding_all exact PE.imp (LR h) fun σ H Q zz=>by obtain⟨ρ,l,h,d,h',S,L,e,k⟩:=zz;obtain⟨⟨ds,h1⟩,e1,e⟩:=eA e;obtain⟨hz,e⟩:=gE e;cases e;exact⟨ρ,l,h,ds,h1,S,L,e1,fun ρ1 vs H1 R1 S1 E1=>⟨by rw[R1.length];exact hz,fun p hp=>k ρ1 _ _ (AI S1 R1 hp) (S1.fresh hp) (E1.trans (Ext.fresh hp))⟩⟩
theorem pK{es:List Expr}{g:RA}(h:AM X es g):EM X (.List es pos) (CG g):=by with_unfolding_all exact PE.imp (LR h) fun σ H Q zz=>by obtain⟨ρ,l,h,d,h',S,L,e,k⟩:=zz;obtain⟨⟨ds,h1⟩,e1,e⟩:=eA e;obtain⟨hz,e⟩:=gE e;cases e;exact⟨ρ,l,h,ds,h1,S,L,e1,fun ρ1 vs H1 R1 S1 E1=>⟨by rw[R1.length];exact hz,fun p hp=>k _ _ _ (GR S1 R1 hp).1 (GR S1 R1 hp).2 (E1.trans (Ext.own hp))⟩⟩
end
noncomputable def oI(C:Int->Int->Prop)[∀i j,Decidable (C i j)](g:Int->Int->Dt):LC:=fun a b h=>match a,b with
 | .int i,.int j=>if C i j then some (g i j,h)else none
 | _,_=>none
noncomputable def TK(g:Int->Int->Dt):LC:=fun a b h=>match a,b with
 | .int i,.int j=>some (g i j,h)
 | _,_=>none
instance:∀i j,Decidable (yH i j):=fun i j=>by unfold yH;infer_instance
instance:∀i j,Decidable (V9 i j):=fun i j=>by unfold V9;infer_instance
instance:∀i j,Decidable (zH i j):=fun i j=>by unfold zH;infer_instance
noncomputable def VD:Dt->Option V
 | .non=>some .non
 | .bl b=>some (.bl b)
 | .int i=>some (.int i)
 | .str x=>some (.str x)
 | _=>none
theorem JQ{K:Frag}{H:Hp}{ρ:Rg}{d:Dt}{v:V}(e:VD d=some v):J7 K H ρ d v:=by cases d<;>simp only[VD]at e<;>first | (cases e;simp only[J7]) | cases e
theorem OJ{K:Frag}{H:Hp}{ρ:Rg}{d:Dt}{v u:V}(e:VD d=some v)(r:J7 K H ρ d u):u=v:=by cases d<;>simp only[VD]at e<;>first | (cases e;simpa only[J7]using r) | cases e
section
variable{X:Cx}
theorem cJ{f:Value->Value->Sem Value}{C:Int->Int->Prop}[∀i j,Decidable (C i j)]{g:Int->Int->Dt}{g':Int->Int->V}(ho:L8 X f (rI C g'))(hg:∀i j,VD (g i j)=some (g' i j)):OM X f (oI C g):=by
 with_unfolding_all
  exact L8.imp ho fun x y H Q zz=>by
   obtain⟨ρ,h,d1,d2,d,h',S,R1,R2,e,k⟩:=zz;unfold oI at e;split at e
   · rename_i i j;obtain⟨hc,e⟩:=gE e;cases e;exact⟨i,j,K7.mp R1,K7.mp R2,hc,k ρ _ H (JQ (hg i j)) S (Ext.refl _ _)⟩
   · cases e
theorem vH{f:Value->Value->Sem Value}{g:Int->Int->Dt}{g':Int->Int->V}(ho:L8 X f (eJ g'))(hg:∀i j,VD (g i j)=some (g' i j)):OM X f (TK g):=by
 with_unfolding_all
  exact L8.imp ho fun x y H Q zz=>by
   obtain⟨ρ,h,d1,d2,d,h',S,R1,R2,e,k⟩:=zz;unfold TK at e;split at e
   · rename_i i j;cases e;exact⟨i,j,K7.mp R1,K7.mp R2,k ρ _ H (JQ (hg i j)) S (Ext.refl _ _)⟩
   · cases e
def HB:LC:=TK fun i j=>.int (i+j)
def qL:LC:=TK fun i j=>.int (i-j)
def mD:LC:=oI V9 fun i j=>.int (i*j)
def RB:LC:=oI yH fun i j=>.int (i/j)
def fB:LC:=oI (fun _ j=>0<j) fun i j=>.int (i%j)
def JH:LC:=oI zH fun i j=>.int (i^j.toNat)
def IH:LC:=TK fun i j=>.bl (decide (i<j))
def xH:LC:=TK fun i j=>.bl (decide (i<=j))
def VO:LC:=TK fun i j=>.bl (decide (j<i))
def cT:LC:=TK fun i j=>.bl (decide (j<=i))
theorem FC:OM X (binaryOp .Add) HB:=by with_unfolding_all exact vH LZ fun _ _=>rfl
theorem KZ:OM X (binaryOp .Sub) qL:=by with_unfolding_all exact vH Q3 fun _ _=>rfl
theorem SE:OM X (binaryOp .Mult) mD:=by with_unfolding_all exact cJ O3 fun _ _=>rfl
theorem RC:OM X (binaryOp .FloorDiv) RB:=by with_unfolding_all exact cJ MY fun _ _=>rfl
theorem qB:OM X (binaryOp .Mod) fB:=by with_unfolding_all exact cJ N3 fun _ _=>rfl
theorem JZ:OM X (binaryOp .Pow) JH:=by with_unfolding_all exact cJ P3 fun _ _=>rfl
theorem oH:OM X (compareOp .Lt) IH:=by with_unfolding_all exact vH X5 fun _ _=>rfl
theorem kG:OM X (compareOp .LtE) xH:=by with_unfolding_all exact vH W5 fun _ _=>rfl
theorem P5:OM X (compareOp .Gt) VO:=by with_unfolding_all exact vH V5 fun _ _=>rfl
theorem O5:OM X (compareOp .GtE) cT:=by with_unfolding_all exact vH U5 fun _ _=>rfl
def bT:LC:=fun a b h=>match VD a,VD b with
 | some x,some y=>if MH x y=true then some (.bl (decide (x=y)),h)else none
 | _,_=>none
def yS:LC:=fun a b h=>match VD a,VD b with
 | some x,some y=>if MH x y=true then some (.bl (!decide (x=y)),h)else none
 | _,_=>none
theorem N5:OM X (compareOp .Eq) bT:=by
 with_unfolding_all
  exact L8.imp T5 fun x y H Q zz=>by
   obtain⟨ρ,h,d1,d2,d,h',S,R1,R2,e,k⟩:=zz;unfold bT at e;split at e
   · rename_i u v e1 e2;obtain⟨hc,e⟩:=gE e;cases e;rw[OJ e1 R1,OJ e2 R2];exact⟨hc,k ρ _ H (L7.mpr rfl) S (Ext.refl _ _)⟩
   · cases e
theorem Q5:OM X (compareOp .NotEq) yS:=by
 with_unfolding_all
  exact L8.imp Y5 fun x y H Q zz=>by
   obtain⟨ρ,h,d1,d2,d,h',S,R1,R2,e,k⟩:=zz;unfold yS at e;split at e
   · rename_i u v e1 e2;obtain⟨hc,e⟩:=gE e;cases e;rw[OJ e1 R1,OJ e2 R2];exact⟨hc,k ρ _ H (L7.mpr rfl) S (Ext.refl _ _)⟩
   · cases e
noncomputable def fS:Dt->Bool
 | .non=>true
 | _=>false
def FG:LC:=fun a b h=>match b with
 | .non=>some (.bl (fS a),h)
 | _=>none
theorem NV{K:Frag}{H:Hp}{ρ:Rg}{d:Dt}{v:V}(r:J7 K H ρ d v):decide (v=.non)=fS d:=by
 cases d with
 | non=>have e:=T7.mp r;subst e;rfl
 | bl b=>have e:=L7.mp r;subst e;rfl
 | int i=>have e:=K7.mp r;subst e;rfl
 | str x=>have e:=N7.mp r;subst e;rfl
 | tup xs=>obtain⟨a,vs,e,_⟩:=U7.mp r;subst e;rfl
 | lst xs=>obtain⟨a,vs,e,_⟩:=O7.mp r;subst e;rfl
 | ref n=>obtain⟨a,e,_⟩:=R7.mp r;subst e;rfl
 | y9 n=>obtain⟨a,e,_⟩:=l9.mp r;subst e;rfl
 | err n m k=>obtain⟨a,_,_,e,_⟩:=O8.mp r;subst e;rfl
 | thr n m k=>exact(U8.mp r).elim
theorem IZ:OM X (compareOp .Is) FG:=by
 with_unfolding_all
  exact L8.imp M3 fun x y H Q zz=>by
   obtain⟨ρ,h,d1,d2,d,h',S,R1,R2,e,k⟩:=zz;unfold FG at e;split at e
   · cases e;exact⟨T7.mp R2,k ρ _ H (L7.mpr (by rw[NV R1])) S (Ext.refl _ _)⟩
   · cases e
noncomputable def Y6(f:RE):RE:=fun l h=>(f l h).bind fun r=>match r.1 with | .int i=>some (.int (-i),r.2) | _=>none
end
noncomputable def VA(h:HI):Dt->Option (List Dt)
 | .lst xs=>some xs
 | .ref n=>match h[n]? with | some (.lst xs)=>some xs | _=>none
 | _=>none
def JE(h:HI):Dt->Option (List Dt)
 | .tup xs=>some xs
 | d=>VA h d
theorem XE{K:Frag}{H:Hp}{ρ:Rg}{h:HI}{d:Dt}{v:V}{xs:List Dt}(S:M7 K ρ h H)(R:J7 K H ρ d v)(e:VA h d=some xs):∃a vs,v=.ref a/\N8 K H a vs/\G7 K H ρ xs vs:=by
 cases d with
 | lst ys=>cases e;obtain⟨a,vs,e,q,r⟩:=O7.mp R;exact⟨a,vs,e,q.sq,r⟩
 | ref n=>
  simp only[VA]at e;split at e
  · rename_i ys q;cases e;obtain⟨a,rfl,ha⟩:=R7.mp R;obtain⟨vs,h1,h2⟩:=S.lst ha q;exact⟨a,vs,rfl,N8.of h1,h2⟩
  · cases e
 | _=>simp only[VA]at e<;>cases e
theorem EN{K:Frag}{H:Hp}{ρ:Rg}{h:HI}{d:Dt}{v:V}{xs:List Dt}(S:M7 K ρ h H)(R:J7 K H ρ d v)(e:JE h d=some xs):∃a vs,v=.ref a/\(N8 K H a vs\/CH K H a vs)/\G7 K H ρ xs vs:=by
 cases d with
 | tup ys=>cases e;obtain⟨a,vs,e,q,r⟩:=U7.mp R;exact⟨a,vs,e,.inr q.sq,r⟩
 | lst ys=>obtain⟨a,vs,e,q,r⟩:=XE S R (show VA h (.lst ys)=some xs from e);exact⟨a,vs,e,.inl q,r⟩
 | ref n=>obtain⟨a,vs,e,q,r⟩:=XE S R (show VA h (.ref n)=some xs from e);exact⟨a,vs,e,.inl q,r⟩
 | _=>cases e
theorem G7.g9{K:Frag}{H:Hp}{ρ:Rg}{ds:List Dt}{vs:List V}{i:Int}{d:Dt}(r:G7 K H ρ ds vs)(e:L2.g9 ds i=some d):∃v,L2.g9 vs i=some v/\J7 K H ρ d v:=by
 unfold L2.g9 at e ⊢;rw[r.length];cases q:DG ds.length i with
 | none=>rw[q]at e;cases e
 | some j=>rw[q]at e;exact r.get e
def wA:LC:=fun a b h=>match b with
 | .int i=>match a with
  | .str z=>if z.length<=sizeLine then(L2.g9 z.cps.toList i).map fun c=>(.str ⟨#[c]⟩,h)else none
  | _=>(JE h a).bind fun xs=>(L2.g9 xs i).map fun d=>(d,h)
 | _=>none
section
variable{X:Cx}{a b c:Expr}{fa fb fc:RE}{pos:Pos}
theorem AZ{x y:V}{H:Hp}{Q:VK}(h:rM X.K wA x y H Q):G6 X.K x y H Q:=by
 obtain⟨ρ,h,d1,d2,d,h',S,R1,R2,e,k⟩:=h;unfold wA at e;split at e
 · rename_i i;have ei:=K7.mp R2;split at e
   · rename_i z;split at e
     · rename_i hz;cases q:L2.g9 z.cps.toList i with
       | none=>rw[q]at e;cases e
       | some c=>rw[q]at e;cases e;exact .inr (.inr ⟨z,i,c,N7.mp R1,ei,hz,q,k ρ _ H (N7.mpr rfl) S (Ext.refl _ _)⟩)
     · cases e
   · obtain⟨xs,e1,e⟩:=eA e;cases q:L2.g9 xs i with
     | none=>rw[q]at e;cases e
     | some u=>
      rw[q]at e;cases e;obtain⟨p,vs,e2,sq,r⟩:=EN S R1 e1;obtain⟨v,q1,q2⟩:=r.g9 q;rcases sq with sq | sq
      · exact .inl ⟨p,vs,i,v,e2,ei,sq,q1,k ρ _ H q2 S (Ext.refl _ _)⟩
      · exact .inr (.inl ⟨p,vs,i,v,e2,ei,sq,q1,k ρ _ H q2 S (Ext.refl _ _)⟩)
 · cases e
theorem nA(ha:EM X a fa)(hb:EM X b fb)(hs:jR b:=by intro _ _;rfl):EM X (.Subscript a b pos) (e2 wA fa fb):=by
 with_unfolding_all
  exact PE.imp (a6 n0 ha hb hs) fun σ H Q zz=>by
   obtain⟨ρ,l,h,d,h',S,L,e,k⟩:=zz;obtain⟨⟨d1,h1⟩,e1,e⟩:=eA e;obtain⟨⟨d2,h2⟩,e2,e⟩:=eA e;exact⟨ρ,l,h,d1,h1,S,L,e1,fun ρ1 x H1 R1 S1 E1=>⟨ρ1,l,h1,d2,h2,S1,L.ext E1,e2,fun ρ2 y H2 R2 S2 E2=>
    AZ ⟨ρ2,h2,d1,d2,d,h',S2,J7.ext E2 _ R1,R2,e,k.ext (E1.trans E2)⟩⟩⟩
end
noncomputable def SA:RS:=fun l h=>some (.nx l h)
noncomputable def gA(f g:RS):RS:=fun l h=>(f l h).bind fun r=>match r with | .nx l' h'=>g l' h' | r=>some r
noncomputable def EA(i:Nat)(f:RE):RS:=fun l h=>(f l h).bind fun r=>some (.nx (l.set i (some r.1)) r.2)
noncomputable def AF(f:RE):RS:=fun l h=>(f l h).bind fun r=>some (.nx l r.2)
noncomputable def xA(f:RE):RS:=fun l h=>(f l h).bind fun r=>some (.rt r.1 r.2)
noncomputable def QB(t:RT)(f g:RS):RS:=fun l h=>(t l h).bind fun r=>if r.1=true then f l r.2 else g l r.2
noncomputable def jI:RS:=fun l h=>some (.bk l h)
section
variable{X:Cx}{st:Stmt}{rest:List Stmt}{e:Expr}{f:RE}{t u:RS}{c:RT}{pos:Pos}
theorem lB:yG X [] SA:=by with_unfolding_all exact F9.imp bZ fun D σ H zz=>by obtain⟨ρ,l,h,r,S,L,e,k⟩:=zz;cases e;exact k ρ σ H S L (Ext.refl _ _)
theorem rA(h1:ZM X st t)(h2:yG X rest u):yG X (st::rest) (gA t u):=by
 with_unfolding_all
  exact F9.imp (oN h1 h2) fun D σ H zz=>by
   obtain⟨ρ,l,h,r,S,L,e,k⟩:=zz;obtain⟨r1,e1,e⟩:=eA e;refine⟨ρ,l,h,r1,S,L,e1,?_⟩;cases r1 with
   | nx l' h'=>exact fun ρ' σ' H' S' L' E'=>⟨ρ',l',h',r,S',L',e,k.ext E'⟩
   | rt d h'=>cases e;exact k
   | bk l' h'=>cases e;exact k
   | ct l' h'=>cases e;exact k
theorem sA(h1:ZM X st t):yG X [st] t:=by with_unfolding_all exact ZJ h1
theorem RX:ZM X (.Break pos) jI:=by with_unfolding_all exact PS.imp iY fun D σ H zz=>by obtain⟨ρ,l,h,r,S,L,e,k⟩:=zz;cases e;exact k ρ σ H S L (Ext.refl _ _)
theorem gK(he:EM X e f)(hs:swapsWith e none pos.line X.env=pure false:=by rfl):ZM X (.Expr e pos) (AF f):=by with_unfolding_all exact PS.imp (UQ he hs) fun D σ H zz=>by obtain⟨ρ,l,h,r,S,L,e,k⟩:=zz;obtain⟨⟨d1,h1⟩,e1,e⟩:=eA e;cases e;exact⟨ρ,l,h,d1,h1,S,L,e1,fun ρ1 v H1 R1 S1 E1=>k ρ1 σ H1 S1 (L.ext E1) E1⟩
theorem HA(he:EM X e f):ZM X (.Return (some e) pos) (xA f):=by with_unfolding_all exact PS.imp (A4 he) fun D σ H zz=>by obtain⟨ρ,l,h,r,S,L,e,k⟩:=zz;obtain⟨⟨d1,h1⟩,e1,e⟩:=eA e;cases e;exact⟨ρ,l,h,d1,h1,S,L,e1,k⟩
theorem sB{b:Expr}{ss ss':List Stmt}(hc:TM X b c)(ha:yG X ss t)(hb:yG X ss' u):ZM X (.If b ss ss' pos) (QB c t u):=by
 with_unfolding_all
  exact PS.imp (iS hc ha hb) fun D σ H zz=>by
   obtain⟨ρ,l,h,r,S,L,e,k⟩:=zz;obtain⟨⟨b1,h1⟩,e1,e⟩:=eA e;refine⟨ρ,l,h,b1,h1,S,L,e1,fun ρ1 H1 S1 E1=>?_⟩;cases b1 with
   | true=>rw[if_pos rfl]at e;exact XD ⟨ρ1,l,h1,r,S1,L.ext E1,e,k.ext E1⟩
   | false=>rw[if_neg Vy]at e;exact WD ⟨ρ1,l,h1,r,S1,L.ext E1,e,k.ext E1⟩
theorem yB(i:Nat){x:Str}{pos':Pos}(hN:X.N.Nodup)(he:EM X e f)(hi:X.N[i]?=some x:=by rfl)(hx:YI X.env.scope x:=by first | exact Or.inl rfl | exact Or.inr rfl)
 (hs:swapsWith e (some (.Name x pos')) pos.line X.env=pure false:=by rfl) (hf:X.fn x=true\/X.env.scope.names.lookup x=some .local:=by first | exact .inl rfl | exact .inr rfl | assumption) :
 ZM X (.Assign [.Name x pos'] e pos) (EA i f):=by
 with_unfolding_all exact PS.imp (aO hN hi hx he hs hf) fun D σ H zz=>by obtain⟨ρ,l,h,r,S,L,e,k⟩:=zz;obtain⟨⟨d1,h1⟩,e1,e⟩:=eA e;cases e;exact⟨ρ,l,h,d1,h1,S,L,e1,fun ρ1 v H1 R1 S1 E1=>k ρ1 _ H1 S1 ((L.ext E1).set i R1) E1⟩
end
inductive Src where
 | vals (xs:List Dt)
 | rf (n:Nat)
 | zp (a b:Dt)
 | it (n:Nat)
 | en (n:Nat)
def Src.at(s:Src)(h:HI)(i:Nat):Option (Option Dt):=match s with
 | .vals xs=>some xs[i]?
 | .rf n=>match h[n]? with | some (.lst xs)=>some xs[i]? | _=>none
 | .zp a b=>match VA h a,VA h b with
  | some xs,some ys=>some (match xs[i]?,ys[i]? with | some x,some y=>some (.tup [x,y]) | _,_=>none)
  | _,_=>none
 | .it n=>match h[n]? with | some (.df kvs)=>some (kvs[i]?.map fun p=>.tup [.tup (p.1.map Dt.int),p.2]) | _=>none
 | .en n=>match h[n]? with | some (.lst xs)=>some (xs[i]?.map fun x=>.tup [.int (i:Int),x]) | _=>none
def Src.fuel(s:Src)(h:HI):Nat:=match s with
 | .vals xs=>xs.length+1
 | .rf n=>match h[n]? with | some (.lst xs)=>xs.length+1 | _=>0
 | .zp a _=>match VA h a with | some xs=>xs.length+1 | _=>0
 | .it n=>match h[n]? with | some (.df kvs)=>kvs.length+1 | _=>0
 | .en n=>match h[n]? with | some (.lst xs)=>xs.length+1 | _=>0
abbrev RI:=LI->HI->Option (Src×HI)
def aS(K:Frag)(H:Hp)(ρ:Rg)(s:Src)(J:It):Prop:=
 ∀H2 ρ2 h2,v8 ρ ρ2 H H2->M7 K ρ2 h2 H2->∀i:Nat,match s.at h2 i with
  | none=>True
  | some none=>J.stop i H2
  | some (some d)=>J.go i H2/\∀v H3,J.Wq i H2 v H3->J7 K H3 ρ2 d v/\Ext ρ2 ρ2 H2 H3/\M7 K ρ2 h2 H3
def iM(K:Frag)(g:RI):TI:=fun σ H R=>∃ρ l h s h',M7 K ρ h H/\g8 K H ρ l σ/\g l h=some (s,h')/\∀ρ' J H',aS K H' ρ' s J->M7 K ρ' h' H'->Ext ρ ρ' H H'->R J H'
@[irreducible] def IM(X:Cx)(tg iter:Expr)(g:RI):Prop:=PI X tg iter (iM X.K g)
theorem PI.imp{X:Cx}{tg e:Expr}{t t':TI}(h:PI X tg e t)(i:∀σ H Q,t' σ H Q->t σ H Q):PI X tg e t':=fun pins s σ H Q I q=>h pins s σ H Q I (i σ H Q q)
abbrev RG:=Dt->LI->Option LI
def gM(K:Frag)(g:RG):TG:=fun v σ H Q=>∃ρ l h d l',M7 K ρ h H/\g8 K H ρ l σ/\J7 K H ρ d v/\g d l=some l'/\∀σ',g8 K H ρ l' σ'->Q σ' H
@[irreducible] def GM(X:Cx)(tg:Expr)(g:RG):Prop:=PG X tg (gM X.K g)
theorem PG.imp{X:Cx}{e:Expr}{t t':TG}(h:PG X e t)(i:∀v σ H Q,t' v σ H Q->t v σ H Q):PG X e t':=fun pins s σ H v u Q I r q=>h pins s σ H v u Q I r (i v σ H Q q)
noncomputable def KA(i:Nat):RG:=fun d l=>some (l.set i (some d))
def BC(bd:RG)(body:RS)(s:Src):Nat->Nat->RS
 | 0,_,_,_=>none
 | k+1,i,l,h=>match s.at h i with
  | none=>none
  | some none=>some (.nx l h)
  | some (some d)=>(bd d l).bind fun l1=>(body l1 h).bind fun r=>match r with
   | .nx l' h'=>BC bd body s k (i+1) l' h'
   | .ct l' h'=>BC bd body s k (i+1) l' h'
   | .bk l' h'=>some (.nx l' h')
   | .rt d h'=>some (.rt d h')
def TC(g:RI)(bd:RG)(body:RS):RS:=fun l h=>(g l h).bind fun r=>BC bd body r.1 (r.1.fuel r.2) 0 l r.2
section
variable{X:Cx}{tg iter:Expr}{pos:Pos}
theorem xC(i:Nat){x:Str}{pos:Pos}(hN:X.N.Nodup)(hi:X.N[i]?=some x:=by rfl)(hx:YI X.env.scope x:=by first | exact Or.inl rfl | exact Or.inr rfl)
 (hf:X.fn x=true\/X.env.scope.names.lookup x=some .local:=by first | exact .inl rfl | exact .inr rfl | assumption):GM X (.Name x pos) (KA i):=by
 with_unfolding_all exact PG.imp (TN hN hi hx hf) fun v σ H Q zz=>by obtain⟨ρ,l,h,d,l',S,L,R,e,k⟩:=zz;cases e;exact k _ (L.set i R)
noncomputable def fF(f:RE):RI:=fun l h=>(f l h).bind fun r=>match r.1 with | .int j=>if -(2^62)<=j/\j<2^62 then some (.vals ((List.range j.toNat).map fun(k:Nat)=>Dt.int (k:Int)),r.2)else none | _=>none
noncomputable def uS(f g:RE):RI:=fun l h=>(f l h).bind fun r=>(g l r.2).bind fun q=>match r.1,q.1 with
 | .int i,.int j=>if -(2^62)<=i/\i<2^62/\-(2^62)<=j/\j<2^62 then some (.vals ((List.range (j-i).toNat).map fun(k:Nat)=>Dt.int (i+(k:Int))),q.2)else none | _,_=>none
theorem pE {a:Expr} {f:RE} {p pos:Pos} (hg:Gl X "range") (hm:X.mg "range" =none) (ha:EM X a f) (hs:eB a=true:=by rfl) :
 IM X tg (.Call (.Name "range" p) [a] [] pos) (fF f):=by
 with_unfolding_all
  exact PI.imp (iW hg hm (qC ha XC (gB hs _ _)) (gB hs _ _)) fun σ H R zz=>by
   obtain⟨ρ,l,h,s,h',S,L,e,k⟩:=zz;obtain⟨⟨d1,h1⟩,e1,e⟩:=eA e;refine⟨ρ,l,h,d1,h1,S,L,e1,fun ρ1 v H1 R1 S1 E1=>?_⟩;cases d1 with
   | int j=>
    obtain⟨⟨c1,c2⟩,e⟩:=gE e;cases e;refine⟨j,by rw[K7.mp R1],c1,c2,k ρ1 _ H1 (fun H2 ρ2 h2 E2 S2 i=>?_) S1 E1⟩;simp only[Src.at,getElem?_map];by_cases hi:i<j.toNat
    · rw[getElem?_range hi];refine⟨hi,fun v H3 q=>?_⟩;obtain⟨rfl,rfl⟩:=q;exact⟨K7.mpr (by simp),Ext.refl _ _,S2⟩
    · rw[getElem?_eq_none (by simpa using Nat.not_lt.mp hi)];exact Nat.not_lt.mp hi
   | _=>cases e
theorem tW {a b:Expr} {f g:RE} {p pos:Pos} (hg:Gl X "range") (hm:X.mg "range" =none) (ha:EM X a f) (hb:EM X b g) (hs:eB a=true:=by rfl) (hs2:eB b=true:=by rfl) :
 IM X tg (.Call (.Name "range" p) [a,b] [] pos) (uS f g):=by
 with_unfolding_all
  exact PI.imp (jW hg hm (qC ha (qC hb XC (gB hs2 _ _)) (gB hs _ _)) (by rw[gB hs,gB hs2];rfl) (gB hs2 _ _)) fun σ H R zz=>by
   obtain⟨ρ,l,h,s,h',S,L,e,k⟩:=zz;obtain⟨⟨d1,h1⟩,e1,e⟩:=eA e;obtain⟨⟨d2,h2⟩,e2,e⟩:=eA e;refine⟨ρ,l,h,d1,h1,S,L,e1,fun ρ1 v H1 R1 S1 E1=>⟨ρ1,l,h1,d2,h2,S1,L.ext E1,e2,fun ρ2 u H2 R2 S2 E2=>?_⟩⟩;cases d1 with
   | int i=>
    cases d2 with
    | int j=>
     obtain⟨c,e⟩:=gE e;cases e;refine⟨i,j,by rw[K7.mp R1,K7.mp R2],c,k ρ2 _ H2 (fun H3 ρ3 h3 E3 S3 n=>?_) S2 (E1.trans E2)⟩;simp only[Src.at,getElem?_map];by_cases hi:n<(j-i).toNat
     · rw[getElem?_range hi];refine⟨hi,fun v H4 q=>?_⟩;obtain⟨rfl,rfl⟩:=q;exact⟨K7.mpr rfl,Ext.refl _ _,S3⟩
     · rw[getElem?_eq_none (by simpa using Nat.not_lt.mp hi)];exact Nat.not_lt.mp hi
    | _=>cases e
   | _=>cases e
noncomputable def UO(f:RE):RI:=fun l h=>(f l h).bind fun r=>match r.1 with | .lst xs=>some (.vals xs,r.2) | .ref n=>some (.rf n,r.2) | _=>none
def kE(f:RE):RI:=fun l h=>(UO f l h).bind fun r=>if 0<r.1.fuel r.2 then some r else none
theorem cG{a:Expr}{f:RE}(ha:EM X a f):IM X tg a (kE f):=by
 with_unfolding_all
  exact PI.imp (WY ha) fun σ H R zz=>by
   obtain⟨ρ,l,h,s,h',S,L,e,k⟩:=zz;obtain⟨⟨s1,h1⟩,e,ez⟩:=eA e;obtain⟨hz,ez⟩:=gE ez;cases ez;obtain⟨⟨d1,h2⟩,e1,e⟩:=eA e;refine⟨ρ,l,h,d1,h2,S,L,e1,fun ρ1 v H1 R1 S1 E1=>?_⟩;cases d1 with
   | lst xs=>
    cases e;obtain⟨a,vs,rfl,q,r⟩:=O7.mp R1;refine⟨a,rfl,⟨vs,q.sq⟩,k ρ1 _ H1 (fun H2 ρ2 h2 E2 S2 i=>?_) S1 E1⟩;have q2:=q.same E2;have r2:=G7.same E2 _ r;simp only[Src.at];cases ei:xs[i]? with
    | none=>refine⟨vs,q2.sq,?_⟩;rw[r.length];exact getElem?_eq_none_iff.mp ei
    | some d=>obtain⟨v,g1,g2⟩:=r2.get ei;refine⟨⟨vs,v,q2.sq,g1⟩,fun u H3 y=>?_⟩;obtain⟨rfl,y⟩:=y;have y2:=y vs q2.sq;rw[g1]at y2;cases y2;exact⟨g2,Ext.refl _ _,S2⟩
   | ref n=>
    cases e;obtain⟨a,rfl,ha⟩:=R7.mp R1;simp only[Src.fuel]at hz;split at hz
    · rename_i xs q0;obtain⟨Hj,g0,_⟩:=S1.lst ha q0;refine⟨a,rfl,⟨Hj,N8.of g0⟩,k ρ1 _ H1 (fun H2 ρ2 h2 E2 S2 i=>?_) S1 E1⟩;have ha2:=E2.ix _ _ ha;simp only[Src.at];split
      · trivial
      · rename_i y;split at y
        · rename_i ys q2;obtain⟨vs,g1,r⟩:=S2.lst ha2 q2;refine⟨vs,N8.of g1,?_⟩;rw[r.length];exact getElem?_eq_none_iff.mp (Option.some.inj y)
        · cases y
      · rename_i d y;split at y
        · rename_i ys q2;obtain⟨vs,g1,r⟩:=S2.lst ha2 q2;obtain⟨v,z1,z2⟩:=r.get (Option.some.inj y);refine⟨⟨vs,v,N8.of g1,z1⟩,fun u H3 y=>?_⟩;obtain⟨rfl,y⟩:=y;have y2:=y vs (N8.of g1);rw[z1]at y2;cases y2;exact⟨z2,Ext.refl _ _,S2⟩
        · cases y
    · exact absurd hz (by omega)
   | _=>cases e
theorem vF{body:List Stmt}{g:RI}{bd:RG}{f:RS}(hp:PassesOwn (model X.prog X.w) X.A X.env X.xe)(hc:X.calm=true)(hi:IM X tg iter g)(hg:GM X tg bd)(hb:yG X body f)
 (hs:∀x,foldedSetIterable iter X.env x=pure x:=by intro _;rfl):ZM X (.For tg iter body [] pos) (TC g bd f):=by
 with_unfolding_all
  exact PS.imp (AR hp hc hi hg hb hs) fun D σ H zz=>by
   obtain⟨ρ,l,h,r,S,L,e,k⟩:=zz;obtain⟨⟨s,h1⟩,e1,e⟩:=eA e;refine⟨ρ,l,h,s,h1,S,L,e1,fun ρ1 J H1 ok S1 E1=>?_⟩;refine⟨fun i m σ' H'=>∃ρ' l' h',M7 X.K ρ' h' H'/\g8 X.K H' ρ' l' σ'/\Ext ρ1 ρ' H1 H'/\BC bd f s m i l' h'=some r,⟨_,ρ1,l,h1,S1,L.ext E1,Ext.refl _ _,e⟩,?_⟩;rintro i m σ' H' ⟨ρ',l',h',S',L',E',e'⟩;cases m with
   | zero=>simp only[BC]at e';cases e'
   | succ m=>
    simp only[BC]at e';have ok':=ok H' ρ' h' E'.same S' i;cases q:s.at h' i with
    | none=>rw[q]at e';cases e'
    | some o=>
     rw[q]at e' ok';cases o with
     | none=>cases e';exact .inl ⟨ok',k ρ' σ' H' S' L' (E1.trans E')⟩
     | some d=>
      dsimp only at e';obtain⟨l1,b1,e'⟩:=eA e';obtain⟨r1,b2,e'⟩:=eA e';refine .inr ⟨ok'.1,fun σ2 H2=>∃m',m'<m+1/\∃ρ' l' h',M7 X.K ρ' h' H2/\g8 X.K H2 ρ' l' σ2/\Ext ρ1 ρ' H1 H2/\BC bd f s m' (i+1) l' h'=some r,fun σ2 H2 q=>q,fun v H3 y=>?_⟩;obtain⟨R3,E3,S3⟩:=ok'.2 v H3 y;refine⟨ρ',l',h',d,l1,S3,L'.ext E3,R3,b1,fun σ4 L4=>⟨ρ',l1,h',r1,S3,L4,b2,?_⟩⟩;cases r1 with
      | nx l2 h2=>exact fun ρ5 σ5 H5 S5 L5 E5=>⟨m,Nat.lt_succ_self _,ρ5,l2,h2,S5,L5,E'.trans (E3.trans E5),e'⟩
      | ct l2 h2=>exact fun ρ5 σ5 H5 S5 L5 E5=>⟨m,Nat.lt_succ_self _,ρ5,l2,h2,S5,L5,E'.trans (E3.trans E5),e'⟩
      | bk l2 h2=>cases e';exact fun ρ5 σ5 H5 S5 L5 E5=>k ρ5 σ5 H5 S5 L5 (E1.trans (E'.trans (E3.trans E5)))
      | rt d2 h2=>cases e';exact fun ρ5 v5 H5 R5 S5 E5=>k ρ5 v5 H5 R5 S5 (E1.trans (E'.trans (E3.trans E5)))
end
noncomputable def GB(n N:Nat)(body:RS):jB:=fun ds h=>if ds.length=n then match body (ds.map some++List.replicate (N-n) none) h with
 | some (.rt d h')=>some (d,h')
 | some (.nx _ h')=>some (.non,h')
 | _=>none
 else none
def NH(K:Frag)(n:Nat)(F:jB):Sp:=fun vs H Q _=>∃ρ ds h d h',M7 K ρ h H/\G7 K H ρ ds vs/\ds.length=n/\F ds h=some (d,h')/\Out K ρ H d h' Q
section
variable{P:Program}{w:World}{K:Frag}{mg:Str->Option Value}{base:Heap}
theorem JJ{H:Hp}{ρ:Rg}{N:List Str}{ds:List Dt}{vs:List V}(R:G7 K H ρ ds vs):g8 K H ρ (ds.map some++List.replicate (N.length-ds.length) none) (L2.fE N vs):=by
 have hl:=R.length;refine⟨by simp[L2.fE,hl],fun i d e=>?_⟩;by_cases hi:i<ds.length
 · rw[Uy (by simpa using hi),getElem?_map]at e;cases q:ds[i]? with
   | none=>rw[q]at e;cases e
   | some d'=>rw[q]at e;cases e;obtain⟨v,g1,g2⟩:=R.get q;refine⟨v,?_,g2⟩;unfold L2.fE;rw[Uy (by simpa[hl]using hi),getElem?_map,g1];rfl
 · rw[Yy (by simpa using Nat.not_lt.mp hi),getElem?_replicate]at e;split at e<;>cases e
theorem FK{x qual:Str}{st:Stmt}{f:Addr}{fd:FuncData}{N ps:List Str}{k:Nat}{body:RS}(F:Z9 K x qual st f fd)(S:ZA N ps (oA st))
 (hb:∀(cdv:Value)(A:Around)(outer:List Env)(s:Shared)(H:Hp)(E:XK),Z7 k (A.deeper (envOfC qual (oA st) s.heap.objs.size f cdv))->
  yG (iC TD P w K mg base N qual (oA st) f cdv A outer s H E).Y9 (fC st) body):l8 P w K mg base TD (k+1) f fd ps (NH K ps.length (GB ps.length N.length body)):=by
 with_unfolding_all
  refine F.ok S (fun vs H Q E h=>?_) (fun cdv A outer s H vs Q E hr h=>?_)
  · obtain⟨ρ,ds,h,d,h',S,R,hl,_⟩:=h;rw[R.length,hl]
  · obtain⟨ρ,ds,h,d,h',S,R,hl,e,k⟩:=h;refine⟨_,hb cdv A outer s H E hr,?_⟩;unfold GB at e;rw[if_pos hl]at e;rw[<- hl]at e;split at e
    · rename_i d1 h1 q;cases e;exact⟨ρ,_,h,_,S,JJ R,q,k⟩
    · rename_i l1 h1 q;cases e;exact⟨ρ,_,h,_,S,JJ R,q,fun ρ' σ' H' S' L' E'=>k ρ' _ H' (T7.mpr rfl) S' E'⟩
    · cases e
end
noncomputable def BA(F:jB)(Rj:List Dt)(g:RA):RE:=fun l h=>(g l h).bind fun r=>F (r.1++Rj) r.2
section
variable{X:Cx}{k n:Nat}{f:Addr}{fd:FuncData}{ps:List Str}{F:jB}{x:Str}{p pos:Pos}{e:Expr}{es:List Expr}{g:RA}{a9:List V}{ds:List Value}{Rj:List Dt}
theorem RW(hF:l8 X.prog X.w X.K X.mg X.base TD k f fd ps (NH X.K n F))(hr:Z7 k X.A)(hg:Gl X x)(hm:X.mg x=some (.ref f))(hk:keepIn X.K (.ref f)=true)(hb:Binds X.K fd ps ds)(hd:Vals a9 ds)(hdd:∀H ρ,G7 X.K H ρ Rj a9)
 (ha:AM X (e::es) g) (hn:∀(F':List Dt->HI->Option (Dt×HI)),F'=F->∀ds h r,F' ds h=some r->ds.length=n) (hdb:(x==("__debug__" :Str))=false:=by decide) (he:eB e=true:=by rfl) (hpl:es.all eB=true:=by rfl) :
 EM X (.Call (.Name x p) (e::es) [] pos) (BA F Rj g):=by
 with_unfolding_all exact PE.imp (NY hF hr hg hm hk hb hd (E:=E0) LK ha hdb (gB he _ _) (YF hpl)) fun σ H Q zz=>by obtain⟨ρ,l,h,d,h',S,L,e,k⟩:=zz;obtain⟨⟨Pz,h1⟩,e1,e⟩:=eA e;exact⟨ρ,l,h,Pz,h1,S,L,e1,fun ρ1 vs H1 R1 S1 E1=>⟨ρ1,_,h1,d,h',S1,R1.append (hdd H1 ρ1),hn F rfl _ _ _ e,e,k.ext E1⟩⟩
theorem oK{n N:Nat}{body:RS}{ds:List Dt}{h:HI}{r:Dt×HI}(e:GB n N body ds h=some r):ds.length=n:=by
 unfold GB at e;split at e
 · assumption
 · cases e
end
end SM
namespace L2
noncomputable def jD(cells:List (Str×Addr)):List (Str×NameKind)->List (Str×Addr)->Option (List (Str×Addr))
 | [],cs=>some cs
 | (n,k)::r,cs=>if k==.free then match cells.lookup n with
  | some a=>jD cells r ((n,a)::cs)
  | none=>none
  else jD cells r cs
theorem vN{env:Env}:∀{l:List (Str×NameKind)}{cs cl:List (Str×Addr)},jD env.cells l cs=some cl->
 (forIn l cs fun(x:Str×NameKind) (r:List (Str×Addr))=>if(x.2==NameKind.free)=true then(do let a <- cellOf env x.1;pure (ForInStep.yield ((x.1,a)::r)):Sem _)else pure (ForInStep.yield r))=pure cl
 | [],cs,cl,h=>by simp only[jD]at h;cases h;rfl
 | (n,k)::r,cs,cl,h=>by
  simp only[jD]at h;rw[forIn_cons];cases hk:k==NameKind.free with
  | true=>
   rw[hk,if_pos rfl]at h;cases hc:env.cells.lookup n with
   | none=>rw[hc]at h;cases h
   | some a=>
    rw[hc]at h;have ih:=vN (env:=env) h;simp only[hk,if_true];have e:cellOf env n=pure a:=by unfold cellOf;rw[hc]
    rw[e];simp only[pure_bind];exact ih
  | false=>rw[hk,if_neg (by decide)]at h;have ih:=vN (env:=env) h;simp only[hk,cg,if_false,pure_bind];exact ih
theorem uP{scope:Scope}{env:Env}{cl:List (Str×Addr)}(h:jD env.cells scope.names []=some cl):closureFor scope env=pure cl:=by have e:=vN (env:=env) h;unfold closureFor;simp only[bind_pure];exact e
theorem HM{cells:List (Str×Addr)}:∀{l:List (Str×NameKind)}{cs cl:List (Str×Addr)},jD cells l cs=some cl->(∀x c,cs.lookup x=some c->cells.lookup x=some c)->
 (∀x c,cl.lookup x=some c->cells.lookup x=some c)/\(∀x c,cs.lookup x=some c->∃c',cl.lookup x=some c')/\∀n,(n,NameKind.free)∈l->∃c,cl.lookup n=some c
 | [],cs,cl,h,i=>by simp only[jD]at h;cases h;exact⟨i,fun x c e=>⟨c,e⟩,fun n hn=>nomatch hn⟩
 | (n,k)::r,cs,cl,h,i=>by
  simp only[jD]at h;cases hk:k==NameKind.free with
  | true=>
   rw[hk,if_pos rfl]at h;cases hc:cells.lookup n with
   | none=>rw[hc]at h;cases h
   | some a=>
    rw[hc]at h;have i':∀x c,((n,a)::cs).lookup x=some c->cells.lookup x=some c:=fun x c e=>by
     rw[lookup_cons]at e;cases hx:x==n with
     | true=>rw[hx]at e;cases e;rw[eq_of_beq hx];exact hc
     | false=>rw[hx]at e;exact i x c e
    obtain⟨h1,h2,h3⟩:=HM h i';refine⟨h1,fun x c e=>?_,fun m hm=>?_⟩
    · cases hx:x==n with
      | true=>exact h2 x a (by rw[lookup_cons,hx])
      | false=>exact h2 x c (by rw[lookup_cons,hx];exact e)
    · rcases mem_cons.mp hm with z | z
      · cases z;exact h2 _ a (by rw[lookup_cons,beq_self_eq_true])
      · exact h3 m z
  | false=>
   rw[hk,if_neg (by decide)]at h;obtain⟨h1,h2,h3⟩:=HM h i;refine⟨h1,h2,fun m hm=>?_⟩;rcases mem_cons.mp hm with z | z
   · cases z;cases hk
   · exact h3 m z
noncomputable def zB(X:Cx)(Nc:List Str)(scope:Scope)(cl:List (Str×Addr))(C:Addr)(s0:Shared)(H0:Hp)(fp:List Addr):Cx:=
 { X with N:=Nc,s₀:=s0,H₀:=H0,env:=compEnvC scope cl C X.env,outer:=X.stack,stack:=X.stack,ex:=fp,fn:=fun _=>false,pn:=[],xe:=fun _ _=>False }
theorem qP{env:Env}:∀{names:List (Str×NameKind)}{x:Str},(∀y∈names,y.2≠.cell)->
 ((names.map fun(n,k)=>if(k==NameKind.free&&env.scope.kind==.function&&env.kindOf n==some .cell)then(n,NameKind.cell)else(n,k)).lookup x=some .cell\/
  (names.map fun(n,k)=>if(k==NameKind.free&&env.scope.kind==.function&&env.kindOf n==some .cell)then(n,NameKind.cell)else(n,k)).lookup x=some .free)->(x,NameKind.free)∈names
 | [],_,_,h=>by simp at h
 | (n,k)::r,x,hc,h=>by
  have ih:=@qP env r x (fun y hy=>hc y (mem_cons_of_mem _ hy));have hk:k≠.cell:=hc (n,k) mem_cons_self;rw[Hy]at h;cases hx:x==n with
  | true=>
   have ex:=eq_of_beq hx;subst ex;by_cases hf:k=.free
   · subst hf;exact mem_cons_self
   · have hb:(k==NameKind.free)=false:=by simpa using hf
     simp only[hb,Bool.false_and,cg,if_false,lookup_cons,beq_self_eq_true]at h;rcases h with h | h
     · exact absurd (Option.some.inj h) hk
     · exact absurd (Option.some.inj h) hf
  | false=>
   refine mem_cons_of_mem _ (ih ?_);by_cases hq:(k==NameKind.free&&env.scope.kind==.function&&env.kindOf n==some .cell)=true
   · simp only[hq,if_true,lookup_cons,hx]at h;exact h
   · rw[Bool.not_eq_true]at hq;simp only[hq,cg,if_false,lookup_cons,hx]at h;exact h
noncomputable def w8(X:Cx)(scope:Scope)(cl:List (Str×Addr)):List Str->List (Option Nat)->Prop
 | [],[]=>True
 | _::N,none::cs=>w8 X scope cl N cs
 | x::N,some j::cs=>(X.N[j]?=some x/\(X.env.kindOf x=some .cell\/X.env.kindOf x=some .free)/\((relabel scope X.env).names.lookup x=some .cell\/(relabel scope X.env).names.lookup x=some .free)/\
  cl.lookup x=X.env.cells.lookup x)/\w8 X scope cl N cs
 | _,_=>False
noncomputable def AE(σ:St)(cap:List (Option Nat)):St:=cap.map fun o=>match o with | some j=>(σ[j]?).join | none=>none
theorem w8.get{X:Cx}{scope:Scope}{cl:List (Str×Addr)}:∀{N:List Str}{cs:List (Option Nat)},w8 X scope cl N cs->∀{i j:Nat}{x:Str},N[i]?=some x->cs[i]?=some (some j)->
 X.N[j]?=some x/\(X.env.kindOf x=some .cell\/X.env.kindOf x=some .free)/\((relabel scope X.env).names.lookup x=some .cell\/(relabel scope X.env).names.lookup x=some .free)/\cl.lookup x=X.env.cells.lookup x
 | [],[],_,i,j,x,h,_=>by simp at h
 | y::N,none::cs,h,0,j,x,_,e=>by simp at e
 | y::N,none::cs,h,i+1,j,x,e1,e2=>w8.get (N:=N) (cs:=cs) h (i:=i) (by simpa using e1) (by simpa using e2)
 | y::N,some k::cs,h,0,j,x,e1,e2=>by simp at e1 e2;subst e1 e2;exact h.1
 | y::N,some k::cs,h,i+1,j,x,e1,e2=>w8.get (N:=N) (cs:=cs) h.2 (i:=i) (by simpa using e1) (by simpa using e2)
 | [],_::_,h,_,_,_,_,_=>h.elim
 | _::_,[],h,_,_,_,_,_=>h.elim
theorem w8.length{X:Cx}{scope:Scope}{cl:List (Str×Addr)}:∀{N:List Str}{cs:List (Option Nat)},w8 X scope cl N cs->cs.length=N.length
 | [],[],_=>rfl
 | y::N,none::cs,h=>by rw[Fy,Fy,w8.length (N:=N) (cs:=cs) h]
 | y::N,some k::cs,h=>by rw[Fy,Fy,w8.length (N:=N) (cs:=cs) h.2]
 | [],_::_,h=>h.elim
 | _::_,[],h=>h.elim
def wG(X:Cx)(ifs:List Expr)(t:TT):Prop:=
 ∀(pins:List (Addr×Obj))(s:Shared)(σ:St)(H:Hp)(Q:Bool->Hp->Prop),Inv X pins σ H s->t σ H Q->
  wpAny (model X.prog X.w) X.A (forIn ifs true fun c r=>if r=true then do let ok <- isTrue c X.env (eval c X.env);pure (ForInStep.yield ok)else pure (ForInStep.yield r)) (TP X pins σ Q) X.xe s
theorem fY{X:Cx}:wG X [] (fun _ H Q=>Q true H):=fun _ _ _ H _ I q=>wpAny_tests_nil ⟨H,I,q⟩
theorem gY{X:Cx}{c:Expr}{t:TT}(h:PT X c t):wG X [c] t:=fun pins s σ H Q I q=>wpAny_tests_one (h pins s σ H Q I q)
def rO(wi:TI)(g:TG)(tc:TT)(te:TE)(cap:List (Option Nat)):TE:=fun σ H Q=>wi σ H fun J H1=>∀D,H1 D=none->∃W:Nat->Nat->St->List V->Hp->Prop,
 (∃m,W 0 m (AE σ cap) [] (DA H1 D (.lst [])))/\∀i m σ' ys H',W i m σ' ys H'->
  (J.stop i H'/\Q (.ref D) H')\/(J.go i H'/\∀x H2,J.Wq i H' x H2->g x σ' H2 fun σ2 H3=>tc σ2 H3 fun b H4=>if b=true then te σ2 H4 fun y H5=>
   H5 D=some (.lst ys)/\ys.length<sizeLine/\∃m',m'<m/\W (i+1) m' σ2 (ys++[y]) (DA H5 D (.lst (ys++[y])))else ∃m',m'<m/\W (i+1) m' σ2 ys H4)
section
variable{prog:Program}{w:World}{A:Around}{R:Result->Shared->Prop}{s:Shared}
theorem pU{elt target iter:Expr}{ifs:List Expr}{scope:Scope}{pos:Pos}{it acc:Value}{env:Env}(I:Nat->Shared->Prop)
 (turn:∀n s,I n s->wpAny (model prog w) A (pyNext it) (fun r s₁=>match r with
  | none=>R (.ok .next) s₁
  | some v=>wpAny (model prog w) A (letOwnedTupleGo target it v) (fun _ s₁'=>wpAny (model prog w) A (assign target env v) (fun _ s₂=>
   wpAny (model prog w) A (forIn ifs true fun c r=>if r=true then do let ok <- isTrue c env (eval c env);pure (ForInStep.yield ok)else pure (ForInStep.yield r)) (fun ok s₃=>
    if ok=true then wpAny (model prog w) A (eval elt env) (fun x s₄=>
     wpAny (model prog w) A (call (.builtin "list.append") [acc,x]) (fun _ s₅=>∃m,m<n/\I m s₅) (fun _ _=>False) s₄) (fun _ _=>False) s₃
    else ∃m,m<n/\I m s₃) (fun _ _=>False) s₂) (fun _ _=>False) s₁') (fun _ _=>False) s₁) (fun _ _=>False) s)
 (n:Nat) (h:I n s):codeAny (model prog w) A (.compLoop (.ListComp elt [⟨target,iter,ifs,0⟩] scope pos) 0 it acc env) R s:=by
 refine codeAny_loop rfl I (fun n s hI=>?_) n h;show wpAny _ A ((compTurn (.ListComp elt [⟨target,iter,ifs,0⟩] scope pos) 0 it acc env).onRaise (fun x=>do noteFrame x env;theTreesLotGoes x)) _ _ s;refine wpAny_noted ?_;rw[compTurn_list];refine wpAny_bind (wpAny_standAt (wpAny_bind (wpAny_mono (turn n s hI) (fun r s₁ h₁=>?_) fun _ _ h'=>h'.elim)));cases r with
 | none=>exact wpAny_pure h₁
 | some v=>
  refine wpAny_bind (wpAny_mono h₁ (fun _ s₁' h₁'=>?_) fun _ _ h'=>h'.elim);refine wpAny_bind (wpAny_mono h₁' (fun _ s₂ h₂=>wpAny_bind (wpAny_mono h₂ (fun ok s₃ h₃=>?_) fun _ _ h'=>h'.elim)) fun _ _ h'=>h'.elim);cases ok with
  | false=>exact wpAny_pure ⟨rfl,h₃⟩
  | true=>exact wpAny_bind (wpAny_bind (wpAny_mono h₃ (fun x s₄ h₄=>wpAny_bind (wpAny_mono h₄ (fun _ s₅ h₅=>wpAny_pure (wpAny_pure ⟨rfl,h₅⟩)) fun _ _ h'=>h'.elim)) fun _ _ h'=>h'.elim))
end
section
variable{X:Cx}{elt iter tg:Expr}{ifs:List Expr}{scope:Scope}{cl:List (Str×Addr)}{pos:Pos}{Nc:List Str}{wi:TI}{g:TG}{tc:TT}{te:TE}{cap:List (Option Nat)}
theorem vP{pins:List (Addr×Obj)}{σ:St}{H:Hp}{s:Shared}{it:Addr}{fp:List Addr}{tn:Nat->Heap->Prop}{J:It}{Q:VK}{RR:Value->Addr->Result->Shared->Prop}{E:Value->Shared->Prop}
 (hc:X.calm=true) (hcl:jD X.env.cells scope.names []=some cl) (hcell:∀y∈scope.names,y.2≠.cell) (hkind:scope.kind=.function) (hcap:w8 X scope cl Nc cap)
 (hg:∀C s0 H0 fp,PG (zB X Nc scope cl C s0 H0 fp) tg g) (ht:∀C s0 H0 fp,wG (zB X Nc scope cl C s0 H0 fp) ifs tc) (he:∀C s0 H0 fp,PE (zB X Nc scope cl C s0 H0 fp) elt te)
 (I:Inv X pins σ H s) (T:xG X.prog X.w X.K tg J fp it tn) (st:tn 0 s.heap) (hf:∀b∈fp,QD X pins H b)
 (read:∀D,H D=none->∃W:Nat->Nat->St->List V->Hp->Prop,
  (∃m,W 0 m (AE σ cap) [] (DA H D (.lst [])))/\∀i m σ' ys H',W i m σ' ys H'->
   (J.stop i H'/\Q (.ref D) H')\/(J.go i H'/\∀x H2,J.Wq i H' x H2->g x σ' H2 fun σ2 H3=>tc σ2 H3 fun b H4=>if b=true then te σ2 H4 fun y H5=>
    H5 D=some (.lst ys)/\ys.length<sizeLine/\∃m',m'<m/\W (i+1) m' σ2 (ys++[y]) (DA H5 D (.lst (ys++[y])))else ∃m',m'<m/\W (i+1) m' σ2 ys H4))
 (hRR:∀(C D:Addr)(s':Shared)(H':Hp) m,Inv X pins σ H' s'->s'.heap.Ns C m->H' C=none->C≠X.env.locals->X.s₀.heap.objs.size<=C->(∀x c,X.env.cells.lookup x=some c->c≠C)->(∀p∈X.pn++pins,p.1≠C)->Q (.ref D) H'->RR (.ref D) C (.ok .next) s') :
 wpAny (model X.prog X.w) X.A (newList []) (fun acc s₃=>wpAny (model X.prog X.w) X.A (newFunctionEnv scope X.env.globals cl [] X.env.qual none .none (some X.env)) (fun cenv s₄=>
  codeAny (model X.prog X.w) X.A (.compStart (.ListComp elt [⟨tg,iter,ifs,0⟩] scope pos) 0 (.ref it) acc { cenv with scope:=relabel scope X.env }) (RR acc cenv.locals) s₄) E s₃) E s:=by
 obtain⟨sub,_,Av⟩:=HM hcl (fun _ _ e=>by simp at e);refine wpAny_newObj_type (wpAny_newFunctionEnv hcell (by intro y hy;simp at hy) (fun h₁ hns₁ hsb₁=>?_) hkind);have hD:=I.fresh;have I3:Inv X pins σ (DA H s.heap.objs.size (.lst [])) { s with heap:=s.heap.push { cls:=.type "list",data:=.seq ([]:List Value).toArray } }:=I.Nq (ys:=[]) (its:=[]) (t':=s.toks) .nil (Nat.zero_le _);generalize hs3:({ s with heap:=s.heap.push { cls:=.type "list",data:=.seq ([]:List Value).toArray } }:Shared)=s3 at I3;generalize Zv:DA H s.heap.objs.size (.lst [])=H3 at I3;have hh3:s3.heap=s.heap.push { cls:=.type "list",dict:=none,data:=.seq ([]:List Value).toArray }:=by rw[<- hs3]
 dsimp only at hns₁ hsb₁ ⊢;rw[<- hh3]at hns₁ hsb₁;have Ik:H3 s3.heap.objs.size=none:=I3.fresh;have hCL:s3.heap.objs.size≠X.env.locals:=fun z=>by have:=I3.lt;rw[<- z]at this;exact Nat.lt_irrefl _ this
 have Dk:X.s₀.heap.objs.size<=s3.heap.objs.size:=I3.sz;have Xj:∀x c,X.env.cells.lookup x=some c->c<s3.heap.objs.size:=fun x c e=>by obtain⟨v,o,ho,_⟩:=I3.cell x c e;exact Heap.lt_size ho
 have Gk:∀x c,X.env.cells.lookup x=some c->c≠s3.heap.objs.size:=fun x c e z=>by have:=Xj x c e;rw[z]at this;exact Nat.lt_irrefl _ this
 have Jk:∀p∈X.pn++pins,p.1≠s3.heap.objs.size:=fun p hp z=>by have:=Heap.lt_size (I3.pin p hp).1;rw[z]at this;exact Nat.lt_irrefl _ this
 have Hq:∀b∈fp,b<s.heap.objs.size:=fun b hb=>by obtain⟨o,e,_⟩:=T.obj 0 _ st b hb;exact Heap.lt_size e
 have jy:s3.heap.objs.size=s.heap.objs.size+1:=by rw[hh3,Heap.size_push]
 have old:∀b o,s3.heap.get? b=some o->h₁.get? b=some o:=fun b o e=>hsb₁.extBut b o (Nat.ne_of_lt (Heap.lt_size e)) (Heap.get?_push_of_some _ e)
 have Mv:∀b o,s.heap.get? b=some o->s3.heap.get? b=some o:=fun b o e=>by rw[hh3];exact Heap.get?_push_of_some _ e
 have Yw:∀b∈fp,H3 b=none:=fun b hb=>by rw[<- Zv,CA (Nat.ne_of_lt (Hq b hb))];exact(hf b hb).1
 have Uz:(zB X Nc scope cl s3.heap.objs.size s3 H3 fp).Ok:=by
  refine⟨I3.ok.mod,hkind,I3.ok.glob,I3.ok.blt,Xy _,fun x y c e1 e2=>I3.ok.inj x y c (sub x c e1) (sub y c e2),fun x hx=>?_,fun x c e _=>absurd e Vy,I3.ok.hd,I3.ok.frames,.inl rfl,fun b hb=>⟨?_,fun x c e=>?_⟩,fun b o e=>I3.bs b o e,?_,fun b o e=>?_,fun b hb=>?_,I3.stack,I3.O9⟩
  · exact Av x (qP hcell hx)
  · intro z;have:=Hq b hb;have z':b=s3.heap.objs.size:=z;rw[z',jy]at this;exact absurd this (Nat.not_lt.mpr (Nat.le_succ _))
  · exact(hf b hb).2.2.2.2.1 x c (sub x c e)
  · exact Nat.le_trans I3.ok.Mj I3.sz
  · intro hb;have h1:=(hf b hb).2.2.2.1;have h2:=I3.ok.bs b o e;rcases h1 with z | z
    · exact I3.ok.nj b o e z
    · exact absurd (Nat.lt_of_lt_of_le (Heap.lt_size h2.1) z) (Nat.lt_irrefl _)
  · intro z;rcases mem_cons.mp (I3.P9 b z)with z | z
    · exact(hf b hb).2.1 z
    · exact(hf b hb).2.2.1 z
 have IY:Inv (zB X Nc scope cl s3.heap.objs.size s3 H3 fp) [] (AE σ cap) H3 { s3 with heap:=h₁,toks:=s3.toks+([]:List (Str×Value)).length }:=by
  refine⟨Uz,rfl,I3.bare,Un.kept old,⟨_,hns₁,fun i x v e1 e2 _=>?_⟩,fun x c e=>?_,Ik,fun x c e=>I3.C8 x c (sub x c e),fun p hp=>absurd hp (by simp[zB]),I3.hok.kept old,?_⟩
  · have e2':(AE σ cap)[i]?=some (some v):=e2;unfold AE at e2';rw[getElem?_map]at e2';cases q:cap[i]? with
    | none=>rw[q]at e2';cases e2'
    | some o=>
     rw[q]at e2';cases o with
     | none=>cases e2'
     | some j=>
      have e3:(σ[j]?).join=some v:=by simpa using e2'
      have e4:σ[j]?=some (some v):=by
       cases z:σ[j]? with
       | none=>rw[z]at e3;cases e3
       | some y=>rw[z]at e3;simpa using e3
      obtain⟨n1,n2,n3,n4⟩:=hcap.get e1 q;obtain⟨m,_,hl⟩:=I3.loc;have hv:RK X.env.scope x:=.inr n2;obtain⟨u,r,lk⟩:=hl j x v n1 e4 hv;refine⟨u,r,.inr ⟨n3,?_⟩⟩;rcases lk with⟨k,_⟩ | ⟨_,c,ec,ob,z1,z2⟩
      · rcases n2 with n2 | n2<;>rw[k]at n2<;>cases n2
      · exact⟨c,n4.trans ec,ob,old c ob z1,z2⟩
  · obtain⟨v,o,z1,z2⟩:=I3.cell x c (sub x c e);exact⟨v,o,old c o z1,z2⟩
  · show(AE σ cap).length=Nc.length;unfold AE;rw[length_map];exact hcap.length
 obtain⟨W,⟨m0,w0⟩,turn⟩:=read s.heap.objs.size hD;rw[Zv]at w0;have st1:tn 0 h₁:=T.keep 0 _ _ st fun b _ o e=>old b o (Mv b o e)
 have Yz:∀{H':Hp},(∀b∈fp,H' b=none)->∀b∈fp,QD (zB X Nc scope cl s3.heap.objs.size s3 H3 fp) [] H' b:=fun hn b hb=>⟨hn b hb,(Uz.Gq b hb).1,Uz.mj b hb,.inl hb,fun x c e=>(Uz.Gq b hb).2 x c e,fun p hp=>absurd hp (by simp[zB])⟩
 have loop:codeAny (model X.prog X.w) X.A (.compLoop (.ListComp elt [⟨tg,iter,ifs,0⟩] scope pos) 0 (.ref it) (.ref s.heap.objs.size) (compEnvC scope cl s3.heap.objs.size X.env)) (RR (.ref s.heap.objs.size) s3.heap.objs.size)
  { s3 with heap:=h₁,toks:=s3.toks+([]:List (Str×Value)).length }:=by
  refine pU (fun n s'=>∃i σ' ys H',Inv (zB X Nc scope cl s3.heap.objs.size s3 H3 fp) [] σ' H' s'/\tn i s'.heap/\(∀b∈fp,H' b=none)/\W i n σ' ys H') ?_ m0 ⟨0,_,[],H3,IY,st1,Yw,w0⟩;rintro n s4 ⟨i,σ4,ys,H4,I4,Bw,Qz,w4⟩;rcases turn i n σ4 ys H4 w4 with⟨stop,qn⟩ | ⟨go,step⟩
  · refine IA (T.done (zB X Nc scope cl s3.heap.objs.size s3 H3 fp) rfl rfl rfl hc i [] s4 σ4 H4 _ I4 (Yz Qz) Bw stop) fun r s5 zz=>?_
    obtain⟨hr,I5⟩:=zz;subst hr;have I6:Inv X pins σ H4 s5:=I3.call' (ch:=fp) I5.os I5.base I5.hok I5.bare fun b hb=>⟨(hf b hb).2.2.2.1,(hf b hb).2.1,(hf b hb).2.2.2.2.1,(hf b hb).2.2.2.2.2⟩
    obtain⟨m,hn,_⟩:=I5.loc;exact hRR _ _ s5 H4 m I6 hn I5.free hCL Dk Gk Jk qn
  · refine IA (T.item (zB X Nc scope cl s3.heap.objs.size s3 H3 fp) rfl rfl rfl hc i [] s4 σ4 H4 _ I4 (Yz Qz) Bw go) fun r s5 zz=>?_
    obtain⟨u,hr,h5⟩:=zz;subst hr;refine IA h5 fun _ s6 zz=>?_
    obtain⟨x,H6,I6,r6,y6,Ov,Ck⟩:=zz;have Ew:=I6.pinned (Yz Ck) (T.obj _ _ Ov);refine IA (hg _ _ _ _ _ s6 σ4 H6 x u _ Ew r6 (step x H6 y6)) fun _ s7 zz=>?_
    obtain⟨σ7,H7,I7,q7⟩:=zz;refine IA (ht _ _ _ _ _ s7 σ7 H7 _ I7 q7) fun b s8 zz=>?_
    obtain⟨H8,I8,q8⟩:=zz;have again:∀{σ9:St}{H9:Hp}{s9:Shared}{Tv:List V},Inv (zB X Nc scope cl s3.heap.objs.size s3 H3 fp) ([]++BI fp s6.heap) σ9 H9 s9->(∃m',m'<n/\W (i+1) m' σ9 Tv H9)->
     ∃m',m'<n/\∃i σ' ys H',Inv (zB X Nc scope cl s3.heap.objs.size s3 H3 fp) [] σ' H' s9/\tn i s9.heap/\(∀b∈fp,H' b=none)/\W i m' σ' ys H':=fun {σ9 H9 s9 Tv} I9 ⟨m',hm,w9⟩=>by
     refine⟨m',hm,i+1,σ9,Tv,H9,I9.o9,T.keep _ _ _ Ov fun b hb o e=>(I9.pin (b,o) (mem_append_right _ (mem_append_right _ (DJ hb e)))).1,fun b hb=>?_,w9⟩;obtain⟨o,e,d⟩:=T.obj _ _ Ov b hb;exact(I9.pin (b,o) (mem_append_right _ (mem_append_right _ (DJ hb e)))).2.1
    cases b with
    | false=>rw[if_neg Vy]at q8 ⊢;exact again I8 q8
    | true=>
     rw[if_pos rfl]at q8 ⊢;refine IA (he _ _ _ _ _ s8 σ7 H8 _ I8 q8) fun y s9 zz=>?_
     obtain⟨v,H9,I9,r9,d9,z9,w9⟩:=zz;refine IA (ZP (X:=zB X Nc scope cl s3.heap.objs.size s3 H3 fp) _ s9 σ7 H9 (.ref s.heap.objs.size) [v] (.ref s.heap.objs.size) [y] (fun _ H'=>H'=DA H9 s.heap.objs.size (.lst (ys++[v]))) I9 rfl (.cons r9 .nil) ⟨_,ys,v,rfl,rfl,d9,z9,rfl⟩) fun _ Cy zz=>?_
     obtain⟨_,uy,Cw,_,e10⟩:=zz;subst e10;exact again Cw w9
 exact codeAny_compStart_list loop (T.self X.A 0 _ _ _ st1 loop)
theorem PY(hc:X.calm=true)(hi:PI X tg iter wi)(hcl:jD X.env.cells scope.names []=some cl)(hcell:∀y∈scope.names,y.2≠.cell)(hkind:scope.kind=.function)
 (hnames:∀y∈scope.names,y.2=.local->scope.names.lookup y.1=some .local) (hcap:w8 X scope cl Nc cap)
 (hg:∀C s0 H0 fp,PG (zB X Nc scope cl C s0 H0 fp) tg g) (ht:∀C s0 H0 fp,wG (zB X Nc scope cl C s0 H0 fp) ifs tc) (he:∀C s0 H0 fp,PE (zB X Nc scope cl C s0 H0 fp) elt te)
 (hs:∀x,foldedSetIterable iter X.env x=pure x:=by intro _;rfl):PE X (.ListComp elt [⟨tg,iter,ifs,0⟩] scope pos) (rO wi g tc te cap):=by
 intro pins s σ H Q I h;rw[eval_ListComp];refine wpAny_comprehension_free (use:=none) rfl hs (uP hcl) hkind hnames (IA (hi pins s σ H _ I h) fun v s1 h1=>IA h1 fun itv s2 h2=>?_);obtain⟨it,fp,tn,J,H2,e,I2,T,st2,f2,read⟩:=h2;subst e;refine vP hc hcl hcell hkind hcap hg ht he I2 T st2 f2 read fun C D s' H' m I' hn n1 n2 n3 n4 n5 q=>?_
 refine⟨m,hn,fun h' hs'=>⟨.ref D,H',?_,rfl,q⟩⟩;exact I'.turned (t':=s'.toks) (fun b o hb e=>hs'.extBut b o hb e) n1 n2 (.inr n3) n4 n5
theorem HP{i:Nat}{y:Str}{py spos:Pos}(hc:X.calm=true)(hN:X.N.Nodup)(Kq:X.N[i]?=some y)(hy:X.env.scope.names.lookup y=some .local)(hi:PI X tg iter wi)(hcl:jD X.env.cells scope.names []=some cl)(hcell:∀y∈scope.names,y.2≠.cell)(hkind:scope.kind=.function)
 (hnames:∀y∈scope.names,y.2=.local->scope.names.lookup y.1=some .local) (hcap:w8 X scope cl Nc cap)
 (hg:∀C s0 H0 fp,PG (zB X Nc scope cl C s0 H0 fp) tg g) (ht:∀C s0 H0 fp,wG (zB X Nc scope cl C s0 H0 fp) ifs tc) (he:∀C s0 H0 fp,PE (zB X Nc scope cl C s0 H0 fp) elt te)
 (hsw:swapsWith (.ListComp elt [⟨tg,iter,ifs,0⟩] scope pos) (some (.Name y py)) spos.line X.env=pure true)
 (hs:∀x,foldedSetIterable iter X.env x=pure x:=by intro _;rfl):PS X (.Assign [.Name y py] (.ListComp elt [⟨tg,iter,ifs,0⟩] scope pos) spos) (gJ (rO wi g tc te cap) (EI i)):=by
 intro pins s σ H D I h;rw[exec_Assign_Name_used _ _ _ _ hsw];refine wpAny_bind (wpAny_standAt (wpAny_bind ?_));show wpAny _ X.A (do let _ <- comprehension (.ListComp elt [⟨tg,iter,ifs,0⟩] scope pos) scope X.env _ (newList []) false (eval iter X.env) (some (assign (.Name y py) X.env))) _ _ s;refine wpAny_bind (wpAny_mono (wpAny_comprehension_free (use:=some (assign (.Name y py) X.env)) (Q:=fun _ s'=>SP X pins D .next s') rfl hs (uP hcl) hkind hnames
  (IA (hi pins s σ H _ I h) fun v s1 h1=>IA h1 fun itv s2 h2=>?_)) (fun _ s' hq=>wpAny_pure (wpAny_pure hq)) fun _ _ e=>e)
 obtain⟨it,fp,tn,J,H2,e,I2,T,st2,f2,read⟩:=h2;subst e;refine vP (Q:=fun x H1=>EI i x σ H1 D.nx) hc hcl hcell hkind hcap hg ht he I2 T st2 f2 read fun C Dd s' H' m I' hn n1 n2 n3 n4 n5 q=>?_
 show wpAny _ X.A (assign (.Name y py) X.env (.ref Dd)) _ _ _;refine wpAny_assign_Name (fQ I' hN Kq (.inl hy) (v:=.ref Dd) rfl (fun s4 I4 zz=>?_) (.inr hy));obtain⟨a,sb,ha⟩:=zz;have Ek:C≠a:=by
  rcases ha with ha | ha
  · rw[ha];exact n2
  · exact fun z=>n4 _ _ ha z.symm
 refine⟨m,hn.sameBut sb Ek,fun h' hs'=>⟨_,H',?_,q⟩⟩;exact I4.turned (t':=s4.toks) (fun b o hb e=>hs'.extBut b o hb e) n1 n2 (.inr n3) n4 n5
end
end L2
namespace SM
def ID(bd:RG)(tc:RT)(te:RE)(s:Src):Nat->Nat->LI->HI->List Dt->Option (List Dt×HI)
 | 0,_,_,_,_=>none
 | k+1,i,l,h,ys=>match s.at h i with
  | none=>none
  | some none=>some (ys,h)
  | some (some d)=>(bd d l).bind fun l1=>(tc l1 h).bind fun b=>if b.1=true then(te l1 b.2).bind fun r=>if ys.length<sizeLine then ID bd tc te s k (i+1) l1 r.2 (ys++[r.1])else none
   else ID bd tc te s k (i+1) l1 b.2 ys
noncomputable def zD(l:LI)(cap:List (Option Nat)):LI:=cap.map fun o=>match o with | some j=>(l[j]?).join | none=>none
def JC(g:RI)(bd:RG)(tc:RT)(te:RE)(cap:List (Option Nat)):RE:=fun l h=>(g l h).bind fun r=>(ID bd tc te r.1 (r.1.fuel r.2) 0 (zD l cap) r.2 []).bind fun q=>some (.lst q.1,q.2)
def pI(g:RI)(bd:RG)(tc:RT)(te:RE)(cap:List (Option Nat)):RE:=fun l h=>(g l h).bind fun r=>(ID bd tc te r.1 (r.1.fuel r.2) 0 (zD l cap) r.2 []).bind fun q=>some (.ref q.2.length,q.2++[.lst q.1])
noncomputable def rB:RT:=fun _ h=>some (true,h)
theorem DX{K:Frag}{H:Hp}{ρ:Rg}{l:LI}{σ:L2.St}(L:g8 K H ρ l σ)(cap:List (Option Nat)):g8 K H ρ (zD l cap) (AE σ cap):=by
 refine⟨by simp[zD,AE],fun i d e=>?_⟩;unfold zD at e;unfold AE;rw[getElem?_map]at e ⊢;cases q:cap[i]? with
 | none=>rw[q]at e;cases e
 | some o=>
  rw[q]at e;cases o with
  | none=>cases e
  | some j=>
   have e3:(l[j]?).join=some d:=by simpa using e
   have e4:l[j]?=some (some d):=by
    cases z:l[j]? with
    | none=>rw[z]at e3;cases e3
    | some y=>rw[z]at e3;simpa using e3
   obtain⟨v,g1,g2⟩:=L.val j d e4;refine⟨v,?_,g2⟩;simp[g1]
section
variable{X:Cx}{elt iter tg:Expr}{ifs:List Expr}{scope:Scope}{cl:List (Str×Addr)}{pos:Pos}{Nc:List Str}{g:RI}{bd:RG}{tc:RT}{te:RE}{cap:List (Option Nat)}
@[irreducible] def CM(X:Cx)(ifs:List Expr)(f:RT):Prop:=wG X ifs (uL X.K f)
theorem NE:CM X [] rB:=by with_unfolding_all exact fun pins s σ H Q I q=>by obtain⟨ρ,l,h,b,h',S,L,e,k⟩:=q;cases e;exact fY pins s σ H Q I (k ρ H S (Ext.refl _ _))
theorem xR{c:Expr}{f:RT}(h:TM X c f):CM X [c] f:=by with_unfolding_all exact gY h
end
section
variable{K:Frag}{H:Hp}{ρ:Rg}{p:Addr}{o:HO}{h:HI}
theorem HY{a:Addr}{u:HO}(hp:H p=none)(e:H a=some u)(n:ρ.no a):(ρ.hide p).no a:=
 ⟨n.1,fun z=>by
  rcases mem_cons.mp z with z | z
  · rw[z,hp]at e;cases e
  · exact n.2 z⟩
theorem Ext.Gj{τ:Rg}{H':Hp}(x:Ext (ρ.hide p) τ H H'):∃ρ',τ=ρ'.hide p/\Ext ρ ρ' H H':=by
 refine⟨⟨τ.v,ρ.z⟩,?_,⟨x.pre,rfl,x.keep,x.live,x.fz⟩⟩;have e:=x.hid;cases τ with
 | mk v z=>have e':z=p::ρ.z:=e;subst e';rfl
theorem Ext.xq{ρ':Rg}{H':Hp}(x:Ext ρ ρ' H H')(hp:H p=none):Ext ρ ρ' H (DA H' p o):=
 ⟨x.pre,x.hid,fun a u e n=>by rw[CA (lC e hp)];exact x.keep a u e n,fun a e=>by
  by_cases ha:a=p
  · rw[ha];exact hp
  · rw[CA ha]at e;exact x.live a e,fun a q u e=>by rw[CA (lC e hp)];exact x.fz a q u e⟩
theorem A9.same{ρ':Rg}{H':Hp}{a:Addr}{u:Ob}(x:v8 ρ ρ' H H')(e:H' a=H a)(q:A9 K H ρ a u):A9 K H' ρ' a u:=by
 cases u with
 | lst xs=>obtain⟨vs,h1,h2⟩:=q;exact⟨vs,e.trans h1,G7.same x _ h2⟩
 | ins y fs=>obtain⟨C,dx,vs,h0,h1,h2,h3⟩:=q;exact⟨C,dx,vs,h0,e.trans h1,h2,G7.same x _ h3⟩
 | dk kvs=>obtain⟨vs,h1,h2,h3⟩:=q;exact⟨vs,e.trans h1,h2,G7.same x _ h3⟩
 | dt kvs=>obtain⟨vs,h1,h2,h3⟩:=q;exact⟨vs,e.trans h1,h2,G7.same x _ h3⟩
 | df kvs=>obtain⟨o,vs,h1,h2,h3⟩:=q;exact⟨o,vs,e.trans h1,h2,G7.same x _ h3⟩
 | U9 kvs=>obtain⟨o,vs,h1,h2,h3⟩:=q;exact⟨o,vs,e.trans h1,h2,G7.same x _ h3⟩
theorem g8.same{ρ':Rg}{H':Hp}{l:LI}{σ:L2.St}(x:v8 ρ ρ' H H')(L:g8 K H ρ l σ):g8 K H' ρ' l σ:=
 ⟨L.len,fun i d e=>let ⟨v,e1,r⟩:=L.val i d e;⟨v,e1,J7.same x d r⟩⟩
theorem cQ(hp:H p=none):v8 ρ (ρ.hide p) H (DA H p o):=
 ⟨fun _ _ e n=>HY hp e n,fun a u e _=>by rw[CA (lC e hp)];exact e,fun _ _ e=>e,fun a q u e=>by rw[CA (lC e hp)];exact e⟩
theorem RM{o:HO}(nf:JO H p):v8 (ρ.hide p) (ρ.hide p) H (DA H p o):=
 ⟨fun _ _ _ n=>n,fun a u e n=>by rw[CA (fun z=>n.2 (by rw[z];exact mem_cons_self))];exact e,fun _ _ e=>e,fun a q u e=>by rw[CA (fun z:a=p=>nf q u (by rw[<- z];exact e))];exact e⟩
theorem dQ:v8 (ρ.hide p) ρ H H:=⟨fun _ _ _ n=>⟨n.1,fun z=>n.2 (mem_cons_of_mem _ z)⟩,fun _ _ e _=>e,fun _ _ e=>e,fun _ _ _ e=>e⟩
theorem CQ:v8 (ρ.hide p) (ρ.add p) H H:=
 ⟨fun a _ _ n=>⟨fun z=>(mem_append.mp z).elim n.1 fun z=>n.2 (by rw[mem_singleton.mp z];exact mem_cons_self),fun z=>n.2 (mem_cons_of_mem _ z)⟩,fun _ _ e _=>e,fun n a e=>by
  have e':ρ.v[n]?=some a:=e;have:=(Sy e').1;show(ρ.v++[p])[n]?=some a;rw[Uy this];exact e',fun _ _ _ e=>e⟩
theorem M7.hide{xs:List V}(S:M7 K ρ h H)(hp:H p=none):M7 K (ρ.hide p) h (DA H p (.lst xs)):=
 ⟨S.nd,S.len,fun n a u e1 e2=>(S.ob n a u e1 e2).same (cQ hp) (CA (fun z=>(S.out hp).1 (z ▸ mem_of_getElem? e1))),fun a ha=>by
  rcases mem_cons.mp ha with z | z
  · rw[z];exact⟨(S.out hp).1,xs,AB⟩
  · obtain⟨m,u,e⟩:=S.zt a z;exact⟨m,u,by rw[CA (lC e hp)];exact e⟩⟩
theorem M7.aq{xs:List V}(S:M7 K (ρ.hide p) h H):M7 K (ρ.hide p) h (DA H p (.lst xs)):=
 ⟨S.nd,S.len,fun n a u e1 e2=>(S.ob n a u e1 e2).same (RM (EG (S.zt p mem_cons_self).2.choose_spec)) (CA (fun z=>(S.zt p mem_cons_self).1 (z ▸ mem_of_getElem? e1))),fun a ha=>by
  obtain⟨m,u,e⟩:=S.zt a ha;by_cases hap:a=p
  · subst hap;exact⟨m,xs,AB⟩
  · exact⟨m,u,by rw[CA hap];exact e⟩⟩
theorem M7.show(S:M7 K (ρ.hide p) h H):M7 K ρ h H:=
 ⟨S.nd,S.len,fun n a u e1 e2=>(S.ob n a u e1 e2).same dQ rfl,fun a ha=>S.zt a (mem_cons_of_mem _ ha)⟩
theorem M7.Ej(S:M7 K (ρ.hide p) h H)(hz:p∉ρ.z){ds:List Dt}{vs:List V}(e:H p=some (.lst vs))(R:G7 K H (ρ.hide p) ds vs):M7 K (ρ.add p) (h++[.lst ds]) H:=by
 have nv:=(S.zt p mem_cons_self).1;refine⟨?_,by simp only[Rg.add];rw[length_append,length_append,<- S.len];rfl,fun n a ob e1 e2=>?_,fun a ha=>?_⟩
 · simp only[Rg.add];rw[nodup_append];refine⟨S.nd,nodup_cons.mpr ⟨by simp,nodup_nil⟩,fun a ha b hb=>?_⟩;rw[mem_singleton.mp hb];intro z;exact nv (z ▸ ha)
 · simp only[Rg.add]at e1;have hl:ρ.v.length=h.length:=S.len;by_cases hn:n<h.length
   · rw[Uy hn]at e2;rw[Uy (by rw[hl];exact hn)]at e1;exact(S.ob n a ob e1 e2).same CQ rfl
   · have hn':h.length<=n:=Nat.not_lt.mp hn;rw[Yy hn']at e2;rw[Yy (by rw[hl];exact hn'),hl]at e1;cases hk:n-h.length with
     | zero=>rw[hk]at e1 e2;simp at e1 e2;subst e1 e2;exact⟨vs,e,G7.same CQ _ R⟩
     | succ k=>rw[hk]at e2;simp at e2
 · obtain⟨n,u,e'⟩:=S.zt a (mem_cons_of_mem _ ha);refine⟨fun hm=>?_,u,e'⟩;rcases mem_append.mp hm with hm | hm
   · exact n hm
   · exact hz ((mem_singleton.mp hm) ▸ ha)
end
section
variable{X:Cx}{elt iter tg:Expr}{ifs:List Expr}{scope:Scope}{cl:List (Str×Addr)}{pos:Pos}{Nc:List Str}{g:RI}{bd:RG}{tc:RT}{te:RE}{cap:List (Option Nat)}
theorem JM{σ:L2.St}{H:Hp}{Q:VK}(own:Bool){d:Dt}{h':HI}{ρ:Rg}{l:LI}{h:HI}(S:M7 X.K ρ h H)(L:g8 X.K H ρ l σ)
 (e:(if own=true then pI g bd tc te cap else JC g bd tc te cap) l h=some (d,h')) (k:Out X.K ρ H d h' Q):rO (iM X.K g) (gM X.K bd) (uL X.K tc) (tM X.K te) cap σ H Q:=by
 have e0:∃s1 h1,g l h=some (s1,h1)/\∃ys h2,ID bd tc te s1 (s1.fuel h1) 0 (zD l cap) h1 []=some (ys,h2)/\h'=(if own=true then h2++[.lst ys]else h2)/\d=(if own=true then .ref h2.length else .lst ys):=by
  cases own with
  | true=>rw[if_pos rfl]at e;obtain⟨⟨s1,h1⟩,e1,e⟩:=eA e;obtain⟨⟨ys,h2⟩,e2,e⟩:=eA e;cases e;exact⟨s1,h1,e1,ys,h2,e2,rfl,rfl⟩
  | false=>rw[if_neg Vy]at e;obtain⟨⟨s1,h1⟩,e1,e⟩:=eA e;obtain⟨⟨ys,h2⟩,e2,e⟩:=eA e;cases e;exact⟨s1,h1,e1,ys,h2,e2,rfl,rfl⟩
 obtain⟨s1,h1,e1,zs,h2,e2,eh,ed⟩:=e0;refine⟨ρ,l,h,s1,h1,S,L,e1,fun ρ1 J H1 ok S1 E1 D hD=>?_⟩;have Lk:D∉ρ1.z:=(S1.out hD).2;refine⟨fun i m σ' ys H'=>∃ρ' l' h' ds,M7 X.K (ρ'.hide D) h' H'/\g8 X.K H' (ρ'.hide D) l' σ'/\Ext ρ1 ρ' H1 H'/\H' D=some (.lst ys)/\G7 X.K H' (ρ'.hide D) ds ys/\ID bd tc te s1 m i l' h' ds=some (zs,h2),?_,?_⟩
 · exact⟨_,ρ1,_,h1,[],S1.hide hD,DX (g8.same (cQ hD) (L.ext E1)) cap,Ext.fresh hD,AB,.nil,e2⟩
 · rintro i m σ' ys H' ⟨ρ',l',h3,ds,S',L',E',hD',R',e'⟩;cases m with
   | zero=>simp only[ID]at e';cases e'
   | succ m=>
    simp only[ID]at e';have sm:v8 ρ1 (ρ'.hide D) H1 H':=⟨fun a u z n=>⟨(E'.Bj z n).1,fun w=>by
     rcases mem_cons.mp w with w | w
     · rw[w,hD]at z;cases z
     · exact(E'.Bj z n).2 w⟩,fun a u z n=>E'.keep a u z n.1,fun n a z=>E'.get z,E'.fz⟩
    have ok':=ok H' (ρ'.hide D) h3 sm S' i;cases q:s1.at h3 i with
    | none=>rw[q]at e';cases e'
    | some o=>
     rw[q]at e' ok';cases o with
     | none=>
      cases e';refine .inl ⟨ok',?_⟩;have nD:ρ'.no D:=⟨(S'.zt D mem_cons_self).1,by rw[E'.hid];exact Lk⟩;cases own with
      | false=>rw[if_neg Vy]at eh ed;subst eh ed;exact k ρ' _ H' (O7.mpr ⟨D,ys,rfl,.inl ⟨nD,.inl hD'⟩,G7.same dQ _ R'⟩) S'.show (E1.trans E')
      | true=>
       rw[if_pos rfl]at eh ed;subst eh ed;refine k (ρ'.add D) _ H' (R7.mpr ⟨D,rfl,?_⟩) (S'.Ej nD.2 hD' R') (E1.trans ⟨?_,E'.hid,E'.keep,E'.live,E'.fz⟩)
       · have hl:ρ'.v.length=h2.length:=S'.len;show(ρ'.v++[D])[h2.length]?=some D;rw[<- hl,Yy (Xy _),Nat.sub_self];rfl
       · obtain⟨x,q1,q2⟩:=E'.pre;refine⟨x++[D],by show ρ'.v++[D]=_;rw[q1,append_assoc],fun a ha=>?_⟩;rcases mem_append.mp ha with ha | ha
         · exact q2 a ha
         · rw[mem_singleton.mp ha];exact hD
     | some d0=>
      dsimp only at e';obtain⟨l1,b1,e'⟩:=eA e';obtain⟨⟨b,h4⟩,b2,e'⟩:=eA e';refine .inr ⟨ok'.1,fun v H3 y=>?_⟩;obtain⟨R3,E3,S3⟩:=ok'.2 v H3 y;have uw:=(S'.zt D mem_cons_self).1;refine⟨ρ'.hide D,l',h3,d0,l1,S3,L'.ext E3,R3,b1,fun σ4 L4=>⟨ρ'.hide D,l1,h3,b,h4,S3,L4,b2,fun ρ5 H5 S5 E5=>?_⟩⟩;cases b with
      | true=>
       dsimp only at e';rw[if_pos rfl]at e';obtain⟨⟨d5,h5⟩,b3,e'⟩:=eA e';by_cases hz:ds.length<sizeLine
       · rw[if_pos hz]at e';refine XD ⟨ρ5,l1,h4,d5,h5,S5,L4.ext E5,b3,fun ρ6 v6 H6 R6 S6 E6=>⟨?_,by rw[R'.length];exact hz,m,Nat.lt_succ_self _,?_⟩⟩
         · exact(E3.trans (E5.trans E6)).keep D _ hD' uw
         · obtain⟨ρ7,rfl,E7⟩:=(E3.trans (E5.trans E6)).Gj;refine⟨ρ7,l1,h5,ds++[d5],S6.aq,g8.same (RM (EG (S6.zt D mem_cons_self).2.choose_spec)) (L4.ext (E5.trans E6)),(E'.trans E7).xq hD,AB,?_,e'⟩;exact G7.same (RM (EG (S6.zt D mem_cons_self).2.choose_spec)) _ ((R'.ext (E3.trans (E5.trans E6))).append (.cons R6 .nil))
       · rw[if_neg hz]at e';cases e'
      | false=>dsimp only at e';rw[if_neg Vy]at e';refine WD ⟨m,Nat.lt_succ_self _,?_⟩;obtain⟨ρ7,rfl,E7⟩:=(E3.trans E5).Gj;exact⟨ρ7,l1,h4,ds,S5,L4.ext E5,E'.trans E7,(E3.trans E5).keep D _ hD' uw,R'.ext (E3.trans E5),e'⟩
theorem bG(hc:X.calm=true)(hi:IM X tg iter g)(hcell:∀y∈scope.names,y.2≠.cell)(hkind:scope.kind=.function)
 (hnames:∀y∈scope.names,y.2=.local->scope.names.lookup y.1=some .local) (hcl:jD X.env.cells scope.names []=some cl) (hcap:w8 X scope cl Nc cap)
 (hg:∀C s0 H0 fp,GM (zB X Nc scope cl C s0 H0 fp) tg bd) (ht:∀C s0 H0 fp,CM (zB X Nc scope cl C s0 H0 fp) ifs tc) (he:∀C s0 H0 fp,EM (zB X Nc scope cl C s0 H0 fp) elt te)
 (hs:∀x,foldedSetIterable iter X.env x=pure x:=by intro _;rfl):EM X (.ListComp elt [⟨tg,iter,ifs,0⟩] scope pos) (JC g bd tc te cap):=by
 with_unfolding_all exact PE.imp (PY (g:=gM X.K bd) (tc:=uL X.K tc) (te:=tM X.K te) hc hi hcl hcell hkind hnames hcap hg ht he hs) fun σ H Q ⟨ρ,l,h,d,h',S,L,e,k⟩=>JM (X:=X) false S L e k
theorem UM(i:Nat){y:Str}{py spos:Pos}(hc:X.calm=true)(hN:X.N.Nodup)(hi:IM X tg iter g)(hcell:∀y∈scope.names,y.2≠.cell)(hkind:scope.kind=.function)
 (hnames:∀y∈scope.names,y.2=.local->scope.names.lookup y.1=some .local) (hcl:jD X.env.cells scope.names []=some cl) (hcap:w8 X scope cl Nc cap)
 (hg:∀C s0 H0 fp,GM (zB X Nc scope cl C s0 H0 fp) tg bd) (ht:∀C s0 H0 fp,CM (zB X Nc scope cl C s0 H0 fp) ifs tc) (he:∀C s0 H0 fp,EM (zB X Nc scope cl C s0 H0 fp) elt te)
 (hsw:swapsWith (.ListComp elt [⟨tg,iter,ifs,0⟩] scope pos) (some (.Name y py)) spos.line X.env=pure true)
 (Kq:X.N[i]?=some y:=by rfl) (hy:X.env.scope.names.lookup y=some .local:=by rfl) (hs:∀x,foldedSetIterable iter X.env x=pure x:=by intro _;rfl) :
 ZM X (.Assign [.Name y py] (.ListComp elt [⟨tg,iter,ifs,0⟩] scope pos) spos) (EA i (JC g bd tc te cap)):=by
 with_unfolding_all exact PS.imp (HP (g:=gM X.K bd) (tc:=uL X.K tc) (te:=tM X.K te) hc hN Kq hy hi hcl hcell hkind hnames hcap hg ht he hsw hs) fun D σ H zz=>by obtain⟨ρ,l,h,r,S,L,e,k⟩:=zz;obtain⟨⟨d1,h1⟩,e1,e⟩:=eA e;cases e;exact JM (X:=X) false S L e1 fun ρ1 v H1 R1 S1 E1=>k ρ1 _ H1 S1 ((L.ext E1).set i R1) E1
theorem bV(i:Nat){y:Str}{py spos:Pos}(hc:X.calm=true)(hN:X.N.Nodup)(hi:IM X tg iter g)(hcell:∀y∈scope.names,y.2≠.cell)(hkind:scope.kind=.function)
 (hnames:∀y∈scope.names,y.2=.local->scope.names.lookup y.1=some .local) (hcl:jD X.env.cells scope.names []=some cl) (hcap:w8 X scope cl Nc cap)
 (hg:∀C s0 H0 fp,GM (zB X Nc scope cl C s0 H0 fp) tg bd) (ht:∀C s0 H0 fp,CM (zB X Nc scope cl C s0 H0 fp) ifs tc) (he:∀C s0 H0 fp,EM (zB X Nc scope cl C s0 H0 fp) elt te)
 (hsw:swapsWith (.ListComp elt [⟨tg,iter,ifs,0⟩] scope pos) (some (.Name y py)) spos.line X.env=pure true)
 (Kq:X.N[i]?=some y:=by rfl) (hy:X.env.scope.names.lookup y=some .local:=by rfl) (hs:∀x,foldedSetIterable iter X.env x=pure x:=by intro _;rfl) :
 ZM X (.Assign [.Name y py] (.ListComp elt [⟨tg,iter,ifs,0⟩] scope pos) spos) (EA i (pI g bd tc te cap)):=by
 with_unfolding_all exact PS.imp (HP (g:=gM X.K bd) (tc:=uL X.K tc) (te:=tM X.K te) hc hN Kq hy hi hcl hcell hkind hnames hcap hg ht he hsw hs) fun D σ H zz=>by obtain⟨ρ,l,h,r,S,L,e,k⟩:=zz;obtain⟨⟨d1,h1⟩,e1,e⟩:=eA e;cases e;exact JM (X:=X) true S L e1 fun ρ1 v H1 R1 S1 E1=>k ρ1 _ H1 S1 ((L.ext E1).set i R1) E1
end
end SM
namespace L2
section
variable{X:Cx}{elt iter tg:Expr}{ifs:List Expr}{scope:Scope}{cl:List (Str×Addr)}{pos:Pos}{Nc:List Str}{wi:TI}{g:TG}{tc:TT}{te:TE}{cap:List (Option Nat)}{x0:Str}
end
end L2
namespace SM
section
variable{X:Cx}{elt iter tg:Expr}{ifs:List Expr}{scope:Scope}{cl:List (Str×Addr)}{pos:Pos}{Nc:List Str}{g:RI}{bd:RG}{tc:RT}{te:RE}{cap:List (Option Nat)}{x0:Str}
end
mutual
noncomputable def uA:Dt->Bool
 | .tup xs=>rC xs
 | .lst xs=>rC xs
 | .ref _=>false
 | .y9 _=>false
 | .err _ _ _=>false
 | .thr _ _ _=>false
 | _=>true
noncomputable def rC:List Dt->Bool
 | []=>true
 | x::xs=>uA x&&rC xs
end
mutual
noncomputable def AG:Dt->Nat
 | .tup xs=>tD xs+1
 | .lst xs=>tD xs+1
 | _=>0
noncomputable def tD:List Dt->Nat
 | []=>0
 | x::xs=>max (AG x) (tD xs)
end
mutual
noncomputable def DB:Dt->Dt->Bool
 | .non,.non=>true
 | .bl a,.bl b=>a==b
 | .bl a,.int b=>(if a then 1 else 0)==b
 | .int a,.bl b=>a==(if b then 1 else 0)
 | .int a,.int b=>a==b
 | .str a,.str b=>a==b
 | .tup xs,.tup ys=>MC xs ys
 | .lst xs,.lst ys=>MC xs ys
 | _,_=>false
noncomputable def MC:List Dt->List Dt->Bool
 | [],[]=>true
 | x::xs,y::ys=>DB x y&&MC xs ys
 | _,_=>false
end
mutual
theorem yN:∀d:Dt,uA d=true->DB d d=true
 | .non,_=>by simp only[DB]
 | .bl b,_=>by simp only[DB,beq_self_eq_true]
 | .int i,_=>by simp only[DB,beq_self_eq_true]
 | .str x,_=>by simp only[DB,beq_self_eq_true]
 | .tup xs,h=>by simp only[DB];exact fN xs (by simpa only[uA]using h)
 | .lst xs,h=>by simp only[DB];exact fN xs (by simpa only[uA]using h)
 | .ref _,h=>by simp[uA]at h
 | .y9 _,h=>by simp[uA]at h
 | .err _ _ _,h=>by simp[uA]at h
 | .thr _ _ _,h=>by simp[uA]at h
theorem fN:∀ds:List Dt,rC ds=true->MC ds ds=true
 | [],_=>by simp only[MC]
 | d::ds,h=>by simp only[rC,Bool.and_eq_true]at h;simp only[MC,Bool.and_eq_true];exact⟨yN d h.1,fN ds h.2⟩
end
section
variable{X:Cx}{pins:List (Addr×Obj)}{σ:L2.St}{H:Hp}{s:Shared}{ρ:Rg}
mutual
theorem bK(I:Inv X pins σ H s):∀(d d':Dt){v:V},uA d=true->uA d'=true->J7 X.K H ρ d v->J7 X.K H ρ d' v->d=d'
 | .non,d',v,_,p,r,r'=>by
  have e:=T7.mp r;subst e;cases d' with
  | non=>rfl
  | bl b=>have:=L7.mp r';cases this
  | int b=>have:=K7.mp r';cases this
  | str b=>have:=N7.mp r';cases this
  | tup b=>obtain⟨_,_,z,_⟩:=U7.mp r';cases z
  | lst b=>obtain⟨_,_,z,_⟩:=O7.mp r';cases z
  | ref b=>obtain⟨_,z,_⟩:=R7.mp r';cases z
  | y9 b=>obtain⟨_,z,_⟩:=l9.mp r';cases z
  | err b c d=>obtain⟨_,_,_,z,_⟩:=O8.mp r';cases z
  | thr b c d=>exact(U8.mp r').elim
 | .bl i,d',v,_,p,r,r'=>by
  have e:=L7.mp r;subst e;cases d' with
  | non=>have:=T7.mp r';cases this
  | bl b=>have:=L7.mp r';cases this;rfl
  | int b=>have:=K7.mp r';cases this
  | str b=>have:=N7.mp r';cases this
  | tup b=>obtain⟨_,_,z,_⟩:=U7.mp r';cases z
  | lst b=>obtain⟨_,_,z,_⟩:=O7.mp r';cases z
  | ref b=>obtain⟨_,z,_⟩:=R7.mp r';cases z
  | y9 b=>obtain⟨_,z,_⟩:=l9.mp r';cases z
  | err b c d=>obtain⟨_,_,_,z,_⟩:=O8.mp r';cases z
  | thr b c d=>exact(U8.mp r').elim
 | .int i,d',v,_,p,r,r'=>by
  have e:=K7.mp r;subst e;cases d' with
  | non=>have:=T7.mp r';cases this
  | bl b=>have:=L7.mp r';cases this
  | int b=>have:=K7.mp r';cases this;rfl
  | str b=>have:=N7.mp r';cases this
  | tup b=>obtain⟨_,_,z,_⟩:=U7.mp r';cases z
  | lst b=>obtain⟨_,_,z,_⟩:=O7.mp r';cases z
  | ref b=>obtain⟨_,z,_⟩:=R7.mp r';cases z
  | y9 b=>obtain⟨_,z,_⟩:=l9.mp r';cases z
  | err b c d=>obtain⟨_,_,_,z,_⟩:=O8.mp r';cases z
  | thr b c d=>exact(U8.mp r').elim
 | .str i,d',v,_,p,r,r'=>by
  have e:=N7.mp r;subst e;cases d' with
  | non=>have:=T7.mp r';cases this
  | bl b=>have:=L7.mp r';cases this
  | int b=>have:=K7.mp r';cases this
  | str b=>have:=N7.mp r';cases this;rfl
  | tup b=>obtain⟨_,_,z,_⟩:=U7.mp r';cases z
  | lst b=>obtain⟨_,_,z,_⟩:=O7.mp r';cases z
  | ref b=>obtain⟨_,z,_⟩:=R7.mp r';cases z
  | y9 b=>obtain⟨_,z,_⟩:=l9.mp r';cases z
  | err b c d=>obtain⟨_,_,_,z,_⟩:=O8.mp r';cases z
  | thr b c d=>exact(U8.mp r').elim
 | .tup xs,d',v,p0,p,r,r'=>by
  obtain⟨a,vs,e,q,rs⟩:=U7.mp r;subst e;cases d' with
  | non=>have:=T7.mp r';cases this
  | bl b=>have:=L7.mp r';cases this
  | int b=>have:=K7.mp r';cases this
  | str b=>have:=N7.mp r';cases this
  | tup ys=>obtain⟨b,ws,z,q',rs'⟩:=U7.mp r';cases z;have ee:=I.qj q.sq q'.sq;subst ee;rw[pN I xs ys (by simpa only[uA]using p0) (by simpa only[uA]using p) rs rs']
  | lst ys=>
   obtain⟨b,ws,z,q',rs'⟩:=O7.mp r';cases z;obtain⟨_,_,⟨o,e1,e2,_⟩,_⟩:=I.tuple q.sq;obtain⟨_,_,⟨o',_,e1',e2',_⟩,_⟩:=I.list q'.sq;rw[e1]at e1';cases e1';rw[e2]at e2';injection e2' with e3
   exact absurd e3 (by decide)
  | ref b=>simp[uA]at p
  | y9 b=>simp[uA]at p
  | err b c d=>simp[uA]at p
  | thr b c d=>simp[uA]at p
 | .lst xs,d',v,p0,p,r,r'=>by
  obtain⟨a,vs,e,q,rs⟩:=O7.mp r;subst e;cases d' with
  | non=>have:=T7.mp r';cases this
  | bl b=>have:=L7.mp r';cases this
  | int b=>have:=K7.mp r';cases this
  | str b=>have:=N7.mp r';cases this
  | lst ys=>obtain⟨b,ws,z,q',rs'⟩:=O7.mp r';cases z;have ee:=I.D9 q.sq q'.sq;subst ee;rw[pN I xs ys (by simpa only[uA]using p0) (by simpa only[uA]using p) rs rs']
  | tup ys=>
   obtain⟨b,ws,z,q',rs'⟩:=U7.mp r';cases z;obtain⟨_,_,⟨o,e1,e2,_⟩,_⟩:=I.tuple q'.sq;obtain⟨_,_,⟨o',_,e1',e2',_⟩,_⟩:=I.list q.sq;rw[e1]at e1';cases e1';rw[e2]at e2';injection e2' with e3
   exact absurd e3 (by decide)
  | ref b=>simp[uA]at p
  | y9 b=>simp[uA]at p
  | err b c d=>simp[uA]at p
  | thr b c d=>simp[uA]at p
 | .ref _,_,_,p,_,_,_=>by simp[uA]at p
 | .y9 _,_,_,p,_,_,_=>by simp[uA]at p
 | .err _ _ _,_,_,p,_,_,_=>by simp[uA]at p
 | .thr _ _ _,_,_,p,_,_,_=>by simp[uA]at p
theorem pN(I:Inv X pins σ H s):∀(ds ds':List Dt){vs:List V},rC ds=true->rC ds'=true->G7 X.K H ρ ds vs->G7 X.K H ρ ds' vs->ds=ds'
 | [],[],_,_,_,_,_=>rfl
 | [],d'::ds',_,_,_,r,r'=>by rw[r.o8]at r';obtain⟨_,_,z,_⟩:=r'.V7;cases z
 | d::ds,[],_,_,_,r,r'=>by rw[r'.o8]at r;obtain⟨_,_,z,_⟩:=r.V7;cases z
 | d::ds,d'::ds',_,p,p',r,r'=>by simp only[rC,Bool.and_eq_true]at p p';obtain⟨v,vs,e,r1,r2⟩:=r.V7;subst e;obtain⟨v',vs',e,r1',r2'⟩:=r'.V7;cases e;rw[bK I d d' p.1 p'.1 r1 r1',pN I ds ds' p.2 p'.2 r2 r2']
end
def jE(xs ys:List Dt)(j:Nat):Bool:=match xs[j]?,ys[j]? with
 | some x,some y=>DB x y
 | _,_=>false
theorem XF:∀(xs ys:List Dt),xs.length=ys.length->(List.range xs.length).all (jE xs ys)=MC xs ys
 | [],[],_=>by simp[MC]
 | [],_::_,h=>by simp at h
 | _::_,[],h=>by simp at h
 | x::xs,y::ys,h=>by have ih:=XF xs ys (by simpa using h);rw[Fy,range_succ_eq_map,all_cons,all_map];simp only[MC];rw[<- ih];rfl
theorem WF:∀(xs ys:List Dt),xs.length≠ys.length->MC xs ys=false
 | [],[],h=>absurd rfl h
 | [],_::_,_=>by simp only[MC]
 | _::_,[],_=>by simp only[MC]
 | x::xs,y::ys,h=>by simp only[MC];rw[WF xs ys (fun z=>h (by simp[z])),Bool.and_false]
theorem NJ(A:Around):A.in1.units<=A.units+1:=by first | exact Xy _ | simp[Around.in1]
theorem WC{h:Heap}{a:Addr}{its:Array Value}(p:IsTup h a its):h.IsTuple a its:=by obtain⟨o,h1,h2,n,h3⟩:=p;exact⟨o,h1,h2,n,h3⟩
mutual
theorem MR(I:Inv X pins σ H s):∀(d d':Dt){v v':V}{u u':Value}(A:Around),uA d=true->uA d'=true->A.units+AG d<cLine->J7 X.K H ρ d v->J7 X.K H ρ d' v'->RelV v u->RelV v' u'->SeqAt.EqAt A s u u' (DB d d')
 | .tup xs,d',v,v',u,u',A,p,p',hu,r,r',q,q'=>by
  obtain⟨a,vs,e,t,rs⟩:=U7.mp r;subst e;cases q;simp only[AG]at hu;have hu0:A.units<cLine:=by omega
  obtain⟨its,rv,tp,_⟩:=I.tuple t.sq;cases d' with
  | non=>cases T7.mp r';cases q';simpa only[DB]using SeqAt.EqAt.tuple_none (WC tp) hu0
  | bl b=>cases L7.mp r';cases q';simpa only[DB]using SeqAt.EqAt.tuple_bool b (WC tp) hu0
  | int b=>cases K7.mp r';obtain⟨t',rfl⟩:=q';simpa only[DB]using SeqAt.EqAt.tuple_int b t' (WC tp) hu0
  | str b=>cases N7.mp r';obtain⟨t',rfl⟩:=q';simpa only[DB]using SeqAt.EqAt.tuple_str b t' (WC tp) hu0
  | lst ys=>obtain⟨b,ws,e,t',rs'⟩:=O7.mp r';subst e;cases q';obtain⟨its',rv',X8,_⟩:=I.list t'.sq;simpa only[DB]using SeqAt.EqAt.tuple_list (WC tp) X8.isList hu0
  | tup ys=>
   obtain⟨b,ws,e,t',rs'⟩:=U7.mp r';subst e;cases q';obtain⟨its',rv',X8,_⟩:=I.tuple t'.sq;by_cases hab:a=b
   · subst hab;have e:=bK I (.tup xs) (.tup ys) p p' r r';rw[<- e,yN _ p];exact SeqAt.EqAt.same _
   · refine .of_refs hab ?_;have l1:its.length=xs.length:=by rw[<- rv.length,rs.length]
     have l2:its'.length=ys.length:=by rw[<- rv'.length,rs'.length]
     have ih:=mK I xs ys A.in1 (by simpa only[uA]using p) (by simpa only[uA]using p') (by have:=NJ A;omega) rs rs' rv rv';have z:=SeqAt.RcAt.tuples (e:=jE xs ys) (WC tp) (WC X8) hu0 fun j h1 h2=>by rw[size_toArray]at h1 h2;simpa using ih j h1 h2
     rw[size_toArray,size_toArray,l1,l2]at z;simp only[DB];by_cases hl:xs.length=ys.length
     · rw[<- hl,Nat.min_self,XF xs ys hl,beq_self_eq_true,Bool.and_true]at z;exact z
     · rw[WF xs ys hl];have hb:(xs.length==ys.length)=false:=by simpa using hl
       rw[hb,Bool.and_false]at z;exact z
  | ref b=>simp[uA]at p'
  | y9 b=>simp[uA]at p'
  | err b c d=>simp[uA]at p'
  | thr b c d=>simp[uA]at p'
 | .lst xs,d',v,v',u,u',A,p,p',hu,r,r',q,q'=>by
  obtain⟨a,vs,e,t,rs⟩:=O7.mp r;subst e;cases q;simp only[AG]at hu;have hu0:A.units<cLine:=by omega
  obtain⟨its,rv,tp,_⟩:=I.list t.sq;cases d' with
  | non=>cases T7.mp r';cases q';simpa only[DB]using SeqAt.EqAt.list_none tp.isList hu0
  | bl b=>cases L7.mp r';cases q';simpa only[DB]using SeqAt.EqAt.list_bool b tp.isList hu0
  | int b=>cases K7.mp r';obtain⟨t',rfl⟩:=q';simpa only[DB]using SeqAt.EqAt.list_int b t' tp.isList hu0
  | str b=>cases N7.mp r';obtain⟨t',rfl⟩:=q';simpa only[DB]using SeqAt.EqAt.list_str b t' tp.isList hu0
  | tup ys=>obtain⟨b,ws,e,t',rs'⟩:=U7.mp r';subst e;cases q';obtain⟨its',rv',X8,_⟩:=I.tuple t'.sq;simpa only[DB]using SeqAt.EqAt.list_tuple tp.isList (WC X8) hu0
  | lst ys=>
   obtain⟨b,ws,e,t',rs'⟩:=O7.mp r';subst e;cases q';obtain⟨its',rv',X8,_⟩:=I.list t'.sq;by_cases hab:a=b
   · subst hab;have e:=bK I (.lst xs) (.lst ys) p p' r r';rw[<- e,yN _ p];exact SeqAt.EqAt.same _
   · refine .of_refs hab ?_;have l1:its.length=xs.length:=by rw[<- rv.length,rs.length]
     have l2:its'.length=ys.length:=by rw[<- rv'.length,rs'.length]
     simp only[DB];by_cases hl:xs.length=ys.length
     · have ih:=mK I xs ys A.in1 (by simpa only[uA]using p) (by simpa only[uA]using p') (by have:=NJ A;omega) rs rs' rv rv';have z:=SeqAt.RcAt.lists (e:=jE xs ys) tp.isList X8.isList (by rw[size_toArray,size_toArray,l1,l2,hl]) hu0 fun j h1 h2=>by rw[size_toArray]at h1 h2;simpa using ih j h1 h2
       rw[size_toArray,l1,XF xs ys hl]at z;exact z
     · rw[WF xs ys hl];exact SeqAt.RcAt.lists_lengths tp.isList X8.isList (by rw[size_toArray,size_toArray,l1,l2];simpa using hl) hu0
  | ref b=>simp[uA]at p'
  | y9 b=>simp[uA]at p'
  | err b c d=>simp[uA]at p'
  | thr b c d=>simp[uA]at p'
 | .ref _,_,_,_,_,_,_,p,_,_,_,_,_,_=>by simp[uA]at p
 | .y9 _,_,_,_,_,_,_,p,_,_,_,_,_,_=>by simp[uA]at p
 | .err _ _ _,_,_,_,_,_,_,p,_,_,_,_,_,_=>by simp[uA]at p
 | .thr _ _ _,_,_,_,_,_,_,p,_,_,_,_,_,_=>by simp[uA]at p
 | .non,d',v,v',u,u',A,p,p',hu,r,r',q,q'=>by
  cases T7.mp r;cases q;have hu0:A.units<cLine:=by omega
  cases d' with
  | non=>cases T7.mp r';cases q';simp only[DB];exact SeqAt.EqAt.same _
  | bl b=>cases L7.mp r';cases q';simpa only[DB]using SeqAt.EqAt.none_bool b
  | int b=>cases K7.mp r';obtain⟨t',rfl⟩:=q';simpa only[DB]using SeqAt.EqAt.none_int b t'
  | str b=>cases N7.mp r';obtain⟨t',rfl⟩:=q';simpa only[DB]using SeqAt.EqAt.none_str b t'
  | tup ys=>obtain⟨b,ws,e,t',rs'⟩:=U7.mp r';subst e;cases q';obtain⟨its',rv',X8,_⟩:=I.tuple t'.sq;simpa only[DB]using SeqAt.EqAt.none_tuple (WC X8) hu0
  | lst ys=>obtain⟨b,ws,e,t',rs'⟩:=O7.mp r';subst e;cases q';obtain⟨its',rv',X8,_⟩:=I.list t'.sq;simpa only[DB]using SeqAt.EqAt.none_list X8.isList hu0
  | ref b=>simp[uA]at p'
  | y9 b=>simp[uA]at p'
  | err b c d=>simp[uA]at p'
  | thr b c d=>simp[uA]at p'
 | .bl i,d',v,v',u,u',A,p,p',hu,r,r',q,q'=>by
  cases L7.mp r;cases q;have hu0:A.units<cLine:=by omega
  cases d' with
  | non=>cases T7.mp r';cases q';simpa only[DB]using SeqAt.EqAt.bool_none i
  | bl b=>cases L7.mp r';cases q';simpa only[DB]using SeqAt.EqAt.bool_bool i b
  | int b=>cases K7.mp r';obtain⟨t',rfl⟩:=q';simpa only[DB]using SeqAt.EqAt.bool_int i b t'
  | str b=>cases N7.mp r';obtain⟨t',rfl⟩:=q';simpa only[DB]using SeqAt.EqAt.bool_str i b t'
  | tup ys=>obtain⟨b,ws,e,t',rs'⟩:=U7.mp r';subst e;cases q';obtain⟨its',rv',X8,_⟩:=I.tuple t'.sq;simpa only[DB]using SeqAt.EqAt.bool_tuple i (WC X8) hu0
  | lst ys=>obtain⟨b,ws,e,t',rs'⟩:=O7.mp r';subst e;cases q';obtain⟨its',rv',X8,_⟩:=I.list t'.sq;simpa only[DB]using SeqAt.EqAt.bool_list i X8.isList hu0
  | ref b=>simp[uA]at p'
  | y9 b=>simp[uA]at p'
  | err b c d=>simp[uA]at p'
  | thr b c d=>simp[uA]at p'
 | .int i,d',v,v',u,u',A,p,p',hu,r,r',q,q'=>by
  cases K7.mp r;obtain⟨ti,rfl⟩:=q;have hu0:A.units<cLine:=by omega
  cases d' with
  | non=>cases T7.mp r';cases q';simpa only[DB]using SeqAt.EqAt.int_none i ti
  | bl b=>cases L7.mp r';cases q';simpa only[DB]using SeqAt.EqAt.int_bool i ti b
  | int b=>cases K7.mp r';obtain⟨t',rfl⟩:=q';simpa only[DB]using SeqAt.EqAt.int_int i ti b t'
  | str b=>cases N7.mp r';obtain⟨t',rfl⟩:=q';simpa only[DB]using SeqAt.EqAt.int_str i ti b t'
  | tup ys=>obtain⟨b,ws,e,t',rs'⟩:=U7.mp r';subst e;cases q';obtain⟨its',rv',X8,_⟩:=I.tuple t'.sq;simpa only[DB]using SeqAt.EqAt.int_tuple i ti (WC X8) hu0
  | lst ys=>obtain⟨b,ws,e,t',rs'⟩:=O7.mp r';subst e;cases q';obtain⟨its',rv',X8,_⟩:=I.list t'.sq;simpa only[DB]using SeqAt.EqAt.int_list i ti X8.isList hu0
  | ref b=>simp[uA]at p'
  | y9 b=>simp[uA]at p'
  | err b c d=>simp[uA]at p'
  | thr b c d=>simp[uA]at p'
 | .str i,d',v,v',u,u',A,p,p',hu,r,r',q,q'=>by
  cases N7.mp r;obtain⟨ti,rfl⟩:=q;have hu0:A.units<cLine:=by omega
  cases d' with
  | non=>cases T7.mp r';cases q';simpa only[DB]using SeqAt.EqAt.str_none i ti
  | bl b=>cases L7.mp r';cases q';simpa only[DB]using SeqAt.EqAt.str_bool i ti b
  | int b=>cases K7.mp r';obtain⟨t',rfl⟩:=q';simpa only[DB]using SeqAt.EqAt.str_int i ti b t'
  | str b=>cases N7.mp r';obtain⟨t',rfl⟩:=q';simpa only[DB]using SeqAt.EqAt.str_str i ti b t'
  | tup ys=>obtain⟨b,ws,e,t',rs'⟩:=U7.mp r';subst e;cases q';obtain⟨its',rv',X8,_⟩:=I.tuple t'.sq;simpa only[DB]using SeqAt.EqAt.str_tuple i ti (WC X8) hu0
  | lst ys=>obtain⟨b,ws,e,t',rs'⟩:=O7.mp r';subst e;cases q';obtain⟨its',rv',X8,_⟩:=I.list t'.sq;simpa only[DB]using SeqAt.EqAt.str_list i ti X8.isList hu0
  | ref b=>simp[uA]at p'
  | y9 b=>simp[uA]at p'
  | err b c d=>simp[uA]at p'
  | thr b c d=>simp[uA]at p'
theorem mK(I:Inv X pins σ H s):∀(xs ys:List Dt){vs vs':List V}{us us':List Value}(A:Around),rC xs=true->rC ys=true->A.units+tD xs<cLine->G7 X.K H ρ xs vs->G7 X.K H ρ ys vs'->Vals vs us->Vals vs' us'->
 ∀(j:Nat)(h1:j<us.length)(h2:j<us'.length),SeqAt.EqAt A s us[j] us'[j] (jE xs ys j)
 | [],_,_,_,_,_,_,_,_,_,r,_,q,_,_,h1,_=>by rw[r.o8]at q;cases q;exact absurd h1 (by simp)
 | _::_,[],_,_,_,_,_,_,_,_,_,r',_,q',_,_,h2=>by rw[r'.o8]at q';cases q';exact absurd h2 (by simp)
 | x::xs,y::ys,vs,vs',us,us',A,p,p',hu,r,r',q,q',j,h1,h2=>by
  simp only[rC,Bool.and_eq_true]at p p';simp only[tD]at hu;obtain⟨v,r0,e,a1,a2⟩:=r.V7;subst e;obtain⟨v',Ay,e,b1,b2⟩:=r'.V7;subst e;cases q with
  | cons q1 q2=>
   cases q' with
   | cons Yk Zk=>
    cases j with
    | zero=>exact MR I x y A p.1 p'.1 (by omega) a1 b1 q1 Yk
    | succ j=>have ih:=mK I xs ys A p.2 p'.2 (by omega) a2 b2 q2 Zk j (by simpa using h1) (by simpa using h2);simpa[jE]using ih
end
end
section
variable{X:Cx}{a b c e:Expr}{es:List Expr}{fa fb fc f:RE}{g:RA}{p p2 pos:Pos}
def dH(xs ys:List Dt):Bool:=rC xs&&rC ys&&decide (tD xs<=50)
def EB:LC:=fun a b h=>match a,b with
 | .tup xs,.tup ys=>if dH xs ys=true then some (.bl (MC xs ys),h)else none
 | .lst xs,.lst ys=>if dH xs ys=true then some (.bl (MC xs ys),h)else none
 | a,b=>bT a b h
def IB:LC:=fun a b h=>match a,b with
 | .tup xs,.tup ys=>if dH xs ys=true then some (.bl (!MC xs ys),h)else none
 | .lst xs,.lst ys=>if dH xs ys=true then some (.bl (!MC xs ys),h)else none
 | a,b=>yS a b h
theorem KJ{pins:List (Addr×Obj)}{σ:L2.St}{H:Hp}{s:Shared}{ρ:Rg}{xs ys:List Dt}{vs ws:List V}{its its':List Value}(I:Inv X pins σ H s)(hu:X.A.units+64<cLine)(ok:dH xs ys=true)(rs:G7 X.K H ρ xs vs)(rs':G7 X.K H ρ ys ws)(rv:Vals vs its)(rv':Vals ws its') :
 ∀(j:Nat)(h1:j<its.toArray.size)(h2:j<its'.toArray.size),SeqAt.EqAt X.A.in1 s its.toArray[j] its'.toArray[j] (jE xs ys j):=fun j h1 h2=>by
 simp only[dH,Bool.and_eq_true,decide_eq_true_eq]at ok;rw[size_toArray]at h1 h2;have:=mK I xs ys X.A.in1 ok.1.1 ok.1.2 (by have:=NJ X.A;omega) rs rs' rv rv' j h1 h2;simpa using this
theorem GC(hu:X.A.units+64<cLine):OM X (compareOp .Eq) EB:=by
 with_unfolding_all
  intro pins s σ H x y v u Q I rx ry h;obtain⟨ρ,h,d1,d2,d,h',S,R1,R2,e,k⟩:=h;unfold EB at e;split at e
  · rename_i xs ys;obtain⟨ok,e⟩:=gE e;cases e;obtain⟨a,vs,z,t,rs⟩:=U7.mp R1;obtain⟨b,ws,z',t',rs'⟩:=U7.mp R2;subst z z';cases rx;cases ry;obtain⟨its,rv,tp,_⟩:=I.tuple t.sq;obtain⟨its',rv',X8,_⟩:=I.tuple t'.sq;have l1:its.length=xs.length:=by rw[<- rv.length,rs.length]
    have l2:its'.length=ys.length:=by rw[<- rv'.length,rs'.length]
    refine SeqAt.eq_tupleAt (e:=jE xs ys) (WC tp) (WC X8) (by omega) (KJ I hu ok rs rs' rv rv') ?_;refine⟨.bl _,H,I,rfl,k ρ _ H (L7.mpr (congrArg V.bl ?_)) S (Ext.refl _ _)⟩;rw[size_toArray,size_toArray,l1,l2];by_cases hl:xs.length=ys.length
    · rw[<- hl,Nat.min_self,XF xs ys hl,beq_self_eq_true,Bool.and_true]
    · have hb:(xs.length==ys.length)=false:=by simpa using hl
      rw[WF xs ys hl,hb,Bool.and_false]
  · rename_i xs ys;obtain⟨ok,e⟩:=gE e;cases e;obtain⟨a,vs,z,t,rs⟩:=O7.mp R1;obtain⟨b,ws,z',t',rs'⟩:=O7.mp R2;subst z z';cases rx;cases ry;obtain⟨its,rv,tp,_⟩:=I.list t.sq;obtain⟨its',rv',X8,_⟩:=I.list t'.sq;have l1:its.length=xs.length:=by rw[<- rv.length,rs.length]
    have l2:its'.length=ys.length:=by rw[<- rv'.length,rs'.length]
    by_cases hl:xs.length=ys.length
    · refine SeqAt.eq_listAt (e:=jE xs ys) tp.isList X8.isList (by rw[size_toArray,size_toArray,l1,l2,hl]) (by omega) (KJ I hu ok rs rs' rv rv') ?_;refine⟨.bl _,H,I,rfl,k ρ _ H (L7.mpr (congrArg V.bl ?_)) S (Ext.refl _ _)⟩;rw[size_toArray,l1,XF xs ys hl]
    · refine SeqAt.eq_list_lengthsAt tp.isList X8.isList (by rw[size_toArray,size_toArray,l1,l2];simpa using hl) (by omega) ?_;exact⟨.bl _,H,I,rfl,k ρ _ H (L7.mpr (by rw[WF xs ys hl])) S (Ext.refl _ _)⟩
  · exact N5 pins s σ H x y v u Q I rx ry ⟨ρ,h,d1,d2,d,h',S,R1,R2,e,k⟩
theorem vD(hu:X.A.units+64<cLine):OM X (compareOp .NotEq) IB:=by
 with_unfolding_all
  intro pins s σ H x y v u Q I rx ry h;obtain⟨ρ,h,d1,d2,d,h',S,R1,R2,e,k⟩:=h;unfold IB at e;split at e
  · rename_i xs ys;obtain⟨ok,e⟩:=gE e;cases e;obtain⟨a,vs,z,t,rs⟩:=U7.mp R1;obtain⟨b,ws,z',t',rs'⟩:=U7.mp R2;subst z z';cases rx;cases ry;obtain⟨its,rv,tp,_⟩:=I.tuple t.sq;obtain⟨its',rv',X8,_⟩:=I.tuple t'.sq;have l1:its.length=xs.length:=by rw[<- rv.length,rs.length]
    have l2:its'.length=ys.length:=by rw[<- rv'.length,rs'.length]
    refine bW (e:=jE xs ys) (WC tp) (WC X8) (by omega) (KJ I hu ok rs rs' rv rv') ?_;refine⟨.bl _,H,I,rfl,k ρ _ H (L7.mpr (congrArg V.bl ?_)) S (Ext.refl _ _)⟩;rw[size_toArray,size_toArray,l1,l2];by_cases hl:xs.length=ys.length
    · rw[<- hl,Nat.min_self,XF xs ys hl,beq_self_eq_true,Bool.and_true]
    · have hb:(xs.length==ys.length)=false:=by simpa using hl
      rw[WF xs ys hl,hb,Bool.and_false]
  · rename_i xs ys;obtain⟨ok,e⟩:=gE e;cases e;obtain⟨a,vs,z,t,rs⟩:=O7.mp R1;obtain⟨b,ws,z',t',rs'⟩:=O7.mp R2;subst z z';cases rx;cases ry;obtain⟨its,rv,tp,_⟩:=I.list t.sq;obtain⟨its',rv',X8,_⟩:=I.list t'.sq;have l1:its.length=xs.length:=by rw[<- rv.length,rs.length]
    have l2:its'.length=ys.length:=by rw[<- rv'.length,rs'.length]
    by_cases hl:xs.length=ys.length
    · refine HW (e:=jE xs ys) tp.isList X8.isList (by rw[size_toArray,size_toArray,l1,l2,hl]) (by omega) (KJ I hu ok rs rs' rv rv') ?_;refine⟨.bl _,H,I,rfl,k ρ _ H (L7.mpr (congrArg V.bl ?_)) S (Ext.refl _ _)⟩;rw[size_toArray,l1,XF xs ys hl]
    · refine AU tp.isList X8.isList (by rw[size_toArray,size_toArray,l1,l2];simpa using hl) (by omega) ?_;exact⟨.bl _,H,I,rfl,k ρ _ H (L7.mpr (by rw[WF xs ys hl];rfl)) S (Ext.refl _ _)⟩
  · exact Q5 pins s σ H x y v u Q I rx ry ⟨ρ,h,d1,d2,d,h',S,R1,R2,e,k⟩
def wC:LC:=fun a b h=>(VA h a).bind fun xs=>(VA h b).bind fun ys=>if xs.length+ys.length<=sizeLine then some (.lst (xs++ys),h)else none
theorem mH:OM X (binaryOp .Add) wC:=by with_unfolding_all exact L8.imp LY fun x y H Q zz=>by obtain⟨ρ,h,d1,d2,d,h',S,R1,R2,e,k⟩:=zz;obtain⟨xs,e1,e⟩:=eA e;obtain⟨ys,e2,e⟩:=eA e;obtain⟨hz,e⟩:=gE e;cases e;obtain⟨l,vs,z1,q1,r1⟩:=XE S R1 e1;obtain⟨b,ws,z2,q2,r2⟩:=XE S R2 e2;exact⟨l,b,vs,ws,z1,z2,q1,q2,by rw[r1.length,r2.length];exact hz,fun p hp=>k ρ _ _ (AI S (r1.append r2) hp) (S.fresh hp) (Ext.fresh hp)⟩
noncomputable def cC(F:Dt->HI->Option (Dt×HI))(f:RE):RE:=fun l h=>(f l h).bind fun r=>F r.1 r.2
theorem bS{x:Str}{id:String}{r:List V->Hp->VK->Prop}{F:Dt->HI->Option (Dt×HI)}(hc:t8 X (.builtin id) r)(hF:∀ρ h d v d' h' H Q,M7 X.K ρ h H->J7 X.K H ρ d v->F d h=some (d',h')->Out X.K ρ H d' h' Q->r [v] H Q)
 (hg:Gl X x) (hm:X.mg x=none) (hv:bootBuiltins x=some (.builtin id)) (ha:EM X e f) (hn:x ≠ "__name__" :=by decide) (hdb:(x==("__debug__" :Str))=false:=by decide) (hs:eB e=true:=by rfl) :
 EM X (.Call (.Name x p) [e] [] pos) (cC F f):=by
 with_unfolding_all exact PE.imp (nN hc hg hm hv (qC ha XC (gB hs _ _)) hn hdb (he:=gB hs _ _)) fun σ H Q zz=>by obtain⟨ρ,l,h,d,h',S,L,e,k⟩:=zz;obtain⟨⟨d1,h1⟩,e1,e⟩:=eA e;exact⟨ρ,l,h,d1,h1,S,L,e1,fun ρ1 v H1 R1 S1 E1=>hF ρ1 h1 d1 v d h' H1 Q S1 R1 e (k.ext E1)⟩
theorem uO{x:Str}{T:String}{r:List V->Hp->VK->Prop}{F:Dt->HI->Option (Dt×HI)}(hc:t8 X (.type T) r)(hF:∀ρ h d v d' h' H Q,M7 X.K ρ h H->J7 X.K H ρ d v->F d h=some (d',h')->Out X.K ρ H d' h' Q->r [v] H Q)
 (hg:Gl X x) (hm:X.mg x=none) (hv:bootBuiltins x=some (.type T)) (ha:EM X e f) (hn:x ≠ "__name__" :=by decide) (hdb:(x==("__debug__" :Str))=false:=by decide) (hs:eB e=true:=by rfl) :
 EM X (.Call (.Name x p) [e] [] pos) (cC F f):=by
 with_unfolding_all exact PE.imp (fW hc hg hm hv (qC ha XC (gB hs _ _)) hn hdb (he:=gB hs _ _)) fun σ H Q zz=>by obtain⟨ρ,l,h,d,h',S,L,e,k⟩:=zz;obtain⟨⟨d1,h1⟩,e1,e⟩:=eA e;exact⟨ρ,l,h,d1,h1,S,L,e1,fun ρ1 v H1 R1 S1 E1=>hF ρ1 h1 d1 v d h' H1 Q S1 R1 e (k.ext E1)⟩
def mB:Dt->HI->Option (Dt×HI):=fun d h=>match d with
 | .str z=>if z.length<=sizeLine then some (.int z.length,h)else none
 | d=>(JE h d).map fun xs=>(.int xs.length,h)
theorem aC (hg:Gl X "len") (hm:X.mg "len" =none) (ha:EM X e f) (hs:eB e=true:=by rfl):EM X (.Call (.Name "len" p) [e] [] pos) (cC mB f):=by
 with_unfolding_all
  exact bS (t8.or mU nU) (fun ρ h d v d' h' H Q S R e k=>by
   unfold mB at e;split at e
   · rename_i z;obtain⟨hz,e⟩:=gE e;cases e;exact .inr ⟨z,by rw[N7.mp R],hz,k ρ _ H (K7.mpr rfl) S (Ext.refl _ _)⟩
   · cases q:JE h d with
     | none=>rw[q]at e;cases e
     | some xs=>
      rw[q]at e;cases e;obtain⟨a,vs,z,sq,r⟩:=EN S R q;exact .inl ⟨a,vs,by rw[z],sq,by rw[r.length];exact k ρ _ H (K7.mpr rfl) S (Ext.refl _ _)⟩) hg hm PySem.boot_len ha (hs:=hs)
noncomputable def GH:Dt->HI->Option (Dt×HI):=fun d h=>match d with
 | .int i=>some (.int i,h)
 | .bl b=>some (.int (if b then 1 else 0),h)
 | _=>none
theorem jZ (hg:Gl X "int") (hm:X.mg "int" =none) (ha:EM X e f) (hs:eB e=true:=by rfl):EM X (.Call (.Name "int" p) [e] [] pos) (cC GH f):=by
 with_unfolding_all
  exact uO vV (fun ρ h d v d' h' H Q S R e k=>by
   unfold GH at e;split at e
   · rename_i i;cases e;exact .inl ⟨i,by rw[K7.mp R],k ρ _ H (K7.mpr rfl) S (Ext.refl _ _)⟩
   · rename_i b;cases e;exact .inr ⟨b,by rw[L7.mp R],k ρ _ H (K7.mpr rfl) S (Ext.refl _ _)⟩
   · cases e) hg hm PyProof.Rows.boot_int ha (hs:=hs)
def DF:Dt->HI->Option (Dt×HI):=fun d h=>(JE h d).map fun xs=>(.lst xs,h)
theorem GQ (hg:Gl X "list") (hm:X.mg "list" =none) (ha:EM X e f) (hs:eB e=true:=by rfl):EM X (.Call (.Name "list" p) [e] [] pos) (cC DF f):=by
 with_unfolding_all
  exact uO oU (fun ρ h d v d' h' H Q S R e k=>by
   unfold DF at e;cases q:JE h d with
   | none=>rw[q]at e;cases e
   | some xs=>
    rw[q]at e;cases e;obtain⟨a,vs,z,sq,r⟩:=EN S R q;exact⟨a,vs,by rw[z],sq,fun l hl=>k ρ _ _ (AI S r hl) (S.fresh hl) (Ext.fresh hl)⟩) hg hm PyProof.Rows.boot_list ha (hs:=hs)
noncomputable def j0:List Dt->Option (List Int)
 | []=>some []
 | .int i::ds=>(j0 ds).map fun ns=>i::ns
 | _::_=>none
noncomputable def UD(h:HI):Dt->Option String
 | .non=>some "NoneType"
 | .bl _=>some "bool"
 | .int _=>some "int"
 | .str _=>some "str"
 | .tup _=>some "tuple"
 | .lst _=>some "list"
 | .ref n=>match h[n]? with | some (.lst _)=>some "list" | _=>none
 | .y9 _=>none
 | .err _ _ _=>none
 | .thr _ _ _=>none
noncomputable def lL (t T:String):Bool:=t==T || (t == "bool" && T == "int")
def AC(T:String)(f:RE):RE:=fun l h=>(f l h).bind fun r=>(UD r.2 r.1).map fun t=>(.bl (lL t T),r.2)
theorem CZ (K:Frag):∀t ∈ ["NoneType", "bool", "int", "str", "tuple", "list"],∀T ∈ ["bool", "int", "str", "tuple", "list"],PySem.W.kitOne K (.type t) (.type T)=some (lL t T):=by intro t ht T hT;simp only[mem_cons,mem_nil_iff,or_false]at ht hT;rcases ht with rfl | rfl | rfl | rfl | rfl | rfl<;>rcases hT with rfl | rfl | rfl | rfl | rfl<;>with_unfolding_all rfl
theorem A3 {h:HI} {d:Dt} {t:String} (e:UD h d=some t):t ∈ ["NoneType", "bool", "int", "str", "tuple", "list"]:=by
 cases d with
 | ref n=>
  simp only[UD]at e;split at e
  · cases e;decide
  · cases e
 | y9 n=>simp only[UD]at e;cases e
 | err n m k=>simp only[UD]at e;cases e
 | thr n m k=>simp only[UD]at e;cases e
 | _=>simp only[UD]at e<;>cases e<;>decide
theorem A5{K:Frag}{H:Hp}{ρ:Rg}{h:HI}{d:Dt}{v:V}{t:String}(S:M7 K ρ h H)(R:J7 K H ρ d v)(e:UD h d=some t):C6 K H v t:=by
 cases d with
 | non=>cases T7.mp R;simp only[UD]at e;cases e;rfl
 | bl b=>cases L7.mp R;simp only[UD]at e;cases e;rfl
 | int b=>cases K7.mp R;simp only[UD]at e;cases e;rfl
 | str b=>cases N7.mp R;simp only[UD]at e;cases e;rfl
 | tup xs=>obtain⟨a,vs,z,t,rs⟩:=U7.mp R;subst z;simp only[UD]at e;cases e;exact .inr ⟨rfl,vs,t.sq⟩
 | lst xs=>obtain⟨a,vs,z,t,rs⟩:=O7.mp R;subst z;simp only[UD]at e;cases e;exact .inl ⟨rfl,vs,t.sq⟩
 | ref n=>
  obtain⟨a,z,ha⟩:=R7.mp R;subst z;simp only[UD]at e;split at e
  · rename_i xs q;cases e;obtain⟨vs,h1,_⟩:=S.lst ha q;exact .inl ⟨rfl,vs,N8.of h1⟩
  · cases e
 | y9 n=>simp only[UD]at e;cases e
 | err n m k=>simp only[UD]at e;cases e
 | thr n m k=>simp only[UD]at e;cases e
theorem eG {T:Str} {TT:String} (hg:Gl X "isinstance") (hm:X.mg "isinstance" =none) (Zj:Gl X T) (Mq:X.mg T=none) (hv:bootBuiltins T=some (.type TT)) (hT:TT ∈ ["bool", "int", "str", "tuple", "list"]) (ha:EM X e f)
 (hnT:T ≠ "__name__" :=by decide) (hdT:(T==("__debug__" :Str))=false:=by decide)
 (hs:eB e=true:=by rfl) :
 EM X (.Call (.Name "isinstance" p) [e,.Name T p2] [] pos) (AC TT f):=by
 with_unfolding_all
  exact PE.imp (nN (wX (T:=TT)) hg hm PyProof.Rows.boot_isinstance (qC ha (qC (RQ Zj Mq hv (v:=.ty TT) rfl hnT hdT) XC (gB rfl _ _)) (gB hs _ _)) (he:=gB hs _ _)) fun σ H Q zz=>by
   obtain⟨ρ,l,h,d,h',S,L,e,k⟩:=zz;obtain⟨⟨d1,h1⟩,e1,e⟩:=eA e;refine⟨ρ,l,h,d1,h1,S,L,e1,fun ρ1 v H1 R1 S1 E1=>?_⟩;cases q:UD h1 d1 with
   | none=>rw[q]at e;cases e
   | some t=>rw[q]at e;cases e;exact⟨v,t,lL t TT,rfl,A5 S1 R1 q,CZ X.K t (A3 q) TT hT,k ρ1 _ H1 (L7.mpr rfl) S1 E1⟩
abbrev RO:=LI->HI->Option (Option Int×HI)
noncomputable def VI:RO:=fun _ h=>some (none,h)
noncomputable def KF(f:RE):RO:=fun l h=>(f l h).bind fun r=>match r.1 with | .int i=>some (some i,r.2) | _=>none
def V6(K:Frag)(f:RO):TO:=fun σ H Q=>∃ρ l h o h',M7 K ρ h H/\g8 K H ρ l σ/\f l h=some (o,h')/\zj K ρ H h' (Q o)
@[irreducible] def sS(X:Cx)(e:Option Expr)(f:RO):Prop:=PO X e (V6 X.K f)
theorem PO.imp{X:Cx}{e:Option Expr}{t t':TO}(h:PO X e t)(i:∀σ H Q,t' σ H Q->t σ H Q):PO X e t':=fun pins s σ H Q I q=>h pins s σ H Q I (i σ H Q q)
theorem YJ:sS X none VI:=by with_unfolding_all exact PO.imp XY fun σ H Q zz=>by obtain⟨ρ,l,h,o,h',S,L,e,k⟩:=zz;cases e;exact k ρ H S (Ext.refl _ _)
theorem bH(ha:EM X a fa):sS X (some a) (KF fa):=by
 with_unfolding_all
  exact PO.imp (YY ha) fun σ H Q zz=>by
   obtain⟨ρ,l,h,o,h',S,L,e,k⟩:=zz;obtain⟨⟨d1,h1⟩,e1,e⟩:=eA e;refine⟨ρ,l,h,d1,h1,S,L,e1,fun ρ1 v H1 R1 S1 E1=>?_⟩;cases d1 with
   | int i=>cases e;exact⟨i,K7.mp R1,k ρ1 H1 S1 E1⟩
   | _=>cases e
def hE(xs:List Dt)(lo hi:Option Int):List Dt:=(xs.drop (HT.E9 xs.length 0 lo)).take (HT.E9 xs.length xs.length hi-HT.E9 xs.length 0 lo)
def wH(f:RE)(lo hi:RO):RE:=fun l h=>(f l h).bind fun r=>(lo l r.2).bind fun o=>(hi l o.2).bind fun u=>(VA u.2 r.1).map fun xs=>(.lst (hE xs o.1 u.1),u.2)
theorem EX{K:Frag}{H:Hp}{ρ:Rg}{xs:List Dt}{vs:List V}(r:G7 K H ρ xs vs)(lo hi:Option Int):G7 K H ρ (hE xs lo hi) (zG vs lo hi):=by unfold hE zG;rw[r.length];exact(r.drop _).take _
theorem XH{lo hi:Option Expr}{fl fh:RO}(ha:EM X a fa)(hl:sS X lo fl)(hh:sS X hi fh):EM X (.Subscript a (.Slice lo hi none p2) pos) (wH fa fl fh):=by
 with_unfolding_all
  exact PE.imp (eY U0 ha hl hh) fun σ H Q zz=>by
   obtain⟨ρ,l,h,d,h',S,L,e,k⟩:=zz;obtain⟨⟨d1,h1⟩,e1,e⟩:=eA e;obtain⟨⟨o,h2⟩,e2,e⟩:=eA e;obtain⟨⟨u,h3⟩,e3,e⟩:=eA e;refine⟨ρ,l,h,d1,h1,S,L,e1,fun ρ1 v H1 R1 S1 E1=>⟨ρ1,l,h1,o,h2,S1,L.ext E1,e2,fun ρ2 H2 S2 E2=>⟨ρ2,l,h2,u,h3,S2,L.ext (E1.trans E2),e3,fun ρ3 H3 S3 E3=>?_⟩⟩⟩;cases q:VA h3 d1 with
   | none=>dsimp only at e;rw[q]at e;cases e
   | some xs=>dsimp only at e;rw[q]at e;cases e;obtain⟨x,vs,z,sq,r⟩:=XE S3 (J7.ext (E2.trans E3) _ R1) q;exact⟨x,vs,z,sq,fun p hp=>k ρ3 _ _ (AI S3 (EX r o u) hp) (S3.fresh hp) (E1.trans (E2.trans (E3.trans (Ext.fresh hp))))⟩
noncomputable def SS(fo fa:RE):RE:=fun l h=>(fo l h).bind fun r=>match r.1 with
 | .ref n=>(fa l r.2).bind fun q=>match q.2[n]? with
  | some (.lst xs)=>if xs.length<sizeLine then some (.non,q.2.set n (.lst (xs++[q.1])))else none
  | _=>none
 | _=>none
theorem FR {K:Frag} {H:Hp} {ρ:Rg} {h:HI} {n:Nat} {xs:List Dt} {v:V} (S:M7 K ρ h H) (R:J7 K H ρ (.ref n) v) (e:h[n]?=some (.lst xs)):AT K "list" v H:=by obtain⟨a,z,ha⟩:=R7.mp R;subst z;obtain⟨vs,h1,_⟩:=S.lst ha e;exact .inl ⟨rfl,vs,N8.of h1⟩
def WH(fa fb:RE):RE:=fun l h=>(fa l h).bind fun r=>match r.1 with
 | .ref n=>match r.2[n]? with
  | some (.lst _)=>SS (eC (.ref n)) fb l r.2
  | _=>none
 | _=>none
theorem iV {apos cpos:Pos} (ho:EM X a fa) (hb:EM X b fb) (hbase:attributeBase a "append" X.env (eval a X.env)=eval a X.env:=by rfl)
 (hline:(apos.endLine==cpos.line)=true:=by rfl) (hs:eB b=true:=by rfl) :
 EM X (.Call (.Attribute a "append" apos) [b] [] cpos) (WH fa fb):=by
 with_unfolding_all
  exact PE.imp (KI PySem.F.plainAttrs_list PySem.F.slot_list_append PySem.F.type_list_append ZP ho (qC hb XC (gB hs _ _)) hbase (aI hs) hline (gB hs _ _)) fun σ H Q zz=>by
   obtain⟨ρ,l,h,d,h',S,L,e,k⟩:=zz;obtain⟨⟨d1,h1⟩,e1,e⟩:=eA e;refine⟨ρ,l,h,d1,h1,S,L,e1,fun ρ1 v H1 R1 S1 E1=>?_⟩;cases d1 with
   | ref n=>
    dsimp only at e;split at e
    · rename_i xs0 q0;obtain⟨⟨d0,h0⟩,z0,e⟩:=eA e;cases z0;dsimp only at e;obtain⟨⟨d2,h2⟩,e2,e⟩:=eA e;refine⟨FR S1 R1 q0,ρ1,l,h1,d2,h2,S1,L.ext E1,e2,fun ρ2 y H2 R2 S2 E2=>?_⟩;dsimp only at e;split at e
      · rename_i xs q;obtain⟨hz,e⟩:=gE e;cases e;obtain⟨a,z,ha⟩:=R7.mp R1;subst z;have ha2:=E2.get ha;obtain⟨vs,g1,g2⟩:=S2.lst ha2 q;have hm:=mem_of_getElem? ha2;refine⟨a,vs,y,rfl,rfl,g1,by rw[g2.length];exact hz,k ρ2 _ _ (T7.mpr rfl) (S2.write ha2 (EG g1) ⟨_,AB,?_⟩) (E1.trans (E2.trans (Ext.write hm (EG g1))))⟩;exact(g2.append (.cons R2 .nil)).ext (Ext.write hm (EG g1))
      · cases e
    · cases e
   | _=>cases e
end
def AD:List Dt->Dt->Option Nat
 | [],_=>none
 | y::ys,x=>if DB y x=true then some 0 else(AD ys x).map (· + 1)
theorem UP:∀{ys:List Dt}{x:Dt}{j:Nat},AD ys x=some j->(∃y,ys[j]?=some y/\DB y x=true)/\∀(m:Nat),m<j->∃y,ys[m]?=some y/\DB y x=false
 | [],_,_,e=>by simp only[AD]at e;cases e
 | y::ys,x,j,e=>by
  simp only[AD]at e;by_cases h:DB y x=true
  · rw[if_pos h]at e;cases e;exact⟨⟨y,rfl,h⟩,fun m hm=>absurd hm (Nat.not_lt_zero _)⟩
  · rw[if_neg h]at e;cases q:AD ys x with
    | none=>rw[q]at e;cases e
    | some k=>
     rw[q]at e;cases e;obtain⟨⟨z,z1,z2⟩,no⟩:=UP q;refine⟨⟨z,by simpa using z1,z2⟩,fun m hm=>?_⟩;cases m with
     | zero=>exact⟨y,rfl,by simpa using h⟩
     | succ m=>obtain⟨u,u1,u2⟩:=no m (Nat.lt_of_succ_lt_succ hm);exact⟨u,by simpa using u1,u2⟩
section
variable{X:Cx}{pins:List (Addr×Obj)}{σ:L2.St}{H:Hp}{s:Shared}{ρ:Rg}
def EH(xs:List Dt)(d:Dt)(k:Nat):Bool:=match xs[k]? with | some z=>DB z d | none=>false
theorem EJ:∀{xs:List Dt}{k:Nat}{z:Dt},rC xs=true->xs[k]?=some z->uA z=true
 | [],_,_,_,e=>by simp at e
 | x::xs,0,z,h,e=>by simp only[rC,Bool.and_eq_true]at h;simp at e;subst e;exact h.1
 | x::xs,k+1,z,h,e=>by simp only[rC,Bool.and_eq_true]at h;exact EJ h.2 (by simpa using e)
theorem OP:∀{xs:List Dt}{k:Nat}{z:Dt},xs[k]?=some z->AG z<=tD xs
 | [],_,_,e=>by simp at e
 | x::xs,0,z,e=>by simp at e;subst e;simp only[tD];exact Nat.le_max_left _ _
 | x::xs,k+1,z,e=>by simp only[tD];exact Nat.le_trans (OP (xs:=xs) (k:=k) (by simpa using e)) (Nat.le_max_right _ _)
open Classical in
theorem F5(I:Inv X pins σ H s){xs:List Dt}{d:Dt}{ws:List V}{v:V}{its:List Value}{u:Value}(A:Around)(p:rC xs=true)(p':uA d=true)(hu:A.units+tD xs<cLine)(rs:G7 X.K H ρ xs ws)(rd:J7 X.K H ρ d v)(rv:Vals ws its)(ru:RelV v u) :
 ∃e:Value->Bool,(∀(k:Nat)(hk:k<its.length),e its[k]=EH xs d k)/\∀y∈its,SeqAt.EqAt A s y u (e y):=by
 have key:∀(k:Nat)(y:Value),its[k]?=some y->∃z w,xs[k]?=some z/\ws[k]?=some w/\J7 X.K H ρ z w/\RelV w y:=fun k y e=>by
  have hl:=rv.length;have hk:k<xs.length:=by have:=(Sy e).1;have h2:=rs.length;omega
  obtain⟨w,w1,w2⟩:=rs.get (getElem?_eq_getElem hk);obtain⟨y',y1,y2⟩:=rv.get w1;rw[e]at y1;cases y1;exact⟨_,w,getElem?_eq_getElem hk,w1,w2,y2⟩
 have same:∀(k m:Nat)(y:Value),its[k]?=some y->its[m]?=some y->EH xs d k=EH xs d m:=fun k m y e1 e2=>by obtain⟨z,w,a1,_,a3,a4⟩:=key k y e1;obtain⟨z',w',b1,_,b3,b4⟩:=key m y e2;have ew:=RelV.inj a4 b4;subst ew;have ez:=bK I z z' (EJ p a1) (EJ p b1) a3 b3;unfold EH;rw[a1,b1,ez]
 refine⟨fun y=>if h:∃k,its[k]?=some y then EH xs d h.choose else false,fun k hk=>?_,fun y hy=>?_⟩
 · have hex:∃m,its[m]?=some its[k]:=⟨k,getElem?_eq_getElem hk⟩
   dsimp only;rw[dif_pos hex];exact same _ _ _ hex.choose_spec (getElem?_eq_getElem hk)
 · obtain⟨k,hk⟩:=mem_iff_getElem?.mp hy;have hex:∃m,its[m]?=some y:=⟨k,hk⟩
   dsimp only;rw[dif_pos hex];obtain⟨z,w,a1,_,a3,a4⟩:=key _ y hex.choose_spec;have ec:EH xs d hex.choose=DB z d:=by unfold EH;rw[a1]
   rw[ec];exact MR I z d A (EJ p a1) p' (by have:=OP a1;omega) a3 rd a4 ru
theorem wZ{xs:List Dt}{d:Dt}{j:Nat}(h:AD xs d=some j):j<xs.length/\EH xs d j=true/\∀m,m<j->EH xs d m=false:=by obtain⟨⟨y,y1,y2⟩,no⟩:=UP h;refine⟨(Sy y1).1,by unfold EH;rw[y1];exact y2,fun m hm=>?_⟩;obtain⟨z,z1,z2⟩:=no m hm;unfold EH;rw[z1];exact z2
end
def qG(xs:List Dt)(d:Dt):Bool:=rC xs&&uA d&&decide (tD xs<=50)
def iT(K:Frag)(tup:Bool):V->List V->Hp->VK->Prop:=fun x vs H Q=>∃ρ xs d y a ws j,x=.ref a/\vs=[y]/\(if tup=true then CH K H a ws else N8 K H a ws)/\G7 K H ρ xs ws/\J7 K H ρ d y/\qG xs d=true/\AD xs d=some j/\Q (.int (j:Nat)) H
section
variable{X:Cx}{a b:Expr}{fa fb:RE}
theorem YV (hu:X.A.units+64<cLine):rS X "list.index" (iT X.K false):=by
 intro pins s σ H x vs v us Q I rx rv h;obtain⟨ρ,xs,d,y,p,ws,j,rfl,rfl,sq,rs,rd,ok,hj,q⟩:=h;rw[if_neg Vy]at sq;cases rx;obtain⟨u,rfl,ru⟩:=BF rv;simp only[qG,Bool.and_eq_true,decide_eq_true_eq]at ok;obtain⟨its,N9,⟨⟨c1,d1,t1,Vq⟩,n,e0,k1,k2,k3⟩,z⟩:=I.list sq;simp only at k1 k2 k3;subst k1 k2 k3;obtain⟨e,e1,e2⟩:=F5 I X.A.in1 ok.1.1 ok.1.2 (by have:=NJ X.A;omega) rs rd N9 ru;obtain⟨j1,j2,j3⟩:=wZ hj;have hl:its.length=xs.length:=by rw[<- N9.length,rs.length]
 have hz:j<its.length:=by omega
 have hn:=gG;refine call_meets PySem.F.slot_list_index ⟨_,e0,rfl⟩ PySem.F.entry_list_index (PySem.F.args_list_index_2 _ _)
  (SeqAt.list_indexAt p its.toArray n none Vq u e j (by rw[size_toArray];exact hz) (by have:=N9.length;omega) ?_ ?_) ⟨e0,fun y hy=>e2 y (by simpa using hy),⟨.int (j:Nat),H,I.tok _,⟨_,rfl⟩,q⟩⟩
 · have:=e1 j hz;rw[j2]at this;simpa using this
 · intro m hm Pk;rw[size_toArray]at hm;have:=e1 m hm;rw[j3 m Pk]at this;simpa using this
noncomputable def WB(K:Frag):Nat->Value->Option Dt
 | _,.none=>some .non
 | _,.bool b=>some (.bl b)
 | _,.int i _=>some (.int i)
 | _,.str x _=>some (.str x)
 | 0,_=>none
 | n+1,.ref a=>match K.lookup a with
  | some ⟨.type T,dd,.seq its _,_⟩=>if its.size<=sizeLine then
   if T = "tuple" then(its.toList.mapM (WB K n)).map .tup
   else if T = "list" then match dd with | none=>(its.toList.mapM (WB K n)).map .lst | some _=>none
   else none
   else none
  | _=>none
 | _,_=>none
noncomputable def LO:Value->V
 | .none=>.non
 | .bool b=>.bl b
 | .int i _=>.int i
 | .str x _=>.str x
 | .ref a=>.ref a
 | _=>.non
theorem DN{K:Frag}{H:Hp}{ρ:Rg}{f:Value->Option Dt}(h:∀u d,f u=some d->RelV (LO u) u/\J7 K H ρ d (LO u)):∀{us:List Value}{ds:List Dt},us.mapM f=some ds->Vals (us.map LO) us/\G7 K H ρ ds (us.map LO)
 | [],_,e=>by simp at e;subst e;exact⟨.nil,.nil⟩
 | u::us,ds,e=>by
  rw[mapM_cons]at e;cases q:f u with
  | none=>rw[q]at e;cases e
  | some d=>
   rw[q]at e;cases q2:us.mapM f with
   | none=>rw[q2]at e;cases e
   | some ds'=>rw[q2]at e;cases e;obtain⟨h1,h2⟩:=h u d q;obtain⟨h3,h4⟩:=DN h q2;exact⟨.cons h1 h3,.cons h2 h4⟩
theorem bQ{K:Frag}{H:Hp}{ρ:Rg}:∀(n:Nat)(u:Value)(d:Dt),WB K n u=some d->RelV (LO u) u/\J7 K H ρ d (LO u):=by
 intro n
 induction n with
 | zero=>
  intro u d e;cases u with
  | none=>simp only[WB]at e;cases e;exact⟨rfl,T7.mpr rfl⟩
  | bool b=>simp only[WB]at e;cases e;exact⟨rfl,L7.mpr rfl⟩
  | int i t=>simp only[WB]at e;cases e;exact⟨⟨_,rfl⟩,K7.mpr rfl⟩
  | str x t=>simp only[WB]at e;cases e;exact⟨⟨_,rfl⟩,N7.mpr rfl⟩
  | _=>simp only[WB]at e<;>cases e
 | succ n ih=>
  intro u d e;cases u with
  | none=>simp only[WB]at e;cases e;exact⟨rfl,T7.mpr rfl⟩
  | bool b=>simp only[WB]at e;cases e;exact⟨rfl,L7.mpr rfl⟩
  | int i t=>simp only[WB]at e;cases e;exact⟨⟨_,rfl⟩,K7.mpr rfl⟩
  | str x t=>simp only[WB]at e;cases e;exact⟨⟨_,rfl⟩,N7.mpr rfl⟩
  | ref a=>
   simp only[WB]at e;split at e
   · rename_i T dd its m sl q;by_cases hz:its.size<=sizeLine
     · rw[if_pos hz]at e;by_cases hT:T = "tuple"
       · rw[if_pos hT]at e;cases q2:its.toList.mapM (WB K n)with
         | none=>rw[q2]at e;cases e
         | some ds=>rw[q2]at e;cases e;obtain⟨h1,h2⟩:=DN (K:=K) (H:=H) (ρ:=ρ) ih q2;subst hT;exact⟨rfl,U7.mpr ⟨a,_,rfl,.inr ⟨_,its,m,q,rfl,rfl,hz,h1⟩,h2⟩⟩
       · rw[if_neg hT]at e;by_cases hT2:T = "list"
         · rw[if_pos hT2]at e;split at e
           · cases q2:its.toList.mapM (WB K n)with
             | none=>rw[q2]at e;cases e
             | some ds=>rw[q2]at e;cases e;obtain⟨h1,h2⟩:=DN (K:=K) (H:=H) (ρ:=ρ) ih q2;subst hT2;exact⟨rfl,O7.mpr ⟨a,_,rfl,.inr ⟨_,its,m,q,rfl,rfl,rfl,hz,h1⟩,h2⟩⟩
           · cases e
         · rw[if_neg hT2]at e;cases e
     · rw[if_neg hz]at e;cases e
   · cases e
  | _=>simp only[WB]at e<;>cases e
structure tG(K:Frag)(mg:Str->Option Value)(x:Str)(d:Dt):Prop where
 ex:∃u n,mg x=some u/\WB K n u=some d
theorem tI {x:Str} {d:Dt} {pos:Pos} (hg:Gl X x) (c:tG X.K X.mg x d) (hd:(x==("__debug__" :Str))=false:=by decide):EM X (.Name x pos) (eC d):=by with_unfolding_all obtain⟨u,n,h1,h2⟩:=c.ex;exact iZ hg h1 (bQ (H:=fun _=>none) (ρ:=.nil) n u d h2).1 (fun H ρ=>(bQ n u d h2).2) hd
end
theorem M0{K:Frag}{F:jB}{n:Nat}(h:∀ns:List Int,ns.length<=n->∃h',F [.lst (ns.map Dt.int)] []=some (.bl true,h'))(H:Hp)(a:Addr)(ns:List Int)(hl:ns.length<=n)(hS:N8 K H a (ns.map V.int)) :
 NH K 1 F [.ref a] H (fun v _=>v=.bl true) fun _ _ _=>False:=by
 obtain⟨h',e⟩:=h ns hl;have R:J7 K H .nil (.lst (ns.map Dt.int)) (.ref a):=O7.mpr ⟨a,_,rfl,by
  rcases hS with hS | hS
  · exact .inl ⟨⟨by simp[Rg.nil],by simp[Rg.nil]⟩,hS⟩
  · exact .inr hS,G7.ints ns⟩
 exact⟨.nil,[.lst (ns.map Dt.int)],[],.bl true,h',M7.nil,.cons R .nil,rfl,e,fun ρ' v H' R' S' E'=>L7.mp R'⟩
structure zC(P:Program)(w:World)(K:Frag)(mg:Str->Option Value)(base:Heap)(k n:Nat)(x:Str)(F:jB):Prop where
 ex:∃f fd ps,l8 P w K mg base TD k f fd ps (NH K n F)/\mg x=some (.ref f)/\keepIn K (.ref f)=true/\Binds K fd ps []
 len:∀ds h r,F ds h=some r->ds.length=n
structure MB(K:Frag)(mg:Str->Option Value)(x:Str)(st:Stmt)(ps:List Str):Prop where
 ex:∃f fd,Z9 K x x st f fd/\mg x=some (.ref f)/\Binds K fd ps []
section
variable{P:Program}{w:World}{K:Frag}{mg:Str->Option Value}{base:Heap}
theorem XZ{x qual:Str}{st:Stmt}{f:Addr}{fd:FuncData}{N ps:List Str}{k n m:Nat}{body:RS}(F:Z9 K x qual st f fd)(S:ZA N ps (oA st))(hn:ps.length=n)(hm:N.length=m)
 (hb:∀(cdv:Value)(A:Around)(outer:List Env)(s:Shared)(H:Hp)(E:XK),Z7 k (A.deeper (envOfC qual (oA st) s.heap.objs.size f cdv))->
  yG (iC TD P w K mg base N qual (oA st) f cdv A outer s H E).Y9 (fC st) body):l8 P w K mg base TD (k+1) f fd ps (NH K n (GB n m body)):=by
 with_unfolding_all subst hn hm;exact FK F S hb
theorem YB{x:Str}{st:Stmt}{N ps:List Str}{k n m:Nat}{body:RS}(D:MB K mg x st ps)(S:ZA N ps (oA st))(hn:ps.length=n)(hm:N.length=m)
 (hb:∀(f:Addr)(cdv:Value)(A:Around)(outer:List Env)(s:Shared)(H:Hp)(E:XK),Z7 k (A.deeper (envOfC x (oA st) s.heap.objs.size f cdv))->
  yG (iC TD P w K mg base N x (oA st) f cdv A outer s H E).Y9 (fC st) body):zC P w K mg base (k+1) n x (GB n m body):=by
 with_unfolding_all subst hn hm;obtain⟨f,fd,hF,hm,hB⟩:=D.ex;exact⟨⟨f,fd,ps,FK hF S fun cdv A outer s H E hr=>hb f cdv A outer s H E hr,hm,hF.kp,hB⟩,fun ds h r e=>oK e⟩
end
section
variable{X:Cx}{k k' n:Nat}{F:jB}{x:Str}{p pos:Pos}{e:Expr}{es:List Expr}{g:RA}
theorem VE (c:zC X.prog X.w X.K X.mg X.base k n x F) (hr:Z7 k' X.A) (hk:k<=k') (hg:Gl X x) (ha:AM X (e::es) g) (hdb:(x==("__debug__" :Str))=false:=by decide)
 (he:eB e=true:=by rfl) (hpl:es.all eB=true:=by rfl) :
 EM X (.Call (.Name x p) (e::es) [] pos) (BA F [] g):=by
 with_unfolding_all obtain⟨f,fd,ps,h1,h2,h3,h4⟩:=c.ex;exact RW h1 (hr.mono hk) hg h2 h3 h4 .nil (fun _ _=>.nil) ha (fun F' e ds h r q=>c.len ds h r (e ▸ q)) hdb he hpl
end
theorem gX{l:PySem.W.OpenLaw}{q:Program}{loose:List Str}{XP:(Str->Option Value)->Heap->Prop}{YP:World->Heap->Prop}{d:DefRec}{K:Params->Frag}{F:jB}{k:Nat}{x:Str}(hn:l.most=some 63)(hdf:d.params.defaults=[])(hr:Z7 k callerA)
 (hY:∀(w:World)(h:Heap),YP w h->(K w.params).In h)
 (hF:∀(w:World)(mg:Str->Option Value)(fa:Addr)(h:Heap),(K w.params).In h->h.Ns mainGlobals mg->mg d.name=some (.ref fa)->
  ∃fd:FuncData,(∀(s:Shared)(u:Value),BindsTo s fd ⟨[u],[]⟩ [(x,u)])/\∀base:Heap,(K w.params).In base->base.Ns mainGlobals mg->l8 l.prog w (K w.params) mg base TD k fa fd [x] (NH (K w.params) 1 F))
 (h:∀ns:List Int,ns.length<=63->∃h',F [.lst (ns.map Dt.int)] []=some (.bl true,h')):PySem.W.WalkO q loose XP YP l.row.toRowW d [] (fun f vs=>PySem.call f vs):=
 L2.F1 (n:=63) (k:=k) (x:=x) (CX:=fun _=>TD) (sp:=fun w=>NH (K w.params) 1 F) hn (by decide) hdf hr hY hF (fun w H a ns hl _ hS=>M0 h H a ns hl hS) fun _ _ _ _ _ z=>z
end SM
namespace L2
section
variable{X:Cx}
theorem vR:∀{bs:List Bool}{us:List Value},Vals (bs.map V.bl) us->∀(i:Nat)(v:Value),us[i]?=some v->v=.bool (bs.getD i false)
 | [],us,r,i,v,e=>by cases r;simp at e
 | b::bs,us,r,i,v,e=>by
  cases r with
  | cons r rr=>
   cases i with
   | zero=>simp at e;subst e;exact r
   | succ i=>simpa using vR rr i v (by simpa using e)
theorem rX(bs:List Bool):(List.range bs.length).all (fun i=>bs.getD i false)=bs.all id:=by
 induction bs with
 | nil=>rfl
 | cons b bs ih=>
  rw[Fy,range_succ_eq_map,all_cons,all_map,all_cons];have:((fun i=>(b::bs).getD i false) ∘ Nat.succ)=fun i=>bs.getD i false:=by
   funext i
   simp
  rw[this,ih];simp
theorem tV (hc:X.calm=true):t8 X (.builtin "all") (fun xs H Q=>∃(p:Addr) (bs:List Bool),xs=[.ref p]/\N8 X.K H p (bs.map V.bl)/\Q (.bl (bs.all id)) H):=by
 intro pins s σ H xs us Q I r h;obtain⟨p,bs,rfl,hq,q⟩:=h;obtain⟨u,rfl,rx⟩:=BF r;cases rx;obtain⟨its,r',pl,hz⟩:=I.list hq;have hlt:p<s.heap.objs.size:=by obtain⟨_,e,_⟩:=pl.isList;exact Heap.lt_size e
 refine call_all_walk (wpAny_pyIter_list pl.isList ?_);refine⟨_,_,_,_,_,_,fun i=>bs.getD i false,rfl,Walks.list (A:=X.A.in1) (I.ok.hd hc) s.heap.objs.size p (Nat.ne_of_lt hlt) its.toArray,⟨⟨_,Heap.get?_push_size _ rfl,rfl,rfl⟩,pl.isList.push _⟩,?_,fun h' tk k=>?_⟩
 · intro i v s2 Q2 E2 hv hQ;have e:=vR r' i v (by simpa using hv);subst e;exact wpAny_truthy_bool hQ
 · have hl:=r'.length;have e:(List.range its.toArray.size).all (fun i=>bs.getD i false)=bs.all id:=by rw[show its.toArray.size=bs.length by simp at hl ⊢;omega,rX]
   rw[e];exact⟨.bl (bs.all id),H,I.kept (old_kept k),rfl,q⟩
end
end L2
namespace SM
noncomputable def rD:List Dt->Option (List Bool)
 | []=>some []
 | .bl b::ds=>(rD ds).map fun bs=>b::bs
 | _::_=>none
theorem uN:∀{ds:List Dt}{bs:List Bool},rD ds=some bs->ds=bs.map Dt.bl
 | [],bs,e=>by simp only[rD]at e;cases e;rfl
 | d::ds,bs,e=>by
  cases d with
  | bl b=>
   simp only[rD]at e;cases q:rD ds with
   | none=>rw[q]at e;cases e
   | some cs=>rw[q]at e;cases e;rw[uN q];rfl
  | _=>simp only[rD]at e<;>cases e
theorem G7.Fj{K:Frag}{H:Hp}{ρ:Rg}:∀{bs:List Bool}{vs:List V},G7 K H ρ (bs.map Dt.bl) vs->vs=bs.map V.bl
 | [],_,h=>h.o8
 | n::ns,_,h=>by obtain⟨v,r,rfl,h1,h2⟩:=G7.V7 h;simp only[J7]at h1;rw[h1,G7.Fj h2];rfl
def FH:Dt->HI->Option (Dt×HI):=fun d h=>(VA h d).bind fun xs=>(rD xs).map fun bs=>(.bl (bs.all id),h)
section
variable{X:Cx}{e:Expr}{f:RE}{p pos:Pos}
theorem OZ (hc:X.calm=true) (hg:Gl X "all") (hm:X.mg "all" =none) (ha:EM X e f) (hs:eB e=true:=by rfl):EM X (.Call (.Name "all" p) [e] [] pos) (cC FH f):=by
 with_unfolding_all
  exact bS (tV hc) (fun ρ h d v d' h' H Q S R e k=>by
   obtain⟨xs,e1,e⟩:=eA e;cases q:rD xs with
   | none=>rw[q]at e;cases e
   | some ns=>
    rw[q]at e;cases e;obtain⟨a,vs,z,sq,r⟩:=XE S R e1;rw[uN q]at r;rw[r.Fj]at sq;exact⟨a,ns,by rw[z],sq,k ρ _ H (L7.mpr rfl) S (Ext.refl _ _)⟩) hg hm PyProof.Rows.boot_all ha (hs:=hs)
end
noncomputable def BE:Nat->List Dt->List Dt
 | _,[]=>[]
 | k,x::xs=>.tup [.int (k:Int),x]::BE (k+1) xs
def HK(f:RE):RI:=fun l h=>(f l h).bind fun r=>match r.1 with | .lst xs=>some (.vals (BE 0 xs),r.2) | _=>none
noncomputable def pG(i j:Nat):RG:=fun d l=>match d with
 | .tup [a,b]=>some ((l.set i (some a)).set j (some b))
 | _=>none
end SM
namespace L2
section
variable{X:Cx}{pins:List (Addr×Obj)}{σ:List (Option V)}{H:Hp}{s:Shared}{h':Heap}
theorem Inv.Yj{t':Nat}{e it p:Addr}{xs:List V}(I:Inv X pins σ H s)(k:∀b o,b≠e->b≠it->s.heap.get? b=some o->h'.get? b=some o)(fe:QD X pins H e)(fi:QD X pins H it)(hp:s.heap.objs.size<=p)
 (new:Y7 X.prog X.w (DA H p (.tup xs)) h' p (.tup xs)):Inv X pins σ (DA H p (.tup xs)) { s with heap:=h',toks:=t' }:=by
 obtain⟨e0,e1,e2,e3,e4,e5⟩:=fe;obtain⟨i0,i1,i2,i3,i4,i5⟩:=fi;have hn:H p=none:=I.hok.fresh hp;have ne:∀b u,H b=some u->b≠e:=fun b u q z=>by rw[z,e0]at q;cases q
 have ni:∀b u,H b=some u->b≠it:=fun b u q z=>by rw[z,i0]at q;cases q
 have nc:∀{b},b ∉ [e,it]->b≠e/\b≠it:=fun hc=>⟨fun z=>hc (by simp[z]),fun z=>hc (by simp[z])⟩
 refine I.step (g':=s.gens) (d':=s.drawn) (ch:=[e,it]) (fun b hb=>?_) (fun b o _ _ hc q _=>k b o (nc hc).1 (nc hc).2 q) (fun b o _ _ hc q _=>⟨o.slots,k b o (nc hc).1 (nc hc).2 q⟩)
  (fun b o _ q n=>by rw[CA (Nat.ne_of_lt (Nat.lt_of_lt_of_le (Heap.lt_size q) hp))];exact n)
  (fun b o hc q=>⟨o,k b o (nc hc).1 (nc hc).2 q⟩) (fun b ys q=>by rw[CA (lC q hn)];exact q) (fun b o u q=>by rw[CA (lC q hn)];exact q)
  (fun b ps q=>⟨#[],by rw[CA (lC q hn),q];simp⟩) (fun m hm=>?_) (fun b u q=>?_) I.bare
 · have z:b=e\/b=it:=by simpa using hb
   rcases z with rfl | rfl
   · exact⟨e3,e1,e4,e5⟩
   · exact⟨i3,i1,i4,i5⟩
 · obtain⟨o,es,ep,ho,r⟩:=hm;exact⟨o,es,ep,k _ o (Ne.symm e1) (Ne.symm i1) ho,r⟩
 · by_cases hb:b=p
   · subst hb;rw[AB]at q;cases q;exact new
   · rw[CA hb]at q;refine(I.hok b u q).stay (fun c v hc q'=>?_) (fun c q=>by rw[CA (lC q hn)];exact q) fun c ys q=>by rw[CA (lC q hn)];exact q
     rcases hc with z | z
     · subst z;exact k c v (ne c u q) (ni c u q) q'
     · exact k c v (ne c _ z) (ni c _ z) q'
theorem Inv.Qj{t':Nat}{e it:Addr}(I:Inv X pins σ H s)(k:∀b o,b≠e->b≠it->s.heap.get? b=some o->h'.get? b=some o)(fe:QD X pins H e)(fi:QD X pins H it):Inv X pins σ H { s with heap:=h',toks:=t' }:=by
 obtain⟨e0,e1,e2,e3,e4,e5⟩:=fe;obtain⟨i0,i1,i2,i3,i4,i5⟩:=fi;have ne:∀b u,H b=some u->b≠e:=fun b u q z=>by rw[z,e0]at q;cases q
 have ni:∀b u,H b=some u->b≠it:=fun b u q z=>by rw[z,i0]at q;cases q
 have nc:∀{b},b ∉ [e,it]->b≠e/\b≠it:=fun hc=>⟨fun z=>hc (by simp[z]),fun z=>hc (by simp[z])⟩
 refine I.step (g':=s.gens) (d':=s.drawn) (ch:=[e,it]) (fun b hb=>?_) (fun b o _ _ hc q _=>k b o (nc hc).1 (nc hc).2 q) (fun b o _ _ hc q _=>⟨o.slots,k b o (nc hc).1 (nc hc).2 q⟩)
  (fun b o _ q n=>n) (fun b o hc q=>⟨o,k b o (nc hc).1 (nc hc).2 q⟩) (fun b ys q=>q) (fun b o u q=>q)
  (fun b ps q=>⟨#[],by rw[q];simp⟩) (fun m hm=>?_) (fun b u q=>?_) I.bare
 · have z:b=e\/b=it:=by simpa using hb
   rcases z with rfl | rfl
   · exact⟨e3,e1,e4,e5⟩
   · exact⟨i3,i1,i4,i5⟩
 · obtain⟨o,es,ep,ho,r⟩:=hm;exact⟨o,es,ep,k _ o (Ne.symm e1) (Ne.symm i1) ho,r⟩
 · refine(I.hok b u q).stay (fun c v hc q'=>?_) (fun c q=>q) fun c ys q=>q
   rcases hc with z | z
   · subst z;exact k c v (ne c u q) (ni c u q) q'
   · exact k c v (ne c _ z) (ni c _ z) q'
end
def x6(K:Frag)(a:Addr):It:=
 ⟨fun i H=>∃xs x,N8 K H a xs/\xs[i]?=some x,fun i H x H'=>∃p y,H p=none/\x=.ref p/\(∀xs,N8 K H a xs->xs[i]?=some y)/\H'=DA H p (.tup [.int (i:Nat),y]),fun i H=>∃xs,N8 K H a xs/\xs.length<=i⟩
theorem nX{P:Program}{w:World}{K:Frag}{elts:List Expr}{x1}{pos:Pos}(a e it:Addr)(hne:e≠it):xG P w K (.Tuple elts x1 pos) (x6 K a) [e,it] e (fun i h=>(∃old,IsEnum h e it i old)/\h.IsListIter it a i) where
 mem:=by simp
 obj:=fun i h st b hb=>by
  obtain⟨⟨old,s1⟩,s2⟩:=st;have z:b=e\/b=it:=by simpa using hb
  rcases z with rfl | rfl
  · exact⟨_,s1,fun v z=>by cases z⟩
  · obtain⟨o,e,c,d⟩:=s2;exact⟨o,e,fun v z=>by rw[d]at z;cases z⟩
 keep:=fun i h h' st k=>by obtain⟨⟨old,s1⟩,s2⟩:=st;exact⟨⟨old,k e (by simp) _ s1⟩,s2.at fun o e=>k it (by simp) o e⟩
 item:=by
  intro X hP hw hK hc i pins s σ H E I hf st hg;subst hP hw hK;obtain⟨⟨old,s1⟩,s2⟩:=st;obtain⟨xs,x,hq,hx⟩:=hg;obtain⟨its,rv,p,hz⟩:=I.list hq;obtain⟨u,hu,ru⟩:=rv.get hx;have fe:=hf e (by simp);have fi:=hf it (by simp);refine wpAny_pyNext_enum_item s1 s2 p.isList (x:=u) (by simpa using hu) hne fun h' out it' tup sz kp=>?_
  refine⟨_,rfl,wpAny_letOwnedTupleGo_enum out fun h2 he2 sb=>?_⟩;have hpe:s.heap.objs.size≠e:=(Nat.ne_of_lt (Heap.lt_size s1)).symm;have hpi:s.heap.objs.size≠it:=by obtain⟨o,q,_⟩:=s2;exact(Nat.ne_of_lt (Heap.lt_size q)).symm
  have t2:h2.get? s.heap.objs.size=some { cls:=.type "tuple",data:=.seq #[.int i s.toks,u] }:=(sb.2 _ hpe).trans tup;refine⟨.ref s.heap.objs.size,DA H s.heap.objs.size (.tup [.int (i:Nat),x]),I.Yj (fun b o h1 h3 q=>(sb.2 b h1).trans (kp b o h1 h3 q)) fe fi (Xy _) ⟨by simp only[Fy,Gy];rw[sizeLine_eq];decide,[.int i s.toks,u],.cons ⟨_,rfl⟩ (.cons ru .nil),⟨_,t2,rfl,_,rfl⟩⟩,rfl,⟨_,x,I.hok.fresh (Xy _),rfl,fun ys hy=>by rw[I.D9 hy hq];exact hx,rfl⟩,⟨⟨_,he2⟩,it'.at fun o q=>(sb.2 it (Ne.symm hne)).trans q⟩,fun b hb=>?_⟩;have z:b=e\/b=it:=by simpa using hb
  rcases z with rfl | rfl
  · rw[CA (Ne.symm hpe)];exact fe.1
  · rw[CA (Ne.symm hpi)];exact fi.1
 done:=by intro X hP hw hK hc i pins s σ H E I hf st hg;subst hP hw hK;obtain⟨⟨old,s1⟩,s2⟩:=st;obtain⟨xs,hq,hx⟩:=hg;obtain⟨its,rv,p,hz⟩:=I.list hq;have hl:=rv.length;exact wpAny_pyNext_enum_end (I.ok.hd hc) s1 s2 p.isList (by simp;omega) fun h' eb=>⟨rfl,I.Qj (t':=s.toks) (fun b o _ h3 q=>eb b o h3 q) (hf e (by simp)) (hf it (by simp))⟩
 self:=fun _ _ _ _ _ st h=>by obtain⟨⟨old,s1⟩,_⟩:=st;exact wpAny_pyIter_enum s1 h
section
variable{X:Cx}
def XS(K:Frag)(ta:TA):TI:=fun σ H R=>ta σ H fun vs H1=>∃a,vs=[.ref a]/\(∃xs,N8 K H1 a xs)/\R (x6 K a) H1
theorem VY {elts:List Expr} {x1} {tp:Pos} {a:Expr} {ta:TA} {p pos:Pos} (hg:Gl X "enumerate") (hm:X.mg "enumerate" =none) (ha:PA X [a] ta) (hs:starEach [a] X.env=[(false,eval a X.env)]:=by rfl) :
 PI X (.Tuple elts x1 tp) (.Call (.Name "enumerate" p) [a] [] pos) (XS X.K ta):=by
 intro pins s σ H R I h;refine Call_ (lH I hg hm boot_enumerate (PyProof.Rows.callWith_type1 (IA (ha pos pins s σ H _ I h) fun us s1 zz=>?_) hs rfl));obtain⟨vs,H1,I1,r1,q1⟩:=zz;obtain⟨b,e,⟨xs,hq⟩,q⟩:=q1;subst e;cases r1 with
 | cons r rr=>
  cases rr;cases r;obtain⟨its,rv,pl,hz⟩:=I1.list hq;refine call_enumerate_list pl.isList fun h' he hit hsz k=>?_
  have I2:Inv X pins σ H1 { s1 with heap:=h' }:=I1.kept (t':=s1.toks) k;refine wpAny_pyIter_enum he ?_;refine⟨s1.heap.objs.size+1,[s1.heap.objs.size+1,s1.heap.objs.size],_,_,H1,rfl,I2,nX b (s1.heap.objs.size+1) s1.heap.objs.size (Nat.succ_ne_self _),⟨⟨_,he⟩,hit⟩,fun c hc=>?_,q⟩;have z:c=s1.heap.objs.size+1\/c=s1.heap.objs.size:=by simpa using hc
  rcases z with rfl | rfl
  · exact I1.Aj (Nat.le_succ _) (I1.hok.fresh (Nat.le_succ _))
  · exact I1.Aj (Xy _) (I1.hok.fresh (Xy _))
end
end L2
namespace SM
theorem PP:∀(xs:List Dt)(k i:Nat),(BE k xs)[i]?=(xs[i]?).map fun x=>.tup [.int ((k+i:Nat):Int),x]
 | [],_,_=>by simp[BE]
 | x::xs,k,0=>by simp[BE]
 | x::xs,k,i+1=>by
  simp only[BE,Ey];rw[PP xs (k+1) i];have:k+1+i=k+(i+1):=by omega
  rw[this]
section
variable{X:Cx}
theorem xZ {elts:List Expr} {x1} {tp p pos:Pos} {a:Expr} {f:RE} (hg:Gl X "enumerate") (hm:X.mg "enumerate" =none) (ha:EM X a f) (hs:eB a=true:=by rfl):IM X (.Tuple elts x1 tp) (.Call (.Name "enumerate" p) [a] [] pos) (HK f):=by
 with_unfolding_all
  refine PI.imp (VY hg hm (qC ha XC (gB hs _ _)) (gB hs _ _)) fun σ H R zz=>?_
  obtain⟨ρ,l,h,s,h',S,L,e,k⟩:=zz;obtain⟨⟨d1,h2⟩,e1,e⟩:=eA e;refine⟨ρ,l,h,d1,h2,S,L,e1,fun ρ1 v H1 R1 S1 E1=>?_⟩;cases d1 with
  | lst xs=>
   cases e;obtain⟨b,ws,rfl,q,r⟩:=O7.mp R1;refine⟨b,rfl,⟨ws,q.sq⟩,k ρ1 _ H1 (fun H2 ρ2 h2 E2 S2 i=>?_) S1 E1⟩;have q2:=q.same E2;have r2:=G7.same E2 _ r;simp only[Src.at,PP,Nat.zero_add];cases ei:xs[i]? with
   | none=>refine⟨ws,q2.sq,?_⟩;rw[r.length];exact getElem?_eq_none_iff.mp ei
   | some d=>obtain⟨v,g1,g2⟩:=r2.get ei;refine⟨⟨ws,v,q2.sq,g1⟩,fun u H3 y=>?_⟩;obtain⟨p0,y0,hp,rfl,gy,rfl⟩:=y;have g3:=gy ws q2.sq;rw[g1]at g3;cases g3;exact⟨HR S2 (.cons (K7.mpr rfl) (.cons g2 .nil)) hp,Ext.fresh hp,S2.fresh hp⟩
  | _=>cases e
theorem TR(i j:Nat){x y:Str}{px py pos:Pos}{x1}(hc:X.calm=true)(hN:X.N.Nodup)(hi:X.N[i]?=some x:=by rfl)(hj:X.N[j]?=some y:=by rfl)
 (hx:YI X.env.scope x:=by first | exact Or.inl rfl | exact Or.inr rfl) (hy:YI X.env.scope y:=by first | exact Or.inl rfl | exact Or.inr rfl)
 (hf:X.fn x=true\/X.env.scope.names.lookup x=some .local:=by first | exact .inl rfl | exact .inr rfl | assumption)
 (hf':X.fn y=true\/X.env.scope.names.lookup y=some .local:=by first | exact .inl rfl | exact .inr rfl | assumption):GM X (.Tuple [.Name x px,.Name y py] x1 pos) (pG i j):=by
 with_unfolding_all
  refine PG.imp (v4 (n:=2) hc (wQ (TN hN hi hx hf) (wQ (TN hN hj hy hf') UY))) fun v σ H Q zz=>?_
  obtain⟨ρ,l,h,d,l',S,L,R,e,k⟩:=zz;unfold pG at e;split at e
  · cases e;obtain⟨a,vs,rfl,q,r⟩:=U7.mp R;obtain⟨v1,r1,rfl,R1,r⟩:=r.V7;obtain⟨v2,r2,rfl,R2,r⟩:=r.V7;cases r.o8;exact⟨a,[v1,v2],rfl,q.sq,rfl,v1,[v2],rfl,v2,[],rfl,rfl,k _ ((L.set i R1).set j R2)⟩
  · cases e
end
def kI(fe fo fi:RE):RS:=fun l h=>(fe l h).bind fun v=>(fo l v.2).bind fun o=>(fi l o.2).bind fun i=>match o.1,i.1 with
 | .ref n,.int k=>match i.2[n]? with
  | some (.lst xs)=>(DG xs.length k).bind fun j=>some (.nx l (i.2.set n (.lst (xs.set j v.1))))
  | _=>none
 | _,_=>none
noncomputable def fJ(g:RG)(fe:RE):RS:=fun l h=>(fe l h).bind fun v=>(g v.1 l).bind fun l'=>some (.nx l' v.2)
noncomputable def lK(fo fa:RE):RE:=fun l h=>(fo l h).bind fun r=>match r.1 with
 | .ref n=>match r.2[n]? with
  | some (.lst _)=>(fa l r.2).bind fun q=>match q.1 with
   | .ref m=>match q.2[n]?,q.2[m]? with
    | some (.lst xs),some (.lst ys)=>if xs.length+ys.length<=sizeLine then some (.non,q.2.set n (.lst (xs++ys)))else none
    | _,_=>none
   | _=>none
  | _=>none
 | _=>none
end SM
namespace L2
section
variable{X:Cx}
end
section
variable{X:Cx}{pins:List (Addr×Obj)}{σ:List (Option V)}{H:Hp}{s:Shared}{h':Heap}
end
section
variable{X:Cx}
end
end L2
namespace SM
section
variable{X:Cx}{e o i a b:Expr}{f g fe fo fi fa fb:RE}{p pos pos':Pos}
theorem iR(he:EM X e fe)(ho:EM X o fo)(hi:EM X i fi)
 (hs:swapsWithSole [.Subscript o i pos'] e pos.line X.env=pure false:=by rfl) (hw:swappedStores [.Subscript o i pos'] e X.env=pure none:=by rfl) (h1:(assignEach [.Subscript o i pos'] X.env).map (·.2)=[assign (.Subscript o i pos') X.env]:=by rfl)
 (ha:∀v,assign (.Subscript o i pos') X.env v=(do
  let ov <- holding [v] (eval o X.env)
  let iv <- holding [v,ov] (eval i X.env)
  standAt pos'
  holding [v,ov,iv] (setItem ov iv v)
  release [v,ov,iv] []):=by intro _;rfl):ZM X (.Assign [.Subscript o i pos'] e pos) (kI fe fo fi):=by
 with_unfolding_all
  exact PS.imp (zR he (o4 ho hi rY ha) hs hw h1) fun D σ H zz=>by
   obtain⟨ρ,l,h,r,S,L,e,k⟩:=zz;obtain⟨⟨v,hv⟩,e1,e⟩:=eA e;obtain⟨⟨d,hd⟩,e2,e⟩:=eA e;obtain⟨⟨j,hj⟩,e3,e⟩:=eA e;refine⟨ρ,l,h,v,hv,S,L,e1,fun ρ1 u H1 R1 S1 E1=>⟨ρ1,l,hv,d,hd,S1,L.ext E1,e2,fun ρ2 y H2 R2 S2 E2=>⟨ρ2,l,hd,j,hj,S2,L.ext (E1.trans E2),e3,fun ρ3 z H3 R3 S3 E3=>?_⟩⟩⟩;cases d with
   | ref n=>
    cases j with
    | int kk=>
     dsimp only at e;split at e
     · rename_i xs q;obtain⟨jj,e4,e⟩:=eA e;cases e;obtain⟨aa,zz,ha⟩:=R7.mp (J7.ext E3 _ R2);obtain⟨vs,g1,g2⟩:=S3.lst ha q;have hm:=mem_of_getElem? ha;refine⟨aa,vs,kk,jj,zz,K7.mp R3,g1,by rw[g2.length];exact e4,?_⟩;exact k ρ3 σ _ (S3.write ha (EG g1) ⟨_,AB,(g2.set jj (J7.ext (E2.trans E3) _ R1)).ext (Ext.write hm (EG g1))⟩) (L.ext (E1.trans (E2.trans (E3.trans (Ext.write hm (EG g1)))))) (E1.trans (E2.trans (E3.trans (Ext.write hm (EG g1)))))
     · cases e
    | _=>cases e
   | _=>cases e
theorem G1{tg:Expr}{t:RG}(he:EM X e fe)(hg:GM X tg t)(hs:swapsWithSole [tg] e pos.line X.env=pure false:=by rfl)(hw:swappedStores [tg] e X.env=pure none:=by rfl)
 (h1:(assignEach [tg] X.env).map (·.2)=[assign tg X.env]:=by rfl):ZM X (.Assign [tg] e pos) (fJ t fe):=by
 with_unfolding_all exact PS.imp (zR he hg hs hw h1) fun D σ H zz=>by obtain⟨ρ,l,h,r,S,L,e,k⟩:=zz;obtain⟨⟨v,hv⟩,e1,e⟩:=eA e;obtain⟨l',e2,e⟩:=eA e;cases e;exact⟨ρ,l,h,v,hv,S,L,e1,fun ρ1 u H1 R1 S1 E1=>⟨ρ1,l,hv,v,l',S1,L.ext E1,R1,e2,fun σ' L'=>k ρ1 σ' H1 S1 L' E1⟩⟩
end
section
variable{K:Frag}{H:Hp}{ρ:Rg}{h:HI}
theorem M7.bare(S:M7 K ρ h H):M7 K ⟨[],ρ.z⟩ [] H:=⟨nodup_nil,rfl,fun _ _ _ e=>by simp at e,fun a ha=>⟨by simp,(S.zt a ha).2⟩⟩
theorem TupAt.bare{a:Addr}{vs:List V}(t:TupAt K H ρ a vs):TupAt K H ⟨[],ρ.z⟩ a vs:=by
 rcases t with⟨n,t⟩ | t
 · exact .inl ⟨⟨by simp,n.2⟩,t⟩
 · exact .inr t
theorem LstAt.bare{a:Addr}{vs:List V}(t:LstAt K H ρ a vs):LstAt K H ⟨[],ρ.z⟩ a vs:=by
 rcases t with⟨n,t⟩ | t
 · exact .inl ⟨⟨by simp,n.2⟩,t⟩
 · exact .inr t
end
section
variable{X:Cx}
end
section
variable{X:Cx}{e o i a b:Expr}{f g fe fo fi fa fb:RE}{p pos pos' apos cpos:Pos}
theorem mV (ho:EM X a fa) (hb:EM X b fb) (hbase:attributeBase a "extend" X.env (eval a X.env)=eval a X.env:=by rfl)
 (hline:(apos.endLine==cpos.line)=true:=by rfl) (hs:eB b=true:=by rfl) :
 EM X (.Call (.Attribute a "extend" apos) [b] [] cpos) (lK fa fb):=by
 with_unfolding_all
  exact PE.imp (KI PySem.F.plainAttrs_list PySem.F.slot_list_extend PySem.F.type_list_extend WV ho (qC hb XC (gB hs _ _)) hbase (aI hs) hline (gB hs _ _)) fun σ H Q zz=>by
   obtain⟨ρ,l,h,d,h',S,L,e,k⟩:=zz;obtain⟨⟨d1,h1⟩,e1,e⟩:=eA e;refine⟨ρ,l,h,d1,h1,S,L,e1,fun ρ1 v H1 R1 S1 E1=>?_⟩;cases d1 with
   | ref n=>
    dsimp only at e;split at e
    · rename_i xs0 q0;obtain⟨⟨d2,h2⟩,e2,e⟩:=eA e;refine⟨FR S1 R1 q0,ρ1,l,h1,d2,h2,S1,L.ext E1,e2,fun ρ2 y H2 R2 S2 E2=>?_⟩;dsimp only at e;cases d2 with
      | ref m=>
       dsimp only at e;split at e
       · rename_i xs ys q1 q2;obtain⟨hz,e⟩:=gE e;cases e;obtain⟨a,z,ha⟩:=R7.mp R1;subst z;obtain⟨a2,z2,ha2'⟩:=R7.mp R2;subst z2;have ha2:=E2.get ha;obtain⟨vs,g1,g2⟩:=S2.lst ha2 q1;obtain⟨ws,g3,g4⟩:=S2.lst ha2' q2;have hm:=mem_of_getElem? ha2;refine⟨a,a2,vs,ws,rfl,rfl,g1,g3,by rw[g2.length,g4.length];exact hz,k ρ2 _ _ (T7.mpr rfl) (S2.write ha2 (EG g1) ⟨_,AB,?_⟩) (E1.trans (E2.trans (Ext.write hm (EG g1))))⟩;exact(g2.append g4).ext (Ext.write hm (EG g1))
       · cases e
      | _=>cases e
    · cases e
   | _=>cases e
end
end SM
namespace L2
section
variable{X:Cx}
end
end L2
namespace SM
section
variable{X:Cx}{e o i a b:Expr}{f g fe fo fi fa fb:RE}{p pos pos' apos cpos:Pos}
end
end SM
namespace L2
section
variable{κ:Type}[DecidableEq κ]
noncomputable def QC(kvs:List (κ×V))(k:κ):Option V:=(kvs.find? fun kv=>decide (kv.1=k)).map (·.2)
noncomputable def CD(kvs:List (κ×V))(k:κ)(v:V):List (κ×V):=
 if(kvs.any fun kv=>decide (kv.1=k))=true then kvs.map (fun kv=>if kv.1=k then(kv.1,v)else kv)else kvs++[(k,v)]
noncomputable def aF(kvs:List (κ×V))(k:κ):List (κ×V):=kvs.filter fun kv=>decide (kv.1≠k)
theorem TJ{p:κ×V}{r:List (κ×V)}{k:κ}(e:p.1=k):QC (p::r) k=some p.2:=by simp[QC,find?_cons,e]
theorem SJ{p:κ×V}{r:List (κ×V)}{k:κ}(e:¬p.1=k):QC (p::r) k=QC r k:=by simp[QC,find?_cons,e]
theorem qQ(k:κ):∀kvs:List (κ×V),(kvs.any fun kv=>decide (kv.1=k))=(QC kvs k).isSome
 | []=>rfl
 | p::r=>by
  rw[any_cons];by_cases e:p.1=k
  · simp only[TJ e,decide_eq_true e,Bool.true_or,Option.isSome_some]
  · rw[SJ e,decide_eq_false e,Bool.false_or];exact qQ k r
theorem BP(kvs:List (κ×V))(k:κ)(v:V):(CD kvs k v).length<=kvs.length+1:=by
 unfold CD;split
 · rw[length_map];omega
 · rw[length_append,Fy,Gy];omega
theorem M8.A8{o:Option V}{u:Option Value}(r:M8 o u):o.isSome=u.isSome:=by
 cases o with
 | none=>cases u with
  | none=>rfl
  | some _=>exact(show False from r).elim
 | some _=>cases u with
  | none=>exact(show False from r).elim
  | some _=>rfl
theorem M8.getD{o:Option V}{u:Option Value}{d:V}{d':Value}(r:M8 o u)(rd:RelV d d'):RelV (o.getD d) (u.getD d'):=by
 cases o with
 | none=>cases u with
  | none=>exact rd
  | some _=>exact(show False from r).elim
 | some _=>cases u with
  | none=>exact(show False from r).elim
  | some _=>exact r
theorem KV.val{kvs:List (κ×V)}{vs:List (κ×Value)}(r:KV kvs vs)(k:κ):M8 (QC kvs k) (valueAt vs k):=by
 unfold KV at r
 induction r with
 | nil=>exact True.intro
 | @cons p q ps qs h t ih=>
  obtain⟨h1,h2⟩:=h;by_cases e:p.1=k
  · have e':q.1=k:=h1.symm.trans e;have b:valueAt (q::qs) k=some q.2:=by simp[valueAt,find?_cons,e']
    rw[TJ e,b];exact h2
  · have e':¬q.1=k:=fun z=>e (h1.trans z)
    have b:valueAt (q::qs) k=valueAt qs k:=by simp[valueAt,find?_cons,e']
    rw[SJ e,b];exact ih
theorem KV.any{kvs:List (κ×V)}{vs:List (κ×Value)}(r:KV kvs vs)(k:κ):(kvs.any fun kv=>decide (kv.1=k))=vs.any fun kv=>decide (kv.1=k):=by
 unfold KV at r
 induction r with
 | nil=>rfl
 | cons h t ih=>rw[any_cons,any_cons,ih,h.1]
theorem KV.repl{kvs:List (κ×V)}{vs:List (κ×Value)}(r:KV kvs vs)(k:κ){y:V}{u:Value}(ry:RelV y u) :
 KV (kvs.map fun kv=>if kv.1=k then(kv.1,y)else kv) (vs.map fun kv=>if kv.1=k then(kv.1,u)else kv):=by
 unfold KV at r ⊢
 induction r with
 | nil=>exact .nil
 | @cons p q ps qs h t ih=>
  rw[Hy,Hy];refine .cons ?_ ih;obtain⟨h1,h2⟩:=h;by_cases e:p.1=k
  · rw[if_pos e,if_pos (h1.symm.trans e)];exact⟨h1,ry⟩
  · rw[if_neg e,if_neg (fun z=>e (h1.trans z))];exact⟨h1,h2⟩
theorem KV.put{kvs:List (κ×V)}{vs:List (κ×Value)}(r:KV kvs vs)(k:κ){y:V}{u:Value}(ry:RelV y u):KV (CD kvs k y) (stored vs k u):=by
 unfold CD stored;rw[r.any k];by_cases e:(vs.any fun kv=>decide (kv.1=k))=true
 · rw[if_pos e,if_pos e];exact r.repl k ry
 · rw[if_neg e,if_neg e];exact Paired.snoc r ⟨rfl,ry⟩
theorem KV.drop{kvs:List (κ×V)}{vs:List (κ×Value)}(r:KV kvs vs)(k:κ):KV (aF kvs k) (without vs k):=by
 unfold KV at r ⊢;unfold aF without
 induction r with
 | nil=>exact .nil
 | @cons p q ps qs h t ih=>
  obtain⟨h1,h2⟩:=h;rw[filter_cons,filter_cons];by_cases e:p.1=k
  · have a:¬decide (p.1≠k)=true:=by simp[e]
    have b:¬decide (q.1≠k)=true:=by simp[h1.symm.trans e]
    rw[if_neg a,if_neg b];exact ih
  · have e':¬q.1=k:=fun z=>e (h1.trans z)
    have a:decide (p.1≠k)=true:=by simp[e]
    have b:decide (q.1≠k)=true:=by simp[e']
    rw[if_pos a,if_pos b];exact .cons ⟨h1,h2⟩ ih
theorem KV.keys{kvs:List (κ×V)}{vs:List (κ×Value)}(r:KV kvs vs):kvs.map (·.1)=vs.map (·.1):=by
 unfold KV at r
 induction r with
 | nil=>rfl
 | cons h t ih=>rw[Hy,Hy,ih,h.1]
theorem KV.length{kvs:List (κ×V)}{vs:List (κ×Value)}(r:KV kvs vs):kvs.length=vs.length:=Paired.length r
theorem EQ(kvs:List (κ×V))(k:κ):(aF kvs k).length<=kvs.length:=length_filter_le _ _
end
theorem rG{P:Program}{w:World}{k:qA}{u:Value}(r:RelV (kV k) u):(LB P w).is k u=true:=by
 cases k with
 | inl i=>obtain⟨t,e⟩:=(show ∃t,u=Value.int i t from r);subst e;exact XU P w i t
 | inr x=>obtain⟨t,e⟩:=(show ∃t,u=Value.str x t from r);subst e;exact YU P w x t
theorem WP{P:Program}{w:World}:∀{ks:List qA}{us:List Value},Vals (ks.map kV) us->ItemsAre (LB P w) ks us
 | [],_,r=>by rw[Jy]at r;cases r;exact .nil
 | k::ks,_,r=>by
  rw[Hy]at r;cases r with
  | cons h t=>exact .cons (rG h) (WP t)
abbrev KT(H:Hp):List (List qA×V)->List (List qA×Addr×Value)->Prop:=Paired fun p q=>p.1=q.1/\H q.2.1=some (.tup (p.1.map kV))/\RelV p.2 q.2.2
theorem KT.val{H:Hp}{kvs:List (List qA×V)}{xs:List (List qA×Addr×Value)}(r:KT H kvs xs)(k:List qA):M8 (QC kvs k) ((atKey xs k).map (·.2)):=by
 induction r with
 | nil=>exact True.intro
 | @cons p q ps qs h t ih=>
  obtain⟨h1,_,h2⟩:=h;by_cases e:p.1=k
  · have e':q.1=k:=h1.symm.trans e;have b:atKey (q::qs) k=some q.2:=by simp[atKey,find?_cons,e']
    rw[TJ e,b];exact h2
  · have e':¬q.1=k:=fun z=>e (h1.trans z)
    have b:atKey (q::qs) k=atKey qs k:=by simp[atKey,find?_cons,e']
    rw[SJ e,b];exact ih
theorem KT.repl{H:Hp}{kvs:List (List qA×V)}{xs:List (List qA×Addr×Value)}(r:KT H kvs xs)(k:List qA){y:V}{u:Value}(ry:RelV y u) :
 KT H (kvs.map fun kv=>if kv.1=k then(kv.1,y)else kv) (xs.map (putAt k u)):=by
 induction r with
 | nil=>exact .nil
 | @cons p q ps qs h t ih=>
  rw[Hy,Hy];refine .cons ?_ ih;obtain⟨h1,h2,h3⟩:=h;unfold putAt;by_cases e:p.1=k
  · rw[if_pos e,if_pos (h1.symm.trans e)];exact⟨h1,h2,ry⟩
  · rw[if_neg e,if_neg (fun z=>e (h1.trans z))];exact⟨h1,h2,h3⟩
theorem KT.put{H:Hp}{kvs:List (List qA×V)}{xs:List (List qA×Addr×Value)}(r:KT H kvs xs)(k:List qA){b:Addr}{y:V}{u:Value}(hb:H b=some (.tup (k.map kV)))(ry:RelV y u) :
 KT H (CD kvs k y) (storedH xs k b u):=by
 have e:(kvs.any fun kv=>decide (kv.1=k))=(atKey xs k).isSome:=by rw[qQ,(r.val k).A8,Option.isSome_map]
 unfold CD storedH;rw[e];by_cases q:(atKey xs k).isSome=true
 · rw[if_pos q,if_pos q];exact r.repl k ry
 · rw[if_neg q,if_neg q];exact Paired.snoc r ⟨rfl,hb,ry⟩
theorem KT.keeps{H H':Hp}{kvs:List (List qA×V)}{xs:List (List qA×Addr×Value)}(r:KT H kvs xs)(ht:∀b ys,H b=some (.tup ys)->H' b=some (.tup ys)):KT H' kvs xs:=
 Paired.nq r fun _ _ z=>⟨z.1,ht _ _ z.2.1,z.2.2⟩
section
variable{P:Program}{w:World}{H:Hp}{h:Heap}{a:Addr}
theorem lS{u:HO}(ok:Z8 P w H h)(e:Rd H a u):Y7 P w H h a u:=e.ok ok
theorem rH{kvs:List (qA×V)}(ok:Z8 P w H h)(e:Rd H a (.dK kvs)):kvs.length<=sizeLine/\(a==sysModules)=false/\∃vs,KV kvs vs/\h.DictOf (LB P w) a vs:=
 show Y7 P w H h a (.dK kvs)from lS ok e
theorem lO{kvs:List (qA×V)}(ok:Z8 P w H h)(e:H a=some (.dK kvs)):kvs.length<=sizeLine/\(a==sysModules)=false/\∃vs,KV kvs vs/\h.DictOf (LB P w) a vs:=rH ok (.inl e)
theorem zI{ks:List qA}(ok:Z8 P w H h)(e:H a=some (.tup (ks.map kV))):(tupleKind (LB P w)).is h ks a:=by obtain⟨_,its,r,o,h1,h2,n,h3⟩:=(show Y7 P w H h a (.tup (ks.map kV))from ok a _ e);exact⟨o,its.toArray,n,h1,h2,h3,by simpa using WP r⟩
theorem sH{kvs:List (List qA×V)}(ok:Z8 P w H h)(e:Rd H a (.dT kvs)):kvs.length<=sizeLine/\(a==sysModules)=false/\
 ∃xs,KT H kvs xs/\h.DictOfH (tupleKind (LB P w)) a xs:=by
 obtain⟨z,y,xs,r,o,es,ep,h1,h2,h3,h4,h5⟩:=(show Y7 P w H h a (.dT kvs)from lS ok e);refine⟨z,y,xs,r,o,es,ep,h1,h2,h3,h4,fun x hx=>?_,h5⟩;have all:∀{l:List (List qA×V)}{m:List (List qA×Addr×Value)},KT H l m->∀x∈m,(tupleKind (LB P w)).is h x.1 x.2.1:=by
  intro l m q
  induction q with
  | nil=>intro x hx;exact nomatch hx
  | @cons p q ps qs hq t ih=>
   intro x hx;rcases mem_cons.mp hx with e | hx
   · subst e;exact zI ok (by rw[<- hq.1];exact hq.2.1)
   · exact ih x hx
 exact all r x hx
theorem Y1{kvs:List (List qA×V)}(ok:Z8 P w H h)(e:H a=some (.dT kvs)):kvs.length<=sizeLine/\(a==sysModules)=false/\
 ∃xs,KT H kvs xs/\h.DictOfH (tupleKind (LB P w)) a xs:=sH ok (.inl e)
end
def u9(H:Hp)(a:Addr)(y:V)(r:Option V):Prop:=
 (∃kvs k,Rd H a (.dK kvs)/\y=kV k/\r=QC kvs k)\/∃kvs k b,Rd H a (.dT kvs)/\y=.ref b/\H b=some (.tup (k.map kV))/\r=QC kvs k
def yj(H:Hp)(a:Addr)(y v:V)(H':Hp):Prop:=
 (∃kvs k,H a=some (.dK kvs)/\y=kV k/\kvs.length<sizeLine/\H'=DA H a (.dK (CD kvs k v)))\/
 ∃kvs k b,H a=some (.dT kvs)/\y=.ref b/\H b=some (.tup (k.map kV))/\kvs.length<sizeLine/\H'=DA H a (.dT (CD kvs k v))
theorem u9.k{H:Hp}{a:Addr}{kvs:List (qA×V)}{k:qA}(e:H a=some (.dK kvs)):u9 H a (kV k) (QC kvs k):=.inl ⟨kvs,k,.inl e,rfl,rfl⟩
theorem yj.k{H:Hp}{a:Addr}{kvs:List (qA×V)}{k:qA}{v:V}(e:H a=some (.dK kvs))(hl:kvs.length<sizeLine):yj H a (kV k) v (DA H a (.dK (CD kvs k v))):=.inl ⟨kvs,k,e,rfl,hl,rfl⟩
section
variable{X:Cx}{pins:List (Addr×Obj)}{σ:St}{H:Hp}{s:Shared}{a:Addr}{y v:V}{u r:Value}{o:Option V}{A:Around}{E:Value->Shared->Prop}
theorem Inv.big(I:Inv X pins σ H s):sysModules<s.heap.objs.size:=by have h:mainGlobals<s.heap.objs.size:=(I.mod.glob.keeps I.bk).lt;exact Nat.lt_trans (by decide) h
theorem zV{Q:Value->Shared->Prop}(hu:A.units+1<cLine)(I:Inv X pins σ H s)(g:u9 H a y (some v))(ry:RelV y u)(h:∀w' s',Inv X pins σ H s'->RelV v w'->Q w' s') :
 wpAny (model X.prog X.w) A (getItem (.ref a) u) Q E s:=by
 rcases g with⟨kvs,k,e,ey,l⟩ | ⟨kvs,k,b,e,ey,eb,l⟩
 · subst ey;obtain⟨z,hd,vs,rel,dd⟩:=rH I.hok e;obtain⟨w',hw,N9⟩:=M8.some_of (v:=v) (o:=valueAt vs k) (by rw[l];exact rel.val k);exact wpAny_getItem_of (rG ry) dd.mapOf hw (h w' _ (I.tok _) N9)
 · subst ey;cases (show u=Value.ref b from ry);obtain⟨z,hd,xs,rel,dd⟩:=sH I.hok e;obtain⟨w',hw,N9⟩:=M8.some_of (v:=v) (o:=(atKey xs k).map (·.2)) (by rw[l];exact rel.val k);obtain⟨p,hp,hp2⟩:=Option.map_eq_some_iff.mp hw;refine wpAny_getItem_heap (tupleKind_room_in1 hu) (zI I.hok eb) dd hp ?_;rw[hp2];exact h w' _ (I.tok _) N9
theorem QS{Q:Value->Shared->Prop}(hu:A.units+1<cLine)(I:Inv X pins σ H s)(g:u9 H a y o)(ry:RelV y u)(h:∀s',Inv X pins σ H s'->Q (.bool o.isSome) s') :
 wpAny (model X.prog X.w) A (compareOp .In u (.ref a)) Q E s:=by
 rcases g with⟨kvs,k,e,ey,l⟩ | ⟨kvs,k,b,e,ey,eb,l⟩
 · subst ey;obtain⟨z,hd,vs,rel,dd⟩:=rH I.hok e;refine wpAny_in_of (rG ry) hd dd.mapOf ?_;rw[<- (rel.val k).A8,<- l];exact h _ (I.tok _)
 · subst ey;cases (show u=Value.ref b from ry);obtain⟨z,hd,xs,rel,dd⟩:=sH I.hok e;refine wpAny_in_heap (tupleKind_room_in1 hu) (zI I.hok eb) hd dd ?_;have q:=(rel.val k).A8;rw[Option.isSome_map]at q;rw[<- q,<- l];exact h _ (I.tok _)
theorem FX{Q:Value->Shared->Prop}(hu:A.units+1<cLine)(I:Inv X pins σ H s)(g:u9 H a y o)(ry:RelV y u)(h:∀s',Inv X pins σ H s'->Q (.bool (!o.isSome)) s') :
 wpAny (model X.prog X.w) A (compareOp .NotIn u (.ref a)) Q E s:=by
 rcases g with⟨kvs,k,e,ey,l⟩ | ⟨kvs,k,b,e,ey,eb,l⟩
 · subst ey;obtain⟨z,hd,vs,rel,dd⟩:=rH I.hok e;refine wpAny_notIn_of (rG ry) hd dd.mapOf ?_;rw[<- (rel.val k).A8,<- l];exact h _ (I.tok _)
 · subst ey;cases (show u=Value.ref b from ry);obtain⟨z,hd,xs,rel,dd⟩:=sH I.hok e;refine wpAny_notIn_heap (tupleKind_room_in1 hu) (zI I.hok eb) hd dd ?_;have q:=(rel.val k).A8;rw[Option.isSome_map]at q;rw[<- q,<- l];exact h _ (I.tok _)
theorem VH{h':Heap}{t':Nat}{ob:HO}(I:Inv X pins σ H s)(mu:GO (H a))(hs:Heap.SameBut a s.heap h')(he:∃q,h'.get? a=some q)(new:Y7 X.prog X.w (DA H a ob) h' a ob) :
 Inv X pins σ (DA H a ob) { s with heap:=h',toks:=t' }:=
 I.write (x:=a) (e:=a) mu (.inl rfl) (fun b q hb z=>(hs.2 b hb).trans z) he new
theorem cO{P:Program}{w:World}{H':Hp}{h':Heap}{kvs:List (qA×V)}{vs:List (qA×Value)}(z:kvs.length<=sizeLine)(hd:(a==sysModules)=false)(rel:KV kvs vs)(dd:h'.DictOf (LB P w) a vs) :
 Y7 P w H' h' a (.dK kvs):=⟨z,hd,vs,rel,dd⟩
theorem AV{H':Hp}{Q:Unit->Shared->Prop}(hu:A.units+1<cLine)(I:Inv X pins σ H s)(g:yj H a y v H')(ry:RelV y u)(rv:RelV v r)(h:∀s',Inv X pins σ H' s'->Q () s') :
 wpAny (model X.prog X.w) A (setItem (.ref a) u r) Q E s:=by
 rcases g with⟨kvs,k,e,ey,l,eH⟩ | ⟨kvs,k,b,e,ey,eb,l,eH⟩
 · subst ey eH;obtain⟨z,hd,vs,rel,dd⟩:=lO I.hok e;have hz:vs.length<=sizeLine:=by rw[<- rel.length];exact z
   have hl:(CD kvs k v).length<=sizeLine:=by have:=BP kvs k v;omega
   refine wpAny_setItem_pairs (hsz:=hz) (rG ry) dd fun h' Jj hs=>h _ ?_
   have he:∃q,h'.get? a=some q:=let ⟨q,_,_,hq,_⟩:=Jj;⟨q,hq⟩
   exact VH I (by rw[e];exact True.intro) hs he (cO hl hd (rel.put k rv) Jj)
 · subst ey eH;cases (show u=Value.ref b from ry);obtain⟨z,hd,xs,rel,dd⟩:=Y1 I.hok e;have hz:xs.length<=sizeLine:=by rw[<- Paired.length rel];exact z
   have hl:(CD kvs k v).length<=sizeLine:=by have:=BP kvs k v;omega
   refine wpAny_setItem_heap (hsz:=hz) (tupleKind_room_in1 hu) (zI I.hok eb) dd fun h' Jj hs=>h _ ?_
   obtain⟨q,es,ep,hq,h2,h3,h4,_,h5⟩:=Jj;refine VH I (by rw[e];exact True.intro) hs ⟨q,hq⟩ ⟨hl,hd,_,(rel.put k eb rv).keeps fun c ys ec=>?_,q,es,ep,hq,h2,h3,h4,h5⟩;rw[CA (BO ec e (fun z=>nomatch z))];exact ec
end
section
variable{X:Cx}{pins:List (Addr×Obj)}{σ:St}{H:Hp}{s:Shared}{a:Addr}{kvs:List (qA×V)}{k:qA}{u:Value}{A:Around}{E:Value->Shared->Prop}
theorem e7{Q:Unit->Shared->Prop}(I:Inv X pins σ H s)(e:H a=some (.dK kvs))(ry:RelV (kV k) u)(l:(QC kvs k).isSome=true)(h:∀s',Inv X pins σ (DA H a (.dK (aF kvs k))) s'->Q () s') :
 wpAny (model X.prog X.w) A (delItem (.ref a) u) Q E s:=by
 obtain⟨z,hd,vs,rel,dd⟩:=lO I.hok e;refine wpAny_delItem_slot dd.typeIs (by decide) PySem.F.slot_dict_delitem
  (call_meetsIn PySem.F.slot_dict_delitem dd.typeIs PySem.F.entry_dict_delitem (PySem.F.args_dict_delitem_2 _ _) (meets_dict_delitem_pairs (LB X.prog X.w) a (rG ry)) ⟨vs,dd,by rw[<- rel.length];exact z,by rw[<- (rel.val k).A8];exact l,fun h' Jj hs=>h _ ?_⟩)
 have he:∃q,h'.get? a=some q:=let ⟨q,_,_,hq,_⟩:=Jj;⟨q,hq⟩
 exact VH I (by rw[e];exact True.intro) hs he (cO (Nat.le_trans (EQ kvs k) z) hd (rel.drop k) Jj)
theorem K3{v:V}{more:List Value}{Q:Value->Shared->Prop}(I:Inv X pins σ H s)(e:H a=some (.dK kvs))(ry:RelV (kV k) u)(l:QC kvs k=some v)(hm:more=[]\/∃x,more=[x])
 (h:∀w' s',Inv X pins σ (DA H a (.dK (aF kvs k))) s'->RelV v w'->Q w' s'):wpAny (model X.prog X.w) A (call (.builtin "dict.pop") (.ref a::u::more)) Q E s:=by
 obtain⟨z,hd,vs,rel,dd⟩:=lO I.hok e;obtain⟨w',hw,N9⟩:=M8.some_of (v:=v) (o:=valueAt vs k) (by rw[<- l];exact rel.val k);have hp:(keyPart u).isSome=true:=by
  cases k with
  | inl i=>obtain⟨t,q⟩:=(show ∃t,u=Value.int i t from ry);subst q;rfl
  | inr x=>obtain⟨t,q⟩:=(show ∃t,u=Value.str x t from ry);subst q;rfl
 have ha:argsOk "dict.pop" ⟨.ref a::u::more,[]⟩:=by
  rcases hm with q | ⟨x,q⟩
  · subst q;exact PySem.F.args_dict_pop_2 _ _
  · subst q;exact PySem.F.args_dict_pop_3 _ _ _
 refine call_meetsIn PySem.F.slot_dict_pop dd.typeIs PySem.F.entry_dict_pop ha (meets_dict_pop_there (LB X.prog X.w) a (rG ry) more hm hp)
  ⟨vs,w',dd,by rw[<- rel.length];exact z,hw,fun h' Jj hs=>h w' _ ?_ N9⟩
 have he:∃q,h'.get? a=some q:=let ⟨q,_,_,hq,_⟩:=Jj;⟨q,hq⟩
 exact VH I (by rw[e];exact True.intro) hs he (cO (Nat.le_trans (EQ kvs k) z) hd (rel.drop k) Jj)
end
noncomputable def YK(i:Expr):Prop:=∀ov iv,subscripted i false ov iv=operate [ov,iv] (getItem ov iv)
theorem W0{prog:Program}{w:World}{A:Around}{E:Value->Shared->Prop}{s:Shared}{env:Env}{value slice:Expr}{pos:Pos}{T id:String}{Q:Value->Shared->Prop}
 (hl:typeLookup (.type T) "__getitem__" =pure (some (.builtin id))) (hs:YK slice)
 (h:wpAny (model prog w) A (eval value env) (fun o s₁=>wpAny (model prog w) A (eval slice env) (fun i s₂=>s₂.TypeIs o T/\wpAny (model prog w) A (getItem o i) Q E s₂) E s₁) E s) :
 wpAny (model prog w) A (eval (.Subscript value slice pos) env) Q E s:=by
 refine Subscript_ (wpAny_mono h (fun o s₁ h₁=>wpAny_mono h₁ (fun i s₂ h₂=>?_) fun _ _ x=>x) fun _ _ x=>x);obtain⟨hT,h₂⟩:=h₂;unfold subscriptTail;refine wpAny_bind ?_;rw[getitemInPython_of_ne hT.not_modules];refine wpAny_bind (wpAny_specialOf hT hl ?_);have fin:wpAny (model prog w) A (subscripted slice false o i) (fun r s₃=>wpAny (model prog w) A (letTemporaryGo value o r >>=fun _=>pure r) Q E s₃) E s₂:=by rw[hs o i];exact wpAny_operating (wpAny_mono h₂ (fun r s₃ h₃=>wpAny_bind (wpAny_letTemporaryGo (wpAny_pure h₃))) fun _ _ x=>x)
 first
  | exact wpAny_pure (wpAny_bind fin)
  | exact wpAny_bind (wpAny_pure (wpAny_bind fin))
  | exact wpAny_bind fin
theorem SU {X:Cx} {pins:List (Addr×Obj)} {σ:St} {H:Hp} {s:Shared} {a:Addr} {y:V} {o:Option V} (I:Inv X pins σ H s) (g:u9 H a y o):s.TypeIs (.ref a) "dict" :=by
 rcases g with⟨kvs,k,e,_,_⟩ | ⟨kvs,k,b,e,_,_,_⟩
 · obtain⟨_,_,vs,_,dd⟩:=rH I.hok e;exact dd.typeIs
 · obtain⟨_,_,xs,_,dd⟩:=sH I.hok e;exact dd.typeIs
def Y4(td ty:TE):TE:=fun σ H Q=>td σ H fun x H1=>ty σ H1 fun y H2=>∃a v,x=.ref a/\u9 H2 a y (some v)/\Q v H2
def mT(ty td:TE):TE:=fun σ H Q=>ty σ H fun y H1=>td σ H1 fun x H2=>∃a o,x=.ref a/\u9 H2 a y o/\Q (.bl o.isSome) H2
def Y0(ty td:TE):TE:=fun σ H Q=>ty σ H fun y H1=>td σ H1 fun x H2=>∃a o,x=.ref a/\u9 H2 a y o/\Q (.bl (!o.isSome)) H2
def Q4(td ty tv:TE):TS:=fun D σ H=>tv σ H fun v H1=>td σ H1 fun x H2=>ty σ H2 fun y H3=>∃a H4,x=.ref a/\yj H3 a y v H4/\D.nx σ H4
section
variable{X:Cx}{o i e value:Expr}{pos pos' tpos:Pos}{td ty tv:TE}
theorem QY(hu:X.A.units+1<cLine)(ho:PE X o td)(hi:PE X i ty)(hs:YK i):PE X (.Subscript o i pos) (Y4 td ty):=by intro pins s σ H Q I h;refine W0 PySem.F.slot_dict_getitem.lookup hs (IA (ho pins s σ H _ I h) fun u s1 ⟨x,H1,I1,rx,q1⟩=>IA (hi pins s1 σ H1 _ I1 q1) fun iv s2 zz=>?_);obtain⟨y,H2,I2,ry,a,v,ex,g,q2⟩:=zz;subst ex;obtain rfl:u=Value.ref a:=rx;exact⟨SU I2 g,zV hu I2 g ry fun w' s3 I3 N9=>⟨v,H2,I3,N9,q2⟩⟩
theorem T3(hu:X.A.units+1<cLine)(hi:PE X i ty)(ho:PE X o td):PC X .In i o (mT ty td):=by
 intro pins s σ H Q I h;refine IA (hi pins s σ H _ I h) fun iv s1 ⟨y,H1,I1,ry,q1⟩=>IA (ho pins s1 σ H1 _ I1 q1) fun u s2 zz=>?_
 obtain⟨x,H2,I2,rx,a,ov,ex,g,q2⟩:=zz;subst ex;obtain rfl:u=Value.ref a:=rx;exact QS hu I2 g ry fun s3 I3=>⟨.bl ov.isSome,H2,I3,rfl,q2⟩
theorem eW(hu:X.A.units+1<cLine)(hi:PE X i ty)(ho:PE X o td):PC X .NotIn i o (Y0 ty td):=by
 intro pins s σ H Q I h;refine IA (hi pins s σ H _ I h) fun iv s1 ⟨y,H1,I1,ry,q1⟩=>IA (ho pins s1 σ H1 _ I1 q1) fun u s2 zz=>?_
 obtain⟨x,H2,I2,rx,a,ov,ex,g,q2⟩:=zz;subst ex;obtain rfl:u=Value.ref a:=rx;exact FX hu I2 g ry fun s3 I3=>⟨.bl (!ov.isSome),H2,I3,rfl,q2⟩
theorem ZY(hu:X.A.units+1<cLine)(ho:PE X o td)(hi:PE X i ty)(hv:PE X value tv)(hs:swapsWith value (some (.Subscript o i pos')) pos.line X.env=pure false) :
 PS X (.Assign [.Subscript o i pos'] value pos) (Q4 td ty tv):=by
 intro pins s σ H D I h;refine wpAny_Assign_Subscript (IA (hv pins s σ H _ I h) fun r s1 ⟨v,H1,I1,rv,q1⟩=>IA (ho pins s1 σ H1 _ I1 q1) fun u s2 ⟨x,H2,I2,rx,q2⟩=>IA (hi pins s2 σ H2 _ I2 q2) fun iv s3 zz=>?_) hs;obtain⟨y,H3,I3,ry,a,H4,ex,g,q3⟩:=zz;subst ex;obtain rfl:u=Value.ref a:=rx;exact AV hu I3 g ry rv fun s4 I4=>⟨σ,H4,I4,q3⟩
end
theorem LW {P:Program} {w:World} {H:Hp} (h:Heap) (hb:sysModules<h.objs.size):Y7 P w H (h.push { cls:=.type "dict",data:=.dict #[] }) h.objs.size (.dK []):=
 ⟨Nat.zero_le _,beq_eq_false_iff_ne.mpr (Ne.symm (Nat.ne_of_lt hb)),[],.nil,Heap.DictOf.new h⟩
def Y2:TE:=fun _ H Q=>∀p,H p=none->Q (.ref p) (DA H p (.dK []))
section
variable{X:Cx}{pos:Pos}
theorem WX:PE X (.Dict [] [] pos) Y2:=fun pins s σ H Q I h=>wpAny_Dict_empty ⟨.ref s.heap.objs.size,_,I.laid (a:=s.heap.objs.size) (o:=.dK []) (t':=s.toks) (fun _ _ q=>Heap.get?_push_of_some _ q) (Xy _) (LW s.heap I.big),rfl,h _ (I.hok.fresh (Xy _))⟩
end
structure M1(X:Cx)(o:Expr)(m:Str)(apos:Pos)(e:Expr)(cpos:Pos):Prop where
 base:attributeBase o m X.env (eval o X.env)=eval o X.env
 few:((backTo cpos (starEach [e] X.env)).all (fun x=>!x.1)&&(backToKw cpos (keywordEach [] X.env)).all (fun x=>x.1.isSome)
  && decide (([e]:List Expr).length+([]:List Keyword).length+(if([]:List Keyword).isEmpty then 0 else 1)<30))=true
 line:(apos.endLine==cpos.line)=true
 trees:backTo cpos (starEach [e] X.env)=[(false,eval e X.env)]
def KS(H:Hp)(a:Addr):Prop:=(∃kvs,Rd H a (.dK kvs))\/∃kvs,Rd H a (.dT kvs)
theorem UR{X:Cx}{pins:List (Addr×Obj)}{σ:St}{H:Hp}{s:Shared}{a:Addr}(I:Inv X pins σ H s)(d:KS H a) :
 s.TypeIs (.ref a) "dict" /\ (∀b,Value.ref a=.ref b->∃ob,s.heap.get? b=some ob/\ob.dict=none)/\(a==sysModules)=false:=by
 rcases d with⟨kvs,e⟩ | ⟨kvs,e⟩
 · obtain⟨_,hd,vs,_,dd⟩:=rH I.hok e;refine⟨dd.typeIs,fun b q=>?_,hd⟩;cases q;obtain⟨ob,_,_,h1,h2,_⟩:=dd;exact⟨ob,h1,h2.2.1⟩
 · obtain⟨_,hd,xs,_,dd⟩:=sH I.hok e;refine⟨dd.typeIs,fun b q=>?_,hd⟩;cases q;obtain⟨ob,_,_,h1,h2,_⟩:=dd;exact⟨ob,h1,h2.2.1⟩
section
variable{X:Cx}{pins:List (Addr×Obj)}{σ:St}{H:Hp}{s:Shared}{a:Addr}{y d:V}{u r:Value}{o:Option V}{A:Around}{E:Value->Shared->Prop}
end
def Z2(td ty:TE):TE:=fun σ H Q=>td σ H fun x H1=>∃a,x=.ref a/\KS H1 a/\ty σ H1 fun y H2=>∃kvs k v,H2 a=some (.dK kvs)/\y=kV k/\QC kvs k=some v/\Q v (DA H2 a (.dK (aF kvs k)))
section
variable{X:Cx}{o e f:Expr}{apos cpos:Pos}{td ty tx:TE}
theorem XX (ho:PE X o td) (he:PE X e ty) (m:M1 X o "pop" apos e cpos):PE X (.Call (.Attribute o "pop" apos) [e] [] cpos) (Z2 td ty):=by intro pins s σ H Q I h;refine wpAny_Call_method m.base m.few m.line PySem.F.plainAttrs_dict PySem.F.slot_dict_pop PySem.F.type_dict_pop (IA (ho pins s σ H _ I h) fun u s1 zz=>?_);obtain⟨x,H1,I1,rx,a,ex,d,q1⟩:=zz;subst ex;obtain rfl:u=Value.ref a:=rx;obtain⟨t1,t2,_⟩:=UR I1 d;refine⟨t1,t2,?_⟩;rw[m.trees];refine Calls.callWith_builtin rfl (Calls.evalArgs_plain (Calls.spliced_cons (IA (he pins s1 σ H1 _ I1 q1) fun iv s2 ⟨y,H2,I2,ry,kvs,k,v,ea,ey,l,q2⟩=>Calls.spliced_nil ?_)));subst ey;exact K3 I2 ea ry l (.inl rfl) fun w' s3 I3 N9=>⟨v,_,I3,N9,q2⟩
end
section
variable{X:Cx}{pins:List (Addr×Obj)}{σ:St}{H:Hp}{s:Shared}{a:Addr}{kvs:List (qA×V)}{A:Around}{E:Value->Shared->Prop}
end
section
variable{X:Cx}{pins:List (Addr×Obj)}{σ:St}{H:Hp}{s:Shared}{a:Addr}{y:V}{u:Value}{A:Around}{E:Value->Shared->Prop}
end
section
variable{prog:Program}{w:World}{A:Around}{E:Value->Shared->Prop}{s:Shared}
end
theorem Paired.g9{α β:Type}{F:α->β->Prop}:∀{xs:List α}{ys:List β}{i:Nat}{x:α},Paired F xs ys->xs[i]?=some x->∃y,ys[i]?=some y/\F x y
 | _,_,i,x,.nil,e=>by simp at e
 | _,_,0,x,.cons r t,e=>by simp at e;subst e;exact⟨_,rfl,r⟩
 | _,_,i+1,x,.cons r t,e=>by obtain⟨y,e1,e2⟩:=Paired.g9 t (i:=i) (x:=x) (by simpa using e);exact⟨y,by simpa using e1,e2⟩
section
variable{X:Cx}
end
end L2
namespace SM
section
variable{K:Frag}{H:Hp}{ρ:Rg}
abbrev KD(K:Frag)(H:Hp)(ρ:Rg)(kvs:List (List Int×Dt))(vs:List (List qA×V)):Prop:=vs.map (·.1)=kvs.map (fun p=>p.1.map Sum.inl)/\G7 K H ρ (kvs.map (·.2)) (vs.map (·.2))
theorem aj{k k':List Int}:k.map (Sum.inl:Int->qA)=k'.map Sum.inl↔k=k':=⟨fun h=>(map_inj_right (fun _ _ z=>Sum.inl.inj z)).mp h,fun h=>by rw[h]⟩
theorem KD.o8{vs:List (List qA×V)}(r:KD K H ρ [] vs):vs=[]:=by have:=r.1;simpa using this
theorem KD.V7{p:List Int×Dt}{kvs:List (List Int×Dt)}{vs:List (List qA×V)}(r:KD K H ρ (p::kvs) vs):∃v rs,vs=(p.1.map Sum.inl,v)::rs/\J7 K H ρ p.2 v/\KD K H ρ kvs rs:=by
 obtain⟨h1,h2⟩:=r;cases vs with
 | nil=>simp at h1
 | cons q rs=>simp only[Hy,List.cons.injEq]at h1;obtain⟨v,r',e,g1,g2⟩:=G7.V7 (by simpa only[Hy]using h2);simp only[Hy,List.cons.injEq]at e;obtain⟨q1,q2⟩:=q;have h11:q1=p.1.map Sum.inl:=h1.1;have e1:q2=v:=e.1;subst e1;exact⟨q2,rs,by rw[h11],g1,h1.2,by rw[e.2];exact g2⟩
theorem KD.cons{p:List Int×Dt}{v:V}{kvs:List (List Int×Dt)}{vs:List (List qA×V)}(g:J7 K H ρ p.2 v)(r:KD K H ρ kvs vs):KD K H ρ (p::kvs) ((p.1.map Sum.inl,v)::vs):=
 ⟨by simp only[Hy];rw[r.1],.cons g r.2⟩
theorem KD.length{kvs:List (List Int×Dt)}{vs:List (List qA×V)}(r:KD K H ρ kvs vs):vs.length=kvs.length:=by have:=congrArg List.length r.1;simpa using this
theorem KD.repl(k:List Int){d:Dt}{v:V}(g:J7 K H ρ d v):∀{kvs:List (List Int×Dt)}{vs:List (List qA×V)},KD K H ρ kvs vs->
 KD K H ρ (kvs.map fun p=>if p.1=k then(p.1,d)else p) (vs.map fun p=>if p.1=k.map Sum.inl then(p.1,v)else p)
 | [],_,r=>by rw[r.o8];exact⟨rfl,.nil⟩
 | p::kvs,_,r=>by
  obtain⟨u,rs,rfl,g',r'⟩:=r.V7;rw[Hy,Hy];by_cases c:p.1=k
  · rw[if_pos c,if_pos (aj.mpr c)];exact KD.cons (p:=(p.1,d)) g (KD.repl k g r')
  · rw[if_neg c,if_neg (fun z=>c (aj.mp z))];exact KD.cons g' (KD.repl k g r')
end
section
variable{X:Cx}{e o i d a b f:Expr}{fe fo fi fa fb fy fx:RE}{pos pos' apos cpos:Pos}
end
end SM
namespace L2
section
variable{prog:Program}{w:World}{A:Around}{R:Result->Shared->Prop}{I:Addr}{fp wr:List Addr}{n:Nat}{P:Nat->Value->Prop}{St:Nat->Heap->Prop}
end
section
variable{prog:Program}{w:World}{A:Around}{E:Value->Shared->Prop}{s:Shared}
end
section
variable{X:Cx}{e d:Expr}{ta:TA}{td:TE}{p pos kp:Pos}
end
end L2
namespace SM
section
variable{X:Cx}{e d:Expr}{fa fd:RE}{p pos kp:Pos}
end
end SM
namespace L2
section
variable{X:Cx}
end
end L2
namespace SM
section
variable{X:Cx}{e:Expr}{f:RE}{p p' pos pos':Pos}
end
end SM
namespace L2
section
variable{X:Cx}{tg:Expr}
end
end L2
namespace SM
noncomputable def mE(f:Str)(v:Dt):List (Str×Dt)->List (Str×Dt)
 | []=>[(f,v)]
 | (g,x)::r=>if g=f then(g,v)::r else(g,x)::mE f v r
noncomputable def mC(f:Str):List (Str×Dt)->Option Dt
 | []=>none
 | (g,x)::r=>if f=g then some x else mC f r
def RD(x f:Str)(fo:RE):RE:=fun l h=>(fo l h).bind fun r=>match r.1 with
 | .ref n=>(match r.2[n]? with
  | some (.ins y fs)=>if y=x then(mC f fs).bind fun d=>some (d,r.2)else none
  | _=>none)
 | _=>none
def MI(x f:Str)(fo fe:RE):RS:=fun l h=>(fe l h).bind fun r=>(fo l r.2).bind fun q=>match q.1 with
 | .ref n=>(match q.2[n]? with
  | some (.ins y fs)=>if y=x/\fs.length<1000 then some (.nx l (q.2.set n (.ins y (mE f r.1 fs))))else none
  | _=>none)
 | _=>none
noncomputable def GI(x:Str)(F:jB)(g:RA):RE:=fun l h=>(g l h).bind fun r=>(F (.ref r.2.length::r.1) (r.2++[.ins x []])).bind fun q=>match q.1 with
 | .non=>some (.ref r.2.length,q.2)
 | _=>none
def JD(x m:Str)(F:jB)(fo:RE)(g:RA):RE:=fun l h=>(fo l h).bind fun r=>match r.1 with
 | .ref n=>(match r.2[n]? with
  | some (.ins y fs)=>if y=x/\mC m fs=none then(g l r.2).bind fun q=>F (.ref n::q.1) q.2 else none
  | _=>none)
 | _=>none
section
variable{X:Cx}{tg:Expr}
end
theorem HH{c:Prop}[Decidable c]{α:Type}{x:Option α}{b:α}(e:(if c then x else none)=some b):c/\x=some b:=by
 by_cases h:c
 · rw[if_pos h]at e;exact⟨h,e⟩
 · rw[if_neg h]at e;cases e
noncomputable def clsOf(K:Frag)(x:Str)(C:Addr):Prop:=nsIn K mainGlobals x=some (some (.ref C))
theorem clsOf.inj{K:Frag}{x:Str}{C C':Addr}(h:clsOf K x C)(h':clsOf K x C'):C=C':=by have:=h.symm.trans h';cases this;rfl
theorem aK{K:Frag}{H:Hp}{ρ:Rg}{f:Str}:∀{fs:List (Str×Dt)}{vs:List (Str×V)},fs.map (·.1)=vs.map (·.1)->G7 K H ρ (fs.map (·.2)) (vs.map (·.2))->
 (∀d,mC f fs=some d->∃v,vs.lookup f=some v/\J7 K H ρ d v)/\(mC f fs=none->vs.lookup f=none)
 | [],[],_,_=>⟨(fun _ h=>by cases h),fun _=>rfl⟩
 | [],_::_,e,_=>by cases e
 | _::_,[],e,_=>by cases e
 | (x,d)::fs,(y,v)::vs,e,r=>by
  simp only[Hy,List.cons.injEq]at e;obtain⟨e0,e⟩:=e;subst e0;obtain⟨v',rr,q,h1,h2⟩:=G7.V7 r;cases q;obtain⟨i1,i2⟩:=aK (f:=f) e h2;by_cases z:f=x
  · have zb:(f==x)=true:=beq_iff_eq.mpr z;refine⟨fun d' h=>?_,fun h=>?_⟩
    · simp only[mC,if_pos z]at h;cases h;exact⟨v,by simp only[List.lookup,zb],h1⟩
    · simp only[mC,if_pos z]at h;cases h
  · have zb:(f==x)=false:=by rw[<- Bool.not_eq_true,beq_iff_eq];exact z
    refine⟨fun d' h=>?_,fun h=>?_⟩
    · simp only[mC,if_neg z]at h;obtain⟨w,w1,w2⟩:=i1 d' h;exact⟨w,by simp only[List.lookup,zb];exact w1,w2⟩
    · simp only[mC,if_neg z]at h;simp only[List.lookup,zb];exact i2 h
theorem BQ{K:Frag}{H:Hp}{ρ:Rg}{f:Str}{d:Dt}{v:V}(rd:J7 K H ρ d v):∀{fs:List (Str×Dt)}{vs:List (Str×V)},fs.map (·.1)=vs.map (·.1)->G7 K H ρ (fs.map (·.2)) (vs.map (·.2))->
 (mE f d fs).map (·.1)=(L2.jC f v vs).map (·.1)/\G7 K H ρ ((mE f d fs).map (·.2)) ((L2.jC f v vs).map (·.2))
 | [],[],_,_=>⟨rfl,.cons rd .nil⟩
 | [],_::_,e,_=>by cases e
 | _::_,[],e,_=>by cases e
 | (x,d0)::fs,(y,v0)::vs,e,r=>by
  simp only[Hy,List.cons.injEq]at e;obtain⟨e0,e⟩:=e;subst e0;obtain⟨v',rr,q,h1,h2⟩:=G7.V7 r;cases q;by_cases z:x=f
  · simp only[mE,L2.jC,if_pos z,Hy];exact⟨by rw[e],.cons rd h2⟩
  · obtain⟨i1,i2⟩:=BQ rd (f:=f) e h2;simp only[mE,L2.jC,if_neg z,Hy];exact⟨by rw[i1],.cons h1 i2⟩
structure cI(K:Frag)(x f:Str):Prop where
 ex:∃C,clsOf K x C/\Cls K C/\K8 K C f
structure ZI(P:Program)(w:World)(K:Frag)(mg:Str->Option Value)(base:Heap)(k n:Nat)(x m:Str)(F:jB):Prop where
 ex:∃C f fd ps,clsOf K x C/\Cls K C/\jF K C m f/\l8 P w K mg base TD k f fd ps (NH K n F)/\Binds K fd ps []
 len:∀ds h r,F ds h=some r->ds.length=n
structure wF(K:Frag)(x m qual:Str)(st:Stmt)(ps:List Str):Prop where
 ex:∃C f fd,clsOf K x C/\Cls K C/\jF K C m f/\Z9 K m qual st f fd/\Binds K fd ps []
structure WK(P:Program)(w:World)(K:Frag)(mg:Str->Option Value)(base:Heap)(k n:Nat)(x:Str)(F:jB):Prop where
 ex:∃C f fd ps,clsOf K x C/\Mk K C f/\l8 P w K mg base TD k f fd ps (NH K n F)/\mg x=some (.ref C)/\Binds K fd ps []
 len:∀ds h r,F ds h=some r->ds.length=n
structure VN(K:Frag)(mg:Str->Option Value)(x qual:Str)(st:Stmt)(ps:List Str):Prop where
 ex:∃C f fd,clsOf K x C/\Mk K C f/\Z9 K "__init__" qual st f fd/\mg x=some (.ref C)/\Binds K fd ps []
section
variable{P:Program}{w:World}{K:Frag}{mg:Str->Option Value}{base:Heap}
theorem QQ{x m qual:Str}{st:Stmt}{N ps:List Str}{k n mm:Nat}{body:RS}(D:wF K x m qual st ps)(S:ZA N ps (oA st))(hn:ps.length=n)(hm:N.length=mm)
 (hb:∀(f:Addr)(cdv:Value)(A:Around)(outer:List Env)(s:Shared)(H:Hp)(E:XK),Z7 k (A.deeper (envOfC qual (oA st) s.heap.objs.size f cdv))->
  yG (iC TD P w K mg base N qual (oA st) f cdv A outer s H E).Y9 (fC st) body):ZI P w K mg base (k+1) n x m (GB n mm body):=by
 with_unfolding_all subst hn hm;obtain⟨C,f,fd,c1,c2,c3,hF,hB⟩:=D.ex;exact⟨⟨C,f,fd,ps,c1,c2,c3,FK hF S fun cdv A outer s H E hr=>hb f cdv A outer s H E hr,hB⟩,fun ds h r e=>oK e⟩
theorem BZ{x qual:Str}{st:Stmt}{N ps:List Str}{k n mm:Nat}{body:RS}(D:VN K mg x qual st ps)(S:ZA N ps (oA st))(hn:ps.length=n)(hm:N.length=mm)
 (hb:∀(f:Addr)(cdv:Value)(A:Around)(outer:List Env)(s:Shared)(H:Hp)(E:XK),Z7 k (A.deeper (envOfC qual (oA st) s.heap.objs.size f cdv))->
  yG (iC TD P w K mg base N qual (oA st) f cdv A outer s H E).Y9 (fC st) body):WK P w K mg base (k+1) n x (GB n mm body):=by
 with_unfolding_all subst hn hm;obtain⟨C,f,fd,c1,c2,hF,c3,hB⟩:=D.ex;exact⟨⟨C,f,fd,ps,c1,c2,FK hF S fun cdv A outer s H E hr=>hb f cdv A outer s H E hr,c3,hB⟩,fun ds h r e=>oK e⟩
end
theorem xS{H:Hp}{a C dx:Addr}{vs:List (Str×V)}(h:H a=some (.ins C dx vs)):JO H a:=fun _ _ e=>by rw[h]at e;cases e
section
variable{X:Cx}{e o value:Expr}{es:List Expr}{x f m:Str}{fo fe:RE}{g:RA}{pos pos' apos p:Pos}{k k' n:Nat}{F:jB}
theorem OE(cl:cI X.K x f)(ha:EM X e fo)(hb:attributeBase e f X.env (eval e X.env)=eval e X.env:=by rfl):EM X (.Attribute e f pos) (RD x f fo):=by
 with_unfolding_all
  exact PE.imp (V3 ha hb) fun σ H Q zz=>by
   obtain⟨ρ,l,h,d,h',S,L,e,k⟩:=zz;obtain⟨⟨d1,h1⟩,e1,e⟩:=eA e;refine⟨ρ,l,h,d1,h1,S,L,e1,fun ρ1 v H1 R1 S1 E1=>?_⟩;cases d1 with
   | ref n=>
    dsimp only at e;split at e
    · rename_i y fs q;obtain⟨hy,e3⟩:=HH e;subst hy;obtain⟨d2,q2,e4⟩:=eA e3;cases e4;obtain⟨a,z,ha⟩:=R7.mp R1;obtain⟨C,dx,vs,c1,g1,g2,g3⟩:=S1.ob n a _ ha q;obtain⟨C',c2,c3,c4⟩:=cl.ex;have cc:C'=C:=clsOf.inj c2 c1;subst cc;obtain⟨v2,w1,w2⟩:=(aK g2 g3).1 _ q2;exact⟨a,C',dx,vs,v2,z,g1,c3,c4,w1,k ρ1 _ _ w2 S1 E1⟩
    · cases e
   | _=>cases e
theorem YR(cl:cI X.K x f)(ha:EM X o fo)(hv:EM X value fe)(hs:swapsWith value (some (.Attribute o f pos')) pos.line X.env=pure false:=by rfl):ZM X (.Assign [.Attribute o f pos'] value pos) (MI x f fo fe):=by
 with_unfolding_all
  exact PS.imp (z4 ha hv hs) fun D σ H zz=>by
   obtain⟨ρ,l,h,r,S,L,e,k⟩:=zz;obtain⟨⟨v,hv⟩,e1,e⟩:=eA e;obtain⟨⟨d,hd⟩,e2,e⟩:=eA e;refine⟨ρ,l,h,v,hv,S,L,e1,fun ρ1 u H1 R1 S1 E1=>⟨ρ1,l,hv,d,hd,S1,L.ext E1,e2,fun ρ2 y H2 R2 S2 E2=>?_⟩⟩;cases d with
   | ref n=>
    dsimp only at e;split at e
    · rename_i y fs q;obtain⟨⟨hy,hl⟩,e⟩:=gE e;cases e;subst hy;obtain⟨a,zz,ha⟩:=R7.mp R2;obtain⟨C,dx,vs,c1,g1,g2,g3⟩:=S2.ob n a _ ha q;obtain⟨C',c2,c3,c4⟩:=cl.ex;have cc:C'=C:=clsOf.inj c2 c1;subst cc;have hm:=mem_of_getElem? ha;have hlen:vs.length=fs.length:=by have:=congrArg List.length g2;simpa using this.symm
      obtain⟨p1,p2⟩:=BQ (f:=f) (J7.ext E2 _ R1) g2 g3;refine⟨a,C',dx,vs,zz,g1,c3,c4,by rw[hlen];exact hl,?_⟩;exact k ρ2 σ _ (S2.write ha (xS g1) ⟨C',dx,_,c1,AB,p1,p2.ext (Ext.write hm (xS g1))⟩) (L.ext (E1.trans (E2.trans (Ext.write hm (xS g1))))) (E1.trans (E2.trans (Ext.write hm (xS g1))))
    · cases e
   | _=>cases e
theorem nZ (c:WK X.prog X.w X.K X.mg X.base k n x F) (hr:Z7 k' X.A) (hk:k+1<=k') (hg:Gl X x) (ha:AM X (e::es) g) (hdb:(x==("__debug__" :Str))=false:=by decide)
 (he:eB e=true:=by rfl) (hpl:es.all eB=true:=by rfl):EM X (.Call (.Name x p) (e::es) [] pos) (GI x F g):=by
 with_unfolding_all
  obtain⟨C,f,fd,ps,c1,c2,c3,c4,c5⟩:=c.ex;exact PE.imp (SY c2 c3 (hr.mono hk) hg c4 c5 .nil (E:=E0) LK ha hdb (gB he _ _) (YF hpl)) fun σ H Q zz=>by
   obtain⟨ρ,l,h,d,h',S,L,e,k⟩:=zz;obtain⟨⟨Pz,h1⟩,e1,e⟩:=eA e;obtain⟨⟨d2,h2⟩,e2,e⟩:=eA e;cases d2 with
   | non=>
    cases e;refine⟨ρ,l,h,Pz,h1,S,L,e1,fun ρ1 vs H1 R1 S1 E1 xa dx hx hdx hne=>?_⟩;have S2:M7 X.K ρ1 h1 (DA H1 dx (.own xa)):=S1.fresh hdx;have hx2:DA H1 dx (.own xa) xa=none:=by rw[CA (Ne.symm hne)];exact hx
    have S3:=S2.own (p:=xa) (o:=.ins C dx []) (u:=.ins x []) hx2 ⟨C,dx,[],c1,AB,rfl,.nil⟩;have E3:Ext ρ1 (ρ1.add xa) H1 (DA (DA H1 dx (.own xa)) xa (.ins C dx [])):=(Ext.fresh hdx).trans (Ext.own hx2);have Wv:(ρ1.add xa).v[h1.length]?=some xa:=by simp[Rg.add,<- S1.len]
    have R3:G7 X.K (DA (DA H1 dx (.own xa)) xa (.ins C dx [])) (ρ1.add xa) (.ref h1.length::Pz) (.ref xa::(vs++[])):=.cons (R7.mpr ⟨xa,rfl,Wv⟩) (by rw[Zy];exact R1.ext E3);exact⟨ρ1.add xa,_,_,.non,h2,S3,R3,c.len _ _ _ e2,e2,fun ρ' v H' R' S' E'=>⟨T7.mp R',k ρ' _ H' (R7.mpr ⟨xa,rfl,E'.get Wv⟩) S' (E1.trans (E3.trans E'))⟩⟩
   | _=>cases e
end
section
variable{P:Program}{w:World}{K:Frag}{mg:Str->Option Value}{base:Heap}
end
section
variable{X:Cx}{k k' n:Nat}{F:jB}{x:Str}{p pos:Pos}{e:Expr}{es:List Expr}{g:RA}{Rj:List Dt}
end
def OB(K:Frag)(x:Str)(st:Stmt):Prop:=∃(f:Addr)(oc:Value)(od:Option Addr)(kV dc pm:Value)(an:Option Addr)(cd ct:Value)(sl:Array (Option Value)),nsIn K mainGlobals x=some (some (.ref f))/\
 K.lookup f=some ⟨oc,od,.func (fnOf x x (eE st) (fC st) (oA st) .none kV dc pm an cd ct),sl⟩/\PySem.W.codeIn K cd x=true/\keepIn K (.ref f)=true
def CF(K:Frag)(C:Addr)(m qual:Str)(st:Stmt):Prop:=∃(f:Addr)(oc:Value)(od:Option Addr)(kV dc pm:Value)(an:Option Addr)(cd ct:Value)(sl:Array (Option Value)),findIn K (.ref C) m=some (some (.ref f))/\PySem.W.isFn K (.ref f)=true/\
 K.lookup f=some ⟨oc,od,.func (fnOf m qual (eE st) (fC st) (oA st) .none kV dc pm an cd ct),sl⟩/\PySem.W.codeIn K cd qual=true/\keepIn K (.ref f)=true
structure WI(K:Frag)(x:Str)(C:Addr):Prop where
 ac:nsIn K mainGlobals x=some (some (.ref C))
 pg:PySem.W.plainGet K C Str.empty=true
 hd:PySem.W.hasDictIn K C=true
 po:PySem.W.plainOver K C=true
 sa:findIn K (.ref C) "__setattr__" =some (some (.builtin "object.__setattr__"))
 Vk:PySem.W.makesIn K C=true
 kc:keepIn K (.ref C)=true
section
variable{K:Frag}{h:Heap}{mg:Str->Option Value}{x m qual:Str}{st:Stmt}{ps:List Str}{C:Addr}{d:Int}
theorem XB(X:K.In h)(G:h.Ns mainGlobals mg)(D:OB K x st)(hb:∀(kV doc pm:Value)(an:Option Addr)(cdv ct:Value)(us:List Value),us.length=ps.length->bindArgs (fnOf x x (eE st) (fC st) (oA st) .none kV doc pm an cdv ct) ⟨us,[]⟩=pure (ps.zip us)):MB K mg x st ps:=by obtain⟨f,oc,od,kV,dc,pm,an,cd,ct,sl,a,l,c,k⟩:=D;have F:=xI l c k;exact⟨⟨f,_,F,PySem.W.mg_of X G a,F.binds hb⟩⟩
theorem YH(k:WI K x C)(D:CF K C m qual st)(hb:∀(kV doc pm:Value)(an:Option Addr)(cdv ct:Value)(us:List Value),us.length=ps.length->bindArgs (fnOf m qual (eE st) (fC st) (oA st) .none kV doc pm an cdv ct) ⟨us,[]⟩=pure (ps.zip us)):wF K x m qual st ps:=by obtain⟨f,oc,od,kV,dc,pm,an,cd,ct,sl,a,i,l,c,k'⟩:=D;have F:=xI l c k';exact⟨⟨C,f,_,k.ac,⟨k.pg,k.hd,k.po,k.sa⟩,⟨a,i,k'⟩,F,F.binds hb⟩⟩
theorem cX (X:K.In h) (G:h.Ns mainGlobals mg) (k:WI K x C) (D:CF K C "__init__" qual st) (hb:∀(kV doc pm:Value) (an:Option Addr) (cdv ct:Value) (us:List Value),us.length=ps.length->bindArgs (fnOf "__init__" qual (eE st) (fC st) (oA st) .none kV doc pm an cdv ct) ⟨us,[]⟩=pure (ps.zip us)):VN K mg x qual st ps:=by obtain⟨f,oc,od,kV,dc,pm,an,cd,ct,sl,a,i,l,c,k'⟩:=D;have F:=xI l c k';exact⟨⟨C,f,_,k.ac,⟨k.Vk,a,i,k.kc⟩,F,PySem.W.mg_of X G k.ac,F.binds hb⟩⟩
theorem MQ{f:Str}(k:WI K x C)(n:findIn K (.ref C) f=some none):cI K x f:=⟨⟨C,k.ac,⟨k.pg,k.hd,k.po,k.sa⟩,n⟩⟩
end
section
variable{Q:List Value->Prop}
theorem bJ(h:Q []):∀us:List Value,us.length=0->Q us | [],_=>h
theorem lE{n:Nat}(h:∀a us,us.length=n->Q (a::us)):∀us:List Value,us.length=n+1->Q us | a::us,e=>h a us (Nat.succ.inj e)
theorem nF(h:∀a,Q [a]):∀us:List Value,us.length=1->Q us:=lE fun a=>bJ (h a)
theorem CC(h:∀a b,Q [a,b]):∀us:List Value,us.length=2->Q us:=lE fun a=>lE fun b=>bJ (h a b)
theorem nL(h:∀a b c,Q [a,b,c]):∀us:List Value,us.length=3->Q us:=lE fun a=>lE fun b=>lE fun c=>bJ (h a b c)
theorem pL(h:∀a b c d,Q [a,b,c,d]):∀us:List Value,us.length=4->Q us:=lE fun a=>lE fun b=>lE fun c=>lE fun d=>bJ (h a b c d)
end
theorem pB{N P:List Str}{sc:Scope}(a:sc.kind=.function:=by exact rfl)(b:sc.isCoroutine=false:=by exact rfl)(c:sc.isGenerator=false:=by exact rfl)(d:N.Nodup:=by decide +kernel)(e:N.take P.length=P:=by exact rfl)
 (f:∀x∈P,sc.names.lookup x=some .local\/sc.names.lookup x=some .cell:=by decide +kernel) (g:∀y∈sc.names,y.2≠.free:=by decide +kernel):ZA N P sc:=⟨a,b,c,d,e,f,g⟩
theorem uB {X:Cx} {k k' n:Nat} {x:Str} {F:jB} {e:Expr} {es:List Expr} {g:RA} {p pos:Pos} (c:zC X.prog X.w X.K X.mg X.base k n x F) (hr:Z7 k' X.A) (ha:AM X (e::es) g) (hk:k<=k':=by decide) (hg:Gl X x:=by exact rfl) (hdb:(x==("__debug__" :Str))=false:=by decide)
 (he:eB e=true:=by rfl) (hpl:es.all eB=true:=by rfl):EM X (.Call (.Name x p) (e::es) [] pos) (BA F [] g):=VE c hr hk hg ha hdb he hpl
end SM
namespace L2
theorem rQ:∀{bs:List Bool}{us:List Value},Vals (bs.map V.bl) us->us=bs.map Value.bool
 | [],_,h=>by cases h;rfl
 | b::bs,_,h=>by
  cases h with
  | cons r rr=>rw[rQ rr];cases r;rfl
def O4(K:Frag):V->List V->Hp->VK->Prop:=fun x vs H Q=>∃(a:Addr)(bs:List Bool)(b:Bool),x=.ref a/\vs=[.bl b]/\N8 K H a (bs.map V.bl)/\Q (.int ((bs.countP (· ==b):Nat):Int)) H
section
variable{X:Cx}
theorem VV:rS X "list.count" (O4 X.K):=by
 intro pins s σ H x vs v us Q I rx rv h;obtain⟨p,bs,b,rfl,rfl,sq,q⟩:=h;cases rx;obtain⟨u,rfl,ru⟩:=BF rv;cases ru;obtain⟨its,N9,⟨⟨c1,d1,t1,Vq⟩,n,e0,k1,k2,k3⟩,z⟩:=I.list sq;simp only at k1 k2 k3;subst k1 k2 k3;have ib:=rQ N9;refine call_meets PySem.F.slot_list_count ⟨_,e0,rfl⟩ PySem.F.entry_list_count (PySem.F.args_list_count_2 _ _) (SeqAt.list_countAt p its.toArray n none Vq (.bool b) (isBoolOf b)) ⟨e0,fun y hy=>?_,?_⟩
 · have hy':y∈its:=by simpa using hy
   rw[ib]at hy';obtain⟨c,_,rfl⟩:=mem_map.mp hy';exact SeqAt.EqAt.bool_bool c b
 · have ec:its.toArray.toList.countP (isBoolOf b)=bs.countP (· ==b):=by rw[show its.toArray.toList=its from rfl,ib,countP_map];rfl
   rw[ec];exact⟨.int _,H,I.tok _,⟨_,rfl⟩,q⟩
end
end L2
namespace SM
def kK(fa fb:RE):RE:=fun l h=>(fa l h).bind fun r=>(fb l r.2).bind fun q=>match r.1,q.1 with
 | .lst xs,.bl b=>(rD xs).bind fun bs=>some (.int ((bs.countP (· ==b):Nat):Int),q.2)
 | _,_=>none
section
variable{X:Cx}{a b:Expr}{fa fb:RE}
theorem lV {apos cpos:Pos} (ho:EM X a fa) (hb:EM X b fb) (hbase:attributeBase a "count" X.env (eval a X.env)=eval a X.env:=by rfl)
 (hline:(apos.endLine==cpos.line)=true:=by rfl) (hs:eB b=true:=by rfl) :
 EM X (.Call (.Attribute a "count" apos) [b] [] cpos) (kK fa fb):=by
 with_unfolding_all
  exact PE.imp (KI PySem.F.plainAttrs_list PySem.F.slot_list_count PySem.F.type_list_count VV ho (qC hb XC (gB hs _ _)) hbase (aI hs) hline (gB hs _ _)) fun σ H Q zz=>by
   obtain⟨ρ,l,h,d,h',S,L,e,k⟩:=zz;obtain⟨⟨d1,h1⟩,e1,e⟩:=eA e;obtain⟨⟨d2,h2⟩,e2,e⟩:=eA e;refine⟨ρ,l,h,d1,h1,S,L,e1,fun ρ1 v H1 R1 S1 E1=>?_⟩;cases d1 with
   | lst xs=>
    cases d2 with
    | bl b=>obtain⟨bs,q,e⟩:=eA e;cases e;obtain⟨x,ws,z,t,rs⟩:=O7.mp R1;subst z;refine⟨.inl ⟨rfl,ws,t.sq⟩,ρ1,l,h1,.bl b,h2,S1,L.ext E1,e2,fun ρ2 y H2 R2 S2 E2=>?_⟩;rw[uN q]at rs;have ew:=rs.Fj;rw[ew]at t;exact⟨x,bs,b,rfl,by rw[L7.mp R2],(t.same E2.same).sq,k ρ2 _ H2 (K7.mpr rfl) S2 (E1.trans E2)⟩
    | _=>cases e
   | _=>cases e
end
theorem bI{P:Program}{w:World}{K:Frag}{mg:Str->Option Value}{base:Heap}{x:Str}{st:Stmt}{ps:List Str}{k n:Nat}(D:MB K mg x st ps):zC P w K mg base k n x (fun _ _=>none):=by
 with_unfolding_all
  obtain⟨f,fd,hF,hm,hB⟩:=D.ex;refine⟨⟨f,fd,ps,⟨fun vs H Q E h=>?_,fun A outer s H args us vs Q E hr he hb hv h=>?_⟩,hm,hF.kp,hB⟩,fun ds h r e=>by cases e⟩
  · obtain⟨ρ,ds,h,d,h',_,_,_,e,_⟩:=h;cases e
  · obtain⟨ρ,ds,h,d,h',_,_,_,e,_⟩:=h;cases e
end SM
namespace L2
section
variable{P:Program}{w:World}{A:Around}{E:Value->Shared->Prop}{h:Heap}{g:Array GenState}{d:Drawn}{t:Nat}{os:OsState}
variable{nm q:Str}{C N:Addr}{bs bm bt:List Value}{hd:Bool}{sn:List Str}{sub:List Value}{ab:Bool}{col:Option Bool}{dd:Option Addr}{k0 k1 k2 k3 k5:Option Value}{B nw ini:String}
noncomputable abbrev fP(h:Heap)(C:Addr):Obj:={ cls:=.ref C,data:=.fields #[.ref h.objs.size,.none,.none,.none,.bool false,.none] }
noncomputable abbrev DT (us:List Value):Obj:={ cls:=.type "tuple",data:=.seq us.toArray }
abbrev FE(h:Heap)(C:Addr)(us:List Value):Heap:=(h.push (DT us)).push (fP h C)
theorem KE{us:List Value}{b:Addr}{o:Obj}(e:h.get? b=some o):(FE h C us).get? b=some o:=Heap.get?_push_of_some _ (Heap.get?_push_of_some _ e)
theorem cN{us:List Value}:(FE h C us).get? (h.objs.size+1)=some (fP h C):=by heap_get
theorem BW(F:ExcBaseFacts B nw ini bt)(T:OwnTail h bt bm){mN:Str->Option Value}{us:List Value}{f:Addr}{o:Obj}{Q:Fin->Shared->Prop}(hC:h.get? C=some (excClassObj nm q C N bs bm hd sn sub ab col dd k0 k1 k2 k3 k5 nw))(hn:h.Ns N mN)
 (hi:mN "__init__" =some (.ref f)) (hf:h.get? f=some o) (ho:o.cls=.type "function")
 (go:wpAny (model P w) A (call (.ref f) (.ref (h.objs.size+1)::us)) (fun r s'=>r=.none/\Q (.done (.ret (.ref (h.objs.size+1)))) s') E ⟨FE h C us,g,d,t,os⟩) (hz:us.length<=sizeLine:=by size_fits) :
 wpAny (model P w) A (Builtin.«type.__call__» ⟨.ref C::us,[]⟩) Q E ⟨h,g,d,t,os⟩:=by
 repeat (first | with_reducible refine wpAny_loadPart_at hC ?_ | with_reducible refine wpAny_madeBy_exc hC ?_ | wp_step)
 refine codeAny_call_builtin_code (Code.quiet_builtin _ F.quiet) (wpAny_check_new_subT F T hC (codeAny_exc_new_subT F T hC ?_ hz));show wpAny _ _ _ _ _ _;have c1:(FE h C us).get? C=some _:=KE hC;have n1:(FE h C us).Ns N mN:=let ⟨o,es,ep,e,r⟩:=hn;⟨o,es,ep,KE e,r⟩;have i1:(Value.ref C::bm).contains (.ref C)=true:=by simp
 have x1:=cN (h:=h) (C:=C) (us:=us);unfold isInstance
 repeat (first | with_reducible refine wpAny_loadPart_at x1 ?_ | (with_reducible refine wpAny_isSubtype_exc c1 ?_;rw[i1]) | wp_step)
 show wpAny _ _ (typeLookup (.ref C) _) _ _ _;refine wpAny_typeLookup_tail c1 n1 (T.keeps fun b o e=>KE e) F.mroIs F.init.lookup ?_;rw[hi];refine wpAny_holding (wpAny_bind ?_);unfold bindSpecial;refine wpAny_bind (wpAny_typeOf (T := "function") ⟨_,KE hf,ho⟩ ?_);rw[if_pos (by decide)];refine wpAny_pure (wpAny_bind (wpAny_mono go (fun r s' zz=>?_) fun _ _ x=>x));obtain⟨hr,hQ⟩:=zz;subst hr
 wp_walk
 exact hQ
theorem vX(F:ExcBaseFacts B nw ini bt)(T:OwnTail h bt bm){mN:Str->Option Value}{us:List Value}{f:Addr}{o:Obj}{Q:Value->Shared->Prop}(hC:h.get? C=some (excClassObj nm q C N bs bm hd sn sub ab col dd k0 k1 k2 k3 k5 nw))(hn:h.Ns N mN)
 (hi:mN "__init__" =some (.ref f)) (hf:h.get? f=some o) (ho:o.cls=.type "function")
 (go:wpAny (model P w) (A.under (.builtin "type.__call__" ⟨.ref C::us,[]⟩)) (call (.ref f) (.ref (h.objs.size+1)::us)) (fun r s'=>r=.none/\Q (.ref (h.objs.size+1)) s') E ⟨FE h C us,g,d,t,os⟩) (hz:us.length<=sizeLine:=by size_fits) :
 wpAny (model P w) A (call (.ref C) us) Q E ⟨h,g,d,t,os⟩:=by
 have f1:=tc_lookup;have f2:=tc_bind (.ref C);have hT:(⟨h,g,d,t,os⟩:Shared).TypeIs (.ref C) "type" :=⟨_,hC,rfl⟩;refine wpAny_call (codeAny_of_tree ?_);show wpAny _ _ (callAny (.ref C) _) _ _ _
 repeat (any_goals (first | assumption | with_reducible refine wpAny_loadPart_at hC ?_ | wp_step))
 exact⟨rfl,codeAny_call_builtin_at (Code.quiet_builtin _ (by decide +kernel)) entry_typeCall (wpAny_check_type_call_sub hC (BW F T hC hn hi hf ho go hz))⟩
end
open PySem.W
section
variable{P:Program}{w:World}{A:Around}{E:Value->Shared->Prop}{s:Shared}{K:Frag}{x C:Addr}{ox:Obj}{od:Option Obj}{n:Str}{ex:Bool}{Q:Value->Shared->Prop}{v:Value}
end
open PySem.W
noncomputable def pD:List Value->Bool
 | .ref _::r=>pD r
 | l=>l == [.type "ValueError", .type "Exception", .type "BaseException", .type "object"]
theorem IP (y:Value):∀{l:List Value},pD l=true->PySem.refuseLoop y "__setattr__" l=pure ()
 | .ref c::r,e=>by rw[PySem.refuseLoop_ref];exact IP y (l:=r) e
 | [],e=>by cases e
 | .none::_,e=>by cases e
 | .type x::r,e=>by rw[beq_iff_eq.mp (show(Value.type x::r==_)=true from e)];exact PySem.F.store_ValueError.passes y
 | .bool _::_,e=>by simp[pD]at e
 | .int _ _::_,e=>by simp[pD]at e
 | .float _ _::_,e=>by simp[pD]at e
 | .str _ _::_,e=>by simp[pD]at e
 | .bytes _ _::_,e=>by simp[pD]at e
 | .ellipsis::_,e=>by simp[pD]at e
 | .notImplemented::_,e=>by simp[pD]at e
 | .builtin _::_,e=>by simp[pD]at e
theorem UX:∀{l:List Value},pD l=true->l.contains (.type "object")=true:=by
 intro l
 induction l with
 | nil=>intro e;cases e
 | cons a r ih=>
  intro e;cases a with
  | ref c=>rw[contains_cons,ih e,Bool.or_true]
  | _=>rw[beq_iff_eq.mp (show(_::r==_)=true from e)];decide
section
variable{P:Program}{w:World}{A:Around}{E:Value->Shared->Prop}{s:Shared}{K:Frag}{x C:Addr}{ox:Obj}{n:Str}{Q:Unit->Shared->Prop}{v:Value}{cd:ClassData}
theorem IT (X:K.In s.heap) (hx:s.heap.get? x=some ox) (hc:ox.cls=.ref C) (hn:ox.dict=none) {vs:Array Value} (hd:ox.data=.fields vs) (hs:findIn K (.ref C) "__setattr__" =some (some (.builtin "object.__setattr__")))
 (hk:clsIn K C=some cd) (ho:pD cd.mro=true) (hh:cd.hasDict=true) (ht:takerIn K C n=some none)
 (h:∀h' tk,h'.get? x=some { ox with dict:=some s.heap.objs.size }->h'.Ns1 s.heap.objs.size (fun y=>if y=n then some v else none)->(∀b o,b≠x->s.heap.get? b=some o->h'.get? b=some o)->Q () { s with heap:=h',toks:=tk }) :
 wpAny (model P w) A (setAttr (.ref x) n v) Q E s:=by
 have I:InstAt s.heap x ox C none:=⟨hx,hc,by unfold notCls;rw[hd],by rw[hn];trivial⟩;refine PySem.W.set_plain X I hs ?_;have SF:=PySem.F.store_object;have ne:cd.mro.isEmpty=false:=by cases q:cd.mro with | nil=>rw[q]at ho;cases ho | cons _ _=>rfl
 have sub:Looks (model P w) s.heap (isInstance (.ref x) (.type "object")) true:=I.type.andThen (looks_mroIn X (by unfold mroIn;rw[hk,Py,if_neg (by rw[ne];decide),UX ho]));refine codeAny_call_builtin SF.slot.plain SF.entry (@check_slot (model P w) _ _ { s with toks:=s.toks+1 } "object.__setattr__" "object" "__setattr__" (.ref x) [.str n s.toks,v] [] _ SF.kind SF.split sub (SF.args (.ref x) (.str n s.toks) v) ?_);obtain⟨attr,ha,hr⟩:=Option.bind_eq_some_iff.mp ht;have hm:Looks (model P w) s.heap (mroOf (.ref C)) cd.mro:=(looks_clsIn X hk).andThen .now;have L3:Looks (model P w) s.heap (PySem.Builtin.ObjectAttr.storeTaker? attr) none:=by
  cases attr with
  | none=>exact .now
  | some a=>
   obtain⟨b,hb,e⟩:=Option.map_eq_some_iff.mp hr;refine(looks_takesIn X hb).andThen ?_;cases b with
   | false=>exact .now
   | true=>cases e
 rw[osa_eq,PySem.refuse_eq];obtain⟨hp,g,d,t,os⟩:=s;refine wpAny_bind (wpAny_bind (I.type.at (wpAny_bind (hm.at ?_))));rw[IP _ ho];refine wpAny_pure (wpAny_bind (I.type.at (wpAny_bind ((looks_findIn X ha).at (wpAny_bind (L3.at ?_))))));dsimp only;unfold PySem.Builtin.ObjectAttr.storeInOwnDict;obtain⟨oc,odi,oda,osl⟩:=ox;dsimp only at hc hn hd;subst hc hn hd;refine wpAny_bind (wpAny_pure (wpAny_bind (wpAny_bind (wpAny_loadPart hx ?_))));refine wpAny_bind ((looks_clsIn X hk).at ?_);rw[hh,if_neg (by decide)];dsimp only;rw[if_neg (by simp[typeHasDict])];have x1:(hp.push { cls:=.type "dict",data:=.dict #[] }).get? x=some _:=Heap.get?_push_of_some _ hx;have xn:x≠hp.objs.size:=Nat.ne_of_lt (Heap.lt_size hx);refine wpAny_bind (wpAny_alloc' (wpAny_bind (wpAny_update' x1 (wpAny_pure ?_))));have d1:((hp.push { cls:=.type "dict",data:=.dict #[] }).update x fun o=>{ cls:=o.cls,dict:=some hp.objs.size,data:=o.data,slots:=o.slots }).get? hp.objs.size=some { cls:=.type "dict",data:=.dict #[] }:=
  (Heap.get?_update_ne _ _ _ _ xn.symm).trans (Heap.get?_push_at rfl rfl)
 have u1:((hp.push { cls:=.type "dict",data:=.dict #[] }).update x fun o=>{ cls:=o.cls,dict:=some hp.objs.size,data:=o.data,slots:=o.slots }).get? x=some ⟨.ref C,some hp.objs.size,.fields vs,osl⟩:=Heap.get?_update_self _ x1 rfl;have n1:((hp.push { cls:=.type "dict",data:=.dict #[] }).update x fun o=>{ cls:=o.cls,dict:=some hp.objs.size,data:=o.data,slots:=o.slots }).Ns hp.objs.size (fun _=>none):=⟨_,#[],_,d1,rfl,fun e he=>absurd he (by simp),fun _=>rfl⟩;show wpAny _ _ (PySem.Builtin.ObjectAttr.storeInDict hp.objs.size (.str n t) n v) _ _ _;unfold PySem.Builtin.ObjectAttr.storeInDict PySem.Builtin.ObjectAttr.newKeyGuard;refine wpAny_bind (wpAny_pure (wpAny_bind (wpAny_nsSet1 (Heap.Ns1.of_empty n1) fun h' hn' hs=>?_)));obtain⟨oD,esD,epD,hoD,hdD,hcD⟩:=hn'.count (Within.cons n v Within.nil);refine wpAny_bind (wpAny_lookBehind hoD (by rw[hdD];exact pastItsLine_dict (Nat.le_trans hcD (by rw[Fy,Gy,sizeLine_eq];omega))) ?_)
 wp_walk
 exact h h' _ ((hs.2 x xn).trans u1) hn' fun b o hb e=>(hs.2 b (Nat.ne_of_lt (Heap.lt_size e))).trans ((Heap.get?_update_ne _ _ _ _ hb).trans (Heap.get?_push_of_some _ e))
end
open PySem.W
section
variable{P:Program}{w:World}{A:Around}{E:Value->Shared->Prop}{h:Heap}{g:Array GenState}{d:Drawn}{t:Nat}{os:OsState}{x:Addr}{ox:Obj}{Q:Value->Shared->Prop}{v:Value}
variable{nm q:Str}{C N:Addr}{bs bm bt:List Value}{hd:Bool}{sn:List Str}{sub:List Value}{ab:Bool}{col:Option Bool}{dd:Option Addr}{k0 k1 k2 k3 k5:Option Value}{B nw ini:String}
theorem FT(F:ExcBaseFacts B nw ini bt)(T:OwnTail h bt bm)(hC:h.get? C=some (excClassObj nm q C N bs bm hd sn sub ab col dd k0 k1 k2 k3 k5 nw)){t0:Addr}(hx:h.get? x=some (LF C t0 none))
 (go:∀h',h'.get? x=some (LF C h.objs.size none)->(∀b o,b≠x->h.get? b=some o->h'.get? b=some o)->Q .none ⟨h',g,d,t,os⟩) :
 wpAny (model P w) A (call (.builtin ini) [.ref x,v]) Q E ⟨h,g,d,t,os⟩:=by
 refine wpAny_call (codeAny_call_builtin F.init.plain F.initEntry (wpAny_check_init_subT F T hC hx rfl ?_));unfold Builtin.«BaseException.__init__»;have x1:(h.push { cls:=.type "tuple",data:=.seq #[v] }).get? x=some (LF C t0 none):=Heap.get?_push_of_some _ hx
 wp_walk
 refine go _ ?_ fun b o hb e=>?_
 · rw[Heap.get?_update_self _ x1 rfl];rfl
 · rw[Heap.get?_update_ne _ _ _ _ hb];exact Heap.get?_push_of_some _ e
end
open PySem.W
inductive Shows:Int->V->Str->Prop
 | int (i:Int) (h:i.natAbs.log2<1920):Shows (-1) (.int i) (Str.ofString (toString i))
 | rep (x:Str) (h:(reprText x).length<=100000):Shows 114 (.str x) (reprText x)
theorem Shows.len{c:Int}{y:V}{z:Str}(h:Shows c y z):z.length<=100000:=by
 cases h with
 | int i h=>have:=int_text_length_le (k:=1920) (by decide) h;rw[PySem.ofString_length];omega
 | rep x h=>exact h
section
variable{X:Cx}{v:Expr}{te:TE}{a b:Str}{c:Int}{pos p1 p2:Pos}{j1 j2:Nat}
noncomputable def FV(X:Cx)(pins:List (Addr×Obj))(σ:St)(Q:Str->Hp->Prop)(u:Value)(s':Shared):Prop:=∃z t H',u=.str z t/\Inv X pins σ H' s'/\z.length<=100000/\Q z H'
theorem SQ(hc:c = -1\/c=114)(he:PE X v te){pins:List (Addr×Obj)}{s:Shared}{σ:St}{H:Hp}{Q:Str->Hp->Prop}(I:Inv X pins σ H s)(h:te σ H fun y H1=>∃z,Shows c y z/\Q z H1) :
 wpAny (model X.prog X.w) X.A (eval (.FormattedValue v c none pos) X.env) (FV X pins σ Q) X.xe s:=by
 rcases hc with rfl | rfl
 · refine wpAny_FormattedValue_plain (IA (he pins s σ H _ I h) fun u s1 zz=>?_);obtain⟨y,H1,I1,r,z,sh,q⟩:=zz;have hl:=sh.len;cases sh with
   | int i hi=>obtain⟨t,rfl⟩:=r;exact wpAny_formatField_int hi ⟨_,_,H1,rfl,I1.tok _,hl,q⟩
 · refine wpAny_FormattedValue_repr (IA (he pins s σ H _ I h) fun u s1 zz=>?_);obtain⟨y,H1,I1,r,z,sh,q⟩:=zz;have hl:=sh.len;cases sh with
   | rep x hx=>
    obtain⟨t,rfl⟩:=r;have hz:(reprText x).length<=sizeLine:=by rw[sizeLine_eq];omega
    refine wpAny_pyReprObj_str ?_ hz;exact wpAny_formatField_str ⟨_,_,H1,rfl,I1.tok _,hl,q⟩ ⟨_,_,H1,rfl,(I1.tok _).tok _,hl,q⟩ hz
noncomputable def tL(c:Int)(te:TE):TE:=fun σ H Q=>te σ H fun y H1=>∃z,Shows c y z/\∀x,Q (.str x) H1
theorem aY(hc:c = -1\/c=114)(he:PE X v te)(ha:a.length<=1000)(hb:b.length<=1000) :
 PE X (.JoinedStr [.Constant (.str a) j1 p1,.FormattedValue v c none pos,.Constant (.str b) j2 p2] p) (tL c te):=by
 intro pins s σ H Q I h;refine wpAny_JoinedStr ?_;show wpAny _ _ (eval (.Constant (.str a) j1 p1) X.env) _ _ _;have l0:Str.empty.length=0:=rfl;refine Calls.Constant_str ⟨a,_,rfl,by rw[strLen_append,l0,sizeLine_eq];omega,?_⟩;show wpAny _ _ (eval (.FormattedValue v c none pos) X.env) _ _ _;refine IA (SQ hc he (I.tok _) (Q:=fun _ H1=>∀x,Q (.str x) H1) h) fun u s1 ⟨z,t,H1,e,I1,hz,q⟩=>⟨z,t,e,by rw[strLen_append,strLen_append,l0,sizeLine_eq];omega,?_⟩
 show wpAny _ _ (eval (.Constant (.str b) j2 p2) X.env) _ _ _;have hl:(Str.empty++a++z++b).length<=sizeLine:=by rw[strLen_append,strLen_append,strLen_append,l0,sizeLine_eq];omega
 exact Calls.Constant_str ⟨b,_,rfl,hl,hl,⟨.str _,H1,(I1.tok _).tok _,⟨_,rfl⟩,q _⟩⟩
theorem YX(hc:c = -1\/c=114)(he:PE X v te)(ha:a.length<=1000) :
 PE X (.JoinedStr [.Constant (.str a) j1 p1,.FormattedValue v c none pos] p) (tL c te):=by
 intro pins s σ H Q I h;refine wpAny_JoinedStr ?_;show wpAny _ _ (eval (.Constant (.str a) j1 p1) X.env) _ _ _;have l0:Str.empty.length=0:=rfl;refine Calls.Constant_str ⟨a,_,rfl,by rw[strLen_append,l0,sizeLine_eq];omega,?_⟩;show wpAny _ _ (eval (.FormattedValue v c none pos) X.env) _ _ _;refine IA (SQ hc he (I.tok _) (Q:=fun _ H1=>∀x,Q (.str x) H1) h) fun u s1 zz=>?_
 obtain⟨z,t,H1,e,I1,hz,q⟩:=zz;have hl:(Str.empty++a++z).length<=sizeLine:=by rw[strLen_append,strLen_append,l0,sizeLine_eq];omega
 exact⟨z,t,e,hl,hl,⟨.str _,H1,I1.tok _,⟨_,rfl⟩,q _⟩⟩
end
open PySem.W
noncomputable abbrev jJ:List Value:=[.type "ValueError", .type "Exception", .type "BaseException", .type "object"]
def bF(K:Frag)(C f:Addr):Bool:=match K.lookup C with
 | some ⟨.type "type",_,.cls cd,sl⟩=>(match cd.mro,sl.toList with
  | .ref D::bm,[_,_,_,_,some (.builtin n),_]=>D==C&&(n == "ValueError.__new__" && (!cd.hasDel&&(tailIn K jJ bm&&(nsOkIn K cd.ns&&nsIn K cd.ns "__init__" ==some (some (.ref f))))))
  | _,_=>false)
 | _=>false
theorem FZ{K:Frag}{h:Heap}{N:Addr}{m:Str->Option Value}{n:Str}{v:Value}(X:K.In h)(G:h.Ns N m)(e:nsIn K N n=some (some v)):m n=some v:=by
 obtain⟨o,es,ep,ho,hd,_,hf⟩:=G;unfold nsIn at e;split at e
 · rename_i q;have z:=X _ _ q;rw[ho]at z;cases z;cases hd;split at e
   · rename_i he;cases e;rw[<- hf];unfold nsFind findBy;rw[<- Array.find?_toList,he];rfl
   · split at e<;>cases e
 · cases e
theorem PR{K:Frag}{h:Heap}{C f:Addr}(X:K.In h)(q:bF K C f=true):∃nm qn N bs bm hd sn sub ab col dd k0 k1 k2 k3 k5,∃mN:Str->Option Value,
 h.get? C=some (excClassObj nm qn C N bs bm hd sn sub ab col dd k0 k1 k2 k3 k5 "ValueError.__new__")/\h.Ns N mN/\mN "__init__" =some (.ref f)/\OwnTail h jJ bm:=by
 unfold bF at q;split at q
 · rename_i dd cd sl ho;split at q
   · rename_i D bm k0 k1 k2 k3 n k5 hm hs;simp only[Bool.and_eq_true,beq_iff_eq,Bool.not_eq_true']at q;obtain⟨rfl,rfl,hdel,ht,hok,hni⟩:=q;obtain⟨nm,bs,mro,ns,qn,hd,sn,sub,ab,col,del⟩:=cd;dsimp only at hm hdel hok hni;subst hm hdel;obtain⟨sl⟩:=sl;dsimp only at hs;subst hs;exact⟨nm,qn,ns,bs,bm,hd,sn,sub,ab,col,dd,k0,k1,k2,k3,k5,_,X _ _ ho,.of_isNs (isNs_of_in X hok),FZ X (.of_isNs (isNs_of_in X hok)) hni,tail_of_in X ht⟩
   · cases q
 · cases q
theorem QK{P:Program}{w:World}{H:Hp}{h:Heap}{a C t0:Addr}{dx:Option Addr}(e:h.get? a=some (LF C t0 dx)):Y7 P w H h a (XO a C t0 dx):=⟨e,⟨_,e⟩,fun _ _ p k=>k _ p⟩
section
variable{X:Cx}{CX:FF}{k:Nat}{f C:Addr}{fd:FuncData}{ps:List Str}{sp:Sp}{E:XK}{x:Str}{p pos:Pos}{e:Expr}{es:List Expr}{t:TA}{a9:List V}{ds:List Value}
theorem iX{pins:List (Addr×Obj)}{σ:St}{H:Hp}{s:Shared}{Q:VK}{us:List Value}{vs:List V}(M:bF X.K C f=true)(hfn:isFn X.K (.ref f)=true)(F:l8 X.prog X.w X.K X.mg X.base CX k f fd ps sp)(hr:Z7 (k+1) X.A)(hb:Binds X.K fd ps [])
 (hx:bE CX X E) (hz:ps.length<=100) (I:Inv X pins σ H s) (r:Vals vs us)
 (h:∀x t0,H x=none->sp (.ref x::vs) (DA H x (XO x C t0 none)) (fun v H2=>v=.non/\Q (.ref x) H2) E) :
 wpAny (model X.prog X.w) X.A (call (.ref C) us) (EP X pins σ Q) X.xe s:=by
 have hq:=h (s.heap.objs.size+1) s.heap.objs.size (I.hok.fresh (Nat.le_succ _));obtain⟨nm,qn,N,bs,bm,hd,sn,sub,ab,col,dd,k0,k1,k2,k3,k5,mN,hC,hn,hi,T⟩:=PR I.R8 M;have I2:=I.laid (a:=s.heap.objs.size+1) (o:=XO (s.heap.objs.size+1) C s.heap.objs.size none) (h':=FE s.heap C us) (t':=s.toks) (fun b u q=>KE q) (Nat.le_succ _) (QK cN);have r2:Vals (V.ref (s.heap.objs.size+1)::vs) (Value.ref (s.heap.objs.size+1)::us):=.cons rfl r;have hl0:(Value.ref (s.heap.objs.size+1)::us).length=ps.length:=by have e:=r2.length;rw[F.len _ _ _ _ hq]at e;exact e.symm
 have hl:(Value.ref (s.heap.objs.size+1)::us++[]).length=ps.length:=by rw[Zy];exact hl0
 have hty:=looks_typeIn (M:=model X.prog X.w) I.R8 (beq_iff_eq.mp hfn);obtain⟨o,ho,hoc⟩:∃o,s.heap.get? f=some o/\o.cls=.type "function" :=by have z:=beq_iff_eq.mp hfn;obtain⟨o,ho,hc⟩:=Option.map_eq_some_iff.mp (show(X.K.lookup f).map (·.cls)=some (.type "function")from z);exact⟨o,I.R8 _ _ ho,hc⟩
 obtain⟨hp,g,d,tk,os⟩:=s;refine vX PySem.F.excBase_ValueError T hC hn hi ho hoc ?_ (by rw[Fy]at hl0;rw[sizeLine_eq];omega);refine wpAny_call (codeAny_mono (F.run _ X.stack _ _ ⟨Value.ref (hp.objs.size+1)::us,[]⟩ (Value.ref (hp.objs.size+1)::us) _ _ E (hr.make C us [])
  (I2.env0.make C us []) (by have:=hb _ (Value.ref (hp.objs.size+1)::us) I2.R8 hl;rw[Zy]at this;exact this) r2 hq) fun r s' hq'=>?_)
 cases r with
 | error e=>exact hx pins σ _ _ e s' I2 hq'
 | ok fl=>
  cases fl with
  | ret u=>obtain⟨v,H',I3,rv,ev,q3⟩:=I2.after hq';subst ev;exact⟨rv,⟨V.ref (hp.objs.size+1),H',I3,rfl,q3⟩⟩
  | next=>exact False.elim hq'
  | brk=>exact False.elim hq'
  | cont=>exact False.elim hq'
def v3(C:Addr)(sp:Sp)(E:XK)(t:TA):TE:=fun σ H Q=>t σ H fun vs H1=>∀x t0,H1 x=none->sp (.ref x::vs) (DA H1 x (XO x C t0 none)) (fun v H2=>v=.non/\Q (.ref x) H2) E
theorem dY(M:bF X.K C f=true)(hfn:isFn X.K (.ref f)=true)(kp:keepIn X.K (.ref C)=true)(F:l8 X.prog X.w X.K X.mg X.base CX k f fd ps sp)(hr:Z7 (k+1) X.A)(hg:Gl X x)(hm:X.mg x=some (.ref C))(hb:Binds X.K fd ps [])(hx:bE CX X E)(hz:ps.length<=100)
 (ha:PA X (e::es) t) (hdb:(x==("__debug__" :Str))=false) (he:starEach (e::es) X.env=(false,eval e X.env)::starEach es X.env) (hpl:(backTo pos (starEach es X.env)).any (·.1)=false) :
 PE X (.Call (.Name x p) (e::es) [] pos) (v3 C sp E t):=by
 intro pins s σ H Q I h;refine wpAny_Call_Name_kw (uF I hg hm ?_ hdb);refine PySem.W.callWith_K (h₀:=X.base) I.ok.mod.Uj kp (IA (ha pos pins s σ H _ I h) fun us s1 ⟨vs,H1,I1,r,q⟩=>⟨I1.R8,?_⟩) he hpl;exact iX M hfn F hr hb hx hz I1 r q
end
open PySem.W
def uI(K:Frag)(C:Addr):Bool:=
 findIn K (.ref C) "__getattribute__" ==some (some (.builtin "BaseException.__getattribute__"))&&(findIn K (.ref C) "__getattr__" ==some none&&(mroIn K C (.type "BaseException")==some true &&
 (findIn K (.ref C) "__setattr__" ==some (some (.builtin "object.__setattr__"))&&((clsIn K C).any fun cd=>pD cd.mro&&cd.hasDict))))
noncomputable def aG (K:Frag) (S:Addr):Bool:=specialIn K (.ref S) "__getattribute__" ==some (some (.builtin "type.__getattribute__"))&&(readsIn K S (.type "type")&&(match findCls K (.ref S) (.type "type") "__init__" with | some (.val v)=>v==.builtin "ValueError.__init__" | _=>false))
theorem iK {K:Frag} {S:Addr} (h:aG K S=true):specialIn K (.ref S) "__getattribute__" =some (some (.builtin "type.__getattribute__"))/\readsIn K S (.type "type")=true/\findCls K (.ref S) (.type "type") "__init__" =some (.val (.builtin "ValueError.__init__")):=by
 simp only[aG,Bool.and_eq_true,beq_iff_eq]at h;refine⟨h.1,h.2.1,?_⟩;have q:=h.2.2;split at q
 · rename_i v e;rw[e,beq_iff_eq.mp q]
 · cases q
section
variable{X:Cx}{C f S:Addr}{x fl:Str}{p pos apos pos':Pos}{e o value:Expr}{es:List Expr}{t:TA}{ta tv:TE}
def u5(K:Frag)(t:TA):TE:=fun σ H Q=>t σ H fun vs H1=>∃a C t0 z f,vs=[.ref a,.str z]/\H1 a=some (XO a C t0 none)/\bF K C f=true/\∀t1,Q .non (DA H1 a (XO a C t1 none))
theorem TY {pl:Sem Bool} (hS:aG X.K S=true) (hg:Gl X x) (hm:X.mg x=some (.ref S)) (ha:PA X (e::es) t) (hdb:(x==("__debug__" :Str))=false)
 (hst:starEach (e::es) X.env=(false,eval e X.env)::starEach es X.env) (hpl:(backTo pos (starEach es X.env)).any (·.1)=false)
 (ht:eval (.Call (.Attribute (.Name x p) "__init__" apos) (e::es) [] pos) X.env=(do
  let ov <- eval (.Name x p) X.env
  standAt apos.atName
  let (f,first) <- holding [ov] (getMethod ov "__init__" pl)
  callWith pos f first (backTo pos (starEach (e::es) X.env)) (backToKw pos (keywordEach [] X.env)))) :
 PE X (.Call (.Attribute (.Name x p) "__init__" apos) (e::es) [] pos) (u5 X.K t):=by
 intro pins s σ H Q I h;have hS:=iK hS;refine PySem.W.methodCall_KW (pl:=pl) (uF I hg hm ?_ hdb) ht;refine method_cls I.R8 hS.1 (cls_value I.R8 hS.2.1 hS.2.2 (by decide +kernel) ?_);have hA:=ha pos pins _ σ H _ (I.tok (s.toks+1)) h;rw[hst]at hA ⊢;refine Calls.callWith_builtin (by show(false || (backTo pos (starEach es X.env)).any (·.1))=false;rw[hpl]<;>rfl) (Calls.evalArgs_plain ?_);refine IA hA fun us s1 zz=>?_
 obtain⟨vs,H1,I1,r,a,C,t0,z,f,ev,eh,er,q⟩:=zz;subst ev;obtain⟨u1,u2,rfl,r1,r2⟩:=Vals.two r;cases (show u1=Value.ref a from r1);obtain⟨nm,qn,N,bs,bm,hd,sn,sub,ab,col,dd,k0,k1,k2,k3,k5,mN,hC,hn,hi,T⟩:=PR I1.R8 er;have hx:=(I1.hok a _ eh).1;obtain⟨hp,g,d,tk,os⟩:=s1;refine FT PySem.F.excBase_ValueError T hC hx fun h' hx' hk=>?_
 exact⟨.non,_,I1.write (x:=a) (e:=a) (by rw[eh];exact True.intro) (.inl rfl) (fun b u hb e=>hk b u hb e) ⟨_,hx'⟩ (QK hx'),rfl,q _⟩
def T4(K:Frag)(ta tv:TE)(f:Str):TS:=fun D σ H=>tv σ H fun y H1=>ta σ H1 fun x H2=>∃a C t0,x=.ref a/\H2 a=some (XO a C t0 none)/\uI K C=true/\findIn K (.ref C) f=some none/\
 ∀dx,H2 dx=none->D.nx σ (DA (DA H2 dx (.xd [(f,y)])) a (XO a C t0 (some dx)))
theorem QP {K:Frag} {C:Addr} (h:uI K C=true):findIn K (.ref C) "__getattribute__" =some (some (.builtin "BaseException.__getattribute__"))/\findIn K (.ref C) "__getattr__" =some none/\mroIn K C (.type "BaseException")=some true/\
 findIn K (.ref C) "__setattr__" =some (some (.builtin "object.__setattr__"))/\∃cd,clsIn K C=some cd/\pD cd.mro=true/\cd.hasDict=true:=by
 simp only[uI,Bool.and_eq_true,beq_iff_eq]at h;obtain⟨h1,h2,h3,h4,h5⟩:=h;obtain⟨cd,e,q⟩:=any_some h5;rw[Bool.and_eq_true]at q;exact⟨h1,h2,h3,h4,cd,e,q⟩
theorem aZ(ha:PE X o ta)(hv:PE X value tv)(hs:swapsWith value (some (.Attribute o fl pos')) pos.line X.env=pure false):PS X (.Assign [.Attribute o fl pos'] value pos) (T4 X.K ta tv fl):=by
 intro pins s σ H D I h;refine plainObj_wpAny_Assign_Attribute (IA (hv pins s σ H _ I h) fun u s1 ⟨y,H1,I1,ry,q⟩=>IA (ha pins s1 σ H1 _ I1 q) fun ov s2 zz=>?_) hs;obtain⟨x,H2,I2,rx,a,C,t0,ex,ea,eg,en,q2⟩:=zz;subst ex;obtain rfl:ov=Value.ref a:=rx;obtain⟨_,_,_,g4,cd,g5,g6,g7⟩:=QP eg;have hx:=(I2.hok a _ ea).1;have ta:takerIn X.K C fl=some none:=K8.taker (show K8 X.K C fl from en);refine IT I2.R8 hx rfl rfl rfl g4 g5 g6 g7 ta fun h' tk hx' hns hk=>?_
 have hf:H2 s2.heap.objs.size=none:=I2.hok.fresh (Xy _);have na:a≠s2.heap.objs.size:=lC ea hf;obtain⟨od,es,ep,hod,hns'⟩:=hns;have m1:(s2.heap.push od).get? s2.heap.objs.size=some od:=Heap.get?_push_at rfl (Heap.get?_some_iff.mp hod).2;have I3:=I2.laid (a:=s2.heap.objs.size) (o:=.xd [(fl,y)]) (h':=s2.heap.push od) (t':=s2.toks) (fun b u e=>Heap.get?_push_of_some _ e) (Xy _) ⟨_,⟨od,es,ep,m1,hns'⟩,fun g=>by
  by_cases z:g=fl
  · subst z;have zb:(g==g)=true:=beq_iff_eq.mpr rfl;simp only[List.lookup,zb];exact ry
  · have zb:(g==fl)=false:=by rw[<- Bool.not_eq_true,beq_iff_eq];exact z
    simp only[List.lookup,zb,if_neg z];exact True.intro⟩
 have Uw:DA H2 s2.heap.objs.size (.xd [(fl,y)]) a=some (XO a C t0 none):=by rw[CA na];exact ea
 have I4:=I3.write (x:=a) (e:=a) (o:=XO a C t0 (some s2.heap.objs.size)) (h':=h') (t':=tk) (by rw[Uw];exact True.intro) (.inl rfl) (fun b u hb e=>?_) ⟨_,hx'⟩ (QK hx')
 · exact⟨σ,_,I4,q2 _ hf⟩
 · rcases Heap.get?_push_cases e with⟨rfl,rfl⟩ | e
   · exact hod
   · exact hk b u hb e
end
open PySem.W
section
variable{P:Program}{w:World}{A:Around}{E:Value->Shared->Prop}{s:Shared}{K:Frag}{x C:Addr}{ox:Obj}{od:Option Obj}{n:Str}{ex:Bool}{v:Value}
theorem ET {Q:Option Value->Shared->Prop} (X:K.In s.heap) (I:InstAt s.heap x ox C od) (hd:(clsIn K C).isSome=true) (ha:findIn K (.ref C) "__getattribute__" =some (some (.builtin "BaseException.__getattribute__"))) (hk:findIn K (.ref C) "__getattr__" =some none)
 (hb:mroIn K C (.type "BaseException")=some true) (c1:findIn K (.ref C) "__class__" =some (some (.builtin "object.__class__"))) (c2:specialIn K (.builtin "object.__class__") "__get__" =some (some (.builtin "getset_descriptor.__get__")))
 (c3:takesIn K (.builtin "object.__class__")=some true) (c4:mroIn K C (.type "object")=some true) (h:Q (some (.ref C)) { s with toks:=s.toks+1 }):wpAny (model P w) A (getAttr? (.ref x) "__class__") Q E s:=by
 obtain⟨hp,g,d,t,os⟩:=s;have L0:=I.type (M:=model P w);have L1:=looks_findIn (M:=model P w) X ha;have hf:findObj K C od "__class__" =some (.bind (.builtin "getset_descriptor.__get__") (.builtin "object.__class__")):=by obtain⟨cd,hc⟩:=Option.isSome_iff_exists.mp hd;unfold findObj;rw[hc,Py,c1,Py];simp[c2,c3]
 have L2:=looks_find (M:=model P w) X I hf;have e1:(Value.builtin "BaseException.__getattribute__" ==Value.builtin "object.__getattribute__")=false:=by decide +kernel
 unfold getAttr? getAttrBy? getAttrBy;refine wpAny_bind (wpAny_mkText (wpAny_bind (wpAny_attempt (wpAny_holding (wpAny_bind (L0.at (wpAny_bind (L1.at ?_))))))));dsimp only;rw[e1,Bool.and_false,if_neg Vy];refine wpAny_bind ((looks_hook X (mc:=.ref C) (r:=none) (by rw[if_pos (by rfl)];exact hk)).at (wpAny_bind (wpAny_attempt (wpAny_holding ?_))));unfold callGetattribute;rw[show(false&&onTheHeap (Value.builtin "BaseException.__getattribute__"))=false from rfl,if_neg Vy];unfold boundAndCalled;rw[PySem.F.attr_ValueError.ga.bind];refine wpAny_bind (wpAny_pure ?_);show wpAny _ _ (call (.builtin "BaseException.__getattribute__") [.ref x,.str "__class__" t]) _ _ _;refine wpAny_call (codeAny_call_builtin PySem.F.attr_ValueError.ga.plain PySem.F.entry_bexc_ga ?_);refine @check_slot (model P w) _ _ ⟨hp,g,d,t+1,os⟩ "BaseException.__getattribute__" "BaseException" "__getattribute__" (.ref x) [.str "__class__" t] [] _ (by decide +kernel) (by decide +kernel) (L0.andThen (looks_mroIn X hb)) (PySem.F.args_bexc_ga _ _) ?_;unfold Builtin.«object.__getattribute__»;refine wpAny_bind (wpAny_pure (wpAny_bind (wpAny_pure (wpAny_bind (L0.at (wpAny_bind (L2.at ?_)))))));show wpAny _ _ (holding [Value.builtin "object.__class__"] (call (.builtin "getset_descriptor.__get__") [.builtin "object.__class__", .ref x,.ref C]) >>=ret) _ _ _;refine wpAny_bind (wpAny_holding (wpAny_call (class_get (s:=⟨hp,g,d,t+1,os⟩) (ox:=ox) (od:=od) X I c4 (wpAny_pure ?_))));exact wpAny_mono (handed_on rfl (Q:=fun v s'=>v=.ref C/\s'=⟨hp,g,d,t+1,os⟩) ⟨rfl,rfl⟩) (fun v s' ⟨e1,e2⟩=>by subst e1 e2;exact wpAny_pure h) fun _ _ z=>z
theorem VR (hd:(clsIn K C).isSome=true) (ha:findIn K (.ref C) "__getattribute__" =some (some (.builtin "BaseException.__getattribute__"))) (hk:findIn K (.ref C) "__getattr__" =some none)
 (hb:mroIn K C (.type "BaseException")=some true) (c1:findIn K (.ref C) "__class__" =some (some (.builtin "object.__class__"))) (c2:specialIn K (.builtin "object.__class__") "__get__" =some (some (.builtin "getset_descriptor.__get__")))
 (c3:takesIn K (.builtin "object.__class__")=some true) (c4:mroIn K C (.type "object")=some true):KitX K (.ref x) (.ref C) (fun h=>InstAt h x ox C od):=by
 obtain⟨cd,hcd⟩:=Option.isSome_iff_exists.mp hd;have at_:∃c' d' sl',K.lookup C=some ⟨c',d',.cls cd,sl'⟩:=by
  unfold clsIn at hcd;split at hcd
  · rename_i c' d' cd' sl' ho;cases hcd;exact⟨c',d',sl',ho⟩
  · cases hcd
 obtain⟨c',d',sl',ho⟩:=at_;refine⟨fun _ _ _ I=>I.type,fun _ _ X _=>?_,fun h tp dd its n sl X htp=>?_,fun X I k=>ET X I hd ha hk hb c1 c2 c3 c4 k⟩
 · intro A1 Q1 E1 s1 k1 q1;unfold isType loadHead;refine wpAny_bind (wpAny_loadPart (k1 _ _ (X _ _ ho)) ?_);exact wpAny_pure q1
 · rw[Bool.eq_false_iff];intro q;cases Value.ref.inj (beq_iff_eq.mp q);cases (X _ _ ho).symm.trans htp
end
def yE (K:Frag) (C:Addr):Bool:=uI K C&&(findIn K (.ref C) "__class__" ==some (some (.builtin "object.__class__"))&&(specialIn K (.builtin "object.__class__") "__get__" ==some (some (.builtin "getset_descriptor.__get__")) &&
 (takesIn K (.builtin "object.__class__")==some true&&mroIn K C (.type "object")==some true)))
section
variable{X:Cx}{pins:List (Addr×Obj)}{σ:St}{H:Hp}{s:Shared}{A:Around}{E:Value->Shared->Prop}{Q:Value->Shared->Prop}{c:Value}{b:Bool}{a C:Addr}{dx:Option Addr}
theorem yZ(I:Inv X pins σ H s)(ea:H a=some (XL a (.ref C) dx))(ed:dx=none\/∃b fl y,dx=some b/\H b=some (.xd [(fl,y)]))(ec:yE X.K C=true)(e:kitOne X.K (.ref C) c=some b)(h:∀tk,Q (.bool b) { s with toks:=tk }) :
 wpAny (model X.prog X.w) A (call (.builtin "isinstance") [.ref a,c]) Q E s:=by
 simp only[yE,Bool.and_eq_true,beq_iff_eq]at ec;obtain⟨eg,c1,c2,c3,c4⟩:=ec;obtain⟨g1,g2,g3,_,cd,g5,_⟩:=QP eg;obtain⟨ox,vx,hx,⟨x1,x2⟩,x3⟩:=(I.hok a _ ea).1;rcases ed with rfl | ⟨b',fl,y,rfl,ed⟩
 · have J:InstAt s.heap a ox C none:=⟨hx,x1,by unfold notCls;rw[x3],by rw[x2];exact trivial⟩;exact kia_one (VR (by rw[g5];rfl) g1 g2 g3 c1 c2 c3 c4) I.R8 J e (fun z=>nomatch z) h
 · obtain⟨mA,⟨od,es,ep,hod,_⟩,_⟩:=(show Y7 X.prog X.w H s.heap b' (.xd [(fl,y)])from I.hok b' _ ed);have J:InstAt s.heap a ox C (some od):=⟨hx,x1,by unfold notCls;rw[x3],by rw[x2];exact hod⟩;exact kia_one (VR (by rw[g5];rfl) g1 g2 g3 c1 c2 c3 c4) I.R8 J e (fun z=>nomatch z) h
end
open PySem.W
section
variable{X:Cx}
theorem V0:∀{ts:List Str}{us:List Value},Vals (ts.map V.str) us->∃l:List (Str×Tok),us=strValues l/\l.map (·.1)=ts:=by
 intro ts
 induction ts with
 | nil=>intro us r;cases r;exact⟨[],rfl,rfl⟩
 | cons t ts ih=>
  intro us r;cases r with
  | cons r1 r2=>obtain⟨tk,rfl⟩:=r1;obtain⟨l,rfl,e⟩:=ih r2;exact⟨(t,tk)::l,rfl,by rw[Hy,e]⟩
theorem EY:rS X "str.join" (fun x xs H Q=>∃z p ts,x=.str z/\xs=[.ref p]/\N8 X.K H p (ts.map V.str)/\JoinOk z ts=true/\Q (.str (Str.join z ts)) H):=by intro pins s σ H x xs v us Q I rx rs zz;obtain⟨z,p,ts,e1,e2,hq,hok,q⟩:=zz;subst e1 e2;obtain⟨t,rfl⟩:=rx;obtain⟨u,rfl,ru⟩:=Vals.one rs;cases (show u=Value.ref p from ru);obtain⟨its,r,pl,_⟩:=I.list hq;obtain⟨l,rfl,hl⟩:=V0 r;have ej:Txt.join z ts=Str.join z ts:=beq_iff_eq.mp (PyProof.Rows.join_plain_closes z ts);exact SC.join pl.isList hl hok fun t' k=>⟨.str _,H,I.tok k,⟨_,by rw[ej]⟩,q⟩
end
end L2
namespace SM
noncomputable def yF:List Dt->Option (List Str)
 | []=>some []
 | .str z::r=>(yF r).map fun ts=>z::ts
 | _::_=>none
theorem LX{K:Frag}{H:Hp}{ρ:Rg}:∀{ds:List Dt}{ts:List Str}{vs:List V},yF ds=some ts->G7 K H ρ ds vs->vs=ts.map V.str:=by
 intro ds
 induction ds with
 | nil=>intro ts vs e r;cases e;exact r.o8
 | cons d ds ih=>
  intro ts vs e r;obtain⟨v,w,rfl,r1,r2⟩:=G7.V7 r;cases d with
  | str z=>simp only[yF]at e;obtain⟨ts',e1,e2⟩:=Option.map_eq_some_iff.mp e;cases e2;rw[ih e1 r2,N7.mp r1];rfl
  | _=>simp[yF]at e
section
variable{X:Cx}{a b:Expr}{fa fb:RE}{apos cpos:Pos}
end
end SM
namespace L2
open PySem.W
def mS(C:Addr)(fl:Str)(c:Int):Sp:=fun vs H Q _=>∃a t0 y z,vs=[.ref a,y]/\H a=some (XO a C t0 none)/\Shows c y z/\
 ∀t1 dx,DA H a (XO a C t1 none) dx=none->Q .non (DA (DA (DA H a (XO a C t1 none)) dx (.xd [(fl,y)])) a (XO a C t1 (some dx)))
inductive pH(c:Int)(S8:Str):Expr->Prop
 | three {a b:Str} {j1 j2:Nat} {p1 p2 p3 p4 pos:Pos} (ha:a.length<=1000) (hb:b.length<=1000):pH c S8 (.JoinedStr [.Constant (.str a) j1 p1,.FormattedValue (.Name S8 p4) c none pos,.Constant (.str b) j2 p2] p3)
 | two {a:Str} {j1:Nat} {p1 p3 p4 pos:Pos} (ha:a.length<=1000):pH c S8 (.JoinedStr [.Constant (.str a) j1 p1,.FormattedValue (.Name S8 p4) c none pos] p3)
theorem l4{X:Cx}{c:Int}{S8:Str}{e:Expr}{te:TE}(t:pH c S8 e)(hc:c = -1\/c=114)(he:∀p,PE X (.Name S8 p) te):PE X e (tL c te):=by
 cases t with
 | three ha hb=>exact aY hc (he _) ha hb
 | two ha=>exact YX hc (he _) ha
theorem pQ{c:Int}{S8:Str}{e:Expr}(t:pH c S8 e)(es:List Expr)(env:Env):starEach (e::es) env=(false,eval e env)::starEach es env:=by cases t<;>rfl
section
variable{P:Program}{w:World}{K:Frag}{mg:Str->Option Value}{base:Heap}{qual B fl S8:Str}{st:Stmt}{f C S:Addr}{fd:FuncData}{k:Nat}{c:Int}{J:Expr}{p1 p2 p3 p4 p5 p6 p7 p8 p9:Pos}
theorem RZ {pl:Env->Sem Bool} (F:Z9 K "__init__" qual st f fd) (Sc:ZA ["self",S8] ["self",S8] (oA st))
 (hb:fC st=[.Expr (.Call (.Attribute (.Name B p1) "__init__" p2) [.Name "self" p3,J] [] p4) p5,.Assign [.Attribute (.Name "self" p6) fl p7] (.Name S8 p8) p9])
 (hJ:pH c S8 J) (hc:c = -1\/c=114) (hC:bF K C f=true) (hG:uI K C=true) (hN:findIn K (.ref C) fl=some none) (hS:aG K S=true) (hm:mg B=some (.ref S))
 (hs1:RK (oA st) "self") (hs2:RK (oA st) S8) (hd2:(S8==("__debug__" :Str))=false) (Bv:(S8==("__classdict__" :Str))=false) (Cv:(B==("__debug__" :Str))=false)
 (hg:∀(cdv:Value) (A:Around) (outer:List Env) (s:Shared) (H:Hp) (E:XK),Gl (iC TD P w K mg base ["self",S8] qual (oA st) f cdv A outer s H E).Y9 B)
 (ht:∀env,eval (.Call (.Attribute (.Name B p1) "__init__" p2) [.Name "self" p3,J] [] p4) env=(do
  let ov <- eval (.Name B p1) env
  standAt p2.atName
  let (f,first) <- holding [ov] (getMethod ov "__init__" (pl env))
  callWith p4 f first (backTo p4 (starEach [.Name "self" p3,J] env)) (backToKw p4 (keywordEach [] env)))):l8 P w K mg base TD (k+1) f fd ["self",S8] (mS C fl c):=by
 refine F.ok Sc (fun vs H Q E ⟨a,t0,y,z,e,_⟩=>by rw[e];rfl) fun cdv A outer s H vs Q E hr zz=>?_
 obtain⟨a,t0,y,z,ev,ea,sh,q⟩:=zz;have v0:∀p,PE (iC TD P w K mg base ["self",S8] qual (oA st) f cdv A outer s H E).Y9 (.Name "self" p) (iJ 0):=fun p=>xK rfl hs1 (by decide) (by decide)
 have v1:∀p,PE (iC TD P w K mg base ["self",S8] qual (oA st) f cdv A outer s H E).Y9 (.Name S8 p) (iJ 1):=fun p=>xK rfl hs2 hd2 Bv
 rw[hb];refine⟨_,oN (UQ (TY (pl:=pl (envOfC qual (oA st) s.heap.objs.size f cdv)) hS (hg cdv A outer s H E) hm (qC (v0 _) (qC (l4 hJ hc v1) XC (pQ hJ _ _)) (by rfl)) Cv (by rfl) (by rw[pQ hJ];rfl) ?_) (by rfl)) (ZJ (aZ (v0 _) (v1 _) (by rfl))),?_⟩
 · exact ht _
 · subst ev;refine⟨.ref a,rfl,y,rfl,z,sh,fun x=>⟨a,C,t0,x,f,rfl,ea,hC,fun t1=>⟨y,rfl,.ref a,rfl,a,C,t1,rfl,AB,hG,hN,fun dx hdx=>q t1 dx hdx⟩⟩⟩
end
end L2
namespace SM
noncomputable def kF(c:Int):Dt->Option (Sum Int Str)
 | .int i=>if c = -1/\i.natAbs<2^100 then some (.inl i)else none
 | .str z=>if c=114/\z.length<=1000/\∀n∈z.cps.toList,n<1000 then some (.inr z)else none
 | _=>none
theorem QZ{K:Frag}{H:Hp}{ρ:Rg}{c:Int}{d:Dt}{i:Sum Int Str}{v:V}(e:kF c d=some i)(r:J7 K H ρ d v):v=xV i/\∃z,Shows c v z:=by
 cases d with
 | int j=>
  simp only[kF]at e;obtain⟨⟨rfl,hj⟩,rfl⟩:=gE e;cases K7.mp r;refine⟨rfl,_,.int j ?_⟩;by_cases z:j.natAbs=0
  · rw[z];decide
  · exact Nat.lt_trans ((Nat.log2_lt z).mpr hj) (by decide)
 | str z=>
  simp only[kF]at e;obtain⟨⟨rfl,hl,hz⟩,rfl⟩:=gE e;cases N7.mp r;refine⟨rfl,_,.rep z ?_⟩;have:=PySem.StrLaws.reprText_len z fun n hn=>Nat.lt_trans (hz n hn) (by decide)
  omega
 | _=>simp[kF]at e
structure BH(P:Program)(w:World)(K:Frag)(mg:Str->Option Value)(base:Heap)(k:Nat)(x fl:Str)(c:Int):Prop where
 ex:∃C f fd ps,clsOf K x C/\bF K C f=true/\PySem.W.isFn K (.ref f)=true/\keepIn K (.ref C)=true/\l8 P w K mg base TD k f fd ps (mS C fl c)/\mg x=some (.ref C)/\Binds K fd ps []/\ps.length<=100
noncomputable def xD:Sum Int Str->Dt
 | .inl i=>.int i
 | .inr z=>.str z
def F7(x fl:Str)(g:RE):RE:=fun l h=>(g l h).bind fun r=>match r.1 with
 | .err y f i=>if y=x/\f=fl then some (xD i,r.2)else none
 | _=>none
section
variable{X:Cx}{x fl:Str}{c:Int}{k k':Nat}{e:Expr}{g:RE}{p pos p2:Pos}
noncomputable def sC(tab:List (Str×Bool))(g:RE):RE:=fun l h=>(g l h).bind fun r=>match r.1 with
 | .err y _ _=>(tab.lookup y).map fun b=>(.bl b,r.2)
 | _=>none
def zE(K:Frag)(D:Value)(tab:List (Str×Bool)):Prop:=∀y b,tab.lookup y=some b->∃C,clsOf K y C/\yE K C=true/\PySem.W.kitOne K (.ref C) D=some b
theorem xX {D:Value} {Dv:V} (hD:∀u,RelV Dv u->u=D):t8 X (.builtin "isinstance") (fun xs H Q=>∃a C dx b,xs=[.ref a,Dv]/\H a=some (XL a (.ref C) dx)/\(dx=none\/∃b fl y,dx=some b/\H b=some (.xd [(fl,y)]))/\yE X.K C=true/\PySem.W.kitOne X.K (.ref C) D=some b/\Q (.bl b) H):=by intro pins s σ H vs us Q I r zz;obtain⟨a,C,dx,b,ev,ea,ed,ec,ek,q⟩:=zz;subst ev;obtain⟨u1,u2,rfl,r1,r2⟩:=Vals.two r;cases (show u1=Value.ref a from r1);rw[hD u2 r2];exact yZ I ea ed ec ek fun tk=>⟨.bl b,H,I.tok tk,rfl,q⟩
theorem sQ {tab:List (Str×Bool)} {D:Value} {Dv:V} {e2:Expr} (hD:∀u,RelV Dv u->u=D) (hN:PE X e2 (tC Dv)) (ht:zE X.K D tab) (hg:Gl X "isinstance") (hm:X.mg "isinstance" =none) (ha:EM X e g) (hs:eB e=true) (hs2:eB e2=true) :
 EM X (.Call (.Name "isinstance" p) [e,e2] [] pos) (sC tab g):=by
 with_unfolding_all
  exact PE.imp (nN (xX hD) hg hm PyProof.Rows.boot_isinstance (qC ha (qC hN XC (gB hs2 _ _)) (gB hs _ _)) (he:=gB hs _ _) (hpl:=YF (by rw[all_cons,hs2];rfl))) fun σ H Q zz=>by
   obtain⟨ρ,l,h,d,h',S,L,e,k⟩:=zz;obtain⟨⟨d1,h1⟩,e1,e⟩:=eA e;refine⟨ρ,l,h,d1,h1,S,L,e1,fun ρ1 v H1 R1 S1 E1=>?_⟩;cases d1 with
   | err y f i=>dsimp only at e;obtain⟨b,q,e⟩:=Option.map_eq_some_iff.mp e;cases e;obtain⟨a,C,dx,z,c1,n1,q1,q2⟩:=O8.mp R1;obtain⟨C',c2,c3,c4⟩:=ht y b q;have cc:C'=C:=clsOf.inj c2 c1;subst cc;subst z;exact⟨a,C',dx,b,rfl,q1,q2.elim (fun w=>.inl w.2) (fun⟨b',w1,_,w2⟩=>.inr ⟨b',f,xV i,w1,w2⟩),c3,c4,k ρ1 _ H1 (L7.mpr rfl) S1 E1⟩
   | _=>cases e
theorem lZ {T:Str} {D:Addr} {tab:List (Str×Bool)} (hg:Gl X "isinstance") (hm:X.mg "isinstance" =none) (Zj:Gl X T) (Mq:X.mg T=some (.ref D)) (ht:zE X.K (.ref D) tab) (ha:EM X e g) (hdT:(T==("__debug__" :Str))=false:=by decide) (hs:eB e=true:=by rfl) :
 EM X (.Call (.Name "isinstance" p) [e,.Name T p2] [] pos) (sC tab g):=by
 have hN:PE X (.Name T p2) (tC (.ref D)):=fun pins s σ H Q I h=>uF I Zj Mq ⟨.ref D,H,I,rfl,h⟩ hdT
 exact sQ (Dv:=.ref D) (D:=.ref D) (fun u r=>r) hN ht hg hm ha hs rfl
theorem kZ {T:Str} {TT:String} {tab:List (Str×Bool)} (hg:Gl X "isinstance") (hm:X.mg "isinstance" =none) (Zj:Gl X T) (Mq:X.mg T=none) (hv:bootBuiltins T=some (.type TT)) (ht:zE X.K (.type TT) tab) (ha:EM X e g)
 (hnT:T ≠ "__name__" :=by decide) (hdT:(T==("__debug__" :Str))=false:=by decide) (hs:eB e=true:=by rfl) :
 EM X (.Call (.Name "isinstance" p) [e,.Name T p2] [] pos) (sC tab g):=
 sQ (Dv:=.ty TT) (D:=.type TT) (fun u r=>r) (RQ Zj Mq hv (v:=.ty TT) rfl hnT hdT) ht hg hm ha hs rfl
end
def vG(K:Frag)(C:Addr)(x qual fl:Str)(st:Stmt):Prop:=∃(f:Addr)(oc:Value)(od:Option Addr)(kV dc pm:Value)(an:Option Addr)(cd ct:Value)(sl:Array (Option Value)),
 nsIn K mainGlobals x=some (some (.ref C))/\findIn K (.ref C) "__init__" =some (some (.ref f))/\PySem.W.isFn K (.ref f)=true/\
 K.lookup f=some ⟨oc,od,.func (fnOf "__init__" qual (eE st) (fC st) (oA st) .none kV dc pm an cd ct),sl⟩/\PySem.W.codeIn K cd qual=true/\keepIn K (.ref f)=true/\
 bF K C f=true/\keepIn K (.ref C)=true/\yE K C=true/\findIn K (.ref C) fl=some none
structure uG(K:Frag)(mg:Str->Option Value)(x B qual fl S8:Str)(st:Stmt):Prop where
 ex:∃C f fd S,clsOf K x C/\bF K C f=true/\PySem.W.isFn K (.ref f)=true/\keepIn K (.ref C)=true/\yE K C=true/\findIn K (.ref C) fl=some none/\Z9 K "__init__" qual st f fd/\mg x=some (.ref C)/\
  Binds K fd ["self",S8] []/\aG K S=true/\mg B=some (.ref S)
structure UK(K:Frag)(mg:Str->Option Value)(T:Str)(tab:List (Str×Bool)):Prop where
 ex:∃D,mg T=some (.ref D)/\zE K (.ref D) tab
section
variable{K:Frag}{h:Heap}{mg:Str->Option Value}{x B qual fl S8 y:Str}{st:Stmt}{C S:Addr}{b:Bool}{tab:List (Str×Bool)}{D:Value}
theorem nK(X:K.In h)(G:h.Ns mainGlobals mg)(E:vG K C x qual fl st)(b1:nsIn K mainGlobals B=some (some (.ref S)))(b2:aG K S=true)
 (hb:∀(kV doc pm:Value) (an:Option Addr) (cdv ct:Value) (us:List Value),us.length=2->bindArgs (fnOf "__init__" qual (eE st) (fC st) (oA st) .none kV doc pm an cdv ct) ⟨us,[]⟩=pure ((["self",S8]:List Str).zip us)):uG K mg x B qual fl S8 st:=by
 obtain⟨f,oc,od,kV,dc,pm,an,cd,ct,sl,a,i,n,l,c,k,e1,e2,e3,e4⟩:=E;have F:=xI l c k;exact⟨⟨C,f,_,S,a,e1,n,e2,e3,e4,F,PySem.W.mg_of X G a,F.binds hb,b2,PySem.W.mg_of X G b1⟩⟩
theorem dG:zE K D []:=fun _ _ e=>by cases e
theorem CB(E:vG K C x qual fl st)(k:PySem.W.kitOne K (.ref C) D=some b)(r:zE K D tab):zE K D ((x,b)::tab):=fun y' b' e=>by
 obtain⟨f,oc,od,kV,dc,pm,an,cd,ct,sl,a,i,n,l,c,k',e1,e2,e3,e4⟩:=E;by_cases z:y'=x
 · subst z;have zb:(y'==y')=true:=beq_iff_eq.mpr rfl;simp only[List.lookup,zb]at e;cases e;exact⟨C,a,e3,k⟩
 · have zb:(y'==x)=false:=by rw[<- Bool.not_eq_true,beq_iff_eq];exact z
   simp only[List.lookup,zb]at e;exact r y' b' e
end
section
variable{P:Program}{w:World}{K:Frag}{mg:Str->Option Value}{base:Heap}{qual B fl S8 x:Str}{st:Stmt}{k:Nat}{c:Int}{J:Expr}{p1 p2 p3 p4 p5 p6 p7 p8 p9:Pos}
theorem MN {pl:Env->Sem Bool} (E:uG K mg x B qual fl S8 st) (Sc:ZA ["self",S8] ["self",S8] (oA st))
 (hb:fC st=[.Expr (.Call (.Attribute (.Name B p1) "__init__" p2) [.Name "self" p3,J] [] p4) p5,.Assign [.Attribute (.Name "self" p6) fl p7] (.Name S8 p8) p9])
 (hJ:pH c S8 J) (hc:c = -1\/c=114)
 (ht:∀env,eval (.Call (.Attribute (.Name B p1) "__init__" p2) [.Name "self" p3,J] [] p4) env=(do
  let ov <- eval (.Name B p1) env
  standAt p2.atName
  let (f,first) <- holding [ov] (getMethod ov "__init__" (pl env))
  callWith p4 f first (backTo p4 (starEach [.Name "self" p3,J] env)) (backToKw p4 (keywordEach [] env))))
 (hg:∀(f:Addr) (cdv:Value) (A:Around) (outer:List Env) (s:Shared) (H:Hp) (E:XK),Gl (iC TD P w K mg base ["self",S8] qual (oA st) f cdv A outer s H E).Y9 B)
 (hs1:RK (oA st) "self" :=by exact .inl rfl) (hs2:RK (oA st) S8:=by exact .inl rfl) (hd2:(S8==("__debug__" :Str))=false:=by decide) (Bv:(S8==("__classdict__" :Str))=false:=by decide) (Cv:(B==("__debug__" :Str))=false:=by decide) :
 BH P w K mg base (k+1) x fl c:=by
 obtain⟨C,f,fd,S,c1,c2,c3,c4,c5,c6,F,c7,c8,c9,Hw⟩:=E.ex;rw[yE,Bool.and_eq_true]at c5;exact⟨⟨C,f,fd,_,c1,c2,c3,c4,RZ F Sc hb hJ hc c2 c5.1 c6 c9 Hw hs1 hs2 hd2 Bv Cv (hg f) ht,c7,c8,by show 2<=100;decide⟩⟩
end
section
variable{X:Cx}{e:Expr}{g:RE}{p pos p2:Pos}
theorem kH {T:Str} {tab:List (Str×Bool)} (hg:Gl X "isinstance") (hm:X.mg "isinstance" =none) (Zj:Gl X T) (t:UK X.K X.mg T tab) (ha:EM X e g) (hdT:(T==("__debug__" :Str))=false:=by decide) (hs:eB e=true:=by rfl) :
 EM X (.Call (.Name "isinstance" p) [e,.Name T p2] [] pos) (sC tab g):=by
 obtain⟨D,h1,h2⟩:=t.ex;exact lZ hg hm Zj h1 h2 ha hdT hs
end
end SM
namespace L2
noncomputable def j9(h:Heap)(e T:Addr)(cls:Value)(dx:Option Addr)(a0 fl:Value):Prop:=
 ∃oe vs oT ts,h.get? e=some oe/\(oe.cls=cls/\oe.dict=dx)/\(oe.data=.fields vs/\vs[0]?=some a0/\vs[1]?=some (.ref T))/\T≠e/\h.get? T=some oT/\oT.data=.fields ts/\ts[3]?=some fl
abbrev IS(h:Heap)(e T:Addr)(cls:Value)(dx:Option Addr)(a0:Value):Prop:=j9 h e T cls dx a0 .none
structure G9(fs xs:List Addr)(h h':Heap):Prop where
 keep:∀b o,h.get? b=some o->b∉fs->b∉xs->h'.get? b=some o
 slot:∀b o,h.get? b=some o->b∉xs->∃sl,h'.get? b=some { o with slots:=sl }
theorem G9.trans{fs xs ys:List Addr}{h h1 h2:Heap}(a:G9 fs xs h h1)(b:G9 fs ys h1 h2):G9 fs (xs++ys) h h2 where
 keep:=fun c o q n m=>b.keep c o (a.keep c o q n fun z=>m (mem_append_left _ z)) n fun z=>m (mem_append_right _ z)
 slot:=fun c o q m=>by
  obtain⟨sl,e⟩:=a.slot c o q fun z=>m (mem_append_left _ z)
  obtain⟨sl',e'⟩:=b.slot c _ e fun z=>m (mem_append_right _ z)
  exact⟨sl',e'⟩
section
variable{M:Model}{A:Around}{E:Value->Shared->Prop}{s:Shared}{base:Heap}{env:Env}{outer:List Env}{L e:Addr}{Q:Unit->Shared->Prop}
theorem kR{oe:Obj}{vs:Array Value}{a0 hd0:Value}{hn:Bool}(fr:A.frames=some (env::outer))(ff:s.heap.FunFrames base (env::outer))(lf:env.frame=some L)
 (ho:s.heap.get? e=some oe) (dd:oe.data=.fields vs) (sz:1<vs.size) (v0:vs[0]?=some a0)
 (h:∀h' T,s.heap.objs.size<=T->j9 h' e T oe.cls oe.dict a0 (rawInt L)->G9 (GF (env::outer)) [e] s.heap h'->Q () { s with heap:=h' }) :
 wpAny M A (do let a <- frameOf env;let pl <- entryPlaceOf L hn;let b <- EntryCells.newEntry hd0 a .none (rawInt L) .none pl;setField (.ref e) 1 b) Q E s:=by
 have out:e∉(env::outer).filterMap (·.frame):=fun hm=>by obtain⟨_,o,h1,h2⟩:=ff.mem hm;rw[ho]at h1;cases h1;exact h2 vs dd
 refine wpAny_bind (wpAny_frameOf_fun fr ff lf fun g so=>wpAny_bind (wpAny_entryPlaceOf fun pl ip=>?_));unfold EntryCells.newEntry newFields;refine wpAny_bind (wpAny_newObj_type ?_ (ip.sizeOk5 _ _ _ _ _));have e1:g.get? e=some oe:=(so.2.1 e out).trans ho;have e2:=Heap.get?_push_of_some (h:=g) { cls:=.type "traceback",dict:=none,data:=.fields ([hd0,.ref L,.none,rawInt L,.none]++(if pl.isEmpty then List.replicate 6 Value.none else pl)).toArray } e1;have ne:g.objs.size≠e:=Nat.ne_of_gt (Heap.lt_size e1);have d3:=Obj.data_mapFields dd (·.setIfInBounds 1 (Value.ref g.objs.size));have e3:=Heap.get?_update_self (Obj.mapFields (·.setIfInBounds 1 (Value.ref g.objs.size))) e2 (Obj.isFreed_of_fields d3);have t3:=(Heap.get?_update_other (g.push { cls:=.type "traceback",dict:=none,data:=.fields ([hd0,.ref L,.none,rawInt L,.none]++(if pl.isEmpty then List.replicate 6 Value.none else pl)).toArray }) (Obj.mapFields (·.setIfInBounds 1 (Value.ref g.objs.size))) (Ne.symm ne)).trans (Heap.get?_push_size g rfl);refine wpAny_setField e2 dd sz (h _ g.objs.size (Nat.le_of_eq so.1.symm) ⟨_,_,_,_,e3,⟨Obj.cls_mapFields _ _,by unfold Obj.mapFields;split<;>rfl⟩,⟨d3,by rw[Array.getElem?_setIfInBounds_ne (by decide)];exact v0,by simp[sz]⟩,ne,t3,rfl,by first | (simp;done) | (rcases ip with rfl | ⟨_,_,_,_,_,_,_,rfl⟩<;>simp)⟩ ?_);have kp:∀b o,b≠e->g.get? b=some o->((g.push { cls:=.type "traceback",dict:=none,data:=.fields ([hd0,.ref L,.none,rawInt L,.none]++(if pl.isEmpty then List.replicate 6 Value.none else pl)).toArray }).update e (Obj.mapFields (·.setIfInBounds 1 (Value.ref g.objs.size)))).get? b=some o:=fun b o nb hb=>by rw[Heap.get?_update_other _ _ (Ne.symm nb)];exact Heap.get?_push_of_some _ hb
 refine⟨fun b o q n m=>kp b o (fun z=>m (by simp[z])) ((so.2.1 b n).trans q),fun b o q m=>?_⟩;obtain⟨sl,z⟩:=so.2.2 b o q;exact⟨sl,kp b _ (fun z=>m (by simp[z])) z⟩
theorem sV{oe:Obj}{vs:Array Value}{a0:Value}(fr:A.frames=some (env::outer))(ff:s.heap.FunFrames base (env::outer))(lf:env.frame=some L)
 (ho:s.heap.get? e=some oe) (dd:oe.data=.fields vs) (v1:vs[1]?=some .none) (v0:vs[0]?=some a0)
 (h:∀h' T,s.heap.objs.size<=T->j9 h' e T oe.cls oe.dict a0 (rawInt L)->G9 (GF (env::outer)) [e] s.heap h'->Q () { s with heap:=h' }):wpAny M A (noteFrame (.ref e) env) Q E s:=by
 unfold noteFrame;simp only[lf];refine wpAny_bind (wpAny_field ho dd v1 ?_);rw[if_neg (by decide)];exact kR fr ff lf ho dd (Array.getElem?_eq_some_iff.mp v1).1 v0 h
theorem qX{T:Addr}{cls a0:Value}{dx:Option Addr}(fr:A.frames=some (env::outer))(ff:s.heap.FunFrames base (env::outer))(lf:env.frame=some L)(a:IS s.heap e T cls dx a0)
 (h:∀h' T',s.heap.objs.size<=T'->j9 h' e T' cls dx a0 (rawInt L)->G9 (GF (env::outer)) [T,e] s.heap h'->Q () { s with heap:=h' }):wpAny M A (noteFrame (.ref e) env) Q E s:=by
 obtain⟨oe,vs,oT,ts,he,⟨c1,c2⟩,⟨dd,v0,v1⟩,ne,hT,dT,t3⟩:=a;subst c1 c2;unfold noteFrame;simp only[lf];refine wpAny_bind (wpAny_field he dd v1 ?_);rw[if_pos (show(Value.ref T !=Value.none)=true from by simp)];refine wpAny_bind (wpAny_field hT dT t3 ?_);rw[if_neg (show ¬((Value.none==rawInt L)=true)from by simp[rawInt])];refine wpAny_bind (wpAny_setField hT dT (Array.getElem?_eq_some_iff.mp t3).1 ?_);have ot:∀b,b≠T->(s.heap.update T (Obj.mapFields (·.setIfInBounds 3 Value.none))).get? b=s.heap.get? b:=fun b hb=>Heap.get?_update_other _ _ (Ne.symm hb)
 have nr:∀b o,s.heap.get? b=some o->(∀vs,o.data≠.fields vs)->b≠T:=fun b o hb hnf q=>by rw[q,hT]at hb;cases hb;exact hnf ts dT
 refine kR fr (ff.of_keeps fun b o hb hnf=>⟨o,(ot b (nr b o hb hnf)).trans hb,rfl⟩) lf ((ot e (Ne.symm ne)).trans he) dd (Array.getElem?_eq_some_iff.mp v1).1 v0 fun h' T' lt a n=>?_
 refine h h' T' (by rw[<- Heap.size_update s.heap T (Obj.mapFields (·.setIfInBounds 3 Value.none))];exact lt) a ?_;exact G9.trans (xs:=[T]) (ys:=[e]) ⟨fun b o q _ m=>(ot b fun z=>m (by simp[z])).trans q,fun b o q m=>⟨o.slots,(ot b fun z=>m (by simp[z])).trans q⟩⟩ n
end
theorem pS{P:Program}{w:World}{H:Hp}{h:Heap}{e:Addr}{cls:Value}{dx:Option Addr}(x:∃oe vs,h.get? e=some oe/\(oe.cls=cls/\oe.dict=dx)/\oe.data=.fields vs):Y7 P w H h e (XL e cls dx):=by obtain⟨oe,vs,a,b,c⟩:=x;exact⟨⟨oe,vs,a,b,c⟩,⟨oe,a⟩,fun _ _ ⟨o,v,a,b,c⟩ k=>⟨o,v,k _ a,b,c⟩⟩
def J3(s0:Nat)(L:Addr)(ps:List (Addr×Obj))(H:Hp)(h:Heap)(e:Addr)(cls:Value)(dx:Option Addr)(a0:Value):Prop:=
 (∃oe vs,h.get? e=some oe/\(oe.cls=cls/\oe.dict=dx)/\oe.data=.fields vs/\vs[0]?=some a0/\vs[1]?=some .none)\/
 ∃T fl,j9 h e T cls dx a0 fl/\(fl=.none\/fl=rawInt L)/\s0<=T/\H T=none/\∀p∈ps,p.1≠T
def AH(P:Program)(w:World):FF:=fun outer H s E v s'=>∃e T cls dx a0 H',v=.ref e/\s'.os=s.os/\AllBare s'.gens/\Un (GF outer) [] H H' s.heap s'.heap/\Z8 P w H' s'.heap/\H' e=some (XL e cls dx)/\
 s.heap.objs.size<=T/\H' T=none/\IS s'.heap e T cls dx a0/\E cls dx H'
def Fl(X:Cx)(S:List (Addr×Obj)->St->Prop)(E:XK)(v:Value)(s':Shared):Prop:=∃e cls dx a0 pins σ H',v=.ref e/\S pins σ/\Inv X pins σ H' s'/\H' e=some (XL e cls dx)/\J3 X.s₀.heap.objs.size X.env.locals (X.pn++pins) H' s'.heap e cls dx a0/\E cls dx H'
theorem j9.obj{h:Heap}{e T:Addr}{cls a0 fl:Value}{dx:Option Addr}(a:j9 h e T cls dx a0 fl):∃oe vs,h.get? e=some oe/\(oe.cls=cls/\oe.dict=dx)/\oe.data=.fields vs:=by obtain⟨oe,vs,_,_,h1,h2,⟨h3,_⟩,_⟩:=a;exact⟨oe,vs,h1,h2,h3⟩
theorem j9.tr{h:Heap}{e T:Addr}{cls a0 fl:Value}{dx:Option Addr}(a:j9 h e T cls dx a0 fl):∃o vs,h.get? T=some o/\o.data=.fields vs:=by obtain⟨_,_,oT,ts,_,_,_,_,h1,h2,_⟩:=a;exact⟨oT,ts,h1,h2⟩
section
variable{X:Cx}{pins:List (Addr×Obj)}{σ:St}{H:Hp}{s:Shared}{h':Heap}{e:Addr}{cls:Value}{dx:Option Addr}{xs:List Addr}
theorem Inv.near(I:Inv X pins σ H s)(he:H e=some (XL e cls dx))(n:G9 (GF X.stack) xs s.heap h')(hx:∀b∈xs,b=e\/(X.s₀.heap.objs.size<=b/\H b=none/\(∃o vs,s.heap.get? b=some o/\o.data=.fields vs)/\∀p∈X.pn++pins,p.1≠b))
 (ob:∃oe vs,h'.get? e=some oe/\(oe.cls=cls/\oe.dict=dx)/\oe.data=.fields vs):Inv X pins σ H { s with heap:=h' }:=by
 obtain⟨m,⟨oL,es,ep,hoL,hdL,rL⟩,_⟩:=id I.loc;have Rq:∀b∈xs,b≠X.env.locals:=fun b hb z=>by
  rcases hx b hb with q | ⟨_,_,⟨o,vs,ho,hd⟩,_⟩
  · have:=I.free;rw[<- z,q,he]at this;cases this
  · rw[z,hoL]at ho;cases ho;rw[hdL]at hd;cases hd
 obtain⟨sl,hL⟩:=n.slot _ _ hoL fun z=>Rq _ z rfl
 refine I.step (g':=s.gens) (d':=s.drawn) (t':=s.toks) (ch:=xs.filter fun b=>decide (b≠e)) (fun b hb=>?_) (fun b o h1 h2 h3 h4 h5=>?_) (fun b o h1 h2 h3 h4 h5=>?_) (fun b o _ _ z=>z) (fun b o h3 h4=>?_) (fun _ _ z=>z) (fun _ _ _ z=>z) (fun _ ps z=>⟨#[],by rw[z];simp⟩) (fun m' hm=>?_) (fun b u q=>?_) I.bare
 · obtain⟨h1,h2⟩:=mem_filter.mp hb;have h2:=of_decide_eq_true h2;rcases hx b h1 with z | ⟨a1,a2,⟨o,vs,ho,hd⟩,a3⟩
   · exact absurd z h2
   · refine⟨.inr a1,Rq b h1,fun x c q z=>?_,fun p hp'=>a3 p hp'⟩;obtain⟨v,oc,hoc,hdc⟩:=I.cell x c q;rw[z,ho]at hoc;cases hoc;rw[hd]at hdc;cases hdc
 · have nx:b∉xs:=fun z=>h3 (mem_filter.mpr ⟨z,decide_eq_true fun z=>by rw[z,he]at h5;cases h5⟩)
   exact n.keep b o h4 (fun z=>by rcases mem_cons.mp (I.P9 b z)with q | q;exact h1 q;exact h2 q) nx
 · have nx:b∉xs:=fun z=>h3 (mem_filter.mpr ⟨z,decide_eq_true fun z=>by rw[z,he]at h5;cases h5⟩)
   exact n.slot b o h4 nx
 · by_cases z:b=e
   · obtain⟨oe,_,q,_⟩:=ob;exact⟨oe,by rw[z];exact q⟩
   · obtain⟨sl,q⟩:=n.slot b o h4 fun y=>h3 (mem_filter.mpr ⟨y,decide_eq_true z⟩)
     exact⟨_,q⟩
 · obtain⟨o',es',ep',ho',r'⟩:=hm;rw[hoL]at ho';cases ho';exact⟨_,es',ep',hL,r'⟩
 · by_cases z:b=e
   · subst z;rw[he]at q;cases q;exact pS ob
   · refine(I.hok b u q).stay (fun c v hc r=>?_) (fun _ q=>q) fun _ _ q=>q
     have tr:H c≠none:=fun y=>by
      rcases hc with w | w
      · rw[w,q]at y;cases y
      · rw[w]at y;cases y
     refine n.keep c v r (fun y=>tr (I.O9 c y)) fun y=>?_
     rcases hx c y with w | ⟨_,w,_⟩
     · rcases hc with x | x
       · exact z (x.symm.trans w)
       · rw[w,he]at x;cases x
     · exact tr w
end
section
variable{X:Cx}{S:List (Addr×Obj)->St->Prop}{E:XK}
structure fH(X:Cx):Prop where
 stk:X.stack=X.env::X.outer
 fr:X.env.frame=some X.env.locals
 ex:X.ex=[]
theorem Fl.k8{E':Value->Shared->Prop}{v:Value}{s:Shared}(h:Fl (X.wish E') S E v s):Fl X S E v s:=by obtain⟨e,cls,dx,a0,pins,σ,H,r,z,I,q⟩:=h;exact⟨e,cls,dx,a0,pins,σ,H,r,z,I.k8,q⟩
theorem Fl.noted(B:fH X){v:Value}{s:Shared}{Q:Unit->Shared->Prop}{E1:Value->Shared->Prop}{A:Around}(hA:A.frames=some X.stack)(f:Fl X S E v s)
 (h:∀e T cls dx a0 pins σ H' h',v=.ref e->S pins σ->Inv X pins σ H' { s with heap:=h' }->H' e=some (XL e cls dx)->j9 h' e T cls dx a0 (rawInt X.env.locals)->(X.s₀.heap.objs.size<=T/\H' T=none/\∀p∈X.pn++pins,p.1≠T)->E cls dx H'->Q () { s with heap:=h' }) :
 wpAny (model X.prog X.w) A (noteFrame v X.env) Q E1 s:=by
 obtain⟨e,cls,dx,a0,pins,σ,H',rfl,zS,I,he,w,q⟩:=f;have pl:∀T,s.heap.objs.size<=T->∀p∈X.pn++pins,p.1≠T:=fun T lt p hp=>Nat.ne_of_lt (Nat.lt_of_lt_of_le (Heap.lt_size (I.pin p hp).1) lt)
 have ff:=I.stack;rw[B.stk]at hA ff;rcases w with⟨oe,vs,ho,⟨rfl,rfl⟩,hd,v0,v1⟩ | ⟨T,fl,a,hf,lt,hT,hP⟩
 · refine sV hA ff B.fr ho hd v1 v0 fun h' T lt a n=>?_
   exact h e T _ _ a0 pins σ H' h' rfl zS (I.near (xs:=[e]) he (by rw[B.stk];exact n) (fun b hb=>.inl (by simpa using hb)) a.obj) he a ⟨Nat.le_trans I.sz lt,I.hok.fresh lt,pl T lt⟩ q
 · rcases hf with rfl | rfl
   · refine qX hA ff B.fr a fun h' T' lt' a' n=>?_
     exact h e T' _ _ a0 pins σ H' h' rfl zS (I.near (xs:=[T,e]) he (by rw[B.stk];exact n) (fun b hb=>by
      rcases mem_cons.mp hb with z | z
      · subst z;exact .inr ⟨lt,hT,a.tr,hP⟩
      · exact .inl (by simpa using z)) a'.obj) he a' ⟨Nat.le_trans I.sz lt',I.hok.fresh lt',pl T' lt'⟩ q
   · obtain⟨oe,vs,oT,ts,h1,h2,⟨h3,h4,h5⟩,h6,h7,h8,h9⟩:=id a;unfold noteFrame;simp only[B.fr];refine wpAny_bind (wpAny_field h1 h3 h5 ?_);rw[if_pos (show(Value.ref T !=Value.none)=true from by simp)];refine wpAny_bind (wpAny_field h7 h8 h9 ?_);rw[if_pos (show(rawInt X.env.locals==rawInt X.env.locals)=true from by simp)];exact wpAny_pure (h e T cls dx a0 pins σ H' s.heap rfl zS I he a ⟨lt,hT,hP⟩ q)
end
section
variable{M:Model}{A:Around}{E1:Value->Shared->Prop}{s:Shared}{e:Addr}{Q:Unit->Shared->Prop}
theorem zX{T:Addr}{cls a0 fl:Value}{dx:Option Addr}(f:Option Addr)(a:j9 s.heap e T cls dx a0 fl)(h:∀h',j9 h' e T cls dx a0 (f.elim Value.none fun f=>rawInt f)->(∀fs,G9 fs [T] s.heap h')->Q () { s with heap:=h' }):wpAny M A (setFlight (.ref e) f) Q E1 s:=by
 obtain⟨oe,vs,oT,ts,he,c,⟨dd,v0,v1⟩,ne,hT,dT,t3⟩:=a;have sz:3<ts.size:=(Array.getElem?_eq_some_iff.mp t3).1;have ot:∀b,b≠T->(s.heap.update T (Obj.mapFields (·.setIfInBounds 3 (f.elim Value.none fun f=>rawInt f)))).get? b=s.heap.get? b:=fun b hb=>Heap.get?_update_other _ _ (Ne.symm hb)
 unfold setFlight;refine wpAny_bind (wpAny_field he dd v1 ?_);rw[if_pos (show(Value.ref T !=Value.none)=true from by simp)];exact wpAny_setField hT dT sz (h _ ⟨oe,vs,_,_,(ot e (Ne.symm ne)).trans he,c,⟨dd,v0,v1⟩,ne,Heap.get?_update_self _ hT (Obj.isFreed_of_fields (Obj.data_mapFields dT _)),Obj.data_mapFields dT _,by simp[sz]⟩ (fun fs=>⟨fun b o q _ m=>(ot b fun z=>m (by simp[z])).trans q,fun b o q m=>⟨o.slots,(ot b fun z=>m (by simp[z])).trans q⟩⟩))
end
section
variable{X:Cx}{S:List (Addr×Obj)->St->Prop}{E:XK}
theorem uK{M:Model}{A:Around}{E1:Value->Shared->Prop}{s:Shared}{Q:Unit->Shared->Prop}{e T:Addr}{cls a0 fl:Value}{dx:Option Addr}{pins:List (Addr×Obj)}{σ:St}{H:Hp}(f:Option Addr)(I:Inv X pins σ H s)(he:H e=some (XL e cls dx))(a:j9 s.heap e T cls dx a0 fl)(lt:X.s₀.heap.objs.size<=T/\H T=none/\∀p∈X.pn++pins,p.1≠T)
 (h:∀h',Inv X pins σ H { s with heap:=h' }->j9 h' e T cls dx a0 (f.elim Value.none fun f=>rawInt f)->Q () { s with heap:=h' }):wpAny M A (setFlight (.ref e) f) Q E1 s:=by
 refine zX f a fun h' a' n=>h h' (I.near (xs:=[T]) he (n _) (fun b hb=>?_) a'.obj) a'
 have z:b=T:=by simpa using hb
 subst z;exact .inr ⟨lt.1,lt.2.1,a.tr,lt.2.2⟩
theorem VZ(B:fH X):PassesOwn (model X.prog X.w) X.A X.env (Fl X S E):=fun v s f=>by
 have ok:X.A.frames=some X.stack:=by obtain⟨_,_,_,_,_,_,_,_,_,I,_⟩:=id f;exact I.ok.frames
 refine f.noted B ok fun e T cls dx a0 pins σ H' h' hv zS I he a lt q=>?_
 subst hv;show wpAny _ _ _ _ _ _;obtain⟨oe,vs,oT,ts,h1,h2,⟨h3,h4,h5⟩,h6,h7,h8,h9⟩:=id a;refine wpAny_bind (wpAny_field h1 h3 h5 ?_);rw[if_neg (show ¬((Value.ref T==Value.none)=true)from by simp)];refine uK X.env.frame I he a lt fun h2 I2 a2=>?_
 rw[B.fr]at a2;exact⟨e,cls,dx,a0,pins,σ,H',rfl,zS,I2,he,.inr ⟨T,_,a2,.inr rfl,lt⟩,q⟩
theorem sR{pins:List (Addr×Obj)}{σ:St}{H:Hp}{s s':Shared}{v:Value}(I:Inv X pins σ H s)(zS:S pins σ)(h:AH X.prog X.w X.stack H s E v s'):Fl X S E v s':=by obtain⟨e,T,cls,dx,a0,H',rfl,os,bare,un,hok,he,lt,hT,a,q⟩:=h;have I2:=I.call' os un hok bare (fun b z=>absurd z (by simp));exact⟨e,cls,dx,a0,pins,σ,H',rfl,zS,I2,he,.inr ⟨T,_,a,.inl rfl,Nat.le_trans I.sz lt,hT,fun p hp=>Nat.ne_of_lt (Nat.lt_of_lt_of_le (Heap.lt_size (I.pin p hp).1) lt)⟩,q⟩
theorem pW:bE (AH X.prog X.w) (X.wish (Fl X (fun _ _=>True) E)) E:=fun _ _ _ _ _ _ I h=>sR I.k8 trivial h
theorem YW{pins:List (Addr×Obj)}{σ:St}{H:Hp}{s:Shared}{a:Addr}{oe:Obj}{vs:Array Value}{a0:Value}(I:Inv X pins σ H s)(zS:S pins σ)(mu:GO (H a))(ho:s.heap.get? a=some oe)(hd:oe.data=.fields vs)(v0:vs[0]?=some a0)(v1:vs[1]?=some .none)
 (q:E oe.cls oe.dict (DA H a (XL a oe.cls oe.dict))):Fl X S E (.ref a) s:=by
 have I2:=I.write (x:=a) (e:=a) (o:=XL a oe.cls oe.dict) (h':=s.heap) (t':=s.toks) mu (.inl rfl) (fun b u _ z=>z) ⟨_,ho⟩ (pS ⟨oe,vs,ho,⟨rfl,rfl⟩,hd⟩);exact⟨a,_,_,a0,pins,σ,_,rfl,zS,I2,AB,.inl ⟨oe,vs,ho,⟨rfl,rfl⟩,hd,v0,v1⟩,q⟩
end
theorem XW{P:Program}{w:World}{K:Frag}{mg:Str->Option Value}{base:Heap}{N:List Str}{qual:Str}{scope:Scope}{f:Addr}{cd:Value}{A:Around}{outer:List Env}{s s':Shared}{H:Hp}{E:XK}{v:Value}
 {S:List (Addr×Obj)->St->Prop} (h:Fl (iC (AH P w) P w K mg base N qual scope f cd A outer s H E) S E v s'):(iC (AH P w) P w K mg base N qual scope f cd A outer s H E).xe v s':=by
 have B:fH (iC (AH P w) P w K mg base N qual scope f cd A outer s H E):=⟨rfl,rfl,rfl⟩;have fr:(A.deeper (envOfC qual scope s.heap.objs.size f cd)).frames=some (envOfC qual scope s.heap.objs.size f cd::outer):=by obtain⟨_,_,_,_,_,_,_,_,_,I,_⟩:=id h;exact I.ok.frames
 show wpAny _ _ (leaving _ _) _ _ _;unfold leaving;refine wpAny_bind (h.noted B fr fun e T cls dx a0 pins σ H' h' hv zS I he a lt q=>?_);subst hv;refine uK none I he a lt fun h2 I2 a2=>?_
 exact⟨e,T,cls,dx,a0,H',rfl,I2.os,I2.bare,I2.base,I2.hok,he,lt.1,lt.2.1,a2,q⟩
open PySem.W
section
variable{X:Cx}{pins:List (Addr×Obj)}{σ:St}{H:Hp}{s:Shared}
theorem pX{M:Model}{A:Around}{E:Value->Shared->Prop}{j:Nat}{n:Str}{v:V}{Q:Unit->Shared->Prop}(I:Inv X pins σ H s)(hN:X.N.Nodup)(hj:X.N[j]?=some n)(hk:X.env.scope.names.lookup n=some .local)(hv:σ[j]?=some (some v))
 (h:∀s',Inv X pins (σ.set j none) H s'->Q () s'):wpAny M A (unbindName X.env n) Q E s:=by
 obtain⟨m,hn,hl⟩:=id I.loc;have hcls:(X.env.scope.kind==.class || (X.env.scope.kind==.module&&X.env.locals !=X.env.globals))=false:=by rw[I.ok.kind];rfl
 obtain⟨u,_,lk⟩:=hl j n v hj hv (.inl hk);have hm:m n=some u:=by
  rcases lk with⟨_,z⟩ | ⟨z,_⟩
  · exact z
  · have e:X.env.kindOf n=some .local:=hk;rw[e]at z;rcases z with z | z<;>cases z
 obtain⟨oL,_,_,hoL,_⟩:=id hn;refine wpAny_unbindName_local hk hn hm hcls fun h' u' hn' hs=>?_
 have tracked:Z8 X.prog X.w H h':=fun b ob e=>by
  refine(I.hok b ob e).stay (fun c w' hc q=>(hs.2 c ?_).trans q) (fun _ q=>q) fun _ _ q=>q
  rintro rfl;rcases hc with rfl | hc
  · rw[I.free]at e;cases e
  · rw[I.free]at hc;cases hc
 have ne:∀b o,X.s₀.heap.get? b=some o->b≠X.env.locals:=fun b o e=>Nat.ne_of_lt (Nat.lt_of_lt_of_le (Heap.lt_size e) I.ok.above)
 refine h _ ⟨I.ok,I.os,I.bare,⟨fun b o e n hb hx=>(hs.2 b (ne b o e)).trans (I.base.keep b o e n hb hx),fun b o e n hb hx=>?_,I.base.free,fun b o e hx=>?_,I.base.tups,I.base.Y8,I.base.n9⟩,⟨_,hn',fun i y v' e1 e2 e3=>?_⟩,fun y c e=>?_,I.free,I.C8,fun p hp=>?_,tracked,by simpa using I.len⟩
 · obtain⟨sl,e1⟩:=I.base.slot b o e n hb hx;exact⟨sl,(hs.2 b (ne b o e)).trans e1⟩
 · obtain⟨o',e1⟩:=I.base.there b o e hx;exact⟨o',(hs.2 b (ne b o e)).trans e1⟩
 · by_cases z:i=j
   · subst z;have jl:=(Sy hv).1;rw[getElem?_set_self jl]at e2;cases e2
   · rw[getElem?_set_ne (Ne.symm z)]at e2;obtain⟨u',r',q⟩:=hl i y v' e1 e2 e3;refine⟨u',r',?_⟩;rcases q with⟨k,e⟩ | ⟨k,c,e,y'⟩
     · refine .inl ⟨k,?_⟩;have:y≠n:=fun e=>z (kN hN e1 (e ▸ hj))
       simp[this,e]
     · exact .inr ⟨k,c,e,y'.sameBut hs (I.Nj y c e)⟩
 · obtain⟨w',z⟩:=I.cell y c e;exact⟨w',z.sameBut hs (I.Nj y c e)⟩
 · obtain⟨e,n,ne,nf,d⟩:=I.pin p hp;exact⟨(hs.2 p.1 ne).trans e,n,ne,nf,d⟩
end
noncomputable abbrev Cx.hd(X:Cx)(v:Value):Cx:={ X with A:=X.A.mark (some v),calm:=false }
section
variable{X:Cx}{pins:List (Addr×Obj)}{σ:St}{H:Hp}{s:Shared}{v:Value}
theorem Cx.Ok.hd'(ok:X.Ok)(v:Value):(X.hd v).Ok:=
 ⟨ok.mod,ok.kind,ok.glob,ok.blt,ok.above,ok.inj,ok.has,ok.cab,(fun z=>nomatch z),ok.frames,ok.stk,ok.Gq,ok.bs,ok.Mj,ok.nj,ok.mj,ok.q9,ok.Tj⟩
theorem Inv.hd(I:Inv X pins σ H s)(v:Value):Inv (X.hd v) pins σ H s:=⟨I.ok.hd' v,I.os,I.bare,I.base,I.loc,I.cell,I.free,I.C8,I.pin,I.hok,I.len⟩
theorem Inv.Qv(ok:X.Ok)(I:Inv (X.hd v) pins σ H s):Inv X pins σ H s:=⟨ok,I.os,I.bare,I.base,I.loc,I.cell,I.free,I.C8,I.pin,I.hok,I.len⟩
end
section
variable{X:Cx}{pins:List (Addr×Obj)}{σ:St}{H:Hp}{s:Shared}{e T C0:Addr}{cls a0:Value}{dx:Option Addr}{i j:Nat}{x n cn:Str}{px pn pa pc ph:Pos}{Q:Flow->Shared->Prop}
theorem CY(I:Inv X pins σ H s)(he:H e=some (XL e cls dx))(a:IS s.heap e T cls dx a0)(lt:X.s₀.heap.objs.size<=T/\H T=none/\∀p∈X.pn++pins,p.1≠T)
 (hg:Gl X cn) (hm:X.mg cn=some (.ref C0)) (hx:exmOne X.K cls (.ref C0)=some true) (hN:X.N.Nodup) (hi:X.N[i]?=some x) (hj:X.N[j]?=some n) (hij:i≠j) (kx:X.env.scope.names.lookup x=some .local) (kn:X.env.scope.names.lookup n=some .local)
 (hQ:∀s',Inv X pins ((σ.set i (some (.ref e))).set j none) H s'->Q .next s')
 (hs:swapsWith (.Name n pn) (some (.Name x px)) pa.line X.env=pure false:=by rfl) (hdc:(cn==("__debug__" :Str))=false:=by decide) (hd1:(n==("__debug__" :Str))=false:=by decide) (hd2:(n==("__classdict__" :Str))=false:=by decide) :
 wpAny (model X.prog X.w) X.A (handleBy (.ref e) X.env [.ExceptHandler (some (.Name cn pc)) (some n) [.Assign [.Name x px] (.Name n pn) pa] ph]) Q X.xe s:=by
 have jl:j<σ.length:=by rw[I.len];exact(Sy hj).1
 refine wpAny_handleBy_cons (codeAny_handlers_test (uF (X:=X.hd (.ref e)) (I.hd _) hg hm ?_ hdc)) (by intro q;cases q);obtain⟨oe,vs,h1,⟨h2,_⟩,h3⟩:=a.obj;have LT:Looks (model X.prog X.w) s.heap (typeOf (.ref e)) cls:=h2 ▸ (Looks.ld h1).andThen .now;refine(exm_one I.R8 LT hx).here ?_;show codeAny _ _ _ _ _;refine codeAny_handlers_suite_as (uK none I he a lt fun h' I1 a1=>?_);refine QJ (v:=.ref e) I1 hN hj (.inl kn) rfl (fun s2 I2=>?_) (.inr kn);have P:F9 (X.hd (.ref e)).Y9 [.Assign [.Name x px] (.Name n pn) pa] (gJ (iJ j) (EI i)):=ZJ (aO (X:=(X.hd (.ref e)).Y9) hN hi (.inl kx) (xK hj (.inl kn) hd1 hd2) hs (.inr kx));refine wpAny_mono (P pins s2 _ H { nx:=fun σ' H'=>σ'=((σ.set j (some (.ref e))).set i (some (.ref e)))/\H'=H,rt:=fun _ _=>False } ((I2.hd _).wish _) ⟨.ref e,by rw[getElem?_set_self jl],rfl,rfl⟩) (fun f s3 z=>?_) fun x' s3 z=>?_
 · cases f with
   | next=>
    obtain⟨σ',H',I3,rfl,rfl⟩:=z;show wpAny _ _ _ _ _ _;refine wpAny_bind (wpAny_bindName (QJ (v:=.non) (I3.k8.Qv I.ok) hN hj (.inl kn) rfl (fun s4 I4=>?_) (.inr kn)));refine wpAny_onRaise (pX (v:=.non) I4 hN hj kn (by rw[getElem?_set_self (by simpa using jl)]) fun s5 I5=>hQ s5 ?_);have e9:(((σ.set j (some (V.ref e))).set i (some (V.ref e))).set j (some V.non)).set j none=(σ.set i (some (V.ref e))).set j none:=by rw[set_set,set_comm _ _ hij,set_set,set_comm _ _ (Ne.symm hij)]
    rw[<- e9];exact I5
   | brk=>obtain⟨_,_,_,q⟩:=z;exact q.elim
   | cont=>obtain⟨_,_,_,q⟩:=z;exact q.elim
   | ret u=>obtain⟨_,_,_,_,_,q⟩:=z;exact q.elim
 · exact z.elim
end
open PySem.W
noncomputable def dD (K:Frag) (C:Addr):Bool:=(mroIn K C (.type "BaseException")==some true)&&((K.lookup C).map (·.cls)==some (.type "type"))
def y3(K:Frag)(S:List (Addr×Obj)->St->Prop)(E:XK)(tc:TE):TS:=fun _ σ H=>(∀pins,S pins σ)/\tc σ H fun v H1=>∃a C t0 dx,v=.ref a/\H1 a=some (XO a C t0 dx)/\dD K C=true/\E (.ref C) dx (DA H1 a (XL a (.ref C) dx))
section
variable{X:Cx}{S:List (Addr×Obj)->St->Prop}{E:XK}{c:Expr}{tc:TE}{pos:Pos}
theorem xQ(cm:X.calm=true)(he:PE (X.wish (Fl X S E)) c tc):PS (X.wish (Fl X S E)) (.Raise (some c) none pos) (y3 X.K S E tc):=by
 intro pins s σ H D I h;obtain⟨zS,h⟩:=h;have hh:X.A.handled=none:=I.ok.hd cm;rw[arm_exec_Raise];refine wpAny_bind (wpAny_standAt ?_);show wpAny _ _ (raiseStmt X.env (some (do let v <- eval c X.env;standAt pos;pure v)) none) _ _ _;unfold raiseStmt;refine wpAny_bind (wpAny_bind (wpAny_mono (he pins s σ H _ I h) (fun v s1 z=>wpAny_bind (wpAny_standAt (wpAny_pure ?_))) fun _ _ z=>z));obtain⟨v',H1,I1,r,a,C,t0,dx,e,ea,tC,q⟩:=z;subst e;obtain rfl:v=Value.ref a:=r;have ho:=(I1.hok a _ ea).1;unfold dD at tC;rw[Bool.and_eq_true,beq_iff_eq,beq_iff_eq]at tC;obtain⟨t1,t2⟩:=tC;obtain⟨oC,hk,hcl⟩:=Option.map_eq_some_iff.mp t2;have hC:=I1.R8 _ _ hk;have fl:Fl X S E (.ref a) s1:=YW (a0:=.ref t0) I1.k8 (zS _) (by rw[ea];exact True.intro) ho rfl rfl rfl q;have LM:=looks_mroIn (M:=model X.prog X.w) I1.R8 t1;obtain⟨hp,g,d,tk,os⟩:=s1
 repeat (first | with_reducible refine wpAny_loadPart_at ho ?_ | with_reducible refine wpAny_loadPart_at hC ?_ | with_reducible refine LM.at ?_ | wp_step)
 exact wpAny_raiseNew_none hh fl
end
open PySem.W
def WN(CX:FF)(X:Cx)(E:XK)(pins:List (Addr×Obj))(σ:St):Prop:=∀(H:Hp)(s:Shared)(e:Value)(s':Shared),Inv X pins σ H s->CX X.stack H s E e s'->X.xe e s'
section
variable{X:Cx}{CX:FF}{k:Nat}{f C:Addr}{fd:FuncData}{ps:List Str}{sp:Sp}{a9:List V}{ds:List Value}{E:XK}{x m:Str}{p pos apos:Pos}{e o:Expr}{es:List Expr}{ta:TE}{t:TA}{pins:List (Addr×Obj)}{σ:St}{H:Hp}{s:Shared}{Q:VK}
theorem T2{us:List Value}{vs:List V}(F:l8 X.prog X.w X.K X.mg X.base CX k f fd ps sp)(hr:Z7 k X.A)(hb:Binds X.K fd ps ds)(hd:Vals a9 ds)(hx:WN CX X E pins σ)
 (I:Inv X pins σ H s) (r:Vals vs us) (h:sp (vs++a9) H Q E):wpAny (model X.prog X.w) X.A (call (.ref f) us) (EP X pins σ Q) X.xe s:=by
 have r2:Vals (vs++a9) (us++ds):=r.append hd;refine wpAny_call (codeAny_mono (F.run X.A X.stack s H ⟨us,[]⟩ (us++ds) (vs++a9) Q E hr I.env0 (hb s us I.R8 (by rw[<- r2.length];exact F.len _ _ _ _ h)) r2 h) fun r s' hq=>?_);cases r with
 | error e=>exact hx H s e s' I hq
 | ok fl=>
  cases fl with
  | ret u=>exact I.after hq
  | next=>exact False.elim hq
  | brk=>exact False.elim hq
  | cont=>exact False.elim hq
theorem DY{pl:Sem Bool}(he:PE X o ta)(c:Cls X.K C)(hm:jF X.K C m f)(F:l8 X.prog X.w X.K X.mg X.base CX k f fd ps sp)(hr:Z7 k X.A)(hb:Binds X.K fd ps ds)(hd:Vals a9 ds)(hx:WN CX X E pins σ)(ha:PA X (e::es) t)(I:Inv X pins σ H s)(h:QI C m sp a9 E ta t σ H Q)
 (hst:starEach (e::es) X.env=(false,eval e X.env)::starEach es X.env:=by rfl) (hpl:(backTo pos (starEach es X.env)).any (·.1)=false:=by rfl)
 (ht:eval (.Call (.Attribute o m apos) (e::es) [] pos) X.env=(do
  let ov <- eval o X.env
  standAt apos.atName
  let (f,first) <- holding [ov] (getMethod ov m pl)
  callWith pos f first (backTo pos (starEach (e::es) X.env)) (backToKw pos (keywordEach [] X.env))):=by rfl) :
 wpAny (model X.prog X.w) X.A (eval (.Call (.Attribute o m apos) (e::es) [] pos) X.env) (EP X pins σ Q) X.xe s:=by
 refine PySem.W.methodCall_KW (pl:=pl) (IA (he pins s σ H _ I h) fun u s1 zz=>?_) ht;obtain⟨x,H1,I1,rx,a,dx,fs,ex,ea,l,q⟩:=zz;subst ex;obtain rfl:u=Value.ref a:=rx;refine CJ I1 ea c hm l (PySem.W.callWith_K (first:=[.ref a]) (h₀:=X.base) I.ok.mod.Uj hm.kp (IA (ha pos pins s1 σ H1 _ I1 q) fun us s2 ⟨vs,H2,I2,r,q2⟩=>⟨I2.R8,?_⟩) hst hpl);exact T2 (us:=.ref a::us) (vs:=.ref a::vs) F hr hb hd hx I2 (.cons rfl r) q2
end
def yT(K:Frag)(C0:Addr)(i j:Nat)(tc:XK->TE):TS:=fun D σ H=>tc (fun cls dx H'=>exmOne K cls (.ref C0)=some true/\∀e,H' e=some (XL e cls dx)->D.nx ((σ.set i (some (.ref e))).set j none) H') σ H fun _ H'=>D.nx σ H'
section
variable{X:Cx}{c:Expr}{tc:XK->TE}{C0:Addr}{i j:Nat}{x n cn:Str}{p1 px pn pa pc ph pos:Pos}
theorem C4(B:fH X)(hc:∀(xe:Value->Shared->Prop)(pins:List (Addr×Obj))(σ:St)(E:XK),WN (AH X.prog X.w) (X.wish xe) E pins σ->∀s H Q,Inv (X.wish xe) pins σ H s->tc E σ H Q->wpAny (model X.prog X.w) X.A (eval c X.env) (EP (X.wish xe) pins σ Q) xe s)
 (hg:Gl X cn) (hm:X.mg cn=some (.ref C0)) (hN:X.N.Nodup) (hi:X.N[i]?=some x) (hj:X.N[j]?=some n) (hij:i≠j) (kx:X.env.scope.names.lookup x=some .local) (kn:X.env.scope.names.lookup n=some .local)
 (hw:swapsWith c none p1.line X.env=pure false:=by rfl) (hs:swapsWith (.Name n pn) (some (.Name x px)) pa.line X.env=pure false:=by rfl) (hdc:(cn==("__debug__" :Str))=false:=by decide) (hd1:(n==("__debug__" :Str))=false:=by decide) (hd2:(n==("__classdict__" :Str))=false:=by decide) :
 PS X (.Try [.Expr c p1] [.ExceptHandler (some (.Name cn pc)) (some n) [.Assign [.Name x px] (.Name n pn) pa] ph] [] [] pos) (yT X.K C0 i j tc):=by
 intro pins s σ H D I h
 let E:XK:=fun cls dx H'=>exmOne X.K cls (.ref C0)=some true/\∀e,H' e=some (XL e cls dx)->D.nx ((σ.set i (some (.ref e))).set j none) H'
 have b:=hc (Fl X (fun p q=>p=pins/\q=σ) E) pins σ E (fun H s e s' I h=>sR I.k8 ⟨rfl,rfl⟩ h) s H (fun _ H'=>D.nx σ H') (I.wish _) h;refine wpAny_Try_except (wpAny_execs_cons (wpAny_Expr_any (wpAny_mono b (fun v s1 z=>?_) fun v s1 fl=>?_) I.quiet hw))
 · obtain⟨x,H1,I1,r1,q1⟩:=z;exact wpAny_execs_nil (wpAny_execs_nil ⟨σ,H1,I1.k8,q1⟩)
 · refine fl.noted B I.ok.frames fun e T cls dx a0 Dj σ' H' h' hv zS I1 he a lt q=>?_
   obtain⟨rfl,rfl⟩:=zS;subst hv;exact uK none I1 he a lt fun h2 I2 a2=>CY I2 he a2 lt hg hm q.1 hN hi hj hij kx kn (fun s' I'=>⟨_,H',I',q.2 e he⟩) hs hdc hd1 hd2
end
end L2
namespace SM
theorem M7.Vj{K:Frag}{ρ:Rg}{h:HI}{H:Hp}(S:M7 K ρ h H){p:Addr}{u:HO}(e:H p=some u)(hu:(∃φ,u=.ext φ)\/∃fs,u=.xd fs):ρ.no p:=by
 refine⟨fun ha=>?_,fun ha=>?_⟩
 · obtain⟨n,hn⟩:=mem_iff_getElem?.mp ha;have hl:n<h.length:=by rw[<- S.len];exact(Sy hn).1
   have o:=S.ob n p _ hn (getElem?_eq_getElem hl);generalize h[n]=ob at o;cases ob with
   | lst xs=>obtain⟨vs,h1,_⟩:=o;rw[e]at h1;cases h1;rcases hu with⟨_,z⟩ | ⟨_,z⟩<;>cases z
   | ins y fs=>obtain⟨C,dx,vs,_,h1,_⟩:=o;rw[e]at h1;cases h1;rcases hu with⟨_,z⟩ | ⟨_,z⟩<;>cases z
   | dk kvs=>obtain⟨vs,h1,_⟩:=o;rw[e]at h1;cases h1;rcases hu with⟨_,z⟩ | ⟨_,z⟩<;>cases z
   | dt kvs=>obtain⟨vs,h1,_⟩:=o;rw[e]at h1;cases h1;rcases hu with⟨_,z⟩ | ⟨_,z⟩<;>cases z
   | df kvs=>obtain⟨o,vs,h1,_⟩:=o;rw[e]at h1;cases h1;rcases hu with⟨_,z⟩ | ⟨_,z⟩<;>cases z
   | U9 kvs=>obtain⟨o,vs,h1,_⟩:=o;rw[e]at h1;cases h1;rcases hu with⟨_,z⟩ | ⟨_,z⟩<;>cases z
 · obtain⟨_,vs,h1⟩:=S.zt p ha;rw[e]at h1;cases h1;rcases hu with⟨_,z⟩ | ⟨_,z⟩<;>cases z
def JS (H:Hp) (f:Str) (i:Sum Int Str) (dx:Option Addr):Prop:=(f = "" /\ dx=none)\/∃b,dx=some b/\H b=some (.xd [(f,xV i)])
def MS(K:Frag)(ρ:Rg)(H:Hp)(E:XK)(x f:Str)(i:Sum Int Str)(h':HI):Prop:=
 ∀ρ' C dx H',nsIn K mainGlobals x=some (some (.ref C))->JS H' f i dx->M7 K ρ' h' H'->Ext ρ ρ' H H'->E (.ref C) dx H'
def k9(K:Frag)(ρ:Rg)(H:Hp)(Q:VK)(E:XK):Dt->HI->Prop
 | .thr x f i,h'=>MS K ρ H E x f i h'
 | d,h'=>Out K ρ H d h' Q
def gj(K:Frag)(ρ:Rg)(H:Hp)(D:HE)(E:XK):Rs->Prop
 | .rt d h'=>k9 K ρ H D.rt E d h'
 | r=>M9 K ρ H D r
section
variable{K:Frag}{ρ ρ1:Rg}{H H1:Hp}{D:HE}{E:XK}{Q:VK}{d:Dt}{h':HI}{r:Rs}
theorem k9.out(k:k9 K ρ H Q E d h'):Out K ρ H d h' Q:=by
 cases d with
 | thr x f i=>exact fun ρ' v H' R=>(U8.mp R).elim
 | _=>exact k
theorem k9.ext(k:k9 K ρ H Q E d h')(x:Ext ρ ρ1 H H1):k9 K ρ1 H1 Q E d h':=by
 cases d with
 | thr y f i=>exact fun ρ' C dx H' a b s e=>k ρ' C dx H' a b s (x.trans e)
 | _=>exact Out.ext k x
theorem k9.mono{Q':VK}(k:k9 K ρ H Q E d h')(m:∀v H',Q v H'->Q' v H'):k9 K ρ H Q' E d h':=by
 cases d with
 | thr y f i=>exact k
 | _=>exact fun ρ' v H' R S e=>m _ _ (k ρ' v H' R S e)
theorem gj.out(k:gj K ρ H D E r):M9 K ρ H D r:=by
 cases r with
 | rt d h=>exact k9.out k
 | _=>exact k
theorem gj.ext(k:gj K ρ H D E r)(x:Ext ρ ρ1 H H1):gj K ρ1 H1 D E r:=by
 cases r with
 | rt d h=>exact k9.ext k x
 | nx l h=>exact M9.ext (r:=.nx l h) k x
 | bk l h=>exact M9.ext (r:=.bk l h) k x
 | ct l h=>exact M9.ext (r:=.ct l h) k x
end
def sX(K:Frag)(E:XK)(f:RS):TS:=fun D σ H=>∃ρ l h r,M7 K ρ h H/\g8 K H ρ l σ/\f l h=some r/\gj K ρ H D E r
abbrev xw(X:Cx)(E:XK):Cx:=X.wish (Fl X (fun _ _=>True) E)
@[irreducible] def ZX(X:Cx)(E:XK)(st:Stmt)(f:RS):Prop:=PS (xw X E) st (sX X.K E f)
@[irreducible] def aJ(X:Cx)(E:XK)(st:List Stmt)(f:RS):Prop:=F9 (xw X E) st (sX X.K E f)
section
variable{X:Cx}{E:XK}{st:Stmt}{rest:List Stmt}{t u:RS}{c:RT}{pos:Pos}{tg iter:Expr}
theorem tO(h:ZM (xw X E) st t):ZX X E st t:=by with_unfolding_all exact PS.imp h fun D σ H ⟨ρ,l,h,r,S,L,e,k⟩=>⟨ρ,l,h,r,S,L,e,k.out⟩
theorem nI(h:yG (xw X E) rest t):aJ X E rest t:=by with_unfolding_all exact F9.imp h fun D σ H ⟨ρ,l,h,r,S,L,e,k⟩=>⟨ρ,l,h,r,S,L,e,k.out⟩
theorem cH(h1:ZX X E st t)(h2:aJ X E rest u):aJ X E (st::rest) (gA t u):=by
 with_unfolding_all
  exact F9.imp (oN h1 h2) fun D σ H zz=>by
   obtain⟨ρ,l,h,r,S,L,e,k⟩:=zz;obtain⟨r1,e1,e⟩:=eA e;refine⟨ρ,l,h,r1,S,L,e1,?_⟩;cases r1 with
   | nx l' h'=>exact fun ρ' σ' H' S' L' E'=>⟨ρ',l',h',r,S',L',e,k.ext E'⟩
   | rt d h'=>cases e;exact k
   | bk l' h'=>cases e;exact k
   | ct l' h'=>cases e;exact k
theorem YE(h1:ZX X E st t):aJ X E [st] t:=by with_unfolding_all exact ZJ h1
theorem UI{b:Expr}{ss ss':List Stmt}(hc:TM (xw X E) b c)(ha:aJ X E ss t)(hb:aJ X E ss' u):ZX X E (.If b ss ss' pos) (QB c t u):=by
 with_unfolding_all
  exact PS.imp (iS hc ha hb) fun D σ H zz=>by
   obtain⟨ρ,l,h,r,S,L,e,k⟩:=zz;obtain⟨⟨b1,h1⟩,e1,e⟩:=eA e;refine⟨ρ,l,h,b1,h1,S,L,e1,fun ρ1 H1 S1 E1=>?_⟩;cases b1 with
   | true=>rw[if_pos rfl]at e;exact XD ⟨ρ1,l,h1,r,S1,L.ext E1,e,k.ext E1⟩
   | false=>rw[if_neg Vy]at e;exact WD ⟨ρ1,l,h1,r,S1,L.ext E1,e,k.ext E1⟩
theorem G3{body:List Stmt}{g:RI}{bd:RG}{f:RS}(B:fH X)(hc:X.calm=true)(hi:IM (xw X E) tg iter g)(hg:GM (xw X E) tg bd)(hb:aJ X E body f)
 (hs:∀x,foldedSetIterable iter X.env x=pure x:=by intro _;rfl):ZX X E (.For tg iter body [] pos) (TC g bd f):=by
 with_unfolding_all
  exact PS.imp (AR (X:=xw X E) (VZ B) hc hi hg hb hs) fun D σ H zz=>by
   obtain⟨ρ,l,h,r,S,L,e,k⟩:=zz;obtain⟨⟨s,h1⟩,e1,e⟩:=eA e;refine⟨ρ,l,h,s,h1,S,L,e1,fun ρ1 J H1 ok S1 E1=>?_⟩;refine⟨fun i m σ' H'=>∃ρ' l' h',M7 X.K ρ' h' H'/\g8 X.K H' ρ' l' σ'/\Ext ρ1 ρ' H1 H'/\BC bd f s m i l' h'=some r,⟨_,ρ1,l,h1,S1,L.ext E1,Ext.refl _ _,e⟩,?_⟩;rintro i m σ' H' ⟨ρ',l',h',S',L',E',e'⟩;cases m with
   | zero=>simp only[BC]at e';cases e'
   | succ m=>
    simp only[BC]at e';have ok':=ok H' ρ' h' E'.same S' i;cases q:s.at h' i with
    | none=>rw[q]at e';cases e'
    | some o=>
     rw[q]at e' ok';cases o with
     | none=>cases e';exact .inl ⟨ok',k ρ' σ' H' S' L' (E1.trans E')⟩
     | some d=>
      dsimp only at e';obtain⟨l1,b1,e'⟩:=eA e';obtain⟨r1,b2,e'⟩:=eA e';refine .inr ⟨ok'.1,fun σ2 H2=>∃m',m'<m+1/\∃ρ' l' h',M7 X.K ρ' h' H2/\g8 X.K H2 ρ' l' σ2/\Ext ρ1 ρ' H1 H2/\BC bd f s m' (i+1) l' h'=some r,fun σ2 H2 q=>q,fun v H3 y=>?_⟩;obtain⟨R3,E3,S3⟩:=ok'.2 v H3 y;refine⟨ρ',l',h',d,l1,S3,L'.ext E3,R3,b1,fun σ4 L4=>⟨ρ',l1,h',r1,S3,L4,b2,?_⟩⟩;cases r1 with
      | nx l2 h2=>exact fun ρ5 σ5 H5 S5 L5 E5=>⟨m,Nat.lt_succ_self _,ρ5,l2,h2,S5,L5,E'.trans (E3.trans E5),e'⟩
      | ct l2 h2=>exact fun ρ5 σ5 H5 S5 L5 E5=>⟨m,Nat.lt_succ_self _,ρ5,l2,h2,S5,L5,E'.trans (E3.trans E5),e'⟩
      | bk l2 h2=>cases e';exact fun ρ5 σ5 H5 S5 L5 E5=>k ρ5 σ5 H5 S5 L5 (E1.trans (E'.trans (E3.trans E5)))
      | rt d2 h2=>cases e';exact k9.ext k (E1.trans (E'.trans E3))
end
def LH(x fl:Str)(c:Int)(g:RE):RS:=fun l h=>(g l h).bind fun r=>(kF c r.1).map fun i=>.rt (.thr x fl i) r.2
section
variable{X:Cx}{E:XK}{x fl:Str}{c:Int}{k k':Nat}{e:Expr}{g:RE}{p pos pos':Pos}
theorem sN (ec:BH X.prog X.w X.K X.mg X.base k x fl c) (cm:X.calm=true) (hr:Z7 k' X.A) (hk:k+1<=k') (hg:Gl X x) (ha:EM (xw X E) e g) (ht:∀C,nsIn X.K mainGlobals x=some (some (.ref C))->dD X.K C=true) (hdb:(x==("__debug__" :Str))=false:=by decide) (he:eB e=true:=by rfl) :
 ZX X E (.Raise (some (.Call (.Name x p) [e] [] pos)) none pos') (LH x fl c g):=by
 with_unfolding_all
  obtain⟨C,f,fd,ps,c1,c2,c3,c4,c5,c6,c7,c8⟩:=ec.ex;exact PS.imp (xQ (S:=fun _ _=>True) cm (dY (X:=xw X E) c2 c3 c4 c5 (hr.mono hk) hg c6 c7 (E:=E0) LK c8 (qC ha XC (gB he _ _)) hdb (gB he _ _) rfl)) fun D σ H zz=>by
   obtain⟨ρ,l,h,r,S,L,e,k⟩:=zz;obtain⟨⟨d1,h1⟩,e1,e⟩:=eA e;obtain⟨i,e2,e⟩:=Option.map_eq_some_iff.mp e;cases e;refine⟨fun _=>trivial,ρ,l,h,d1,h1,S,L,e1,fun ρ1 v H1 R1 S1 E1 a t0 ha=>?_⟩;obtain⟨ev,z,sh⟩:=QZ e2 R1;refine⟨a,t0,v,z,rfl,AB,sh,fun t1 dx hdx=>⟨rfl,?_⟩⟩;rw[HN]at hdx ⊢;have na:dx≠a:=fun q=>by rw[q,AB]at hdx;cases hdx
   rw[CA na]at hdx;refine⟨a,C,t1,some dx,rfl,AB,ht C c1,?_⟩;rw[HN];have eH:DA (DA (DA H1 a (XO a C t1 none)) dx (.xd [(fl,v)])) a (XL a (.ref C) (some dx))=DA (DA H1 dx (.xd [(fl,v)])) a (XL a (.ref C) (some dx)):=by
    funext b;unfold DA;by_cases q1:b=a
    · rw[if_pos q1,if_pos q1]
    · rw[if_neg q1,if_neg q1,if_neg q1]
   rw[eH];have ha2:DA H1 dx (.xd [(fl,v)]) a=none:=by rw[CA (Ne.symm na)];exact ha
   have E2:Ext ρ1 ρ1 H1 (DA H1 dx (.xd [(fl,v)])):=Ext.fresh hdx;have S2:M7 X.K ρ1 h1 (DA H1 dx (.xd [(fl,v)])):=S1.fresh hdx;have E3:Ext ρ1 ρ1 (DA H1 dx (.xd [(fl,v)])) (DA (DA H1 dx (.xd [(fl,v)])) a (XL a (.ref C) (some dx))):=Ext.fresh ha2;refine k ρ1 C (some dx) _ c1 (.inr ⟨dx,rfl,?_⟩) (S2.fresh ha2) (E1.trans (E2.trans E3));rw[CA na,AB,ev]
end
def BS(K:Frag)(n:Nat)(F:jB):Sp:=fun vs H Q E=>∃ρ ds h d h',M7 K ρ h H/\G7 K H ρ ds vs/\ds.length=n/\F ds h=some (d,h')/\k9 K ρ H Q E d h'
theorem g8.unset{K:Frag}{H:Hp}{ρ:Rg}{l:LI}{σ:L2.St}(L:g8 K H ρ l σ)(j:Nat):g8 K H ρ (l.set j none) (σ.set j none):=by
 obtain⟨h1,h2⟩:=L;refine⟨by simp[h1],fun i d e=>?_⟩;by_cases z:j=i
 · subst z;by_cases jl:j<l.length
   · rw[getElem?_set_self jl]at e;cases e
   · rw[getElem?_eq_none (by simpa using Nat.not_lt.mp jl)]at e;cases e
 · rw[getElem?_set_ne z]at e ⊢;exact h2 i d e
section
variable{P:Program}{w:World}{K:Frag}{mg:Str->Option Value}{base:Heap}
theorem YZ{x qual:Str}{st:Stmt}{f:Addr}{fd:FuncData}{N ps:List Str}{k:Nat}{body:RS}(F:Z9 K x qual st f fd)(S:ZA N ps (oA st))
 (hb:∀(cdv:Value)(A:Around)(outer:List Env)(s:Shared)(H:Hp)(E:XK),Z7 k (A.deeper (envOfC qual (oA st) s.heap.objs.size f cdv))->
  aJ (iC (AH P w) P w K mg base N qual (oA st) f cdv A outer s H E) E (fC st) body):l8 P w K mg base (AH P w) (k+1) f fd ps (BS K ps.length (GB ps.length N.length body)):=by
 with_unfolding_all
  obtain⟨oc,od,kV,doc,pm,an,cdv,ct,osl,rfl,lk,hcd⟩:=F.ex;refine dS lk hcd S (fun vs H Q E h=>?_) fun A outer s H vs Q E hr h=>?_
  · obtain⟨ρ,ds,h,d,h',S,R,hl,_⟩:=h;rw[R.length,hl]
  · obtain⟨ρ,ds,h,d,h',S,R,hl,e,k⟩:=h;have z:=hb cdv A outer s H E hr;refine⟨_,fun pins s' σ H' D I hw=>wpAny_mono (z pins s' σ H' D (I.wish _) hw) (fun _ _ q=>q.k8) fun _ _ q=>XW q,?_⟩;unfold GB at e;rw[if_pos hl]at e;rw[<- hl]at e;split at e
    · rename_i d1 h1 q;cases e;exact⟨ρ,_,h,_,S,JJ R,q,k⟩
    · rename_i l1 h1 q;cases e;exact⟨ρ,_,h,_,S,JJ R,q,fun ρ' σ' H' S' L' E'=>k ρ' _ H' (T7.mpr rfl) S' E'⟩
    · cases e
end
noncomputable def BK(K:Frag)(C0:Addr)(tab:List Str):Prop:=∀y∈tab,∀C,nsIn K mainGlobals y=some (some (.ref C))->PySem.W.exmOne K (.ref C) (.ref C0)=some true
section
variable{X:Cx}{k k' nn:Nat}{F:jB}{fx:Str}{C0:Addr}{i j:Nat}{x n cn:Str}{p p1 px pn pa pc ph pos cpos:Pos}{e:Expr}{es:List Expr}{g:RA}{tab:List Str}
structure QO(K:Frag)(mg:Str->Option Value)(cn:Str)(tab:List Str):Prop where
 ex:∃C0,mg cn=some (.ref C0)/\BK K C0 tab
theorem lW{K:Frag}{C0:Addr}:BK K C0 []:=fun _ h=>nomatch h
theorem TH{K:Frag}{C0 C:Addr}{y:Str}{tab:List Str}(n:nsIn K mainGlobals y=some (some (.ref C)))(h:PySem.W.exmOne K (.ref C) (.ref C0)=some true)(r:BK K C0 tab):BK K C0 (y::tab):=fun z hz D e=>by
 rcases mem_cons.mp hz with q | q
 · subst q;rw[n]at e;cases e;exact h
 · exact r z q D e
theorem lI{K:Frag}{C:Addr}{y:Str}(n:nsIn K mainGlobals y=some (some (.ref C)))(h:dD K C=true):∀D,nsIn K mainGlobals y=some (some (.ref D))->dD K D=true:=fun D e=>by rw[n]at e;cases e;exact h
end
noncomputable def BD:Dt->Option qA
 | .str z=>some (.inr z)
 | .int i=>some (.inl i)
 | _=>none
noncomputable def oB(kvs:List (qA×Dt))(k:qA):Option Dt:=(kvs.find? fun p=>decide (p.1=k)).map (·.2)
noncomputable def mF(kvs:List (qA×Dt))(k:qA)(d:Dt):List (qA×Dt):=
 if(kvs.any fun p=>decide (p.1=k))=true then kvs.map (fun p=>if p.1=k then(p.1,d)else p)else kvs++[(k,d)]
noncomputable def EF(kvs:List (qA×Dt))(k:qA):List (qA×Dt):=kvs.filter fun p=>decide (p.1≠k)
noncomputable def DK:RE:=fun _ h=>some (.ref h.length,h++[.dk []])
noncomputable def iE(h:HI):Dt->Option (List (qA×Dt))
 | .ref n=>match h[n]? with | some (.dk kvs)=>some kvs | _=>none
 | _=>none
def FI(fo fy:RE):RE:=fun l h=>(fo l h).bind fun o=>(fy l o.2).bind fun y=>(BD y.1).bind fun k=>(iE y.2 o.1).bind fun kvs=>(oB kvs k).map fun d=>(d,y.2)
def BG(b:Bool)(fy fo:RE):RE:=fun l h=>(fy l h).bind fun y=>(fo l y.2).bind fun o=>(BD y.1).bind fun k=>(iE o.2 o.1).map fun kvs=>(.bl ((oB kvs k).isSome==b),o.2)
def NK(fe fo fy:RE):RS:=fun l h=>(fe l h).bind fun v=>(fo l v.2).bind fun o=>(fy l o.2).bind fun y=>(BD y.1).bind fun k=>match o.1 with
 | .ref n=>match y.2[n]? with
  | some (.dk kvs)=>if kvs.length<sizeLine then some (.nx l (y.2.set n (.dk (mF kvs k v.1))))else none
  | _=>none
 | _=>none
def mO(fo fy:RE):RE:=fun l h=>(fo l h).bind fun o=>match o.1 with
 | .ref n=>match o.2[n]? with
  | some (.dk _)=>(fy l o.2).bind fun y=>(BD y.1).bind fun k=>match y.2[n]? with
   | some (.dk kvs)=>(oB kvs k).map fun d=>(d,y.2.set n (.dk (EF kvs k)))
   | _=>none
  | _=>none
 | _=>none
section
variable{K:Frag}{H:Hp}{ρ:Rg}
abbrev KK(K:Frag)(H:Hp)(ρ:Rg)(kvs:List (qA×Dt))(vs:List (qA×V)):Prop:=kvs.map (·.1)=vs.map (·.1)/\G7 K H ρ (kvs.map (·.2)) (vs.map (·.2))
theorem eI{d:Dt}{v:V}{k:qA}(e:BD d=some k)(r:J7 K H ρ d v):v=kV k:=by
 cases d with
 | str z=>cases e;exact N7.mp r
 | int i=>cases e;exact K7.mp r
 | _=>cases e
theorem KK.o8{vs:List (qA×V)}(r:KK K H ρ [] vs):vs=[]:=by have:=r.1;simpa using this.symm
theorem KK.V7{p:qA×Dt}{kvs:List (qA×Dt)}{vs:List (qA×V)}(r:KK K H ρ (p::kvs) vs):∃v rs,vs=(p.1,v)::rs/\J7 K H ρ p.2 v/\KK K H ρ kvs rs:=by
 obtain⟨h1,h2⟩:=r;cases vs with
 | nil=>simp at h1
 | cons q rs=>simp only[Hy,List.cons.injEq]at h1;obtain⟨v,r',e,g1,g2⟩:=G7.V7 (by simpa only[Hy]using h2);simp only[Hy,List.cons.injEq]at e;obtain⟨q1,q2⟩:=q;have h11:p.1=q1:=h1.1;have e1:q2=v:=e.1;subst e1;exact⟨q2,rs,by rw[h11],g1,h1.2,by rw[e.2];exact g2⟩
theorem KK.cons{p:qA×Dt}{v:V}{kvs:List (qA×Dt)}{vs:List (qA×V)}(g:J7 K H ρ p.2 v)(r:KK K H ρ kvs vs):KK K H ρ (p::kvs) ((p.1,v)::vs):=
 ⟨by simp only[Hy];rw[r.1],.cons g r.2⟩
theorem KK.length{kvs:List (qA×Dt)}{vs:List (qA×V)}(r:KK K H ρ kvs vs):vs.length=kvs.length:=by have:=congrArg List.length r.1;simpa using this.symm
theorem KK.val(k:qA):∀{kvs:List (qA×Dt)}{vs:List (qA×V)},KK K H ρ kvs vs->(∀d,oB kvs k=some d->∃v,QC vs k=some v/\J7 K H ρ d v)/\(oB kvs k=none->QC vs k=none)
 | [],_,r=>by rw[r.o8];exact⟨fun d e=>by simp[oB]at e,fun _=>rfl⟩
 | p::kvs,_,r=>by
  obtain⟨v,rs,rfl,g,r'⟩:=r.V7;by_cases c:p.1=k
  · have e1:oB (p::kvs) k=some p.2:=by simp[oB,find?_cons,c]
    rw[e1,TJ c];exact⟨fun d e=>by cases e;exact⟨v,rfl,g⟩,fun e=>by cases e⟩
  · have e1:oB (p::kvs) k=oB kvs k:=by simp[oB,find?_cons,c]
    rw[e1,SJ c];exact KK.val k r'
theorem KK.isSome(k:qA){kvs:List (qA×Dt)}{vs:List (qA×V)}(r:KK K H ρ kvs vs):(QC vs k).isSome=(oB kvs k).isSome:=by
 obtain⟨v1,v2⟩:=r.val k;cases c:oB kvs k with
 | none=>rw[v2 c];rfl
 | some d=>obtain⟨v,e,_⟩:=v1 d c;rw[e];rfl
theorem KK.any(k:qA){kvs:List (qA×Dt)}{vs:List (qA×V)}(r:KK K H ρ kvs vs):(vs.any fun p=>decide (p.1=k))=kvs.any fun p=>decide (p.1=k):=by
 have e1:(vs.any fun p=>decide (p.1=k))=(vs.map (·.1)).any fun x=>decide (x=k):=by rw[any_map];rfl
 have e2:(kvs.any fun p=>decide (p.1=k))=(kvs.map (·.1)).any fun x=>decide (x=k):=by rw[any_map];rfl
 rw[e1,e2,r.1]
theorem KK.repl(k:qA){d:Dt}{v:V}(g:J7 K H ρ d v):∀{kvs:List (qA×Dt)}{vs:List (qA×V)},KK K H ρ kvs vs->
 KK K H ρ (kvs.map fun p=>if p.1=k then(p.1,d)else p) (vs.map fun p=>if p.1=k then(p.1,v)else p)
 | [],_,r=>by rw[r.o8];exact⟨rfl,.nil⟩
 | p::kvs,_,r=>by
  obtain⟨u,rs,rfl,g',r'⟩:=r.V7;rw[Hy,Hy];by_cases c:p.1=k
  · rw[if_pos c,if_pos c];exact KK.cons (p:=(p.1,d)) g (KK.repl k g r')
  · rw[if_neg c,if_neg c];exact KK.cons g' (KK.repl k g r')
theorem KK.put(k:qA){d:Dt}{v:V}(g:J7 K H ρ d v){kvs:List (qA×Dt)}{vs:List (qA×V)}(r:KK K H ρ kvs vs):KK K H ρ (mF kvs k d) (CD vs k v):=by
 unfold mF CD;rw[r.any k];split
 · exact r.repl k g
 · refine⟨by rw[map_append,map_append,r.1];rfl,?_⟩;rw[map_append,map_append];exact r.2.append (.cons g .nil)
theorem KK.drop(k:qA):∀{kvs:List (qA×Dt)}{vs:List (qA×V)},KK K H ρ kvs vs->KK K H ρ (EF kvs k) (aF vs k)
 | [],_,r=>by rw[r.o8];exact⟨rfl,.nil⟩
 | p::kvs,_,r=>by
  obtain⟨u,rs,rfl,g',r'⟩:=r.V7;unfold EF aF;by_cases c:p.1=k
  · rw[filter_cons_of_neg (by simpa using c),filter_cons_of_neg (by simpa using c)];exact KK.drop k r'
  · rw[filter_cons_of_pos (by simpa using c),filter_cons_of_pos (by simpa using c)];exact KK.cons g' (KK.drop k r')
theorem KK.ext{ρ':Rg}{H':Hp}{kvs:List (qA×Dt)}{vs:List (qA×V)}(r:KK K H ρ kvs vs)(x:Ext ρ ρ' H H'):KK K H' ρ' kvs vs:=⟨r.1,r.2.ext x⟩
theorem SK{a:Addr}{kvs:List (qA×V)}(h:H a=some (.dK kvs)):JO H a:=fun _ _ e=>by rw[h]at e;cases e
theorem CK{h:HI}(S:M7 K ρ h H){d:Dt}{v:V}{kvs:List (qA×Dt)}(e:iE h d=some kvs)(r:J7 K H ρ d v):∃a vs,v=.ref a/\H a=some (.dK vs)/\KK K H ρ kvs vs:=by
 cases d with
 | ref n=>
  simp only[iE]at e;split at e
  · rename_i kv q;cases e;obtain⟨a,z,ha⟩:=R7.mp r;obtain⟨vs,g1,g2⟩:=S.ob n a _ ha q;exact⟨a,vs,z,g1,g2⟩
  · cases e
 | _=>cases e
end
section
variable{X:Cx}{e o i d a b f:Expr}{fe fo fi fa fb fy fx:RE}{pos pos' apos cpos:Pos}
theorem pR:EM X (.Dict [] [] pos) DK:=by with_unfolding_all exact PE.imp WX fun σ H Q zz=>by obtain⟨ρ,l,h,d,h',S,L,e,k⟩:=zz;cases e;intro p hp;refine k (ρ.add p) _ _ (R7.mpr ⟨p,rfl,?_⟩) (S.own hp ⟨[],AB,rfl,.nil⟩) (Ext.own hp);simp only[Rg.add];rw[<- S.len,Yy (Xy _),Nat.sub_self];rfl
theorem LN(hu:X.A.units+64<cLine)(ho:EM X o fo)(hy:EM X i fy)(hs:YK i:=by intro _ _;rfl):EM X (.Subscript o i pos) (FI fo fy):=by with_unfolding_all exact PE.imp (QY (by omega) ho hy hs) fun σ H Q zz=>by obtain⟨ρ,l,h,dd,h',S,L,e,k⟩:=zz;obtain⟨⟨d1,h1⟩,e1,e⟩:=eA e;obtain⟨⟨d2,h2⟩,e2,e⟩:=eA e;obtain⟨ky,e3,e⟩:=eA e;obtain⟨kvs,e4,e⟩:=eA e;obtain⟨d4,e5,e⟩:=Option.map_eq_some_iff.mp e;cases e;refine⟨ρ,l,h,d1,h1,S,L,e1,fun ρ1 x H1 R1 S1 E1=>⟨ρ1,l,h1,d2,_,S1,L.ext E1,e2,fun ρ2 y H2 R2 S2 E2=>?_⟩⟩;obtain⟨a,vs,z,g1,g2⟩:=CK S2 e4 (J7.ext E2 _ R1);obtain⟨v,e6,r6⟩:=(g2.val ky).1 _ e5;refine⟨a,v,z,?_,k ρ2 _ H2 r6 S2 (E1.trans E2)⟩;rw[eI e3 R2,<- e6];exact u9.k g1
theorem fR(hu:X.A.units+64<cLine)(he:EM X e fe)(ho:EM X o fo)(hi:EM X i fi)(hs:swapsWith e (some (.Subscript o i pos')) pos.line X.env=pure false:=by rfl) :
 ZM X (.Assign [.Subscript o i pos'] e pos) (NK fe fo fi):=by
 with_unfolding_all
  exact PS.imp (ZY (by omega) ho hi he hs) fun D σ H zz=>by
   obtain⟨ρ,l,h,r,S,L,e,k⟩:=zz;obtain⟨⟨v,hv⟩,e1,e⟩:=eA e;obtain⟨⟨d,hd⟩,e2,e⟩:=eA e;obtain⟨⟨j,hj⟩,e3,e⟩:=eA e;obtain⟨ky,e4,e⟩:=eA e;refine⟨ρ,l,h,v,hv,S,L,e1,fun ρ1 u H1 R1 S1 E1=>⟨ρ1,l,hv,d,hd,S1,L.ext E1,e2,fun ρ2 y H2 R2 S2 E2=>⟨ρ2,l,hd,j,hj,S2,L.ext (E1.trans E2),e3,fun ρ3 z H3 R3 S3 E3=>?_⟩⟩⟩;cases d with
   | ref n=>
    dsimp only at e;split at e
    · rename_i kvs q;obtain⟨hz,e⟩:=gE e;cases e;obtain⟨aa,zz,ha⟩:=R7.mp (J7.ext E3 _ R2);obtain⟨vs,g1,g2⟩:=S3.ob n aa _ ha q;have hm:=mem_of_getElem? ha;have g3:KK X.K H3 ρ3 kvs vs:=g2;refine⟨aa,_,zz,by rw[eI e4 R3];exact yj.k g1 (by rw[g3.length];exact hz),?_⟩;exact k ρ3 σ _ (S3.write ha (SK g1) ⟨_,AB,(g3.put ky (J7.ext (E2.trans E3) _ R1)).ext (Ext.write hm (SK g1))⟩) (L.ext (E1.trans (E2.trans (E3.trans (Ext.write hm (SK g1)))))) (E1.trans (E2.trans (E3.trans (Ext.write hm (SK g1)))))
    · cases e
   | _=>cases e
theorem mZ (ho:EM X o fo) (hy:EM X e fy) (m:M1 X o "pop" apos e cpos:=by exact⟨rfl,rfl,rfl,rfl⟩):EM X (.Call (.Attribute o "pop" apos) [e] [] cpos) (mO fo fy):=by
 with_unfolding_all
  exact PE.imp (XX ho hy m) fun σ H Q zz=>by
   obtain⟨ρ,l,h,dd,h',S,L,e,k⟩:=zz;obtain⟨⟨d1,h1⟩,e1,e⟩:=eA e;refine⟨ρ,l,h,d1,h1,S,L,e1,fun ρ1 x H1 R1 S1 E1=>?_⟩;cases d1 with
   | ref n=>
    dsimp only at e;split at e
    · rename_i Gv q0;obtain⟨⟨y,h2⟩,e2,e⟩:=eA e;obtain⟨ky,e3,e⟩:=eA e;dsimp only at e;split at e
      · rename_i kvs q;obtain⟨d4,e5,e⟩:=Option.map_eq_some_iff.mp e;cases e;obtain⟨aa,z,ha⟩:=R7.mp R1;obtain⟨Hj,g0,_⟩:=S1.ob n aa _ ha q0;refine⟨aa,z,.inl ⟨Hj,.inl g0⟩,ρ1,l,h1,y,h2,S1,L.ext E1,e2,fun ρ2 y2 H2 R2 S2 E2=>?_⟩;have ha2:=E2.get ha;obtain⟨vs,g1,g2⟩:=S2.ob n aa _ ha2 q;have g3:KK X.K H2 ρ2 kvs vs:=g2;obtain⟨v,e6,r6⟩:=(g3.val ky).1 _ e5;have hm:=mem_of_getElem? ha2;have EW:=Ext.write (o:=.dK (aF vs ky)) hm (SK g1);exact⟨vs,ky,v,g1,eI e3 R2,e6,k ρ2 _ _ (J7.ext EW _ r6) (S2.write ha2 (SK g1) ⟨_,AB,(g3.drop ky).ext EW⟩) (E1.trans (E2.trans EW))⟩
      · cases e
    · cases e
   | _=>cases e
end
end SM
namespace L2
open PySem.W
def fG(K:Frag)(C:Addr):Bool:=match K.lookup C with
 | some ⟨.type "type",_,.cls cd,sl⟩=>(match cd.mro,sl.toList with
  | .ref D::bm,[_,_,_,_,some (.builtin n),_]=>D==C&&(n == "ValueError.__new__" && (!cd.hasDel&&(tailIn K jJ bm&&(nsOkIn K cd.ns&&nsIn K cd.ns "__init__" ==some none))))
  | _,_=>false)
 | _=>false
theorem SX{K:Frag}{h:Heap}{N:Addr}{m:Str->Option Value}{n:Str}(X:K.In h)(G:h.Ns N m)(e:nsIn K N n=some none):m n=none:=by
 obtain⟨o,es,ep,ho,hd,_,hf⟩:=G;unfold nsIn at e;split at e
 · rename_i q;have z:=X _ _ q;rw[ho]at z;cases z;cases hd;split at e
   · cases e
   · rename_i he;rw[<- hf];unfold nsFind findBy;rw[<- Array.find?_toList,he];rfl
 · cases e
theorem pZ{K:Frag}{h:Heap}{C:Addr}(X:K.In h)(q:fG K C=true):∃nm qn N bs bm hd sn sub ab col dd k0 k1 k2 k3 k5,∃mN:Str->Option Value,
 h.get? C=some (excClassObj nm qn C N bs bm hd sn sub ab col dd k0 k1 k2 k3 k5 "ValueError.__new__")/\h.Ns N mN/\mN "__init__" =none/\OwnTail h jJ bm:=by
 unfold fG at q;split at q
 · rename_i dd cd sl ho;split at q
   · rename_i D bm k0 k1 k2 k3 n k5 hm hs;simp only[Bool.and_eq_true,beq_iff_eq,Bool.not_eq_true']at q;obtain⟨rfl,rfl,hdel,ht,hok,hni⟩:=q;obtain⟨nm,bs,mro,ns,qn,hd,sn,sub,ab,col,del⟩:=cd;dsimp only at hm hdel hok hni;subst hm hdel;obtain⟨sl⟩:=sl;dsimp only at hs;subst hs;exact⟨nm,qn,ns,bs,bm,hd,sn,sub,ab,col,dd,k0,k1,k2,k3,k5,_,X _ _ ho,.of_isNs (isNs_of_in X hok),SX X (.of_isNs (isNs_of_in X hok)) hni,tail_of_in X ht⟩
   · cases q
 · cases q
section
variable{P:Program}{w:World}{A:Around}{E:Value->Shared->Prop}{h:Heap}{g:Array GenState}{d:Drawn}{t:Nat}{os:OsState}
variable{nm q:Str}{C N:Addr}{bs bm bt:List Value}{hd:Bool}{sn:List Str}{sub:List Value}{ab:Bool}{col:Option Bool}{dd:Option Addr}{k0 k1 k2 k3 k5:Option Value}{B nw ini:String}
theorem UV (F:ExcBaseFacts B nw ini bt) (T:OwnTail h bt bm) {mN:Str->Option Value} {us:List Value} {Q:Fin->Shared->Prop} (hC:h.get? C=some (excClassObj nm q C N bs bm hd sn sub ab col dd k0 k1 k2 k3 k5 nw)) (hn:h.Ns N mN) (hi:mN "__init__" =none)
 (go:∀h' t0,(∀b o,h.get? b=some o->h'.get? b=some o)->h'.get? (h.objs.size+1)=some (LF C t0 none)->Q (.done (.ret (.ref (h.objs.size+1)))) ⟨h',g,d,t,os⟩) (hz:us.length<=sizeLine:=by size_fits) :
 wpAny (model P w) A (Builtin.«type.__call__» ⟨.ref C::us,[]⟩) Q E ⟨h,g,d,t,os⟩:=by
 repeat (first | with_reducible refine wpAny_loadPart_at hC ?_ | with_reducible refine wpAny_madeBy_exc hC ?_ | wp_step)
 refine codeAny_call_builtin_code (Code.quiet_builtin _ F.quiet) (wpAny_check_new_subT F T hC (codeAny_exc_new_subT F T hC ?_ hz));show wpAny _ _ _ _ _ _;have c1:(FE h C us).get? C=some _:=KE hC;have n1:(FE h C us).Ns N mN:=let ⟨o,es,ep,e,r⟩:=hn;⟨o,es,ep,KE e,r⟩;have i1:(Value.ref C::bm).contains (.ref C)=true:=by simp
 have x1:=cN (h:=h) (C:=C) (us:=us);have T1:=T.keeps (h':=FE h C us) fun b o e=>KE e
 unfold isInstance
 repeat (first | with_reducible refine wpAny_loadPart_at x1 ?_ | (with_reducible refine wpAny_isSubtype_exc c1 ?_;rw[i1]) | wp_step)
 show wpAny _ _ (typeLookup (.ref C) _) _ _ _;refine wpAny_typeLookup_tail c1 n1 T1 F.mroIs F.init.lookup ?_;rw[hi];refine wpAny_holding (wpAny_bind (wpAny_of_eq (F.init.bind _) (wpAny_bind (wpAny_call (codeAny_call_builtin F.init.plain F.initEntry (wpAny_check_init_subT F T1 c1 x1 rfl ?_))))))
 wp_walk
 refine go _ (h.objs.size+2) (fun b o hb=>?_) ?_
 · rw[Heap.get?_update_other _ _ (Nat.ne_of_gt (Nat.lt_succ_of_lt (Heap.lt_size hb)))];exact Heap.get?_push_of_some _ (KE hb)
 · rw[Heap.get?_update_self _ (Heap.get?_push_of_some _ x1) rfl];simp only[Heap.size_push];rfl
theorem uV (F:ExcBaseFacts B nw ini bt) (T:OwnTail h bt bm) {mN:Str->Option Value} {us:List Value} {Q:Value->Shared->Prop} (hC:h.get? C=some (excClassObj nm q C N bs bm hd sn sub ab col dd k0 k1 k2 k3 k5 nw)) (hn:h.Ns N mN) (hi:mN "__init__" =none)
 (go:∀h' t0,(∀b o,h.get? b=some o->h'.get? b=some o)->h'.get? (h.objs.size+1)=some (LF C t0 none)->Q (.ref (h.objs.size+1)) ⟨h',g,d,t,os⟩) (hz:us.length<=sizeLine:=by size_fits):wpAny (model P w) A (call (.ref C) us) Q E ⟨h,g,d,t,os⟩:=by
 have f1:=tc_lookup;have f2:=tc_bind (.ref C);have hT:(⟨h,g,d,t,os⟩:Shared).TypeIs (.ref C) "type" :=⟨_,hC,rfl⟩;refine wpAny_call (codeAny_of_tree ?_);show wpAny _ _ (callAny (.ref C) _) _ _ _
 repeat (any_goals (first | assumption | with_reducible refine wpAny_loadPart_at hC ?_ | wp_step))
 exact⟨rfl,codeAny_call_builtin_at (Code.quiet_builtin _ (by decide +kernel)) entry_typeCall (wpAny_check_type_call_sub hC (UV F T hC hn hi go hz))⟩
end
def Z0(C:Addr)(t:TA):TE:=fun σ H Q=>t σ H fun vs H1=>vs.length<=100/\∀a t0,H1 a=none->Q (.ref a) (DA H1 a (XO a C t0 none))
section
variable{X:Cx}{C:Addr}{x:Str}{p pos:Pos}{e:Expr}{es:List Expr}{t:TA}
theorem hW(M:fG X.K C=true)(kp:keepIn X.K (.ref C)=true)(hg:Gl X x)(hm:X.mg x=some (.ref C))
 (ha:PA X (e::es) t) (hdb:(x==("__debug__" :Str))=false:=by decide) (he:starEach (e::es) X.env=(false,eval e X.env)::starEach es X.env:=by rfl) (hpl:(backTo pos (starEach es X.env)).any (·.1)=false:=by rfl) :
 PE X (.Call (.Name x p) (e::es) [] pos) (Z0 C t):=by
 intro pins s σ H Q I h;refine wpAny_Call_Name_kw (uF I hg hm ?_ hdb);refine PySem.W.callWith_K (h₀:=X.base) I.ok.mod.Uj kp (IA (ha pos pins s σ H _ I h) fun us s1 ⟨vs,H1,I1,r,hl,q⟩=>⟨I1.R8,?_⟩) he hpl;obtain⟨nm,qn,N,bs,bm,hd,sn,sub,ab,col,dd,k0,k1,k2,k3,k5,mN,hC,hn,hi,T⟩:=pZ I1.R8 M;obtain⟨hp,g,d,tk,os⟩:=s1;refine uV PySem.F.excBase_ValueError T hC hn hi (fun h' t0 Rk ho=>?_) (by rw[Qy,<- r.length,sizeLine_eq];omega);exact⟨.ref (hp.objs.size+1),_,I1.laid (a:=hp.objs.size+1) (o:=XO (hp.objs.size+1) C t0 none) (h':=h') (t':=tk) (fun b u z=>Rk b u z) (Nat.le_succ _) (QK ho),rfl,q _ t0 (I1.hok.fresh (Nat.le_succ _))⟩
end
end L2
namespace SM
noncomputable def NI (x:Str) (g:RE):RS:=fun l h=>(g l h).map fun r=>.rt (.thr x "" (.inl 0)) r.2
structure XI(K:Frag)(mg:Str->Option Value)(x:Str):Prop where
 ex:∃C,clsOf K x C/\fG K C=true/\keepIn K (.ref C)=true/\mg x=some (.ref C)
section
variable{X:Cx}{E:XK}{x:Str}{e:Expr}{g:RE}{p pos pos':Pos}
theorem jQ (ec:XI X.K X.mg x) (cm:X.calm=true) (hg:Gl X x) (ha:EM (xw X E) e g) (ht:∀C,nsIn X.K mainGlobals x=some (some (.ref C))->dD X.K C=true) (hdb:(x==("__debug__" :Str))=false:=by decide) (he:eB e=true:=by rfl) :
 ZX X E (.Raise (some (.Call (.Name x p) [e] [] pos)) none pos') (NI x g):=by
 with_unfolding_all obtain⟨C,c1,c2,c3,c4⟩:=ec.ex;exact PS.imp (xQ (S:=fun _ _=>True) cm (hW (X:=xw X E) c2 c3 hg c4 (qC ha XC (gB he _ _)) hdb (gB he _ _) rfl)) fun D σ H zz=>by obtain⟨ρ,l,h,r,S,L,e,k⟩:=zz;obtain⟨⟨d1,h1⟩,e1,e⟩:=Option.map_eq_some_iff.mp e;cases e;refine⟨fun _=>trivial,ρ,l,h,d1,h1,S,L,e1,fun ρ1 v H1 R1 S1 E1=>⟨by show 1<=100;decide,fun a t0 ha=>⟨a,C,t0,none,rfl,AB,ht C c1,?_⟩⟩⟩;rw[HN];exact k ρ1 C none _ c1 (.inl ⟨rfl,rfl⟩) (S1.fresh ha) (E1.trans (Ext.fresh ha))
end
structure nG(P:Program)(w:World)(K:Frag)(mg:Str->Option Value)(base:Heap)(k n:Nat)(x m:Str)(F:jB):Prop where
 ex:∃C f fd ps,clsOf K x C/\Cls K C/\jF K C m f/\l8 P w K mg base (AH P w) k f fd ps (BS K n F)/\Binds K fd ps []
 len:∀ds h r,F ds h=some r->ds.length=n
section
variable{P:Program}{w:World}{K:Frag}{mg:Str->Option Value}{base:Heap}
theorem jN{x m qual:Str}{st:Stmt}{N ps:List Str}{k n mm:Nat}{body:RS}(D:wF K x m qual st ps)(S:ZA N ps (oA st))(hn:ps.length=n)(hm:N.length=mm)
 (hb:∀(f:Addr)(cdv:Value)(A:Around)(outer:List Env)(s:Shared)(H:Hp)(E:XK),Z7 k (A.deeper (envOfC qual (oA st) s.heap.objs.size f cdv))->
  aJ (iC (AH P w) P w K mg base N qual (oA st) f cdv A outer s H E) E (fC st) body):nG P w K mg base (k+1) n x m (GB n mm body):=by
 with_unfolding_all subst hn hm;obtain⟨C,f,fd,c1,c2,c3,hF,hB⟩:=D.ex;exact⟨⟨C,f,fd,ps,c1,c2,c3,YZ hF S fun cdv A outer s H E hr=>hb f cdv A outer s H E hr,hB⟩,fun ds h r e=>oK e⟩
end
noncomputable def OK(i:Nat)(f:RE):RS:=fun l h=>(f l h).map fun r=>match r.1 with
 | .thr x f y=>.rt (.thr x f y) r.2
 | d=>.nx (l.set i (some d)) r.2
noncomputable def PK(f:RE)(tab:List Str)(i j:Nat):RS:=fun l h=>(f l h).bind fun q=>match q.1 with
 | .thr x f y=>if x∈tab then some (.nx ((l.set i (some (.err x f y))).set j none) q.2)else none
 | _=>some (.nx l q.2)
section
variable{X:Cx}{K:Frag}{x m:Str}{F:jB}{fo:RE}{g:RA}{C:Addr}{nn:Nat}
theorem iN{E:XK}{σ:L2.St}{H:Hp}{Q:VK}{ρ:Rg}{l:LI}{h:HI}{d:Dt}{h':HI}(c1:clsOf K x C)(len:∀ds h r,F ds h=some r->ds.length=nn)(S:M7 K ρ h H)(L:g8 K H ρ l σ)(e:JD x m F fo g l h=some (d,h'))
 (k:k9 K ρ H Q E d h'):QI C m (BS K nn F) [] E (tM K fo) (sT K g) σ H Q:=by
 obtain⟨⟨d1,h1⟩,e1,e⟩:=eA e;refine⟨ρ,l,h,d1,h1,S,L,e1,fun ρ1 v H1 R1 S1 E1=>?_⟩;cases d1 with
 | ref n=>
  dsimp only at e;split at e
  · rename_i y fs q;obtain⟨⟨hy,hl⟩,e3⟩:=HH e;subst hy;obtain⟨⟨ds,h2⟩,e2,e4⟩:=eA e3;obtain⟨a,z,ha⟩:=R7.mp R1;obtain⟨C',dx,vs,c1',g1,g2,g3⟩:=S1.ob n a _ ha q;have cc:C'=C:=clsOf.inj c1' c1;subst cc;refine⟨a,dx,vs,z,g1,(aK g2 g3).2 hl,ρ1,l,h1,ds,h2,S1,L.ext E1,e2,fun ρ2 us H2 R2 S2 E2=>?_⟩;exact⟨ρ2,_,h2,d,h',S2,.cons (J7.ext E2 _ R1) (by rw[Zy];exact R2),len _ _ _ e4,e4,(k.ext E1).ext E2⟩
  · cases e
 | _=>cases e
end
section
variable{X:Cx}{E:XK}{k k' nn:Nat}{F:jB}{y m:Str}{fo:RE}{g:RA}{i j:Nat}{x n cn:Str}{apos p1 px pn pa pc ph pos pos' cpos:Pos}{o e:Expr}{es:List Expr}{tab:List Str}
theorem K1{pl:Sem Bool}(c:nG X.prog X.w X.K X.mg X.base k nn y m F)(hr:Z7 k' X.A)(hk:k<=k')(ho:EM (xw X E) o fo)(ha:AM (xw X E) (e::es) g)(hN:X.N.Nodup)(i:Nat)(hi:X.N[i]?=some x:=by rfl)(hx:YI X.env.scope x:=by first | exact Or.inl rfl | exact Or.inr rfl)
 (hs:swapsWith (.Call (.Attribute o m apos) (e::es) [] cpos) (some (.Name x pos')) pos.line X.env=pure false:=by rfl) (hf:X.fn x=true\/X.env.scope.names.lookup x=some .local:=by first | exact .inl rfl | exact .inr rfl | assumption) (he:eB e=true:=by rfl) (hpl:es.all eB=true:=by rfl)
 (ht:eval (.Call (.Attribute o m apos) (e::es) [] cpos) X.env=(do
  let ov <- eval o X.env
  standAt apos.atName
  let (f,first) <- holding [ov] (getMethod ov m pl)
  callWith cpos f first (backTo cpos (starEach (e::es) X.env)) (backToKw cpos (keywordEach [] X.env))):=by rfl) :
 ZX X E (.Assign [.Name x pos'] (.Call (.Attribute o m apos) (e::es) [] cpos) pos) (OK i (JD y m F fo g)):=by
 with_unfolding_all
  obtain⟨C,f,fd,ps,c1,c2,c3,c4,c5⟩:=c.ex;exact PS.imp (aO (X:=xw X E) hN hi hx (TQ (X:=xw X E) (pl:=pl) ho c2 c3 c4 (hr.mono hk) c5 .nil (E:=E) pW ha (gB he _ _) (YF hpl) ht) hs hf) fun D σ H zz=>by
   obtain⟨ρ,l,h,r,S,L,e,k⟩:=zz;obtain⟨⟨d,h'⟩,e1,e⟩:=Option.map_eq_some_iff.mp e;refine iN c1 c.len S L e1 ?_;cases d with
   | thr a b z=>cases e;exact k
   | _=>cases e;exact fun ρ1 v H1 R1 S1 E1=>k ρ1 _ H1 S1 ((L.ext E1).set i R1) E1
theorem J1{pl:Sem Bool}(c:nG X.prog X.w X.K X.mg X.base k nn y m F)(tc:QO X.K X.mg cn tab)(B:fH X)(hr:Z7 k' X.A)(hk:k<=k')(ho:∀xe,EM (X.wish xe) o fo)(ha:∀xe,AM (X.wish xe) (e::es) g)
 (hg:Gl X cn) (hN:X.N.Nodup) (hi:X.N[i]?=some x:=by rfl) (hj:X.N[j]?=some n:=by rfl) (hij:i≠j:=by decide) (kx:X.env.scope.names.lookup x=some .local:=by rfl) (kn:X.env.scope.names.lookup n=some .local:=by rfl)
 (hw:swapsWith (.Call (.Attribute o m apos) (e::es) [] cpos) none p1.line X.env=pure false:=by rfl) (hs:swapsWith (.Name n pn) (some (.Name x px)) pa.line X.env=pure false:=by rfl) (hdc:(cn==("__debug__" :Str))=false:=by decide) (hd1:(n==("__debug__" :Str))=false:=by decide) (hd2:(n==("__classdict__" :Str))=false:=by decide)
 (he:eB e=true:=by rfl) (hpl:es.all eB=true:=by rfl)
 (ht:eval (.Call (.Attribute o m apos) (e::es) [] cpos) X.env=(do
  let ov <- eval o X.env
  standAt apos.atName
  let (f,first) <- holding [ov] (getMethod ov m pl)
  callWith cpos f first (backTo cpos (starEach (e::es) X.env)) (backToKw cpos (keywordEach [] X.env))):=by rfl) :
 ZM X (.Try [.Expr (.Call (.Attribute o m apos) (e::es) [] cpos) p1] [.ExceptHandler (some (.Name cn pc)) (some n) [.Assign [.Name x px] (.Name n pn) pa] ph] [] [] pos) (PK (JD y m F fo g) tab i j):=by
 with_unfolding_all
  obtain⟨C0,hm,hT⟩:=tc.ex;obtain⟨C,f,fd,ps,c1,c2,c3,c4,c5⟩:=c.ex;exact PS.imp (C4 (tc:=fun E=>QI C m (BS X.K nn F) [] E (tM X.K fo) (sT X.K g)) B (fun xe pins σ E hx s H Q I h=>DY (X:=X.wish xe) (pl:=pl) (ho xe) c2 c3 c4 (hr.mono hk) c5 .nil hx (ha xe) I h (gB he _ _) (YF hpl) ht) hg hm hN hi hj hij kx kn hw hs hdc hd1 hd2) fun D σ H zz=>by
   obtain⟨ρ,l,h,r,S,L,e,k⟩:=zz;obtain⟨⟨d,h2⟩,e2,e⟩:=eA e;refine iN c1 c.len S L e2 ?_;cases d with
   | thr a fl z=>
    dsimp only at e;split at e
    · rename_i yt;cases e;intro ρ' C' dx H' hc hd S' E';refine⟨hT a yt C' hc,fun b dw=>k ρ' _ H' S' (((L.ext E').set i ?_).unset j) E'⟩;refine O8.mpr ⟨b,C',dx,rfl,hc,S'.Vj dw (.inl ⟨_,rfl⟩),dw,?_⟩;rcases hd with hd | ⟨b',hd,hb⟩
      · exact .inl hd
      · exact .inr ⟨b',hd,S'.Vj hb (.inr ⟨_,rfl⟩),hb⟩
    · cases e
   | _=>cases e;exact fun ρ' v H' R' S' E'=>k ρ' σ H' S' (L.ext E') E'
noncomputable def wK(f:RE):RE:=fun l h=>(f l h).bind fun r=>match r.1 with
 | .thr _ _ _=>none
 | d=>some (d,r.2)
theorem VW{pl:Sem Bool}(c:nG X.prog X.w X.K X.mg X.base k nn y m F)(hr:Z7 k' X.A)(hk:k<=k')(ho:EM X o fo)(ha:AM X (e::es) g)(he:eB e=true:=by rfl)(hpl:es.all eB=true:=by rfl)
 (ht:eval (.Call (.Attribute o m apos) (e::es) [] cpos) X.env=(do
  let ov <- eval o X.env
  standAt apos.atName
  let (f,first) <- holding [ov] (getMethod ov m pl)
  callWith cpos f first (backTo cpos (starEach (e::es) X.env)) (backToKw cpos (keywordEach [] X.env))):=by rfl):EM X (.Call (.Attribute o m apos) (e::es) [] cpos) (wK (JD y m F fo g)):=by
 with_unfolding_all
  obtain⟨C,f,fd,ps,c1,c2,c3,c4,c5⟩:=c.ex;have px:bE (AH X.prog X.w) X fun _ _ _=>False:=fun _ _ _ _ _ _ _ z=>by obtain⟨_,_,_,_,_,_,_,_,_,_,_,_,_,_,_,q⟩:=z;exact q.elim
  exact PE.imp (TQ (pl:=pl) ho c2 c3 c4 (hr.mono hk) c5 .nil (E:=fun _ _ _=>False) px ha (gB he _ _) (YF hpl) ht) fun σ H Q zz=>by
   obtain⟨ρ,l,h,d,h',S,L,e,k⟩:=zz;obtain⟨⟨d1,h1⟩,e1,e⟩:=eA e;refine iN c1 c.len S L e1 ?_;cases d1 with
   | thr a b z=>cases e
   | _=>cases e;exact k
end
end SM
namespace L2
noncomputable def NO(a:Addr)(o:Obj):It:=
 ⟨fun i H=>∃kvs p,H a=some (.b9 o (.dK kvs))/\kvs[i]?=some p,
  fun i H x H'=>H'=H/\∀kvs,H a=some (.b9 o (.dK kvs))->∃k,kvs[i]?=some (k,x),
  fun i H=>∃kvs,H a=some (.b9 o (.dK kvs))/\kvs.length<=i⟩
section
variable{prog:Program}{w:World}{A:Around}{E:Value->Shared->Prop}{s:Shared}
theorem QX{d:Addr}{kvs:List (qA×Value)}{R:Value->Shared->Prop}(hm:s.heap.DictOf (LB prog w) d kvs)(nm:(d==sysModules)=false)
 (q:R (.ref s.heap.objs.size) { s with heap:=s.heap.push { cls:=.type "dict_values",data:=.fields #[.ref d] } }):wpAny (model prog w) A (call (.builtin "dict.values") [.ref d]) R E s:=by
 exact call_meetsIn PySem.F.slot_dict_values hm.typeIs PySem.F.entry_dict_values (PySem.F.args_dict_values_1 _) (meets_dict_values (LB prog w) d nm) ⟨⟨kvs,hm⟩,q⟩
end
theorem PX{P:Program}{w:World}{K:Frag}{tg:Expr}(a it:Addr){o:Obj}{es:Array DictEntry}{ep:Nat}(gt:o.data=.dict es ep) :
 xG P w K tg (NO a o) [it] it (fun i h=>h.IsValIter it a i es.size ep) where
 mem:=by simp
 obj:=fun i h st b hb=>by rw[mem_singleton.mp hb];obtain⟨o,e,c,d⟩:=st;exact⟨o,e,fun v z=>by rw[d]at z;cases z⟩
 keep:=fun i h h' st k=>by obtain⟨o,e,r⟩:=st;exact⟨o,k it (by simp) o e,r⟩
 item:=by
  intro X hP hw hK hc i pins s σ H E I hf st hg;subst hP hw hK;obtain⟨kvs,p,e,hp⟩:=hg;obtain⟨go,z,y,vs,r,ob,es',ep',h1,h2,h3,h4,h5,h6⟩:=(show Y7 X.prog X.w H s.heap a (.b9 o (.dK kvs))from I.hok a _ e);rw[go]at h1;cases h1;rw[gt]at h3;cases h3;obtain⟨f0,f1,f2,f3,f4,f5⟩:=hf it (by simp);obtain⟨q,hq,rk,rv⟩:=Paired.g9 r hp;have sz:es.size=vs.length:=by rw[<- h5.length];simp
  refine wpAny_pyNext_values_item (knd:=LB X.prog X.w) (kvs:=vs) (sz ▸ st) ⟨o,es,go,h2,gt,h4,h5,h6⟩ hq fun h' st' sb=>?_
  have I1:Inv X pins σ H { s with heap:=h' }:=I.turned (t':=s.toks) (fun b o hb e=>(sb.2 b hb).trans e) f0 f1 f3 f4 f5;obtain⟨oi,ei,ci,di⟩:=id st';exact⟨q.2,rfl,vO (s:={ s with heap:=h' }) ei ci di (by decide) ⟨p.2,H,I1,rv,⟨rfl,fun kvs' e'=>by rw[e]at e';cases e';exact⟨p.1,hp⟩⟩,sz ▸ st',fun b hb=>(hf b hb).1⟩⟩
 done:=by
  intro X hP hw hK hc i pins s σ H E I hf st hg;subst hP hw hK;obtain⟨kvs,e,hp⟩:=hg;obtain⟨go,z,y,vs,r,ob,es',ep',h1,h2,h3,h4,h5,h6⟩:=(show Y7 X.prog X.w H s.heap a (.b9 o (.dK kvs))from I.hok a _ e);rw[go]at h1;cases h1;rw[gt]at h3;cases h3;obtain⟨f0,f1,f2,f3,f4,f5⟩:=hf it (by simp);have sz:es.size=vs.length:=by rw[<- h5.length];simp
  have hl:vs[i]?=none:=by rw[getElem?_eq_none_iff,<- KV.length r];exact hp
  exact wpAny_pyNext_values_end (knd:=LB X.prog X.w) (kvs:=vs) (I.ok.hd hc) (sz ▸ st) ⟨o,es,go,h2,gt,h4,h5,h6⟩ hl fun h' eb=>⟨rfl,I.turned (t':=s.toks) (fun b o hb e=>eb b o hb e) f0 f1 f3 f4 f5⟩
 self:=fun _ _ _ _ _ st h=>wpAny_pyIter_valiter st h
section
variable{X:Cx}{pins:List (Addr×Obj)}{σ:St}{H:Hp}{s:Shared}{a:Addr}{o:Obj}{kvs:List (qA×V)}
theorem Inv.Oj(I:Inv X pins σ H s)(e:H a=some (.dK kvs))(go:s.heap.get? a=some o):Inv X pins σ (DA H a (.b9 o (.dK kvs))) s:=by
 refine VH (t':=s.toks) I (by rw[e];exact True.intro) (Heap.SameBut.refl _ _) ⟨o,go⟩ ⟨go,?_⟩;refine Y7.stay (show Y7 X.prog X.w H s.heap a (.dK kvs)from I.hok a _ e) (fun _ _ _ g=>g) (fun b q=>?_) fun b ys q=>?_
 · rw[CA (BO q e (fun z=>nomatch z))];exact q
 · rw[CA (BO q e (fun z=>nomatch z))];exact q
def YS(td:TE):TI:=fun σ H R=>td σ H fun x H1=>∃a,x=.ref a/\((∃kvs,H1 a=some (.dK kvs)/\∀o,R (NO a o) (DA H1 a (.b9 o (.dK kvs))))\/∃o kvs,H1 a=some (.b9 o (.dK kvs))/\R (NO a o) H1)
theorem kW {tg d:Expr} {td:TE} {apos cpos:Pos} (ho:PE X d td) (hbase:attributeBase d "values" X.env (eval d X.env)=eval d X.env:=by rfl) (hline:(apos.endLine==cpos.line)=true:=by rfl) :
 PI X tg (.Call (.Attribute d "values" apos) [] [] cpos) (YS td):=by
 intro pins s σ H R I h;refine wpAny_Call_method0_late hbase hline (IA (ho pins s σ H _ I h) fun v s1 zz=>?_);obtain⟨x,H1,I1,r1,a,ex,q⟩:=zz;subst ex;obtain rfl:v=Value.ref a:=r1;have dd:KS H1 a:=by
  rcases q with⟨kvs,e,_⟩ | ⟨o,kvs,e,_⟩
  · exact .inl ⟨kvs,.inl e⟩
  · exact .inl ⟨kvs,.inr ⟨o,e⟩⟩
 obtain⟨t1,t2,t3⟩:=UR I1 dd;have base:∀(o:Obj)(es:Array DictEntry)(ep:Nat)(vs:List (qA×Value))(H2:Hp),s1.heap.get? a=some o->o.ExactDict->o.data=.dict es ep->KeysOf (LB X.prog X.w) es->Pairs (LB X.prog X.w) es.toList vs->(vs.map (·.1)).Nodup->Inv X pins σ H2 s1->R (NO a o) H2->
  wpAny (model X.prog X.w) X.A (call (.builtin "dict.values") [.ref a]) (fun v s1=>wpAny (model X.prog X.w) X.A (pyIter v) (NS X pins σ tg R) X.xe s1) X.xe s1:=by
  intro o es ep vs H2 go gx gt gk gp gn I2 q2;refine QX (kvs:=vs) ⟨o,es,ep,go,gx,gt,gk,gp,gn⟩ t3 ?_;have sz:es.size=vs.length:=by rw[<- gp.length];simp
  have I3:Inv X pins σ H2 { s1 with heap:=s1.heap.push { cls:=.type "dict_values",data:=.fields #[.ref a] } }:=I2.kept (t':=s1.toks) fun b u g=>Heap.get?_push_of_some _ g
  refine wpAny_pyIter_values (knd:=LB X.prog X.w) (kvs:=vs) (ep:=ep) ⟨_,Heap.get?_push_size _ rfl,rfl,rfl⟩ ⟨o,es,Heap.get?_push_of_some _ go,gx,gt,gk,gp,gn⟩ ?_;have I4:=I3.kept (t':=s1.toks) (h':=(s1.heap.push { cls:=.type "dict_values",data:=.fields #[.ref a] }).push { cls:=.type "dict_valueiterator",data:=.fields #[.ref a,.int 0 0,.int vs.length 0,.int ep 0] }) fun b u g=>Heap.get?_push_of_some _ g
  refine⟨_,[_],_,_,H2,rfl,I4,PX a _ gt,⟨_,Heap.get?_push_size _ rfl,rfl,by rw[sz];rfl⟩,fun c hc=>?_,q2⟩;rw[mem_singleton.mp hc];exact I3.Aj (Xy _) (I3.hok.fresh (Xy _))
 refine⟨"dict", "dict.values",PySem.F.plainAttrs_dict,PySem.F.slot_dict_values,PySem.F.type_dict_values,t1,t2,Calls.callWith_builtin rfl (PySem.evalArgs_none ?_)⟩;rcases q with⟨kvs,e,q⟩ | ⟨o,kvs,e,q⟩
 · obtain⟨_,_,vs,_,o,es,ep,h1,h2,h3,h4,h5,h6⟩:=(show Y7 X.prog X.w H1 s1.heap a (.dK kvs)from I1.hok a _ e);exact base o es ep vs _ h1 h2 h3 h4 h5 h6 (I1.Oj e h1) (q o)
 · obtain⟨go,_,_,vs,_,o',es,ep,h1,h2,h3,h4,h5,h6⟩:=(show Y7 X.prog X.w H1 s1.heap a (.b9 o (.dK kvs))from I1.hok a _ e);rw[go]at h1;cases h1;exact base o es ep vs _ go h2 h3 h4 h5 h6 I1 q
end
end L2
namespace SM
noncomputable def jO(f:RE):RI:=fun l h=>(f l h).bind fun r=>match r.1 with
 | .ref n=>match r.2[n]? with
  | some (.dk kvs)=>some (.vals (kvs.map (·.2)),r.2.set n (.U9 kvs))
  | _=>none
 | _=>none
noncomputable def SD:HI->HI->HI
 | .dk _::h,.U9 kvs::h'=>.dk kvs::SD h h'
 | _::h,o::h'=>o::SD h h'
 | _,h'=>h'
def EK(f:RE):RE:=fun l h=>(f l h).map fun r=>(r.1,SD h r.2)
theorem oQ:∀h h':HI,(SD h h').length=h'.length
 | [],h'=>by cases h'<;>rfl
 | o::h,[]=>by cases o<;>rfl
 | o::h,o'::h'=>by have:=oQ h h';cases o<;>cases o'<;>simp[SD,this]
theorem rN:∀(h h':HI)(n:Nat),(SD h h')[n]?=(match h[n]?,h'[n]? with | some (.dk _),some (.U9 kvs)=>some (.dk kvs) | _,x=>x)
 | [],h',n=>by cases h'<;>simp[SD]
 | o::h,[],n=>by cases o<;>simp[SD]<;>split<;>simp_all
 | o::h,o'::h',0=>by cases o<;>cases o'<;>rfl
 | o::h,o'::h',n+1=>by have:=rN h h' n;cases o<;>cases o'<;>simpa[SD]using this
section
variable{K:Frag}{H:Hp}{ρ:Rg}
theorem JX{n:Nat}{aa:Addr}{ob:Obj}{Hj:List (qA×V)}{kvs:List (qA×Dt)}(e:H aa=some (.b9 ob (.dK Hj)))(g:KK K H ρ kvs Hj):aS K H ρ (.vals (kvs.map (·.2))) (NO aa ob):=by
 intro H2 ρ2 h2 sm S2 i;have f2:=sm.fz aa ob _ e;have r2:G7 K H2 ρ2 (kvs.map (·.2)) (Hj.map (·.2)):=G7.same sm _ g.2;simp only[Src.at];cases hi:(kvs.map (·.2))[i]? with
 | none=>refine⟨Hj,f2,?_⟩;rw[g.length];simpa using getElem?_eq_none_iff.mp hi
 | some d=>obtain⟨v,e1,r1⟩:=r2.get hi;rw[getElem?_map]at e1;obtain⟨p,e2,e3⟩:=Option.map_eq_some_iff.mp e1;refine⟨⟨Hj,p,f2,e2⟩,fun x H3 zz=>?_⟩;obtain⟨eH,hh⟩:=zz;obtain⟨k,e4⟩:=hh Hj f2;rw[e2]at e4;cases e4;subst eH;have e3':x=v:=e3;subst e3';exact⟨r1,Ext.refl _ _,S2⟩
end
section
variable{X:Cx}{tg d e:Expr}{fa f:RE}{apos cpos:Pos}
theorem bX (ho:EM X d fa) (hbase:attributeBase d "values" X.env (eval d X.env)=eval d X.env:=by rfl) (hline:(apos.endLine==cpos.line)=true:=by rfl) :
 IM X tg (.Call (.Attribute d "values" apos) [] [] cpos) (jO fa):=by
 with_unfolding_all
  exact PI.imp (kW ho hbase hline) fun σ H R zz=>by
   obtain⟨ρ,l,h,s,h',S,L,e,k⟩:=zz;obtain⟨⟨d1,h1⟩,e1,e⟩:=eA e;refine⟨ρ,l,h,d1,h1,S,L,e1,fun ρ1 v H1 R1 S1 E1=>?_⟩;cases d1 with
   | ref n=>
    obtain⟨aa,z,ha⟩:=R7.mp R1;have hm:=mem_of_getElem? ha;refine⟨aa,z,?_⟩;dsimp only at e;split at e
    · rename_i kvs q;cases e;obtain⟨vs,g1,g2⟩:=S1.ob n aa _ ha q;have g3:KK X.K H1 ρ1 kvs vs:=g2;refine .inl ⟨vs,g1,fun ob=>?_⟩;have EW:=Ext.write (o:=.b9 ob (.dK vs)) hm (SK g1);exact k ρ1 _ _ (JX (n:=n) AB (g3.ext EW)) (S1.write ha (SK g1) ⟨ob,vs,AB,g3.ext EW⟩) (E1.trans EW)
    · cases e
   | _=>cases e
end
section
variable{K:Frag}{ρ:Rg}{H H':Hp}
theorem Tup.R9(x:∀a u,H a=some u->ρ.no a->H' a=some u){a:Addr}{vs:List V}(h:TupAt K H ρ a vs):TupAt K H' ρ a vs:=by
 rcases h with⟨n,t | ⟨y,t⟩⟩ | t
 · exact .inl ⟨n,.inl (x _ _ t n)⟩
 · exact .inl ⟨n,.inr ⟨y,x _ _ t n⟩⟩
 · exact .inr t
theorem Lst.R9(x:∀a u,H a=some u->ρ.no a->H' a=some u){a:Addr}{vs:List V}(h:LstAt K H ρ a vs):LstAt K H' ρ a vs:=by
 rcases h with⟨n,t | ⟨y,t⟩⟩ | t
 · exact .inl ⟨n,.inl (x _ _ t n)⟩
 · exact .inl ⟨n,.inr ⟨y,x _ _ t n⟩⟩
 · exact .inr t
end
mutual
theorem J7.R9{K:Frag}{ρ:Rg}{H H':Hp}(x:∀a u,H a=some u->ρ.no a->H' a=some u):∀(d:Dt){v:V},J7 K H ρ d v->J7 K H' ρ d v
 | .non,_,h=>by simp only[J7]at h ⊢;exact h
 | .bl _,_,h=>by simp only[J7]at h ⊢;exact h
 | .int _,_,h=>by simp only[J7]at h ⊢;exact h
 | .str _,_,h=>by simp only[J7]at h ⊢;exact h
 | .tup xs,_,h=>by simp only[J7]at h ⊢;obtain⟨a,vs,e,t,r⟩:=h;exact⟨a,vs,e,Tup.R9 x t,G7.R9 x xs r⟩
 | .lst xs,_,h=>by simp only[J7]at h ⊢;obtain⟨a,vs,e,t,r⟩:=h;exact⟨a,vs,e,Lst.R9 x t,G7.R9 x xs r⟩
 | .ref _,_,h=>by simp only[J7]at h ⊢;exact h
 | .y9 _,_,h=>by simp only[J7]at h ⊢;obtain⟨a,e,n,t⟩:=h;exact⟨a,e,n,x _ _ t n⟩
 | .err _ _ _,_,h=>by
  simp only[J7]at h ⊢;obtain⟨a,C,dx,e,c,n,t,q⟩:=h;refine⟨a,C,dx,e,c,n,x _ _ t n,?_⟩;rcases q with q | ⟨b,q,n',t'⟩
  · exact .inl q
  · exact .inr ⟨b,q,n',x _ _ t' n'⟩
 | .thr _ _ _,_,h=>by simp only[J7]at h
theorem G7.R9{K:Frag}{ρ:Rg}{H H':Hp}(x:∀a u,H a=some u->ρ.no a->H' a=some u):∀(ds:List Dt){vs:List V},G7 K H ρ ds vs->G7 K H' ρ ds vs
 | [],_,h=>by simp only[G7]at h ⊢;exact h
 | d::ds,_,h=>by simp only[G7]at h ⊢;obtain⟨v,r,e,h1,h2⟩:=h;exact⟨v,r,e,J7.R9 x d h1,G7.R9 x ds h2⟩
end
noncomputable def sG(H H':Hp):Hp:=fun b=>match H b,H' b with
 | some (.dK _),some (.b9 _ (.dK kvs))=>some (.dK kvs)
 | _,x=>x
theorem ME{H H':Hp}{b:Addr}:sG H H' b=H' b\/∃vs o kvs,H b=some (.dK vs)/\H' b=some (.b9 o (.dK kvs))/\sG H H' b=some (.dK kvs):=by
 unfold sG;split
 · rename_i vs o kvs h1 h2;exact .inr ⟨vs,o,kvs,h1,h2,rfl⟩
 · exact .inl rfl
section
variable{X:Cx}{pins:List (Addr×Obj)}{σ:L2.St}{H H':Hp}{s s':Shared}
theorem NX(I0:Inv X pins σ H s)(I:Inv X pins σ H' s'):Inv X pins σ (sG H H') s':=by
 have fr:∀b,H' b=none->sG H H' b=none:=fun b q=>by
  rcases ME (H:=H) (H':=H') (b:=b)with z | ⟨_,_,_,_,z,_⟩
  · rw[z];exact q
  · rw[q]at z;cases z
 have kp:∀b u,H' b=some u->(∀o kvs,u≠.b9 o (.dK kvs))->sG H H' b=some u:=fun b u q n=>by
  rcases ME (H:=H) (H':=H') (b:=b)with z | ⟨_,o,kvs,_,z,_⟩
  · rw[z];exact q
  · rw[q]at z;cases z;exact absurd rfl (n o kvs)
 have st:∀{c:Addr}{v:HO},Y7 X.prog X.w H' s'.heap c v->Y7 X.prog X.w (sG H H') s'.heap c v:=fun ok=>ok.stay (fun _ _ _ g=>g) (fun b' q'=>kp _ _ q' fun _ _ z=>nomatch z) fun b' ys q'=>kp _ _ q' fun _ _ z=>nomatch z
 refine⟨I.ok,I.os,I.bare,⟨I.base.keep,I.base.slot,fun b u q n x=>fr b (I.base.free b u q n x),I.base.there,fun b ys q=>kp _ _ (I.base.tups b ys q) (fun _ _ z=>nomatch z),fun b ob u q=>?_,fun b ps q=>?_⟩,I.loc,I.cell,fr _ I.free,fun x c q=>fr _ (I.C8 x c q),fun p hp=>?_,fun b u q=>?_,I.len⟩
 · have z:=I.base.Y8 b ob u q;have z0:=I0.base.Y8 b ob u q;rcases ME (H:=H) (H':=H') (b:=b)with w | ⟨_,_,_,w,_⟩
   · rw[w];exact z
   · rw[z0]at w;cases w
 · obtain⟨more,z⟩:=I.base.n9 b ps q;exact⟨more,kp _ _ z fun _ _ z=>nomatch z⟩
 · obtain⟨h1,h2,h3⟩:=I.pin p hp;exact⟨h1,fr _ h2,h3⟩
 · rcases ME (H:=H) (H':=H') (b:=b)with w | ⟨_,o,kvs,_,w,w'⟩
   · rw[w]at q;exact st (I.hok b u q)
   · rw[w']at q;cases q;obtain⟨_,ok⟩:=(show Y7 X.prog X.w H' s'.heap b (.b9 o (.dK kvs))from I.hok b _ w);exact st ok
end
section
variable{K:Frag}{ρ ρ':Rg}{h h':HI}{H H':Hp}
theorem FN(x:Ext ρ ρ' H H'):∀a u,H' a=some u->a∉ρ.v->sG H H' a=some u:=fun a u e n=>by
 rcases ME (H:=H) (H':=H') (b:=a)with w | ⟨vs,o,kvs,w1,w2,_⟩
 · rw[w];exact e
 · have:=x.keep a _ w1 n;rw[w2]at this;cases this
theorem MX(x:Ext ρ ρ' H H'):Ext ρ ρ' H (sG H H'):=by
 refine⟨x.pre,x.hid,fun a o e n=>FN x a o (x.keep a o e n) n,fun a e=>?_,fun a o u e=>?_⟩
 · rcases ME (H:=H) (H':=H') (b:=a)with w | ⟨_,_,_,_,_,w⟩
   · rw[w]at e;exact x.live a e
   · rw[w]at e;cases e
 · rcases ME (H:=H) (H':=H') (b:=a)with w | ⟨_,_,_,w,_⟩
   · rw[w];exact x.fz a o u e
   · rw[e]at w;cases w
theorem OX(S:M7 K ρ h H)(S':M7 K ρ' h' H')(x:Ext ρ ρ' H H'):M7 K ρ' (SD h h') (sG H H'):=by
 have no:∀a u,H' a=some u->ρ'.no a->sG H H' a=some u:=fun a u e n=>FN x a u e fun z=>by obtain⟨e',q,_⟩:=x.pre;exact n.1 (by rw[q];exact mem_append_left _ z)
 refine⟨S'.nd,by rw[oQ];exact S'.len,fun n a o e1 e2=>?_,fun a ha=>?_⟩
 · rw[rN]at e2;split at e2
   · rename_i Gv kvs q1 q2;cases e2;obtain⟨ob,vs,g1,g2,g3⟩:=S'.ob n a _ e1 q2;have nl:n<h.length:=(Sy q1).1;have e0:ρ.v[n]?=some a:=by obtain⟨e',q,_⟩:=x.pre;rw[q,Uy (by rw[S.len];exact nl)]at e1;exact e1
     obtain⟨Hj,k1,_⟩:=S.ob n a _ e0 q1;refine⟨vs,?_,g2,G7.R9 no _ g3⟩;unfold sG;rw[k1,g1]
   · rename_i nn;have ob:=S'.ob n a o e1 e2;have same:sG H H' a=H' a:=by
      rcases ME (H:=H) (H':=H') (b:=a)with w | ⟨vs,o1,kvs,w1,w2,_⟩
      · exact w
      · exfalso;have e0:ρ.v[n]?=some a:=by
         obtain⟨e',q,hn⟩:=x.pre;by_cases nl:n<ρ.v.length
         · rw[q,Uy nl]at e1;exact e1
         · rw[q,Yy (Nat.not_lt.mp nl)]at e1;have:=hn a (mem_of_getElem? e1);rw[w1]at this;cases this
        have nl:n<h.length:=by rw[<- S.len];exact(Sy e0).1
        have q1:=getElem?_eq_getElem nl;have o0:=S.ob n a _ e0 q1;generalize hb:h[n]=b0 at o0 q1;cases b0 with
        | lst xs=>obtain⟨_,z,_⟩:=o0;rw[w1]at z;cases z
        | ins y fs=>obtain⟨_,_,_,_,z,_⟩:=o0;rw[w1]at z;cases z
        | dt xs=>obtain⟨_,z,_⟩:=o0;rw[w1]at z;cases z
        | df xs=>obtain⟨_,_,z,_⟩:=o0;rw[w1]at z;cases z
        | U9 xs=>obtain⟨_,_,z,_⟩:=o0;rw[w1]at z;cases z
        | dk Gv=>
         cases o with
         | lst xs=>obtain⟨_,z,_⟩:=ob;rw[w2]at z;cases z
         | ins y fs=>obtain⟨_,_,_,_,z,_⟩:=ob;rw[w2]at z;cases z
         | dk xs=>obtain⟨_,z,_⟩:=ob;rw[w2]at z;cases z
         | dt xs=>obtain⟨_,z,_⟩:=ob;rw[w2]at z;cases z
         | df xs=>obtain⟨_,_,z,_⟩:=ob;rw[w2]at z;cases z
         | U9 xs=>exact nn Gv xs q1 e2
     cases o with
     | lst xs=>obtain⟨vs,g1,g2⟩:=ob;exact⟨vs,same.trans g1,G7.R9 no _ g2⟩
     | ins y fs=>obtain⟨C,dx,vs,g0,g1,g2,g3⟩:=ob;exact⟨C,dx,vs,g0,same.trans g1,g2,G7.R9 no _ g3⟩
     | dk xs=>obtain⟨vs,g1,g2,g3⟩:=ob;exact⟨vs,same.trans g1,g2,G7.R9 no _ g3⟩
     | dt xs=>obtain⟨vs,g1,g2,g3⟩:=ob;exact⟨vs,same.trans g1,g2,G7.R9 no _ g3⟩
     | df xs=>obtain⟨ob,vs,g1,g2,g3⟩:=ob;exact⟨ob,vs,same.trans g1,g2,G7.R9 no _ g3⟩
     | U9 xs=>obtain⟨ob,vs,g1,g2,g3⟩:=ob;exact⟨ob,vs,same.trans g1,g2,G7.R9 no _ g3⟩
 · obtain⟨n,vs,g⟩:=S'.zt a ha;refine⟨n,vs,?_⟩;rcases ME (H:=H) (H':=H') (b:=a)with w | ⟨_,_,_,_,w,_⟩
   · rw[w];exact g
   · rw[g]at w;cases w
end
theorem oZ{X:Cx}{e:Expr}{f:RE}(he:EM X e f):EM X e (EK f):=by
 with_unfolding_all
  intro pins s σ H Q I zz;obtain⟨ρ,l,h,d,h',S,L,e,k⟩:=zz;obtain⟨⟨d1,h1⟩,e1,e⟩:=Option.map_eq_some_iff.mp e;cases e;have p:=he pins s σ H (fun v H'=>∃ρ',J7 X.K H' ρ' d1 v/\M7 X.K ρ' h1 H'/\Ext ρ ρ' H H') I ⟨ρ,l,h,d1,h1,S,L,e1,fun ρ' v H' R S' E'=>⟨ρ',R,S',E'⟩⟩;refine IA p fun u s' ⟨v,H',I',r,ρ',R,S',E'⟩=>⟨v,sG H H',NX I I',r,k ρ' v _ (J7.R9 (fun a u e n=>FN E' a u e fun z=>?_) d1 R) (OX S S' E') (MX E')⟩
  obtain⟨e',q,_⟩:=E'.pre;exact n.1 (by rw[q];exact mem_append_left _ z)
end SM
namespace L2
open PySem.W
theorem G5{P:Program}{w:World}{k:qA}{u:Value}(h:(LB P w).is k u=true):RelV (kV k) u:=by
 rcases tE h with⟨i,t,rfl,rfl⟩ | ⟨x,t,rfl,rfl⟩
 · exact⟨t,rfl⟩
 · exact⟨t,rfl⟩
theorem dR{P:Program}{w:World}:∀{kvs:List (qA×V)}{us:List Value},us.length=kvs.length->(∀(j:Nat)(v:Value),us[j]?=some v->∃p,kvs[j]?=some p/\(LB P w).is p.1 v=true)->Vals (kvs.map fun p=>kV p.1) us
 | [],[],_,_=>.nil
 | [],_::_,h,_=>by simp at h
 | _::_,[],h,_=>by simp at h
 | p::kvs,u::us,h,k=>by obtain⟨q,e,z⟩:=k 0 u rfl;cases (show p=q by simpa using e);exact .cons (G5 z) (dR (P:=P) (w:=w) (by simpa using h) fun j v e=>k (j+1) v (by simpa using e))
section
variable{X:Cx}
theorem QU (cm:X.calm=true):t8 X (.type "list") (fun xs H Q=>∃a kvs,xs=[.ref a]/\H a=some (.dK kvs)/\∀l,H l=none->Q (.ref l) (DA H l (.lst (kvs.map fun p=>kV p.1)))):=by
 intro pins s σ H xs us Q I r zz;obtain⟨a,kvs,ex,e,q⟩:=zz;subst ex;obtain⟨u,rfl,ru⟩:=Vals.one r;cases (show u=Value.ref a from ru);obtain⟨hz,lo,vs,kv,o,es,ep,h1,h2,h3,h4,h5,h6⟩:=(show Y7 X.prog X.w H s.heap a (.dK kvs)from I.hok a _ e);have hl:kvs.length=vs.length:=KV.length kv;refine kdl_call (kdl_dict (knd:=LB X.prog X.w) (kvs:=vs) (ep:=ep) lo) (I.ok.hd cm) ⟨o,es,h1,h2,h3,h4,h5,h6⟩ (by rw[<- hl];exact hz) fun h' tk acc' c' hk hS hacc=>?_
 have va:Vals (kvs.map fun p=>kV p.1) acc'.toList:=by
  refine dR (P:=X.prog) (w:=X.w) (by rw[Array.length_toList,hacc.1,hl]) fun j v ej=>?_
  obtain⟨k,x,e1,e2⟩:=hacc.2 j v (by rw[<- Array.getElem?_toList];exact ej);have hj:j<kvs.length:=by rw[hl];exact(Sy e1).1
  obtain⟨y,e3,e4,_⟩:=Paired.g9 kv (getElem?_eq_getElem hj);rw[e1]at e3;cases e3;exact⟨kvs[j],getElem?_eq_getElem hj,by rw[e4];exact e2⟩
 exact⟨.ref s.heap.objs.size,_,I.laid (a:=s.heap.objs.size) (o:=.lst (kvs.map fun p=>kV p.1)) (h':=h') (t':=tk) hk (Xy _) ⟨by rw[length_map];exact hz,acc'.toList,c',va,by rw[Array.toArray_toList];exact hS⟩,rfl,q _ (I.hok.fresh (Xy _))⟩
end
end L2
namespace SM
noncomputable def kD:qA->Dt
 | .inl i=>.int i
 | .inr z=>.str z
def vI(d:Dt)(h:HI):Option (Dt×HI):=(iE h d).map fun kvs=>(.lst (kvs.map fun p=>kD p.1),h)
theorem XN{K:Frag}{H:Hp}{ρ:Rg}:∀(ks:List qA),G7 K H ρ (ks.map kD) (ks.map kV)
 | []=>G7.nil
 | .inl i::ks=>G7.cons (K7.mpr rfl) (XN ks)
 | .inr z::ks=>G7.cons (N7.mpr rfl) (XN ks)
section
variable{X:Cx}{e:Expr}{f:RE}{p pos:Pos}
theorem UW (cm:X.calm=true) (hg:Gl X "list") (hm:X.mg "list" =none) (ha:EM X e f) (hs:eB e=true:=by rfl):EM X (.Call (.Name "list" p) [e] [] pos) (cC vI f):=by
 with_unfolding_all
  exact uO (QU cm) (fun ρ h d v d' h' H Q S R e k=>by
   unfold vI at e;obtain⟨kvs,q,e⟩:=Option.map_eq_some_iff.mp e;cases e;obtain⟨a,vs,z,g1,g2⟩:=CK S q R;refine⟨a,vs,by rw[z],g1,fun l hl=>k ρ _ _ (AI S ?_ hl) (S.fresh hl) (Ext.fresh hl)⟩;have r:=XN (K:=X.K) (H:=H) (ρ:=ρ) (kvs.map (·.1));rw[map_map]at r;have e2:vs.map (fun p=>kV p.1)=(kvs.map (·.1)).map kV:=by rw[g2.1,map_map];rfl
   rw[e2];exact r) hg hm PyProof.Rows.boot_list ha (hs:=hs)
end
def qI(x m:Str)(F:jB)(fo:RE):RE:=JD x m F fo fA
section
variable{X:Cx}{k k' n:Nat}{F:jB}{x m:Str}{fo:RE}{apos pos:Pos}{o:Expr}
theorem xN{pl:Sem Bool}(c:ZI X.prog X.w X.K X.mg X.base k n x m F)(hr:Z7 k' X.A)(hk:k<=k')(ho:EM X o fo)
 (ht:eval (.Call (.Attribute o m apos) [] [] pos) X.env=(do
  let ov <- eval o X.env
  standAt apos.atName
  let (f,first) <- holding [ov] (getMethod ov m pl)
  callWith pos f first (backTo pos (starEach [] X.env)) (backToKw pos (keywordEach [] X.env))):=by rfl):EM X (.Call (.Attribute o m apos) [] [] pos) (qI x m F fo):=by
 with_unfolding_all
  obtain⟨C,f,fd,ps,c1,c2,c3,c4,c5⟩:=c.ex;exact PE.imp (cY (pl:=pl) ho c2 c3 c4 (hr.mono hk) c5 .nil (E:=E0) LK ht) fun σ H Q zz=>by
   obtain⟨ρ,l,h,d,h',S,L,e,k⟩:=zz;obtain⟨⟨d1,h1⟩,e1,e⟩:=eA e;refine⟨ρ,l,h,d1,h1,S,L,e1,fun ρ1 v H1 R1 S1 E1=>?_⟩;cases d1 with
   | ref nn=>
    dsimp only at e;split at e
    · rename_i y fs q;obtain⟨⟨hy,hl⟩,e3⟩:=HH e;subst hy;obtain⟨⟨ds,h2⟩,e2,e4⟩:=eA e3;cases e2;obtain⟨a,z,ha⟩:=R7.mp R1;obtain⟨C',dx,vs,c1',g1,g2,g3⟩:=S1.ob nn a _ ha q;have cc:C'=C:=clsOf.inj c1' c1;subst cc;exact⟨a,dx,vs,z,g1,(aK g2 g3).2 hl,ρ1,_,h1,d,h',S1,.cons R1 .nil,c.len _ _ _ e4,e4,k.ext E1⟩
    · cases e
   | _=>cases e
end
section
variable{X:Cx}{i oo:Expr}{fy fo:RE}{pos:Pos}
theorem z3(hu:X.A.units+64<cLine)(hy:EM X i fy)(ho:EM X oo fo)(hb:behindInMarks .In oo=false:=by rfl):TM X (.Compare i [.In] [oo] pos) (b8 (BG true fy fo)):=by with_unfolding_all exact PT.imp (BR (T3 (by omega) hy ho) hb) fun σ H Q zz=>by obtain⟨ρ,l,h,bb,h',S,L,e,k⟩:=zz;obtain⟨⟨d0,h0⟩,e0,e⟩:=eA e;obtain⟨⟨d1,h1⟩,e1,e0⟩:=eA e0;obtain⟨⟨d2,h2⟩,e2,e0⟩:=eA e0;obtain⟨ky,e3,e0⟩:=eA e0;obtain⟨kvs,e4,e0⟩:=Option.map_eq_some_iff.mp e0;cases e0;cases e;refine⟨ρ,l,h,d1,h1,S,L,e1,fun ρ1 x H1 R1 S1 E1=>⟨ρ1,l,h1,d2,_,S1,L.ext E1,e2,fun ρ2 y H2 R2 S2 E2=>?_⟩⟩;obtain⟨a,vs,z,g1,g2⟩:=CK S2 e4 R2;refine⟨a,_,z,by rw[eI e3 R1];exact u9.k g1,_,rfl,?_⟩;have kk:=k ρ2 H2 S2 (E1.trans E2);rw[g2.isSome ky];revert kk;cases (oB kvs ky).isSome<;>exact fun z=>z
theorem gQ(hu:X.A.units+64<cLine)(hy:EM X i fy)(ho:EM X oo fo)(hb:behindInMarks .NotIn oo=false:=by rfl):TM X (.Compare i [.NotIn] [oo] pos) (b8 (BG false fy fo)):=by with_unfolding_all exact PT.imp (BR (eW (by omega) hy ho) hb) fun σ H Q zz=>by obtain⟨ρ,l,h,bb,h',S,L,e,k⟩:=zz;obtain⟨⟨d0,h0⟩,e0,e⟩:=eA e;obtain⟨⟨d1,h1⟩,e1,e0⟩:=eA e0;obtain⟨⟨d2,h2⟩,e2,e0⟩:=eA e0;obtain⟨ky,e3,e0⟩:=eA e0;obtain⟨kvs,e4,e0⟩:=Option.map_eq_some_iff.mp e0;cases e0;cases e;refine⟨ρ,l,h,d1,h1,S,L,e1,fun ρ1 x H1 R1 S1 E1=>⟨ρ1,l,h1,d2,_,S1,L.ext E1,e2,fun ρ2 y H2 R2 S2 E2=>?_⟩⟩;obtain⟨a,vs,z,g1,g2⟩:=CK S2 e4 R2;refine⟨a,_,z,by rw[eI e3 R1];exact u9.k g1,_,rfl,?_⟩;have kk:=k ρ2 H2 S2 (E1.trans E2);rw[g2.isSome ky];revert kk;cases (oB kvs ky).isSome<;>exact fun z=>z
end
section
variable{K:Frag}{mg:Str->Option Value}{x:Str}{C:Addr}{b:Bool}{tab:List (Str×Bool)}{D:Value}
theorem qD(n:nsIn K mainGlobals x=some (some (.ref C)))(ec:yE K C=true)(k:PySem.W.kitOne K (.ref C) D=some b)(r:zE K D tab):zE K D ((x,b)::tab):=fun y' b' e=>by
 by_cases z:y'=x
 · subst z;have zb:(y'==y')=true:=beq_iff_eq.mpr rfl;simp only[List.lookup,zb]at e;cases e;exact⟨C,n,ec,k⟩
 · have zb:(y'==x)=false:=by rw[<- Bool.not_eq_true,beq_iff_eq];exact z
   simp only[List.lookup,zb]at e;exact r y' b' e
theorem qR{h:Heap}(X:K.In h)(G:h.Ns mainGlobals mg)(n:nsIn K mainGlobals x=some (some (.ref C)))(e:fG K C=true)(k:keepIn K (.ref C)=true):XI K mg x:=⟨⟨C,n,e,k,PySem.W.mg_of X G n⟩⟩
end
noncomputable def NA{α β:Type}(o:Option α)(f:α->Option β):Option β:=o.bind f
@[simp] theorem iA{α β:Type}(a:α)(f:α->Option β):NA (some a) f=f a:=by rfl
@[simp] theorem z7{α β:Type}{c:Prop}[Decidable c](a b:Option α)(k:α->Option β):NA (if c then a else b) k=if c then NA a k else NA b k:=by split<;>rfl
section
variable{l:LI}{h:HI}{f g fa fb fc:RE}
@[simp] theorem vA(d:Dt):eC d l h=some (d,h):=by rfl
noncomputable def iL(h:HI):Option (Option Dt)->Option (Dt×HI)
 | some (some d)=>some (d,h)
 | _=>none
@[simp] theorem kA(d:Dt):iL h (some (some d))=some (d,h):=by rfl
@[simp] theorem jA(i:Nat):eV i l h=iL h l[i]?:=by unfold eV iL;rfl
@[simp] theorem yA(op:LC):e2 op fa fb l h=NA (fa l h) fun r=>NA (fb l r.2) fun q=>op r.1 q.1 q.2:=by rfl
@[simp] theorem YA:fA l h=some ([],h):=by rfl
@[simp] theorem dB(r:RA):bA f r l h=NA (f l h) fun r'=>NA (r l r'.2) fun q=>some (r'.1::q.1,q.2):=by rfl
noncomputable def K6:Dt×HI->Option (Bool×HI)
 | (.bl b,h)=>some (b,h)
 | _=>none
@[simp] theorem GA(b:Bool):K6 (.bl b,h)=some (b,h):=by rfl
@[simp] theorem LA:b8 f l h=NA (f l h) K6:=by
 unfold NA;unfold b8
 congr 1
 funext r
 obtain⟨d,h⟩:=r;cases d<;>rfl
@[simp] theorem nH(t u:RT):ND t u l h=NA (t l h) fun r=>if r.1=true then u l r.2 else some (false,r.2):=by rfl
@[simp] theorem DE(t u:RT):DD t u l h=NA (t l h) fun r=>if r.1=true then some (true,r.2)else u l r.2:=by rfl
@[simp] theorem wD(t:RT):cD t l h=NA (t l h) fun r=>some (!r.1,r.2):=by rfl
noncomputable def nS(u:RE)(l:LI):Dt×HI->Option (Dt×HI)
 | (.bl true,h)=>u l h
 | (.bl false,h)=>some (.bl false,h)
 | _=>none
noncomputable def eP(u:RE)(l:LI):Dt×HI->Option (Dt×HI)
 | (.bl true,h)=>some (.bl true,h)
 | (.bl false,h)=>u l h
 | _=>none
@[simp] theorem RJ(u:RE)(b:Bool):nS u l (.bl b,h)=if b=true then u l h else some (.bl false,h):=by cases b<;>rfl
@[simp] theorem D1(u:RE)(b:Bool):eP u l (.bl b,h)=if b=true then some (.bl true,h)else u l h:=by cases b<;>rfl
@[simp] theorem ER(u:RE):JG f u l h=NA (f l h) (nS u l):=by
 unfold NA;unfold JG
 congr 1
 funext r
 obtain⟨d,h⟩:=r;cases d<;>(try rfl);rename_i b;cases b<;>rfl
@[simp] theorem w6(u:RE):HS f u l h=NA (f l h) (eP u l):=by
 unfold NA;unfold HS
 congr 1
 funext r
 obtain⟨d,h⟩:=r;cases d<;>(try rfl);rename_i b;cases b<;>rfl
noncomputable def oS:Dt×HI->Option (Dt×HI)
 | (.bl b,h)=>some (.bl (!b),h)
 | _=>none
@[simp] theorem u7(b:Bool):oS (.bl b,h)=some (.bl (!b),h):=by rfl
@[simp] theorem f7:kJ f l h=NA (f l h) oS:=by
 unfold NA;unfold kJ
 congr 1
 funext r
 obtain⟨d,h⟩:=r;cases d<;>rfl
@[simp] theorem EO(t:RT):CT t f g l h=NA (t l h) fun r=>if r.1=true then f l r.2 else g l r.2:=by rfl
noncomputable def F6(o':LC)(fc:RE)(l:LI)(q:Dt):Dt×HI->Option (Dt×HI)
 | (.bl true,h)=>(fc l h).bind fun r=>o' q r.1 r.2
 | (.bl false,h)=>some (.bl false,h)
 | _=>none
@[simp] theorem wR(o':LC)(q:Dt)(b:Bool):F6 o' fc l q (.bl b,h)=if b=true then NA (fc l h) fun r=>o' q r.1 r.2 else some (.bl false,h):=by cases b<;>rfl
@[simp] theorem VQ(o o':LC):jH o o' fa fb fc l h=NA (fa l h) fun r=>NA (fb l r.2) fun q=>NA (o r.1 q.1 q.2) (F6 o' fc l q.1):=by
 unfold NA;unfold jH
 congr 1
 funext r
 congr 1
 funext q
 congr 1
 funext z
 obtain⟨d,h⟩:=z;cases d<;>(try rfl);rename_i b;cases b<;>rfl
@[simp] theorem FD(r:RA):dC r l h=NA (r l h) fun r=>if r.1.length<=sizeLine then some (.tup r.1,r.2)else none:=by rfl
@[simp] theorem CI(r:RA):uC r l h=NA (r l h) fun r=>if r.1.length<=sizeLine then some (.lst r.1,r.2)else none:=by rfl
@[simp] theorem zK(r:RA):CG r l h=NA (r l h) fun r=>if r.1.length<=sizeLine then some (.ref r.2.length,r.2++[.lst r.1])else none:=by rfl
noncomputable def M6:Dt×HI->Option (Dt×HI)
 | (.int b,h)=>some (.int (-b),h)
 | _=>none
@[simp] theorem LD(i j:Int):HB (.int i) (.int j) h=some (.int (i+j),h):=by rfl
@[simp] theorem M5(i j:Int):qL (.int i) (.int j) h=some (.int (i-j),h):=by rfl
@[simp] theorem JF(i j:Int):IH (.int i) (.int j) h=some (.bl (decide (i<j)),h):=by rfl
@[simp] theorem WO(i j:Int):xH (.int i) (.int j) h=some (.bl (decide (i<=j)),h):=by rfl
@[simp] theorem fT(i j:Int):VO (.int i) (.int j) h=some (.bl (decide (j<i)),h):=by rfl
@[simp] theorem eT(i j:Int):cT (.int i) (.int j) h=some (.bl (decide (j<=i)),h):=by rfl
theorem cF{i j:Int}(c:V9 i j):mD (.int i) (.int j) h=some (.int (i*j),h):=by simp only[mD,oI,if_pos c]
theorem uD{i j:Int}(c:yH i j):RB (.int i) (.int j) h=some (.int (i/j),h):=by simp only[RB,oI,if_pos c]
theorem wB{i j:Int}(c:0<j):fB (.int i) (.int j) h=some (.int (i%j),h):=by simp only[fB,oI,if_pos c]
theorem K5{i j:Int}(c:zH i j):JH (.int i) (.int j) h=some (.int (i^j.toNat),h):=by simp only[JH,oI,if_pos c]
@[simp] theorem GG(i j:Int):EB (.int i) (.int j) h=some (.bl (decide (i=j)),h):=by show some (Dt.bl (decide (V.int i=V.int j)),h)=_;simp
@[simp] theorem KH(i j:Int):IB (.int i) (.int j) h=some (.bl (!decide (i=j)),h):=by show some (Dt.bl (!decide (V.int i=V.int j)),h)=_;simp
@[simp] theorem VB(i j:Str):EB (.str i) (.str j) h=some (.bl (decide (i=j)),h):=by show some (Dt.bl (decide (V.str i=V.str j)),h)=_;simp
@[simp] theorem uH(i j:Str):IB (.str i) (.str j) h=some (.bl (!decide (i=j)),h):=by show some (Dt.bl (!decide (V.str i=V.str j)),h)=_;simp
@[simp] theorem ED{α:Type}(xs:List α)(k:Nat):g9 xs (k:Int)=xs[k]?:=by
 unfold g9 DG;rw[if_pos (by omega)];by_cases hk:k<xs.length
 · rw[if_pos (by omega)];simp
 · rw[if_neg (by omega)];simp;omega
@[simp] theorem IC{α:Type}(xs:List α):g9 xs 0=xs[0]?:=ED xs 0
@[simp] theorem HD{α:Type}(xs:List α):g9 xs 1=xs[1]?:=ED xs 1
@[simp] theorem nC(xs:List Dt)(i:Int):wA (.tup xs) (.int i) h=(g9 xs i).map fun d=>(d,h):=by rfl
@[simp] theorem jG(xs:List Dt)(i:Int):wA (.lst xs) (.int i) h=(g9 xs i).map fun d=>(d,h):=by rfl
theorem DO{n:Nat}{xs:List Dt}(e:h[n]?=some (.lst xs))(i:Int):wA (.ref n) (.int i) h=(g9 xs i).map fun d=>(d,h):=by simp only[wA,JE,VA,e,Py]
noncomputable def CS(g:RS):Rs->Option Rs
 | .nx l h=>g l h
 | r=>some r
@[simp] theorem QA(g:RS):CS g (.nx l h)=g l h:=by rfl
@[simp] theorem gC(g:RS)(d:Dt):CS g (.rt d h)=some (.rt d h):=by rfl
@[simp] theorem U2(g:RS):CS g (.bk l h)=some (.bk l h):=by rfl
@[simp] theorem WA(f g:RS):gA f g l h=NA (f l h) (CS g):=by
 unfold NA;unfold gA
 congr 1
@[simp] theorem kB:SA l h=some (.nx l h):=by rfl
@[simp] theorem HC(i:Nat):EA i f l h=NA (f l h) fun r=>some (.nx (l.set i (some r.1)) r.2):=by rfl
@[simp] theorem gI:AF f l h=NA (f l h) fun r=>some (.nx l r.2):=by rfl
@[simp] theorem cB:xA f l h=NA (f l h) fun r=>some (.rt r.1 r.2):=by rfl
@[simp] theorem bB(t:RT)(f g:RS):QB t f g l h=NA (t l h) fun r=>if r.1=true then f l r.2 else g l r.2:=by rfl
@[simp] theorem oY:jI l h=some (.bk l h):=by rfl
noncomputable def HF:Option Rs->Option (Dt×HI)
 | some (.rt d h')=>some (d,h')
 | some (.nx _ h')=>some (.non,h')
 | _=>none
@[simp] theorem OA(d:Dt):HF (some (.rt d h))=some (d,h):=by rfl
@[simp] theorem sZ:HF (some (.nx l h))=some (.non,h):=by rfl
@[simp] theorem a7{c:Prop}[Decidable c](a b:Option Rs):HF (if c then a else b)=if c then HF a else HF b:=by split<;>rfl
@[simp] theorem iB(n N:Nat)(body:RS)(ds:List Dt):GB n N body ds h=if ds.length=n then HF (body (ds.map some++List.replicate (N-n) none) h)else none:=by unfold GB HF;rfl
@[simp] theorem BB(F:jB)(Rj:List Dt)(g:RA):BA F Rj g l h=NA (g l h) fun r=>F (r.1++Rj) r.2:=by rfl
noncomputable def DS(go:LI->HI->Option Rs):Rs->Option Rs
 | .nx l h=>go l h
 | .ct l h=>go l h
 | .bk l h=>some (.nx l h)
 | .rt d h=>some (.rt d h)
@[simp] theorem V2(go:LI->HI->Option Rs):DS go (.nx l h)=go l h:=by rfl
@[simp] theorem j7(go:LI->HI->Option Rs):DS go (.ct l h)=go l h:=by rfl
@[simp] theorem i7(go:LI->HI->Option Rs):DS go (.bk l h)=some (.nx l h):=by rfl
def pC(bd:RG)(body:RS):List Dt->LI->HI->Option Rs
 | [],l,h=>some (.nx l h)
 | x::xs,l,h=>(bd x l).bind fun l1=>(body l1 h).bind (DS (pC bd body xs))
theorem RP(bd:RG)(body:RS)(xs:List Dt):∀(n k:Nat)(l:LI)(h:HI),n=(xs.length-k)+1->k<=xs.length->BC bd body (.vals xs) n k l h=pC bd body (xs.drop k) l h:=by
 intro n
 induction n with
 | zero=>intro k l h e;omega
 | succ n ih=>
  intro k l h e hk;unfold BC;simp only[Src.at];by_cases hl:k<xs.length
  · rw[getElem?_eq_getElem hl,drop_eq_getElem_cons hl];simp only[pC]
    congr 1
    funext l1
    congr 1
    funext r
    cases r with
    | nx l' h'=>exact ih (k+1) l' h' (by omega) (by omega)
    | ct l' h'=>exact ih (k+1) l' h' (by omega) (by omega)
    | bk l' h'=>rfl
    | rt d h'=>rfl
  · rw[getElem?_eq_none (by omega),drop_eq_nil_of_le (by omega)];rfl
theorem b7{g:RI}{xs:List Dt}{h':HI}(e:g l h=some (.vals xs,h'))(bd:RG)(body:RS):TC g bd body l h=pC bd body xs l h':=by unfold TC;rw[e];simp only[Py,Src.fuel];exact RP bd body xs _ 0 _ _ (by omega) (by omega)
@[simp] theorem DI(i:Nat)(d:Dt):KA i d l=some (l.set i (some d)):=by rfl
def lF(bd:RG)(body:RS)(l:LI):Src×HI->Option Rs:=fun r=>BC bd body r.1 (r.1.fuel r.2) 0 l r.2
@[simp] theorem xF(g:RI)(bd:RG)(body:RS):TC g bd body l h=NA (g l h) (lF bd body l):=by rfl
@[simp] theorem RF(bd:RG)(body:RS)(xs:List Dt):lF bd body l (.vals xs,h)=pC bd body xs l h:=by unfold lF;simp only[Src.fuel];exact RP bd body xs _ 0 _ _ (by omega) (by omega)
noncomputable def ZO:Dt×HI->Option (Src×HI)
 | (.int j,h)=>if -(2^62)<=j/\j<2^62 then some (.vals ((List.range j.toNat).map fun(k:Nat)=>Dt.int (k:Int)),h)else none
 | _=>none
@[simp] theorem lG:fF f l h=NA (f l h) ZO:=by
 unfold NA;unfold fF
 congr 1
 funext r
 obtain⟨d,h⟩:=r;cases d<;>rfl
theorem N0{j:Int}(a:-(2^62)<=j)(b:j<2^62):ZO (.int j,h)=some (.vals ((List.range j.toNat).map fun(k:Nat)=>Dt.int (k:Int)),h):=if_pos ⟨a,b⟩
noncomputable def gT:Dt->Dt×HI->Option (Src×HI)
 | .int i,(.int j,h)=>if -(2^62)<=i/\i<2^62/\-(2^62)<=j/\j<2^62 then some (.vals ((List.range (j-i).toNat).map fun(k:Nat)=>Dt.int (i+(k:Int))),h)else none
 | _,_=>none
@[simp] theorem l6:uS f g l h=NA (f l h) fun r=>NA (g l r.2) (gT r.1):=by
 unfold NA;unfold uS
 congr 1
 funext r
 obtain⟨d,h⟩:=r
 congr 1
 funext q
 obtain⟨d',h'⟩:=q;cases d<;>cases d'<;>rfl
theorem P0{i j:Int}(a:-(2^62)<=i)(a':i<2^62)(b:-(2^62)<=j)(b':j<2^62):gT (.int i) (.int j,h)=some (.vals ((List.range (j-i).toNat).map fun(k:Nat)=>Dt.int (i+(k:Int))),h):=if_pos ⟨a,a',b,b'⟩
def HG:Dt×HI->Option (Src×HI)
 | (.lst xs,h)=>some (.vals xs,h)
 | (.ref n,h)=>if 0<Src.fuel (.rf n) h then some (.rf n,h)else none
 | _=>none
@[simp] theorem ZH(xs:List Dt):HG (.lst xs,h)=some (.vals xs,h):=by rfl
@[simp] theorem iG:kE f l h=NA (f l h) HG:=by
 unfold NA;unfold kE UO;cases f l h with
 | none=>rfl
 | some r=>obtain⟨d,h⟩:=r;cases d<;>first | rfl | (simp[HG,Src.fuel];done)
noncomputable def sD(bd:RG)(tc:RT)(te:RE):List Dt->LI->HI->Option (List Dt×HI)
 | [],_,h=>some ([],h)
 | x::xs,l,h=>(bd x l).bind fun l1=>(tc l1 h).bind fun b=>if b.1=true then(te l1 b.2).bind fun r=>(sD bd tc te xs l1 r.2).bind fun q=>some (r.1::q.1,q.2)
  else sD bd tc te xs l1 b.2
theorem LU(bd:RG)(tc:RT)(te:RE)(xs:List Dt)(hx:xs.length<sizeLine):∀(n k:Nat)(l:LI)(h:HI)(ys:List Dt),n=(xs.length-k)+1->k<=xs.length->ys.length<=k->
 ID bd tc te (.vals xs) n k l h ys=(sD bd tc te (xs.drop k) l h).bind fun q=>some (ys++q.1,q.2):=by
 intro n
 induction n with
 | zero=>intro k l h ys e;omega
 | succ n ih=>
  intro k l h ys e hk hy;unfold ID;simp only[Src.at];by_cases hl:k<xs.length
  · rw[getElem?_eq_getElem hl,drop_eq_getElem_cons hl];simp only[sD];cases bd xs[k] l with
    | none=>rfl
    | some l1=>
     simp only[Py];cases tc l1 h with
     | none=>rfl
     | some b=>
      simp only[Py];by_cases hb:b.1=true
      · simp only[if_pos hb];cases te l1 b.2 with
        | none=>rfl
        | some r=>
         simp only[Py];rw[if_pos (by omega),ih (k+1) l1 r.2 _ (by omega) (by omega) (by simp;omega)];cases sD bd tc te (xs.drop (k+1)) l1 r.2 with
         | none=>rfl
         | some q=>simp
      · simp only[if_neg hb];exact ih (k+1) l1 b.2 ys (by omega) (by omega) (by omega)
  · rw[getElem?_eq_none (by omega),drop_eq_nil_of_le (by omega)];simp[sD]
def ZE(bd:RG)(tc:RT)(te:RE)(l:LI):Src×HI->Option (List Dt×HI):=fun r=>ID bd tc te r.1 (r.1.fuel r.2) 0 l r.2 []
theorem ZD(bd:RG)(tc:RT)(te:RE){xs:List Dt}(hx:xs.length<sizeLine):ZE bd tc te l (.vals xs,h)=sD bd tc te xs l h:=by unfold ZE;simp only[Src.fuel];rw[LU bd tc te xs hx _ 0 _ _ _ (by omega) (by omega) (by simp)];rw[drop_zero];cases sD bd tc te xs l h<;>simp
@[simp] theorem WE(g:RI)(bd:RG)(tc:RT)(te:RE)(cap:List (Option Nat)):JC g bd tc te cap l h=NA (NA (g l h) (ZE bd tc te (zD l cap))) fun q=>some (.lst q.1,q.2):=by unfold NA;unfold JC ZE;rw[Option.bind_assoc]
@[simp] theorem kY(g:RI)(bd:RG)(tc:RT)(te:RE)(cap:List (Option Nat)):pI g bd tc te cap l h=NA (NA (g l h) (ZE bd tc te (zD l cap))) fun q=>some (.ref q.2.length,q.2++[.lst q.1]):=by unfold NA;unfold pI ZE;rw[Option.bind_assoc]
@[simp] theorem aR:rB l h=some (true,h):=by rfl
@[simp] theorem uE:zD l []=[]:=by rfl
@[simp] theorem xE(cap:List (Option Nat)):zD l (none::cap)=none::zD l cap:=by rfl
@[simp] theorem ZF(j:Nat)(cap:List (Option Nat)):zD l (some j::cap)=(l[j]?).join::zD l cap:=by rfl
theorem VJ{α:Type}{te:RE}{i:Nat}{tc:RT}(D:α->Dt)(p:α->Bool)(F:α->Dt)(h:HI):∀(xs:List α)(l:LI),(∀x∈xs,tc (l.set i (some (D x))) h=some (p x,h)/\(p x=true->te (l.set i (some (D x))) h=some (F x,h)))->
 sD (KA i) tc te (xs.map D) l h=some ((xs.filter p).map F,h)
 | [],_,_=>rfl
 | x::xs,l,H=>by
  have hx:=H x (by simp);have ih:=VJ D p F h xs (l.set i (some (D x))) (te:=te) (tc:=tc) (i:=i) (fun y hy=>by
   rw[set_set];exact H y (by simp[hy]))
  simp only[Hy,sD,DI,Py,hx.1];by_cases hp:p x=true
  · simp only[hp,if_true,hx.2 hp,Py,ih];simp[hp]
  · simp only[hp];rw[if_neg (by simp),ih];simp[hp]
theorem sF{α:Type}{te:RE}{i:Nat}{tc:RT}(D:α->Dt)(F:α->Dt)(h:HI)(xs:List α)(l:LI)(H:∀x∈xs,tc (l.set i (some (D x))) h=some (true,h)/\te (l.set i (some (D x))) h=some (F x,h)) :
 sD (KA i) tc te (xs.map D) l h=some (xs.map F,h):=by
 rw[VJ D (fun _=>true) F h xs l fun x hx=>⟨(H x hx).1,fun _=>(H x hx).2⟩,filter_eq_self.mpr (by simp)]
@[simp] theorem DC(F:Dt->HI->Option (Dt×HI)):cC F f l h=NA (f l h) fun r=>F r.1 r.2:=by rfl
@[simp] theorem QE(xs:List Dt):mB (.lst xs) h=some (.int xs.length,h):=by rfl
@[simp] theorem SZ(xs:List Dt):mB (.tup xs) h=some (.int xs.length,h):=by rfl
theorem tK{n:Nat}{xs:List Dt}(e:h[n]?=some (.lst xs)):mB (.ref n) h=some (.int xs.length,h):=by simp only[mB,JE,VA,e,Ny]
@[simp] theorem QR(b:Bool):GH (.bl b) h=some (.int (if b=true then 1 else 0),h):=by rfl
@[simp] theorem qZ(xs:List Dt):DF (.lst xs) h=some (.lst xs,h):=by rfl
@[simp] theorem l7(T:String):AC T f l h=NA (f l h) fun r=>(UD r.2 r.1).map fun t=>(.bl (lL t T),r.2):=by rfl
@[simp] theorem k7 (b:Int):UD h (.int b)=some "int" :=by rfl
@[simp] theorem B7:lL "int" "int" =true:=by decide +kernel
@[simp] theorem A7:lL "int" "bool" =false:=by decide +kernel
@[simp] theorem o6:VI l h=some (none,h):=by rfl
noncomputable def D6:Dt×HI->Option (Option Int×HI)
 | (.int i,h)=>some (some i,h)
 | _=>none
@[simp] theorem lR(i:Int):D6 (.int i,h)=some (some i,h):=by rfl
@[simp] theorem kS:KF f l h=NA (f l h) D6:=by
 unfold NA;unfold KF
 congr 1
 funext r
 obtain⟨d,h⟩:=r;cases d<;>rfl
@[simp] theorem jS(lo hi:RO):wH f lo hi l h=NA (f l h) fun r=>NA (lo l r.2) fun o=>NA (hi l o.2) fun u=>(VA u.2 r.1).map fun xs=>(.lst (hE xs o.1 u.1),u.2):=by rfl
@[simp] theorem PJ(xs:List Dt):VA h (.lst xs)=some xs:=by rfl
theorem lQ{n:Nat}{xs:List Dt}(e:h[n]?=some (.lst xs)):VA h (.ref n)=some xs:=by simp only[VA,e]
theorem MP(xs:List Dt)(k:Nat):hE xs (some (k:Int)) none=xs.drop k:=by
 unfold hE HT.E9;have e:(if(k:Int)<0 then((k:Int)+(xs.length:Int)).toNat else min (k:Int).toNat xs.length)=min k xs.length:=by rw[if_neg (by omega),Int.toNat_natCast]
 simp only[e];rw[take_of_length_le (by rw[length_drop];omega)];by_cases hk:k<=xs.length
 · rw[Nat.min_eq_left hk]
 · rw[Nat.min_eq_right (by omega),drop_eq_nil_of_le (Xy _),drop_eq_nil_of_le (by omega)]
theorem yR(xs:List Dt)(k:Nat):hE xs none (some (k:Int))=xs.take k:=by
 unfold hE HT.E9;have e:(if(k:Int)<0 then((k:Int)+(xs.length:Int)).toNat else min (k:Int).toNat xs.length)=min k xs.length:=by rw[if_neg (by omega),Int.toNat_natCast]
 simp only[e,drop_zero,Nat.sub_zero];by_cases hk:k<=xs.length
 · rw[Nat.min_eq_left hk]
 · rw[Nat.min_eq_right (by omega),take_of_length_le (Xy _),take_of_length_le (by omega)]
theorem CO{xs ys:List Dt}(c:xs.length+ys.length<=sizeLine):wC (.lst xs) (.lst ys) h=some (.lst (xs++ys),h):=by simp only[wC,VA,Py,if_pos c]
def L6(q:Dt×HI):Dt->Option (Dt×HI)
 | .lst xs=>if qG xs q.1=true then(AD xs q.1).map fun j=>(.int (j:Nat),q.2)else none
 | _=>none
@[simp] theorem t7:sizeLine=16777216:=by rfl
noncomputable def cL(g:RE)(l:LI):Dt×HI->Option (Dt×HI)
 | (.ref n,h)=>(match h[n]? with
  | some (.lst _)=>(g l h).bind fun q=>match q.2[n]? with
   | some (.lst xs)=>if xs.length<sizeLine then some (.non,q.2.set n (.lst (xs++[q.1])))else none
   | _=>none
  | _=>none)
 | _=>none
@[simp] theorem yQ:WH f g l h=NA (f l h) (cL g l):=by
 unfold NA;unfold WH
 congr 1
 funext r
 obtain⟨d,h⟩:=r;cases d<;>(try rfl)
theorem tX{n:Nat}{xs ys:List Dt}{d:Dt}{h':HI}(e:h[n]?=some (.lst ys))(eg:g l h=some (d,h'))(e':h'[n]?=some (.lst xs))(c:xs.length<sizeLine):cL g l (.ref n,h)=some (.non,h'.set n (.lst (xs++[d]))):=by simp only[cL,e,eg,Py,e',if_pos c]
end
noncomputable def Pass(I:LI->HI->Prop):Rs->Prop
 | .nx l h=>I l h
 | .ct l h=>I l h
 | _=>False
theorem UJ{α:Type}{i:Nat}{body:RS}(D:α->Dt)(I:LI->HI->Prop)(xs:List α)(H:∀x∈xs,∀l h,I l h->∃r,body (l.set i (some (D x))) h=some r/\Pass I r) :
 ∀l h,I l h->∃l' h',pC (KA i) body (xs.map D) l h=some (.nx l' h')/\I l' h':=by
 induction xs with
 | nil=>intro l h i;exact⟨l,h,rfl,i⟩
 | cons x xs ih=>
  intro l h i;obtain⟨r,e,p⟩:=H x (by simp) l h i;cases r with
  | nx l2 h2=>obtain⟨l',h',e',i'⟩:=ih (fun y hy=>H y (by simp[hy])) l2 h2 p;exact⟨l',h',by simp[pC,e,e'],i'⟩
  | ct l2 h2=>obtain⟨l',h',e',i'⟩:=ih (fun y hy=>H y (by simp[hy])) l2 h2 p;exact⟨l',h',by simp[pC,e,e'],i'⟩
  | bk l2 h2=>exact p.elim
  | rt d h2=>exact p.elim
section
variable{l:LI}{h:HI}{f g:RE}
@[simp] theorem v7(bs:List Bool):rD (bs.map Dt.bl)=some bs:=by
 induction bs with
 | nil=>rfl
 | cons n ns ih=>simp[rD,ih]
theorem G2(bs:List Bool):FH (.lst (bs.map Dt.bl)) h=some (.bl (bs.all id),h):=by simp[FH,VA]
def cS:Dt×HI->Option (Src×HI)
 | (.lst xs,h)=>some (.vals (BE 0 xs),h)
 | _=>none
@[simp] theorem nV(xs:List Dt):cS (.lst xs,h)=some (.vals (BE 0 xs),h):=by rfl
@[simp] theorem xY:HK f l h=NA (f l h) cS:=by
 unfold NA;unfold HK
 congr 1
 funext r
 obtain⟨d,h⟩:=r;cases d<;>rfl
@[simp] theorem XQ(i j:Nat)(a b:Dt):pG i j (.tup [a,b]) l=some ((l.set i (some a)).set j (some b)):=by rfl
end
theorem kQ{h:HI}{n:Nat}{xs:List Dt}(e:h[n]?=some (.lst xs)):HG (.ref n,h)=some (.rf n,h):=by
 have:0<Src.fuel (.rf n) h:=by simp only[Src.fuel,e];omega
 simp only[HG,if_pos this]
section
variable{l:LI}{h:HI}{f g fe fo fi fa fb:RE}
def sL(l:LI)(v o:Dt):Dt×HI->Option Rs
 | (.int k,h)=>(match o with
  | .ref n=>(match h[n]? with
   | some (.lst xs)=>(DG xs.length k).bind fun j=>some (.nx l (h.set n (.lst (xs.set j v))))
   | _=>none)
  | _=>none)
 | _=>none
@[simp] theorem BY:kI fe fo fi l h=NA (fe l h) fun v=>NA (fo l v.2) fun o=>NA (fi l o.2) (sL l v.1 o.1):=by
 unfold NA kI
 congr 1
 funext v
 congr 1
 funext o
 congr 1
 funext i
 obtain⟨d,h⟩:=o;obtain⟨k,h⟩:=i;cases k<;>cases d<;>rfl
theorem zZ{n k:Nat}(hk:k<n):DG n (k:Int)=some k:=by unfold DG;rw[if_pos (by omega),if_pos (by omega)];simp
theorem mQ{n k:Nat}{xs:List Dt}{v:Dt}(e:h[n]?=some (.lst xs))(hk:k<xs.length):sL l v (.ref n) (.int (k:Int),h)=some (.nx l (h.set n (.lst (xs.set k v)))):=by simp only[sL,e,zZ hk,Py]
@[simp] theorem j6(t:RG):fJ t fe l h=NA (fe l h) fun v=>NA (t v.1 l) fun l'=>some (.nx l' v.2):=by rfl
noncomputable def fL(fa:RE)(l:LI):Dt×HI->Option (Dt×HI)
 | (.ref n,h)=>(match h[n]? with
  | some (.lst _)=>(fa l h).bind fun q=>match q.1 with
   | .ref m=>(match q.2[n]?,q.2[m]? with
    | some (.lst xs),some (.lst ys)=>if xs.length+ys.length<=sizeLine then some (.non,q.2.set n (.lst (xs++ys)))else none
    | _,_=>none)
   | _=>none
  | _=>none)
 | _=>none
@[simp] theorem mY:lK fo fa l h=NA (fo l h) (fL fa l):=by
 unfold NA lK
 congr 1
 funext r
 obtain⟨d,h⟩:=r;cases d<;>(try rfl)
theorem WW{n m:Nat}{xs ys zs:List Dt}{h':HI}(e:h[n]?=some (.lst zs))(eg:fa l h=some (.ref m,h'))(e1:h'[n]?=some (.lst xs))(e2:h'[m]?=some (.lst ys))(c:xs.length+ys.length<=sizeLine):fL fa l (.ref n,h)=some (.non,h'.set n (.lst (xs++ys))):=by simp only[fL,e,eg,Py,e1,e2,if_pos c]
end
theorem eK{α:Type}{i:Nat}{body:RS}(D:α->Dt)(S:Nat->LI->HI->Prop):∀(xs:List α)(k0:Nat)(_:∀(k:Nat) x,xs[k]?=some x->∀l h,S (k0+k) l h->∃r,body (l.set i (some (D x))) h=some r/\Pass (S (k0+k+1)) r)(l:LI)(h:HI),S k0 l h->
 ∃l' h',pC (KA i) body (xs.map D) l h=some (.nx l' h')/\S (k0+xs.length) l' h'
 | [],k0,_,l,h,s=>⟨l,h,rfl,s⟩
 | x::xs,k0,H,l,h,s=>by
  obtain⟨r,e,p⟩:=H 0 x rfl l h s;have H':∀(k:Nat) y,xs[k]?=some y->∀l h,S (k0+1+k) l h->∃r,body (l.set i (some (D y))) h=some r/\Pass (S (k0+1+k+1)) r:=by intro k y hy l h s;have:=H (k+1) y (by simpa using hy) l h (by rw[show k0+(k+1)=k0+1+k by omega];exact s);rw[show k0+(k+1)+1=k0+1+k+1 by omega]at this;exact this
  cases r with
  | nx l2 h2=>obtain⟨l',h',e',i'⟩:=eK D S xs (k0+1) H' l2 h2 p;exact⟨l',h',by simp[pC,e,e'],by rw[Fy,show k0+(xs.length+1)=k0+1+xs.length by omega];exact i'⟩
  | ct l2 h2=>obtain⟨l',h',e',i'⟩:=eK D S xs (k0+1) H' l2 h2 p;exact⟨l',h',by simp[pC,e,e'],by rw[Fy,show k0+(xs.length+1)=k0+1+xs.length by omega];exact i'⟩
  | bk l2 h2=>exact p.elim
  | rt d h2=>exact p.elim
theorem rV{i:Nat}{body:RS}(D:Nat->Dt)(S:Nat->LI->HI->Prop)(n:Nat)(H:∀k<n,∀l h,S k l h->∃r,body (l.set i (some (D k))) h=some r/\Pass (S (k+1)) r)(l:LI)(h:HI)(s:S 0 l h) :
 ∃l' h',pC (KA i) body ((List.range n).map D) l h=some (.nx l' h')/\S n l' h':=by
 obtain⟨l',h',e,i'⟩:=eK (i:=i) (body:=body) D S (List.range n) 0 (fun k x hx l h s=>by
  obtain⟨h1,h2⟩:=Sy hx;simp at h1 h2;subst h2;rw[Nat.zero_add]at s ⊢;exact H k h1 l h s) l h s
 exact⟨l',h',e,by simpa using i'⟩
theorem o7{α:Type}{i n:Nat}{body:RS}(D:α->Dt)(S:Nat->LI->HI->Prop)(xs:List α)(hS:∀k l h,S k l h->h[n]?=some (.lst (xs.map D)))(H:∀(k:Nat) x,xs[k]?=some x->∀l h,S k l h->∃r,body (l.set i (some (D x))) h=some r/\Pass (S (k+1)) r)
 (l:LI) (h:HI) (h0:S 0 l h):∃l' h',lF (KA i) body l (.rf n,h)=some (.nx l' h')/\S xs.length l' h':=by
 have go:∀(f k:Nat)(l:LI)(h:HI),S k l h->f=xs.length-k+1->k<=xs.length->∃l' h',BC (KA i) body (.rf n) f k l h=some (.nx l' h')/\S xs.length l' h':=by
  intro f
  induction f with
  | zero=>intro k l h _ e;omega
  | succ f ih=>
   intro k l h i0 e hk;unfold BC;simp only[Src.at,hS k l h i0,getElem?_map];by_cases hl:k<xs.length
   · rw[getElem?_eq_getElem hl];obtain⟨r,e1,p1⟩:=H k xs[k] (getElem?_eq_getElem hl) l h i0;simp only[Ny,DI,Py,e1];cases r with
     | nx l2 h2=>exact ih (k+1) l2 h2 p1 (by omega) (by omega)
     | ct l2 h2=>exact ih (k+1) l2 h2 p1 (by omega) (by omega)
     | bk l2 h2=>exact p1.elim
     | rt d h2=>exact p1.elim
   · rw[getElem?_eq_none (by omega)];have:k=xs.length:=by omega
     subst this;exact⟨l,h,rfl,i0⟩
 have hf:Src.fuel (.rf n) h=xs.length-0+1:=by simp only[Src.fuel,hS 0 l h h0,length_map];omega
 unfold lF;exact go _ 0 l h h0 hf (Nat.zero_le _)
section
variable{l:LI}{h:HI}{fo fi fe f fa:RE}
end
noncomputable def oO(I:LI->HI->Prop)(E:Dt->HI->Prop):Rs->Prop
 | .nx l h=>I l h
 | .rt d h=>E d h
 | _=>False
theorem P2{α:Type}{i n:Nat}{body:RS}(D:α->Dt)(S:Nat->LI->HI->Prop)(E:Dt->HI->Prop)(xs:List α)(hS:∀k l h,S k l h->h[n]?=some (.lst (xs.map D)))(H:∀(k:Nat) x,xs[k]?=some x->∀l h,S k l h->∃r,body (l.set i (some (D x))) h=some r/\oO (S (k+1)) E r)
 (l:LI) (h:HI) (h0:S 0 l h):∃r,lF (KA i) body l (.rf n,h)=some r/\oO (S xs.length) E r:=by
 have go:∀(f k:Nat)(l:LI)(h:HI),S k l h->f=xs.length-k+1->k<=xs.length->∃r,BC (KA i) body (.rf n) f k l h=some r/\oO (S xs.length) E r:=by
  intro f
  induction f with
  | zero=>intro k l h _ e;omega
  | succ f ih=>
   intro k l h i0 e hk;unfold BC;simp only[Src.at,hS k l h i0,getElem?_map];by_cases hl:k<xs.length
   · rw[getElem?_eq_getElem hl];obtain⟨r,e1,p1⟩:=H k xs[k] (getElem?_eq_getElem hl) l h i0;simp only[Ny,DI,Py,e1];cases r with
     | nx l2 h2=>exact ih (k+1) l2 h2 p1 (by omega) (by omega)
     | rt d h2=>exact⟨_,rfl,p1⟩
     | bk l2 h2=>exact p1.elim
     | ct l2 h2=>exact p1.elim
   · rw[getElem?_eq_none (by omega)];have:k=xs.length:=by omega
     subst this;exact⟨_,rfl,i0⟩
 have hf:Src.fuel (.rf n) h=xs.length-0+1:=by simp only[Src.fuel,hS 0 l h h0,length_map];omega
 unfold lF;exact go _ 0 l h h0 hf (Nat.zero_le _)
section
variable{l:LI}{h:HI}{f g fo fe:RE}{ga:RA}
def gL(x f:Str):Dt×HI->Option (Dt×HI)
 | (.ref n,h)=>(match h[n]? with
  | some (.ins y fs)=>if y=x then(mC f fs).bind fun d=>some (d,h)else none
  | _=>none)
 | _=>none
@[simp] theorem dF(x k:Str):RD x k fo l h=NA (fo l h) (gL x k):=by
 unfold NA RD
 congr 1
 funext r
 obtain⟨d,h⟩:=r;cases d<;>(try rfl)
theorem rF{x k:Str}{n:Nat}{fs:List (Str×Dt)}{d:Dt}(e:h[n]?=some (.ins x fs))(ef:mC k fs=some d):gL x k (.ref n,h)=some (d,h):=by simp only[gL,e,if_true,ef,Py]
def qO(x f:Str)(v:Dt)(l:LI):Dt×HI->Option Rs
 | (.ref n,h)=>(match h[n]? with
  | some (.ins y fs)=>if y=x/\fs.length<1000 then some (.nx l (h.set n (.ins y (mE f v fs))))else none
  | _=>none)
 | _=>none
@[simp] theorem O2(x k:Str):MI x k fo fe l h=NA (fe l h) fun r=>NA (fo l r.2) (qO x k r.1 l):=by
 unfold NA MI
 congr 1
 funext r
 congr 1
 funext q
 obtain⟨d,h⟩:=q;cases d<;>(try rfl)
theorem eQ{x k:Str}{n:Nat}{fs:List (Str×Dt)}{v:Dt}(e:h[n]?=some (.ins x fs))(hl:fs.length<1000):qO x k v l (.ref n,h)=some (.nx l (h.set n (.ins x (mE k v fs)))):=by simp only[qO,e,true_and,if_pos hl]
noncomputable def gS(n:Nat):Dt×HI->Option (Dt×HI)
 | (.non,h)=>some (.ref n,h)
 | _=>none
@[simp] theorem TV(n:Nat):gS n (.non,h)=some (.ref n,h):=by rfl
@[simp] theorem M4(x:Str)(F:jB):GI x F ga l h=NA (ga l h) fun r=>NA (F (.ref r.2.length::r.1) (r.2++[.ins x []])) (gS r.2.length):=by
 unfold NA GI
 congr 1
 funext r
 congr 1
 funext q
 obtain⟨d,h⟩:=q;cases d<;>(try rfl)
def AO(x m:Str)(F:jB)(ga:RA)(l:LI):Dt×HI->Option (Dt×HI)
 | (.ref n,h)=>(match h[n]? with
  | some (.ins y fs)=>if y=x/\mC m fs=none then(ga l h).bind fun q=>F (.ref n::q.1) q.2 else none
  | _=>none)
 | _=>none
@[simp] theorem iI(x m:Str)(F:jB):JD x m F fo ga l h=NA (fo l h) (AO x m F ga l):=by
 unfold NA JD
 congr 1
 funext r
 obtain⟨d,h⟩:=r;cases d<;>(try rfl)
theorem VG{x m:Str}{F:jB}{n:Nat}{fs:List (Str×Dt)}(e:h[n]?=some (.ins x fs))(hm:mC m fs=none):AO x m F ga l (.ref n,h)=NA (ga l h) fun q=>F (.ref n::q.1) q.2:=by simp only[AO,e,true_and,if_pos hm];rfl
def eL(fb:RE)(l:LI):Dt×HI->Option (Dt×HI):=fun r=>(fb l r.2).bind fun q=>match r.1,q.1 with
 | .lst xs,.bl b=>(rD xs).bind fun bs=>some (.int ((bs.countP (· ==b):Nat):Int),q.2)
 | _,_=>none
@[simp] theorem jY(fa fb:RE):kK fa fb l h=NA (fa l h) (eL fb l):=by rfl
theorem yX{fb:RE}{bs:List Bool}{b:Bool}(e:fb l h=some (.bl b,h)):eL fb l (.lst (bs.map Dt.bl),h)=some (.int ((bs.countP (· ==b):Nat):Int),h):=by
 have q:rD (bs.map Dt.bl)=some bs:=by
  induction bs with
  | nil=>rfl
  | cons n ns ih=>simp only[Hy,rD,ih,Ny]
 simp only[eL,e,Py,q]
end
end SM
namespace L2
section
variable{X:Cx}{a b c d:Expr}{ta tb tc td:TE}{pos:Pos}
noncomputable def X0(r r' r'':R2)(ta tb tc td:TE):TE:=fun σ H Q=>ta σ H fun x H1=>tb σ H1 fun y H2=>r x y H2 fun z H3=>∃k,z=.bl k/\
 (if k=true then tc σ H3 fun y' H4=>r' y y' H4 fun z' H5=>∃k',z'=.bl k'/\(if k'=true then td σ H5 fun w' H6=>r'' y' w' H6 Q else Q (.bl false) H5)else Q (.bl false) H3)
theorem gW{o1 o2 o3:CmpOp}{r r' r'':R2}(h1:L8 X (compareOp o1) r)(h2:L8 X (compareOp o2) r')(h3:L8 X (compareOp o3) r'')(ha:PE X a ta)(hb:PE X b tb)(hc:PE X c tc)(hd:PE X d td)
 (hm:lastMarks [o1,o2,o3] [b,c,d]=false:=by with_unfolding_all rfl):PE X (.Compare a [o1,o2,o3] [b,c,d] pos) (X0 r r' r'' ta tb tc td):=by
 intro pins s σ H Q I h;refine Compare_chain (IA (ha pins s σ H _ I h) fun v s1 ⟨x,H1,I1,r1,q1⟩=>chain_link (IA (hb pins s1 σ H1 _ I1 q1) fun u s2 ⟨y,H2,I2,r2,q2⟩=>IA (h1 pins s2 σ H2 x y v u _ I2 r1 r2 q2) fun d s3 zz=>?_)) hm;obtain⟨z,H3,I3,r3,k,e,q3⟩:=zz;subst e;cases r3;refine wpAny_truthy_bool ?_;cases k with
 | false=>exact ite_ff ⟨.bl false,H3,I3,rfl,q3⟩
 | true=>
  refine ite_tt (chain_link (IA (hc pins s3 σ H3 _ I3 q3) fun u4 s4 ⟨y4,H4,I4,r4,q4⟩=>IA (h2 pins s4 σ H4 y y4 u u4 _ I4 r2 r4 q4) fun d5 s5 zz=>?_));obtain⟨z5,H5,I5,r5,k5,e5,q5⟩:=zz;subst e5;cases r5;refine wpAny_truthy_bool ?_;cases k5 with
  | false=>exact ite_ff ⟨.bl false,H5,I5,rfl,q5⟩
  | true=>exact ite_tt (chain_last (IA (hd pins s5 σ H5 _ I5 q5) fun u6 s6 ⟨y6,H6,I6,r6,q6⟩=>h3 pins s6 σ H6 y4 y6 u4 u6 Q I6 r4 r6 q6))
end
end L2
namespace SM
section
variable{X:Cx}{a b c d e:Expr}{fa fb fc fd f:RE}{p pos apos cpos:Pos}
noncomputable def JI:LC:=fun a b h=>match a,b with
 | .str x,.str y=>if x.length+y.length<=sizeLine then some (.str (x++y),h)else none
 | _,_=>none
theorem KY:OM X (binaryOp .Add) JI:=by
 with_unfolding_all
  exact L8.imp JV fun x y H Q zz=>by
   obtain⟨ρ,h,d1,d2,d,h',S,R1,R2,e,k⟩:=zz;unfold JI at e;split at e
   · obtain⟨c,e⟩:=gE e;cases e;exact⟨_,_,N7.mp R1,N7.mp R2,c,k ρ _ H (N7.mpr rfl) S (Ext.refl _ _)⟩
   · cases e
noncomputable def jK(o o' Xk:LC)(fa fb fc fd:RE):RE:=fun l h=>(fa l h).bind fun r=>(fb l r.2).bind fun q=>(o r.1 q.1 q.2).bind fun z=>match z.1 with
 | .bl true=>(fc l z.2).bind fun y=>(o' q.1 y.1 y.2).bind fun z2=>match z2.1 with
  | .bl true=>(fd l z2.2).bind fun w=>Xk y.1 w.1 w.2
  | .bl false=>some (.bl false,z2.2)
  | _=>none
 | .bl false=>some (.bl false,z.2)
 | _=>none
theorem jV{p1 p2 p3:CmpOp}{r r' r'':LC}(ho:OM X (compareOp p1) r)(ho':OM X (compareOp p2) r')(ho'':OM X (compareOp p3) r'')(ha:EM X a fa)(hb:EM X b fb)(hc:EM X c fc)(hd:EM X d fd)
 (hm:lastMarks [p1,p2,p3] [b,c,d]=false:=by with_unfolding_all rfl):EM X (.Compare a [p1,p2,p3] [b,c,d] pos) (jK r r' r'' fa fb fc fd):=by
 with_unfolding_all
  exact PE.imp (gW ho ho' ho'' ha hb hc hd hm) fun σ H Q zz=>by
   obtain⟨ρ,l,h,d,h',S,L,e,k⟩:=zz;obtain⟨⟨d1,h1⟩,e1,e⟩:=eA e;obtain⟨⟨d2,h2⟩,e2,e⟩:=eA e;obtain⟨⟨d3,h3⟩,e3,e⟩:=eA e;refine⟨ρ,l,h,d1,h1,S,L,e1,fun ρ1 x H1 R1 S1 E1=>⟨ρ1,l,h1,d2,h2,S1,L.ext E1,e2,fun ρ2 y H2 R2 S2 E2=>⟨ρ2,h2,d1,d2,d3,h3,S2,J7.ext E2 _ R1,R2,e3,fun ρ3 v H3 R3 S3 E3=>?_⟩⟩⟩;cases d3 with
   | bl q=>
    refine⟨q,L7.mp R3,?_⟩;cases q with
    | true=>
     dsimp only at e;obtain⟨⟨d4,h4⟩,e4,e⟩:=eA e;obtain⟨⟨d5,h5⟩,e5,e⟩:=eA e;refine XD ⟨ρ3,l,h3,d4,h4,S3,(L.ext (E1.trans (E2.trans E3))),e4,fun ρ4 u H4 R4 S4 E4=>⟨ρ4,h4,d2,d4,d5,h5,S4,J7.ext (E3.trans E4) _ R2,R4,e5,fun ρ5 v5 H5 R5 S5 E5=>?_⟩⟩;cases d5 with
     | bl q5=>
      refine⟨q5,L7.mp R5,?_⟩;cases q5 with
      | true=>dsimp only at e;obtain⟨⟨d6,h6⟩,e6,e⟩:=eA e;exact XD ⟨ρ5,l,h5,d6,h6,S5,(L.ext (E1.trans (E2.trans (E3.trans (E4.trans E5))))),e6,fun ρ6 u6 H6 R6 S6 E6=>⟨ρ6,h6,d4,d6,d,h',S6,J7.ext (E5.trans E6) _ R4,R6,e,k.ext (E1.trans (E2.trans (E3.trans (E4.trans (E5.trans E6)))))⟩⟩
      | false=>cases e;exact WD (k ρ5 _ H5 (L7.mpr rfl) S5 (E1.trans (E2.trans (E3.trans (E4.trans E5)))))
     | _=>cases e
    | false=>cases e;exact WD (k ρ3 _ H3 (L7.mpr rfl) S3 (E1.trans (E2.trans E3)))
   | _=>cases e
end
end SM
namespace L2
open Builtin Builtin.Str
section
variable{X:Cx}
end
end L2
namespace SM
section
variable{X:Cx}{a b e:Expr}{fa fb f:RE}{p1 p2 pos apos cpos:Pos}
end
end SM
namespace L2
section
variable{X:Cx}{tg:Expr}
end
end L2
namespace SM
section
variable{X:Cx}{a b e:Expr}{fa fb f:RE}{p1 p2 pos apos cpos:Pos}
def vK(fa fb:RE):RE:=fun l h=>(fa l h).bind fun r=>(fb l r.2).bind fun q=>match r.1 with
 | .str z=>(VA q.2 q.1).bind fun xs=>(yF xs).bind fun ts=>if PySem.JoinOk z ts=true then some (.str (Str.join z ts),q.2)else none
 | _=>none
theorem SW (ho:EM X a fa) (hb:EM X b fb) (hbase:attributeBase a "join" X.env (eval a X.env)=eval a X.env:=by rfl)
 (hline:(apos.endLine==cpos.line)=true:=by rfl) (hs:eB b=true:=by rfl) :
 EM X (.Call (.Attribute a "join" apos) [b] [] cpos) (vK fa fb):=by
 with_unfolding_all
  exact PE.imp (KI PySem.F.plainAttrs_str PySem.F.slot_str_join PySem.F.type_str_join EY ho (qC hb XC (gB hs _ _)) hbase (aI hs) hline (gB hs _ _)) fun σ H Q zz=>by
   obtain⟨ρ,l,h,d,h',S,L,e,k⟩:=zz;obtain⟨⟨d1,h1⟩,e1,e⟩:=eA e;obtain⟨⟨d2,h2⟩,e2,e⟩:=eA e;refine⟨ρ,l,h,d1,h1,S,L,e1,fun ρ1 v H1 R1 S1 E1=>?_⟩;dsimp only at e;split at e
   · cases N7.mp R1;refine⟨rfl,ρ1,l,h1,d2,h2,S1,L.ext E1,e2,fun ρ2 y H2 R2 S2 E2=>?_⟩;obtain⟨xs,e3,e⟩:=eA e;obtain⟨ts,e4,e⟩:=eA e;obtain⟨ok,e⟩:=HH e;cases e;obtain⟨p,vs,zz,sq,rs⟩:=XE S2 R2 e3;subst zz;have:=LX e4 rs;subst this;exact⟨_,p,ts,rfl,rfl,sq,ok,k ρ2 _ H2 (N7.mpr rfl) S2 (E1.trans E2)⟩
   · cases e
def aD(fo fa:RE):RE:=fun l h=>(fo l h).bind fun r=>(VA r.2 r.1).bind fun _=>(fa l r.2).bind fun q=>(VA q.2 r.1).bind fun xs=>if qG xs q.1=true then(AD xs q.1).map fun j=>(.int (j:Nat),q.2)else none
theorem MJ (hu:X.A.units+64<cLine) (ho:EM X a fa) (hb:EM X b fb) (hbase:attributeBase a "index" X.env (eval a X.env)=eval a X.env:=by rfl)
 (hline:(apos.endLine==cpos.line)=true:=by rfl) (hs:eB b=true:=by rfl) :
 EM X (.Call (.Attribute a "index" apos) [b] [] cpos) (aD fa fb):=by
 with_unfolding_all exact PE.imp (KI PySem.F.plainAttrs_list PySem.F.slot_list_index PySem.F.type_list_index (YV hu) ho (qC hb XC (gB hs _ _)) hbase (aI hs) hline (gB hs _ _)) fun σ H Q zz=>by obtain⟨ρ,l,h,d,h',S,L,e,k⟩:=zz;obtain⟨⟨d1,h1⟩,e1,e⟩:=eA e;obtain⟨xs0,e0,e⟩:=eA e;obtain⟨⟨d2,h2⟩,e2,e⟩:=eA e;obtain⟨xs,e3,e⟩:=eA e;obtain⟨ok,e⟩:=HH e;obtain⟨j,q,e⟩:=Option.map_eq_some_iff.mp e;cases e;refine⟨ρ,l,h,d1,h1,S,L,e1,fun ρ1 v H1 R1 S1 E1=>?_⟩;obtain⟨x,sy,z,iy,_⟩:=XE S1 R1 e0;subst z;refine⟨.inl ⟨rfl,sy,iy⟩,ρ1,l,h1,d2,h2,S1,L.ext E1,e2,fun ρ2 y H2 R2 S2 E2=>?_⟩;obtain⟨x',ws,z,sq,rs⟩:=XE S2 (J7.ext E2 _ R1) e3;cases z;exact⟨ρ2,xs,d2,y,x,ws,j,rfl,rfl,by rw[if_neg Vy];exact sq,rs,R2,ok,q,k ρ2 _ H2 (K7.mpr rfl) S2 (E1.trans E2)⟩
end
section
variable{X:Cx}{tg:Expr}
end
end SM
namespace L2
section
variable{prog:Program}{w:World}{A:Around}{E:Value->Shared->Prop}{s:Shared}
end
section
variable{X:Cx}
end
end L2
namespace SM
section
variable{X:Cx}
end
end SM
namespace G
def UC(i:Nat):Stmt:=PySem.Challenge.pw_spanways_k32_a_full_book.main.body.getD i (.Pass ⟨0,0,0,0⟩)
noncomputable abbrev nO:Dt:=(.int 8191)
noncomputable abbrev UN:Dt:=(.int 60)
noncomputable abbrev tN:Dt:=(.int 6)
noncomputable abbrev VM:Dt:=(.int 6)
noncomputable abbrev LJ:Dt:=(.int 1000000000000000000)
noncomputable def D8:List (Str×Bool):=[("BadText",false),("Twice",false),("NoLabel",false),("NoName",false),("TooMany",false),("BadFact",true)]
noncomputable def E8:List (Str×Bool):=[("BadText",true),("Twice",false),("NoLabel",false),("NoName",false),("TooMany",false),("BadFact",false)]
noncomputable def F8:List (Str×Bool):=[("BadText",false),("Twice",false),("NoLabel",true),("NoName",false),("TooMany",false),("BadFact",false)]
noncomputable def P8:List (Str×Bool):=[("BadText",false),("Twice",false),("NoLabel",false),("NoName",true),("TooMany",false),("BadFact",false)]
noncomputable def G8:List (Str×Bool):=[("BadText",false),("Twice",false),("NoLabel",false),("NoName",false),("TooMany",true),("BadFact",false)]
noncomputable def W8:List (Str×Bool):=[("BadText",false),("Twice",true),("NoLabel",false),("NoName",false),("TooMany",false),("BadFact",false)]
noncomputable def n8:List (Str×Bool):=[("BadText",true),("Twice",true),("NoLabel",true),("NoName",true),("TooMany",true),("BadFact",true)]
noncomputable def vL:List Str:=["Twice", "TooMany", "NoLabel", "NoName", "BadFact"]
abbrev kP:Stmt:=vE (UC 6) 0
abbrev EL:Stmt:=vE (UC 7) 0
abbrev wL:Stmt:=vE (UC 8) 0
abbrev JL:Stmt:=vE (UC 9) 0
abbrev uM:Stmt:=UC 3
def AJ:RE:=e2 wA (eV 0) (eC (.int 1))
def QG:RT:=b8 (e2 EB (e2 wA (eV 0) (eC (.int 0))) (eC (.str "one")))
def mM:RS:=xA (JC (kE (eV 0)) (KA 0) QG AJ [none])
def FJ:jB:=GB 1 1 mM
abbrev vM:Stmt:=UC 17
def nM:RS:=xA (jK xH xH xH (eC (.int 0)) (eV 0) (eV 1) (eC LJ))
def GJ:jB:=GB 2 2 nM
abbrev NM:Stmt:=UC 18
def aN:RS:=gA (QB (b8 (e2 cT (cC mB (eV 0)) (eC UN))) (xA (eC (.bl false))) SA) (xA (HS (e2 IB (e2 wA (eV 1) (eC (.int 0))) (eC (.str "one"))) (e2 IH (cC mB (BA FJ [] (bA (eV 0) fA))) (eC tN))))
def SH:jB:=GB 2 2 aN
abbrev QM:Stmt:=UC 20
def VL(R:jB):RS:=AF (lK (eV 1) (BA R [] (bA (eV 2) fA)))
def UF (R:jB):RS:=gA (QB (b8 (e2 EB (e2 wA (eV 0) (eC (.int 0))) (eC (.str "ways")))) (xA (CG (bA (e2 wA (eV 0) (eC (.int 1))) (bA (e2 wA (eV 0) (eC (.int 3))) fA)))) SA) (gA (QB (b8 (e2 EB (e2 wA (eV 0) (eC (.int 0))) (eC (.str "long")))) (xA (CG (bA (e2 wA (eV 0) (eC (.int 1))) fA))) SA) (gA (EA 1 (CG fA)) (gA (TC (kE (e2 wA (eV 0) (eC (.int 1)))) (KA 2) (VL R)) (xA (eV 1)))))
def rE(n:Nat):jB:=Nat.rec (fun _ _=>none) (fun _ R=>GB 1 3 (UF R)) n
abbrev PM:Stmt:=UC 21
def sJ(R:jB):RE:=BA R [] (bA (eV 0) fA)
def TF (R:jB):RS:=gA (QB (b8 (e2 EB (e2 wA (eV 0) (eC (.int 0))) (eC (.str "ways")))) (xA (JG (e2 IB (e2 wA (eV 0) (eC (.int 1))) (e2 wA (eV 0) (eC (.int 3)))) (jH xH xH (eC (.int 0)) (e2 wA (eV 0) (eC (.int 2))) (eC nO)))) SA) (gA (QB (b8 (e2 EB (e2 wA (eV 0) (eC (.int 0))) (eC (.str "long")))) (xA (BA GJ [] (bA (e2 wA (eV 0) (eC (.int 2))) (bA (e2 wA (eV 0) (eC (.int 3))) fA)))) SA) (xA (JG (jH xH xH (eC (.int 1)) (cC mB (e2 wA (eV 0) (eC (.int 1)))) (eC VM)) (cC FH (JC (kE (e2 wA (eV 0) (eC (.int 1)))) (KA 0) rB ((sJ R)) [none])))))
def qE(n:Nat):jB:=Nat.rec (fun _ _=>none) (fun _ R=>GB 1 1 (TF R)) n
abbrev FM:Stmt:=UC 22
def yJ(R:jB):RE:=BA R [] (bA (eV 0) (bA (eV 1) fA))
def MF (R:jB):RS:=gA (QB (b8 (e2 EB (e2 wA (eV 0) (eC (.int 0))) (eC (.str "ways")))) (xA (dC (bA (eC (.str "ways")) (bA (FI (eV 1) (e2 wA (eV 0) (eC (.int 1)))) (bA (e2 wA (eV 0) (eC (.int 2))) (bA (FI (eV 1) (e2 wA (eV 0) (eC (.int 3)))) fA)))))) SA) (gA (QB (b8 (e2 EB (e2 wA (eV 0) (eC (.int 0))) (eC (.str "long")))) (xA (dC (bA (eC (.str "long")) (bA (FI (eV 1) (e2 wA (eV 0) (eC (.int 1)))) (bA (e2 wA (eV 0) (eC (.int 2))) (bA (e2 wA (eV 0) (eC (.int 3))) fA)))))) SA) (xA (dC (bA (eC (.str "one")) (bA (JC (kE (e2 wA (eV 0) (eC (.int 1)))) (KA 0) rB ((yJ R)) [none,some 1]) fA)))))
def sE(n:Nat):jB:=Nat.rec (fun _ _=>none) (fun _ R=>GB 2 2 (MF R)) n
abbrev qN:Stmt:=UC 23
def UH:RS:=xA (CT (b8 (e2 EB (e2 wA (eV 0) (eC (.int 0))) (eC (.str "one")))) (dC (bA (eC (.str "one")) (bA (cC DF (e2 wA (eV 0) (eC (.int 1)))) fA))) (eV 0))
def SG:jB:=GB 1 1 UH
abbrev GL:Stmt:=vE (UC 24) 0
def IL:RS:=NK (eV 2) (RD "Book" "numbers" (eV 0)) (eV 3)
def FL:RS:=gA (MI "Book" "numbers" (eV 0) DK) (gA (TC (HK (eV 1)) (pG 2 3) IL) (MI "Book" "kept" (eV 0) DK))
def MG:jB:=GB 2 4 FL
abbrev bM:Stmt:=vE (UC 24) 3
def PH:RS:=QB (b8 (BG false (eV 2) (RD "Book" "numbers" (eV 0)))) (LH "NoName" "word" (114) (eV 2)) SA
def YL:RS:=gA (TC (kE (BA (rE 3) [] (bA (eV 1) fA))) (KA 2) PH) (gA (QB (cD (b8 (BA (qE 3) [] (bA (eV 1) fA)))) (NI "BadFact" (eC (.str "two alike names, a number out of range, or a group of no fact or of too many"))) SA) (xA (BA (sE 3) [] (bA (eV 1) (bA (RD "Book" "numbers" (eV 0)) fA)))))
def OF:jB:=GB 2 3 YL
abbrev wM:Stmt:=vE (UC 24) 5
def mJ:RE:=BA SG [] (bA (eV 0) fA)
def dM:RS:=xA (EK (JC (jO (RD "Book" "kept" (eV 0))) (KA 0) rB mJ [none]))
def pF:jB:=GB 1 1 dM
abbrev KM:Stmt:=vE (UC 24) 1
def XM:RS:=gA (QB (b8 (BG true (eV 1) (RD "Book" "kept" (eV 0)))) (LH "Twice" "word" (114) (eV 1)) SA) (gA (OK 3 (JD "Book" "let_in" OF (eV 0) (bA (eV 2) fA))) (gA (QB (cD (b8 (BA SH [] (bA (qI "Book" "facts" pF (eV 0)) (bA (eV 3) fA))))) (NI "TooMany" (eC (.str "no more facts, or groups, than these are kept"))) SA) (NK (eV 3) (RD "Book" "kept" (eV 0)) (eV 1))))
def tF:jB:=GB 3 4 XM
abbrev qM:Stmt:=vE (UC 24) 2
def lM:RS:=gA (QB (b8 (BG false (eV 1) (RD "Book" "kept" (eV 0)))) (LH "NoLabel" "word" (114) (eV 1)) SA) (AF (mO (RD "Book" "kept" (eV 0)) (eV 1)))
def oF:jB:=GB 2 2 lM
abbrev aM:Stmt:=vE (UC 24) 4
def WL:RS:=xA (cC vI (RD "Book" "kept" (eV 0)))
def OG:jB:=GB 1 1 WL
abbrev eM:Stmt:=UC 26
def AL:RS:=gA (QB (b8 (e2 IH (eV 1) (cC mB (eV 0)))) (xA (e2 wA (eV 0) (eV 1))) SA) (xA (eC (.int 0)))
def YD:jB:=GB 2 2 AL
abbrev yM:Stmt:=UC 27
def PL:RS:=gA (EA 2 (e2 fB (e2 mD (e2 HB (e2 HB (e2 fB (eV 0) (eC (.int 1000000007))) (e2 mD (eC (.int 7)) (eV 1))) (eC (.int 1))) (eC (.int 48271))) (eC (.int 2147483647)))) (xA (e2 fB (e2 mD (eV 2) (e2 HB (e2 HB (e2 fB (eV 2) (eC (.int 1009))) (eV 1)) (eC (.int 3)))) (eC (.int 998244353))))
def iD:jB:=GB 2 3 PL
abbrev jM:Stmt:=UC 28
def ML:RE:=e2 wA (eV 2) (e2 fB (e2 RB (eV 1) (eC (.int 98))) (eC (.int 26)))
def lJ:RS:=gA (EA 2 (eC (.str "abcdefghijklmnopqrstuvwxyz"))) (gA (EA 0 (e2 fB (eV 0) (eC (.int 1000003)))) (gA (QB (ND (b8 (e2 EB (e2 fB (e2 RB (eV 0) (eC (.int 5))) (eC (.int 4))) (eC (.int 1)))) (b8 (e2 IH (eV 1) (eC (.int 26))))) (xA (e2 wA (eV 2) (e2 fB (e2 HB (eV 1) (e2 RB (eV 0) (eC (.int 20)))) (eC (.int 26))))) SA) (gA (EA 3 (e2 HB (eC (.int 2)) (e2 fB (e2 HB (eV 0) (e2 mD (eV 1) (e2 fB (e2 RB (eV 0) (eC (.int 7))) (eC (.int 2))))) (eC (.int 7))))) (gA (EA 4 (e2 fB (e2 RB (eV 0) (eC (.int 14))) (eV 3))) (gA (EA 5 (pI (fF (eV 3)) (KA 0) rB ML [none,some 0,some 2])) (gA (kI (e2 wA (eV 2) (e2 fB (e2 RB (eV 1) (eC (.int 26))) (eC (.int 26)))) (eV 5) (eV 4)) (gA (kI (e2 wA (eV 2) (e2 fB (eV 1) (eC (.int 26)))) (eV 5) (e2 fB (e2 HB (eV 4) (eC (.int 1))) (eV 3))) (xA (vK (eC (.str "")) (eV 5))))))))))
def RH:jB:=GB 2 6 lJ
abbrev DM:Stmt:=UC 29
def SL:RS:=xA (JG (AC "int" (eV 0)) (kJ (AC "bool" (eV 0))))
def vJ:jB:=GB 1 1 SL
abbrev BM:Stmt:=UC 30
def DL:RS:=QB (DD (cD (b8 (AC "str" (e2 wA (eV 0) (eV 2))))) (b8 (e2 IB (e2 wA (eV 0) (eV 2)) (e2 wA (eV 1) (eV 2))))) (xA (eC (.bl false))) SA
def RL:RS:=gA (QB (DD (cD (b8 (AC "list" (eV 0)))) (b8 (e2 IB (cC mB (eV 0)) (cC mB (eV 1))))) (xA (eC (.bl false))) SA) (gA (TC (fF (cC mB (eV 1))) (KA 2) DL) (xA (eC (.bl true))))
def uJ:jB:=GB 2 3 RL
abbrev xL:Stmt:=UC 32
def yL(R:jB):RS:=QB (cD (b8 (BA R [] (bA (e2 wA (eV 0) (eV 2)) (bA (e2 wA (eV 1) (eV 2)) fA))))) (xA (eC (.bl false))) SA
def zL (R:jB):RS:=gA (QB (DD (cD (b8 (AC "list" (eV 0)))) (b8 (e2 IB (cC mB (eV 0)) (cC mB (eV 1))))) (xA (eC (.bl false))) SA) (gA (TC (fF (cC mB (eV 1))) (KA 2) (yL R)) (xA (eC (.bl true))))
def NG(R:jB):jB:=GB 2 3 (zL R)
abbrev LL:Stmt:=UC 31
def rJ(R:jB):RS:=QB (DD (cD (b8 (BA vJ [] (bA (e2 wA (eV 0) (eV 2)) fA)))) (b8 (e2 IB (e2 wA (eV 0) (eV 2)) (e2 wA (eV 1) (eV 2))))) (xA (eC (.bl false))) SA
def LG (R:jB):RS:=gA (QB (DD (cD (b8 (AC "tuple" (eV 0)))) (DD (b8 (e2 IB (cC mB (eV 0)) (cC mB (eV 1)))) (DD (cD (b8 (AC "str" (e2 wA (eV 0) (eC (.int 0)))))) (b8 (e2 IB (e2 wA (eV 0) (eC (.int 0))) (e2 wA (eV 1) (eC (.int 0)))))))) (xA (eC (.bl false))) SA) (gA (QB (b8 (e2 EB (e2 wA (eV 1) (eC (.int 0))) (eC (.str "one")))) (xA (BA (NG R) [] (bA (e2 wA (eV 0) (eC (.int 1))) (bA (e2 wA (eV 1) (eC (.int 1))) fA)))) SA) (gA (TC (uS (eC (.int 1)) (eC (.int 4))) (KA 2) (rJ R)) (xA (eC (.bl true)))))
def oE(n:Nat):jB:=Nat.rec (fun _ _=>none) (fun _ R=>GB 2 3 (LG R)) n
abbrev xM:Stmt:=UC 33
def OL:RS:=gA (EA 1 (eC (.str "abcdefghijklmnopqrstuvwxyz"))) (xA (e2 JI (e2 wA (eV 1) (e2 fB (e2 RB (eV 0) (eC (.int 8))) (eC (.int 26)))) (e2 wA (eV 1) (e2 fB (eV 0) (eC (.int 8))))))
def tJ:jB:=GB 1 2 OL
abbrev kM:Stmt:=UC 34
def CL:RS:=gA (EA 2 (e2 fB (eV 1) (cC mB (eV 0)))) (gA (EA 3 (e2 fB (e2 HB (e2 HB (eV 2) (eC (.int 1))) (e2 fB (e2 RB (eV 1) (eC (.int 8))) (e2 qL (cC mB (eV 0)) (eC (.int 1))))) (cC mB (eV 0)))) (xA (dC (bA (eC (.str "ways")) (bA (e2 wA (eV 0) (eV 2)) (bA (e2 fB (e2 RB (eV 1) (eC (.int 64))) (eC (.int 8192))) (bA (e2 wA (eV 0) (eV 3)) fA)))))))
def qF:jB:=GB 2 4 CL
abbrev fM:Stmt:=UC 35
def nJ:RE:=BA qF [] (bA (eV 1) (bA (e2 HB (eV 2) (e2 mD (e2 mD (eC (.int 7)) (eV 0)) (eV 0))) fA))
def BL:RS:=gA (QB (b8 (e2 EB (e2 fB (eV 1) (eC (.int 3))) (eC (.int 0)))) (gA (EA 4 (e2 fB (e2 mD (eV 1) (eC (.int 48271000000019))) (e2 JH (eC (.int 10)) (eC (.int 17))))) (xA (dC (bA (eC (.str "long")) (bA (e2 wA (eV 0) (e2 fB (e2 RB (eV 1) (eC (.int 3))) (cC mB (eV 0)))) (bA (eV 4) (bA (e2 HB (eV 4) (e2 fB (e2 RB (eV 1) (eC (.int 24))) (eC (.int 9)))) fA))))))) SA) (gA (QB (ND (b8 (e2 EB (e2 fB (eV 1) (eC (.int 3))) (eC (.int 1)))) (b8 (e2 IH (eV 2) (eV 3)))) (xA (dC (bA (eC (.str "one")) (bA (JC (fF (e2 HB (eC (.int 1)) (e2 fB (e2 RB (eV 1) (eC (.int 3))) (eC (.int 6))))) (KA 0) rB nJ [none,some 0,some 1]) fA)))) SA) (xA (BA qF [] (bA (eV 0) (bA (e2 RB (eV 1) (eC (.int 3))) fA)))))
def KG:jB:=GB 4 5 BL
abbrev HL:Stmt:=UC 36
def pJ:RS:=gA (EA 3 (BA qF [] (bA (eV 0) (bA (e2 RB (eV 1) (eC (.int 6))) fA)))) (gA (QB (b8 (eV 2)) (EA 3 (dC (bA (eC (.str "one")) (bA (uC (bA (eV 3) fA)) fA)))) SA) (gA (EA 4 (e2 fB (eV 1) (eC (.int 6)))) (gA (EA 5 (uC (bA (eV 3) (bA (dC (bA (eC (.str "ways")) (bA (eC (.str "strange")) (bA (eC (.int 1)) (bA (e2 wA (eV 0) (eC (.int 0))) fA))))) (bA (dC (bA (eC (.str "ways")) (bA (e2 wA (eV 0) (eC (.int 0))) (bA (eC (.int 1)) (bA (e2 wA (eV 0) (eC (.int 0))) fA))))) (bA (dC (bA (eC (.str "ways")) (bA (e2 wA (eV 0) (eC (.int 0))) (bA (eC (.int 8192)) (bA (e2 wA (eV 0) (eC (.int 1))) fA))))) fA)))))) (gA (EA 5 (e2 wC (eV 5) (uC (bA (dC (bA (eC (.str "long")) (bA (e2 wA (eV 0) (eC (.int 0))) (bA (eC (.int 5)) (bA (eC (.int 4)) fA))))) (bA (dC (bA (eC (.str "one")) (bA (uC fA) fA))) fA))))) (xA (dC (bA (e2 wA (eV 5) (eV 4)) (bA (e2 wA (uC (bA (eC (.str "many")) (bA (eC (.str "name")) (bA (eC (.str "bad")) (bA (eC (.str "bad")) (bA (eC (.str "bad")) (bA (eC (.str "bad")) fA))))))) (eV 4)) fA))))))))
def QF:jB:=GB 3 6 pJ
abbrev KL:Stmt:=UC 37
def qJ(R:jB):RE:=BA R [] (bA (eV 1) (bA (eV 0) fA))
def PF (R:jB):RS:=gA (QB (b8 (e2 EB (e2 wA (eV 1) (eC (.int 0))) (eC (.str "long")))) (xA (dC (bA (eC (.str "long")) (bA (aD (eV 0) (e2 wA (eV 1) (eC (.int 1)))) (bA (e2 wA (eV 1) (eC (.int 2))) (bA (e2 wA (eV 1) (eC (.int 3))) fA)))))) SA) (gA (QB (b8 (e2 EB (e2 wA (eV 1) (eC (.int 0))) (eC (.str "one")))) (xA (dC (bA (eC (.str "one")) (bA (JC (kE (e2 wA (eV 1) (eC (.int 1)))) (KA 0) rB ((qJ R)) [none,some 0]) fA)))) SA) (xA (dC (bA (eC (.str "ways")) (bA (aD (eV 0) (e2 wA (eV 1) (eC (.int 1)))) (bA (e2 wA (eV 1) (eC (.int 2))) (bA (aD (eV 0) (e2 wA (eV 1) (eC (.int 3)))) fA)))))))
def nE(n:Nat):jB:=Nat.rec (fun _ _=>none) (fun _ R=>GB 2 2 (PF R)) n
abbrev MM:Stmt:=UC 38
def YM:RS:=gA (EA 3 (eC .non)) (gA (PK (JD "Book" "put" tF (eV 0) (bA (eV 1) (bA (eV 2) fA))) vL 3 4) (gA (QB (b8 (e2 FG (eV 3) (eC .non))) (xA (eC (.str "good"))) SA) (gA (EA 5 (uC (bA (sC W8 (eV 3)) (bA (sC P8 (eV 3)) (bA (sC D8 (eV 3)) fA))))) (gA (EA 5 (e2 wC (eV 5) (uC (bA (sC G8 (eV 3)) (bA (sC F8 (eV 3)) (bA (sC E8 (eV 3)) fA)))))) (gA (QB (DD (b8 (e2 IB (kK (eV 5) (eC (.bl true))) (eC (.int 1)))) (cD (b8 (sC n8 (eV 3))))) (xA (eC (.str "odd"))) SA) (xA (e2 wA (uC (bA (eC (.str "twice")) (bA (eC (.str "name")) (bA (eC (.str "bad")) (bA (eC (.str "many")) (bA (eC (.str "odd")) (bA (eC (.str "odd")) fA))))))) (aD (eV 5) (eC (.bl true))))))))))
def aE:jB:=GB 3 6 YM
abbrev zM:Stmt:=UC 39
def xJ:RE:=BA (nE 3) [] (bA (eV 1) (bA (eV 0) fA))
def QL:RS:=gA (QB (cD (b8 (BA uJ [] (bA (qI "Book" "labels" OG (eV 0)) (bA (eV 2) fA))))) (xA (eC (.bl false))) SA) (xA (BA (NG (oE 3)) [] (bA (qI "Book" "facts" pF (eV 0)) (bA (JC (kE (eV 3)) (KA 0) rB xJ [none,some 1]) fA))))
def NF:jB:=GB 4 4 QL
abbrev cM:Stmt:=UC 40
def QH:RS:=gA (EA 7 (e2 HB (eV 2) (e2 mD (e2 mD (eC (.int 13)) (eV 6)) (eV 6)))) (gA (QB (b8 (e2 IH (eV 6) (cC mB (eV 1)))) (EA 7 (e2 wA (eV 1) (eV 6))) SA) (gA (QB (ND (b8 (eV 3)) (ND (b8 (e2 EB (eV 5) (eC (.int 6)))) (b8 (e2 VO (eV 6) (e2 fB (eV 2) (eC (.int 40))))))) jI SA) (gA (EA 8 (BA KG [] (bA (eV 0) (bA (BA iD [] (bA (eV 7) (bA (eC (.int 1)) fA))) (bA (eV 5) (bA (eC (.int 6)) fA)))))) (gA (QB (ND (b8 (eV 3)) (b8 (e2 IH (eV 6) (eC (.int 6))))) (EA 8 (dC (bA (eC (.str "one")) (bA (uC (bA (BA qF [] (bA (eV 0) (bA (BA iD [] (bA (eV 7) (bA (eC (.int 2)) fA))) fA))) fA)) fA)))) SA) (gA (EA 5 (e2 HB (eV 5) (cC GH (e2 EB (e2 wA (eV 8) (eC (.int 0))) (eC (.str "one")))))) (AF (WH (eV 4) (eV 8))))))))
def ZL:RS:=gA (EA 4 (CG fA)) (gA (EA 5 (eC (.int 0))) (gA (TC (fF (eC (.int 60))) (KA 6) QH) (xA (eV 4))))
def OH:jB:=GB 4 9 ZL
abbrev FO:Stmt:=UC 41
def WG:RE:=BA RH [] (bA (BA YD [] (bA (eV 1) (bA (eC (.int 1)) fA))) (bA (eV 0) fA))
def XG:RE:=BA tJ [] (bA (eV 0) fA)
def ZG:RS:=QB (b8 (e2 IB (BA aE [] (bA (eV 6) (bA (e2 wA (eV 5) (eV 7)) (bA (e2 wA (eV 4) (eV 7)) fA)))) (eC (.str "good")))) (xA (eC (.bl false))) SA
def aH:RS:=QB (DD (b8 (e2 IB (BA aE [] (bA (eV 6) (bA (eC (.str "zz")) (bA (eV 8) fA)))) (eV 9))) (cD (b8 (BA NF [] (bA (eV 6) (bA (eV 1) (bA (eV 5) (bA (eV 4) fA)))))))) (xA (eC (.bl false))) SA
def YG:RE:=eV 0
def VF:RT:=DD (cD (b8 (eV 1))) (b8 (e2 EB (e2 wA (e2 wA (eV 2) (eV 0)) (eC (.int 0))) (eC (.str "one"))))
def AK:RS:=gA (EA 1 (JC (fF (e2 HB (eC (.int 2)) (e2 fB (BA YD [] (bA (eV 0) (bA (eC (.int 0)) fA))) (eC (.int 7))))) (KA 0) rB WG [none,some 0])) (gA (EA 2 (BA iD [] (bA (BA YD [] (bA (eV 0) (bA (eC (.int 2)) fA))) (bA (eC (.int 3)) fA)))) (gA (EA 3 (e2 EB (e2 fB (eV 2) (eC (.int 2))) (eC (.int 1)))) (gA (EA 4 (BA OH [] (bA (eV 1) (bA (wH (eV 0) (KF (eC (.int 3))) (KF (eC (.int 63)))) (bA (e2 RB (eV 2) (eC (.int 2))) (bA (eV 3) fA)))))) (gA (EA 5 (JC (fF (cC mB (eV 4))) (KA 0) rB XG [none])) (gA (EA 6 (GI "Book" MG (bA (cC DF (eV 1)) fA))) (gA (TC (fF (cC mB (eV 4))) (KA 7) ZG) (gA (fJ (pG 8 9) (BA QF [] (bA (eV 1) (bA (BA iD [] (bA (eV 2) (bA (eC (.int 4)) fA))) (bA (eV 3) fA))))) (gA (QB (b8 (e2 IB (BA aE [] (bA (eV 6) (bA (e2 wA (eV 5) (e2 fB (e2 RB (eV 2) (eC (.int 2))) (cC mB (eV 5)))) (bA (eV 8) fA)))) (eC (.str "twice")))) (xA (eC (.bl false))) SA) (gA (TC (fF (eC (.int 2))) (KA 10) aH) (gA (QB (b8 (e2 IB (eV 9) (eC (.str "many")))) (xA (eC (.bl true))) SA) (gA (EA 11 (JC (fF (cC mB (eV 4))) (KA 0) VF YG [none,some 3,some 4])) (gA (EA 12 (e2 wA (eV 11) (e2 fB (e2 RB (eV 2) (eC (.int 2))) (cC mB (eV 11))))) (gA (AF (wK (JD "Book" "take" oF (eV 6) (bA (e2 wA (eV 5) (eV 12)) fA)))) (gA (QB (b8 (e2 IB (BA aE [] (bA (eV 6) (bA (eC (.str "zz")) (bA (eV 8) fA)))) (eC (.str "good")))) (xA (eC (.bl false))) SA) (xA (BA NF [] (bA (eV 6) (bA (eV 1) (bA (e2 wC (e2 wC (wH (eV 5) VI (KF (eV 12))) (wH (eV 5) (KF (e2 HB (eV 12) (eC (.int 1)))) VI)) (uC (bA (eC (.str "zz")) fA))) (bA (e2 wC (e2 wC (wH (eV 4) VI (KF (eV 12))) (wH (eV 4) (KF (e2 HB (eV 12) (eC (.int 1)))) VI)) (uC (bA (eV 8) fA))) fA))))))))))))))))))))
def mG:jB:=GB 1 13 AK
structure Txt(K:Frag)(mg:Str->Option Value):Prop where
 Wx:MB K mg "groups_in" uM ["facts"]
 Xx:MB K mg "is_length" vM ["low", "high"]
 Rx:MB K mg "has_room" NM ["facts", "fact"]
 Cq:MB K mg "names_in" QM ["fact"]
 Bq:MB K mg "is_sound" PM ["fact"]
 Aq:MB K mg "by_numbers" FM ["fact", "numbers"]
 Gz:MB K mg "copied" qN ["fact"]
 Lz:VN K mg "Book" "Book.__init__" GL ["self", "names"]
 jz:wF K "Book" "put" "Book.put" KM ["self", "label", "fact"]
 Yx:wF K "Book" "take" "Book.take" qM ["self", "label"]
 Hx:wF K "Book" "let_in" "Book.let_in" bM ["self", "fact"]
 Gx:wF K "Book" "labels" "Book.labels" aM ["self"]
 Nx:wF K "Book" "facts" "Book.facts" wM ["self"]
 Yq:MB K mg "_law_cell_at" eM ["_law_script", "_law_k"]
 yx:MB K mg "_law_mixed" yM ["_law_number", "_law_k"]
 bx:MB K mg "_law_name_by" jM ["_law_cell", "_law_k"]
 Mx:MB K mg "_law_whole" DM ["_law_found"]
 Ax:MB K mg "_law_texts" BM ["_law_found", "_law_due"]
 zq:MB K mg "_law_fact_alike" LL ["_law_found", "_law_due"]
 Xq:MB K mg "_law_facts_alike" xL ["_law_found", "_law_due"]
 ux:MB K mg "_law_label" xM ["_law_k"]
 jx:MB K mg "_law_ways_by" kM ["_law_names", "_law_number"]
 Zq:MB K mg "_law_fact_by" fM ["_law_names", "_law_number", "_law_groups", "_law_most"]
 qx:MB K mg "_law_one_more" HL ["_law_names", "_law_number", "_law_group"]
 yq:MB K mg "_law_by_numbers" KL ["_law_names", "_law_fact"]
 Qx:MB K mg "_law_put" MM ["_law_book", "_law_label_here", "_law_fact"]
 zx:MB K mg "_law_stays" zM ["_law_book", "_law_names", "_law_labels", "_law_facts"]
 Bx:MB K mg "_law_filled" cM ["_law_names", "_law_cells", "_law_number", "_law_group"]
 Ij:cI K "Book" "numbers"
 T9:cI K "Book" "kept"
 Uv:uG K mg "BadText" "SpanError" "BadText.__init__" "row" "row" kP
 Hz:uG K mg "Twice" "SpanError" "Twice.__init__" "word" "word" EL
 Vx:uG K mg "NoLabel" "SpanError" "NoLabel.__init__" "word" "word" wL
 Cz:uG K mg "NoName" "SpanError" "NoName.__init__" "word" "word" JL
 Ux:XI K mg "TooMany"
 Sx:XI K mg "BadFact"
 Fz:∀C,nsIn K mainGlobals "Twice" =some (some (.ref C))->dD K C=true
 rz:∀C,nsIn K mainGlobals "TooMany" =some (some (.ref C))->dD K C=true
 qz:∀C,nsIn K mainGlobals "NoLabel" =some (some (.ref C))->dD K C=true
 Ez:∀C,nsIn K mainGlobals "NoName" =some (some (.ref C))->dD K C=true
 mz:∀C,nsIn K mainGlobals "BadFact" =some (some (.ref C))->dD K C=true
 Jx:QO K mg "SpanError" vL
 Ox:UK K mg "BadFact" D8
 Px:UK K mg "BadText" E8
 dz:UK K mg "NoLabel" F8
 Dz:UK K mg "NoName" P8
 iz:UK K mg "TooMany" G8
 Iz:UK K mg "Twice" W8
 Fx:zE K (.type "ValueError") n8
 Lx:mg "ValueError" =none
 Oz:mg "all" =none
 Mz:mg "bool" =none
 Zx:mg "enumerate" =none
 Dq:mg "int" =none
 i9:mg "isinstance" =none
 B8:mg "len" =none
 wj:mg "list" =none
 v9:mg "range" =none
 Fq:mg "str" =none
 Jz:mg "tuple" =none
 Nz:tG K mg "ALL" nO
 Kz:tG K mg "FACTS" UN
 uz:tG K mg "GROUPS" tN
 Az:tG K mg "MEMBERS" VM
 wz:tG K mg "LONGEST" LJ
section
variable{P:Program}{w:World}{K:Frag}{mg:Str->Option Value}
theorem DU:ZA ["facts"] ["facts"] (oA uM):=pB
theorem EU:ZA ["low", "high"] ["low", "high"] (oA vM):=pB
theorem ZU:ZA ["facts", "fact"] ["facts", "fact"] (oA NM):=pB
theorem OC:ZA ["fact", "found", "member"] ["fact"] (oA QM):=pB
theorem aV:ZA ["fact"] ["fact"] (oA PM):=pB
theorem tU:ZA ["fact", "numbers"] ["fact", "numbers"] (oA FM):=pB
theorem jX:ZA ["fact"] ["fact"] (oA qN):=pB
theorem kC:ZA ["self", "names", "number", "name"] ["self", "names"] (oA GL):=pB
theorem NC:ZA ["self", "fact", "name"] ["self", "fact"] (oA bM):=pB
theorem qU:ZA ["self"] ["self"] (oA wM):=pB
theorem OD:ZA ["self", "label", "fact", "numbered"] ["self", "label", "fact"] (oA KM):=pB
theorem CU:ZA ["self", "label"] ["self", "label"] (oA qM):=pB
theorem dU:ZA ["self"] ["self"] (oA aM):=pB
theorem kU:ZA ["_law_script", "_law_k"] ["_law_script", "_law_k"] (oA eM):=pB
theorem fD:ZA ["_law_number", "_law_k", "_law_once"] ["_law_number", "_law_k"] (oA yM):=pB
theorem aB:ZA ["_law_cell", "_law_k", "_law_some", "_law_size", "_law_place", "_law_signs"] ["_law_cell", "_law_k"] (oA jM):=pB
theorem sU:ZA ["_law_found"] ["_law_found"] (oA DM):=pB
theorem gD:ZA ["_law_found", "_law_due", "_law_k"] ["_law_found", "_law_due"] (oA BM):=pB
theorem NB:ZA ["_law_found", "_law_due", "_law_k"] ["_law_found", "_law_due"] (oA xL):=pB
theorem TB:ZA ["_law_found", "_law_due", "_law_k"] ["_law_found", "_law_due"] (oA LL):=pB
theorem eD:ZA ["_law_k", "_law_some"] ["_law_k"] (oA xM):=pB
theorem JB:ZA ["_law_names", "_law_number", "_law_i", "_law_j"] ["_law_names", "_law_number"] (oA kM):=pB
theorem yC:ZA ["_law_names", "_law_number", "_law_groups", "_law_most", "_law_low"] ["_law_names", "_law_number", "_law_groups", "_law_most"] (oA fM):=pB
theorem UA:ZA ["_law_names", "_law_number", "_law_group", "_law_fact", "_law_turn", "_law_bad"] ["_law_names", "_law_number", "_law_group"] (oA HL):=pB
theorem ST:ZA ["_law_names", "_law_fact"] ["_law_names", "_law_fact"] (oA KL):=pB
theorem FB:ZA ["_law_book", "_law_label_here", "_law_fact", "_law_error", "e", "_law_kinds"] ["_law_book", "_law_label_here", "_law_fact"] (oA MM):=pB
theorem rU:ZA ["_law_book", "_law_names", "_law_labels", "_law_facts"] ["_law_book", "_law_names", "_law_labels", "_law_facts"] (oA zM):=pB
theorem zA:ZA ["_law_names", "_law_cells", "_law_number", "_law_group", "_law_facts", "_law_groups", "_law_k", "_law_cell", "_law_fact"] ["_law_names", "_law_cells", "_law_number", "_law_group"] (oA cM):=pB
theorem KB:ZA ["_law_script", "_law_names", "_law_number", "_law_group", "_law_facts", "_law_labels", "_law_book", "_law_k", "_law_more", "_law_due", "_law_turn", "_law_places", "_law_at"] ["_law_script"] (oA FO):=pB
theorem YT:ZA ["self", "word"] ["self", "word"] (oA EL):=pB
theorem NT:ZA ["self", "word"] ["self", "word"] (oA wL):=pB
theorem QT:ZA ["self", "word"] ["self", "word"] (oA JL):=pB
variable(T:Txt K mg)(b:Heap)
include T
theorem CV:BH P w K mg b 1 "Twice" "word" (114):=MN (k:=0) T.Hz YT rfl (.three (by decide) (by decide)) (.inr rfl) (fun _=>rfl) fun _ _ _ _ _ _ _=>rfl
theorem HU:BH P w K mg b 1 "NoLabel" "word" (114):=MN (k:=0) T.Vx NT rfl (.three (by decide) (by decide)) (.inr rfl) (fun _=>rfl) fun _ _ _ _ _ _ _=>rfl
theorem WU:BH P w K mg b 1 "NoName" "word" (114):=MN (k:=0) T.Cz QT rfl (.two (by decide)) (.inr rfl) (fun _=>rfl) fun _ _ _ _ _ _ _=>rfl
theorem vU:zC P w K mg b 1 1 "groups_in" FJ:=
 YB (k:=0) (body:=mM) T.Wx DU rfl rfl fun _ _ _ _ _ _ _ hr=>sA (HA (bG (Nc:=["fact"]) rfl (cG (aA 0)) (by decide +kernel) rfl (by decide +kernel) (by rfl) (by exact trivial) (fun _ _ _ _=>xC 0 (show(["fact"]:List Str).Nodup by decide +kernel)) (fun _ _ _ _=>xR (nB (GC hr.units) (nA (aA 0) dA) AA)) (fun _ _ _ _=>nA (aA 0) dA)))
theorem wU:zC P w K mg b 1 2 "is_length" GJ:=
 YB (k:=0) (body:=nM) T.Xx EU rfl rfl fun _ _ _ _ _ _ _ hr=>sA (HA (jV kG kG kG dA (aA 0) (aA 1) (tI rfl T.wz)))
theorem lU:zC P w K mg b 2 2 "has_room" SH:=
 YB (k:=1) (body:=aN) T.Rx ZU rfl rfl fun _ _ _ _ _ _ _ hr=>rA (sB (nB O5 (aC rfl T.B8 (aA 0)) (tI rfl T.Kz)) (sA (HA KC)) lB) (sA (HA (F2 (sI (vD hr.units) (nA (aA 1) dA) AA) (qK (sI oH (aC rfl T.B8 (uB (vU T b) hr (cA (aA 0) pA))) (tI rfl T.uz))))))
theorem iU {R:jB} {k:Nat} (hk:0<=k) (hR:zC P w K mg b k 1 "names_in" R):zC P w K mg b (k+1) 1 "names_in" (GB 1 3 (UF R)):=
 YB (k:=k) (body:=UF R) T.Cq OC rfl rfl fun _ _ _ _ _ _ _ hr=>rA (sB (nB (GC hr.units) (nA (aA 0) dA) AA) (sA (HA (pK (cA (nA (aA 0) dA) (cA (nA (aA 0) dA) pA))))) lB) (rA (sB (nB (GC hr.units) (nA (aA 0) dA) AA) (sA (HA (pK (cA (nA (aA 0) dA) pA)))) lB) (rA (yB 1 OC.nd (pK pA)) (rA (vF PassesOwn.never rfl (cG (nA (aA 0) dA)) (xC 2 OC.nd) (sA (gK (mV (aA 1) (VE hR hr (by omega) rfl (cA (aA 2) pA)))))) (sA (HA (aA 1))))))
theorem pP:∀n:Nat,zC P w K mg b (0+n) 1 "names_in" (rE n)
 | 0=>bI T.Cq
 | n+1=>iU T b (Nat.le_add_right _ _) (pP n)
theorem hU {R:jB} {k:Nat} (hk:1<=k) (hR:zC P w K mg b k 1 "is_sound" R):zC P w K mg b (k+1) 1 "is_sound" (GB 1 1 (TF R)):=
 YB (k:=k) (body:=TF R) T.Bq aV rfl rfl fun _ _ _ _ _ _ _ hr=>rA (sB (nB (GC hr.units) (nA (aA 0) dA) AA) (sA (HA (eO (sI (vD hr.units) (nA (aA 0) dA) (nA (aA 0) dA)) (qK (FQ kG kG dA (nA (aA 0) dA) (tI rfl T.Nz)))))) lB) (rA (sB (nB (GC hr.units) (nA (aA 0) dA) AA) (sA (HA (VE (wU T b) hr (by omega) rfl (cA (nA (aA 0) dA) (cA (nA (aA 0) dA) pA))))) lB) (sA (HA (eO (FQ kG kG dA (aC rfl T.B8 (nA (aA 0) dA)) (tI rfl T.Az)) (qK (OZ rfl rfl T.Oz (bG (Nc:=["member"]) rfl (cG (nA (aA 0) dA)) (by decide +kernel) rfl (by decide +kernel) (by rfl) (by exact trivial) (fun _ _ _ _=>xC 0 (show(["member"]:List Str).Nodup by decide +kernel)) (fun _ _ _ _=>NE) (fun _ _ _ _=>VE hR hr (by omega) rfl (cA (aA 0) pA)))))))))
theorem oP:∀n:Nat,zC P w K mg b (1+n) 1 "is_sound" (qE n)
 | 0=>bI T.Bq
 | n+1=>hU T b (Nat.le_add_right _ _) (oP n)
theorem bU {R:jB} {k:Nat} (hk:0<=k) (hR:zC P w K mg b k 2 "by_numbers" R):zC P w K mg b (k+1) 2 "by_numbers" (GB 2 2 (MF R)):=
 YB (k:=k) (body:=MF R) T.Aq tU rfl rfl fun _ _ _ _ _ _ _ hr=>rA (sB (nB (GC hr.units) (nA (aA 0) dA) AA) (sA (HA (EC (cA AA (cA (LN hr.units (aA 1) (nA (aA 0) dA)) (cA (nA (aA 0) dA) (cA (LN hr.units (aA 1) (nA (aA 0) dA)) pA))))))) lB) (rA (sB (nB (GC hr.units) (nA (aA 0) dA) AA) (sA (HA (EC (cA AA (cA (LN hr.units (aA 1) (nA (aA 0) dA)) (cA (nA (aA 0) dA) (cA (nA (aA 0) dA) pA))))))) lB) (sA (HA (EC (cA AA (cA (bG (Nc:=["member", "numbers"]) rfl (cG (nA (aA 0) dA)) (by decide +kernel) rfl (by decide +kernel) (by rfl) (by exact⟨⟨rfl,.inl rfl,.inl rfl,rfl⟩,trivial⟩) (fun _ _ _ _=>xC 0 (show(["member", "numbers"]:List Str).Nodup by decide +kernel)) (fun _ _ _ _=>NE) (fun _ _ _ _=>VE hR hr (by omega) rfl (cA (aA 0) (cA (aA 1) pA)))) pA))))))
theorem lP:∀n:Nat,zC P w K mg b (0+n) 2 "by_numbers" (sE n)
 | 0=>bI T.Aq
 | n+1=>bU T b (Nat.le_add_right _ _) (lP n)
theorem JU:zC P w K mg b 1 1 "copied" SG:=
 YB (k:=0) (body:=UH) T.Gz jX rfl rfl fun _ _ _ _ _ _ _ hr=>sA (HA (D2 (nB (GC hr.units) (nA (aA 0) dA) AA) (EC (cA AA (cA (GQ rfl T.wj (nA (aA 0) dA)) pA))) (aA 0)))
theorem xW:WK P w K mg b 1 2 "Book" MG:=
 by unfold MG;exact BZ (k:=0) (body:=FL) T.Lz kC rfl rfl fun _ _ _ _ _ _ _ hr=>rA (YR T.Ij (aA 0) pR) (rA (vF PassesOwn.never rfl (xZ rfl T.Zx (aA 1)) (TR 2 3 rfl kC.nd) (sA (fR hr.units (aA 2) (OE T.Ij (aA 0)) (aA 3)))) (sA (YR T.T9 (aA 0) pR)))
theorem VT:nG P w K mg b 5 2 "Book" "let_in" OF:=
 by unfold OF;exact jN (k:=4) (body:=YL) T.Hx NC rfl rfl fun _ _ _ _ _ _ _ hr=>cH (G3 ⟨rfl,rfl,rfl⟩ rfl (cG (uB (pP T b 3) hr (cA (aA 1) pA))) (xC 2 NC.nd) (YE (UI (gQ hr.units (aA 2) (OE T.Ij (aA 0))) (YE (sN (WU T b) rfl hr (by decide) rfl (aA 2) T.Ez)) (nI lB)))) (cH (UI (GD (ZC (uB (oP T b 3) hr (cA (aA 1) pA)))) (YE (jQ T.Sx rfl rfl AA T.mz)) (nI lB)) (YE (tO (HA (uB (lP T b 3) hr (cA (aA 1) (cA (OE T.Ij (aA 0)) pA)))))))
theorem mP:ZI P w K mg b 2 1 "Book" "facts" pF:=
 by unfold pF;exact QQ (k:=1) (body:=dM) T.Nx qU rfl rfl fun _ _ _ _ _ _ _ hr=>sA (HA (oZ (bG (Nc:=["fact"]) rfl (bX (OE T.T9 (aA 0))) (by decide +kernel) rfl (by decide +kernel) (by rfl) (by exact trivial) (fun _ _ _ _=>xC 0 (show(["fact"]:List Str).Nodup by decide +kernel)) (fun _ _ _ _=>NE) (fun _ _ _ _=>uB (JU T b) hr (cA (aA 0) pA)))))
theorem xU:nG P w K mg b 6 3 "Book" "put" tF:=
 by unfold tF;exact jN (k:=5) (body:=XM) T.jz OD rfl rfl fun _ _ _ _ _ _ _ hr=>cH (UI (z3 hr.units (aA 1) (OE T.T9 (aA 0))) (YE (sN (CV T b) rfl hr (by decide) rfl (aA 1) T.Fz)) (nI lB)) (cH (K1 (VT T b) hr (by decide) (aA 0) (cA (aA 2) pA) OD.nd 3) (cH (UI (GD (ZC (uB (lU T b) hr (cA (xN (mP T b) hr (by decide) (aA 0)) (cA (aA 3) pA))))) (YE (jQ T.Ux rfl rfl AA T.rz)) (nI lB)) (YE (tO (fR hr.units (aA 3) (OE T.T9 (aA 0)) (aA 1))))))
theorem jU:nG P w K mg b 3 2 "Book" "take" oF:=
 by unfold oF;exact jN (k:=2) (body:=lM) T.Yx CU rfl rfl fun _ _ _ _ _ _ _ hr=>cH (UI (gQ hr.units (aA 1) (OE T.T9 (aA 0))) (YE (sN (HU T b) rfl hr (by decide) rfl (aA 1) T.qz)) (nI lB)) (YE (tO (gK (mZ (OE T.T9 (aA 0)) (aA 1)))))
theorem cU:ZI P w K mg b 1 1 "Book" "labels" OG:=
 by unfold OG;exact QQ (k:=0) (body:=WL) T.Gx dU rfl rfl fun _ _ _ _ _ _ _ hr=>sA (HA (UW rfl rfl T.wj (OE T.T9 (aA 0))))
theorem NL:zC P w K mg b 1 2 "_law_cell_at" YD:=
 YB (k:=0) (body:=AL) T.Yq kU rfl rfl fun _ _ _ _ _ _ _ hr=>rA (sB (nB oH (aA 1) (aC rfl T.B8 (aA 0))) (sA (HA (nA (aA 0) (aA 1)))) lB) (sA (HA dA))
theorem zJ:zC P w K mg b 1 2 "_law_mixed" iD:=
 YB (k:=0) (body:=PL) T.yx fD rfl rfl fun _ _ _ _ _ _ _ hr=>rA (yB 2 fD.nd (lA qB (lA SE (lA FC (lA FC (lA qB (aA 0) dA) (lA SE dA (aA 1))) dA) dA) dA)) (sA (HA (lA qB (lA SE (aA 2) (lA FC (lA FC (lA qB (aA 2) dA) (aA 1)) dA)) dA)))
theorem aU:zC P w K mg b 1 2 "_law_name_by" RH:=
 YB (k:=0) (body:=lJ) T.bx aB rfl rfl fun _ _ _ _ _ _ _ hr=>rA (yB 2 aB.nd AA) (rA (yB 0 aB.nd (lA qB (aA 0) dA)) (rA (sB (WM.tm (mI (nB (GC hr.units) (lA qB (lA RC (aA 0) dA) dA) dA) (fK (nB oH (aA 1) dA)))) (sA (HA (nA (aA 2) (lA qB (lA FC (aA 1) (lA RC (aA 0) dA)) dA)))) lB) (rA (yB 3 aB.nd (lA FC dA (lA qB (lA FC (aA 0) (lA SE (aA 1) (lA qB (lA RC (aA 0) dA) dA))) dA))) (rA (yB 4 aB.nd (lA qB (lA RC (aA 0) dA) (aA 3))) (rA (bV (Nc:=["_law_x", "_law_cell", "_law_some"]) 5 rfl aB.nd (pE rfl T.v9 (aA 3)) (by decide +kernel) rfl (by decide +kernel) (by rfl) (by exact⟨⟨rfl,.inl rfl,.inl rfl,rfl⟩,⟨⟨rfl,.inl rfl,.inl rfl,rfl⟩,trivial⟩⟩) (fun _ _ _ _=>xC 0 (show(["_law_x", "_law_cell", "_law_some"]:List Str).Nodup by decide +kernel)) (fun _ _ _ _=>NE) (fun _ _ _ _=>nA (aA 2) (lA qB (lA RC (aA 1) dA) dA)) (by rfl)) (rA (iR (nA (aA 2) (lA qB (lA RC (aA 1) dA) dA)) (aA 5) (aA 4)) (rA (iR (nA (aA 2) (lA qB (aA 1) dA)) (aA 5) (lA qB (lA FC (aA 4) dA) (aA 3))) (sA (HA (SW AA (aA 5)))))))))))
theorem gU:zC P w K mg b 1 1 "_law_whole" vJ:=
 YB (k:=0) (body:=SL) T.Mx sU rfl rfl fun _ _ _ _ _ _ _ hr=>sA (HA (eO (eG rfl T.i9 rfl T.Dq PyProof.Rows.boot_int (by decide) (aA 0)) (qK (PZ (eG rfl T.i9 rfl T.Mz PyProof.Rows.boot_bool (by decide) (aA 0))))))
theorem fU:zC P w K mg b 1 2 "_law_texts" uJ:=
 YB (k:=0) (body:=RL) T.Ax gD rfl rfl fun _ _ _ _ _ _ _ hr=>rA (sB (WM.tm (EE (GD (ZC (eG rfl T.i9 rfl T.wj PyProof.Rows.boot_list (by decide) (aA 0)))) (zF (nB (vD hr.units) (aC rfl T.B8 (aA 0)) (aC rfl T.B8 (aA 1)))))) (sA (HA KC)) lB) (rA (vF PassesOwn.never rfl (pE rfl T.v9 (aC rfl T.B8 (aA 1))) (xC 2 gD.nd) (sA (sB (WM.tm (EE (GD (ZC (eG rfl T.i9 rfl T.Fq PyProof.Rows.boot_str (by decide) (nA (aA 0) (aA 2))))) (zF (nB (vD hr.units) (nA (aA 0) (aA 2)) (nA (aA 1) (aA 2)))))) (sA (HA KC)) lB))) (sA (HA KC)))
theorem jP {R:jB} {k:Nat} (hk:1<=k) (hR:zC P w K mg b k 2 "_law_fact_alike" R):zC P w K mg b (k+1) 2 "_law_facts_alike" (NG R):=
 by unfold NG;exact YB (k:=k) (body:=zL R) T.Xq NB rfl rfl fun _ _ _ _ _ _ _ hr=>rA (sB (WM.tm (EE (GD (ZC (eG rfl T.i9 rfl T.wj PyProof.Rows.boot_list (by decide) (aA 0)))) (zF (nB (vD hr.units) (aC rfl T.B8 (aA 0)) (aC rfl T.B8 (aA 1)))))) (sA (HA KC)) lB) (rA (vF PassesOwn.never rfl (pE rfl T.v9 (aC rfl T.B8 (aA 1))) (xC 2 NB.nd) (sA (sB (GD (ZC (VE hR hr (by omega) rfl (cA (nA (aA 0) (aA 2)) (cA (nA (aA 1) (aA 2)) pA))))) (sA (HA KC)) lB))) (sA (HA KC)))
theorem MT {R:jB} {k:Nat} (hk:1<=k) (hR:zC P w K mg b k 2 "_law_fact_alike" R):zC P w K mg b (k+2) 2 "_law_fact_alike" (GB 2 3 (LG R)):=
 YB (k:=k+1) (body:=LG R) T.zq TB rfl rfl fun _ _ _ _ _ _ _ hr=>rA (sB (WM.tm (EE (GD (ZC (eG rfl T.i9 rfl T.Jz PyProof.Rows.boot_tuple (by decide) (aA 0)))) (EE (nB (vD hr.units) (aC rfl T.B8 (aA 0)) (aC rfl T.B8 (aA 1))) (EE (GD (ZC (eG rfl T.i9 rfl T.Fq PyProof.Rows.boot_str (by decide) (nA (aA 0) dA)))) (zF (nB (vD hr.units) (nA (aA 0) dA) (nA (aA 1) dA))))))) (sA (HA KC)) lB) (rA (sB (nB (GC hr.units) (nA (aA 1) dA) AA) (sA (HA (VE (jP T b hk hR) hr (by omega) rfl (cA (nA (aA 0) dA) (cA (nA (aA 1) dA) pA))))) lB) (rA (vF PassesOwn.never rfl (tW rfl T.v9 dA dA) (xC 2 TB.nd) (sA (sB (WM.tm (EE (GD (ZC (VE (gU T b) hr (by omega) rfl (cA (nA (aA 0) (aA 2)) pA)))) (zF (nB (vD hr.units) (nA (aA 0) (aA 2)) (nA (aA 1) (aA 2)))))) (sA (HA KC)) lB))) (sA (HA KC))))
theorem iP:∀n:Nat,zC P w K mg b (1+2*n) 2 "_law_fact_alike" (oE n)
 | 0=>bI T.zq
 | n+1=>MT T b (Nat.le_add_right _ _) (iP n)
theorem eU:zC P w K mg b 1 1 "_law_label" tJ:=
 YB (k:=0) (body:=OL) T.ux eD rfl rfl fun _ _ _ _ _ _ _ hr=>rA (yB 1 eD.nd AA) (sA (HA (lA KY (nA (aA 1) (lA qB (lA RC (aA 0) dA) dA)) (nA (aA 1) (lA qB (aA 0) dA)))))
theorem oJ:zC P w K mg b 1 2 "_law_ways_by" qF:=
 YB (k:=0) (body:=CL) T.jx JB rfl rfl fun _ _ _ _ _ _ _ hr=>rA (yB 2 JB.nd (lA qB (aA 1) (aC rfl T.B8 (aA 0)))) (rA (yB 3 JB.nd (lA qB (lA FC (lA FC (aA 2) dA) (lA qB (lA RC (aA 1) dA) (lA KZ (aC rfl T.B8 (aA 0)) dA))) (aC rfl T.B8 (aA 0)))) (sA (HA (EC (cA AA (cA (nA (aA 0) (aA 2)) (cA (lA qB (lA RC (aA 1) dA) dA) (cA (nA (aA 0) (aA 3)) pA))))))))
theorem ZT:zC P w K mg b 2 4 "_law_fact_by" KG:=
 YB (k:=1) (body:=BL) T.Zq yC rfl rfl fun _ _ _ _ _ _ _ hr=>rA (sB (nB (GC hr.units) (lA qB (aA 1) dA) dA) (rA (yB 4 yC.nd (lA qB (lA SE (aA 1) dA) (lA JZ dA dA))) (sA (HA (EC (cA AA (cA (nA (aA 0) (lA qB (lA RC (aA 1) dA) (aC rfl T.B8 (aA 0)))) (cA (aA 4) (cA (lA FC (aA 4) (lA qB (lA RC (aA 1) dA) dA)) pA)))))))) lB) (rA (sB (WM.tm (mI (nB (GC hr.units) (lA qB (aA 1) dA) dA) (fK (nB oH (aA 2) (aA 3))))) (sA (HA (EC (cA AA (cA (bG (Nc:=["_law_k", "_law_names", "_law_number"]) rfl (pE rfl T.v9 (lA FC dA (lA qB (lA RC (aA 1) dA) dA))) (by decide +kernel) rfl (by decide +kernel) (by rfl) (by exact⟨⟨rfl,.inl rfl,.inl rfl,rfl⟩,⟨⟨rfl,.inl rfl,.inl rfl,rfl⟩,trivial⟩⟩) (fun _ _ _ _=>xC 0 (show(["_law_k", "_law_names", "_law_number"]:List Str).Nodup by decide +kernel)) (fun _ _ _ _=>NE) (fun _ _ _ _=>uB (oJ T b) hr (cA (aA 1) (cA (lA FC (aA 2) (lA SE (lA SE dA (aA 0)) (aA 0))) pA)))) pA))))) lB) (sA (HA (uB (oJ T b) hr (cA (aA 0) (cA (lA RC (aA 1) dA) pA))))))
theorem OT:zC P w K mg b 2 3 "_law_one_more" QF:=
 YB (k:=1) (body:=pJ) T.qx UA rfl rfl fun _ _ _ _ _ _ _ hr=>rA (yB 3 UA.nd (uB (oJ T b) hr (cA (aA 0) (cA (lA RC (aA 1) dA) pA)))) (rA (sB (ZC (aA 2)) (sA (yB 3 UA.nd (EC (cA AA (cA (dE (cA (aA 3) pA)) pA))))) lB) (rA (yB 4 UA.nd (lA qB (aA 1) dA)) (rA (yB 5 UA.nd (dE (cA (aA 3) (cA (EC (cA AA (cA AA (cA dA (cA (nA (aA 0) dA) pA))))) (cA (EC (cA AA (cA (nA (aA 0) dA) (cA dA (cA (nA (aA 0) dA) pA))))) (cA (EC (cA AA (cA (nA (aA 0) dA) (cA dA (cA (nA (aA 0) dA) pA))))) pA)))))) (rA (yB 5 UA.nd (lA mH (aA 5) (dE (cA (EC (cA AA (cA (nA (aA 0) dA) (cA dA (cA dA pA))))) (cA (EC (cA AA (cA (dE pA) pA))) pA))))) (sA (HA (EC (cA (nA (aA 5) (aA 4)) (cA (nA (dE (cA AA (cA AA (cA AA (cA AA (cA AA (cA AA pA))))))) (aA 4)) pA)))))))))
theorem JT {R:jB} {k:Nat} (hk:0<=k) (hR:zC P w K mg b k 2 "_law_by_numbers" R):zC P w K mg b (k+1) 2 "_law_by_numbers" (GB 2 2 (PF R)):=
 YB (k:=k) (body:=PF R) T.yq ST rfl rfl fun _ _ _ _ _ _ _ hr=>rA (sB (nB (GC hr.units) (nA (aA 1) dA) AA) (sA (HA (EC (cA AA (cA (MJ hr.units (aA 0) (nA (aA 1) dA)) (cA (nA (aA 1) dA) (cA (nA (aA 1) dA) pA))))))) lB) (rA (sB (nB (GC hr.units) (nA (aA 1) dA) AA) (sA (HA (EC (cA AA (cA (bG (Nc:=["_law_member", "_law_names"]) rfl (cG (nA (aA 1) dA)) (by decide +kernel) rfl (by decide +kernel) (by rfl) (by exact⟨⟨rfl,.inl rfl,.inl rfl,rfl⟩,trivial⟩) (fun _ _ _ _=>xC 0 (show(["_law_member", "_law_names"]:List Str).Nodup by decide +kernel)) (fun _ _ _ _=>NE) (fun _ _ _ _=>VE hR hr (by omega) rfl (cA (aA 1) (cA (aA 0) pA)))) pA))))) lB) (sA (HA (EC (cA AA (cA (MJ hr.units (aA 0) (nA (aA 1) dA)) (cA (nA (aA 1) dA) (cA (MJ hr.units (aA 0) (nA (aA 1) dA)) pA))))))))
theorem gP:∀n:Nat,zC P w K mg b (0+n) 2 "_law_by_numbers" (nE n)
 | 0=>bI T.yq
 | n+1=>JT T b (Nat.le_add_right _ _) (gP n)
theorem wJ:zC P w K mg b 7 3 "_law_put" aE:=
 YB (k:=6) (body:=YM) T.Qx FB rfl rfl fun _ _ _ _ _ _ _ hr=>rA (yB 3 FB.nd uR) (rA (J1 (xU T b) T.Jx ⟨rfl,rfl,rfl⟩ hr (by decide) (fun _=>aA 0) (fun _=>cA (aA 1) (cA (aA 2) pA)) rfl FB.nd) (rA (sB (nB IZ (aA 3) uR) (sA (HA AA)) lB) (rA (yB 5 FB.nd (dE (cA (kH rfl T.i9 rfl T.Iz (aA 3)) (cA (kH rfl T.i9 rfl T.Dz (aA 3)) (cA (kH rfl T.i9 rfl T.Ox (aA 3)) pA))))) (rA (yB 5 FB.nd (lA mH (aA 5) (dE (cA (kH rfl T.i9 rfl T.iz (aA 3)) (cA (kH rfl T.i9 rfl T.dz (aA 3)) (cA (kH rfl T.i9 rfl T.Px (aA 3)) pA)))))) (rA (sB (WM.tm (EE (nB (vD hr.units) (lV (aA 5) KC) dA) (zF (GD (ZC (kZ rfl T.i9 rfl T.Lx (by rfl) T.Fx (aA 3))))))) (sA (HA AA)) lB) (sA (HA (nA (dE (cA AA (cA AA (cA AA (cA AA (cA AA (cA AA pA))))))) (MJ hr.units (aA 5) KC)))))))))
theorem nP:zC P w K mg b 9 4 "_law_stays" NF:=
 YB (k:=8) (body:=QL) T.zx rU rfl rfl fun _ _ _ _ _ _ _ hr=>rA (sB (GD (ZC (uB (fU T b) hr (cA (xN (cU T b) hr (by decide) (aA 0)) (cA (aA 2) pA))))) (sA (HA KC)) lB) (sA (HA (uB (jP T b (by omega) (iP T b 3)) hr (cA (xN (mP T b) hr (by decide) (aA 0)) (cA (bG (Nc:=["_law_fact", "_law_names"]) rfl (cG (aA 3)) (by decide +kernel) rfl (by decide +kernel) (by rfl) (by exact⟨⟨rfl,.inl rfl,.inl rfl,rfl⟩,trivial⟩) (fun _ _ _ _=>xC 0 (show(["_law_fact", "_law_names"]:List Str).Nodup by decide +kernel)) (fun _ _ _ _=>NE) (fun _ _ _ _=>uB (gP T b 3) hr (cA (aA 1) (cA (aA 0) pA)))) pA)))))
theorem WT:zC P w K mg b 3 4 "_law_filled" OH:=
 YB (k:=2) (body:=ZL) T.Bx zA rfl rfl fun _ _ _ _ _ _ _ hr=>rA (yB 4 zA.nd (pK pA)) (rA (yB 5 zA.nd dA) (rA (vF PassesOwn.never rfl (pE rfl T.v9 dA) (xC 6 zA.nd) (rA (yB 7 zA.nd (lA FC (aA 2) (lA SE (lA SE dA (aA 6)) (aA 6)))) (rA (sB (nB oH (aA 6) (aC rfl T.B8 (aA 1))) (sA (yB 7 zA.nd (nA (aA 1) (aA 6)))) lB) (rA (sB (WM.tm (mI (ZC (aA 3)) (mI (nB (GC hr.units) (aA 5) dA) (fK (nB P5 (aA 6) (lA qB (aA 2) dA)))))) (sA RX) lB) (rA (yB 8 zA.nd (uB (ZT T b) hr (cA (aA 0) (cA (uB (zJ T b) hr (cA (aA 7) (cA dA pA))) (cA (aA 5) (cA dA pA)))))) (rA (sB (WM.tm (mI (ZC (aA 3)) (fK (nB oH (aA 6) dA)))) (sA (yB 8 zA.nd (EC (cA AA (cA (dE (cA (uB (oJ T b) hr (cA (aA 0) (cA (uB (zJ T b) hr (cA (aA 7) (cA dA pA))) pA))) pA)) pA))))) lB) (rA (yB 5 zA.nd (lA FC (aA 5) (jZ rfl T.Dq (sI (GC hr.units) (nA (aA 8) dA) AA)))) (sA (gK (iV (aA 4) (aA 8))))))))))) (sA (HA (aA 4)))))
theorem WZ {f:Addr} {fd:FuncData} (F:Z9 K "law" "law" FO f fd):l8 P w K mg b TD 10 f fd ["_law_script"] (NH K 1 mG):=by unfold mG;exact XZ (k:=9) (body:=AK) F KB rfl rfl fun cdv A outer s H E hr=>by(unfold AK VF YG aH ZG XG WG;exact rA (UM (Nc:=["_law_k", "_law_script"]) 1 rfl KB.nd (pE rfl T.v9 (lA FC dA (lA qB (uB (NL T b) hr (cA (aA 0) (cA dA pA))) dA))) (by decide +kernel) rfl (by decide +kernel) (by rfl) (by exact⟨⟨rfl,.inl rfl,.inl rfl,rfl⟩,trivial⟩) (fun _ _ _ _=>xC 0 (show(["_law_k", "_law_script"]:List Str).Nodup by decide +kernel)) (fun _ _ _ _=>NE) (fun _ _ _ _=>uB (aU T b) hr (cA (uB (NL T b) hr (cA (aA 1) (cA dA pA))) (cA (aA 0) pA))) (by rfl)) (rA (yB 2 KB.nd (uB (zJ T b) hr (cA (uB (NL T b) hr (cA (aA 0) (cA dA pA))) (cA dA pA)))) (rA (yB 3 KB.nd (sI (GC hr.units) (lA qB (aA 2) dA) dA)) (rA (yB 4 KB.nd (uB (WT T b) hr (cA (aA 1) (cA (XH (aA 0) (bH dA) (bH dA)) (cA (lA RC (aA 2) dA) (cA (aA 3) pA)))))) (rA (UM (Nc:=["_law_k"]) 5 rfl KB.nd (pE rfl T.v9 (aC rfl T.B8 (aA 4))) (by decide +kernel) rfl (by decide +kernel) (by rfl) (by exact trivial) (fun _ _ _ _=>xC 0 (show(["_law_k"]:List Str).Nodup by decide +kernel)) (fun _ _ _ _=>NE) (fun _ _ _ _=>uB (eU T b) hr (cA (aA 0) pA)) (by rfl)) (rA (yB 6 KB.nd (nZ (xW T b) hr (by decide) rfl (cA (GQ rfl T.wj (aA 1)) pA))) (rA (vF PassesOwn.never rfl (pE rfl T.v9 (aC rfl T.B8 (aA 4))) (xC 7 KB.nd) (sA (sB (nB (vD hr.units) (uB (wJ T b) hr (cA (aA 6) (cA (nA (aA 5) (aA 7)) (cA (nA (aA 4) (aA 7)) pA)))) AA) (sA (HA KC)) lB))) (rA (G1 (uB (OT T b) hr (cA (aA 1) (cA (uB (zJ T b) hr (cA (aA 2) (cA dA pA))) (cA (aA 3) pA)))) (TR 8 9 rfl KB.nd)) (rA (sB (nB (vD hr.units) (uB (wJ T b) hr (cA (aA 6) (cA (nA (aA 5) (lA qB (lA RC (aA 2) dA) (aC rfl T.B8 (aA 5)))) (cA (aA 8) pA)))) AA) (sA (HA KC)) lB) (rA (vF PassesOwn.never rfl (pE rfl T.v9 dA) (xC 10 KB.nd) (sA (sB (WM.tm (EE (nB (vD hr.units) (uB (wJ T b) hr (cA (aA 6) (cA AA (cA (aA 8) pA)))) (aA 9)) (zF (GD (ZC (uB (nP T b) hr (cA (aA 6) (cA (aA 1) (cA (aA 5) (cA (aA 4) pA)))))))))) (sA (HA KC)) lB))) (rA (sB (nB (vD hr.units) (aA 9) AA) (sA (HA KC)) lB) (rA (UM (Nc:=["_law_k", "_law_group", "_law_facts"]) 11 rfl KB.nd (pE rfl T.v9 (aC rfl T.B8 (aA 4))) (by decide +kernel) rfl (by decide +kernel) (by rfl) (by exact⟨⟨rfl,.inl rfl,.inl rfl,rfl⟩,⟨⟨rfl,.inl rfl,.inl rfl,rfl⟩,trivial⟩⟩) (fun _ _ _ _=>xC 0 (show(["_law_k", "_law_group", "_law_facts"]:List Str).Nodup by decide +kernel)) (fun _ _ _ _=>xR (WM.tm (EE (GD (ZC (aA 1))) (zF (nB (GC hr.units) (nA (nA (aA 2) (aA 0)) dA) AA))))) (fun _ _ _ _=>aA 0) (by rfl)) (rA (yB 12 KB.nd (nA (aA 11) (lA qB (lA RC (aA 2) dA) (aC rfl T.B8 (aA 11))))) (rA (gK (VW (jU T b) hr (by decide) (aA 6) (cA (nA (aA 5) (aA 12)) pA))) (rA (sB (nB (vD hr.units) (uB (wJ T b) hr (cA (aA 6) (cA AA (cA (aA 8) pA)))) AA) (sA (HA KC)) lB) (sA (HA (uB (nP T b) hr (cA (aA 6) (cA (aA 1) (cA (lA mH (lA mH (XH (aA 5) YJ (bH (aA 12))) (XH (aA 5) (bH (lA FC (aA 12) dA)) YJ)) (dE (cA AA pA))) (cA (lA mH (lA mH (XH (aA 4) YJ (bH (aA 12))) (XH (aA 4) (bH (lA FC (aA 12) dA)) YJ)) (dE (cA (aA 8) pA))) pA))))))))))))))))))))))
end
theorem IN(a b:Str):(a++b).cps.toList=a.cps.toList++b.cps.toList:=by rw[Str.cps_append];simp
theorem bR{a b:Str}(h:a.cps.toList=b.cps.toList):a=b:=by cases a;cases b;simp only[Str.mk.injEq];exact Array.toList_inj.mp h
theorem vW{z:Str}{ts:List Str}{B:Nat}(hB:∀t∈ts,t.length<=B)(h:ts.length*B+ts.length*z.length<=16777216):JoinOk z ts=true:=by unfold JoinOk;rw[StrLaws.joinFits hB h];rfl
section
variable{l:LI}{h:HI}{fa fb fo f:RE}
def vS(a:Dt)(q:Dt×HI):Option (Dt×HI):=match a with
 | .str z=>(VA q.2 q.1).bind fun xs=>(yF xs).bind fun ts=>if PySem.JoinOk z ts=true then some (.str (Str.join z ts),q.2)else none
 | _=>none
theorem yY:vK fa fb l h=NA (fa l h) fun r=>NA (fb l r.2) (vS r.1):=by
 unfold NA vK
 congr 1
theorem nQ:∀ts:List Str,yF (ts.map Dt.str)=some ts
 | []=>rfl
 | t::ts=>by simp only[Hy,yF,nQ ts,Ny]
theorem A0{z:Str}{d:Dt}{ts:List Str}(e:VA h d=some (ts.map Dt.str))(ok:JoinOk z ts=true):vS (.str z) (d,h)=some (.str (Str.join z ts),h):=by simp only[vS,e,Py,nQ,if_pos ok]
theorem HZ{x y:Str}(c:x.length+y.length<=16000000):JI (.str x) (.str y) h=some (.str (x++y),h):=by simp only[JI];rw[if_pos (Nat.le_trans c (by decide))]
theorem VP:∀{nm:List Str}{i:Nat}(_:nm.Nodup)(hi:i<nm.length),AD (nm.map Dt.str) (.str nm[i])=some i
 | [],i,_,hi=>absurd hi (by simp)
 | x::nm,0,_,_=>by simp[AD,DB]
 | x::nm,i+1,nd,hi=>by
  have nd':=nodup_cons.mp nd;have hi':i<nm.length:=by simpa using hi
  have ne:¬x=nm[i]:=fun e=>nd'.1 (e ▸ getElem_mem hi')
  have e:DB (.str x) (.str nm[i])≠true:=by simpa[DB]using ne
  show(if DB (.str x) (.str nm[i])=true then some 0 else(AD (nm.map Dt.str) (.str nm[i])).map (· + 1))=some (i+1);rw[if_neg e,VP nd'.2 hi'];rfl
theorem aQ:∀ts:List Str,rC (ts.map Dt.str)=true
 | []=>rfl
 | t::ts=>by simp only[Hy,rC,uA,aQ ts,Bool.and_self]
theorem DQ:∀ts:List Str,tD (ts.map Dt.str)<=1
 | []=>by simp[tD]
 | t::ts=>by have:=DQ ts;simp only[Hy,tD,AG];omega
theorem vZ{d:Dt}{nm:List Str}{i:Nat}(e1:fo l h=some (d,h))(e2:VA h d=some (nm.map Dt.str))(nd:nm.Nodup)(hi:i<nm.length)(e3:fa l h=some (.str nm[i],h)):aD fo fa l h=some (.int (i:Nat),h):=by
 have ok:qG (nm.map Dt.str) (.str nm[i])=true:=by have:=DQ nm;simp only[qG,aQ,uA,Bool.and_self,Bool.true_and,decide_eq_true_eq];omega
 simp only[aD,e1,Py,e2,e3,if_pos ok,VP nd hi,Ny]
end
theorem UE{c:Nat}(hc:c<=1000)(h:HI):ZO (.int (c:Nat),h)=some (.vals ((List.range c).map fun(k:Nat)=>Dt.int (k:Int)),h):=by have er:=N0 (h:=h) (show(-(2^62):Int)<=(c:Int) by omega) (show(c:Int)<2^62 by omega);simp only[Int.toNat_natCast]at er;exact er
theorem wW(z x:Str){ys:List Str}(h:ys ≠ []):Str.join z (x::ys)=x++z++Str.join z ys:=by
 cases ys with
 | nil=>exact absurd rfl h
 | cons y r=>rfl
theorem gH {i:Nat} (hi:i<26) (h:HI):wA (.str "abcdefghijklmnopqrstuvwxyz") (.int (i:Nat)) h=some (.str ⟨#[97+i]⟩,h):=by
 have t:∀i<26,(Str.ofString "abcdefghijklmnopqrstuvwxyz").cps.toList[i]?=some (97+i):=by decide
 simp only[wA];rw[if_pos (by decide),SM.ED,t i hi];rfl
theorem EV:∀xs:List Nat,Str.join (Str.ofString "") (xs.map fun x=>(⟨#[x]⟩:Str))=⟨xs.toArray⟩:=by
 intro xs;apply bR;have e0:(Str.ofString "").cps.toList=[]:=by decide
 induction xs with
 | nil=>rfl
 | cons x xs ih=>
  cases xs with
  | nil=>rfl
  | cons y r=>rw[Hy,wW _ _ (by simp),IN,IN,e0,ih];simp
noncomputable def V8(c k:Nat):Nat:=2+(c+k*(c/7%2))%7
def f9(c k:Nat):Nat:=c/14%V8 c k
def UB(c k:Nat):List Nat:=if c/5%4=1 then [97+(k+c/20)%26]else((List.replicate (V8 c k) (97+c/98%26)).set (f9 c k) 97).set ((f9 c k+1)%V8 c k) (97+k)
def bD(c k:Nat):Str:=⟨(UB c k).toArray⟩
theorem OI(c k:Nat):2<=V8 c k/\V8 c k<=8/\f9 c k<V8 c k/\(f9 c k+1)%V8 c k<V8 c k/\f9 c k≠(f9 c k+1)%V8 c k:=by
 have h1:2<=V8 c k:=by unfold V8;omega
 have h2:V8 c k<=8:=by unfold V8;omega
 have h3:f9 c k<V8 c k:=Nat.mod_lt _ (by omega);refine⟨h1,h2,h3,Nat.mod_lt _ (by omega),?_⟩;by_cases q:f9 c k+1<V8 c k
 · rw[Nat.mod_eq_of_lt q];omega
 · rw[show f9 c k+1=V8 c k by omega,Nat.mod_self];omega
theorem X1(n:Int){c k:Nat}(hc:n%1000003=(c:Int))(hk:k<8)(h:HI):∃g,RH [.int n,.int (k:Nat)] h=some (.str (bD c k),h++g):=by
 have m0:=fun(h:HI)=>wB (h:=h) (i:=n) (j:=1000003) (by decide)
 rw[hc]at m0;have d5:=fun(h:HI)=>uD (h:=h) (i:=(c:Int)) (j:=5) ⟨by decide,by decide⟩
 have m4:=fun(h:HI)=>wB (h:=h) (i:=(c:Int)/5) (j:=4) (by decide)
 have Qk:decide ((k:Int)<26)=true:=decide_eq_true (by omega);by_cases q:c/5%4=1
 · have qt:decide ((c:Int)/5%4=1)=true:=decide_eq_true (by omega);have Lw:=fun(h:HI)=>uD (h:=h) (i:=(c:Int)) (j:=20) ⟨by decide,by decide⟩
   have Pq:=fun(h:HI)=>wB (h:=h) (i:=(k:Int)+(c:Int)/20) (j:=26) (by decide)
   have ce:((k:Int)+(c:Int)/20)%26=(((k+c/20)%26:Nat):Int):=by omega
   rw[ce]at Pq;have ab:=gH (i:=(k+c/20)%26) (Nat.mod_lt _ (by decide)) h;refine⟨[],?_⟩;have en:bD c k=⟨#[97+(k+c/20)%26]⟩:=by unfold bD UB;rw[if_pos q]
   rw[en,Zy];simp only[RH,lJ,iB,Fy,Gy,if_true,Hy,Jy,Nat.reduceAdd,Nat.reduceSub,List.replicate,Ry,Qy,WA,HC,yA,jA,vA,Dy,Ey,kA,iA,Ly,Ky,QA,m0,bB,nH,LA,d5,m4,GG,qt,GA,JF,Qk,cB,Lw,LD,Pq,ab,gC,OA]
 · have qf:decide ((c:Int)/5%4=1)=false:=decide_eq_false (by omega);obtain⟨s1,s2,s3,s4,s5⟩:=OI c k;have d7:=fun(h:HI)=>uD (h:=h) (i:=(c:Int)) (j:=7) ⟨by decide,by decide⟩
   have m2:=fun(h:HI)=>wB (h:=h) (i:=(c:Int)/7) (j:=2) (by decide)
   have u1:=fun(h:HI)=>cF (h:=h) (i:=(k:Int)) (j:=(c:Int)/7%2) (Or.inl ⟨by omega,by omega⟩)
   have m7:=fun(h:HI)=>wB (h:=h) (i:=(c:Int)+(k:Int)*((c:Int)/7%2)) (j:=7) (by decide)
   have es:(2:Int)+((c:Int)+(k:Int)*((c:Int)/7%2))%7=((V8 c k:Nat):Int):=by unfold V8;rw[Int.natCast_add];rfl
   have Kw:=fun(h:HI)=>uD (h:=h) (i:=(c:Int)) (j:=14) ⟨by decide,by decide⟩
   have mp:=fun(h:HI)=>wB (h:=h) (i:=(c:Int)/14) (j:=((V8 c k:Nat):Int)) (by omega)
   have ep:(c:Int)/14%((V8 c k:Nat):Int)=((f9 c k:Nat):Int):=rfl;rw[ep]at mp;have mq:=fun(h:HI)=>wB (h:=h) (i:=((f9 c k:Nat):Int)+1) (j:=((V8 c k:Nat):Int)) (by omega)
   have eq:(((f9 c k:Nat):Int)+1)%((V8 c k:Nat):Int)=(((f9 c k+1)%V8 c k:Nat):Int):=rfl;rw[eq]at mq;have dk:=fun(h:HI)=>uD (h:=h) (i:=(k:Int)) (j:=26) ⟨by decide,by decide⟩
   have mk1:=fun(h:HI)=>wB (h:=h) (i:=(k:Int)/26) (j:=26) (by decide)
   have ek1:(k:Int)/26%26=((0:Nat):Int):=by omega
   rw[ek1]at mk1;have mk2:=fun(h:HI)=>wB (h:=h) (i:=(k:Int)) (j:=26) (by decide)
   have ek2:(k:Int)%26=((k:Nat):Int):=by omega
   rw[ek2]at mk2;have Qw:=fun(h:HI)=>uD (h:=h) (i:=(c:Int)) (j:=98) ⟨by decide,by decide⟩
   have qw:=fun(h:HI)=>wB (h:=h) (i:=(c:Int)/98) (j:=26) (by decide)
   have Tw:(c:Int)/98%26=((c/98%26:Nat):Int):=rfl;rw[Tw]at qw;have ec:=sF (te:=ML) (tc:=rB) (i:=0) (fun(k:Nat)=>Dt.int (k:Int)) (fun _=>Dt.str ⟨#[97+c/98%26]⟩) h (List.range (V8 c k)) [none,some (.int (c:Nat)),some (.str "abcdefghijklmnopqrstuvwxyz")] fun j _=>⟨rfl,by
    simp only[ML,yA,jA,vA,Ky,Dy,Ey,kA,iA,Qw,qw,gH (Nat.mod_lt _ (by decide))]⟩
   have hs:((List.range (V8 c k)).map fun(k:Nat)=>Dt.int (k:Int)).length<sizeLine:=by rw[length_map,length_range];exact Nat.lt_of_le_of_lt s2 (by decide)
   have r1:=UE (c:=V8 c k) (by omega) h;obtain⟨xs,hxs⟩:∃xs:List Dt,xs=(List.range (V8 c k)).map fun _=>Dt.str ⟨#[97+c/98%26]⟩:=⟨_,rfl⟩
   have ex:xs=(List.replicate (V8 c k) (97+c/98%26)).map fun x=>Dt.str ⟨#[x]⟩:=by rw[hxs];apply ext_getElem (by simp);intro a b1 b2;simp
   rw[<- hxs]at ec;have xl:xs.length=V8 c k:=by rw[ex];simp
   have at1:(h++[Ob.lst xs])[h.length]?=some (.lst xs):=by simp
   have st1:=fun(l:LI)=>mQ (l:=l) (h:=h++[Ob.lst xs]) (n:=h.length) (k:=f9 c k) (v:=.str ⟨#[97+0]⟩) at1 (by omega)
   have h2:(h++[Ob.lst xs]).set h.length (.lst (xs.set (f9 c k) (.str ⟨#[97+0]⟩)))=h++[.lst (xs.set (f9 c k) (.str ⟨#[97+0]⟩))]:=by simp
   rw[h2]at st1;have at2:(h++[Ob.lst (xs.set (f9 c k) (.str ⟨#[97+0]⟩))])[h.length]?=some (.lst (xs.set (f9 c k) (.str ⟨#[97+0]⟩))):=by simp
   have st2:=fun(l:LI)=>mQ (l:=l) (h:=h++[Ob.lst (xs.set (f9 c k) (.str ⟨#[97+0]⟩))]) (n:=h.length) (k:=(f9 c k+1)%V8 c k) (v:=.str ⟨#[97+k]⟩) at2 (by rw[length_set];omega)
   have en:(xs.set (f9 c k) (.str ⟨#[97+0]⟩)).set ((f9 c k+1)%V8 c k) (.str ⟨#[97+k]⟩)=((UB c k).map fun x=>(⟨#[x]⟩:Str)).map Dt.str:=by unfold UB;rw[if_neg q,ex,map_map,<- map_set,<- map_set];rfl
   have h3:(h++[Ob.lst (xs.set (f9 c k) (.str ⟨#[97+0]⟩))]).set h.length (.lst ((xs.set (f9 c k) (.str ⟨#[97+0]⟩)).set ((f9 c k+1)%V8 c k) (.str ⟨#[97+k]⟩)))=h++[.lst (((UB c k).map fun x=>(⟨#[x]⟩:Str)).map Dt.str)]:=by rw[en];simp
   rw[h3]at st2;have nl:(UB c k).length<=8:=by unfold UB;rw[if_neg q];simp;exact s2
   have jk:=A0 (h:=h++[.lst (((UB c k).map fun x=>(⟨#[x]⟩:Str)).map Dt.str)]) (z:=Str.ofString "") (d:=.ref h.length) (ts:=(UB c k).map fun x=>(⟨#[x]⟩:Str)) (by simp[VA]) (vW (B:=1) (fun t m=>by obtain⟨x,_,rfl⟩:=mem_map.mp m;exact Xy 1) (by
    have:(Str.ofString "").length=0:=by decide
    rw[this,length_map];omega))
   rw[EV]at jk;have jk:vS (.str (Str.ofString "")) (.ref h.length,h++[.lst (((UB c k).map fun x=>(⟨#[x]⟩:Str)).map Dt.str)])=some (.str (bD c k),h++[.lst (((UB c k).map fun x=>(⟨#[x]⟩:Str)).map Dt.str)]):=jk;have Fw:=fun(h:HI)=>gH (i:=0) (by decide) h
   have Gw:=fun(h:HI)=>gH (i:=k) (by omega) h
   refine⟨[.lst (((UB c k).map fun x=>(⟨#[x]⟩:Str)).map Dt.str)],?_⟩;simp only[RH,lJ,iB,Fy,Gy,if_true,Hy (f:=some),Jy (f:=some),Nat.reduceAdd,Nat.reduceSub,List.replicate,Ry,Qy,WA,HC,yA,jA,vA,Dy,Ey,kA,iA,Ly,Ky,QA,m0,bB,nH,LA,d5,m4,GG,qf,GA,cg,if_false,kB,d7,m2,u1,LD,m7,es,Kw,mp,kY,lG,r1,xE,ZF,uE,Option.join_some,ZD _ _ _ hs,ec,BY,dk,mk1,Fw,st1,mk2,Gw,mq,st2,cB,yY,jk,OA]
theorem LP{α:Type}{te:RE}{i:Nat}(D F:α->Dt)(h0:HI):∀(xs:List α)(l:LI)(e:HI),(∀x∈xs,∀e,∃g,te (l.set i (some (D x))) (h0++e)=some (F x,h0++e++g))->
 ∃g,sD (KA i) rB te (xs.map D) l (h0++e)=some (xs.map F,h0++e++g)
 | [],_,e,_=>⟨[],by simp[sD]⟩
 | x::xs,l,e,H=>by
  obtain⟨g,hx⟩:=H x (by simp) e;obtain⟨g2,ih⟩:=LP D F h0 xs (l.set i (some (D x))) (e++g) (te:=te) (i:=i) (fun y hy e=>by
   rw[set_set];exact H y (by simp[hy]) e)
  rw[<- append_assoc]at ih;refine⟨g++g2,?_⟩;simp only[Hy,sD,DI,Py,aR,hx,if_true,ih];rw[append_assoc (h0++e)]
theorem ZV(c k:Nat):(bD c k).length=(UB c k).length:=by simp[bD,Str.length]
theorem HJ(c k:Nat):(bD c k).cps.toList=UB c k:=by simp[bD]
theorem FY{c k x:Nat}(hk:k<8)(h:x∈UB c k):97<=x/\x<=122:=by
 unfold UB at h;split at h
 · rw[mem_singleton.mp h];omega
 · rcases mem_or_eq_of_mem_set h with h | rfl
   · rcases mem_or_eq_of_mem_set h with h | rfl
     · rw[(mem_replicate.mp h).2];omega
     · omega
   · omega
theorem FW(c k:Nat):1<=(UB c k).length/\(UB c k).length<=8:=by
 obtain⟨s1,s2,_⟩:=OI c k;unfold UB;split
 · simp
 · simp;omega
theorem C7{c k:Nat}(q:¬c/5%4=1):97∈UB c k:=by obtain⟨s1,s2,s3,s4,s5⟩:=OI c k;unfold UB;rw[if_neg q];refine mem_iff_getElem?.mpr ⟨f9 c k,?_⟩;rw[getElem?_set_ne (by omega),getElem?_set_self (by simpa using s3)]
theorem DW{c k k':Nat}(hk:k<8)(hk':k'<8)(e:bD c k=bD c k'):k=k':=by
 have e:=congrArg (fun s:Str=>s.cps.toList) e;rw[HJ,HJ]at e;unfold UB at e;by_cases q:c/5%4=1
 · rw[if_pos q,if_pos q]at e;injection e with e _
   omega
 · rw[if_neg q,if_neg q]at e;have el:=congrArg List.length e;simp only[length_set,length_replicate]at el;obtain⟨s1,s2,s3,s4,s5⟩:=OI c k;have ep:f9 c k=f9 c k':=by unfold f9;rw[el]
   rw[el,ep]at e s4;have e2:=congrArg (fun l:List Nat=>l[(f9 c k'+1)%V8 c k']?) e;rw[getElem?_set_self (by simpa using s4),getElem?_set_self (by simpa using s4)]at e2;injection e2 with e2
   omega
def KO(c n:Nat):List Str:=(List.range n).map (bD c)
def mL(b:Bool)(y:Dt)(o:Dt×HI):Option (Dt×HI):=(BD y).bind fun k=>(iE o.2 o.1).map fun kvs=>(.bl ((oB kvs k).isSome==b),o.2)
theorem yK(b:Bool)(fy fo:RE)(l:LI)(h:HI):BG b fy fo l h=NA (fy l h) fun y=>NA (fo l y.2) fun o=>mL b y.1 o:=by rfl
theorem QN{b:Bool}{z:Str}{h:HI}{n:Nat}{kvs:List (qA×Dt)}(e:h[n]?=some (.dk kvs)):mL b (.str z) (.ref n,h)=some (.bl ((oB kvs (.inr z)).isSome==b),h):=by simp only[mL,BD,Py,iE,e,Ny]
def wO(o:Dt)(y:Dt×HI):Option (Dt×HI):=(BD y.1).bind fun k=>(iE y.2 o).bind fun kvs=>(oB kvs k).map fun d=>(d,y.2)
theorem WQ(fo fy:RE)(l:LI)(h:HI):FI fo fy l h=NA (fo l h) fun o=>NA (fy l o.2) fun y=>wO o.1 y:=by rfl
theorem BN{z:Str}{h:HI}{n:Nat}{kvs:List (qA×Dt)}{d:Dt}(e:h[n]?=some (.dk kvs))(g:oB kvs (.inr z)=some d):wO (.ref n) (.str z,h)=some (d,h):=by simp only[wO,BD,Py,iE,e,g,Ny]
def yO(l:LI)(v o:Dt)(y:Dt×HI):Option Rs:=(BD y.1).bind fun k=>match o with
 | .ref n=>match y.2[n]? with
  | some (.dk kvs)=>if kvs.length<PySem.sizeLine then some (.nx l (y.2.set n (.dk (mF kvs k v))))else none
  | _=>none
 | _=>none
theorem YQ(fe fo fy:RE)(l:LI)(h:HI):NK fe fo fy l h=NA (fe l h) fun v=>NA (fo l v.2) fun o=>NA (fy l o.2) fun y=>yO l v.1 o.1 y:=by rfl
theorem uQ{l:LI}{v:Dt}{z:Str}{h:HI}{n:Nat}{kvs:List (qA×Dt)}(e:h[n]?=some (.dk kvs))(hl:kvs.length<=1000):yO l v (.ref n) (.str z,h)=some (.nx l (h.set n (.dk (mF kvs (.inr z) v)))):=by have:kvs.length<PySem.sizeLine:=Nat.lt_of_le_of_lt hl (by decide);simp only[yO,BD,Py,e,if_pos this]
def xO(fy:RE)(l:LI)(o:Dt×HI):Option (Dt×HI):=match o.1 with
 | .ref n=>match o.2[n]? with
  | some (.dk _)=>NA (fy l o.2) fun y=>(BD y.1).bind fun k=>match y.2[n]? with
   | some (.dk kvs)=>(oB kvs k).map fun d=>(d,y.2.set n (.dk (EF kvs k)))
   | _=>none
  | _=>none
 | _=>none
theorem vY(fo fy:RE)(l:LI)(h:HI):mO fo fy l h=NA (fo l h) fun o=>xO fy l o:=by rfl
theorem dX{fy:RE}{l:LI}{z:Str}{h:HI}{n:Nat}{kvs:List (qA×Dt)}{d:Dt}(e:h[n]?=some (.dk kvs))(ey:fy l h=some (.str z,h))(g:oB kvs (.inr z)=some d):xO fy l (.ref n,h)=some (d,h.set n (.dk (EF kvs (.inr z)))):=by simp only[xO,e,ey,iA,BD,Py,g,Ny]
theorem DR(x fl:Str)(c:Int)(g:RE)(l:LI)(h:HI):LH x fl c g l h=NA (g l h) fun r=>(kF c r.1).map fun i=>.rt (.thr x fl i) r.2:=by rfl
theorem HQ{z:Str}(hl:z.length<=1000)(hz:∀n∈z.cps.toList,n<1000):kF 114 (.str z)=some (.inr z):=by unfold kF;exact if_pos ⟨rfl,hl,hz⟩
theorem ZQ (x:Str) (g:RE) (l:LI) (h:HI):NI x g l h=NA (g l h) fun r=>some (.rt (.thr x "" (.inl 0)) r.2):=by unfold NI;cases g l h<;>rfl
noncomputable def ES(i:Nat)(l:LI)(r:Dt×HI):Option Rs:=some (match r.1 with
 | .thr x f y=>.rt (.thr x f y) r.2
 | d=>.nx (l.set i (some d)) r.2)
theorem zY(i:Nat)(f:RE)(l:LI)(h:HI):OK i f l h=NA (f l h) fun r=>ES i l r:=by unfold OK;cases f l h<;>rfl
noncomputable def IG(tab:List Str)(i j:Nat)(l:LI)(q:Dt×HI):Option Rs:=match q.1 with
 | .thr x f y=>if x∈tab then some (.nx ((l.set i (some (.err x f y))).set j none) q.2)else none
 | _=>some (.nx l q.2)
theorem AY(f:RE)(tab:List Str)(i j:Nat)(l:LI)(h:HI):PK f tab i j l h=NA (f l h) fun q=>IG tab i j l q:=by rfl
noncomputable def IR(r:Dt×HI):Option (Dt×HI):=match r.1 with
 | .thr _ _ _=>none
 | d=>some (d,r.2)
theorem lY(f:RE)(l:LI)(h:HI):wK f l h=NA (f l h) fun r=>IR r:=by rfl
theorem zQ(x m:Str)(F:jB)(fo:RE)(l:LI)(h:HI):qI x m F fo l h=JD x m F fo fA l h:=by rfl
theorem wY(f:RE)(l:LI)(h:HI):EK f l h=NA (f l h) fun r=>some (r.1,SD h r.2):=by unfold EK;cases f l h<;>rfl
noncomputable def zO(r:Dt×HI):Option (Src×HI):=match r.1 with
 | .ref n=>match r.2[n]? with
  | some (.dk kvs)=>some (.vals (kvs.map (·.2)),r.2.set n (.U9 kvs))
  | _=>none
 | _=>none
theorem nY(f:RE)(l:LI)(h:HI):jO f l h=NA (f l h) fun r=>zO r:=by rfl
theorem eX{h:HI}{n:Nat}{kvs:List (qA×Dt)}(e:h[n]?=some (.dk kvs)):zO (.ref n,h)=some (.vals (kvs.map (·.2)),h.set n (.U9 kvs)):=by simp only[zO,e]
theorem mW{h:HI}{n:Nat}{kvs:List (qA×Dt)}(e:h[n]?=some (.dk kvs)):vI (.ref n) h=some (.lst (kvs.map fun p=>kD p.1),h):=by simp only[vI,iE,e,Ny]
structure Wy where
 a:Str
 m:Int
 b:Str
inductive Fc where
 | ways (w:Wy)
 | long (a:Str) (lo hi:Int)
 | one (ws:List Wy)
noncomputable def VC (w:Wy):Dt:=.tup [.str "ways", .str w.a,.int w.m,.str w.b]
def JA:Fc->Dt
 | .ways w=>VC w
 | .long a lo hi=>.tup [.str "long", .str a,.int lo,.int hi]
 | .one ws=>.tup [.str "one", .lst (ws.map VC)]
noncomputable def XA:Fc->List Str
 | .ways w=>[w.a,w.b]
 | .long a _ _=>[a]
 | .one ws=>ws.flatMap fun w=>[w.a,w.b]
theorem qH(a b c d:Dt):g9 [a,b,c,d] 3=some d:=rfl
theorem iH(a b c d:Dt):g9 [a,b,c,d] 2=some c:=rfl
theorem fO:decide (("long" :Str) = "ways")=false:=by decide
theorem gO:decide (("one" :Str) = "ways")=false:=by decide
theorem rK:decide (("one" :Str) = "long")=false:=by decide
theorem TL(n:Nat):rE (n+1)=GB 1 3 (UF (rE n)):=rfl
theorem rP(n:Nat)(w:Wy)(h:HI):rE (n+1) [VC w] h=some (.ref h.length,h++[.lst [.str w.a,.str w.b]]):=by
 have s2:2<=sizeLine:=by decide
 rw[TL];simp only[UF,VC,iB,Fy,Gy,if_true,Hy,Jy,Nat.reduceAdd,Nat.reduceSub,List.replicate,Ry,Qy,WA,bB,LA,yA,jA,vA,Dy,Ey,kA,iA,nC,IC,HD,qH,Ny,VB,decide_true,GA,cB,zK,dB,YA,s2,gC,OA]
theorem FU(n:Nat)(a:Str)(lo hi:Int)(h:HI):rE (n+1) [JA (.long a lo hi)] h=some (.ref h.length,h++[.lst [.str a]]):=by
 have s1:1<=sizeLine:=by decide
 rw[TL];simp only[UF,JA,iB,Fy,Gy,if_true,Hy,Jy,Nat.reduceAdd,Nat.reduceSub,List.replicate,Ry,Qy,WA,bB,LA,yA,jA,vA,Dy,Ey,kA,iA,nC,IC,HD,Ny,VB,fO,decide_true,GA,cg,if_false,kB,QA,cB,zK,dB,YA,s1,gC,OA]
theorem SI{α:Type}{xs:List α}{k:Nat}{x:α}(h:xs[k]?=some x):xs.take (k+1)=xs.take k++[x]:=by rw[take_succ,h];rfl
theorem cE(h:HI)(x:Ob)(g:HI):(h++x::g)[h.length]?=some x:=by rw[Yy (Xy _),Nat.sub_self];rfl
theorem cK(h:HI)(x y:Ob)(g:HI):(h++x::g).set h.length y=h++y::g:=by rw[set_append_right _ _ (Xy _),Nat.sub_self];rfl
theorem UU(n:Nat){ws:List Wy}(hl:ws.length<=1000)(h:HI):∃g,rE (n+2) [JA (.one ws)] h=some (.ref h.length,h++.lst ((XA (.one ws)).map Dt.str)::g):=by
 obtain⟨l',h',e,y,g,rfl,rfl⟩:=eK (i:=2) (body:=VL (rE (n+1))) VC (fun k l h'=>∃y g,l=[some (JA (.one ws)),some (.ref h.length),y]/\h'=h++.lst (((ws.take k).flatMap fun w=>[w.a,w.b]).map Dt.str)::g) ws 0 (by
  rintro k w hw l h' ⟨y,g,rfl,rfl⟩;have kl:k<ws.length:=(Sy hw).1;have fl:∀xs:List Wy,(xs.flatMap fun w=>[w.a,w.b]).length=2*xs.length:=fun xs=>by
   induction xs with
   | nil=>rfl
   | cons x xs ih=>simp only[flatMap_cons,length_append,Fy,Gy,ih];omega
  have en:=rP n w (h++Ob.lst (((ws.take (0+k)).flatMap fun w=>[w.a,w.b]).map Dt.str)::g);generalize hx:((ws.take (0+k)).flatMap fun w=>[w.a,w.b]).map Dt.str=xs at en;have xl:xs.length=2*min k ws.length:=by rw[<- hx,length_map,fl,length_take,Nat.zero_add]
  have e1:(h++Ob.lst xs::g++[Ob.lst [.str w.a,.str w.b]])[h.length]?=some (.lst xs):=by rw[append_assoc];exact cE _ _ _
  have e2:(h++Ob.lst xs::g++[Ob.lst [.str w.a,.str w.b]])[(h++Ob.lst xs::g).length]?=some (.lst [.str w.a,.str w.b]):=cE _ _ _;have ek:=WW (fa:=BA (rE (n+1)) [] (bA (eV 2) fA)) (l:=[some (JA (.one ws)),some (.ref h.length),some (VC w)]) (cE h (Ob.lst xs) g) (by
   simp only[BB,dB,YA,jA,Dy,Ey,kA,iA,Zy,en]) e1 e2 (by
    rw[xl];simp[sizeLine];omega)
  have sm:(h++Ob.lst xs::g++[Ob.lst [.str w.a,.str w.b]]).set h.length (.lst (xs++[.str w.a,.str w.b]))=h++.lst (((ws.take (0+k+1)).flatMap fun w=>[w.a,w.b]).map Dt.str)::(g++[.lst [.str w.a,.str w.b]]):=by rw[append_assoc,Ry,cK,Nat.zero_add,SI hw,flatMap_append,map_append,<- hx,Nat.zero_add];rfl
  rw[sm]at ek;refine⟨.nx [some (JA (.one ws)),some (.ref h.length),some (VC w)] _,?_,some (VC w),g++[.lst [.str w.a,.str w.b]],rfl,rfl⟩;simp only[VL,gI,mY,jA,Ly,Ky,Dy,Ey,kA,iA,ek]) [some (JA (.one ws)),some (.ref h.length),none] (h++[.lst []]) ⟨none,[],rfl,by simp⟩
 rw[Nat.zero_add,take_length]at e;refine⟨g,?_⟩;rw[TL];simp only[UF,iB,Fy,Gy,if_true,Hy,Jy,Nat.reduceAdd,Nat.reduceSub,List.replicate,Ry,Qy,WA,bB,LA,yA,jA,vA,Dy,Ey,kA,iA,show JA (.one ws)=.tup [.str "one", .lst (ws.map VC)]from rfl,nC,IC,HD,Ny,VB,gO,rK,GA,cg,if_false,kB,QA,HC,zK,YA,Nat.zero_le,Ly,Ky,xF,iG,ZH,RF];rw[show Dt.tup [.str "one", .lst (ws.map VC)]=JA (.one ws)from rfl,e];simp only[iA,QA,cB,jA,Dy,Ey,kA,OA];rfl
noncomputable def yD(w:Wy):Bool:=!decide (w.a=w.b)&&(decide (0<=w.m)&&decide (w.m<=8191))
def bC:Fc->Bool
 | .ways w=>yD w
 | .long _ lo hi=>decide (0<=lo)&&(decide (lo<=hi)&&decide (hi<=1000000000000000000))
 | .one ws=>(decide (1<=ws.length)&&decide (ws.length<=6))&&ws.all yD
theorem UL(n:Nat):qE (n+1)=GB 1 1 (TF (qE n)):=rfl
theorem sP(n:Nat)(w:Wy)(h:HI):qE (n+1) [VC w] h=some (.bl (yD w),h):=by
 rw[UL];simp only[TF,VC,iB,Fy,Gy,if_true,Hy,Jy,Nat.reduceAdd,Nat.reduceSub,List.replicate,Ry,Qy,Zy,WA,bB,LA,yA,jA,vA,Dy,Ey,kA,iA,nC,IC,HD,iH,qH,Ny,VB,decide_true,GA,cB,ER,uH,RJ,VQ,WO,wR];unfold yD;by_cases a:w.a=w.b
 · simp[a]
 · by_cases b:0<=w.m
   · simp[a,b]
   · simp[a,b]
theorem VU(n:Nat){ws:List Wy}(hl:ws.length<=1000)(h:HI):qE (n+2) [JA (.one ws)] h=some (.bl (bC (.one ws)),h):=by
 have ca:=sF (te:=sJ (qE (n+1))) (i:=0) (tc:=rB) VC (fun w=>Dt.bl (yD w)) h ws [none] (by
  intro w _;refine⟨rfl,?_⟩;simp only[sJ,BB,dB,YA,jA,Ky,Dy,kA,iA,Zy,sP])
 have ck:=ZD (l:=[none]) (h:=h) (KA 0) rB (sJ (qE (n+1))) (xs:=ws.map VC) (by rw[length_map];simp[sizeLine];omega);rw[ca]at ck;have fa:=G2 (h:=h) (ws.map yD);rw[map_map]at fa;have Ww:FH (.lst (ws.map fun w=>Dt.bl (yD w))) h=some (.bl (ws.all yD),h):=by rw[show(ws.map fun w=>Dt.bl (yD w))=ws.map (Dt.bl ∘ yD)from rfl,fa,all_map];rfl
 rw[UL];simp only[TF,JA,iB,Fy,Gy,if_true,Hy,Jy,Nat.reduceAdd,Nat.reduceSub,List.replicate,Ry,Qy,Zy,WA,bB,LA,yA,jA,vA,Dy,Ey,kA,iA,nC,IC,HD,Ny,VB,gO,rK,GA,cg,if_false,kB,QA,cB,ER,VQ,DC,QE,length_map,WO,SM.wR];unfold bC;by_cases a:1<=ws.length
 · by_cases b:ws.length<=6
   · have a':decide ((1:Int)<=((ws.length:Nat):Int))=true:=decide_eq_true (by omega);have b':decide (((ws.length:Nat):Int)<=6)=true:=decide_eq_true (by omega);simp only[a',b',if_true,iA,RJ,DC,WE,iG,yA,jA,vA,Dy,Ey,kA,nC,HD,Ny,ZH,xE,uE,ck,Ww,OA,decide_eq_true a,decide_eq_true b,Bool.true_and]
   · have a':decide ((1:Int)<=((ws.length:Nat):Int))=true:=decide_eq_true (by omega);have b':decide (((ws.length:Nat):Int)<=6)=false:=decide_eq_false (by omega);simp only[a',b',if_true,iA,RJ,cg,if_false,OA,decide_eq_false b,Bool.and_false,Bool.false_and]
 · have a':decide ((1:Int)<=((ws.length:Nat):Int))=false:=decide_eq_false (by omega);simp only[a',iA,RJ,cg,if_false,OA,decide_eq_false a,Bool.false_and]
theorem hV (lo hi:Int) (h:HI):GJ [.int lo,.int hi] h=some (.bl (bC (.long "" lo hi)),h):=by
 have ch:∀(l:LI) (h:HI),l[0]?=some (some (.int lo))->l[1]?=some (some (.int hi))->jK xH xH xH (eC (.int 0)) (eV 0) (eV 1) (eC LJ) l h=some (.bl (bC (.long "" lo hi)),h):=fun l h e1 e2=>by
  unfold bC jK eC eV;rw[e1,e2];by_cases a:0<=lo
  · by_cases b:lo<=hi
    · simp[a,b]
    · simp[a,b]
  · simp[a]
 simp only[GJ,nM,iB,Fy,Gy,if_true,Hy,Jy,Nat.reduceAdd,Nat.reduceSub,List.replicate,Zy,cB];rw[ch _ _ rfl rfl];rfl
theorem GU(n:Nat)(a:Str)(lo hi:Int)(h:HI):qE (n+1) [JA (.long a lo hi)] h=some (.bl (bC (.long a lo hi)),h):=by
 have el:=fun h=>hV lo hi h
 rw[UL];simp only[TF,JA,iB,Fy,Gy,if_true,Hy,Jy,Nat.reduceAdd,Nat.reduceSub,List.replicate,Ry,Qy,Zy,WA,bB,LA,yA,jA,vA,Dy,Ey,kA,iA,nC,IC,HD,iH,qH,Ny,VB,fO,decide_true,GA,cg,if_false,kB,QA,cB,BB,dB,YA,el,gC,OA];rfl
noncomputable def gF (ix:Str->Nat) (w:Wy):Dt:=.tup [.str "ways", .int (ix w.a:Nat),.int w.m,.int (ix w.b:Nat)]
def xB(ix:Str->Nat):Fc->Dt
 | .ways w=>gF ix w
 | .long a lo hi=>.tup [.str "long", .int (ix a:Nat),.int lo,.int hi]
 | .one ws=>.tup [.str "one", .lst (ws.map (gF ix))]
theorem bN(n:Nat):sE (n+1)=GB 2 2 (MF (sE n)):=rfl
theorem xP(n:Nat){ix:Str->Nat}{kvs:List (qA×Dt)}{h:HI}{d:Nat}(e:h[d]?=some (.dk kvs)){w:Wy}(h1:oB kvs (.inr w.a)=some (.int (ix w.a:Nat)))(h2:oB kvs (.inr w.b)=some (.int (ix w.b:Nat))) :
 sE (n+1) [VC w,.ref d] h=some (gF ix w,h):=by
 have s4:4<=sizeLine:=by decide
 have g1:=BN e h1;have g2:=BN e h2;rw[bN];simp only[MF,VC,gF,iB,Fy,Gy,if_true,Hy,Jy,Nat.reduceAdd,Nat.reduceSub,List.replicate,Ry,Qy,Zy,WA,bB,LA,yA,jA,vA,Dy,Ey,kA,iA,nC,IC,HD,iH,qH,Ny,VB,decide_true,GA,cB,FD,dB,YA,WQ,g1,g2,s4,gC,OA]
theorem NU(n:Nat){ix:Str->Nat}{kvs:List (qA×Dt)}{h:HI}{d:Nat}(e:h[d]?=some (.dk kvs)){a:Str}(lo hi:Int)(h1:oB kvs (.inr a)=some (.int (ix a:Nat))) :
 sE (n+1) [JA (.long a lo hi),.ref d] h=some (xB ix (.long a lo hi),h):=by
 have s4:4<=sizeLine:=by decide
 have g1:=BN e h1;rw[bN];simp only[MF,JA,xB,iB,Fy,Gy,if_true,Hy,Jy,Nat.reduceAdd,Nat.reduceSub,List.replicate,Ry,Qy,Zy,WA,bB,LA,yA,jA,vA,Dy,Ey,kA,iA,nC,IC,HD,iH,qH,Ny,VB,fO,decide_true,GA,cg,if_false,kB,QA,cB,FD,dB,YA,WQ,g1,s4,gC,OA]
theorem cV(n:Nat){ix:Str->Nat}{kvs:List (qA×Dt)}{h:HI}{d:Nat}(e:h[d]?=some (.dk kvs)){ws:List Wy}(hl:ws.length<=1000)(hk:∀s∈XA (.one ws),oB kvs (.inr s)=some (.int (ix s:Nat))) :
 sE (n+2) [JA (.one ws),.ref d] h=some (xB ix (.one ws),h):=by
 have s2:2<=sizeLine:=by decide
 have ca:=sF (te:=yJ (sE (n+1))) (i:=0) (tc:=rB) VC (gF ix) h ws [none,some (.ref d)] (by
  intro w hw;refine⟨rfl,?_⟩;have en:=xP n e (ix:=ix) (w:=w) (hk _ (mem_flatMap.mpr ⟨w,hw,by simp⟩)) (hk _ (mem_flatMap.mpr ⟨w,hw,by simp⟩));simp only[yJ,BB,dB,YA,jA,Ky,Dy,Ey,kA,iA,Zy,en])
 have ck:=ZD (l:=[none,some (.ref d)]) (h:=h) (KA 0) rB (yJ (sE (n+1))) (xs:=ws.map VC) (by rw[length_map];simp[sizeLine];omega);rw[ca]at ck;rw[bN];simp only[MF,JA,xB,iB,Fy,Gy,if_true,Hy,Jy,Nat.reduceAdd,Nat.reduceSub,List.replicate,Ry,Qy,Zy,WA,bB,LA,yA,jA,vA,Dy,Ey,kA,iA,nC,IC,HD,Ny,VB,gO,rK,GA,cg,if_false,kB,QA,cB,FD,dB,YA,WE,iG,ZH,xE,ZF,uE,Option.join_some,ck,s2,OA]
theorem iO:decide (("ways" :Str) = "one")=false:=by decide
theorem NR:decide (("long" :Str) = "one")=false:=by decide
theorem MW(ix:Str->Nat)(f:Fc)(h:HI):SG [xB ix f] h=some (xB ix f,h):=by
 have s2:2<=sizeLine:=by decide
 cases f with
 | ways w=>simp only[SG,UH,xB,gF,iB,Fy,Gy,if_true,Hy,Jy,Nat.reduceAdd,Nat.reduceSub,List.replicate,Zy,cB,EO,LA,yA,jA,vA,Dy,kA,iA,nC,IC,Ny,VB,iO,GA,cg,if_false,OA]
 | long a lo hi=>simp only[SG,UH,xB,iB,Fy,Gy,if_true,Hy,Jy,Nat.reduceAdd,Nat.reduceSub,List.replicate,Zy,cB,EO,LA,yA,jA,vA,Dy,kA,iA,nC,IC,Ny,VB,NR,GA,cg,if_false,OA]
 | one ws=>
  have fl:DF (.lst (ws.map (gF ix))) h=some (.lst (ws.map (gF ix)),h):=by simp[DF,JE,VA]
  simp only[SG,UH,xB,iB,Fy,Gy,if_true,Hy,Jy,Nat.reduceAdd,Nat.reduceSub,List.replicate,Zy,cB,EO,LA,yA,jA,vA,Dy,Ey,kA,iA,nC,IC,HD,Ny,VB,decide_true,GA,FD,dB,YA,DC,fl,s2,OA]
theorem mX{h:HI}{k:Nat}{kvs:List (qA×Dt)}(e:h[k]?=some (.dk kvs)):SD h (h.set k (.U9 kvs))=h:=by
 apply ext_getElem?;intro n;rw[rN];have kl:=(Sy e).1;by_cases z:n=k
 · subst z;rw[e,getElem?_set_self kl]
 · rw[getElem?_set_ne (Ne.symm z)];cases h[n]? with
   | none=>rfl
   | some o=>cases o<;>rfl
structure j8(h:HI)(n d k:Nat)(nums kept:List (qA×Dt)):Prop where
 ob:h[n]?=some (.ins "Book" [("numbers", .ref d),("kept", .ref k)])
 nu:h[d]?=some (.dk nums)
 ke:h[k]?=some (.dk kept)
theorem SR {x y:Dt}:mC "numbers" [("numbers",x),("kept",y)]=some x:=by rfl
theorem wI {x y:Dt}:mC "kept" [("numbers",x),("kept",y)]=some y:=by rfl
theorem oR{h:HI}{n d k:Nat}{nums kept:List (qA×Dt)}(B:j8 h n d k nums kept){ix:Str->Nat}{fs:List Fc}(hf:kept.map (·.2)=fs.map (xB ix))(hl:fs.length<=1000):pF [.ref n] h=some (.lst (fs.map (xB ix)),h):=by
 have ca:=sF (te:=mJ) (i:=0) (tc:=rB) (xB ix) (xB ix) (h.set k (.U9 kept)) fs [none] (by
  intro f _;refine⟨rfl,?_⟩;simp only[mJ,BB,dB,YA,jA,Ky,Dy,kA,iA,Zy,MW])
 have ck:=ZD (l:=[none]) (h:=h.set k (.U9 kept)) (KA 0) rB mJ (xs:=fs.map (xB ix)) (by rw[length_map];simp[sizeLine];omega);rw[ca]at ck;have kv:=eX B.ke;rw[hf]at kv;have fk:=rF (x := "Book") (k := "kept") B.ob wI;simp only[pF,dM,iB,Fy,Gy,if_true,Hy,Jy,Nat.reduceAdd,Nat.reduceSub,List.replicate,Zy,cB,wY,WE,nY,dF,jA,Dy,kA,iA,fk,kv,xE,uE,ck,mX B.ke,OA]
theorem QW{h:HI}{n d k:Nat}{nums kept:List (qA×Dt)}(B:j8 h n d k nums kept){ls:List Str}(hf:kept.map (·.1)=ls.map Sum.inr):OG [.ref n] h=some (.lst (ls.map Dt.str),h):=by have fk:=rF (x := "Book") (k := "kept") B.ob wI;have fl:=mW B.ke;rw[show kept.map (fun p=>kD p.1)=(kept.map (·.1)).map kD by rw[map_map];rfl,hf,map_map,show ls.map (kD ∘ Sum.inr)=ls.map Dt.str from rfl]at fl;simp only[OG,WL,iB,Fy,Gy,if_true,Hy,Jy,Nat.reduceAdd,Nat.reduceSub,List.replicate,Zy,cB,DC,dF,jA,Dy,kA,iA,fk,fl,OA]
theorem dI{h:HI}{n:Nat}{o:Ob}(e:h[n]?=some o)(g:HI):(h++g)[n]?=some o:=by rw[Uy (Sy e).1];exact e
theorem j8.app{h:HI}{n d k:Nat}{nums kept:List (qA×Dt)}(B:j8 h n d k nums kept)(g:HI):j8 (h++g) n d k nums kept:=⟨dI B.ob g,dI B.nu g,dI B.ke g⟩
noncomputable def YC:Fc->Prop
 | .one ws=>ws.length<=1000
 | _=>True
theorem IX{f:Fc}(hs:YC f)(h:HI):∃g,rE 3 [JA f] h=some (.ref h.length,h++.lst ((XA f).map Dt.str)::g):=by
 cases f with
 | ways w=>exact⟨[],rP 2 w h⟩
 | long a lo hi=>exact⟨[],FU 2 a lo hi h⟩
 | one ws=>exact UU 1 hs h
theorem dZ{f:Fc}(hs:YC f)(h:HI):qE 3 [JA f] h=some (.bl (bC f),h):=by
 cases f with
 | ways w=>exact sP 2 w h
 | long a lo hi=>exact GU 2 a lo hi h
 | one ws=>exact VU 1 hs h
theorem Z1{f:Fc}(hs:YC f){ix:Str->Nat}{kvs:List (qA×Dt)}{h:HI}{d:Nat}(e:h[d]?=some (.dk kvs))(hk:∀s∈XA f,oB kvs (.inr s)=some (.int (ix s:Nat))):sE 3 [JA f,.ref d] h=some (xB ix f,h):=by
 cases f with
 | ways w=>exact xP 2 e (hk _ (by simp[XA])) (hk _ (by simp[XA]))
 | long a lo hi=>exact NU 2 e lo hi (hk _ (by simp[XA]))
 | one ws=>exact cV 1 e hs hk
noncomputable def t9(s:Str):Prop:=s.length<=1000/\∀n∈s.cps.toList,n<1000
theorem PU{h:HI}{n d k m:Nat}{nums kept:List (qA×Dt)}(B:j8 h n d k nums kept){xs:List Str}(hm:h[m]?=some (.lst (xs.map Dt.str)))(ok:∀s∈xs,t9 s)(x1:Option Dt) :
 ∃r,lF (KA 2) PH [some (.ref n),x1,none] (.rf m,h)=some r/\
  (((∀s∈xs,(oB nums (.inr s)).isSome=true)/\∃y,r=.nx [some (.ref n),x1,y] h)\/((∃s∈xs,oB nums (.inr s)=none)/\∃s,r=.rt (.thr "NoName" "word" (.inr s)) h)):=by
 have fk:=rF (x := "Book") (k := "numbers") B.ob SR;obtain⟨r,e,er⟩:=P2 (i:=2) (n:=m) (body:=PH) Dt.str (fun k l h'=>h'=h/\(∃y,l=[some (.ref n),x1,y])/\∀s∈xs.take k,(oB nums (.inr s)).isSome=true) (fun dd h'=>h'=h/\(∃s∈xs,oB nums (.inr s)=none)/\∃s,dd=.thr "NoName" "word" (.inr s)) xs (by
  rintro k l h' ⟨rfl,_⟩;exact hm) (by
  rintro k s hs l h' ⟨rfl,⟨y,rfl⟩,hk⟩;have ki:=QN (b:=false) (z:=s) B.nu;have sm:=mem_of_getElem? hs;cases q:(oB nums (.inr s)).isSome with
  | true=>
   rw[q]at ki;refine⟨.nx [some (.ref n),x1,some (.str s)] h',?_,rfl,⟨_,rfl⟩,fun s' hs'=>?_⟩
   · simp only[PH,bB,LA,yK,dF,jA,Ly,Ky,Dy,Ey,kA,iA,fk,ki,GA,Bool.true_eq_false,beq_eq_false_iff_ne,ne_eq,not_false_eq_true,if_false,kB];rfl
   · rw[SI hs]at hs';rcases mem_append.mp hs' with z | z
     · exact hk s' z
     · rw[mem_singleton.mp z];exact q
  | false=>
   rw[q]at ki;obtain⟨o1,o2⟩:=ok s sm;refine⟨.rt (.thr "NoName" "word" (.inr s)) h',?_,rfl,⟨s,sm,by simpa using q⟩,s,rfl⟩;have ev:=HQ o1 o2;simp only[PH,bB,LA,yK,dF,jA,Ly,Ky,Dy,Ey,kA,iA,fk,ki,beq_self_eq_true,GA,if_true,DR,ev,Ny]) [some (.ref n),x1,none] h ⟨rfl,⟨_,rfl⟩,by simp⟩
 refine⟨r,e,?_⟩;cases r with
 | nx l h'=>obtain⟨rfl,⟨y,rfl⟩,hk⟩:=er;exact .inl ⟨by simpa using hk,y,rfl⟩
 | rt dd h'=>obtain⟨rfl,hn,s,rfl⟩:=er;exact .inr ⟨hn,s,rfl⟩
 | bk l h'=>exact er.elim
 | ct l h'=>exact er.elim
theorem A2{h:HI}{n d k:Nat}{nums kept:List (qA×Dt)}(B:j8 h n d k nums kept){f:Fc}(hs:YC f)(ok:∀s∈XA f,t9 s){ix:Str->Nat}(hix:∀s v,oB nums (.inr s)=some v->v=.int (ix s:Nat)) :
 ∃g dd,OF [.ref n,JA f] h=some (dd,h++g)/\
  (((∃s∈XA f,oB nums (.inr s)=none)/\∃s,dd=.thr "NoName" "word" (.inr s))\/((∀s∈XA f,(oB nums (.inr s)).isSome=true)/\bC f=false/\dd=.thr "BadFact" "" (.inl 0))\/((∀s∈XA f,(oB nums (.inr s)).isSome=true)/\bC f=true/\dd=xB ix f)):=by
 obtain⟨g,en⟩:=IX hs h;obtain⟨h1,hh1⟩:∃h1:HI,h1=h++.lst ((XA f).map Dt.str)::g:=⟨_,rfl⟩
 rw[<- hh1]at en;have B1:j8 h1 n d k nums kept:=hh1 ▸ B.app _;have hm:h1[h.length]?=some (.lst ((XA f).map Dt.str)):=by rw[hh1];exact cE _ _ _
 obtain⟨r,e,er⟩:=PU B1 hm ok (some (JA f));have es:=dZ hs h1;have fk:=rF (x := "Book") (k := "numbers") B1.ob SR;have sk:=kQ hm;generalize hX:OF [.ref n,JA f] h=X;simp only[OF,YL,iB,Fy,Gy,if_true,Hy,Jy,Nat.reduceAdd,Nat.reduceSub,List.replicate,Ry,Qy,WA,xF,iG,BB,dB,YA,jA,Dy,Ey,kA,iA,Zy,en,sk,e]at hX;rcases er with⟨hk,y,rfl⟩ | ⟨hn,s,rfl⟩
 · simp only[QA,WA,bB,wD,LA,BB,dB,YA,jA,Dy,Ey,kA,iA,Zy,es,GA]at hX;cases q:bC f with
   | false=>rw[q]at hX;simp only[Bool.not_false,if_true,ZQ,vA,iA,gC,OA]at hX;exact⟨_,_,by rw[<- hX,hh1],.inr (.inl ⟨hk,rfl,rfl⟩)⟩
   | true=>
    rw[q]at hX;have eb:=Z1 hs (ix:=ix) B1.nu (fun s hs'=>by
     cases c:oB nums (.inr s)with
     | none=>have:=hk s hs';rw[c]at this;cases this
     | some v=>rw[hix s v c])
    simp only[Bool.not_true,cg,if_false,kB,iA,QA,cB,BB,dB,YA,jA,dF,Dy,Ey,kA,Zy,fk,eb,OA]at hX;exact⟨_,_,by rw[<- hX,hh1],.inr (.inr ⟨hk,rfl,rfl⟩)⟩
 · simp only[gC,OA]at hX;exact⟨_,_,by rw[<- hX,hh1],.inl ⟨hn,s,rfl⟩⟩
noncomputable def FA:Fc->Bool
 | .one _=>true
 | _=>false
def kL(ix:Str->Nat):Fc->Dt
 | .one ws=>.lst (ws.map (gF ix))
 | _=>.non
theorem OW(ix:Str->Nat){fs:List Fc}(hl:fs.length<=1000)(h:HI):FJ [.lst (fs.map (xB ix))] h=some (.lst ((fs.filter FA).map (kL ix)),h):=by
 have ca:=VJ (te:=AJ) (i:=0) (tc:=QG) (xB ix) FA (kL ix) h fs [none] (by
  intro f _;cases f with
  | ways w=>refine⟨?_,fun z=>by cases z⟩;simp only[QG,xB,gF,LA,yA,jA,vA,Ky,Dy,kA,iA,nC,IC,Ny,VB,iO,GA,FA]
  | long a lo hi=>refine⟨?_,fun z=>by cases z⟩;simp only[QG,xB,LA,yA,jA,vA,Ky,Dy,kA,iA,nC,IC,Ny,VB,NR,GA,FA]
  | one ws=>
   refine⟨?_,fun _=>?_⟩
   · simp only[QG,xB,LA,yA,jA,vA,Ky,Dy,kA,iA,nC,IC,Ny,VB,decide_true,GA,FA]
   · simp only[AJ,xB,kL,yA,jA,vA,Ky,Dy,Ey,kA,iA,nC,HD,Ny])
 have ck:=ZD (l:=[none]) (h:=h) (KA 0) QG AJ (xs:=fs.map (xB ix)) (by rw[length_map];simp[sizeLine];omega);rw[ca]at ck;simp only[FJ,mM,iB,Fy,Gy,if_true,Hy,Jy,Nat.reduceAdd,Nat.reduceSub,List.replicate,Zy,cB,WE,iG,jA,Dy,kA,iA,ZH,xE,uE,ck,OA]
def MD(fs:List Fc)(f:Fc):Bool:=decide (fs.length<60)&&((FA f).not || decide ((fs.filter FA).length<6))
noncomputable def GK:Fc->Str
 | .ways _ => "ways"
 | .long _ _ _ => "long"
 | .one _ => "one"
theorem uZ(ix:Str->Nat)(f:Fc)(h:HI):wA (xB ix f) (.int 0) h=some (.str (GK f),h):=by cases f<;>rfl
theorem LQ (f:Fc):(!decide (GK f = "one"))=(FA f).not:=by
 cases f with
 | ways w=>show(!decide (("ways" :Str) = "one"))=!false;decide
 | long a lo hi=>show(!decide (("long" :Str) = "one"))=!false;decide
 | one ws=>show(!decide (("one" :Str) = "one"))=!true;decide
theorem MZ(ix:Str->Nat){fs:List Fc}(hl:fs.length<=1000)(f:Fc)(h:HI):SH [.lst (fs.map (xB ix)),xB ix f] h=some (.bl (MD fs f),h):=by
 have eg:=fun h=>OW ix hl h
 have hh:=fun h=>uZ ix f h
 generalize hX:SH [.lst (fs.map (xB ix)),xB ix f] h=X;simp only[SH,aN,iB,Fy,Gy,if_true,Hy,Jy,Nat.reduceAdd,Nat.reduceSub,List.replicate,Zy,WA,bB,LA,yA,DC,jA,vA,Dy,Ey,kA,iA,QE,length_map,eT,GA]at hX;unfold MD;by_cases a:fs.length<60
 · have d:decide ((60:Int)<=((fs.length:Nat):Int))=false:=decide_eq_false (by omega);rw[d]at hX;simp only[cg,if_false,kB,iA,QA,cB,w6,yA,jA,vA,Dy,Ey,kA,hh,uH,LQ,D1]at hX;rw[<- hX,decide_eq_true a,Bool.true_and];cases FA f with
   | false=>simp
   | true=>
    have e2:decide ((((fs.filter FA).length:Nat):Int)<6)=decide ((fs.filter FA).length<6):=by apply decide_eq_decide.mpr;omega
    simp only[Bool.not_true,cg,if_false,yA,DC,BB,dB,YA,jA,vA,Dy,kA,iA,Zy,eg,QE,length_map,JF,e2,OA,Bool.false_or]
 · have d:decide ((60:Int)<=((fs.length:Nat):Int))=true:=decide_eq_true (by omega);rw[d]at hX;simp only[if_true,cB,vA,iA,gC,OA]at hX;rw[<- hX,decide_eq_false a,Bool.false_and]
theorem TZ {x y:Dt}:mC "let_in" [("numbers",x),("kept",y)]=none:=by rfl
theorem IQ {x y:Dt}:mC "facts" [("numbers",x),("kept",y)]=none:=by rfl
noncomputable def KR:Dt->Bool
 | .thr _ _ _=>false
 | _=>true
theorem cW(ix:Str->Nat)(f:Fc):KR (xB ix f)=true:=by cases f<;>rfl
theorem W2{i:Nat}{l:LI}{d:Dt}{h:HI}(n:KR d=true):ES i l (d,h)=some (.nx (l.set i (some d)) h):=by
 cases d with
 | thr a b c=>cases n
 | _=>rfl
inductive oG(nums kept:List (qA×Dt))(ix:Str->Nat)(fs:List Fc)(z8:Str)(f:Fc):Dt->Option (List (qA×Dt))->Prop
 | twice:(oB kept (.inr z8)).isSome=true->oG nums kept ix fs z8 f (.thr "Twice" "word" (.inr z8)) none
 | name {s:Str}:oB kept (.inr z8)=none->(∃s∈XA f,oB nums (.inr s)=none)->oG nums kept ix fs z8 f (.thr "NoName" "word" (.inr s)) none
 | bad:oB kept (.inr z8)=none->(∀s∈XA f,(oB nums (.inr s)).isSome=true)->bC f=false->oG nums kept ix fs z8 f (.thr "BadFact" "" (.inl 0)) none
 | many:oB kept (.inr z8)=none->(∀s∈XA f,(oB nums (.inr s)).isSome=true)->bC f=true->MD fs f=false->oG nums kept ix fs z8 f (.thr "TooMany" "" (.inl 0)) none
 | good:oB kept (.inr z8)=none->(∀s∈XA f,(oB nums (.inr s)).isSome=true)->bC f=true->MD fs f=true->oG nums kept ix fs z8 f .non (some (mF kept (.inr z8) (xB ix f)))
theorem C2{h:HI}{n d k:Nat}{nums kept:List (qA×Dt)}(B:j8 h n d k nums kept)(lk:kept.length<=1000){z8:Str}(ol:t9 z8){f:Fc}(hs:YC f)(ok:∀s∈XA f,t9 s){ix:Str->Nat}(hix:∀s v,oB nums (.inr s)=some v->v=.int (ix s:Nat)){fs:List Fc}(hf:kept.map (·.2)=fs.map (xB ix)) :
 ∃g dd kk,tF [.ref n,.str z8,JA f] h=some (dd,match kk with | none=>h++g | some z=>(h++g).set k (.dk z))/\oG nums kept ix fs z8 f dd kk:=by
 have fl:fs.length<=1000:=by have:=congrArg List.length hf;rw[length_map,length_map]at this;omega
 have fk:=rF (x := "Book") (k := "kept") B.ob wI;have ki:=QN (b:=true) (z:=z8) B.ke;generalize hX:tF [.ref n,.str z8,JA f] h=X;simp only[tF,XM,iB,Fy,Gy,if_true,Hy,Jy,Nat.reduceAdd,Nat.reduceSub,List.replicate,Ry,Qy,WA,bB,LA,yK,dF,jA,Dy,Ey,kA,iA,fk,ki,GA]at hX;cases q:oB kept (.inr z8)with
 | some v=>rw[q]at hX;have ev:=HQ ol.1 ol.2;simp only[Option.isSome_some,beq_self_eq_true,if_true,DR,jA,Dy,Ey,kA,iA,ev,Ny,gC,OA]at hX;exact⟨[],_,none,by rw[<- hX,Zy],.twice (by rw[q];rfl)⟩
 | none=>
  rw[q]at hX;obtain⟨g,dd,el,cs⟩:=A2 B hs ok hix;have me:=VG (x := "Book") (m := "let_in") (F:=OF) (ga:=bA (eV 2) fA) (l:=[some (.ref n),some (.str z8),some (JA f),none]) B.ob TZ;have e0:((none:Option Dt).isSome==true)=false:=rfl;simp only[e0,cg,if_false,kB,iA,QA,WA,zY,iI,jA,Dy,Ey,kA,me,dB,YA,el]at hX;rcases cs with⟨c1,s,rfl⟩ | ⟨c1,c2,rfl⟩ | ⟨c1,c2,rfl⟩
  · simp only[ES,iA,gC,OA]at hX;exact⟨g,_,none,hX.symm,.name q c1⟩
  · simp only[ES,iA,gC,OA]at hX;exact⟨g,_,none,hX.symm,.bad q c1 c2⟩
  · have B1:=B.app g;have Xw:=rF (x := "Book") (k := "kept") B1.ob wI;have ef:=oR B1 hf fl;have er:=fun h=>MZ ix fl f h
    have m2:=VG (x := "Book") (m := "facts") (F:=pF) (ga:=fA) (l:=[some (.ref n),some (.str z8),some (JA f),some (xB ix f)]) B1.ob IQ;simp only[W2 (cW ix f),iA,Ly,Ky,QA,WA,bB,wD,LA,BB,dB,YA,zQ,iI,jA,Dy,Ey,kA,m2,ef,Zy,er,GA]at hX;cases c3:MD fs f with
    | false=>rw[c3]at hX;simp only[Bool.not_false,if_true,ZQ,vA,iA,gC,OA]at hX;exact⟨g,_,none,hX.symm,.many q c1 c2 c3⟩
    | true=>rw[c3]at hX;have ks:=uQ (l:=[some (.ref n),some (.str z8),some (JA f),some (xB ix f)]) (v:=xB ix f) (z:=z8) B1.ke lk;simp only[Bool.not_true,cg,if_false,kB,iA,QA,YQ,dF,jA,Dy,Ey,kA,Xw,ks]at hX;exact⟨g,_,some _,hX.symm,.good q c1 c2 c3⟩
theorem NZ{h:HI}{n d k:Nat}{nums kept:List (qA×Dt)}(B:j8 h n d k nums kept){z8:Str}{v:Dt}(e:oB kept (.inr z8)=some v):oF [.ref n,.str z8] h=some (.non,h.set k (.dk (EF kept (.inr z8)))):=by have fk:=rF (x := "Book") (k := "kept") B.ob wI;have ki:=QN (b:=false) (z:=z8) B.ke;rw[e]at ki;have kp:=dX (fy:=eV 1) (l:=[some (.ref n),some (.str z8)]) B.ke rfl e;have e0:((some v).isSome==false)=false:=rfl;simp only[oF,lM,iB,Fy,Gy,if_true,Hy,Jy,Nat.reduceAdd,Nat.reduceSub,List.replicate,Zy,WA,bB,LA,yK,dF,jA,Dy,Ey,kA,iA,fk,ki,e0,GA,cg,if_false,kB,QA,gI,vY,kp];rfl
def eF:RS:=gA (QB (b8 (e2 FG (eV 3) (eC .non))) (xA (eC (.str "good"))) SA) (gA (EA 5 (uC (bA (sC W8 (eV 3)) (bA (sC P8 (eV 3)) (bA (sC D8 (eV 3)) fA))))) (gA (EA 5 (e2 wC (eV 5) (uC (bA (sC G8 (eV 3)) (bA (sC F8 (eV 3)) (bA (sC E8 (eV 3)) fA)))))) (gA (QB (DD (b8 (e2 IB (kK (eV 5) (eC (.bl true))) (eC (.int 1)))) (cD (b8 (sC n8 (eV 3))))) (xA (eC (.str "odd"))) SA) (xA (e2 wA (uC (bA (eC (.str "twice")) (bA (eC (.str "name")) (bA (eC (.str "bad")) (bA (eC (.str "many")) (bA (eC (.str "odd")) (bA (eC (.str "odd")) fA))))))) (aD (eV 5) (eC (.bl true))))))))
theorem G4:YM=gA (EA 3 (eC .non)) (gA (PK (JD "Book" "put" tF (eV 0) (bA (eV 1) (bA (eV 2) fA))) vL 3 4) eF):=rfl
variable(a b c:Option Dt)(i:Sum Int Str)(f:Str)(h:HI)
theorem n6(tab:List (Str×Bool))(g:RE)(l:LI)(h:HI):sC tab g l h=NA (g l h) fun r=>(match r.1 with | .err y _ _=>(tab.lookup y).map fun b=>(Dt.bl b,r.2) | _=>none):=by rfl
theorem MK{x:Str}{t1 t2 t3 t4 t5 t6:Bool}(h1:W8.lookup x=some t1)(h2:P8.lookup x=some t2)(h3:D8.lookup x=some t3)(h4:G8.lookup x=some t4)(h5:F8.lookup x=some t5)(h6:E8.lookup x=some t6)(h7:n8.lookup x=some true)
 {w:Dt} (hc:([t1,t2,t3,t4,t5,t6].countP (· ==true))=1) {p:Int} (hi:∀h:HI,aD (eV 5) (eC (.bl true)) [a,b,c,some (.err x f i),none,some (.lst ([t1,t2,t3,t4,t5,t6].map Dt.bl))] h=some (.int p,h)) (hw:g9 [Dt.str "twice", .str "name", .str "bad", .str "many", .str "odd", .str "odd"] p=some w) :
 eF [a,b,c,some (.err x f i),none,none] h=some (.rt w h):=by
 have s3:3<=sizeLine:=by decide
 have s6:6<=sizeLine:=by decide
 have ct:=yX (l:=[a,b,c,some (.err x f i),none,some (.lst ([t1,t2,t3,t4,t5,t6].map Dt.bl))]) (h:=h) (fb:=eC (.bl true)) (bs:=[t1,t2,t3,t4,t5,t6]) (b:=true) rfl;rw[hc]at ct;have ne:FG (.err x f i) .non h=some (.bl false,h):=rfl;have cat:wC (.lst [.bl t1,.bl t2,.bl t3]) (.lst [.bl t4,.bl t5,.bl t6]) h=some (.lst ([t1,t2,t3,t4,t5,t6].map Dt.bl),h):=by simp[wC,VA,s6]
 have n1:IB (.int ((1:Nat):Int)) (.int 1) h=some (.bl false,h):=by rfl
 simp only[eF,WA,bB,LA,yA,jA,vA,Dy,Ey,kA,iA,ne,GA,cg,if_false,kB,QA,HC,CI,dB,YA,n6,h1,h2,h3,h4,h5,h6,h7,Ny,Fy,Gy,Nat.reduceAdd,s3,if_true,Ly,Ky,cat,DE,wD,jY,ct,n1,Bool.not_true,cB,s6,hi,jG,hw]
section
variable(a b c:Option Dt)(i:Sum Int Str)(f:Str)(h:HI)
theorem IK(p:Nat)(bs:List Bool)(e:qG (bs.map Dt.bl) (.bl true)=true)(e2:AD (bs.map Dt.bl) (.bl true)=some p)(x3:Option Dt)(h:HI):aD (eV 5) (eC (.bl true)) [a,b,c,x3,none,some (.lst (bs.map Dt.bl))] h=some (.int (p:Nat),h):=by unfold aD eV eC;simp[VA,e,e2]
theorem LV:eF [a,b,c,some (.err "Twice" f i),none,none] h=some (.rt (.str "twice") h):=
 MK a b c i f h (t1:=true) (t2:=false) (t3:=false) (t4:=false) (t5:=false) (t6:=false) (by decide +kernel) (by decide +kernel) (by decide +kernel) (by decide +kernel) (by decide +kernel) (by decide +kernel) (by decide +kernel) rfl (fun h=>IK a b c 0 _ (by decide +kernel) (by rfl) _ h) rfl
theorem QV:eF [a,b,c,some (.err "NoName" f i),none,none] h=some (.rt (.str "name") h):=
 MK a b c i f h (t1:=false) (t2:=true) (t3:=false) (t4:=false) (t5:=false) (t6:=false) (by decide +kernel) (by decide +kernel) (by decide +kernel) (by decide +kernel) (by decide +kernel) (by decide +kernel) (by decide +kernel) rfl (fun h=>IK a b c 1 _ (by decide +kernel) (by rfl) _ h) rfl
theorem pY:eF [a,b,c,some (.err "BadFact" f i),none,none] h=some (.rt (.str "bad") h):=
 MK a b c i f h (t1:=false) (t2:=false) (t3:=true) (t4:=false) (t5:=false) (t6:=false) (by decide +kernel) (by decide +kernel) (by decide +kernel) (by decide +kernel) (by decide +kernel) (by decide +kernel) (by decide +kernel) rfl (fun h=>IK a b c 2 _ (by decide +kernel) (by rfl) _ h) rfl
theorem PV:eF [a,b,c,some (.err "TooMany" f i),none,none] h=some (.rt (.str "many") h):=
 MK a b c i f h (t1:=false) (t2:=false) (t3:=false) (t4:=true) (t5:=false) (t6:=false) (by decide +kernel) (by decide +kernel) (by decide +kernel) (by decide +kernel) (by decide +kernel) (by decide +kernel) (by decide +kernel) rfl (fun h=>IK a b c 3 _ (by decide +kernel) (by rfl) _ h) rfl
end
theorem UZ {x y:Dt}:mC "put" [("numbers",x),("kept",y)]=none:=by rfl
theorem OV (a b c:Option Dt) (h:HI):eF [a,b,c,some .non,none,none] h=some (.rt (.str "good") h):=by have ne:FG .non .non h=some (.bl true,h):=rfl;simp only[eF,WA,bB,LA,yA,jA,vA,Dy,Ey,kA,iA,ne,GA,if_true,cB,gC]
theorem ZZ:(("Twice" :Str)∈vL)/\(("NoName" :Str)∈vL)/\(("BadFact" :Str)∈vL)/\(("TooMany" :Str)∈vL):=by decide +kernel
noncomputable def D3:Dt->Str
 | .thr x _ _=>if x = "Twice" then "twice" else if x = "NoName" then "name" else if x = "BadFact" then "bad" else "many"
 | _ => "good"
theorem W1{h:HI}{n d k:Nat}{nums kept:List (qA×Dt)}(B:j8 h n d k nums kept)(lk:kept.length<=1000){z8:Str}(ol:t9 z8){f:Fc}(hs:YC f)(ok:∀s∈XA f,t9 s){ix:Str->Nat}(hix:∀s v,oB nums (.inr s)=some v->v=.int (ix s:Nat)){fs:List Fc}(hf:kept.map (·.2)=fs.map (xB ix)) :
 ∃g dd kk,aE [.ref n,.str z8,JA f] h=some (.str (D3 dd),match kk with | none=>h++g | some z=>(h++g).set k (.dk z))/\oG nums kept ix fs z8 f dd kk:=by
 obtain⟨g,dd,kk,e,P⟩:=C2 B lk ol hs ok hix hf;obtain⟨i1,i2,i3,i4⟩:=ZZ;have me:=VG (x := "Book") (m := "put") (F:=tF) (ga:=bA (eV 1) (bA (eV 2) fA)) (l:=[some (.ref n),some (.str z8),some (JA f),some .non,none,none]) B.ob UZ;refine⟨g,dd,kk,?_,P⟩;rw[aE,G4];simp only[iB,Fy,Gy,if_true,Hy,Jy,Nat.reduceAdd,Nat.reduceSub,List.replicate,Ry,Qy,WA,HC,vA,iA,Ly,Ky,QA,AY,iI,jA,Dy,Ey,kA,me,dB,YA,e];cases P with
 | twice _=>simp only[IG,if_pos i1,iA,Ly,Ky,QA,LV,OA];rfl
 | name _ _=>simp only[IG,if_pos i2,iA,Ly,Ky,QA,QV,OA];rfl
 | bad _ _ _=>simp only[IG,if_pos i3,iA,Ly,Ky,QA,pY,OA];rfl
 | many _ _ _ _=>simp only[IG,if_pos i4,iA,Ly,Ky,QA,PV,OA];rfl
 | good _ _ _ _=>simp only[IG,iA,QA,OV,OA];rfl
theorem aT(x y:Str)(h:HI):IB (.str x) (.str y) h=some (.bl (!decide (x=y)),h):=by simp[IB,yS,VD,MH,L2.KN]
theorem gZ(i:Int)(h:HI):vJ [.int i] h=some (.bl true,h):=by simp[vJ,SL]
theorem dO(ns:List Int)(k:Nat)(h:HI):YD [.lst (ns.map Dt.int),.int (k:Int)] h=some (.int (ns[k]?.getD 0),h):=by
 simp[YD,AL];by_cases hk:k<ns.length
 · simp[hk]
 · simp[hk]
theorem J5{h:HI}{d:Dt}{xs:List Dt}(e:VA h d=some xs)(i:Int):wA d (.int i) h=(L2.g9 xs i).map fun d=>(d,h):=by
 cases d with
 | lst ys=>cases e;rfl
 | ref n=>
  simp only[VA]at e;split at e
  · rename_i zs q;cases e;exact DO q i
  · cases e
 | _=>cases e
theorem sK{h:HI}{d:Dt}{xs:List Dt}(e:VA h d=some xs):mB d h=some (.int xs.length,h):=by
 cases d with
 | lst ys=>cases e;rfl
 | ref n=>
  simp only[VA]at e;split at e
  · rename_i zs q;cases e;exact tK q
  · cases e
 | _=>cases e
theorem JK{h:HI}{d0:Dt}{xs:List Dt}{d:Dt}(e:VA h d0=some xs){k:Nat}(hk:xs[k]?=some d):wA d0 (.int (k:Nat)) h=some (d,h):=by rw[J5 e,SM.ED,hk];rfl
theorem cR {h:HI} {d:Dt} {xs:List Dt} (e:VA h d=some xs):UD h d=some "list" :=by
 cases d with
 | lst ys=>rfl
 | ref n=>
  simp only[VA]at e;split at e
  · rename_i zs q;simp only[UD,q]
  · cases e
 | _=>cases e
theorem yI{T t:String}{f:RE}{l:LI}{h:HI}{d:Dt}(e:f l h=some (d,h))(ht:UD h d=some t):AC T f l h=some (.bl (lL t T),h):=by simp only[AC,e,Py,ht,Ny]
theorem fZ{nm:List Str}(hl:nm.length<=1000){h:HI}{d0 d1:Dt}(e0:VA h d0=some (nm.map Dt.str))(e1:VA h d1=some (nm.map Dt.str)):uJ [d0,d1] h=some (.bl true,h):=by
 have i0:=yI (T := "list") (f:=eV 0) (l:=[some d0,some d1,none]) (h:=h) (d:=d0) rfl (cR e0);have i0:AC "list" (eV 0) [some d0,some d1,none] h=some (.bl true,h):=i0;have l0:=sK e0;have l1:=sK e1;rw[length_map]at l0 l1;obtain⟨l',h',w,⟨y,rfl⟩,rfl⟩:=UJ (i:=2) (body:=DL) (fun(k:Nat)=>Dt.int (k:Int)) (fun l h'=>(∃y,l=[some d0,some d1,y])/\h'=h) (List.range nm.length) (by
  rintro k hk l h' ⟨⟨y,rfl⟩,rfl⟩;have hk:=mem_range.mp hk;refine⟨.nx [some d0,some d1,some (.int (k:Nat))] h',?_,⟨_,rfl⟩,rfl⟩;have g0:wA d0 (.int (k:Nat)) h'=some (.str nm[k],h'):=JK e0 (by rw[getElem?_map,getElem?_eq_getElem hk];rfl);have g1:wA d1 (.int (k:Nat)) h'=some (.str nm[k],h'):=JK e1 (by rw[getElem?_map,getElem?_eq_getElem hk];rfl);have is:=yI (T := "str") (f:=e2 wA (eV 0) (eV 2)) (l:=[some d0,some d1,some (.int (k:Nat))]) (h:=h') (d:=.str nm[k]) (by simp only[yA,jA,Dy,Ey,kA,iA,g0]) rfl;have is:AC "str" (e2 wA (eV 0) (eV 2)) [some d0,some d1,some (.int (k:Nat))] h'=some (.bl true,h'):=is;simp only[DL,bB,DE,wD,LA,Ly,Ky,is,iA,GA,Bool.not_true,cg,if_false,yA,jA,Dy,Ey,kA,g0,g1,aT,decide_true,kB]) [some d0,some d1,none] h ⟨⟨_,rfl⟩,rfl⟩
 simp only[uJ,RL,iB,Fy,Gy,if_true,Hy (f:=some),Jy (f:=some),Nat.reduceAdd,Nat.reduceSub,List.replicate,Ry,Qy,WA,bB,DE,wD,LA,i0,iA,GA,Bool.not_true,cg,if_false,yA,DC,jA,Dy,Ey,kA,l0,l1,KH,decide_true,kB,QA,xF,lG,UE hl,RF,w,cB,vA,OA]
theorem rR(n:Nat):oE (n+1)=GB 2 3 (LG (oE n)):=rfl
theorem IU{R:jB}{s:Str}{a b c:Int}{h:HI}:∃y,pC (KA 2) (rJ R) ((List.range 3).map fun(k:Nat)=>Dt.int (1+(k:Int))) [some (.tup [.str s,.int a,.int b,.int c]),some (.tup [.str s,.int a,.int b,.int c]),none] h=some (.nx [some (.tup [.str s,.int a,.int b,.int c]),some (.tup [.str s,.int a,.int b,.int c]),y] h):=by
 obtain⟨l',h',w,⟨y,rfl⟩,rfl⟩:=UJ (i:=2) (body:=rJ R) (fun(k:Nat)=>Dt.int (1+(k:Int))) (fun l h'=>(∃y,l=[some (.tup [.str s,.int a,.int b,.int c]),some (.tup [.str s,.int a,.int b,.int c]),y])/\h'=h) (List.range 3) (by
  rintro k hk l h' ⟨⟨y,rfl⟩,rfl⟩;have hk:=mem_range.mp hk;refine⟨.nx [some (.tup [.str s,.int a,.int b,.int c]),some (.tup [.str s,.int a,.int b,.int c]),some (.int (1+(k:Int)))] h',?_,⟨_,rfl⟩,rfl⟩;obtain⟨v,g⟩:∃v,wA (.tup [.str s,.int a,.int b,.int c]) (.int (1+(k:Int))) h'=some (.int v,h'):=by
   rcases(show k=0\/k=1\/k=2 by omega)with rfl | rfl | rfl
   · exact⟨a,rfl⟩
   · exact⟨b,rfl⟩
   · exact⟨c,rfl⟩
  simp only[rJ,bB,DE,wD,LA,BB,dB,YA,Ly,Ky,yA,jA,Dy,Ey,kA,iA,g,Zy,gZ,GA,Bool.not_true,cg,if_false,KH,decide_true,kB]) _ h ⟨⟨none,rfl⟩,rfl⟩
 exact⟨y,w⟩
theorem O6(h:HI):gT (.int 1) (.int 4,h)=some (.vals ((List.range 3).map fun(k:Nat)=>Dt.int (1+(k:Int))),h):=P0 (by decide) (by decide) (by decide) (by decide)
theorem pM (n:Nat) {s:Str} {a b c:Int} (hs:s ≠ "one") (h:HI):oE (n+1) [.tup [.str s,.int a,.int b,.int c],.tup [.str s,.int a,.int b,.int c]] h=some (.bl true,h):=by obtain⟨y,w⟩:=IU (R:=oE n) (s:=s) (a:=a) (b:=b) (c:=c) (h:=h);have i0:AC "tuple" (eV 0) [some (.tup [.str s,.int a,.int b,.int c]),some (.tup [.str s,.int a,.int b,.int c]),none] h=some (.bl true,h):=rfl;have g0:wA (.tup [.str s,.int a,.int b,.int c]) (.int 0) h=some (.str s,h):=rfl;have i1:AC "str" (e2 wA (eV 0) (eC (.int 0))) [some (.tup [.str s,.int a,.int b,.int c]),some (.tup [.str s,.int a,.int b,.int c]),none] h=some (.bl true,h):=yI (d:=.str s) (by simp only[yA,jA,vA,Dy,kA,iA,g0]) rfl;have ns:decide (s=Str.ofString "one")=false:=decide_eq_false hs;rw[rR];simp only[LG,iB,Fy,Gy,if_true,Hy (f:=some),Jy (f:=some),Nat.reduceAdd,Nat.reduceSub,List.replicate,Ry,Qy,WA,bB,DE,wD,LA,i0,iA,GA,Bool.not_true,cg,if_false,yA,DC,jA,vA,Dy,Ey,kA,SZ,KH,decide_true,i1,g0,aT,kB,QA,VB,ns,xF,l6,O6,RF,w,cB,OA]
theorem tP{α:Type}{R:jB}{h:HI}{d0 d1:Dt}(xs:List α)(D E:α->Dt)(e0:VA h d0=some (xs.map D))(e1:VA h d1=some (xs.map E))(hl:xs.length<=1000)(H:∀x∈xs,R [D x,E x] h=some (.bl true,h)):NG R [d0,d1] h=some (.bl true,h):=by
 have i0:AC "list" (eV 0) [some d0,some d1,none] h=some (.bl true,h):=yI (T := "list") (f:=eV 0) (l:=[some d0,some d1,none]) (h:=h) (d:=d0) rfl (cR e0);have l0:=sK e0;have l1:=sK e1;rw[length_map]at l0 l1;obtain⟨l',h',w,⟨y,rfl⟩,rfl⟩:=UJ (i:=2) (body:=yL R) (fun(k:Nat)=>Dt.int (k:Int)) (fun l h'=>(∃y,l=[some d0,some d1,y])/\h'=h) (List.range xs.length) (by
  rintro k hk l h' ⟨⟨y,rfl⟩,rfl⟩;have hk:=mem_range.mp hk;refine⟨.nx [some d0,some d1,some (.int (k:Nat))] h',?_,⟨_,rfl⟩,rfl⟩;have g0:wA d0 (.int (k:Nat)) h'=some (D xs[k],h'):=JK e0 (by rw[getElem?_map,getElem?_eq_getElem hk];rfl);have g1:wA d1 (.int (k:Nat)) h'=some (E xs[k],h'):=JK e1 (by rw[getElem?_map,getElem?_eq_getElem hk];rfl);have r:=H xs[k] (getElem_mem hk);simp only[yL,bB,wD,LA,BB,dB,YA,Ly,Ky,yA,jA,Dy,Ey,kA,iA,g0,g1,Zy,r,GA,Bool.not_true,cg,if_false,kB]) [some d0,some d1,none] h ⟨⟨_,rfl⟩,rfl⟩
 simp only[NG,zL,iB,Fy,Gy,if_true,Hy (f:=some),Jy (f:=some),Nat.reduceAdd,Nat.reduceSub,List.replicate,Ry,Qy,WA,bB,DE,wD,LA,i0,iA,GA,Bool.not_true,cg,if_false,yA,DC,jA,Dy,Ey,kA,l0,l1,KH,decide_true,kB,QA,xF,lG,UE hl,RF,w,cB,vA,OA]
theorem WJ(n:Int){k:Nat}(hk:k<=1000)(h:HI):∃M:Nat,M<998244353/\iD [.int n,.int (k:Nat)] h=some (.int (M:Nat),h):=by
 have m1:=fun(h:HI)=>wB (h:=h) (i:=n) (j:=1000000007) (by decide)
 have u1:=fun(h:HI)=>cF (h:=h) (i:=7) (j:=(k:Int)) (Or.inl ⟨by decide,by decide⟩)
 have u2:=fun(h:HI)=>cF (h:=h) (i:=n%1000000007+7*(k:Int)+1) (j:=48271) (Or.inr ⟨by decide,by decide⟩)
 have m2:=fun(h:HI)=>wB (h:=h) (i:=(n%1000000007+7*(k:Int)+1)*48271) (j:=2147483647) (by decide)
 generalize hO:(n%1000000007+7*(k:Int)+1)*48271%2147483647=O at m2;have O0:0<=O:=by rw[<- hO];exact Int.emod_nonneg _ (by decide)
 have O1:O<2147483647:=by rw[<- hO];exact Int.emod_lt_of_pos _ (by decide)
 have m3:=fun(h:HI)=>wB (h:=h) (i:=O) (j:=1009) (by decide)
 have u3:=fun(h:HI)=>cF (h:=h) (i:=O) (j:=O%1009+(k:Int)+3) (Or.inl ⟨by omega,by omega⟩)
 have m4:=fun(h:HI)=>wB (h:=h) (i:=O*(O%1009+(k:Int)+3)) (j:=998244353) (by decide)
 obtain⟨M,hM⟩:=Int.eq_ofNat_of_zero_le (Int.emod_nonneg (O*(O%1009+(k:Int)+3)) (show(998244353:Int)≠0 by decide));have M1:=Int.emod_lt_of_pos (O*(O%1009+(k:Int)+3)) (show(0:Int)<998244353 by decide);rw[hM]at m4 M1;refine⟨M,by omega,?_⟩;simp only[iD,PL,iB,Fy,Gy,if_true,Hy,Jy,Nat.reduceAdd,Nat.reduceSub,List.replicate,Ry,Qy,WA,HC,yA,jA,vA,Dy,Ey,kA,iA,m1,u1,LD,u2,m2,Ly,Ky,QA,cB,m3,u3,m4,OA]
theorem P1(ns:List Int):∃ms:List Int,SM.hE (ns.map Dt.int) (some 3) (some 63)=ms.map Dt.int/\ms.length<=60:=by unfold SM.hE;rw[<- map_drop,<- map_take];refine⟨_,rfl,?_⟩;rw[length_take,length_map];have h1:HT.E9 ns.length ns.length (some 63)=min 63 ns.length:=HT.dj ns.length ns.length 63;have h2:HT.E9 ns.length 0 (some 3)=min 3 ns.length:=HT.dj ns.length 0 3;rw[h1,h2];omega
theorem yV{α:Type}{te:RE}{i n:Nat}(D F:α->Dt)(xs:List α)(l:LI)(h:HI)(e:h[n]?=some (.lst (xs.map D)))(hx:xs.length<sizeLine)(H:∀x∈xs,te (l.set i (some (D x))) h=some (F x,h)) :
 ZE (KA i) rB te l (.rf n,h)=some (xs.map F,h):=by
 have go:∀(m k:Nat)(l':LI),(∀d,l'.set i d=l.set i d)->m=xs.length-k+1->k<=xs.length->ID (KA i) rB te (.rf n) m k l' h ((xs.take k).map F)=some (xs.map F,h):=by
  intro m
  induction m with
  | zero=>intro k l' _ e;omega
  | succ m ih=>
   intro k l' hl' hm hk;unfold ID;simp only[Src.at,e,getElem?_map];by_cases hlt:k<xs.length
   · rw[getElem?_eq_getElem hlt];have hx':=H xs[k] (getElem_mem hlt);have ln:((xs.take k).map F).length<sizeLine:=by rw[length_map,length_take];omega
     simp only[Ny,DI,Py,aR,if_true,hl',hx',if_pos ln];have:=ih (k+1) (l.set i (some (D xs[k]))) (fun d=>by rw[set_set]) (by omega) (by omega);rw[take_add_one,getElem?_eq_getElem hlt,map_append]at this;exact this
   · rw[getElem?_eq_none (by omega)];have:k=xs.length:=by omega
     subst this;simp only[Option.map_none,take_length]
 have hf:Src.fuel (.rf n) h=xs.length-0+1:=by simp only[Src.fuel,e,length_map];omega
 unfold ZE;have:=go (xs.length-0+1) 0 l (fun _=>rfl) rfl (Nat.zero_le _);simp only[hf];exact this
theorem uY(l:LI)(h:HI):DK l h=some (.ref h.length,h++[.dk []]):=by rfl
theorem tQ(p:qA×Dt)(kvs:List (qA×Dt))(k:qA):oB (p::kvs) k=if p.1=k then some p.2 else oB kvs k:=by
 by_cases c:p.1=k
 · simp[oB,find?_cons,c]
 · simp[oB,find?_cons,c]
theorem T8{k:qA}:∀{kvs:List (qA×Dt)},oB kvs k=none↔k∉kvs.map (·.1)
 | []=>by simp[oB]
 | p::kvs=>by
  have ih:=T8 (k:=k) (kvs:=kvs);rw[tQ];by_cases c:p.1=k
  · simp[c]
  · have c':¬k=p.1:=fun z=>c z.symm
    rw[if_neg c,ih,Hy,mem_cons];simp[c']
theorem AN{kvs:List (qA×Dt)}{k:qA}(d:Dt)(e:oB kvs k=none):mF kvs k d=kvs++[(k,d)]:=by have e:=T8.mp e;unfold mF;rw[if_neg];intro h;obtain⟨p,hp,q⟩:=any_eq_true.mp h;exact e (mem_map.mpr ⟨p,hp,of_decide_eq_true q⟩)
noncomputable def PB:Nat->List Str->List (qA×Dt)
 | _,[]=>[]
 | k,s::ss=>(.inr s,.int (k:Nat))::PB (k+1) ss
theorem IJ:∀(k:Nat)(nm:List Str),(PB k nm).map (·.1)=nm.map Sum.inr
 | _,[]=>rfl
 | k,s::ss=>by simp only[PB,Hy,IJ (k+1) ss]
theorem TX(k:Nat)(nm:List Str):(PB k nm).length=nm.length:=by have:=congrArg List.length (IJ k nm);simpa using this
theorem vQ:∀(k:Nat)(nm:List Str)(s:Str),PB k (nm++[s])=PB k nm++[(.inr s,.int ((k+nm.length:Nat):Int))]
 | _,[],_=>rfl
 | k,x::nm,s=>by simp only[Ry,PB,vQ (k+1) nm s,Fy];rw[show k+1+nm.length=k+(nm.length+1) by omega]
theorem lN{k:Nat}{nm:List Str}{s:Str}(e:s∉nm):oB (PB k nm) (.inr s)=none:=by
 rw[T8,IJ];intro m;obtain⟨x,hx,q⟩:=mem_map.mp m;injection q with q
 exact e (q ▸ hx)
noncomputable def B9(nm:List Str)(s:Str):Nat:=nm.idxOf s
theorem ZN{s:Str}:∀(k:Nat){nm:List Str},s∈nm->oB (PB k nm) (.inr s)=some (.int ((k+B9 nm s:Nat):Int))
 | k,[],m=>by cases m
 | k,x::nm,m=>by
  unfold B9;rw[PB,tQ,idxOf_cons];by_cases e:x=s
  · subst e;simp
  · have m':s∈nm:=by
     rcases mem_cons.mp m with z | z
     · exact absurd z.symm e
     · exact z
    have ih:=ZN (k+1) m';unfold B9 at ih;have e1:¬(Sum.inr x:qA)=.inr s:=fun z=>e (by injection z)
    have e2:(x==s)=false:=by simpa using e
    rw[if_neg e1,ih,e2];simp only[cond_false];rw[show k+1+nm.idxOf s=k+(nm.idxOf s+1) by omega]
theorem GZ{nm:List Str}(s:Str)(v:Dt)(e:oB (PB 0 nm) (.inr s)=some v):v=.int (B9 nm s:Nat):=by
 by_cases m:s∈nm
 · rw[ZN 0 m,Nat.zero_add]at e;exact(Option.some.inj e).symm
 · rw[lN m]at e;cases e
theorem Cj{nm:List Str}{s:Str}:(oB (PB 0 nm) (.inr s)).isSome=true↔s∈nm:=by
 by_cases m:s∈nm
 · rw[ZN 0 m];simp[m]
 · rw[lN m];simp[m]
theorem SO(h:HI)(x y:Ob)(g:HI):(h++x::y::g)[h.length+1]?=some y:=by rw[Yy (by omega),show h.length+1-h.length=1 by omega];rfl
theorem U4(h:HI)(x y z:Ob)(g:HI):(h++x::y::g).set (h.length+1) z=h++x::z::g:=by rw[set_append_right _ _ (by omega),show h.length+1-h.length=1 by omega];rfl
theorem eR{α:Type}{i j:Nat}{body:RS}(D:α->Dt)(S:Nat->LI->HI->Prop):∀(xs:List α)(k0:Nat)(_:∀(k:Nat) x,xs[k]?=some x->∀l h,S (k0+k) l h->∃l' h',body ((l.set i (some (.int ((k0+k:Nat):Int)))).set j (some (D x))) h=some (.nx l' h')/\S (k0+k+1) l' h')(l:LI)(h:HI),S k0 l h->
 ∃l' h',pC (pG i j) body (BE k0 (xs.map D)) l h=some (.nx l' h')/\S (k0+xs.length) l' h'
 | [],k0,_,l,h,s=>⟨l,h,rfl,s⟩
 | x::xs,k0,H,l,h,s=>by
  obtain⟨l2,h2,e,p⟩:=H 0 x rfl l h s;have H':∀(k:Nat) y,xs[k]?=some y->∀l h,S (k0+1+k) l h->∃l' h',body ((l.set i (some (.int ((k0+1+k:Nat):Int)))).set j (some (D y))) h=some (.nx l' h')/\S (k0+1+k+1) l' h':=by intro k y hy l h s;have:=H (k+1) y (by simpa using hy) l h (by rw[show k0+(k+1)=k0+1+k by omega];exact s);rw[show k0+(k+1)+1=k0+1+k+1 by omega,show k0+(k+1)=k0+1+k by omega]at this;exact this
  obtain⟨l',h',e',i'⟩:=eR D S xs (k0+1) H' l2 h2 p;refine⟨l',h',?_,by rw[Fy,show k0+(xs.length+1)=k0+1+xs.length by omega];exact i'⟩;rw[Nat.add_zero]at e;simp only[Hy,BE,pC,XQ,Py,e,V2];exact e'
theorem YN{nm:List Str}(nd:nm.Nodup){i j:Nat}(hi:i<nm.length)(hj:j<nm.length)(e:nm[i]=nm[j]):i=j:=by
 have p:=pairwise_iff_getElem.mp nd;rcases Nat.lt_trichotomy i j with c | c | c
 · exact absurd e (p i j hi hj c)
 · exact c
 · exact absurd e.symm (p j i hj hi c)
theorem U1 {nm:List Str} (hl:nm.length<=1000) (nd:nm.Nodup) (h:HI):MG [.ref h.length,.lst (nm.map Dt.str)] (h++[.ins "Book" []])=some (.non,h++[.ins "Book" [("numbers", .ref (h.length+1)),("kept", .ref (h.length+2))],.dk (PB 0 nm),.dk []]):=by
 obtain⟨l',h',e,⟨y,z,rfl⟩,rfl⟩:=eR (i:=2) (j:=3) (body:=IL) Dt.str (fun k l h'=>(∃y z,l=[some (.ref h.length),some (.lst (nm.map Dt.str)),y,z])/\h'=h++[.ins "Book" [("numbers", .ref (h.length+1))],.dk (PB 0 (nm.take k))]) nm 0 (by
  rintro k s hs l h' ⟨⟨y,z,rfl⟩,rfl⟩;rw[Nat.zero_add];have kl:=(Sy hs).1;have ns:s∉nm.take k:=by intro m;obtain⟨a,ha,ea⟩:=mem_iff_getElem.mp m;rw[length_take]at ha;rw[getElem_take]at ea;obtain⟨_,es⟩:=Sy hs;have:=YN nd (by omega) kl (ea.trans es.symm);omega
  have fk:=rF (x := "Book") (k := "numbers") (cE h (.ins "Book" [("numbers", .ref (h.length+1))]) [.dk (PB 0 (nm.take k))]) (d:=.ref (h.length+1)) rfl;have ks:=uQ (l:=[some (.ref h.length),some (.lst (nm.map Dt.str)),some (.int (k:Nat)),some (.str s)]) (v:=.int (k:Nat)) (z:=s) (SO h (.ins "Book" [("numbers", .ref (h.length+1))]) (.dk (PB 0 (nm.take k))) []) (by rw[TX,length_take];omega);rw[AN _ (lN ns),U4]at ks;have nx:PB 0 (nm.take (k+1))=PB 0 (nm.take k)++[(.inr s,.int (k:Nat))]:=by rw[SI hs,vQ,length_take,Nat.zero_add,Nat.min_eq_left (Nat.le_of_lt kl)]
  refine⟨_,_,?_,⟨some (.int (k:Nat)),some (.str s),rfl⟩,rfl⟩;rw[nx];simp only[IL,YQ,dF,jA,Ly,Ky,Dy,Ey,kA,iA,fk,ks]) [some (.ref h.length),some (.lst (nm.map Dt.str)),none,none] (h++[.ins "Book" [("numbers", .ref (h.length+1))],.dk []]) ⟨⟨none,none,rfl⟩,rfl⟩
 rw[Nat.zero_add,take_length]at e;have l1:(h++[Ob.ins "Book" []]).length=h.length+1:=by simp
 have s1:=eQ (k := "numbers") (v:=.ref (h.length+1)) (l:=[some (.ref h.length),some (.lst (nm.map Dt.str)),none,none]) (cE h (.ins "Book" []) [.dk []]) (by decide);rw[cK,show mE "numbers" (Dt.ref (h.length+1)) []=[(("numbers" :Str),Dt.ref (h.length+1))]from rfl]at s1;have l2:(h++[Ob.ins "Book" [("numbers", .ref (h.length+1))],.dk (PB 0 nm)]).length=h.length+2:=by simp
 have s2:=eQ (k := "kept") (v:=.ref (h.length+2)) (l:=[some (.ref h.length),some (.lst (nm.map Dt.str)),y,z]) (cE h (.ins "Book" [("numbers", .ref (h.length+1))]) [.dk (PB 0 nm),.dk []]) (by show 1<1000;decide);rw[cK,show mE "kept" (Dt.ref (h.length+2)) [(("numbers" :Str),Dt.ref (h.length+1))]=[(("numbers" :Str),Dt.ref (h.length+1)),("kept",Dt.ref (h.length+2))]from rfl]at s2;simp only[MG,FL,iB,Fy,Gy,if_true,Hy (f:=some),Jy (f:=some),Nat.reduceAdd,Nat.reduceSub,List.replicate,Ry,Qy,WA,O2,uY,iA,jA,Dy,Ey,kA,l1,append_assoc,s1,QA,xF,xY,nV,RF,e,l2,s2,sZ]
theorem kO{nm:List Str}(nd:nm.Nodup){s:Str}(m:s∈nm){fo fa:RE}{l:LI}{h:HI}(e1:fo l h=some (.lst (nm.map Dt.str),h))(e3:fa l h=some (.str s,h)):aD fo fa l h=some (.int ((B9 nm s:Nat):Int),h):=by have hi:nm.idxOf s<nm.length:=idxOf_lt_length_of_mem m;show aD fo fa l h=some (.int ((nm.idxOf s:Nat):Int),h);exact vZ e1 rfl nd hi (by rw[getElem_idxOf hi];exact e3)
theorem oM(n:Nat):nE (n+1)=GB 2 2 (PF (nE n)):=rfl
theorem yP(n:Nat){nm:List Str}(nd:nm.Nodup){w:Wy}(ha:w.a∈nm)(hb:w.b∈nm)(h:HI):nE (n+1) [.lst (nm.map Dt.str),VC w] h=some (gF (B9 nm) w,h):=by
 have s4:4<=sizeLine:=by decide
 have i1:∀h:HI,aD (eV 0) (e2 wA (eV 1) (eC (.int 1))) [some (.lst (nm.map Dt.str)),some (.tup [.str "ways", .str w.a,.int w.m,.str w.b])] h=some (.int ((B9 nm w.a:Nat):Int),h):=fun h=>kO nd ha rfl rfl
 have i3:∀h:HI,aD (eV 0) (e2 wA (eV 1) (eC (.int 3))) [some (.lst (nm.map Dt.str)),some (.tup [.str "ways", .str w.a,.int w.m,.str w.b])] h=some (.int ((B9 nm w.b:Nat):Int),h):=fun h=>kO nd hb rfl rfl
 have wl:decide (("ways" :Str) = "long")=false:=by decide
 rw[oM];simp only[PF,VC,gF,iB,Fy,Gy,if_true,Hy (f:=some),Jy (f:=some),Nat.reduceAdd,Nat.reduceSub,List.replicate,Ry,Qy,Zy,WA,bB,LA,yA,jA,vA,Dy,Ey,kA,iA,nC,IC,iH,Ny,VB,wl,iO,GA,cg,if_false,kB,QA,cB,FD,dB,YA,i1,i3,s4,OA]
theorem TU(n:Nat){nm:List Str}(nd:nm.Nodup){a:Str}(ha:a∈nm)(lo hi:Int)(h:HI):nE (n+1) [.lst (nm.map Dt.str),JA (.long a lo hi)] h=some (xB (B9 nm) (.long a lo hi),h):=by
 have s4:4<=sizeLine:=by decide
 have i1:∀h:HI,aD (eV 0) (e2 wA (eV 1) (eC (.int 1))) [some (.lst (nm.map Dt.str)),some (.tup [.str "long", .str a,.int lo,.int hi])] h=some (.int ((B9 nm a:Nat):Int),h):=fun h=>kO nd ha rfl rfl
 rw[oM];simp only[PF,JA,xB,iB,Fy,Gy,if_true,Hy (f:=some),Jy (f:=some),Nat.reduceAdd,Nat.reduceSub,List.replicate,Ry,Qy,Zy,WA,bB,LA,yA,jA,vA,Dy,Ey,kA,iA,nC,IC,iH,qH,Ny,VB,decide_true,GA,cB,FD,dB,YA,i1,s4,gC,OA]
theorem OU(n:Nat){nm:List Str}(nd:nm.Nodup){ws:List Wy}(hl:ws.length<=1000)(hn:∀s∈XA (.one ws),s∈nm)(h:HI):nE (n+2) [.lst (nm.map Dt.str),JA (.one ws)] h=some (xB (B9 nm) (.one ws),h):=by
 have s2:2<=sizeLine:=by decide
 have ca:=sF (te:=qJ (nE (n+1))) (i:=0) (tc:=rB) VC (gF (B9 nm)) h ws [none,some (.lst (nm.map Dt.str))] (by
  intro w hw;refine⟨rfl,?_⟩;have en:=yP n nd (w:=w) (hn _ (mem_flatMap.mpr ⟨w,hw,by simp⟩)) (hn _ (mem_flatMap.mpr ⟨w,hw,by simp⟩)) h;simp only[qJ,BB,dB,YA,jA,Ky,Dy,Ey,kA,iA,Zy,en])
 have ck:=ZD (l:=[none,some (.lst (nm.map Dt.str))]) (h:=h) (KA 0) rB (qJ (nE (n+1))) (xs:=ws.map VC) (by rw[length_map];simp[sizeLine];omega);rw[ca]at ck;rw[oM];simp only[PF,JA,xB,iB,Fy,Gy,if_true,Hy (f:=some),Jy (f:=some),Nat.reduceAdd,Nat.reduceSub,List.replicate,Ry,Qy,Zy,WA,bB,LA,yA,jA,vA,Dy,Ey,kA,iA,nC,IC,HD,Ny,VB,rK,decide_true,GA,cg,if_false,kB,QA,cB,FD,dB,YA,WE,iG,ZH,xE,ZF,uE,Option.join_some,ck,s2,gC,OA]
theorem V1{nm:List Str}(nd:nm.Nodup){f:Fc}(hs:YC f)(hn:∀s∈XA f,s∈nm)(h:HI):nE 3 [.lst (nm.map Dt.str),JA f] h=some (xB (B9 nm) f,h):=by
 cases f with
 | ways w=>exact yP 2 nd (hn _ (by simp[XA])) (hn _ (by simp[XA])) h
 | long a lo hi=>exact TU 2 nd (hn _ (by simp[XA])) lo hi h
 | one ws=>exact OU 1 nd hs hn h
theorem BU(n:Nat)(ix:Str->Nat){ws:List Wy}(hl:ws.length<=1000)(h:HI):oE (n+2) [xB ix (.one ws),xB ix (.one ws)] h=some (.bl true,h):=by
 have r:=tP (R:=oE (n+1)) (d0:=.lst (ws.map (gF ix))) (d1:=.lst (ws.map (gF ix))) (h:=h) ws (gF ix) (gF ix) rfl rfl hl fun w _=>pM n (by decide) h
 have i0:AC "tuple" (eV 0) [some (xB ix (.one ws)),some (xB ix (.one ws)),none] h=some (.bl true,h):=rfl;have g0:wA (xB ix (.one ws)) (.int 0) h=some (.str "one",h):=rfl;have g2:wA (xB ix (.one ws)) (.int 1) h=some (.lst (ws.map (gF ix)),h):=rfl;have f0:mB (xB ix (.one ws)) h=some (.int 2,h):=rfl;have i1:AC "str" (e2 wA (eV 0) (eC (.int 0))) [some (xB ix (.one ws)),some (xB ix (.one ws)),none] h=some (.bl true,h):=yI (d:=.str "one") (by simp only[yA,jA,vA,Dy,kA,iA,g0]) rfl;rw[rR];simp only[LG,iB,Fy,Gy,if_true,Hy (f:=some),Jy (f:=some),Nat.reduceAdd,Nat.reduceSub,List.replicate,Ry,Qy,Zy,WA,bB,DE,wD,LA,i0,iA,GA,Bool.not_true,cg,if_false,yA,DC,jA,vA,Dy,Ey,kA,f0,KH,decide_true,i1,g0,g2,aT,kB,QA,VB,cB,BB,dB,YA,r,gC,OA]
theorem IW(ix:Str->Nat){f:Fc}(hs:YC f)(h:HI):oE 3 [xB ix f,xB ix f] h=some (.bl true,h):=by
 cases f with
 | ways w=>exact pM 2 (by decide) h
 | long a lo hi=>exact pM 2 (by decide) h
 | one ws=>exact BU 1 ix hs h
theorem nW {x y:Dt}:mC "labels" [("numbers",x),("kept",y)]=none:=by rfl
theorem eZ{h:HI}{n d k:Nat}{nums kept:List (qA×Dt)}(B:j8 h n d k nums kept){nm:List Str}(nd:nm.Nodup){ls:List Str}{fs:List Fc}(hk:kept.map (·.1)=ls.map Sum.inr)(hf:kept.map (·.2)=fs.map (xB (B9 nm)))(hl:fs.length<=1000)(hs:∀f∈fs,YC f)(hn:∀f∈fs,∀s∈XA f,s∈nm){d2 d3:Dt}(e2':VA h d2=some (ls.map Dt.str))(e3':VA h d3=some (fs.map JA)) :
 NF [.ref n,.lst (nm.map Dt.str),d2,d3] h=some (.bl true,h):=by
 have ll:ls.length<=1000:=by have a:=congrArg List.length hk;have b:=congrArg List.length hf;simp only[length_map]at a b;omega
 have et:=fZ ll (d0:=.lst (ls.map Dt.str)) (d1:=d2) rfl e2';have el:=QW B hk;have ef:=oR B hf hl;have ml:=VG (x := "Book") (m := "labels") (F:=OG) (ga:=fA) (l:=[some (.ref n),some (.lst (nm.map Dt.str)),some d2,some d3]) B.ob nW;have mf:=VG (x := "Book") (m := "facts") (F:=pF) (ga:=fA) (l:=[some (.ref n),some (.lst (nm.map Dt.str)),some d2,some d3]) B.ob IQ;have ea:=tP (R:=oE 3) (d0:=.lst (fs.map (xB (B9 nm)))) (d1:=.lst (fs.map (xB (B9 nm)))) (h:=h) fs (xB (B9 nm)) (xB (B9 nm)) rfl rfl hl fun f m=>IW _ (hs f m) h
 have te:∀f∈fs,xJ ([none,some (.lst (nm.map Dt.str))].set 0 (some (JA f))) h=some (xB (B9 nm) f,h):=fun f m=>by have:=V1 nd (hs f m) (hn f m) h;simp only[xJ,BB,dB,YA,jA,Ky,Dy,Ey,kA,iA,Zy,this]
 have ck:∃s,HG (d3,h)=some (s,h)/\ZE (KA 0) rB xJ [none,some (.lst (nm.map Dt.str))] (s,h)=some (fs.map (xB (B9 nm)),h):=by
  cases d3 with
  | lst ys=>refine⟨.vals ys,rfl,?_⟩;cases e3';rw[ZD _ _ _ (by rw[length_map];simp[sizeLine];omega)];exact sF (tc:=rB) JA (xB (B9 nm)) h fs _ fun f m=>⟨rfl,te f m⟩
  | ref a=>
   simp only[VA]at e3';split at e3'
   · rename_i zs q;cases e3';exact⟨.rf a,kQ q,yV JA (xB (B9 nm)) fs _ h q (by simp[sizeLine];omega) te⟩
   · cases e3'
  | _=>cases e3'
 obtain⟨s,k1,k2⟩:=ck;simp only[NF,QL,iB,Fy,Gy,if_true,Hy (f:=some),Jy (f:=some),Nat.reduceAdd,Nat.reduceSub,List.replicate,Zy,WA,bB,wD,LA,BB,dB,YA,zQ,iI,jA,Dy,Ey,kA,iA,ml,mf,el,ef,et,GA,Bool.not_true,cg,if_false,kB,QA,cB,WE,iG,k1,xE,ZF,uE,Option.join_some,k2,ea,OA]
noncomputable def vC(k:Nat):Str:=⟨#[97+k/8%26,97+k%8]⟩
theorem HX(k:Nat)(h:HI):tJ [.int (k:Nat)] h=some (.str (vC k),h):=by
 have d8:=fun(h:HI)=>uD (h:=h) (i:=(k:Int)) (j:=8) ⟨by decide,by decide⟩
 have Pq:=fun(h:HI)=>wB (h:=h) (i:=(k:Int)/8) (j:=26) (by decide)
 have Sw:(k:Int)/8%26=((k/8%26:Nat):Int):=rfl;rw[Sw]at Pq;have m8:=fun(h:HI)=>wB (h:=h) (i:=(k:Int)) (j:=8) (by decide)
 have e8:(k:Int)%8=((k%8:Nat):Int):=rfl;rw[e8]at m8;have a1:=fun(h:HI)=>gH (i:=k/8%26) (Nat.mod_lt _ (by decide)) h
 have a2:=fun(h:HI)=>gH (i:=k%8) (by omega) h
 have c:=fun(h:HI)=>HZ (h:=h) (x:=⟨#[97+k/8%26]⟩) (y:=⟨#[97+k%8]⟩) (by show 1+1<=_;decide)
 have e:(⟨#[97+k/8%26]⟩:Str)++⟨#[97+k%8]⟩=vC k:=bR (by rw[IN];rfl);rw[e]at c;simp only[tJ,OL,iB,Fy,Gy,if_true,Hy,Jy,Nat.reduceAdd,Nat.reduceSub,List.replicate,Ry,Qy,WA,HC,vA,iA,Ly,Ky,QA,cB,yA,jA,Dy,Ey,kA,d8,Pq,a1,m8,a2,c,OA]
theorem SN(k:Nat):(vC k).cps.toList=[97+k/8%26,97+k%8]:=rfl
theorem PQ{k k':Nat}(hk:k<60)(hk':k'<60)(e:vC k=vC k'):k=k':=by have e:=congrArg (fun s:Str=>s.cps.toList) e;simp only[SN,List.cons.injEq]at e;omega
theorem J0 (k:Nat):vC k ≠ "zz" :=by intro e;have e:=congrArg (fun s:Str=>s.cps.toList) e;rw[SN,show(Str.ofString "zz").cps.toList=[122,122] by decide]at e;simp only[List.cons.injEq]at e;omega
theorem WR(k:Nat):t9 (vC k):=by refine⟨by show 2<=1000;decide,fun n m=>?_⟩;rw[SN]at m;simp only[mem_cons,not_mem_nil,or_false]at m;omega
theorem ZR:t9 "zz" :=by unfold t9;decide
theorem JP:t9 "strange" :=by unfold t9;decide
theorem GW{c k:Nat}(hk:k<8):t9 (bD c k):=by refine⟨by rw[ZV];have:=(FW c k).2;omega,fun n m=>?_⟩;rw[HJ]at m;have:=FY hk m;omega
theorem zU {c k:Nat} (hk:k<8):bD c k ≠ "strange" :=by
 intro e;have e:=congrArg (fun s:Str=>s.cps.toList) e;rw[HJ,show(Str.ofString "strange").cps.toList=[115,116,114,97,110,103,101] by decide]at e;unfold UB at e;by_cases q:c/5%4=1
 · rw[if_pos q]at e;have:=congrArg List.length e;simp at this
 · rw[if_neg q]at e;obtain⟨s1,s2,s3,s4,s5⟩:=OI c k;have el:=congrArg List.length e;simp only[length_set,length_replicate,Fy,Gy]at el;have e1:=congrArg (fun l:List Nat=>l[f9 c k]?) e;rw[getElem?_set_ne (by omega),getElem?_set_self (by simpa using s3)]at e1;have t:∀p<7,some 97=[115,116,114,97,110,103,101][p]?->p=3:=by decide
   have p3:=t _ (by omega) e1;have e2:=congrArg (fun l:List Nat=>l[(f9 c k+1)%V8 c k]?) e;rw[getElem?_set_self (by simpa using s4),p3,el]at e2;have e2:some (97+k)=some 110:=e2;injection e2 with e2
   omega
noncomputable def lD (nm:List Str) (i:Nat):Str:=nm.getD i ""
theorem fI{nm:List Str}{i:Nat}(hi:i<nm.length):lD nm i∈nm:=by unfold lD;rw[getD_eq_getElem?_getD,getElem?_eq_getElem hi];exact getElem_mem hi
theorem GY{nm:List Str}(nd:nm.Nodup){i j:Nat}(hi:i<nm.length)(hj:j<nm.length)(e:lD nm i=lD nm j):i=j:=by unfold lD at e;rw[getD_eq_getElem?_getD,getD_eq_getElem?_getD,getElem?_eq_getElem hi,getElem?_eq_getElem hj]at e;exact YN nd hi hj e
theorem II{nm:List Str}{i:Nat}(hi:i<nm.length)(h:HI):wA (.lst (nm.map Dt.str)) (.int (i:Nat)) h=some (.str (lD nm i),h):=by rw[jG,SM.ED,getElem?_map,getElem?_eq_getElem hi];unfold lD;rw[getD_eq_getElem?_getD,getElem?_eq_getElem hi];rfl
noncomputable def MO(c N:Nat):Nat:=(N%c+1+N/8%(c-1))%c
def PD(nm:List Str)(N:Nat):Wy:=⟨lD nm (N%nm.length),((N/64%8192:Nat):Int),lD nm (MO nm.length N)⟩
theorem dN{nm:List Str}(h2:2<=nm.length)(h8:nm.length<=8)(N:Nat)(h:HI):qF [.lst (nm.map Dt.str),.int (N:Nat)] h=some (VC (PD nm N),h):=by
 have s4:4<=sizeLine:=by decide
 have m1:=fun(h:HI)=>wB (h:=h) (i:=(N:Int)) (j:=(nm.length:Int)) (by omega)
 rw[show(N:Int)%(nm.length:Int)=((N%nm.length:Nat):Int)from rfl]at m1;have d8:=fun(h:HI)=>uD (h:=h) (i:=(N:Int)) (j:=8) ⟨by decide,by decide⟩
 have m2:=fun(h:HI)=>wB (h:=h) (i:=(N:Int)/8) (j:=(nm.length:Int)-1) (by omega)
 have e2:(N:Int)/8%((nm.length:Int)-1)=((N/8%(nm.length-1):Nat):Int):=by rw[show(nm.length:Int)-1=((nm.length-1:Nat):Int) by omega];rfl
 rw[e2]at m2;have m3:=fun(h:HI)=>wB (h:=h) (i:=((N%nm.length:Nat):Int)+1+((N/8%(nm.length-1):Nat):Int)) (j:=(nm.length:Int)) (by omega)
 rw[show(((N%nm.length:Nat):Int)+1+((N/8%(nm.length-1):Nat):Int))%(nm.length:Int)=((MO nm.length N:Nat):Int)from rfl]at m3;have Ow:=fun(h:HI)=>uD (h:=h) (i:=(N:Int)) (j:=64) ⟨by decide,by decide⟩
 have m4:=fun(h:HI)=>wB (h:=h) (i:=(N:Int)/64) (j:=8192) (by decide)
 rw[show(N:Int)/64%8192=((N/64%8192:Nat):Int)from rfl]at m4;have x1:=fun(h:HI)=>II (nm:=nm) (i:=N%nm.length) (Nat.mod_lt _ (by omega)) h
 have x2:=fun(h:HI)=>II (nm:=nm) (i:=MO nm.length N) (Nat.mod_lt _ (by omega)) h
 simp only[qF,CL,iB,Fy,Gy,if_true,Hy (f:=some),Jy (f:=some),Nat.reduceAdd,Nat.reduceSub,List.replicate,Ry,Qy,WA,HC,yA,DC,jA,vA,Dy,Ey,kA,iA,QE,length_map,m1,Ly,Ky,QA,LD,d8,M5,m2,m3,cB,FD,dB,YA,x1,Ow,m4,x2,s4,OA,VC,PD]
structure Q8(nm:List Str)(f:Fc):Prop where
 sm:YC f
 so:bC f=true
 nm:∀s∈XA f,s∈nm
theorem F3{c i t:Nat}(hi:i<c)(ht:t<c-1):i≠(i+1+t)%c:=by
 by_cases q:i+1+t<c
 · rw[Nat.mod_eq_of_lt q];omega
 · rw[Nat.mod_eq_sub_mod (by omega),Nat.mod_eq_of_lt (by omega)];omega
theorem pO{nm:List Str}(nd:nm.Nodup)(h2:2<=nm.length)(N:Nat):yD (PD nm N)=true/\(PD nm N).a∈nm/\(PD nm N).b∈nm:=by
 have l1:N%nm.length<nm.length:=Nat.mod_lt _ (by omega);have l2:MO nm.length N<nm.length:=Nat.mod_lt _ (by omega);have l3:N/8%(nm.length-1)<nm.length-1:=Nat.mod_lt _ (by omega);refine⟨?_,fI l1,fI l2⟩;have ne:¬lD nm (N%nm.length)=lD nm (MO nm.length N):=by intro e;exact F3 l1 l3 (GY nd l1 l2 e)
 have a:(0:Int)<=((N/64%8192:Nat):Int):=by omega
 have b:((N/64%8192:Nat):Int)<=8191:=by omega
 show(!decide (lD nm (N%nm.length)=lD nm (MO nm.length N))&&(decide ((0:Int)<=((N/64%8192:Nat):Int))&&decide (((N/64%8192:Nat):Int)<=8191)))=true;simp only[Bool.and_eq_true,Bool.not_eq_true',decide_eq_false_iff_not,decide_eq_true_eq];exact⟨ne,a,b⟩
theorem KQ{nm:List Str}(nd:nm.Nodup)(h2:2<=nm.length)(N:Nat):Q8 nm (.ways (PD nm N)):=by
 obtain⟨a,b,c⟩:=pO nd h2 N;refine⟨trivial,a,fun s m=>?_⟩;simp only[XA,mem_cons,not_mem_nil,or_false]at m;rcases m with rfl | rfl
 · exact b
 · exact c
theorem zN{nm:List Str}(nd:nm.Nodup)(h2:2<=nm.length){Ns:List Nat}(h1:1<=Ns.length)(h6:Ns.length<=6):Q8 nm (.one (Ns.map (PD nm))):=by
 refine⟨?_,?_,fun s m=>?_⟩
 · show(Ns.map (PD nm)).length<=1000;rw[length_map];omega
 · show(decide (1<=(Ns.map (PD nm)).length)&&decide ((Ns.map (PD nm)).length<=6)&&(Ns.map (PD nm)).all yD)=true;rw[length_map,decide_eq_true h1,decide_eq_true h6,all_map];simp only[Bool.and_self,Bool.true_and,all_eq_true];intro N _;exact(pO nd h2 N).1
 · simp only[XA,mem_flatMap,mem_map]at m;obtain⟨w,⟨N,_,rfl⟩,m⟩:=m;obtain⟨_,b,c⟩:=pO nd h2 N;simp only[mem_cons,not_mem_nil,or_false]at m;rcases m with rfl | rfl
   · exact b
   · exact c
theorem NN(f:Fc)(h:HI):wA (JA f) (.int 0) h=some (.str (GK f),h):=by cases f<;>rfl
theorem ON (f:Fc):decide (GK f = "one")=FA f:=by have:=LQ f;cases q:FA f<;>rw[q]at this<;>simpa using this
theorem N6(h:HI):JH (.int 10) (.int 17) h=some (.int 100000000000000000,h):=by
 rw[K5 ⟨by decide,by decide,by decide⟩];have:(10:Int)^(17:Int).toNat=100000000000000000:=by decide
 rw[this]
theorem fV{nm:List Str}(nd:nm.Nodup)(h2:2<=nm.length)(h8:nm.length<=8){N:Nat}(hN:N<998244353)(g:Nat)(h:HI) :
 ∃f,KG [.lst (nm.map Dt.str),.int (N:Nat),.int (g:Nat),.int 6] h=some (JA f,h)/\Q8 nm f/\(FA f=true->g<6):=by
 have m3:=fun(h:HI)=>wB (h:=h) (i:=(N:Int)) (j:=3) (by decide)
 have d3:=fun(h:HI)=>uD (h:=h) (i:=(N:Int)) (j:=3) ⟨by decide,by decide⟩
 have e3:(N:Int)/3=((N/3:Nat):Int):=rfl;have ew:=fun(N:Nat) (h:HI)=>dN h2 h8 N h
 have s4:4<=sizeLine:=by decide
 have s2:2<=sizeLine:=by decide
 generalize hX:KG [.lst (nm.map Dt.str),.int (N:Nat),.int (g:Nat),.int 6] h=X;simp only[KG,BL,iB,Fy,Gy,if_true,Hy (f:=some),Jy (f:=some),Nat.reduceAdd,Nat.reduceSub,List.replicate,Ry,Qy,WA,bB,LA,yA,jA,vA,Dy,Ey,kA,iA,m3,GG,GA]at hX;by_cases q0:N%3=0
 · have c0:decide ((N:Int)%3=0)=true:=decide_eq_true (by omega);have u1:=fun(h:HI)=>cF (h:=h) (i:=(N:Int)) (j:=48271000000019) (Or.inr ⟨by decide,by decide⟩)
   have jw:=fun(h:HI)=>wB (h:=h) (i:=(N:Int)*48271000000019) (j:=100000000000000000) (by decide)
   generalize hL:(N:Int)*48271000000019%100000000000000000=L at jw;have L0:0<=L:=by rw[<- hL];exact Int.emod_nonneg _ (by decide)
   have L1:L<100000000000000000:=by rw[<- hL];exact Int.emod_lt_of_pos _ (by decide)
   have ml:=fun(h:HI)=>wB (h:=h) (i:=(N:Int)/3) (j:=(nm.length:Int)) (by omega)
   rw[show(N:Int)/3%(nm.length:Int)=((N/3%nm.length:Nat):Int)from rfl]at ml;have x1:=fun(h:HI)=>II (nm:=nm) (i:=N/3%nm.length) (Nat.mod_lt _ (by omega)) h
   have Mw:=fun(h:HI)=>uD (h:=h) (i:=(N:Int)) (j:=24) ⟨by decide,by decide⟩
   have m9:=fun(h:HI)=>wB (h:=h) (i:=(N:Int)/24) (j:=9) (by decide)
   have r0:0<=(N:Int)/24%9:=Int.emod_nonneg _ (by decide);have r1:(N:Int)/24%9<9:=Int.emod_lt_of_pos _ (by decide);rw[c0]at hX;simp only[if_true,WA,HC,yA,DC,jA,vA,Dy,Ey,kA,iA,u1,N6,jw,Ly,Ky,QA,cB,FD,dB,YA,d3,QE,length_map,ml,x1,Mw,m9,LD,Fy,Gy,Nat.reduceAdd,s4,gC,OA]at hX;refine⟨.long (lD nm (N/3%nm.length)) L (L+(N:Int)/24%9),hX.symm,⟨trivial,?_,?_⟩,fun z=>by cases z⟩
   · show(decide (0<=L)&&(decide (L<=L+(N:Int)/24%9)&&decide (L+(N:Int)/24%9<=1000000000000000000)))=true;rw[decide_eq_true L0,decide_eq_true (show L<=L+(N:Int)/24%9 by omega),decide_eq_true (show L+(N:Int)/24%9<=1000000000000000000 by omega)];rfl
   · intro s m;simp only[XA,mem_singleton]at m;rw[m];exact fI (Nat.mod_lt _ (by omega))
 · have c0:decide ((N:Int)%3=0)=false:=decide_eq_false (by omega);rw[c0]at hX;simp only[cg,if_false,kB,iA,QA,WA,bB,nH,LA,yA,jA,vA,Dy,Ey,kA,m3,GG,GA,JF]at hX;by_cases q1:N%3=1/\g<6
   · have c1:decide ((N:Int)%3=1)=true:=decide_eq_true (by omega);have c2:decide ((g:Int)<6)=true:=decide_eq_true (by omega);have m6:=fun(h:HI)=>wB (h:=h) (i:=(N:Int)/3) (j:=6) (by decide)
     have e6:(1:Int)+(N:Int)/3%6=((1+N/3%6:Nat):Int):=by omega
     have r1:=UE (c:=1+N/3%6) (by omega) h;have ca:=sF (te:=nJ) (i:=0) (tc:=rB) (fun(k:Nat)=>Dt.int (k:Int)) (fun k=>VC (PD nm (N+7*k*k))) h (List.range (1+N/3%6)) [none,some (.lst (nm.map Dt.str)),some (.int (N:Nat))] (by
      intro k hk;have hk:=mem_range.mp hk;refine⟨rfl,?_⟩;have u1:=fun(h:HI)=>cF (h:=h) (i:=7) (j:=(k:Int)) (Or.inl ⟨by decide,by decide⟩)
      have u2:=fun(h:HI)=>cF (h:=h) (i:=7*(k:Int)) (j:=(k:Int)) (Or.inl ⟨by omega,by omega⟩)
      have ew:=ew (N+7*k*k) h;have ec:(N:Int)+7*(k:Int)*(k:Int)=((N+7*k*k:Nat):Int):=by simp[Int.natCast_add,Int.natCast_mul]
      simp only[nJ,BB,dB,YA,yA,jA,vA,Ky,Dy,Ey,kA,iA,Zy,u1,u2,LD,ec,ew])
     have ck:=ZD (l:=[none,some (.lst (nm.map Dt.str)),some (.int (N:Nat))]) (h:=h) (KA 0) rB nJ (xs:=(List.range (1+N/3%6)).map fun(k:Nat)=>Dt.int (k:Int)) (by rw[length_map,length_range];simp[sizeLine];omega);rw[ca]at ck;rw[c1,c2]at hX;simp only[if_true,iA,GA,cB,FD,dB,YA,vA,WE,lG,yA,jA,Dy,Ey,kA,d3,m6,LD,e6,r1,xE,ZF,uE,Option.join_some,ck,Fy,Gy,Nat.reduceAdd,s2,gC,OA]at hX;have gd:=zN nd h2 (Ns:=(List.range (1+N/3%6)).map fun k=>N+7*k*k) (by simp) (by simp;omega);refine⟨_,?_,gd,fun _=>q1.2⟩;rw[<- hX];simp only[JA,map_map];rfl
   · have c:(if decide ((N:Int)%3=1)=true then some (decide ((g:Int)<6),h)else some (false,h))=some (false,h):=by
      by_cases z:N%3=1
      · have:decide ((g:Int)<6)=false:=decide_eq_false (by omega);rw[this];split<;>rfl
      · have:decide ((N:Int)%3=1)=false:=decide_eq_false (by omega);rw[this];rfl
     rw[c]at hX;simp only[iA,cg,if_false,kB,QA,cB,BB,dB,YA,yA,jA,vA,Dy,Ey,kA,d3,e3,Zy,ew,OA]at hX;exact⟨.ways (PD nm (N/3)),hX.symm,KQ nd h2 _,fun z=>by cases z⟩
theorem gR{α:Type}{i:Nat}{body:RS}(D:α->Dt)(S:Nat->LI->HI->Prop)(E:LI->HI->Prop):∀(xs:List α)(k0:Nat)(_:∀(k:Nat) x,xs[k]?=some x->∀l h,S (k0+k) l h->∃l' h',(body (l.set i (some (D x))) h=some (.nx l' h')/\S (k0+k+1) l' h')\/(body (l.set i (some (D x))) h=some (.bk l' h')/\E l' h'))(l:LI)(h:HI),S k0 l h->
 ∃l' h',pC (KA i) body (xs.map D) l h=some (.nx l' h')/\(S (k0+xs.length) l' h'\/E l' h')
 | [],k0,_,l,h,s=>⟨l,h,rfl,.inl s⟩
 | x::xs,k0,H,l,h,s=>by
  obtain⟨l2,h2,c⟩:=H 0 x rfl l h s;rcases c with⟨e,p⟩ | ⟨e,p⟩
  · have H':∀(k:Nat) y,xs[k]?=some y->∀l h,S (k0+1+k) l h->∃l' h',(body (l.set i (some (D y))) h=some (.nx l' h')/\S (k0+1+k+1) l' h')\/(body (l.set i (some (D y))) h=some (.bk l' h')/\E l' h'):=by intro k y hy l h s;have:=H (k+1) y (by simpa using hy) l h (by rw[show k0+(k+1)=k0+1+k by omega];exact s);rw[show k0+(k+1)+1=k0+1+k+1 by omega]at this;exact this
    obtain⟨l',h',e',i'⟩:=gR D S E xs (k0+1) H' l2 h2 p;exact⟨l',h',by simp[pC,e,e'],by rw[Fy,show k0+(xs.length+1)=k0+1+xs.length by omega];exact i'⟩
  · exact⟨l2,h2,by simp[pC,e],.inr p⟩
structure iF(nm:List Str)(gr:Bool)(fs:List Fc):Prop where
 len:fs.length<=60
 good:∀f∈fs,Q8 nm f
 few:(fs.filter FA).length<=6
 full:gr=false->fs.length=60
 six:gr=true->(fs.filter FA).length=6
theorem BJ(fs:List Fc)(f:Fc):((fs++[f]).filter FA).length=(fs.filter FA).length+(if FA f=true then 1 else 0):=by rw[filter_append,length_append];cases q:FA f<;>simp[q]
structure J9(nm:List Str)(gr:Bool)(k:Nat)(fs:List Fc):Prop where
 len:fs.length=k
 good:∀f∈fs,Q8 nm f
 few:(fs.filter FA).length<=6
 six:gr=true->(fs.filter FA).length=min k 6
theorem J9.add{nm:List Str}{gr:Bool}{k:Nat}{fs:List Fc}(F:J9 nm gr k fs){f:Fc}(g:Q8 nm f)(h1:FA f=true->(fs.filter FA).length<6)(h2:gr=true->(FA f=true↔k<6)):J9 nm gr (k+1) (fs++[f]):=by
 refine⟨by rw[length_append,F.len];rfl,fun x m=>?_,?_,fun e=>?_⟩
 · rcases mem_append.mp m with z | z
   · exact F.good x z
   · rw[mem_singleton.mp z];exact g
 · rw[BJ];split
   · rename_i q;have:=h1 q;omega
   · have:=F.few;omega
 · rw[BJ,F.six e];by_cases q:FA f=true
   · have:=(h2 e).mp q;rw[if_pos q];omega
   · have:¬k<6:=fun z=>q ((h2 e).mpr z)
     rw[if_neg q];omega
section
variable{h:HI}{x0 x3 x4 x5 y7 y8:Option Dt}{ms:List Int}{M k:Nat}
theorem wV(hk:k<60)(rest:RS):∃c:Int,gA (EA 7 (e2 HB (eV 2) (e2 mD (e2 mD (eC (.int 13)) (eV 6)) (eV 6)))) (gA (QB (b8 (e2 IH (eV 6) (cC mB (eV 1)))) (EA 7 (e2 wA (eV 1) (eV 6))) SA) rest) [x0,some (.lst (ms.map Dt.int)),some (.int (M:Nat)),x3,x4,x5,some (.int (k:Nat)),y7,y8] h=rest [x0,some (.lst (ms.map Dt.int)),some (.int (M:Nat)),x3,x4,x5,some (.int (k:Nat)),some (.int c),y8] h:=by
 have u1:=fun(h:HI)=>cF (h:=h) (i:=13) (j:=(k:Int)) (Or.inl ⟨by decide,by decide⟩)
 have u2:=fun(h:HI)=>cF (h:=h) (i:=13*(k:Int)) (j:=(k:Int)) (Or.inl ⟨by omega,by omega⟩)
 by_cases q:k<ms.length
 · have c:decide ((k:Int)<((ms.length:Nat):Int))=true:=decide_eq_true (by omega);have ix:wA (.lst (ms.map Dt.int)) (.int (k:Nat)) h=some (.int ms[k],h):=by rw[jG,SM.ED,getElem?_map,getElem?_eq_getElem q];rfl
   refine⟨ms[k],?_⟩;simp only[WA,HC,yA,jA,vA,Dy,Ey,kA,iA,u1,u2,LD,Ly,Ky,QA,bB,LA,DC,QE,length_map,JF,c,GA,if_true,ix]
 · have c:decide ((k:Int)<((ms.length:Nat):Int))=false:=decide_eq_false (by omega);refine⟨(M:Int)+13*(k:Int)*(k:Int),?_⟩;simp only[WA,HC,yA,jA,vA,Dy,Ey,kA,iA,u1,u2,LD,Ly,Ky,QA,bB,LA,DC,QE,length_map,JF,c,GA,cg,if_false,kB]
theorem uX{x1 y7:Option Dt}{gr:Bool}{g:Nat}(rest:RS):gA (QB (ND (b8 (eV 3)) (ND (b8 (e2 EB (eV 5) (eC (.int 6)))) (b8 (e2 VO (eV 6) (e2 fB (eV 2) (eC (.int 40))))))) jI SA) rest [x0,x1,some (.int (M:Nat)),some (.bl gr),x4,some (.int (g:Nat)),some (.int (k:Nat)),y7,y8] h =
 if gr=true/\g=6/\M%40<k then some (.bk [x0,x1,some (.int (M:Nat)),some (.bl gr),x4,some (.int (g:Nat)),some (.int (k:Nat)),y7,y8] h)else rest [x0,x1,some (.int (M:Nat)),some (.bl gr),x4,some (.int (g:Nat)),some (.int (k:Nat)),y7,y8] h:=by
 have Uk:=fun(h:HI)=>wB (h:=h) (i:=(M:Int)) (j:=40) (by decide)
 generalize hX:(if gr=true/\g=6/\M%40<k then some (Rs.bk [x0,x1,some (.int (M:Nat)),some (.bl gr),x4,some (.int (g:Nat)),some (.int (k:Nat)),y7,y8] h)else rest [x0,x1,some (.int (M:Nat)),some (.bl gr),x4,some (.int (g:Nat)),some (.int (k:Nat)),y7,y8] h)=X;simp only[WA,bB,nH,LA,yA,jA,vA,Dy,Ey,kA,iA,GA,GG,Uk,fT];cases gr with
 | false=>rw[if_neg (by simp)]at hX;simp only[cg,if_false,iA,kB,QA,hX]
 | true=>
  by_cases g6:g=6
  · have c:decide ((g:Int)=6)=true:=decide_eq_true (by omega);by_cases q:M%40<k
    · have c2:decide ((M:Int)%40<(k:Int))=true:=decide_eq_true (by omega);rw[if_pos ⟨rfl,g6,q⟩]at hX;simp only[if_true,c,c2,iA,GA,oY,U2];exact hX
    · have c2:decide ((M:Int)%40<(k:Int))=false:=decide_eq_false (by omega);rw[if_neg (fun z=>q z.2.2)]at hX;simp only[if_true,c,c2,iA,cg,if_false,kB,QA,hX]
  · have c:decide ((g:Int)=6)=false:=decide_eq_false (by omega);rw[if_neg (fun z=>g6 z.2.1)]at hX;simp only[if_true,c,iA,cg,if_false,kB,QA,hX]
end
theorem oW{nm:List Str}(nd:nm.Nodup)(h2:2<=nm.length)(h8:nm.length<=8){ms:List Int}{M k:Nat}{gr:Bool}(hk:k<60){fs:List Fc}(F:J9 nm gr k fs)(y7 y8:Option Dt)(h:HI) :
 ∃Rv Sv,(QH [some (.lst (nm.map Dt.str)),some (.lst (ms.map Dt.int)),some (.int (M:Nat)),some (.bl gr),some (.ref h.length),some (.int (((fs.filter FA).length:Nat):Int)),some (.int (k:Nat)),y7,y8] (h++[.lst (fs.map JA)])=some (.bk [some (.lst (nm.map Dt.str)),some (.lst (ms.map Dt.int)),some (.int (M:Nat)),some (.bl gr),some (.ref h.length),some (.int (((fs.filter FA).length:Nat):Int)),some (.int (k:Nat)),Rv,Sv] (h++[.lst (fs.map JA)]))/\gr=true/\(fs.filter FA).length=6)\/
  ∃f,QH [some (.lst (nm.map Dt.str)),some (.lst (ms.map Dt.int)),some (.int (M:Nat)),some (.bl gr),some (.ref h.length),some (.int (((fs.filter FA).length:Nat):Int)),some (.int (k:Nat)),y7,y8] (h++[.lst (fs.map JA)])=some (.nx [some (.lst (nm.map Dt.str)),some (.lst (ms.map Dt.int)),some (.int (M:Nat)),some (.bl gr),some (.ref h.length),some (.int ((((fs++[f]).filter FA).length:Nat):Int)),some (.int (k:Nat)),Rv,Sv] (h++[.lst ((fs++[f]).map JA)]))/\J9 nm gr (k+1) (fs++[f]):=by
 unfold QH;obtain⟨c,ec⟩:=wV (h:=h++[.lst (fs.map JA)]) (x0:=some (.lst (nm.map Dt.str))) (x3:=some (.bl gr)) (x4:=some (.ref h.length)) (x5:=some (.int (((fs.filter FA).length:Nat):Int))) (y7:=y7) (y8:=y8) (ms:=ms) (M:=M) hk
  (gA (QB (ND (b8 (eV 3)) (ND (b8 (e2 EB (eV 5) (eC (.int 6)))) (b8 (e2 VO (eV 6) (e2 fB (eV 2) (eC (.int 40))))))) jI SA) (gA (EA 8 (BA KG [] (bA (eV 0) (bA (BA iD [] (bA (eV 7) (bA (eC (.int 1)) fA))) (bA (eV 5) (bA (eC (.int 6)) fA)))))) (gA (QB (ND (b8 (eV 3)) (b8 (e2 IH (eV 6) (eC (.int 6))))) (EA 8 (dC (bA (eC (.str "one")) (bA (uC (bA (BA qF [] (bA (eV 0) (bA (BA iD [] (bA (eV 7) (bA (eC (.int 2)) fA))) fA))) fA)) fA)))) SA) (gA (EA 5 (e2 HB (eV 5) (cC GH (e2 EB (e2 wA (eV 8) (eC (.int 0))) (eC (.str "one")))))) (AF (WH (eV 4) (eV 8)))))))
 rw[ec,uX];by_cases b:gr=true/\(fs.filter FA).length=6/\M%40<k
 · rw[if_pos b];exact⟨_,_,.inl ⟨rfl,b.1,b.2.1⟩⟩
 · rw[if_neg b];obtain⟨N,hN,eN⟩:=WJ c (k:=1) (by decide) (h++[.lst (fs.map JA)]);obtain⟨f,ef,gf,of⟩:=fV nd h2 h8 hN (fs.filter FA).length (h++[.lst (fs.map JA)]);have eN:iD [.int c,.int 1] (h++[.lst (fs.map JA)])=some (.int (N:Nat),h++[.lst (fs.map JA)]):=eN;have s1:1<=sizeLine:=by decide
   have s2:2<=sizeLine:=by decide
   have ak:=fun(f:Fc) (g x7:Option Dt)=>tX (g:=eV 8) (l:=[some (.lst (nm.map Dt.str)),some (.lst (ms.map Dt.int)),some (.int (M:Nat)),some (.bl gr),some (.ref h.length),g,some (.int (k:Nat)),x7,some (JA f)]) (cE h (.lst (fs.map JA)) []) (d:=JA f) rfl (cE h (.lst (fs.map JA)) []) (by rw[length_map,F.len];simp[sizeLine];omega)
   have sm:∀f:Fc,(h++[Ob.lst (fs.map JA)]).set h.length (.lst (fs.map JA++[JA f]))=h++[.lst ((fs++[f]).map JA)]:=fun f=>by rw[cK,map_append];rfl
   have eg:∀f:Fc,(((fs.filter FA).length:Nat):Int)+(if FA f=true then 1 else 0)=((((fs++[f]).filter FA).length:Nat):Int):=fun f=>by rw[BJ];split<;>simp
   by_cases q:gr=true/\k<6
   · obtain⟨N2,hN2,Wz⟩:=WJ c (k:=2) (by decide) (h++[.lst (fs.map JA)]);have Wz:iD [.int c,.int 2] (h++[.lst (fs.map JA)])=some (.int (N2:Nat),h++[.lst (fs.map JA)]):=Wz;have ew:=dN h2 h8 N2 (h++[.lst (fs.map JA)]);have c6:decide ((k:Int)<6)=true:=decide_eq_true (by omega);have gd:=zN nd h2 (Ns:=[N2]) (by simp) (by simp);have hf:=NN (.one [PD nm N2]) (h++[.lst (fs.map JA)]);have hd:=ON (.one [PD nm N2]);have eg:=eg (.one [PD nm N2]);have ak:=ak (.one [PD nm N2]);have sm:=sm (.one [PD nm N2]);rw[sm]at ak;have fd:JA (.one [PD nm N2])=.tup [.str "one", .lst [VC (PD nm N2)]]:=rfl;rw[fd]at hf ak;refine⟨some (.int c),some (.tup [.str "one", .lst [VC (PD nm N2)]]),.inr ⟨.one [PD nm N2],?_,F.add gd (fun _=>?_) (fun _=>⟨fun _=>q.2,fun _=>rfl⟩)⟩⟩
     · rw[q.1];rw[q.1]at ak;simp only[WA,HC,BB,dB,YA,jA,vA,Dy,Ey,kA,iA,Zy,Ry,Qy,eN,ef,Ly,Ky,QA,bB,nH,LA,GA,if_true,yA,JF,c6,FD,CI,Wz,ew,Fy,Gy,Nat.reduceAdd,s1,s2,hf,VB,hd,DC,QR,LD,eg,gI,yQ,ak]
     · have:=F.six q.1;omega
   · have qy:∀(x0 x1 x2 x4 x5 x7 x8:Option Dt)(h:HI),ND (b8 (eV 3)) (b8 (e2 IH (eV 6) (eC (.int 6)))) [x0,x1,x2,some (.bl gr),x4,x5,some (.int (k:Nat)),x7,x8] h=some (false,h):=fun x0 x1 x2 x4 x5 x7 x8 h=>by
      simp only[nH,LA,yA,jA,vA,Dy,Ey,kA,iA,GA,JF];cases gr with
      | false=>rfl
      | true=>have:decide ((k:Int)<6)=false:=decide_eq_false (by have:¬k<6:=fun z=>q ⟨rfl,z⟩;omega);rw[this];rfl
     have hf:=NN f (h++[.lst (fs.map JA)]);have hd:=ON f;have eg:=eg f;have ak:=ak f;have sm:=sm f;rw[sm]at ak;refine⟨some (.int c),some (JA f),.inr ⟨f,?_,F.add gf of (fun e=>?_)⟩⟩
     · simp only[WA,HC,BB,dB,YA,jA,vA,Dy,Ey,kA,iA,Zy,Ry,Qy,eN,ef,Ly,Ky,QA,bB,qy,cg,if_false,kB,yA,hf,VB,hd,DC,QR,LD,eg,gI,yQ,ak]
     · have k6:¬k<6:=fun z=>q ⟨e,z⟩
       have s6:=F.six e;refine⟨fun z=>?_,fun z=>absurd z k6⟩;have:=of z;omega
theorem NW{nm:List Str}(nd:nm.Nodup)(h2:2<=nm.length)(h8:nm.length<=8)(ms:List Int)(M:Nat)(gr:Bool)(h:HI):∃fs,OH [.lst (nm.map Dt.str),.lst (ms.map Dt.int),.int (M:Nat),.bl gr] h=some (.ref h.length,h++[.lst (fs.map JA)])/\iF nm gr fs:=by
 obtain⟨l',h',e,c⟩:=gR (i:=6) (body:=QH) (fun(k:Nat)=>Dt.int (k:Int))
  (fun k l h'=>∃fs y6 y7 y8,l=[some (.lst (nm.map Dt.str)),some (.lst (ms.map Dt.int)),some (.int (M:Nat)),some (.bl gr),some (.ref h.length),some (.int (((fs.filter FA).length:Nat):Int)),y6,y7,y8]/\h'=h++[.lst (fs.map JA)]/\J9 nm gr k fs)
  (fun l h'=>∃fs y5 y6 y7 y8,l=[some (.lst (nm.map Dt.str)),some (.lst (ms.map Dt.int)),some (.int (M:Nat)),some (.bl gr),some (.ref h.length),y5,y6,y7,y8]/\h'=h++[.lst (fs.map JA)]/\iF nm gr fs) (List.range 60) 0 (by
   rintro k x hx l h' ⟨fs,y6,y7,y8,rfl,rfl,F⟩;obtain⟨h1,h3⟩:=Sy hx;simp at h1 h3;subst h3;rw[Nat.zero_add]at F ⊢;obtain⟨Rv,Sv,c⟩:=oW nd h2 h8 (ms:=ms) (M:=M) h1 F y7 y8 h;rcases c with⟨e,g1,g2⟩ | ⟨f,e,F'⟩
   · refine⟨_,_,.inr ⟨e,fs,_,_,_,_,rfl,rfl,⟨by rw[F.len];omega,F.good,F.few,(fun z=>by rw[g1]at z;cases z),fun _=>g2⟩⟩⟩
   · exact⟨_,_,.inl ⟨e,fs++[f],_,_,_,rfl,rfl,F'⟩⟩) [some (.lst (nm.map Dt.str)),some (.lst (ms.map Dt.int)),some (.int (M:Nat)),some (.bl gr),some (.ref h.length),some (.int 0),none,none,none] (h++[.lst []]) ⟨[],none,none,none,rfl,rfl,⟨rfl,(fun f m=>by cases m),by simp,(fun _=>by simp)⟩⟩
 have c:∃fs y5 y6 y7 y8,l'=[some (.lst (nm.map Dt.str)),some (.lst (ms.map Dt.int)),some (.int (M:Nat)),some (.bl gr),some (.ref h.length),y5,y6,y7,y8]/\h'=h++[.lst (fs.map JA)]/\iF nm gr fs:=by
  rcases c with⟨fs,y6,y7,y8,rfl,rfl,F⟩ | c
  · rw[length_range,Nat.zero_add]at F;exact⟨fs,_,_,_,_,rfl,rfl,⟨by rw[F.len];omega,F.good,F.few,fun _=>F.len,(fun z=>by have:=F.six z;omega)⟩⟩
  · exact c
 obtain⟨fs,y5,y6,y7,y8,rfl,rfl,F⟩:=c;have r1:=UE (c:=60) (by decide) (h++[.lst []]);have r1:ZO (.int 60,h++[.lst []])=some (.vals ((List.range 60).map fun(k:Nat)=>Dt.int (k:Int)),h++[.lst []]):=r1;refine⟨fs,?_,F⟩;simp only[OH,ZL,iB,Fy,Gy,if_true,Hy (f:=some),Jy (f:=some),Nat.reduceAdd,Nat.reduceSub,List.replicate,Ry,Qy,WA,HC,zK,YA,Nat.zero_le,iA,Ly,Ky,QA,vA,xF,lG,r1,RF,e,cB,jA,Dy,Ey,kA,OA]
inductive More(nm:List Str)(gr:Bool):Fc->Str->Prop
 | many {f:Fc}:Q8 nm f->FA f=gr->More nm gr f "many"
 | name {f:Fc}:YC f->(∃s∈XA f,s∉nm)->(∀s∈XA f,s∈nm\/s = "strange")->More nm gr f "name"
 | bad {f:Fc}:YC f->(∀s∈XA f,s∈nm)->bC f=false->More nm gr f "bad"
theorem BV {nm:List Str} (nd:nm.Nodup) (ns:("strange" :Str)∉nm) (h2:2<=nm.length) (h8:nm.length<=8) (N:Nat) (gr:Bool) (h:HI):∃f w,QF [.lst (nm.map Dt.str),.int (N:Nat),.bl gr] h=some (.tup [JA f,.str w],h)/\More nm gr f w:=by
 have s1:1<=sizeLine:=by decide
 have s2:2<=sizeLine:=by decide
 have s4:4<=sizeLine:=by decide
 have s6:6<=sizeLine:=by decide
 have d6:=fun(h:HI)=>uD (h:=h) (i:=(N:Int)) (j:=6) ⟨by decide,by decide⟩
 have e6:(N:Int)/6=((N/6:Nat):Int):=rfl;have m6:=fun(h:HI)=>wB (h:=h) (i:=(N:Int)) (j:=6) (by decide)
 rw[show(N:Int)%6=((N%6:Nat):Int)from rfl]at m6;have ew:=dN h2 h8 (N/6) h;have x0:∀h:HI,wA (.lst (nm.map Dt.str)) (.int 0) h=some (.str (lD nm 0),h):=fun h=>II (nm:=nm) (i:=0) (by omega) h
 have x1:∀h:HI,wA (.lst (nm.map Dt.str)) (.int 1) h=some (.str (lD nm 1),h):=fun h=>II (nm:=nm) (i:=1) (by omega) h
 have i0:lD nm 0∈nm:=fI (by omega);have i1:lD nm 1∈nm:=fI (by omega);obtain⟨f0,Nk,g0,o0⟩:∃f0,(if gr=true then JA (.one [PD nm (N/6)])else VC (PD nm (N/6)))=JA f0/\Q8 nm f0/\FA f0=gr:=by
  cases gr with
  | false=>exact⟨.ways (PD nm (N/6)),rfl,KQ nd h2 _,rfl⟩
  | true=>exact⟨.one [PD nm (N/6)],rfl,zN nd h2 (Ns:=[N/6]) (by simp) (by simp),rfl⟩
 have hc:∀a b c d e f:Dt,wC (.lst [a,b,c,d]) (.lst [e,f]) h=some (.lst [a,b,c,d,e,f],h):=fun a b c d e f=>CO (xs:=[a,b,c,d]) (ys:=[e,f]) s6
 have key:QF [.lst (nm.map Dt.str),.int (N:Nat),.bl gr] h=NA (wA (.lst [JA f0,VC ⟨"strange",1,lD nm 0⟩,VC ⟨lD nm 0,1,lD nm 0⟩,VC ⟨lD nm 0,8192,lD nm 1⟩,JA (.long (lD nm 0) 5 4),JA (.one [])]) (.int ((N%6:Nat):Int)) h) fun r=>NA (wA (.lst [.str "many", .str "name", .str "bad", .str "bad", .str "bad", .str "bad"]) (.int ((N%6:Nat):Int)) r.2) fun q=>some (.tup [r.1,q.1],q.2):=by
  rw[<- Nk];cases gr with
  | false=>simp only[QF,pJ,iB,Fy,Gy,if_true,Hy (f:=some),Jy (f:=some),Nat.reduceAdd,Nat.reduceSub,List.replicate,Ry,Qy,Zy,WA,HC,BB,dB,YA,yA,jA,vA,Dy,Ey,kA,iA,d6,e6,ew,Ly,Ky,QA,bB,LA,GA,cg,if_false,kB,m6,CI,FD,x0,x1,s1,s2,s4,s6,Nat.zero_le,hc,cB,VC,JA,Jy];rcases(show N%6=0\/N%6=1\/N%6=2\/N%6=3\/N%6=4\/N%6=5 by omega)with z | z | z | z | z | z<;>rw[z]<;>rfl
  | true=>simp only[QF,pJ,iB,Fy,Gy,if_true,Hy,Jy,Nat.reduceAdd,Nat.reduceSub,List.replicate,Ry,Qy,Zy,WA,HC,BB,dB,YA,yA,jA,vA,Dy,Ey,kA,iA,d6,e6,ew,Ly,Ky,QA,bB,LA,GA,kB,m6,CI,FD,x0,x1,s1,s2,s4,s6,Nat.zero_le,hc,cB,VC,JA];rcases(show N%6=0\/N%6=1\/N%6=2\/N%6=3\/N%6=4\/N%6=5 by omega)with z | z | z | z | z | z<;>rw[z]<;>rfl
 have nw:∀w:Wy,XA (.ways w)=[w.a,w.b]:=fun _=>rfl
 rcases(show N%6=0\/N%6=1\/N%6=2\/N%6=3\/N%6=4\/N%6=5 by omega)with z | z | z | z | z | z
 · rw[z]at key;exact⟨f0, "many",key,.many g0 o0⟩
 · rw[z]at key;refine⟨.ways ⟨"strange",1,lD nm 0⟩, "name",key,.name trivial ⟨"strange",by rw[nw];simp,ns⟩ fun s m=>?_⟩;rw[nw]at m;simp only[mem_cons,not_mem_nil,or_false]at m;rcases m with rfl | rfl
   · exact .inr rfl
   · exact .inl i0
 · rw[z]at key;refine⟨.ways ⟨lD nm 0,1,lD nm 0⟩, "bad",key,.bad trivial (fun s m=>?_) (by simp[bC,yD])⟩;rw[nw]at m;simp only[mem_cons,not_mem_nil,or_false]at m;rcases m with rfl | rfl<;>exact i0
 · rw[z]at key;refine⟨.ways ⟨lD nm 0,8192,lD nm 1⟩, "bad",key,.bad trivial (fun s m=>?_) (by simp[bC,yD])⟩;rw[nw]at m;simp only[mem_cons,not_mem_nil,or_false]at m;rcases m with rfl | rfl
   · exact i0
   · exact i1
 · rw[z]at key;refine⟨.long (lD nm 0) 5 4, "bad",key,.bad trivial (fun s m=>?_) (by simp[bC])⟩;simp only[XA,mem_singleton]at m;rw[m];exact i0
 · rw[z]at key;exact⟨.one [], "bad",key,.bad (by simp[YC]) (fun s m=>by simp[XA]at m) (by simp[bC])⟩
noncomputable def Fr(k:Nat)(h h':HI):Prop:=∀m o,m≠k->h[m]?=some o->h'[m]?=some o
theorem Fr.app(k:Nat)(h g:HI):Fr k h (h++g):=fun m o _ e=>dI e g
theorem Fr.set{k:Nat}{h h':HI}(F:Fr k h h')(x:Ob):Fr k h (h'.set k x):=fun m o n e=>by rw[getElem?_set_ne (Ne.symm n)];exact F m o n e
structure Bk(h:HI)(n d k:Nat)(nm ls:List Str)(fs:List Fc):Prop where
 ex:∃kept,j8 h n d k (PB 0 nm) kept/\kept.map (·.1)=ls.map Sum.inr/\kept.map (·.2)=fs.map (xB (B9 nm))
 ne:d≠k
theorem j8.set{h:HI}{n d k:Nat}{nums kept:List (qA×Dt)}(B:j8 h n d k nums kept)(ne:d≠k)(z:List (qA×Dt)):j8 (h.set k (.dk z)) n d k nums z:=by
 have nk:n≠k:=fun e=>by have a:=B.ob;rw[e,B.ke]at a;cases a
 refine⟨?_,?_,?_⟩
 · rw[getElem?_set_ne (Ne.symm nk)];exact B.ob
 · rw[getElem?_set_ne (Ne.symm ne)];exact B.nu
 · rw[getElem?_set_self (Sy B.ke).1]
theorem NQ{s:Str}{ls:List Str}:(Sum.inr s:qA)∈ls.map Sum.inr↔s∈ls:=by
 constructor
 · intro m;obtain⟨x,hx,e⟩:=mem_map.mp m;injection e with e
   exact e ▸ hx
 · intro m;exact mem_map.mpr ⟨s,m,rfl⟩
theorem UG{kept:List (qA×Dt)}{ls:List Str}(hk:kept.map (·.1)=ls.map Sum.inr){s:Str}:oB kept (.inr s)=none↔s∉ls:=by rw[T8,hk,NQ]
theorem uq{nm:List Str}{s:Str}:oB (PB 0 nm) (.inr s)=none↔s∉nm:=by rw[T8,IJ,NQ]
inductive DH(nm ls:List Str)(fs:List Fc)(z8:Str)(f:Fc):Str->Prop
 | twice:z8∈ls->DH nm ls fs z8 f "twice"
 | name:z8∉ls->(∃s∈XA f,s∉nm)->DH nm ls fs z8 f "name"
 | bad:z8∉ls->(∀s∈XA f,s∈nm)->bC f=false->DH nm ls fs z8 f "bad"
 | many:z8∉ls->(∀s∈XA f,s∈nm)->bC f=true->MD fs f=false->DH nm ls fs z8 f "many"
theorem Bk.put{h:HI}{n d k:Nat}{nm ls:List Str}{fs:List Fc}(B:Bk h n d k nm ls fs)(hl:fs.length<=60){z8:Str}(ol:t9 z8){f:Fc}(hs:YC f)(ok:∀s∈XA f,t9 s) :
 ∃h' w,aE [.ref n,.str z8,JA f] h=some (.str w,h')/\Fr k h h'/\
  ((DH nm ls fs z8 f w/\Bk h' n d k nm ls fs)\/(w = "good" /\ z8∉ls/\(∀s∈XA f,s∈nm)/\bC f=true/\MD fs f=true/\Bk h' n d k nm (ls++[z8]) (fs++[f]))):=by
 obtain⟨kept,A,hk,hf⟩:=B.ex;have lk:kept.length<=1000:=by have:=congrArg List.length hf;simp only[length_map]at this;omega
 obtain⟨g,dd,kk,e,P⟩:=W1 A lk ol hs ok GZ hf;have Hv:(∀s∈XA f,(oB (PB 0 nm) (.inr s)).isSome=true)->∀s∈XA f,s∈nm:=fun z s m=>Cj.mp (z s m)
 have Bg:Bk (h++g) n d k nm ls fs:=⟨⟨kept,A.app g,hk,hf⟩,B.ne⟩;cases P with
 | twice c=>
  refine⟨h++g, "twice",e,Fr.app k h g,.inl ⟨.twice ?_,Bg⟩⟩;by_cases m:z8∈ls
  · exact m
  · rw[(UG hk).mpr m]at c;cases c
 | name c1 c2=>obtain⟨s,m,z⟩:=c2;exact⟨h++g, "name",e,Fr.app k h g,.inl ⟨.name ((UG hk).mp c1) ⟨s,m,uq.mp z⟩,Bg⟩⟩
 | bad c1 c2 c3=>exact⟨h++g, "bad",e,Fr.app k h g,.inl ⟨.bad ((UG hk).mp c1) (Hv c2) c3,Bg⟩⟩
 | many c1 c2 c3 c4=>exact⟨h++g, "many",e,Fr.app k h g,.inl ⟨.many ((UG hk).mp c1) (Hv c2) c3 c4,Bg⟩⟩
 | good c1 c2 c3 c4=>
  refine⟨_, "good",e,(Fr.app k h g).set _,.inr ⟨rfl,(UG hk).mp c1,Hv c2,c3,c4,⟨⟨_,(A.app g).set B.ne _,?_,?_⟩,B.ne⟩⟩⟩
  · rw[AN _ c1,map_append,hk,map_append];rfl
  · rw[AN _ c1,map_append,hf,map_append];rfl
theorem GX{kept:List (qA×Dt)}{ls:List Str}(hk:kept.map (·.1)=ls.map Sum.inr)(nd:ls.Nodup){a:Nat}(ha:a<ls.length):EF kept (.inr ls[a])=kept.take a++kept.drop (a+1):=by
 have lk:kept.length=ls.length:=by have:=congrArg List.length hk;simpa using this
 have at_:∀(i:Nat)(hi:i<kept.length),kept[i].1=.inr (ls[i]'(by omega)):=fun i hi=>by have:=congrArg (fun l:List qA=>l[i]?) hk;simp only[getElem?_map,getElem?_eq_getElem hi,getElem?_eq_getElem (show i<ls.length by omega),Ny]at this;exact Option.some.inj this
 have key:∀(i:Nat)(hi:i<kept.length),kept[i].1=.inr ls[a]↔i=a:=fun i hi=>by
  rw[at_ i hi];constructor
  · intro e;injection e with e;exact YN nd (by omega) ha e
  · intro e;subst e;rfl
 have sp:kept=kept.take a++kept[a]'(by omega)::kept.drop (a+1):=by rw[<- drop_eq_getElem_cons (by omega),take_append_drop]
 have f1:(kept.take a).filter (fun p=>decide (p.1≠.inr ls[a]))=kept.take a:=by rw[filter_eq_self];intro p m;obtain⟨i,hi,e⟩:=mem_iff_getElem.mp m;rw[length_take]at hi;rw[getElem_take]at e;rw[<- e];have:=(key i (by omega)).mp;exact decide_eq_true fun z=>by have:=this z;omega
 have f2:(kept.drop (a+1)).filter (fun p=>decide (p.1≠.inr ls[a]))=kept.drop (a+1):=by rw[filter_eq_self];intro p m;obtain⟨i,hi,e⟩:=mem_iff_getElem.mp m;rw[length_drop]at hi;rw[getElem_drop]at e;rw[<- e];have:=(key (a+1+i) (by omega)).mp;exact decide_eq_true fun z=>by have:=this z;omega
 have f3:decide ((kept[a]'(by omega)).1≠.inr ls[a])=false:=decide_eq_false fun z=>z ((key a (by omega)).mpr rfl)
 unfold EF;rw[sp,filter_append,filter_cons,f3,f1,f2,<- sp];rfl
theorem Bk.take{h:HI}{n d k:Nat}{nm ls:List Str}{fs:List Fc}(B:Bk h n d k nm ls fs)(nd:ls.Nodup){a:Nat}(ha:a<ls.length) :
 ∃h',oF [.ref n,.str ls[a]] h=some (.non,h')/\Fr k h h'/\Bk h' n d k nm (ls.take a++ls.drop (a+1)) (fs.take a++fs.drop (a+1)):=by
 obtain⟨kept,A,hk,hf⟩:=B.ex;have e:∃v,oB kept (.inr ls[a])=some v:=by
  cases c:oB kept (.inr ls[a])with
  | some v=>exact⟨v,rfl⟩
  | none=>exact absurd (getElem_mem ha) ((UG hk).mp c)
 obtain⟨v,e⟩:=e;have et:=NZ A e;rw[GX hk nd ha]at et;refine⟨_,et,fun m o n e=>by rw[getElem?_set_ne (Ne.symm n)];exact e,⟨⟨_,A.set B.ne _,?_,?_⟩,B.ne⟩⟩
 · rw[map_append,map_take,map_drop,hk,map_append,map_take,map_drop]
 · rw[map_append,map_take,map_drop,hf,map_append,map_take,map_drop]
theorem Bk.stays{h:HI}{n d k:Nat}{nm ls:List Str}{fs:List Fc}(B:Bk h n d k nm ls fs)(nd:nm.Nodup)(hl:fs.length<=1000)(hs:∀f∈fs,Q8 nm f){d2 d3:Dt}(e2':VA h d2=some (ls.map Dt.str))(e3':VA h d3=some (fs.map JA)) :
 NF [.ref n,.lst (nm.map Dt.str),d2,d3] h=some (.bl true,h):=by
 obtain⟨kept,A,hk,hf⟩:=B.ex;exact eZ A nd hk hf hl (fun f m=>(hs f m).sm) (fun f m=>(hs f m).nm) e2' e3'
def MA(n:Nat):List Str:=(List.range n).map vC
theorem XJ(n:Nat):(MA n).length=n:=by simp[MA]
theorem CN{n j:Nat}(h:j<n):(MA n)[j]?=some (vC j):=by simp[MA,h]
theorem C9{n:Nat}{s:Str}:s∈MA n↔∃j<n,vC j=s:=by simp[MA]
theorem RN (n:Nat):("zz" :Str)∉MA n:=fun m=>by obtain⟨j,_,e⟩:=C9.mp m;exact J0 j e
theorem DZ{n:Nat}(h:n<=60):(MA n).Nodup:=by rw[List.Nodup,pairwise_iff_getElem];intro i j hi hj hij e;rw[XJ]at hi hj;simp only[MA,getElem_map,getElem_range]at e;have:=PQ (by omega) (by omega) e;omega
theorem Q8.t9{nm:List Str}(okn:∀s∈nm,t9 s){f:Fc}(g:Q8 nm f):∀s∈XA f,t9 s:=fun s m=>okn s (g.nm s m)
theorem MU(fs:List Fc){j:Nat}{f:Fc}(e:fs[j]?=some f):((fs.take j).filter FA).length+(if FA f=true then 1 else 0)<=(fs.filter FA).length:=by rw[<- BJ,<- SI e];exact((take_sublist _ _).filter _).length_le
theorem sY{nm:List Str}(okn:∀s∈nm,t9 s){gr:Bool}{fs:List Fc}(F:iF nm gr fs){h:HI}{n d k a:Nat}(B:Bk h n d k nm [] [])(ha:h[a]?=some (.lst (fs.map JA)))(nk:a≠k)(x0 x1 x2 x3:Option Dt) :
 ∃y h',pC (KA 7) ZG ((List.range fs.length).map fun(k:Nat)=>Dt.int (k:Int)) [x0,x1,x2,x3,some (.ref a),some (.lst ((MA fs.length).map Dt.str)),some (.ref n),none,none,none,none,none,none] h=some (.nx [x0,x1,x2,x3,some (.ref a),some (.lst ((MA fs.length).map Dt.str)),some (.ref n),y,none,none,none,none,none] h')/\Bk h' n d k nm (MA fs.length) fs/\h'[a]?=some (.lst (fs.map JA)):=by
 obtain⟨l',h',e,⟨y,rfl⟩,B',ha'⟩:=rV (i:=7) (body:=ZG) (fun(k:Nat)=>Dt.int (k:Int)) (fun j l h'=>(∃y,l=[x0,x1,x2,x3,some (.ref a),some (.lst ((MA fs.length).map Dt.str)),some (.ref n),y,none,none,none,none,none])/\Bk h' n d k nm (MA j) (fs.take j)/\h'[a]?=some (.lst (fs.map JA))) fs.length (by
  rintro j hj l h' ⟨⟨y,rfl⟩,B',ha'⟩;have ef:fs[j]?=some fs[j]:=getElem?_eq_getElem hj;have gf:=F.good fs[j] (getElem_mem hj);have x5:wA (.lst ((MA fs.length).map Dt.str)) (.int (j:Nat)) h'=some (.str (vC j),h'):=by rw[jG,SM.ED,getElem?_map,CN hj];rfl
  have x4:wA (.ref a) (.int (j:Nat)) h'=some (JA fs[j],h'):=by rw[DO ha',SM.ED,getElem?_map,ef];rfl
  obtain⟨h2,w,ep,fr,c⟩:=B'.put (by rw[length_take];have:=F.len;omega) (WR j) gf.sm (gf.t9 okn);have nl:vC j∉MA j:=fun m=>by obtain⟨i,hi,e⟩:=C9.mp m;have:=PQ (by have:=F.len;omega) (by have:=F.len;omega) e;omega
  have rm:MD (fs.take j) fs[j]=true:=by
   unfold MD;have l1:(fs.take j).length<60:=by rw[length_take];have:=F.len;omega
   rw[decide_eq_true l1,Bool.true_and];cases q:FA fs[j]with
   | false=>rfl
   | true=>have:=MU fs ef;rw[q,if_pos rfl]at this;have:=F.few;rw[decide_eq_true (by omega)];rfl
  rcases c with⟨T,_⟩ | ⟨rfl,_,_,_,_,B2⟩
  · exfalso;cases T with
    | twice z=>exact nl z
    | name _ z=>obtain⟨s,m,z⟩:=z;exact z (gf.nm s m)
    | bad _ _ z=>rw[gf.so]at z;cases z
    | many _ _ _ z=>rw[rm]at z;cases z
  · refine⟨.nx [x0,x1,x2,x3,some (.ref a),some (.lst ((MA fs.length).map Dt.str)),some (.ref n),some (.int (j:Nat)),none,none,none,none,none] h2,?_,⟨_,rfl⟩,?_,fr a _ nk ha'⟩
    · simp only[ZG,bB,LA,yA,BB,dB,YA,jA,vA,Ly,Ky,Dy,Ey,kA,iA,x5,x4,Zy,ep,uH,decide_true,Bool.not_true,GA,cg,if_false,kB]
    · rw[SI ef,show MA (j+1)=MA j++[vC j] by simp[MA,range_succ]];exact B2) [x0,x1,x2,x3,some (.ref a),some (.lst ((MA fs.length).map Dt.str)),some (.ref n),none,none,none,none,none,none] h ⟨⟨_,rfl⟩,by simpa[MA]using B,ha⟩
 rw[take_length]at B';exact⟨y,h',e,B',ha'⟩
theorem qW{nm:List Str}{gr:Bool}{fs:List Fc}(F:iF nm gr fs){f:Fc}(e:FA f=gr):MD fs f=false:=by
 unfold MD;cases gr with
 | false=>have:=F.full rfl;rw[decide_eq_false (by omega),Bool.false_and]
 | true=>have:=F.six rfl;rw[e,decide_eq_false (show ¬(fs.filter FA).length<6 by omega)];simp
theorem More.put{nm:List Str}(okn:∀s∈nm,t9 s){gr:Bool}{fs:List Fc}(F:iF nm gr fs){f:Fc}{w:Str}(M:More nm gr f w){h:HI}{n d k:Nat}(B:Bk h n d k nm (MA fs.length) fs) :
 ∃h',aE [.ref n,.str "zz",JA f] h=some (.str w,h')/\Fr k h h'/\Bk h' n d k nm (MA fs.length) fs:=by
 have sm:YC f:=by cases M with | many g _=>exact g.sm | name s _ _=>exact s | bad s _ _=>exact s
 have ok:∀s∈XA f,t9 s:=fun s m=>by
  cases M with
  | many g _=>exact okn s (g.nm s m)
  | name _ _ z=>
   rcases z s m with z | z
   · exact okn s z
   · rw[z];exact JP
  | bad _ z _=>exact okn s (z s m)
 obtain⟨h2,w',ep,fr,c⟩:=B.put F.len ZR sm ok;have nz:=RN fs.length;cases M with
 | many g o=>
  rcases c with⟨T,B'⟩ | ⟨rfl,_,_,_,z,_⟩
  · cases T with
    | twice z=>exact absurd z nz
    | name _ z=>obtain⟨s,m,z⟩:=z;exact absurd (g.nm s m) z
    | bad _ _ z=>rw[g.so]at z;cases z
    | many _ _ _ _=>exact⟨h2,ep,fr,B'⟩
  · rw[qW F o]at z;cases z
 | name _ x _=>
  obtain⟨s,m,x⟩:=x;rcases c with⟨T,B'⟩ | ⟨rfl,_,z,_,_,_⟩
  · cases T with
    | twice z=>exact absurd z nz
    | name _ _=>exact⟨h2,ep,fr,B'⟩
    | bad _ z _=>exact absurd (z s m) x
    | many _ z _ _=>exact absurd (z s m) x
  · exact absurd (z s m) x
 | bad _ x y=>
  rcases c with⟨T,B'⟩ | ⟨rfl,_,_,z,_,_⟩
  · cases T with
    | twice z=>exact absurd z nz
    | name _ z=>obtain⟨s,m,z⟩:=z;exact absurd (x s m) z
    | bad _ _ _=>exact⟨h2,ep,fr,B'⟩
    | many _ _ z _=>rw[y]at z;cases z
  · rw[y]at z;cases z
theorem w5{nm:List Str}(nd:nm.Nodup)(okn:∀s∈nm,t9 s){gr:Bool}{fs:List Fc}(F:iF nm gr fs){f:Fc}{w:Str}(M:More nm gr f w){h:HI}{n d k a:Nat}(B:Bk h n d k nm (MA fs.length) fs)(ha:h[a]?=some (.lst (fs.map JA)))(nk:a≠k)(x0 x2 x3 x7:Option Dt) :
 ∃y h',pC (KA 10) aH ((List.range 2).map fun(k:Nat)=>Dt.int (k:Int)) [x0,some (.lst (nm.map Dt.str)),x2,x3,some (.ref a),some (.lst ((MA fs.length).map Dt.str)),some (.ref n),x7,some (JA f),some (.str w),none,none,none] h=some (.nx [x0,some (.lst (nm.map Dt.str)),x2,x3,some (.ref a),some (.lst ((MA fs.length).map Dt.str)),some (.ref n),x7,some (JA f),some (.str w),y,none,none] h')/\Bk h' n d k nm (MA fs.length) fs/\h'[a]?=some (.lst (fs.map JA)):=by
 obtain⟨l',h',e,⟨y,rfl⟩,B',ha'⟩:=UJ (i:=10) (body:=aH) (fun(k:Nat)=>Dt.int (k:Int)) (fun l h'=>(∃y,l=[x0,some (.lst (nm.map Dt.str)),x2,x3,some (.ref a),some (.lst ((MA fs.length).map Dt.str)),some (.ref n),x7,some (JA f),some (.str w),y,none,none])/\Bk h' n d k nm (MA fs.length) fs/\h'[a]?=some (.lst (fs.map JA))) (List.range 2) (by
  rintro j _ l h' ⟨⟨y,rfl⟩,B',ha'⟩;obtain⟨h2,ep,fr,B2⟩:=M.put okn F B';have ha2:=fr a _ nk ha';have es:=B2.stays nd (by have:=F.len;omega) F.good (d2:=.lst ((MA fs.length).map Dt.str)) (d3:=.ref a) rfl (lQ ha2);refine⟨.nx [x0,some (.lst (nm.map Dt.str)),x2,x3,some (.ref a),some (.lst ((MA fs.length).map Dt.str)),some (.ref n),x7,some (JA f),some (.str w),some (.int (j:Nat)),none,none] h2,?_,⟨_,rfl⟩,B2,ha2⟩;simp only[aH,bB,DE,wD,LA,yA,BB,dB,YA,jA,vA,Ly,Ky,Dy,Ey,kA,iA,Zy,ep,uH,decide_true,Bool.not_true,GA,cg,if_false,es,kB]) _ h ⟨⟨_,rfl⟩,B,ha⟩
 exact⟨y,h',e,B',ha'⟩
def sO:RS:=gA (EA 11 (JC (fF (cC mB (eV 4))) (KA 0) VF YG [none,some 3,some 4])) (gA (EA 12 (e2 wA (eV 11) (e2 fB (e2 RB (eV 2) (eC (.int 2))) (cC mB (eV 11))))) (gA (AF (wK (JD "Book" "take" oF (eV 6) (bA (e2 wA (eV 5) (eV 12)) fA)))) (gA (QB (b8 (e2 IB (BA aE [] (bA (eV 6) (bA (eC (.str "zz")) (bA (eV 8) fA)))) (eC (.str "good")))) (xA (eC (.bl false))) SA) (xA (BA NF [] (bA (eV 6) (bA (eV 1) (bA (e2 wC (e2 wC (wH (eV 5) VI (KF (eV 12))) (wH (eV 5) (KF (e2 HB (eV 12) (eC (.int 1)))) VI)) (uC (bA (eC (.str "zz")) fA))) (bA (e2 wC (e2 wC (wH (eV 4) VI (KF (eV 12))) (wH (eV 4) (KF (e2 HB (eV 12) (eC (.int 1)))) VI)) (uC (bA (eV 8) fA))) fA)))))))))
def eS:RS->RS:=fun t=>gA (EA 1 (JC (fF (e2 HB (eC (.int 2)) (e2 fB (BA YD [] (bA (eV 0) (bA (eC (.int 0)) fA))) (eC (.int 7))))) (KA 0) rB WG [none,some 0])) (gA (EA 2 (BA iD [] (bA (BA YD [] (bA (eV 0) (bA (eC (.int 2)) fA))) (bA (eC (.int 3)) fA)))) (gA (EA 3 (e2 EB (e2 fB (eV 2) (eC (.int 2))) (eC (.int 1)))) (gA (EA 4 (BA OH [] (bA (eV 1) (bA (wH (eV 0) (KF (eC (.int 3))) (KF (eC (.int 63)))) (bA (e2 RB (eV 2) (eC (.int 2))) (bA (eV 3) fA)))))) (gA (EA 5 (JC (fF (cC mB (eV 4))) (KA 0) rB XG [none])) (gA (EA 6 (GI "Book" MG (bA (cC DF (eV 1)) fA))) (gA (TC (fF (cC mB (eV 4))) (KA 7) ZG) (gA (fJ (pG 8 9) (BA QF [] (bA (eV 1) (bA (BA iD [] (bA (eV 2) (bA (eC (.int 4)) fA))) (bA (eV 3) fA))))) (gA (QB (b8 (e2 IB (BA aE [] (bA (eV 6) (bA (e2 wA (eV 5) (e2 fB (e2 RB (eV 2) (eC (.int 2))) (cC mB (eV 5)))) (bA (eV 8) fA)))) (eC (.str "twice")))) (xA (eC (.bl false))) SA) (gA (TC (fF (eC (.int 2))) (KA 10) aH) (gA (QB (b8 (e2 IB (eV 9) (eC (.str "many")))) (xA (eC (.bl true))) SA) t))))))))))
theorem K0:AK=eS sO:=rfl
theorem rZ {x y:Dt}:mC "take" [("numbers",x),("kept",y)]=none:=by rfl
theorem wN{α:Type}(xs:List α)(j:Nat):(xs.take j++xs.drop (j+1)).length<=xs.length:=by rw[length_append,length_take,length_drop];omega
theorem lX{nm:List Str}(nd:nm.Nodup)(okn:∀s∈nm,t9 s){gr:Bool}{fs:List Fc}(F:iF nm gr fs)(f0:1<=fs.length){f:Fc}(gf:Q8 nm f)(of:FA f=gr){h:HI}{n d k a N:Nat}(B:Bk h n d k nm (MA fs.length) fs)(ha:h[a]?=some (.lst (fs.map JA)))(nk:a≠k)(x0 x7 x9 x10:Option Dt) :
 ∃h',sO [x0,some (.lst (nm.map Dt.str)),some (.int (N:Nat)),some (.bl gr),some (.ref a),some (.lst ((MA fs.length).map Dt.str)),some (.ref n),x7,some (JA f),x9,x10,none,none] h=some (.rt (.bl true) h'):=by
 have len:=F.len;have s1:1<=sizeLine:=by decide
 have lf:=tK ha;rw[length_map]at lf;have r1:=UE (c:=fs.length) (by omega) h;have ca:=VJ (te:=YG) (i:=0) (tc:=VF) (fun(k:Nat)=>Dt.int (k:Int)) (fun j=>!gr || (fs[j]?.map FA).getD false) (fun j=>Dt.int (j:Int)) h (List.range fs.length) [none,some (.bl gr),some (.ref a)] (by
  intro j hj;have hj:=mem_range.mp hj;have ef:fs[j]?=some fs[j]:=getElem?_eq_getElem hj;have x4:wA (.ref a) (.int (j:Nat)) h=some (JA fs[j],h):=by rw[DO ha,SM.ED,getElem?_map,ef];rfl
  have hf:=NN fs[j] h;have hd:=ON fs[j];refine⟨?_,fun _=>by simp only[YG,jA,Ky,Dy,kA]⟩;rw[ef];cases gr with
  | false=>simp only[VF,DE,wD,LA,jA,Ky,Dy,Ey,kA,iA,GA,Bool.not_false,if_true,Bool.true_or]
  | true=>simp only[VF,DE,wD,LA,yA,jA,vA,Ky,Dy,Ey,kA,iA,GA,Bool.not_true,cg,if_false,x4,hf,VB,hd,Ny,Option.getD_some,Bool.false_or])
 generalize hp:(List.range fs.length).filter (fun j=>!gr || (fs[j]?.map FA).getD false)=ps at ca;have pm:∀j∈ps,j<fs.length/\(gr=true->(fs[j]?.map FA).getD false=true):=fun j m=>by rw[<- hp,mem_filter]at m;obtain⟨m1,m2⟩:=m;refine⟨mem_range.mp m1,fun e=>?_⟩;rw[e]at m2;simpa using m2
 have p0:0<ps.length:=by
  rw[<- hp];apply length_pos_iff.mpr;intro z;rw[filter_eq_nil_iff]at z;cases gr with
  | false=>exact z 0 (mem_range.mpr (by omega)) rfl
  | true=>
   have:=F.six rfl;obtain⟨g,hg⟩:∃g,g∈fs.filter FA:=exists_mem_of_ne_nil _ (fun e=>by rw[e]at this;simp at this)
   obtain⟨m1,m2⟩:=mem_filter.mp hg;obtain⟨j,hj,e⟩:=mem_iff_getElem.mp m1;apply z j (mem_range.mpr hj);rw[getElem?_eq_getElem hj,e];simpa using m2
 have ck:=ZD (l:=[none,some (.bl gr),some (.ref a)]) (h:=h) (KA 0) VF YG (xs:=(List.range fs.length).map fun(k:Nat)=>Dt.int (k:Int)) (by rw[length_map,length_range];simp[sizeLine];omega);rw[ca]at ck;have pl:N/2%ps.length<ps.length:=Nat.mod_lt _ p0;obtain⟨j,hj⟩:∃j,ps[N/2%ps.length]?=some j:=⟨_,getElem?_eq_getElem pl⟩
 obtain⟨jl,jg⟩:=pm j (mem_of_getElem? hj);have d2:=fun(h:HI)=>uD (h:=h) (i:=(N:Int)) (j:=2) ⟨by decide,by decide⟩
 have ml:=fun(h:HI)=>wB (h:=h) (i:=(N:Int)/2) (j:=(ps.length:Int)) (by omega)
 rw[show(N:Int)/2%(ps.length:Int)=((N/2%ps.length:Nat):Int)from rfl]at ml;have xp:wA (.lst (ps.map fun(j:Nat)=>Dt.int (j:Int))) (.int ((N/2%ps.length:Nat):Int)) h=some (.int (j:Nat),h):=by rw[jG,SM.ED,getElem?_map,hj];rfl
 have xl:wA (.lst ((MA fs.length).map Dt.str)) (.int (j:Nat)) h=some (.str (vC j),h):=by rw[jG,SM.ED,getElem?_map,CN jl];rfl
 have jL:j<(MA fs.length).length:=by rw[XJ];exact jl
 obtain⟨kept,A,_⟩:=B.ex;obtain⟨h1,et,Zw,B1⟩:=B.take (DZ len) jL;have lj:(MA fs.length)[j]=vC j:=by simp[MA]
 rw[lj]at et;have mt:=VG (x := "Book") (m := "take") (F:=oF) (ga:=bA (e2 wA (eV 5) (eV 12)) fA) (l:=[x0,some (.lst (nm.map Dt.str)),some (.int (N:Nat)),some (.bl gr),some (.ref a),some (.lst ((MA fs.length).map Dt.str)),some (.ref n),x7,some (JA f),x9,x10,some (.lst (ps.map fun(j:Nat)=>Dt.int (j:Int))),some (.int (j:Nat))]) A.ob rZ;obtain⟨h2,w,ep,wk,c⟩:=B1.put (Nat.le_trans (wN fs j) len) ZR gf.sm (gf.t9 okn);have nz:("zz" :Str)∉(MA fs.length).take j++(MA fs.length).drop (j+1):=fun m=>by
  rcases mem_append.mp m with z | z
  · exact RN _ (mem_of_mem_take z)
  · exact RN _ (mem_of_mem_drop z)
 have ef:fs[j]?=some fs[j]:=getElem?_eq_getElem jl;have rm:MD (fs.take j++fs.drop (j+1)) f=true:=by
  unfold MD;have l1:(fs.take j++fs.drop (j+1)).length<60:=by rw[length_append,length_take,length_drop];omega
  rw[decide_eq_true l1,Bool.true_and,of];cases gr with
  | false=>rfl
  | true=>
   have o1:=jg rfl;rw[ef]at o1;have o1:FA fs[j]=true:=o1;have sx:=F.six rfl;have sp:fs=fs.take j++fs[j]::fs.drop (j+1):=by rw[<- drop_eq_getElem_cons jl,take_append_drop]
   rw[sp,filter_append,filter_cons,if_pos o1,length_append,Fy]at sx;have:((fs.take j++fs.drop (j+1)).filter FA).length<6:=by rw[filter_append,length_append];omega
   rw[decide_eq_true this];rfl
 rcases c with⟨T,_⟩ | ⟨rfl,_,_,_,_,B2⟩
 · exfalso;cases T with
   | twice z=>exact nz z
   | name _ z=>obtain⟨s,m,z⟩:=z;exact z (gf.nm s m)
   | bad _ _ z=>rw[gf.so]at z;cases z
   | many _ _ _ z=>rw[rm]at z;cases z
 · have ha2:=wk a _ nk (Zw a _ nk ha);have sq:=lQ ha2;have cs:∀{α:Type}(D:α->Dt)(xs:List α)(_:xs.length<=60)(d:Dt),wC (.lst ((xs.map D).take j)) (.lst ((xs.map D).drop (j+1))) h2=some (.lst ((xs.map D).take j++(xs.map D).drop (j+1)),h2)/\wC (.lst ((xs.map D).take j++(xs.map D).drop (j+1))) (.lst [d]) h2=some (.lst ((xs.map D).take j++(xs.map D).drop (j+1)++[d]),h2):=fun D xs hx d=>by
    have:=wN (xs.map D) j;rw[length_map]at this;refine⟨CO ?_,CO ?_⟩
    · rw[<- length_append];exact Nat.le_trans this (Nat.le_trans hx (by decide))
    · exact Nat.le_trans (Nat.add_le_add this (Xy 1)) (Nat.le_trans (Nat.add_le_add hx (Xy 1)) (by decide))
   obtain⟨c1,c2⟩:=cs Dt.str (MA fs.length) (by rw[XJ];exact len) (.str "zz");obtain⟨c3,c4⟩:=cs JA fs len (JA f);have ct:=yR ((MA fs.length).map Dt.str) j;have cf:=MP ((MA fs.length).map Dt.str) (j+1);have Jw:=yR (fs.map JA) j;have Iw:=MP (fs.map JA) (j+1);have ej:(j:Int)+1=((j+1:Nat):Int):=rfl;have es:=B2.stays nd (by rw[length_append];have:=wN fs j;simp only[Fy,Gy];omega) (fun g m=>by
    rcases mem_append.mp m with z | z
    · rcases mem_append.mp z with z | z
      · exact F.good g (mem_of_mem_take z)
      · exact F.good g (mem_of_mem_drop z)
    · rw[mem_singleton.mp z];exact gf) (d2:=.lst (((MA fs.length).map Dt.str).take j++((MA fs.length).map Dt.str).drop (j+1)++[.str "zz"])) (d3:=.lst ((fs.map JA).take j++(fs.map JA).drop (j+1)++[JA f])) (by simp only[PJ,map_append,map_take,map_drop,Hy,Jy]) (by simp only[PJ,map_append,map_take,map_drop,Hy,Jy])
   have nt:IR (.non,h1)=some (.non,h1):=rfl;refine⟨h2,?_⟩;simp only[sO,WA,HC,WE,lG,DC,jA,Dy,Ey,kA,iA,lf,r1,xE,ZF,uE,Option.join_some,ck,Ly,Ky,QA,yA,vA,d2,QE,length_map,ml,xp,gI,lY,iI,mt,dB,YA,xl,et,nt,bB,LA,BB,Zy,Ry,Qy,ep,uH,decide_true,Bool.not_true,GA,cg,if_false,kB,cB,jS,o6,kS,lR,PJ,sq,Ny,ct,LD,ej,cf,c1,CI,Fy,Gy,Nat.reduceAdd,s1,if_true,c2,Jw,Iw,c3,c4,es]
theorem EZ{c n:Nat}(h:n<=8):(KO c n).Nodup:=by rw[List.Nodup,pairwise_iff_getElem];intro i j hi hj hij e;simp only[KO,length_map,length_range]at hi hj;simp only[KO,getElem_map,getElem_range]at e;have:=DW (by omega) (by omega) e;omega
theorem law_true(ns:List Int)(hl:ns.length<=63):∃h',mG [.lst (ns.map Dt.int)] []=some (.bl true,h'):=by
 have c0:=dO ns 0 [];have m7:=fun(h:HI)=>wB (h:=h) (i:=ns[0]?.getD 0) (j:=7) (by decide)
 have z0:=Int.emod_nonneg (ns[0]?.getD 0) (show(7:Int)≠0 by decide);have z1:=Int.emod_lt_of_pos (ns[0]?.getD 0) (show(0:Int)<7 by decide);obtain⟨t,ht⟩:=Int.eq_ofNat_of_zero_le z0;rw[ht]at m7 z1;obtain⟨m,hm⟩:∃m,m=2+t:=⟨_,rfl⟩
 have em:(2:Int)+(t:Int)=(m:Int):=by omega
 have r1:=UE (c:=m) (by omega) [];obtain⟨c,hc⟩:=Int.eq_ofNat_of_zero_le (Int.emod_nonneg (ns[1]?.getD 0) (show(1000003:Int)≠0 by decide));obtain⟨g,eg⟩:=LP (te:=WG) (i:=0) (fun(k:Nat)=>Dt.int (k:Int)) (fun k=>Dt.str (bD c k)) [] (List.range m) [none,some (.lst (ns.map Dt.int))] [] (by
  intro k hk e;have hk:=mem_range.mp hk;have c1:=dO ns 1 ([]++e);have c1:YD [.lst (ns.map Dt.int),.int 1] ([]++e)=some (.int (ns[1]?.getD 0),[]++e):=c1;obtain⟨g,en⟩:=X1 (ns[1]?.getD 0) hc (show k<8 by omega) ([]++e);refine⟨g,?_⟩;simp only[WG,BB,dB,YA,jA,vA,Ky,Dy,Ey,kA,iA,Zy,Ry,c1,en])
 simp only[Qy]at eg;have ck:=ZD (l:=[none,some (.lst (ns.map Dt.int))]) (h:=[]) (KA 0) rB WG (xs:=(List.range m).map fun(k:Nat)=>Dt.int (k:Int)) (by rw[length_map,length_range];simp[sizeLine];omega);rw[eg]at ck;obtain⟨nm,hnm⟩:∃nm,nm=KO c m:=⟨_,rfl⟩
 have en:(List.range m).map (fun k=>Dt.str (bD c k))=nm.map Dt.str:=by rw[hnm,KO,map_map];rfl
 rw[en]at ck;have nd:nm.Nodup:=hnm ▸ EZ (by omega);have nl:nm.length=m:=by rw[hnm];simp[KO]
 have mem:∀s∈nm,∃k<8,bD c k=s:=fun s z=>by rw[hnm]at z;obtain⟨k,hk,e⟩:=mem_map.mp z;exact⟨k,by have:=mem_range.mp hk;omega,e⟩
 have okn:∀s∈nm,t9 s:=fun s z=>by obtain⟨k,hk,rfl⟩:=mem s z;exact GW hk
 have Wk:("strange" :Str)∉nm:=fun z=>by obtain⟨k,hk,e⟩:=mem _ z;exact zU hk e
 have c2:=dO ns 2 g;have c2:YD [.lst (ns.map Dt.int),.int 2] g=some (.int (ns[2]?.getD 0),g):=c2;obtain⟨N,hN,eN⟩:=WJ (ns[2]?.getD 0) (k:=3) (by decide) g;have eN:iD [.int (ns[2]?.getD 0),.int 3] g=some (.int (N:Nat),g):=eN;have m2:=fun(h:HI)=>wB (h:=h) (i:=(N:Int)) (j:=2) (by decide)
 obtain⟨gr,hgr⟩:∃gr,gr=decide ((N:Int)%2=1):=⟨_,rfl⟩
 obtain⟨ms,Vw,_⟩:=P1 ns;have d2:=fun(h:HI)=>uD (h:=h) (i:=(N:Int)) (j:=2) ⟨by decide,by decide⟩
 have e2':(N:Int)/2=((N/2:Nat):Int):=rfl;obtain⟨fs,ef,F⟩:=NW nd (by omega) (by omega) ms (N/2) gr g;have len:=F.len;have f0:1<=fs.length:=by
  cases q:gr with
  | false=>have:=F.full q;omega
  | true=>have:=F.six q;have:=length_filter_le FA fs;omega
 obtain⟨h1,hh1⟩:∃h1:HI,h1=g++[.lst (fs.map JA)]:=⟨_,rfl⟩
 rw[<- hh1]at ef;have a1:h1[g.length]?=some (.lst (fs.map JA)):=by rw[hh1];exact cE _ _ _
 have lf:=tK a1;rw[length_map]at lf;have rl:=fun(h:HI)=>UE (c:=fs.length) (by omega) h
 have cl:=sF (te:=XG) (i:=0) (tc:=rB) (fun(k:Nat)=>Dt.int (k:Int)) (fun k=>Dt.str (vC k)) h1 (List.range fs.length) [none] fun k _=>⟨rfl,by
  have:=HX k h1;simp only[XG,BB,dB,YA,jA,Ky,Dy,kA,iA,Zy,this]⟩
 have Xv:=ZD (l:=[none]) (h:=h1) (KA 0) rB XG (xs:=(List.range fs.length).map fun(k:Nat)=>Dt.int (k:Int)) (by rw[length_map,length_range];simp[sizeLine];omega);rw[cl,show(List.range fs.length).map (fun k=>Dt.str (vC k))=(MA fs.length).map Dt.str by rw[MA,map_map];rfl]at Xv;have ei:=U1 (nm:=nm) (by omega) nd h1;obtain⟨h2,Jq⟩:∃h2:HI,h2=h1++[.ins "Book" [("numbers", .ref (h1.length+1)),("kept", .ref (h1.length+2))],.dk (PB 0 nm),.dk []]:=⟨_,rfl⟩
 rw[<- Jq]at ei;have B2:Bk h2 h1.length (h1.length+1) (h1.length+2) nm [] []:=by
  refine⟨⟨[],⟨?_,?_,?_⟩,rfl,rfl⟩,by omega⟩
  · rw[Jq];exact cE _ _ _
  · rw[Jq];exact SO _ _ _ _
  · rw[Jq,Yy (by omega),show h1.length+2-h1.length=2 by omega];rfl
 have a2:h2[g.length]?=some (.lst (fs.map JA)):=by rw[Jq];exact dI a1 _
 have iw:=tK a2;rw[length_map]at iw;have l1:h1.length=g.length+1:=by rw[hh1];simp
 have nk:g.length≠h1.length+2:=by omega
 obtain⟨y7,h3,ep,B3,a3⟩:=sY okn F B2 a2 nk (some (.lst (ns.map Dt.int))) (some (.lst (nm.map Dt.str))) (some (.int (N:Nat))) (some (.bl gr));obtain⟨N4,zy,Xz⟩:=WJ (N:Int) (k:=4) (by decide) h3;have Xz:iD [.int (N:Nat),.int 4] h3=some (.int (N4:Nat),h3):=Xz;obtain⟨f,w,eo,M⟩:=BV nd Wk (by omega) (by omega) N4 gr h3;have ml:=fun(h:HI)=>wB (h:=h) (i:=((N/2:Nat):Int)) (j:=(fs.length:Int)) (by omega)
 rw[show((N/2:Nat):Int)%(fs.length:Int)=((N/2%fs.length:Nat):Int)from rfl]at ml;have pl:N/2%fs.length<fs.length:=Nat.mod_lt _ (by omega);have xl:wA (.lst ((MA fs.length).map Dt.str)) (.int ((N/2%fs.length:Nat):Int)) h3=some (.str (vC (N/2%fs.length)),h3):=by rw[jG,SM.ED,getElem?_map,CN pl];rfl
 have sm:YC f:=by cases M with | many g _=>exact g.sm | name s _ _=>exact s | bad s _ _=>exact s
 have ok:∀s∈XA f,t9 s:=fun s m=>by
  cases M with
  | many g _=>exact okn s (g.nm s m)
  | name _ _ z=>
   rcases z s m with z | z
   · exact okn s z
   · rw[z];exact JP
  | bad _ z _=>exact okn s (z s m)
 obtain⟨h4,w4,e4,Qz,c4⟩:=B3.put len (WR (N/2%fs.length)) sm ok;have il:vC (N/2%fs.length)∈MA fs.length:=C9.mpr ⟨_,pl,rfl⟩;have c4:w4 = "twice" /\ Bk h4 h1.length (h1.length+1) (h1.length+2) nm (MA fs.length) fs:=by
  rcases c4 with⟨T,B4⟩ | ⟨_,z,_⟩
  · cases T with
    | twice _=>exact⟨rfl,B4⟩
    | name z _=>exact absurd il z
    | bad z _ _=>exact absurd il z
    | many z _ _ _=>exact absurd il z
  · exact absurd il z
 obtain⟨rfl,B4⟩:=c4;have a4:=Qz _ _ nk a3;obtain⟨y10,h5,e5,B5,a5⟩:=w5 nd okn F M B4 a4 nk (some (.lst (ns.map Dt.int))) (some (.int (N:Nat))) (some (.bl gr)) y7;have r2:=UE (c:=2) (by decide) h4;have r2:ZO (.int 2,h4)=some (.vals ((List.range 2).map fun(k:Nat)=>Dt.int (k:Int)),h4):=r2;have c0:YD [.lst (ns.map Dt.int),.int 0] []=some (.int (ns[0]?.getD 0),[]):=c0;generalize hX:mG [.lst (ns.map Dt.int)] []=X;simp only[mG,K0,eS,iB,Fy,Gy,if_true,Hy (f:=some),Jy (f:=some),Nat.reduceAdd,Nat.reduceSub,List.replicate,Ry,Qy,WA,HC,WE,lG,yA,vA,BB,dB,YA,jA,Dy,Ey,kA,iA,Zy,c0,m7,LD,em,r1,xE,ZF,uE,Option.join_some,ck,Ly,Ky,QA,c2,eN,m2,GG,<- hgr,jS,kS,lR,PJ,Ny,Vw,d2,e2',ef,DC,lf,rl,Xv,M4,qZ,ei,TV,iw,xF,RF,ep,j6,Xz,eo,XQ,bB,LA,QE,length_map,XJ,ml,xl,e4,uH,decide_true,Bool.not_true,GA,cg,if_false,kB,r2,e5]at hX;cases M with
 | many gf of=>obtain⟨h6,e6⟩:=lX nd okn F f0 gf of (N:=N) B5 a5 nk (some (.lst (ns.map Dt.int))) y7 (some (.str "many")) y10;simp only[decide_true,Bool.not_true,cg,if_false,kB,iA,QA,e6,OA]at hX;exact⟨h6,hX.symm⟩
 | name _ _ _=>
  have:decide (("name" :Str) = "many")=false:=by decide
  simp only[this,Bool.not_false,if_true,cB,vA,iA,gC,OA]at hX;exact⟨_,hX.symm⟩
 | bad _ _ _=>
  have:decide (("bad" :Str) = "many")=false:=by decide
  simp only[this,Bool.not_false,if_true,cB,vA,iA,gC,OA]at hX;exact⟨_,hX.symm⟩
set_option maxHeartbeats 0 in
theorem N1 {l:PySem.W.OpenLaw} {w:World} {K:Frag} {h:Heap} {mg:Str->Option Value} {fa:Addr} (X:K.In h) (G:h.Ns mainGlobals mg) (hfa:mg "law" =some (.ref fa))
 {J8:Addr} {i8:Addr} {W7:Addr} {a8:Addr} {S7:Addr} {X7:Addr} {P7:Addr} {Q7:Addr} {Wj:Value} {fj:Value} {S9:Value} {L9:Value} {K9:Value}
 (yq0:WI K "Book" J8) (yq1:findIn K (.ref J8) "numbers" =some none) (yq2:findIn K (.ref J8) "kept" =some none) (yq3:OB K "groups_in" uM) (yq4:OB K "is_length" vM) (yq5:OB K "has_room" NM) (yq6:OB K "names_in" QM) (yq7:OB K "is_sound" PM) (yq8:OB K "by_numbers" FM) (yq9:OB K "copied" qN) (yq10:CF K J8 "__init__" "Book.__init__" GL) (yq11:CF K J8 "put" "Book.put" KM) (yq12:CF K J8 "take" "Book.take" qM) (yq13:CF K J8 "let_in" "Book.let_in" bM) (yq14:CF K J8 "labels" "Book.labels" aM) (yq15:CF K J8 "facts" "Book.facts" wM) (yq16:OB K "_law_cell_at" eM) (yq17:OB K "_law_mixed" yM) (yq18:OB K "_law_name_by" jM) (yq19:OB K "_law_whole" DM) (yq20:OB K "_law_texts" BM) (yq21:OB K "_law_fact_alike" LL) (yq22:OB K "_law_facts_alike" xL) (yq23:OB K "_law_label" xM) (yq24:OB K "_law_ways_by" kM) (yq25:OB K "_law_fact_by" fM) (yq26:OB K "_law_one_more" HL) (yq27:OB K "_law_by_numbers" KL) (yq28:OB K "_law_put" MM) (yq29:OB K "_law_stays" zM) (yq30:OB K "_law_filled" cM) (yq31:OB K "law" FO) (yq32:nsIn K mainGlobals "BadFact" =some (some (.ref P7))) (yq33:nsIn K mainGlobals "BadText" =some (some (.ref W7))) (yq34:nsIn K mainGlobals "NoLabel" =some (some (.ref S7))) (yq35:nsIn K mainGlobals "NoName" =some (some (.ref X7))) (yq36:nsIn K mainGlobals "SpanError" =some (some (.ref i8))) (yq37:nsIn K mainGlobals "TooMany" =some (some (.ref Q7))) (yq38:nsIn K mainGlobals "Twice" =some (some (.ref a8))) (yq39:aG K i8=true) (yq40:vG K W7 "BadText" "BadText.__init__" "row" kP) (yq41:vG K a8 "Twice" "Twice.__init__" "word" EL) (yq42:vG K S7 "NoLabel" "NoLabel.__init__" "word" wL) (yq43:vG K X7 "NoName" "NoName.__init__" "word" JL) (yq44:fG K Q7=true) (yq45:yE K Q7=true) (yq46:keepIn K (.ref Q7)=true) (yq47:fG K P7=true) (yq48:yE K P7=true) (yq49:keepIn K (.ref P7)=true) (yq50:dD K a8=true) (yq51:PySem.W.exmOne K (.ref a8) (.ref i8)=some true) (yq52:dD K Q7=true) (yq53:PySem.W.exmOne K (.ref Q7) (.ref i8)=some true) (yq54:dD K S7=true) (yq55:PySem.W.exmOne K (.ref S7) (.ref i8)=some true) (yq56:dD K X7=true) (yq57:PySem.W.exmOne K (.ref X7) (.ref i8)=some true) (yq58:dD K P7=true) (yq59:PySem.W.exmOne K (.ref P7) (.ref i8)=some true) (yq60:PySem.W.kitOne K (.ref W7) (.ref P7)=some false) (yq61:PySem.W.kitOne K (.ref a8) (.ref P7)=some false) (yq62:PySem.W.kitOne K (.ref S7) (.ref P7)=some false) (yq63:PySem.W.kitOne K (.ref X7) (.ref P7)=some false) (yq64:PySem.W.kitOne K (.ref Q7) (.ref P7)=some false) (yq65:PySem.W.kitOne K (.ref P7) (.ref P7)=some true) (yq66:PySem.W.kitOne K (.ref W7) (.ref W7)=some true) (yq67:PySem.W.kitOne K (.ref a8) (.ref W7)=some false) (yq68:PySem.W.kitOne K (.ref S7) (.ref W7)=some false) (yq69:PySem.W.kitOne K (.ref X7) (.ref W7)=some false) (yq70:PySem.W.kitOne K (.ref Q7) (.ref W7)=some false) (yq71:PySem.W.kitOne K (.ref P7) (.ref W7)=some false) (yq72:PySem.W.kitOne K (.ref W7) (.ref S7)=some false) (yq73:PySem.W.kitOne K (.ref a8) (.ref S7)=some false) (yq74:PySem.W.kitOne K (.ref S7) (.ref S7)=some true) (yq75:PySem.W.kitOne K (.ref X7) (.ref S7)=some false) (yq76:PySem.W.kitOne K (.ref Q7) (.ref S7)=some false) (yq77:PySem.W.kitOne K (.ref P7) (.ref S7)=some false) (yq78:PySem.W.kitOne K (.ref W7) (.ref X7)=some false) (yq79:PySem.W.kitOne K (.ref a8) (.ref X7)=some false) (yq80:PySem.W.kitOne K (.ref S7) (.ref X7)=some false) (yq81:PySem.W.kitOne K (.ref X7) (.ref X7)=some true) (yq82:PySem.W.kitOne K (.ref Q7) (.ref X7)=some false) (yq83:PySem.W.kitOne K (.ref P7) (.ref X7)=some false) (yq84:PySem.W.kitOne K (.ref W7) (.ref Q7)=some false) (yq85:PySem.W.kitOne K (.ref a8) (.ref Q7)=some false) (yq86:PySem.W.kitOne K (.ref S7) (.ref Q7)=some false) (yq87:PySem.W.kitOne K (.ref X7) (.ref Q7)=some false) (yq88:PySem.W.kitOne K (.ref Q7) (.ref Q7)=some true) (yq89:PySem.W.kitOne K (.ref P7) (.ref Q7)=some false) (yq90:PySem.W.kitOne K (.ref W7) (.ref a8)=some false) (yq91:PySem.W.kitOne K (.ref a8) (.ref a8)=some true) (yq92:PySem.W.kitOne K (.ref S7) (.ref a8)=some false) (yq93:PySem.W.kitOne K (.ref X7) (.ref a8)=some false) (yq94:PySem.W.kitOne K (.ref Q7) (.ref a8)=some false) (yq95:PySem.W.kitOne K (.ref P7) (.ref a8)=some false) (yq96:PySem.W.kitOne K (.ref W7) (.type "ValueError")=some true) (yq97:PySem.W.kitOne K (.ref a8) (.type "ValueError")=some true) (yq98:PySem.W.kitOne K (.ref S7) (.type "ValueError")=some true) (yq99:PySem.W.kitOne K (.ref X7) (.type "ValueError")=some true) (yq100:PySem.W.kitOne K (.ref Q7) (.type "ValueError")=some true) (yq101:PySem.W.kitOne K (.ref P7) (.type "ValueError")=some true) (yq102:nsIn K mainGlobals "ValueError" =some none) (yq103:nsIn K mainGlobals "all" =some none) (yq104:nsIn K mainGlobals "bool" =some none) (yq105:nsIn K mainGlobals "enumerate" =some none) (yq106:nsIn K mainGlobals "int" =some none) (yq107:nsIn K mainGlobals "isinstance" =some none) (yq108:nsIn K mainGlobals "len" =some none) (yq109:nsIn K mainGlobals "list" =some none) (yq110:nsIn K mainGlobals "range" =some none) (yq111:nsIn K mainGlobals "str" =some none) (yq112:nsIn K mainGlobals "tuple" =some none) (yq113:nsIn K mainGlobals "ALL" =some (some Wj)) (yq114:WB K 6 Wj=some nO) (yq115:nsIn K mainGlobals "FACTS" =some (some fj)) (yq116:WB K 6 fj=some UN) (yq117:nsIn K mainGlobals "GROUPS" =some (some S9)) (yq118:WB K 6 S9=some tN) (yq119:nsIn K mainGlobals "MEMBERS" =some (some L9)) (yq120:WB K 6 L9=some VM) (yq121:nsIn K mainGlobals "LONGEST" =some (some K9)) (yq122:WB K 6 K9=some LJ)
 :∃fd:FuncData,(∀(s:Shared) (v:Value),BindsTo s fd ⟨[v],[]⟩ [("_law_script",v)])/\∀base:Heap,K.In base->base.Ns mainGlobals mg->l8 l.prog w K mg base TD 10 fa fd ["_law_script"] (NH K 1 mG):=by
 have T:Txt K mg:={
  Wx:=XB X G yq3 fun _ _ _ _ _ _=>nF (fun _=>rfl)
  Xx:=XB X G yq4 fun _ _ _ _ _ _=>CC (fun _ _=>rfl)
  Rx:=XB X G yq5 fun _ _ _ _ _ _=>CC (fun _ _=>rfl)
  Cq:=XB X G yq6 fun _ _ _ _ _ _=>nF (fun _=>rfl)
  Bq:=XB X G yq7 fun _ _ _ _ _ _=>nF (fun _=>rfl)
  Aq:=XB X G yq8 fun _ _ _ _ _ _=>CC (fun _ _=>rfl)
  Gz:=XB X G yq9 fun _ _ _ _ _ _=>nF (fun _=>rfl)
  Lz:=cX X G yq0 yq10 fun _ _ _ _ _ _=>CC (fun _ _=>rfl)
  jz:=YH yq0 yq11 fun _ _ _ _ _ _=>nL (fun _ _ _=>rfl)
  Yx:=YH yq0 yq12 fun _ _ _ _ _ _=>CC (fun _ _=>rfl)
  Hx:=YH yq0 yq13 fun _ _ _ _ _ _=>CC (fun _ _=>rfl)
  Gx:=YH yq0 yq14 fun _ _ _ _ _ _=>nF (fun _=>rfl)
  Nx:=YH yq0 yq15 fun _ _ _ _ _ _=>nF (fun _=>rfl)
  Yq:=XB X G yq16 fun _ _ _ _ _ _=>CC (fun _ _=>rfl)
  yx:=XB X G yq17 fun _ _ _ _ _ _=>CC (fun _ _=>rfl)
  bx:=XB X G yq18 fun _ _ _ _ _ _=>CC (fun _ _=>rfl)
  Mx:=XB X G yq19 fun _ _ _ _ _ _=>nF (fun _=>rfl)
  Ax:=XB X G yq20 fun _ _ _ _ _ _=>CC (fun _ _=>rfl)
  zq:=XB X G yq21 fun _ _ _ _ _ _=>CC (fun _ _=>rfl)
  Xq:=XB X G yq22 fun _ _ _ _ _ _=>CC (fun _ _=>rfl)
  ux:=XB X G yq23 fun _ _ _ _ _ _=>nF (fun _=>rfl)
  jx:=XB X G yq24 fun _ _ _ _ _ _=>CC (fun _ _=>rfl)
  Zq:=XB X G yq25 fun _ _ _ _ _ _=>pL (fun _ _ _ _=>rfl)
  qx:=XB X G yq26 fun _ _ _ _ _ _=>nL (fun _ _ _=>rfl)
  yq:=XB X G yq27 fun _ _ _ _ _ _=>CC (fun _ _=>rfl)
  Qx:=XB X G yq28 fun _ _ _ _ _ _=>nL (fun _ _ _=>rfl)
  zx:=XB X G yq29 fun _ _ _ _ _ _=>pL (fun _ _ _ _=>rfl)
  Bx:=XB X G yq30 fun _ _ _ _ _ _=>pL (fun _ _ _ _=>rfl)
  Ij:=MQ yq0 yq1
  T9:=MQ yq0 yq2
  Uv:=nK X G yq40 yq36 yq39 fun _ _ _ _ _ _=>CC (fun _ _=>rfl)
  Hz:=nK X G yq41 yq36 yq39 fun _ _ _ _ _ _=>CC (fun _ _=>rfl)
  Vx:=nK X G yq42 yq36 yq39 fun _ _ _ _ _ _=>CC (fun _ _=>rfl)
  Cz:=nK X G yq43 yq36 yq39 fun _ _ _ _ _ _=>CC (fun _ _=>rfl)
  Ux:=qR X G yq37 yq44 yq46
  Sx:=qR X G yq32 yq47 yq49
  Fz:=lI yq38 yq50
  rz:=lI yq37 yq52
  qz:=lI yq34 yq54
  Ez:=lI yq35 yq56
  mz:=lI yq32 yq58
  Jx:=⟨⟨_,PySem.W.mg_of X G yq36,TH yq38 yq51 (TH yq37 yq53 (TH yq34 yq55 (TH yq35 yq57 (TH yq32 yq59 (lW)))))⟩⟩
  Ox:=⟨⟨_,PySem.W.mg_of X G yq32,CB yq40 yq60 (CB yq41 yq61 (CB yq42 yq62 (CB yq43 yq63 (qD yq37 yq45 yq64 (qD yq32 yq48 yq65 (dG))))))⟩⟩
  Px:=⟨⟨_,PySem.W.mg_of X G yq33,CB yq40 yq66 (CB yq41 yq67 (CB yq42 yq68 (CB yq43 yq69 (qD yq37 yq45 yq70 (qD yq32 yq48 yq71 (dG))))))⟩⟩
  dz:=⟨⟨_,PySem.W.mg_of X G yq34,CB yq40 yq72 (CB yq41 yq73 (CB yq42 yq74 (CB yq43 yq75 (qD yq37 yq45 yq76 (qD yq32 yq48 yq77 (dG))))))⟩⟩
  Dz:=⟨⟨_,PySem.W.mg_of X G yq35,CB yq40 yq78 (CB yq41 yq79 (CB yq42 yq80 (CB yq43 yq81 (qD yq37 yq45 yq82 (qD yq32 yq48 yq83 (dG))))))⟩⟩
  iz:=⟨⟨_,PySem.W.mg_of X G yq37,CB yq40 yq84 (CB yq41 yq85 (CB yq42 yq86 (CB yq43 yq87 (qD yq37 yq45 yq88 (qD yq32 yq48 yq89 (dG))))))⟩⟩
  Iz:=⟨⟨_,PySem.W.mg_of X G yq38,CB yq40 yq90 (CB yq41 yq91 (CB yq42 yq92 (CB yq43 yq93 (qD yq37 yq45 yq94 (qD yq32 yq48 yq95 (dG))))))⟩⟩
  Fx:=CB yq40 yq96 (CB yq41 yq97 (CB yq42 yq98 (CB yq43 yq99 (qD yq37 yq45 yq100 (qD yq32 yq48 yq101 (dG))))))
  Lx:=mg_none_of X G yq102
  Oz:=mg_none_of X G yq103
  Mz:=mg_none_of X G yq104
  Zx:=mg_none_of X G yq105
  Dq:=mg_none_of X G yq106
  i9:=mg_none_of X G yq107
  B8:=mg_none_of X G yq108
  wj:=mg_none_of X G yq109
  v9:=mg_none_of X G yq110
  Fq:=mg_none_of X G yq111
  Jz:=mg_none_of X G yq112
  Nz:=⟨⟨_,6,PySem.W.mg_of X G yq113,yq114⟩⟩
  Kz:=⟨⟨_,6,PySem.W.mg_of X G yq115,yq116⟩⟩
  uz:=⟨⟨_,6,PySem.W.mg_of X G yq117,yq118⟩⟩
  Az:=⟨⟨_,6,PySem.W.mg_of X G yq119,yq120⟩⟩
  wz:=⟨⟨_,6,PySem.W.mg_of X G yq121,yq122⟩⟩
 }
 obtain⟨f,oc,od,kV,dc,pm,an,cd,ct,sl,a,l1,c1,k1⟩:=yq31;have e:=hfa.symm.trans (PySem.W.mg_of X G a);cases e;exact⟨_,fun s v=>.of_eq rfl,fun base _ _=>WZ T base (xI l1 c1 k1)⟩
end G
open PySem.W
set_option maxRecDepth 100000 in
set_option maxHeartbeats 0 in
theorem PySem.Challenge.cw_spanways_k32_a_full_book_holds : PySem.Challenge.rw_spanways_k32_a_full_book.Holds := by
 refine HD.top ?_
 k_fill
 refine SM.gX (l:=PySem.Challenge.rw_spanways_k32_a_full_book) (F:=G.mG) (k:=10) (x := "_law_script") rfl rfl ⟨rfl,by decide,by decide⟩ (fun w h Y=>PySem.W.kIn_of Y) ?F G.law_true
 case F=>
  intro w mg fa h KX GN hmg
  refine' G.N1 KX GN hmg ?yq0 ?yq1 ?yq2 ?yq3 ?yq4 ?yq5 ?yq6 ?yq7 ?yq8 ?yq9 ?yq10 ?yq11 ?yq12 ?yq13 ?yq14 ?yq15 ?yq16 ?yq17 ?yq18 ?yq19 ?yq20 ?yq21 ?yq22 ?yq23 ?yq24 ?yq25 ?yq26 ?yq27 ?yq28 ?yq29 ?yq30 ?yq31 ?yq32 ?yq33 ?yq34 ?yq35 ?yq36 ?yq37 ?yq38 ?yq39 ?yq40 ?yq41 ?yq42 ?yq43 ?yq44 ?yq45 ?yq46 ?yq47 ?yq48 ?yq49 ?yq50 ?yq51 ?yq52 ?yq53 ?yq54 ?yq55 ?yq56 ?yq57 ?yq58 ?yq59 ?yq60 ?yq61 ?yq62 ?yq63 ?yq64 ?yq65 ?yq66 ?yq67 ?yq68 ?yq69 ?yq70 ?yq71 ?yq72 ?yq73 ?yq74 ?yq75 ?yq76 ?yq77 ?yq78 ?yq79 ?yq80 ?yq81 ?yq82 ?yq83 ?yq84 ?yq85 ?yq86 ?yq87 ?yq88 ?yq89 ?yq90 ?yq91 ?yq92 ?yq93 ?yq94 ?yq95 ?yq96 ?yq97 ?yq98 ?yq99 ?yq100 ?yq101 ?yq102 ?yq103 ?yq104 ?yq105 ?yq106 ?yq107 ?yq108 ?yq109 ?yq110 ?yq111 ?yq112 ?yq113 ?yq114 ?yq115 ?yq116 ?yq117 ?yq118 ?yq119 ?yq120 ?yq121 ?yq122
  (case yq0=>exact⟨by k_is,by k_is,by k_is,by k_is,by k_is,by k_is,by k_is⟩)
  (case yq1 | yq2=>k_is)
  (case yq3 | yq4 | yq5 | yq6 | yq7 | yq8 | yq9=>exact⟨_,_,_,_,_,_,_,_,_,_,by k_is,by k_is,by k_is,by k_is⟩)
  (case yq10 | yq11 | yq12 | yq13 | yq14 | yq15=>exact⟨_,_,_,_,_,_,_,_,_,_,by k_is,by k_is,by k_is,by k_is,by k_is⟩)
  (case yq16 | yq17 | yq18 | yq19 | yq20 | yq21 | yq22 | yq23 | yq24 | yq25 | yq26 | yq27 | yq28 | yq29 | yq30 | yq31=>exact⟨_,_,_,_,_,_,_,_,_,_,by k_is,by k_is,by k_is,by k_is⟩)
  (case yq32 | yq33 | yq34 | yq35 | yq36 | yq37 | yq38=>k_is)
  (case yq39=>kernel_rfl)
  (case yq40 | yq41 | yq42 | yq43=>exact⟨_,_,_,_,_,_,_,_,_,_,by k_is,by k_is,by k_is,by k_is,by k_is,by k_is,by kernel_rfl,by k_is,by kernel_rfl,by k_is⟩)
  (case yq44 | yq45=>kernel_rfl)
  (case yq46=>k_is)
  (case yq47 | yq48=>kernel_rfl)
  (case yq49=>k_is)
  (case yq50 | yq51 | yq52 | yq53 | yq54 | yq55 | yq56 | yq57 | yq58 | yq59 | yq60 | yq61 | yq62 | yq63 | yq64 | yq65 | yq66 | yq67 | yq68 | yq69 | yq70 | yq71 | yq72 | yq73 | yq74 | yq75 | yq76 | yq77 | yq78 | yq79 | yq80 | yq81 | yq82 | yq83 | yq84 | yq85 | yq86 | yq87 | yq88 | yq89 | yq90 | yq91 | yq92 | yq93 | yq94 | yq95 | yq96 | yq97 | yq98 | yq99 | yq100 | yq101=>kernel_rfl)
  (case yq102 | yq103 | yq104 | yq105 | yq106 | yq107 | yq108 | yq109 | yq110 | yq111 | yq112 | yq113=>k_is)
  (case yq114=>kernel_rfl)
  (case yq115=>k_is)
  (case yq116=>kernel_rfl)
  (case yq117=>k_is)
  (case yq118=>kernel_rfl)
  (case yq119=>k_is)
  (case yq120=>kernel_rfl)
  (case yq121=>k_is)
  (case yq122=>kernel_rfl)
end
