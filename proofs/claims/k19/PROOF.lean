import PyProof.Rows.All
import Wide.All
import OpenK.AllK
import Wide.FinOn
import Lean
import PyProof.EqAt
import PyProof.EqKinds
import PyProof.TupleCall
import PySem.Challenge.RW_spanways_k19_lengths_to_the_grain
set_option Elab.async false
set_option linter.all false
set_option maxRecDepth 100000
set_option bootstrap.genMatcherCode false
noncomputable section
section
open PySem PySem.W PyProof.Rows
namespace HD
noncomputable abbrev rw:=PySem.Challenge.rw_spanways_k19_lengths_to_the_grain.row.toRowW
noncomputable def vw:Program:={rw.prog with main:={rw.prog.main with body:=[1,2,3,4,5,6,8,9,11,12,13,14,15,16,17,18,19,20,21,23,24,25,26,27,28,30,31,32,33,34,35,36,37,38,40,41,44,45,46,47,48,49,50,51,52,53,54,55,56,57,58].filterMap (rw.prog.main.body[·]?)}}
noncomputable abbrev xt:Shared->Bool:=fun s=>xlAt HD.vw [] s && recOk (RowW.records HD.rw) s
theorem jn {p q:Program}{l:List Str}{X:Shared->Bool}{α:Type}{Y:Shared->α}{Z:World->α}{N:Nat}(a:∀ w,(openEnds treeTable p w N).map (fun s=>(openSeen q l (importedModules p.main.body) X true s).1)=some (openGood q l).1)(b:∀ w,(openEnds treeTable p w N).map (fun s=>(openSeen q l (importedModules p.main.body) X true s).2)=some (openGood q l).2)(c:∀ w,(openEnds treeTable p w N).map Y=some (Z w)):LeftO p q l X Y Z N:=fun w=>by
  obtain ⟨s,e,d⟩:=Option.map_eq_some_iff.mp (a w)
  have f:=b w
  have g:=c w
  rw [e] at f g
  show (openEnds treeTable p w N).map _=_
  rw [e]
  exact congrArg some (Prod.ext (Prod.ext d (Option.some.inj f)) (Option.some.inj g))
set_option maxHeartbeats 0
theorem a1:∀ w,(openEnds treeTable rw.prog w 4204).map (fun s=>(openSeen vw ["planned"] (importedModules rw.prog.main.body) xt true s).1)=some (openGood vw ["planned"]).1:=by intro w; kernel_rfl
theorem a2:∀ w,(openEnds treeTable rw.prog w 4204).map (fun s=>(openSeen vw ["planned"] (importedModules rw.prog.main.body) xt true s).2)=some (openGood vw ["planned"]).2:=by intro w; kernel_rfl
local macro_rules | `(tactic|o_head $H)=>do
  let hw:=Lean.mkIdent `hw
  `(tactic|(refine holds_open (q:=HD.vw) (loose:=["planned"]) (Xt:=HD.xt) (XP:=XL HD.vw []) (Yf:=Hook.obs $H) (Ya:=Hook.val $H) (YP:=Hook.says $H) (N:=4204) ?_ (Hook.of $H) (Hook.keeps $H) (fun s e=>xl_of s (Bool.and_eq_true_iff.mp e).1) XL.keeps (by rfl) (by rfl) (by rfl) (fun s e=>recFacts_of (Bool.and_eq_true_iff.mp e).2) (by rfl) (by first | assumption | decide +kernel) (by decide +kernel) ⟨rfl,rfl,rfl,rfl,rfl,by decide +kernel⟩ ?$hw ?_; focus (refine HD.jn HD.a1 HD.a2 ?_; intro w; kernel_rfl)))
open_top top for PySem.Challenge.rw_spanways_k19_lengths_to_the_grain
end HD
end
namespace L2
end L2
namespace SM
end SM
namespace BF
end BF
namespace G
end G
open PySem PySem.Spec PyProof.Rows L2 SM BF G List
theorem zfM{α:Type _}{a:α}{l:List α}:(a::l)[0]?=some a:=rfl
theorem zfN{α:Type _}{a:α}{l:List α}{i:Nat}:(a::l)[i+1]?=l[i]?:=rfl
theorem zfO{α:Type _}{a:α}{l:List α}:(a::l).length=l.length+1:=rfl
theorem zfP{α:Type _}:([]:List α).length=0:=rfl
theorem zfQ{α β:Type _}{f:α->β}{a:α}{l:List α}:(a::l).map f=f a::l.map f:=rfl
theorem zfR{α β:Type _}{f:α->β}:[].map f=[]:=rfl
theorem zfS{α:Type _}{a b:α}{l:List α}:(a::l).set 0 b=b::l:=rfl
theorem zfT{α:Type _}{a b:α}{l:List α}{i:Nat}:(a::l).set (i+1) b=a::l.set i b:=rfl
theorem zfU{α β:Type _}{f:α->β}{a:α}:(some a).map f=some (f a):=rfl
theorem zfV{α β:Type _}{a:α}{f:α->Option β}:(some a).bind f=f a:=rfl
theorem zfW{α:Type _}{l:List α}:[]++l=l:=rfl
theorem zfX{α:Type _}{a:α}{l k:List α}:a::l++k=a::(l++k):=rfl
theorem zfY{α:Type _}{l:List α}{i:Nat}{a:α}:l[i]?=some a->∃h:i<l.length,l[i]=a:=List.getElem?_eq_some_iff.mp
theorem zfZ{α:Type _}{l k:List α}{i:Nat}(h:i<l.length):(l++k)[i]?=l[i]?:=List.getElem?_append_left h
theorem zf0:false≠true:=Bool.false_ne_true
theorem zf1(n:Nat):n<=n:=Nat.le_refl n
theorem zf2{α:Type _}{l k:List α}{i:Nat}(h:l.length<=i):(l++k)[i]?=k[i-l.length]?:=List.getElem?_append_right h
theorem zf3{α:Type _}(l:List α):l++[]=l:=List.append_nil l
theorem zf4:(false=true)=False:=Bool.false_eq_true
open PySem.W (Frag nsIn findIn keepIn fnOf mg_none_of)
namespace L2
noncomputable abbrev nC:=Sum Int Str
noncomputable def TJ:nC->Value->Bool
 | .inl k,v=>Value.isInt k v
 | .inr x,v=>Value.isStrOf x v
noncomputable def K3(w:World):nC->Int
 | .inl k=>hashInt k
 | .inr x=>hashStr w x
theorem OG:∀{k:nC}{v:Value},TJ k v=true->(∃i t,k=Sum.inl i/\v=Value.int i t)\/(∃x t,k=Sum.inr x/\v=Value.str x t)
 | .inl i,v,h=>by obtain⟨t,e⟩:=Value.isInt_shape (k:=i) (v:=v) h;exact .inl ⟨i,t,rfl,e⟩
 | .inr x,v,h=>by obtain⟨t,e⟩:=Value.isStrOf_shape (x:=x) (v:=v) h;exact .inr ⟨x,t,rfl,e⟩
theorem Vj(i:Int)(t:Tok):TJ (.inl i) (.int i t)=true:=by simp[TJ,Value.isInt]
theorem Wj(x:Str)(t:Tok):TJ (.inr x) (.str x t)=true:=by simp[TJ,Value.isStrOf]
theorem Ef(a b:Int):decide ((Sum.inl a:nC)=Sum.inl b)=(a==b):=by
 by_cases e:a=b
 · subst e;simp
 · have h:¬(Sum.inl a:nC)=Sum.inl b:=fun q=>e (Sum.inl.inj q)
   rw[decide_eq_false h];exact(beq_eq_false_iff_ne.mpr e).symm
theorem Jf(a b:Str):decide ((Sum.inr a:nC)=Sum.inr b)=decide (a=b):=by
 by_cases e:a=b
 · subst e;simp
 · have h:¬(Sum.inr a:nC)=Sum.inr b:=fun q=>e (Sum.inr.inj q)
   rw[decide_eq_false h,decide_eq_false e]
theorem Gf(a:Int)(b:Str):decide ((Sum.inl a:nC)=Sum.inr b)=false:=decide_eq_false (fun q=>nomatch q)
theorem Hf(a:Str)(b:Int):decide ((Sum.inr a:nC)=Sum.inl b)=false:=decide_eq_false (fun q=>nomatch q)
def DE(prog:Program)(w:World):PySem.KeyKind prog w nC where
 is:=TJ
 hash:=K3 w
 inj:=fun v a b ha hb=>by
  rcases OG ha with⟨i,t,rfl,rfl⟩ | ⟨x,t,rfl,rfl⟩
  · rcases OG hb with⟨j,u,rfl,e⟩ | ⟨y,u,rfl,e⟩
    · injection e with e1 _;rw[e1]
    · exact nomatch e
  · rcases OG hb with⟨j,u,rfl,e⟩ | ⟨y,u,rfl,e⟩
    · exact nomatch e
    · injection e with e1 _;rw[e1]
 byValue:=fun k v h=>by rcases OG h with⟨i,t,rfl,rfl⟩ | ⟨x,t,rfl,rfl⟩<;>rfl
 pyHash:=fun hv h=>by
  rcases OG hv with⟨i,t,rfl,rfl⟩ | ⟨x,t,rfl,rfl⟩
  · exact wpAny_pyHash_int h
  · exact wpAny_pyHash_str h
 eqBool:=fun hu hv h=>by
  rcases OG hu with⟨i,t,rfl,rfl⟩ | ⟨x,t,rfl,rfl⟩
  · rcases OG hv with⟨j,u,rfl,rfl⟩ | ⟨y,u,rfl,rfl⟩
    · rw[Ef]at h;exact wpAny_eqBool_int h
    · rw[Gf]at h;exact SeqAt.EqAt.int_str i t y u _ _ _ _ h
  · rcases OG hv with⟨j,u,rfl,rfl⟩ | ⟨y,u,rfl,rfl⟩
    · rw[Hf]at h;exact SeqAt.EqAt.str_int x t j u _ _ _ _ h
    · rw[Jf]at h;exact wpAny_eqBool_str h
 «strs»:=fun k x t v h=>by
  rcases OG h with⟨i,u,rfl,e⟩ | ⟨y,u,rfl,e⟩
  · exact nomatch e
  · injection e with e1 _
    subst e1;cases v<;>rfl
theorem W8(prog:Program)(w:World)(i:Int)(t:Tok):(DE prog w).is (.inl i) (.int i t)=true:=Vj i t
theorem X8(prog:Program)(w:World)(x:Str)(t:Tok):(DE prog w).is (.inr x) (.str x t)=true:=Wj x t
inductive V where
 | non | bl (b:Bool) | int (i:Int) | str (x:Str) | byt (b:Array UInt8) | flt (b:UInt64) | ref (a:Addr) | ty (n:String)
 deriving DecidableEq
noncomputable def RelV:V->Value->Prop
 | .non,u=>u=Value.none
 | .bl b,u=>u=Value.bool b
 | .int i,u=>∃t,u=Value.int i t
 | .str x,u=>∃t,u=Value.str x t
 | .byt b,u=>∃t,u=Value.bytes b t
 | .flt b,u=>∃t,u=Value.float b t
 | .ref a,u=>u=Value.ref a
 | .ty n,u=>u=Value.type n
abbrev Vals:List V->List Value->Prop:=Paired RelV
theorem Vals.length{xs:List V}{us:List Value}(r:Vals xs us):xs.length=us.length:=Paired.length r
theorem Vals.get:∀{xs:List V}{us:List Value}{i:Nat}{x:V},Vals xs us->xs[i]?=some x->∃u,us[i]?=some u/\RelV x u
 | _,_,_,_,.nil,e=>by simp at e
 | _,_,0,_,.cons r _,e=>by simp at e;subst e;exact⟨_,rfl,r⟩
 | _,_,i+1,x,.cons _ t,e=>by obtain⟨u,h1,h2⟩:=Vals.get (i:=i) (x:=x) t (by simpa using e);exact⟨u,by simpa using h1,h2⟩
theorem Vals.set{x:V}{u:Value}(r:RelV x u):∀{xs:List V}{us:List Value}(i:Nat),Vals xs us->Vals (xs.set i x) (us.set i u)
 | _,_,_,.nil=>.nil
 | _,_,0,.cons _ t=>.cons r t
 | _,_,i+1,.cons q t=>.cons q (Vals.set r i t)
theorem Vals.append:∀{xs ys:List V}{us ws:List Value},Vals xs us->Vals ys ws->Vals (xs++ys) (us++ws)
 | _,_,_,_,.nil,s=>s
 | _,_,_,_,.cons r t,s=>.cons r (Vals.append t s)
theorem Vals.take:∀{xs:List V}{us:List Value}(n:Nat),Vals xs us->Vals (xs.take n) (us.take n)
 | _,_,0,_=>.nil
 | _,_,_+1,.nil=>.nil
 | _,_,n+1,.cons r t=>.cons r (Vals.take n t)
theorem Vals.drop:∀{xs:List V}{us:List Value}(n:Nat),Vals xs us->Vals (xs.drop n) (us.drop n)
 | _,_,0,r=>r
 | _,_,_+1,.nil=>.nil
 | _,_,n+1,.cons _ t=>Vals.drop n t
theorem Vals.none_of:∀{xs:List V}{us:List Value}{i:Nat},Vals xs us->xs[i]?=none->us[i]?=none:=fun {xs us i} r e=>by have h1:=r.length;have h2:xs.length<=i:=getElem?_eq_none_iff.mp e;exact getElem?_eq_none_iff.mpr (by omega)
def Tp:Option V->Option Value->Prop
 | some v,some u=>RelV v u
 | none,none=>True
 | _,_=>False
def KV{κ:Type}:List (κ×V)->List (κ×Value)->Prop:=Paired fun(p:κ×V) (q:κ×Value)=>p.1=q.1/\RelV p.2 q.2
noncomputable def kV:nC->V
 | .inl i=>.int i
 | .inr x=>.str x
inductive HO where
 | lst (xs:List V)
 | tup (xs:List V)
 | dK (kvs:List (nC×V)) | dT (kvs:List (List nC×V))
 | set (S:Int->Bool) (n:Nat)
 | ins (C dx:Addr) (fs:List (Str×V))
 | own (x:Addr)
 | xd (fs:List (Str×V))
 | met (f x:Addr)
 | rng (lo hi:Int)
 | frz (o:Obj) (u:HO)
 | tbl (ps:Array Value)
 | ext (φ:Heap->Prop)
noncomputable abbrev Hp:=Addr->Option HO
noncomputable def KB(H:Hp)(a:Addr)(o:HO):Hp:=fun b=>if b=a then some o else H b
theorem SC{H:Hp}{a:Addr}{o:HO}:KB H a o a=some o:=by unfold KB;rw[if_pos rfl]
theorem cB{H:Hp}{a b:Addr}{o:HO}(h:b≠a):KB H a o b=H b:=by unfold KB;rw[if_neg h]
theorem BU{H:Hp}{a b:Addr}{o u:HO}(h:H a=some o)(h':H b=some u)(d:o≠u):a≠b:=by intro e;subst e;rw[h]at h';exact d (Option.some.inj h')
theorem mD{H:Hp}{a b:Addr}{o:HO}(h:H a=some o)(h':H b=none):a≠b:=by intro e;subst e;rw[h]at h';cases h'
section
variable(P:Program)(w:World)
def Xm(H:Hp)(h:Heap)(a:Addr):HO->Prop
 | .lst xs=>xs.length<=sizeLine/\∃(its:List Value) (n:Nat),Vals xs its/\h.get? a=some { cls:=.type "list",data:=.seq its.toArray n }
 | .tup xs=>xs.length<=sizeLine/\∃its:List Value,Vals xs its/\IsTup h a its.toArray
 | .dK kvs=>kvs.length<=sizeLine/\(a==sysModules)=false/\∃vs,KV kvs vs/\h.DictOf (DE P w) a vs
 | .dT kvs=>kvs.length<=sizeLine/\(a==sysModules)=false/\∃xs:List (List nC×Addr×Value),
  Paired (fun(p:List nC×V) (q:List nC×Addr×Value)=>p.1=q.1/\H q.2.1=some (.tup (p.1.map kV))/\RelV p.2 q.2.2) kvs xs/\
  ∃o es ep,h.get? a=some o/\o.ExactDict/\o.data=.dict es ep/\es.toList=xs.map (entryOfKey (tupleKind (DE P w)))/\(xs.map (·.1)).Nodup
 | .set S n=>h.SetOf (intKind P w) a S n
 | .ins C dx fs=>H dx=some (.own a)/\fs.length<=1000/\dx≠a/\h.get? a=some (PySem.W.instObj C dx)/\
  ∃mA,h.Ns1 dx mA/\(∀f,Tp (fs.lookup f) (mA f))/\PySem.Within mA (fs.map (·.1))
 | .own _=>∃o,h.get? a=some o
 | .xd fs=>∃mA,h.Ns1 a mA/\∀f,Tp (fs.lookup f) (mA f)
 | .rng lo hi=>∃t u v,h.get? a=some { cls:=.type "range",data:=.fields #[.int lo t,.int hi u,.int 1 v] }
 | .frz o u=>h.get? a=some o/\Xm H h a u
 | .tbl ps=>h.get? a=some { cls:=.none,data:=.fields ps }
 | .met f x=>h.get? a=some (PySem.W.methodObj (.ref f) (.ref x))
 | .ext φ=>φ h/\(∃o,h.get? a=some o)/\∀h1 h2:Heap,φ h1->(∀o,h1.get? a=some o->h2.get? a=some o)->φ h2
def HOk(H:Hp)(h:Heap):Prop:=∀a o,H a=some o->Xm P w H h a o
end
section
variable{P:Program}{w:World}{H H':Hp}{h h':Heap}{a:Addr}{o:HO}
theorem Xm.lt(x:Xm P w H h a o):a<h.objs.size:=by
 cases o with
 | lst xs=>obtain⟨_,_,_,_,e⟩:=x;exact Heap.lt_size e
 | tup xs=>obtain⟨_,_,_,p⟩:=x;exact p.lt
 | dK kvs=>obtain⟨_,_,_,_,o,_,_,e,_⟩:=x;exact Heap.lt_size e
 | dT kvs=>obtain⟨_,_,_,_,o,_,_,e,_⟩:=x;exact Heap.lt_size e
 | set S n=>obtain⟨o,_,_,_,e,_⟩:=x;exact Heap.lt_size e
 | ins C dx fs=>obtain⟨_,_,_,e,_⟩:=x;exact Heap.lt_size e
 | own y=>obtain⟨_,e⟩:=x;exact Heap.lt_size e
 | xd fs=>obtain⟨_,⟨_,_,_,e,_⟩,_⟩:=x;exact Heap.lt_size e
 | rng lo hi=>obtain⟨_,_,_,e⟩:=x;exact Heap.lt_size e
 | frz ob u=>obtain⟨e,_⟩:=x;exact Heap.lt_size e
 | tbl ps=>exact Heap.lt_size (show h.get? a=some _ from x)
 | met f y=>exact Heap.lt_size (show h.get? a=some _ from x)
 | ext φ=>obtain⟨_,⟨_,e⟩,_⟩:=x;exact Heap.lt_size e
theorem Paired.zb1{α β:Type}{F G:α->β->Prop}:∀{l₁:List α}{l₂:List β},Paired F l₁ l₂->(∀a b,F a b->G a b)->Paired G l₁ l₂
 | _,_,.nil,_=>.nil
 | _,_,.cons r t,f=>.cons (f _ _ r) (Paired.zb1 t f)
theorem Xm.stay(x:Xm P w H h a o)(k:∀b u,(b=a\/H b=some (.own a))->h.get? b=some u->h'.get? b=some u)
 (ho:∀b,H b=some (.own a)->H' b=some (.own a)) (ht:∀b xs,H b=some (.tup xs)->H' b=some (.tup xs)):Xm P w H' h' a o:=by
 induction o with
 | lst xs=>obtain⟨z,its,n,r,e⟩:=x;exact⟨z,its,n,r,k _ _ (.inl rfl) e⟩
 | tup xs=>obtain⟨z,its,r,ob,e,c⟩:=x;exact⟨z,its,r,ob,k _ _ (.inl rfl) e,c⟩
 | dK kvs=>obtain⟨z,y,vs,r,ob,es,ep,e,c⟩:=x;exact⟨z,y,vs,r,ob,es,ep,k _ _ (.inl rfl) e,c⟩
 | dT kvs=>obtain⟨z,y,xs,r,ob,es,ep,e,c⟩:=x;exact⟨z,y,xs,Paired.zb1 r fun p q z=>⟨z.1,ht _ _ z.2.1,z.2.2⟩,ob,es,ep,k _ _ (.inl rfl) e,c⟩
 | set S n=>obtain⟨ob,es,ep,t,e,c⟩:=x;exact⟨ob,es,ep,t,k _ _ (.inl rfl) e,c⟩
 | ins C dx fs=>obtain⟨d,z,ne,e,mA,⟨od,es,ep,e2,c⟩,r⟩:=x;exact⟨ho _ d,z,ne,k _ _ (.inl rfl) e,mA,⟨od,es,ep,k _ _ (.inr d) e2,c⟩,r⟩
 | own y=>obtain⟨ob,e⟩:=x;exact⟨ob,k _ _ (.inl rfl) e⟩
 | xd fs=>obtain⟨mA,⟨od,es,ep,e,c⟩,r⟩:=x;exact⟨mA,⟨od,es,ep,k _ _ (.inl rfl) e,c⟩,r⟩
 | rng lo hi=>obtain⟨t,u,v,e⟩:=x;exact⟨t,u,v,k _ _ (.inl rfl) e⟩
 | frz ob u ih=>obtain⟨e,q⟩:=x;exact⟨k _ _ (.inl rfl) e,ih q⟩
 | tbl ps=>have e:h.get? a=some { cls:=.none,data:=.fields ps }:=x;show h'.get? a=some { cls:=.none,data:=.fields ps };exact k a _ (.inl rfl) e
 | met f y=>have e:h.get? a=some (PySem.W.methodObj (.ref f) (.ref y)):=x;show h'.get? a=some (PySem.W.methodObj (.ref f) (.ref y));exact k a _ (.inl rfl) e
 | ext φ=>obtain⟨p,⟨o,e⟩,st⟩:=x;exact⟨st _ _ p fun o q=>k _ _ (.inl rfl) q,⟨o,k _ _ (.inl rfl) e⟩,st⟩
theorem HOk.lt(x:HOk P w H h)(e:H a=some o):a<h.objs.size:=(x a o e).lt
theorem HOk.fresh(x:HOk P w H h)(e:h.objs.size<=a):H a=none:=by
 cases q:H a with
 | none=>rfl
 | some u=>exact absurd (Nat.lt_of_lt_of_le (x.lt q) e) (Nat.lt_irrefl _)
theorem HOk.kept(x:HOk P w H h)(k:∀b u,h.get? b=some u->h'.get? b=some u):HOk P w H h':=fun a o e=>(x a o e).stay (fun b u _ q=>k b u q) (fun _ q=>q) fun _ _ q=>q
theorem HOk.laid(x:HOk P w H h)(k:∀b u,h.get? b=some u->h'.get? b=some u)(hp:h.objs.size<=a)(new:Xm P w (KB H a o) h' a o):HOk P w (KB H a o) h':=fun b u e=>by
 have hn:=x.fresh hp;by_cases hb:b=a
 · subst hb;rw[SC]at e;cases e;exact new
 · rw[cB hb]at e;exact(x b u e).stay (fun c v _ q=>k c v q) (fun c q=>by rw[cB (mD q hn)];exact q) fun c xs q=>by rw[cB (mD q hn)];exact q
end
noncomputable def Rd(H:Hp)(a:Addr)(u:HO):Prop:=H a=some u\/∃o,H a=some (.frz o u)
theorem Rd.ok{P:Program}{w:World}{H:Hp}{h:Heap}{a:Addr}{u:HO}(r:Rd H a u)(x:HOk P w H h):Xm P w H h a u:=by
 rcases r with r | ⟨o,r⟩
 · exact x a u r
 · obtain⟨_,q⟩:=x a _ r;exact q
noncomputable def SU:Option HO->Prop
 | some (.lst _)=>True
 | some (.dK _)=>True
 | some (.dT _)=>True
 | some (.set _ _)=>True
 | some (.ins _ _ _)=>True
 | some (.ext _)=>True
 | _=>False
section
variable{P:Program}{w:World}{H:Hp}{h h':Heap}{x e:Addr}{o':HO}
theorem HOk.write(ok:HOk P w H h)(mu:SU (H x))(he:e=x\/H e=some (.own x))(k:∀b u,b≠e->h.get? b=some u->h'.get? b=some u)(heo:∃u,h'.get? e=some u)
 (new:Xm P w (KB H x o') h' x o'):HOk P w (KB H x o') h':=fun b u q=>by
 have zcw:∀c y,H c=some (.own y)->c≠x:=fun c y r z=>by subst z;rw[r]at mu;exact mu
 have zdT:∀c xs,H c=some (.tup xs)->c≠x:=fun c xs r z=>by subst z;rw[r]at mu;exact mu
 by_cases hb:b=x
 · subst hb;rw[SC]at q;cases q;exact new
 · rw[cB hb]at q;by_cases hbe:b=e
   · have q':H b=some (.own x):=by
      rcases he with z | z
      · exact absurd (hbe.trans z) hb
      · rw[hbe];exact z
     rw[q]at q';cases q';obtain⟨v,hv⟩:=heo;exact⟨v,by rw[hbe];exact hv⟩
   · refine(ok b u q).stay (fun c v hc r=>k c v ?_ r) (fun c r=>by rw[cB (zcw c b r)];exact r) fun c xs r=>by rw[cB (zdT c xs r)];exact r
     rcases hc with rfl | hc
     · exact hbe
     · rintro rfl;rcases he with z | z
       · exact zcw c b hc z
       · rw[hc]at z;cases z;exact hb rfl
end
structure Un(fs ex:List Addr)(H H':Hp)(h h':Heap):Prop where
 keep:∀b o,h.get? b=some o->H b=none->b∉fs->b∉ex->h'.get? b=some o
 slot:∀b o,h.get? b=some o->H b=none->b∈fs->b∉ex->∃sl,h'.get? b=some { o with slots:=sl }
 free:∀b o,h.get? b=some o->H b=none->b∉ex->H' b=none
 there:∀b o,h.get? b=some o->b∉ex->∃o',h'.get? b=some o'
 tups:∀b xs,H b=some (.tup xs)->H' b=some (.tup xs)
 zal:∀b o u,H b=some (.frz o u)->H' b=some (.frz o u)
 zav:∀b ps,H b=some (.tbl ps)->∃more,H' b=some (.tbl (ps++more))
section
variable{fs fs' ex ex':List Addr}{H H1 H2:Hp}{h h1 h2 h':Heap}{a x e:Addr}{o:HO}
theorem Un.any(u:Un fs ex H H1 h h1){b:Addr}{ob:Obj}(q:h.get? b=some ob)(n:H b=none)(hx:b∉ex):∃sl,h1.get? b=some { ob with slots:=sl }:=by
 by_cases hb:b∈fs
 · exact u.slot b ob q n hb hx
 · exact⟨ob.slots,u.keep b ob q n hb hx⟩
theorem Un.trans(a:Un fs ex H H1 h h1)(b:Un fs ex H1 H2 h1 h2):Un fs ex H H2 h h2 where
 keep:=fun c ob q n hc hx=>b.keep c ob (a.keep c ob q n hc hx) (a.free c ob q n hx) hc hx
 slot:=fun c ob q n hc hx=>by obtain⟨sl,e1⟩:=a.slot c ob q n hc hx;obtain⟨sl',e2⟩:=b.slot c _ e1 (a.free c ob q n hx) hc hx;exact⟨sl',e2⟩
 free:=fun c ob q n hx=>by obtain⟨o',e1⟩:=a.there c ob q hx;exact b.free c o' e1 (a.free c ob q n hx) hx
 there:=fun c ob q hx=>by obtain⟨o',e1⟩:=a.there c ob q hx;exact b.there c o' e1 hx
 tups:=fun c xs q=>b.tups c xs (a.tups c xs q)
 zal:=fun c ob xs q=>b.zal c ob xs (a.zal c ob xs q)
 zav:=fun c ps q=>by obtain⟨m1,e1⟩:=a.zav c ps q;obtain⟨m2,e2⟩:=b.zav c _ e1;exact⟨m1++m2,by rw[e2,Array.append_assoc]⟩
theorem Un.kept(k:∀b u,h.get? b=some u->h'.get? b=some u):Un fs ex H H h h':=
 ⟨fun b ob q _ _ _=>k b ob q,fun b ob q _ _ _=>⟨ob.slots,k b ob q⟩,fun _ _ _ n _=>n,fun b ob q _=>⟨ob,k b ob q⟩,fun _ _ q=>q,fun _ _ _ q=>q,fun _ ps q=>⟨#[],by rw[q];simp⟩⟩
theorem Un.refl:Un fs ex H H h h:=Un.kept fun _ _ q=>q
theorem Un.laid(k:∀b u,h.get? b=some u->h'.get? b=some u)(hp:h.objs.size<=a)(hn:H a=none):Un fs ex H (KB H a o) h h' where
 keep:=fun b u q _ _ _=>k b u q
 slot:=fun b u q _ _ _=>⟨u.slots,k b u q⟩
 free:=fun b u q n _=>by rw[cB (Nat.ne_of_lt (Nat.lt_of_lt_of_le (Heap.lt_size q) hp))];exact n
 there:=fun b u q _=>⟨u,k b u q⟩
 tups:=fun b xs q=>by rw[cB (mD q hn)];exact q
 zal:=fun b u xs q=>by rw[cB (mD q hn)];exact q
 zav:=fun b ps q=>⟨#[],by rw[cB (mD q hn),q];simp⟩
theorem Un.write(mu:SU (H x))(he:e=x\/H e=some (.own x))(k:∀b u,b≠e->h.get? b=some u->h'.get? b=some u)(heo:∃u,h'.get? e=some u):Un fs ex H (KB H x o) h h':=by
 have hx:∀b,H b=none->b≠x:=fun b n z=>by subst z;rw[n]at mu;exact mu
 have hb:∀b,H b=none->b≠e:=fun b n z=>by
  subst z;rcases he with r | r
  · exact hx b n r
  · rw[n]at r;cases r
 have hm:∀b u,H b=some u->¬SU (some u)->b≠x:=fun b u q nm z=>by subst z;rw[q]at mu;exact nm mu
 refine⟨fun b u q n _ _=>k b u (hb b n) q,fun b u q n _ _=>⟨u.slots,k b u (hb b n) q⟩,fun b u q n _=>by rw[cB (hx b n)];exact n,fun b u q _=>?_,
  fun b xs q=>by rw[cB (hm b _ q fun z=>z)];exact q,fun b u xs q=>by rw[cB (hm b _ q fun z=>z)];exact q,fun b ps q=>⟨#[],by rw[cB (hm b _ q fun z=>z),q];simp⟩⟩
 by_cases hbe:b=e
 · subst hbe;exact heo
 · exact⟨u,k b u hbe q⟩
theorem Un.mono(u:Un fs ex H H1 h h1)(hs:∀b∈fs,b∈fs')(hx:∀b∈ex,b∈ex'):Un fs' ex' H H1 h h1:=
 ⟨fun b ob q n hb he=>u.keep b ob q n (fun z=>hb (hs b z)) fun z=>he (hx b z),fun _ _ q n _ he=>u.any q n fun z=>he (hx _ z),fun b ob q n he=>u.free b ob q n fun z=>he (hx b z),fun b ob q he=>u.there b ob q fun z=>he (hx b z),u.tups,u.zal,u.zav⟩
end
noncomputable def W1(h:Heap)(H:Hp):List Addr:=(List.range h.objs.size).filter fun a=>(H a).isSome
def IG(h:Heap)(H:Hp):Heap:=PySem.W.hideAll h (W1 h H)
theorem Oj(h:Heap)(H:Hp):(IG h H).objs.size=h.objs.size:=PySem.W.hideAll_size _ _
theorem Tv{h:Heap}{H:Hp}{b:Addr}{o:Obj}(e:h.get? b=some o)(n:H b=none):(IG h H).get? b=some o:=
 PySem.W.hideAll_get _ e fun hm=>by have q:(H b).isSome=true:=(mem_filter.mp hm).2;rw[n]at q;simp at q
theorem Fy{h:Heap}{H:Hp}{b:Addr}{o:Obj}(e:(IG h H).get? b=some o):h.get? b=some o/\H b=none:=by
 have e':h.get? b=some o:=PySem.W.of_hideAll (W1 h H) e;refine⟨e',?_⟩;cases q:H b with
 | none=>rfl
 | some x=>have hm:b∈W1 h H:=mem_filter.mpr ⟨mem_range.mpr (Heap.lt_size e'),by simp[q]⟩;have z:(IG h H).get? b=none:=PySem.W.hideAll_none (W1 h H) hm;rw[z]at e;cases e
noncomputable def Fw(g h:Heap)(L:Addr):List (Addr×Obj):=(List.range h.objs.size).filterMap fun a=>if a=L\/(g.get? a).isSome=true then none else(h.get? a).map fun o=>(a,o)
def rest(g h:Heap)(L d:Addr):List (Addr×Obj):=(Fw g h L).filter fun p=>decide (p.1≠d)
structure Mod(K:Frag)(mg:Str->Option Value)(base:Heap):Prop where
 kin:K.In base
 glob:base.Ns mainGlobals mg
 blt:∃mb,base.Ns builtinsNs mb/\∀x:Str,x ≠ "__name__" ->mb x=bootBuiltins x
 nolimit:base.NoLimit
structure Cx where
 prog:Program
 w:World
 K:Frag
 mg:Str->Option Value
 base:Heap
 A:Around
 N:List Str
 s₀:Shared
 H₀:Hp
 env:Env
 outer:List Env
 stack:List Env
 ex:List Addr
 fn:Str->Bool
 calm:Bool
 pn:List (Addr×Obj)
 xe:Value->Shared->Prop
noncomputable def jK(l:List Env):List Addr:=l.filterMap (·.frame)
abbrev Cx.fs(X:Cx):List Addr:=jK X.outer
noncomputable def C1(sc:Scope)(x:Str):Prop:=sc.names.lookup x=some .local\/sc.names.lookup x=some .cell\/sc.names.lookup x=some .free
noncomputable def bK(sc:Scope)(x:Str):Prop:=sc.names.lookup x=some .local\/sc.names.lookup x=some .cell
noncomputable def Y1(env:Env)(h:Heap)(m:Str->Option Value)(x:Str)(u:Value):Prop:=
 (env.kindOf x=some .local/\m x=some u)\/((env.kindOf x=some .cell\/env.kindOf x=some .free)/\∃c,env.cells.lookup x=some c/\h.IsCell c (some u))
structure Cx.Ok(X:Cx):Prop where
 mod:Mod X.K X.mg X.base
 kind:X.env.scope.kind=.function
 glob:X.env.globals=mainGlobals
 blt:X.env.builtins=builtinsNs
 above:X.s₀.heap.objs.size<=X.env.locals
 inj:∀x y c,X.env.cells.lookup x=some c->X.env.cells.lookup y=some c->x=y
 has:∀x,(X.env.kindOf x=some .cell\/X.env.kindOf x=some .free)->∃c,X.env.cells.lookup x=some c
 cab:∀x c,X.fn x=true->X.env.cells.lookup x=some c->X.s₀.heap.objs.size<=c
 hd:X.calm=true->X.A.handled=none
 frames:X.A.frames=some X.stack
 stk:X.stack=X.outer\/(X.stack=X.env::X.outer/\X.env.frame=some X.env.locals)
 exf:∀b∈X.ex,b≠X.env.locals/\∀x c,X.env.cells.lookup x=some c->c≠b
 bs:∀b o,X.base.get? b=some o->X.s₀.heap.get? b=some o/\X.H₀ b=none
 bsz:X.base.objs.size<=X.s₀.heap.objs.size
 zbk:∀b o,X.base.get? b=some o->b∉X.ex
 zbf:∀b∈X.ex,b∉X.fs
 zau:X.s₀.heap.FunFrames X.base X.outer
 frf:∀b∈X.fs,X.H₀ b=none
structure Inv(X:Cx)(pins:List (Addr×Obj))(σ:List (Option V))(H:Hp)(s:Shared):Prop where
 ok:X.Ok
 os:s.os=X.s₀.os
 bare:AllBare s.gens
 base:Un X.fs X.ex X.H₀ H X.s₀.heap s.heap
 loc:∃m,s.heap.Ns X.env.locals m/\∀(i:Nat)(x:Str)(v:V),X.N[i]?=some x->σ[i]?=some (some v)->C1 X.env.scope x->∃u,RelV v u/\Y1 X.env s.heap m x u
 cell:∀x c,X.env.cells.lookup x=some c->∃v,s.heap.IsCell c v
 free:H X.env.locals=none
 Vp:∀x c,X.env.cells.lookup x=some c->H c=none
 pin:∀p∈X.pn++pins,s.heap.get? p.1=some p.2/\H p.1=none/\p.1≠X.env.locals/\p.1∉X.fs/\∀v,p.2.data≠.cell v
 hok:HOk X.prog X.w H s.heap
 len:σ.length=X.N.length
section
variable{X:Cx}{pins:List (Addr×Obj)}{σ:List (Option V)}{H H':Hp}{s:Shared}{h':Heap}
theorem Cx.Ok.zdR(ok:X.Ok){b:Addr}{o:Obj}(e:X.base.get? b=some o):b∉X.fs:=fun hb=>by have:=(ok.zau.mem hb).1;rw[e]at this;cases this
theorem Inv.bs(I:Inv X pins σ H s):∀b o,X.base.get? b=some o->s.heap.get? b=some o/\H b=none:=fun b o e=>⟨I.base.keep b o (I.ok.bs b o e).1 (I.ok.bs b o e).2 (I.ok.zdR e) (I.ok.zbk b o e),I.base.free b o (I.ok.bs b o e).1 (I.ok.bs b o e).2 (I.ok.zbk b o e)⟩
theorem Inv.bk(I:Inv X pins σ H s):∀b o,X.base.get? b=some o->s.heap.get? b=some o:=fun b o e=>(I.bs b o e).1
theorem Inv.mod(I:Inv X pins σ H s):Mod X.K X.mg X.base:=I.ok.mod
theorem Inv.kIn(I:Inv X pins σ H s):X.K.In s.heap:=I.ok.mod.kin.keeps I.bk
theorem Inv.nolimit(I:Inv X pins σ H s):s.heap.NoLimit:=I.ok.mod.nolimit.keeps I.bk
theorem Inv.lt(I:Inv X pins σ H s):X.env.locals<s.heap.objs.size:=let ⟨_,hn,_⟩:=I.loc;hn.lt
theorem Inv.sz(I:Inv X pins σ H s):X.s₀.heap.objs.size<=s.heap.objs.size:=Nat.le_trans I.ok.above (Nat.le_of_lt I.lt)
theorem Inv.zdS(I:Inv X pins σ H s){a:Addr}(h:s.heap.objs.size<=a):a∉X.fs:=fun hb=>by obtain⟨_,o,ho,_⟩:=I.ok.zau.mem hb;exact absurd (Nat.lt_of_lt_of_le (Heap.lt_size ho) (Nat.le_trans I.sz h)) (Nat.lt_irrefl _)
theorem Inv.cne(I:Inv X pins σ H s):∀x c,X.env.cells.lookup x=some c->c≠X.env.locals:=fun x c e z=>by obtain⟨v,o,ho,hd⟩:=I.cell x c e;obtain⟨m,⟨o',es,ep,ho',hd',_⟩,_⟩:=I.loc;rw[z,ho']at ho;cases ho;rw[hd']at hd;cases hd
theorem Inv.zau(I:Inv X pins σ H s):s.heap.FunFrames X.base X.outer:=by
 have all:∀(l:List Env),(∀b∈jK l,b∈X.fs)->X.s₀.heap.FunFrames X.base l->s.heap.FunFrames X.base l:=by
  intro l
  induction l with
  | nil=>intro _ _;trivial
  | cons env r ih=>
   intro hs hl;obtain⟨hk,⟨L,o,hf,hn,ho,hd⟩,hr⟩:=hl;have hL:L∈X.fs:=hs L (by unfold jK;rw[filterMap_cons,hf];exact mem_cons_self);obtain⟨sl,e⟩:=I.base.slot L o ho (I.ok.frf L hL) hL fun z=>I.ok.zbf L z hL
   exact⟨hk,⟨L,_,hf,hn,e,hd⟩,ih (fun b hb=>hs b (by unfold jK;rw[filterMap_cons,hf];exact mem_cons_of_mem _ hb)) hr⟩
 exact all X.outer (fun _ hb=>hb) I.ok.zau
theorem Inv.stack(I:Inv X pins σ H s):s.heap.FunFrames X.base X.stack:=by
 rcases I.ok.stk with e | ⟨e,hf⟩
 · rw[e];exact I.zau
 · rw[e];obtain⟨m,hn,_⟩:=I.loc;refine .cons (by rw[I.ok.kind];decide) hf hn ?_ I.zau;exact Heap.get?_none_of_le (Nat.le_trans I.ok.bsz I.ok.above)
theorem Inv.zaR(I:Inv X pins σ H s):∀b∈jK X.stack,b∈X.env.locals::X.fs:=fun b hb=>by
 rcases I.ok.stk with e | ⟨e,hf⟩
 · rw[e]at hb;exact mem_cons_of_mem _ hb
 · rw[e]at hb;unfold jK at hb;rw[filterMap_cons,hf]at hb;exact hb
theorem Inv.zaX(I:Inv X pins σ H s):∀b∈jK X.stack,H b=none:=fun b hb=>by
 rcases mem_cons.mp (I.zaR b hb)with e | hb
 · rw[e];exact I.free
 · obtain⟨_,o,ho,_⟩:=I.ok.zau.mem hb;exact I.base.free b o ho (I.ok.frf b hb) fun z=>I.ok.zbf b z hb
theorem Inv.step{g':Array GenState}{t':Nat}{d':Drawn}{ch:List Addr}(I:Inv X pins σ H s)
 (hch:∀b∈ch,(b∈X.ex\/X.s₀.heap.objs.size<=b)/\b≠X.env.locals/\(∀x c,X.env.cells.lookup x=some c->c≠b)/\∀p∈X.pn++pins,p.1≠b)
 (keep:∀b o,b≠X.env.locals->b∉X.fs->b∉ch->s.heap.get? b=some o->H b=none->h'.get? b=some o)
 (slot:∀b o,b≠X.env.locals->b∈X.fs->b∉ch->s.heap.get? b=some o->H b=none->∃sl,h'.get? b=some { o with slots:=sl }) (free:∀b o,b∉ch->s.heap.get? b=some o->H b=none->H' b=none)
 (there:∀b o,b∉ch->s.heap.get? b=some o->∃o',h'.get? b=some o')
 (tups:∀b xs,H b=some (.tup xs)->H' b=some (.tup xs)) (zal:∀b o u,H b=some (.frz o u)->H' b=some (.frz o u)) (zav:∀b ps,H b=some (.tbl ps)->∃more,H' b=some (.tbl (ps++more)))
 (ns:∀m,s.heap.Ns X.env.locals m->h'.Ns X.env.locals m) (hok:HOk X.prog X.w H' h') (hg:AllBare g') :
 Inv X pins σ H' { s with heap:=h',gens:=g',drawn:=d',toks:=t' }:=by
 have neL:∀b o,X.s₀.heap.get? b=some o->b≠X.env.locals:=fun b o e=>Nat.ne_of_lt (Nat.lt_of_lt_of_le (Heap.lt_size e) I.ok.above)
 have neC:∀b o,X.s₀.heap.get? b=some o->b∉X.ex->b∉ch:=fun b o e hx hb=>by
  rcases(hch b hb).1 with z | z
  · exact hx z
  · exact absurd (Nat.lt_of_lt_of_le (Heap.lt_size e) z) (Nat.lt_irrefl _)
 have cellK:∀x c,X.env.cells.lookup x=some c->∀v,s.heap.IsCell c v->h'.IsCell c v:=fun x c e v zz=>by
  obtain⟨o,ho,hd⟩:=zz;have nch:c∉ch:=fun z=>(hch c z).2.2.1 x c e rfl
  by_cases hc:c∈X.fs
  · obtain⟨sl,q⟩:=slot c o (I.cne x c e) hc nch ho (I.Vp x c e);exact⟨_,q,hd⟩
  · exact⟨o,keep c o (I.cne x c e) hc nch ho (I.Vp x c e),hd⟩
 refine⟨I.ok,I.os,hg,⟨fun b o e n hb hx=>?_,fun b o e n hb hx=>?_,fun b o e n hx=>?_,fun b o e hx=>?_,fun b xs e=>tups b xs (I.base.tups b xs e),fun b o xs e=>zal b o xs (I.base.zal b o xs e),fun b ps e=>?_⟩,?_,fun x c e=>?_,?_,fun x c e=>?_,fun p hp=>?_,hok,I.len⟩
 · exact keep b o (neL b o e) hb (neC b o e hx) (I.base.keep b o e n hb hx) (I.base.free b o e n hx)
 · obtain⟨sl,e1⟩:=I.base.slot b o e n hb hx;obtain⟨sl',e2⟩:=slot b _ (neL b o e) hb (neC b o e hx) e1 (I.base.free b o e n hx);exact⟨sl',e2⟩
 · obtain⟨o',e1⟩:=I.base.there b o e hx;exact free b o' (neC b o e hx) e1 (I.base.free b o e n hx)
 · obtain⟨o',e1⟩:=I.base.there b o e hx;exact there b o' (neC b o e hx) e1
 · obtain⟨m1,e1⟩:=I.base.zav b ps e;obtain⟨m2,e2⟩:=zav b _ e1;exact⟨m1++m2,by rw[e2,Array.append_assoc]⟩
 · obtain⟨m,hn,hl⟩:=I.loc;refine⟨m,ns m hn,fun i x v e1 e2 e3=>?_⟩;obtain⟨u,r,l⟩:=hl i x v e1 e2 e3;refine⟨u,r,?_⟩;rcases l with l | ⟨k,c,e,z⟩
   · exact .inl l
   · exact .inr ⟨k,c,e,cellK x c e _ z⟩
 · obtain⟨v,z⟩:=I.cell x c e;exact⟨v,cellK x c e v z⟩
 · obtain⟨m,⟨o,_,_,ho,_⟩,_⟩:=I.loc;exact free _ o (fun z=>(hch _ z).2.1 rfl) ho I.free
 · obtain⟨v,o,ho,hd⟩:=I.cell x c e;exact free c o (fun z=>(hch c z).2.2.1 x c e rfl) ho (I.Vp x c e)
 · obtain⟨e,n,ne,nf,d⟩:=I.pin p hp;have nch:p.1∉ch:=fun z=>(hch p.1 z).2.2.2 p hp rfl
   exact⟨keep p.1 p.2 ne nf nch e n,free p.1 p.2 nch e n,ne,nf,d⟩
theorem Inv.un{t':Nat}(I:Inv X pins σ H s)(u:Un X.fs [] H H' s.heap h')(hok:HOk X.prog X.w H' h'):Inv X pins σ H' { s with heap:=h',toks:=t' }:=by
 obtain⟨m,⟨o,es,ep,ho,r⟩,_⟩:=id I.loc;obtain⟨sl,hL⟩:=u.any ho I.free (by simp);exact I.step (g':=s.gens) (d':=s.drawn) (ch:=[]) (fun _ z=>nomatch z) (fun b o _ hb _ e n=>u.keep b o e n hb (by simp)) (fun b o _ hb _ e n=>u.slot b o e n hb (by simp)) (fun b o _ e n=>u.free b o e n (by simp)) (fun b o _ e=>u.there b o e (by simp)) u.tups u.zal u.zav (fun m' hm=>by
  obtain⟨o',es',ep',ho',r'⟩:=hm;rw[ho]at ho';cases ho';exact⟨_,es',ep',hL,r'⟩) hok I.bare
theorem Inv.call{g':Array GenState}{t':Nat}{d':Drawn}{ch:List Addr}(I:Inv X pins σ H s)(u:Un (jK X.stack) ch H H' s.heap h')(hok:HOk X.prog X.w H' h')(hg:AllBare g')
 (hch:∀b∈ch,(b∈X.ex\/X.s₀.heap.objs.size<=b)/\b≠X.env.locals/\(∀x c,X.env.cells.lookup x=some c->c≠b)/\∀p∈X.pn++pins,p.1≠b) :
 Inv X pins σ H' { s with heap:=h',gens:=g',drawn:=d',toks:=t' }:=by
 obtain⟨m,⟨o,es,ep,ho,r⟩,_⟩:=id I.loc;obtain⟨sl,hL⟩:=u.any ho I.free fun z=>(hch _ z).2.1 rfl
 exact I.step (ch:=ch) hch (fun b o hL hb hc e n=>u.keep b o e n (fun z=>(mem_cons.mp (I.zaR b z)).elim hL hb) hc) (fun b o _ _ hc e n=>u.any e n hc) (fun b o hc e n=>u.free b o e n hc) (fun b o hc e=>u.there b o e hc) u.tups u.zal u.zav (fun m' hm=>by
  obtain⟨o',es',ep',ho',r'⟩:=hm;rw[ho]at ho';cases ho';exact⟨_,es',ep',hL,r'⟩) hok hg
theorem Inv.turned{t':Nat}{it:Addr}(I:Inv X pins σ H s)(k:∀b o,b≠it->s.heap.get? b=some o->h'.get? b=some o)(hn:H it=none)(hL:it≠X.env.locals)
 (h1:it∈X.ex\/X.s₀.heap.objs.size<=it) (h2:∀x c,X.env.cells.lookup x=some c->c≠it) (h3:∀p∈X.pn++pins,p.1≠it):Inv X pins σ H { s with heap:=h',toks:=t' }:=by
 have nit:∀b u,H b=some u->b≠it:=fun b u e z=>by rw[z,hn]at e;cases e
 refine I.step (g':=s.gens) (d':=s.drawn) (ch:=[it]) (fun b hb=>?_) (fun b o _ _ hc e _=>k b o (fun z=>hc (by simp[z])) e) (fun b o _ _ hc e _=>⟨o.slots,k b o (fun z=>hc (by simp[z])) e⟩) (fun _ _ _ _ n=>n)
  (fun b o hc e=>⟨o,k b o (fun z=>hc (by simp[z])) e⟩) (fun _ _ e=>e) (fun _ _ _ e=>e) (fun b ps e=>⟨#[],by rw[e];simp⟩) (fun m hm=>?_) (fun b u e=>?_) I.bare
 · have e:b=it:=by simpa using hb
   subst e;exact⟨h1,hL,h2,h3⟩
 · obtain⟨o,es,ep,ho,r⟩:=hm;exact⟨o,es,ep,k _ o (Ne.symm hL) ho,r⟩
 · refine(I.hok b u e).stay (fun c v hc q=>k c v ?_ q) (fun _ q=>q) fun _ _ q=>q
   rcases hc with z | z
   · rw[z];exact nit b u e
   · exact nit c _ z
theorem Inv.tok(I:Inv X pins σ H s)(t:Nat):Inv X pins σ H { s with toks:=t }:=I.un (h':=s.heap) (t':=t) Un.refl I.hok
theorem Inv.kept{t':Nat}(I:Inv X pins σ H s)(k:∀b u,s.heap.get? b=some u->h'.get? b=some u):Inv X pins σ H { s with heap:=h',toks:=t' }:=I.un (Un.kept k) (I.hok.kept k)
theorem Inv.laid{a:Addr}{o:HO}{t':Nat}(I:Inv X pins σ H s)(k:∀b u,s.heap.get? b=some u->h'.get? b=some u)(hp:s.heap.objs.size<=a)(new:Xm X.prog X.w (KB H a o) h' a o) :
 Inv X pins σ (KB H a o) { s with heap:=h',toks:=t' }:=I.un (Un.laid k hp (I.hok.fresh hp)) (I.hok.laid k hp new)
theorem Inv.write{x e:Addr}{o:HO}{t':Nat}(I:Inv X pins σ H s)(mu:SU (H x))(he:e=x\/H e=some (.own x))(k:∀b u,b≠e->s.heap.get? b=some u->h'.get? b=some u)(heo:∃u,h'.get? e=some u)
 (new:Xm X.prog X.w (KB H x o) h' x o):Inv X pins σ (KB H x o) { s with heap:=h',toks:=t' }:=I.un (Un.write mu he k heo) (I.hok.write mu he k heo new)
theorem Inv.zaW{zbM:List (Addr×Obj)}(I:Inv X pins σ H s)(h:∀p∈zbM,s.heap.get? p.1=some p.2/\H p.1=none/\p.1≠X.env.locals/\p.1∉X.fs/\∀v,p.2.data≠.cell v):Inv X zbM σ H s:=
 ⟨I.ok,I.os,I.bare,I.base,I.loc,I.cell,I.free,I.Vp,fun p hp=>(mem_append.mp hp).elim (fun z=>I.pin p (mem_append_left _ z)) (h p),I.hok,I.len⟩
theorem BX{N:List Str}(hN:N.Nodup){i j:Nat}{x:Str}(a:N[i]?=some x)(b:N[j]?=some x):i=j:=by obtain⟨h1,e1⟩:=zfY a;obtain⟨h2,e2⟩:=zfY b;exact(getElem_inj hN).mp (e1.trans e2.symm)
theorem gX{M:Model}{A:Around}{E:Value->Shared->Prop}{i:Nat}{x:Str}{v:V}{u:Value}{Q:Unit->Shared->Prop}(I:Inv X pins σ H s)(hN:X.N.Nodup)(hi:X.N[i]?=some x)(hx:bK X.env.scope x)(r:RelV v u)
 (h:∀s',Inv X pins (σ.set i (some v)) H s'->(∃a,Heap.SameBut a s.heap s'.heap/\(a=X.env.locals\/X.env.cells.lookup x=some a))->Q () s') (hf:X.fn x=true\/X.env.scope.names.lookup x=some .local:=by first | exact .inl rfl | exact .inr rfl | assumption):wpAny M A (storeName X.env x u) Q E s:=by
 obtain⟨m,hn,hl⟩:=id I.loc;have hcls:(X.env.scope.kind==.class || (X.env.scope.kind==.module&&X.env.locals !=X.env.globals))=false:=by rw[I.ok.kind];rfl
 have hiσ:i<σ.length:=by rw[I.len];exact(zfY hi).1
 have cne:=I.cne;have tracked:∀{a:Addr}{h':Heap},(∃o,s.heap.get? a=some o/\H a=none)->Heap.SameBut a s.heap h'->HOk X.prog X.w H h':=fun {a h'} ha hs b ob e=>by
  obtain⟨_,_,hfree⟩:=ha;refine(I.hok b ob e).stay (fun c w' hc q=>(hs.2 c ?_).trans q) (fun _ q=>q) fun _ _ q=>q
  rintro rfl;rcases hc with rfl | hc
  · rw[hfree]at e;cases e
  · rw[hfree]at hc;cases hc
 rcases hx with hk | hk
 · refine wpAny_storeName_local hk hn (fun h' hn' hs=>?_) hcls;obtain⟨oL,_,_,hoL,_⟩:=id hn;refine h _ ⟨I.ok,I.os,I.bare,⟨fun b o e n hb hx=>?_,fun b o e n hb hx=>?_,I.base.free,fun b o e hx=>?_,I.base.tups,I.base.zal,I.base.zav⟩,⟨_,hn',fun j y v' e1 e2 e3=>?_⟩,fun y c e=>?_,I.free,I.Vp,fun p hp=>?_,tracked ⟨oL,hoL,I.free⟩ hs,by simpa using I.len⟩ ⟨_,hs,.inl rfl⟩
   · exact(hs.2 b (Nat.ne_of_lt (Nat.lt_of_lt_of_le (Heap.lt_size e) I.ok.above))).trans (I.base.keep b o e n hb hx)
   · obtain⟨sl,e1⟩:=I.base.slot b o e n hb hx;exact⟨sl,(hs.2 b (Nat.ne_of_lt (Nat.lt_of_lt_of_le (Heap.lt_size e) I.ok.above))).trans e1⟩
   · obtain⟨o',e1⟩:=I.base.there b o e hx;exact⟨o',(hs.2 b (Nat.ne_of_lt (Nat.lt_of_lt_of_le (Heap.lt_size e) I.ok.above))).trans e1⟩
   · by_cases hj:j=i
     · subst hj;rw[hi]at e1;cases e1;rw[getElem?_set_self hiσ]at e2;cases e2;exact⟨u,r,.inl ⟨hk,by simp⟩⟩
     · rw[getElem?_set_ne (Ne.symm hj)]at e2;obtain⟨u',r',q⟩:=hl j y v' e1 e2 e3;refine⟨u',r',?_⟩;rcases q with⟨k,e⟩ | ⟨k,c,e,z⟩
       · refine .inl ⟨k,?_⟩;have:y≠x:=fun e=>hj (BX hN e1 (e ▸ hi))
         simp[this,e]
       · exact .inr ⟨k,c,e,z.sameBut hs (cne y c e)⟩
   · obtain⟨w',z⟩:=I.cell y c e;exact⟨w',z.sameBut hs (cne y c e)⟩
   · obtain⟨e,n,ne,nf,d⟩:=I.pin p hp;exact⟨(hs.2 p.1 ne).trans e,n,ne,nf,d⟩
 · have hfn:X.fn x=true:=by
    rcases hf with z | z
    · exact z
    · rw[z]at hk;cases hk
   obtain⟨c,hc⟩:=I.ok.has x (.inl hk);obtain⟨w',z⟩:=I.cell x c hc;refine wpAny_storeName_cell I.ok.kind hk hc z (fun h' hc' hs=>?_);obtain⟨oc,hoc,zdN⟩:=id z;refine h { s with heap:=h' } ⟨I.ok,I.os,I.bare,⟨fun b o e n hb hx=>?_,fun b o e n hb hx=>?_,I.base.free,fun b o e hx=>?_,I.base.tups,I.base.zal,I.base.zav⟩,⟨m,hn.sameBut hs (Ne.symm (cne x c hc)),fun j y v' e1 e2 e3=>?_⟩,fun y c' e=>?_,I.free,I.Vp,fun p hp=>?_,tracked ⟨oc,hoc,I.Vp x c hc⟩ hs,by simpa using I.len⟩ ⟨c,hs,.inr hc⟩
   · exact(hs.2 b (Nat.ne_of_lt (Nat.lt_of_lt_of_le (Heap.lt_size e) (I.ok.cab x c hfn hc)))).trans (I.base.keep b o e n hb hx)
   · obtain⟨sl,e1⟩:=I.base.slot b o e n hb hx;exact⟨sl,(hs.2 b (Nat.ne_of_lt (Nat.lt_of_lt_of_le (Heap.lt_size e) (I.ok.cab x c hfn hc)))).trans e1⟩
   · obtain⟨o',e1⟩:=I.base.there b o e hx;exact⟨o',(hs.2 b (Nat.ne_of_lt (Nat.lt_of_lt_of_le (Heap.lt_size e) (I.ok.cab x c hfn hc)))).trans e1⟩
   · by_cases hj:j=i
     · subst hj;rw[hi]at e1;cases e1;rw[getElem?_set_self hiσ]at e2;cases e2;exact⟨u,r,.inr ⟨.inl hk,c,hc,hc'⟩⟩
     · rw[getElem?_set_ne (Ne.symm hj)]at e2;obtain⟨u',r',q⟩:=hl j y v' e1 e2 e3;refine⟨u',r',?_⟩;rcases q with q | ⟨k,c',e,z'⟩
       · exact .inl q
       · refine .inr ⟨k,c',e,z'.sameBut hs ?_⟩;rintro rfl;exact hj (BX hN e1 (I.ok.inj _ _ _ e hc ▸ hi))
   · by_cases hcc:c'=c
     · subst hcc;exact⟨_,hc'⟩
     · obtain⟨w2,z2⟩:=I.cell y c' e;exact⟨w2,z2.sameBut hs hcc⟩
   · obtain⟨e,n,ne,nf,d⟩:=I.pin p hp;refine⟨(hs.2 p.1 ?_).trans e,n,ne,nf,d⟩;intro q;rw[q,hoc]at e;have q':oc=p.2:=Option.some.inj e;exact d w' (by rw[<- q'];exact zdN)
theorem gY{M:Model}{A:Around}{E:Value->Shared->Prop}{i:Nat}{x:Str}{v:V}{u:Value}{Q:Unit->Shared->Prop}(I:Inv X pins σ H s)(hN:X.N.Nodup)(hi:X.N[i]?=some x)(hx:bK X.env.scope x)(r:RelV v u)
 (h:∀s',Inv X pins (σ.set i (some v)) H s'->Q () s') (hf:X.fn x=true\/X.env.scope.names.lookup x=some .local:=by first | exact .inl rfl | exact .inr rfl | assumption):wpAny M A (storeName X.env x u) Q E s:=
 gX I hN hi hx r (fun s' I' _=>h s' I') hf
theorem Inv.call'{s':Shared}{ch:List Addr}(I:Inv X pins σ H s)(ho:s'.os=s.os)(u:Un (jK X.stack) ch H H' s.heap s'.heap)(hok:HOk X.prog X.w H' s'.heap)(hg:AllBare s'.gens)
 (hch:∀b∈ch,(b∈X.ex\/X.s₀.heap.objs.size<=b)/\b≠X.env.locals/\(∀x c,X.env.cells.lookup x=some c->c≠b)/\∀p∈X.pn++pins,p.1≠b):Inv X pins σ H' s':=by
 obtain⟨h',g',d',t',o'⟩:=s';have e:o'=s.os:=ho;subst e;exact I.call (g':=g') (t':=t') (d':=d') u hok hg hch
end
abbrev XK:=Value->Option Addr->Hp->Prop
noncomputable abbrev St:=List (Option V)
abbrev VK:=V->Hp->Prop
abbrev TE:=St->Hp->VK->Prop
abbrev TT:=St->Hp->(Bool->Hp->Prop)->Prop
abbrev TA:=St->Hp->(List V->Hp->Prop)->Prop
structure OH where
 nx:St->Hp->Prop
 rt:VK
 bk:St->Hp->Prop:=fun _ _=>False
 ct:St->Hp->Prop:=fun _ _=>False
abbrev TS:=OH->St->Hp->Prop
def EP(X:Cx)(pins:List (Addr×Obj))(σ:St)(Q:VK)(u:Value)(s':Shared):Prop:=∃v H',Inv X pins σ H' s'/\RelV v u/\Q v H'
noncomputable def TP(X:Cx)(pins:List (Addr×Obj))(σ:St)(Q:Bool->Hp->Prop)(b:Bool)(s':Shared):Prop:=∃H',Inv X pins σ H' s'/\Q b H'
def AP(X:Cx)(pins:List (Addr×Obj))(σ:St)(Q:List V->Hp->Prop)(us:List Value)(s':Shared):Prop:=∃vs H',Inv X pins σ H' s'/\Vals vs us/\Q vs H'
def SP(X:Cx)(pins:List (Addr×Obj))(D:OH)(f:Flow)(s':Shared):Prop:=
 match f with
 | .next=>∃σ' H',Inv X pins σ' H' s'/\D.nx σ' H'
 | .brk=>∃σ' H',Inv X pins σ' H' s'/\D.bk σ' H'
 | .cont=>∃σ' H',Inv X pins σ' H' s'/\D.ct σ' H'
 | .ret u=>∃v σ' H',Inv X pins σ' H' s'/\RelV v u/\D.rt v H'
def PE(X:Cx)(e:Expr)(t:TE):Prop:=
 ∀(pins:List (Addr×Obj))(s:Shared)(σ:St)(H:Hp)(Q:VK),Inv X pins σ H s->t σ H Q->wpAny (model X.prog X.w) X.A (eval e X.env) (EP X pins σ Q) X.xe s
def PT(X:Cx)(e:Expr)(t:TT):Prop:=
 ∀(pins:List (Addr×Obj))(s:Shared)(σ:St)(H:Hp)(Q:Bool->Hp->Prop),Inv X pins σ H s->t σ H Q->wpAny (model X.prog X.w) X.A (isTrue e X.env (eval e X.env)) (TP X pins σ Q) X.xe s
def PW(X:Cx)(e:Expr)(t:TT):Prop:=
 ∀(whole:Sem Value)(pins:List (Addr×Obj))(s:Shared)(σ:St)(H:Hp)(Q:Bool->Hp->Prop),Inv X pins σ H s->t σ H Q->wpAny (model X.prog X.w) X.A (isTrue e X.env whole) (TP X pins σ Q) X.xe s
theorem PW.pt{X:Cx}{e:Expr}{t:TT}(h:PW X e t):PT X e t:=h _
def PA(X:Cx)(es:List Expr)(t:TA):Prop:=
 ∀(pos:Pos)(pins:List (Addr×Obj))(s:Shared)(σ:St)(H:Hp)(Q:List V->Hp->Prop),Inv X pins σ H s->t σ H Q->wpAny (model X.prog X.w) X.A (spliced (backTo pos (starEach es X.env))) (AP X pins σ Q) X.xe s
def PS(X:Cx)(st:Stmt)(t:TS):Prop:=
 ∀(pins:List (Addr×Obj))(s:Shared)(σ:St)(H:Hp)(D:OH),Inv X pins σ H s->t D σ H->wpAny (model X.prog X.w) X.A (exec st X.env) (SP X pins D) X.xe s
def PSs(X:Cx)(st:List Stmt)(t:TS):Prop:=
 ∀(pins:List (Addr×Obj))(s:Shared)(σ:St)(H:Hp)(D:OH),Inv X pins σ H s->t D σ H->wpAny (model X.prog X.w) X.A (execs st X.env) (SP X pins D) X.xe s
theorem HB{α:Type}{t:Sem α}{Q Q':α->Shared->Prop}{M:Model}{A:Around}{E:Value->Shared->Prop}{s:Shared}(h:wpAny M A t Q E s)(hQ:∀a s,Q a s->Q' a s):wpAny M A t Q' E s:=wpAny_mono h hQ fun _ _ x=>x
section
variable{X:Cx}
theorem Zn{a b:Expr}{ta tb:TE}(ha:PE X a ta)(hb:PE X b tb){pins:List (Addr×Obj)}{s:Shared}{σ:St}{H:Hp}{R:V->V->Hp->Prop}(I:Inv X pins σ H s)(h:ta σ H fun x H1=>tb σ H1 fun y H2=>R x y H2)
 {α:Type} {Q:α->Shared->Prop} {f:Value->Value->Sem α}
 (hf:∀v u s2 x y H2,Inv X pins σ H2 s2->RelV x v->RelV y u->R x y H2->wpAny (model X.prog X.w) X.A (f v u) Q X.xe s2) :
 wpAny (model X.prog X.w) X.A (eval a X.env) (fun v s₁=>wpAny (model X.prog X.w) X.A (eval b X.env) (fun u s₂=>wpAny (model X.prog X.w) X.A (f v u) Q X.xe s₂) X.xe s₁) X.xe s:=by
 refine HB (ha pins s σ H _ I h) fun v s1 zz=>?_
 obtain⟨x,H1,I1,r1,q1⟩:=zz;refine HB (hb pins s1 σ H1 _ I1 q1) fun u s2 zz=>?_
 obtain⟨y,H2,I2,r2,q2⟩:=zz;exact hf v u s2 x y H2 I2 r1 r2 q2
noncomputable def T4(i:Nat):TE:=fun σ H Q=>∃v,σ[i]?=some (some v)/\Q v H
noncomputable def tC(v:V):TE:=fun _ H Q=>Q v H
theorem Ur {i:Nat} {x:Str} {pos:Pos} (hN:X.N[i]?=some x) (hv:C1 X.env.scope x) (hd:(x==("__debug__" :Str))=false:=by decide) (hcd:(x==("__classdict__" :Str))=false:=by decide):PE X (.Name x pos) (T4 i):=by
 intro pins s σ H Q I h;obtain⟨v,e,h⟩:=h;obtain⟨m,hn,hl⟩:=I.loc;obtain⟨u,r,l⟩:=hl i x v hN e hv;have fin:EP X pins σ Q u s:=⟨v,H,I,r,h⟩;rcases l with⟨hk,hm⟩ | ⟨hk,c,hc,hcell⟩
 · exact wpAny_Name (wpAny_loadName_local I.ok.kind hk hn hm fin) hd
 · rcases hk with hk | hk
   · exact wpAny_Name (wpAny_loadName_cell I.ok.kind hk hc hcell fin) hd
   · exact wpAny_Name (wpAny_loadName_free I.ok.kind hk hc hcell fin hcd) hd
theorem Kr{i j pos}:PE X (.Constant (.int i) j pos) (tC (.int i)):=fun _ _ _ H _ I h=>wpAny_Constant_int ⟨.int i,H,I.tok _,⟨_,rfl⟩,h⟩
theorem d6{b j pos}:PE X (.Constant (.bool b) j pos) (tC (.bl b)):=fun _ _ _ H _ I h=>Constant_bool ⟨.bl b,H,I,rfl,h⟩
theorem Lr{j pos}:PE X (.Constant .none j pos) (tC .non):=fun _ _ _ H _ I h=>Constant_none ⟨.non,H,I,rfl,h⟩
theorem Pr{x j pos}:PE X (.Constant (.str x) j pos) (tC (.str x)):=fun _ _ _ H _ I h=>Calls.Constant_str ⟨.str x,H,I.tok _,⟨_,rfl⟩,h⟩
noncomputable def Gl(X:Cx)(x:Str):Prop:=X.env.kindOf x=some .globalImplicit
theorem qO{E:Value->Shared->Prop}{pins:List (Addr×Obj)}{s:Shared}{σ:St}{H:Hp}{x:Str}{u:Value}{pos:Pos}{Q:Value->Shared->Prop}(I:Inv X pins σ H s)(hg:Gl X x)(hm:X.mg x=some u)(h:Q u s)
 (hd:(x==("__debug__" :Str))=false:=by decide):wpAny (model X.prog X.w) X.A (eval (.Name x pos) X.env) Q E s:=
 Calls.Name_function_global I.ok.kind hg (Calls.loadGlobal_global (by rw[I.ok.glob];exact I.mod.glob.keeps I.bk) hm h) hd
theorem EH{E:Value->Shared->Prop}{pins:List (Addr×Obj)}{s:Shared}{σ:St}{H:Hp}{x:Str}{u:Value}{pos:Pos}{Q:Value->Shared->Prop}(I:Inv X pins σ H s)(hg:Gl X x)(hm:X.mg x=none)(hv:bootBuiltins x=some u)(h:Q u s)
 (hn:x ≠ "__name__" :=by decide) (hd:(x==("__debug__" :Str))=false:=by decide):wpAny (model X.prog X.w) X.A (eval (.Name x pos) X.env) Q E s:=by
 obtain⟨mb,h1,h2⟩:=I.mod.blt;exact Calls.Name_function_global I.ok.kind hg (Calls.loadGlobal_builtin (by rw[I.ok.glob];exact I.mod.glob.keeps I.bk) hm (by rw[I.ok.blt];exact h1.keeps I.bk) ((h2 x hn).trans hv) h) hd
theorem Dk {x:Str} {v:V} {u:Value} {pos:Pos} (hg:Gl X x) (hm:X.mg x=some u) (r:RelV v u) (hd:(x==("__debug__" :Str))=false:=by decide):PE X (.Name x pos) (tC v):=
 fun _ _ _ H _ I h=>qO I hg hm ⟨v,H,I,r,h⟩ hd
theorem Qy {x:Str} {v:V} {u:Value} {pos:Pos} (hg:Gl X x) (hm:X.mg x=none) (hv:bootBuiltins x=some u) (r:RelV v u) (hn:x ≠ "__name__" :=by decide) (hd:(x==("__debug__" :Str))=false:=by decide):PE X (.Name x pos) (tC v):=
 fun _ _ _ H _ I h=>EH I hg hm hv ⟨v,H,I,r,h⟩ hn hd
variable{a b:Expr}{ta tb:TE}{pos:Pos}
def PC(X:Cx)(op:CmpOp)(a b:Expr)(t:TE):Prop:=
 ∀(pins:List (Addr×Obj))(s:Shared)(σ:St)(H:Hp)(Q:VK),Inv X pins σ H s->t σ H Q->
  wpAny (model X.prog X.w) X.A (eval a X.env) (fun v s₁=>wpAny (model X.prog X.w) X.A (eval b X.env) (fun u s₂=>wpAny (model X.prog X.w) X.A (compareOp op v u) (EP X pins σ Q) X.xe s₂) X.xe s₁) X.xe s
theorem Qz(b:Expr){op:CmpOp}(h:op≠.In)(h2:op≠.NotIn):behindInMarks op b=false:=by
 have e1:(op==CmpOp.In)=false:=by cases op<;>first | rfl | exact absurd rfl h
 have e2:(op==CmpOp.NotIn)=false:=by cases op<;>first | rfl | exact absurd rfl h2
 cases b<;>simp[behindInMarks,e1,e2]
noncomputable def tB(t:TE):TT:=fun σ H Q=>t σ H fun x H1=>∃c,x=.bl c/\Q c H1
theorem Dn{op:CmpOp}{t:TE}(h:PC X op a b t)(h1:behindInMarks op b=false:=by first | exact Qz _ (by decide) (by decide) | rfl):PT X (.Compare a [op] [b] pos) (tB t):=by intro pins s σ H Q I hw;refine wpAny_isTrue_Compare1 (HB (h pins s σ H _ I hw) fun v s1 h1=>HB h1 fun u s2 h2=>HB h2 fun c s3 zz=>?_) h1;obtain⟨x,H1,I1,r1,q1⟩:=zz;obtain⟨d,rfl,q⟩:=q1;cases r1;exact wpAny_truthy_bool ⟨H1,I1,q⟩
theorem jf{e:Expr}{t:TE}(h:PE X e t)(he:∀whole,isTrue e X.env whole=(do let v <- whole;standAt e.pos;holding [v] (truthy v)):=by intro _;rfl):PT X e (tB t):=by intro pins s σ H Q I hw;refine isTrue_plain (HB (h pins s σ H _ I hw) fun v s1 zz=>?_) (he _);obtain⟨x,H1,I1,r1,q1⟩:=zz;obtain⟨d,rfl,q⟩:=q1;cases r1;exact wpAny_truthy_bool ⟨H1,I1,q⟩
variable{tA Dl:TT}{rest:List Expr}
noncomputable def Rc(t u:TT):TT:=fun σ H Q=>t σ H fun c H1=>if c=true then Q true H1 else u σ H1 Q
noncomputable def K4(t:TT):TT:=fun σ H Q=>t σ H fun c H1=>Q (!c) H1
theorem uf(ha:PT X a tA):PW X (.BoolOp .Or [a] pos) tA:=by
 intro wh pins s σ H Q I h;refine isTrue_or (HB (ha pins s σ H Q I h) fun c s1 e=>?_);cases c with
 | false=>exact isTrue_or_nil e
 | true=>exact e
theorem k6(ha:PT X a tA)(hb:PW X (.BoolOp .Or (b::rest) pos) Dl):PW X (.BoolOp .Or (a::b::rest) pos) (Rc tA Dl):=by
 intro wh pins s σ H Q I h;refine isTrue_or (HB (ha pins s σ H _ I h) fun c s1 zz=>?_);obtain⟨H1,I1,q1⟩:=zz;cases c with
 | true=>exact⟨H1,I1,q1⟩
 | false=>exact hb wh pins s1 σ H1 Q I1 q1
theorem bf(ha:PT X a tA):PT X (.UnaryOp .Not a pos) (K4 tA):=by intro pins s σ H Q I h;exact isTrue_not (ha pins s σ H (fun c H1=>Q (!c) H1) I h)
noncomputable def t5(ta tb:TE):TE:=fun σ H Q=>ta σ H fun x H1=>∃c,x=.bl c/\if c=true then tb σ H1 Q else Q (.bl false) H1
noncomputable def M4(ta tb:TE):TE:=fun σ H Q=>ta σ H fun x H1=>∃c,x=.bl c/\if c=true then Q (.bl true) H1 else tb σ H1 Q
noncomputable def e7(ta:TE):TE:=fun σ H Q=>ta σ H fun x H1=>∃c,x=.bl c/\Q (.bl (!c)) H1
theorem Nr{op}{t:TE}(h:PE X a t):PE X (.BoolOp op [a] pos) t:=fun pins s σ H Q I hw=>BoolOp_one (h pins s σ H Q I hw)
theorem Ir(ha:PE X a ta)(hb:PE X (.BoolOp .And (b::rest) pos) tb):PE X (.BoolOp .And (a::b::rest) pos) (t5 ta tb):=by
 intro pins s σ H Q I h;refine BoolOp_and (HB (ha pins s σ H _ I h) fun v s1 zz=>?_);obtain⟨x,H1,I1,r1,q1⟩:=zz;obtain⟨c,rfl,q1⟩:=q1;cases r1;refine wpAny_truthy_bool ?_;cases c with
 | true=>exact hb pins s1 σ H1 Q I1 q1
 | false=>exact⟨.bl false,H1,I1,rfl,q1⟩
theorem i6(ha:PE X a ta)(hb:PE X (.BoolOp .Or (b::rest) pos) tb):PE X (.BoolOp .Or (a::b::rest) pos) (M4 ta tb):=by
 intro pins s σ H Q I h;refine BoolOp_or (HB (ha pins s σ H _ I h) fun v s1 zz=>?_);obtain⟨x,H1,I1,r1,q1⟩:=zz;obtain⟨c,rfl,q1⟩:=q1;cases r1;refine wpAny_truthy_bool ?_;cases c with
 | false=>exact hb pins s1 σ H1 Q I1 q1
 | true=>exact⟨.bl true,H1,I1,rfl,q1⟩
theorem Mr(ha:PE X a ta):PE X (.UnaryOp .Not a pos) (e7 ta):=by intro pins s σ H Q I h;refine UnaryOp_ (HB (ha pins s σ H _ I h) fun v s1 zz=>?_);obtain⟨x,H1,I1,r1,q1⟩:=zz;obtain⟨c,rfl,q1⟩:=q1;cases r1;exact not_of (wpAny_truthy_bool ⟨.bl (!c),H1,I1,rfl,q1⟩)
noncomputable def Jc(t:TT)(ta tb:TE):TE:=fun σ H Q=>t σ H fun c H1=>if c=true then ta σ H1 Q else tb σ H1 Q
theorem Zz{c:Expr}(hc:PT X c tA)(ha:PE X a ta)(hb:PE X b tb):PE X (.IfExp c a b pos) (Jc tA ta tb):=by
 intro pins s σ H Q I h;refine wpAny_IfExp (HB (hc pins s σ H _ I h) fun d s1 zz=>?_);obtain⟨H1,I1,q1⟩:=zz;cases d with
 | true=>exact ha pins s1 σ H1 Q I1 q1
 | false=>exact hb pins s1 σ H1 Q I1 q1
end
def yp(K:Frag)(H:Hp)(a:Addr)(xs:List V):Prop:=
 Rd H a (.lst xs)\/
  ∃(o:Obj) (its:Array Value) (n:Nat),K.lookup a=some o/\o.cls=.type "list" /\ o.dict=none/\o.data=.seq its n/\its.size<=sizeLine/\Vals xs its.toList
def NI(K:Frag)(H:Hp)(a:Addr)(xs:List V):Prop:=
 Rd H a (.tup xs)\/
  ∃(o:Obj) (its:Array Value) (n:Nat),K.lookup a=some o/\o.cls=.type "tuple" /\ o.data=.seq its n/\its.size<=sizeLine/\Vals xs its.toList
noncomputable def J2:Value->Option V
 | .none=>some .non
 | .bool b=>some (.bl b)
 | .int i _=>some (.int i)
 | .str x _=>some (.str x)
 | .bytes b _=>some (.byt b)
 | .float b _=>some (.flt b)
 | .ref a=>some (.ref a)
 | .type n=>some (.ty n)
 | _=>none
theorem RelV.abs{x:V}{u:Value}(r:RelV x u):J2 u=some x:=by
 cases x with
 | non=>cases r;rfl
 | bl _=>cases r;rfl
 | int _=>obtain⟨t,rfl⟩:=r;rfl
 | str _=>obtain⟨t,rfl⟩:=r;rfl
 | byt _=>obtain⟨t,rfl⟩:=r;rfl
 | flt _=>obtain⟨t,rfl⟩:=r;rfl
 | ref _=>cases r;rfl
 | ty _=>cases r;rfl
theorem RelV.inj{x y:V}{u:Value}(r:RelV x u)(q:RelV y u):x=y:=Option.some.inj (r.abs.symm.trans q.abs)
theorem Vals.inj:∀{xs ys:List V}{us:List Value},Vals xs us->Vals ys us->xs=ys
 | _,_,_,.nil,.nil=>rfl
 | _,_,_,.cons r t,.cons r' t'=>by rw[r.inj r',Vals.inj t t']
section
variable{X:Cx}{pins:List (Addr×Obj)}{σ:St}{H:Hp}{s:Shared}{a:Addr}{xs ys:List V}
theorem yp.of{K:Frag}(h:H a=some (.lst xs)):yp K H a xs:=.inl (.inl h)
theorem Inv.list(I:Inv X pins σ H s)(h:yp X.K H a xs):∃its:List Value,Vals xs its/\PlainL s.heap a its.toArray/\xs.length<=sizeLine:=by
 rcases h with h | ⟨o,its,n,hk,hc,hd,hs,hz,r⟩
 · obtain⟨z,its,n,r,e⟩:=h.ok I.hok;exact⟨its,r,⟨_,n,e,rfl,rfl,rfl⟩,z⟩
 · refine⟨its.toList,r,⟨o,n,I.kIn a o hk,hc,hd,by simpa using hs⟩,?_⟩;have e:=r.length;simp only[Array.length_toList]at e;omega
theorem Inv.tuple(I:Inv X pins σ H s)(h:NI X.K H a xs):∃its:List Value,Vals xs its/\IsTup s.heap a its.toArray/\xs.length<=sizeLine:=by
 rcases h with h | ⟨o,its,n,hk,hc,hs,hz,r⟩
 · obtain⟨z,its,r,p⟩:=h.ok I.hok;exact⟨its,r,p,z⟩
 · refine⟨its.toList,r,⟨o,I.kIn a o hk,hc,n,by simpa using hs⟩,?_⟩;have e:=r.length;simp only[Array.length_toList]at e;omega
theorem Inv.zaw(I:Inv X pins σ H s)(h:yp X.K H a xs)(h':yp X.K H a ys):xs=ys:=by
 obtain⟨its,r,⟨o,n,e,_,_,d⟩,_⟩:=I.list h;obtain⟨its',r',⟨o',n',e',_,_,d'⟩,_⟩:=I.list h';rw[e]at e';cases e';rw[d]at d';injection d' with d1 _
 have:its=its':=by simpa using congrArg Array.toList d1
 subst this;exact r.inj r'
theorem Inv.za4(I:Inv X pins σ H s)(h:NI X.K H a xs)(h':NI X.K H a ys):xs=ys:=by
 obtain⟨its,r,⟨o,e,_,n,d⟩,_⟩:=I.tuple h;obtain⟨its',r',⟨o',e',_,n',d'⟩,_⟩:=I.tuple h';rw[e]at e';cases e';rw[d]at d';injection d' with d1 _
 have:its=its':=by simpa using congrArg Array.toList d1
 subst this;exact r.inj r'
end
noncomputable abbrev Cx.wish(X:Cx)(E:Value->Shared->Prop):Cx:={ X with xe:=E }
abbrev Cx.nox(X:Cx):Cx:=X.wish fun _ _=>False
theorem Cx.Ok.wish{X:Cx}(ok:X.Ok)(E:Value->Shared->Prop):(X.wish E).Ok:=
 ⟨ok.mod,ok.kind,ok.glob,ok.blt,ok.above,ok.inj,ok.has,ok.cab,ok.hd,ok.frames,ok.stk,ok.exf,ok.bs,ok.bsz,ok.zbk,ok.zbf,ok.zau,ok.frf⟩
theorem Cx.Ok.Qp{X:Cx}{E:Value->Shared->Prop}(ok:(X.wish E).Ok):X.Ok:=
 ⟨ok.mod,ok.kind,ok.glob,ok.blt,ok.above,ok.inj,ok.has,ok.cab,ok.hd,ok.frames,ok.stk,ok.exf,ok.bs,ok.bsz,ok.zbk,ok.zbf,ok.zau,ok.frf⟩
section
variable{X:Cx}{pins:List (Addr×Obj)}{σ:St}{H:Hp}{s:Shared}{E:Value->Shared->Prop}
theorem Inv.wish(I:Inv X pins σ H s)(E:Value->Shared->Prop):Inv (X.wish E) pins σ H s:=⟨I.ok.wish E,I.os,I.bare,I.base,I.loc,I.cell,I.free,I.Vp,I.pin,I.hok,I.len⟩
theorem Inv.Qp(I:Inv (X.wish E) pins σ H s):Inv X pins σ H s:=⟨I.ok.Qp,I.os,I.bare,I.base,I.loc,I.cell,I.free,I.Vp,I.pin,I.hok,I.len⟩
theorem SP.Qp{D:OH}{f:Flow}{s':Shared}(h:SP (X.wish E) pins D f s'):SP X pins D f s':=by
 cases f with
 | next=>obtain⟨σ',H',I,q⟩:=h;exact⟨σ',H',I.Qp,q⟩
 | brk=>obtain⟨σ',H',I,q⟩:=h;exact⟨σ',H',I.Qp,q⟩
 | cont=>obtain⟨σ',H',I,q⟩:=h;exact⟨σ',H',I.Qp,q⟩
 | ret u=>obtain⟨v,σ',H',I,r,q⟩:=h;exact⟨v,σ',H',I.Qp,r,q⟩
theorem PSs.nox{st:List Stmt}{t:TS}(h:PSs X.nox st t):PSs X st t:=fun pins s σ H D I hw=>wpAny_mono (h pins s σ H D (I.wish _) hw) (fun _ _ q=>q.Qp) fun _ _ z=>False.elim z
end
section
variable{X:Cx}{st:Stmt}{rest:List Stmt}{t u:TS}{e:Expr}{te:TE}{pos:Pos}
noncomputable def d7:TS:=fun D σ H=>D.nx σ H
noncomputable def P4(t u:TS):TS:=fun D σ H=>t { D with nx:=u D } σ H
theorem Oh:PSs X [] d7:=fun _ _ σ H _ I h=>wpAny_execs_nil ⟨σ,H,I,h⟩
theorem Ez(h1:PS X st t)(h2:PSs X rest u):PSs X (st::rest) (P4 t u):=by
 intro pins s σ H D I h;refine wpAny_execs_cons (HB (h1 pins s σ H { D with nx:=u D } I h) fun f s1 q=>?_);cases f with
 | next=>obtain⟨σ',H',I',q⟩:=q;exact h2 pins s1 σ' H' D I' q
 | ret v=>exact q
 | brk=>exact q
 | cont=>exact q
theorem Ph(h1:PS X st t):PSs X [st] t:=by
 intro pins s σ H D I h;refine wpAny_execs_cons (HB (h1 pins s σ H D I h) fun f s1 q=>?_);cases f with
 | next=>exact wpAny_execs_nil q
 | ret v=>exact q
 | brk=>exact q
 | cont=>exact q
theorem Inv.quiet{pins:List (Addr×Obj)}{σ:St}{H:Hp}{s:Shared}(I:Inv X pins σ H s):interactive X.env=false:=by simp[interactive,I.ok.kind]
noncomputable def X6(te:TE):TS:=fun D σ H=>te σ H fun _ H1=>D.nx σ H1
theorem Nh(he:PE X e te)(hs:swapsWith e none pos.line X.env=pure false:=by rfl):PS X (.Expr e pos) (X6 te):=by intro pins s σ H D I h;exact wpAny_Expr_any (HB (he pins s σ H _ I h) fun v s1 ⟨x,H1,I1,r1,q1⟩=>⟨σ,H1,I1,q1⟩) I.quiet hs
noncomputable def N4(te:TE):TS:=fun D σ H=>te σ H D.rt
theorem Yr(he:PE X e te):PS X (.Return (some e) pos) (N4 te):=by intro pins s σ H D I h;exact wpAny_Return_some (HB (he pins s σ H _ I h) fun v s1 ⟨x,H1,I1,r1,q1⟩=>⟨x,σ,H1,I1,r1,q1⟩)
noncomputable def J4(c:TT)(t u:TS):TS:=fun D σ H=>c σ H fun b H1=>if b=true then t D σ H1 else u D σ H1
theorem j6{c:Expr}{a b:List Stmt}{tc:TT}(hc:PT X c tc)(ha:PSs X a t)(hb:PSs X b u):PS X (.If c a b pos) (J4 tc t u):=by
 intro pins s σ H D I h;refine wpAny_If (HB (hc pins s σ H _ I h) fun d s1 zz=>?_);obtain⟨H1,I1,q1⟩:=zz;cases d with
 | true=>exact ha pins s1 σ H1 D I1 q1
 | false=>exact hb pins s1 σ H1 D I1 q1
end
abbrev TG:=V->St->Hp->(St->Hp->Prop)->Prop
abbrev uP:=List V->St->Hp->(St->Hp->Prop)->Prop
def PG(X:Cx)(target:Expr)(t:TG):Prop:=
 ∀(pins:List (Addr×Obj))(s:Shared)(σ:St)(H:Hp)(v:V)(u:Value)(Q:St->Hp->Prop),Inv X pins σ H s->RelV v u->t v σ H Q->
  wpAny (model X.prog X.w) X.A (assign target X.env u) (fun _ s'=>∃σ' H',Inv X pins σ' H' s'/\Q σ' H') X.xe s
def Y0(X:Cx)(ts:List Expr)(t:uP):Prop:=
 ∀(pins:List (Addr×Obj))(s:Shared)(σ:St)(H:Hp)(vs:List V)(us:List Value)(Q:St->Hp->Prop),Inv X pins σ H s->Vals vs us->t vs σ H Q->
  wpAny (model X.prog X.w) X.A (assignInOrder ((assignEach ts X.env).map (·.2)) us) (fun _ s'=>∃σ' H',Inv X pins σ' H' s'/\Q σ' H') X.xe s
abbrev vP:=V->V->V->Hp->(Hp->Prop)->Prop
def TU(X:Cx)(t:vP):Prop:=
 ∀(pins:List (Addr×Obj))(s:Shared)(σ:St)(H:Hp)(o i v:V)(ov iv u:Value)(Q:Hp->Prop),Inv X pins σ H s->RelV o ov->RelV i iv->RelV v u->t o i v H Q->
  wpAny (model X.prog X.w) X.A (setItem ov iv u) (fun _ s'=>∃H',Inv X pins σ H' s'/\Q H') X.xe s
section
variable{X:Cx}{pos:Pos}
noncomputable def SO(i:Nat):TG:=fun v σ H Q=>Q (σ.set i (some v)) H
theorem vJ{i:Nat}{x:Str}(hN:X.N.Nodup)(hi:X.N[i]?=some x)(hx:bK X.env.scope x)(hf:X.fn x=true\/X.env.scope.names.lookup x=some .local:=by first | exact .inl rfl | exact .inr rfl | assumption):PG X (.Name x pos) (SO i):=by intro pins s σ H v u Q I r h;exact wpAny_assign_Name (gY I hN hi hx r (fun s' I'=>⟨_,H,I',h⟩) hf)
noncomputable def A3:uP:=fun vs σ H Q=>vs=[]/\Q σ H
noncomputable def u5(t:TG)(u:uP):uP:=fun vs σ H Q=>∃v r,vs=v::r/\t v σ H fun σ' H'=>u r σ' H' Q
theorem MY:Y0 X [] A3:=by intro pins s σ H vs us Q I r h;obtain⟨e,h⟩:=h;subst e;cases r;exact assignInOrder_nil ⟨σ,H,I,h⟩
theorem cL{e:Expr}{es:List Expr}{t:TG}{u:uP}(h1:PG X e t)(h2:Y0 X es u)
 (hs:(assignEach (e::es) X.env).map (·.2)=assign e X.env::(assignEach es X.env).map (·.2):=by rfl):Y0 X (e::es) (u5 t u):=by
 intro pins s σ H vs us Q I r h;obtain⟨v,vr,e1,h⟩:=h;subst e1;cases r with
 | cons r rr=>rw[hs];refine assignInOrder_cons (HB (h1 pins s σ H _ _ _ I r h) fun _ s1 zz=>?_);obtain⟨σ1,H1,I1,q1⟩:=zz;exact h2 pins s1 σ1 H1 _ _ Q I1 rr q1
def C3(K:Frag)(n:Nat)(t:uP):TG:=fun v σ H Q=>∃a xs,v=.ref a/\NI K H a xs/\xs.length=n/\t xs σ H Q
theorem CZ{es:List Expr}{k:Nat}{t:uP}{n:Nat}(hc:X.calm=true)(h:Y0 X es t)
 (hn:(assignEach es X.env).length=n:=by rfl) (hst:(assignEach es X.env).findIdx? (·.1)=none:=by rfl):PG X (.Tuple es k pos) (C3 X.K n t):=by
 intro pins s σ H v u Q I r hw;obtain⟨a,xs,e1,hq,hl,hw⟩:=hw;subst e1;cases r;obtain⟨its,rv,ht,hz⟩:=I.tuple hq;refine assign_Tuple_tuple (I.ok.hd hc) ht (by simp[hn,<- hl,rv.length]) hst fun h' hx=>?_
 have I1:Inv X pins σ H { s with heap:=h' }:=I.kept (t':=s.toks) fun b o e=>hx b o (Nat.ne_of_lt (Heap.lt_size e)) e
 exact h pins _ σ H xs _ Q I1 (by simpa using rv) hw
noncomputable def B3(to ti:TE)(t:vP):TG:=fun v σ H Q=>to σ H fun o H1=>ti σ H1 fun i H2=>t o i v H2 fun H3=>Q σ H3
theorem Vr{o i:Expr}{to ti:TE}{t:vP}(ho:PE X o to)(hi:PE X i ti)(hs:TU X t)
 (ha:∀v,assign (.Subscript o i pos) X.env v=(do
  let ov <- holding [v] (eval o X.env)
  let iv <- holding [v,ov] (eval i X.env)
  standAt pos
  holding [v,ov,iv] (setItem ov iv v)
  release [v,ov,iv] []):=by intro _;rfl):PG X (.Subscript o i pos) (B3 to ti t):=by
 intro pins s σ H v u Q I r h;rw[ha];refine wpAny_bind (wpAny_holding (HB (ho pins s σ H _ I h) fun ov s1 zz=>?_));obtain⟨x,H1,I1,r1,q1⟩:=zz;refine wpAny_bind (wpAny_holding (HB (hi pins s1 σ H1 _ I1 q1) fun iv s2 zz=>?_));obtain⟨y,H2,I2,r2,q2⟩:=zz;refine wpAny_bind (wpAny_standAt (wpAny_bind (wpAny_holding (HB (hs pins s2 σ H2 x y v ov iv u _ I2 r1 r2 r q2) fun _ s3 zz=>?_))));obtain⟨H3,I3,q3⟩:=zz;exact wpAny_release ⟨σ,H3,I3,q3⟩
noncomputable def WP(te:TE)(g:TG):TS:=fun D σ H=>te σ H fun x H1=>g x σ H1 D.nx
theorem DZ{tg e:Expr}{te:TE}{g:TG}(he:PE X e te)(hg:PG X tg g)(hs:swapsWithSole [tg] e pos.line X.env=pure false:=by rfl)(hw:swappedStores [tg] e X.env=pure none:=by rfl)
 (h1:(assignEach [tg] X.env).map (·.2)=[assign tg X.env]:=by rfl):PS X (.Assign [tg] e pos) (WP te g):=by
 intro pins s σ H D I h;refine wpAny_Assign_stores (HB (he pins s σ H _ I h) fun v s1 zz=>?_) hs hw;obtain⟨x,H1,I1,r1,q1⟩:=zz;rw[h1];exact HB (hg pins s1 σ H1 x v _ I1 r1 q1) fun _ s2 q=>q
theorem Zr{i:Nat}{x:Str}{e:Expr}{te:TE}{pos':Pos}(hN:X.N.Nodup)(hi:X.N[i]?=some x)(hx:bK X.env.scope x)(he:PE X e te)(hs:swapsWith e (some (.Name x pos')) pos.line X.env=pure false:=by rfl)(hf:X.fn x=true\/X.env.scope.names.lookup x=some .local:=by first | exact .inl rfl | exact .inr rfl | assumption) :
 PS X (.Assign [.Name x pos'] e pos) (WP te (SO i)):=by
 intro pins s σ H D I h;refine wpAny_Assign_Name (HB (he pins s σ H _ I h) fun v s1 zz=>?_) hs;obtain⟨y,H1,I1,r1,q1⟩:=zz;exact gY I1 hN hi hx r1 (fun s2 I2=>⟨_,H1,I2,q1⟩) hf
def o6(c:TT)(tb:TS):TS:=fun D σ H=>∃W:Nat->St->Hp->Prop,(∃m,W m σ H)/\∀m σ H,W m σ H->
 c σ H fun b H1=>if b=true then ∃N:St->Hp->Prop,(∀σ' H',N σ' H'->∃m',m'<m/\W m' σ' H')/\tb { D with nx:=N,ct:=N,bk:=D.nx } σ H1 else D.nx σ H1
theorem Iv{c:Expr}{body:List Stmt}{tc:TT}{tb:TS}(hp:PassesOwn (model X.prog X.w) X.A X.env X.xe)(hc:PT X c tc)(hb:PSs X body tb):PS X (.While c body [] pos) (o6 tc tb):=by
 intro pins s σ H D I h;obtain⟨W,⟨m0,w0⟩,turn⟩:=h;refine wpAny_While (codeAny_whileLoop (fun n s'=>∃σ' H',Inv X pins σ' H' s'/\W n σ' H') ?_ m0 ⟨σ,H,I,w0⟩);rintro n s1 ⟨σ1,H1,I1,w1⟩;refine wpAny_passesOwn hp (HB (hc pins s1 σ1 H1 _ I1 (turn n σ1 H1 w1)) fun b s2 zz=>?_);obtain⟨H2,I2,q2⟩:=zz;cases b with
 | true=>
  obtain⟨N,hN,q2⟩:=q2;rw[if_pos rfl];refine wpAny_passesOwn hp (HB (hb pins s2 σ1 H2 _ I2 q2) fun f s3 q3=>?_);cases f with
  | next=>obtain⟨σ3,H3,I3,n3⟩:=q3;obtain⟨m',hm,w3⟩:=hN σ3 H3 n3;exact⟨m',hm,σ3,H3,I3,w3⟩
  | cont=>obtain⟨σ3,H3,I3,n3⟩:=q3;obtain⟨m',hm,w3⟩:=hN σ3 H3 n3;exact⟨m',hm,σ3,H3,I3,w3⟩
  | brk=>exact q3
  | ret v=>exact q3
 | false=>rw[if_neg zf0];exact wpAny_execs_nil ⟨σ1,H2,I2,q2⟩
end
structure It where
 go:Nat->Hp->Prop
 yld:Nat->Hp->V->Hp->Prop
 stop:Nat->Hp->Prop
def iF(X:Cx)(pins:List (Addr×Obj))(H:Hp)(b:Addr):Prop:=
 H b=none/\b≠X.env.locals/\b∉X.fs/\(b∈X.ex\/X.s₀.heap.objs.size<=b)/\(∀x c,X.env.cells.lookup x=some c->c≠b)/\∀p∈X.pn++pins,p.1≠b
theorem Inv.za0{X:Cx}{pins:List (Addr×Obj)}{σ:St}{H H':Hp}{s:Shared}{b:Addr}(I:Inv X pins σ H s)(hb:s.heap.objs.size<=b)(hn:H' b=none):iF X pins H' b:=by
 refine⟨hn,Nat.ne_of_gt (Nat.lt_of_lt_of_le I.lt hb),I.zdS hb,.inr (Nat.le_trans I.sz hb),fun x c e z=>?_,fun p hp z=>?_⟩
 · obtain⟨v,q⟩:=I.cell x c e;exact absurd (Nat.lt_of_lt_of_le q.lt (by rw[z];exact hb)) (Nat.lt_irrefl _)
 · exact absurd (Nat.lt_of_lt_of_le (Heap.lt_size (I.pin p hp).1) (by rw[z];exact hb)) (Nat.lt_irrefl _)
structure TH(P:Program)(w:World)(K:Frag)(tg:Expr)(J:It)(fp:List Addr)(it:Addr)(tn:Nat->Heap->Prop):Prop where
 mem:it∈fp
 obj:∀i h,tn i h->∀b∈fp,∃o,h.get? b=some o/\∀v,o.data≠.cell v
 keep:∀i h h',tn i h->(∀b∈fp,∀o,h.get? b=some o->h'.get? b=some o)->tn i h'
 item:∀(X:Cx),X.prog=P->X.w=w->X.K=K->X.calm=true->∀(i:Nat)(pins:List (Addr×Obj))(s:Shared)(σ:St)(H:Hp)(E:Value->Shared->Prop),Inv X pins σ H s->(∀b∈fp,iF X pins H b)->tn i s.heap->J.go i H->
  wpAny (model P w) X.A (pyNext (.ref it)) (fun r s1=>∃u,r=some u/\
   wpAny (model P w) X.A (letOwnedTupleGo tg (.ref it) u) (fun _ s2=>∃x H',Inv X pins σ H' s2/\RelV x u/\J.yld i H x H'/\tn (i+1) s2.heap/\∀b∈fp,H' b=none) E s1) E s
 done:∀(X:Cx),X.prog=P->X.w=w->X.K=K->X.calm=true->∀(i:Nat)(pins:List (Addr×Obj))(s:Shared)(σ:St)(H:Hp)(E:Value->Shared->Prop),Inv X pins σ H s->(∀b∈fp,iF X pins H b)->tn i s.heap->J.stop i H->
  wpAny (model P w) X.A (pyNext (.ref it)) (fun r s1=>r=none/\Inv X pins σ H s1) E s
 self:∀(A:Around)(i:Nat)(s:Shared)(Q:Value->Shared->Prop)(E:Value->Shared->Prop),tn i s.heap->Q (.ref it) s->wpAny (model P w) A (pyIter (.ref it)) Q E s
abbrev TI:=St->Hp->(It->Hp->Prop)->Prop
def A2(X:Cx)(pins:List (Addr×Obj))(σ:St)(tg:Expr)(R:It->Hp->Prop)(itv:Value)(s2:Shared):Prop:=
 ∃(it:Addr)(fp:List Addr)(tn:Nat->Heap->Prop)(J:It)(H':Hp),itv=.ref it/\Inv X pins σ H' s2/\TH X.prog X.w X.K tg J fp it tn/\tn 0 s2.heap/\(∀b∈fp,iF X pins H' b)/\R J H'
def PI(X:Cx)(tg iter:Expr)(wi:TI):Prop:=
 ∀(pins:List (Addr×Obj))(s:Shared)(σ:St)(H:Hp)(R:It->Hp->Prop),Inv X pins σ H s->wi σ H R->
  wpAny (model X.prog X.w) X.A (eval iter X.env) (fun v s1=>wpAny (model X.prog X.w) X.A (pyIter v) (A2 X pins σ tg R) X.xe s1) X.xe s
theorem nU{M:Model}{A:Around}{E:Value->Shared->Prop}{s:Shared}{tg:Expr}{it:Addr}{u:Value}{o:Obj}{n:String}{vs:Array Value}{Q:Unit->Shared->Prop}(ho:s.heap.get? it=some o)(hc:o.cls=.type n)(hd:o.data=.fields vs)
 (hn:["enumerate", "zip", "dict_itemiterator", "dict_reverseitemiterator", "odict_iterator", "itertools.zip_longest", "itertools.pairwise"].contains n=false) (hQ:Q () s):wpAny M A (letOwnedTupleGo tg (.ref it) u) Q E s:=by
 unfold letOwnedTupleGo;cases tg<;>first
  | exact wpAny_pure hQ
  | (cases u<;>first
   | exact wpAny_pure hQ
   | (refine wpAny_bind (wpAny_load ho ?_);rw[hc,hd];show wpAny M A (if(["enumerate", "zip", "dict_itemiterator", "dict_reverseitemiterator", "odict_iterator", "itertools.zip_longest", "itertools.pairwise"].contains n&&vs[0]?==some (rawInt _))=true then _ else _) Q E s;rw[if_neg (by intro h;rw[hn,Bool.false_and]at h;cases h)];exact wpAny_pure hQ))
def Xf(K:Frag)(a:Addr):It:=
 ⟨fun i H=>∃xs x,yp K H a xs/\xs[i]?=some x,fun i H x H'=>H'=H/\∀xs,yp K H a xs->xs[i]?=some x,fun i H=>∃xs,yp K H a xs/\xs.length<=i⟩
noncomputable def V0(lo:Int)(n:Nat):It:=⟨fun i _=>i<n,fun i H x H'=>H'=H/\x=.int (lo+i),fun i _=>n<=i⟩
theorem jx{P:Program}{w:World}{K:Frag}{tg:Expr}(a it:Addr):TH P w K tg (Xf K a) [it] it (fun i h=>h.IsListIter it a i) where
 mem:=by simp
 obj:=fun i h st b hb=>by
  have e:b=it:=by simpa using hb
  subst e;obtain⟨o,e,c,d⟩:=st;exact⟨o,e,fun v z=>by rw[d]at z;cases z⟩
 keep:=fun i h h' st k=>st.at fun o e=>k it (by simp) o e
 item:=by
  intro X hP hw hK hc i pins s σ H E I hf st hg;subst hP hw hK;obtain⟨xs,x,hq,hx⟩:=hg;obtain⟨its,rv,p,hz⟩:=I.list hq;obtain⟨u,hu,ru⟩:=rv.get hx;obtain⟨f0,f1,f2,f3,f4,f5⟩:=hf it (by simp);refine wpAny_pyNext_list_item st p.isList (x:=u) (by simpa using hu) fun h' st' sb=>?_
  have I1:Inv X pins σ H { s with heap:=h' }:=I.turned (t':=s.toks) (fun b o hb e=>(sb.2 b hb).trans e) f0 f1 f3 f4 f5;obtain⟨o,e,c,d⟩:=id st';exact⟨u,rfl,nU (s:={ s with heap:=h' }) e c d (by decide) ⟨x,H,I1,ru,⟨rfl,fun ys hy=>by rw[I.zaw hy hq];exact hx⟩,st',fun b hb=>(hf b hb).1⟩⟩
 done:=by intro X hP hw hK hc i pins s σ H E I hf st hg;subst hP hw hK;obtain⟨xs,hq,hx⟩:=hg;obtain⟨its,rv,p,hz⟩:=I.list hq;obtain⟨f0,f1,f2,f3,f4,f5⟩:=hf it (by simp);have hl:=rv.length;exact wpAny_pyNext_list_end (I.ok.hd hc) st p.isList (by simp;omega) fun h' eb=>⟨rfl,I.turned (t':=s.toks) (fun b o hb e=>eb b o hb e) f0 f1 f3 f4 f5⟩
 self:=fun _ _ _ _ _ st h=>wpAny_pyIter_listiter st h
theorem fj{P:Program}{w:World}{K:Frag}{tg:Expr}(it:Addr)(lo:Int)(n:Nat):TH P w K tg (V0 lo n) [it] it (fun i h=>IsRangeIter h it (lo+(i:Nat)*1) ((n:Int)-(i:Nat)) 1) where
 mem:=by simp
 obj:=fun i h st b hb=>by
  have e:b=it:=by simpa using hb
  subst e;exact⟨_,st,fun v z=>by
   have z':Data.fields _=Data.cell v:=z;cases z'⟩
 keep:=fun i h h' st k=>k it (by simp) _ st
 item:=by
  intro X hP hw hK hc i pins s σ H E I hf st hg;subst hP hw hK;obtain⟨f0,f1,f2,f3,f4,f5⟩:=hf it (by simp);have W:=Walks.range (prog:=X.prog) (w:=X.w) (I.ok.hd hc) it lo 1 n;refine W.item i s _ _ hg st fun v h' tk hv st' kk=>?_
  obtain⟨t,rfl⟩:=hv;have I1:Inv X pins σ H { s with heap:=h',toks:=tk }:=I.turned (fun b o hb e=>kk b o (by simpa using hb) e) f0 f1 f3 f4 f5;refine⟨_,rfl,nU (s:={ s with heap:=h',toks:=tk }) (n := "range_iterator") st' rfl rfl (by decide) ⟨.int (lo+i),H,I1,⟨t,?_⟩,⟨rfl,rfl⟩,st',fun b hb=>(hf b hb).1⟩⟩;rw[Int.mul_one]
 done:=by intro X hP hw hK hc i pins s σ H E I hf st hg;subst hP hw hK;obtain⟨f0,f1,f2,f3,f4,f5⟩:=hf it (by simp);exact wpAny_pyNext_range_end (I.ok.hd hc) st (by have:n<=i:=hg;omega) fun h' eb=>⟨rfl,I.turned (t':=s.toks) (fun b o hb e=>eb b o hb e) f0 f1 f3 f4 f5⟩
 self:=fun _ _ _ _ _ st h=>wpAny_pyIter_rangeiter st h
section
variable{X:Cx}{tg:Expr}
def w5(K:Frag)(tl:TE):TI:=fun σ H R=>tl σ H fun x H1=>∃a,x=.ref a/\(∃xs,yp K H1 a xs)/\R (Xf K a) H1
theorem Lk{l:Expr}{tl:TE}(hl:PE X l tl):PI X tg l (w5 X.K tl):=by
 intro pins s σ H R I h;refine HB (hl pins s σ H _ I h) fun v s1 zz=>?_
 obtain⟨x,H1,I1,r1,q1⟩:=zz;obtain⟨a,e,⟨xs,hq⟩,q⟩:=q1;subst e;cases r1;obtain⟨its,rv,p,hz⟩:=I1.list hq;refine wpAny_pyIter_list p.isList ?_;refine⟨s1.heap.objs.size,[s1.heap.objs.size],_,_,H1,rfl,I1.kept (t':=s1.toks) fun b o e=>Heap.get?_push_of_some _ e,jx a _,⟨_,Heap.get?_push_size _ rfl,rfl,rfl⟩,fun b hb=>?_,q⟩;have e:b=s1.heap.objs.size:=by simpa using hb
 subst e;exact I1.za0 (zf1 _) (I1.hok.fresh (zf1 _))
theorem aY{pins:List (Addr×Obj)}{σ:St}{H:Hp}{s:Shared}{R:It->Hp->Prop}{E:Value->Shared->Prop}{lo hi:Int}{t u v:Tok}{tk:Nat}(I:Inv X pins σ H s)(h1:-(2^62)<=lo)(h2:lo<2^62)(h3:-(2^62)<=hi)(h4:hi<2^62)
 (q:R (V0 lo (hi-lo).toNat) H):wpAny (model X.prog X.w) X.A (pyIter (.ref s.heap.objs.size)) (A2 X pins σ tg R) E { s with heap:=s.heap.push { cls:=.type "range",data:=.fields #[.int lo t,.int hi u,.int 1 v] },toks:=tk }:=by
 refine wpAny_pyIter_range (IsRange.new ..) (small_one h1 h2 h3 h4) ?_;have I1:Inv X pins σ H { s with heap:=s.heap.push { cls:=.type "range",data:=.fields #[.int lo t,.int hi u,.int 1 v] },toks:=tk }:=I.kept fun b o e=>Heap.get?_push_of_some _ e
 refine⟨(s.heap.push { cls:=.type "range",data:=.fields #[.int lo t,.int hi u,.int 1 v] }).objs.size,[(s.heap.push { cls:=.type "range",data:=.fields #[.int lo t,.int hi u,.int 1 v] }).objs.size],_,_,H,rfl,
  I1.kept (t':=tk) fun b o e=>Heap.get?_push_of_some _ e,fj _ lo (hi-lo).toNat,?_,fun b hb=>?_,q⟩
 · have e1:lo+((0:Nat):Int)*1=lo:=by simp
   have e2:(((hi-lo).toNat:Nat):Int)-((0:Nat):Int)=Builtin.Range.rangeSize lo hi 1:=by rw[rangeSize_one];split<;>omega
   show IsRangeIter _ _ (lo+((0:Nat):Int)*1) ((((hi-lo).toNat:Nat):Int)-((0:Nat):Int)) 1;rw[e1,e2];exact Heap.get?_push_size _ rfl
 · have e:b=(s.heap.push { cls:=.type "range",data:=.fields #[.int lo t,.int hi u,.int 1 v] }).objs.size:=by simpa using hb
   subst e;exact I1.za0 (zf1 _) (I1.hok.fresh (zf1 _))
def A5(ta:TA):TI:=fun σ H R=>ta σ H fun vs H1=>∃j:Int,vs=[.int j]/\-(2^62)<=j/\j<2^62/\R (V0 0 j.toNat) H1
def B5(ta:TA):TI:=fun σ H R=>ta σ H fun vs H1=>∃i j:Int,vs=[.int i,.int j]/\(-(2^62)<=i/\i<2^62/\-(2^62)<=j/\j<2^62)/\R (V0 i (j-i).toNat) H1
theorem Vx {a:Expr} {ta:TA} {p pos:Pos} (hg:Gl X "range") (hm:X.mg "range" =none) (ha:PA X [a] ta) (hs:starEach [a] X.env=[(false,eval a X.env)]:=by rfl):PI X tg (.Call (.Name "range" p) [a] [] pos) (A5 ta):=by
 intro pins s σ H R I h;refine Call_ (EH I hg hm boot_range (PyProof.Rows.callWith_type1 (HB (ha pos pins s σ H _ I h) fun us s1 zz=>?_) hs rfl));obtain⟨vs,H1,I1,r1,q1⟩:=zz;obtain⟨j,e,q1,q2,q⟩:=q1;subst e;cases r1 with
 | cons r rr=>cases rr;obtain⟨t,rfl⟩:=r;exact call_range_1 (aY I1 (by omega) (by omega) q1 q2 (by simpa using q))
theorem Wx {a b:Expr} {ta:TA} {p pos:Pos} (hg:Gl X "range") (hm:X.mg "range" =none) (ha:PA X [a,b] ta) (hs:starEach [a,b] X.env=[(false,eval a X.env),(false,eval b X.env)]:=by rfl) (hs2:starEach [b] X.env=[(false,eval b X.env)]:=by rfl) :
 PI X tg (.Call (.Name "range" p) [a,b] [] pos) (B5 ta):=by
 intro pins s σ H R I h;refine Call_ (EH I hg hm boot_range (PyProof.Rows.callWith_type1 (HB (ha pos pins s σ H _ I h) fun us s1 zz=>?_) (by rw[hs,hs2]) (by rw[hs2];rfl)));obtain⟨vs,H1,I1,r1,q1⟩:=zz;obtain⟨i,j,e,⟨q1,q2,q3,q4⟩,q⟩:=q1;subst e;cases r1 with
 | cons r rr=>
  cases rr with
  | cons r' rr=>cases rr;obtain⟨t,rfl⟩:=r;obtain⟨t',rfl⟩:=r';exact call_range_2 (aY I1 q1 q2 q3 q4 q)
def F4(wi:TI)(g:TG)(tb:TS):TS:=fun D σ H=>wi σ H fun J H1=>∃W:Nat->Nat->St->Hp->Prop,(∃m,W 0 m σ H1)/\∀i m σ H,W i m σ H->
 (J.stop i H/\D.nx σ H)\/(J.go i H/\∃N:St->Hp->Prop,(∀σ' H',N σ' H'->∃m',m'<m/\W (i+1) m' σ' H')/\∀x H',J.yld i H x H'->g x σ H' fun σ2 H2=>tb { D with nx:=N,ct:=N,bk:=D.nx } σ2 H2)
noncomputable def BL(fp:List Addr)(h:Heap):List (Addr×Obj):=fp.filterMap fun b=>(h.get? b).map fun o=>(b,o)
theorem sN{fp:List Addr}{h:Heap}{b:Addr}{o:Obj}(hb:b∈fp)(e:h.get? b=some o):(b,o)∈BL fp h:=mem_filterMap.mpr ⟨b,hb,by rw[e];rfl⟩
theorem Mj{fp:List Addr}{h:Heap}{p:Addr×Obj}(hp:p∈BL fp h):p.1∈fp/\h.get? p.1=some p.2:=by
 obtain⟨b,hb,e⟩:=mem_filterMap.mp hp;cases q:h.get? b with
 | none=>rw[q]at e;cases e
 | some o=>rw[q]at e;have e':(b,o)=p:=Option.some.inj e;subst e';exact⟨hb,q⟩
theorem Inv.pinned{pins:List (Addr×Obj)}{σ:St}{H:Hp}{s:Shared}{fp:List Addr}(I:Inv X pins σ H s)(hf:∀b∈fp,iF X pins H b)(ho:∀b∈fp,∃o,s.heap.get? b=some o/\∀v,o.data≠.cell v):Inv X (pins++BL fp s.heap) σ H s:=
 I.zaW fun p hp=>(mem_append.mp hp).elim (fun z=>I.pin p (mem_append_right _ z)) fun z=>by obtain⟨hb,e⟩:=Mj z;obtain⟨f0,f1,f2,_⟩:=hf p.1 hb;obtain⟨o,e',d⟩:=ho p.1 hb;rw[e]at e';cases e';exact⟨e,f0,f1,f2,d⟩
theorem Inv.zah{pins pl:List (Addr×Obj)}{σ:St}{H:Hp}{s:Shared}(I:Inv X (pins++pl) σ H s):Inv X pins σ H s:=I.zaW fun p hp=>I.pin p (mem_append_right _ (mem_append_left _ hp))
theorem Xr{iter:Expr}{body:List Stmt}{wi:TI}{g:TG}{tb:TS}{pos:Pos}(hp:PassesOwn (model X.prog X.w) X.A X.env X.xe)(hc:X.calm=true)(hi:PI X tg iter wi)(hg:PG X tg g)(hb:PSs X body tb)
 (hs:∀x,foldedSetIterable iter X.env x=pure x:=by intro _;rfl):PS X (.For tg iter body [] pos) (F4 wi g tb):=by
 intro pins s σ H D I h;refine wpAny_For (HB (hi pins s σ H _ I h) fun v s1 h1=>HB h1 fun itv s2 h2=>?_) hs;obtain⟨it,fp,tn,J,H2,e,I2,T,st2,f2,W,⟨m0,w0⟩,turn⟩:=h2;subst e;have stat:∀{H':Hp},(∀b∈fp,H' b=none)->∀b∈fp,iF X pins H' b:=fun hn b hb=>⟨hn b hb,(f2 b hb).2⟩
 refine codeAny_forLoop_any (fun n s'=>∃i σ' H',Inv X pins σ' H' s'/\tn i s'.heap/\(∀b∈fp,H' b=none)/\W i n σ' H') ?_ m0 ⟨0,σ,H2,I2,st2,fun b hb=>(f2 b hb).1,w0⟩;rintro n s3 ⟨i,σ3,H3,I3,st3,fr3,w3⟩;rcases turn i n σ3 H3 w3 with⟨stop,qn⟩ | ⟨go,N,hN,step⟩
 · refine wpAny_passesOwn hp (HB (T.done X rfl rfl rfl hc i pins s3 σ3 H3 X.xe I3 (stat fr3) st3 stop) fun r s4 zz=>?_);obtain⟨hr,I4⟩:=zz;subst hr;exact wpAny_execs_nil ⟨σ3,H3,I4,qn⟩
 · refine wpAny_passesOwn hp (HB (T.item X rfl rfl rfl hc i pins s3 σ3 H3 X.xe I3 (stat fr3) st3 go) fun r s4 zz=>?_);obtain⟨u,hr,h4⟩:=zz;subst hr;refine wpAny_passesOwn hp (HB h4 fun _ s5 zz=>?_);obtain⟨x,H5,I5,r5,y5,st5,fr5⟩:=zz;have I5':=I5.pinned (stat fr5) (T.obj _ _ st5);refine wpAny_passesOwn hp (HB (hg _ s5 σ3 H5 x u _ I5' r5 (step x H5 y5)) fun _ s6 zz=>?_);obtain⟨σ6,H6,I6,q6⟩:=zz;refine wpAny_passesOwn hp (HB (hb _ s6 σ6 H6 _ I6 q6) fun f s7 q7=>?_);have again:∀{σ7:St}{H7:Hp},Inv X (pins++BL fp s5.heap) σ7 H7 s7->N σ7 H7->∃m,m<n/\∃i σ' H',Inv X pins σ' H' s7/\tn i s7.heap/\(∀b∈fp,H' b=none)/\W i m σ' H':=fun {σ7 H7} I7 n7=>by obtain⟨m',hm,w7⟩:=hN σ7 H7 n7;refine⟨m',hm,i+1,σ7,H7,I7.zah,T.keep _ _ _ st5 fun b hb o e=>(I7.pin (b,o) (mem_append_right _ (mem_append_right _ (sN hb e)))).1,fun b hb=>?_,w7⟩;obtain⟨o,e,d⟩:=T.obj _ _ st5 b hb;exact(I7.pin (b,o) (mem_append_right _ (mem_append_right _ (sN hb e)))).2.1
   cases f with
   | next=>obtain⟨σ7,H7,I7,n7⟩:=q7;exact again I7 n7
   | cont=>obtain⟨σ7,H7,I7,n7⟩:=q7;exact again I7 n7
   | brk=>obtain⟨σ7,H7,I7,q7⟩:=q7;exact⟨σ7,H7,I7.zah,q7⟩
   | ret v=>obtain⟨x7,σ7,H7,I7,r7,q7⟩:=q7;exact⟨x7,σ7,H7,I7.zah,r7,q7⟩
end
abbrev R2:=V->V->Hp->VK->Prop
def vp(X:Cx)(f:Value->Value->Sem Value)(r:R2):Prop:=
 ∀(pins:List (Addr×Obj))(s:Shared)(σ:St)(H:Hp)(x y:V)(v u:Value)(Q:VK),Inv X pins σ H s->RelV x v->RelV y u->r x y H Q->
  wpAny (model X.prog X.w) X.A (f v u) (EP X pins σ Q) X.xe s
def Z0(X:Cx)(f:Value->Sem Value)(r:V->Hp->VK->Prop):Prop:=
 ∀(pins:List (Addr×Obj))(s:Shared)(σ:St)(H:Hp)(x:V)(v:Value)(Q:VK),Inv X pins σ H s->RelV x v->r x H Q->
  wpAny (model X.prog X.w) X.A (f v) (EP X pins σ Q) X.xe s
def Hl(X:Cx)(f:Value)(r:List V->Hp->VK->Prop):Prop:=
 ∀(pins:List (Addr×Obj))(s:Shared)(σ:St)(H:Hp)(xs:List V)(us:List Value)(Q:VK),Inv X pins σ H s->Vals xs us->r xs H Q->
  wpAny (model X.prog X.w) X.A (call f us) (EP X pins σ Q) X.xe s
noncomputable def wV(r:R2)(ta tb:TE):TE:=fun σ H Q=>ta σ H fun x H1=>tb σ H1 fun y H2=>r x y H2 Q
noncomputable def Vc(r:V->Hp->VK->Prop)(ta:TE):TE:=fun σ H Q=>ta σ H fun x H1=>r x H1 Q
noncomputable def rI(C:Int->Int->Prop)(g:Int->Int->V):R2:=fun x y H Q=>∃i j,x=.int i/\y=.int j/\C i j/\Q (g i j) H
noncomputable def tK(g:Int->Int->V):R2:=fun x y H Q=>∃i j,x=.int i/\y=.int j/\Q (g i j) H
noncomputable def rU(g:Int->V):V->Hp->VK->Prop:=fun x H Q=>∃i,x=.int i/\Q (g i) H
section
variable{X:Cx}{a b c:Expr}{ta tb tc:TE}{pos:Pos}
theorem yP(ha:PE X a ta)(hb:PE X b tb){pins:List (Addr×Obj)}{s:Shared}{σ:St}{H:Hp}{R:V->V->Hp->Prop}(I:Inv X pins σ H s)
 (h:ta σ H fun x H1=>tb σ H1 fun y H2=>R x y H2) {Q:Value->Shared->Prop} {f:Value->Value->Sem Value}
 (hf:∀v u s2 x y H2,Inv X pins σ H2 s2->RelV x v->RelV y u->R x y H2->wpAny (model X.prog X.w) X.A (f v u) Q X.xe s2) :
 wpAny (model X.prog X.w) X.A (eval a X.env) (fun v s₁=>wpAny (model X.prog X.w) X.A (eval b X.env) (fun u s₂=>wpAny (model X.prog X.w) X.A (f v u) Q X.xe s₂) X.xe s₁) X.xe s:=by
 refine HB (ha pins s σ H _ I h) fun v s1 zz=>?_
 obtain⟨x,H1,I1,r1,q1⟩:=zz;refine HB (hb pins s1 σ H1 _ I1 q1) fun u s2 zz=>?_
 obtain⟨y,H2,I2,r2,q2⟩:=zz;exact hf v u s2 x y H2 I2 r1 r2 q2
theorem HU{op:Operator}{r:R2}(ho:vp X (binaryOp op) r)(ha:PE X a ta)(hb:PE X b tb):PE X (.BinOp a op b pos) (wV r ta tb):=by intro pins s σ H Q I h;exact wpAny_BinOp (yP ha hb I h fun v u s2 x y H2 I2 rx ry q=>ho pins s2 σ H2 x y v u Q I2 rx ry q)
theorem RZ{op:UnaryOp}{r:V->Hp->VK->Prop}(ho:Z0 X (unaryOp op) r)(ha:PE X a ta):PE X (.UnaryOp op a pos) (Vc r ta):=by intro pins s σ H Q I h;exact UnaryOp_ (HB (ha pins s σ H _ I h) fun v s1 ⟨x,H1,I1,r1,q1⟩=>ho pins s1 σ H1 x v Q I1 r1 q1)
theorem PU{f:Value->Value->Sem Value}{C:Int->Int->Prop}{g:Int->Int->Int}
 (rule:∀(i j:Int)(t u:Tok)(s:Shared)(Q:Value->Shared->Prop)(E:Value->Shared->Prop),C i j->Q (.int (g i j) s.toks) { s with toks:=s.toks+1 }->wpAny (model X.prog X.w) X.A (f (.int i t) (.int j u)) Q E s) :
 vp X f (rI C fun i j=>.int (g i j)):=by
 intro pins s σ H x y v u Q I rx ry h;obtain⟨i,j,rfl,rfl,hc,q⟩:=h;obtain⟨t,rfl⟩:=rx;obtain⟨t',rfl⟩:=ry;exact rule i j t t' s _ _ hc ⟨.int (g i j),H,I.tok _,⟨_,rfl⟩,q⟩
theorem dM{f:Value->Value->Sem Value}{g:Int->Int->Int}
 (rule:∀(i j:Int)(t u:Tok)(s:Shared)(Q:Value->Shared->Prop)(E:Value->Shared->Prop),Q (.int (g i j) s.toks) { s with toks:=s.toks+1 }->wpAny (model X.prog X.w) X.A (f (.int i t) (.int j u)) Q E s) :
 vp X f (tK fun i j=>.int (g i j)):=by
 intro pins s σ H x y v u Q I rx ry h;obtain⟨i,j,rfl,rfl,q⟩:=h;obtain⟨t,rfl⟩:=rx;obtain⟨t',rfl⟩:=ry;exact rule i j t t' s _ _ ⟨.int (g i j),H,I.tok _,⟨_,rfl⟩,q⟩
theorem cM{f:Value->Value->Sem Value}{g:Int->Int->Bool}
 (rule:∀(i j:Int)(t u:Tok)(s:Shared)(Q:Value->Shared->Prop)(E:Value->Shared->Prop),Q (.bool (g i j)) s->wpAny (model X.prog X.w) X.A (f (.int i t) (.int j u)) Q E s) :
 vp X f (tK fun i j=>.bl (g i j)):=by
 intro pins s σ H x y v u Q I rx ry h;obtain⟨i,j,rfl,rfl,q⟩:=h;obtain⟨t,rfl⟩:=rx;obtain⟨t',rfl⟩:=ry;exact rule i j t t' s _ _ ⟨.bl (g i j),H,I,rfl,q⟩
noncomputable def YJ(i j:Int):Prop:=0<j/\j<1073741824
noncomputable def DG(i j:Int):Prop:=0<=j/\j<=1000000/\i.natAbs<2^64
noncomputable def zaJ(i j:Int):Prop:=(-(2^64)<i/\i<2^64)\/(-(2^64)<j/\j<2^64)
theorem zaJ.ok{i j:Int}(h:zaJ i j):IntMulOk i j:=by
 rcases h with⟨h1,h2⟩ | ⟨h1,h2⟩
 · exact .of_left (intBits_le_64 h1 h2)
 · exact .of_right (intBits_le_64 h1 h2)
theorem gj(k:Nat):(0:Int)<=2^k:=by rw[two_pow_cast];exact Int.natCast_nonneg _
theorem Tf:vp X (binaryOp .Add) (tK fun i j=>.int (i+j)):=dM fun _ _ _ _ _ _ _ q=>add_int q
theorem Dr:vp X (binaryOp .Sub) (tK fun i j=>.int (i-j)):=dM fun _ _ _ _ _ _ _ q=>sub_int q
theorem yr:vp X (binaryOp .Mult) (rI zaJ fun i j=>.int (i*j)):=PU fun _ _ _ _ _ _ _ hc q=>mul_int q hc.ok
theorem Ny:vp X (binaryOp .FloorDiv) (rI YJ fun i j=>.int (i/j)):=PU fun i j _ _ _ _ _ hc q=>by have h1:(0:Int)<j:=hc.1;have h2:j<1073741824:=hc.2;exact floordiv_int (by omega) (by rw[Int.fdiv_eq_ediv_of_nonneg i (by omega)];exact q) (.inl (PyProof.noPylong_small (by omega)))
theorem ur:vp X (binaryOp .Mod) (rI (fun _ j=>0<j) fun i j=>.int (i%j)):=PU fun i j _ _ _ _ _ hc q=>by have h1:(0:Int)<j:=hc;exact mod_int' (by omega) (by rw[Int.fmod_eq_emod_of_nonneg i (by omega)];exact q)
theorem Ar:vp X (binaryOp .Pow) (rI DG fun i j=>.int (i^j.toNat)):=PU fun _ _ _ _ _ _ _ hc q=>pow_int_small hc.1 hc.2.1 hc.2.2 q
theorem Br:vp X (binaryOp .LShift) (rI DG fun i j=>.int (i*2^j.toNat)):=PU fun _ _ _ _ _ _ _ hc q=>lshift_int_small hc.1 hc.2.1 hc.2.2 q
theorem Cr:vp X (binaryOp .RShift) (rI (fun _ j=>0<=j) fun i j=>.int (i/2^j.toNat)):=PU fun i j _ _ _ _ _ hc q=>rshift_int hc (by rw[Int.fdiv_eq_ediv_of_nonneg i (gj _)];exact q)
theorem Vf:vp X (binaryOp .BitAnd) (tK fun i j=>.int (Builtin.bitAnd i j)):=dM fun _ _ _ _ _ _ _ q=>and_int q
theorem Z5:vp X (binaryOp .BitOr) (tK fun i j=>.int (Builtin.bitOr i j)):=dM fun _ _ _ _ _ _ _ q=>or_int q
theorem Ud{f:Value->Sem Value}{g:Int->Int}
 (rule:∀(i:Int)(t:Tok)(s:Shared)(Q:Value->Shared->Prop)(E:Value->Shared->Prop),Q (.int (g i) s.toks) { s with toks:=s.toks+1 }->wpAny (model X.prog X.w) X.A (f (.int i t)) Q E s) :
 Z0 X f (rU fun i=>.int (g i)):=by
 intro pins s σ H x v Q I rx h;obtain⟨i,rfl,q⟩:=h;obtain⟨t,rfl⟩:=rx;exact rule i t s _ _ ⟨.int (g i),H,I.tok _,⟨_,rfl⟩,q⟩
theorem w6:Z0 X (unaryOp .USub) (rU fun i=>.int (-i)):=Ud fun _ _ _ _ _ q=>neg_int q
theorem u6:Z0 X (unaryOp .Invert) (rU fun i=>.int (Builtin.bitNot i)):=Ud fun _ _ _ _ _ q=>invert_int q
end
noncomputable def mM:V->V->Bool
 | .non,.non=>true | .non,.int _=>true | .int _,.non=>true | .non,.bl _=>true | .bl _,.non=>true | .non,.str _=>true | .str _,.non=>true
 | .int _,.int _=>true | .bl _,.bl _=>true | .str _,.str _=>true | .byt _,.byt _=>true
 | .int _,.str _=>true | .str _,.int _=>true | .bl _,.str _=>true | .str _,.bl _=>true
 | _,_=>false
def Bc:R2:=fun x y H Q=>mM x y=true/\Q (.bl (decide (x=y))) H
def Dc:R2:=fun x y H Q=>mM x y=true/\Q (.bl (!decide (x=y))) H
theorem NX{i j:Int}:decide (V.int i=V.int j)=(i==j):=by rw[Bool.eq_iff_iff];simp
theorem lZ{i j:Bool}:decide (V.bl i=V.bl j)=(i==j):=by rw[Bool.eq_iff_iff];simp
theorem OX{i j:Str}:decide (V.str i=V.str j)=(i==j):=by rw[Bool.eq_iff_iff];simp
theorem MX{i j:Array UInt8}:decide (V.byt i=V.byt j)=(i.toList==j.toList):=by rw[Bool.eq_iff_iff];cases i;cases j;simp
section
variable{X:Cx}{a b c:Expr}{ta tb tc:TE}{pos:Pos}
theorem sC{pins:List (Addr×Obj)}{σ:St}{H:Hp}{s:Shared}{Q:VK}{k k':Bool}(I:Inv X pins σ H s)(q:Q (.bl k) H)(e:k=k'):EP X pins σ Q (.bool k') s:=by subst e;exact⟨.bl k,H,I,rfl,q⟩
theorem Q5:vp X (compareOp .Eq) Bc:=by
 intro pins s σ H x y v u Q I rx ry h;obtain⟨hs,q⟩:=h;cases x with
 | non=>
  cases rx;cases y with
  | non=>cases ry;exact PySem.EqNone.eq_none_none (sC I q (by simp))
  | bl j=>cases ry;exact PySem.EqNone.eq_none_bool (sC I q (by simp))
  | int j=>obtain⟨t',rfl⟩:=ry;exact PySem.EqNone.eq_none_int (sC I q (by simp))
  | str j=>obtain⟨t',rfl⟩:=ry;exact PySem.EqNone.eq_none_str (sC I q (by simp))
  | _=>exact absurd (show false=true from hs) zf0
 | bl i=>
  cases rx;cases y with
  | non=>cases ry;exact PySem.EqNone.eq_bool_none (sC I q (by simp))
  | bl j=>cases ry;exact eq_bool (sC I q lZ)
  | str j=>obtain⟨t',rfl⟩:=ry;exact PySem.EqMixed.eq_bool_str (sC I q (by simp))
  | _=>exact absurd (show false=true from hs) zf0
 | int i=>
  obtain⟨t,rfl⟩:=rx;cases y with
  | non=>cases ry;exact PySem.EqNone.eq_int_none (sC I q (by simp))
  | int j=>obtain⟨t',rfl⟩:=ry;exact eq_int (sC I q NX)
  | str j=>obtain⟨t',rfl⟩:=ry;exact PySem.EqMixed.eq_int_str (sC I q (by simp))
  | _=>exact absurd (show false=true from hs) zf0
 | str i=>
  obtain⟨t,rfl⟩:=rx;cases y with
  | non=>cases ry;exact PySem.EqNone.eq_str_none (sC I q (by simp))
  | bl j=>cases ry;exact PySem.EqMixed.eq_str_bool (sC I q (by simp))
  | int j=>obtain⟨t',rfl⟩:=ry;exact PySem.EqMixed.eq_str_int (sC I q (by simp))
  | str j=>obtain⟨t',rfl⟩:=ry;exact eq_str (sC I q OX)
  | _=>exact absurd (show false=true from hs) zf0
 | byt i=>
  obtain⟨t,rfl⟩:=rx;cases y with
  | byt j=>obtain⟨t',rfl⟩:=ry;exact PySem.W.eq_bytes (sC I q MX)
  | _=>exact absurd (show false=true from hs) zf0
 | _=>cases y<;>exact absurd (show false=true from hs) zf0
theorem Y5:vp X (compareOp .NotEq) Dc:=by
 intro pins s σ H x y v u Q I rx ry h;obtain⟨hs,q⟩:=h;cases x with
 | non=>
  cases rx;cases y with
  | non=>cases ry;exact PySem.EqNone.ne_none_none (sC I q (by simp))
  | bl j=>cases ry;exact PySem.EqNone.ne_none_bool (sC I q (by simp))
  | int j=>obtain⟨t',rfl⟩:=ry;exact PySem.EqNone.ne_none_int (sC I q (by simp))
  | str j=>obtain⟨t',rfl⟩:=ry;exact PySem.EqNone.ne_none_str (sC I q (by simp))
  | _=>exact absurd (show false=true from hs) zf0
 | bl i=>
  cases rx;cases y with
  | non=>cases ry;exact PySem.EqNone.ne_bool_none (sC I q (by simp))
  | bl j=>cases ry;exact ne_bool (sC I q (congrArg not lZ))
  | str j=>obtain⟨t',rfl⟩:=ry;exact PySem.EqMixed.ne_bool_str (sC I q (by simp))
  | _=>exact absurd (show false=true from hs) zf0
 | int i=>
  obtain⟨t,rfl⟩:=rx;cases y with
  | non=>cases ry;exact PySem.EqNone.ne_int_none (sC I q (by simp))
  | int j=>obtain⟨t',rfl⟩:=ry;exact ne_int (sC I q (congrArg not NX))
  | str j=>obtain⟨t',rfl⟩:=ry;exact PySem.EqMixed.ne_int_str (sC I q (by simp))
  | _=>exact absurd (show false=true from hs) zf0
 | str i=>
  obtain⟨t,rfl⟩:=rx;cases y with
  | non=>cases ry;exact PySem.EqNone.ne_str_none (sC I q (by simp))
  | bl j=>cases ry;exact PySem.EqMixed.ne_str_bool (sC I q (by simp))
  | int j=>obtain⟨t',rfl⟩:=ry;exact PySem.EqMixed.ne_str_int (sC I q (by simp))
  | str j=>obtain⟨t',rfl⟩:=ry;exact ne_str (sC I q (congrArg not OX))
  | _=>exact absurd (show false=true from hs) zf0
 | byt i=>
  obtain⟨t,rfl⟩:=rx;cases y with
  | byt j=>obtain⟨t',rfl⟩:=ry;exact PySem.W.ne_bytes (sC I q (congrArg not MX))
  | _=>exact absurd (show false=true from hs) zf0
 | _=>cases y<;>exact absurd (show false=true from hs) zf0
theorem X5:vp X (compareOp .Lt) (tK fun i j=>.bl (decide (i<j))):=cM fun _ _ _ _ _ _ _ q=>lt_int q
theorem W5:vp X (compareOp .LtE) (tK fun i j=>.bl (decide (i<=j))):=cM fun _ _ _ _ _ _ _ q=>le_int q
theorem V5:vp X (compareOp .Gt) (tK fun i j=>.bl (decide (j<i))):=cM fun _ _ _ _ _ _ _ q=>gt_int q
theorem T5:vp X (compareOp .GtE) (tK fun i j=>.bl (decide (j<=i))):=cM fun _ _ _ _ _ _ _ q=>ge_int q
theorem jr:vp X (compareOp .Is) (fun x y H Q=>y=.non/\Q (.bl (decide (x=.non))) H):=by
 intro pins s σ H x y v u Q I rx ry h;obtain⟨rfl,q⟩:=h;cases ry;refine is_none_gen (sC I q ?_);cases x<;>first
  | (cases rx;rfl)
  | (obtain⟨t,rfl⟩:=rx;rfl)
theorem WY(b:Expr){op:CmpOp}(h:op≠.In:=by decide)(h2:op≠.NotIn:=by decide):behindInMarks op b=false:=by
 have e1:(op==CmpOp.In)=false:=by cases op<;>first | rfl | exact absurd rfl h
 have e2:(op==CmpOp.NotIn)=false:=by cases op<;>first | rfl | exact absurd rfl h2
 cases b<;>simp[behindInMarks,e1,e2]
theorem Ck{op:CmpOp}{r:R2}(ho:vp X (compareOp op) r)(ha:PE X a ta)(hb:PE X b tb)(hm:behindInMarks op b=false):PE X (.Compare a [op] [b] pos) (wV r ta tb):=by intro pins s σ H Q I h;exact wpAny_Compare1 (yP ha hb I h fun v u s2 x y H2 I2 rx ry q=>ho pins s2 σ H2 x y v u Q I2 rx ry q) hm
noncomputable def g7(t:TE):TT:=fun σ H Q=>t σ H fun x H'=>∃k,x=.bl k/\Q k H'
theorem Qh{op:CmpOp}{r:R2}(ho:vp X (compareOp op) r)(ha:PE X a ta)(hb:PE X b tb)(hm:behindInMarks op b=false):PT X (.Compare a [op] [b] pos) (g7 (wV r ta tb)):=by
 intro pins s σ H Q I h;refine wpAny_isTrue_Compare1 (HB (ha pins s σ H _ I h) fun v s1 ⟨x,H1,I1,r1,q1⟩=>HB (hb pins s1 σ H1 _ I1 q1) fun u s2 ⟨y,H2,I2,r2,q2⟩=>
  HB (ho pins s2 σ H2 x y v u _ I2 r1 r2 q2) fun c s3 ⟨z,H3,I3,r3,k,e,q3⟩=>?_) hm
 subst e;cases r3;exact wpAny_truthy_bool ⟨H3,I3,q3⟩
noncomputable def IZ(r r':R2)(ta tb tc:TE):TE:=fun σ H Q=>ta σ H fun x H1=>tb σ H1 fun y H2=>r x y H2 fun z H3=>∃k,z=.bl k/\
 (if k=true then tc σ H3 fun w' H4=>r' y w' H4 Q else Q (.bl false) H3)
theorem Wz{op op':CmpOp}{r r':R2}(ho:vp X (compareOp op) r)(ho':vp X (compareOp op') r')(ha:PE X a ta)(hb:PE X b tb)(hc:PE X c tc)
 (hm:lastMarks [op,op'] [b,c]=false:=by with_unfolding_all rfl):PE X (.Compare a [op,op'] [b,c] pos) (IZ r r' ta tb tc):=by
 intro pins s σ H Q I h;refine Compare_chain (HB (ha pins s σ H _ I h) fun v s1 ⟨x,H1,I1,r1,q1⟩=>chain_link (HB (hb pins s1 σ H1 _ I1 q1) fun u s2 ⟨y,H2,I2,r2,q2⟩=>
  HB (ho pins s2 σ H2 x y v u _ I2 r1 r2 q2) fun d s3 ⟨z,H3,I3,r3,k,e,q3⟩=>?_)) hm
 subst e;cases r3;refine wpAny_truthy_bool ?_;cases k with
 | false=>exact ite_ff ⟨.bl false,H3,I3,rfl,q3⟩
 | true=>exact ite_tt (chain_last (HB (hc pins s3 σ H3 _ I3 q3) fun w' s4 ⟨z',H4,I4,r4,q4⟩=>ho' pins s4 σ H4 y z' u w' Q I4 r2 r4 q4))
theorem xI:(sizeLine:Nat)<2^63:=by rw[sizeLine_eq];decide
theorem cG{x:V}{us:List Value}(r:Vals [x] us):∃u,us=[u]/\RelV x u:=by
 cases r with
 | cons r1 r2=>cases r2;exact⟨_,rfl,r1⟩
theorem yU{x y:V}{us:List Value}(r:Vals [x,y] us):∃u w',us=[u,w']/\RelV x u/\RelV y w':=by
 cases r with
 | cons r1 r2=>
  cases r2 with
  | cons r3 r4=>cases r4;exact⟨_,_,rfl,r1,r3⟩
theorem O9 (hc:X.calm=true):Hl X (.builtin "max") (fun xs H Q=>∃i j,xs=[.int i,.int j]/\Q (.int (if j>i then j else i)) H):=by
 intro pins s σ H xs us Q I r h;obtain⟨i,j,rfl,q⟩:=h;obtain⟨u,w',rfl,⟨t,rfl⟩,⟨t',rfl⟩⟩:=yU r;refine max_two_ints (I.ok.hd hc) fun h' tk k=>⟨_,H,I.kept k,?_,q⟩
 by_cases hj:j>i
 · rw[if_pos hj,if_pos hj];exact⟨_,rfl⟩
 · rw[if_neg hj,if_neg hj];exact⟨_,rfl⟩
theorem Q9 (hc:X.calm=true):Hl X (.builtin "min") (fun xs H Q=>∃i j,xs=[.int i,.int j]/\Q (.int (if j<i then j else i)) H):=by
 intro pins s σ H xs us Q I r h;obtain⟨i,j,rfl,q⟩:=h;obtain⟨u,w',rfl,⟨t,rfl⟩,⟨t',rfl⟩⟩:=yU r;refine min_two_ints (I.ok.hd hc) fun h' tk k=>⟨_,H,I.kept k,?_,q⟩
 by_cases hj:j<i
 · rw[if_pos hj,if_pos hj];exact⟨_,rfl⟩
 · rw[if_neg hj,if_neg hj];exact⟨_,rfl⟩
theorem N9:Hl X (.type "int") (fun xs H Q=>(∃i,xs=[.int i]/\Q (.int i) H)\/∃k,xs=[.bl k]/\Q (.int (if k then 1 else 0)) H):=by
 intro pins s σ H xs us Q I r h;rcases h with⟨i,rfl,q⟩ | ⟨k,rfl,q⟩
 · obtain⟨u,rfl,t,rfl⟩:=cG r;exact call_int_int ⟨.int i,H,I,⟨_,rfl⟩,q⟩
 · obtain⟨u,rfl,r1⟩:=cG r;cases r1;exact call_int_bool ⟨.int (if k then 1 else 0),H,I.tok _,⟨_,rfl⟩,q⟩
end
structure zaO(h:Heap)(x dx C:Addr)(mA:Str->Option Value):Prop where
 obj:h.get? x=some (PySem.W.instObj C dx)
 ns:h.Ns1 dx mA
 ne:dx≠x
theorem jq{h:Heap}{dx:Addr}{mA:Str->Option Value}(n:h.Ns1 dx mA):∃od,h.get? dx=some od/\∀name,PySem.W.lookIn name od=some (mA name):=by
 obtain⟨o,es,ep,ho,hd,hk,_,hm⟩:=n;refine⟨o,ho,fun name=>?_⟩;have e:=hm name;unfold nsFind findBy at e;rw[<- Array.find?_toList]at e;unfold PySem.W.lookIn;rw[hd];dsimp only;split
 · rename_i y q;rw[q]at e;exact congrArg some e
 · rename_i q;rw[q]at e;have a:es.toList.any (·.refKey)=false:=by rw[any_eq_false];intro y hy;obtain⟨z,t,hkey⟩:=hk y (Array.mem_toList_iff.mp hy);simp[DictEntry.refKey,hkey]
   have a':¬es.toList.any (·.refKey)=true:=by rw[a];exact zf0
   rw[if_neg a'];exact congrArg some e
theorem zaO.look{h:Heap}{x dx C:Addr}{mA:Str->Option Value}(I:zaO h x dx C mA):∃od,PySem.W.InstAt h x (PySem.W.instObj C dx) C (some od)/\∀name,PySem.W.lookIn name od=some (mA name):=
 let ⟨od,ho,hl⟩:=jq I.ns
 ⟨od,⟨I.obj,rfl,rfl,ho⟩,hl⟩
section
variable{prog:Program}{w:World}{A:Around}{E:Value->Shared->Prop}{s:Shared}{K:Frag}{x dx C f:Addr}{mA:Str->Option Value}{name:Str}{v:Value}
theorem Fg{expr:Bool}{Q:Value->Shared->Prop}(X:K.In s.heap)(I:zaO s.heap x dx C mA)(hg:PySem.W.plainGet K C name=true)(hh:PySem.W.hasDictIn K C=true)
 (ha:findIn K (.ref C) name=some none) (hv:mA name=some v) (hv':PySem.W.handedIn v=true) (h:Q v { s with toks:=s.toks+1 }) :
 wpAny (model prog w) A (getAttr (.ref x) name expr) Q E s:=by
 obtain⟨od,J,hl⟩:=I.look;exact PySem.W.get_value X J (PySem.W.plainGet_of hg).1 (PySem.W.findObj_own hh ha rfl (by rw[hl,hv])) hv' h
theorem Qv{pl:Sem Bool}{Q:Value×List Value->Shared->Prop}(X:K.In s.heap)(I:zaO s.heap x dx C mA)(hg:PySem.W.plainGet K C name=true)
 (hf:findIn K (.ref C) name=some (some (.ref f))) (ht:PySem.W.isFn K (.ref f)=true) (hv:mA name=none) (h:Q (.ref f,[.ref x]) s) :
 wpAny (model prog w) A (getMethod (.ref x) name pl) Q E s:=by
 obtain⟨od,J,hl⟩:=I.look;exact PySem.W.method_fn X J (PySem.W.plainGet_of hg).1 (PySem.W.plainGet_of hg).2 hf (beq_iff_eq.mp ht) (by show(PySem.W.lookIn name od).map (·.isSome)=some false;rw[hl,hv];rfl) h
theorem Bt{ns:List Str}{Q:Unit->Shared->Prop}(X:K.In s.heap)(I:zaO s.heap x dx C mA)
 (hs:findIn K (.ref C) "__setattr__" =some (some (.builtin "object.__setattr__"))) (hp:PySem.W.plainOver K C=true) (ht:PySem.W.takerIn K C name=some none) (hh:PySem.W.hasDictIn K C=true)
 (hw:PySem.Within mA ns) (hsz:ns.length<=sizeLine)
 (h:∀h',zaO h' x dx C (fun y=>if y=name then some v else mA y)->Heap.SameBut dx s.heap h'->Q () { s with heap:=h',toks:=s.toks+2 }) :
 wpAny (model prog w) A (setAttr (.ref x) name v) Q E s:=by
 obtain⟨od,J,hl⟩:=I.look;refine PySem.W.set_plain X J hs (PySem.W.osa_open (s:={ s with toks:=s.toks+1 }) (r:=none) X J hp ht fun b=>?_);obtain⟨cd,hc,hd'⟩:=PySem.W.any_some hh;have hx:s.heap.get? x=some ⟨.ref C,some dx,.plain,#[]⟩:=I.obj;refine wpAny_bind (wpAny_pure (wpAny_bind (wpAny_bind (wpAny_loadPart hx (wpAny_bind (PySem.W.Looks.here (s:={ s with toks:=s.toks+1 }) (PySem.W.looks_clsIn X hc) ?_))))));rw[hd'];refine wpAny_pure (a:=some dx) (wpAny_bind (wpAny_pure (wpAny_bind ?_)));refine wpAny_nsSet1 (s:={ s with toks:=s.toks+1 }) I.ns fun h' hn2 hs2=>?_
 obtain⟨oD,esD,epD,hoD,hdD,hcD⟩:=hn2.count (PySem.Within.cons name v hw);refine wpAny_bind (wpAny_lookBehind hoD (by rw[hdD];exact pastItsLine_dict (Nat.le_trans hcD (by rw[zfO];omega))) ?_);exact wpAny_pure (h _ ⟨(hs2.2 _ (Ne.symm I.ne)).trans I.obj,hn2,I.ne⟩ hs2)
theorem Mz{R:Result->Shared->Prop}{vs:List Value}{kw:List (Str×Value)}(X:K.In s.heap)(hm:PySem.W.makesIn K C=true)
 (hi:findIn K (.ref C) "__init__" =some (some (.ref f))) (hf:PySem.W.typeIn K (.ref f)=some (.type "function"))
 (h:codeAny (model prog w) (A.under (.builtin "type.__call__" ⟨.ref C::vs,kw⟩)) (.call (.ref f) ⟨.ref (s.heap.objs.size+1)::vs,kw⟩) (PySem.W.InitBack (s.heap.objs.size+1) R)
  { s with heap:=(s.heap.push PySem.W.emptyDict).push (PySem.W.instObj C s.heap.objs.size) }) :
 codeAny (model prog w) A (.call (.ref C) ⟨vs,kw⟩) R s:=by
 obtain⟨hh,g,d,t,os⟩:=s;exact PySem.W.make_core (PySem.W.makes_of X hm) (PySem.W.looks_findIn X hi) (fun self=>PySem.W.bind_fn X self hf) (.inl rfl) h
end
noncomputable def LB(f:Str)(v:V):List (Str×V)->List (Str×V)
 | []=>[(f,v)]
 | (g,x)::r=>if g=f then(g,v)::r else(g,x)::LB f v r
theorem YV(f g:Str)(v:V):∀fs:List (Str×V),(LB f v fs).lookup g=if g=f then some v else fs.lookup g
 | []=>by
  show List.lookup g [(f,v)]=_;by_cases h:g=f
  · have hb:(g==f)=true:=beq_iff_eq.mpr h;simp only[List.lookup,hb,if_pos h]
  · have hb:(g==f)=false:=beq_eq_false_iff_ne.mpr h;simp only[List.lookup,hb,if_neg h]
 | (k,x)::r=>by
  have ih:=YV f g v r;rw[show LB f v ((k,x)::r)=(if k=f then(k,v)::r else(k,x)::LB f v r)from rfl];by_cases hk:k=f
  · rw[if_pos hk];by_cases h:g=k
    · have hb:(g==k)=true:=beq_iff_eq.mpr h;simp only[List.lookup,hb,if_pos (h.trans hk)]
    · have hb:(g==k)=false:=beq_eq_false_iff_ne.mpr h;simp only[List.lookup,hb,if_neg (fun e:g=f=>h (e.trans hk.symm))]
  · rw[if_neg hk];by_cases h:g=k
    · have hb:(g==k)=true:=beq_iff_eq.mpr h;simp only[List.lookup,hb,if_neg (fun e:g=f=>hk (h.symm.trans e))]
    · have hb:(g==k)=false:=beq_eq_false_iff_ne.mpr h;simp only[List.lookup,hb];exact ih
theorem kS(f:Str)(v:V):∀fs:List (Str×V),f∈(LB f v fs).map (·.1)/\∀g,g∈fs.map (·.1)->g∈(LB f v fs).map (·.1)
 | []=>⟨by simp[LB],fun g h=>by simp at h⟩
 | (k,x)::r=>by
  obtain⟨i1,i2⟩:=kS f v r;rw[show LB f v ((k,x)::r)=(if k=f then(k,v)::r else(k,x)::LB f v r)from rfl];by_cases hk:k=f
  · rw[if_pos hk];subst hk;exact⟨by simp,fun g h=>by simpa using h⟩
  · rw[if_neg hk];refine⟨?_,fun g h=>?_⟩
    · rw[zfQ];exact mem_cons_of_mem _ i1
    · rw[zfQ]at h ⊢;rcases mem_cons.mp h with e | e
      · exact mem_cons.mpr (.inl e)
      · exact mem_cons_of_mem _ (i2 g e)
theorem VV(f:Str)(v:V):∀fs:List (Str×V),(LB f v fs).length<=fs.length+1
 | []=>by simp[LB]
 | (k,x)::r=>by
  have ih:=VV f v r;rw[show LB f v ((k,x)::r)=(if k=f then(k,v)::r else(k,x)::LB f v r)from rfl];by_cases hk:k=f
  · rw[if_pos hk,zfO,zfO];omega
  · rw[if_neg hk,zfO,zfO];omega
theorem Tp.some_of{v:V}{o:Option Value}(r:Tp (some v) o):∃u,o=some u/\RelV v u:=by
 cases o with
 | none=>exact(show False from r).elim
 | some u=>exact⟨u,rfl,r⟩
theorem Tp.none_of{o:Option Value}(r:Tp none o):o=none:=by
 cases o with
 | none=>rfl
 | some u=>exact(show False from r).elim
theorem Rq{v:V}{u:Value}(r:RelV v u):PySem.W.handedIn u=true:=by
 cases v with
 | non=>cases (show u=Value.none from r);rfl
 | bl b=>cases (show u=Value.bool b from r);rfl
 | int i=>obtain⟨t,e⟩:=(show ∃t,u=Value.int i t from r);cases e;rfl
 | str x=>obtain⟨t,e⟩:=(show ∃t,u=Value.str x t from r);cases e;rfl
 | byt b=>obtain⟨t,e⟩:=(show ∃t,u=Value.bytes b t from r);cases e;rfl
 | flt b=>obtain⟨t,e⟩:=(show ∃t,u=Value.float b t from r);cases e;rfl
 | ref a=>cases (show u=Value.ref a from r);rfl
 | ty n=>cases (show u=Value.type n from r);rfl
section
variable{P:Program}{w:World}{H H':Hp}{h h':Heap}{a C dx:Addr}{fs fs':List (Str×V)}
theorem kT(hok:HOk P w H h)(e:H a=some (.ins C dx fs)):∃mA,zaO h a dx C mA/\(∀f,Tp (fs.lookup f) (mA f))/\PySem.Within mA (fs.map (·.1))/\fs.length<=1000/\H dx=some (.own a):=by obtain⟨d,z,ne,ob,mA,n,r,q⟩:=(show Xm P w H h a (.ins C dx fs)from hok a _ e);exact⟨mA,⟨ob,n,ne⟩,r,q,z,d⟩
end
structure Cls(K:Frag)(C:Addr):Prop where
 pg:PySem.W.plainGet K C Str.empty=true
 hd:PySem.W.hasDictIn K C=true
 po:PySem.W.plainOver K C=true
 sa:findIn K (.ref C) "__setattr__" =some (some (.builtin "object.__setattr__"))
theorem Cls.get{K:Frag}{C:Addr}(c:Cls K C)(f:Str):PySem.W.plainGet K C f=true:=c.pg
noncomputable def zaa(K:Frag)(C:Addr)(f:Str):Prop:=findIn K (.ref C) f=some none
theorem zaa.taker{K:Frag}{C:Addr}{f:Str}(n:zaa K C f):PySem.W.takerIn K C f=some none:=by unfold PySem.W.takerIn;rw[show findIn K (.ref C) f=some none from n];rfl
structure cK(K:Frag)(C:Addr)(m:Str)(f:Addr):Prop where
 at_:findIn K (.ref C) m=some (some (.ref f))
 fn:PySem.W.isFn K (.ref f)=true
 kp:keepIn K (.ref f)=true
section
variable{X:Cx}{pins:List (Addr×Obj)}{σ:St}{H:Hp}{s:Shared}{a C dx:Addr}{fs:List (Str×V)}{f:Str}{v:V}{A:Around}{E:Value->Shared->Prop}
theorem t9{b:Bool}{Q:Value->Shared->Prop}(I:Inv X pins σ H s)(e:H a=some (.ins C dx fs))(c:Cls X.K C)(n:zaa X.K C f)(l:fs.lookup f=some v)
 (h:∀u s',Inv X pins σ H s'->RelV v u->Q u s'):wpAny (model X.prog X.w) A (getAttr (.ref a) f b) Q E s:=by
 obtain⟨mA,O,r,_,_,_⟩:=kT I.hok e;obtain⟨u,hu,ru⟩:=Tp.some_of (v:=v) (o:=mA f) (by rw[<- l];exact r f);exact Fg I.kIn O (c.get f) c.hd n hu (Rq ru) (h u _ (I.tok _) ru)
theorem iW{m:Str}{g:Addr}{pl:Sem Bool}{Q:Value×List Value->Shared->Prop}(I:Inv X pins σ H s)(e:H a=some (.ins C dx fs))(c:Cls X.K C)(k:cK X.K C m g)(l:fs.lookup m=none)
 (h:Q (.ref g,[.ref a]) s):wpAny (model X.prog X.w) A (getMethod (.ref a) m pl) Q E s:=by
 obtain⟨mA,O,r,_,_,_⟩:=kT I.hok e;have hn:mA m=none:=Tp.none_of (by rw[<- l];exact r m);exact Qv I.kIn O (c.get m) k.at_ k.fn hn h
theorem Ij{y:V}{u:Value}{Q:Unit->Shared->Prop}(I:Inv X pins σ H s)(e:H a=some (.ins C dx fs))(c:Cls X.K C)(n:zaa X.K C f)(hl:fs.length<1000)(ry:RelV y u)
 (h:∀s',Inv X pins σ (KB H a (.ins C dx (LB f y fs))) s'->Q () s'):wpAny (model X.prog X.w) A (setAttr (.ref a) f u) Q E s:=by
 obtain⟨mA,O,r,wi,_,ho⟩:=kT I.hok e;have hz:(fs.map (·.1)).length<=sizeLine:=by rw[length_map,sizeLine_eq];omega
 refine Bt I.kIn O c.sa c.po n.taker c.hd wi hz fun h' O' sb=>h _ ?_
 have hd:∃o,h'.get? dx=some o:=let ⟨o,_,_,e',_⟩:=O'.ns;⟨o,e'⟩
 refine I.write (x:=a) (e:=dx) (by rw[e];exact True.intro) (.inr ho) (fun b q hb z=>(sb.2 b hb).trans z) hd ?_;refine⟨by rw[cB O.ne];exact ho,?_,O.ne,O'.obj,_,O'.ns,fun g=>?_,fun g hg=>?_⟩
 · have:=VV f y fs;omega
 · show Tp ((LB f y fs).lookup g) (if g=f then some u else mA g);rw[YV];by_cases q:g=f
   · rw[if_pos q,if_pos q];exact ry
   · rw[if_neg q,if_neg q];exact r g
 · by_cases q:g=f
   · rw[q];exact(kS f y fs).1
   · refine(kS f y fs).2 g (wi g fun z=>hg ?_);show(if g=f then some u else mA g)=none;rw[if_neg q];exact z
theorem Inv.made(I:Inv X pins σ H s):Inv X pins σ (KB (KB H s.heap.objs.size (.own (s.heap.objs.size+1))) (s.heap.objs.size+1) (.ins C s.heap.objs.size []))
 { s with heap:=(s.heap.push PySem.W.emptyDict).push (PySem.W.instObj C s.heap.objs.size) }:=by
 have e1:(s.heap.push PySem.W.emptyDict).get? s.heap.objs.size=some PySem.W.emptyDict:=Heap.get?_push_size s.heap rfl;have e2:((s.heap.push PySem.W.emptyDict).push (PySem.W.instObj C s.heap.objs.size)).get? (s.heap.objs.size+1)=some (PySem.W.instObj C s.heap.objs.size):=by have:=Heap.get?_push_size (s.heap.push PySem.W.emptyDict) (o:=PySem.W.instObj C s.heap.objs.size) rfl;rwa[Heap.size_push]at this
 have e3:(s.heap.push PySem.W.emptyDict).Ns s.heap.objs.size (fun _=>none):=⟨PySem.W.emptyDict,#[],_,e1,rfl,(fun e he=>absurd he (by simp)),fun _=>rfl⟩;have I1:=I.laid (a:=s.heap.objs.size) (o:=.own (s.heap.objs.size+1)) (h':=s.heap.push PySem.W.emptyDict) (t':=s.toks) (fun b u q=>Heap.get?_push_of_some _ q) (zf1 _) ⟨_,e1⟩;refine I1.laid (a:=s.heap.objs.size+1) (o:=.ins C s.heap.objs.size []) (t':=s.toks) (fun b u q=>Heap.get?_push_of_some _ q) (Nat.le_of_eq (Heap.size_push _ _)) ?_;have ne:s.heap.objs.size≠s.heap.objs.size+1:=Nat.ne_of_lt (Nat.lt_succ_self _);refine⟨by rw[cB ne,SC],Nat.zero_le _,ne,e2,fun _=>none,(Heap.Ns1.of_empty e3).at fun o q=>Heap.get?_push_of_some _ q,fun _=>True.intro,fun y hy=>absurd rfl hy⟩
theorem Hw{prog:Program}{w:World}{env:Env}{e:Expr}{f:Str}{pos:Pos}{s:Shared}{Q:Value->Shared->Prop}(hb:attributeBase e f env (eval e env)=eval e env)
 (h:wpAny (model prog w) A (eval e env) (fun o s₁=>wpAny (model prog w) A (getAttr o f true) Q E s₁) E s):wpAny (model prog w) A (eval (.Attribute e f pos) env) Q E s:=
 Attribute_any_ h (by rw[arm_eval_Attribute,hb])
end
def D4(K:Frag)(ta:TE)(f:Str):TE:=fun σ H Q=>ta σ H fun x H1=>∃a C dx fs v,x=.ref a/\H1 a=some (.ins C dx fs)/\Cls K C/\zaa K C f/\fs.lookup f=some v/\Q v H1
def A4(K:Frag)(ta tv:TE)(f:Str):TS:=fun D σ H=>tv σ H fun y H1=>ta σ H1 fun x H2=>∃a C dx fs,x=.ref a/\H2 a=some (.ins C dx fs)/\Cls K C/\zaa K C f/\fs.length<1000/\
 D.nx σ (KB H2 a (.ins C dx (LB f y fs)))
section
variable{X:Cx}{o e value:Expr}{f:Str}{pos pos' tpos:Pos}{ta tv:TE}
theorem Jr(he:PE X e ta)(hb:attributeBase e f X.env (eval e X.env)=eval e X.env):PE X (.Attribute e f pos) (D4 X.K ta f):=by intro pins s σ H Q I h;refine Hw hb (HB (he pins s σ H _ I h) fun u s1 zz=>?_);obtain⟨x,H1,I1,rx,a,C,dx,fs,v,ex,ea,c,n,l,q⟩:=zz;subst ex;obtain rfl:u=Value.ref a:=rx;exact t9 I1 ea c n l fun u' s2 I2 ru=>⟨v,H1,I2,ru,q⟩
theorem Wr(ha:PE X o ta)(hv:PE X value tv)(hs:swapsWith value (some (.Attribute o f pos')) pos.line X.env=pure false):PS X (.Assign [.Attribute o f pos'] value pos) (A4 X.K ta tv f):=by intro pins s σ H D I h;refine plainObj_wpAny_Assign_Attribute (HB (hv pins s σ H _ I h) fun u s1 ⟨y,H1,I1,ry,q⟩=>HB (ha pins s1 σ H1 _ I1 q) fun ov s2 zz=>?_) hs;obtain⟨x,H2,I2,rx,a,C,dx,fs,ex,ea,c,n,l,q2⟩:=zz;subst ex;obtain rfl:ov=Value.ref a:=rx;exact Ij I2 ea c n l ry fun s3 I3=>⟨σ,_,I3,q2⟩
theorem Zc{pl:Sem Bool}{m:Str}{apos:Pos}{args:List Expr}{pins:List (Addr×Obj)}{s:Shared}{σ:St}{H:Hp}{Q:Value->Shared->Prop}{te:TE}(he:PE X e te)(I:Inv X pins σ H s)
 (h:te σ H fun x H1=>∃a C dx fs g,x=.ref a/\H1 a=some (.ins C dx fs)/\Cls X.K C/\cK X.K C m g/\fs.lookup m=none/\
  ∀s1,Inv X pins σ H1 s1->wpAny (model X.prog X.w) X.A (callWith pos (.ref g) [.ref a] (backTo pos (starEach args X.env)) (backToKw pos (keywordEach [] X.env))) Q X.xe s1)
 (ht:eval (.Call (.Attribute e m apos) args [] pos) X.env=(do
  let ov <- eval e X.env
  standAt apos.atName
  let (f,first) <- holding [ov] (getMethod ov m pl)
  callWith pos f first (backTo pos (starEach args X.env)) (backToKw pos (keywordEach [] X.env)))) :
 wpAny (model X.prog X.w) X.A (eval (.Call (.Attribute e m apos) args [] pos) X.env) Q X.xe s:=by
 refine PySem.W.methodCall_KW (pl:=pl) (HB (he pins s σ H _ I h) fun u s1 zz=>?_) ht;obtain⟨x,H1,I1,rx,a,C,dx,fs,g,ex,ea,c,k,l,q⟩:=zz;subst ex;obtain rfl:u=Value.ref a:=rx;exact iW I1 ea c k l (q s1 I1)
end
section
variable{X:Cx}{pins:List (Addr×Obj)}{σ:St}{H:Hp}{s:Shared}{A:Around}{E:Value->Shared->Prop}{Q:Value->Shared->Prop}{c:Value}{b:Bool}
end
structure Zm(k:Nat)(A:Around):Prop where
 hd:A.handled=none
 dp:A.depth+3*k+5<recursionLimit
 un:A.units+16*k+200<cLine
theorem Zm.mono{j k:Nat}{A:Around}(r:Zm k A)(h:j<=k):Zm j A:=⟨r.hd,by have:=r.dp;omega,by have:=r.un;omega⟩
theorem Zm.deeper{k:Nat}{A:Around}(r:Zm (k+1) A)(env:Env):Zm k (A.deeper env):=
 ⟨r.hd,by have:=r.dp;show A.depth+1+3*k+5<_;omega,by have:=r.un;show A.units+3+16*k+200<_;omega⟩
theorem v9 {A:Around} {C:Addr} {us:List Value} {kw:List (Str×Value)}:(A.under (.builtin "type.__call__" ⟨.ref C::us,kw⟩)).depth=A.depth+1:=by first | rfl | simp[Around.under,Code.weight,Code.isCreation,Code.isGuard,Code.isCaller,Code.frames,Code.isFrame,guardIds]
theorem A9 {A:Around} {C:Addr} {us:List Value} {kw:List (Str×Value)}:(A.under (.builtin "type.__call__" ⟨.ref C::us,kw⟩)).units=A.units+1:=by first | rfl | simp[Around.under,Code.cUnits,Code.frames,Code.isFrame]
theorem Zm.make {k:Nat} {A:Around} (r:Zm (k+1) A) (C:Addr) (us:List Value) (kw:List (Str×Value)):Zm k (A.under (.builtin "type.__call__" ⟨.ref C::us,kw⟩)):=
 ⟨r.hd,by have:=r.dp;rw[v9];omega,by have:=r.un;rw[A9];omega⟩
theorem Zm.depth{k:Nat}{A:Around}(r:Zm k A):A.depth<recursionLimit:=by have:=r.dp;omega
theorem Zm.units{k:Nat}{A:Around}(r:Zm k A):A.units+64<cLine:=by have:=r.un;omega
noncomputable def ZP:TA:=fun _ H Q=>Q [] H
noncomputable def u0(ta:TE)(tr:TA):TA:=fun σ H Q=>ta σ H fun x H1=>tr σ H1 fun xs H2=>Q (x::xs) H2
section
variable{X:Cx}{e:Expr}{es:List Expr}{te:TE}{t:TA}{pos:Pos}
theorem fE:PA X [] ZP:=fun _ _ _ _ H Q I h=>Calls.spliced_nil ⟨[],H,I,.nil,h⟩
theorem TC(ha:PE X e te)(hr:PA X es t)(hs:starEach (e::es) X.env=(false,eval e X.env)::starEach es X.env:=by rfl):PA X (e::es) (u0 te t):=by intro pos pins s σ H Q I h;rw[hs];show wpAny _ _ (spliced ((false,eval e X.env)::backTo pos (starEach es X.env))) _ _ s;refine Calls.spliced_cons (HB (ha pins s σ H _ I h) fun u s1 zz=>?_);obtain⟨x,H1,I1,r1,q1⟩:=zz;exact HB (hr pos pins s1 σ H1 _ I1 q1) fun us s2 ⟨xs,H2,I2,r2,q2⟩=>⟨x::xs,H2,I2,.cons r1 r2,q2⟩
def Q4(t:TA):TE:=fun σ H Q=>t σ H fun xs H1=>xs.length<=sizeLine/\∀p,H1 p=none->Q (.ref p) (KB H1 p (.tup xs))
def vV(t:TA):TE:=fun σ H Q=>t σ H fun xs H1=>xs.length<=sizeLine/\∀p,H1 p=none->Q (.ref p) (KB H1 p (.lst xs))
theorem BZ{x1}(h:PA X es t):PE X (.Tuple es x1 pos) (Q4 t):=by intro pins s σ H Q I hq;refine wpAny_Tuple_spliced (HB (h pos pins s σ H _ I hq) fun us s1 ⟨xs,H1,I1,r,z,q⟩=>⟨by rw[<- r.length];exact z,?_⟩);have hf:H1 s1.heap.objs.size=none:=I1.hok.fresh (zf1 _);refine⟨.ref s1.heap.objs.size,KB H1 s1.heap.objs.size (.tup xs),I1.laid (t':=s1.toks) (fun b u e=>Heap.get?_push_of_some _ e) (zf1 _) ?_,rfl,q _ hf⟩;exact⟨z,us,r,⟨_,Heap.get?_push_size _ rfl,rfl,_,rfl⟩⟩
theorem xO(h:PA X es t):PE X (.List es pos) (vV t):=by intro pins s σ H Q I hq;refine wpAny_List_spliced (HB (h pos pins s σ H _ I hq) fun us s1 ⟨xs,H1,I1,r,z,q⟩=>⟨by rw[<- r.length];exact z,?_⟩);have hf:H1 s1.heap.objs.size=none:=I1.hok.fresh (zf1 _);refine⟨.ref s1.heap.objs.size,KB H1 s1.heap.objs.size (.lst xs),I1.laid (t':=s1.toks) (fun b u e=>Heap.get?_push_of_some _ e) (zf1 _) ?_,rfl,q _ hf⟩;exact⟨z,us,0,r,Heap.get?_push_size _ rfl⟩
end
abbrev Sp:=List V->Hp->VK->XK->Prop
abbrev WJ:=List Env->Hp->Shared->XK->Value->Shared->Prop
structure zaM(P:Program)(w:World)(K:Frag)(mg:Str->Option Value)(base:Heap)(A:Around)(outer:List Env)(s:Shared)(H:Hp):Prop where
 frames:A.frames=some outer
 mod:Mod K mg base
 bs:∀b o,base.get? b=some o->s.heap.get? b=some o/\H b=none
 bsz:base.objs.size<=s.heap.objs.size
 zau:s.heap.FunFrames base outer
 frf:∀b∈jK outer,H b=none
 hok:HOk P w H s.heap
 bare:AllBare s.gens
def CE(outer:List Env)(P:Program)(w:World)(H:Hp)(s:Shared)(Q:VK)(u:Value)(s':Shared):Prop:=
 ∃v H',s'.os=s.os/\AllBare s'.gens/\Un (jK outer) [] H H' s.heap s'.heap/\HOk P w H' s'.heap/\RelV v u/\Q v H'
def CR(CX:WJ)(outer:List Env)(P:Program)(w:World)(H:Hp)(s:Shared)(Q:VK)(E:XK)(r:Result)(s':Shared):Prop:=
 match r with
 | .ok (.ret u)=>CE outer P w H s Q u s'
 | .ok _=>False
 | .error e=>CX outer H s E e s'
structure Ql(P:Program)(w:World)(K:Frag)(mg:Str->Option Value)(base:Heap)(CX:WJ)(k:Nat)(f:Addr)(fd:FuncData)(ps:List Str)(sp:Sp):Prop where
 len:∀vs H Q E,sp vs H Q E->vs.length=ps.length
 run:∀(A:Around)(outer:List Env)(s:Shared)(H:Hp)(args:Args)(us:List Value)(vs:List V)(Q:VK)(E:XK),Zm k A->zaM P w K mg base A outer s H->BindsTo s fd args (ps.zip us)->Vals vs us->sp vs H Q E->
  codeAny (model P w) A (.call (.ref f) args) (CR CX outer P w H s Q E) s
theorem Ql.mono{P:Program}{w:World}{K:Frag}{mg:Str->Option Value}{base:Heap}{CX:WJ}{j k:Nat}{f:Addr}{fd:FuncData}{ps:List Str}{sp:Sp}(F:Ql P w K mg base CX j f fd ps sp)(h:j<=k) :
 Ql P w K mg base CX k f fd ps sp:=⟨F.len,fun A outer s H args us vs Q E hr=>F.run A outer s H args us vs Q E (hr.mono h)⟩
theorem zaM.make{P:Program}{w:World}{K:Frag}{mg:Str->Option Value}{base:Heap}{A:Around}{outer:List Env}{s:Shared}{H:Hp}(e:zaM P w K mg base A outer s H)(C:Addr)(us:List Value)(kw:List (Str×Value)) :
 zaM P w K mg base (A.under (.builtin "type.__call__" ⟨.ref C::us,kw⟩)) outer s H:=⟨by first | exact e.frames | (simpa[Around.under,Code.envs,Code.isFrame,pushEnvs]using e.frames),e.mod,e.bs,e.bsz,e.zau,e.frf,e.hok,e.bare⟩
section
variable{X:Cx}{pins:List (Addr×Obj)}{σ:St}{H:Hp}{s s':Shared}
theorem Inv.env0(I:Inv X pins σ H s):zaM X.prog X.w X.K X.mg X.base X.A X.stack s H:=
 ⟨I.ok.frames,I.ok.mod,I.bs,Nat.le_trans I.ok.bsz I.sz,I.stack,I.zaX,I.hok,I.bare⟩
theorem Inv.after{Q:VK}{u:Value}(I:Inv X pins σ H s)(h:CE X.stack X.prog X.w H s Q u s'):EP X pins σ Q u s':=by obtain⟨v,H',os,bare,un,hok,r,q⟩:=h;obtain⟨hh,g,d,t,os'⟩:=s';obtain rfl:os'=s.os:=os;exact⟨v,H',I.call (h':=hh) (g':=g) (d':=d) (t':=t) (ch:=[]) un hok bare (fun b z=>absurd z (by simp)),r,q⟩
end
noncomputable def j0(sp:Sp)(Np:List V)(E:XK)(t:TA):TE:=fun σ H Q=>t σ H fun vs H1=>sp (vs++Np) H1 Q E
def Z6(C:Addr)(m:Str)(sp:Sp)(Np:List V)(E:XK)(ta:TE)(t:TA):TE:=fun σ H Q=>ta σ H fun x H1=>∃a dx fs,x=.ref a/\H1 a=some (.ins C dx fs)/\fs.lookup m=none/\
 t σ H1 fun vs H2=>sp (x::(vs++Np)) H2 Q E
def Y6(C:Addr)(sp:Sp)(Np:List V)(E:XK)(t:TA):TE:=fun σ H Q=>t σ H fun vs H1=>∀x dx,H1 x=none->H1 dx=none->dx≠x->
 sp (.ref x::(vs++Np)) (KB (KB H1 dx (.own x)) x (.ins C dx [])) (fun v H2=>v=.non/\Q (.ref x) H2) E
noncomputable def Binds(K:Frag)(fd:FuncData)(ps:List Str)(ds:List Value):Prop:=
 ∀(s:Shared)(us:List Value),K.In s.heap->(us++ds).length=ps.length->BindsTo s fd ⟨us,[]⟩ (ps.zip (us++ds))
theorem Binds.all{K:Frag}{fd:FuncData}{ps:List Str}(h:∀us:List Value,us.length=ps.length->bindArgs fd ⟨us,[]⟩=pure (ps.zip us)):Binds K fd ps []:=fun s us _ hl=>by rw[zf3]at hl ⊢;exact .of_eq (h us hl)
def vI(CX:WJ)(X:Cx)(E:XK):Prop:=∀(pins:List (Addr×Obj))(σ:St)(H:Hp)(s:Shared)(e:Value)(s':Shared),Inv X pins σ H s->CX X.stack H s E e s'->X.xe e s'
section
variable{X:Cx}{CX:WJ}{k:Nat}{f C:Addr}{fd:FuncData}{ps:List Str}{sp:Sp}{Np:List V}{ds:List Value}{E:XK}{x m:Str}{p pos apos:Pos}{e o:Expr}{es:List Expr}{ta:TE}{t:TA}
theorem iU{pins:List (Addr×Obj)}{σ:St}{H:Hp}{s:Shared}{Q:VK}{us:List Value}{vs:List V}(F:Ql X.prog X.w X.K X.mg X.base CX k f fd ps sp)(hr:Zm k X.A)(hb:Binds X.K fd ps ds)(hd:Vals Np ds)(hx:vI CX X E)
 (I:Inv X pins σ H s) (r:Vals vs us) (h:sp (vs++Np) H Q E):wpAny (model X.prog X.w) X.A (call (.ref f) us) (EP X pins σ Q) X.xe s:=by
 have r2:Vals (vs++Np) (us++ds):=r.append hd;have hl:(us++ds).length=ps.length:=by rw[<- r2.length];exact F.len _ _ _ _ h
 refine wpAny_call (codeAny_mono (F.run X.A X.stack s H ⟨us,[]⟩ (us++ds) (vs++Np) Q E hr I.env0 (hb s us I.kIn hl) r2 h) fun r s' hq=>?_);cases r with
 | error e=>exact hx pins σ H s e s' I hq
 | ok fl=>
  cases fl with
  | ret u=>exact I.after hq
  | next=>exact False.elim hq
  | brk=>exact False.elim hq
  | cont=>exact False.elim hq
theorem Bk(F:Ql X.prog X.w X.K X.mg X.base CX k f fd ps sp)(hr:Zm k X.A)(hg:Gl X x)(hm:X.mg x=some (.ref f))(hk:keepIn X.K (.ref f)=true)(hb:Binds X.K fd ps ds)(hd:Vals Np ds)(hx:vI CX X E)
 (ha:PA X (e::es) t) (hdb:(x==("__debug__" :Str))=false:=by decide) (he:starEach (e::es) X.env=(false,eval e X.env)::starEach es X.env:=by rfl) (hpl:(backTo pos (starEach es X.env)).any (·.1)=false:=by rfl) :
 PE X (.Call (.Name x p) (e::es) [] pos) (j0 sp Np E t):=by
 intro pins s σ H Q I h;refine wpAny_Call_Name_kw (qO I hg hm ?_ hdb);refine PySem.W.callWith_K (h₀:=X.base) I.ok.mod.kin hk (HB (ha pos pins s σ H _ I h) fun us s1 ⟨vs,H1,I1,r,q⟩=>⟨I1.kIn,?_⟩) he hpl;exact iU F hr hb hd hx I1 r q
theorem Vz(F:Ql X.prog X.w X.K X.mg X.base CX k f fd ps sp)(hr:Zm k X.A)(hg:Gl X x)(hm:X.mg x=some (.ref f))(hk:keepIn X.K (.ref f)=true)(hb:Binds X.K fd ps ds)(hd:Vals Np ds)(hx:vI CX X E)
 (hdb:(x==("__debug__" :Str))=false:=by decide):PE X (.Call (.Name x p) [] [] pos) (j0 sp Np E ZP):=by
 intro pins s σ H Q I h;refine wpAny_Call_Name_kw (qO I hg hm ?_ hdb);exact PySem.W.callWith_K0 I.kIn hk (iU (us:=[]) F hr hb hd hx I .nil h)
theorem Gk{pl:Sem Bool}(he:PE X o ta)(c:Cls X.K C)(hm:cK X.K C m f)(F:Ql X.prog X.w X.K X.mg X.base CX k f fd ps sp)(hr:Zm k X.A)(hb:Binds X.K fd ps ds)(hd:Vals Np ds)(hx:vI CX X E)(ha:PA X (e::es) t)
 (hst:starEach (e::es) X.env=(false,eval e X.env)::starEach es X.env:=by rfl) (hpl:(backTo pos (starEach es X.env)).any (·.1)=false:=by rfl)
 (ht:eval (.Call (.Attribute o m apos) (e::es) [] pos) X.env=(do
  let ov <- eval o X.env
  standAt apos.atName
  let (f,first) <- holding [ov] (getMethod ov m pl)
  callWith pos f first (backTo pos (starEach (e::es) X.env)) (backToKw pos (keywordEach [] X.env))):=by rfl) :
 PE X (.Call (.Attribute o m apos) (e::es) [] pos) (Z6 C m sp Np E ta t):=by
 intro pins s σ H Q I h;refine PySem.W.methodCall_KW (pl:=pl) (HB (he pins s σ H _ I h) fun u s1 zz=>?_) ht;obtain⟨x,H1,I1,rx,a,dx,fs,ex,ea,l,q⟩:=zz;subst ex;obtain rfl:u=Value.ref a:=rx;refine iW I1 ea c hm l ?_;refine PySem.W.callWith_K (first:=[.ref a]) (h₀:=X.base) I.ok.mod.kin hm.kp (HB (ha pos pins s1 σ H1 _ I1 q) fun us s2 ⟨vs,H2,I2,r,q2⟩=>⟨I2.kIn,?_⟩) hst hpl;exact iU (us:=.ref a::us) (vs:=.ref a::vs) F hr hb hd hx I2 (.cons rfl r) q2
structure Mk(K:Frag)(C f:Addr):Prop where
 makes:PySem.W.makesIn K C=true
 init:findIn K (.ref C) "__init__" =some (some (.ref f))
 fn:PySem.W.isFn K (.ref f)=true
 kp:keepIn K (.ref C)=true
theorem Lz{pins:List (Addr×Obj)}{σ:St}{H:Hp}{s:Shared}{Q:VK}{us:List Value}{vs:List V}(M:Mk X.K C f)(F:Ql X.prog X.w X.K X.mg X.base CX k f fd ps sp)(hr:Zm (k+1) X.A)(hb:Binds X.K fd ps ds)(hd:Vals Np ds)
 (hx:vI CX X E) (I:Inv X pins σ H s) (r:Vals vs us)
 (h:∀x dx,H x=none->H dx=none->dx≠x->sp (.ref x::(vs++Np)) (KB (KB H dx (.own x)) x (.ins C dx [])) (fun v H2=>v=.non/\Q (.ref x) H2) E) :
 wpAny (model X.prog X.w) X.A (call (.ref C) us) (EP X pins σ Q) X.xe s:=by
 have hq:=h (s.heap.objs.size+1) s.heap.objs.size (I.hok.fresh (Nat.le_succ _)) (I.hok.fresh (zf1 _)) (Nat.ne_of_lt (Nat.lt_succ_self _));have I2:=Inv.made (C:=C) I;have r2:Vals (V.ref (s.heap.objs.size+1)::(vs++Np)) (Value.ref (s.heap.objs.size+1)::(us++ds)):=.cons rfl (r.append hd);have hl:(Value.ref (s.heap.objs.size+1)::us++ds).length=ps.length:=by have e:=r2.length;rw[F.len _ _ _ _ hq]at e;exact e.symm
 refine wpAny_call (Mz (f:=f) I.kIn M.makes M.init (beq_iff_eq.mp M.fn) (codeAny_mono (F.run _ X.stack _ _ ⟨Value.ref (s.heap.objs.size+1)::us,[]⟩ (Value.ref (s.heap.objs.size+1)::(us++ds)) _ _ E (hr.make C us [])
  (I2.env0.make C us []) (hb _ (Value.ref (s.heap.objs.size+1)::us) I2.kIn hl) r2 hq) fun r s' hq'=>?_))
 cases r with
 | error e=>exact hx pins σ _ _ e s' I2 hq'
 | ok fl=>
  cases fl with
  | ret u=>obtain⟨v,H',I3,rv,ev,q3⟩:=I2.after hq';subst ev;exact⟨rv,⟨V.ref (s.heap.objs.size+1),H',I3,rfl,q3⟩⟩
  | next=>exact False.elim hq'
  | brk=>exact False.elim hq'
  | cont=>exact False.elim hq'
theorem Ek(M:Mk X.K C f)(F:Ql X.prog X.w X.K X.mg X.base CX k f fd ps sp)(hr:Zm (k+1) X.A)(hg:Gl X x)(hm:X.mg x=some (.ref C))(hb:Binds X.K fd ps ds)(hd:Vals Np ds)(hx:vI CX X E)
 (ha:PA X (e::es) t) (hdb:(x==("__debug__" :Str))=false:=by decide) (he:starEach (e::es) X.env=(false,eval e X.env)::starEach es X.env:=by rfl) (hpl:(backTo pos (starEach es X.env)).any (·.1)=false:=by rfl) :
 PE X (.Call (.Name x p) (e::es) [] pos) (Y6 C sp Np E t):=by
 intro pins s σ H Q I h;refine wpAny_Call_Name_kw (qO I hg hm ?_ hdb);refine PySem.W.callWith_K (h₀:=X.base) I.ok.mod.kin M.kp (HB (ha pos pins s σ H _ I h) fun us s1 ⟨vs,H1,I1,r,q⟩=>⟨I1.kIn,?_⟩) he hpl;exact Lz M F hr hb hd hx I1 r q
end
section
variable{X:Cx}{CX:WJ}{k:Nat}{f C:Addr}{fd:FuncData}{ps ks:List Str}{sp:Sp}{E:XK}{x m:Str}{p pos apos kpos:Pos}{e o:Expr}{es:List Expr}{kws:List Keyword}{te ta:TE}{t tk:TA}{nm:Option Str}
variable{g:List Value->List Value->List Value}{gV:List V->List V->List V}
end
structure dB(N P:List Str)(sc:Scope):Prop where
 kind:sc.kind=.function
 co:sc.isCoroutine=false
 gen:sc.isGenerator=false
 nd:N.Nodup
 pre:N.take P.length=P
 par:∀x∈P,sc.names.lookup x=some .local\/sc.names.lookup x=some .cell
 zb2:∀y∈sc.names,y.2≠.free
theorem BW{kindOf:Str->Option NameKind}{x:Str}:∀{binds:List (Str×Value)}{m:Str->Option Value},(∀v,(x,v)∉binds)->bindL kindOf binds m x=m x
 | [],_,_=>rfl
 | (n,v)::r,m,h=>by
  unfold bindL;rw[BW fun w hw=>h w (mem_cons_of_mem _ hw)];split
  · have:x≠n:=by rintro rfl;exact h v mem_cons_self
    simp[this]
  · rfl
theorem zW{kindOf:Str->Option NameKind}{x:Str}:∀{binds:List (Str×Value)}{m:Str->Option Value},(∀v,(x,v)∉binds)->bindC kindOf binds m x=m x
 | [],_,_=>rfl
 | (n,v)::r,m,h=>by
  unfold bindC;rw[zW fun w hw=>h w (mem_cons_of_mem _ hw)];split
  · rfl
  · have:x≠n:=by rintro rfl;exact h v mem_cons_self
    simp[this]
theorem AW{kindOf:Str->Option NameKind}{x:Str}{v:Value}:∀{P:List Str}{vs:List Value}{i:Nat}{m:Str->Option Value},P.Nodup->P[i]?=some x->vs[i]?=some v->kindOf x=some .local->
 bindL kindOf (P.zip vs) m x=some v
 | [],_,_,_,_,h,_,_=>by simp at h
 | _::_,[],_,_,_,_,h,_=>by simp at h
 | p::P,w::vs,0,m,nd,h1,h2,hk=>by simp at h1 h2;subst h1;subst h2;show bindL kindOf ((p,w)::P.zip vs) m p=_;unfold bindL;rw[BW fun v hv=>(nodup_cons.mp nd).1 (of_mem_zip hv).1,if_pos hk];simp
 | p::P,w::vs,i+1,m,nd,h1,h2,hk=>by show bindL kindOf ((p,w)::P.zip vs) m x=_;unfold bindL;exact AW (i:=i) (nodup_cons.mp nd).2 (by simpa using h1) (by simpa using h2) hk
theorem yW{kindOf:Str->Option NameKind}{x:Str}{v:Value}:∀{P:List Str}{vs:List Value}{i:Nat}{m:Str->Option Value},P.Nodup->P[i]?=some x->vs[i]?=some v->kindOf x≠some .local->
 bindC kindOf (P.zip vs) m x=some v
 | [],_,_,_,_,h,_,_=>by simp at h
 | _::_,[],_,_,_,_,h,_=>by simp at h
 | p::P,w::vs,0,m,nd,h1,h2,hk=>by simp at h1 h2;subst h1;subst h2;show bindC kindOf ((p,w)::P.zip vs) m p=_;unfold bindC;rw[zW fun v hv=>(nodup_cons.mp nd).1 (of_mem_zip hv).1,if_neg hk];simp
 | p::P,w::vs,i+1,m,nd,h1,h2,hk=>by show bindC kindOf ((p,w)::P.zip vs) m x=_;unfold bindC;exact yW (i:=i) (nodup_cons.mp nd).2 (by simpa using h1) (by simpa using h2) hk
noncomputable def HF(N:List Str)(vs:List V):St:=vs.map some++List.replicate (N.length-vs.length) none
noncomputable def AF(CX:WJ)(P:Program)(w:World)(K:Frag)(mg:Str->Option Value)(base:Heap)(N:List Str)(qual:Str)(scope:Scope)(f:Addr)(cd:Value)(A:Around)(outer:List Env)(s:Shared)(H:Hp)(E:XK):Cx where
 prog:=P
 w:=w
 K:=K
 mg:=mg
 base:=base
 A:=A.deeper (envOfC qual scope s.heap.objs.size f cd)
 N:=N
 s₀:=s
 H₀:=H
 env:=envOfC qual scope s.heap.objs.size f cd
 outer:=outer
 stack:=envOfC qual scope s.heap.objs.size f cd::outer
 ex:=[]
 calm:=true
 fn:=fun _=>true
 pn:=[]
 xe:=fun e s'=>wpAny (model P w) (A.deeper (envOfC qual scope s.heap.objs.size f cd)) (leaving (envOfC qual scope s.heap.objs.size f cd) e) (fun _ s''=>CX outer H s E e s'') (fun e' s''=>CX outer H s E e' s'') s'
theorem FX{sc:Scope}{n:Nat}{x:Str}(h:sc.names.lookup x=some .cell):∃c,(cellsFrom n sc.names []).lookup x=some c:=by have q:=PySem.W.cellsFrom_some sc.names n [] (.inl h);exact Option.isSome_iff_exists.mp q
theorem Rj{CX:WJ}{P:Program}{w:World}{K:Frag}{mg:Str->Option Value}{base:Heap}{N ps:List Str}{qual:Str}{scope:Scope}{f:Addr}{cd:Value}{A:Around}{outer:List Env}{s s1:Shared}{H:Hp}{E:XK}{us:List Value}{vs:List V}
 (S:dB N ps scope) (hd:A.handled=none) (e0:zaM P w K mg base A outer s H) (hl:vs.length=ps.length) (r:Vals vs us)
 (x:InCallC s s.heap.objs.size (bindL (envOfC qual scope s.heap.objs.size f cd).kindOf (ps.zip us) fun _=>none) (cellsFrom (s.heap.objs.size+1) scope.names []) (bindC (envOfC qual scope s.heap.objs.size f cd).kindOf (ps.zip us) fun _=>none) s1) :
 Inv (AF CX P w K mg base N qual scope f cd A outer s H E) [] (HF N vs) H s1:=by
 have hpl:ps.length<=N.length:=by have:=congrArg List.length S.pre;rw[length_take]at this;omega
 obtain⟨h1,tk,rfl,hk⟩:=x.done;have noA:∀b:Addr,b∉(AF CX P w K mg base N qual scope f cd A outer s H E).ex:=fun b z=>absurd (show b∈([]:List Addr)from z) (by simp)
 refine⟨⟨e0.mod,S.kind,rfl,rfl,zf1 _,fun y z c h1 h2=>?_,fun y hy=>?_,fun y c _ h=>?_,fun _=>hd,Around.frames_deeper e0.frames,.inr ⟨rfl,rfl⟩,fun b z=>absurd z (noA b),e0.bs,e0.bsz,fun b _ _=>noA b,fun b z=>absurd z (noA b),e0.zau,e0.frf⟩,
  rfl,e0.bare,Un.kept hk,⟨_,x.toInCall.ns,fun i y v h1 h2 h3=>?_⟩,fun y c h=>⟨_,x.cell y c h⟩,e0.hok.fresh (zf1 _),fun y c h=>?_,fun p hp=>absurd (show p∈([]:List (Addr×Obj))from hp) (by simp),e0.hok.kept hk,?_⟩
 · exact name_of_addr x.apart (PySem.mem_of_lookup h1) (PySem.mem_of_lookup h2)
 · have hy:scope.names.lookup y=some .cell\/scope.names.lookup y=some .free:=hy;rcases hy with hy | hy
   · exact FX hy
   · exact absurd rfl (S.zb2 _ (PySem.mem_of_lookup hy))
 · exact Nat.le_of_lt (x.above y c (PySem.mem_of_lookup h))
 · have hi:i<vs.length:=by
    unfold HF at h2;by_cases hi:i<vs.length
    · exact hi
    · rw[zf2 (by simpa using hi)]at h2;rw[getElem?_replicate]at h2;split at h2<;>cases h2
   have ha:vs[i]?=some v:=by
    unfold HF at h2;rw[zfZ (by simpa using hi),getElem?_map]at h2;cases e:vs[i]? with
    | none=>rw[e]at h2;cases h2
    | some a=>rw[e]at h2;cases h2;rfl
   obtain⟨u,hu,rv⟩:=r.get ha;have hp:ps[i]?=some y:=by rw[<- S.pre,getElem?_take_of_lt (by omega)];exact h1
   have ndP:ps.Nodup:=by rw[<- S.pre];exact S.nd.sublist (take_sublist _ _)
   refine⟨u,rv,?_⟩;rcases S.par y (mem_of_getElem? hp)with k | k
   · exact .inl ⟨k,AW ndP hp hu k⟩
   · obtain⟨c,e⟩:=FX (n:=s.heap.objs.size+1) k;refine .inr ⟨.inl k,c,e,?_⟩;have q:=x.cell y c e;rw[yW ndP hp hu (by show scope.names.lookup y≠_;rw[k];decide)]at q;exact q
 · exact e0.hok.fresh (Nat.le_of_lt (x.above y c (PySem.mem_of_lookup h)))
 · unfold HF;show _=N.length;rw[length_append,length_map,length_replicate];omega
theorem MZ{CX:WJ}{P:Program}{w:World}{K:Frag}{mg:Str->Option Value}{base:Heap}{k:Nat}{f:Addr}{name qual:Str}{params:Arguments}{body:List Stmt}{scope:Scope}{dV kV doc pm cdv ct oc:Value}{an od:Option Addr}
 {osl:Array (Option Value)} {N ps:List Str} {sp:Sp} (lk:K.lookup f=some ⟨oc,od,.func (fnOf name qual params body scope dV kV doc pm an cdv ct),osl⟩) (hcd:PySem.W.codeIn K cdv qual=true) (S:dB N ps scope)
 (len:∀vs H Q E,sp vs H Q E->vs.length=ps.length)
 (hbody:∀(A:Around)(outer:List Env)(s:Shared)(H:Hp)(vs:List V)(Q:VK)(E:XK),Zm k (A.deeper (envOfC qual scope s.heap.objs.size f cdv))->sp vs H Q E->
  ∃t,PSs (AF CX P w K mg base N qual scope f cdv A outer s H E) body t/\t { nx:=fun _ H'=>Q .non H',rt:=Q } (HF N vs) H) :
 Ql P w K mg base CX (k+1) f (fnOf name qual params body scope dV kV doc pm an cdv ct) ps sp:=by
 refine⟨len,fun A outer s H args us vs Q E hr e0 hb r hsp=>?_⟩;have hl:=len _ _ _ _ hsp;have KX:K.In s.heap:=e0.mod.kin.keeps fun b o e=>(e0.bs b o e).1
 have lim:s.heap.NoLimit:=e0.mod.nolimit.keeps fun b o e=>(e0.bs b o e).1
 have hkind:∀y∈ps.zip us,scope.names.lookup y.1=some .local\/(scope.names.lookup y.1=some .cell/\((cellsFrom (s.heap.objs.size+1) scope.names []).lookup y.1).isSome=true):=fun zz hy=>by
  obtain⟨n,v⟩:=zz;rcases S.par n (of_mem_zip hy).1 with q | q
  · exact .inl q
  · exact .inr ⟨q,PySem.W.cellsFrom_some _ _ _ (.inl q)⟩
 refine codeAny_call_function hr.depth (KX _ _ lk) rfl S.co S.gen rfl (PySem.W.codeRec_of KX hcd) (hb _ _ _ _ ?_);refine wpAny_newFunctionEnv_cells S.kind hkind fun env he s1 x=>?_
 subst he;refine⟨lim.keeps x.toInCall.keep,codeAny_func ?_⟩;obtain⟨t,ht,hq⟩:=hbody A outer s H vs Q E (hr.deeper _) hsp;have I:Inv (AF CX P w K mg base N qual scope f cdv A outer s H E) [] (HF N vs) H s1:=Rj S hr.hd e0 hl r x;refine wpAny_mono (ht [] s1 (HF N vs) H _ I hq) (fun fl s' hs=>?_) fun e s' hs=>hs
 have fin:∀{σ':St}{H':Hp}{v:V}{u:Value},Inv (AF CX P w K mg base N qual scope f cdv A outer s H E) [] σ' H' s'->RelV v u->Q v H'->CE outer P w H s Q u s':=
  fun {σ' H' v u} J rv q=>⟨v,H',J.os,J.bare,J.base,J.hok,rv,q⟩
 cases fl with
 | ret u=>obtain⟨v,σ',H',J,rv,q⟩:=hs;exact fin J rv q
 | next=>obtain⟨σ',H',J,q⟩:=hs;exact fin (v:=V.non) (u:=Value.none) J rfl q
 | brk=>obtain⟨_,_,_,q⟩:=hs;exact False.elim q
 | cont=>obtain⟨_,_,_,q⟩:=hs;exact False.elim q
section
variable{X:Cx}{x:Str}{p pos:Pos}{e:Expr}{es:List Expr}{t:TA}{id T:String}{r:List V->Hp->VK->Prop}
noncomputable def Sd(r:List V->Hp->VK->Prop)(t:TA):TE:=fun σ H Q=>t σ H fun vs H1=>r vs H1 Q
theorem ZN (hc:Hl X (.builtin id) r) (hg:Gl X x) (hm:X.mg x=none) (hv:bootBuiltins x=some (.builtin id)) (ha:PA X (e::es) t) (hn:x ≠ "__name__" :=by decide) (hdb:(x==("__debug__" :Str))=false:=by decide)
 (he:starEach (e::es) X.env=(false,eval e X.env)::starEach es X.env:=by rfl) (hpl:(backTo pos (starEach es X.env)).any (·.1)=false:=by rfl):PE X (.Call (.Name x p) (e::es) [] pos) (Sd r t):=by
 intro pins s σ H Q I h;refine wpAny_Call_Name_kw (EH I hg hm hv ?_ hn hdb);exact PyProof.Rows.callWith_builtin1 (HB (ha pos pins s σ H _ I h) fun us s1 ⟨vs,H1,I1,r1,q1⟩=>hc pins s1 σ H1 vs us Q I1 r1 q1) he hpl
theorem Ux (hc:Hl X (.type T) r) (hg:Gl X x) (hm:X.mg x=none) (hv:bootBuiltins x=some (.type T)) (ha:PA X (e::es) t) (hn:x ≠ "__name__" :=by decide) (hdb:(x==("__debug__" :Str))=false:=by decide)
 (he:starEach (e::es) X.env=(false,eval e X.env)::starEach es X.env:=by rfl) (hpl:(backTo pos (starEach es X.env)).any (·.1)=false:=by rfl):PE X (.Call (.Name x p) (e::es) [] pos) (Sd r t):=by
 intro pins s σ H Q I h;refine wpAny_Call_Name_kw (EH I hg hm hv ?_ hn hdb);exact PyProof.Rows.callWith_type1 (HB (ha pos pins s σ H _ I h) fun us s1 ⟨vs,H1,I1,r1,q1⟩=>hc pins s1 σ H1 vs us Q I1 r1 q1) he hpl
end
end L2
namespace HT
section
open PySem.SeqAt
open PySem.AutoSeq1 (wpAny_loadPart')
open PySem.MeetsSeq PySem.MeetsSeq2 PySem.MeetsSeq3
end
section
variable{prog:Program}{w:World}{A:Around}{E:Value->Shared->Prop}{s:Shared}
theorem zbz{t b:Addr}{vs ws:List Value}{Q:Value->Shared->Prop}(ht:IsTup s.heap t vs.toArray)(hb:IsTup s.heap b ws.toArray)(hv:vs ≠ [])
 (h1:ws=[]->Q (.ref t) s) (h2:ws ≠ []->Q (.ref s.heap.objs.size) { s with heap:=s.heap.push { cls:=.type "tuple",data:=.seq (vs++ws).toArray } })
 (hsz:vs.length+ws.length<=sizeLine):wpAny (model prog w) A (binaryOp .Add (.ref t) (.ref b)) Q E s:=by
 obtain⟨⟨cls,dd,data,sl⟩,ho,hc,n,hd⟩:=id ht;obtain⟨⟨cls2,dd2,data2,sl2⟩,ho2,hc2,n2,hd2⟩:=id hb;simp only at hc hd hc2 hd2;subst hc hd hc2 hd2;have e:vs.toArray++ws.toArray=(vs++ws).toArray:=by simp
 by_cases hw:ws=[]
 · exact concat_meets ⟨_,ho,rfl⟩ ⟨_,ho2,rfl⟩ noFill_tuple_add seq_tuple_add PySem.F.slot_tuple_add PySem.F.entry_tuple_add (PySem.F.args_tuple_add_2 _ _)
    (tuple_addW1 t b vs.toArray ws.toArray n n2 dd dd2 sl sl2 (by simpa using hv) (by simp[hw])) ⟨ho,ho2,h1 hw⟩
 · refine concat_meets ⟨_,ho,rfl⟩ ⟨_,ho2,rfl⟩ noFill_tuple_add seq_tuple_add PySem.F.slot_tuple_add PySem.F.entry_tuple_add (PySem.F.args_tuple_add_2 _ _)
    (tuple_addW2 t b vs.toArray ws.toArray n n2 dd dd2 sl sl2 (by simpa using hv) (by simpa using hw) (by rw[size_toArray,size_toArray];exact hsz)) ⟨ho,ho2,?_⟩
   rw[e];exact h2 hw
noncomputable def sIx(n d:Nat):Option Int->Nat
 | none=>d
 | some v=>if v<0 then(v+(n:Int)).toNat else min v.toNat n
end
end HT
namespace L2
abbrev TO:=St->Hp->(Option Int->Hp->Prop)->Prop
def PO(X:Cx)(e:Option Expr)(t:TO):Prop:=
 ∀(pins:List (Addr×Obj))(s:Shared)(σ:St)(H:Hp)(Q:Option Int->Hp->Prop),Inv X pins σ H s->t σ H Q->
  wpAny (model X.prog X.w) X.A (evalPart e X.env) (fun u s'=>∃o H',Inv X pins σ H' s'/\IsPart u o/\Q o H') X.xe s
noncomputable def Ht:TO:=fun _ H Q=>Q none H
noncomputable def f7(t:TE):TO:=fun σ H Q=>t σ H fun x H1=>∃i,x=.int i/\Q (some i) H1
theorem qN{ns:List Int}:∀{us:List Value},Vals (ns.map V.int) us->IntsAre us ns:=by
 induction ns with
 | nil=>intro us r;rw[zfR]at r;cases r;exact .nil
 | cons n ns ih=>
  intro us r;rw[zfQ]at r;cases r with
  | cons r1 r2=>obtain⟨t,e⟩:=r1;subst e;exact .cons n t (ih r2)
section
variable{X:Cx}{e:Expr}{te:TE}{lo hi:Option Expr}{tl th:TO}{pos p2:Pos}
theorem Nk:PO X none Ht:=by intro pins s σ H Q I h;rw[evalPart_none];exact wpAny_pure ⟨none,H,I,.none,h⟩
theorem Pk(h:PE X e te):PO X (some e) (f7 te):=by
 intro pins s σ H Q I hw;rw[evalPart_some];refine HB (h pins s σ H _ I hw) fun u s1 zz=>?_
 obtain⟨x,H1,I1,r1,q1⟩:=zz;obtain⟨i,rfl,q⟩:=q1;obtain⟨t,rfl⟩:=r1;exact⟨some i,H1,I1,.int i t,q⟩
def jd(X:Cx)(r:V->Option Int->Option Int->Hp->VK->Prop):Prop:=
 ∀(pins:List (Addr×Obj))(s:Shared)(σ:St)(H:Hp)(x:V)(v vl vu:Value)(lo hi:Option Int)(sl:Addr)(Q:VK),Inv X pins σ H s->RelV x v->s.heap.IsSliceOf sl vl vu .none->IsPart vl lo->IsPart vu hi->r x lo hi H Q->
  ∃T id,typeLookup (.type T) "__getitem__" =pure (some (.builtin id))/\s.TypeIs v T/\wpAny (model X.prog X.w) X.A (getItem v (.ref sl)) (EP X pins σ Q) X.xe s
noncomputable def Uc(r:V->Option Int->Option Int->Hp->VK->Prop)(te:TE)(tl th:TO):TE:=fun σ H Q=>te σ H fun x H1=>tl σ H1 fun l H2=>th σ H2 fun u H3=>r x l u H3 Q
theorem Av{r:V->Option Int->Option Int->Hp->VK->Prop}(hr:jd X r)(he:PE X e te)(hl:PO X lo tl)(hu:PO X hi th):PE X (.Subscript e (.Slice lo hi none p2) pos) (Uc r te tl th):=by
 intro pins s σ H Q I h;refine Subscript_ (HB (he pins s σ H _ I h) fun v s1 zz=>?_);obtain⟨x,H1,I1,r1,q1⟩:=zz;refine wpAny_Slice (HB (hl pins s1 σ H1 _ I1 q1) fun vl s2 ⟨l,H2,I2,pl,q2⟩=>HB (hu pins s2 σ H2 _ I2 q2) fun vu s3 zz=>?_);obtain⟨u,H3,I3,pu,q3⟩:=zz;rw[evalPart_none];refine wpAny_pure ?_;have I4:Inv X pins σ H3 { s3 with heap:=s3.heap.push { cls:=.type "slice",data:=.fields #[vl,vu,.none] } }:=I3.kept (t':=s3.toks) fun b ob q=>Heap.get?_push_of_some _ q
 obtain⟨T,id,hT,ht,hg⟩:=hr pins { s3 with heap:=s3.heap.push { cls:=.type "slice",data:=.fields #[vl,vu,.none] } } σ H3 x v vl vu l u s3.heap.objs.size Q I4 r1 (Heap.IsSliceOf.new ..) pl pu q3;show wpAny (model X.prog X.w) X.A (subscriptTail e (.Slice lo hi none p2) v (.ref s3.heap.objs.size)) (EP X pins σ Q) X.xe { s3 with heap:=s3.heap.push { cls:=.type "slice",data:=.fields #[vl,vu,.none] } };exact tail_any (ops:=[.ref s3.heap.objs.size,v]) ht hT hg (by with_unfolding_all rfl)
def VI(xs:List V)(lo hi:Option Int):List V:=(xs.drop (HT.sIx xs.length 0 lo)).take (HT.sIx xs.length xs.length hi-HT.sIx xs.length 0 lo)
theorem Q8(xs:List V)(lo hi:Option Int):(VI xs lo hi).length<=xs.length:=by unfold VI;rw[length_take,length_drop];omega
def Y4(K:Frag):R2:=fun x y H Q=>∃a b xs ys,x=.ref a/\y=.ref b/\NI K H a xs/\NI K H b ys/\xs ≠ []/\xs.length+ys.length<=sizeLine/\
 (ys=[]->Q (.ref a) H)/\(ys ≠ []->∀p,H p=none->Q (.ref p) (KB H p (.tup (xs++ys))))
theorem Vals.zaG{xs:List V}{us:List Value}(r:Vals xs us):us=[]↔xs=[]:=by
 cases r with
 | nil=>simp
 | cons _ _=>simp
theorem Ly:vp X (binaryOp .Add) (Y4 X.K):=by intro pins s σ H x y v u Q I rx ry h;obtain⟨a,b,xs,ys,rfl,rfl,ha,hb,hx,hz,q1,q2⟩:=h;cases rx;cases ry;obtain⟨its,r1,p1,_⟩:=I.tuple ha;obtain⟨its2,r2,p2,_⟩:=I.tuple hb;refine HT.zbz p1 p2 (fun z=>hx (r1.zaG.mp z)) (fun z=>⟨.ref a,H,I,rfl,q1 (r2.zaG.mp z)⟩) (fun z=>?_) (by rw[<- r1.length,<- r2.length];exact hz);refine⟨.ref s.heap.objs.size,_,I.laid (t':=s.toks) (o:=.tup (xs++ys)) (fun b ob q=>Heap.get?_push_of_some _ q) (zf1 _) ?_,rfl,q2 (fun w=>z (r2.zaG.mpr w)) _ (I.hok.fresh (zf1 _))⟩;exact⟨by rw[length_append];exact hz,_,r1.append r2,IsTup.new _ _⟩
end
noncomputable def QI(n:Nat)(i:Int):Option Nat:=if 0<=i then(if i<n then some i.toNat else none)else if -(n:Int)<=i then some (i+n).toNat else none
def Gp{α:Type}(xs:List α)(i:Int):Option α:=(QI xs.length i).bind fun j=>xs[j]?
theorem AY{n:Nat}{i:Int}{j:Nat}(h:QI n i=some j):seqIndex? i n=some j/\j<n/\-(n:Int)<=i/\i<n:=by
 unfold QI at h;by_cases h0:0<=i
 · rw[if_pos h0]at h;by_cases h1:i<n
   · rw[if_pos h1]at h;have e:i.toNat=j:=Option.some.inj h;exact⟨by rw[seqIndex_of h0 h1,e],by omega,by omega,h1⟩
   · rw[if_neg h1]at h;cases h
 · rw[if_neg h0]at h;by_cases h1:-(n:Int)<=i
   · rw[if_pos h1]at h;have e:(i+n).toNat=j:=Option.some.inj h;exact⟨by rw[seqIndex_neg (by omega) h1,e],by omega,h1,by omega⟩
   · rw[if_neg h1]at h;cases h
theorem cT{α:Type}{xs:List α}{i:Int}{v:α}(h:Gp xs i=some v):∃j,seqIndex? i xs.length=some j/\xs[j]?=some v/\j<xs.length/\-(xs.length:Int)<=i/\i<xs.length:=by
 unfold Gp at h;cases e:QI xs.length i with
 | none=>rw[e]at h;cases h
 | some j=>rw[e]at h;obtain⟨h1,h2,h3,h4⟩:=AY e;exact⟨j,h1,h,h2,h3,h4⟩
theorem OD{α:Type}{xs:List α}{j:Nat}{v:α}(h:xs[j]?=some v):Gp xs (j:Int)=some v:=by
 have hj:j<xs.length:=(zfY h).1;have e:QI xs.length (j:Int)=some j:=by unfold QI;rw[if_pos (by omega),if_pos (by omega)];simp
 unfold Gp;rw[e];exact h
noncomputable def WX(b:Expr):Prop:=∀o i,subscripted b false o i=operate [o,i] (getItem o i)
def IxR(X:Cx)(r:R2):Prop:=
 ∀(value slice:Expr)(pins:List (Addr×Obj))(s:Shared)(σ:St)(H:Hp)(x y:V)(v u:Value)(Q:VK),Inv X pins σ H s->RelV x v->RelV y u->r x y H Q->
  subscripted slice false v u=operate [v,u] (getItem v u)->wpAny (model X.prog X.w) X.A (subscriptTail value slice v u) (EP X pins σ Q) X.xe s
def Z1(X:Cx)(id:String)(r:V->List V->Hp->VK->Prop):Prop:=
 ∀(pins:List (Addr×Obj))(s:Shared)(σ:St)(H:Hp)(x:V)(xs:List V)(v:Value)(us:List Value)(Q:VK),Inv X pins σ H s->RelV x v->Vals xs us->r x xs H Q->
  wpAny (model X.prog X.w) X.A (call (.builtin id) (v::us)) (EP X pins σ Q) X.xe s
section
variable{X:Cx}{a b:Expr}{ta tb:TE}{pos:Pos}
theorem IxR.or{r r':R2}(h:IxR X r)(h':IxR X r'):IxR X (fun x y H Q=>r x y H Q\/r' x y H Q):=by
 intro value slice pins s σ H x y v u Q I rx ry q hs;rcases q with q | q
 · exact h value slice pins s σ H x y v u Q I rx ry q hs
 · exact h' value slice pins s σ H x y v u Q I rx ry q hs
theorem g6{r:R2}(hr:IxR X r)(ha:PE X a ta)(hb:PE X b tb)(hs:WX b):PE X (.Subscript a b pos) (wV r ta tb):=by intro pins s σ H Q I h;exact Subscript_ (yP ha hb I h fun v u s2 x y H2 I2 rx ry q=>hr a b pins s2 σ H2 x y v u Q I2 rx ry q (hs _ _))
def qV(K:Frag):R2:=fun x y H Q=>∃p xs i v,x=.ref p/\y=.int i/\yp K H p xs/\Gp xs i=some v/\Q v H
def sV(K:Frag):R2:=fun x y H Q=>∃p xs i v,x=.ref p/\y=.int i/\NI K H p xs/\Gp xs i=some v/\Q v H
def rV:R2:=fun x y H Q=>∃z i c,x=.str z/\y=.int i/\z.length<=sizeLine/\Gp z.cps.toList i=some c/\Q (.str ⟨#[c]⟩) H
theorem zbB:IxR X (qV X.K):=by
 intro value slice pins s σ H x y v u Q I rx ry h hs;obtain⟨p,xs,i,z,rfl,rfl,hq,he,q⟩:=h;cases rx;obtain⟨t,rfl⟩:=ry;obtain⟨its,r,pl,hz⟩:=I.list hq;obtain⟨j,h1,h2,h3,h4,h5⟩:=cT he;obtain⟨w,ew,rw'⟩:=r.get h2;have hl:=r.length;have hn:=xI;have fin:EP X pins σ Q w s:=⟨z,H,I,rw',q⟩;by_cases h0:0<=i
 · have hj:i.toNat=j:=by rw[seqIndex_of h0 h5]at h1;exact Option.some.inj h1
   exact item_listR pl.isList h0 (by omega) (by rw[hj];simpa using ew) fin hs
 · have hj:(i+(its.toArray.size:Int)).toNat=j:=by rw[seqIndex_neg (by omega) h4]at h1;rw[size_toArray,<- hl];exact Option.some.inj h1
   exact subscriptTail_builtinR (x:=w) pl.isList.typeIs slot_list_getitem.lookup
    (wpAny_getItem_list_neg (Q:=fun r s'=>r=w/\EP X pins σ Q r s') pl.isList (by omega) (by rw[size_toArray]<;>omega) (by omega) (by rw[hj];simpa using ew) ⟨rfl,fin⟩) hs
theorem zbY:IxR X (sV X.K):=by
 intro value slice pins s σ H x y v u Q I rx ry h hs;obtain⟨p,xs,i,z,rfl,rfl,hq,he,q⟩:=h;cases rx;obtain⟨t,rfl⟩:=ry;obtain⟨its,r,pl,hz⟩:=I.tuple hq;obtain⟨j,h1,h2,h3,h4,h5⟩:=cT he;obtain⟨w,ew,rw'⟩:=r.get h2;have hl:=r.length;have hn:=xI;have fin:EP X pins σ Q w s:=⟨z,H,I,rw',q⟩;exact subscriptTail_builtinR (x:=w) pl.typeIs slot_tuple_getitem.lookup
  (getItem_tuple (j:=j) (Q:=fun r s'=>r=w/\EP X pins σ Q r s') pl (by omega) (by omega) (by rw[size_toArray,<- hl];exact h1) (by simpa using ew) ⟨rfl,fin⟩) hs
theorem Df:IxR X rV:=by
 intro value slice pins s σ H x y v u Q I rx ry h hs;obtain⟨z,i,c,rfl,rfl,hz,he,q⟩:=h;obtain⟨t,rfl⟩:=rx;obtain⟨t',rfl⟩:=ry;obtain⟨j,h1,h2,h3,h4,h5⟩:=cT he;have hl:z.cps.toList.length=z.length:=by simp[Str.length]
 rw[hl]at h1 h4 h5;have hn:=xI;exact tail_any (typeIs_str s z t) slot_str_getitem.lookup (getItem_str (c:=c) (by
  have e1:decide (i < -(2^63:Int))=false:=decide_eq_false (by omega);have e2:decide (i >=2^63)=false:=decide_eq_false (by omega);rw[e1,e2,Bool.or_false]) (by rw[h1];simpa using h2) ⟨.str ⟨#[c]⟩,H,I.tok _,⟨_,rfl⟩,q⟩) hs
def Qd(K:Frag):R2:=fun x y H Q=>qV K x y H Q\/sV K x y H Q\/rV x y H Q
theorem Bf:IxR X (Qd X.K):=zbB.or (zbY.or Df)
theorem Bj (its:List Value) (n j:Nat) (u:Value):Obj.mapSeq (·.setIfInBounds j u) { cls:=.type "list",data:=.seq its.toArray n }={ cls:=.type "list",data:=.seq (its.set j u).toArray n }:=by simp[Obj.mapSeq]
theorem Inv.lst{pins:List (Addr×Obj)}{σ:St}{H:Hp}{s:Shared}{p:Addr}{xs:List V}(I:Inv X pins σ H s)(h:H p=some (.lst xs)) :
 ∃(its:List Value) (n:Nat),Vals xs its/\s.heap.get? p=some { cls:=.type "list",data:=.seq its.toArray n }/\xs.length<=sizeLine:=by
 obtain⟨z,its,n,r,e⟩:=I.hok p _ h;exact⟨its,n,r,e,z⟩
theorem Inv.zb0{pins:List (Addr×Obj)}{σ:St}{H:Hp}{s:Shared}{p:Addr}{xs ys:List V}{its its':List Value}{n n':Nat}{f:Obj->Obj}(I:Inv X pins σ H s)(h:H p=some (.lst xs))
 (ho:s.heap.get? p=some { cls:=.type "list",data:=.seq its.toArray n }) (hf:f { cls:=.type "list",data:=.seq its.toArray n }={ cls:=.type "list",data:=.seq its'.toArray n' }) (r:Vals ys its') (hz:ys.length<=sizeLine) (t:Nat) :
 Inv X pins σ (KB H p (.lst ys)) { s with heap:=s.heap.update p f,toks:=t }:=by
 have e:(s.heap.update p f).get? p=some { cls:=.type "list",data:=.seq its'.toArray n' }:=by rw[Heap.get?_update_self f ho (by rw[hf]<;>rfl),hf]
 refine I.write (x:=p) (e:=p) (by rw[h];trivial) (.inl rfl) (fun b u hb q=>(Heap.get?_update_other _ _ (Ne.symm hb)).trans q) ⟨_,e⟩ ?_;exact⟨hz,its',n',r,e⟩
def g5:V->V->V->Hp->(Hp->Prop)->Prop:=fun o i v H Q=>∃p xs k j,o=.ref p/\i=.int k/\H p=some (.lst xs)/\QI xs.length k=some j/\Q (KB H p (.lst (xs.set j v)))
theorem Tw:TU X g5:=by
 intro pins s σ H o i v ov iv u Q I ro ri rv h;obtain⟨p,xs,k,j,rfl,rfl,hp,hj,q⟩:=h;cases ro;obtain⟨t,rfl⟩:=ri;obtain⟨its,n,r,ho,hz⟩:=I.lst hp;obtain⟨h1,h2,h3,h4⟩:=AY hj;have hl:=r.length;have hn:=xI;have I':Inv X pins σ (KB H p (.lst (xs.set j v))) { s with heap:=s.heap.update p (Obj.mapSeq (·.setIfInBounds j u)) }:=
  I.zb0 hp ho (Bj its n j u) (r.set rv j) (by rw[length_set];exact hz) s.toks
 by_cases h0:0<=k
 · have hk:k.toNat=j:=by rw[seqIndex_of h0 h4]at h1;exact Option.some.inj h1
   exact PySem.W.ki_setAt ho h0 (by omega) (by rw[size_toArray,<- hl];exact h4) (by rw[hk];exact⟨_,I',q⟩)
 · have hk:(k+(its.toArray.size:Int)).toNat=j:=by rw[seqIndex_neg (by omega) h3]at h1;rw[size_toArray,<- hl];exact Option.some.inj h1
   exact PySem.W.ki_setBack ho (by omega) (by rw[size_toArray,<- hl];exact h3) (by omega) (by rw[hk];exact⟨_,I',q⟩)
theorem n9(lo hi:Option Int)(n:Nat):(sliceBounds lo hi none n).1=((HT.sIx n 0 lo:Nat):Int)/\(sliceBounds lo hi none n).2.1=((HT.sIx n n hi:Nat):Int)/\(sliceBounds lo hi none n).2.2=1:=by
 refine⟨?_,?_,rfl⟩
 · cases lo with
   | none=>simp[sliceBounds,HT.sIx]
   | some i=>
    simp only[sliceBounds,HT.sIx,Option.getD_none,show(1:Int)>0 by decide,if_true];by_cases h:i<0
    · simp only[h,if_true]<;>omega
    · simp only[h,if_false]<;>omega
 · cases hi with
   | none=>simp[sliceBounds,HT.sIx]
   | some i=>
    simp only[sliceBounds,HT.sIx,Option.getD_none,show(1:Int)>0 by decide,if_true];by_cases h:i<0
    · simp only[h,if_true]<;>omega
    · simp only[h,if_false]<;>omega
theorem g8(its:List Value)(lo hi:Option Int):slicePick its.toArray lo hi none=((its.drop (HT.sIx its.length 0 lo)).take (HT.sIx its.length its.length hi-HT.sIx its.length 0 lo)).toArray:=by obtain⟨h1,h2,h3⟩:=n9 lo hi its.toArray.size;unfold slicePick;rw[h1,h2,h3];simp only[sliceRange_one,pick_run,size_toArray]<;>rfl
def o4(K:Frag):V->Option Int->Option Int->Hp->VK->Prop:=fun x lo hi H Q=>∃a xs,x=.ref a/\yp K H a xs/\∀p,H p=none->Q (.ref p) (KB H p (.lst (VI xs lo hi)))
theorem Et:jd X (o4 X.K):=by intro pins s σ H x v vl vu lo hi sl Q I rx hs pl pu h;obtain⟨a,xs,rfl,hx,q⟩:=h;cases rx;obtain⟨its,r,ht,hz⟩:=I.list hx;have hlen:=r.length;refine⟨"list",_,slot_list_getitem.lookup,ht.isList.typeIs,?_⟩;refine wpAny_getItem_list_slice ht.isList hs pl pu .none (by simp) ?_ (by rw[size_toArray]<;>omega);rw[g8,<- hlen];refine⟨.ref s.heap.objs.size,_,I.laid (t':=s.toks) (o:=.lst (VI xs lo hi)) (fun b ob q=>Heap.get?_push_of_some _ q) (zf1 _) ?_,rfl,q _ (I.hok.fresh (zf1 _))⟩;exact⟨Nat.le_trans (Q8 xs lo hi) hz,_,0,(r.drop (HT.sIx xs.length 0 lo)).take (HT.sIx xs.length xs.length hi-HT.sIx xs.length 0 lo),Heap.get?_push_size _ rfl⟩
noncomputable def xG:V->Bool
 | .non=>true
 | .bl _=>true
 | .int _=>true
 | .str _=>true
 | _=>false
noncomputable def gK:V->V->Bool
 | .non,.non=>true
 | .bl a,.bl b=>a==b
 | .bl a,.int b=>(if a then 1 else 0)==b
 | .int a,.bl b=>a==(if b then 1 else 0)
 | .int a,.int b=>a==b
 | .str a,.str b=>a==b
 | _,_=>false
theorem Lg{A:Around}{s:Shared}{y x:V}{u v:Value}(ry:RelV y u)(rx:RelV x v)(fy:xG y=true)(fx:xG x=true):SeqAt.EqAt A s u v (gK y x):=by
 cases y with
 | non=>
  cases ry;cases x with
  | non=>cases rx;exact SeqAt.EqAt.same _
  | bl b=>cases rx;exact SeqAt.EqAt.none_bool b
  | int b=>obtain⟨t,rfl⟩:=rx;exact SeqAt.EqAt.none_int b t
  | str b=>obtain⟨t,rfl⟩:=rx;exact SeqAt.EqAt.none_str b t
  | _=>exact absurd (show false=true from fx) zf0
 | bl a=>
  cases ry;cases x with
  | non=>cases rx;exact SeqAt.EqAt.bool_none a
  | bl b=>cases rx;exact SeqAt.EqAt.bool_bool a b
  | int b=>obtain⟨t,rfl⟩:=rx;exact SeqAt.EqAt.bool_int a b t
  | str b=>obtain⟨t,rfl⟩:=rx;exact SeqAt.EqAt.bool_str a b t
  | _=>exact absurd (show false=true from fx) zf0
 | int a=>
  obtain⟨t',rfl⟩:=ry;cases x with
  | non=>cases rx;exact SeqAt.EqAt.int_none a t'
  | bl b=>cases rx;exact SeqAt.EqAt.int_bool a t' b
  | int b=>obtain⟨t,rfl⟩:=rx;exact SeqAt.EqAt.int_int a t' b t
  | str b=>obtain⟨t,rfl⟩:=rx;exact SeqAt.EqAt.int_str a t' b t
  | _=>exact absurd (show false=true from fx) zf0
 | str a=>
  obtain⟨t',rfl⟩:=ry;cases x with
  | non=>cases rx;exact SeqAt.EqAt.str_none a t'
  | bl b=>cases rx;exact SeqAt.EqAt.str_bool a t' b
  | int b=>obtain⟨t,rfl⟩:=rx;exact SeqAt.EqAt.str_int a t' b t
  | str b=>obtain⟨t,rfl⟩:=rx;exact SeqAt.EqAt.str_str a t' b t
  | _=>exact absurd (show false=true from fx) zf0
 | _=>exact absurd (show false=true from fy) zf0
def WH(x:V)(u:Value):Bool:=match u with
 | .none=>gK .non x
 | .bool b=>gK (.bl b) x
 | .int i _=>gK (.int i) x
 | .str z _=>gK (.str z) x
 | _=>false
theorem sZ{x y:V}{u:Value}(r:RelV y u)(f:xG y=true):WH x u=gK y x:=by
 cases y with
 | non=>cases r;rfl
 | bl b=>cases r;rfl
 | int i=>obtain⟨t,rfl⟩:=r;rfl
 | str z=>obtain⟨t,rfl⟩:=r;rfl
 | _=>exact absurd (show false=true from f) zf0
theorem lL{x:V}:∀{xs:List V}{us:List Value},Vals xs us->xs.all xG=true->us.any (WH x)=xs.any fun y=>gK y x
 | _,_,.nil,_=>rfl
 | y::xs,u::us,.cons r t,f=>by rw[all_cons,Bool.and_eq_true]at f;rw[any_cons,any_cons,sZ r f.1,lL t f.2]
theorem aL{A:Around}{s:Shared}{x:V}{v:Value}(rx:RelV x v)(fx:xG x=true):∀{xs:List V}{us:List Value},Vals xs us->xs.all xG=true->∀u∈us,SeqAt.EqAt A s u v (WH x u)
 | _,_,.nil,_=>fun u hu=>by cases hu
 | y::xs,u::us,.cons r t,f=>fun u' hu=>by
  rw[all_cons,Bool.and_eq_true]at f;rcases mem_cons.mp hu with rfl | hu
  · rw[sZ r f.1];exact Lg r rx f.1 fx
  · exact aL rx fx t f.2 u' hu
def ML(x:V)(xs:List V):Bool:=xs.any fun y=>gK y x
def l4(K:Frag)(neg:Bool):R2:=fun x y H Q=>∃p xs,y=.ref p/\(yp K H p xs\/NI K H p xs)/\xG x=true/\xs.all xG=true/\Q (.bl (if neg then !ML x xs else ML x xs)) H
theorem Nj:vp X (compareOp .In) (l4 X.K false):=by
 intro pins s σ H x y v u Q I rx ry h;obtain⟨p,xs,rfl,hq,fx,fs,q⟩:=h;cases ry;rcases hq with hq | hq
 · obtain⟨its,r,pl,hz⟩:=I.list hq;refine SeqAt.in_listAt (WH x) pl.isList (fun w hw=>aL rx fx r fs w (by simpa using hw)) ⟨.bl _,H,I,rfl,?_⟩;rw[show its.toArray.any (WH x)=its.any (WH x) by simp,lL r fs];exact q
 · obtain⟨its,r,pl,hz⟩:=I.tuple hq;refine SeqAt.in_tupleAt (WH x) pl (fun w hw=>aL rx fx r fs w (by simpa using hw)) ⟨.bl _,H,I,rfl,?_⟩;rw[show its.toArray.any (WH x)=its.any (WH x) by simp,lL r fs];exact q
theorem x8:vp X (compareOp .NotIn) (l4 X.K true):=by
 intro pins s σ H x y v u Q I rx ry h;obtain⟨p,xs,rfl,hq,fx,fs,q⟩:=h;cases ry;rcases hq with hq | hq
 · obtain⟨its,r,pl,hz⟩:=I.list hq;refine SeqAt.notIn_listAt (WH x) pl.isList (fun w hw=>aL rx fx r fs w (by simpa using hw)) ⟨.bl _,H,I,rfl,?_⟩;rw[show its.toArray.any (WH x)=its.any (WH x) by simp,lL r fs];exact q
 · obtain⟨its,r,pl,hz⟩:=I.tuple hq;refine SeqAt.notIn_tupleAt (WH x) pl (fun w hw=>aL rx fx r fs w (by simpa using hw)) ⟨.bl _,H,I,rfl,?_⟩;rw[show its.toArray.any (WH x)=its.any (WH x) by simp,lL r fs];exact q
theorem G8:Hl X (.builtin "len") (fun xs H Q=>∃p ys,xs=[.ref p]/\(yp X.K H p ys\/NI X.K H p ys)/\Q (.int ys.length) H):=by
 intro pins s σ H xs us Q I r h;obtain⟨p,ys,rfl,hq,q⟩:=h;obtain⟨u,rfl,rx⟩:=cG r;cases rx;have hn:=xI;rcases hq with hq | hq
 · obtain⟨its,r',pl,hz⟩:=I.list hq;have hlen:=r'.length;exact Calls.call_len_list pl.isList (by simp only[size_toArray]<;>omega) ⟨.int ys.length,H,I.tok _,⟨s.toks+1,by rw[size_toArray,hlen]⟩,q⟩
 · obtain⟨its,r',pl,hz⟩:=I.tuple hq;have hlen:=r'.length;exact len_tuple pl (by simp only[size_toArray]<;>omega) ⟨.int ys.length,H,I.tok _,⟨s.toks+1,by rw[size_toArray,hlen]⟩,q⟩
theorem J8:Hl X (.builtin "len") (fun xs H Q=>∃z,xs=[.str z]/\z.length<=sizeLine/\Q (.int z.length) H):=by intro pins s σ H xs us Q I r h;obtain⟨z,rfl,hz,q⟩:=h;obtain⟨u,rfl,t,rfl⟩:=cG r;have hn:=xI;exact len_str (by omega) ⟨.int z.length,H,I.tok _,⟨_,rfl⟩,q⟩
theorem Hl.or{f:Value}{r r':List V->Hp->VK->Prop}(h:Hl X f r)(h':Hl X f r'):Hl X f (fun xs H Q=>r xs H Q\/r' xs H Q):=by
 intro pins s σ H xs us Q I rs q;rcases q with q | q
 · exact h pins s σ H xs us Q I rs q
 · exact h' pins s σ H xs us Q I rs q
theorem K8:Hl X (.type "list") (fun xs H Q=>∃p ys,xs=[.ref p]/\(yp X.K H p ys\/NI X.K H p ys)/\∀l,H l=none->Q (.ref l) (KB H l (.lst ys))):=by
 intro pins s σ H xs us Q I r h;obtain⟨p,ys,rfl,hq,q⟩:=h;obtain⟨u,rfl,rx⟩:=cG r;cases rx;have fin:∀(its:List Value),Vals ys its->ys.length<=sizeLine->∀(h':Heap)(c':Nat),(∀b o',s.heap.get? b=some o'->h'.get? b=some o')->
  h'.get? s.heap.objs.size=some { cls:=.type "list",dict:=none,data:=.seq its.toArray c',slots:=#[] }->EP X pins σ Q (.ref s.heap.objs.size) { s with heap:=h' }:=fun its r' hz h' c' kp e=>
  ⟨.ref s.heap.objs.size,_,I.laid (t':=s.toks) kp (zf1 _) (show Xm X.prog X.w _ h' _ (.lst ys)from⟨hz,its,c',r',e⟩),rfl,q _ (I.hok.fresh (zf1 _))⟩
 rcases hq with hq | hq
 · obtain⟨its,r',pl,hz⟩:=I.list hq;have hlen:=r'.length;obtain⟨o,ho,hc,n,hd⟩:=pl.isList;exact call_list_seq p (.inl rfl) ho hc hd (fun h' c' kp e=>fin its r' hz h' c' kp e) (by simp only[size_toArray]<;>omega)
 · obtain⟨its,r',pl,hz⟩:=I.tuple hq;have hlen:=r'.length;obtain⟨o,ho,hc,n,hd⟩:=pl;exact call_list_seq p (.inr rfl) ho hc hd (fun h' c' kp e=>fin its r' hz h' c' kp e) (by simp only[size_toArray]<;>omega)
def V4(K:Frag)(T:String)(x:V)(H:Hp):Prop:=match x with
 | .str _=>T = "str"
 | .int _=>T = "int"
 | .ref p=>(T = "list" /\ ∃xs,yp K H p xs)\/(T = "tuple" /\ ∃o,K.lookup p=some o/\o.cls=.type "tuple" /\ o.dict=none)\/
  (T = "dict" /\ ((∃kvs,H p=some (.dK kvs))\/∃kvs,H p=some (.dT kvs)))\/(T = "set" /\ ∃S n,H p=some (.set S n))
 | _=>False
theorem t6{pins:List (Addr×Obj)}{σ:St}{H:Hp}{s:Shared}{T:String}{x:V}{v:Value}(I:Inv X pins σ H s)(r:RelV x v)(ty:V4 X.K T x H) :
 s.TypeIs v T/\∀a,v=.ref a->∃ob,s.heap.get? a=some ob/\ob.dict=none:=by
 cases x with
 | str z=>obtain⟨t,rfl⟩:=r;cases (show T = "str" from ty);exact⟨typeIs_str s z t,fun _ e=>nomatch e⟩
 | int i=>obtain⟨t,rfl⟩:=r;cases (show T = "int" from ty);exact⟨typeIs_int s i t,fun _ e=>nomatch e⟩
 | ref p=>
  cases r;rcases ty with⟨rfl,xs,hq⟩ | ⟨rfl,o,hk,hc,hd⟩ | ⟨rfl,hk⟩ | ⟨rfl,S,n,hk⟩
  · obtain⟨its,_,pl,_⟩:=I.list hq;refine⟨pl.isList.typeIs,fun a e=>?_⟩;cases e;obtain⟨o,n,e,c,hd,_⟩:=pl;exact⟨o,e,hd⟩
  · refine⟨⟨o,I.kIn p o hk,hc⟩,fun a e=>?_⟩;cases e;exact⟨o,I.kIn _ o hk,hd⟩
  · have z:∃o,s.heap.get? p=some o/\o.ExactDict:=by
     rcases hk with⟨kvs,hk⟩ | ⟨kvs,hk⟩
     · obtain⟨_,_,_,_,o,_,_,e,ex,_⟩:=I.hok p _ hk;exact⟨o,e,ex⟩
     · obtain⟨_,_,_,_,o,_,_,e,ex,_⟩:=I.hok p _ hk;exact⟨o,e,ex⟩
    obtain⟨o,e,ex⟩:=z;refine⟨⟨o,e,ex.1⟩,fun a e2=>?_⟩;cases e2;exact⟨o,e,ex.2.1⟩
  · obtain⟨o,_,_,_,e,ex,_⟩:=I.hok p _ hk;refine⟨⟨o,e,ex.1⟩,fun a e2=>?_⟩;cases e2;exact⟨o,e,ex.2.1⟩
 | _=>exact False.elim ty
def Ec(K:Frag)(T:String)(r:V->List V->Hp->VK->Prop)(to:TE)(t:TA):TE:=fun σ H Q=>to σ H fun x H1=>V4 K T x H1/\t σ H1 fun xs H2=>r x xs H2 Q
variable{o e:Expr}{es:List Expr}{to:TE}{t:TA}{name:Str}{apos cpos:Pos}{T id:String}{r:V->List V->Hp->VK->Prop}
theorem VJ (pa:PlainAttrs T) (slot:Slot T name id) (hty:typeOf (.builtin id)=pure (.type "method_descriptor")) (hm:Z1 X id r) (ho:PE X o to) (ha:PA X (e::es) t)
 (hbase:attributeBase o name X.env (eval o X.env)=eval o X.env:=by rfl)
 (hfew:((backTo cpos (starEach (e::es) X.env)).all (fun x=>!x.1)&&(backToKw cpos (keywordEach [] X.env)).all (fun x=>x.1.isSome)
  && decide ((e::es).length+([]:List Keyword).length+(if([]:List Keyword).isEmpty then 0 else 1)<30))=true:=by rfl)
 (hline:(apos.endLine==cpos.line)=true:=by rfl) (hs:starEach (e::es) X.env=(false,eval e X.env)::starEach es X.env:=by rfl) (hplain:(backTo cpos (starEach es X.env)).any (·.1)=false:=by rfl) :
 PE X (.Call (.Attribute o name apos) (e::es) [] cpos) (Ec X.K T r to t):=by
 intro pins s σ H Q I h;refine wpAny_Call_method_late hbase hfew hline rfl (HB (ho pins s σ H _ I h) fun v s1 zz=>?_);obtain⟨x,H1,I1,r1,ty,q1⟩:=zz;obtain⟨h1,h2⟩:=t6 I1 r1 ty;refine⟨T,id,pa,slot,hty,h1,h2,?_⟩;have hA:=ha cpos pins s1 σ H1 _ I1 q1;rw[hs]at hA ⊢;refine Calls.callWith_builtin (by show(false || (backTo cpos (starEach es X.env)).any (·.1))=false;rw[hplain]<;>rfl) (Calls.evalArgs_plain ?_);exact HB hA fun us s2 ⟨vs,H2,I2,r2,q2⟩=>hm pins s2 σ H2 x vs v us Q I2 r1 r2 q2
end
def W0(X:Cx)(id:String)(r:V->List V->Hp->VK->Prop):Prop:=
 ∀(pins:List (Addr×Obj))(s:Shared)(σ:St)(H:Hp)(x:V)(xs:List V)(v:Value)(us:List Value)(Q:VK),Inv X pins σ H s->RelV x v->Vals xs us->r x xs H Q->
  wpAny (model X.prog X.w) X.A (call (.builtin id) (v::us)) (EP X pins σ Q) X.xe s
theorem Vals.one:∀{x:V}{us:List Value},Vals [x] us->∃u,us=[u]/\RelV x u
 | _,_,.cons r .nil=>⟨_,rfl,r⟩
theorem Vals.two:∀{x y:V}{us:List Value},Vals [x,y] us->∃u v,us=[u,v]/\RelV x u/\RelV y v
 | _,_,_,.cons r (.cons q .nil)=>⟨_,_,rfl,r,q⟩
theorem Vals.zero:∀{us:List Value},Vals [] us->us=[]
 | _,.nil=>rfl
theorem Vals.eraseIdx:∀{xs:List V}{us:List Value}(i:Nat),Vals xs us->Vals (xs.eraseIdx i) (us.eraseIdx i)
 | _,_,_,.nil=>.nil
 | _,_,0,.cons _ t=>t
 | _,_,i+1,.cons r t=>.cons r (Vals.eraseIdx i t)
theorem Vals.rep{xs:List V}{us:List Value}(h:Vals xs us):∀k:Nat,Vals (List.replicate k xs).flatten (List.replicate k us).flatten
 | 0=>.nil
 | k+1=>by rw[replicate_succ,replicate_succ,flatten_cons,flatten_cons];exact Vals.append h (Vals.rep h k)
theorem pW{α:Type}:∀(l:List α)(i:Nat),(l.eraseIdx i).length<=l.length
 | [],_=>zf1 _
 | _::_,0=>Nat.le_succ _
 | _::r,i+1=>Nat.succ_le_succ (pW r i)
theorem MW(its:List Value):∀(k:Nat)(acc:List Value),
 List.foldl (fun x1 x2=>x1++x2) acc.toArray (List.replicate k its.toArray)=(acc++(List.replicate k its).flatten).toArray
 | 0,acc=>by simp
 | k+1,acc=>by
  have e:acc.toArray++its.toArray=(acc++its).toArray:=by simp
  have e2:(acc++its)++(List.replicate k its).flatten=acc++(List.replicate (k+1) its).flatten:=by rw[replicate_succ,flatten_cons,append_assoc]
  rw[<- e2,<- MW its k (acc++its),<- e,replicate_succ,foldl_cons]
section
variable{X:Cx}{pins:List (Addr×Obj)}{σ:St}{H:Hp}{s:Shared}{l b:Addr}{xs ys zs:List V}
theorem Inv.zbC{its its':List Value}{n:Nat}{f:Array Value->Array Value}{t':Nat}(I:Inv X pins σ H s)(hH:H l=some (.lst xs))
 (e:s.heap.get? l=some { cls:=.type "list",data:=.seq its.toArray n }) (hf:f its.toArray=its'.toArray) (hv:Vals ys its') (hz:ys.length<=sizeLine) :
 Inv X pins σ (KB H l (.lst ys)) { s with heap:=s.heap.update l (Obj.mapSeq f),toks:=t' }:=by
 have q:=PySem.IsL.update e f;rw[hf]at q;refine I.write (x:=l) (e:=l) (by rw[hH];exact trivial) (.inl rfl) (fun b' u hb hu=>(Heap.get?_update_other s.heap (Obj.mapSeq f) (Ne.symm hb)).trans hu) ⟨_,q⟩ ?_;exact⟨hz,its',_,hv,q⟩
theorem Inv.zbZ{its:List Value}{t':Nat}(I:Inv X pins σ H s)(hv:Vals ys its)(hz:ys.length<=sizeLine) :
 Inv X pins σ (KB H s.heap.objs.size (.lst ys)) { s with heap:=s.heap.push { cls:=.type "list",data:=.seq its.toArray },toks:=t' }:=
 I.laid (fun _ _ q=>Heap.get?_push_of_some _ q) (zf1 _) ⟨hz,its,0,hv,Heap.get?_push_size _ rfl⟩
theorem Inv.fresh(I:Inv X pins σ H s):H s.heap.objs.size=none:=I.hok.fresh (zf1 _)
theorem Inv.za2 (I:Inv X pins σ H s) (hH:H l=some (.lst xs)):xs.length<=sizeLine/\∃(its:List Value) (n:Nat),Vals xs its/\xs.length=its.length/\s.heap.get? l=some { cls:=.type "list",data:=.seq its.toArray n }:=by obtain⟨z,its,n,r,e⟩:=I.hok l _ hH;exact⟨z,its,n,r,r.length,e⟩
theorem DX{n:Nat}(h:n<=sizeLine):Builtin.List.listTooLong n=false:=by unfold Builtin.List.listTooLong;exact decide_eq_false (by omega)
end
section
variable{X:Cx}
def Xh:V->List V->Hp->VK->Prop:=fun x vs H Q=>∃l xs y,x=.ref l/\vs=[y]/\H l=some (.lst xs)/\xs.length<sizeLine/\Q .non (KB H l (.lst (xs++[y])))
theorem sW:W0 X "list.append" Xh:=by intro pins s σ H x vs v us Q I rx rv h;obtain⟨l,xs,y,rfl,rfl,hH,hz,q⟩:=h;cases rx;obtain⟨u,rfl,ru⟩:=rv.one;obtain⟨z,its,n,r,hl,e⟩:=I.za2 hH;refine call_meets F.slot_list_append ⟨_,e,rfl⟩ F.entry_list_append (F.args_list_append_2 _ _) (PySem.list_append l its.toArray n u (by rw[size_toArray];omega)) ⟨e,?_⟩;refine⟨.non,_,I.zbC (its':=its++[u]) hH e (by simp) (r.append (.cons ru .nil)) ?_,rfl,q⟩;rw[length_append,length_singleton];omega
def Yh:V->List V->Hp->VK->Prop:=fun x vs H Q=>∃l b xs zs,x=.ref l/\vs=[.ref b]/\H l=some (.lst xs)/\H b=some (.lst zs)/\xs.length+zs.length<=sizeLine/\Q .non (KB H l (.lst (xs++zs)))
theorem Bq:W0 X "list.extend" Yh:=by
 intro pins s σ H x vs v us Q I rx rv h;obtain⟨l,b,xs,zs,rfl,rfl,hH,hB,hz,q⟩:=h;cases rx;obtain⟨u,rfl,ru⟩:=rv.one;cases ru;obtain⟨z,its,n,r,hl,e⟩:=I.za2 hH;obtain⟨z2,its2,n2,r2,hl2,e2⟩:=I.za2 hB;have hsz:its.toArray.size+its2.toArray.size<=sizeLine:=by rw[size_toArray,size_toArray];omega
 have zbh:¬(!its.toArray.isEmpty&&Builtin.List.listTooLong (its.toArray.size+its2.toArray.size))=true:=by rw[DX hsz,Bool.and_false];exact zf0
 refine call_meets F.slot_list_extend ⟨_,e,rfl⟩ F.entry_list_extend (F.args_list_extend_2 _ _)
  (AutoSeq1.list_extend_list_list_0 l its.toArray n b its2.toArray n2 zbh (by rw[size_toArray];omega) (by omega)) ⟨e,e2,?_⟩
 refine⟨.non,_,I.zbC (its':=its++its2) hH e (by simp) (r.append r2) ?_,rfl,q⟩;rw[length_append];omega
def Ut:V->List V->Hp->VK->Prop:=fun x vs H Q=>∃l xs i k y,x=.ref l/\vs=[.int i]/\H l=some (.lst xs)/\-(2^63)<=i/\i<2^63/\seqIndex? i xs.length=some k/\xs[k]?=some y/\Q y (KB H l (.lst (xs.eraseIdx k)))
theorem Nz:W0 X "list.pop" Ut:=by
 intro pins s σ H x vs v us Q I rx rv h;obtain⟨l,xs,i,k,y,rfl,rfl,hH,h1,h2,hk,hy,q⟩:=h;cases rx;obtain⟨u,rfl,ru⟩:=rv.one;obtain⟨t,rfl⟩:=ru;obtain⟨z,its,n,r,hl,e⟩:=I.za2 hH;obtain⟨w,hw,rw'⟩:=r.get hy;refine call_meets F.slot_list_pop ⟨_,e,rfl⟩ F.entry_list_pop (F.args_list_pop_2 _ _)
  (MeetsSeq.list_pop_at l its.toArray n i t k w (fitsIndex_both h1 h2) (by rw[size_toArray,<- hl];exact hk) (by rw[<- Array.getElem?_toList];exact hw) (by rw[size_toArray];omega)) ⟨e,?_⟩
 refine⟨y,_,I.zbC (its':=its.eraseIdx k) hH e ?_ (r.eraseIdx k) ?_,rw',q⟩
 · show its.toArray.eraseIdxIfInBounds k=(its.eraseIdx k).toArray;rw[eraseIdxIfInBounds_toArray]
 · have:=pW xs k;omega
def tV:R2:=fun x y H Q=>∃l k xs,x=.ref l/\y=.int k/\H l=some (.lst xs)/\-(2^63)<=k/\k<2^63/\xs.length*k.toNat<=sizeLine/\
 ∀p,H p=none->Q (.ref p) (KB H p (.lst (List.replicate k.toNat xs).flatten))
theorem iy{α:Type}(xs:List α)(k:Nat):(List.replicate k xs).flatten.length=k*xs.length:=by
 induction k with
 | zero=>simp
 | succ k ih=>rw[replicate_succ,flatten_cons,length_append,ih,Nat.succ_mul,Nat.add_comm]
theorem aZ:vp X (binaryOp .Mult) tV:=by
 intro pins s σ H x y v u Q I rx ry h;obtain⟨l,k,xs,rfl,rfl,hH,h1,h2,hz,q⟩:=h;cases rx;obtain⟨t,rfl⟩:=ry;obtain⟨z,its,n,r,hl,e⟩:=I.za2 hH;have hlen:its.toArray.size*k.toNat<=sizeLine:=by rw[size_toArray,<- hl];exact hz
 have hcap:¬its.toArray.size*k.toNat>(2^63-1)/8:=by
  have:(sizeLine:Nat)<=(2^63-1)/8:=by decide
  omega
 have hfit:¬(!Builtin.List.listFitsIndex k)=true:=by rw[fitsIndex_both h1 h2];exact zf0
 have zbh:¬Builtin.List.listTooLong (its.toArray.size*k.toNat)=true:=by rw[DX hlen];exact zf0
 have hnew:List.foldl (fun x1 x2=>x1++x2) #[] (List.replicate (if its.toArray.isEmpty=true then 0 else k.toNat) its.toArray)=(List.replicate k.toNat its).flatten.toArray:=by
  have f0:∀m:Nat,List.foldl (fun x1 x2=>x1++x2) #[] (List.replicate m its.toArray)=(List.replicate m its).flatten.toArray:=fun m=>by have:=MW its m [];rw[zfW]at this;exact this
  rw[f0];cases its with
  | nil=>simp
  | cons a r'=>rw[if_neg (by simp)]
 refine wpAny_binaryOp_repeat_ref (T := "list") (U := "int") (by decide) ⟨_,e,rfl⟩ (fun s'=>typeIs_int s' k t) noFill_list_mul F.fills_int_mul F.slot_int_rmul repeat_list F.slot_int_index.lookup
  (call_meets F.slot_int_rmul (typeIs_int s k t) F.entry_int_rmul (F.args_int_rmul_2 _ _) (int___rmul___int_list k t l its.toArray n)
   ⟨e,rfl,⟨_,e,rfl⟩,call_meets F.slot_list_mul ⟨_,e,rfl⟩ F.entry_list_mul (F.args_list_mul_2 _ _) (AutoListH.list___mul___list_int_3 l its.toArray n k t hfit hcap zbh) ⟨e,?_⟩⟩)
 rw[hnew];exact⟨.ref _,_,I.zbZ (t':=s.toks) (r.rep k.toNat) (by rw[iy,Nat.mul_comm];exact hz),rfl,q _ I.fresh⟩
end
section
variable{prog:Program}{w:World}{A:Around}{E:Value->Shared->Prop}{s:Shared}
end
section
variable{X:Cx}
end
end L2
namespace Att
open PySem.W PySem.Calls
theorem b8{P:Params}{h:Heap}:∀(ns:List Int)(vs:List Value),WellAll P h vs (ns.map WData.int)->IntsAre vs ns:=by
 intro ns
 induction ns with
 | nil=>intro vs w;rw[zfR]at w;cases w;exact .nil
 | cons n ns ih=>
  intro vs w;rw[zfQ]at w;cases w with
  | cons a b=>cases a;exact .cons _ _ (ih _ b)
theorem uz{l:OpenLaw}{n:Nat}(hn:l.most=some n){P:Params}{h:Heap}{args:List WData}{vals:List Value}
 (hpre:l.row.toRowW.claim.pre args=true) (hwl:WellAll P h vals args) :
 ∃a vs ns,vals=[Value.ref a]/\args=[WData.list (ns.map WData.int)]/\h.get? a=some { cls:=.type "list",data:=.seq vs.toArray }/\IntsAre vs ns/\ns.length<=n:=by
 have hsh:WShape.hasAll [] args [.list .int]=true:=(pre_splitW hpre).1;have hc:l.pre.holds [] { args:=args }=true:=(pre_splitW hpre).2;obtain⟨d,r,rfl,h1,h2⟩:=hasAllW_cons hsh;obtain rfl:=hasAllW_nil h2;obtain⟨xs,rfl,h3⟩:=hasW_list h1;obtain⟨ns,rfl⟩:=items_int h3;have hlen:ns.length<=n:=by
  unfold OpenLaw.pre at hc;have h4:(WTm.not (.lt (.lit (.int (n:Int))) (.len (.arg 0)))).holds [] { args:=[.list (ns.map .int)] }=true:=by have h4:=(holds_andW hc).1;rw[hn]at h4;exact h4
  have h5:=condW_of h4 (w_not (w_lt w_lit (w_len_list (w_arg rfl))));rw[length_map]at h5;refine Nat.le_of_not_lt fun q=>?_
  have q':(n:Int)<((ns.length:Nat):Int):=by omega
  first
   | (rw[decide_eq_true q']at h5;exact absurd h5 (by decide))
   | (simp at h5;omega)
 cases hwl with
 | cons w1 w2=>
  cases w2;cases w1 with
  | list ho hall=>exact⟨_,_,ns,rfl,rfl,ho,b8 ns _ hall,hlen⟩
theorem Yx(l:OpenLaw)(args:List WData):l.row.toRowW.claim.post args (.bool true) args=true:=
 postW_of (r:=l.row.toRowW) (X:=(true==true))
  (show WShape.has [] (.bool true) .bool=true by first | rfl | decide | simp[WShape.has,WShape.arms,WShape.armsAll])
  (show(WTm.eq .res (.lit (.bool true))).value [] { args:=args,res:=some (.bool true),after:=args }=some (.bool (true==true))from w_eq_bool (w_res rfl) w_lit) rfl
theorem zaL{l:OpenLaw}{n:Nat}{q:Program}{loose:List Str}{XP:(Str->Option Value)->Heap->Prop}{YP:World->Heap->Prop}{d:DefRec}
 (hn:l.most=some n) (hdf:d.params.defaults=[])
 (call:∀(w:World)(s₀ s₁:Shared)(mg mb:Str->Option Value)(fa:Addr)(o:Obj)(pm cd doc:Value)(a:Addr)(vs:List Value)(ns:List Int),
  Ground q loose [] XP w s₀ mg mb s₁.heap->YP w s₁.heap->
  s₁.heap.get? fa=some o->o.data=.func (docDef d.name d.params d.body d.scope pm cd doc)->s₁.heap.CodeRec cd d.name->mg d.name=some (.ref fa)->
  s₁.heap.get? a=some { cls:=.type "list",data:=.seq vs.toArray }->IntsAre vs ns->ns.length<=n->s₁.gens=#[]->
  codeAny (model l.prog w) callerA (.call (.ref fa) ⟨[.ref a],[]⟩) (fun r s'=>r=.ok (.ret (.bool true))/\OldK s₁.heap s'.heap/\s'.os=s₁.os/\AllBare s'.gens) s₁) :
 WalkO q loose XP YP l.row.toRowW d [] (fun f vs=>PySem.call f vs):=by
 intro w s₀ s₁ mg mb G Y fa o pm cd doc dV kV ho hd hcd hD hmg hg args vals as hpre hlay hrd hwl hlo;obtain rfl:dV=.none:=Dflts.none hD hdf;obtain rfl:kV=.none:=Dflts.noKw hD;obtain⟨a,vs,ns,rfl,rfl,hobj,hints,hlen⟩:=uz hn hpre hwl;refine enter_call (codeAny_mono (call w s₀ s₁ mg mb fa o pm cd doc a vs ns G Y ho (fd_plain hd) hcd hmg hobj hints hlen hg) fun r s' hq=>?_);obtain⟨rfl,h2,h3,h4⟩:=hq;exact⟨.inl ⟨.bool true,.bool true,[],rfl,fun _=>rfl,.bool true,Yx l _,fun _=>⟨List.Pairwise.nil,fun _ hm=>(nomatch hm)⟩⟩,h2,h3,h4⟩
section
variable{prog:Program}{w:World}{A:Around}{E:Value->Shared->Prop}{s:Shared}{K:Frag}
end
end Att
namespace L2
theorem kX:∀{vs:List Value}{ns:List Int},IntsAre vs ns->Vals (ns.map V.int) vs
 | _,_,.nil=>.nil
 | _,_,.cons n t h=>.cons ⟨t,rfl⟩ (kX h)
noncomputable def tP(H:Hp):Prop:=∀b,H b=none\/∃o xs,H b=some (.frz o (.lst xs))
theorem jw{P:Program}{w:World}{K:Frag}{mg mb:Str->Option Value}{CX:WJ}{k:Nat}{fa a:Addr}{fd:FuncData}{x:Str}{sp:Sp}{s₁:Shared}{vs:List Value}{ns:List Int}
 (KX:K.In s₁.heap) (hns:s₁.heap.Ns mainGlobals mg) (hb:s₁.heap.Ns builtinsNs mb) (hbb:∀x:Str,x ≠ "__name__" ->mb x=bootBuiltins x) (hlim:s₁.heap.NoLimit) (hg:s₁.gens=#[])
 (ha:s₁.heap.get? a=some { cls:=.type "list",data:=.seq vs.toArray }) (hi:IntsAre vs ns) (hl:ns.length<=sizeLine) (hr:Zm k callerA)
 (F:∀base:Heap,K.In base->base.Ns mainGlobals mg->Ql P w K mg base CX k fa fd [x] sp) (hbind:∀(s:Shared)(u:Value),BindsTo s fd ⟨[u],[]⟩ [(x,u)])
 (hsp:∀H:Hp,tP H->yp K H a (ns.map V.int)->sp [.ref a] H (fun v _=>v=.bl true) fun _ _ _=>False)
 (hCX:∀H e s',CX [] H s₁ (fun _ _ _=>False) e s'->False) :
 codeAny (model P w) callerA (.call (.ref fa) ⟨[.ref a],[]⟩) (fun r s'=>r=.ok (.ret (.bool true))/\OldK s₁.heap s'.heap/\s'.os=s₁.os/\AllBare s'.gens) s₁:=by
 have rv:=kX hi;have lenV:=hi.length;have core:∀H:Hp,tP H->yp K H a (ns.map V.int)->HOk P w H s₁.heap->(∀b,H b≠none->b=a)->(H a≠none->K.lookup a=none)->
  codeAny (model P w) callerA (.call (.ref fa) ⟨[.ref a],[]⟩) (fun r s'=>r=.ok (.ret (.bool true))/\OldK s₁.heap s'.heap/\s'.os=s₁.os/\AllBare s'.gens) s₁:=by
  intro H hO hS hok hA hK;have zaT:∀{b:Addr}{o:Obj},s₁.heap.get? b=some o->H b=none->(IG s₁.heap H).get? b=some o:=fun e n=>Tv e n
  have noA:∀{b:Addr}{o:Obj}{es:Array DictEntry}{ep:Nat},s₁.heap.get? b=some o->o.data=.dict es ep->H b=none:=fun {b o es ep} e d=>by
   cases q:H b with
   | none=>rfl
   | some u=>have e':b=a:=hA b (by rw[q];simp);subst e';rw[ha]at e;cases e;have d':Data.seq vs.toArray _=Data.dict es ep:=d;cases d'
  have nsK:∀{b:Addr}{m:Str->Option Value},s₁.heap.Ns b m->(IG s₁.heap H).Ns b m:=fun {b m} ⟨o,es,ep,e,d,r⟩=>⟨o,es,ep,zaT e (noA e d),d,r⟩
  have hKb:K.In (IG s₁.heap H):=fun b o e=>zaT (KX b o e) (by
   cases q:H b with
   | none=>rfl
   | some u=>
    have e':b=a:=hA b (by rw[q];simp);subst e';rw[hK (by rw[q];simp)]at e;cases e)
  have hM:Mod K mg (IG s₁.heap H):=⟨hKb,nsK hns,⟨mb,nsK hb,hbb⟩,let ⟨mc,h1,h2⟩:=hlim;⟨mc,nsK h1,h2⟩⟩;have e0:zaM P w K mg (IG s₁.heap H) callerA [] s₁ H:=⟨rfl,hM,fun b o e=>Fy e,Nat.le_of_eq (Oj _ _),trivial,fun b hb=>absurd (show b∈([]:List Addr)from hb) (by simp),hok,.of_eq hg⟩;refine codeAny_mono ((F _ hKb (nsK hns)).run callerA [] s₁ H ⟨[.ref a],[]⟩ [.ref a] [.ref a] _ _ hr e0 (hbind s₁ (.ref a)) (.cons rfl .nil) (hsp H hO hS)) fun r s' h=>?_
  cases r with
  | error e=>exact(hCX H e s' h).elim
  | ok fl=>
   cases fl with
   | next=>exact False.elim h
   | brk=>exact False.elim h
   | cont=>exact False.elim h
   | ret u=>
    obtain⟨v,H',os,bare,un,hok',r',q⟩:=h;have q':v=.bl true:=q;subst q';obtain rfl:u=Value.bool true:=r';refine⟨rfl,OldK.of_keep fun b o e=>?_,os,bare⟩;cases q:H b with
    | none=>exact un.keep b o e q (by intro z;exact absurd (show b∈([]:List Addr)from z) (by simp)) (by simp)
    | some u=>
     rcases hO b with z | ⟨ob,xs,z⟩
     · rw[q]at z;cases z
     · have z2:=un.zal b ob _ z;obtain⟨e1,_⟩:=hok b _ z;obtain⟨e2,_⟩:=hok' b _ z2;rw[e]at e1;cases e1;exact e2
 cases hk:K.lookup a with
 | some o=>have e:=KX a o hk;rw[ha]at e;cases e;refine core (fun _=>none) (fun _=>.inl rfl) (.inr ⟨_,vs.toArray,_,hk,rfl,rfl,rfl,by rw[size_toArray,lenV];exact hl,by simpa using rv⟩) (fun b u z=>by have z':(none:Option HO)=some u:=z;cases z') (fun b z=>absurd rfl z) fun z=>absurd rfl z
 | none=>
  refine core (fun b=>if b=a then some (.frz { cls:=.type "list",data:=.seq vs.toArray } (.lst (ns.map V.int)))else none) (fun b=>?_) (.inl (.inr ⟨{ cls:=.type "list",data:=.seq vs.toArray },if_pos rfl⟩)) (fun b u z=>?_) (fun b z=>?_) fun _=>hk
  · by_cases hb:b=a
    · exact .inr ⟨_,_,if_pos hb⟩
    · exact .inl (if_neg hb)
  · by_cases hb:b=a
    · have z':=(if_pos hb).symm.trans z;cases z';subst hb;exact⟨ha,by rw[length_map];exact hl,vs,_,rv,ha⟩
    · have z':=(if_neg hb).symm.trans z;cases z'
  · by_cases hb:b=a
    · exact hb
    · exact absurd (if_neg hb) z
theorem Qt{l:PySem.W.OpenLaw}{n k:Nat}{q:Program}{loose:List Str}{XP:(Str->Option Value)->Heap->Prop}{YP:World->Heap->Prop}{d:DefRec}{K:Params->Frag}{CX:World->WJ}{sp:World->Sp}{x:Str}
 (hn:l.most=some n) (hn2:n<=sizeLine) (hdf:d.params.defaults=[]) (hr:Zm k callerA)
 (hY:∀(w:World)(h:Heap),YP w h->(K w.params).In h)
 (F:∀(w:World)(mg:Str->Option Value)(fa:Addr)(h:Heap),(K w.params).In h->h.Ns mainGlobals mg->mg d.name=some (.ref fa)->
  ∃fd:FuncData,(∀(s:Shared)(u:Value),BindsTo s fd ⟨[u],[]⟩ [(x,u)])/\
   ∀base:Heap,(K w.params).In base->base.Ns mainGlobals mg->Ql l.prog w (K w.params) mg base (CX w) k fa fd [x] (sp w))
 (hsp:∀(w:World)(H:Hp)(a:Addr)(ns:List Int),ns.length<=n->tP H->yp (K w.params) H a (ns.map V.int)->sp w [.ref a] H (fun v _=>v=.bl true) fun _ _ _=>False)
 (hCX:∀(w:World)(H:Hp)(s:Shared)(e:Value)(s':Shared),CX w [] H s (fun _ _ _=>False) e s'->False) :
 PySem.W.WalkO q loose XP YP l.row.toRowW d [] (fun f vs=>PySem.call f vs):=by
 refine Att.zaL hn hdf fun w s₀ s₁ mg mb fa o pm cd doc a vs ns G Y ho hd hcd hmg hobj hints hlen hg=>?_
 have KX:=hY w _ Y;obtain⟨fd,hb,hF⟩:=F w mg fa _ KX G.T.g hmg;exact jw KX G.T.g G.T.b G.T.builtins G.T.nolimit hg hobj hints (Nat.le_trans hlen hn2) hr hF hb (fun H hO hS=>hsp w H a ns hlen hO hS) fun H e s'=>hCX w H s₁ e s'
noncomputable def jT(s:Stmt)(j:Nat):Stmt:=match s with
 | .ClassDef _ _ _ body _ _ _ _ _ _ _=>body.getD j (.Pass ⟨0,0,0,0⟩)
 | _=>.Pass ⟨0,0,0,0⟩
noncomputable def mF(s:Stmt):Arguments:=match s with
 | .FunctionDef _ a _ _ _ _ _ _ _ _=>a
 | _=>{ posonlyargs:=[],args:=[],vararg:=none,kwonlyargs:=[],kw_defaults:=[],kwarg:=none,defaults:=[] }
noncomputable def AD(s:Stmt):List Stmt:=match s with
 | .FunctionDef _ _ b _ _ _ _ _ _ _=>b
 | _=>[]
noncomputable def HA(s:Stmt):Scope:=match s with
 | .FunctionDef _ _ _ _ _ _ sc _ _ _=>sc
 | _=>{ kind:=.function,names:=[],isGenerator:=false,isCoroutine:=false }
noncomputable abbrev dG:WJ:=fun _ _ _ _ _ _=>False
noncomputable abbrev E0:XK:=fun _ _ _=>False
theorem aP{X:Cx}:vI dG X E0:=fun _ _ _ _ _ _ _ h=>h.elim
structure Fun(K:Frag)(x qual:Str)(st:Stmt)(f:Addr)(fd:FuncData):Prop where
 ex:∃(oc:Value)(od:Option Addr)(kV doc pm:Value)(an:Option Addr)(cdv ct:Value)(osl:Array (Option Value)),
  fd=fnOf x qual (mF st) (AD st) (HA st) .none kV doc pm an cdv ct/\K.lookup f=some ⟨oc,od,.func fd,osl⟩/\PySem.W.codeIn K cdv qual=true
 kp:keepIn K (.ref f)=true
section
variable{P:Program}{w:World}{K:Frag}{mg:Str->Option Value}{base:Heap}
theorem Fun.ok{x qual:Str}{st:Stmt}{f:Addr}{fd:FuncData}{N ps:List Str}{k:Nat}{sp:Sp}(F:Fun K x qual st f fd)(S:dB N ps (HA st))(len:∀vs H Q E,sp vs H Q E->vs.length=ps.length)
 (hbody:∀(cdv:Value)(A:Around)(outer:List Env)(s:Shared)(H:Hp)(vs:List V)(Q:VK)(E:XK),Zm k (A.deeper (envOfC qual (HA st) s.heap.objs.size f cdv))->sp vs H Q E->
  ∃t,PSs (AF dG P w K mg base N qual (HA st) f cdv A outer s H E).nox (AD st) t/\t { nx:=fun _ H'=>Q .non H',rt:=Q } (HF N vs) H):Ql P w K mg base dG (k+1) f fd ps sp:=by
 obtain⟨oc,od,kV,doc,pm,an,cdv,ct,osl,rfl,lk,hcd⟩:=F.ex;refine MZ lk hcd S len fun A outer s H vs Q E hr hsp=>?_
 obtain⟨t,h,q⟩:=hbody cdv A outer s H vs Q E hr hsp;exact⟨t,h.nox,q⟩
theorem Fun.binds{x qual:Str}{st:Stmt}{f:Addr}{fd:FuncData}{ps:List Str}(F:Fun K x qual st f fd)
 (h:∀(kV doc pm:Value)(an:Option Addr)(cdv ct:Value)(us:List Value),us.length=ps.length->bindArgs (fnOf x qual (mF st) (AD st) (HA st) .none kV doc pm an cdv ct) ⟨us,[]⟩=pure (ps.zip us)):Binds K fd ps []:=by
 obtain⟨oc,od,kV,doc,pm,an,cdv,ct,osl,rfl,lk,hcd⟩:=F.ex;exact .all (h kV doc pm an cdv ct)
theorem GO{x qual:Str}{st:Stmt}{f:Addr}{oc:Value}{od an:Option Addr}{osl:Array (Option Value)}{kV doc pm cdv ct:Value}(l:K.lookup f=some ⟨oc,od,.func (fnOf x qual (mF st) (AD st) (HA st) .none kV doc pm an cdv ct),osl⟩)
 (c:PySem.W.codeIn K cdv qual=true) (k:keepIn K (.ref f)=true):Fun K x qual st f (fnOf x qual (mF st) (AD st) (HA st) .none kV doc pm an cdv ct):=⟨⟨oc,od,kV,doc,pm,an,cdv,ct,osl,rfl,l,c⟩,k⟩
end
section
variable{X:Cx}
end
theorem nH{A B:Prop}(h:B):if false=true then A else B:=by rw[if_neg zf0];exact h
theorem oH{A B:Prop}(h:A):if true=true then A else B:=by rw[if_pos rfl];exact h
noncomputable def Same(H H':Hp):Prop:=∀b o,H b=some o->H' b=some o
theorem Same.refl(H:Hp):Same H H:=fun _ _ h=>h
theorem Same.trans{H H1 H2:Hp}(a:Same H H1)(b:Same H1 H2):Same H H2:=fun c o h=>b c o (a c o h)
theorem Same.free{H H':Hp}(e:Same H H'){l:Addr}(h:H' l=Option.none):H l=Option.none:=by
 cases q:H l with
 | none=>rfl
 | some o=>rw[e l o q]at h;cases h
open PySem.AutoSeq1 (wpAny_loadPart')
open PySem.SeqAt PySem.MeetsSeq PySem.MeetsSeq2 PySem.MeetsSeq3
theorem Zj(l b:Addr)(items items2:Array Value)(n n2:Nat)(dd dd2:Option Addr)(sl sl2:Array (Option Value))(hc0:items.size+items2.size<=sizeLine) :
 Meets (Builtin.«list.__add__» ⟨[.ref l,.ref b],[]⟩) (fun _ R s=>s.heap.get? l=some { cls:=.type "list",dict:=dd,data:=.seq items n,slots:=sl }/\s.heap.get? b=some { cls:=.type "list",dict:=dd2,data:=.seq items2 n2,slots:=sl2 }/\R (.ok (.ret (Value.ref s.heap.objs.size))) { s with heap:=s.heap.push { cls:=Value.type "list",data:=Data.seq (items++items2) },toks:=s.toks }):=
 .of_wp fun prog w A R s h=>by obtain⟨hp,g,d,tk,os⟩:=s;obtain⟨hl,hb,h⟩:=h;have f1:=AutoSeq1.idx_int;have f2:=AutoSeq1.sub_tuple_tuple;have f3:=AutoSeq1.sub_list_list;have f4:=AutoSeq1.sub_tuple_list;have f5:=AutoSeq1.sub_list_tuple;wp_walk using wpAny_loadPart' hl,wpAny_loadPart' hb;exact⟨_,rfl,h⟩
section
variable{X:Cx}
theorem JY:vp X (binaryOp .Add) (fun x y H Q=>∃l b xs zs,x=.ref l/\y=.ref b/\yp X.K H l xs/\yp X.K H b zs/\xs.length+zs.length<=sizeLine/\∀p,H p=none->Q (.ref p) (KB H p (.lst (xs++zs)))):=by
 intro pins s σ H x y v u Q I rx ry h;obtain⟨l,b,xs,zs,rfl,rfl,hH,hB,hz,q⟩:=h;cases rx;cases ry;obtain⟨its,r,⟨⟨c1,d1,t1,sl1⟩,n,e,k1,k2,k3⟩,z⟩:=I.list hH;obtain⟨its2,r2,⟨⟨c2,d2,t2,sl2⟩,n2,e2,m1,m2,m3⟩,z2⟩:=I.list hB;simp only at k1 k2 k3 m1 m2 m3;subst k1 k2 k3 m1 m2 m3;have hl:=r.length;have hl2:=r2.length;refine concat_meets ⟨_,e,rfl⟩ ⟨_,e2,rfl⟩ noFill_list_add seq_list_add F.slot_list_add F.entry_list_add (F.args_list_add_2 _ _) (Zj l b its.toArray its2.toArray n n2 none none sl1 sl2 (by rw[size_toArray,size_toArray];omega)) ⟨e,e2,?_⟩;have ea:its.toArray++its2.toArray=(its++its2).toArray:=by simp
 rw[ea];exact⟨.ref _,_,I.zbZ (t':=s.toks) (r.append r2) (by rw[length_append];omega),rfl,q _ I.fresh⟩
theorem rN{us:List Value}{ns:List Int}(h:IntsAre us ns):∃xs:Array (Int×Tok),us.toArray=intItems xs/\xs.toList.map (·.1)=ns:=by obtain⟨xs,e⟩:=h.allInts.items;refine⟨xs,e,?_⟩;have e2:=h.numsOf;rw[<- nums_intItems,<- e];exact e2
theorem S9 (hc:X.calm=true):Hl X (.builtin "sum") (fun xs H Q=>∃(p:Addr) (ns:List Int),xs=[.ref p]/\yp X.K H p (ns.map V.int)/\Q (.int ns.sum) H):=by
 intro pins s σ H xs us Q I r h;obtain⟨p,ns,rfl,hq,q⟩:=h;obtain⟨u,rfl,rx⟩:=cG r;cases rx;obtain⟨its,r',pl,hz⟩:=I.list hq;obtain⟨ys,e,e2⟩:=rN (qN r');have hl:=pl.isList;rw[e]at hl;refine sum_intListG (I.ok.hd hc) hl fun h' tk t' k=>⟨.int ns.sum,H,I.kept k,⟨t',?_⟩,q⟩
 rw[preSum_eq,take_of_length_le (by simp),e2]
theorem P9 (hc:X.calm=true):Hl X (.builtin "max") (fun xs H Q=>∃(p:Addr) (ns:List Int),xs=[.ref p]/\yp X.K H p (ns.map V.int)/\ns ≠ []/\∀M,M∈ns->(∀a∈ns,a<=M)->Q (.int M) H):=by
 intro pins s σ H xs us Q I r h;obtain⟨p,ns,rfl,hq,hne,q⟩:=h;obtain⟨u,rfl,rx⟩:=cG r;cases rx;obtain⟨its,r',pl,hz⟩:=I.list hq;obtain⟨ys,e,e2⟩:=rN (qN r');have hl:=pl.isList;rw[e]at hl;have hsz:0<ys.size:=by
  rcases Nat.eq_zero_or_pos ys.size with z | z
  · exfalso;apply hne;rw[<- e2];have:ys.toList=[]:=by apply eq_nil_of_length_eq_zero;simpa using z
    rw[this];rfl
  · exact z
 refine max_intList (I.ok.hd hc) hl hsz fun v h' tk hv k=>?_
 obtain⟨t,rfl⟩:=intItems_at hv;obtain⟨h1,h2⟩:=argBest_gt (numAt ys) (ys.size-1);refine⟨.int _,H,I.kept k,⟨t,rfl⟩,q _ ?_ fun a ha=>?_⟩
 · rw[numAt_eq,<- e2];exact getD_mem (by rw[length_map,Array.length_toList];omega)
 · rw[<- e2]at ha;obtain⟨j,hj,rfl⟩:=mem_getD ha;rw[length_map,Array.length_toList]at hj;rw[<- numAt_eq];exact h2 j (by omega)
theorem R9 (hc:X.calm=true):Hl X (.builtin "min") (fun xs H Q=>∃(p:Addr) (ns:List Int),xs=[.ref p]/\yp X.K H p (ns.map V.int)/\ns ≠ []/\∀M,M∈ns->(∀a∈ns,M<=a)->Q (.int M) H):=by
 intro pins s σ H xs us Q I r h;obtain⟨p,ns,rfl,hq,hne,q⟩:=h;obtain⟨u,rfl,rx⟩:=cG r;cases rx;obtain⟨its,r',pl,hz⟩:=I.list hq;obtain⟨ys,e,e2⟩:=rN (qN r');have hl:=pl.isList;rw[e]at hl;have hsz:0<ys.size:=by
  rcases Nat.eq_zero_or_pos ys.size with z | z
  · exfalso;apply hne;rw[<- e2];have:ys.toList=[]:=by apply eq_nil_of_length_eq_zero;simpa using z
    rw[this];rfl
  · exact z
 refine min_intList (I.ok.hd hc) hl hsz fun v h' tk hv k=>?_
 obtain⟨t,rfl⟩:=intItems_at hv;obtain⟨h1,h2⟩:=argBest_lt (numAt ys) (ys.size-1);refine⟨.int _,H,I.kept k,⟨t,rfl⟩,q _ ?_ fun a ha=>?_⟩
 · rw[numAt_eq,<- e2];exact getD_mem (by rw[length_map,Array.length_toList];omega)
 · rw[<- e2]at ha;obtain⟨j,hj,rfl⟩:=mem_getD ha;rw[length_map,Array.length_toList]at hj;rw[<- numAt_eq];exact h2 j (by omega)
def vd(K:Frag)(H:Hp)(x:V)(t:String):Prop:=match x with
 | .non=>t = "NoneType"
 | .bl _=>t = "bool"
 | .int _=>t = "int"
 | .str _=>t = "str"
 | .ref a=>(t = "list" /\ ∃xs,yp K H a xs)\/(t = "tuple" /\ ∃xs,NI K H a xs)
 | _=>False
theorem Lx {T:String}:Hl X (.builtin "isinstance") (fun xs H Q=>∃x t b,xs=[x,.ty T]/\vd X.K H x t/\PySem.W.kitOne X.K (.type t) (.type T)=some b/\Q (.bl b) H):=by
 intro pins s σ H xs us Q I r h;obtain⟨x,t,b,rfl,ty,e,q⟩:=h;obtain⟨u,u2,rfl,rx,ry⟩:=yU r;cases ry;have fin:∀tk,EP X pins σ Q (.bool b) { s with toks:=tk }:=fun tk=>⟨.bl b,H,I.tok tk,rfl,q⟩
 cases x with
 | non=>cases (show t = "NoneType" from ty);cases rx;exact PySem.W.kia_one PySem.W.kitx_none I.kIn True.intro e (fun z=>nomatch z) fin
 | bl y=>cases (show t = "bool" from ty);cases rx;exact PySem.W.kia_one PySem.W.kitx_bool I.kIn True.intro e (fun z=>nomatch z) fin
 | int i=>cases (show t = "int" from ty);obtain⟨_,rfl⟩:=rx;exact PySem.W.kia_one PySem.W.kitx_int I.kIn True.intro e (fun z=>nomatch z) fin
 | str y=>cases (show t = "str" from ty);obtain⟨_,rfl⟩:=rx;exact PySem.W.kia_one PySem.W.kitx_str I.kIn True.intro e (fun z=>nomatch z) fin
 | ref a=>
  cases rx;rcases ty with⟨rfl,ys,sq⟩ | ⟨rfl,ys,sq⟩
  · obtain⟨its,_,⟨o,n,h1,h2,_,_⟩,_⟩:=I.list sq;exact PySem.W.kia_one PySem.W.kitx_list I.kIn ⟨o,h1,h2⟩ e (fun z=>nomatch z) fin
  · obtain⟨its,_,⟨o,h1,h2,_⟩,_⟩:=I.tuple sq;exact PySem.W.kia_one PySem.W.kitx_tuple I.kIn ⟨o,h1,h2⟩ e (fun z=>nomatch z) fin
 | byt _=>exact False.elim ty
 | flt _=>exact False.elim ty
 | ty _=>exact False.elim ty
end
open PySem.AutoSeq1 (wpAny_loadPart')
open PySem.SeqAt PySem.MeetsSeq PySem.MeetsSeq2 PySem.MeetsSeq3
theorem dj(l b:Addr)(items items2:Array Value)(n n2:Nat)(dd dd2:Option Addr)(sl sl2:Array (Option Value))(e:Nat->Bool) :
 Meets (Builtin.«tuple.__ne__» ⟨[.ref l,.ref b],[]⟩)
  (fun A R s=>s.heap.get? l=some { cls:=.type "tuple",dict:=dd,data:=.seq items n,slots:=sl }/\s.heap.get? b=some { cls:=.type "tuple",dict:=dd2,data:=.seq items2 n2,slots:=sl2 }/\
   (∀j (h1:j<items.size) (h2:j<items2.size),EqAt A.in1 s items[j] items2[j] (e j))/\
   R (.ok (.ret (.bool (!((List.range (min items.size items2.size)).all e&&items.size==items2.size))))) s):=
 .of_wp fun prog w A R s h=>by
  obtain⟨hp,g,d,tk,os⟩:=s;obtain⟨hl,hb,he,h⟩:=h;have f2:=AutoSeq1.sub_tuple_tuple;have hZ:(items.toList.zip items2.toList).length=min items.size items2.size:=by simp
  wp_walk using wpAny_loadPart' hl,wpAny_loadPart' hb,wpAny_forIn_list _ (fun rest b s'=>b.1=none/\s'=⟨hp,g,d,tk,os⟩/\∃i,rest=(items.toList.zip items2.toList).drop i/\
   R (.ok (.ret (.bool (!(((List.range (min items.size items2.size)).drop i).all e&&items.size==items2.size))))) ⟨hp,g,d,tk,os⟩) _
  case turn=>
   rintro⟨y,x⟩ rest b s' ⟨hb',rfl,i,hz,hR⟩;have hlt:i<(items.toList.zip items2.toList).length:=by
    rcases Nat.lt_or_ge i (items.toList.zip items2.toList).length with h' | h'
    · exact h'
    · rw[drop_of_length_le h']at hz;cases hz
   have hm:i<min items.size items2.size:=hZ ▸ hlt;have h1:i<items.size:=Nat.lt_of_lt_of_le hm (Nat.min_le_left _ _);have h2:i<items2.size:=Nat.lt_of_lt_of_le hm (Nat.min_le_right _ _);rw[drop_eq_getElem_cons hlt]at hz;injection hz with hyx hrest
   have hy:y=items[i]:=by have:=congrArg Prod.fst hyx;simpa using this
   have hx:x=items2[i]:=by have:=congrArg Prod.snd hyx;simpa using this
   subst hy hx;have hd:(List.range (min items.size items2.size)).drop i=i::(List.range (min items.size items2.size)).drop (i+1):=by simp[drop_eq_getElem_cons,hm]
   rw[hd,all_cons]at hR;refine wpAny_bind (he i h1 h2 prog w _ _ ?_);cases hy:e i with
   | true=>
    rw[hy]at hR
    wp_walk
    exact⟨rfl,rfl,i+1,hrest,by simpa only[Bool.true_and]using hR⟩
   | false=>
    rw[hy]at hR
    wp_walk
    exact⟨_,rfl,by simpa only[Bool.false_and,Bool.not_false]using hR⟩
  case fin=>
   rintro⟨b1,b2⟩ s' ⟨hb',rfl,i,hz,hR⟩;simp only at hb';subst hb';have hge:min items.size items2.size<=i:=by
    rcases Nat.lt_or_ge i (items.toList.zip items2.toList).length with h' | h'
    · rw[drop_eq_getElem_cons h']at hz;cases hz
    · exact hZ ▸ h'
   rw[drop_of_length_le (by simpa using hge)]at hR
   wp_walk
   exact⟨_,rfl,by simpa[Builtin.Tuple.tupleCompareSizes,bne]using hR⟩
  case h=>exact⟨rfl,rfl,0,rfl,by simpa only[drop_zero]using h⟩
theorem Jj(l b:Addr)(items items2:Array Value)(n n2:Nat)(dd dd2:Option Addr)(sl sl2:Array (Option Value))(hsz:items.size=items2.size)(e:Nat->Bool)(k:Nat) :
 ∀i:Nat,items.size-i=k->Meets (Builtin.«list.__eq__.loop» ⟨[.ref l,.ref b,rawInt i,rawInt 3],[]⟩)
  (fun A R s=>s.heap.get? l=some { cls:=.type "list",dict:=dd,data:=.seq items n,slots:=sl }/\s.heap.get? b=some { cls:=.type "list",dict:=dd2,data:=.seq items2 n2,slots:=sl2 }/\
   (∀j (h1:j<items.size) (h2:j<items2.size),EqAt A.in1 s items[j] items2[j] (e j))/\
   R (.ok (.ret (.bool (!(((List.range items.size).drop i).all e))))) s):=by
 induction k with
 | zero=>
  intro i hk prog w A R s h;obtain⟨hp,g,d,tk,os⟩:=s;obtain⟨hl,hb,he,h⟩:=h
  wp_walk using wpAny_loadPart' hl,wpAny_loadPart' hb
  have hi1:items[((i:Nat):Int).toNat]?=none:=by simp;omega
  have hi2:items2[((i:Nat):Int).toNat]?=none:=by simp;omega
  have hd:(List.range items.size).drop i=[]:=by simp;omega
  rw[hd]at h;rw[hi1,hi2]
  wp_walk using wpAny_loadPart' hl,wpAny_loadPart' hb
  show R (.ok (.ret (.bool (items.size !=items2.size)))) _;rw[hsz];simpa using h
 | succ k ih=>
  intro i hk prog w A R s h;obtain⟨hp,g,d,tk,os⟩:=s;obtain⟨hl,hb,he,h⟩:=h
  wp_walk using wpAny_loadPart' hl,wpAny_loadPart' hb
  have hlt:i<items.size:=by omega
  have hlt2:i<items2.size:=by omega
  have hi1:items[((i:Nat):Int).toNat]?=some items[i]:=by simp[hlt]
  have hi2:items2[((i:Nat):Int).toNat]?=some items2[i]:=by simp[hlt2]
  have hd:(List.range items.size).drop i=i::(List.range items.size).drop (i+1):=by simp[drop_eq_getElem_cons,hlt]
  have hc:((i:Int)+1)=((i+1:Nat):Int):=by push_cast;rfl
  rw[hd,all_cons]at h;rw[hi1,hi2];refine wpAny_bind (he i hlt hlt2 prog w _ _ ?_);cases hb':e i with
  | true=>
   rw[hb']at h
   wp_walk
   rw[hc];exact⟨plainId_quiet plain_eq_loop _,codeAny_builtin entry_eq_loop (by
    rw[Around.under_plainId plain_eq_loop _];exact ih (i+1) (by omega) prog w A R _ ⟨hl,hb,he,by simpa only[Bool.true_and]using h⟩)⟩
  | false=>
   rw[hb']at h
   wp_walk using wpAny_loadPart' hl,wpAny_loadPart' hb
   rw[hi1,hi2]
   wp_walk
   simpa using h
theorem aq(l b:Addr)(items items2:Array Value)(n n2:Nat)(dd dd2:Option Addr)(sl sl2:Array (Option Value))(hsz:items.size=items2.size)(e:Nat->Bool) :
 Meets (Builtin.«list.__ne__» ⟨[.ref l,.ref b],[]⟩)
  (fun A R s=>s.heap.get? l=some { cls:=.type "list",dict:=dd,data:=.seq items n,slots:=sl }/\s.heap.get? b=some { cls:=.type "list",dict:=dd2,data:=.seq items2 n2,slots:=sl2 }/\
   (∀j (h1:j<items.size) (h2:j<items2.size),EqAt A.in1 s items[j] items2[j] (e j))/\
   R (.ok (.ret (.bool (!((List.range items.size).all e))))) s):=by
 intro prog w A R s h;obtain⟨hp,g,d,tk,os⟩:=s;obtain⟨hl,hb,he,h⟩:=h;have f3:=AutoSeq1.sub_list_list;have hne:¬(items.size !=items2.size)=true:=by simp[hsz]
 wp_walk using wpAny_loadPart' hl,wpAny_loadPart' hb
 exact⟨plainId_quiet plain_eq_loop _,codeAny_builtin entry_eq_loop (by
  rw[Around.under_plainId plain_eq_loop _];exact Jj l b items items2 n n2 dd dd2 sl sl2 hsz e _ 0 rfl prog w A R _ ⟨hl,hb,he,by simpa only[drop_zero]using h⟩)⟩
theorem y7(l b:Addr)(items items2:Array Value)(n n2:Nat)(dd dd2:Option Addr)(sl sl2:Array (Option Value))(hc0:(items.size !=items2.size)=true) :
 Meets (Builtin.«list.__ne__» ⟨[.ref l,.ref b],[]⟩)
  (fun _ R s=>s.heap.get? l=some { cls:=.type "list",dict:=dd,data:=.seq items n,slots:=sl }/\s.heap.get? b=some { cls:=.type "list",dict:=dd2,data:=.seq items2 n2,slots:=sl2 }/\
   R (.ok (.ret (.bool true))) s):=
 .of_wp fun prog w A R s h=>by
  obtain⟨hp,g,d,tk,os⟩:=s;obtain⟨hl,hb,h⟩:=h;have f3:=AutoSeq1.sub_list_list
  wp_walk using wpAny_loadPart' hl,wpAny_loadPart' hb
  exact⟨_,rfl,h⟩
section
variable{prog:Program}{w:World}{A:Around}{E:Value->Shared->Prop}{s:Shared}{Q:Value->Shared->Prop}
theorem Lj{l b:Addr}{items items2:Array Value}{e:Nat->Bool}(hl:s.heap.IsTuple l items)(hb:s.heap.IsTuple b items2)(hu:A.units<cLine)
 (he:∀j (h1:j<items.size) (h2:j<items2.size),EqAt A.in1 s items[j] items2[j] (e j)) (h:Q (.bool (!((List.range (min items.size items2.size)).all e&&items.size==items2.size))) s):wpAny (model prog w) A (compareOp .NotEq (.ref l) (.ref b)) Q E s:=by
 obtain⟨⟨cls,dd,data,sl⟩,ho,hc,n,hd⟩:=id hl;obtain⟨⟨cls2,dd2,data2,sl2⟩,ho2,hc2,n2,hd2⟩:=id hb;simp only at hc hd hc2 hd2;subst hc hd hc2 hd2;exact richCompare_meets_room (op:=.NotEq) ⟨_,ho,rfl⟩ ⟨_,ho2,rfl⟩ F.slot_tuple_ne F.entry_tuple_ne (F.args_tuple_ne_2 _ _) (dj l b items items2 n n2 dd dd2 sl sl2 e) ⟨ho,ho2,he,⟨(fun x=>nomatch x),h⟩⟩ hu
theorem Oz{l b:Addr}{items items2:Array Value}{e:Nat->Bool}(hl:s.heap.IsList l items)(hb:s.heap.IsList b items2)(hsz:items.size=items2.size)(hu:A.units<cLine)
 (he:∀j (h1:j<items.size) (h2:j<items2.size),EqAt A.in1 s items[j] items2[j] (e j)) (h:Q (.bool (!((List.range items.size).all e))) s):wpAny (model prog w) A (compareOp .NotEq (.ref l) (.ref b)) Q E s:=by
 obtain⟨⟨cls,dd,data,sl⟩,ho,hc,n,hd⟩:=id hl;obtain⟨⟨cls2,dd2,data2,sl2⟩,ho2,hc2,n2,hd2⟩:=id hb;simp only at hc hd hc2 hd2;subst hc hd hc2 hd2;exact richCompare_meets_room (op:=.NotEq) ⟨_,ho,rfl⟩ ⟨_,ho2,rfl⟩ F.slot_list_ne F.entry_list_ne (F.args_list_ne_2 _ _) (aq l b items items2 n n2 dd dd2 sl sl2 hsz e) ⟨ho,ho2,he,⟨(fun x=>nomatch x),h⟩⟩ hu
theorem z8{l b:Addr}{items items2:Array Value}(hl:s.heap.IsList l items)(hb:s.heap.IsList b items2)(hsz:(items.size !=items2.size)=true)(hu:A.units<cLine)
 (h:Q (.bool true) s):wpAny (model prog w) A (compareOp .NotEq (.ref l) (.ref b)) Q E s:=by
 obtain⟨⟨cls,dd,data,sl⟩,ho,hc,n,hd⟩:=id hl;obtain⟨⟨cls2,dd2,data2,sl2⟩,ho2,hc2,n2,hd2⟩:=id hb;simp only at hc hd hc2 hd2;subst hc hd hc2 hd2;exact richCompare_meets_room (op:=.NotEq) ⟨_,ho,rfl⟩ ⟨_,ho2,rfl⟩ F.slot_list_ne F.entry_list_ne (F.args_list_ne_2 _ _) (y7 l b items items2 n n2 dd dd2 sl sl2 hsz) ⟨ho,ho2,⟨(fun x=>nomatch x),h⟩⟩ hu
end
end L2
namespace SM
inductive Dt where
 | non | bl (b:Bool) | int (i:Int) | str (x:Str) | tup (xs:List Dt) | lst (xs:List Dt) | ref (n:Nat) | Ip (xs:List Int)
inductive Ob where
 | lst (xs:List Dt)
 | ins (x:Str) (fs:List (Str×Dt))
 | dk (kvs:List (nC×Dt))
 | dt (kvs:List (List Int×Dt))
 | df (kvs:List (List Int×Dt))
noncomputable abbrev HI:=List Ob
noncomputable abbrev LI:=List (Option Dt)
structure Rg where
 v:List Addr
 z:List Addr
noncomputable def Rg.no(ρ:Rg)(a:Addr):Prop:=a∉ρ.v/\a∉ρ.z
noncomputable def Rg.add(ρ:Rg)(p:Addr):Rg:=⟨ρ.v++[p],ρ.z⟩
noncomputable def Rg.hide(ρ:Rg)(p:Addr):Rg:=⟨ρ.v,p::ρ.z⟩
noncomputable def Rg.nil:Rg:=⟨[],[]⟩
def TupAt(K:Frag)(H:Hp)(ρ:Rg)(a:Addr)(vs:List V):Prop:=
 (ρ.no a/\Rd H a (.tup vs))\/
  ∃(o:Obj) (its:Array Value) (n:Nat),K.lookup a=some o/\o.cls=.type "tuple" /\ o.data=.seq its n/\its.size<=sizeLine/\Vals vs its.toList
def LstAt(K:Frag)(H:Hp)(ρ:Rg)(a:Addr)(vs:List V):Prop:=
 (ρ.no a/\Rd H a (.lst vs))\/
  ∃(o:Obj) (its:Array Value) (n:Nat),K.lookup a=some o/\o.cls=.type "list" /\ o.dict=none/\o.data=.seq its n/\its.size<=sizeLine/\Vals vs its.toList
theorem TupAt.sq{K:Frag}{H:Hp}{ρ:Rg}{a:Addr}{vs:List V}(h:TupAt K H ρ a vs):NI K H a vs:=by
 rcases h with⟨_,h⟩ | h
 · exact .inl h
 · exact .inr h
theorem LstAt.sq{K:Frag}{H:Hp}{ρ:Rg}{a:Addr}{vs:List V}(h:LstAt K H ρ a vs):yp K H a vs:=by
 rcases h with⟨_,h⟩ | h
 · exact .inl h
 · exact .inr h
mutual
noncomputable def zm(K:Frag)(H:Hp)(ρ:Rg):Dt->V->Prop
 | .non,v=>v=.non
 | .bl b,v=>v=.bl b
 | .int i,v=>v=.int i
 | .str x,v=>v=.str x
 | .tup xs,v=>∃a vs,v=.ref a/\TupAt K H ρ a vs/\jm K H ρ xs vs
 | .lst xs,v=>∃a vs,v=.ref a/\LstAt K H ρ a vs/\jm K H ρ xs vs
 | .ref n,v=>∃a,v=.ref a/\ρ.v[n]?=some a
 | .Ip xs,v=>∃a,v=.ref a/\ρ.no a/\H a=some (.tup (xs.map V.int))
noncomputable def jm(K:Frag)(H:Hp)(ρ:Rg):List Dt->List V->Prop
 | [],vs=>vs=[]
 | x::xs,vs=>∃v r,vs=v::r/\zm K H ρ x v/\jm K H ρ xs r
end
structure Ext(ρ ρ':Rg)(H H':Hp):Prop where
 pre:∃e,ρ'.v=ρ.v++e/\∀a∈e,H a=none
 hid:ρ'.z=ρ.z
 keep:∀a o,H a=some o->a∉ρ.v->H' a=some o
 live:∀a,H' a=none->H a=none
 fz:∀a o u,H a=some (.frz o u)->H' a=some (.frz o u)
theorem Ext.refl(ρ:Rg)(H:Hp):Ext ρ ρ H H:=⟨⟨[],by simp,by simp⟩,rfl,fun _ _ h _=>h,fun _ h=>h,fun _ _ _ h=>h⟩
theorem Ext.zcv{ρ ρ':Rg}{H H':Hp}(x:Ext ρ ρ' H H'){a:Addr}{o:HO}(h:H a=some o)(n:a∉ρ.v):a∉ρ'.v:=by
 obtain⟨e,e',hn⟩:=x.pre;rw[e'];intro hm;rcases mem_append.mp hm with hm | hm
 · exact n hm
 · have:=hn a hm;rw[h]at this;cases this
theorem Ext.zbl{ρ ρ':Rg}{H H':Hp}(x:Ext ρ ρ' H H'){a:Addr}{o:HO}(h:H a=some o)(n:ρ.no a):ρ'.no a:=⟨x.zcv h n.1,by rw[x.hid];exact n.2⟩
theorem Ext.trans{ρ ρ1 ρ2:Rg}{H H1 H2:Hp}(x:Ext ρ ρ1 H H1)(y:Ext ρ1 ρ2 H1 H2):Ext ρ ρ2 H H2:=by
 refine⟨?_,y.hid.trans x.hid,fun a o h n=>y.keep a o (x.keep a o h n) (x.zcv h n),fun a h=>x.live a (y.live a h),fun a o u h=>y.fz a o u (x.fz a o u h)⟩;obtain⟨e,q1,h1⟩:=x.pre;obtain⟨e',q2,h2⟩:=y.pre;refine⟨e++e',by rw[q2,q1,append_assoc],fun a ha=>?_⟩;rcases mem_append.mp ha with ha | ha
 · exact h1 a ha
 · exact x.live a (h2 a ha)
theorem Ext.get{ρ ρ':Rg}{H H':Hp}(x:Ext ρ ρ' H H'){n:Nat}{a:Addr}(h:ρ.v[n]?=some a):ρ'.v[n]?=some a:=by obtain⟨e,e',_⟩:=x.pre;have:=(zfY h).1;rw[e',zfZ this];exact h
theorem Ext.fresh{ρ:Rg}{H:Hp}{p:Addr}{o:HO}(h:H p=none):Ext ρ ρ H (KB H p o):=by
 refine⟨⟨[],by simp,by simp⟩,rfl,fun a u e _=>?_,fun a e=>?_,fun a o u e=>by rw[cB (mD e h)];exact e⟩
 · rw[cB (mD e h)];exact e
 · by_cases ha:a=p
   · subst ha;exact h
   · rw[cB ha]at e;exact e
theorem Ext.own{ρ:Rg}{H:Hp}{p:Addr}{o:HO}(h:H p=none):Ext ρ (ρ.add p) H (KB H p o):=by refine⟨⟨[p],rfl,fun a ha=>?_⟩,rfl,(Ext.fresh (ρ:=ρ) h).keep,(Ext.fresh (ρ:=ρ) h).live,(Ext.fresh (ρ:=ρ) h).fz⟩;rw[mem_singleton.mp ha];exact h
noncomputable def MU(H:Hp)(a:Addr):Prop:=∀o u,H a≠some (.frz o u)
theorem AG{H:Hp}{a:Addr}{vs:List V}(h:H a=some (.lst vs)):MU H a:=fun _ _ e=>by rw[h]at e;cases e
theorem Ext.write{ρ:Rg}{H:Hp}{a:Addr}{o:HO}(ha:a∈ρ.v)(nf:MU H a):Ext ρ ρ H (KB H a o):=by
 refine⟨⟨[],by simp,by simp⟩,rfl,fun b u e n=>?_,fun b e=>?_,fun b q u e=>by rw[cB (fun z:b=a=>nf q u (by rw[<- z];exact e))];exact e⟩
 · rw[cB (fun z=>n (by rw[z];exact ha))];exact e
 · by_cases hb:b=a
   · subst hb;rw[SC]at e;cases e
   · rw[cB hb]at e;exact e
structure Kl(ρ ρ':Rg)(H H':Hp):Prop where
 no:∀a u,H a=some u->ρ.no a->ρ'.no a
 eq:∀a u,H a=some u->ρ.no a->H' a=some u
 ix:∀(n:Nat) a,ρ.v[n]?=some a->ρ'.v[n]?=some a
 fz:∀a o u,H a=some (.frz o u)->H' a=some (.frz o u)
theorem Ext.same{ρ ρ':Rg}{H H':Hp}(x:Ext ρ ρ' H H'):Kl ρ ρ' H H':=⟨fun _ _ e n=>x.zbl e n,fun _ _ e n=>x.keep _ _ e n.1,fun _ _ e=>x.get e,x.fz⟩
theorem Kl.trans{ρ ρ1 ρ2:Rg}{H H1 H2:Hp}(x:Kl ρ ρ1 H H1)(y:Kl ρ1 ρ2 H1 H2):Kl ρ ρ2 H H2:=
 ⟨fun a u e n=>y.no a u (x.eq a u e n) (x.no a u e n),fun a u e n=>y.eq a u (x.eq a u e n) (x.no a u e n),fun n a e=>y.ix n a (x.ix n a e),fun a o u e=>y.fz a o u (x.fz a o u e)⟩
theorem TupAt.same{K:Frag}{ρ ρ':Rg}{H H':Hp}(x:Kl ρ ρ' H H'){a:Addr}{vs:List V}(h:TupAt K H ρ a vs):TupAt K H' ρ' a vs:=by
 rcases h with⟨n,t | ⟨y,t⟩⟩ | t
 · exact .inl ⟨x.no _ _ t n,.inl (x.eq _ _ t n)⟩
 · exact .inl ⟨x.no _ _ t n,.inr ⟨y,x.eq _ _ t n⟩⟩
 · exact .inr t
theorem LstAt.same{K:Frag}{ρ ρ':Rg}{H H':Hp}(x:Kl ρ ρ' H H'){a:Addr}{vs:List V}(h:LstAt K H ρ a vs):LstAt K H' ρ' a vs:=by
 rcases h with⟨n,t | ⟨y,t⟩⟩ | t
 · exact .inl ⟨x.no _ _ t n,.inl (x.eq _ _ t n)⟩
 · exact .inl ⟨x.no _ _ t n,.inr ⟨y,x.eq _ _ t n⟩⟩
 · exact .inr t
mutual
theorem zm.same{K:Frag}{ρ ρ':Rg}{H H':Hp}(x:Kl ρ ρ' H H'):∀(d:Dt){v:V},zm K H ρ d v->zm K H' ρ' d v
 | .non,_,h=>by simp only[zm]at h ⊢;exact h
 | .bl _,_,h=>by simp only[zm]at h ⊢;exact h
 | .int _,_,h=>by simp only[zm]at h ⊢;exact h
 | .str _,_,h=>by simp only[zm]at h ⊢;exact h
 | .tup xs,_,h=>by simp only[zm]at h ⊢;obtain⟨a,vs,e,t,r⟩:=h;exact⟨a,vs,e,t.same x,jm.same x xs r⟩
 | .lst xs,_,h=>by simp only[zm]at h ⊢;obtain⟨a,vs,e,t,r⟩:=h;exact⟨a,vs,e,t.same x,jm.same x xs r⟩
 | .ref _,_,h=>by simp only[zm]at h ⊢;obtain⟨a,e,t⟩:=h;exact⟨a,e,x.ix _ _ t⟩
 | .Ip _,_,h=>by simp only[zm]at h ⊢;obtain⟨a,e,n,t⟩:=h;exact⟨a,e,x.no _ _ t n,x.eq _ _ t n⟩
theorem jm.same{K:Frag}{ρ ρ':Rg}{H H':Hp}(x:Kl ρ ρ' H H'):∀(ds:List Dt){vs:List V},jm K H ρ ds vs->jm K H' ρ' ds vs
 | [],_,h=>by simp only[jm]at h ⊢;exact h
 | d::ds,_,h=>by simp only[jm]at h ⊢;obtain⟨v,r,e,h1,h2⟩:=h;exact⟨v,r,e,zm.same x d h1,jm.same x ds h2⟩
end
theorem zm.ext{K:Frag}{ρ ρ':Rg}{H H':Hp}(x:Ext ρ ρ' H H')(d:Dt){v:V}(h:zm K H ρ d v):zm K H' ρ' d v:=zm.same x.same d h
theorem jm.ext{K:Frag}{ρ ρ':Rg}{H H':Hp}{ds:List Dt}{vs:List V}(h:jm K H ρ ds vs)(x:Ext ρ ρ' H H'):jm K H' ρ' ds vs:=jm.same x.same ds h
section
variable{K:Frag}{H:Hp}{ρ:Rg}
theorem jm.nil:jm K H ρ [] []:=by simp only[jm]
theorem jm.cons{d:Dt}{v:V}{ds:List Dt}{vs:List V}(h:zm K H ρ d v)(r:jm K H ρ ds vs):jm K H ρ (d::ds) (v::vs):=by simp only[jm];exact⟨v,vs,rfl,h,r⟩
theorem jm.Jm{d:Dt}{ds:List Dt}{vs:List V}(h:jm K H ρ (d::ds) vs):∃v r,vs=v::r/\zm K H ρ d v/\jm K H ρ ds r:=by simpa only[jm]using h
theorem jm.Jl{vs:List V}(h:jm K H ρ [] vs):vs=[]:=by simpa only[jm]using h
theorem jm.length:∀{ds:List Dt}{vs:List V},jm K H ρ ds vs->vs.length=ds.length
 | [],_,h=>by rw[h.Jl];rfl
 | d::ds,_,h=>by obtain⟨v,r,rfl,_,h2⟩:=h.Jm;rw[zfO,zfO,jm.length h2]
theorem jm.get:∀{ds:List Dt}{vs:List V}{i:Nat}{d:Dt},jm K H ρ ds vs->ds[i]?=some d->∃v,vs[i]?=some v/\zm K H ρ d v
 | [],_,_,_,_,e=>by simp at e
 | d::ds,_,0,_,h,e=>by obtain⟨v,r,rfl,h1,_⟩:=h.Jm;simp at e;subst e;exact⟨v,rfl,h1⟩
 | d::ds,_,i+1,d',h,e=>by obtain⟨v,r,rfl,_,h2⟩:=h.Jm;obtain⟨u,q1,q2⟩:=jm.get (i:=i) h2 (by simpa using e);exact⟨u,by simpa using q1,q2⟩
theorem jm.append:∀{ds es:List Dt}{vs us:List V},jm K H ρ ds vs->jm K H ρ es us->jm K H ρ (ds++es) (vs++us)
 | [],_,_,_,h,h'=>by rw[h.Jl];exact h'
 | d::ds,_,_,_,h,h'=>by obtain⟨v,r,rfl,h1,h2⟩:=h.Jm;exact .cons h1 (jm.append h2 h')
theorem jm.set:∀{ds:List Dt}{vs:List V}{d:Dt}{v:V}(i:Nat),jm K H ρ ds vs->zm K H ρ d v->jm K H ρ (ds.set i d) (vs.set i v)
 | [],_,_,_,_,h,_=>by rw[h.Jl];exact .nil
 | d::ds,_,_,_,0,h,q=>by obtain⟨v,r,rfl,h1,h2⟩:=h.Jm;exact .cons q h2
 | d::ds,_,_,_,i+1,h,q=>by obtain⟨v,r,rfl,h1,h2⟩:=h.Jm;exact .cons h1 (jm.set i h2 q)
theorem jm.take:∀{ds:List Dt}{vs:List V}(n:Nat),jm K H ρ ds vs->jm K H ρ (ds.take n) (vs.take n)
 | [],_,n,h=>by rw[h.Jl];simp;exact .nil
 | d::ds,_,0,h=>.nil
 | d::ds,_,n+1,h=>by obtain⟨v,r,rfl,h1,h2⟩:=h.Jm;exact .cons h1 (jm.take n h2)
theorem jm.drop:∀{ds:List Dt}{vs:List V}(n:Nat),jm K H ρ ds vs->jm K H ρ (ds.drop n) (vs.drop n)
 | [],_,n,h=>by rw[h.Jl];simp;exact .nil
 | d::ds,_,0,h=>h
 | d::ds,_,n+1,h=>by obtain⟨v,r,rfl,h1,h2⟩:=h.Jm;exact jm.drop n h2
theorem jm.ints(ns:List Int):jm K H ρ (ns.map Dt.int) (ns.map V.int):=by
 induction ns with
 | nil=>exact .nil
 | cons n ns ih=>exact .cons (by simp only[zm]) ih
theorem jm.zao:∀{ns:List Int}{vs:List V},jm K H ρ (ns.map Dt.int) vs->vs=ns.map V.int
 | [],_,h=>h.Jl
 | n::ns,_,h=>by obtain⟨v,r,rfl,h1,h2⟩:=jm.Jm h;simp only[zm]at h1;rw[h1,jm.zao h2];rfl
theorem qm{i:Int}{v:V}:zm K H ρ (.int i) v↔v=.int i:=by simp only[zm]
theorem Am{i:Bool}{v:V}:zm K H ρ (.bl i) v↔v=.bl i:=by simp only[zm]
theorem Om{i:Str}{v:V}:zm K H ρ (.str i) v↔v=.str i:=by simp only[zm]
theorem Km{v:V}:zm K H ρ .non v↔v=.non:=by simp only[zm]
theorem Dm{xs:List Dt}{v:V}:zm K H ρ (.tup xs) v↔∃a vs,v=.ref a/\TupAt K H ρ a vs/\jm K H ρ xs vs:=by simp only[zm]
theorem Cm{xs:List Dt}{v:V}:zm K H ρ (.lst xs) v↔∃a vs,v=.ref a/\LstAt K H ρ a vs/\jm K H ρ xs vs:=by simp only[zm]
theorem Ep{xs:List Int}{v:V}:zm K H ρ (.Ip xs) v↔∃a,v=.ref a/\ρ.no a/\H a=some (.tup (xs.map V.int)):=by simp only[zm]
theorem Gm{n:Nat}{v:V}:zm K H ρ (.ref n) v↔∃a,v=.ref a/\ρ.v[n]?=some a:=by simp only[zm]
end
def zat(K:Frag)(H:Hp)(ρ:Rg)(a:Addr):Ob->Prop
 | .lst xs=>∃vs,H a=some (.lst vs)/\jm K H ρ xs vs
 | .ins x fs=>∃C dx vs,nsIn K mainGlobals x=some (some (.ref C))/\H a=some (.ins C dx vs)/\fs.map (·.1)=vs.map (·.1)/\jm K H ρ (fs.map (·.2)) (vs.map (·.2))
 | .dk kvs=>∃vs,H a=some (.dK vs)/\kvs.map (·.1)=vs.map (·.1)/\jm K H ρ (kvs.map (·.2)) (vs.map (·.2))
 | .dt kvs=>∃vs:List (List nC×V),H a=some (.dT vs)/\vs.map (·.1)=kvs.map (fun p=>p.1.map Sum.inl)/\jm K H ρ (kvs.map (·.2)) (vs.map (·.2))
 | .df kvs=>∃(o:Obj)(vs:List (List nC×V)),H a=some (.frz o (.dT vs))/\vs.map (·.1)=kvs.map (fun p=>p.1.map Sum.inl)/\jm K H ρ (kvs.map (·.2)) (vs.map (·.2))
structure Em(K:Frag)(ρ:Rg)(h:HI)(H:Hp):Prop where
 nd:ρ.v.Nodup
 len:ρ.v.length=h.length
 ob:∀(n:Nat) a o,ρ.v[n]?=some a->h[n]?=some o->zat K H ρ a o
 zt:∀a∈ρ.z,a∉ρ.v/\∃vs,H a=some (.lst vs)
theorem zat.ext{K:Frag}{H H':Hp}{ρ ρ':Rg}{a:Addr}{o:Ob}(x:Ext ρ ρ' H H')(e:H' a=H a)(h:zat K H ρ a o):zat K H' ρ' a o:=by
 cases o with
 | lst xs=>obtain⟨vs,h1,h2⟩:=h;exact⟨vs,e.trans h1,h2.ext x⟩
 | ins y fs=>obtain⟨C,dx,vs,h0,h1,h2,h3⟩:=h;exact⟨C,dx,vs,h0,e.trans h1,h2,h3.ext x⟩
 | dk kvs=>obtain⟨vs,h1,h2,h3⟩:=h;exact⟨vs,e.trans h1,h2,h3.ext x⟩
 | dt kvs=>obtain⟨vs,h1,h2,h3⟩:=h;exact⟨vs,e.trans h1,h2,h3.ext x⟩
 | df kvs=>obtain⟨o,vs,h1,h2,h3⟩:=h;exact⟨o,vs,e.trans h1,h2,h3.ext x⟩
theorem zat.some{K:Frag}{H:Hp}{ρ:Rg}{a:Addr}{o:Ob}(h:zat K H ρ a o):∃u,H a=some u:=by
 cases o with
 | lst xs=>obtain⟨vs,h1,_⟩:=h;exact⟨_,h1⟩
 | ins y fs=>obtain⟨C,dx,vs,_,h1,_⟩:=h;exact⟨_,h1⟩
 | dk kvs=>obtain⟨vs,h1,_⟩:=h;exact⟨_,h1⟩
 | dt kvs=>obtain⟨vs,h1,_⟩:=h;exact⟨_,h1⟩
 | df kvs=>obtain⟨o,vs,h1,_⟩:=h;exact⟨_,h1⟩
section
variable{K:Frag}{H H':Hp}{ρ:Rg}{h:HI}
theorem Em.nil:Em K .nil [] H:=⟨nodup_nil,rfl,fun _ _ _ e=>by simp[Rg.nil]at e,fun _ h=>nomatch h⟩
theorem Em.tracked(S:Em K ρ h H){a:Addr}(ha:a∈ρ.v):∃u,H a=some u:=by
 obtain⟨n,hn⟩:=mem_iff_getElem?.mp ha;have hl:n<h.length:=by rw[<- S.len];exact(zfY hn).1
 exact(S.ob n a _ hn (getElem?_eq_getElem hl)).some
theorem Em.out(S:Em K ρ h H){p:Addr}(hp:H p=none):ρ.no p:=by
 refine⟨fun ha=>?_,fun ha=>?_⟩
 · obtain⟨u,e⟩:=S.tracked ha;rw[hp]at e;cases e
 · obtain⟨_,u,e⟩:=S.zt p ha;rw[hp]at e;cases e
theorem Em.fresh(S:Em K ρ h H){p:Addr}{o:HO}(hp:H p=none):Em K ρ h (KB H p o):=
 ⟨S.nd,S.len,fun n a u e1 e2=>(S.ob n a u e1 e2).ext (Ext.fresh hp) (cB (fun z=>(S.out hp).1 (z ▸ mem_of_getElem? e1))),fun a ha=>by
  obtain⟨n,u,e⟩:=S.zt a ha;exact⟨n,u,by rw[cB (mD e hp)];exact e⟩⟩
theorem Em.own(S:Em K ρ h H){p:Addr}{o:HO}{u:Ob}(hp:H p=none)(hu:zat K (KB H p o) (ρ.add p) p u):Em K (ρ.add p) (h++[u]) (KB H p o):=by
 refine⟨?_,by simp only[Rg.add];rw[length_append,length_append,S.len];rfl,fun n a ob e1 e2=>?_,fun a ha=>?_⟩
 · simp only[Rg.add];rw[nodup_append];refine⟨S.nd,nodup_cons.mpr ⟨by simp,nodup_nil⟩,fun a ha b hb=>?_⟩;rw[mem_singleton.mp hb];intro z;exact(S.out hp).1 (z ▸ ha)
 · simp only[Rg.add]at e1;by_cases hn:n<h.length
   · rw[zfZ hn]at e2;rw[zfZ (by rw[S.len];exact hn)]at e1;exact(S.ob n a ob e1 e2).ext (Ext.own hp) (cB (fun z=>(S.out hp).1 (z ▸ mem_of_getElem? e1)))
   · have hn':h.length<=n:=Nat.not_lt.mp hn;rw[zf2 hn']at e2;rw[zf2 (by rw[S.len];exact hn'),S.len]at e1;cases hk:n-h.length with
     | zero=>rw[hk]at e1 e2;simp at e1 e2;subst e1 e2;exact hu
     | succ k=>rw[hk]at e2;simp at e2
 · obtain⟨n,u,e⟩:=S.zt a ha;refine⟨fun hm=>?_,u,by rw[cB (mD e hp)];exact e⟩;simp only[Rg.add]at hm;rcases mem_append.mp hm with hm | hm
   · exact n hm
   · rw[mem_singleton.mp hm,hp]at e;cases e
theorem Em.write(S:Em K ρ h H){n:Nat}{p:Addr}{o:HO}{u:Ob}(hn:ρ.v[n]?=some p)(nf:MU H p)(hu:zat K (KB H p o) ρ p u):Em K ρ (h.set n u) (KB H p o):=by
 refine⟨S.nd,by rw[length_set];exact S.len,fun m a ob e1 e2=>?_,fun a ha=>?_⟩
 · by_cases hm:m=n
   · subst hm;rw[hn]at e1;cases e1;have hl:m<h.length:=by rw[<- S.len];exact(zfY hn).1
     rw[getElem?_set_self hl]at e2;cases e2;exact hu
   · rw[getElem?_set_ne (Ne.symm hm)]at e2;refine(S.ob m a ob e1 e2).ext (Ext.write (mem_of_getElem? hn) nf) (cB fun z=>hm ?_);subst z;obtain⟨h1,q1⟩:=zfY e1;obtain⟨h2,q2⟩:=zfY hn;exact(getElem_inj S.nd).mp (q1.trans q2.symm)
 · obtain⟨m,w,e⟩:=S.zt a ha;exact⟨m,w,by rw[cB (fun z=>m (by rw[z];exact mem_of_getElem? hn))];exact e⟩
theorem Em.lst(S:Em K ρ h H){n:Nat}{a:Addr}{xs:List Dt}(hn:ρ.v[n]?=some a)(e:h[n]?=some (.lst xs)):∃vs,H a=some (.lst vs)/\jm K H ρ xs vs:=S.ob n a _ hn e
end
structure Fl(K:Frag)(H:Hp)(ρ:Rg)(l:LI)(σ:L2.St):Prop where
 len:l.length=σ.length
 val:∀(i:Nat) d,l[i]?=some (some d)->∃v,σ[i]?=some (some v)/\zm K H ρ d v
theorem Fl.ext{K:Frag}{H H':Hp}{ρ ρ':Rg}{l:LI}{σ:L2.St}(L:Fl K H ρ l σ)(x:Ext ρ ρ' H H'):Fl K H' ρ' l σ:=
 ⟨L.len,fun i d e=>let ⟨v,e1,r⟩:=L.val i d e;⟨v,e1,zm.ext x d r⟩⟩
theorem Fl.set{K:Frag}{H:Hp}{ρ:Rg}{l:LI}{σ:L2.St}(L:Fl K H ρ l σ){d:Dt}{v:V}(i:Nat)(r:zm K H ρ d v):Fl K H ρ (l.set i (some d)) (σ.set i (some v)):=by
 refine⟨by rw[length_set,length_set];exact L.len,fun j d' e=>?_⟩;by_cases hj:j=i
 · subst hj;have hl:j<l.length:=by have:=(zfY e).1;rwa[length_set]at this
   rw[getElem?_set_self hl]at e;cases e;exact⟨v,getElem?_set_self (by rw[<- L.len];exact hl),r⟩
 · rw[getElem?_set_ne (Ne.symm hj)]at e;rw[getElem?_set_ne (Ne.symm hj)];exact L.val j d' e
abbrev RE:=LI->HI->Option (Dt×HI)
abbrev RT:=LI->HI->Option (Bool×HI)
abbrev RA:=LI->HI->Option (List Dt×HI)
inductive Rs where
 | nx (l:LI) (h:HI) | rt (d:Dt) (h:HI) | bk (l:LI) (h:HI) | ct (l:LI) (h:HI)
abbrev RS:=LI->HI->Option Rs
abbrev TD:=Dt->Dt->HI->Option (Dt×HI)
abbrev RB:=List Dt->HI->Option (Dt×HI)
noncomputable def xB:Expr->Bool
 | .Starred _ _=>false
 | _=>true
theorem jB{e:Expr}(h:xB e=true)(es:List Expr)(env:Env):starEach (e::es) env=(false,eval e env)::starEach es env:=by cases e<;>first | rfl | (exact absurd h zf0)
theorem uI{pos:Pos}{env:Env}:∀{es:List Expr},es.all xB=true->(backTo pos (starEach es env)).any (·.1)=false
 | [],_=>rfl
 | e::es,h=>by rw[all_cons,Bool.and_eq_true]at h;have ih:=uI (pos:=pos) (env:=env) h.2;rw[jB h.1];unfold backTo at ih ⊢;simp only[zfQ,any_cons,Bool.false_or];exact ih
theorem iL{pos:Pos}{env:Env}{b:Expr}(h:xB b=true):((backTo pos (starEach [b] env)).all (fun x=>!x.1)&&(backToKw pos (keywordEach [] env)).all (fun x=>x.1.isSome)
 && decide ([b].length+([]:List Keyword).length+(if([]:List Keyword).isEmpty then 0 else 1)<30))=true:=by
 rw[jB h];rfl
def Out(K:Frag)(ρ:Rg)(H:Hp)(d:Dt)(h':HI)(Q:VK):Prop:=
 ∀ρ' v H',zm K H' ρ' d v->Em K ρ' h' H'->Ext ρ ρ' H H'->Q v H'
noncomputable def zbd(K:Frag)(ρ:Rg)(H:Hp)(h':HI)(Q:Hp->Prop):Prop:=
 ∀ρ' H',Em K ρ' h' H'->Ext ρ ρ' H H'->Q H'
def tM(K:Frag)(f:RE):TE:=fun σ H Q=>∃ρ l h d h',Em K ρ h H/\Fl K H ρ l σ/\f l h=some (d,h')/\Out K ρ H d h' Q
def nP(K:Frag)(f:RT):TT:=fun σ H Q=>∃ρ l h b h',Em K ρ h H/\Fl K H ρ l σ/\f l h=some (b,h')/\zbd K ρ H h' (Q b)
def Kc(K:Frag)(f:RA):TA:=fun σ H Q=>∃ρ l h ds h',Em K ρ h H/\Fl K H ρ l σ/\f l h=some (ds,h')/\∀ρ' vs H',jm K H' ρ' ds vs->Em K ρ' h' H'->Ext ρ ρ' H H'->Q vs H'
def rM(K:Frag)(op:TD):R2:=fun x y H Q=>∃ρ h d1 d2 d h',Em K ρ h H/\zm K H ρ d1 x/\zm K H ρ d2 y/\op d1 d2 h=some (d,h')/\Out K ρ H d h' Q
def zbx(K:Frag)(ρ:Rg)(H:Hp)(D:OH):Rs->Prop
 | .nx l h=>∀ρ' σ' H',Em K ρ' h H'->Fl K H' ρ' l σ'->Ext ρ ρ' H H'->D.nx σ' H'
 | .bk l h=>∀ρ' σ' H',Em K ρ' h H'->Fl K H' ρ' l σ'->Ext ρ ρ' H H'->D.bk σ' H'
 | .ct l h=>∀ρ' σ' H',Em K ρ' h H'->Fl K H' ρ' l σ'->Ext ρ ρ' H H'->D.ct σ' H'
 | .rt d h=>Out K ρ H d h D.rt
def sM(K:Frag)(f:RS):TS:=fun D σ H=>∃ρ l h r,Em K ρ h H/\Fl K H ρ l σ/\f l h=some r/\zbx K ρ H D r
theorem Out.ext{K:Frag}{ρ ρ1:Rg}{H H1:Hp}{d:Dt}{h':HI}{Q:VK}(k:Out K ρ H d h' Q)(x:Ext ρ ρ1 H H1):Out K ρ1 H1 d h' Q:=fun ρ' v H' r s e=>k ρ' v H' r s (x.trans e)
theorem zbd.ext{K:Frag}{ρ ρ1:Rg}{H H1:Hp}{h':HI}{Q:Hp->Prop}(k:zbd K ρ H h' Q)(x:Ext ρ ρ1 H H1):zbd K ρ1 H1 h' Q:=fun ρ' H' s e=>k ρ' H' s (x.trans e)
theorem zbx.ext{K:Frag}{ρ ρ1:Rg}{H H1:Hp}{D:OH}{r:Rs}(k:zbx K ρ H D r)(x:Ext ρ ρ1 H H1):zbx K ρ1 H1 D r:=by
 cases r with
 | nx l h=>exact fun ρ' σ' H' s l e=>k ρ' σ' H' s l (x.trans e)
 | bk l h=>exact fun ρ' σ' H' s l e=>k ρ' σ' H' s l (x.trans e)
 | ct l h=>exact fun ρ' σ' H' s l e=>k ρ' σ' H' s l (x.trans e)
 | rt d h=>exact Out.ext k x
@[irreducible] def EM(X:Cx)(e:Expr)(f:RE):Prop:=PE X e (tM X.K f)
@[irreducible] def TM(X:Cx)(e:Expr)(f:RT):Prop:=PT X e (nP X.K f)
@[irreducible] def WM(X:Cx)(e:Expr)(f:RT):Prop:=PW X e (nP X.K f)
@[irreducible] def AM(X:Cx)(es:List Expr)(f:RA):Prop:=PA X es (Kc X.K f)
@[irreducible] def OM(X:Cx)(f:Value->Value->Sem Value)(op:TD):Prop:=vp X f (rM X.K op)
@[irreducible] def ZM(X:Cx)(st:Stmt)(f:RS):Prop:=PS X st (sM X.K f)
@[irreducible] def UH(X:Cx)(st:List Stmt)(f:RS):Prop:=PSs X st (sM X.K f)
theorem PE.imp{X:Cx}{e:Expr}{t t':TE}(h:PE X e t)(i:∀σ H Q,t' σ H Q->t σ H Q):PE X e t':=fun pins s σ H Q I q=>h pins s σ H Q I (i σ H Q q)
theorem PT.imp{X:Cx}{e:Expr}{t t':TT}(h:PT X e t)(i:∀σ H Q,t' σ H Q->t σ H Q):PT X e t':=fun pins s σ H Q I q=>h pins s σ H Q I (i σ H Q q)
theorem PW.imp{X:Cx}{e:Expr}{t t':TT}(h:PW X e t)(i:∀σ H Q,t' σ H Q->t σ H Q):PW X e t':=fun wh pins s σ H Q I q=>h wh pins s σ H Q I (i σ H Q q)
theorem PA.imp{X:Cx}{e:List Expr}{t t':TA}(h:PA X e t)(i:∀σ H Q,t' σ H Q->t σ H Q):PA X e t':=fun pos pins s σ H Q I q=>h pos pins s σ H Q I (i σ H Q q)
theorem PS.imp{X:Cx}{e:Stmt}{t t':TS}(h:PS X e t)(i:∀D σ H,t' D σ H->t D σ H):PS X e t':=fun pins s σ H D I q=>h pins s σ H D I (i D σ H q)
theorem PSs.imp{X:Cx}{e:List Stmt}{t t':TS}(h:PSs X e t)(i:∀D σ H,t' D σ H->t D σ H):PSs X e t':=fun pins s σ H D I q=>h pins s σ H D I (i D σ H q)
theorem vp.imp{X:Cx}{f:Value->Value->Sem Value}{t t':R2}(h:vp X f t)(i:∀x y H Q,t' x y H Q->t x y H Q):vp X f t':=fun pins s σ H x y v u Q I r1 r2 q=>h pins s σ H x y v u Q I r1 r2 (i x y H Q q)
noncomputable def eC(d:Dt):RE:=fun _ h=>some (d,h)
noncomputable def eV(i:Nat):RE:=fun l h=>match l[i]? with | some (some d)=>some (d,h) | _=>none
noncomputable def e2(op:TD)(fa fb:RE):RE:=fun l h=>(fa l h).bind fun r=>(fb l r.2).bind fun q=>op r.1 q.1 q.2
noncomputable def kA:RA:=fun _ h=>some ([],h)
noncomputable def cA(f:RE)(g:RA):RA:=fun l h=>(f l h).bind fun r=>(g l r.2).bind fun q=>some (r.1::q.1,q.2)
section
variable{X:Cx}{a b c:Expr}{fa fb fc:RE}{pos:Pos}
theorem jA{i j pos}:EM X (.Constant (.int i) j pos) (eC (.int i)):=by with_unfolding_all exact PE.imp Kr fun σ H Q zz=>by obtain⟨ρ,l,h,d,h',S,L,e,k⟩:=zz;cases e;exact k ρ _ H (qm.mpr rfl) S (Ext.refl _ _)
theorem fH{i j pos}:EM X (.Constant (.bool i) j pos) (eC (.bl i)):=by with_unfolding_all exact PE.imp d6 fun σ H Q zz=>by obtain⟨ρ,l,h,d,h',S,L,e,k⟩:=zz;cases e;exact k ρ _ H (Am.mpr rfl) S (Ext.refl _ _)
theorem IC{i j pos}:EM X (.Constant (.str i) j pos) (eC (.str i)):=by with_unfolding_all exact PE.imp Pr fun σ H Q zz=>by obtain⟨ρ,l,h,d,h',S,L,e,k⟩:=zz;cases e;exact k ρ _ H (Om.mpr rfl) S (Ext.refl _ _)
theorem ZF{j pos}:EM X (.Constant .none j pos) (eC .non):=by with_unfolding_all exact PE.imp Lr fun σ H Q zz=>by obtain⟨ρ,l,h,d,h',S,L,e,k⟩:=zz;cases e;exact k ρ _ H (Km.mpr rfl) S (Ext.refl _ _)
theorem aA (i:Nat) {x:Str} {pos:Pos} (hN:X.N[i]?=some x:=by rfl) (hv:C1 X.env.scope x:=by first | exact Or.inl rfl | exact Or.inr (Or.inl rfl) | exact Or.inr (Or.inr rfl)) (hd:(x==("__debug__" :Str))=false:=by decide)
 (hcd:(x==("__classdict__" :Str))=false:=by decide):EM X (.Name x pos) (eV i):=by
 with_unfolding_all
  exact PE.imp (Ur hN hv hd hcd) fun σ H Q zz=>by
   obtain⟨ρ,l,h,d,h',S,L,e,k⟩:=zz;unfold eV at e;split at e
   · rename_i d' q;cases e;obtain⟨v,e1,r⟩:=L.val i _ q;exact⟨v,e1,k ρ v H r S (Ext.refl _ _)⟩
   · cases e
theorem wg {x:Str} {v:V} {u:Value} {d:Dt} {pos:Pos} (hg:Gl X x) (hm:X.mg x=some u) (r:RelV v u) (rd:∀H ρ,zm X.K H ρ d v) (hd:(x==("__debug__" :Str))=false:=by decide):EM X (.Name x pos) (eC d):=by with_unfolding_all exact PE.imp (Dk hg hm r hd) fun σ H Q zz=>by obtain⟨ρ,l,h,d',h',S,L,e,k⟩:=zz;cases e;exact k ρ v H (rd H ρ) S (Ext.refl _ _)
theorem xA{α β:Type}{o:Option α}{f:α->Option β}{b:β}(h:o.bind f=some b):∃a,o=some a/\f a=some b:=by
 cases o with
 | none=>cases h
 | some a=>exact⟨a,rfl,h⟩
theorem yA{op:Operator}{o:TD}(ho:OM X (binaryOp op) o)(ha:EM X a fa)(hb:EM X b fb):EM X (.BinOp a op b pos) (e2 o fa fb):=by
 with_unfolding_all
  exact PE.imp (HU ho ha hb) fun σ H Q zz=>by
   obtain⟨ρ,l,h,d,h',S,L,e,k⟩:=zz;obtain⟨⟨d1,h1⟩,e1,e⟩:=xA e;obtain⟨⟨d2,h2⟩,e2,e⟩:=xA e;exact⟨ρ,l,h,d1,h1,S,L,e1,fun ρ1 x H1 R1 S1 E1=>⟨ρ1,l,h1,d2,h2,S1,L.ext E1,e2,fun ρ2 y H2 R2 S2 E2=>
    ⟨ρ2,h2,d1,d2,d,h',S2,zm.ext E2 _ R1,R2,e,k.ext (E1.trans E2)⟩⟩⟩
theorem oE{op:CmpOp}{o:TD}(ho:OM X (compareOp op) o)(ha:EM X a fa)(hb:EM X b fb)(hm:behindInMarks op b=false:=by first | exact WY _ | with_unfolding_all rfl):EM X (.Compare a [op] [b] pos) (e2 o fa fb):=by
 with_unfolding_all
  exact PE.imp (Ck ho ha hb hm) fun σ H Q zz=>by
   obtain⟨ρ,l,h,d,h',S,L,e,k⟩:=zz;obtain⟨⟨d1,h1⟩,e1,e⟩:=xA e;obtain⟨⟨d2,h2⟩,e2,e⟩:=xA e;exact⟨ρ,l,h,d1,h1,S,L,e1,fun ρ1 x H1 R1 S1 E1=>⟨ρ1,l,h1,d2,h2,S1,L.ext E1,e2,fun ρ2 y H2 R2 S2 E2=>
    ⟨ρ2,h2,d1,d2,d,h',S2,zm.ext E2 _ R1,R2,e,k.ext (E1.trans E2)⟩⟩⟩
noncomputable def Dl(f:RE):RT:=fun l h=>(f l h).bind fun r=>match r.1 with | .bl b=>some (b,r.2) | _=>none
theorem NB{op:CmpOp}{o:TD}(ho:OM X (compareOp op) o)(ha:EM X a fa)(hb:EM X b fb)(hm:behindInMarks op b=false:=by first | exact WY _ | with_unfolding_all rfl):TM X (.Compare a [op] [b] pos) (Dl (e2 o fa fb)):=by
 with_unfolding_all
  exact PT.imp (Qh ho ha hb hm) fun σ H Q zz=>by
   obtain⟨ρ,l,h,bb,h',S,L,e,k⟩:=zz;obtain⟨⟨d,h3⟩,e0,e⟩:=xA e;obtain⟨⟨d1,h1⟩,e1,e0⟩:=xA e0;obtain⟨⟨d2,h2⟩,e2,e0⟩:=xA e0;refine⟨ρ,l,h,d1,h1,S,L,e1,fun ρ1 x H1 R1 S1 E1=>⟨ρ1,l,h1,d2,h2,S1,L.ext E1,e2,fun ρ2 y H2 R2 S2 E2=>
    ⟨ρ2,h2,d1,d2,d,h3,S2,zm.ext E2 _ R1,R2,e0,fun ρ3 v H3 R3 S3 E3=>?_⟩⟩⟩
   cases d with
   | bl q=>cases e;exact⟨bb,Am.mp R3,k ρ3 H3 S3 (E1.trans (E2.trans E3))⟩
   | _=>cases e
theorem kG{e:Expr}{f:RE}(h:EM X e f)(he:∀whole,isTrue e X.env whole=(do let v <- whole;standAt e.pos;holding [v] (truthy v)):=by intro _;rfl):TM X e (Dl f):=by
 with_unfolding_all
  exact PT.imp (jf h he) fun σ H Q zz=>by
   obtain⟨ρ,l,h,bb,h',S,L,e,k⟩:=zz;obtain⟨⟨d,h3⟩,e0,e⟩:=xA e;refine⟨ρ,l,h,d,h3,S,L,e0,fun ρ3 v H3 R3 S3 E3=>?_⟩;cases d with
   | bl q=>cases e;exact⟨bb,Am.mp R3,k ρ3 H3 S3 E3⟩
   | _=>cases e
noncomputable def tL(o o':TD)(fa fb fc:RE):RE:=fun l h=>(fa l h).bind fun r=>(fb l r.2).bind fun q=>(o r.1 q.1 q.2).bind fun z=>match z.1 with
 | .bl true=>(fc l z.2).bind fun y=>o' q.1 y.1 y.2
 | .bl false=>some (.bl false,z.2)
 | _=>none
theorem F9{r r':TD}{σ:L2.St}{H:Hp}{Q:VK}(h:tM X.K (tL r r' fa fb fc) σ H Q):IZ (rM X.K r) (rM X.K r') (tM X.K fa) (tM X.K fb) (tM X.K fc) σ H Q:=by
 obtain⟨ρ,l,h,d,h',S,L,e,k⟩:=h;obtain⟨⟨d1,h1⟩,e1,e⟩:=xA e;obtain⟨⟨d2,h2⟩,e2,e⟩:=xA e;obtain⟨⟨d3,h3⟩,e3,e⟩:=xA e;refine⟨ρ,l,h,d1,h1,S,L,e1,fun ρ1 x H1 R1 S1 E1=>⟨ρ1,l,h1,d2,h2,S1,L.ext E1,e2,fun ρ2 y H2 R2 S2 E2=>
  ⟨ρ2,h2,d1,d2,d3,h3,S2,zm.ext E2 _ R1,R2,e3,fun ρ3 v H3 R3 S3 E3=>?_⟩⟩⟩
 cases d3 with
 | bl q=>
  refine⟨q,Am.mp R3,?_⟩;cases q with
  | true=>dsimp only at e;obtain⟨⟨d4,h4⟩,e4,e⟩:=xA e;refine oH ⟨ρ3,l,h3,d4,h4,S3,(L.ext (E1.trans (E2.trans E3))),e4,fun ρ4 u H4 R4 S4 E4=>⟨ρ4,h4,d2,d4,d,h',S4,zm.ext (E3.trans E4) _ R2,R4,e,k.ext (E1.trans (E2.trans (E3.trans E4)))⟩⟩
  | false=>cases e;exact nH (k ρ3 _ H3 (Am.mpr rfl) S3 (E1.trans (E2.trans E3)))
 | _=>cases e
theorem Jv{op op':CmpOp}{r r':TD}(ho:OM X (compareOp op) r)(ho':OM X (compareOp op') r')(ha:EM X a fa)(hb:EM X b fb)(hc:EM X c fc)
 (hm:lastMarks [op,op'] [b,c]=false:=by with_unfolding_all rfl):EM X (.Compare a [op,op'] [b,c] pos) (tL r r' fa fb fc):=by
 with_unfolding_all exact PE.imp (Wz ho ho' ha hb hc hm) fun _ _ _ h=>F9 h
noncomputable def LG(t u:RT):RT:=fun l h=>(t l h).bind fun r=>if r.1=true then some (true,r.2)else u l r.2
noncomputable def lG(t:RT):RT:=fun l h=>(t l h).bind fun r=>some (!r.1,r.2)
variable{tA tB2:RT}{rest:List Expr}
theorem WM.tm{e:Expr}{f:RT}(h:WM X e f):TM X e f:=by with_unfolding_all exact PW.pt h
theorem BO(ha:TM X a tA):WM X (.BoolOp .Or [a] pos) tA:=by with_unfolding_all exact uf ha
theorem MI(ha:TM X a tA)(hb:WM X (.BoolOp .Or (b::rest) pos) tB2):WM X (.BoolOp .Or (a::b::rest) pos) (LG tA tB2):=by
 with_unfolding_all
  exact PW.imp (k6 ha hb) fun σ H Q zz=>by
   obtain⟨ρ,l,h,bb,h',S,L,e,k⟩:=zz;obtain⟨⟨b1,h1⟩,e1,e⟩:=xA e;refine⟨ρ,l,h,b1,h1,S,L,e1,fun ρ1 H1 S1 E1=>?_⟩;cases b1 with
   | true=>rw[if_pos rfl]at e;cases e;exact oH (k ρ1 H1 S1 E1)
   | false=>rw[if_neg zf0]at e;exact nH ⟨ρ1,l,h1,bb,h',S1,L.ext E1,e,k.ext E1⟩
theorem cH(ha:TM X a tA):TM X (.UnaryOp .Not a pos) (lG tA):=by with_unfolding_all exact PT.imp (bf ha) fun σ H Q zz=>by obtain⟨ρ,l,h,bb,h',S,L,e,k⟩:=zz;obtain⟨⟨b1,h1⟩,e1,e⟩:=xA e;cases e;exact⟨ρ,l,h,b1,h1,S,L,e1,fun ρ1 H1 S1 E1=>k ρ1 H1 S1 E1⟩
noncomputable def tH(t u:RE):RE:=fun l h=>(t l h).bind fun r=>match r.1 with | .bl true=>u l r.2 | .bl false=>some (.bl false,r.2) | _=>none
noncomputable def xV(t u:RE):RE:=fun l h=>(t l h).bind fun r=>match r.1 with | .bl true=>some (.bl true,r.2) | .bl false=>u l r.2 | _=>none
noncomputable def qM(t:RE):RE:=fun l h=>(t l h).bind fun r=>match r.1 with | .bl b=>some (.bl (!b),r.2) | _=>none
theorem FJ{op}(h:EM X a fa):EM X (.BoolOp op [a] pos) fa:=by with_unfolding_all exact Nr h
theorem uL(ha:EM X a fa)(hb:EM X (.BoolOp .And (b::rest) pos) fb):EM X (.BoolOp .And (a::b::rest) pos) (tH fa fb):=by
 with_unfolding_all
  exact PE.imp (Ir ha hb) fun σ H Q zz=>by
   obtain⟨ρ,l,h,d,h',S,L,e,k⟩:=zz;obtain⟨⟨d1,h1⟩,e1,e⟩:=xA e;refine⟨ρ,l,h,d1,h1,S,L,e1,fun ρ1 v H1 R1 S1 E1=>?_⟩;cases d1 with
   | bl q=>
    refine⟨q,Am.mp R1,?_⟩;cases q with
    | true=>exact oH ⟨ρ1,l,h1,d,h',S1,L.ext E1,e,k.ext E1⟩
    | false=>cases e;exact nH (k ρ1 _ H1 (Am.mpr rfl) S1 E1)
   | _=>cases e
theorem Q6(ha:EM X a fa)(hb:EM X (.BoolOp .Or (b::rest) pos) fb):EM X (.BoolOp .Or (a::b::rest) pos) (xV fa fb):=by
 with_unfolding_all
  exact PE.imp (i6 ha hb) fun σ H Q zz=>by
   obtain⟨ρ,l,h,d,h',S,L,e,k⟩:=zz;obtain⟨⟨d1,h1⟩,e1,e⟩:=xA e;refine⟨ρ,l,h,d1,h1,S,L,e1,fun ρ1 v H1 R1 S1 E1=>?_⟩;cases d1 with
   | bl q=>
    refine⟨q,Am.mp R1,?_⟩;cases q with
    | true=>cases e;exact oH (k ρ1 _ H1 (Am.mpr rfl) S1 E1)
    | false=>exact nH ⟨ρ1,l,h1,d,h',S1,L.ext E1,e,k.ext E1⟩
   | _=>cases e
theorem Lh(ha:EM X a fa):EM X (.UnaryOp .Not a pos) (qM fa):=by
 with_unfolding_all
  exact PE.imp (Mr ha) fun σ H Q zz=>by
   obtain⟨ρ,l,h,d,h',S,L,e,k⟩:=zz;obtain⟨⟨d1,h1⟩,e1,e⟩:=xA e;refine⟨ρ,l,h,d1,h1,S,L,e1,fun ρ1 v H1 R1 S1 E1=>?_⟩;cases d1 with
   | bl q=>cases e;exact⟨q,Am.mp R1,k ρ1 _ H1 (Am.mpr rfl) S1 E1⟩
   | _=>cases e
noncomputable def pM(t:RT)(f g:RE):RE:=fun l h=>(t l h).bind fun r=>if r.1=true then f l r.2 else g l r.2
theorem lU{c:Expr}(hc:TM X c tA)(ha:EM X a fa)(hb:EM X b fb):EM X (.IfExp c a b pos) (pM tA fa fb):=by
 with_unfolding_all
  exact PE.imp (Zz hc ha hb) fun σ H Q zz=>by
   obtain⟨ρ,l,h,d,h',S,L,e,k⟩:=zz;obtain⟨⟨b1,h1⟩,e1,e⟩:=xA e;refine⟨ρ,l,h,b1,h1,S,L,e1,fun ρ1 H1 S1 E1=>?_⟩;cases b1 with
   | true=>rw[if_pos rfl]at e;exact oH ⟨ρ1,l,h1,d,h',S1,L.ext E1,e,k.ext E1⟩
   | false=>rw[if_neg zf0]at e;exact nH ⟨ρ1,l,h1,d,h',S1,L.ext E1,e,k.ext E1⟩
theorem nA:AM X [] kA:=by with_unfolding_all exact PA.imp fE fun σ H Q zz=>by obtain⟨ρ,l,h,ds,h',S,L,e,k⟩:=zz;cases e;exact k ρ [] H .nil S (Ext.refl _ _)
theorem dA{e:Expr}{es:List Expr}{f:RE}{g:RA}(ha:EM X e f)(hr:AM X es g)(hs:xB e=true:=by rfl):AM X (e::es) (cA f g):=by with_unfolding_all exact PA.imp (TC ha hr (jB hs es X.env)) fun σ H Q zz=>by obtain⟨ρ,l,h,ds,h',S,L,e,k⟩:=zz;obtain⟨⟨d1,h1⟩,e1,e⟩:=xA e;obtain⟨⟨ds2,h2⟩,e2,e⟩:=xA e;cases e;exact⟨ρ,l,h,d1,h1,S,L,e1,fun ρ1 x H1 R1 S1 E1=>⟨ρ1,l,h1,ds2,h2,S1,L.ext E1,e2,fun ρ2 xs H2 R2 S2 E2=>k ρ2 _ H2 (.cons (zm.ext E2 _ R1) R2) S2 (E1.trans E2)⟩⟩
noncomputable def bB(g:RA):RE:=fun l h=>(g l h).bind fun r=>if r.1.length<=sizeLine then some (.tup r.1,r.2)else none
noncomputable def aE(g:RA):RE:=fun l h=>(g l h).bind fun r=>if r.1.length<=sizeLine then some (.lst r.1,r.2)else none
noncomputable def KF(g:RA):RE:=fun l h=>(g l h).bind fun r=>if r.1.length<=sizeLine then some (.ref r.2.length,r.2++[.lst r.1])else none
theorem yL{K:Frag}{H:Hp}{ρ:Rg}{h:HI}{ds:List Dt}{vs:List V}{p:Addr}(S:Em K ρ h H)(R:jm K H ρ ds vs)(hp:H p=none):zm K (KB H p (.tup vs)) ρ (.tup ds) (.ref p):=
 Dm.mpr ⟨p,vs,rfl,.inl ⟨S.out hp,.inl SC⟩,R.ext (Ext.fresh hp)⟩
theorem KO{K:Frag}{H:Hp}{ρ:Rg}{h:HI}{ds:List Dt}{vs:List V}{p:Addr}(S:Em K ρ h H)(R:jm K H ρ ds vs)(hp:H p=none):zm K (KB H p (.lst vs)) ρ (.lst ds) (.ref p):=
 Cm.mpr ⟨p,vs,rfl,.inl ⟨S.out hp,.inl SC⟩,R.ext (Ext.fresh hp)⟩
theorem FH{K:Frag}{H:Hp}{ρ:Rg}{h:HI}{ds:List Dt}{vs:List V}{p:Addr}(S:Em K ρ h H)(R:jm K H ρ ds vs)(hp:H p=none) :
 zm K (KB H p (.lst vs)) (ρ.add p) (.ref h.length) (.ref p)/\Em K (ρ.add p) (h++[.lst ds]) (KB H p (.lst vs)):=by
 refine⟨Gm.mpr ⟨p,rfl,?_⟩,S.own hp ⟨vs,SC,R.ext (Ext.own hp)⟩⟩;simp only[Rg.add];rw[<- S.len,zf2 (zf1 _),Nat.sub_self];rfl
theorem FE{α:Type}{c:Prop}[Decidable c]{a b:α}(h:(if c then some a else none)=some b):c/\a=b:=by
 by_cases hc:c
 · rw[if_pos hc]at h;exact⟨hc,Option.some.inj h⟩
 · rw[if_neg hc]at h;cases h
theorem mB{es:List Expr}{g:RA}{x1}(h:AM X es g):EM X (.Tuple es x1 pos) (bB g):=by with_unfolding_all exact PE.imp (BZ h) fun σ H Q zz=>by obtain⟨ρ,l,h,d,h',S,L,e,k⟩:=zz;obtain⟨⟨ds,h1⟩,e1,e⟩:=xA e;obtain⟨hz,e⟩:=FE e;cases e;exact⟨ρ,l,h,ds,h1,S,L,e1,fun ρ1 vs H1 R1 S1 E1=>⟨by rw[R1.length];exact hz,fun p hp=>k ρ1 _ _ (yL S1 R1 hp) (S1.fresh hp) (E1.trans (Ext.fresh hp))⟩⟩
theorem rF{es:List Expr}{g:RA}(h:AM X es g):EM X (.List es pos) (aE g):=by with_unfolding_all exact PE.imp (xO h) fun σ H Q zz=>by obtain⟨ρ,l,h,d,h',S,L,e,k⟩:=zz;obtain⟨⟨ds,h1⟩,e1,e⟩:=xA e;obtain⟨hz,e⟩:=FE e;cases e;exact⟨ρ,l,h,ds,h1,S,L,e1,fun ρ1 vs H1 R1 S1 E1=>⟨by rw[R1.length];exact hz,fun p hp=>k ρ1 _ _ (KO S1 R1 hp) (S1.fresh hp) (E1.trans (Ext.fresh hp))⟩⟩
theorem pG{es:List Expr}{g:RA}(h:AM X es g):EM X (.List es pos) (KF g):=by with_unfolding_all exact PE.imp (xO h) fun σ H Q zz=>by obtain⟨ρ,l,h,d,h',S,L,e,k⟩:=zz;obtain⟨⟨ds,h1⟩,e1,e⟩:=xA e;obtain⟨hz,e⟩:=FE e;cases e;exact⟨ρ,l,h,ds,h1,S,L,e1,fun ρ1 vs H1 R1 S1 E1=>⟨by rw[R1.length];exact hz,fun p hp=>k _ _ _ (FH S1 R1 hp).1 (FH S1 R1 hp).2 (E1.trans (Ext.own hp))⟩⟩
end
noncomputable def oI(C:Int->Int->Prop)[∀i j,Decidable (C i j)](g:Int->Int->Dt):TD:=fun a b h=>match a,b with
 | .int i,.int j=>if C i j then some (g i j,h)else none
 | _,_=>none
noncomputable def pK(g:Int->Int->Dt):TD:=fun a b h=>match a,b with
 | .int i,.int j=>some (g i j,h)
 | _,_=>none
instance:∀i j,Decidable (YJ i j):=fun i j=>by unfold YJ;infer_instance
instance:∀i j,Decidable (zaJ i j):=fun i j=>by unfold zaJ;infer_instance
instance:∀i j,Decidable (DG i j):=fun i j=>by unfold DG;infer_instance
noncomputable def UD:Dt->Option V
 | .non=>some .non
 | .bl b=>some (.bl b)
 | .int i=>some (.int i)
 | .str x=>some (.str x)
 | _=>none
theorem rX{K:Frag}{H:Hp}{ρ:Rg}{d:Dt}{v:V}(e:UD d=some v):zm K H ρ d v:=by cases d<;>simp only[UD]at e<;>first | (cases e;simp only[zm]) | cases e
theorem qJ{K:Frag}{H:Hp}{ρ:Rg}{d:Dt}{v u:V}(e:UD d=some v)(r:zm K H ρ d u):u=v:=by cases d<;>simp only[UD]at e<;>first | (cases e;simpa only[zm]using r) | cases e
section
variable{X:Cx}
theorem cJ{f:Value->Value->Sem Value}{C:Int->Int->Prop}[∀i j,Decidable (C i j)]{g:Int->Int->Dt}{g':Int->Int->V}(ho:vp X f (rI C g'))(hg:∀i j,UD (g i j)=some (g' i j)):OM X f (oI C g):=by
 with_unfolding_all
  exact vp.imp ho fun x y H Q zz=>by
   obtain⟨ρ,h,d1,d2,d,h',S,R1,R2,e,k⟩:=zz;unfold oI at e;split at e
   · rename_i i j;obtain⟨hc,e⟩:=FE e;cases e;exact⟨i,j,qm.mp R1,qm.mp R2,hc,k ρ _ H (rX (hg i j)) S (Ext.refl _ _)⟩
   · cases e
theorem KH{f:Value->Value->Sem Value}{g:Int->Int->Dt}{g':Int->Int->V}(ho:vp X f (tK g'))(hg:∀i j,UD (g i j)=some (g' i j)):OM X f (pK g):=by
 with_unfolding_all
  exact vp.imp ho fun x y H Q zz=>by
   obtain⟨ρ,h,d1,d2,d,h',S,R1,R2,e,k⟩:=zz;unfold pK at e;split at e
   · rename_i i j;cases e;exact⟨i,j,qm.mp R1,qm.mp R2,k ρ _ H (rX (hg i j)) S (Ext.refl _ _)⟩
   · cases e
def lB:TD:=pK fun i j=>.int (i+j)
def fG:TD:=pK fun i j=>.int (i-j)
def yC:TD:=oI zaJ fun i j=>.int (i*j)
def cE:TD:=oI YJ fun i j=>.int (i/j)
def xC:TD:=oI (fun _ j=>0<j) fun i j=>.int (i%j)
def bI:TD:=oI DG fun i j=>.int (i^j.toNat)
def aJ:TD:=oI DG fun i j=>.int (i*2^j.toNat)
def bJ:TD:=oI (fun _ j=>0<=j) fun i j=>.int (i/2^j.toNat)
def JH:TD:=pK fun i j=>.int (Builtin.bitAnd i j)
def KP:TD:=pK fun i j=>.int (Builtin.bitOr i j)
def mP:TD:=pK fun i j=>.bl (decide (i<j))
def bM:TD:=pK fun i j=>.bl (decide (i<=j))
def aM:TD:=pK fun i j=>.bl (decide (j<i))
def OU:TD:=pK fun i j=>.bl (decide (j<=i))
theorem MB:OM X (binaryOp .Add) lB:=by with_unfolding_all exact KH Tf fun _ _=>rfl
theorem HH:OM X (binaryOp .Sub) fG:=by with_unfolding_all exact KH Dr fun _ _=>rfl
theorem MD:OM X (binaryOp .Mult) yC:=by with_unfolding_all exact cJ yr fun _ _=>rfl
theorem aG:OM X (binaryOp .FloorDiv) cE:=by with_unfolding_all exact cJ Ny fun _ _=>rfl
theorem yD:OM X (binaryOp .Mod) xC:=by with_unfolding_all exact cJ ur fun _ _=>rfl
theorem NT:OM X (binaryOp .Pow) bI:=by with_unfolding_all exact cJ Ar fun _ _=>rfl
theorem OT:OM X (binaryOp .LShift) aJ:=by with_unfolding_all exact cJ Br fun _ _=>rfl
theorem QT:OM X (binaryOp .RShift) bJ:=by with_unfolding_all exact cJ Cr fun _ _=>rfl
theorem BJ:OM X (binaryOp .BitAnd) JH:=by with_unfolding_all exact KH Vf fun _ _=>rfl
theorem Qf:OM X (binaryOp .BitOr) KP:=by with_unfolding_all exact KH Z5 fun _ _=>rfl
theorem YO:OM X (compareOp .Lt) mP:=by with_unfolding_all exact KH X5 fun _ _=>rfl
theorem UJ:OM X (compareOp .LtE) bM:=by with_unfolding_all exact KH W5 fun _ _=>rfl
theorem GL:OM X (compareOp .Gt) aM:=by with_unfolding_all exact KH V5 fun _ _=>rfl
theorem GU:OM X (compareOp .GtE) OU:=by with_unfolding_all exact KH T5 fun _ _=>rfl
def K1:TD:=fun a b h=>match UD a,UD b with
 | some x,some y=>if mM x y=true then some (.bl (decide (x=y)),h)else none
 | _,_=>none
def L1:TD:=fun a b h=>match UD a,UD b with
 | some x,some y=>if mM x y=true then some (.bl (!decide (x=y)),h)else none
 | _,_=>none
theorem N5:OM X (compareOp .Eq) K1:=by
 with_unfolding_all
  exact vp.imp Q5 fun x y H Q zz=>by
   obtain⟨ρ,h,d1,d2,d,h',S,R1,R2,e,k⟩:=zz;unfold K1 at e;split at e
   · rename_i u v e1 e2;obtain⟨hc,e⟩:=FE e;cases e;rw[qJ e1 R1,qJ e2 R2];exact⟨hc,k ρ _ H (Am.mpr rfl) S (Ext.refl _ _)⟩
   · cases e
theorem P5:OM X (compareOp .NotEq) L1:=by
 with_unfolding_all
  exact vp.imp Y5 fun x y H Q zz=>by
   obtain⟨ρ,h,d1,d2,d,h',S,R1,R2,e,k⟩:=zz;unfold L1 at e;split at e
   · rename_i u v e1 e2;obtain⟨hc,e⟩:=FE e;cases e;rw[qJ e1 R1,qJ e2 R2];exact⟨hc,k ρ _ H (Am.mpr rfl) S (Ext.refl _ _)⟩
   · cases e
noncomputable def yG:Dt->Bool
 | .non=>true
 | _=>false
def sH:TD:=fun a b h=>match b with
 | .non=>some (.bl (yG a),h)
 | _=>none
theorem Zx{K:Frag}{H:Hp}{ρ:Rg}{d:Dt}{v:V}(r:zm K H ρ d v):decide (v=.non)=yG d:=by
 cases d with
 | non=>have e:=Km.mp r;subst e;rfl
 | bl b=>have e:=Am.mp r;subst e;rfl
 | int i=>have e:=qm.mp r;subst e;rfl
 | str x=>have e:=Om.mp r;subst e;rfl
 | tup xs=>obtain⟨a,vs,e,_⟩:=Dm.mp r;subst e;rfl
 | lst xs=>obtain⟨a,vs,e,_⟩:=Cm.mp r;subst e;rfl
 | ref n=>obtain⟨a,e,_⟩:=Gm.mp r;subst e;rfl
 | Ip n=>obtain⟨a,e,_⟩:=Ep.mp r;subst e;rfl
theorem AL:OM X (compareOp .Is) sH:=by
 with_unfolding_all
  exact vp.imp jr fun x y H Q zz=>by
   obtain⟨ρ,h,d1,d2,d,h',S,R1,R2,e,k⟩:=zz;unfold sH at e;split at e
   · cases e;exact⟨Km.mp R2,k ρ _ H (Am.mpr (by rw[Zx R1])) S (Ext.refl _ _)⟩
   · cases e
noncomputable def ZE(f:RE):RE:=fun l h=>(f l h).bind fun r=>match r.1 with | .int i=>some (.int (-i),r.2) | _=>none
theorem EJ{a:Expr}{fa:RE}{pos:Pos}(ha:EM X a fa):EM X (.UnaryOp .USub a pos) (ZE fa):=by
 with_unfolding_all
  exact PE.imp (RZ w6 ha) fun σ H Q zz=>by
   obtain⟨ρ,l,h,d,h',S,L,e,k⟩:=zz;obtain⟨⟨d1,h1⟩,e1,e⟩:=xA e;refine⟨ρ,l,h,d1,h1,S,L,e1,fun ρ1 x H1 R1 S1 E1=>?_⟩;cases d1 with
   | int i=>cases e;exact⟨i,qm.mp R1,k ρ1 _ H1 (qm.mpr rfl) S1 E1⟩
   | _=>cases e
end
noncomputable def TB(h:HI):Dt->Option (List Dt)
 | .lst xs=>some xs
 | .ref n=>match h[n]? with | some (.lst xs)=>some xs | _=>none
 | _=>none
def LD(h:HI):Dt->Option (List Dt)
 | .tup xs=>some xs
 | d=>TB h d
theorem VF{K:Frag}{H:Hp}{ρ:Rg}{h:HI}{d:Dt}{v:V}{xs:List Dt}(S:Em K ρ h H)(R:zm K H ρ d v)(e:TB h d=some xs):∃a vs,v=.ref a/\yp K H a vs/\jm K H ρ xs vs:=by
 cases d with
 | lst ys=>cases e;obtain⟨a,vs,e,q,r⟩:=Cm.mp R;exact⟨a,vs,e,q.sq,r⟩
 | ref n=>
  simp only[TB]at e;split at e
  · rename_i ys q;cases e;obtain⟨a,rfl,ha⟩:=Gm.mp R;obtain⟨vs,h1,h2⟩:=S.lst ha q;exact⟨a,vs,rfl,yp.of h1,h2⟩
  · cases e
 | _=>simp only[TB]at e<;>cases e
theorem kO{K:Frag}{H:Hp}{ρ:Rg}{h:HI}{d:Dt}{v:V}{xs:List Dt}(S:Em K ρ h H)(R:zm K H ρ d v)(e:LD h d=some xs):∃a vs,v=.ref a/\(yp K H a vs\/NI K H a vs)/\jm K H ρ xs vs:=by
 cases d with
 | tup ys=>cases e;obtain⟨a,vs,e,q,r⟩:=Dm.mp R;exact⟨a,vs,e,.inr q.sq,r⟩
 | lst ys=>obtain⟨a,vs,e,q,r⟩:=VF S R (show TB h (.lst ys)=some xs from e);exact⟨a,vs,e,.inl q,r⟩
 | ref n=>obtain⟨a,vs,e,q,r⟩:=VF S R (show TB h (.ref n)=some xs from e);exact⟨a,vs,e,.inl q,r⟩
 | _=>cases e
theorem jm.Gp{K:Frag}{H:Hp}{ρ:Rg}{ds:List Dt}{vs:List V}{i:Int}{d:Dt}(r:jm K H ρ ds vs)(e:L2.Gp ds i=some d):∃v,L2.Gp vs i=some v/\zm K H ρ d v:=by
 unfold L2.Gp at e ⊢;rw[r.length];cases q:QI ds.length i with
 | none=>rw[q]at e;cases e
 | some j=>rw[q]at e;exact r.get e
def BA:TD:=fun a b h=>match b with
 | .int i=>match a with
  | .str z=>if z.length<=sizeLine then(L2.Gp z.cps.toList i).map fun c=>(.str ⟨#[c]⟩,h)else none
  | _=>(LD h a).bind fun xs=>(L2.Gp xs i).map fun d=>(d,h)
 | _=>none
section
variable{X:Cx}{a b c:Expr}{fa fb fc:RE}{pos:Pos}
theorem Xk{x y:V}{H:Hp}{Q:VK}(h:rM X.K BA x y H Q):Qd X.K x y H Q:=by
 obtain⟨ρ,h,d1,d2,d,h',S,R1,R2,e,k⟩:=h;unfold BA at e;split at e
 · rename_i i;have ei:=qm.mp R2;split at e
   · rename_i z;split at e
     · rename_i hz;cases q:L2.Gp z.cps.toList i with
       | none=>rw[q]at e;cases e
       | some c=>rw[q]at e;cases e;exact .inr (.inr ⟨z,i,c,Om.mp R1,ei,hz,q,k ρ _ H (Om.mpr rfl) S (Ext.refl _ _)⟩)
     · cases e
   · obtain⟨xs,e1,e⟩:=xA e;cases q:L2.Gp xs i with
     | none=>rw[q]at e;cases e
     | some u=>
      rw[q]at e;cases e;obtain⟨p,vs,e2,sq,r⟩:=kO S R1 e1;obtain⟨v,q1,q2⟩:=r.Gp q;rcases sq with sq | sq
      · exact .inl ⟨p,vs,i,v,e2,ei,sq,q1,k ρ _ H q2 S (Ext.refl _ _)⟩
      · exact .inr (.inl ⟨p,vs,i,v,e2,ei,sq,q1,k ρ _ H q2 S (Ext.refl _ _)⟩)
 · cases e
theorem lA(ha:EM X a fa)(hb:EM X b fb)(hs:WX b:=by intro _ _;rfl):EM X (.Subscript a b pos) (e2 BA fa fb):=by
 with_unfolding_all
  exact PE.imp (g6 Bf ha hb hs) fun σ H Q zz=>by
   obtain⟨ρ,l,h,d,h',S,L,e,k⟩:=zz;obtain⟨⟨d1,h1⟩,e1,e⟩:=xA e;obtain⟨⟨d2,h2⟩,e2,e⟩:=xA e;exact⟨ρ,l,h,d1,h1,S,L,e1,fun ρ1 x H1 R1 S1 E1=>⟨ρ1,l,h1,d2,h2,S1,L.ext E1,e2,fun ρ2 y H2 R2 S2 E2=>
    Xk ⟨ρ2,h2,d1,d2,d,h',S2,zm.ext E2 _ R1,R2,e,k.ext (E1.trans E2)⟩⟩⟩
end
noncomputable def EB:RS:=fun l h=>some (.nx l h)
noncomputable def qA(f g:RS):RS:=fun l h=>(f l h).bind fun r=>match r with | .nx l' h'=>g l' h' | r=>some r
noncomputable def IA(i:Nat)(f:RE):RS:=fun l h=>(f l h).bind fun r=>some (.nx (l.set i (some r.1)) r.2)
noncomputable def ED(f:RE):RS:=fun l h=>(f l h).bind fun r=>some (.nx l r.2)
noncomputable def KA(f:RE):RS:=fun l h=>(f l h).bind fun r=>some (.rt r.1 r.2)
noncomputable def GD(t:RT)(f g:RS):RS:=fun l h=>(t l h).bind fun r=>if r.1=true then f l r.2 else g l r.2
section
variable{X:Cx}{st:Stmt}{rest:List Stmt}{e:Expr}{f:RE}{t u:RS}{c:RT}{pos:Pos}
theorem bC:UH X [] EB:=by with_unfolding_all exact PSs.imp Oh fun D σ H zz=>by obtain⟨ρ,l,h,r,S,L,e,k⟩:=zz;cases e;exact k ρ σ H S L (Ext.refl _ _)
theorem vA(h1:ZM X st t)(h2:UH X rest u):UH X (st::rest) (qA t u):=by
 with_unfolding_all
  exact PSs.imp (Ez h1 h2) fun D σ H zz=>by
   obtain⟨ρ,l,h,r,S,L,e,k⟩:=zz;obtain⟨r1,e1,e⟩:=xA e;refine⟨ρ,l,h,r1,S,L,e1,?_⟩;cases r1 with
   | nx l' h'=>exact fun ρ' σ' H' S' L' E'=>⟨ρ',l',h',r,S',L',e,k.ext E'⟩
   | rt d h'=>cases e;exact k
   | bk l' h'=>cases e;exact k
   | ct l' h'=>cases e;exact k
theorem AA(h1:ZM X st t):UH X [st] t:=by with_unfolding_all exact Ph h1
theorem nE(he:EM X e f)(hs:swapsWith e none pos.line X.env=pure false:=by rfl):ZM X (.Expr e pos) (ED f):=by with_unfolding_all exact PS.imp (Nh he hs) fun D σ H zz=>by obtain⟨ρ,l,h,r,S,L,e,k⟩:=zz;obtain⟨⟨d1,h1⟩,e1,e⟩:=xA e;cases e;exact⟨ρ,l,h,d1,h1,S,L,e1,fun ρ1 v H1 R1 S1 E1=>k ρ1 σ H1 S1 (L.ext E1) E1⟩
theorem MA(he:EM X e f):ZM X (.Return (some e) pos) (KA f):=by with_unfolding_all exact PS.imp (Yr he) fun D σ H zz=>by obtain⟨ρ,l,h,r,S,L,e,k⟩:=zz;obtain⟨⟨d1,h1⟩,e1,e⟩:=xA e;cases e;exact⟨ρ,l,h,d1,h1,S,L,e1,k⟩
theorem cC{b:Expr}{ss ss':List Stmt}(hc:TM X b c)(ha:UH X ss t)(hb:UH X ss' u):ZM X (.If b ss ss' pos) (GD c t u):=by
 with_unfolding_all
  exact PS.imp (j6 hc ha hb) fun D σ H zz=>by
   obtain⟨ρ,l,h,r,S,L,e,k⟩:=zz;obtain⟨⟨b1,h1⟩,e1,e⟩:=xA e;refine⟨ρ,l,h,b1,h1,S,L,e1,fun ρ1 H1 S1 E1=>?_⟩;cases b1 with
   | true=>rw[if_pos rfl]at e;exact oH ⟨ρ1,l,h1,r,S1,L.ext E1,e,k.ext E1⟩
   | false=>rw[if_neg zf0]at e;exact nH ⟨ρ1,l,h1,r,S1,L.ext E1,e,k.ext E1⟩
theorem QA(i:Nat){x:Str}{pos':Pos}(hN:X.N.Nodup)(he:EM X e f)(hi:X.N[i]?=some x:=by rfl)(hx:bK X.env.scope x:=by first | exact Or.inl rfl | exact Or.inr rfl)
 (hs:swapsWith e (some (.Name x pos')) pos.line X.env=pure false:=by rfl) (hf:X.fn x=true\/X.env.scope.names.lookup x=some .local:=by first | exact .inl rfl | exact .inr rfl | assumption) :
 ZM X (.Assign [.Name x pos'] e pos) (IA i f):=by
 with_unfolding_all exact PS.imp (Zr hN hi hx he hs hf) fun D σ H zz=>by obtain⟨ρ,l,h,r,S,L,e,k⟩:=zz;obtain⟨⟨d1,h1⟩,e1,e⟩:=xA e;cases e;exact⟨ρ,l,h,d1,h1,S,L,e1,fun ρ1 v H1 R1 S1 E1=>k ρ1 _ H1 S1 ((L.ext E1).set i R1) E1⟩
end
inductive Src where
 | vals (xs:List Dt)
 | rf (n:Nat)
 | zp (a b:Dt)
 | it (n:Nat)
 | en (n:Nat)
def Src.at(s:Src)(h:HI)(i:Nat):Option (Option Dt):=match s with
 | .vals xs=>some xs[i]?
 | .rf n=>match h[n]? with | some (.lst xs)=>some xs[i]? | _=>none
 | .zp a b=>match TB h a,TB h b with
  | some xs,some ys=>some (match xs[i]?,ys[i]? with | some x,some y=>some (.tup [x,y]) | _,_=>none)
  | _,_=>none
 | .it n=>match h[n]? with | some (.df kvs)=>some (kvs[i]?.map fun p=>.tup [.tup (p.1.map Dt.int),p.2]) | _=>none
 | .en n=>match h[n]? with | some (.lst xs)=>some (xs[i]?.map fun x=>.tup [.int (i:Int),x]) | _=>none
def Src.fuel(s:Src)(h:HI):Nat:=match s with
 | .vals xs=>xs.length+1
 | .rf n=>match h[n]? with | some (.lst xs)=>xs.length+1 | _=>0
 | .zp a _=>match TB h a with | some xs=>xs.length+1 | _=>0
 | .it n=>match h[n]? with | some (.df kvs)=>kvs.length+1 | _=>0
 | .en n=>match h[n]? with | some (.lst xs)=>xs.length+1 | _=>0
abbrev RI:=LI->HI->Option (Src×HI)
def P0(K:Frag)(H:Hp)(ρ:Rg)(s:Src)(J:It):Prop:=
 ∀H2 ρ2 h2,Kl ρ ρ2 H H2->Em K ρ2 h2 H2->∀i:Nat,match s.at h2 i with
  | none=>True
  | some none=>J.stop i H2
  | some (some d)=>J.go i H2/\∀v H3,J.yld i H2 v H3->zm K H3 ρ2 d v/\Ext ρ2 ρ2 H2 H3/\Em K ρ2 h2 H3
def iM(K:Frag)(g:RI):TI:=fun σ H R=>∃ρ l h s h',Em K ρ h H/\Fl K H ρ l σ/\g l h=some (s,h')/\∀ρ' J H',P0 K H' ρ' s J->Em K ρ' h' H'->Ext ρ ρ' H H'->R J H'
@[irreducible] def IM(X:Cx)(tg iter:Expr)(g:RI):Prop:=PI X tg iter (iM X.K g)
theorem PI.imp{X:Cx}{tg e:Expr}{t t':TI}(h:PI X tg e t)(i:∀σ H Q,t' σ H Q->t σ H Q):PI X tg e t':=fun pins s σ H Q I q=>h pins s σ H Q I (i σ H Q q)
abbrev RG:=Dt->LI->Option LI
def gM(K:Frag)(g:RG):TG:=fun v σ H Q=>∃ρ l h d l',Em K ρ h H/\Fl K H ρ l σ/\zm K H ρ d v/\g d l=some l'/\∀σ',Fl K H ρ l' σ'->Q σ' H
@[irreducible] def GM(X:Cx)(tg:Expr)(g:RG):Prop:=PG X tg (gM X.K g)
theorem PG.imp{X:Cx}{e:Expr}{t t':TG}(h:PG X e t)(i:∀v σ H Q,t' v σ H Q->t v σ H Q):PG X e t':=fun pins s σ H v u Q I r q=>h pins s σ H v u Q I r (i v σ H Q q)
noncomputable def JA(i:Nat):RG:=fun d l=>some (l.set i (some d))
def wC(bd:RG)(body:RS)(s:Src):Nat->Nat->RS
 | 0,_,_,_=>none
 | k+1,i,l,h=>match s.at h i with
  | none=>none
  | some none=>some (.nx l h)
  | some (some d)=>(bd d l).bind fun l1=>(body l1 h).bind fun r=>match r with
   | .nx l' h'=>wC bd body s k (i+1) l' h'
   | .ct l' h'=>wC bd body s k (i+1) l' h'
   | .bk l' h'=>some (.nx l' h')
   | .rt d h'=>some (.rt d h')
def OC(g:RI)(bd:RG)(body:RS):RS:=fun l h=>(g l h).bind fun r=>wC bd body r.1 (r.1.fuel r.2) 0 l r.2
section
variable{X:Cx}{tg iter:Expr}{pos:Pos}
theorem aC(i:Nat){x:Str}{pos:Pos}(hN:X.N.Nodup)(hi:X.N[i]?=some x:=by rfl)(hx:bK X.env.scope x:=by first | exact Or.inl rfl | exact Or.inr rfl)
 (hf:X.fn x=true\/X.env.scope.names.lookup x=some .local:=by first | exact .inl rfl | exact .inr rfl | assumption):GM X (.Name x pos) (JA i):=by
 with_unfolding_all exact PG.imp (vJ hN hi hx hf) fun v σ H Q zz=>by obtain⟨ρ,l,h,d,l',S,L,R,e,k⟩:=zz;cases e;exact k _ (L.set i R)
noncomputable def ZI(f:RE):RI:=fun l h=>(f l h).bind fun r=>match r.1 with | .int j=>if -(2^62)<=j/\j<2^62 then some (.vals ((List.range j.toNat).map fun(k:Nat)=>Dt.int (k:Int)),r.2)else none | _=>none
noncomputable def ZU(f g:RE):RI:=fun l h=>(f l h).bind fun r=>(g l r.2).bind fun q=>match r.1,q.1 with
 | .int i,.int j=>if -(2^62)<=i/\i<2^62/\-(2^62)<=j/\j<2^62 then some (.vals ((List.range (j-i).toNat).map fun(k:Nat)=>Dt.int (i+(k:Int))),q.2)else none | _,_=>none
theorem oG {a:Expr} {f:RE} {p pos:Pos} (hg:Gl X "range") (hm:X.mg "range" =none) (ha:EM X a f) (hs:xB a=true:=by rfl) :
 IM X tg (.Call (.Name "range" p) [a] [] pos) (ZI f):=by
 with_unfolding_all
  exact PI.imp (Vx hg hm (TC ha fE (jB hs _ _)) (jB hs _ _)) fun σ H R zz=>by
   obtain⟨ρ,l,h,s,h',S,L,e,k⟩:=zz;obtain⟨⟨d1,h1⟩,e1,e⟩:=xA e;refine⟨ρ,l,h,d1,h1,S,L,e1,fun ρ1 v H1 R1 S1 E1=>?_⟩;cases d1 with
   | int j=>
    obtain⟨⟨c1,c2⟩,e⟩:=FE e;cases e;refine⟨j,by rw[qm.mp R1],c1,c2,k ρ1 _ H1 (fun H2 ρ2 h2 E2 S2 i=>?_) S1 E1⟩;simp only[Src.at,getElem?_map];by_cases hi:i<j.toNat
    · rw[getElem?_range hi];refine⟨hi,fun v H3 q=>?_⟩;obtain⟨rfl,rfl⟩:=q;exact⟨qm.mpr (by simp),Ext.refl _ _,S2⟩
    · rw[getElem?_eq_none (by simpa using Nat.not_lt.mp hi)];exact Nat.not_lt.mp hi
   | _=>cases e
theorem RW {a b:Expr} {f g:RE} {p pos:Pos} (hg:Gl X "range") (hm:X.mg "range" =none) (ha:EM X a f) (hb:EM X b g) (hs:xB a=true:=by rfl) (hs2:xB b=true:=by rfl) :
 IM X tg (.Call (.Name "range" p) [a,b] [] pos) (ZU f g):=by
 with_unfolding_all
  exact PI.imp (Wx hg hm (TC ha (TC hb fE (jB hs2 _ _)) (jB hs _ _)) (by rw[jB hs,jB hs2];rfl) (jB hs2 _ _)) fun σ H R zz=>by
   obtain⟨ρ,l,h,s,h',S,L,e,k⟩:=zz;obtain⟨⟨d1,h1⟩,e1,e⟩:=xA e;obtain⟨⟨d2,h2⟩,e2,e⟩:=xA e;refine⟨ρ,l,h,d1,h1,S,L,e1,fun ρ1 v H1 R1 S1 E1=>⟨ρ1,l,h1,d2,h2,S1,L.ext E1,e2,fun ρ2 u H2 R2 S2 E2=>?_⟩⟩;cases d1 with
   | int i=>
    cases d2 with
    | int j=>
     obtain⟨c,e⟩:=FE e;cases e;refine⟨i,j,by rw[qm.mp R1,qm.mp R2],c,k ρ2 _ H2 (fun H3 ρ3 h3 E3 S3 n=>?_) S2 (E1.trans E2)⟩;simp only[Src.at,getElem?_map];by_cases hi:n<(j-i).toNat
     · rw[getElem?_range hi];refine⟨hi,fun v H4 q=>?_⟩;obtain⟨rfl,rfl⟩:=q;exact⟨qm.mpr rfl,Ext.refl _ _,S3⟩
     · rw[getElem?_eq_none (by simpa using Nat.not_lt.mp hi)];exact Nat.not_lt.mp hi
    | _=>cases e
   | _=>cases e
noncomputable def aV(f:RE):RI:=fun l h=>(f l h).bind fun r=>match r.1 with | .lst xs=>some (.vals xs,r.2) | .ref n=>some (.rf n,r.2) | _=>none
def zC(f:RE):RI:=fun l h=>(aV f l h).bind fun r=>if 0<r.1.fuel r.2 then some r else none
theorem dD{a:Expr}{f:RE}(ha:EM X a f):IM X tg a (zC f):=by
 with_unfolding_all
  exact PI.imp (Lk ha) fun σ H R zz=>by
   obtain⟨ρ,l,h,s,h',S,L,e,k⟩:=zz;obtain⟨⟨s1,h1⟩,e,ez⟩:=xA e;obtain⟨hz,ez⟩:=FE ez;cases ez;obtain⟨⟨d1,h2⟩,e1,e⟩:=xA e;refine⟨ρ,l,h,d1,h2,S,L,e1,fun ρ1 v H1 R1 S1 E1=>?_⟩;cases d1 with
   | lst xs=>
    cases e;obtain⟨a,vs,rfl,q,r⟩:=Cm.mp R1;refine⟨a,rfl,⟨vs,q.sq⟩,k ρ1 _ H1 (fun H2 ρ2 h2 E2 S2 i=>?_) S1 E1⟩;have q2:=q.same E2;have r2:=jm.same E2 _ r;simp only[Src.at];cases ei:xs[i]? with
    | none=>refine⟨vs,q2.sq,?_⟩;rw[r.length];exact getElem?_eq_none_iff.mp ei
    | some d=>obtain⟨v,g1,g2⟩:=r2.get ei;refine⟨⟨vs,v,q2.sq,g1⟩,fun u H3 y=>?_⟩;obtain⟨rfl,y⟩:=y;have y2:=y vs q2.sq;rw[g1]at y2;cases y2;exact⟨g2,Ext.refl _ _,S2⟩
   | ref n=>
    cases e;obtain⟨a,rfl,ha⟩:=Gm.mp R1;simp only[Src.fuel]at hz;split at hz
    · rename_i xs q0;obtain⟨vs0,g0,_⟩:=S1.lst ha q0;refine⟨a,rfl,⟨vs0,yp.of g0⟩,k ρ1 _ H1 (fun H2 ρ2 h2 E2 S2 i=>?_) S1 E1⟩;have ha2:=E2.ix _ _ ha;simp only[Src.at];split
      · trivial
      · rename_i y;split at y
        · rename_i ys q2;obtain⟨vs,g1,r⟩:=S2.lst ha2 q2;refine⟨vs,yp.of g1,?_⟩;rw[r.length];exact getElem?_eq_none_iff.mp (Option.some.inj y)
        · cases y
      · rename_i d y;split at y
        · rename_i ys q2;obtain⟨vs,g1,r⟩:=S2.lst ha2 q2;obtain⟨v,z1,z2⟩:=r.get (Option.some.inj y);refine⟨⟨vs,v,yp.of g1,z1⟩,fun u H3 y=>?_⟩;obtain⟨rfl,y⟩:=y;have y2:=y vs (yp.of g1);rw[z1]at y2;cases y2;exact⟨z2,Ext.refl _ _,S2⟩
        · cases y
    · exact absurd hz (by omega)
   | _=>cases e
theorem zD{body:List Stmt}{g:RI}{bd:RG}{f:RS}(hp:PassesOwn (model X.prog X.w) X.A X.env X.xe)(hc:X.calm=true)(hi:IM X tg iter g)(hg:GM X tg bd)(hb:UH X body f)
 (hs:∀x,foldedSetIterable iter X.env x=pure x:=by intro _;rfl):ZM X (.For tg iter body [] pos) (OC g bd f):=by
 with_unfolding_all
  exact PS.imp (Xr hp hc hi hg hb hs) fun D σ H zz=>by
   obtain⟨ρ,l,h,r,S,L,e,k⟩:=zz;obtain⟨⟨s,h1⟩,e1,e⟩:=xA e;refine⟨ρ,l,h,s,h1,S,L,e1,fun ρ1 J H1 ok S1 E1=>?_⟩;refine⟨fun i m σ' H'=>∃ρ' l' h',Em X.K ρ' h' H'/\Fl X.K H' ρ' l' σ'/\Ext ρ1 ρ' H1 H'/\wC bd f s m i l' h'=some r,⟨_,ρ1,l,h1,S1,L.ext E1,Ext.refl _ _,e⟩,?_⟩;rintro i m σ' H' ⟨ρ',l',h',S',L',E',e'⟩;cases m with
   | zero=>simp only[wC]at e';cases e'
   | succ m=>
    simp only[wC]at e';have ok':=ok H' ρ' h' E'.same S' i;cases q:s.at h' i with
    | none=>rw[q]at e';cases e'
    | some o=>
     rw[q]at e' ok';cases o with
     | none=>cases e';exact .inl ⟨ok',k ρ' σ' H' S' L' (E1.trans E')⟩
     | some d=>
      dsimp only at e';obtain⟨l1,b1,e'⟩:=xA e';obtain⟨r1,b2,e'⟩:=xA e';refine .inr ⟨ok'.1,fun σ2 H2=>∃m',m'<m+1/\∃ρ' l' h',Em X.K ρ' h' H2/\Fl X.K H2 ρ' l' σ2/\Ext ρ1 ρ' H1 H2/\wC bd f s m' (i+1) l' h'=some r,fun σ2 H2 q=>q,fun v H3 y=>?_⟩;obtain⟨R3,E3,S3⟩:=ok'.2 v H3 y;refine⟨ρ',l',h',d,l1,S3,L'.ext E3,R3,b1,fun σ4 L4=>⟨ρ',l1,h',r1,S3,L4,b2,?_⟩⟩;cases r1 with
      | nx l2 h2=>exact fun ρ5 σ5 H5 S5 L5 E5=>⟨m,Nat.lt_succ_self _,ρ5,l2,h2,S5,L5,E'.trans (E3.trans E5),e'⟩
      | ct l2 h2=>exact fun ρ5 σ5 H5 S5 L5 E5=>⟨m,Nat.lt_succ_self _,ρ5,l2,h2,S5,L5,E'.trans (E3.trans E5),e'⟩
      | bk l2 h2=>cases e';exact fun ρ5 σ5 H5 S5 L5 E5=>k ρ5 σ5 H5 S5 L5 (E1.trans (E'.trans (E3.trans E5)))
      | rt d2 h2=>cases e';exact fun ρ5 v5 H5 R5 S5 E5=>k ρ5 v5 H5 R5 S5 (E1.trans (E'.trans (E3.trans E5)))
end
noncomputable def jC(n N:Nat)(body:RS):RB:=fun ds h=>if ds.length=n then match body (ds.map some++List.replicate (N-n) none) h with
 | some (.rt d h')=>some (d,h')
 | some (.nx _ h')=>some (.non,h')
 | _=>none
 else none
def SI(K:Frag)(n:Nat)(F:RB):Sp:=fun vs H Q _=>∃ρ ds h d h',Em K ρ h H/\jm K H ρ ds vs/\ds.length=n/\F ds h=some (d,h')/\Out K ρ H d h' Q
section
variable{P:Program}{w:World}{K:Frag}{mg:Str->Option Value}{base:Heap}
theorem IN{H:Hp}{ρ:Rg}{N:List Str}{ds:List Dt}{vs:List V}(R:jm K H ρ ds vs):Fl K H ρ (ds.map some++List.replicate (N.length-ds.length) none) (L2.HF N vs):=by
 have hl:=R.length;refine⟨by simp[L2.HF,hl],fun i d e=>?_⟩;by_cases hi:i<ds.length
 · rw[zfZ (by simpa using hi),getElem?_map]at e;cases q:ds[i]? with
   | none=>rw[q]at e;cases e
   | some d'=>rw[q]at e;cases e;obtain⟨v,g1,g2⟩:=R.get q;refine⟨v,?_,g2⟩;unfold L2.HF;rw[zfZ (by simpa[hl]using hi),getElem?_map,g1];rfl
 · rw[zf2 (by simpa using Nat.not_lt.mp hi),getElem?_replicate]at e;split at e<;>cases e
theorem QO{x qual:Str}{st:Stmt}{f:Addr}{fd:FuncData}{N ps:List Str}{k:Nat}{body:RS}(F:Fun K x qual st f fd)(S:dB N ps (HA st))
 (hb:∀(cdv:Value)(A:Around)(outer:List Env)(s:Shared)(H:Hp)(E:XK),Zm k (A.deeper (envOfC qual (HA st) s.heap.objs.size f cdv))->
  UH (AF dG P w K mg base N qual (HA st) f cdv A outer s H E).nox (AD st) body):Ql P w K mg base dG (k+1) f fd ps (SI K ps.length (jC ps.length N.length body)):=by
 with_unfolding_all
  refine F.ok S (fun vs H Q E h=>?_) (fun cdv A outer s H vs Q E hr h=>?_)
  · obtain⟨ρ,ds,h,d,h',S,R,hl,_⟩:=h;rw[R.length,hl]
  · obtain⟨ρ,ds,h,d,h',S,R,hl,e,k⟩:=h;refine⟨_,hb cdv A outer s H E hr,?_⟩;unfold jC at e;rw[if_pos hl]at e;rw[<- hl]at e;split at e
    · rename_i d1 h1 q;cases e;exact⟨ρ,_,h,_,S,IN R,q,k⟩
    · rename_i l1 h1 q;cases e;exact⟨ρ,_,h,_,S,IN R,q,fun ρ' σ' H' S' L' E'=>k ρ' _ H' (Km.mpr rfl) S' E'⟩
    · cases e
end
noncomputable def FA(F:RB)(dds:List Dt)(g:RA):RE:=fun l h=>(g l h).bind fun r=>F (r.1++dds) r.2
section
variable{X:Cx}{k n:Nat}{f:Addr}{fd:FuncData}{ps:List Str}{F:RB}{x:Str}{p pos:Pos}{e:Expr}{es:List Expr}{g:RA}{Np:List V}{ds:List Value}{dds:List Dt}
theorem HX(hF:Ql X.prog X.w X.K X.mg X.base dG k f fd ps (SI X.K n F))(hr:Zm k X.A)(hg:Gl X x)(hm:X.mg x=some (.ref f))(hk:keepIn X.K (.ref f)=true)(hb:Binds X.K fd ps ds)(hd:Vals Np ds)(hdd:∀H ρ,jm X.K H ρ dds Np)
 (ha:AM X (e::es) g) (hn:∀(F':List Dt->HI->Option (Dt×HI)),F'=F->∀ds h r,F' ds h=some r->ds.length=n) (hdb:(x==("__debug__" :Str))=false:=by decide) (he:xB e=true:=by rfl) (hpl:es.all xB=true:=by rfl) :
 EM X (.Call (.Name x p) (e::es) [] pos) (FA F dds g):=by
 with_unfolding_all exact PE.imp (Bk hF hr hg hm hk hb hd (E:=E0) aP ha hdb (jB he _ _) (uI hpl)) fun σ H Q zz=>by obtain⟨ρ,l,h,d,h',S,L,e,k⟩:=zz;obtain⟨⟨ds1,h1⟩,e1,e⟩:=xA e;exact⟨ρ,l,h,ds1,h1,S,L,e1,fun ρ1 vs H1 R1 S1 E1=>⟨ρ1,_,h1,d,h',S1,R1.append (hdd H1 ρ1),hn F rfl _ _ _ e,e,k.ext E1⟩⟩
theorem pO{n N:Nat}{body:RS}{ds:List Dt}{h:HI}{r:Dt×HI}(e:jC n N body ds h=some r):ds.length=n:=by
 unfold jC at e;split at e
 · assumption
 · cases e
noncomputable def DO(F:RB)(dds:List Dt):RE:=fun _ h=>F dds h
theorem Nq(hF:Ql X.prog X.w X.K X.mg X.base dG k f fd ps (SI X.K n F))(hr:Zm k X.A)(hg:Gl X x)(hm:X.mg x=some (.ref f))(hk:keepIn X.K (.ref f)=true)(hb:Binds X.K fd ps ds)(hd:Vals Np ds)(hdd:∀H ρ,jm X.K H ρ dds Np)
 (hn:∀(F':List Dt->HI->Option (Dt×HI)),F'=F->∀ds h r,F' ds h=some r->ds.length=n) (hdb:(x==("__debug__" :Str))=false:=by decide) :
 EM X (.Call (.Name x p) [] [] pos) (DO F dds):=by
 with_unfolding_all exact PE.imp (Vz hF hr hg hm hk hb hd (E:=E0) aP hdb) fun σ H Q zz=>by obtain⟨ρ,l,h,d,h',S,L,e,k⟩:=zz;exact⟨ρ,dds,h,d,h',S,hdd H ρ,hn F rfl _ _ _ e,e,k⟩
end
end SM
namespace L2
noncomputable def OE(cells:List (Str×Addr)):List (Str×NameKind)->List (Str×Addr)->Option (List (Str×Addr))
 | [],cs=>some cs
 | (n,k)::r,cs=>if k==.free then match cells.lookup n with
  | some a=>OE cells r ((n,a)::cs)
  | none=>none
  else OE cells r cs
theorem sS{env:Env}:∀{l:List (Str×NameKind)}{cs cl:List (Str×Addr)},OE env.cells l cs=some cl->
 (forIn l cs fun(x:Str×NameKind) (r:List (Str×Addr))=>if(x.2==NameKind.free)=true then(do let a <- cellOf env x.1;pure (ForInStep.yield ((x.1,a)::r)):Sem _)else pure (ForInStep.yield r))=pure cl
 | [],cs,cl,h=>by simp only[OE]at h;cases h;rfl
 | (n,k)::r,cs,cl,h=>by
  simp only[OE]at h;rw[forIn_cons];cases hk:k==NameKind.free with
  | true=>
   rw[hk,if_pos rfl]at h;cases hc:env.cells.lookup n with
   | none=>rw[hc]at h;cases h
   | some a=>
    rw[hc]at h;have ih:=sS (env:=env) h;simp only[hk,if_true];have e:cellOf env n=pure a:=by unfold cellOf;rw[hc]
    rw[e];simp only[pure_bind];exact ih
  | false=>rw[hk,if_neg (by decide)]at h;have ih:=sS (env:=env) h;simp only[hk,zf4,if_false,pure_bind];exact ih
theorem eW{scope:Scope}{env:Env}{cl:List (Str×Addr)}(h:OE env.cells scope.names []=some cl):closureFor scope env=pure cl:=by have e:=sS (env:=env) h;unfold closureFor;simp only[bind_pure];exact e
theorem QR{cells:List (Str×Addr)}:∀{l:List (Str×NameKind)}{cs cl:List (Str×Addr)},OE cells l cs=some cl->(∀x c,cs.lookup x=some c->cells.lookup x=some c)->
 (∀x c,cl.lookup x=some c->cells.lookup x=some c)/\(∀x c,cs.lookup x=some c->∃c',cl.lookup x=some c')/\∀n,(n,NameKind.free)∈l->∃c,cl.lookup n=some c
 | [],cs,cl,h,i=>by simp only[OE]at h;cases h;exact⟨i,fun x c e=>⟨c,e⟩,fun n hn=>nomatch hn⟩
 | (n,k)::r,cs,cl,h,i=>by
  simp only[OE]at h;cases hk:k==NameKind.free with
  | true=>
   rw[hk,if_pos rfl]at h;cases hc:cells.lookup n with
   | none=>rw[hc]at h;cases h
   | some a=>
    rw[hc]at h;have i':∀x c,((n,a)::cs).lookup x=some c->cells.lookup x=some c:=fun x c e=>by
     rw[lookup_cons]at e;cases hx:x==n with
     | true=>rw[hx]at e;cases e;rw[eq_of_beq hx];exact hc
     | false=>rw[hx]at e;exact i x c e
    obtain⟨h1,h2,h3⟩:=QR h i';refine⟨h1,fun x c e=>?_,fun m hm=>?_⟩
    · cases hx:x==n with
      | true=>exact h2 x a (by rw[lookup_cons,hx])
      | false=>exact h2 x c (by rw[lookup_cons,hx];exact e)
    · rcases mem_cons.mp hm with z | z
      · cases z;exact h2 _ a (by rw[lookup_cons,beq_self_eq_true])
      · exact h3 m z
  | false=>
   rw[hk,if_neg (by decide)]at h;obtain⟨h1,h2,h3⟩:=QR h i;refine⟨h1,h2,fun m hm=>?_⟩;rcases mem_cons.mp hm with z | z
   · cases z;cases hk
   · exact h3 m z
noncomputable def pC(X:Cx)(Nc:List Str)(scope:Scope)(cl:List (Str×Addr))(C:Addr)(s0:Shared)(H0:Hp)(fp:List Addr):Cx:=
 { X with N:=Nc,s₀:=s0,H₀:=H0,env:=compEnvC scope cl C X.env,outer:=X.stack,stack:=X.stack,ex:=fp,fn:=fun _=>false,pn:=[],xe:=fun _ _=>False }
theorem TV{env:Env}:∀{names:List (Str×NameKind)}{x:Str},(∀y∈names,y.2≠.cell)->
 ((names.map fun(n,k)=>if(k==NameKind.free&&env.scope.kind==.function&&env.kindOf n==some .cell)then(n,NameKind.cell)else(n,k)).lookup x=some .cell\/
  (names.map fun(n,k)=>if(k==NameKind.free&&env.scope.kind==.function&&env.kindOf n==some .cell)then(n,NameKind.cell)else(n,k)).lookup x=some .free)->(x,NameKind.free)∈names
 | [],_,_,h=>by simp at h
 | (n,k)::r,x,hc,h=>by
  have ih:=@TV env r x (fun y hy=>hc y (mem_cons_of_mem _ hy));have hk:k≠.cell:=hc (n,k) mem_cons_self;rw[zfQ]at h;cases hx:x==n with
  | true=>
   have ex:=eq_of_beq hx;subst ex;by_cases hf:k=.free
   · subst hf;exact mem_cons_self
   · have hb:(k==NameKind.free)=false:=by simpa using hf
     simp only[hb,Bool.false_and,zf4,if_false,lookup_cons,beq_self_eq_true]at h;rcases h with h | h
     · exact absurd (Option.some.inj h) hk
     · exact absurd (Option.some.inj h) hf
  | false=>
   refine mem_cons_of_mem _ (ih ?_);by_cases hq:(k==NameKind.free&&env.scope.kind==.function&&env.kindOf n==some .cell)=true
   · simp only[hq,if_true,lookup_cons,hx]at h;exact h
   · rw[Bool.not_eq_true]at hq;simp only[hq,zf4,if_false,lookup_cons,hx]at h;exact h
noncomputable def Ml(X:Cx)(scope:Scope)(cl:List (Str×Addr)):List Str->List (Option Nat)->Prop
 | [],[]=>True
 | _::N,none::cs=>Ml X scope cl N cs
 | x::N,some j::cs=>(X.N[j]?=some x/\(X.env.kindOf x=some .cell\/X.env.kindOf x=some .free)/\((relabel scope X.env).names.lookup x=some .cell\/(relabel scope X.env).names.lookup x=some .free)/\
  cl.lookup x=X.env.cells.lookup x)/\Ml X scope cl N cs
 | _,_=>False
noncomputable def wG(σ:St)(cap:List (Option Nat)):St:=cap.map fun o=>match o with | some j=>(σ[j]?).join | none=>none
theorem Ml.get{X:Cx}{scope:Scope}{cl:List (Str×Addr)}:∀{N:List Str}{cs:List (Option Nat)},Ml X scope cl N cs->∀{i j:Nat}{x:Str},N[i]?=some x->cs[i]?=some (some j)->
 X.N[j]?=some x/\(X.env.kindOf x=some .cell\/X.env.kindOf x=some .free)/\((relabel scope X.env).names.lookup x=some .cell\/(relabel scope X.env).names.lookup x=some .free)/\cl.lookup x=X.env.cells.lookup x
 | [],[],_,i,j,x,h,_=>by simp at h
 | y::N,none::cs,h,0,j,x,_,e=>by simp at e
 | y::N,none::cs,h,i+1,j,x,e1,e2=>Ml.get (N:=N) (cs:=cs) h (i:=i) (by simpa using e1) (by simpa using e2)
 | y::N,some k::cs,h,0,j,x,e1,e2=>by simp at e1 e2;subst e1 e2;exact h.1
 | y::N,some k::cs,h,i+1,j,x,e1,e2=>Ml.get (N:=N) (cs:=cs) h.2 (i:=i) (by simpa using e1) (by simpa using e2)
 | [],_::_,h,_,_,_,_,_=>h.elim
 | _::_,[],h,_,_,_,_,_=>h.elim
theorem Ml.length{X:Cx}{scope:Scope}{cl:List (Str×Addr)}:∀{N:List Str}{cs:List (Option Nat)},Ml X scope cl N cs->cs.length=N.length
 | [],[],_=>rfl
 | y::N,none::cs,h=>by rw[zfO,zfO,Ml.length (N:=N) (cs:=cs) h]
 | y::N,some k::cs,h=>by rw[zfO,zfO,Ml.length (N:=N) (cs:=cs) h.2]
 | [],_::_,h=>h.elim
 | _::_,[],h=>h.elim
def UI(X:Cx)(ifs:List Expr)(t:TT):Prop:=
 ∀(pins:List (Addr×Obj))(s:Shared)(σ:St)(H:Hp)(Q:Bool->Hp->Prop),Inv X pins σ H s->t σ H Q->
  wpAny (model X.prog X.w) X.A (forIn ifs true fun c r=>if r=true then do let ok <- isTrue c X.env (eval c X.env);pure (ForInStep.yield ok)else pure (ForInStep.yield r)) (TP X pins σ Q) X.xe s
theorem Cv{X:Cx}:UI X [] (fun _ H Q=>Q true H):=fun _ _ _ H _ I q=>wpAny_tests_nil ⟨H,I,q⟩
theorem Dv{X:Cx}{c:Expr}{t:TT}(h:PT X c t):UI X [c] t:=fun pins s σ H Q I q=>wpAny_tests_one (h pins s σ H Q I q)
def xU(wi:TI)(g:TG)(tc:TT)(te:TE)(cap:List (Option Nat)):TE:=fun σ H Q=>wi σ H fun J H1=>∀D,H1 D=none->∃W:Nat->Nat->St->List V->Hp->Prop,
 (∃m,W 0 m (wG σ cap) [] (KB H1 D (.lst [])))/\∀i m σ' ys H',W i m σ' ys H'->
  (J.stop i H'/\Q (.ref D) H')\/(J.go i H'/\∀x H2,J.yld i H' x H2->g x σ' H2 fun σ2 H3=>tc σ2 H3 fun b H4=>if b=true then te σ2 H4 fun y H5=>
   H5 D=some (.lst ys)/\ys.length<sizeLine/\∃m',m'<m/\W (i+1) m' σ2 (ys++[y]) (KB H5 D (.lst (ys++[y])))else ∃m',m'<m/\W (i+1) m' σ2 ys H4)
section
variable{prog:Program}{w:World}{A:Around}{R:Result->Shared->Prop}{s:Shared}
theorem L8{elt target iter:Expr}{ifs:List Expr}{scope:Scope}{pos:Pos}{it acc:Value}{env:Env}(I:Nat->Shared->Prop)
 (turn:∀n s,I n s->wpAny (model prog w) A (pyNext it) (fun r s₁=>match r with
  | none=>R (.ok .next) s₁
  | some v=>wpAny (model prog w) A (letOwnedTupleGo target it v) (fun _ s₁'=>wpAny (model prog w) A (assign target env v) (fun _ s₂=>
   wpAny (model prog w) A (forIn ifs true fun c r=>if r=true then do let ok <- isTrue c env (eval c env);pure (ForInStep.yield ok)else pure (ForInStep.yield r)) (fun ok s₃=>
    if ok=true then wpAny (model prog w) A (eval elt env) (fun x s₄=>
     wpAny (model prog w) A (call (.builtin "list.append") [acc,x]) (fun _ s₅=>∃m,m<n/\I m s₅) (fun _ _=>False) s₄) (fun _ _=>False) s₃
    else ∃m,m<n/\I m s₃) (fun _ _=>False) s₂) (fun _ _=>False) s₁') (fun _ _=>False) s₁) (fun _ _=>False) s)
 (n:Nat) (h:I n s):codeAny (model prog w) A (.compLoop (.ListComp elt [⟨target,iter,ifs,0⟩] scope pos) 0 it acc env) R s:=by
 refine codeAny_loop rfl I (fun n s hI=>?_) n h;show wpAny _ A ((compTurn (.ListComp elt [⟨target,iter,ifs,0⟩] scope pos) 0 it acc env).onRaise (fun x=>do noteFrame x env;theTreesLotGoes x)) _ _ s;refine wpAny_noted ?_;rw[compTurn_list];refine wpAny_bind (wpAny_standAt (wpAny_bind (wpAny_mono (turn n s hI) (fun r s₁ h₁=>?_) fun _ _ h'=>h'.elim)));cases r with
 | none=>exact wpAny_pure h₁
 | some v=>
  refine wpAny_bind (wpAny_mono h₁ (fun _ s₁' h₁'=>?_) fun _ _ h'=>h'.elim);refine wpAny_bind (wpAny_mono h₁' (fun _ s₂ h₂=>wpAny_bind (wpAny_mono h₂ (fun ok s₃ h₃=>?_) fun _ _ h'=>h'.elim)) fun _ _ h'=>h'.elim);cases ok with
  | false=>exact wpAny_pure ⟨rfl,h₃⟩
  | true=>exact wpAny_bind (wpAny_bind (wpAny_mono h₃ (fun x s₄ h₄=>wpAny_bind (wpAny_mono h₄ (fun _ s₅ h₅=>wpAny_pure (wpAny_pure ⟨rfl,h₅⟩)) fun _ _ h'=>h'.elim)) fun _ _ h'=>h'.elim))
end
section
variable{X:Cx}{elt iter tg:Expr}{ifs:List Expr}{scope:Scope}{cl:List (Str×Addr)}{pos:Pos}{Nc:List Str}{wi:TI}{g:TG}{tc:TT}{te:TE}{cap:List (Option Nat)}
theorem fW{pins:List (Addr×Obj)}{σ:St}{H:Hp}{s:Shared}{it:Addr}{fp:List Addr}{tn:Nat->Heap->Prop}{J:It}{Q:VK}{RR:Value->Addr->Result->Shared->Prop}{E:Value->Shared->Prop}
 (hc:X.calm=true) (hcl:OE X.env.cells scope.names []=some cl) (hcell:∀y∈scope.names,y.2≠.cell) (hkind:scope.kind=.function) (hcap:Ml X scope cl Nc cap)
 (hg:∀C s0 H0 fp,PG (pC X Nc scope cl C s0 H0 fp) tg g) (ht:∀C s0 H0 fp,UI (pC X Nc scope cl C s0 H0 fp) ifs tc) (he:∀C s0 H0 fp,PE (pC X Nc scope cl C s0 H0 fp) elt te)
 (I:Inv X pins σ H s) (T:TH X.prog X.w X.K tg J fp it tn) (st:tn 0 s.heap) (hf:∀b∈fp,iF X pins H b)
 (read:∀D,H D=none->∃W:Nat->Nat->St->List V->Hp->Prop,
  (∃m,W 0 m (wG σ cap) [] (KB H D (.lst [])))/\∀i m σ' ys H',W i m σ' ys H'->
   (J.stop i H'/\Q (.ref D) H')\/(J.go i H'/\∀x H2,J.yld i H' x H2->g x σ' H2 fun σ2 H3=>tc σ2 H3 fun b H4=>if b=true then te σ2 H4 fun y H5=>
    H5 D=some (.lst ys)/\ys.length<sizeLine/\∃m',m'<m/\W (i+1) m' σ2 (ys++[y]) (KB H5 D (.lst (ys++[y])))else ∃m',m'<m/\W (i+1) m' σ2 ys H4))
 (hRR:∀(C D:Addr)(s':Shared)(H':Hp) m,Inv X pins σ H' s'->s'.heap.Ns C m->H' C=none->C≠X.env.locals->X.s₀.heap.objs.size<=C->(∀x c,X.env.cells.lookup x=some c->c≠C)->(∀p∈X.pn++pins,p.1≠C)->Q (.ref D) H'->RR (.ref D) C (.ok .next) s') :
 wpAny (model X.prog X.w) X.A (newList []) (fun acc s₃=>wpAny (model X.prog X.w) X.A (newFunctionEnv scope X.env.globals cl [] X.env.qual none .none (some X.env)) (fun cenv s₄=>
  codeAny (model X.prog X.w) X.A (.compStart (.ListComp elt [⟨tg,iter,ifs,0⟩] scope pos) 0 (.ref it) acc { cenv with scope:=relabel scope X.env }) (RR acc cenv.locals) s₄) E s₃) E s:=by
 obtain⟨sub,_,zdM⟩:=QR hcl (fun _ _ e=>by simp at e);refine wpAny_newObj_type (wpAny_newFunctionEnv hcell (by intro y hy;simp at hy) (fun h₁ hns₁ hsb₁=>?_) hkind);have hD:=I.fresh;have I3:Inv X pins σ (KB H s.heap.objs.size (.lst [])) { s with heap:=s.heap.push { cls:=.type "list",data:=.seq ([]:List Value).toArray } }:=I.zbZ (ys:=[]) (its:=[]) (t':=s.toks) .nil (Nat.zero_le _);generalize hs3:({ s with heap:=s.heap.push { cls:=.type "list",data:=.seq ([]:List Value).toArray } }:Shared)=s3 at I3;generalize hH3:KB H s.heap.objs.size (.lst [])=H3 at I3;have hh3:s3.heap=s.heap.push { cls:=.type "list",dict:=none,data:=.seq ([]:List Value).toArray }:=by rw[<- hs3]
 dsimp only at hns₁ hsb₁ ⊢;rw[<- hh3]at hns₁ hsb₁;have hCn:H3 s3.heap.objs.size=none:=I3.fresh;have hCL:s3.heap.objs.size≠X.env.locals:=fun z=>by have:=I3.lt;rw[<- z]at this;exact Nat.lt_irrefl _ this
 have hC0:X.s₀.heap.objs.size<=s3.heap.objs.size:=I3.sz;have zbT:∀x c,X.env.cells.lookup x=some c->c<s3.heap.objs.size:=fun x c e=>by obtain⟨v,o,ho,_⟩:=I3.cell x c e;exact Heap.lt_size ho
 have hCc:∀x c,X.env.cells.lookup x=some c->c≠s3.heap.objs.size:=fun x c e z=>by have:=zbT x c e;rw[z]at this;exact Nat.lt_irrefl _ this
 have hCp:∀p∈X.pn++pins,p.1≠s3.heap.objs.size:=fun p hp z=>by have:=Heap.lt_size (I3.pin p hp).1;rw[z]at this;exact Nat.lt_irrefl _ this
 have zcl:∀b∈fp,b<s.heap.objs.size:=fun b hb=>by obtain⟨o,e,_⟩:=T.obj 0 _ st b hb;exact Heap.lt_size e
 have V1:s3.heap.objs.size=s.heap.objs.size+1:=by rw[hh3,Heap.size_push]
 have old:∀b o,s3.heap.get? b=some o->h₁.get? b=some o:=fun b o e=>hsb₁.extBut b o (Nat.ne_of_lt (Heap.lt_size e)) (Heap.get?_push_of_some _ e)
 have zdU:∀b o,s.heap.get? b=some o->s3.heap.get? b=some o:=fun b o e=>by rw[hh3];exact Heap.get?_push_of_some _ e
 have fpH:∀b∈fp,H3 b=none:=fun b hb=>by rw[<- hH3,cB (Nat.ne_of_lt (zcl b hb))];exact(hf b hb).1
 have okY:(pC X Nc scope cl s3.heap.objs.size s3 H3 fp).Ok:=by
  refine⟨I3.ok.mod,hkind,I3.ok.glob,I3.ok.blt,zf1 _,fun x y c e1 e2=>I3.ok.inj x y c (sub x c e1) (sub y c e2),fun x hx=>?_,fun x c e _=>absurd e zf0,I3.ok.hd,I3.ok.frames,.inl rfl,fun b hb=>⟨?_,fun x c e=>?_⟩,fun b o e=>I3.bs b o e,?_,fun b o e=>?_,fun b hb=>?_,I3.stack,I3.zaX⟩
  · exact zdM x (TV hcell hx)
  · intro z;have:=zcl b hb;have z':b=s3.heap.objs.size:=z;rw[z',V1]at this;exact absurd this (Nat.not_lt.mpr (Nat.le_succ _))
  · exact(hf b hb).2.2.2.2.1 x c (sub x c e)
  · exact Nat.le_trans I3.ok.bsz I3.sz
  · intro hb;have h1:=(hf b hb).2.2.2.1;have h2:=I3.ok.bs b o e;rcases h1 with z | z
    · exact I3.ok.zbk b o e z
    · exact absurd (Nat.lt_of_lt_of_le (Heap.lt_size h2.1) z) (Nat.lt_irrefl _)
  · intro z;rcases mem_cons.mp (I3.zaR b z)with z | z
    · exact(hf b hb).2.1 z
    · exact(hf b hb).2.2.1 z
 have IY:Inv (pC X Nc scope cl s3.heap.objs.size s3 H3 fp) [] (wG σ cap) H3 { s3 with heap:=h₁,toks:=s3.toks+([]:List (Str×Value)).length }:=by
  refine⟨okY,rfl,I3.bare,Un.kept old,⟨_,hns₁,fun i x v e1 e2 _=>?_⟩,fun x c e=>?_,hCn,fun x c e=>I3.Vp x c (sub x c e),fun p hp=>absurd hp (by simp[pC]),I3.hok.kept old,?_⟩
  · have e2':(wG σ cap)[i]?=some (some v):=e2;unfold wG at e2';rw[getElem?_map]at e2';cases q:cap[i]? with
    | none=>rw[q]at e2';cases e2'
    | some o=>
     rw[q]at e2';cases o with
     | none=>cases e2'
     | some j=>
      have e3:(σ[j]?).join=some v:=by simpa using e2'
      have e4:σ[j]?=some (some v):=by
       cases z:σ[j]? with
       | none=>rw[z]at e3;cases e3
       | some y=>rw[z]at e3;simpa using e3
      obtain⟨n1,n2,n3,n4⟩:=hcap.get e1 q;obtain⟨m,_,hl⟩:=I3.loc;have hv:C1 X.env.scope x:=.inr n2;obtain⟨u,r,lk⟩:=hl j x v n1 e4 hv;refine⟨u,r,.inr ⟨n3,?_⟩⟩;rcases lk with⟨k,_⟩ | ⟨_,c,ec,ob,z1,z2⟩
      · rcases n2 with n2 | n2<;>rw[k]at n2<;>cases n2
      · exact⟨c,n4.trans ec,ob,old c ob z1,z2⟩
  · obtain⟨v,o,z1,z2⟩:=I3.cell x c (sub x c e);exact⟨v,o,old c o z1,z2⟩
  · show(wG σ cap).length=Nc.length;unfold wG;rw[length_map];exact hcap.length
 obtain⟨W,⟨m0,w0⟩,turn⟩:=read s.heap.objs.size hD;rw[hH3]at w0;have st1:tn 0 h₁:=T.keep 0 _ _ st fun b _ o e=>old b o (zdU b o e)
 have fpY:∀{H':Hp},(∀b∈fp,H' b=none)->∀b∈fp,iF (pC X Nc scope cl s3.heap.objs.size s3 H3 fp) [] H' b:=fun hn b hb=>⟨hn b hb,(okY.exf b hb).1,okY.zbf b hb,.inl hb,fun x c e=>(okY.exf b hb).2 x c e,fun p hp=>absurd hp (by simp[pC])⟩
 have loop:codeAny (model X.prog X.w) X.A (.compLoop (.ListComp elt [⟨tg,iter,ifs,0⟩] scope pos) 0 (.ref it) (.ref s.heap.objs.size) (compEnvC scope cl s3.heap.objs.size X.env)) (RR (.ref s.heap.objs.size) s3.heap.objs.size)
  { s3 with heap:=h₁,toks:=s3.toks+([]:List (Str×Value)).length }:=by
  refine L8 (fun n s'=>∃i σ' ys H',Inv (pC X Nc scope cl s3.heap.objs.size s3 H3 fp) [] σ' H' s'/\tn i s'.heap/\(∀b∈fp,H' b=none)/\W i n σ' ys H') ?_ m0 ⟨0,_,[],H3,IY,st1,fpH,w0⟩;rintro n s4 ⟨i,σ4,ys,H4,I4,st4,fr4,w4⟩;rcases turn i n σ4 ys H4 w4 with⟨stop,qn⟩ | ⟨go,step⟩
  · refine HB (T.done (pC X Nc scope cl s3.heap.objs.size s3 H3 fp) rfl rfl rfl hc i [] s4 σ4 H4 _ I4 (fpY fr4) st4 stop) fun r s5 zz=>?_
    obtain⟨hr,I5⟩:=zz;subst hr;have I6:Inv X pins σ H4 s5:=I3.call' (ch:=fp) I5.os I5.base I5.hok I5.bare fun b hb=>⟨(hf b hb).2.2.2.1,(hf b hb).2.1,(hf b hb).2.2.2.2.1,(hf b hb).2.2.2.2.2⟩
    obtain⟨m,hn,_⟩:=I5.loc;exact hRR _ _ s5 H4 m I6 hn I5.free hCL hC0 hCc hCp qn
  · refine HB (T.item (pC X Nc scope cl s3.heap.objs.size s3 H3 fp) rfl rfl rfl hc i [] s4 σ4 H4 _ I4 (fpY fr4) st4 go) fun r s5 zz=>?_
    obtain⟨u,hr,h5⟩:=zz;subst hr;refine HB h5 fun _ s6 zz=>?_
    obtain⟨x,H6,I6,r6,y6,st6,fr6⟩:=zz;have I6':=I6.pinned (fpY fr6) (T.obj _ _ st6);refine HB (hg _ _ _ _ _ s6 σ4 H6 x u _ I6' r6 (step x H6 y6)) fun _ s7 zz=>?_
    obtain⟨σ7,H7,I7,q7⟩:=zz;refine HB (ht _ _ _ _ _ s7 σ7 H7 _ I7 q7) fun b s8 zz=>?_
    obtain⟨H8,I8,q8⟩:=zz;have again:∀{σ9:St}{H9:Hp}{s9:Shared}{ys9:List V},Inv (pC X Nc scope cl s3.heap.objs.size s3 H3 fp) ([]++BL fp s6.heap) σ9 H9 s9->(∃m',m'<n/\W (i+1) m' σ9 ys9 H9)->
     ∃m',m'<n/\∃i σ' ys H',Inv (pC X Nc scope cl s3.heap.objs.size s3 H3 fp) [] σ' H' s9/\tn i s9.heap/\(∀b∈fp,H' b=none)/\W i m' σ' ys H':=fun {σ9 H9 s9 ys9} I9 ⟨m',hm,w9⟩=>by
     refine⟨m',hm,i+1,σ9,ys9,H9,I9.zah,T.keep _ _ _ st6 fun b hb o e=>(I9.pin (b,o) (mem_append_right _ (mem_append_right _ (sN hb e)))).1,fun b hb=>?_,w9⟩;obtain⟨o,e,d⟩:=T.obj _ _ st6 b hb;exact(I9.pin (b,o) (mem_append_right _ (mem_append_right _ (sN hb e)))).2.1
    cases b with
    | false=>rw[if_neg zf0]at q8 ⊢;exact again I8 q8
    | true=>
     rw[if_pos rfl]at q8 ⊢;refine HB (he _ _ _ _ _ s8 σ7 H8 _ I8 q8) fun y s9 zz=>?_
     obtain⟨v,H9,I9,r9,d9,z9,w9⟩:=zz;refine HB (sW (X:=pC X Nc scope cl s3.heap.objs.size s3 H3 fp) _ s9 σ7 H9 (.ref s.heap.objs.size) [v] (.ref s.heap.objs.size) [y] (fun _ H'=>H'=KB H9 s.heap.objs.size (.lst (ys++[v]))) I9 rfl (.cons r9 .nil) ⟨_,ys,v,rfl,rfl,d9,z9,rfl⟩) fun _ s10 zz=>?_
     obtain⟨_,H10,I10,_,e10⟩:=zz;subst e10;exact again I10 w9
 exact codeAny_compStart_list loop (T.self X.A 0 _ _ _ st1 loop)
theorem LY(hc:X.calm=true)(hi:PI X tg iter wi)(hcl:OE X.env.cells scope.names []=some cl)(hcell:∀y∈scope.names,y.2≠.cell)(hkind:scope.kind=.function)
 (hnames:∀y∈scope.names,y.2=.local->scope.names.lookup y.1=some .local) (hcap:Ml X scope cl Nc cap)
 (hg:∀C s0 H0 fp,PG (pC X Nc scope cl C s0 H0 fp) tg g) (ht:∀C s0 H0 fp,UI (pC X Nc scope cl C s0 H0 fp) ifs tc) (he:∀C s0 H0 fp,PE (pC X Nc scope cl C s0 H0 fp) elt te)
 (hs:∀x,foldedSetIterable iter X.env x=pure x:=by intro _;rfl):PE X (.ListComp elt [⟨tg,iter,ifs,0⟩] scope pos) (xU wi g tc te cap):=by
 intro pins s σ H Q I h;rw[eval_ListComp];refine wpAny_comprehension_free (use:=none) rfl hs (eW hcl) hkind hnames (HB (hi pins s σ H _ I h) fun v s1 h1=>HB h1 fun itv s2 h2=>?_);obtain⟨it,fp,tn,J,H2,e,I2,T,st2,f2,read⟩:=h2;subst e;refine fW hc hcl hcell hkind hcap hg ht he I2 T st2 f2 read fun C D s' H' m I' hn n1 n2 n3 n4 n5 q=>?_
 refine⟨m,hn,fun h' hs'=>⟨.ref D,H',?_,rfl,q⟩⟩;exact I'.turned (t':=s'.toks) (fun b o hb e=>hs'.extBut b o hb e) n1 n2 (.inr n3) n4 n5
theorem aW{i:Nat}{y:Str}{py spos:Pos}(hc:X.calm=true)(hN:X.N.Nodup)(hiN:X.N[i]?=some y)(hy:X.env.scope.names.lookup y=some .local)(hi:PI X tg iter wi)(hcl:OE X.env.cells scope.names []=some cl)(hcell:∀y∈scope.names,y.2≠.cell)(hkind:scope.kind=.function)
 (hnames:∀y∈scope.names,y.2=.local->scope.names.lookup y.1=some .local) (hcap:Ml X scope cl Nc cap)
 (hg:∀C s0 H0 fp,PG (pC X Nc scope cl C s0 H0 fp) tg g) (ht:∀C s0 H0 fp,UI (pC X Nc scope cl C s0 H0 fp) ifs tc) (he:∀C s0 H0 fp,PE (pC X Nc scope cl C s0 H0 fp) elt te)
 (hsw:swapsWith (.ListComp elt [⟨tg,iter,ifs,0⟩] scope pos) (some (.Name y py)) spos.line X.env=pure true)
 (hs:∀x,foldedSetIterable iter X.env x=pure x:=by intro _;rfl):PS X (.Assign [.Name y py] (.ListComp elt [⟨tg,iter,ifs,0⟩] scope pos) spos) (WP (xU wi g tc te cap) (SO i)):=by
 intro pins s σ H D I h;rw[exec_Assign_Name_used _ _ _ _ hsw];refine wpAny_bind (wpAny_standAt (wpAny_bind ?_));show wpAny _ X.A (do let _ <- comprehension (.ListComp elt [⟨tg,iter,ifs,0⟩] scope pos) scope X.env _ (newList []) false (eval iter X.env) (some (assign (.Name y py) X.env))) _ _ s;refine wpAny_bind (wpAny_mono (wpAny_comprehension_free (use:=some (assign (.Name y py) X.env)) (Q:=fun _ s'=>SP X pins D .next s') rfl hs (eW hcl) hkind hnames
  (HB (hi pins s σ H _ I h) fun v s1 h1=>HB h1 fun itv s2 h2=>?_)) (fun _ s' hq=>wpAny_pure (wpAny_pure hq)) fun _ _ e=>e)
 obtain⟨it,fp,tn,J,H2,e,I2,T,st2,f2,read⟩:=h2;subst e;refine fW (Q:=fun x H1=>SO i x σ H1 D.nx) hc hcl hcell hkind hcap hg ht he I2 T st2 f2 read fun C Dd s' H' m I' hn n1 n2 n3 n4 n5 q=>?_
 show wpAny _ X.A (assign (.Name y py) X.env (.ref Dd)) _ _ _;refine wpAny_assign_Name (gX I' hN hiN (.inl hy) (v:=.ref Dd) rfl (fun s4 I4 zz=>?_) (.inr hy));obtain⟨a,sb,ha⟩:=zz;have hCa:C≠a:=by
  rcases ha with ha | ha
  · rw[ha];exact n2
  · exact fun z=>n4 _ _ ha z.symm
 refine⟨m,hn.sameBut sb hCa,fun h' hs'=>⟨_,H',?_,q⟩⟩;exact I4.turned (t':=s4.toks) (fun b o hb e=>hs'.extBut b o hb e) n1 n2 (.inr n3) n4 n5
end
end L2
namespace SM
def qE(bd:RG)(tc:RT)(te:RE)(s:Src):Nat->Nat->LI->HI->List Dt->Option (List Dt×HI)
 | 0,_,_,_,_=>none
 | k+1,i,l,h,ys=>match s.at h i with
  | none=>none
  | some none=>some (ys,h)
  | some (some d)=>(bd d l).bind fun l1=>(tc l1 h).bind fun b=>if b.1=true then(te l1 b.2).bind fun r=>if ys.length<sizeLine then qE bd tc te s k (i+1) l1 r.2 (ys++[r.1])else none
   else qE bd tc te s k (i+1) l1 b.2 ys
noncomputable def zF(l:LI)(cap:List (Option Nat)):LI:=cap.map fun o=>match o with | some j=>(l[j]?).join | none=>none
def PD(g:RI)(bd:RG)(tc:RT)(te:RE)(cap:List (Option Nat)):RE:=fun l h=>(g l h).bind fun r=>(qE bd tc te r.1 (r.1.fuel r.2) 0 (zF l cap) r.2 []).bind fun q=>some (.lst q.1,q.2)
def dH(g:RI)(bd:RG)(tc:RT)(te:RE)(cap:List (Option Nat)):RE:=fun l h=>(g l h).bind fun r=>(qE bd tc te r.1 (r.1.fuel r.2) 0 (zF l cap) r.2 []).bind fun q=>some (.ref q.2.length,q.2++[.lst q.1])
noncomputable def JB:RT:=fun _ h=>some (true,h)
theorem Kw{K:Frag}{H:Hp}{ρ:Rg}{l:LI}{σ:L2.St}(L:Fl K H ρ l σ)(cap:List (Option Nat)):Fl K H ρ (zF l cap) (wG σ cap):=by
 refine⟨by simp[zF,wG],fun i d e=>?_⟩;unfold zF at e;unfold wG;rw[getElem?_map]at e ⊢;cases q:cap[i]? with
 | none=>rw[q]at e;cases e
 | some o=>
  rw[q]at e;cases o with
  | none=>cases e
  | some j=>
   have e3:(l[j]?).join=some d:=by simpa using e
   have e4:l[j]?=some (some d):=by
    cases z:l[j]? with
    | none=>rw[z]at e3;cases e3
    | some y=>rw[z]at e3;simpa using e3
   obtain⟨v,g1,g2⟩:=L.val j d e4;refine⟨v,?_,g2⟩;simp[g1]
section
variable{X:Cx}{elt iter tg:Expr}{ifs:List Expr}{scope:Scope}{cl:List (Str×Addr)}{pos:Pos}{Nc:List Str}{g:RI}{bd:RG}{tc:RT}{te:RE}{cap:List (Option Nat)}
@[irreducible] def CM(X:Cx)(ifs:List Expr)(f:RT):Prop:=UI X ifs (nP X.K f)
theorem KE:CM X [] JB:=by with_unfolding_all exact fun pins s σ H Q I q=>by obtain⟨ρ,l,h,b,h',S,L,e,k⟩:=q;cases e;exact Cv pins s σ H Q I (k ρ H S (Ext.refl _ _))
theorem bU{c:Expr}{f:RT}(h:TM X c f):CM X [c] f:=by with_unfolding_all exact Dv h
end
section
variable{K:Frag}{H:Hp}{ρ:Rg}{p:Addr}{o:HO}{h:HI}
theorem Cy{a:Addr}{u:HO}(hp:H p=none)(e:H a=some u)(n:ρ.no a):(ρ.hide p).no a:=
 ⟨n.1,fun z=>by
  rcases mem_cons.mp z with z | z
  · rw[z,hp]at e;cases e
  · exact n.2 z⟩
theorem Ext.zbs{τ:Rg}{H':Hp}(x:Ext (ρ.hide p) τ H H'):∃ρ',τ=ρ'.hide p/\Ext ρ ρ' H H':=by
 refine⟨⟨τ.v,ρ.z⟩,?_,⟨x.pre,rfl,x.keep,x.live,x.fz⟩⟩;have e:=x.hid;cases τ with
 | mk v z=>have e':z=p::ρ.z:=e;subst e';rfl
theorem Ext.zb7{ρ':Rg}{H':Hp}(x:Ext ρ ρ' H H')(hp:H p=none):Ext ρ ρ' H (KB H' p o):=
 ⟨x.pre,x.hid,fun a u e n=>by rw[cB (mD e hp)];exact x.keep a u e n,fun a e=>by
  by_cases ha:a=p
  · rw[ha];exact hp
  · rw[cB ha]at e;exact x.live a e,fun a q u e=>by rw[cB (mD e hp)];exact x.fz a q u e⟩
theorem zat.same{ρ':Rg}{H':Hp}{a:Addr}{u:Ob}(x:Kl ρ ρ' H H')(e:H' a=H a)(q:zat K H ρ a u):zat K H' ρ' a u:=by
 cases u with
 | lst xs=>obtain⟨vs,h1,h2⟩:=q;exact⟨vs,e.trans h1,jm.same x _ h2⟩
 | ins y fs=>obtain⟨C,dx,vs,h0,h1,h2,h3⟩:=q;exact⟨C,dx,vs,h0,e.trans h1,h2,jm.same x _ h3⟩
 | dk kvs=>obtain⟨vs,h1,h2,h3⟩:=q;exact⟨vs,e.trans h1,h2,jm.same x _ h3⟩
 | dt kvs=>obtain⟨vs,h1,h2,h3⟩:=q;exact⟨vs,e.trans h1,h2,jm.same x _ h3⟩
 | df kvs=>obtain⟨o,vs,h1,h2,h3⟩:=q;exact⟨o,vs,e.trans h1,h2,jm.same x _ h3⟩
theorem Fl.same{ρ':Rg}{H':Hp}{l:LI}{σ:L2.St}(x:Kl ρ ρ' H H')(L:Fl K H ρ l σ):Fl K H' ρ' l σ:=
 ⟨L.len,fun i d e=>let ⟨v,e1,r⟩:=L.val i d e;⟨v,e1,zm.same x d r⟩⟩
theorem aX(hp:H p=none):Kl ρ (ρ.hide p) H (KB H p o):=
 ⟨fun _ _ e n=>Cy hp e n,fun a u e _=>by rw[cB (mD e hp)];exact e,fun _ _ e=>e,fun a q u e=>by rw[cB (mD e hp)];exact e⟩
theorem ZR{o:HO}(nf:MU H p):Kl (ρ.hide p) (ρ.hide p) H (KB H p o):=
 ⟨fun _ _ _ n=>n,fun a u e n=>by rw[cB (fun z=>n.2 (by rw[z];exact mem_cons_self))];exact e,fun _ _ e=>e,fun a q u e=>by rw[cB (fun z:a=p=>nf q u (by rw[<- z];exact e))];exact e⟩
theorem bX:Kl (ρ.hide p) ρ H H:=⟨fun _ _ _ n=>⟨n.1,fun z=>n.2 (mem_cons_of_mem _ z)⟩,fun _ _ e _=>e,fun _ _ e=>e,fun _ _ _ e=>e⟩
theorem eY:Kl (ρ.hide p) (ρ.add p) H H:=
 ⟨fun a _ _ n=>⟨fun z=>(mem_append.mp z).elim n.1 fun z=>n.2 (by rw[mem_singleton.mp z];exact mem_cons_self),fun z=>n.2 (mem_cons_of_mem _ z)⟩,fun _ _ e _=>e,fun n a e=>by
  have e':ρ.v[n]?=some a:=e;have:=(zfY e').1;show(ρ.v++[p])[n]?=some a;rw[zfZ this];exact e',fun _ _ _ e=>e⟩
theorem Em.hide{xs:List V}(S:Em K ρ h H)(hp:H p=none):Em K (ρ.hide p) h (KB H p (.lst xs)):=
 ⟨S.nd,S.len,fun n a u e1 e2=>(S.ob n a u e1 e2).same (aX hp) (cB (fun z=>(S.out hp).1 (z ▸ mem_of_getElem? e1))),fun a ha=>by
  rcases mem_cons.mp ha with z | z
  · rw[z];exact⟨(S.out hp).1,xs,SC⟩
  · obtain⟨m,u,e⟩:=S.zt a z;exact⟨m,u,by rw[cB (mD e hp)];exact e⟩⟩
theorem Em.zbX{xs:List V}(S:Em K (ρ.hide p) h H):Em K (ρ.hide p) h (KB H p (.lst xs)):=
 ⟨S.nd,S.len,fun n a u e1 e2=>(S.ob n a u e1 e2).same (ZR (AG (S.zt p mem_cons_self).2.choose_spec)) (cB (fun z=>(S.zt p mem_cons_self).1 (z ▸ mem_of_getElem? e1))),fun a ha=>by
  obtain⟨m,u,e⟩:=S.zt a ha;by_cases hap:a=p
  · subst hap;exact⟨m,xs,SC⟩
  · exact⟨m,u,by rw[cB hap];exact e⟩⟩
theorem Em.show(S:Em K (ρ.hide p) h H):Em K ρ h H:=
 ⟨S.nd,S.len,fun n a u e1 e2=>(S.ob n a u e1 e2).same bX rfl,fun a ha=>S.zt a (mem_cons_of_mem _ ha)⟩
theorem Em.zbn(S:Em K (ρ.hide p) h H)(hz:p∉ρ.z){ds:List Dt}{vs:List V}(e:H p=some (.lst vs))(R:jm K H (ρ.hide p) ds vs):Em K (ρ.add p) (h++[.lst ds]) H:=by
 have nv:=(S.zt p mem_cons_self).1;refine⟨?_,by simp only[Rg.add];rw[length_append,length_append,<- S.len];rfl,fun n a ob e1 e2=>?_,fun a ha=>?_⟩
 · simp only[Rg.add];rw[nodup_append];refine⟨S.nd,nodup_cons.mpr ⟨by simp,nodup_nil⟩,fun a ha b hb=>?_⟩;rw[mem_singleton.mp hb];intro z;exact nv (z ▸ ha)
 · simp only[Rg.add]at e1;have hl:ρ.v.length=h.length:=S.len;by_cases hn:n<h.length
   · rw[zfZ hn]at e2;rw[zfZ (by rw[hl];exact hn)]at e1;exact(S.ob n a ob e1 e2).same eY rfl
   · have hn':h.length<=n:=Nat.not_lt.mp hn;rw[zf2 hn']at e2;rw[zf2 (by rw[hl];exact hn'),hl]at e1;cases hk:n-h.length with
     | zero=>rw[hk]at e1 e2;simp at e1 e2;subst e1 e2;exact⟨vs,e,jm.same eY _ R⟩
     | succ k=>rw[hk]at e2;simp at e2
 · obtain⟨n,u,e'⟩:=S.zt a (mem_cons_of_mem _ ha);refine⟨fun hm=>?_,u,e'⟩;rcases mem_append.mp hm with hm | hm
   · exact n hm
   · exact hz ((mem_singleton.mp hm) ▸ ha)
end
section
variable{X:Cx}{elt iter tg:Expr}{ifs:List Expr}{scope:Scope}{cl:List (Str×Addr)}{pos:Pos}{Nc:List Str}{g:RI}{bd:RG}{tc:RT}{te:RE}{cap:List (Option Nat)}
theorem vN{σ:L2.St}{H:Hp}{Q:VK}(own:Bool){d:Dt}{h':HI}{ρ:Rg}{l:LI}{h:HI}(S:Em X.K ρ h H)(L:Fl X.K H ρ l σ)
 (e:(if own=true then dH g bd tc te cap else PD g bd tc te cap) l h=some (d,h')) (k:Out X.K ρ H d h' Q):xU (iM X.K g) (gM X.K bd) (nP X.K tc) (tM X.K te) cap σ H Q:=by
 have e0:∃s1 h1,g l h=some (s1,h1)/\∃ys h2,qE bd tc te s1 (s1.fuel h1) 0 (zF l cap) h1 []=some (ys,h2)/\h'=(if own=true then h2++[.lst ys]else h2)/\d=(if own=true then .ref h2.length else .lst ys):=by
  cases own with
  | true=>rw[if_pos rfl]at e;obtain⟨⟨s1,h1⟩,e1,e⟩:=xA e;obtain⟨⟨ys,h2⟩,e2,e⟩:=xA e;cases e;exact⟨s1,h1,e1,ys,h2,e2,rfl,rfl⟩
  | false=>rw[if_neg zf0]at e;obtain⟨⟨s1,h1⟩,e1,e⟩:=xA e;obtain⟨⟨ys,h2⟩,e2,e⟩:=xA e;cases e;exact⟨s1,h1,e1,ys,h2,e2,rfl,rfl⟩
 obtain⟨s1,h1,e1,zs,h2,e2,eh,ed⟩:=e0;refine⟨ρ,l,h,s1,h1,S,L,e1,fun ρ1 J H1 ok S1 E1 D hD=>?_⟩;have hDz:D∉ρ1.z:=(S1.out hD).2;refine⟨fun i m σ' ys H'=>∃ρ' l' h' ds,Em X.K (ρ'.hide D) h' H'/\Fl X.K H' (ρ'.hide D) l' σ'/\Ext ρ1 ρ' H1 H'/\H' D=some (.lst ys)/\jm X.K H' (ρ'.hide D) ds ys/\qE bd tc te s1 m i l' h' ds=some (zs,h2),?_,?_⟩
 · exact⟨_,ρ1,_,h1,[],S1.hide hD,Kw (Fl.same (aX hD) (L.ext E1)) cap,Ext.fresh hD,SC,.nil,e2⟩
 · rintro i m σ' ys H' ⟨ρ',l',h3,ds,S',L',E',hD',R',e'⟩;cases m with
   | zero=>simp only[qE]at e';cases e'
   | succ m=>
    simp only[qE]at e';have sm:Kl ρ1 (ρ'.hide D) H1 H':=⟨fun a u z n=>⟨(E'.zbl z n).1,fun w=>by
     rcases mem_cons.mp w with w | w
     · rw[w,hD]at z;cases z
     · exact(E'.zbl z n).2 w⟩,fun a u z n=>E'.keep a u z n.1,fun n a z=>E'.get z,E'.fz⟩
    have ok':=ok H' (ρ'.hide D) h3 sm S' i;cases q:s1.at h3 i with
    | none=>rw[q]at e';cases e'
    | some o=>
     rw[q]at e' ok';cases o with
     | none=>
      cases e';refine .inl ⟨ok',?_⟩;have nD:ρ'.no D:=⟨(S'.zt D mem_cons_self).1,by rw[E'.hid];exact hDz⟩;cases own with
      | false=>rw[if_neg zf0]at eh ed;subst eh ed;exact k ρ' _ H' (Cm.mpr ⟨D,ys,rfl,.inl ⟨nD,.inl hD'⟩,jm.same bX _ R'⟩) S'.show (E1.trans E')
      | true=>
       rw[if_pos rfl]at eh ed;subst eh ed;refine k (ρ'.add D) _ H' (Gm.mpr ⟨D,rfl,?_⟩) (S'.zbn nD.2 hD' R') (E1.trans ⟨?_,E'.hid,E'.keep,E'.live,E'.fz⟩)
       · have hl:ρ'.v.length=h2.length:=S'.len;show(ρ'.v++[D])[h2.length]?=some D;rw[<- hl,zf2 (zf1 _),Nat.sub_self];rfl
       · obtain⟨x,q1,q2⟩:=E'.pre;refine⟨x++[D],by show ρ'.v++[D]=_;rw[q1,append_assoc],fun a ha=>?_⟩;rcases mem_append.mp ha with ha | ha
         · exact q2 a ha
         · rw[mem_singleton.mp ha];exact hD
     | some d0=>
      dsimp only at e';obtain⟨l1,b1,e'⟩:=xA e';obtain⟨⟨b,h4⟩,b2,e'⟩:=xA e';refine .inr ⟨ok'.1,fun v H3 y=>?_⟩;obtain⟨R3,E3,S3⟩:=ok'.2 v H3 y;have nDv:=(S'.zt D mem_cons_self).1;refine⟨ρ'.hide D,l',h3,d0,l1,S3,L'.ext E3,R3,b1,fun σ4 L4=>⟨ρ'.hide D,l1,h3,b,h4,S3,L4,b2,fun ρ5 H5 S5 E5=>?_⟩⟩;cases b with
      | true=>
       dsimp only at e';rw[if_pos rfl]at e';obtain⟨⟨d5,h5⟩,b3,e'⟩:=xA e';by_cases hz:ds.length<sizeLine
       · rw[if_pos hz]at e';refine oH ⟨ρ5,l1,h4,d5,h5,S5,L4.ext E5,b3,fun ρ6 v6 H6 R6 S6 E6=>⟨?_,by rw[R'.length];exact hz,m,Nat.lt_succ_self _,?_⟩⟩
         · exact(E3.trans (E5.trans E6)).keep D _ hD' nDv
         · obtain⟨ρ7,rfl,E7⟩:=(E3.trans (E5.trans E6)).zbs;refine⟨ρ7,l1,h5,ds++[d5],S6.zbX,Fl.same (ZR (AG (S6.zt D mem_cons_self).2.choose_spec)) (L4.ext (E5.trans E6)),(E'.trans E7).zb7 hD,SC,?_,e'⟩;exact jm.same (ZR (AG (S6.zt D mem_cons_self).2.choose_spec)) _ ((R'.ext (E3.trans (E5.trans E6))).append (.cons R6 .nil))
       · rw[if_neg hz]at e';cases e'
      | false=>dsimp only at e';rw[if_neg zf0]at e';refine nH ⟨m,Nat.lt_succ_self _,?_⟩;obtain⟨ρ7,rfl,E7⟩:=(E3.trans E5).zbs;exact⟨ρ7,l1,h4,ds,S5,L4.ext E5,E'.trans E7,(E3.trans E5).keep D _ hD' nDv,R'.ext (E3.trans E5),e'⟩
theorem UF(hc:X.calm=true)(hi:IM X tg iter g)(hcell:∀y∈scope.names,y.2≠.cell)(hkind:scope.kind=.function)
 (hnames:∀y∈scope.names,y.2=.local->scope.names.lookup y.1=some .local) (hcl:OE X.env.cells scope.names []=some cl) (hcap:Ml X scope cl Nc cap)
 (hg:∀C s0 H0 fp,GM (pC X Nc scope cl C s0 H0 fp) tg bd) (ht:∀C s0 H0 fp,CM (pC X Nc scope cl C s0 H0 fp) ifs tc) (he:∀C s0 H0 fp,EM (pC X Nc scope cl C s0 H0 fp) elt te)
 (hs:∀x,foldedSetIterable iter X.env x=pure x:=by intro _;rfl):EM X (.ListComp elt [⟨tg,iter,ifs,0⟩] scope pos) (PD g bd tc te cap):=by
 with_unfolding_all exact PE.imp (LY (g:=gM X.K bd) (tc:=nP X.K tc) (te:=tM X.K te) hc hi hcl hcell hkind hnames hcap hg ht he hs) fun σ H Q ⟨ρ,l,h,d,h',S,L,e,k⟩=>vN (X:=X) false S L e k
theorem Kv(hc:X.calm=true)(hi:IM X tg iter g)(hcell:∀y∈scope.names,y.2≠.cell)(hkind:scope.kind=.function)
 (hnames:∀y∈scope.names,y.2=.local->scope.names.lookup y.1=some .local) (hcl:OE X.env.cells scope.names []=some cl) (hcap:Ml X scope cl Nc cap)
 (hg:∀C s0 H0 fp,GM (pC X Nc scope cl C s0 H0 fp) tg bd) (ht:∀C s0 H0 fp,CM (pC X Nc scope cl C s0 H0 fp) ifs tc) (he:∀C s0 H0 fp,EM (pC X Nc scope cl C s0 H0 fp) elt te)
 (hs:∀x,foldedSetIterable iter X.env x=pure x:=by intro _;rfl):EM X (.ListComp elt [⟨tg,iter,ifs,0⟩] scope pos) (dH g bd tc te cap):=by
 with_unfolding_all exact PE.imp (LY (g:=gM X.K bd) (tc:=nP X.K tc) (te:=tM X.K te) hc hi hcl hcell hkind hnames hcap hg ht he hs) fun σ H Q ⟨ρ,l,h,d,h',S,L,e,k⟩=>vN (X:=X) true S L e k
theorem FR(i:Nat){y:Str}{py spos:Pos}(hc:X.calm=true)(hN:X.N.Nodup)(hi:IM X tg iter g)(hcell:∀y∈scope.names,y.2≠.cell)(hkind:scope.kind=.function)
 (hnames:∀y∈scope.names,y.2=.local->scope.names.lookup y.1=some .local) (hcl:OE X.env.cells scope.names []=some cl) (hcap:Ml X scope cl Nc cap)
 (hg:∀C s0 H0 fp,GM (pC X Nc scope cl C s0 H0 fp) tg bd) (ht:∀C s0 H0 fp,CM (pC X Nc scope cl C s0 H0 fp) ifs tc) (he:∀C s0 H0 fp,EM (pC X Nc scope cl C s0 H0 fp) elt te)
 (hsw:swapsWith (.ListComp elt [⟨tg,iter,ifs,0⟩] scope pos) (some (.Name y py)) spos.line X.env=pure true)
 (hiN:X.N[i]?=some y:=by rfl) (hy:X.env.scope.names.lookup y=some .local:=by rfl) (hs:∀x,foldedSetIterable iter X.env x=pure x:=by intro _;rfl) :
 ZM X (.Assign [.Name y py] (.ListComp elt [⟨tg,iter,ifs,0⟩] scope pos) spos) (IA i (PD g bd tc te cap)):=by
 with_unfolding_all exact PS.imp (aW (g:=gM X.K bd) (tc:=nP X.K tc) (te:=tM X.K te) hc hN hiN hy hi hcl hcell hkind hnames hcap hg ht he hsw hs) fun D σ H zz=>by obtain⟨ρ,l,h,r,S,L,e,k⟩:=zz;obtain⟨⟨d1,h1⟩,e1,e⟩:=xA e;cases e;exact vN (X:=X) false S L e1 fun ρ1 v H1 R1 S1 E1=>k ρ1 _ H1 S1 ((L.ext E1).set i R1) E1
theorem DR(i:Nat){y:Str}{py spos:Pos}(hc:X.calm=true)(hN:X.N.Nodup)(hi:IM X tg iter g)(hcell:∀y∈scope.names,y.2≠.cell)(hkind:scope.kind=.function)
 (hnames:∀y∈scope.names,y.2=.local->scope.names.lookup y.1=some .local) (hcl:OE X.env.cells scope.names []=some cl) (hcap:Ml X scope cl Nc cap)
 (hg:∀C s0 H0 fp,GM (pC X Nc scope cl C s0 H0 fp) tg bd) (ht:∀C s0 H0 fp,CM (pC X Nc scope cl C s0 H0 fp) ifs tc) (he:∀C s0 H0 fp,EM (pC X Nc scope cl C s0 H0 fp) elt te)
 (hsw:swapsWith (.ListComp elt [⟨tg,iter,ifs,0⟩] scope pos) (some (.Name y py)) spos.line X.env=pure true)
 (hiN:X.N[i]?=some y:=by rfl) (hy:X.env.scope.names.lookup y=some .local:=by rfl) (hs:∀x,foldedSetIterable iter X.env x=pure x:=by intro _;rfl) :
 ZM X (.Assign [.Name y py] (.ListComp elt [⟨tg,iter,ifs,0⟩] scope pos) spos) (IA i (dH g bd tc te cap)):=by
 with_unfolding_all exact PS.imp (aW (g:=gM X.K bd) (tc:=nP X.K tc) (te:=tM X.K te) hc hN hiN hy hi hcl hcell hkind hnames hcap hg ht he hsw hs) fun D σ H zz=>by obtain⟨ρ,l,h,r,S,L,e,k⟩:=zz;obtain⟨⟨d1,h1⟩,e1,e⟩:=xA e;cases e;exact vN (X:=X) true S L e1 fun ρ1 v H1 R1 S1 E1=>k ρ1 _ H1 S1 ((L.ext E1).set i R1) E1
end
end SM
namespace L2
section
variable{X:Cx}{elt iter tg:Expr}{ifs:List Expr}{scope:Scope}{cl:List (Str×Addr)}{pos:Pos}{Nc:List Str}{wi:TI}{g:TG}{tc:TT}{te:TE}{cap:List (Option Nat)}{x0:Str}
end
end L2
namespace SM
section
variable{X:Cx}{elt iter tg:Expr}{ifs:List Expr}{scope:Scope}{cl:List (Str×Addr)}{pos:Pos}{Nc:List Str}{g:RI}{bd:RG}{tc:RT}{te:RE}{cap:List (Option Nat)}{x0:Str}
end
mutual
noncomputable def GB:Dt->Bool
 | .tup xs=>RC xs
 | .lst xs=>RC xs
 | .ref _=>false
 | .Ip _=>false
 | _=>true
noncomputable def RC:List Dt->Bool
 | []=>true
 | x::xs=>GB x&&RC xs
end
mutual
noncomputable def jH:Dt->Nat
 | .tup xs=>sE xs+1
 | .lst xs=>sE xs+1
 | _=>0
noncomputable def sE:List Dt->Nat
 | []=>0
 | x::xs=>max (jH x) (sE xs)
end
mutual
noncomputable def WC:Dt->Dt->Bool
 | .non,.non=>true
 | .bl a,.bl b=>a==b
 | .bl a,.int b=>(if a then 1 else 0)==b
 | .int a,.bl b=>a==(if b then 1 else 0)
 | .int a,.int b=>a==b
 | .str a,.str b=>a==b
 | .tup xs,.tup ys=>bE xs ys
 | .lst xs,.lst ys=>bE xs ys
 | _,_=>false
noncomputable def bE:List Dt->List Dt->Bool
 | [],[]=>true
 | x::xs,y::ys=>WC x y&&bE xs ys
 | _,_=>false
end
mutual
theorem vS:∀d:Dt,GB d=true->WC d d=true
 | .non,_=>by simp only[WC]
 | .bl b,_=>by simp only[WC,beq_self_eq_true]
 | .int i,_=>by simp only[WC,beq_self_eq_true]
 | .str x,_=>by simp only[WC,beq_self_eq_true]
 | .tup xs,h=>by simp only[WC];exact fS xs (by simpa only[GB]using h)
 | .lst xs,h=>by simp only[WC];exact fS xs (by simpa only[GB]using h)
 | .ref _,h=>by simp[GB]at h
 | .Ip _,h=>by simp[GB]at h
theorem fS:∀ds:List Dt,RC ds=true->bE ds ds=true
 | [],_=>by simp only[bE]
 | d::ds,h=>by simp only[RC,Bool.and_eq_true]at h;simp only[bE,Bool.and_eq_true];exact⟨vS d h.1,fS ds h.2⟩
end
section
variable{X:Cx}{pins:List (Addr×Obj)}{σ:L2.St}{H:Hp}{s:Shared}{ρ:Rg}
mutual
theorem jO(I:Inv X pins σ H s):∀(d d':Dt){v:V},GB d=true->GB d'=true->zm X.K H ρ d v->zm X.K H ρ d' v->d=d'
 | .non,d',v,_,p,r,r'=>by
  have e:=Km.mp r;subst e;cases d' with
  | non=>rfl
  | bl b=>have:=Am.mp r';cases this
  | int b=>have:=qm.mp r';cases this
  | str b=>have:=Om.mp r';cases this
  | tup b=>obtain⟨_,_,z,_⟩:=Dm.mp r';cases z
  | lst b=>obtain⟨_,_,z,_⟩:=Cm.mp r';cases z
  | ref b=>obtain⟨_,z,_⟩:=Gm.mp r';cases z
  | Ip b=>obtain⟨_,z,_⟩:=Ep.mp r';cases z
 | .bl i,d',v,_,p,r,r'=>by
  have e:=Am.mp r;subst e;cases d' with
  | non=>have:=Km.mp r';cases this
  | bl b=>have:=Am.mp r';cases this;rfl
  | int b=>have:=qm.mp r';cases this
  | str b=>have:=Om.mp r';cases this
  | tup b=>obtain⟨_,_,z,_⟩:=Dm.mp r';cases z
  | lst b=>obtain⟨_,_,z,_⟩:=Cm.mp r';cases z
  | ref b=>obtain⟨_,z,_⟩:=Gm.mp r';cases z
  | Ip b=>obtain⟨_,z,_⟩:=Ep.mp r';cases z
 | .int i,d',v,_,p,r,r'=>by
  have e:=qm.mp r;subst e;cases d' with
  | non=>have:=Km.mp r';cases this
  | bl b=>have:=Am.mp r';cases this
  | int b=>have:=qm.mp r';cases this;rfl
  | str b=>have:=Om.mp r';cases this
  | tup b=>obtain⟨_,_,z,_⟩:=Dm.mp r';cases z
  | lst b=>obtain⟨_,_,z,_⟩:=Cm.mp r';cases z
  | ref b=>obtain⟨_,z,_⟩:=Gm.mp r';cases z
  | Ip b=>obtain⟨_,z,_⟩:=Ep.mp r';cases z
 | .str i,d',v,_,p,r,r'=>by
  have e:=Om.mp r;subst e;cases d' with
  | non=>have:=Km.mp r';cases this
  | bl b=>have:=Am.mp r';cases this
  | int b=>have:=qm.mp r';cases this
  | str b=>have:=Om.mp r';cases this;rfl
  | tup b=>obtain⟨_,_,z,_⟩:=Dm.mp r';cases z
  | lst b=>obtain⟨_,_,z,_⟩:=Cm.mp r';cases z
  | ref b=>obtain⟨_,z,_⟩:=Gm.mp r';cases z
  | Ip b=>obtain⟨_,z,_⟩:=Ep.mp r';cases z
 | .tup xs,d',v,p0,p,r,r'=>by
  obtain⟨a,vs,e,q,rs⟩:=Dm.mp r;subst e;cases d' with
  | non=>have:=Km.mp r';cases this
  | bl b=>have:=Am.mp r';cases this
  | int b=>have:=qm.mp r';cases this
  | str b=>have:=Om.mp r';cases this
  | tup ys=>obtain⟨b,ws,z,q',rs'⟩:=Dm.mp r';cases z;have ee:=I.za4 q.sq q'.sq;subst ee;rw[CS I xs ys (by simpa only[GB]using p0) (by simpa only[GB]using p) rs rs']
  | lst ys=>
   obtain⟨b,ws,z,q',rs'⟩:=Cm.mp r';cases z;obtain⟨_,_,⟨o,e1,e2,_⟩,_⟩:=I.tuple q.sq;obtain⟨_,_,⟨o',_,e1',e2',_⟩,_⟩:=I.list q'.sq;rw[e1]at e1';cases e1';rw[e2]at e2';injection e2' with e3
   exact absurd e3 (by decide)
  | ref b=>simp[GB]at p
  | Ip b=>simp[GB]at p
 | .lst xs,d',v,p0,p,r,r'=>by
  obtain⟨a,vs,e,q,rs⟩:=Cm.mp r;subst e;cases d' with
  | non=>have:=Km.mp r';cases this
  | bl b=>have:=Am.mp r';cases this
  | int b=>have:=qm.mp r';cases this
  | str b=>have:=Om.mp r';cases this
  | lst ys=>obtain⟨b,ws,z,q',rs'⟩:=Cm.mp r';cases z;have ee:=I.zaw q.sq q'.sq;subst ee;rw[CS I xs ys (by simpa only[GB]using p0) (by simpa only[GB]using p) rs rs']
  | tup ys=>
   obtain⟨b,ws,z,q',rs'⟩:=Dm.mp r';cases z;obtain⟨_,_,⟨o,e1,e2,_⟩,_⟩:=I.tuple q'.sq;obtain⟨_,_,⟨o',_,e1',e2',_⟩,_⟩:=I.list q.sq;rw[e1]at e1';cases e1';rw[e2]at e2';injection e2' with e3
   exact absurd e3 (by decide)
  | ref b=>simp[GB]at p
  | Ip b=>simp[GB]at p
 | .ref _,_,_,p,_,_,_=>by simp[GB]at p
 | .Ip _,_,_,p,_,_,_=>by simp[GB]at p
theorem CS(I:Inv X pins σ H s):∀(ds ds':List Dt){vs:List V},RC ds=true->RC ds'=true->jm X.K H ρ ds vs->jm X.K H ρ ds' vs->ds=ds'
 | [],[],_,_,_,_,_=>rfl
 | [],d'::ds',_,_,_,r,r'=>by rw[r.Jl]at r';obtain⟨_,_,z,_⟩:=r'.Jm;cases z
 | d::ds,[],_,_,_,r,r'=>by rw[r'.Jl]at r;obtain⟨_,_,z,_⟩:=r.Jm;cases z
 | d::ds,d'::ds',_,p,p',r,r'=>by simp only[RC,Bool.and_eq_true]at p p';obtain⟨v,vs,e,r1,r2⟩:=r.Jm;subst e;obtain⟨v',vs',e,r1',r2'⟩:=r'.Jm;cases e;rw[jO I d d' p.1 p'.1 r1 r1',CS I ds ds' p.2 p'.2 r2 r2']
end
def mG(xs ys:List Dt)(j:Nat):Bool:=match xs[j]?,ys[j]? with
 | some x,some y=>WC x y
 | _,_=>false
theorem sI:∀(xs ys:List Dt),xs.length=ys.length->(List.range xs.length).all (mG xs ys)=bE xs ys
 | [],[],_=>by simp[bE]
 | [],_::_,h=>by simp at h
 | _::_,[],h=>by simp at h
 | x::xs,y::ys,h=>by have ih:=sI xs ys (by simpa using h);rw[zfO,range_succ_eq_map,all_cons,all_map];simp only[bE];rw[<- ih];rfl
theorem qI:∀(xs ys:List Dt),xs.length≠ys.length->bE xs ys=false
 | [],[],h=>absurd rfl h
 | [],_::_,_=>by simp only[bE]
 | _::_,[],_=>by simp only[bE]
 | x::xs,y::ys,h=>by simp only[bE];rw[qI xs ys (fun z=>h (by simp[z])),Bool.and_false]
theorem yN(A:Around):A.in1.units<=A.units+1:=by first | exact zf1 _ | simp[Around.in1]
theorem IE{h:Heap}{a:Addr}{its:Array Value}(p:IsTup h a its):h.IsTuple a its:=by obtain⟨o,h1,h2,n,h3⟩:=p;exact⟨o,h1,h2,n,h3⟩
mutual
theorem qZ(I:Inv X pins σ H s):∀(d d':Dt){v v':V}{u u':Value}(A:Around),GB d=true->GB d'=true->A.units+jH d<cLine->zm X.K H ρ d v->zm X.K H ρ d' v'->RelV v u->RelV v' u'->SeqAt.EqAt A s u u' (WC d d')
 | .tup xs,d',v,v',u,u',A,p,p',hu,r,r',q,q'=>by
  obtain⟨a,vs,e,t,rs⟩:=Dm.mp r;subst e;cases q;simp only[jH]at hu;have hu0:A.units<cLine:=by omega
  obtain⟨its,rv,tp,_⟩:=I.tuple t.sq;cases d' with
  | non=>cases Km.mp r';cases q';simpa only[WC]using SeqAt.EqAt.tuple_none (IE tp) hu0
  | bl b=>cases Am.mp r';cases q';simpa only[WC]using SeqAt.EqAt.tuple_bool b (IE tp) hu0
  | int b=>cases qm.mp r';obtain⟨t',rfl⟩:=q';simpa only[WC]using SeqAt.EqAt.tuple_int b t' (IE tp) hu0
  | str b=>cases Om.mp r';obtain⟨t',rfl⟩:=q';simpa only[WC]using SeqAt.EqAt.tuple_str b t' (IE tp) hu0
  | lst ys=>obtain⟨b,ws,e,t',rs'⟩:=Cm.mp r';subst e;cases q';obtain⟨its',rv',Rp,_⟩:=I.list t'.sq;simpa only[WC]using SeqAt.EqAt.tuple_list (IE tp) Rp.isList hu0
  | tup ys=>
   obtain⟨b,ws,e,t',rs'⟩:=Dm.mp r';subst e;cases q';obtain⟨its',rv',Rp,_⟩:=I.tuple t'.sq;by_cases hab:a=b
   · subst hab;have e:=jO I (.tup xs) (.tup ys) p p' r r';rw[<- e,vS _ p];exact SeqAt.EqAt.same _
   · refine .of_refs hab ?_;have l1:its.length=xs.length:=by rw[<- rv.length,rs.length]
     have l2:its'.length=ys.length:=by rw[<- rv'.length,rs'.length]
     have ih:=oO I xs ys A.in1 (by simpa only[GB]using p) (by simpa only[GB]using p') (by have:=yN A;omega) rs rs' rv rv';have z:=SeqAt.RcAt.tuples (e:=mG xs ys) (IE tp) (IE Rp) hu0 fun j h1 h2=>by rw[size_toArray]at h1 h2;simpa using ih j h1 h2
     rw[size_toArray,size_toArray,l1,l2]at z;simp only[WC];by_cases hl:xs.length=ys.length
     · rw[<- hl,Nat.min_self,sI xs ys hl,beq_self_eq_true,Bool.and_true]at z;exact z
     · rw[qI xs ys hl];have hb:(xs.length==ys.length)=false:=by simpa using hl
       rw[hb,Bool.and_false]at z;exact z
  | ref b=>simp[GB]at p'
  | Ip b=>simp[GB]at p'
 | .lst xs,d',v,v',u,u',A,p,p',hu,r,r',q,q'=>by
  obtain⟨a,vs,e,t,rs⟩:=Cm.mp r;subst e;cases q;simp only[jH]at hu;have hu0:A.units<cLine:=by omega
  obtain⟨its,rv,tp,_⟩:=I.list t.sq;cases d' with
  | non=>cases Km.mp r';cases q';simpa only[WC]using SeqAt.EqAt.list_none tp.isList hu0
  | bl b=>cases Am.mp r';cases q';simpa only[WC]using SeqAt.EqAt.list_bool b tp.isList hu0
  | int b=>cases qm.mp r';obtain⟨t',rfl⟩:=q';simpa only[WC]using SeqAt.EqAt.list_int b t' tp.isList hu0
  | str b=>cases Om.mp r';obtain⟨t',rfl⟩:=q';simpa only[WC]using SeqAt.EqAt.list_str b t' tp.isList hu0
  | tup ys=>obtain⟨b,ws,e,t',rs'⟩:=Dm.mp r';subst e;cases q';obtain⟨its',rv',Rp,_⟩:=I.tuple t'.sq;simpa only[WC]using SeqAt.EqAt.list_tuple tp.isList (IE Rp) hu0
  | lst ys=>
   obtain⟨b,ws,e,t',rs'⟩:=Cm.mp r';subst e;cases q';obtain⟨its',rv',Rp,_⟩:=I.list t'.sq;by_cases hab:a=b
   · subst hab;have e:=jO I (.lst xs) (.lst ys) p p' r r';rw[<- e,vS _ p];exact SeqAt.EqAt.same _
   · refine .of_refs hab ?_;have l1:its.length=xs.length:=by rw[<- rv.length,rs.length]
     have l2:its'.length=ys.length:=by rw[<- rv'.length,rs'.length]
     simp only[WC];by_cases hl:xs.length=ys.length
     · have ih:=oO I xs ys A.in1 (by simpa only[GB]using p) (by simpa only[GB]using p') (by have:=yN A;omega) rs rs' rv rv';have z:=SeqAt.RcAt.lists (e:=mG xs ys) tp.isList Rp.isList (by rw[size_toArray,size_toArray,l1,l2,hl]) hu0 fun j h1 h2=>by rw[size_toArray]at h1 h2;simpa using ih j h1 h2
       rw[size_toArray,l1,sI xs ys hl]at z;exact z
     · rw[qI xs ys hl];exact SeqAt.RcAt.lists_lengths tp.isList Rp.isList (by rw[size_toArray,size_toArray,l1,l2];simpa using hl) hu0
  | ref b=>simp[GB]at p'
  | Ip b=>simp[GB]at p'
 | .ref _,_,_,_,_,_,_,p,_,_,_,_,_,_=>by simp[GB]at p
 | .Ip _,_,_,_,_,_,_,p,_,_,_,_,_,_=>by simp[GB]at p
 | .non,d',v,v',u,u',A,p,p',hu,r,r',q,q'=>by
  cases Km.mp r;cases q;have hu0:A.units<cLine:=by omega
  cases d' with
  | non=>cases Km.mp r';cases q';simp only[WC];exact SeqAt.EqAt.same _
  | bl b=>cases Am.mp r';cases q';simpa only[WC]using SeqAt.EqAt.none_bool b
  | int b=>cases qm.mp r';obtain⟨t',rfl⟩:=q';simpa only[WC]using SeqAt.EqAt.none_int b t'
  | str b=>cases Om.mp r';obtain⟨t',rfl⟩:=q';simpa only[WC]using SeqAt.EqAt.none_str b t'
  | tup ys=>obtain⟨b,ws,e,t',rs'⟩:=Dm.mp r';subst e;cases q';obtain⟨its',rv',Rp,_⟩:=I.tuple t'.sq;simpa only[WC]using SeqAt.EqAt.none_tuple (IE Rp) hu0
  | lst ys=>obtain⟨b,ws,e,t',rs'⟩:=Cm.mp r';subst e;cases q';obtain⟨its',rv',Rp,_⟩:=I.list t'.sq;simpa only[WC]using SeqAt.EqAt.none_list Rp.isList hu0
  | ref b=>simp[GB]at p'
  | Ip b=>simp[GB]at p'
 | .bl i,d',v,v',u,u',A,p,p',hu,r,r',q,q'=>by
  cases Am.mp r;cases q;have hu0:A.units<cLine:=by omega
  cases d' with
  | non=>cases Km.mp r';cases q';simpa only[WC]using SeqAt.EqAt.bool_none i
  | bl b=>cases Am.mp r';cases q';simpa only[WC]using SeqAt.EqAt.bool_bool i b
  | int b=>cases qm.mp r';obtain⟨t',rfl⟩:=q';simpa only[WC]using SeqAt.EqAt.bool_int i b t'
  | str b=>cases Om.mp r';obtain⟨t',rfl⟩:=q';simpa only[WC]using SeqAt.EqAt.bool_str i b t'
  | tup ys=>obtain⟨b,ws,e,t',rs'⟩:=Dm.mp r';subst e;cases q';obtain⟨its',rv',Rp,_⟩:=I.tuple t'.sq;simpa only[WC]using SeqAt.EqAt.bool_tuple i (IE Rp) hu0
  | lst ys=>obtain⟨b,ws,e,t',rs'⟩:=Cm.mp r';subst e;cases q';obtain⟨its',rv',Rp,_⟩:=I.list t'.sq;simpa only[WC]using SeqAt.EqAt.bool_list i Rp.isList hu0
  | ref b=>simp[GB]at p'
  | Ip b=>simp[GB]at p'
 | .int i,d',v,v',u,u',A,p,p',hu,r,r',q,q'=>by
  cases qm.mp r;obtain⟨ti,rfl⟩:=q;have hu0:A.units<cLine:=by omega
  cases d' with
  | non=>cases Km.mp r';cases q';simpa only[WC]using SeqAt.EqAt.int_none i ti
  | bl b=>cases Am.mp r';cases q';simpa only[WC]using SeqAt.EqAt.int_bool i ti b
  | int b=>cases qm.mp r';obtain⟨t',rfl⟩:=q';simpa only[WC]using SeqAt.EqAt.int_int i ti b t'
  | str b=>cases Om.mp r';obtain⟨t',rfl⟩:=q';simpa only[WC]using SeqAt.EqAt.int_str i ti b t'
  | tup ys=>obtain⟨b,ws,e,t',rs'⟩:=Dm.mp r';subst e;cases q';obtain⟨its',rv',Rp,_⟩:=I.tuple t'.sq;simpa only[WC]using SeqAt.EqAt.int_tuple i ti (IE Rp) hu0
  | lst ys=>obtain⟨b,ws,e,t',rs'⟩:=Cm.mp r';subst e;cases q';obtain⟨its',rv',Rp,_⟩:=I.list t'.sq;simpa only[WC]using SeqAt.EqAt.int_list i ti Rp.isList hu0
  | ref b=>simp[GB]at p'
  | Ip b=>simp[GB]at p'
 | .str i,d',v,v',u,u',A,p,p',hu,r,r',q,q'=>by
  cases Om.mp r;obtain⟨ti,rfl⟩:=q;have hu0:A.units<cLine:=by omega
  cases d' with
  | non=>cases Km.mp r';cases q';simpa only[WC]using SeqAt.EqAt.str_none i ti
  | bl b=>cases Am.mp r';cases q';simpa only[WC]using SeqAt.EqAt.str_bool i ti b
  | int b=>cases qm.mp r';obtain⟨t',rfl⟩:=q';simpa only[WC]using SeqAt.EqAt.str_int i ti b t'
  | str b=>cases Om.mp r';obtain⟨t',rfl⟩:=q';simpa only[WC]using SeqAt.EqAt.str_str i ti b t'
  | tup ys=>obtain⟨b,ws,e,t',rs'⟩:=Dm.mp r';subst e;cases q';obtain⟨its',rv',Rp,_⟩:=I.tuple t'.sq;simpa only[WC]using SeqAt.EqAt.str_tuple i ti (IE Rp) hu0
  | lst ys=>obtain⟨b,ws,e,t',rs'⟩:=Cm.mp r';subst e;cases q';obtain⟨its',rv',Rp,_⟩:=I.list t'.sq;simpa only[WC]using SeqAt.EqAt.str_list i ti Rp.isList hu0
  | ref b=>simp[GB]at p'
  | Ip b=>simp[GB]at p'
theorem oO(I:Inv X pins σ H s):∀(xs ys:List Dt){vs vs':List V}{us us':List Value}(A:Around),RC xs=true->RC ys=true->A.units+sE xs<cLine->jm X.K H ρ xs vs->jm X.K H ρ ys vs'->Vals vs us->Vals vs' us'->
 ∀(j:Nat)(h1:j<us.length)(h2:j<us'.length),SeqAt.EqAt A s us[j] us'[j] (mG xs ys j)
 | [],_,_,_,_,_,_,_,_,_,r,_,q,_,_,h1,_=>by rw[r.Jl]at q;cases q;exact absurd h1 (by simp)
 | _::_,[],_,_,_,_,_,_,_,_,_,r',_,q',_,_,h2=>by rw[r'.Jl]at q';cases q';exact absurd h2 (by simp)
 | x::xs,y::ys,vs,vs',us,us',A,p,p',hu,r,r',q,q',j,h1,h2=>by
  simp only[RC,Bool.and_eq_true]at p p';simp only[sE]at hu;obtain⟨v,r0,e,a1,a2⟩:=r.Jm;subst e;obtain⟨v',r0',e,b1,b2⟩:=r'.Jm;subst e;cases q with
  | cons q1 q2=>
   cases q' with
   | cons q1' q2'=>
    cases j with
    | zero=>exact qZ I x y A p.1 p'.1 (by omega) a1 b1 q1 q1'
    | succ j=>have ih:=oO I xs ys A p.2 p'.2 (by omega) a2 b2 q2 q2' j (by simpa using h1) (by simpa using h2);simpa[mG]using ih
end
end
section
variable{X:Cx}{a b c e:Expr}{es:List Expr}{fa fb fc f:RE}{g:RA}{p p2 pos:Pos}
def YF(xs ys:List Dt):Bool:=RC xs&&RC ys&&decide (sE xs<=50)
def IB:TD:=fun a b h=>match a,b with
 | .tup xs,.tup ys=>if YF xs ys=true then some (.bl (bE xs ys),h)else none
 | .lst xs,.lst ys=>if YF xs ys=true then some (.bl (bE xs ys),h)else none
 | a,b=>K1 a b h
def kE:TD:=fun a b h=>match a,b with
 | .tup xs,.tup ys=>if YF xs ys=true then some (.bl (!bE xs ys),h)else none
 | .lst xs,.lst ys=>if YF xs ys=true then some (.bl (!bE xs ys),h)else none
 | a,b=>L1 a b h
theorem JN{pins:List (Addr×Obj)}{σ:L2.St}{H:Hp}{s:Shared}{ρ:Rg}{xs ys:List Dt}{vs ws:List V}{its its':List Value}(I:Inv X pins σ H s)(hu:X.A.units+64<cLine)(ok:YF xs ys=true)(rs:jm X.K H ρ xs vs)(rs':jm X.K H ρ ys ws)(rv:Vals vs its)(rv':Vals ws its') :
 ∀(j:Nat)(h1:j<its.toArray.size)(h2:j<its'.toArray.size),SeqAt.EqAt X.A.in1 s its.toArray[j] its'.toArray[j] (mG xs ys j):=fun j h1 h2=>by
 simp only[YF,Bool.and_eq_true,decide_eq_true_eq]at ok;rw[size_toArray]at h1 h2;have:=oO I xs ys X.A.in1 ok.1.1 ok.1.2 (by have:=yN X.A;omega) rs rs' rv rv' j h1 h2;simpa using this
theorem JC(hu:X.A.units+64<cLine):OM X (compareOp .Eq) IB:=by
 with_unfolding_all
  intro pins s σ H x y v u Q I rx ry h;obtain⟨ρ,h,d1,d2,d,h',S,R1,R2,e,k⟩:=h;unfold IB at e;split at e
  · rename_i xs ys;obtain⟨ok,e⟩:=FE e;cases e;obtain⟨a,vs,z,t,rs⟩:=Dm.mp R1;obtain⟨b,ws,z',t',rs'⟩:=Dm.mp R2;subst z z';cases rx;cases ry;obtain⟨its,rv,tp,_⟩:=I.tuple t.sq;obtain⟨its',rv',Rp,_⟩:=I.tuple t'.sq;have l1:its.length=xs.length:=by rw[<- rv.length,rs.length]
    have l2:its'.length=ys.length:=by rw[<- rv'.length,rs'.length]
    refine SeqAt.eq_tupleAt (e:=mG xs ys) (IE tp) (IE Rp) (by omega) (JN I hu ok rs rs' rv rv') ?_;refine⟨.bl _,H,I,rfl,k ρ _ H (Am.mpr (congrArg V.bl ?_)) S (Ext.refl _ _)⟩;rw[size_toArray,size_toArray,l1,l2];by_cases hl:xs.length=ys.length
    · rw[<- hl,Nat.min_self,sI xs ys hl,beq_self_eq_true,Bool.and_true]
    · have hb:(xs.length==ys.length)=false:=by simpa using hl
      rw[qI xs ys hl,hb,Bool.and_false]
  · rename_i xs ys;obtain⟨ok,e⟩:=FE e;cases e;obtain⟨a,vs,z,t,rs⟩:=Cm.mp R1;obtain⟨b,ws,z',t',rs'⟩:=Cm.mp R2;subst z z';cases rx;cases ry;obtain⟨its,rv,tp,_⟩:=I.list t.sq;obtain⟨its',rv',Rp,_⟩:=I.list t'.sq;have l1:its.length=xs.length:=by rw[<- rv.length,rs.length]
    have l2:its'.length=ys.length:=by rw[<- rv'.length,rs'.length]
    by_cases hl:xs.length=ys.length
    · refine SeqAt.eq_listAt (e:=mG xs ys) tp.isList Rp.isList (by rw[size_toArray,size_toArray,l1,l2,hl]) (by omega) (JN I hu ok rs rs' rv rv') ?_;refine⟨.bl _,H,I,rfl,k ρ _ H (Am.mpr (congrArg V.bl ?_)) S (Ext.refl _ _)⟩;rw[size_toArray,l1,sI xs ys hl]
    · refine SeqAt.eq_list_lengthsAt tp.isList Rp.isList (by rw[size_toArray,size_toArray,l1,l2];simpa using hl) (by omega) ?_;exact⟨.bl _,H,I,rfl,k ρ _ H (Am.mpr (by rw[qI xs ys hl])) S (Ext.refl _ _)⟩
  · exact N5 pins s σ H x y v u Q I rx ry ⟨ρ,h,d1,d2,d,h',S,R1,R2,e,k⟩
theorem GH(hu:X.A.units+64<cLine):OM X (compareOp .NotEq) kE:=by
 with_unfolding_all
  intro pins s σ H x y v u Q I rx ry h;obtain⟨ρ,h,d1,d2,d,h',S,R1,R2,e,k⟩:=h;unfold kE at e;split at e
  · rename_i xs ys;obtain⟨ok,e⟩:=FE e;cases e;obtain⟨a,vs,z,t,rs⟩:=Dm.mp R1;obtain⟨b,ws,z',t',rs'⟩:=Dm.mp R2;subst z z';cases rx;cases ry;obtain⟨its,rv,tp,_⟩:=I.tuple t.sq;obtain⟨its',rv',Rp,_⟩:=I.tuple t'.sq;have l1:its.length=xs.length:=by rw[<- rv.length,rs.length]
    have l2:its'.length=ys.length:=by rw[<- rv'.length,rs'.length]
    refine Lj (e:=mG xs ys) (IE tp) (IE Rp) (by omega) (JN I hu ok rs rs' rv rv') ?_;refine⟨.bl _,H,I,rfl,k ρ _ H (Am.mpr (congrArg V.bl ?_)) S (Ext.refl _ _)⟩;rw[size_toArray,size_toArray,l1,l2];by_cases hl:xs.length=ys.length
    · rw[<- hl,Nat.min_self,sI xs ys hl,beq_self_eq_true,Bool.and_true]
    · have hb:(xs.length==ys.length)=false:=by simpa using hl
      rw[qI xs ys hl,hb,Bool.and_false]
  · rename_i xs ys;obtain⟨ok,e⟩:=FE e;cases e;obtain⟨a,vs,z,t,rs⟩:=Cm.mp R1;obtain⟨b,ws,z',t',rs'⟩:=Cm.mp R2;subst z z';cases rx;cases ry;obtain⟨its,rv,tp,_⟩:=I.list t.sq;obtain⟨its',rv',Rp,_⟩:=I.list t'.sq;have l1:its.length=xs.length:=by rw[<- rv.length,rs.length]
    have l2:its'.length=ys.length:=by rw[<- rv'.length,rs'.length]
    by_cases hl:xs.length=ys.length
    · refine Oz (e:=mG xs ys) tp.isList Rp.isList (by rw[size_toArray,size_toArray,l1,l2,hl]) (by omega) (JN I hu ok rs rs' rv rv') ?_;refine⟨.bl _,H,I,rfl,k ρ _ H (Am.mpr (congrArg V.bl ?_)) S (Ext.refl _ _)⟩;rw[size_toArray,l1,sI xs ys hl]
    · refine z8 tp.isList Rp.isList (by rw[size_toArray,size_toArray,l1,l2];simpa using hl) (by omega) ?_;exact⟨.bl _,H,I,rfl,k ρ _ H (Am.mpr (by rw[qI xs ys hl];rfl)) S (Ext.refl _ _)⟩
  · exact P5 pins s σ H x y v u Q I rx ry ⟨ρ,h,d1,d2,d,h',S,R1,R2,e,k⟩
def QE:List Dt->Option (List V)
 | []=>some []
 | d::ds=>(UD d).bind fun v=>(QE ds).map fun vs=>v::vs
theorem LW{K:Frag}{H:Hp}{ρ:Rg}:∀{ds:List Dt}{ws vs:List V},QE ds=some ws->jm K H ρ ds vs->vs=ws
 | [],_,_,e,r=>by simp only[QE]at e;cases e;exact r.Jl
 | d::ds,_,_,e,r=>by
  simp only[QE]at e;obtain⟨v,e1,e⟩:=xA e;cases q:QE ds with
  | none=>rw[q]at e;cases e
  | some vs=>rw[q]at e;cases e;obtain⟨v',r',z,r1,r2⟩:=r.Jm;subst z;rw[qJ e1 r1,LW q r2]
theorem zZ{d:Dt}{v:V}(e:UD d=some v):xG v=true:=by cases d<;>simp only[UD]at e<;>first | (cases e;rfl) | cases e
theorem uY:∀{ds:List Dt}{ws:List V},QE ds=some ws->ws.all xG=true
 | [],_,e=>by simp only[QE]at e;cases e;rfl
 | d::ds,_,e=>by
  simp only[QE]at e;obtain⟨v,e1,e⟩:=xA e;cases q:QE ds with
  | none=>rw[q]at e;cases e
  | some vs=>rw[q]at e;cases e;rw[all_cons,zZ e1,uY q];rfl
def rH(neg:Bool):TD:=fun a b h=>(UD a).bind fun x=>(LD h b).bind fun ys=>(QE ys).bind fun zs=>some (.bl (if neg then !ML x zs else ML x zs),h)
theorem zY{neg:Bool}{x y:V}{H:Hp}{Q:VK}(h:rM X.K (rH neg) x y H Q):l4 X.K neg x y H Q:=by obtain⟨ρ,h,d1,d2,d,h',S,R1,R2,e,k⟩:=h;obtain⟨x',e1,e⟩:=xA e;obtain⟨ys,e2,e⟩:=xA e;obtain⟨zs,e3,e⟩:=xA e;cases e;obtain⟨p,vs,e4,sq,r⟩:=kO S R2 e2;have e5:=LW e3 r;subst e5;have e6:=qJ e1 R1;subst e6;exact⟨p,vs,e4,sq,zZ e1,uY e3,k ρ _ H (Am.mpr rfl) S (Ext.refl _ _)⟩
theorem QZ:OM X (compareOp .In) (rH false):=by with_unfolding_all exact vp.imp Nj fun _ _ _ _ h=>zY h
theorem Rz:OM X (compareOp .NotIn) (rH true):=by with_unfolding_all exact vp.imp x8 fun _ _ _ _ h=>zY h
def nK:TD:=fun a b h=>(TB h a).bind fun xs=>(TB h b).bind fun ys=>if xs.length+ys.length<=sizeLine then some (.lst (xs++ys),h)else none
def WO:TD:=fun a b h=>(TB h a).bind fun xs=>(TB h b).bind fun ys=>if xs.length+ys.length<=sizeLine then some (.ref h.length,h++[.lst (xs++ys)])else none
theorem XY:OM X (binaryOp .Add) nK:=by with_unfolding_all exact vp.imp JY fun x y H Q zz=>by obtain⟨ρ,h,d1,d2,d,h',S,R1,R2,e,k⟩:=zz;obtain⟨xs,e1,e⟩:=xA e;obtain⟨ys,e2,e⟩:=xA e;obtain⟨hz,e⟩:=FE e;cases e;obtain⟨l,vs,z1,q1,r1⟩:=VF S R1 e1;obtain⟨b,ws,z2,q2,r2⟩:=VF S R2 e2;exact⟨l,b,vs,ws,z1,z2,q1,q2,by rw[r1.length,r2.length];exact hz,fun p hp=>k ρ _ _ (KO S (r1.append r2) hp) (S.fresh hp) (Ext.fresh hp)⟩
theorem Hy:OM X (binaryOp .Add) WO:=by with_unfolding_all exact vp.imp JY fun x y H Q zz=>by obtain⟨ρ,h,d1,d2,d,h',S,R1,R2,e,k⟩:=zz;obtain⟨xs,e1,e⟩:=xA e;obtain⟨ys,e2,e⟩:=xA e;obtain⟨hz,e⟩:=FE e;cases e;obtain⟨l,vs,z1,q1,r1⟩:=VF S R1 e1;obtain⟨b,ws,z2,q2,r2⟩:=VF S R2 e2;exact⟨l,b,vs,ws,z1,z2,q1,q2,by rw[r1.length,r2.length];exact hz,fun p hp=>k _ _ _ (FH S (r1.append r2) hp).1 (FH S (r1.append r2) hp).2 (Ext.own hp)⟩
noncomputable def VC(F:Dt->HI->Option (Dt×HI))(f:RE):RE:=fun l h=>(f l h).bind fun r=>F r.1 r.2
theorem HL{x:Str}{id:String}{r:List V->Hp->VK->Prop}{F:Dt->HI->Option (Dt×HI)}(hc:Hl X (.builtin id) r)(hF:∀ρ h d v d' h' H Q,Em X.K ρ h H->zm X.K H ρ d v->F d h=some (d',h')->Out X.K ρ H d' h' Q->r [v] H Q)
 (hg:Gl X x) (hm:X.mg x=none) (hv:bootBuiltins x=some (.builtin id)) (ha:EM X e f) (hn:x ≠ "__name__" :=by decide) (hdb:(x==("__debug__" :Str))=false:=by decide) (hs:xB e=true:=by rfl) :
 EM X (.Call (.Name x p) [e] [] pos) (VC F f):=by
 with_unfolding_all exact PE.imp (ZN hc hg hm hv (TC ha fE (jB hs _ _)) hn hdb (he:=jB hs _ _)) fun σ H Q zz=>by obtain⟨ρ,l,h,d,h',S,L,e,k⟩:=zz;obtain⟨⟨d1,h1⟩,e1,e⟩:=xA e;exact⟨ρ,l,h,d1,h1,S,L,e1,fun ρ1 v H1 R1 S1 E1=>hF ρ1 h1 d1 v d h' H1 Q S1 R1 e (k.ext E1)⟩
theorem R0{x:Str}{T:String}{r:List V->Hp->VK->Prop}{F:Dt->HI->Option (Dt×HI)}(hc:Hl X (.type T) r)(hF:∀ρ h d v d' h' H Q,Em X.K ρ h H->zm X.K H ρ d v->F d h=some (d',h')->Out X.K ρ H d' h' Q->r [v] H Q)
 (hg:Gl X x) (hm:X.mg x=none) (hv:bootBuiltins x=some (.type T)) (ha:EM X e f) (hn:x ≠ "__name__" :=by decide) (hdb:(x==("__debug__" :Str))=false:=by decide) (hs:xB e=true:=by rfl) :
 EM X (.Call (.Name x p) [e] [] pos) (VC F f):=by
 with_unfolding_all exact PE.imp (Ux hc hg hm hv (TC ha fE (jB hs _ _)) hn hdb (he:=jB hs _ _)) fun σ H Q zz=>by obtain⟨ρ,l,h,d,h',S,L,e,k⟩:=zz;obtain⟨⟨d1,h1⟩,e1,e⟩:=xA e;exact⟨ρ,l,h,d1,h1,S,L,e1,fun ρ1 v H1 R1 S1 E1=>hF ρ1 h1 d1 v d h' H1 Q S1 R1 e (k.ext E1)⟩
def iD:Dt->HI->Option (Dt×HI):=fun d h=>match d with
 | .str z=>if z.length<=sizeLine then some (.int z.length,h)else none
 | d=>(LD h d).map fun xs=>(.int xs.length,h)
theorem qF (hg:Gl X "len") (hm:X.mg "len" =none) (ha:EM X e f) (hs:xB e=true:=by rfl):EM X (.Call (.Name "len" p) [e] [] pos) (VC iD f):=by
 with_unfolding_all
  exact HL (Hl.or G8 J8) (fun ρ h d v d' h' H Q S R e k=>by
   unfold iD at e;split at e
   · rename_i z;obtain⟨hz,e⟩:=FE e;cases e;exact .inr ⟨z,by rw[Om.mp R],hz,k ρ _ H (qm.mpr rfl) S (Ext.refl _ _)⟩
   · cases q:LD h d with
     | none=>rw[q]at e;cases e
     | some xs=>
      rw[q]at e;cases e;obtain⟨a,vs,z,sq,r⟩:=kO S R q;exact .inl ⟨a,vs,by rw[z],sq,by rw[r.length];exact k ρ _ H (qm.mpr rfl) S (Ext.refl _ _)⟩) hg hm PySem.boot_len ha (hs:=hs)
noncomputable def lH:Dt->HI->Option (Dt×HI):=fun d h=>match d with
 | .int i=>some (.int i,h)
 | .bl b=>some (.int (if b then 1 else 0),h)
 | _=>none
theorem nL (hg:Gl X "int") (hm:X.mg "int" =none) (ha:EM X e f) (hs:xB e=true:=by rfl):EM X (.Call (.Name "int" p) [e] [] pos) (VC lH f):=by
 with_unfolding_all
  exact R0 N9 (fun ρ h d v d' h' H Q S R e k=>by
   unfold lH at e;split at e
   · rename_i i;cases e;exact .inl ⟨i,by rw[qm.mp R],k ρ _ H (qm.mpr rfl) S (Ext.refl _ _)⟩
   · rename_i b;cases e;exact .inr ⟨b,by rw[Am.mp R],k ρ _ H (qm.mpr rfl) S (Ext.refl _ _)⟩
   · cases e) hg hm PyProof.Rows.boot_int ha (hs:=hs)
def eF:Dt->HI->Option (Dt×HI):=fun d h=>(LD h d).map fun xs=>(.ref h.length,h++[.lst xs])
theorem xN (hg:Gl X "list") (hm:X.mg "list" =none) (ha:EM X e f) (hs:xB e=true:=by rfl):EM X (.Call (.Name "list" p) [e] [] pos) (VC eF f):=by
 with_unfolding_all
  exact R0 K8 (fun ρ h d v d' h' H Q S R e k=>by
   unfold eF at e;cases q:LD h d with
   | none=>rw[q]at e;cases e
   | some xs=>
    rw[q]at e;cases e;obtain⟨a,vs,z,sq,r⟩:=kO S R q;exact⟨a,vs,by rw[z],sq,fun l hl=>k _ _ _ (FH S r hl).1 (FH S r hl).2 (Ext.own hl)⟩) hg hm PyProof.Rows.boot_list ha (hs:=hs)
noncomputable def xE:List Dt->Option (List Int)
 | []=>some []
 | .int i::ds=>(xE ds).map fun ns=>i::ns
 | _::_=>none
theorem tJ:∀{ds:List Dt}{ns:List Int},xE ds=some ns->ds=ns.map Dt.int
 | [],_,e=>by simp only[xE]at e;cases e;rfl
 | d::ds,_,e=>by
  cases d with
  | int i=>
   simp only[xE]at e;cases q:xE ds with
   | none=>rw[q]at e;cases e
   | some ns=>rw[q]at e;cases e;rw[tJ q];rfl
  | _=>simp only[xE]at e<;>cases e
def YI:Dt->HI->Option (Dt×HI):=fun d h=>(TB h d).bind fun xs=>(xE xs).map fun ns=>(.int ns.sum,h)
theorem pZ (hc:X.calm=true) (hg:Gl X "sum") (hm:X.mg "sum" =none) (ha:EM X e f) (hs:xB e=true:=by rfl):EM X (.Call (.Name "sum" p) [e] [] pos) (VC YI f):=by
 with_unfolding_all
  exact HL (S9 hc) (fun ρ h d v d' h' H Q S R e k=>by
   obtain⟨xs,e1,e⟩:=xA e;cases q:xE xs with
   | none=>rw[q]at e;cases e
   | some ns=>
    rw[q]at e;cases e;obtain⟨a,vs,z,sq,r⟩:=VF S R e1;rw[tJ q]at r;rw[r.zao]at sq;exact⟨a,ns,by rw[z],sq,k ρ _ H (qm.mpr rfl) S (Ext.refl _ _)⟩) hg hm PyProof.Rows.boot_sum ha (hs:=hs)
noncomputable def YC:List Int->Int
 | []=>0
 | [a]=>a
 | a::b::r=>max a (YC (b::r))
noncomputable def hC:List Int->Int
 | []=>0
 | [a]=>a
 | a::b::r=>min a (hC (b::r))
theorem zN:∀(ns:List Int),ns ≠ []->YC ns∈ns/\∀a∈ns,a<=YC ns
 | [],h=>absurd rfl h
 | [a],_=>by simp[YC]
 | a::b::r,_=>by
  obtain⟨h1,h2⟩:=zN (b::r) (by simp);simp only[YC];refine⟨?_,fun c hc=>?_⟩
  · rcases Int.le_total a (YC (b::r))with z | z
    · rw[Int.max_eq_right z];exact mem_cons_of_mem _ h1
    · rw[Int.max_eq_left z];exact mem_cons_self
  · rcases mem_cons.mp hc with z | z
    · rw[z];exact Int.le_max_left _ _
    · exact Int.le_trans (h2 c z) (Int.le_max_right _ _)
theorem SG:∀(ns:List Int),ns ≠ []->hC ns∈ns/\∀a∈ns,hC ns<=a
 | [],h=>absurd rfl h
 | [a],_=>by simp[hC]
 | a::b::r,_=>by
  obtain⟨h1,h2⟩:=SG (b::r) (by simp);simp only[hC];refine⟨?_,fun c hc=>?_⟩
  · rcases Int.le_total a (hC (b::r))with z | z
    · rw[Int.min_eq_left z];exact mem_cons_self
    · rw[Int.min_eq_right z];exact mem_cons_of_mem _ h1
  · rcases mem_cons.mp hc with z | z
    · rw[z];exact Int.min_le_left _ _
    · exact Int.le_trans (Int.min_le_right _ _) (h2 c z)
def mH:Dt->HI->Option (Dt×HI):=fun d h=>(TB h d).bind fun xs=>(xE xs).bind fun ns=>if ns ≠ []then some (.int (YC ns),h)else none
def HG:Dt->HI->Option (Dt×HI):=fun d h=>(TB h d).bind fun xs=>(xE xs).bind fun ns=>if ns ≠ []then some (.int (hC ns),h)else none
theorem nZ (hc:X.calm=true) (hg:Gl X "max") (hm:X.mg "max" =none) (ha:EM X e f) (hs:xB e=true:=by rfl):EM X (.Call (.Name "max" p) [e] [] pos) (VC mH f):=by
 with_unfolding_all
  exact HL (P9 hc) (fun ρ h d v d' h' H Q S R e k=>by
   obtain⟨xs,e1,e⟩:=xA e;obtain⟨ns,q,e⟩:=xA e;obtain⟨hne,e⟩:=FE e;cases e;obtain⟨a,vs,z,sq,r⟩:=VF S R e1;rw[tJ q]at r;rw[r.zao]at sq;obtain⟨m1,m2⟩:=zN ns hne;refine⟨a,ns,by rw[z],sq,hne,fun M h1 h2=>?_⟩;have:M=YC ns:=Int.le_antisymm (m2 M h1) (h2 _ m1);rw[this];exact k ρ _ H (qm.mpr rfl) S (Ext.refl _ _)) hg hm PyProof.Rows.boot_max ha (hs:=hs)
theorem dU (hc:X.calm=true) (hg:Gl X "min") (hm:X.mg "min" =none) (ha:EM X e f) (hs:xB e=true:=by rfl):EM X (.Call (.Name "min" p) [e] [] pos) (VC HG f):=by
 with_unfolding_all
  exact HL (R9 hc) (fun ρ h d v d' h' H Q S R e k=>by
   obtain⟨xs,e1,e⟩:=xA e;obtain⟨ns,q,e⟩:=xA e;obtain⟨hne,e⟩:=FE e;cases e;obtain⟨a,vs,z,sq,r⟩:=VF S R e1;rw[tJ q]at r;rw[r.zao]at sq;obtain⟨m1,m2⟩:=SG ns hne;refine⟨a,ns,by rw[z],sq,hne,fun M h1 h2=>?_⟩;have:M=hC ns:=Int.le_antisymm (h2 _ m1) (m2 M h1);rw[this];exact k ρ _ H (qm.mpr rfl) S (Ext.refl _ _)) hg hm PyProof.Rows.boot_min ha (hs:=hs)
noncomputable def BG(h:HI):Dt->Option String
 | .non=>some "NoneType"
 | .bl _=>some "bool"
 | .int _=>some "int"
 | .str _=>some "str"
 | .tup _=>some "tuple"
 | .lst _=>some "list"
 | .ref n=>match h[n]? with | some (.lst _)=>some "list" | _=>none
 | .Ip _=>none
noncomputable def ZL (t T:String):Bool:=t==T || (t == "bool" && T == "int")
def VH(T:String)(f:RE):RE:=fun l h=>(f l h).bind fun r=>(BG r.2 r.1).map fun t=>(.bl (ZL t T),r.2)
theorem Zk (K:Frag):∀t ∈ ["NoneType", "bool", "int", "str", "tuple", "list"],∀T ∈ ["bool", "int", "str", "tuple", "list"],PySem.W.kitOne K (.type t) (.type T)=some (ZL t T):=by intro t ht T hT;simp only[mem_cons,mem_nil_iff,or_false]at ht hT;rcases ht with rfl | rfl | rfl | rfl | rfl | rfl<;>rcases hT with rfl | rfl | rfl | rfl | rfl<;>with_unfolding_all rfl
theorem p6 {h:HI} {d:Dt} {t:String} (e:BG h d=some t):t ∈ ["NoneType", "bool", "int", "str", "tuple", "list"]:=by
 cases d with
 | ref n=>
  simp only[BG]at e;split at e
  · cases e;decide
  · cases e
 | Ip n=>simp only[BG]at e;cases e
 | _=>simp only[BG]at e<;>cases e<;>decide
theorem l7{K:Frag}{H:Hp}{ρ:Rg}{h:HI}{d:Dt}{v:V}{t:String}(S:Em K ρ h H)(R:zm K H ρ d v)(e:BG h d=some t):vd K H v t:=by
 cases d with
 | non=>cases Km.mp R;simp only[BG]at e;cases e;rfl
 | bl b=>cases Am.mp R;simp only[BG]at e;cases e;rfl
 | int b=>cases qm.mp R;simp only[BG]at e;cases e;rfl
 | str b=>cases Om.mp R;simp only[BG]at e;cases e;rfl
 | tup xs=>obtain⟨a,vs,z,t,rs⟩:=Dm.mp R;subst z;simp only[BG]at e;cases e;exact .inr ⟨rfl,vs,t.sq⟩
 | lst xs=>obtain⟨a,vs,z,t,rs⟩:=Cm.mp R;subst z;simp only[BG]at e;cases e;exact .inl ⟨rfl,vs,t.sq⟩
 | ref n=>
  obtain⟨a,z,ha⟩:=Gm.mp R;subst z;simp only[BG]at e;split at e
  · rename_i xs q;cases e;obtain⟨vs,h1,_⟩:=S.lst ha q;exact .inl ⟨rfl,vs,yp.of h1⟩
  · cases e
 | Ip n=>simp only[BG]at e;cases e
theorem wL {T:Str} {TT:String} (hg:Gl X "isinstance") (hm:X.mg "isinstance" =none) (hgT:Gl X T) (hmT:X.mg T=none) (hv:bootBuiltins T=some (.type TT)) (hT:TT ∈ ["bool", "int", "str", "tuple", "list"]) (ha:EM X e f)
 (hnT:T ≠ "__name__" :=by decide) (hdT:(T==("__debug__" :Str))=false:=by decide)
 (hs:xB e=true:=by rfl) :
 EM X (.Call (.Name "isinstance" p) [e,.Name T p2] [] pos) (VH TT f):=by
 with_unfolding_all
  exact PE.imp (ZN (Lx (T:=TT)) hg hm PyProof.Rows.boot_isinstance (TC ha (TC (Qy hgT hmT hv (v:=.ty TT) rfl hnT hdT) fE (jB rfl _ _)) (jB hs _ _)) (he:=jB hs _ _)) fun σ H Q zz=>by
   obtain⟨ρ,l,h,d,h',S,L,e,k⟩:=zz;obtain⟨⟨d1,h1⟩,e1,e⟩:=xA e;refine⟨ρ,l,h,d1,h1,S,L,e1,fun ρ1 v H1 R1 S1 E1=>?_⟩;cases q:BG h1 d1 with
   | none=>rw[q]at e;cases e
   | some t=>rw[q]at e;cases e;exact⟨v,t,ZL t TT,rfl,l7 S1 R1 q,Zk X.K t (p6 q) TT hT,k ρ1 _ H1 (Am.mpr rfl) S1 E1⟩
abbrev RO:=LI->HI->Option (Option Int×HI)
noncomputable def pV:RO:=fun _ h=>some (none,h)
noncomputable def OL(f:RE):RO:=fun l h=>(f l h).bind fun r=>match r.1 with | .int i=>some (some i,r.2) | _=>none
def Qc(K:Frag)(f:RO):TO:=fun σ H Q=>∃ρ l h o h',Em K ρ h H/\Fl K H ρ l σ/\f l h=some (o,h')/\zbd K ρ H h' (Q o)
@[irreducible] def X0(X:Cx)(e:Option Expr)(f:RO):Prop:=PO X e (Qc X.K f)
theorem PO.imp{X:Cx}{e:Option Expr}{t t':TO}(h:PO X e t)(i:∀σ H Q,t' σ H Q->t σ H Q):PO X e t':=fun pins s σ H Q I q=>h pins s σ H Q I (i σ H Q q)
theorem Jy:X0 X none pV:=by with_unfolding_all exact PO.imp Nk fun σ H Q zz=>by obtain⟨ρ,l,h,o,h',S,L,e,k⟩:=zz;cases e;exact k ρ H S (Ext.refl _ _)
theorem pT(ha:EM X a fa):X0 X (some a) (OL fa):=by
 with_unfolding_all
  exact PO.imp (Pk ha) fun σ H Q zz=>by
   obtain⟨ρ,l,h,o,h',S,L,e,k⟩:=zz;obtain⟨⟨d1,h1⟩,e1,e⟩:=xA e;refine⟨ρ,l,h,d1,h1,S,L,e1,fun ρ1 v H1 R1 S1 E1=>?_⟩;cases d1 with
   | int i=>cases e;exact⟨i,qm.mp R1,k ρ1 H1 S1 E1⟩
   | _=>cases e
def GG(xs:List Dt)(lo hi:Option Int):List Dt:=(xs.drop (HT.sIx xs.length 0 lo)).take (HT.sIx xs.length xs.length hi-HT.sIx xs.length 0 lo)
def DP(f:RE)(lo hi:RO):RE:=fun l h=>(f l h).bind fun r=>(lo l r.2).bind fun o=>(hi l o.2).bind fun u=>(TB u.2 r.1).map fun xs=>(.lst (GG xs o.1 u.1),u.2)
theorem Sy{K:Frag}{H:Hp}{ρ:Rg}{xs:List Dt}{vs:List V}(r:jm K H ρ xs vs)(lo hi:Option Int):jm K H ρ (GG xs lo hi) (VI vs lo hi):=by unfold GG VI;rw[r.length];exact(r.drop _).take _
theorem IX{lo hi:Option Expr}{fl fh:RO}(ha:EM X a fa)(hl:X0 X lo fl)(hh:X0 X hi fh):EM X (.Subscript a (.Slice lo hi none p2) pos) (DP fa fl fh):=by
 with_unfolding_all
  exact PE.imp (Av Et ha hl hh) fun σ H Q zz=>by
   obtain⟨ρ,l,h,d,h',S,L,e,k⟩:=zz;obtain⟨⟨d1,h1⟩,e1,e⟩:=xA e;obtain⟨⟨o,h2⟩,e2,e⟩:=xA e;obtain⟨⟨u,h3⟩,e3,e⟩:=xA e;refine⟨ρ,l,h,d1,h1,S,L,e1,fun ρ1 v H1 R1 S1 E1=>⟨ρ1,l,h1,o,h2,S1,L.ext E1,e2,fun ρ2 H2 S2 E2=>⟨ρ2,l,h2,u,h3,S2,L.ext (E1.trans E2),e3,fun ρ3 H3 S3 E3=>?_⟩⟩⟩;cases q:TB h3 d1 with
   | none=>dsimp only at e;rw[q]at e;cases e
   | some xs=>dsimp only at e;rw[q]at e;cases e;obtain⟨x,vs,z,sq,r⟩:=VF S3 (zm.ext (E2.trans E3) _ R1) q;exact⟨x,vs,z,sq,fun p hp=>k ρ3 _ _ (KO S3 (Sy r o u) hp) (S3.fresh hp) (E1.trans (E2.trans (E3.trans (Ext.fresh hp))))⟩
noncomputable def Y2(fo fa:RE):RE:=fun l h=>(fo l h).bind fun r=>match r.1 with
 | .ref n=>(fa l r.2).bind fun q=>match q.2[n]? with
  | some (.lst xs)=>if xs.length<sizeLine then some (.non,q.2.set n (.lst (xs++[q.1])))else none
  | _=>none
 | _=>none
theorem JO {K:Frag} {H:Hp} {ρ:Rg} {h:HI} {n:Nat} {xs:List Dt} {v:V} (S:Em K ρ h H) (R:zm K H ρ (.ref n) v) (e:h[n]?=some (.lst xs)):V4 K "list" v H:=by obtain⟨a,z,ha⟩:=Gm.mp R;subst z;obtain⟨vs,h1,_⟩:=S.lst ha e;exact .inl ⟨rfl,vs,yp.of h1⟩
def mE(fa fb:RE):RE:=fun l h=>(fa l h).bind fun r=>match r.1 with
 | .ref n=>match r.2[n]? with
  | some (.lst _)=>Y2 (eC (.ref n)) fb l r.2
  | _=>none
 | _=>none
theorem EF {apos cpos:Pos} (ho:EM X a fa) (hb:EM X b fb) (hbase:attributeBase a "append" X.env (eval a X.env)=eval a X.env:=by rfl)
 (hline:(apos.endLine==cpos.line)=true:=by rfl) (hs:xB b=true:=by rfl) :
 EM X (.Call (.Attribute a "append" apos) [b] [] cpos) (mE fa fb):=by
 with_unfolding_all
  exact PE.imp (VJ PySem.F.plainAttrs_list PySem.F.slot_list_append PySem.F.type_list_append sW ho (TC hb fE (jB hs _ _)) hbase (iL hs) hline (jB hs _ _)) fun σ H Q zz=>by
   obtain⟨ρ,l,h,d,h',S,L,e,k⟩:=zz;obtain⟨⟨d1,h1⟩,e1,e⟩:=xA e;refine⟨ρ,l,h,d1,h1,S,L,e1,fun ρ1 v H1 R1 S1 E1=>?_⟩;cases d1 with
   | ref n=>
    dsimp only at e;split at e
    · rename_i xs0 q0;obtain⟨⟨d0,h0⟩,z0,e⟩:=xA e;cases z0;dsimp only at e;obtain⟨⟨d2,h2⟩,e2,e⟩:=xA e;refine⟨JO S1 R1 q0,ρ1,l,h1,d2,h2,S1,L.ext E1,e2,fun ρ2 y H2 R2 S2 E2=>?_⟩;dsimp only at e;split at e
      · rename_i xs q;obtain⟨hz,e⟩:=FE e;cases e;obtain⟨a,z,ha⟩:=Gm.mp R1;subst z;have ha2:=E2.get ha;obtain⟨vs,g1,g2⟩:=S2.lst ha2 q;have hm:=mem_of_getElem? ha2;refine⟨a,vs,y,rfl,rfl,g1,by rw[g2.length];exact hz,k ρ2 _ _ (Km.mpr rfl) (S2.write ha2 (AG g1) ⟨_,SC,?_⟩) (E1.trans (E2.trans (Ext.write hm (AG g1))))⟩;exact(g2.append (.cons R2 .nil)).ext (Ext.write hm (AG g1))
      · cases e
    · cases e
   | _=>cases e
end
def LF:List Dt->Dt->Option Nat
 | [],_=>none
 | y::ys,x=>if WC y x=true then some 0 else(LF ys x).map (· + 1)
theorem QW:∀{ys:List Dt}{x:Dt}{j:Nat},LF ys x=some j->(∃y,ys[j]?=some y/\WC y x=true)/\∀(m:Nat),m<j->∃y,ys[m]?=some y/\WC y x=false
 | [],_,_,e=>by simp only[LF]at e;cases e
 | y::ys,x,j,e=>by
  simp only[LF]at e;by_cases h:WC y x=true
  · rw[if_pos h]at e;cases e;exact⟨⟨y,rfl,h⟩,fun m hm=>absurd hm (Nat.not_lt_zero _)⟩
  · rw[if_neg h]at e;cases q:LF ys x with
    | none=>rw[q]at e;cases e
    | some k=>
     rw[q]at e;cases e;obtain⟨⟨z,z1,z2⟩,no⟩:=QW q;refine⟨⟨z,by simpa using z1,z2⟩,fun m hm=>?_⟩;cases m with
     | zero=>exact⟨y,rfl,by simpa using h⟩
     | succ m=>obtain⟨u,u1,u2⟩:=no m (Nat.lt_of_succ_lt_succ hm);exact⟨u,by simpa using u1,u2⟩
section
variable{X:Cx}{pins:List (Addr×Obj)}{σ:L2.St}{H:Hp}{s:Shared}{ρ:Rg}
def fK(xs:List Dt)(d:Dt)(k:Nat):Bool:=match xs[k]? with | some z=>WC z d | none=>false
theorem tN:∀{xs:List Dt}{k:Nat}{z:Dt},RC xs=true->xs[k]?=some z->GB z=true
 | [],_,_,_,e=>by simp at e
 | x::xs,0,z,h,e=>by simp only[RC,Bool.and_eq_true]at h;simp at e;subst e;exact h.1
 | x::xs,k+1,z,h,e=>by simp only[RC,Bool.and_eq_true]at h;exact tN h.2 (by simpa using e)
theorem GW:∀{xs:List Dt}{k:Nat}{z:Dt},xs[k]?=some z->jH z<=sE xs
 | [],_,_,e=>by simp at e
 | x::xs,0,z,e=>by simp at e;subst e;simp only[sE];exact Nat.le_max_left _ _
 | x::xs,k+1,z,e=>by simp only[sE];exact Nat.le_trans (GW (xs:=xs) (k:=k) (by simpa using e)) (Nat.le_max_right _ _)
open Classical in
theorem D5(I:Inv X pins σ H s){xs:List Dt}{d:Dt}{ws:List V}{v:V}{its:List Value}{u:Value}(A:Around)(p:RC xs=true)(p':GB d=true)(hu:A.units+sE xs<cLine)(rs:jm X.K H ρ xs ws)(rd:zm X.K H ρ d v)(rv:Vals ws its)(ru:RelV v u) :
 ∃e:Value->Bool,(∀(k:Nat)(hk:k<its.length),e its[k]=fK xs d k)/\∀y∈its,SeqAt.EqAt A s y u (e y):=by
 have key:∀(k:Nat)(y:Value),its[k]?=some y->∃z w,xs[k]?=some z/\ws[k]?=some w/\zm X.K H ρ z w/\RelV w y:=fun k y e=>by
  have hl:=rv.length;have hk:k<xs.length:=by have:=(zfY e).1;have h2:=rs.length;omega
  obtain⟨w,w1,w2⟩:=rs.get (getElem?_eq_getElem hk);obtain⟨y',y1,y2⟩:=rv.get w1;rw[e]at y1;cases y1;exact⟨_,w,getElem?_eq_getElem hk,w1,w2,y2⟩
 have same:∀(k m:Nat)(y:Value),its[k]?=some y->its[m]?=some y->fK xs d k=fK xs d m:=fun k m y e1 e2=>by obtain⟨z,w,a1,_,a3,a4⟩:=key k y e1;obtain⟨z',w',b1,_,b3,b4⟩:=key m y e2;have ew:=RelV.inj a4 b4;subst ew;have ez:=jO I z z' (tN p a1) (tN p b1) a3 b3;unfold fK;rw[a1,b1,ez]
 refine⟨fun y=>if h:∃k,its[k]?=some y then fK xs d h.choose else false,fun k hk=>?_,fun y hy=>?_⟩
 · have hex:∃m,its[m]?=some its[k]:=⟨k,getElem?_eq_getElem hk⟩
   dsimp only;rw[dif_pos hex];exact same _ _ _ hex.choose_spec (getElem?_eq_getElem hk)
 · obtain⟨k,hk⟩:=mem_iff_getElem?.mp hy;have hex:∃m,its[m]?=some y:=⟨k,hk⟩
   dsimp only;rw[dif_pos hex];obtain⟨z,w,a1,_,a3,a4⟩:=key _ y hex.choose_spec;have ec:fK xs d hex.choose=WC z d:=by unfold fK;rw[a1]
   rw[ec];exact qZ I z d A (tN p a1) p' (by have:=GW a1;omega) a3 rd a4 ru
theorem Ig{xs:List Dt}{d:Dt}{j:Nat}(h:LF xs d=some j):j<xs.length/\fK xs d j=true/\∀m,m<j->fK xs d m=false:=by obtain⟨⟨y,y1,y2⟩,no⟩:=QW h;refine⟨(zfY y1).1,by unfold fK;rw[y1];exact y2,fun m hm=>?_⟩;obtain⟨z,z1,z2⟩:=no m hm;unfold fK;rw[z1];exact z2
end
def AI(xs:List Dt)(d:Dt):Bool:=RC xs&&GB d&&decide (sE xs<=50)
def j4(K:Frag)(tup:Bool):V->List V->Hp->VK->Prop:=fun x vs H Q=>∃ρ xs d y a ws j,x=.ref a/\vs=[y]/\(if tup=true then NI K H a ws else yp K H a ws)/\jm K H ρ xs ws/\zm K H ρ d y/\AI xs d=true/\LF xs d=some j/\Q (.int (j:Nat)) H
section
variable{X:Cx}{a b:Expr}{fa fb:RE}
theorem Dq (hu:X.A.units+64<cLine):Z1 X "list.index" (j4 X.K false):=by
 intro pins s σ H x vs v us Q I rx rv h;obtain⟨ρ,xs,d,y,p,ws,j,rfl,rfl,sq,rs,rd,ok,hj,q⟩:=h;rw[if_neg zf0]at sq;cases rx;obtain⟨u,rfl,ru⟩:=cG rv;simp only[AI,Bool.and_eq_true,decide_eq_true_eq]at ok;obtain⟨its,rw',⟨⟨c1,d1,t1,sl1⟩,n,e0,k1,k2,k3⟩,z⟩:=I.list sq;simp only at k1 k2 k3;subst k1 k2 k3;obtain⟨e,e1,e2⟩:=D5 I X.A.in1 ok.1.1 ok.1.2 (by have:=yN X.A;omega) rs rd rw' ru;obtain⟨j1,j2,j3⟩:=Ig hj;have hl:its.length=xs.length:=by rw[<- rw'.length,rs.length]
 have hz:j<its.length:=by omega
 have hn:=xI;refine call_meets PySem.F.slot_list_index ⟨_,e0,rfl⟩ PySem.F.entry_list_index (PySem.F.args_list_index_2 _ _)
  (SeqAt.list_indexAt p its.toArray n none sl1 u e j (by rw[size_toArray];exact hz) (by have:=rw'.length;omega) ?_ ?_) ⟨e0,fun y hy=>e2 y (by simpa using hy),⟨.int (j:Nat),H,I.tok _,⟨_,rfl⟩,q⟩⟩
 · have:=e1 j hz;rw[j2]at this;simpa using this
 · intro m hm hmj;rw[size_toArray]at hm;have:=e1 m hm;rw[j3 m hmj]at this;simpa using this
def NO(fo fa:RE):RE:=fun l h=>(fo l h).bind fun r=>(fa l r.2).bind fun q=>match r.1 with
 | .lst xs=>if AI xs q.1=true then(LF xs q.1).map fun j=>(.int (j:Nat),q.2)else none
 | _=>none
theorem Nv {apos cpos:Pos} (hu:X.A.units+64<cLine) (ho:EM X a fa) (hb:EM X b fb) (hbase:attributeBase a "index" X.env (eval a X.env)=eval a X.env:=by rfl)
 (hline:(apos.endLine==cpos.line)=true:=by rfl) (hs:xB b=true:=by rfl) :
 EM X (.Call (.Attribute a "index" apos) [b] [] cpos) (NO fa fb):=by
 with_unfolding_all
  exact PE.imp (VJ PySem.F.plainAttrs_list PySem.F.slot_list_index PySem.F.type_list_index (Dq hu) ho (TC hb fE (jB hs _ _)) hbase (iL hs) hline (jB hs _ _)) fun σ H Q zz=>by
   obtain⟨ρ,l,h,d,h',S,L,e,k⟩:=zz;obtain⟨⟨d1,h1⟩,e1,e⟩:=xA e;obtain⟨⟨d2,h2⟩,e2,e⟩:=xA e;refine⟨ρ,l,h,d1,h1,S,L,e1,fun ρ1 v H1 R1 S1 E1=>?_⟩;cases d1 with
   | lst xs=>
    obtain⟨x,ws,z,t,rs⟩:=Cm.mp R1;subst z;refine⟨.inl ⟨rfl,ws,t.sq⟩,ρ1,l,h1,d2,h2,S1,L.ext E1,e2,fun ρ2 y H2 R2 S2 E2=>?_⟩;dsimp only at e;by_cases ok:AI xs d2=true
    · rw[if_pos ok]at e;cases q:LF xs d2 with
      | none=>rw[q]at e;cases e
      | some j=>rw[q]at e;cases e;exact⟨ρ2,xs,d2,y,x,ws,j,rfl,rfl,by rw[if_neg zf0];exact(t.same E2.same).sq,rs.ext E2,R2,ok,q,k ρ2 _ H2 (qm.mpr rfl) S2 (E1.trans E2)⟩
    · rw[if_neg ok]at e;cases e
   | _=>cases e
noncomputable def RD(K:Frag):Nat->Value->Option Dt
 | _,.none=>some .non
 | _,.bool b=>some (.bl b)
 | _,.int i _=>some (.int i)
 | _,.str x _=>some (.str x)
 | 0,_=>none
 | n+1,.ref a=>match K.lookup a with
  | some ⟨.type T,dd,.seq its _,_⟩=>if its.size<=sizeLine then
   if T = "tuple" then(its.toList.mapM (RD K n)).map .tup
   else if T = "list" then match dd with | none=>(its.toList.mapM (RD K n)).map .lst | some _=>none
   else none
   else none
  | _=>none
 | _,_=>none
noncomputable def QU:Value->V
 | .none=>.non
 | .bool b=>.bl b
 | .int i _=>.int i
 | .str x _=>.str x
 | .ref a=>.ref a
 | _=>.non
theorem yS{K:Frag}{H:Hp}{ρ:Rg}{f:Value->Option Dt}(h:∀u d,f u=some d->RelV (QU u) u/\zm K H ρ d (QU u)):∀{us:List Value}{ds:List Dt},us.mapM f=some ds->Vals (us.map QU) us/\jm K H ρ ds (us.map QU)
 | [],_,e=>by simp at e;subst e;exact⟨.nil,.nil⟩
 | u::us,ds,e=>by
  rw[mapM_cons]at e;cases q:f u with
  | none=>rw[q]at e;cases e
  | some d=>
   rw[q]at e;cases q2:us.mapM f with
   | none=>rw[q2]at e;cases e
   | some ds'=>rw[q2]at e;cases e;obtain⟨h1,h2⟩:=h u d q;obtain⟨h3,h4⟩:=yS h q2;exact⟨.cons h1 h3,.cons h2 h4⟩
theorem XW{K:Frag}{H:Hp}{ρ:Rg}:∀(n:Nat)(u:Value)(d:Dt),RD K n u=some d->RelV (QU u) u/\zm K H ρ d (QU u):=by
 intro n
 induction n with
 | zero=>
  intro u d e;cases u with
  | none=>simp only[RD]at e;cases e;exact⟨rfl,Km.mpr rfl⟩
  | bool b=>simp only[RD]at e;cases e;exact⟨rfl,Am.mpr rfl⟩
  | int i t=>simp only[RD]at e;cases e;exact⟨⟨_,rfl⟩,qm.mpr rfl⟩
  | str x t=>simp only[RD]at e;cases e;exact⟨⟨_,rfl⟩,Om.mpr rfl⟩
  | _=>simp only[RD]at e<;>cases e
 | succ n ih=>
  intro u d e;cases u with
  | none=>simp only[RD]at e;cases e;exact⟨rfl,Km.mpr rfl⟩
  | bool b=>simp only[RD]at e;cases e;exact⟨rfl,Am.mpr rfl⟩
  | int i t=>simp only[RD]at e;cases e;exact⟨⟨_,rfl⟩,qm.mpr rfl⟩
  | str x t=>simp only[RD]at e;cases e;exact⟨⟨_,rfl⟩,Om.mpr rfl⟩
  | ref a=>
   simp only[RD]at e;split at e
   · rename_i T dd its m sl q;by_cases hz:its.size<=sizeLine
     · rw[if_pos hz]at e;by_cases hT:T = "tuple"
       · rw[if_pos hT]at e;cases q2:its.toList.mapM (RD K n)with
         | none=>rw[q2]at e;cases e
         | some ds=>rw[q2]at e;cases e;obtain⟨h1,h2⟩:=yS (K:=K) (H:=H) (ρ:=ρ) ih q2;subst hT;exact⟨rfl,Dm.mpr ⟨a,_,rfl,.inr ⟨_,its,m,q,rfl,rfl,hz,h1⟩,h2⟩⟩
       · rw[if_neg hT]at e;by_cases hT2:T = "list"
         · rw[if_pos hT2]at e;split at e
           · cases q2:its.toList.mapM (RD K n)with
             | none=>rw[q2]at e;cases e
             | some ds=>rw[q2]at e;cases e;obtain⟨h1,h2⟩:=yS (K:=K) (H:=H) (ρ:=ρ) ih q2;subst hT2;exact⟨rfl,Cm.mpr ⟨a,_,rfl,.inr ⟨_,its,m,q,rfl,rfl,rfl,hz,h1⟩,h2⟩⟩
           · cases e
         · rw[if_neg hT2]at e;cases e
     · rw[if_neg hz]at e;cases e
   · cases e
  | _=>simp only[RD]at e<;>cases e
structure ZJ(K:Frag)(mg:Str->Option Value)(x:Str)(d:Dt):Prop where
 ex:∃u n,mg x=some u/\RD K n u=some d
theorem DJ {x:Str} {d:Dt} {pos:Pos} (hg:Gl X x) (c:ZJ X.K X.mg x d) (hd:(x==("__debug__" :Str))=false:=by decide):EM X (.Name x pos) (eC d):=by with_unfolding_all obtain⟨u,n,h1,h2⟩:=c.ex;exact wg hg h1 (XW (H:=fun _=>none) (ρ:=.nil) n u d h2).1 (fun H ρ=>(XW n u d h2).2) hd
end
theorem Kf{K:Frag}{F:RB}{n:Nat}(h:∀ns:List Int,ns.length<=n->∃h',F [.lst (ns.map Dt.int)] []=some (.bl true,h'))(H:Hp)(a:Addr)(ns:List Int)(hl:ns.length<=n)(hS:yp K H a (ns.map V.int)) :
 SI K 1 F [.ref a] H (fun v _=>v=.bl true) fun _ _ _=>False:=by
 obtain⟨h',e⟩:=h ns hl;have R:zm K H .nil (.lst (ns.map Dt.int)) (.ref a):=Cm.mpr ⟨a,_,rfl,by
  rcases hS with hS | hS
  · exact .inl ⟨⟨by simp[Rg.nil],by simp[Rg.nil]⟩,hS⟩
  · exact .inr hS,jm.ints ns⟩
 exact⟨.nil,[.lst (ns.map Dt.int)],[],.bl true,h',Em.nil,.cons R .nil,rfl,e,fun ρ' v H' R' S' E'=>Am.mp R'⟩
structure UC(P:Program)(w:World)(K:Frag)(mg:Str->Option Value)(base:Heap)(k n:Nat)(x:Str)(F:RB):Prop where
 ex:∃f fd ps,Ql P w K mg base dG k f fd ps (SI K n F)/\mg x=some (.ref f)/\keepIn K (.ref f)=true/\Binds K fd ps []
 len:∀ds h r,F ds h=some r->ds.length=n
structure sB(K:Frag)(mg:Str->Option Value)(x:Str)(st:Stmt)(ps:List Str):Prop where
 ex:∃f fd,Fun K x x st f fd/\mg x=some (.ref f)/\Binds K fd ps []
section
variable{P:Program}{w:World}{K:Frag}{mg:Str->Option Value}{base:Heap}
theorem Sg{x qual:Str}{st:Stmt}{f:Addr}{fd:FuncData}{N ps:List Str}{k n m:Nat}{body:RS}(F:Fun K x qual st f fd)(S:dB N ps (HA st))(hn:ps.length=n)(hm:N.length=m)
 (hb:∀(cdv:Value)(A:Around)(outer:List Env)(s:Shared)(H:Hp)(E:XK),Zm k (A.deeper (envOfC qual (HA st) s.heap.objs.size f cdv))->
  UH (AF dG P w K mg base N qual (HA st) f cdv A outer s H E).nox (AD st) body):Ql P w K mg base dG (k+1) f fd ps (SI K n (jC n m body)):=by
 with_unfolding_all subst hn hm;exact QO F S hb
theorem BB{x:Str}{st:Stmt}{N ps:List Str}{k n m:Nat}{body:RS}(D:sB K mg x st ps)(S:dB N ps (HA st))(hn:ps.length=n)(hm:N.length=m)
 (hb:∀(f:Addr)(cdv:Value)(A:Around)(outer:List Env)(s:Shared)(H:Hp)(E:XK),Zm k (A.deeper (envOfC x (HA st) s.heap.objs.size f cdv))->
  UH (AF dG P w K mg base N x (HA st) f cdv A outer s H E).nox (AD st) body):UC P w K mg base (k+1) n x (jC n m body):=by
 with_unfolding_all subst hn hm;obtain⟨f,fd,hF,hm,hB⟩:=D.ex;exact⟨⟨f,fd,ps,QO hF S fun cdv A outer s H E hr=>hb f cdv A outer s H E hr,hm,hF.kp,hB⟩,fun ds h r e=>pO e⟩
end
section
variable{X:Cx}{k k' n:Nat}{F:RB}{x:Str}{p pos:Pos}{e:Expr}{es:List Expr}{g:RA}
theorem BH (c:UC X.prog X.w X.K X.mg X.base k n x F) (hr:Zm k' X.A) (hk:k<=k') (hg:Gl X x) (ha:AM X (e::es) g) (hdb:(x==("__debug__" :Str))=false:=by decide)
 (he:xB e=true:=by rfl) (hpl:es.all xB=true:=by rfl) :
 EM X (.Call (.Name x p) (e::es) [] pos) (FA F [] g):=by
 with_unfolding_all obtain⟨f,fd,ps,h1,h2,h3,h4⟩:=c.ex;exact HX h1 (hr.mono hk) hg h2 h3 h4 .nil (fun _ _=>.nil) ha (fun F' e ds h r q=>c.len ds h r (e ▸ q)) hdb he hpl
theorem Zq (c:UC X.prog X.w X.K X.mg X.base k n x F) (hr:Zm k' X.A) (hk:k<=k') (hg:Gl X x) (hdb:(x==("__debug__" :Str))=false:=by decide) :
 EM X (.Call (.Name x p) [] [] pos) (DO F []):=by
 with_unfolding_all obtain⟨f,fd,ps,h1,h2,h3,h4⟩:=c.ex;exact Nq h1 (hr.mono hk) hg h2 h3 h4 .nil (fun _ _=>.nil) (fun F' e ds h r q=>c.len ds h r (e ▸ q)) hdb
end
theorem qw{l:PySem.W.OpenLaw}{q:Program}{loose:List Str}{XP:(Str->Option Value)->Heap->Prop}{YP:World->Heap->Prop}{d:DefRec}{K:Params->Frag}{F:RB}{k:Nat}{x:Str}(hn:l.most=some 63)(hdf:d.params.defaults=[])(hr:Zm k callerA)
 (hY:∀(w:World)(h:Heap),YP w h->(K w.params).In h)
 (hF:∀(w:World)(mg:Str->Option Value)(fa:Addr)(h:Heap),(K w.params).In h->h.Ns mainGlobals mg->mg d.name=some (.ref fa)->
  ∃fd:FuncData,(∀(s:Shared)(u:Value),BindsTo s fd ⟨[u],[]⟩ [(x,u)])/\∀base:Heap,(K w.params).In base->base.Ns mainGlobals mg->Ql l.prog w (K w.params) mg base dG k fa fd [x] (SI (K w.params) 1 F))
 (h:∀ns:List Int,ns.length<=63->∃h',F [.lst (ns.map Dt.int)] []=some (.bl true,h')):PySem.W.WalkO q loose XP YP l.row.toRowW d [] (fun f vs=>PySem.call f vs):=
 L2.Qt (n:=63) (k:=k) (x:=x) (CX:=fun _=>dG) (sp:=fun w=>SI (K w.params) 1 F) hn (by decide) hdf hr hY hF (fun w H a ns hl _ hS=>Kf h H a ns hl hS) fun _ _ _ _ _ z=>z
end SM
namespace L2
section
variable{X:Cx}
theorem VY:∀{bs:List Bool}{us:List Value},Vals (bs.map V.bl) us->∀(i:Nat)(v:Value),us[i]?=some v->v=.bool (bs.getD i false)
 | [],us,r,i,v,e=>by cases r;simp at e
 | b::bs,us,r,i,v,e=>by
  cases r with
  | cons r rr=>
   cases i with
   | zero=>simp at e;subst e;exact r
   | succ i=>simpa using VY rr i v (by simpa using e)
end
end L2
namespace SM
noncomputable def uF:List Dt->Option (List Bool)
 | []=>some []
 | .bl b::ds=>(uF ds).map fun bs=>b::bs
 | _::_=>none
theorem QS:∀{ds:List Dt}{bs:List Bool},uF ds=some bs->ds=bs.map Dt.bl
 | [],bs,e=>by simp only[uF]at e;cases e;rfl
 | d::ds,bs,e=>by
  cases d with
  | bl b=>
   simp only[uF]at e;cases q:uF ds with
   | none=>rw[q]at e;cases e
   | some cs=>rw[q]at e;cases e;rw[QS q];rfl
  | _=>simp only[uF]at e<;>cases e
theorem jm.zbr{K:Frag}{H:Hp}{ρ:Rg}:∀{bs:List Bool}{vs:List V},jm K H ρ (bs.map Dt.bl) vs->vs=bs.map V.bl
 | [],_,h=>h.Jl
 | n::ns,_,h=>by obtain⟨v,r,rfl,h1,h2⟩:=jm.Jm h;simp only[zm]at h1;rw[h1,jm.zbr h2];rfl
section
variable{X:Cx}{e:Expr}{f:RE}{p pos:Pos}
end
noncomputable def zI:Nat->List Dt->List Dt
 | _,[]=>[]
 | k,x::xs=>.tup [.int (k:Int),x]::zI (k+1) xs
noncomputable def dF(i j:Nat):RG:=fun d l=>match d with
 | .tup [a,b]=>some ((l.set i (some a)).set j (some b))
 | _=>none
end SM
namespace L2
section
variable{X:Cx}{pins:List (Addr×Obj)}{σ:List (Option V)}{H:Hp}{s:Shared}{h':Heap}
theorem Inv.zbV{t':Nat}{e it p:Addr}{xs:List V}(I:Inv X pins σ H s)(k:∀b o,b≠e->b≠it->s.heap.get? b=some o->h'.get? b=some o)(fe:iF X pins H e)(fi:iF X pins H it)(hp:s.heap.objs.size<=p)
 (new:Xm X.prog X.w (KB H p (.tup xs)) h' p (.tup xs)):Inv X pins σ (KB H p (.tup xs)) { s with heap:=h',toks:=t' }:=by
 obtain⟨e0,e1,e2,e3,e4,e5⟩:=fe;obtain⟨i0,i1,i2,i3,i4,i5⟩:=fi;have hn:H p=none:=I.hok.fresh hp;have ne:∀b u,H b=some u->b≠e:=fun b u q z=>by rw[z,e0]at q;cases q
 have ni:∀b u,H b=some u->b≠it:=fun b u q z=>by rw[z,i0]at q;cases q
 have nc:∀{b},b ∉ [e,it]->b≠e/\b≠it:=fun hc=>⟨fun z=>hc (by simp[z]),fun z=>hc (by simp[z])⟩
 refine I.step (g':=s.gens) (d':=s.drawn) (ch:=[e,it]) (fun b hb=>?_) (fun b o _ _ hc q _=>k b o (nc hc).1 (nc hc).2 q) (fun b o _ _ hc q _=>⟨o.slots,k b o (nc hc).1 (nc hc).2 q⟩)
  (fun b o _ q n=>by rw[cB (Nat.ne_of_lt (Nat.lt_of_lt_of_le (Heap.lt_size q) hp))];exact n)
  (fun b o hc q=>⟨o,k b o (nc hc).1 (nc hc).2 q⟩) (fun b ys q=>by rw[cB (mD q hn)];exact q) (fun b o u q=>by rw[cB (mD q hn)];exact q)
  (fun b ps q=>⟨#[],by rw[cB (mD q hn),q];simp⟩) (fun m hm=>?_) (fun b u q=>?_) I.bare
 · have z:b=e\/b=it:=by simpa using hb
   rcases z with rfl | rfl
   · exact⟨e3,e1,e4,e5⟩
   · exact⟨i3,i1,i4,i5⟩
 · obtain⟨o,es,ep,ho,r⟩:=hm;exact⟨o,es,ep,k _ o (Ne.symm e1) (Ne.symm i1) ho,r⟩
 · by_cases hb:b=p
   · subst hb;rw[SC]at q;cases q;exact new
   · rw[cB hb]at q;refine(I.hok b u q).stay (fun c v hc q'=>?_) (fun c q=>by rw[cB (mD q hn)];exact q) fun c ys q=>by rw[cB (mD q hn)];exact q
     rcases hc with z | z
     · subst z;exact k c v (ne c u q) (ni c u q) q'
     · exact k c v (ne c _ z) (ni c _ z) q'
theorem Inv.zbF{t':Nat}{e it:Addr}(I:Inv X pins σ H s)(k:∀b o,b≠e->b≠it->s.heap.get? b=some o->h'.get? b=some o)(fe:iF X pins H e)(fi:iF X pins H it):Inv X pins σ H { s with heap:=h',toks:=t' }:=by
 obtain⟨e0,e1,e2,e3,e4,e5⟩:=fe;obtain⟨i0,i1,i2,i3,i4,i5⟩:=fi;have ne:∀b u,H b=some u->b≠e:=fun b u q z=>by rw[z,e0]at q;cases q
 have ni:∀b u,H b=some u->b≠it:=fun b u q z=>by rw[z,i0]at q;cases q
 have nc:∀{b},b ∉ [e,it]->b≠e/\b≠it:=fun hc=>⟨fun z=>hc (by simp[z]),fun z=>hc (by simp[z])⟩
 refine I.step (g':=s.gens) (d':=s.drawn) (ch:=[e,it]) (fun b hb=>?_) (fun b o _ _ hc q _=>k b o (nc hc).1 (nc hc).2 q) (fun b o _ _ hc q _=>⟨o.slots,k b o (nc hc).1 (nc hc).2 q⟩)
  (fun b o _ q n=>n) (fun b o hc q=>⟨o,k b o (nc hc).1 (nc hc).2 q⟩) (fun b ys q=>q) (fun b o u q=>q)
  (fun b ps q=>⟨#[],by rw[q];simp⟩) (fun m hm=>?_) (fun b u q=>?_) I.bare
 · have z:b=e\/b=it:=by simpa using hb
   rcases z with rfl | rfl
   · exact⟨e3,e1,e4,e5⟩
   · exact⟨i3,i1,i4,i5⟩
 · obtain⟨o,es,ep,ho,r⟩:=hm;exact⟨o,es,ep,k _ o (Ne.symm e1) (Ne.symm i1) ho,r⟩
 · refine(I.hok b u q).stay (fun c v hc q'=>?_) (fun c q=>q) fun c ys q=>q
   rcases hc with z | z
   · subst z;exact k c v (ne c u q) (ni c u q) q'
   · exact k c v (ne c _ z) (ni c _ z) q'
end
def Wf(K:Frag)(a:Addr):It:=
 ⟨fun i H=>∃xs x,yp K H a xs/\xs[i]?=some x,fun i H x H'=>∃p y,H p=none/\x=.ref p/\(∀xs,yp K H a xs->xs[i]?=some y)/\H'=KB H p (.tup [.int (i:Nat),y]),fun i H=>∃xs,yp K H a xs/\xs.length<=i⟩
theorem Dz{P:Program}{w:World}{K:Frag}{elts:List Expr}{x1}{pos:Pos}(a e it:Addr)(hne:e≠it):TH P w K (.Tuple elts x1 pos) (Wf K a) [e,it] e (fun i h=>(∃old,IsEnum h e it i old)/\h.IsListIter it a i) where
 mem:=by simp
 obj:=fun i h st b hb=>by
  obtain⟨⟨old,s1⟩,s2⟩:=st;have z:b=e\/b=it:=by simpa using hb
  rcases z with rfl | rfl
  · exact⟨_,s1,fun v z=>by cases z⟩
  · obtain⟨o,e,c,d⟩:=s2;exact⟨o,e,fun v z=>by rw[d]at z;cases z⟩
 keep:=fun i h h' st k=>by obtain⟨⟨old,s1⟩,s2⟩:=st;exact⟨⟨old,k e (by simp) _ s1⟩,s2.at fun o e=>k it (by simp) o e⟩
 item:=by
  intro X hP hw hK hc i pins s σ H E I hf st hg;subst hP hw hK;obtain⟨⟨old,s1⟩,s2⟩:=st;obtain⟨xs,x,hq,hx⟩:=hg;obtain⟨its,rv,p,hz⟩:=I.list hq;obtain⟨u,hu,ru⟩:=rv.get hx;have fe:=hf e (by simp);have fi:=hf it (by simp);refine wpAny_pyNext_enum_item s1 s2 p.isList (x:=u) (by simpa using hu) hne fun h' out it' tup sz kp=>?_
  refine⟨_,rfl,wpAny_letOwnedTupleGo_enum out fun h2 he2 sb=>?_⟩;have hpe:s.heap.objs.size≠e:=(Nat.ne_of_lt (Heap.lt_size s1)).symm;have hpi:s.heap.objs.size≠it:=by obtain⟨o,q,_⟩:=s2;exact(Nat.ne_of_lt (Heap.lt_size q)).symm
  have t2:h2.get? s.heap.objs.size=some { cls:=.type "tuple",data:=.seq #[.int i s.toks,u] }:=(sb.2 _ hpe).trans tup;refine⟨.ref s.heap.objs.size,KB H s.heap.objs.size (.tup [.int (i:Nat),x]),I.zbV (fun b o h1 h3 q=>(sb.2 b h1).trans (kp b o h1 h3 q)) fe fi (zf1 _) ⟨by simp only[zfO,zfP];rw[sizeLine_eq];decide,[.int i s.toks,u],.cons ⟨_,rfl⟩ (.cons ru .nil),⟨_,t2,rfl,_,rfl⟩⟩,rfl,⟨_,x,I.hok.fresh (zf1 _),rfl,fun ys hy=>by rw[I.zaw hy hq];exact hx,rfl⟩,⟨⟨_,he2⟩,it'.at fun o q=>(sb.2 it (Ne.symm hne)).trans q⟩,fun b hb=>?_⟩;have z:b=e\/b=it:=by simpa using hb
  rcases z with rfl | rfl
  · rw[cB (Ne.symm hpe)];exact fe.1
  · rw[cB (Ne.symm hpi)];exact fi.1
 done:=by intro X hP hw hK hc i pins s σ H E I hf st hg;subst hP hw hK;obtain⟨⟨old,s1⟩,s2⟩:=st;obtain⟨xs,hq,hx⟩:=hg;obtain⟨its,rv,p,hz⟩:=I.list hq;have hl:=rv.length;exact wpAny_pyNext_enum_end (I.ok.hd hc) s1 s2 p.isList (by simp;omega) fun h' eb=>⟨rfl,I.zbF (t':=s.toks) (fun b o _ h3 q=>eb b o h3 q) (hf e (by simp)) (hf it (by simp))⟩
 self:=fun _ _ _ _ _ st h=>by obtain⟨⟨old,s1⟩,_⟩:=st;exact wpAny_pyIter_enum s1 h
section
variable{X:Cx}
def F3(K:Frag)(ta:TA):TI:=fun σ H R=>ta σ H fun vs H1=>∃a,vs=[.ref a]/\(∃xs,yp K H1 a xs)/\R (Wf K a) H1
theorem Jk {elts:List Expr} {x1} {tp:Pos} {a:Expr} {ta:TA} {p pos:Pos} (hg:Gl X "enumerate") (hm:X.mg "enumerate" =none) (ha:PA X [a] ta) (hs:starEach [a] X.env=[(false,eval a X.env)]:=by rfl) :
 PI X (.Tuple elts x1 tp) (.Call (.Name "enumerate" p) [a] [] pos) (F3 X.K ta):=by
 intro pins s σ H R I h;refine Call_ (EH I hg hm boot_enumerate (PyProof.Rows.callWith_type1 (HB (ha pos pins s σ H _ I h) fun us s1 zz=>?_) hs rfl));obtain⟨vs,H1,I1,r1,q1⟩:=zz;obtain⟨b,e,⟨xs,hq⟩,q⟩:=q1;subst e;cases r1 with
 | cons r rr=>
  cases rr;cases r;obtain⟨its,rv,pl,hz⟩:=I1.list hq;refine call_enumerate_list pl.isList fun h' he hit hsz k=>?_
  have I2:Inv X pins σ H1 { s1 with heap:=h' }:=I1.kept (t':=s1.toks) k;refine wpAny_pyIter_enum he ?_;refine⟨s1.heap.objs.size+1,[s1.heap.objs.size+1,s1.heap.objs.size],_,_,H1,rfl,I2,Dz b (s1.heap.objs.size+1) s1.heap.objs.size (Nat.succ_ne_self _),⟨⟨_,he⟩,hit⟩,fun c hc=>?_,q⟩;have z:c=s1.heap.objs.size+1\/c=s1.heap.objs.size:=by simpa using hc
  rcases z with rfl | rfl
  · exact I1.za0 (Nat.le_succ _) (I1.hok.fresh (Nat.le_succ _))
  · exact I1.za0 (zf1 _) (I1.hok.fresh (zf1 _))
end
end L2
namespace SM
theorem KW:∀(xs:List Dt)(k i:Nat),(zI k xs)[i]?=(xs[i]?).map fun x=>.tup [.int ((k+i:Nat):Int),x]
 | [],_,_=>by simp[zI]
 | x::xs,k,0=>by simp[zI]
 | x::xs,k,i+1=>by
  simp only[zI,zfN];rw[KW xs (k+1) i];have:k+1+i=k+(i+1):=by omega
  rw[this]
section
variable{X:Cx}
theorem ST(i j:Nat){x y:Str}{px py pos:Pos}{x1}(hc:X.calm=true)(hN:X.N.Nodup)(hi:X.N[i]?=some x:=by rfl)(hj:X.N[j]?=some y:=by rfl)
 (hx:bK X.env.scope x:=by first | exact Or.inl rfl | exact Or.inr rfl) (hy:bK X.env.scope y:=by first | exact Or.inl rfl | exact Or.inr rfl)
 (hf:X.fn x=true\/X.env.scope.names.lookup x=some .local:=by first | exact .inl rfl | exact .inr rfl | assumption)
 (hf':X.fn y=true\/X.env.scope.names.lookup y=some .local:=by first | exact .inl rfl | exact .inr rfl | assumption):GM X (.Tuple [.Name x px,.Name y py] x1 pos) (dF i j):=by
 with_unfolding_all
  refine PG.imp (CZ (n:=2) hc (cL (vJ hN hi hx hf) (cL (vJ hN hj hy hf') MY))) fun v σ H Q zz=>?_
  obtain⟨ρ,l,h,d,l',S,L,R,e,k⟩:=zz;unfold dF at e;split at e
  · cases e;obtain⟨a,vs,rfl,q,r⟩:=Dm.mp R;obtain⟨v1,r1,rfl,R1,r⟩:=r.Jm;obtain⟨v2,r2,rfl,R2,r⟩:=r.Jm;cases r.Jl;exact⟨a,[v1,v2],rfl,q.sq,rfl,v1,[v2],rfl,v2,[],rfl,rfl,k _ ((L.set i R1).set j R2)⟩
  · cases e
end
def yI(fe fo fi:RE):RS:=fun l h=>(fe l h).bind fun v=>(fo l v.2).bind fun o=>(fi l o.2).bind fun i=>match o.1,i.1 with
 | .ref n,.int k=>match i.2[n]? with
  | some (.lst xs)=>(QI xs.length k).bind fun j=>some (.nx l (i.2.set n (.lst (xs.set j v.1))))
  | _=>none
 | _,_=>none
noncomputable def QP(g:RG)(fe:RE):RS:=fun l h=>(fe l h).bind fun v=>(g v.1 l).bind fun l'=>some (.nx l' v.2)
noncomputable def UO(i j k:Nat):RG:=fun d l=>match d with
 | .tup [a,b,c]=>some (((l.set i (some a)).set j (some b)).set k (some c))
 | _=>none
noncomputable def KG(d:Dt)(k:Int):List Dt:=List.replicate k.toNat d
def XI(fa fb:RE):RE:=fun l h=>(fa l h).bind fun a=>(fb l a.2).bind fun k=>match k.1 with
 | .int i=>if -(2^62)<=i/\i<=1000000 then some (.lst (KG a.1 i),k.2)else none
 | _=>none
def PJ(fa fb:RE):RE:=fun l h=>(fa l h).bind fun a=>(fb l a.2).bind fun k=>match k.1 with
 | .int i=>if -(2^62)<=i/\i<=1000000 then some (.ref k.2.length,k.2++[.lst (KG a.1 i)])else none
 | _=>none
def VL:Dt->HI->Option (Dt×HI):=fun d h=>(TB h d).bind fun xs=>(uF xs).map fun bs=>(.bl (bs.any id),h)
noncomputable def ID(f:Dt->Option Dt):List Dt->Option (List Dt)
 | []=>some []
 | x::xs=>(f x).bind fun y=>(ID f xs).map fun ys=>y::ys
def PB(h:HI):Nat->Dt->Option Dt
 | 0,_=>none
 | n+1,.tup xs=>(ID (PB h n) xs).map .tup
 | n+1,.lst xs=>(ID (PB h n) xs).map .lst
 | n+1,.ref k=>match h[k]? with | some (.lst xs)=>(ID (PB h n) xs).map .lst | _=>none
 | _+1,.Ip _=>none
 | _+1,d=>some d
def oK:TD:=fun a b h=>(PB h 8 a).bind fun a'=>(PB h 8 b).bind fun b'=>(IB a' b' []).map fun r=>(r.1,h)
def aI:TD:=fun a b h=>(PB h 8 a).bind fun a'=>(PB h 8 b).bind fun b'=>(kE a' b' []).map fun r=>(r.1,h)
noncomputable def bG(t:RT)(body:RS):Nat->RS
 | 0,_,_=>none
 | n+1,l,h=>(t l h).bind fun c=>if c.1=true then(body l c.2).bind fun r=>match r with
  | .nx l' h'=>bG t body n l' h'
  | .ct l' h'=>bG t body n l' h'
  | .bk l' h'=>some (.nx l' h')
  | .rt d h'=>some (.rt d h')
  else some (.nx l c.2)
def zO(n:Nat)(t:RT)(body:RS):RS:=fun l h=>bG t body n l h
noncomputable def pI(fo fa:RE):RE:=fun l h=>(fo l h).bind fun r=>match r.1 with
 | .ref n=>match r.2[n]? with
  | some (.lst _)=>(fa l r.2).bind fun q=>match q.1 with
   | .ref m=>match q.2[n]?,q.2[m]? with
    | some (.lst xs),some (.lst ys)=>if xs.length+ys.length<=sizeLine then some (.non,q.2.set n (.lst (xs++ys)))else none
    | _,_=>none
   | _=>none
  | _=>none
 | _=>none
noncomputable def FO(fo fa:RE):RE:=fun l h=>(fo l h).bind fun r=>match r.1 with
 | .ref n=>match r.2[n]? with
  | some (.lst _)=>(fa l r.2).bind fun q=>match q.1 with
   | .int 0=>match q.2[n]? with
    | some (.lst (x::xs))=>some (x,q.2.set n (.lst xs))
    | _=>none
   | _=>none
  | _=>none
 | _=>none
noncomputable def kP(F:Dt->Dt->Option Dt)(fa fb:RE):RE:=fun l h=>(fa l h).bind fun r=>(fb l r.2).bind fun q=>(F r.1 q.1).map fun d=>(d,q.2)
noncomputable def IL:Dt->Dt->Option Dt:=fun a b=>match a,b with | .int i,.int j=>some (.int (if j>i then j else i)) | _,_=>none
noncomputable def QJ:Dt->Dt->Option Dt:=fun a b=>match a,b with | .int i,.int j=>some (.int (if j<i then j else i)) | _,_=>none
noncomputable def mO(fo fi fe:RE):RE:=fun l h=>(fo l h).bind fun r=>match r.1 with
 | .ref n=>match r.2[n]? with
  | some (.lst _)=>(fi l r.2).bind fun i=>(fe l i.2).bind fun q=>match i.1,q.2[n]? with
   | .int k,some (.lst xs)=>if 0<=k/\k<=1000000/\xs.length<sizeLine then some (.non,q.2.set n (.lst (xs.take k.toNat++q.1::xs.drop k.toNat)))else none
   | _,_=>none
  | _=>none
 | _=>none
noncomputable def nM(f:RE):RE:=fun l h=>(f l h).bind fun r=>match r.1 with | .int i=>some (.int (Builtin.bitNot i),r.2) | _=>none
end SM
namespace L2
section
variable{X:Cx}
theorem Fx(bs:List Bool):(List.range bs.length).any (fun i=>bs.getD i false)=bs.any id:=by
 induction bs with
 | nil=>rfl
 | cons b bs ih=>
  rw[zfO,range_succ_eq_map,any_cons,any_map,any_cons];have:((fun i=>(b::bs).getD i false) ∘ Nat.succ)=fun i=>bs.getD i false:=by
   funext i
   simp
  rw[this,ih];simp
theorem M9 (hc:X.calm=true):Hl X (.builtin "any") (fun xs H Q=>∃(p:Addr) (bs:List Bool),xs=[.ref p]/\yp X.K H p (bs.map V.bl)/\Q (.bl (bs.any id)) H):=by
 intro pins s σ H xs us Q I r h;obtain⟨p,bs,rfl,hq,q⟩:=h;obtain⟨u,rfl,rx⟩:=cG r;cases rx;obtain⟨its,r',pl,hz⟩:=I.list hq;have hlt:p<s.heap.objs.size:=by obtain⟨_,e,_⟩:=pl.isList;exact Heap.lt_size e
 refine call_any_walk (wpAny_pyIter_list pl.isList ?_);refine⟨_,_,_,_,_,_,fun i=>bs.getD i false,rfl,Walks.list (A:=X.A.in1) (I.ok.hd hc) s.heap.objs.size p (Nat.ne_of_lt hlt) its.toArray,⟨⟨_,Heap.get?_push_size _ rfl,rfl,rfl⟩,pl.isList.push _⟩,?_,fun h' tk k=>?_⟩
 · intro i v s2 Q2 E2 hv hQ;have e:=VY r' i v (by simpa using hv);subst e;exact wpAny_truthy_bool hQ
 · have hl:=r'.length;have e:(List.range its.toArray.size).any (fun i=>bs.getD i false)=bs.any id:=by rw[show its.toArray.size=bs.length by simp at hl ⊢;omega,Fx]
   rw[e];exact⟨.bl (bs.any id),H,I.kept (old_kept k),rfl,q⟩
end
section
variable{X:Cx}{pins:List (Addr×Obj)}{σ:List (Option V)}{H:Hp}{s:Shared}{h':Heap}
theorem Inv.zck{t':Nat}{fp:List Addr}{p:Addr}{xs:List V}(I:Inv X pins σ H s)(k:∀b o,b∉fp->s.heap.get? b=some o->h'.get? b=some o)(ff:∀b∈fp,iF X pins H b)(hp:s.heap.objs.size<=p)
 (new:Xm X.prog X.w (KB H p (.tup xs)) h' p (.tup xs)):Inv X pins σ (KB H p (.tup xs)) { s with heap:=h',toks:=t' }:=by
 have hn:H p=none:=I.hok.fresh hp;have nt:∀b u,H b=some u->b∉fp:=fun b u q z=>by rw[(ff b z).1]at q;cases q
 refine I.step (g':=s.gens) (d':=s.drawn) (ch:=fp) (fun b hb=>?_) (fun b o _ _ hc q _=>k b o hc q) (fun b o _ _ hc q _=>⟨o.slots,k b o hc q⟩)
  (fun b o _ q n=>by rw[cB (Nat.ne_of_lt (Nat.lt_of_lt_of_le (Heap.lt_size q) hp))];exact n)
  (fun b o hc q=>⟨o,k b o hc q⟩) (fun b ys q=>by rw[cB (mD q hn)];exact q) (fun b o u q=>by rw[cB (mD q hn)];exact q)
  (fun b ps q=>⟨#[],by rw[cB (mD q hn),q];simp⟩) (fun m hm=>?_) (fun b u q=>?_) I.bare
 · obtain⟨e0,e1,e2,e3,e4,e5⟩:=ff b hb;exact⟨e3,e1,e4,e5⟩
 · obtain⟨o,es,ep,ho,r⟩:=hm;exact⟨o,es,ep,k _ o (fun z=>(ff _ z).2.1 rfl) ho,r⟩
 · by_cases hb:b=p
   · subst hb;rw[SC]at q;cases q;exact new
   · rw[cB hb]at q;refine(I.hok b u q).stay (fun c v hc q'=>?_) (fun c q=>by rw[cB (mD q hn)];exact q) fun c ys q=>by rw[cB (mD q hn)];exact q
     rcases hc with z | z
     · subst z;exact k c v (nt c u q) q'
     · exact k c v (nt c _ z) q'
theorem Inv.zbG{t':Nat}{fp:List Addr}(I:Inv X pins σ H s)(k:∀b o,b∉fp->s.heap.get? b=some o->h'.get? b=some o)(ff:∀b∈fp,iF X pins H b):Inv X pins σ H { s with heap:=h',toks:=t' }:=by
 have nt:∀b u,H b=some u->b∉fp:=fun b u q z=>by rw[(ff b z).1]at q;cases q
 refine I.step (g':=s.gens) (d':=s.drawn) (ch:=fp) (fun b hb=>?_) (fun b o _ _ hc q _=>k b o hc q) (fun b o _ _ hc q _=>⟨o.slots,k b o hc q⟩)
  (fun b o _ q n=>n) (fun b o hc q=>⟨o,k b o hc q⟩) (fun b ys q=>q) (fun b o u q=>q)
  (fun b ps q=>⟨#[],by rw[q];simp⟩) (fun m hm=>?_) (fun b u q=>?_) I.bare
 · obtain⟨e0,e1,e2,e3,e4,e5⟩:=ff b hb;exact⟨e3,e1,e4,e5⟩
 · obtain⟨o,es,ep,ho,r⟩:=hm;exact⟨o,es,ep,k _ o (fun z=>(ff _ z).2.1 rfl) ho,r⟩
 · refine(I.hok b u q).stay (fun c v hc q'=>?_) (fun c q=>q) fun c ys q=>q
   rcases hc with z | z
   · subst z;exact k c v (nt c u q) q'
   · exact k c v (nt c _ z) q'
end
section
variable{X:Cx}
end
end L2
namespace SM
section
variable{X:Cx}{e o i a b:Expr}{f g fe fo fi fa fb:RE}{p pos pos':Pos}
theorem Jh (hc:X.calm=true) (hg:Gl X "any") (hm:X.mg "any" =none) (ha:EM X e f) (hs:xB e=true:=by rfl):EM X (.Call (.Name "any" p) [e] [] pos) (VC VL f):=by
 with_unfolding_all
  exact HL (M9 hc) (fun ρ h d v d' h' H Q S R e k=>by
   obtain⟨xs,e1,e⟩:=xA e;cases q:uF xs with
   | none=>rw[q]at e;cases e
   | some ns=>
    rw[q]at e;cases e;obtain⟨a,vs,z,sq,r⟩:=VF S R e1;rw[QS q]at r;rw[r.zbr]at sq;exact⟨a,ns,by rw[z],sq,k ρ _ H (Am.mpr rfl) S (Ext.refl _ _)⟩) hg hm PyProof.Rows.boot_any ha (hs:=hs)
theorem YN(he:EM X e fe)(ho:EM X o fo)(hi:EM X i fi)
 (hs:swapsWithSole [.Subscript o i pos'] e pos.line X.env=pure false:=by rfl) (hw:swappedStores [.Subscript o i pos'] e X.env=pure none:=by rfl) (h1:(assignEach [.Subscript o i pos'] X.env).map (·.2)=[assign (.Subscript o i pos') X.env]:=by rfl)
 (ha:∀v,assign (.Subscript o i pos') X.env v=(do
  let ov <- holding [v] (eval o X.env)
  let iv <- holding [v,ov] (eval i X.env)
  standAt pos'
  holding [v,ov,iv] (setItem ov iv v)
  release [v,ov,iv] []):=by intro _;rfl):ZM X (.Assign [.Subscript o i pos'] e pos) (yI fe fo fi):=by
 with_unfolding_all
  exact PS.imp (DZ he (Vr ho hi Tw ha) hs hw h1) fun D σ H zz=>by
   obtain⟨ρ,l,h,r,S,L,e,k⟩:=zz;obtain⟨⟨v,hv⟩,e1,e⟩:=xA e;obtain⟨⟨d,hd⟩,e2,e⟩:=xA e;obtain⟨⟨j,hj⟩,e3,e⟩:=xA e;refine⟨ρ,l,h,v,hv,S,L,e1,fun ρ1 u H1 R1 S1 E1=>⟨ρ1,l,hv,d,hd,S1,L.ext E1,e2,fun ρ2 y H2 R2 S2 E2=>⟨ρ2,l,hd,j,hj,S2,L.ext (E1.trans E2),e3,fun ρ3 z H3 R3 S3 E3=>?_⟩⟩⟩;cases d with
   | ref n=>
    cases j with
    | int kk=>
     dsimp only at e;split at e
     · rename_i xs q;obtain⟨jj,e4,e⟩:=xA e;cases e;obtain⟨aa,zz,ha⟩:=Gm.mp (zm.ext E3 _ R2);obtain⟨vs,g1,g2⟩:=S3.lst ha q;have hm:=mem_of_getElem? ha;refine⟨aa,vs,kk,jj,zz,qm.mp R3,g1,by rw[g2.length];exact e4,?_⟩;exact k ρ3 σ _ (S3.write ha (AG g1) ⟨_,SC,(g2.set jj (zm.ext (E2.trans E3) _ R1)).ext (Ext.write hm (AG g1))⟩) (L.ext (E1.trans (E2.trans (E3.trans (Ext.write hm (AG g1)))))) (E1.trans (E2.trans (E3.trans (Ext.write hm (AG g1)))))
     · cases e
    | _=>cases e
   | _=>cases e
theorem Wg{tg:Expr}{t:RG}(he:EM X e fe)(hg:GM X tg t)(hs:swapsWithSole [tg] e pos.line X.env=pure false:=by rfl)(hw:swappedStores [tg] e X.env=pure none:=by rfl)
 (h1:(assignEach [tg] X.env).map (·.2)=[assign tg X.env]:=by rfl):ZM X (.Assign [tg] e pos) (QP t fe):=by
 with_unfolding_all exact PS.imp (DZ he hg hs hw h1) fun D σ H zz=>by obtain⟨ρ,l,h,r,S,L,e,k⟩:=zz;obtain⟨⟨v,hv⟩,e1,e⟩:=xA e;obtain⟨l',e2,e⟩:=xA e;cases e;exact⟨ρ,l,h,v,hv,S,L,e1,fun ρ1 u H1 R1 S1 E1=>⟨ρ1,l,hv,v,l',S1,L.ext E1,R1,e2,fun σ' L'=>k ρ1 σ' H1 S1 L' E1⟩⟩
theorem Rv(i j m:Nat){x y z:Str}{px py pz pos:Pos}{x1}(hc:X.calm=true)(hN:X.N.Nodup)(hi:X.N[i]?=some x:=by rfl)(hj:X.N[j]?=some y:=by rfl)(hm:X.N[m]?=some z:=by rfl)
 (hx:bK X.env.scope x:=by first | exact Or.inl rfl | exact Or.inr rfl) (hy:bK X.env.scope y:=by first | exact Or.inl rfl | exact Or.inr rfl) (hz:bK X.env.scope z:=by first | exact Or.inl rfl | exact Or.inr rfl)
 (hf:X.fn x=true\/X.env.scope.names.lookup x=some .local:=by first | exact .inl rfl | exact .inr rfl | assumption)
 (hf':X.fn y=true\/X.env.scope.names.lookup y=some .local:=by first | exact .inl rfl | exact .inr rfl | assumption)
 (hf2:X.fn z=true\/X.env.scope.names.lookup z=some .local:=by first | exact .inl rfl | exact .inr rfl | assumption):GM X (.Tuple [.Name x px,.Name y py,.Name z pz] x1 pos) (UO i j m):=by
 with_unfolding_all
  refine PG.imp (CZ (n:=3) hc (cL (vJ hN hi hx hf) (cL (vJ hN hj hy hf') (cL (vJ hN hm hz hf2) MY)))) fun v σ H Q zz=>?_
  obtain⟨ρ,l,h,d,l',S,L,R,e,k⟩:=zz;unfold UO at e;split at e
  · cases e;obtain⟨a,vs,rfl,q,r⟩:=Dm.mp R;obtain⟨v1,r1,rfl,R1,r⟩:=r.Jm;obtain⟨v2,r2,rfl,R2,r⟩:=r.Jm;obtain⟨v3,r3,rfl,R3,r⟩:=r.Jm;cases r.Jl;exact⟨a,[v1,v2,v3],rfl,q.sq,rfl,v1,[v2,v3],rfl,v2,[v3],rfl,v3,[],rfl,rfl,k _ (((L.set i R1).set j R2).set m R3)⟩
  · cases e
theorem sX{α:Type}(v:α):∀k:Nat,(List.replicate k [v]).flatten=List.replicate k v
 | 0=>rfl
 | k+1=>by rw[replicate_succ,flatten_cons,sX v k];rfl
theorem SY{K:Frag}{H:Hp}{ρ:Rg}{d:Dt}{v:V}(r:zm K H ρ d v):∀k:Nat,jm K H ρ (List.replicate k d) (List.replicate k v)
 | 0=>.nil
 | k+1=>.cons r (SY r k)
theorem dY{σ:L2.St}{H:Hp}{Q:VK}(own:Bool)(h:tM X.K (if own=true then PJ fa fb else XI fa fb) σ H Q):wV tV (vV (u0 (tM X.K fa) ZP)) (tM X.K fb) σ H Q:=by
 obtain⟨ρ,l,h,d,h',S,L,e,k⟩:=h;have e0:∃d1 h1 d2 h2 i,fa l h=some (d1,h1)/\fb l h1=some (d2,h2)/\d2=.int i/\(-(2^62)<=i/\i<=1000000)/\(if own=true then(Dt.ref h2.length,h2++[.lst (KG d1 i)])else(Dt.lst (KG d1 i),h2))=(d,h'):=by
  cases own with
  | true=>
   rw[if_pos rfl]at e;obtain⟨⟨d1,h1⟩,e1,e⟩:=xA e;obtain⟨⟨d2,h2⟩,e2,e⟩:=xA e;cases d2 with
   | int i=>obtain⟨c,e⟩:=FE e;exact⟨d1,h1,_,h2,i,e1,e2,rfl,c,e⟩
   | _=>cases e
  | false=>
   rw[if_neg zf0]at e;obtain⟨⟨d1,h1⟩,e1,e⟩:=xA e;obtain⟨⟨d2,h2⟩,e2,e⟩:=xA e;cases d2 with
   | int i=>obtain⟨c,e⟩:=FE e;exact⟨d1,h1,_,h2,i,e1,e2,rfl,c,e⟩
   | _=>cases e
 obtain⟨d1,h1,d2,h2,i,e1,e2,rfl,c,ed⟩:=e0;refine⟨ρ,l,h,d1,h1,S,L,e1,fun ρ1 v H1 R1 S1 E1=>⟨by simp only[zfO,zfP];rw[sizeLine_eq];decide,fun q hq=>?_⟩⟩;refine⟨ρ1,l,h1,.int i,h2,S1.fresh hq,L.ext (E1.trans (Ext.fresh hq)),e2,fun ρ2 y H2 R2 S2 E2=>?_⟩;have hk:=E2.keep q _ SC (S1.out hq).1;have hi:i.toNat<=1000000:=by omega
 refine⟨q,i,[v],rfl,qm.mp R2,hk,by omega,by omega,by simp only[zfO,zfP];rw[sizeLine_eq];omega,fun q2 hq2=>?_⟩;rw[sX];have RR:jm X.K H2 ρ2 (KG d1 i) (List.replicate i.toNat v):=SY (zm.ext ((Ext.fresh hq).trans E2) _ R1) _;have EE:=E1.trans ((Ext.fresh hq).trans E2);cases own with
 | true=>rw[if_pos rfl]at ed;cases ed;exact k _ _ _ (FH S2 RR hq2).1 (FH S2 RR hq2).2 (EE.trans (Ext.own hq2))
 | false=>rw[if_neg zf0]at ed;cases ed;exact k ρ2 _ _ (KO S2 RR hq2) (S2.fresh hq2) (EE.trans (Ext.fresh hq2))
theorem oZ(ha:EM X a fa)(hb:EM X b fb)(hs:xB a=true:=by rfl):EM X (.BinOp (.List [a] p) .Mult b pos) (XI fa fb):=by with_unfolding_all exact PE.imp (HU aZ (xO (TC ha fE (jB hs _ _))) hb) fun σ H Q h=>dY (fa:=fa) (fb:=fb) false h
theorem RX(ha:EM X a fa)(hb:EM X b fb)(hs:xB a=true:=by rfl):EM X (.BinOp (.List [a] p) .Mult b pos) (PJ fa fb):=by with_unfolding_all exact PE.imp (HU aZ (xO (TC ha fE (jB hs _ _))) hb) fun σ H Q h=>dY (fa:=fa) (fb:=fb) true h
end
section
variable{K:Frag}{H:Hp}{ρ:Rg}{h:HI}
theorem Em.bare(S:Em K ρ h H):Em K ⟨[],ρ.z⟩ [] H:=⟨nodup_nil,rfl,fun _ _ _ e=>by simp at e,fun a ha=>⟨by simp,(S.zt a ha).2⟩⟩
theorem VN{f:Dt->Option Dt}(hf:∀d d' v,f d=some d'->zm K H ρ d v->zm K H ⟨[],ρ.z⟩ d' v):∀(xs:List Dt){ys:List Dt}{vs:List V},ID f xs=some ys->jm K H ρ xs vs->jm K H ⟨[],ρ.z⟩ ys vs
 | [],ys,vs,e,r=>by cases e;rw[r.Jl];exact .nil
 | x::xs,ys,vs,e,r=>by
  obtain⟨v,rr,rfl,r1,r2⟩:=r.Jm;obtain⟨y,e1,e⟩:=xA (show(f x).bind _=some ys from e);cases q:ID f xs with
  | none=>rw[q]at e;cases e
  | some zs=>rw[q]at e;cases e;exact .cons (hf _ _ _ e1 r1) (VN hf xs q r2)
theorem TupAt.bare{a:Addr}{vs:List V}(t:TupAt K H ρ a vs):TupAt K H ⟨[],ρ.z⟩ a vs:=by
 rcases t with⟨n,t⟩ | t
 · exact .inl ⟨⟨by simp,n.2⟩,t⟩
 · exact .inr t
theorem LstAt.bare{a:Addr}{vs:List V}(t:LstAt K H ρ a vs):LstAt K H ⟨[],ρ.z⟩ a vs:=by
 rcases t with⟨n,t⟩ | t
 · exact .inl ⟨⟨by simp,n.2⟩,t⟩
 · exact .inr t
theorem dL(S:Em K ρ h H):∀(n:Nat)(d d':Dt)(v:V),PB h n d=some d'->zm K H ρ d v->zm K H ⟨[],ρ.z⟩ d' v
 | 0,_,_,_,e,_=>by simp[PB]at e
 | n+1,.non,_,_,e,r=>by simp only[PB]at e;cases e;simp only[zm]at r ⊢;exact r
 | n+1,.bl _,_,_,e,r=>by simp only[PB]at e;cases e;simp only[zm]at r ⊢;exact r
 | n+1,.int _,_,_,e,r=>by simp only[PB]at e;cases e;simp only[zm]at r ⊢;exact r
 | n+1,.str _,_,_,e,r=>by simp only[PB]at e;cases e;simp only[zm]at r ⊢;exact r
 | n+1,.tup xs,_,_,e,r=>by
  simp only[PB]at e;cases q:ID (PB h n) xs with
  | none=>rw[q]at e;cases e
  | some ys=>rw[q]at e;cases e;obtain⟨a,vs,z,t,rr⟩:=Dm.mp r;exact Dm.mpr ⟨a,vs,z,t.bare,VN (fun d d' v=>dL S n d d' v) xs q rr⟩
 | n+1,.lst xs,_,_,e,r=>by
  simp only[PB]at e;cases q:ID (PB h n) xs with
  | none=>rw[q]at e;cases e
  | some ys=>rw[q]at e;cases e;obtain⟨a,vs,z,t,rr⟩:=Cm.mp r;exact Cm.mpr ⟨a,vs,z,t.bare,VN (fun d d' v=>dL S n d d' v) xs q rr⟩
 | n+1,.Ip m,_,_,e,r=>by simp only[PB]at e;cases e
 | n+1,.ref m,_,_,e,r=>by
  simp only[PB]at e;split at e
  · rename_i xs q0;cases q:ID (PB h n) xs with
    | none=>rw[q]at e;cases e
    | some ys=>rw[q]at e;cases e;obtain⟨a,z,ha⟩:=Gm.mp r;obtain⟨vs,g1,g2⟩:=S.lst ha q0;refine Cm.mpr ⟨a,vs,z,.inl ⟨⟨by simp,fun hz=>(S.zt a hz).1 (mem_of_getElem? ha)⟩,.inl g1⟩,VN (fun d d' v=>dL S n d d' v) xs q g2⟩
  · cases e
theorem Em.grown{H':Hp}(S:Em K ρ h H)(g:∀a o,H a=some o->H' a=some o):Em K ρ h H':=by
 have sm:Kl ρ ρ H H':=⟨fun _ _ _ n=>n,fun a u e _=>g a u e,fun _ _ e=>e,fun a q u e=>g a _ e⟩;refine⟨S.nd,S.len,fun n a o e1 e2=>?_,fun a ha=>?_⟩
 · have q:=S.ob n a o e1 e2;obtain⟨u,hu⟩:=q.some;exact zat.same sm ((g a u hu).trans hu.symm) q
 · obtain⟨n,o,e⟩:=S.zt a ha;exact⟨n,o,g a _ e⟩
end
section
variable{X:Cx}
theorem ZY{f:Value->Value->Sem Value}{op:TD}(hb:∀a b h d h',op a b h=some (d,h')->∃k,d=.bl k)(ho:OM X f op):OM X f (fun a b h=>(PB h 8 a).bind fun a'=>(PB h 8 b).bind fun b'=>(op a' b' []).map fun r=>(r.1,h)):=by
 with_unfolding_all
  exact vp.imp ho fun x y H Q zz=>by
   obtain⟨ρ,h,d1,d2,d,h',S,R1,R2,e,k⟩:=zz;obtain⟨a',e1,e⟩:=xA e;obtain⟨b',e2,e⟩:=xA e;cases q:op a' b' []with
   | none=>rw[q]at e;cases e
   | some r=>
    obtain⟨r,hr⟩:=r;rw[q]at e;cases e;refine⟨⟨[],ρ.z⟩,[],a',b',r,hr,S.bare,dL S _ _ _ _ e1 R1,dL S _ _ _ _ e2 R2,q,fun ρ' v H' R' S' E'=>?_⟩;obtain⟨kk,rfl⟩:=hb _ _ _ _ _ q;have g:∀a o,H a=some o->H' a=some o:=fun a o ha=>E'.keep a o ha (by simp)
    exact k ρ v H' (Am.mpr (Am.mp R')) (S.grown g) ⟨⟨[],by simp,by simp⟩,rfl,fun a o ha _=>g a o ha,E'.live,fun a q u e=>g a _ e⟩
theorem Mg(a b:Dt)(h:HI)(d:Dt)(h':HI)(e:IB a b h=some (d,h')):∃k,d=.bl k:=by
 unfold IB at e;split at e
 · obtain⟨_,e⟩:=FE e;cases e;exact⟨_,rfl⟩
 · obtain⟨_,e⟩:=FE e;cases e;exact⟨_,rfl⟩
 · unfold K1 at e;split at e
   · obtain⟨_,e⟩:=FE e;cases e;exact⟨_,rfl⟩
   · cases e
theorem Mf(a b:Dt)(h:HI)(d:Dt)(h':HI)(e:kE a b h=some (d,h')):∃k,d=.bl k:=by
 unfold kE at e;split at e
 · obtain⟨_,e⟩:=FE e;cases e;exact⟨_,rfl⟩
 · obtain⟨_,e⟩:=FE e;cases e;exact⟨_,rfl⟩
 · unfold L1 at e;split at e
   · obtain⟨_,e⟩:=FE e;cases e;exact⟨_,rfl⟩
   · cases e
theorem Rf(hu:X.A.units+64<cLine):OM X (compareOp .Eq) oK:=ZY Mg (JC hu)
theorem YY(hu:X.A.units+64<cLine):OM X (compareOp .NotEq) aI:=ZY Mf (GH hu)
end
section
variable{X:Cx}{e o i a b:Expr}{f g fe fo fi fa fb:RE}{p pos pos' apos cpos:Pos}
theorem wN (ho:EM X a fa) (hb:EM X b fb) (hbase:attributeBase a "extend" X.env (eval a X.env)=eval a X.env:=by rfl)
 (hline:(apos.endLine==cpos.line)=true:=by rfl) (hs:xB b=true:=by rfl) :
 EM X (.Call (.Attribute a "extend" apos) [b] [] cpos) (pI fa fb):=by
 with_unfolding_all
  exact PE.imp (VJ PySem.F.plainAttrs_list PySem.F.slot_list_extend PySem.F.type_list_extend Bq ho (TC hb fE (jB hs _ _)) hbase (iL hs) hline (jB hs _ _)) fun σ H Q zz=>by
   obtain⟨ρ,l,h,d,h',S,L,e,k⟩:=zz;obtain⟨⟨d1,h1⟩,e1,e⟩:=xA e;refine⟨ρ,l,h,d1,h1,S,L,e1,fun ρ1 v H1 R1 S1 E1=>?_⟩;cases d1 with
   | ref n=>
    dsimp only at e;split at e
    · rename_i xs0 q0;obtain⟨⟨d2,h2⟩,e2,e⟩:=xA e;refine⟨JO S1 R1 q0,ρ1,l,h1,d2,h2,S1,L.ext E1,e2,fun ρ2 y H2 R2 S2 E2=>?_⟩;dsimp only at e;cases d2 with
      | ref m=>
       dsimp only at e;split at e
       · rename_i xs ys q1 q2;obtain⟨hz,e⟩:=FE e;cases e;obtain⟨a,z,ha⟩:=Gm.mp R1;subst z;obtain⟨a2,z2,ha2'⟩:=Gm.mp R2;subst z2;have ha2:=E2.get ha;obtain⟨vs,g1,g2⟩:=S2.lst ha2 q1;obtain⟨ws,g3,g4⟩:=S2.lst ha2' q2;have hm:=mem_of_getElem? ha2;refine⟨a,a2,vs,ws,rfl,rfl,g1,g3,by rw[g2.length,g4.length];exact hz,k ρ2 _ _ (Km.mpr rfl) (S2.write ha2 (AG g1) ⟨_,SC,?_⟩) (E1.trans (E2.trans (Ext.write hm (AG g1))))⟩;exact(g2.append g4).ext (Ext.write hm (AG g1))
       · cases e
      | _=>cases e
    · cases e
   | _=>cases e
theorem Ov (ho:EM X a fa) (hb:EM X b fb) (hbase:attributeBase a "pop" X.env (eval a X.env)=eval a X.env:=by rfl)
 (hline:(apos.endLine==cpos.line)=true:=by rfl) (hs:xB b=true:=by rfl) :
 EM X (.Call (.Attribute a "pop" apos) [b] [] cpos) (FO fa fb):=by
 with_unfolding_all
  exact PE.imp (VJ PySem.F.plainAttrs_list PySem.F.slot_list_pop PySem.F.type_list_pop Nz ho (TC hb fE (jB hs _ _)) hbase (iL hs) hline (jB hs _ _)) fun σ H Q zz=>by
   obtain⟨ρ,l,h,d,h',S,L,e,k⟩:=zz;obtain⟨⟨d1,h1⟩,e1,e⟩:=xA e;refine⟨ρ,l,h,d1,h1,S,L,e1,fun ρ1 v H1 R1 S1 E1=>?_⟩;cases d1 with
   | ref n=>
    dsimp only at e;split at e
    · rename_i xs0 q0;obtain⟨⟨d2,h2⟩,e2,e⟩:=xA e;refine⟨JO S1 R1 q0,ρ1,l,h1,d2,h2,S1,L.ext E1,e2,fun ρ2 y H2 R2 S2 E2=>?_⟩;dsimp only at e;split at e
      · rename_i z0;split at e
        · rename_i x xs q1;cases e;obtain⟨a,z,ha⟩:=Gm.mp R1;subst z;have ha2:=E2.get ha;obtain⟨vs,g1,g2⟩:=S2.lst ha2 q1;have hm:=mem_of_getElem? ha2;obtain⟨v0,vr,rfl,r0,rr⟩:=g2.Jm;have hlt:=S2.len;refine⟨a,v0::vr,0,0,v0,rfl,by rw[qm.mp R2],g1,by decide,by decide,?_,rfl,k ρ2 _ _ (zm.ext (Ext.write hm (AG g1)) _ r0) (S2.write ha2 (AG g1) ⟨_,SC,?_⟩) (E1.trans (E2.trans (Ext.write hm (AG g1))))⟩
          · rw[seqIndex_of (by decide) (by simp only[zfO];omega)];rfl
          · exact rr.ext (Ext.write hm (AG g1))
        · cases e
      · cases e
    · cases e
   | _=>cases e
theorem Kh(ha:EM X a fa):EM X (.UnaryOp .Invert a pos) (nM fa):=by
 with_unfolding_all
  exact PE.imp (RZ u6 ha) fun σ H Q zz=>by
   obtain⟨ρ,l,h,d,h',S,L,e,k⟩:=zz;obtain⟨⟨d1,h1⟩,e1,e⟩:=xA e;refine⟨ρ,l,h,d1,h1,S,L,e1,fun ρ1 x H1 R1 S1 E1=>?_⟩;cases d1 with
   | int i=>cases e;exact⟨i,qm.mp R1,k ρ1 _ H1 (qm.mpr rfl) S1 E1⟩
   | _=>cases e
theorem TX{c:Expr}{body:List Stmt}{t:RT}{u:RS}{n:Nat}(hp:PassesOwn (model X.prog X.w) X.A X.env X.xe)(hc:TM X c t)(hb:UH X body u):ZM X (.While c body [] pos) (zO n t u):=by
 with_unfolding_all
  exact PS.imp (Iv hp hc hb) fun D σ H zz=>by
   obtain⟨ρ,l,h,r,S,L,e,k⟩:=zz;refine⟨fun m σ' H'=>∃ρ' l' h',Em X.K ρ' h' H'/\Fl X.K H' ρ' l' σ'/\Ext ρ ρ' H H'/\bG t u m l' h'=some r,⟨n,ρ,l,h,S,L,Ext.refl _ _,e⟩,?_⟩;rintro m σ' H' ⟨ρ',l',h',S',L',E',e'⟩;cases m with
   | zero=>simp only[bG]at e';cases e'
   | succ m=>
    simp only[bG]at e';obtain⟨⟨b,h1⟩,e1,e'⟩:=xA e';refine⟨ρ',l',h',b,h1,S',L',e1,fun ρ2 H2 S2 E2=>?_⟩;cases b with
    | true=>
     rw[if_pos rfl]at e';obtain⟨r1,e2,e'⟩:=xA e';refine oH ⟨fun σ3 H3=>∃m',m'<m+1/\∃ρ' l' h',Em X.K ρ' h' H3/\Fl X.K H3 ρ' l' σ3/\Ext ρ ρ' H H3/\bG t u m' l' h'=some r,fun σ3 H3 q=>q,ρ2,l',h1,r1,S2,L'.ext E2,e2,?_⟩;cases r1 with
     | nx l2 h2=>exact fun ρ5 σ5 H5 S5 L5 E5=>⟨m,Nat.lt_succ_self _,ρ5,l2,h2,S5,L5,E'.trans (E2.trans E5),e'⟩
     | ct l2 h2=>exact fun ρ5 σ5 H5 S5 L5 E5=>⟨m,Nat.lt_succ_self _,ρ5,l2,h2,S5,L5,E'.trans (E2.trans E5),e'⟩
     | bk l2 h2=>cases e';exact fun ρ5 σ5 H5 S5 L5 E5=>k ρ5 σ5 H5 S5 L5 (E'.trans (E2.trans E5))
     | rt d2 h2=>cases e';exact fun ρ5 v5 H5 R5 S5 E5=>k ρ5 v5 H5 R5 S5 (E'.trans (E2.trans E5))
    | false=>rw[if_neg zf0]at e';cases e';exact nH (k ρ2 σ' H2 S2 (L'.ext E2) (E'.trans E2))
theorem QX (hc:X.calm=true) (hg:Gl X "max") (hm:X.mg "max" =none) (ha:EM X a fa) (hb:EM X b fb) (hs:xB a=true:=by rfl) (hs2:xB b=true:=by rfl):EM X (.Call (.Name "max" p) [a,b] [] pos) (kP IL fa fb):=by
 with_unfolding_all
  exact PE.imp (ZN (O9 hc) hg hm PyProof.Rows.boot_max (TC ha (TC hb fE (jB hs2 _ _)) (jB hs _ _)) (he:=jB hs _ _) (hpl:=uI (by rw[all_cons,hs2];rfl))) fun σ H Q zz=>by
   obtain⟨ρ,l,h,d,h',S,L,e,k⟩:=zz;obtain⟨⟨d1,h1⟩,e1,e⟩:=xA e;obtain⟨⟨d2,h2⟩,e2,e⟩:=xA e;refine⟨ρ,l,h,d1,h1,S,L,e1,fun ρ1 v H1 R1 S1 E1=>⟨ρ1,l,h1,d2,h2,S1,L.ext E1,e2,fun ρ2 u H2 R2 S2 E2=>?_⟩⟩;cases d1 with
   | int i=>
    cases d2 with
    | int j=>cases e;exact⟨i,j,by rw[qm.mp R1,qm.mp R2],k ρ2 _ H2 (qm.mpr rfl) S2 (E1.trans E2)⟩
    | _=>cases e
   | _=>cases e
theorem yg (hc:X.calm=true) (hg:Gl X "min") (hm:X.mg "min" =none) (ha:EM X a fa) (hb:EM X b fb) (hs:xB a=true:=by rfl) (hs2:xB b=true:=by rfl):EM X (.Call (.Name "min" p) [a,b] [] pos) (kP QJ fa fb):=by
 with_unfolding_all
  exact PE.imp (ZN (Q9 hc) hg hm PyProof.Rows.boot_min (TC ha (TC hb fE (jB hs2 _ _)) (jB hs _ _)) (he:=jB hs _ _) (hpl:=uI (by rw[all_cons,hs2];rfl))) fun σ H Q zz=>by
   obtain⟨ρ,l,h,d,h',S,L,e,k⟩:=zz;obtain⟨⟨d1,h1⟩,e1,e⟩:=xA e;obtain⟨⟨d2,h2⟩,e2,e⟩:=xA e;refine⟨ρ,l,h,d1,h1,S,L,e1,fun ρ1 v H1 R1 S1 E1=>⟨ρ1,l,h1,d2,h2,S1,L.ext E1,e2,fun ρ2 u H2 R2 S2 E2=>?_⟩⟩;cases d1 with
   | int i=>
    cases d2 with
    | int j=>cases e;exact⟨i,j,by rw[qm.mp R1,qm.mp R2],k ρ2 _ H2 (qm.mpr rfl) S2 (E1.trans E2)⟩
    | _=>cases e
   | _=>cases e
end
end SM
namespace L2
section
variable{X:Cx}
def Zh:V->List V->Hp->VK->Prop:=fun x vs H Q=>∃(l:Addr)(xs:List V)(i:Int)(y:V),x=.ref l/\vs=[.int i,y]/\H l=some (.lst xs)/\0<=i/\i<=1000000/\xs.length<sizeLine/\Q .non (KB H l (.lst (xs.take i.toNat++y::xs.drop i.toNat)))
theorem Af(its:List Value)(w:Value)(i:Int)(h0:0<=i):((fun xs:Array Value=>have k:=if i<0 then(i+(xs.size:Int)).toNat else min i.toNat xs.size;(xs.extract 0 k).push w++xs.extract k) its.toArray)=(its.take i.toNat++w::its.drop i.toNat).toArray:=by
 have hneg:¬(i<0):=by omega
 simp only[if_neg hneg,size_toArray];have e1:its.toArray.extract 0 (min i.toNat its.length)=(its.take i.toNat).toArray:=by simp[take_eq_take_iff]
 have e2:its.toArray.extract (min i.toNat its.length) its.length=(its.drop i.toNat).toArray:=by
  by_cases hh:i.toNat<=its.length
  · rw[Nat.min_eq_left hh];have:List.take (its.length-i.toNat) (List.drop i.toNat its)=List.drop i.toNat its:=take_of_length_le (by rw[length_drop];exact zf1 _);simp[this]
  · rw[Nat.min_eq_right (by omega),drop_eq_nil_of_le (by omega)];simp
 rw[e1,e2];simp
theorem Cq:W0 X "list.insert" Zh:=by intro pins s σ H x vs v us Q I rx rv h;obtain⟨l,xs,i,y,rfl,rfl,hH,h0,hk,hz,q⟩:=h;cases rx;obtain⟨u,w,rfl,ru,rw'⟩:=rv.two;obtain⟨t,rfl⟩:=ru;obtain⟨z,its,n,r,hl,e⟩:=I.za2 hH;have hfit:Builtin.List.listFitsIndex i=true:=fitsIndex_both (by omega) (by omega);refine call_meets F.slot_list_insert ⟨_,e,rfl⟩ F.entry_list_insert (F.args_list_insert_3 _ _ _) (AutoSeq1.list_insert_list_int_val_1 l its.toArray n i t w (by simp[hfit]) (by rw[size_toArray];omega)) ⟨e,?_⟩;refine⟨.non,_,I.zbC (its':=its.take i.toNat++w::its.drop i.toNat) hH e (Af its w i h0) ((r.take i.toNat).append (.cons rw' (r.drop i.toNat))) ?_,rfl,q⟩;rw[length_append,zfO,length_take,length_drop];omega
end
end L2
namespace SM
section
variable{X:Cx}{e o i a b:Expr}{f g fe fo fi fa fb:RE}{p pos pos' apos cpos:Pos}
theorem Pq (ho:EM X a fa) (hi:EM X i fi) (hb:EM X b fb) (hbase:attributeBase a "insert" X.env (eval a X.env)=eval a X.env:=by rfl)
 (hline:(apos.endLine==cpos.line)=true:=by rfl) (hs:xB i=true:=by rfl) (hs2:xB b=true:=by rfl) :
 EM X (.Call (.Attribute a "insert" apos) [i,b] [] cpos) (mO fa fi fb):=by
 with_unfolding_all
  exact PE.imp (VJ PySem.F.plainAttrs_list PySem.F.slot_list_insert PySem.F.type_list_insert Cq ho (TC hi (TC hb fE (jB hs2 _ _)) (jB hs _ _)) hbase (by rw[jB hs,jB hs2];rfl) hline (jB hs _ _) (uI (by rw[all_cons,hs2];rfl))) fun σ H Q zz=>by
   obtain⟨ρ,l,h,d,h',S,L,e,k⟩:=zz;obtain⟨⟨d1,h1⟩,e1,e⟩:=xA e;refine⟨ρ,l,h,d1,h1,S,L,e1,fun ρ1 v H1 R1 S1 E1=>?_⟩;cases d1 with
   | ref n=>
    dsimp only at e;split at e
    · rename_i xs0 q0;obtain⟨⟨d2,h2⟩,e2,e⟩:=xA e;obtain⟨⟨d3,h3⟩,e3,e⟩:=xA e;refine⟨JO S1 R1 q0,ρ1,l,h1,d2,h2,S1,L.ext E1,e2,fun ρ2 y H2 R2 S2 E2=>⟨ρ2,l,h2,d3,h3,S2,L.ext (E1.trans E2),e3,fun ρ3 z H3 R3 S3 E3=>?_⟩⟩;cases d2 with
      | int kk=>
       dsimp only at e;cases q1:h3[n]? with
       | none=>rw[q1]at e;cases e
       | some ob=>
        rw[q1]at e;cases ob with
        | lst xs=>obtain⟨⟨c1,c2,c3⟩,e⟩:=FE e;cases e;obtain⟨a,z0,ha⟩:=Gm.mp R1;subst z0;have ha2:=(E2.trans E3).get ha;obtain⟨vs,g1,g2⟩:=S3.lst ha2 q1;have hm:=mem_of_getElem? ha2;refine⟨a,vs,kk,z,rfl,by rw[qm.mp R2],g1,c1,c2,by rw[g2.length];exact c3,k ρ3 _ _ (Km.mpr rfl) (S3.write ha2 (AG g1) ⟨_,SC,?_⟩) (E1.trans (E2.trans (E3.trans (Ext.write hm (AG g1)))))⟩;exact((g2.take _).append (.cons R3 (g2.drop _))).ext (Ext.write hm (AG g1))
        | _=>cases e
      | _=>cases e
    · cases e
   | _=>cases e
end
end SM
namespace L2
section
variable{κ:Type}[DecidableEq κ]
noncomputable def lF(kvs:List (κ×V))(k:κ):Option V:=(kvs.find? fun kv=>decide (kv.1=k)).map (·.2)
noncomputable def CF(kvs:List (κ×V))(k:κ)(v:V):List (κ×V):=
 if(kvs.any fun kv=>decide (kv.1=k))=true then kvs.map (fun kv=>if kv.1=k then(kv.1,v)else kv)else kvs++[(k,v)]
noncomputable def Q0(kvs:List (κ×V))(k:κ):List (κ×V):=kvs.filter fun kv=>decide (kv.1≠k)
theorem iO{p:κ×V}{r:List (κ×V)}{k:κ}(e:p.1=k):lF (p::r) k=some p.2:=by simp[lF,find?_cons,e]
theorem gO{p:κ×V}{r:List (κ×V)}{k:κ}(e:¬p.1=k):lF (p::r) k=lF r k:=by simp[lF,find?_cons,e]
theorem mY(k:κ):∀kvs:List (κ×V),(kvs.any fun kv=>decide (kv.1=k))=(lF kvs k).isSome
 | []=>rfl
 | p::r=>by
  rw[any_cons];by_cases e:p.1=k
  · simp only[iO e,decide_eq_true e,Bool.true_or,Option.isSome_some]
  · rw[gO e,decide_eq_false e,Bool.false_or];exact mY k r
theorem WV(kvs:List (κ×V))(k:κ)(v:V):(CF kvs k v).length<=kvs.length+1:=by
 unfold CF;split
 · rw[length_map];omega
 · rw[length_append,zfO,zfP];omega
theorem Tp.za1{o:Option V}{u:Option Value}(r:Tp o u):o.isSome=u.isSome:=by
 cases o with
 | none=>cases u with
  | none=>rfl
  | some _=>exact(show False from r).elim
 | some _=>cases u with
  | none=>exact(show False from r).elim
  | some _=>rfl
theorem Tp.getD{o:Option V}{u:Option Value}{d:V}{d':Value}(r:Tp o u)(rd:RelV d d'):RelV (o.getD d) (u.getD d'):=by
 cases o with
 | none=>cases u with
  | none=>exact rd
  | some _=>exact(show False from r).elim
 | some _=>cases u with
  | none=>exact(show False from r).elim
  | some _=>exact r
theorem KV.val{kvs:List (κ×V)}{vs:List (κ×Value)}(r:KV kvs vs)(k:κ):Tp (lF kvs k) (valueAt vs k):=by
 unfold KV at r
 induction r with
 | nil=>exact True.intro
 | @cons p q ps qs h t ih=>
  obtain⟨h1,h2⟩:=h;by_cases e:p.1=k
  · have e':q.1=k:=h1.symm.trans e;have b:valueAt (q::qs) k=some q.2:=by simp[valueAt,find?_cons,e']
    rw[iO e,b];exact h2
  · have e':¬q.1=k:=fun z=>e (h1.trans z)
    have b:valueAt (q::qs) k=valueAt qs k:=by simp[valueAt,find?_cons,e']
    rw[gO e,b];exact ih
theorem KV.any{kvs:List (κ×V)}{vs:List (κ×Value)}(r:KV kvs vs)(k:κ):(kvs.any fun kv=>decide (kv.1=k))=vs.any fun kv=>decide (kv.1=k):=by
 unfold KV at r
 induction r with
 | nil=>rfl
 | cons h t ih=>rw[any_cons,any_cons,ih,h.1]
theorem KV.repl{kvs:List (κ×V)}{vs:List (κ×Value)}(r:KV kvs vs)(k:κ){y:V}{u:Value}(ry:RelV y u) :
 KV (kvs.map fun kv=>if kv.1=k then(kv.1,y)else kv) (vs.map fun kv=>if kv.1=k then(kv.1,u)else kv):=by
 unfold KV at r ⊢
 induction r with
 | nil=>exact .nil
 | @cons p q ps qs h t ih=>
  rw[zfQ,zfQ];refine .cons ?_ ih;obtain⟨h1,h2⟩:=h;by_cases e:p.1=k
  · rw[if_pos e,if_pos (h1.symm.trans e)];exact⟨h1,ry⟩
  · rw[if_neg e,if_neg (fun z=>e (h1.trans z))];exact⟨h1,h2⟩
theorem KV.put{kvs:List (κ×V)}{vs:List (κ×Value)}(r:KV kvs vs)(k:κ){y:V}{u:Value}(ry:RelV y u):KV (CF kvs k y) (stored vs k u):=by
 unfold CF stored;rw[r.any k];by_cases e:(vs.any fun kv=>decide (kv.1=k))=true
 · rw[if_pos e,if_pos e];exact r.repl k ry
 · rw[if_neg e,if_neg e];exact Paired.snoc r ⟨rfl,ry⟩
theorem KV.drop{kvs:List (κ×V)}{vs:List (κ×Value)}(r:KV kvs vs)(k:κ):KV (Q0 kvs k) (without vs k):=by
 unfold KV at r ⊢;unfold Q0 without
 induction r with
 | nil=>exact .nil
 | @cons p q ps qs h t ih=>
  obtain⟨h1,h2⟩:=h;rw[filter_cons,filter_cons];by_cases e:p.1=k
  · have a:¬decide (p.1≠k)=true:=by simp[e]
    have b:¬decide (q.1≠k)=true:=by simp[h1.symm.trans e]
    rw[if_neg a,if_neg b];exact ih
  · have e':¬q.1=k:=fun z=>e (h1.trans z)
    have a:decide (p.1≠k)=true:=by simp[e]
    have b:decide (q.1≠k)=true:=by simp[e']
    rw[if_pos a,if_pos b];exact .cons ⟨h1,h2⟩ ih
theorem KV.keys{kvs:List (κ×V)}{vs:List (κ×Value)}(r:KV kvs vs):kvs.map (·.1)=vs.map (·.1):=by
 unfold KV at r
 induction r with
 | nil=>rfl
 | cons h t ih=>rw[zfQ,zfQ,ih,h.1]
theorem KV.length{kvs:List (κ×V)}{vs:List (κ×Value)}(r:KV kvs vs):kvs.length=vs.length:=Paired.length r
end
theorem oU{P:Program}{w:World}{k:nC}{u:Value}(r:RelV (kV k) u):(DE P w).is k u=true:=by
 cases k with
 | inl i=>obtain⟨t,e⟩:=(show ∃t,u=Value.int i t from r);subst e;exact W8 P w i t
 | inr x=>obtain⟨t,e⟩:=(show ∃t,u=Value.str x t from r);subst e;exact X8 P w x t
theorem oW{P:Program}{w:World}:∀{ks:List nC}{us:List Value},Vals (ks.map kV) us->ItemsAre (DE P w) ks us
 | [],_,r=>by rw[zfR]at r;cases r;exact .nil
 | k::ks,_,r=>by
  rw[zfQ]at r;cases r with
  | cons h t=>exact .cons (oU h) (oW t)
abbrev KT(H:Hp):List (List nC×V)->List (List nC×Addr×Value)->Prop:=Paired fun p q=>p.1=q.1/\H q.2.1=some (.tup (p.1.map kV))/\RelV p.2 q.2.2
theorem KT.val{H:Hp}{kvs:List (List nC×V)}{xs:List (List nC×Addr×Value)}(r:KT H kvs xs)(k:List nC):Tp (lF kvs k) ((atKey xs k).map (·.2)):=by
 induction r with
 | nil=>exact True.intro
 | @cons p q ps qs h t ih=>
  obtain⟨h1,_,h2⟩:=h;by_cases e:p.1=k
  · have e':q.1=k:=h1.symm.trans e;have b:atKey (q::qs) k=some q.2:=by simp[atKey,find?_cons,e']
    rw[iO e,b];exact h2
  · have e':¬q.1=k:=fun z=>e (h1.trans z)
    have b:atKey (q::qs) k=atKey qs k:=by simp[atKey,find?_cons,e']
    rw[gO e,b];exact ih
theorem KT.repl{H:Hp}{kvs:List (List nC×V)}{xs:List (List nC×Addr×Value)}(r:KT H kvs xs)(k:List nC){y:V}{u:Value}(ry:RelV y u) :
 KT H (kvs.map fun kv=>if kv.1=k then(kv.1,y)else kv) (xs.map (putAt k u)):=by
 induction r with
 | nil=>exact .nil
 | @cons p q ps qs h t ih=>
  rw[zfQ,zfQ];refine .cons ?_ ih;obtain⟨h1,h2,h3⟩:=h;unfold putAt;by_cases e:p.1=k
  · rw[if_pos e,if_pos (h1.symm.trans e)];exact⟨h1,h2,ry⟩
  · rw[if_neg e,if_neg (fun z=>e (h1.trans z))];exact⟨h1,h2,h3⟩
theorem KT.put{H:Hp}{kvs:List (List nC×V)}{xs:List (List nC×Addr×Value)}(r:KT H kvs xs)(k:List nC){b:Addr}{y:V}{u:Value}(hb:H b=some (.tup (k.map kV)))(ry:RelV y u) :
 KT H (CF kvs k y) (storedH xs k b u):=by
 have e:(kvs.any fun kv=>decide (kv.1=k))=(atKey xs k).isSome:=by rw[mY,(r.val k).za1,Option.isSome_map]
 unfold CF storedH;rw[e];by_cases q:(atKey xs k).isSome=true
 · rw[if_pos q,if_pos q];exact r.repl k ry
 · rw[if_neg q,if_neg q];exact Paired.snoc r ⟨rfl,hb,ry⟩
theorem KT.keeps{H H':Hp}{kvs:List (List nC×V)}{xs:List (List nC×Addr×Value)}(r:KT H kvs xs)(ht:∀b ys,H b=some (.tup ys)->H' b=some (.tup ys)):KT H' kvs xs:=
 Paired.zb1 r fun _ _ z=>⟨z.1,ht _ _ z.2.1,z.2.2⟩
section
variable{P:Program}{w:World}{H:Hp}{h:Heap}{a:Addr}
theorem YZ{u:HO}(ok:HOk P w H h)(e:Rd H a u):Xm P w H h a u:=e.ok ok
theorem sU{kvs:List (nC×V)}(ok:HOk P w H h)(e:Rd H a (.dK kvs)):kvs.length<=sizeLine/\(a==sysModules)=false/\∃vs,KV kvs vs/\h.DictOf (DE P w) a vs:=
 show Xm P w H h a (.dK kvs)from YZ ok e
theorem L6{kvs:List (nC×V)}(ok:HOk P w H h)(e:H a=some (.dK kvs)):kvs.length<=sizeLine/\(a==sysModules)=false/\∃vs,KV kvs vs/\h.DictOf (DE P w) a vs:=sU ok (.inl e)
theorem XT{ks:List nC}(ok:HOk P w H h)(e:H a=some (.tup (ks.map kV))):(tupleKind (DE P w)).is h ks a:=by obtain⟨_,its,r,o,h1,h2,n,h3⟩:=(show Xm P w H h a (.tup (ks.map kV))from ok a _ e);exact⟨o,its.toArray,n,h1,h2,h3,by simpa using oW r⟩
theorem tU{kvs:List (List nC×V)}(ok:HOk P w H h)(e:Rd H a (.dT kvs)):kvs.length<=sizeLine/\(a==sysModules)=false/\
 ∃xs,KT H kvs xs/\h.DictOfH (tupleKind (DE P w)) a xs:=by
 obtain⟨z,y,xs,r,o,es,ep,h1,h2,h3,h4,h5⟩:=(show Xm P w H h a (.dT kvs)from YZ ok e);refine⟨z,y,xs,r,o,es,ep,h1,h2,h3,h4,fun x hx=>?_,h5⟩;have all:∀{l:List (List nC×V)}{m:List (List nC×Addr×Value)},KT H l m->∀x∈m,(tupleKind (DE P w)).is h x.1 x.2.1:=by
  intro l m q
  induction q with
  | nil=>intro x hx;exact nomatch hx
  | @cons p q ps qs hq t ih=>
   intro x hx;rcases mem_cons.mp hx with e | hx
   · subst e;exact XT ok (by rw[<- hq.1];exact hq.2.1)
   · exact ih x hx
 exact all r x hx
theorem M6{kvs:List (List nC×V)}(ok:HOk P w H h)(e:H a=some (.dT kvs)):kvs.length<=sizeLine/\(a==sysModules)=false/\
 ∃xs,KT H kvs xs/\h.DictOfH (tupleKind (DE P w)) a xs:=tU ok (.inl e)
end
def zba(H:Hp)(a:Addr)(y:V)(r:Option V):Prop:=
 (∃kvs k,Rd H a (.dK kvs)/\y=kV k/\r=lF kvs k)\/∃kvs k b,Rd H a (.dT kvs)/\y=.ref b/\H b=some (.tup (k.map kV))/\r=lF kvs k
def zbb(H:Hp)(a:Addr)(y v:V)(H':Hp):Prop:=
 (∃kvs k,H a=some (.dK kvs)/\y=kV k/\kvs.length<sizeLine/\H'=KB H a (.dK (CF kvs k v)))\/
 ∃kvs k b,H a=some (.dT kvs)/\y=.ref b/\H b=some (.tup (k.map kV))/\kvs.length<sizeLine/\H'=KB H a (.dT (CF kvs k v))
theorem zba.t{H:Hp}{a b:Addr}{kvs:List (List nC×V)}{k:List nC}(e:H a=some (.dT kvs))(eb:H b=some (.tup (k.map kV))):zba H a (.ref b) (lF kvs k):=.inr ⟨kvs,k,b,.inl e,rfl,eb,rfl⟩
theorem zbb.t{H:Hp}{a b:Addr}{kvs:List (List nC×V)}{k:List nC}{v:V}(e:H a=some (.dT kvs))(eb:H b=some (.tup (k.map kV)))(hl:kvs.length<sizeLine) :
 zbb H a (.ref b) v (KB H a (.dT (CF kvs k v))):=.inr ⟨kvs,k,b,e,rfl,eb,hl,rfl⟩
section
variable{X:Cx}{pins:List (Addr×Obj)}{σ:St}{H:Hp}{s:Shared}{a:Addr}{y v:V}{u r:Value}{o:Option V}{A:Around}{E:Value->Shared->Prop}
theorem Inv.big(I:Inv X pins σ H s):sysModules<s.heap.objs.size:=by have h:mainGlobals<s.heap.objs.size:=(I.mod.glob.keeps I.bk).lt;exact Nat.lt_trans (by decide) h
theorem US{h':Heap}{t':Nat}{ob:HO}(I:Inv X pins σ H s)(mu:SU (H a))(hs:Heap.SameBut a s.heap h')(he:∃q,h'.get? a=some q)(new:Xm X.prog X.w (KB H a ob) h' a ob) :
 Inv X pins σ (KB H a ob) { s with heap:=h',toks:=t' }:=
 I.write (x:=a) (e:=a) mu (.inl rfl) (fun b q hb z=>(hs.2 b hb).trans z) he new
theorem yh{P:Program}{w:World}{H':Hp}{h':Heap}{kvs:List (nC×V)}{vs:List (nC×Value)}(z:kvs.length<=sizeLine)(hd:(a==sysModules)=false)(rel:KV kvs vs)(dd:h'.DictOf (DE P w) a vs) :
 Xm P w H' h' a (.dK kvs):=⟨z,hd,vs,rel,dd⟩
theorem Gq{H':Hp}{Q:Unit->Shared->Prop}(hu:A.units+1<cLine)(I:Inv X pins σ H s)(g:zbb H a y v H')(ry:RelV y u)(rv:RelV v r)(h:∀s',Inv X pins σ H' s'->Q () s') :
 wpAny (model X.prog X.w) A (setItem (.ref a) u r) Q E s:=by
 rcases g with⟨kvs,k,e,ey,l,eH⟩ | ⟨kvs,k,b,e,ey,eb,l,eH⟩
 · subst ey eH;obtain⟨z,hd,vs,rel,dd⟩:=L6 I.hok e;have hz:vs.length<=sizeLine:=by rw[<- rel.length];exact z
   have hl:(CF kvs k v).length<=sizeLine:=by have:=WV kvs k v;omega
   refine wpAny_setItem_pairs (hsz:=hz) (oU ry) dd fun h' dd' hs=>h _ ?_
   have he:∃q,h'.get? a=some q:=let ⟨q,_,_,hq,_⟩:=dd';⟨q,hq⟩
   exact US I (by rw[e];exact True.intro) hs he (yh hl hd (rel.put k rv) dd')
 · subst ey eH;cases (show u=Value.ref b from ry);obtain⟨z,hd,xs,rel,dd⟩:=M6 I.hok e;have hz:xs.length<=sizeLine:=by rw[<- Paired.length rel];exact z
   have hl:(CF kvs k v).length<=sizeLine:=by have:=WV kvs k v;omega
   refine wpAny_setItem_heap (hsz:=hz) (tupleKind_room_in1 hu) (XT I.hok eb) dd fun h' dd' hs=>h _ ?_
   obtain⟨q,es,ep,hq,h2,h3,h4,_,h5⟩:=dd';refine US I (by rw[e];exact True.intro) hs ⟨q,hq⟩ ⟨hl,hd,_,(rel.put k eb rv).keeps fun c ys ec=>?_,q,es,ep,hq,h2,h3,h4,h5⟩;rw[cB (BU ec e (fun z=>nomatch z))];exact ec
end
section
variable{X:Cx}{pins:List (Addr×Obj)}{σ:St}{H:Hp}{s:Shared}{a:Addr}{kvs:List (nC×V)}{k:nC}{u:Value}{A:Around}{E:Value->Shared->Prop}
end
def j5(td ty tv:TE):TS:=fun D σ H=>tv σ H fun v H1=>td σ H1 fun x H2=>ty σ H2 fun y H3=>∃a H4,x=.ref a/\zbb H3 a y v H4/\D.nx σ H4
section
variable{X:Cx}{o i e value:Expr}{pos pos' tpos:Pos}{td ty tv:TE}
theorem Mh(hu:X.A.units+1<cLine)(ho:PE X o td)(hi:PE X i ty)(hv:PE X value tv)(hs:swapsWith value (some (.Subscript o i pos')) pos.line X.env=pure false) :
 PS X (.Assign [.Subscript o i pos'] value pos) (j5 td ty tv):=by
 intro pins s σ H D I h;refine wpAny_Assign_Subscript (HB (hv pins s σ H _ I h) fun r s1 ⟨v,H1,I1,rv,q1⟩=>HB (ho pins s1 σ H1 _ I1 q1) fun u s2 ⟨x,H2,I2,rx,q2⟩=>HB (hi pins s2 σ H2 _ I2 q2) fun iv s3 zz=>?_) hs;obtain⟨y,H3,I3,ry,a,H4,ex,g,q3⟩:=zz;subst ex;obtain rfl:u=Value.ref a:=rx;exact Gq hu I3 g ry rv fun s4 I4=>⟨σ,H4,I4,q3⟩
end
theorem Vq {P:Program} {w:World} {H:Hp} (h:Heap) (hb:sysModules<h.objs.size):Xm P w H (h.push { cls:=.type "dict",data:=.dict #[] }) h.objs.size (.dT []):=
 ⟨Nat.zero_le _,beq_eq_false_iff_ne.mpr (Ne.symm (Nat.ne_of_lt hb)),[],.nil,_,#[],0,Heap.get?_push_size _ rfl,⟨rfl,rfl,rfl⟩,rfl,rfl,nodup_nil⟩
def n6:TE:=fun _ H Q=>∀p,H p=none->Q (.ref p) (KB H p (.dT []))
section
variable{X:Cx}{pos:Pos}
theorem Yz:PE X (.Dict [] [] pos) n6:=fun pins s σ H Q I h=>wpAny_Dict_empty ⟨.ref s.heap.objs.size,_,I.laid (a:=s.heap.objs.size) (o:=.dT []) (t':=s.toks) (fun _ _ q=>Heap.get?_push_of_some _ q) (zf1 _) (Vq s.heap I.big),rfl,h _ (I.hok.fresh (zf1 _))⟩
end
structure M1(X:Cx)(o:Expr)(m:Str)(apos:Pos)(e:Expr)(cpos:Pos):Prop where
 base:attributeBase o m X.env (eval o X.env)=eval o X.env
 few:((backTo cpos (starEach [e] X.env)).all (fun x=>!x.1)&&(backToKw cpos (keywordEach [] X.env)).all (fun x=>x.1.isSome)
  && decide (([e]:List Expr).length+([]:List Keyword).length+(if([]:List Keyword).isEmpty then 0 else 1)<30))=true
 line:(apos.endLine==cpos.line)=true
 trees:backTo cpos (starEach [e] X.env)=[(false,eval e X.env)]
structure M2(X:Cx)(o:Expr)(m:Str)(apos:Pos)(e f:Expr)(cpos:Pos):Prop where
 base:attributeBase o m X.env (eval o X.env)=eval o X.env
 few:((backTo cpos (starEach [e,f] X.env)).all (fun x=>!x.1)&&(backToKw cpos (keywordEach [] X.env)).all (fun x=>x.1.isSome)
  && decide (([e,f]:List Expr).length+([]:List Keyword).length+(if([]:List Keyword).isEmpty then 0 else 1)<30))=true
 line:(apos.endLine==cpos.line)=true
 trees:backTo cpos (starEach [e,f] X.env)=[(false,eval e X.env),(false,eval f X.env)]
def X1(H:Hp)(a:Addr):Prop:=(∃kvs,Rd H a (.dK kvs))\/∃kvs,Rd H a (.dT kvs)
theorem eZ{X:Cx}{pins:List (Addr×Obj)}{σ:St}{H:Hp}{s:Shared}{a:Addr}(I:Inv X pins σ H s)(d:X1 H a) :
 s.TypeIs (.ref a) "dict" /\ (∀b,Value.ref a=.ref b->∃ob,s.heap.get? b=some ob/\ob.dict=none)/\(a==sysModules)=false:=by
 rcases d with⟨kvs,e⟩ | ⟨kvs,e⟩
 · obtain⟨_,hd,vs,_,dd⟩:=sU I.hok e;refine⟨dd.typeIs,fun b q=>?_,hd⟩;cases q;obtain⟨ob,_,_,h1,h2,_⟩:=dd;exact⟨ob,h1,h2.2.1⟩
 · obtain⟨_,hd,xs,_,dd⟩:=tU I.hok e;refine⟨dd.typeIs,fun b q=>?_,hd⟩;cases q;obtain⟨ob,_,_,h1,h2,_⟩:=dd;exact⟨ob,h1,h2.2.1⟩
section
variable{X:Cx}{pins:List (Addr×Obj)}{σ:St}{H:Hp}{s:Shared}{a:Addr}{y d:V}{u r:Value}{o:Option V}{A:Around}{E:Value->Shared->Prop}
theorem vh{Q:Value->Shared->Prop}(hu:A.units+1<cLine)(I:Inv X pins σ H s)(g:zba H a y o)(ry:RelV y u)(rd:RelV d r)(h:∀w' s',Inv X pins σ H s'->RelV (o.getD d) w'->Q w' s') :
 wpAny (model X.prog X.w) A (call (.builtin "dict.get") [.ref a,u,r]) Q E s:=by
 rcases g with⟨kvs,k,e,ey,l⟩ | ⟨kvs,k,b,e,ey,eb,l⟩
 · subst ey;obtain⟨z,hd,vs,rel,dd⟩:=sU I.hok e;refine call_meetsIn PySem.F.slot_dict_get dd.typeIs PySem.F.entry_dict_get (PySem.F.args_dict_get_3 _ _ _) (meets_dict_get_default (DE X.prog X.w) a (oU ry) hd r) ⟨_,dd.mapOf,h _ _ (I.tok _) ?_⟩;rw[l];exact(rel.val k).getD rd
 · subst ey;cases (show u=Value.ref b from ry);obtain⟨z,hd,xs,rel,dd⟩:=tU I.hok e;refine call_meetsIn PySem.F.slot_dict_get dd.typeIs PySem.F.entry_dict_get (PySem.F.args_dict_get_3 _ _ _) (meetsH_dict_get_default (tupleKind (DE X.prog X.w)) a b hd r) ⟨tupleKind_room_in1 hu,k,xs,XT I.hok eb,dd,h _ _ (I.tok _) ?_⟩;rw[l];exact(rel.val k).getD rd
end
def Zt(td ty tx:TE):TE:=fun σ H Q=>td σ H fun x H1=>∃a,x=.ref a/\X1 H1 a/\ty σ H1 fun y H2=>tx σ H2 fun z H3=>∃o,zba H3 a y o/\Q (o.getD z) H3
section
variable{X:Cx}{o e f:Expr}{apos cpos:Pos}{td ty tx:TE}
theorem Xz (hu:X.A.units+1<cLine) (ho:PE X o td) (he:PE X e ty) (hf:PE X f tx) (m:M2 X o "get" apos e f cpos):PE X (.Call (.Attribute o "get" apos) [e,f] [] cpos) (Zt td ty tx):=by
 intro pins s σ H Q I h;refine wpAny_Call_method m.base m.few m.line PySem.F.plainAttrs_dict PySem.F.slot_dict_get PySem.F.type_dict_get (HB (ho pins s σ H _ I h) fun u s1 zz=>?_);obtain⟨x,H1,I1,rx,a,ex,d,q1⟩:=zz;subst ex;obtain rfl:u=Value.ref a:=rx;obtain⟨t1,t2,_⟩:=eZ I1 d;refine⟨t1,t2,?_⟩;rw[m.trees];refine Calls.callWith_builtin rfl (Calls.evalArgs_plain (Calls.spliced_cons (HB (he pins s1 σ H1 _ I1 q1) fun iv s2 ⟨y,H2,I2,ry,q2⟩=>
  Calls.spliced_cons (HB (hf pins s2 σ H2 _ I2 q2) fun fv s3 ⟨z,H3,I3,rz,ov,g,q3⟩=>Calls.spliced_nil ?_))))
 exact vh hu I3 g ry rz fun w' s4 I4 rw'=>⟨_,H3,I4,rw',q3⟩
end
section
variable{X:Cx}{pins:List (Addr×Obj)}{σ:St}{H:Hp}{s:Shared}{a:Addr}{kvs:List (nC×V)}{A:Around}{E:Value->Shared->Prop}
end
section
variable{X:Cx}{pins:List (Addr×Obj)}{σ:St}{H:Hp}{s:Shared}{a:Addr}{y:V}{u:Value}{A:Around}{E:Value->Shared->Prop}
end
section
variable{prog:Program}{w:World}{A:Around}{E:Value->Shared->Prop}{s:Shared}
theorem QN {it:Addr} {R:String->Shared->Prop} (tt:s.TypeIs (.ref it) "dict_itemiterator") (q:R "dict_itemiterator" s) :
 wpAny (model prog w) A (typeNameOfWhole (.ref it)) R E s:=wpAny_typeNameOfWhole_itemiter tt q
theorem iw{d:Addr}{es:Array DictEntry}{ep:Nat}{od:Obj}{v:Addr}{R:Value->Shared->Prop}(gv:s.heap.IsItemsView v d)(gd:s.heap.get? d=some od)(gt:od.data=.dict es ep)
 (q:R (.ref s.heap.objs.size) { s with heap:=s.heap.push { cls:=.type "dict_itemiterator",data:=.fields #[.none,.bool false,.ref d,.int 0 0,.int es.size 0,.int ep 0,.none,.none] } }) :
 wpAny (model prog w) A (pyIter (.ref v)) R E s:=by
 obtain⟨o1,g1,g2,g3⟩:=id gv;refine wpAny_pyIter_slot gv.typeIs F.slot_dict_items_iter (wpAny_call_entry F.slot_dict_items_iter gv.typeIs F.entry_dict_items_iter ?c1 (F.args_dict_items_iter_1 _));unfold Builtin.«dict_items.__iter__»;refine wpAny_bind (wpAny_pure (wpAny_bind ?c2));unfold Builtin.Dict_items.dictOf;refine wpAny_bind (wpAny_field g1 g3 (x:=.ref d) rfl (wpAny_pure (wpAny_bind ?c3)));unfold Builtin.Dict_items.newIterator;refine wpAny_bind (wpAny_dictEntries gd gt (wpAny_bind (wpAny_dictEpoch gd gt ?c4)));have own1:Builtin.Dict_items.ownsTuple "dict_itemiterator" =true:=by decide
 simp only[own1,if_true];refine wpAny_newObj_type (wpAny_pure ⟨_,rfl, "dict_itemiterator",_,⟨_,Heap.get?_push_size _ rfl,rfl⟩,F.slot_dict_itemiterator_next.lookup,?c5⟩) ?c6
 · simpa[rawInt,Builtin.Dict_items.ownedTupleFields]using q
 · simp only[sizeOk,Builtin.Dict_items.ownedTupleFields,size_toArray,length_append,zfO,zfP,sizeLine_eq];omega
theorem dw{it d:Addr}{i ep:Nat}{es:Array DictEntry}{od:Obj}{k0 v0:Value}{R:Option Value->Shared->Prop}
 (gi:IsItemIter s.heap it d i es.size ep k0 v0) (gd:s.heap.get? d=some od) (gt:od.data=.dict es ep) (lt:i<es.size)
 (fin:∀h',IsItemIterOut h' it d (i+1) es.size ep es[i].key es[i].val s.heap.objs.size->
  h'.get? s.heap.objs.size=some { cls:=.type "tuple",data:=.seq #[es[i].key,es[i].val] }->h'.objs.size=s.heap.objs.size+1->
  (∀b o,b≠it->s.heap.get? b=some o->h'.get? b=some o)->R (some (.ref s.heap.objs.size)) { s with heap:=h' }) :
 wpAny (model prog w) A (pyNext (.ref it)) R E s:=by
 obtain⟨G,gg,dr,tk,os⟩:=s;have tt:Shared.TypeIs ⟨G,gg,dr,tk,os⟩ (.ref it) "dict_itemiterator" :=⟨_,gi,rfl⟩;unfold pyNext;refine wpAny_bind (wpAny_attempt (wpAny_callSpecial?_slot (name:=Str.ofString "__next__") tt F.slot_dict_itemiterator_next (wpAny_call_entry F.slot_dict_itemiterator_next tt F.entry_dict_itemiterator_next ?c1 (F.args_dict_itemiterator_next_1 _))));refine wpAny_bind (wpAny_pure (wpAny_bind (wpAny_bind ?c2)))
 first | refine wpAny_bind (QN tt (wpAny_pure ?c3)) | refine wpAny_bind (wpAny_typeNameOf_itemiter tt (wpAny_pure ?c3))
 refine wpAny_bind (wpAny_fieldsOf gi rfl ?c4);have own1:Builtin.Dict_items.ownsTuple "dict_itemiterator" =true:=by decide
 simp only[own1,if_true];show wpAny _ _ (if(Value.ref d==Value.none)=true then _ else _) _ _ _;rw[if_neg (show ¬((Value.ref d==Value.none)=true)from fun z=>zf0 z)];refine wpAny_bind (wpAny_pure (wpAny_bind (wpAny_dictEntries gd gt ?c5)));rw[if_neg (by simp)];refine wpAny_bind (wpAny_pure (wpAny_bind (wpAny_dictEpoch gd gt ?c6)));rw[if_neg (by simp)];refine wpAny_pure ?c7;simp only[show ¬((i:Int)<0)from by omega,if_false,Int.toNat_natCast,Array.getElem?_eq_getElem lt];refine wpAny_bind ?c8
 first | refine wpAny_bind (QN tt (wpAny_pure ?c9)) | refine wpAny_bind (wpAny_typeNameOf_itemiter tt (wpAny_pure ?c9))
 refine wpAny_bind (wpAny_isOneOf_itemiter tt ?c10);show wpAny _ _ (setField (.ref it) 3 (rawInt ((i:Int)+1)) >>=_) _ _ ⟨G,gg,dr,tk,os⟩;refine wpAny_bind (wpAny_setField_rec gi (by simp) fun G1 f1 b1=>?c11)
 replace b1:Heap.SameBut it G G1:=b1
 replace f1:IsItemIter G1 it d (i+1) es.size ep k0 v0:=by
  have z:((i+1:Nat):Int)=(i:Int)+1:=by omega
  unfold IsItemIter;rw[z];simpa[rawInt]using f1
 have tt1:Shared.TypeIs ⟨G1,gg,dr,tk,os⟩ (.ref it) "dict_itemiterator" :=⟨_,f1,rfl⟩;refine wpAny_bind (wpAny_holding (wpAny_bind (wpAny_isOneOf_itemiter tt1 (wpAny_bind (wpAny_isOneOf_itemiter tt1 ?c12)))));show wpAny _ _ (Builtin.Dict_items.pairFromOwner (.ref it) 6 es[i].key es[i].val) _ _ ⟨G1,gg,dr,tk,os⟩;unfold Builtin.Dict_items.pairFromOwner;refine wpAny_bind (wpAny_newTuple ?c13);have f2:IsItemIter (G1.push { cls:=.type "tuple",data:=.seq #[es[i].key,es[i].val] }) it d (i+1) es.size ep k0 v0:=Heap.get?_push_of_some _ f1;generalize eG:G1.push { cls:=.type "tuple",data:=.seq #[es[i].key,es[i].val] }=G2 at f2;have z1:G1.objs.size=G.objs.size:=b1.1;have il:it<G.objs.size:=Heap.lt_size gi;have t2:G2.get? G.objs.size=some { cls:=.type "tuple",data:=.seq #[es[i].key,es[i].val] }:=by rw[<- eG,<- z1];exact Heap.get?_push_size _ rfl
 have z2:G2.objs.size=G.objs.size+1:=by rw[<- eG,Heap.size_push,z1]
 have k2:∀b o,b≠it->G.get? b=some o->G2.get? b=some o:=fun b o nb e=>by rw[<- eG];exact Heap.get?_push_of_some _ (b1.extBut b o nb e)
 show wpAny _ _ (Builtin.Dict_items.ownedTupleIsFree (.ref it) >>=_) _ _ ⟨G2,gg,dr,tk,os⟩;rw[z1];clear eG f1 b1 tt1 z1 G1;refine wpAny_bind ?c14;unfold Builtin.Dict_items.ownedTupleIsFree;refine wpAny_bind (wpAny_field f2 rfl (x:=.none) rfl (wpAny_pure ?c15));simp only[if_true];refine wpAny_bind (wpAny_field f2 rfl (x:=k0) rfl (wpAny_bind (wpAny_field f2 rfl (x:=v0) rfl ?c16)));refine wpAny_bind (wpAny_setField_rec f2 (by simp) fun G3 f3 b3=>?c17)
 replace b3:Heap.SameBut it G2 G3:=b3
 replace f3:IsItemIter G3 it d (i+1) es.size ep es[i].key v0:=f3
 refine wpAny_bind (wpAny_setField_rec f3 (by simp) fun G4 f4 b4=>?c18)
 replace b4:Heap.SameBut it G3 G4:=b4
 replace f4:IsItemIter G4 it d (i+1) es.size ep es[i].key es[i].val:=f4
 refine wpAny_bind (wpAny_setField_rec f4 (by simp) fun G5 f5 b5=>?c19)
 replace b5:Heap.SameBut it G4 G5:=b5
 replace f5:IsItemIterOut G5 it d (i+1) es.size ep es[i].key es[i].val G.objs.size:=f5
 refine wpAny_bind (wpAny_setField_rec f5 (by simp) fun G6 f6 b6=>?c20)
 replace b6:Heap.SameBut it G5 G6:=b6
 replace f6:IsItemIterOut G6 it d (i+1) es.size ep es[i].key es[i].val G.objs.size:=f6
 have kk:∀b o,b≠it->G2.get? b=some o->G6.get? b=some o:=fun b o nb e=>b6.extBut b o nb (b5.extBut b o nb (b4.extBut b o nb (b3.extBut b o nb e)))
 refine wpAny_bind (wpAny_letGo (wpAny_pure (wpAny_pure ⟨_,rfl,wpAny_pure (fin G6 f6 (kk _ _ (Nat.ne_of_gt il) t2) ?c21 fun b o nb e=>kk b o nb (k2 b o nb e))⟩)));show G6.objs.size=G.objs.size+1;rw[b6.1,b5.1,b4.1,b3.1,z2]
theorem Uk{it d:Addr}{i ep:Nat}{es:Array DictEntry}{od:Obj}{k0 v0:Value}{R:Option Value->Shared->Prop}(hn:A.handled=none)
 (gi:IsItemIter s.heap it d i es.size ep k0 v0) (gd:s.heap.get? d=some od) (gt:od.data=.dict es ep) (ge:es.size<=i)
 (fin:∀h',Heap.ExtBut it s.heap h'->R none { s with heap:=h' }):wpAny (model prog w) A (pyNext (.ref it)) R E s:=by
 have tt:s.TypeIs (.ref it) "dict_itemiterator" :=⟨_,gi,rfl⟩;unfold pyNext;refine wpAny_bind (wpAny_attempt (wpAny_callSpecial?_slot (name:=Str.ofString "__next__") tt F.slot_dict_itemiterator_next (wpAny_call_entry F.slot_dict_itemiterator_next tt F.entry_dict_itemiterator_next ?c1 (F.args_dict_itemiterator_next_1 _))));refine wpAny_bind (wpAny_pure (wpAny_bind (wpAny_bind ?c2)))
 first | refine wpAny_bind (QN tt (wpAny_pure ?c3)) | refine wpAny_bind (wpAny_typeNameOf_itemiter tt (wpAny_pure ?c3))
 refine wpAny_bind (wpAny_fieldsOf gi rfl ?c4);have own1:Builtin.Dict_items.ownsTuple "dict_itemiterator" =true:=by decide
 simp only[own1,if_true];show wpAny _ _ (if(Value.ref d==Value.none)=true then _ else _) _ _ _;rw[if_neg (show ¬((Value.ref d==Value.none)=true)from fun z=>zf0 z)];refine wpAny_bind (wpAny_pure (wpAny_bind (wpAny_dictEntries gd gt ?c5)));rw[if_neg (by simp)];refine wpAny_bind (wpAny_pure (wpAny_bind (wpAny_dictEpoch gd gt ?c6)));rw[if_neg (by simp)];refine wpAny_pure ?c7;simp only[show ¬((i:Int)<0)from by omega,if_false,Int.toNat_natCast,Array.getElem?_eq_none ge];refine wpAny_bind ?c8
 first | refine wpAny_bind (QN tt (wpAny_pure ?c9)) | refine wpAny_bind (wpAny_typeNameOf_itemiter tt (wpAny_pure ?c9))
 show wpAny _ _ (setField (.ref it) 2 .none >>=_) _ _ _;refine wpAny_bind (wpAny_setField gi rfl (by simp) ?c10);show wpAny _ _ (newExc (.type "StopIteration") [] >>=_) _ _ _;refine wpAny_bind ?c11;simp only[newExc,newTuple];refine wpAny_bind (wpAny_newObj_type (wpAny_bind (m:=firstArgMember _ _) (wpAny_of_eq (a:=Value.none) (by first | rfl | (simp only[firstArgMember];rfl)) ?c12)) (by size_fits));refine wpAny_newObj_type ?c13 (by size_fits);simp only[raiseNew];refine wpAny_bind (wpAny_handled ?c14);rw[show A.in1.handled=none from hn];refine wpAny_bind (wpAny_pure (wpAny_throw ?c15));refine wpAny_bind (wpAny_isInstance (T := "StopIteration") (b:=true) ⟨_,Heap.get?_push_size _ rfl,rfl⟩ isSubtype_stop (wpAny_pure ?c16));exact fin _ (((Heap.SameBut.update ..).extBut.push _).push _)
theorem bw {d:Addr} {R:Value->Shared->Prop} (tt:s.TypeIs (.ref d) "dict") (nm:(d==sysModules)=false)
 (q:R (.ref s.heap.objs.size) { s with heap:=s.heap.push { cls:=.type "dict_items",data:=.fields #[.ref d] } }):wpAny (model prog w) A (call (.builtin "dict.items") [.ref d]) R E s:=by
 have m:MeetsIn prog w (Builtin.«dict.items» ⟨[.ref d],[]⟩) (fun _ R s=>s.TypeIs (.ref d) "dict" /\ R (.ok (.ret (.ref s.heap.objs.size))) { s with heap:=s.heap.push { cls:=.type "dict_items",data:=.fields #[.ref d] } }):=
  .of_wp fun A R s zz=>by obtain⟨t1,r1⟩:=zz;unfold Builtin.«dict.items»;refine wpAny_bind ?c1;unfold Builtin.Dict.noArgs;refine wpAny_bind (wpAny_notOrdered_dict t1 ?c2);show wpAny _ _ (pure d) _ _ s;refine wpAny_pure ?c3;show wpAny _ _ (Builtin.Dict.showsAll d >>=_) _ _ s;unfold Builtin.Dict.showsAll;rw[if_neg (by rw[nm];exact zf0)];exact wpAny_bind (wpAny_pure (wpAny_bind (wpAny_newObj_type (wpAny_pure ⟨_,rfl,r1⟩))))
 exact call_meetsIn PySem.F.slot_dict_items tt PySem.F.entry_dict_items (PySem.F.args_dict_items_1 _) m ⟨tt,q⟩
theorem d8:entryFor table "dict_itemiterator.__iter__" =some Builtin.«dict_keyiterator.__iter__»:=entryFor_alias (id' := "dict_keyiterator.__iter__") (by kernel_rfl) rfl (by decide +kernel) (by kernel_rfl)
theorem gw{it d:Addr}{i n ep:Nat}{k0 v0:Value}{R:Value->Shared->Prop}(gi:IsItemIter s.heap it d i n ep k0 v0)(q:R (.ref it) s):wpAny (model prog w) A (pyIter (.ref it)) R E s:=by have tt:s.TypeIs (.ref it) "dict_itemiterator" :=⟨_,gi,rfl⟩;refine wpAny_pyIter_slot tt F.slot_dict_itemiterator_iter (wpAny_call_entry F.slot_dict_itemiterator_iter tt d8 ?c1 (F.args_dict_itemiterator_iter_1 _));show wpAny _ _ (ret (.ref it)) _ _ s;exact wpAny_pure ⟨_,rfl, "dict_itemiterator",_,tt,F.slot_dict_itemiterator_next.lookup,q⟩
end
theorem Paired.Gp{α β:Type}{F:α->β->Prop}:∀{xs:List α}{ys:List β}{i:Nat}{x:α},Paired F xs ys->xs[i]?=some x->∃y,ys[i]?=some y/\F x y
 | _,_,i,x,.nil,e=>by simp at e
 | _,_,0,x,.cons r t,e=>by simp at e;subst e;exact⟨_,rfl,r⟩
 | _,_,i+1,x,.cons r t,e=>by obtain⟨y,e1,e2⟩:=Paired.Gp t (i:=i) (x:=x) (by simpa using e);exact⟨y,by simpa using e1,e2⟩
def RU(a:Addr)(o:Obj):It:=
 ⟨fun i H=>∃kvs p,H a=some (.frz o (.dT kvs))/\kvs[i]?=some p,
  fun i H x H'=>∃q kb p,H q=none/\x=.ref q/\H kb=some (.tup (p.1.map kV))/\(∀kvs,H a=some (.frz o (.dT kvs))->kvs[i]?=some p)/\H'=KB H q (.tup [.ref kb,p.2]),
  fun i H=>∃kvs,H a=some (.frz o (.dT kvs))/\kvs.length<=i⟩
theorem Zw{P:Program}{w:World}{K:Frag}{elts:List Expr}{x1}{pos:Pos}(a it:Addr){o:Obj}{es:Array DictEntry}{ep:Nat}(gt:o.data=.dict es ep) :
 TH P w K (.Tuple elts x1 pos) (RU a o) [it] it (fun i h=>∃k0 v0,IsItemIter h it a i es.size ep k0 v0) where
 mem:=by simp
 obj:=fun i h zz c hc=>by obtain⟨k0,v0,st⟩:=zz;rw[mem_singleton.mp hc];exact⟨_,st,fun v z=>by cases z⟩
 keep:=fun i h h' ⟨k0,v0,st⟩ k=>⟨k0,v0,k it (by simp) _ st⟩
 item:=by
  intro X hP hw hK hc i pins s σ H E I hf st hg;subst hP hw hK;obtain⟨k0,v0,gi⟩:=st;obtain⟨kvs,p,e,hp⟩:=hg;obtain⟨go,z,y,xs,r,ob,es',ep',h1,h2,h3,h4,h5⟩:=(show Xm X.prog X.w H s.heap a (.frz o (.dT kvs))from I.hok a _ e);rw[go]at h1;cases h1;rw[gt]at h3;cases h3;obtain⟨q,hq,f1,f2,f3⟩:=Paired.Gp r hp;have e0:es.toList[i]?=some (entryOfKey (tupleKind (DE X.prog X.w)) q):=by rw[h4,getElem?_map,hq];rfl
  have hlt:i<es.size:=by have:=(zfY e0).1;simpa using this
  have ei:es[i]=entryOfKey (tupleKind (DE X.prog X.w)) q:=by rw[Array.getElem?_toList,Array.getElem?_eq_getElem hlt]at e0;exact Option.some.inj e0
  refine dw gi go gt hlt fun h' z1 tp sz kp=>⟨_,rfl,wpAny_letOwnedTupleGo_items z1 fun h2 he2 sb=>?_⟩
  have hne:s.heap.objs.size≠it:=Nat.ne_of_gt (Heap.lt_size gi);have t2:h2.get? s.heap.objs.size=some { cls:=.type "tuple",data:=.seq #[.ref q.2.1,q.2.2] }:=by rw[sb.2 _ hne,tp,ei];rfl
  have kk:∀c u,c ∉ [it]->s.heap.get? c=some u->h2.get? c=some u:=fun c u hc g=>by
   have hc':c≠it:=fun z=>hc (by rw[z];simp)
   exact(sb.2 c hc').trans (kp c u hc' g)
  refine⟨.ref s.heap.objs.size,KB H s.heap.objs.size (.tup [.ref q.2.1,p.2]),I.zck kk hf (zf1 _) ⟨by simp only[zfO,zfP];rw[sizeLine_eq];decide,[.ref q.2.1,q.2.2],.cons rfl (.cons f3 .nil),⟨_,t2,rfl,_,rfl⟩⟩,rfl,
   ⟨_,q.2.1,p,I.hok.fresh (zf1 _),rfl,f2,fun kvs' e'=>by rw[e]at e';cases e';exact hp,rfl⟩,⟨_,_,he2⟩,fun c hc=>?_⟩
  rw[mem_singleton.mp hc,cB (Ne.symm hne)];exact(hf it (by simp)).1
 done:=by
  intro X hP hw hK hc i pins s σ H E I hf st hg;subst hP hw hK;obtain⟨k0,v0,gi⟩:=st;obtain⟨kvs,e,hp⟩:=hg;obtain⟨go,z,y,xs,r,ob,es',ep',h1,h2,h3,h4,h5⟩:=(show Xm X.prog X.w H s.heap a (.frz o (.dT kvs))from I.hok a _ e);rw[go]at h1;cases h1;rw[gt]at h3;cases h3;have hs:es.size=kvs.length:=by rw[<- Array.length_toList,h4,length_map,<- Paired.length r]
  refine Uk (I.ok.hd hc) gi go gt (by omega) fun h' eb=>⟨rfl,I.zbG (t':=s.toks) (fp:=[it]) (fun c u hc q=>eb c u (fun z=>hc (by rw[z];simp)) q) hf⟩
 self:=fun _ _ _ _ _ st h=>by obtain⟨k0,v0,gi⟩:=st;exact gw gi h
section
variable{X:Cx}
theorem Inv.freeze{pins:List (Addr×Obj)}{σ:St}{H:Hp}{s:Shared}{a:Addr}{o:Obj}{kvs:List (List nC×V)}(I:Inv X pins σ H s)(e:H a=some (.dT kvs))(go:s.heap.get? a=some o) :
 Inv X pins σ (KB H a (.frz o (.dT kvs))) s:=by
 refine US (t':=s.toks) I (by rw[e];exact True.intro) (Heap.SameBut.refl _ _) ⟨o,go⟩ ⟨go,?_⟩;refine Xm.stay (show Xm X.prog X.w H s.heap a (.dT kvs)from I.hok a _ e) (fun _ _ _ g=>g) (fun b q=>?_) fun b ys q=>?_
 · rw[cB (BU q e (fun z=>nomatch z))];exact q
 · rw[cB (BU q e (fun z=>nomatch z))];exact q
def J3(td:TE):TI:=fun σ H R=>td σ H fun x H1=>∃a,x=.ref a/\((∃kvs,H1 a=some (.dT kvs)/\∀o,R (RU a o) (KB H1 a (.frz o (.dT kvs))))\/∃o kvs,H1 a=some (.frz o (.dT kvs))/\R (RU a o) H1)
theorem Bv {elts:List Expr} {x1} {tp:Pos} {d:Expr} {td:TE} {apos cpos:Pos} (ho:PE X d td) (hbase:attributeBase d "items" X.env (eval d X.env)=eval d X.env:=by rfl) (hline:(apos.endLine==cpos.line)=true:=by rfl) :
 PI X (.Tuple elts x1 tp) (.Call (.Attribute d "items" apos) [] [] cpos) (J3 td):=by
 intro pins s σ H R I h;refine wpAny_Call_method0_late hbase hline (HB (ho pins s σ H _ I h) fun v s1 zz=>?_);obtain⟨x,H1,I1,r1,a,ex,q⟩:=zz;subst ex;obtain rfl:v=Value.ref a:=r1;have dd:X1 H1 a:=by
  rcases q with⟨kvs,e,_⟩ | ⟨o,kvs,e,_⟩
  · exact .inr ⟨kvs,.inl e⟩
  · exact .inr ⟨kvs,.inr ⟨o,e⟩⟩
 obtain⟨t1,t2,t3⟩:=eZ I1 dd;have base:∀(o:Obj)(es:Array DictEntry)(ep:Nat)(H2:Hp),s1.heap.get? a=some o->o.data=.dict es ep->Inv X pins σ H2 s1->R (RU a o) H2->
  wpAny (model X.prog X.w) X.A (call (.builtin "dict.items") [.ref a]) (fun v s1=>wpAny (model X.prog X.w) X.A (pyIter v) (A2 X pins σ (.Tuple elts x1 tp) R) X.xe s1) X.xe s1:=by
  intro o es ep H2 go gt I2 q2;refine bw t1 t3 ?_;have I3:Inv X pins σ H2 { s1 with heap:=s1.heap.push { cls:=.type "dict_items",data:=.fields #[.ref a] } }:=I2.kept (t':=s1.toks) fun b u g=>Heap.get?_push_of_some _ g
  refine iw (od:=o) ⟨_,Heap.get?_push_size _ rfl,rfl,rfl⟩ (Heap.get?_push_of_some _ go) gt ?_;have I4:=I3.kept (t':=s1.toks) (h':=(s1.heap.push { cls:=.type "dict_items",data:=.fields #[.ref a] }).push { cls:=.type "dict_itemiterator",data:=.fields #[.none,.bool false,.ref a,.int 0 0,.int es.size 0,.int ep 0,.none,.none] }) fun b u g=>Heap.get?_push_of_some _ g
  refine⟨_,[_],_,_,H2,rfl,I4,Zw a _ gt,⟨.none,.none,Heap.get?_push_size _ rfl⟩,fun c hc=>?_,q2⟩;rw[mem_singleton.mp hc];exact I3.za0 (zf1 _) (I3.hok.fresh (zf1 _))
 refine⟨"dict", "dict.items",PySem.F.plainAttrs_dict,PySem.F.slot_dict_items,PySem.F.type_dict_items,t1,t2,Calls.callWith_builtin rfl (PySem.evalArgs_none ?_)⟩;rcases q with⟨kvs,e,q⟩ | ⟨o,kvs,e,q⟩
 · obtain⟨_,_,_,_,o,es,ep,h1,_,h3,_⟩:=(show Xm X.prog X.w H1 s1.heap a (.dT kvs)from I1.hok a _ e);exact base o es ep _ h1 h3 (I1.freeze e h1) (q o)
 · obtain⟨go,_,_,_,_,o',es,ep,h1,_,h3,_⟩:=(show Xm X.prog X.w H1 s1.heap a (.frz o (.dT kvs))from I1.hok a _ e);rw[go]at h1;cases h1;exact base o es ep _ go h3 I1 q
end
end L2
namespace SM
noncomputable def OI(kvs:List (List Int×Dt))(k:List Int):Option Dt:=(kvs.find? fun p=>decide (p.1=k)).map (·.2)
noncomputable def WI(kvs:List (List Int×Dt))(k:List Int)(d:Dt):List (List Int×Dt):=
 if(kvs.any fun p=>decide (p.1=k))=true then kvs.map (fun p=>if p.1=k then(p.1,d)else p)else kvs++[(k,d)]
noncomputable def uU:RE:=fun _ h=>some (.ref h.length,h++[.dt []])
def CP(g:RA):RE:=fun l h=>(g l h).bind fun r=>if r.1.length<=sizeLine then(xE r.1).map fun is=>(.Ip is,r.2)else none
def DH(fo fy fx:RE):RE:=fun l h=>(fo l h).bind fun o=>match o.1 with
 | .ref n=>match o.2[n]? with
  | some (.dt _)=>(fy l o.2).bind fun y=>match y.1 with
   | .Ip k=>(fx l y.2).bind fun x=>match x.2[n]? with
    | some (.dt kvs)=>some ((OI kvs k).getD x.1,x.2)
    | _=>none
   | _=>none
  | _=>none
 | _=>none
def gP(fe fo fy:RE):RS:=fun l h=>(fe l h).bind fun v=>(fo l v.2).bind fun o=>(fy l o.2).bind fun y=>match o.1,y.1 with
 | .ref n,.Ip k=>match y.2[n]? with
  | some (.dt kvs)=>if kvs.length<sizeLine then some (.nx l (y.2.set n (.dt (WI kvs k v.1))))else none
  | _=>none
 | _,_=>none
noncomputable def wI(f:RE):RI:=fun l h=>(f l h).bind fun r=>match r.1 with
 | .ref n=>match r.2[n]? with
  | some (.dt kvs)=>some (.it n,r.2.set n (.df kvs))
  | some (.df _)=>some (.it n,r.2)
  | _=>none
 | _=>none
section
variable{K:Frag}{H:Hp}{ρ:Rg}
abbrev KD(K:Frag)(H:Hp)(ρ:Rg)(kvs:List (List Int×Dt))(vs:List (List nC×V)):Prop:=vs.map (·.1)=kvs.map (fun p=>p.1.map Sum.inl)/\jm K H ρ (kvs.map (·.2)) (vs.map (·.2))
theorem zaf{k k':List Int}:k.map (Sum.inl:Int->nC)=k'.map Sum.inl↔k=k':=⟨fun h=>(map_inj_right (fun _ _ z=>Sum.inl.inj z)).mp h,fun h=>by rw[h]⟩
theorem UT(k:List Int):(k.map (Sum.inl:Int->nC)).map kV=k.map V.int:=by rw[map_map];rfl
theorem KD.Jl{vs:List (List nC×V)}(r:KD K H ρ [] vs):vs=[]:=by have:=r.1;simpa using this
theorem KD.Jm{p:List Int×Dt}{kvs:List (List Int×Dt)}{vs:List (List nC×V)}(r:KD K H ρ (p::kvs) vs):∃v rs,vs=(p.1.map Sum.inl,v)::rs/\zm K H ρ p.2 v/\KD K H ρ kvs rs:=by
 obtain⟨h1,h2⟩:=r;cases vs with
 | nil=>simp at h1
 | cons q rs=>simp only[zfQ,List.cons.injEq]at h1;obtain⟨v,r',e,g1,g2⟩:=jm.Jm (by simpa only[zfQ]using h2);simp only[zfQ,List.cons.injEq]at e;obtain⟨q1,q2⟩:=q;have h11:q1=p.1.map Sum.inl:=h1.1;have e1:q2=v:=e.1;subst e1;exact⟨q2,rs,by rw[h11],g1,h1.2,by rw[e.2];exact g2⟩
theorem KD.cons{p:List Int×Dt}{v:V}{kvs:List (List Int×Dt)}{vs:List (List nC×V)}(g:zm K H ρ p.2 v)(r:KD K H ρ kvs vs):KD K H ρ (p::kvs) ((p.1.map Sum.inl,v)::vs):=
 ⟨by simp only[zfQ];rw[r.1],.cons g r.2⟩
theorem KD.length{kvs:List (List Int×Dt)}{vs:List (List nC×V)}(r:KD K H ρ kvs vs):vs.length=kvs.length:=by have:=congrArg List.length r.1;simpa using this
theorem KD.get:∀{kvs:List (List Int×Dt)}{vs:List (List nC×V)}{i:Nat}{p:List Int×Dt},KD K H ρ kvs vs->kvs[i]?=some p->∃v,vs[i]?=some (p.1.map Sum.inl,v)/\zm K H ρ p.2 v
 | [],_,_,_,_,e=>by simp at e
 | q::kvs,_,0,p,r,e=>by obtain⟨v,rs,rfl,g,_⟩:=r.Jm;simp at e;subst e;exact⟨v,rfl,g⟩
 | q::kvs,_,i+1,p,r,e=>by obtain⟨v,rs,rfl,_,r'⟩:=r.Jm;obtain⟨u,e1,e2⟩:=KD.get (i:=i) r' (by simpa using e);exact⟨u,by simpa using e1,e2⟩
theorem KD.val(k:List Int):∀{kvs:List (List Int×Dt)}{vs:List (List nC×V)},KD K H ρ kvs vs->(∀d,OI kvs k=some d->∃v,lF vs (k.map Sum.inl)=some v/\zm K H ρ d v)/\(OI kvs k=none->lF vs (k.map Sum.inl)=none)
 | [],_,r=>by rw[r.Jl];exact⟨fun d e=>by simp[OI]at e,fun _=>rfl⟩
 | p::kvs,_,r=>by
  obtain⟨v,rs,rfl,g,r'⟩:=r.Jm;by_cases c:p.1=k
  · have e1:OI (p::kvs) k=some p.2:=by simp[OI,find?_cons,c]
    rw[e1,iO (zaf.mpr c)];exact⟨fun d e=>by cases e;exact⟨v,rfl,g⟩,fun e=>by cases e⟩
  · have e1:OI (p::kvs) k=OI kvs k:=by simp[OI,find?_cons,c]
    rw[e1,gO (fun z=>c (zaf.mp z))];exact KD.val k r'
theorem KD.any(k:List Int):∀{kvs:List (List Int×Dt)}{vs:List (List nC×V)},KD K H ρ kvs vs->(vs.any fun p=>decide (p.1=k.map Sum.inl))=kvs.any fun p=>decide (p.1=k)
 | [],_,r=>by rw[r.Jl];rfl
 | p::kvs,_,r=>by
  obtain⟨v,rs,rfl,g,r'⟩:=r.Jm;rw[any_cons,any_cons,KD.any k r']
  congr 1
  exact decide_eq_decide.mpr zaf
theorem KD.repl(k:List Int){d:Dt}{v:V}(g:zm K H ρ d v):∀{kvs:List (List Int×Dt)}{vs:List (List nC×V)},KD K H ρ kvs vs->
 KD K H ρ (kvs.map fun p=>if p.1=k then(p.1,d)else p) (vs.map fun p=>if p.1=k.map Sum.inl then(p.1,v)else p)
 | [],_,r=>by rw[r.Jl];exact⟨rfl,.nil⟩
 | p::kvs,_,r=>by
  obtain⟨u,rs,rfl,g',r'⟩:=r.Jm;rw[zfQ,zfQ];by_cases c:p.1=k
  · rw[if_pos c,if_pos (zaf.mpr c)];exact KD.cons (p:=(p.1,d)) g (KD.repl k g r')
  · rw[if_neg c,if_neg (fun z=>c (zaf.mp z))];exact KD.cons g' (KD.repl k g r')
theorem KD.put(k:List Int){d:Dt}{v:V}(g:zm K H ρ d v){kvs:List (List Int×Dt)}{vs:List (List nC×V)}(r:KD K H ρ kvs vs):KD K H ρ (WI kvs k d) (CF vs (k.map Sum.inl) v):=by
 unfold WI CF;rw[r.any k];split
 · exact r.repl k g
 · refine⟨by rw[map_append,map_append,r.1];rfl,?_⟩;rw[map_append,map_append];exact r.2.append (.cons g .nil)
theorem KD.ext{ρ':Rg}{H':Hp}{kvs:List (List Int×Dt)}{vs:List (List nC×V)}(r:KD K H ρ kvs vs)(x:Ext ρ ρ' H H'):KD K H' ρ' kvs vs:=⟨r.1,r.2.ext x⟩
theorem Em.zcu{h:HI}(S:Em K ρ h H){a:Addr}{vs:List V}(e:H a=some (.tup vs)):ρ.no a:=by
 refine⟨fun ha=>?_,fun ha=>?_⟩
 · obtain⟨n,hn⟩:=mem_iff_getElem?.mp ha;have hl:n<h.length:=by rw[<- S.len];exact(zfY hn).1
   have ob:=S.ob n a _ hn (getElem?_eq_getElem hl);cases q:h[n]with
   | lst xs=>rw[q]at ob;obtain⟨_,g,_⟩:=ob;rw[e]at g;cases g
   | ins y fs=>rw[q]at ob;obtain⟨_,_,_,_,g,_⟩:=ob;rw[e]at g;cases g
   | dk kvs=>rw[q]at ob;obtain⟨_,g,_⟩:=ob;rw[e]at g;cases g
   | dt kvs=>rw[q]at ob;obtain⟨_,g,_⟩:=ob;rw[e]at g;cases g
   | df kvs=>rw[q]at ob;obtain⟨_,_,g,_⟩:=ob;rw[e]at g;cases g
 · obtain⟨_,_,g⟩:=S.zt a ha;rw[e]at g;cases g
theorem IP{a:Addr}{kvs:List (List nC×V)}(h:H a=some (.dT kvs)):MU H a:=fun _ _ e=>by rw[h]at e;cases e
end
section
variable{X:Cx}{e o i d a b f:Expr}{fe fo fi fa fb fy fx:RE}{pos pos' apos cpos:Pos}
theorem vg:EM X (.Dict [] [] pos) uU:=by with_unfolding_all exact PE.imp Yz fun σ H Q zz=>by obtain⟨ρ,l,h,d,h',S,L,e,k⟩:=zz;cases e;intro p hp;refine k (ρ.add p) _ _ (Gm.mpr ⟨p,rfl,?_⟩) (S.own hp ⟨[],SC,rfl,.nil⟩) (Ext.own hp);simp only[Rg.add];rw[<- S.len,zf2 (zf1 _),Nat.sub_self];rfl
theorem Kg{es:List Expr}{g:RA}{x1}(h:AM X es g):EM X (.Tuple es x1 pos) (CP g):=by
 with_unfolding_all
  exact PE.imp (BZ h) fun σ H Q zz=>by
   obtain⟨ρ,l,h,d,h',S,L,e,k⟩:=zz;obtain⟨⟨ds,h1⟩,e1,e⟩:=xA e;dsimp only at e;by_cases hz:ds.length<=sizeLine
   · rw[if_pos hz]at e;cases q:xE ds with
     | none=>rw[q]at e;cases e
     | some is=>rw[q]at e;cases e;refine⟨ρ,l,h,ds,_,S,L,e1,fun ρ1 vs H1 R1 S1 E1=>⟨by rw[R1.length];exact hz,fun p hp=>k ρ1 _ _ (Ep.mpr ⟨p,rfl,S1.out hp,?_⟩) (S1.fresh hp) (E1.trans (Ext.fresh hp))⟩⟩;rw[tJ q]at R1;rw[SC,R1.zao]
   · rw[if_neg hz]at e;cases e
theorem Mv (hu:X.A.units+64<cLine) (ho:EM X o fo) (hy:EM X e fy) (hx:EM X f fx) (m:M2 X o "get" apos e f cpos:=by exact⟨rfl,rfl,rfl,rfl⟩) :
 EM X (.Call (.Attribute o "get" apos) [e,f] [] cpos) (DH fo fy fx):=by
 with_unfolding_all
  exact PE.imp (Xz (by omega) ho hy hx m) fun σ H Q zz=>by
   obtain⟨ρ,l,h,dd,h',S,L,e,k⟩:=zz;obtain⟨⟨d1,h1⟩,e1,e⟩:=xA e;refine⟨ρ,l,h,d1,h1,S,L,e1,fun ρ1 x H1 R1 S1 E1=>?_⟩;cases d1 with
   | ref n=>
    dsimp only at e;split at e
    · rename_i kv0 q0;obtain⟨⟨y,h2⟩,e2,e⟩:=xA e;dsimp only at e;cases y with
      | Ip ks=>
       obtain⟨⟨dx,h3⟩,e3,e⟩:=xA e;dsimp only at e;split at e
       · rename_i kvs q;cases e;obtain⟨aa,z,ha⟩:=Gm.mp R1;obtain⟨vs0,g0,_⟩:=S1.ob n aa _ ha q0;refine⟨aa,z,.inr ⟨vs0,.inl g0⟩,ρ1,l,h1,.Ip ks,h2,S1,L.ext E1,e2,fun ρ2 y H2 R2 S2 E2=>⟨ρ2,l,h2,dx,_,S2,L.ext (E1.trans E2),e3,fun ρ3 x3 H3 R3 S3 E3=>?_⟩⟩;obtain⟨kb,zk,nk,gk⟩:=Ep.mp (zm.ext E3 _ R2);obtain⟨vs,g1,g2⟩:=S3.ob n aa _ ((E2.trans E3).get ha) q;refine⟨lF vs (ks.map Sum.inl),by rw[zk];exact zba.t g1 (by rw[UT];exact gk),?_⟩;obtain⟨v1,v2⟩:=KD.val (K:=X.K) ks g2;refine k ρ3 _ H3 ?_ S3 (E1.trans (E2.trans E3));cases c:OI kvs ks with
         | none=>rw[v2 c];exact R3
         | some d4=>obtain⟨v4,e4,r4⟩:=v1 d4 c;rw[e4];exact r4
       · cases e
      | _=>cases e
    · cases e
   | _=>cases e
theorem Xg(hu:X.A.units+64<cLine)(he:EM X e fe)(ho:EM X o fo)(hi:EM X i fi)(hs:swapsWith e (some (.Subscript o i pos')) pos.line X.env=pure false:=by rfl) :
 ZM X (.Assign [.Subscript o i pos'] e pos) (gP fe fo fi):=by
 with_unfolding_all
  exact PS.imp (Mh (by omega) ho hi he hs) fun D σ H zz=>by
   obtain⟨ρ,l,h,r,S,L,e,k⟩:=zz;obtain⟨⟨v,hv⟩,e1,e⟩:=xA e;obtain⟨⟨d,hd⟩,e2,e⟩:=xA e;obtain⟨⟨j,hj⟩,e3,e⟩:=xA e;refine⟨ρ,l,h,v,hv,S,L,e1,fun ρ1 u H1 R1 S1 E1=>⟨ρ1,l,hv,d,hd,S1,L.ext E1,e2,fun ρ2 y H2 R2 S2 E2=>⟨ρ2,l,hd,j,hj,S2,L.ext (E1.trans E2),e3,fun ρ3 z H3 R3 S3 E3=>?_⟩⟩⟩;cases d with
   | ref n=>
    cases j with
    | Ip ks=>
     dsimp only at e;split at e
     · rename_i kvs q;obtain⟨hz,e⟩:=FE e;cases e;obtain⟨aa,zz,ha⟩:=Gm.mp (zm.ext E3 _ R2);obtain⟨vs,g1,g2⟩:=S3.ob n aa _ ha q;obtain⟨kb,zk,nk,gk⟩:=Ep.mp R3;have hm:=mem_of_getElem? ha;have g3:KD X.K H3 ρ3 kvs vs:=g2;refine⟨aa,_,zz,by rw[zk];exact zbb.t g1 (by rw[UT];exact gk) (by rw[g3.length];exact hz),?_⟩;exact k ρ3 σ _ (S3.write ha (IP g1) ⟨_,SC,(g3.put ks (zm.ext (E2.trans E3) _ R1)).ext (Ext.write hm (IP g1))⟩) (L.ext (E1.trans (E2.trans (E3.trans (Ext.write hm (IP g1)))))) (E1.trans (E2.trans (E3.trans (Ext.write hm (IP g1)))))
     · cases e
    | _=>cases e
   | _=>cases e
theorem eX{K:Frag}{H:Hp}{ρ:Rg}{n:Nat}{aa:Addr}{ob:Obj}{vs0:List (List nC×V)}(ha:ρ.v[n]?=some aa)(e:H aa=some (.frz ob (.dT vs0))):P0 K H ρ (.it n) (RU aa ob):=by
 intro H2 ρ2 h2 sm S2 i;have f2:=sm.fz aa ob _ e;have ha2:=sm.ix n aa ha;simp only[Src.at];cases q:h2[n]? with
 | none=>trivial
 | some u=>
  cases u with
  | df kvs=>
   obtain⟨o',vs,g1,g2⟩:=S2.ob n aa _ ha2 q;have g3:KD K H2 ρ2 kvs vs:=g2;rw[f2]at g1;cases g1;dsimp only;cases hi:kvs[i]? with
   | none=>exact⟨vs0,f2,by rw[g3.length];exact getElem?_eq_none_iff.mp hi⟩
   | some p=>obtain⟨v,e1,r1⟩:=g3.get hi;refine⟨⟨vs0,_,f2,e1⟩,fun x H3 zz=>?_⟩;obtain⟨qq,kb,p',hn,ex,hk,hh,eH⟩:=zz;have ep:=hh vs0 f2;rw[e1]at ep;cases ep;subst ex eH;rw[UT]at hk;exact⟨yL S2 (.cons (Dm.mpr ⟨kb,_,rfl,.inl ⟨S2.zcu hk,.inl hk⟩,jm.ints p.1⟩) (.cons r1 .nil)) hn,Ext.fresh hn,S2.fresh hn⟩
  | _=>trivial
theorem Uv {elts:List Expr} {x1} {tp:Pos} (ho:EM X d fa) (hbase:attributeBase d "items" X.env (eval d X.env)=eval d X.env:=by rfl) (hline:(apos.endLine==cpos.line)=true:=by rfl) :
 IM X (.Tuple elts x1 tp) (.Call (.Attribute d "items" apos) [] [] cpos) (wI fa):=by
 with_unfolding_all
  exact PI.imp (Bv ho hbase hline) fun σ H R zz=>by
   obtain⟨ρ,l,h,s,h',S,L,e,k⟩:=zz;obtain⟨⟨d1,h1⟩,e1,e⟩:=xA e;refine⟨ρ,l,h,d1,h1,S,L,e1,fun ρ1 v H1 R1 S1 E1=>?_⟩;cases d1 with
   | ref n=>
    obtain⟨aa,z,ha⟩:=Gm.mp R1;have hm:=mem_of_getElem? ha;refine⟨aa,z,?_⟩;dsimp only at e;split at e
    · rename_i kvs q;cases e;obtain⟨vs,g1,g2⟩:=S1.ob n aa _ ha q;have g3:KD X.K H1 ρ1 kvs vs:=g2;refine .inl ⟨vs,g1,fun ob=>k ρ1 _ _ (eX ha SC) (S1.write ha (IP g1) ⟨ob,vs,SC,g3.ext (Ext.write hm (IP g1))⟩) (E1.trans (Ext.write hm (IP g1)))⟩
    · rename_i kvs q;cases e;obtain⟨ob,vs,g1,g2⟩:=S1.ob n aa _ ha q;exact .inr ⟨ob,vs,g1,k ρ1 _ _ (eX ha g1) S1 E1⟩
    · cases e
   | _=>cases e
end
end SM
namespace L2
section
variable{prog:Program}{w:World}{A:Around}{R:Result->Shared->Prop}{I:Addr}{fp wr:List Addr}{n:Nat}{P:Nat->Value->Prop}{St:Nat->Heap->Prop}
noncomputable abbrev jP (dv:Value):List (Str×Value):=[(Str.ofString "default",dv)]
theorem yq(dv:Value)(Wk:Walks prog w A.in1 I fp wr n P St)(bt:Nat->Nat->Bool)(cmp:CmpOf prog w A.in1 .Lt P bt)(S:Addr)(nS:S∉fp) :
 ∀(k j:Nat)(s:Shared)(vb:Value)(c:Nat),n-(j+1)=k->j+1<=n->St (j+1) s.heap->P (argBest bt j) vb->
 s.heap.get? S=some { cls:=.type "list",dict:=none,data:=.seq #[vb,vb] c,slots:=#[] }->
 (∀v h' tk,P (argBest bt (n-1)) v->(∀b o,b∉wr->b≠S->s.heap.get? b=some o->h'.get? b=some o)->R (.ok (.ret v)) { s with heap:=h',toks:=tk })->
 codeAny (model prog w) A (.builtin "min.loop" ⟨[.ref I,.none,.ref S],jP dv⟩) R s:=by
 have nW:S∉wr:=fun h=>nS (Wk.sub _ h)
 have nm:(toString "min" ++ toString ".loop" :String) = "min.loop" :=by decide
 intro k
 induction k with
 | zero=>
  intro j s vb c ek hj st Pb gS fin;have ej:j+1=n:=by omega
  refine codeAny_builtin F.entry_min_loop ?_;rw[Around.under_plainId F.plain_min_loop _];show wpAny _ A.in1 (seqItems? (.ref S) >>=_) _ _ s;refine wpAny_bind (wpAny_seqItems gS rfl ?_);show wpAny _ A.in1 (tryCatch (pyNext (.ref I)) _ >>=_) _ _ s;refine wpAny_bind (wpAny_tryCatch (Wk.done s _ _ (ej ▸ st) fun h' tk kp=>?_));have gS':=kp S _ nW gS;show wpAny _ A.in1 (updateSeq S (fun _=>#[]) >>=_) _ _ _;refine wpAny_bind (wpAny_updateSeq gS' rfl (wpAny_bind (wpAny_letGo (wpAny_pure ?_))));exact fin vb _ tk (by rw[<- ej];exact Pb) fun b o nb ns e=>(Heap.get?_update_other _ _ (Ne.symm ns)).trans (kp b o nb e)
 | succ k ih=>
  intro j s vb c ek hj st Pb gS fin;have lt:j+1<n:=by omega
  refine codeAny_builtin F.entry_min_loop ?_;rw[Around.under_plainId F.plain_min_loop _];show wpAny _ A.in1 (seqItems? (.ref S) >>=_) _ _ s;refine wpAny_bind (wpAny_seqItems gS rfl ?_);show wpAny _ A.in1 (tryCatch (pyNext (.ref I)) _ >>=_) _ _ s;refine wpAny_bind (wpAny_tryCatch (Wk.item (j+1) s _ _ lt st fun v h' tk Pv st' kp=>?_));have gS':=kp S _ nW gS;show wpAny _ A.in1 (tryCatch (holding [v,v] (richCompare .Lt v vb >>=_)) _ >>=_) _ _ _;refine wpAny_bind (wpAny_tryCatch (wpAny_holding (wpAny_bind (cmp (j+1) (argBest bt j) v vb _ _ _ Pv Pb ?_))));refine wpAny_bind (wpAny_holding (wpAny_truthy_bool (wpAny_bind (wpAny_letGo (wpAny_pure ?_)))));cases cb:bt (j+1) (argBest bt j)with
  | true=>
   simp only[if_true];refine wpAny_bind (wpAny_updateSeq gS' rfl (wpAny_bind (wpAny_letGo ?_)));rw[nm];refine wpAny_pure ⟨plainId_quiet F.plain_min_loop _,ih (j+1) _ v _ (by omega) lt (Wk.frame _ _ _ st' fun b hbf o e=>?_) (by simp only[argBest,cb,if_true];exact Pv) (Heap.get?_update_self _ gS' rfl) fun v' h'' tk'' Pv' kp'=>?_⟩
   · exact(Heap.get?_update_other _ _ (fun z:S=b=>nS (by rw[z];exact hbf))).trans e
   · exact fin v' h'' tk'' Pv' fun b o nb ns e=>kp' b o nb ns ((Heap.get?_update_other _ _ (Ne.symm ns)).trans (kp b o nb e))
  | false=>simp only[zf4,if_false];refine wpAny_bind (wpAny_letGo ?_);rw[nm];refine wpAny_pure ⟨plainId_quiet F.plain_min_loop _,ih (j+1) _ vb c (by omega) lt st' (by simp only[argBest,cb,zf4,if_false];exact Pb) gS' fun v' h'' tk'' Pv' kp'=>?_⟩;exact fin v' h'' tk'' Pv' fun b o nb ns e=>kp' b o nb ns (kp b o nb e)
theorem Cj(dv:Value)(Wk:Walks prog w A.in1 I fp wr n P St)(bt:Nat->Nat->Bool)(cmp:CmpOf prog w A.in1 .Lt P bt)(S:Addr)(nS:S∉fp)(hn:0<n){s:Shared}{c:Nat}(st:St 0 s.heap)
 (gS:s.heap.get? S=some { cls:=.type "list",dict:=none,data:=.seq #[] c,slots:=#[] })
 (fin:∀v h' tk,P (argBest bt (n-1)) v->(∀b o,b∉wr->b≠S->s.heap.get? b=some o->h'.get? b=some o)->R (.ok (.ret v)) { s with heap:=h',toks:=tk }) :
 codeAny (model prog w) A (.builtin "min.loop" ⟨[.ref I,.none,.ref S],jP dv⟩) R s:=by
 have nW:S∉wr:=fun h=>nS (Wk.sub _ h)
 have nm:(toString "min" ++ toString ".loop" :String) = "min.loop" :=by decide
 refine codeAny_builtin F.entry_min_loop ?_;rw[Around.under_plainId F.plain_min_loop _];show wpAny _ A.in1 (seqItems? (.ref S) >>=_) _ _ s;refine wpAny_bind (wpAny_seqItems gS rfl ?_);show wpAny _ A.in1 (tryCatch (pyNext (.ref I)) _ >>=_) _ _ s;refine wpAny_bind (wpAny_tryCatch (Wk.item 0 s _ _ hn st fun v h' tk Pv st' kp=>?_));have gS':=kp S _ nW gS;show wpAny _ A.in1 (updateSeq S (fun _=>#[v,v]) >>=_) _ _ _;refine wpAny_bind (wpAny_updateSeq gS' rfl ?_);rw[nm];refine wpAny_pure ⟨plainId_quiet F.plain_min_loop _,yq dv Wk bt cmp S nS _ 0 _ v _ rfl hn (Wk.frame _ _ _ st' fun b hbf o e=>?_) Pv (Heap.get?_update_self _ gS' rfl) fun v' h'' tk'' Pv' kp'=>?_⟩
 · exact(Heap.get?_update_other _ _ (fun z:S=b=>nS (by rw[z];exact hbf))).trans e
 · exact fin v' h'' tk'' Pv' fun b o nb ns e=>kp' b o nb ns ((Heap.get?_update_other _ _ (Ne.symm ns)).trans (kp b o nb e))
end
section
variable{prog:Program}{w:World}{A:Around}{E:Value->Shared->Prop}{s:Shared}
theorem qj (x d:Value):argsOk "min" ⟨[x],jP d⟩:=by unfold argsOk;kernel_rfl
theorem zq{x dv:Value}{R:Value->Shared->Prop}
 (h:wpAny (model prog w) A.in1 (pyIter x) (fun it s2=>∃I fp wr n P St bt,it=.ref I/\Walks prog w A.in1 I fp wr n P St/\St 0 s2.heap/\(∀b∈fp,b<s2.heap.objs.size)/\0<n/\CmpOf prog w A.in1 .Lt P bt/\
  ∀v h' tk,P (argBest bt (n-1)) v->(∀b o,b∉wr->s2.heap.get? b=some o->h'.get? b=some o)->R v { s2 with heap:=h',toks:=tk }) E s) :
 wpAny (model prog w) A (call (.builtin "min") [x] (jP dv)) R E s:=by
 have nm:(toString "min" ++ toString ".loop" :String) = "min.loop" :=by decide
 refine kmk_tree PySem.F.kind_min PySem.F.plain_min PySem.F.entry_min (qj _ _) ?_;show wpAny _ A.in1 (Builtin.Builtins.bindParams "min" ["key", "default"] 0 ⟨[],jP dv⟩ >>=_) _ _ s;refine wpAny_bind (wpAny_of_eq (show Builtin.Builtins.bindParams "min" ["key", "default"] 0 ⟨[],jP dv⟩=pure [none,some dv]from rfl) (wpAny_bind (wpAny_pure ?_)));refine wpAny_bind (wpAny_mono h (fun it s2 h2=>?_) fun _ _ e=>e);obtain⟨I,fp,wr,n,P,St,bt,rfl,Wk,st,lo,hn,cmp,fin⟩:=h2;refine wpAny_bind (wpAny_newObj_type ?_);have nS:s2.heap.objs.size∉fp:=fun hm=>Nat.lt_irrefl _ (lo _ hm)
 rw[nm];refine wpAny_pure ⟨plainId_quiet F.plain_min_loop _,Cj dv Wk bt cmp s2.heap.objs.size nS hn (Wk.frame _ _ _ st fun b _ o e=>Heap.get?_push_of_some _ e) (Heap.get?_push_size _ rfl) fun v h' tk Pv kp=>?_⟩;exact fin v h' tk Pv fun b o nb e=>kp b o nb (Nat.ne_of_lt (Heap.lt_size e)) (Heap.get?_push_of_some _ e)
theorem xq{l:Addr}{xs:Array (Int×Tok)}{dv:Value}{R:Value->Shared->Prop}(hh:A.handled=none)(hl:s.heap.IsList l (intItems xs))(hne:0<xs.size)
 (h:∀v h' tk,(intItems xs)[argBest (fun i j=>decide (numAt xs i<numAt xs j)) (xs.size-1)]?=some v->(∀b o,s.heap.get? b=some o->h'.get? b=some o)->R v { s with heap:=h',toks:=tk }) :
 wpAny (model prog w) A (call (.builtin "min") [.ref l] (jP dv)) R E s:=by
 refine zq (iter_intList hl fun s2 e st lo hlI=>?_);subst e;refine⟨_,_,_,_,_,_,_,rfl,Walks.list (A:=A.in1) hh _ l hlI (intItems xs),st,lo,by simpa[intItems]using hne,CmpOf.ints_lt (numAt xs) (fun _ _=>intItems_at),fun v h' tk Pv kp=>?_⟩;exact h v h' tk (by simpa[intItems]using Pv) (old_kept kp)
end
section
variable{X:Cx}{e d:Expr}{ta:TA}{td:TE}{p pos kp:Pos}
def b7(K:Frag)(ta:TA)(td:TE):TE:=fun σ H Q=>ta σ H fun xs H1=>td σ H1 fun _ H2=>∃(q:Addr)(ns:List Int),xs=[.ref q]/\yp K H2 q (ns.map V.int)/\ns ≠ []/\∀M,M∈ns->(∀a∈ns,M<=a)->Q (.int M) H2
theorem Ik (hc:X.calm=true) (hg:Gl X "min") (hm:X.mg "min" =none) (ha:PA X [e] ta) (hd:PE X d td) (he:starEach [e] X.env=[(false,eval e X.env)]:=by rfl) :
 PE X (.Call (.Name "min" p) [e] [⟨some "default",d,kp⟩] pos) (b7 X.K ta td):=by
 intro pins s σ H Q I h;refine wpAny_Call_Name_kw (EH I hg hm PyProof.Rows.boot_min ?_);refine callWith_kw ?z1 (by rw[he];rfl) (by rw[he];rfl) rfl rfl;refine HB (ha pos pins s σ H _ I h) fun us s1 ⟨vs,H1,I1,r1,q1⟩=>?z2
 refine kws_cons ?z3;refine HB (hd pins s1 σ H1 _ I1 q1) fun v s2 ⟨y,H2,I2,ry,q2⟩=>?z4
 refine kws_nil ?z5;show wpAny _ _ (call (.builtin "min") us (jP v)) _ _ _;obtain⟨q,ns,rfl,hq,hne,fin⟩:=q2;obtain⟨u,rfl,rx⟩:=cG r1;cases rx;obtain⟨its,r',pl,hz⟩:=I2.list hq;obtain⟨ys,e1,e2⟩:=rN (qN r');have hl:=pl.isList;rw[e1]at hl;have hsz:0<ys.size:=by
  rcases Nat.eq_zero_or_pos ys.size with z | z
  · exfalso;apply hne;rw[<- e2];have:ys.toList=[]:=eq_nil_of_length_eq_zero (by simpa using z);rw[this];rfl
  · exact z
 refine xq (I2.ok.hd hc) hl hsz fun v h' tk hv k=>?_
 obtain⟨t,rfl⟩:=intItems_at hv;obtain⟨h1,h2⟩:=argBest_lt (numAt ys) (ys.size-1);refine⟨.int _,H2,I2.kept k,⟨t,rfl⟩,fin _ ?_ fun a ha=>?_⟩
 · rw[numAt_eq,<- e2];exact getD_mem (by rw[length_map,Array.length_toList];omega)
 · rw[<- e2]at ha;obtain⟨j,hj,rfl⟩:=mem_getD ha;rw[length_map,Array.length_toList]at hj;rw[<- numAt_eq];exact h2 j (by omega)
end
end L2
namespace SM
def vU(fa fd:RE):RE:=fun l h=>(fa l h).bind fun r=>(fd l r.2).bind fun q=>(TB q.2 r.1).bind fun xs=>(xE xs).bind fun ns=>if ns ≠ []then some (.int (hC ns),q.2)else none
section
variable{X:Cx}{e d:Expr}{fa fd:RE}{p pos kp:Pos}
theorem Ag (hc:X.calm=true) (hg:Gl X "min") (hm:X.mg "min" =none) (ha:EM X e fa) (hd:EM X d fd) (hs:xB e=true:=by rfl):EM X (.Call (.Name "min" p) [e] [⟨some "default",d,kp⟩] pos) (vU fa fd):=by with_unfolding_all exact PE.imp (Ik hc hg hm (TC ha fE (jB hs _ _)) hd (jB hs _ _)) fun σ H Q zz=>by obtain⟨ρ,l,h,dd,h',S,L,e,k⟩:=zz;obtain⟨⟨d1,h1⟩,e1,e⟩:=xA e;obtain⟨⟨d2,h2⟩,e2,e⟩:=xA e;obtain⟨xs,e3,e⟩:=xA e;obtain⟨ns,q,e⟩:=xA e;obtain⟨hne,e⟩:=FE e;cases e;refine⟨ρ,l,h,d1,h1,S,L,e1,fun ρ1 v H1 R1 S1 E1=>⟨ρ1,l,h1,d2,_,S1,L.ext E1,e2,fun ρ2 v2 H2 R2 S2 E2=>?_⟩⟩;obtain⟨a,vs,z,sq,r⟩:=VF S2 (zm.ext E2 _ R1) e3;rw[tJ q]at r;rw[r.zao]at sq;obtain⟨m1,m2⟩:=SG ns hne;refine⟨a,ns,by rw[z],sq,hne,fun M g1 g2=>?_⟩;have:M=hC ns:=Int.le_antisymm (g2 _ m1) (m2 M g1);rw[this];exact k ρ2 _ H2 (qm.mpr rfl) S2 (E1.trans E2)
end
end SM
namespace L2
section
variable{X:Cx}
end
end L2
namespace SM
section
variable{X:Cx}{e:Expr}{f:RE}{p p' pos pos':Pos}
end
end SM
namespace L2
noncomputable def Zf(lo c:Int)(n:Nat):It:=⟨fun i _=>i<n,fun i H x H'=>H'=H/\x=.int (lo+(i:Int)*c),fun i _=>n<=i⟩
theorem qx{P:Program}{w:World}{K:Frag}{tg:Expr}(it:Addr)(lo c:Int)(n:Nat):TH P w K tg (Zf lo c n) [it] it (fun i h=>IsRangeIter h it (lo+(i:Nat)*c) ((n:Int)-(i:Nat)) c) where
 mem:=by simp
 obj:=fun i h st b hb=>by
  have e:b=it:=by simpa using hb
  subst e;exact⟨_,st,fun v z=>by
   have z':Data.fields _=Data.cell v:=z;cases z'⟩
 keep:=fun i h h' st k=>k it (by simp) _ st
 item:=by
  intro X hP hw hK hc i pins s σ H E I hf st hg;subst hP hw hK;obtain⟨f0,f1,f2,f3,f4,f5⟩:=hf it (by simp);have W:=Walks.range (prog:=X.prog) (w:=X.w) (I.ok.hd hc) it lo c n;refine W.item i s _ _ hg st fun v h' tk hv st' kk=>?_
  obtain⟨t,rfl⟩:=hv;have I1:Inv X pins σ H { s with heap:=h',toks:=tk }:=I.turned (fun b o hb e=>kk b o (by simpa using hb) e) f0 f1 f3 f4 f5;exact⟨_,rfl,nU (s:={ s with heap:=h',toks:=tk }) (n := "range_iterator") st' rfl rfl (by decide) ⟨.int (lo+(i:Int)*c),H,I1,⟨t,rfl⟩,⟨rfl,rfl⟩,st',fun b hb=>(hf b hb).1⟩⟩
 done:=by intro X hP hw hK hc i pins s σ H E I hf st hg;subst hP hw hK;obtain⟨f0,f1,f2,f3,f4,f5⟩:=hf it (by simp);exact wpAny_pyNext_range_end (I.ok.hd hc) st (by have:n<=i:=hg;omega) fun h' eb=>⟨rfl,I.turned (t':=s.toks) (fun b o hb e=>eb b o hb e) f0 f1 f3 f4 f5⟩
 self:=fun _ _ _ _ _ st h=>wpAny_pyIter_rangeiter st h
section
variable{X:Cx}{tg:Expr}
def C5(ta:TA):TI:=fun σ H R=>ta σ H fun vs H1=>∃(i j:Int)(c:Nat),vs=[.int i,.int j,.int (c:Int)]/\(0<=i/\i<2^61/\0<=j/\j<2^61/\0<c/\c<1000)/\R (Zf i c ((j-i+(c:Int)-1)/(c:Int)).toNat) H1
theorem fX{i j:Int}{c:Nat}(hc:0<c):Builtin.Range.rangeSize i j (c:Int)=(((j-i+(c:Int)-1)/(c:Int)).toNat:Int):=by
 have c0:(c:Int)>0:=by omega
 unfold Builtin.Range.rangeSize;rw[if_pos c0];by_cases h:i<j
 · rw[if_pos h,show j-i+(c:Int)-1=(j-i-1)+1*(c:Int) by omega,Int.add_mul_ediv_right _ _ (by omega)];have:0<=(j-i-1)/(c:Int):=Int.ediv_nonneg (by omega) (by omega);omega
 · rw[if_neg h];have:(j-i+(c:Int)-1)/(c:Int)<=0:=by have h1:(j-i+(c:Int)-1)/(c:Int)<1:=Int.ediv_lt_of_lt_mul (by omega) (by omega);omega
   omega
theorem Z9{i j:Int}{c:Nat}(q:0<=i/\i<2^61/\0<=j/\j<2^61/\0<c/\c<1000):Builtin.Range.small i j (c:Int)=true:=by
 obtain⟨a1,a2,a3,a4,a5,a6⟩:=q;have c0:(c:Int)>0:=by omega
 have sz:Builtin.Range.rangeSize i j (c:Int)<=2^61+1/\0<=Builtin.Range.rangeSize i j (c:Int):=by
  rw[fX a5];refine⟨?_,by omega⟩;have h1:(j-i+(c:Int)-1)/(c:Int)<2^61+1:=Int.ediv_lt_of_lt_mul (by omega) (by
   have:(2^61+1:Int)*(c:Int)=2^61*(c:Int)+(c:Int):=by rw[Int.add_mul,Int.one_mul]
   have h2:(2^61:Int)*1<=2^61*(c:Int):=Int.mul_le_mul_of_nonneg_left (by omega) (by decide);omega)
  omega
 unfold Builtin.Range.small;simp only[Builtin.Range.rangeFitsLong,Bool.and_eq_true,Bool.or_eq_true,decide_eq_true_eq,beq_iff_eq,c0,if_true];omega
theorem Xx {a b d:Expr} {ta:TA} {p pos:Pos} (hg:Gl X "range") (hm:X.mg "range" =none) (ha:PA X [a,b,d] ta) (hs:starEach [a,b,d] X.env=[(false,eval a X.env),(false,eval b X.env),(false,eval d X.env)]) (hs2:starEach [b,d] X.env=[(false,eval b X.env),(false,eval d X.env)]) :
 PI X tg (.Call (.Name "range" p) [a,b,d] [] pos) (C5 ta):=by
 intro pins s σ H R I h;refine Call_ (EH I hg hm boot_range (PyProof.Rows.callWith_type1 (HB (ha pos pins s σ H _ I h) fun us s1 zz=>?_) (by rw[hs,hs2]) (by rw[hs2];rfl)));obtain⟨vs,H1,I1,r1,q1⟩:=zz;obtain⟨i,j,c,e,qq,q⟩:=q1;subst e;cases r1 with
 | cons r rr=>
  cases rr with
  | cons r' rr=>
   cases rr with
   | cons r'' rr=>
    cases rr;obtain⟨t,rfl⟩:=r;obtain⟨t',rfl⟩:=r';obtain⟨t'',rfl⟩:=r'';have c5:=qq.2.2.2.2.1;have c6:=qq.2.2.2.2.2;refine call_range_3 (show((c:Nat):Int)≠0 by omega) ?_ (Or.inl (PyProof.noPylong_small (by omega)));refine wpAny_pyIter_range (IsRange.new ..) (Z9 qq) ?_;have I2:Inv X pins σ H1 { s1 with heap:=s1.heap.push { cls:=.type "range",data:=.fields #[.int i t,.int j t',.int (c:Int) t''] },toks:=s1.toks }:=I1.kept fun b o e=>Heap.get?_push_of_some _ e
    refine⟨(s1.heap.push { cls:=.type "range",data:=.fields #[.int i t,.int j t',.int (c:Int) t''] }).objs.size,[(s1.heap.push { cls:=.type "range",data:=.fields #[.int i t,.int j t',.int (c:Int) t''] }).objs.size],_,_,H1,rfl,
     I2.kept (t':=s1.toks) fun b o e=>Heap.get?_push_of_some _ e,qx _ i c ((j-i+(c:Int)-1)/(c:Int)).toNat,?_,fun b hb=>?_,q⟩
    · have e1:i+((0:Nat):Int)*(c:Int)=i:=by simp
      have e2:((((j-i+(c:Int)-1)/(c:Int)).toNat:Nat):Int)-((0:Nat):Int)=Builtin.Range.rangeSize i j (c:Int):=by rw[fX c5];omega
      show IsRangeIter _ _ (i+((0:Nat):Int)*(c:Int)) (((((j-i+(c:Int)-1)/(c:Int)).toNat:Nat):Int)-((0:Nat):Int)) (c:Int);rw[e1,e2];exact Heap.get?_push_size _ rfl
    · have e:b=(s1.heap.push { cls:=.type "range",data:=.fields #[.int i t,.int j t',.int (c:Int) t''] }).objs.size:=by simpa using hb
      subst e;exact I2.za0 (zf1 _) (I2.hok.fresh (zf1 _))
end
end L2
namespace SM
noncomputable def F1(f g:RE)(c:Nat):RI:=fun l h=>(f l h).bind fun r=>(g l r.2).bind fun q=>match r.1,q.1 with
 | .int i,.int j=>if 0<=i/\i<2^61/\0<=j/\j<2^61/\0<c/\c<1000 then some (.vals ((List.range ((j-i+(c:Int)-1)/(c:Int)).toNat).map fun(k:Nat)=>Dt.int (i+(k:Int)*(c:Int))),q.2)else none | _,_=>none
noncomputable def GI:TD:=fun a b h=>match a,b with
 | .tup xs,.tup ys=>if xs ≠ []/\xs.length+ys.length<=sizeLine then some (.tup (xs++ys),h)else none
 | _,_=>none
noncomputable def WE(f:Str)(v:Dt):List (Str×Dt)->List (Str×Dt)
 | []=>[(f,v)]
 | (g,x)::r=>if g=f then(g,v)::r else(g,x)::WE f v r
noncomputable def DD(f:Str):List (Str×Dt)->Option Dt
 | []=>none
 | (g,x)::r=>if f=g then some x else DD f r
def kH(x f:Str)(fo:RE):RE:=fun l h=>(fo l h).bind fun r=>match r.1 with
 | .ref n=>(match r.2[n]? with
  | some (.ins y fs)=>if y=x then(DD f fs).bind fun d=>some (d,r.2)else none
  | _=>none)
 | _=>none
def KI(x f:Str)(fo fe:RE):RS:=fun l h=>(fe l h).bind fun r=>(fo l r.2).bind fun q=>match q.1 with
 | .ref n=>(match q.2[n]? with
  | some (.ins y fs)=>if y=x/\fs.length<1000 then some (.nx l (q.2.set n (.ins y (WE f r.1 fs))))else none
  | _=>none)
 | _=>none
noncomputable def OO(x:Str)(F:RB)(g:RA):RE:=fun l h=>(g l h).bind fun r=>(F (.ref r.2.length::r.1) (r.2++[.ins x []])).bind fun q=>match q.1 with
 | .non=>some (.ref r.2.length,q.2)
 | _=>none
def FI(x m:Str)(F:RB)(fo:RE)(g:RA):RE:=fun l h=>(fo l h).bind fun r=>match r.1 with
 | .ref n=>(match r.2[n]? with
  | some (.ins y fs)=>if y=x/\DD m fs=none then(g l r.2).bind fun q=>F (.ref n::q.1) q.2 else none
  | _=>none)
 | _=>none
section
variable{X:Cx}{tg:Expr}
theorem Qj {a b:Expr} {f g:RE} {c:Nat} {p pos:Pos} {d:Expr} (hg:Gl X "range") (hm:X.mg "range" =none) (ha:EM X a f) (hb:EM X b g) (hd:EM X d (eC (.int (c:Int)))) (hs:xB a=true:=by rfl) (hs2:xB b=true:=by rfl) (hs3:xB d=true:=by rfl) :
 IM X tg (.Call (.Name "range" p) [a,b,d] [] pos) (F1 f g c):=by
 with_unfolding_all
  exact PI.imp (Xx hg hm (TC ha (TC hb (TC hd fE (jB hs3 _ _)) (jB hs2 _ _)) (jB hs _ _)) (by rw[jB hs,jB hs2,jB hs3];rfl) (by rw[jB hs2,jB hs3];rfl)) fun σ H R zz=>by
   obtain⟨ρ,l,h,s,h',S,L,e,k⟩:=zz;obtain⟨⟨d1,h1⟩,e1,e⟩:=xA e;obtain⟨⟨d2,h2⟩,e2,e⟩:=xA e;refine⟨ρ,l,h,d1,h1,S,L,e1,fun ρ1 v H1 R1 S1 E1=>⟨ρ1,l,h1,d2,h2,S1,L.ext E1,e2,fun ρ2 u H2 R2 S2 E2=>⟨ρ2,l,h2,.int (c:Int),h2,S2,L.ext (E1.trans E2),rfl,fun ρ3 u3 H3 R3 S3 E3=>?_⟩⟩⟩;cases d1 with
   | int i=>
    cases d2 with
    | int j=>
     obtain⟨cc,e⟩:=FE e;cases e;refine⟨i,j,c,by rw[qm.mp R1,qm.mp R2,qm.mp R3],cc,k ρ3 _ H3 (fun H4 ρ4 h4 E4 S4 n=>?_) S3 (E1.trans (E2.trans E3))⟩;simp only[Src.at,getElem?_map];by_cases hi:n<((j-i+(c:Int)-1)/(c:Int)).toNat
     · rw[getElem?_range hi];refine⟨hi,fun v H5 q=>?_⟩;obtain⟨rfl,rfl⟩:=q;exact⟨qm.mpr rfl,Ext.refl _ _,S4⟩
     · rw[getElem?_eq_none (by simpa using Nat.not_lt.mp hi)];exact Nat.not_lt.mp hi
    | _=>cases e
   | _=>cases e
theorem GY:OM X (binaryOp .Add) GI:=by
 with_unfolding_all
  exact vp.imp Ly fun x y H Q zz=>by
   obtain⟨ρ,h,d1,d2,d,h',S,R1,R2,e,k⟩:=zz;cases d1 with
   | tup xs=>
    cases d2 with
    | tup ys=>
     obtain⟨⟨hx,hz⟩,e⟩:=FE e;cases e;obtain⟨a,vs,z1,q1,r1⟩:=Dm.mp R1;obtain⟨b,ws,z2,q2,r2⟩:=Dm.mp R2;refine⟨a,b,vs,ws,z1,z2,q1.sq,q2.sq,fun z=>?_,by rw[r1.length,r2.length];exact hz,fun z=>?_,fun z p hp=>k ρ _ _ (yL S (r1.append r2) hp) (S.fresh hp) (Ext.fresh hp)⟩
     · have:=r1.length;rw[z]at this;exact hx (length_eq_zero_iff.mp this.symm)
     · have hl:=r2.length;rw[z]at hl;have hy:ys=[]:=length_eq_zero_iff.mp hl.symm;subst hy;rw[zf3]at k;exact k ρ _ _ (z1 ▸ R1) S (Ext.refl _ _)
    | _=>cases e
   | _=>cases e
end
def JL(f:RE):RI:=fun l h=>(f l h).bind fun r=>match r.1 with
 | .lst xs=>some (.vals (zI 0 xs),r.2)
 | .ref n=>(match r.2[n]? with
  | some (.lst _)=>some (.en n,r.2)
  | _=>none)
 | _=>none
theorem yY {X:Cx} {elts:List Expr} {x1} {tp p pos:Pos} {a:Expr} {f:RE} (hg:Gl X "enumerate") (hm:X.mg "enumerate" =none) (ha:EM X a f) (hs:xB a=true:=by rfl):IM X (.Tuple elts x1 tp) (.Call (.Name "enumerate" p) [a] [] pos) (JL f):=by
 with_unfolding_all
  refine PI.imp (Jk hg hm (TC ha fE (jB hs _ _)) (jB hs _ _)) fun σ H R zz=>?_
  obtain⟨ρ,l,h,s,h',S,L,e,k⟩:=zz;obtain⟨⟨d1,h2⟩,e1,e⟩:=xA e;refine⟨ρ,l,h,d1,h2,S,L,e1,fun ρ1 v H1 R1 S1 E1=>?_⟩;cases d1 with
  | lst xs=>
   cases e;obtain⟨b,ws,rfl,q,r⟩:=Cm.mp R1;refine⟨b,rfl,⟨ws,q.sq⟩,k ρ1 _ H1 (fun H2 ρ2 h2 E2 S2 i=>?_) S1 E1⟩;have q2:=q.same E2;have r2:=jm.same E2 _ r;simp only[Src.at,KW,Nat.zero_add];cases ei:xs[i]? with
   | none=>refine⟨ws,q2.sq,?_⟩;rw[r.length];exact getElem?_eq_none_iff.mp ei
   | some d=>obtain⟨v,g1,g2⟩:=r2.get ei;refine⟨⟨ws,v,q2.sq,g1⟩,fun u H3 y=>?_⟩;obtain⟨p0,y0,hp,rfl,gy,rfl⟩:=y;have g3:=gy ws q2.sq;rw[g1]at g3;cases g3;exact⟨yL S2 (.cons (qm.mpr rfl) (.cons g2 .nil)) hp,Ext.fresh hp,S2.fresh hp⟩
  | ref n=>
   dsimp only at e;split at e
   · rename_i xs0 q0;cases e;obtain⟨b,rfl,hb⟩:=Gm.mp R1;obtain⟨vs0,g0,_⟩:=S1.lst hb q0;refine⟨b,rfl,⟨vs0,yp.of g0⟩,k ρ1 _ H1 (fun H2 ρ2 h2 E2 S2 i=>?_) S1 E1⟩;have hb2:=E2.ix _ _ hb;simp only[Src.at];cases q:h2[n]? with
     | none=>trivial
     | some o=>
      cases o with
      | lst xs=>
       obtain⟨ws,g1,r⟩:=S2.lst hb2 q;dsimp only;cases ei:xs[i]? with
       | none=>refine⟨ws,yp.of g1,?_⟩;rw[r.length];exact getElem?_eq_none_iff.mp ei
       | some d=>obtain⟨v,g2,g3⟩:=r.get ei;refine⟨⟨ws,v,yp.of g1,g2⟩,fun u H3 y=>?_⟩;obtain⟨p0,y0,hp,rfl,gy,rfl⟩:=y;have g4:=gy ws (yp.of g1);rw[g2]at g4;cases g4;exact⟨yL S2 (.cons (qm.mpr rfl) (.cons g3 .nil)) hp,Ext.fresh hp,S2.fresh hp⟩
      | _=>trivial
   · cases e
  | _=>cases e
theorem cV{c:Prop}[Decidable c]{α:Type}{x:Option α}{b:α}(e:(if c then x else none)=some b):c/\x=some b:=by
 by_cases h:c
 · rw[if_pos h]at e;exact⟨h,e⟩
 · rw[if_neg h]at e;cases e
noncomputable def clsOf(K:Frag)(x:Str)(C:Addr):Prop:=nsIn K mainGlobals x=some (some (.ref C))
theorem clsOf.inj{K:Frag}{x:Str}{C C':Addr}(h:clsOf K x C)(h':clsOf K x C'):C=C':=by have:=h.symm.trans h';cases this;rfl
theorem sT{K:Frag}{H:Hp}{ρ:Rg}{f:Str}:∀{fs:List (Str×Dt)}{vs:List (Str×V)},fs.map (·.1)=vs.map (·.1)->jm K H ρ (fs.map (·.2)) (vs.map (·.2))->
 (∀d,DD f fs=some d->∃v,vs.lookup f=some v/\zm K H ρ d v)/\(DD f fs=none->vs.lookup f=none)
 | [],[],_,_=>⟨(fun _ h=>by cases h),fun _=>rfl⟩
 | [],_::_,e,_=>by cases e
 | _::_,[],e,_=>by cases e
 | (x,d)::fs,(y,v)::vs,e,r=>by
  simp only[zfQ,List.cons.injEq]at e;obtain⟨e0,e⟩:=e;subst e0;obtain⟨v',rr,q,h1,h2⟩:=jm.Jm r;cases q;obtain⟨i1,i2⟩:=sT (f:=f) e h2;by_cases z:f=x
  · have zb:(f==x)=true:=beq_iff_eq.mpr z;refine⟨fun d' h=>?_,fun h=>?_⟩
    · simp only[DD,if_pos z]at h;cases h;exact⟨v,by simp only[List.lookup,zb],h1⟩
    · simp only[DD,if_pos z]at h;cases h
  · have zb:(f==x)=false:=by rw[<- Bool.not_eq_true,beq_iff_eq];exact z
    refine⟨fun d' h=>?_,fun h=>?_⟩
    · simp only[DD,if_neg z]at h;obtain⟨w,w1,w2⟩:=i1 d' h;exact⟨w,by simp only[List.lookup,zb];exact w1,w2⟩
    · simp only[DD,if_neg z]at h;simp only[List.lookup,zb];exact i2 h
theorem bY{K:Frag}{H:Hp}{ρ:Rg}{f:Str}{d:Dt}{v:V}(rd:zm K H ρ d v):∀{fs:List (Str×Dt)}{vs:List (Str×V)},fs.map (·.1)=vs.map (·.1)->jm K H ρ (fs.map (·.2)) (vs.map (·.2))->
 (WE f d fs).map (·.1)=(L2.LB f v vs).map (·.1)/\jm K H ρ ((WE f d fs).map (·.2)) ((L2.LB f v vs).map (·.2))
 | [],[],_,_=>⟨rfl,.cons rd .nil⟩
 | [],_::_,e,_=>by cases e
 | _::_,[],e,_=>by cases e
 | (x,d0)::fs,(y,v0)::vs,e,r=>by
  simp only[zfQ,List.cons.injEq]at e;obtain⟨e0,e⟩:=e;subst e0;obtain⟨v',rr,q,h1,h2⟩:=jm.Jm r;cases q;by_cases z:x=f
  · simp only[WE,L2.LB,if_pos z,zfQ];exact⟨by rw[e],.cons rd h2⟩
  · obtain⟨i1,i2⟩:=bY rd (f:=f) e h2;simp only[WE,L2.LB,if_neg z,zfQ];exact⟨by rw[i1],.cons h1 i2⟩
structure CJ(K:Frag)(x f:Str):Prop where
 ex:∃C,clsOf K x C/\Cls K C/\zaa K C f
structure iH(P:Program)(w:World)(K:Frag)(mg:Str->Option Value)(base:Heap)(k n:Nat)(x m:Str)(F:RB):Prop where
 ex:∃C f fd ps,clsOf K x C/\Cls K C/\cK K C m f/\Ql P w K mg base dG k f fd ps (SI K n F)/\Binds K fd ps []
 len:∀ds h r,F ds h=some r->ds.length=n
structure sL(K:Frag)(x m qual:Str)(st:Stmt)(ps:List Str):Prop where
 ex:∃C f fd,clsOf K x C/\Cls K C/\cK K C m f/\Fun K m qual st f fd/\Binds K fd ps []
structure sP(P:Program)(w:World)(K:Frag)(mg:Str->Option Value)(base:Heap)(k n:Nat)(x:Str)(F:RB):Prop where
 ex:∃C f fd ps,clsOf K x C/\Mk K C f/\Ql P w K mg base dG k f fd ps (SI K n F)/\mg x=some (.ref C)/\Binds K fd ps []
 len:∀ds h r,F ds h=some r->ds.length=n
structure CT(K:Frag)(mg:Str->Option Value)(x qual:Str)(st:Stmt)(ps:List Str):Prop where
 ex:∃C f fd,clsOf K x C/\Mk K C f/\Fun K "__init__" qual st f fd/\mg x=some (.ref C)/\Binds K fd ps []
section
variable{P:Program}{w:World}{K:Frag}{mg:Str->Option Value}{base:Heap}
theorem DY{x m qual:Str}{st:Stmt}{N ps:List Str}{k n mm:Nat}{body:RS}(D:sL K x m qual st ps)(S:dB N ps (HA st))(hn:ps.length=n)(hm:N.length=mm)
 (hb:∀(f:Addr)(cdv:Value)(A:Around)(outer:List Env)(s:Shared)(H:Hp)(E:XK),Zm k (A.deeper (envOfC qual (HA st) s.heap.objs.size f cdv))->
  UH (AF dG P w K mg base N qual (HA st) f cdv A outer s H E).nox (AD st) body):iH P w K mg base (k+1) n x m (jC n mm body):=by
 with_unfolding_all subst hn hm;obtain⟨C,f,fd,c1,c2,c3,hF,hB⟩:=D.ex;exact⟨⟨C,f,fd,ps,c1,c2,c3,QO hF S fun cdv A outer s H E hr=>hb f cdv A outer s H E hr,hB⟩,fun ds h r e=>pO e⟩
theorem qy{x m qual:Str}{st:Stmt}{ps:List Str}{k n:Nat}(D:sL K x m qual st ps):iH P w K mg base k n x m (fun _ _=>none):=by
 with_unfolding_all
  obtain⟨C,f,fd,c1,c2,c3,hF,hB⟩:=D.ex;refine⟨⟨C,f,fd,ps,c1,c2,c3,⟨fun vs H Q E h=>?_,fun A outer s H args us vs Q E hr he hb hv h=>?_⟩,hB⟩,fun ds h r e=>by cases e⟩
  · obtain⟨ρ,ds,h,d,h',_,_,_,e,_⟩:=h;cases e
  · obtain⟨ρ,ds,h,d,h',_,_,_,e,_⟩:=h;cases e
theorem Yk{x qual:Str}{st:Stmt}{N ps:List Str}{k n mm:Nat}{body:RS}(D:CT K mg x qual st ps)(S:dB N ps (HA st))(hn:ps.length=n)(hm:N.length=mm)
 (hb:∀(f:Addr)(cdv:Value)(A:Around)(outer:List Env)(s:Shared)(H:Hp)(E:XK),Zm k (A.deeper (envOfC qual (HA st) s.heap.objs.size f cdv))->
  UH (AF dG P w K mg base N qual (HA st) f cdv A outer s H E).nox (AD st) body):sP P w K mg base (k+1) n x (jC n mm body):=by
 with_unfolding_all subst hn hm;obtain⟨C,f,fd,c1,c2,hF,c3,hB⟩:=D.ex;exact⟨⟨C,f,fd,ps,c1,c2,QO hF S fun cdv A outer s H E hr=>hb f cdv A outer s H E hr,c3,hB⟩,fun ds h r e=>pO e⟩
end
theorem J1{H:Hp}{a C dx:Addr}{vs:List (Str×V)}(h:H a=some (.ins C dx vs)):MU H a:=fun _ _ e=>by rw[h]at e;cases e
section
variable{X:Cx}{e o value:Expr}{es:List Expr}{x f m:Str}{fo fe:RE}{g:RA}{pos pos' apos p:Pos}{k k' n:Nat}{F:RB}
theorem vL(cl:CJ X.K x f)(ha:EM X e fo)(hb:attributeBase e f X.env (eval e X.env)=eval e X.env:=by rfl):EM X (.Attribute e f pos) (kH x f fo):=by
 with_unfolding_all
  exact PE.imp (Jr ha hb) fun σ H Q zz=>by
   obtain⟨ρ,l,h,d,h',S,L,e,k⟩:=zz;obtain⟨⟨d1,h1⟩,e1,e⟩:=xA e;refine⟨ρ,l,h,d1,h1,S,L,e1,fun ρ1 v H1 R1 S1 E1=>?_⟩;cases d1 with
   | ref n=>
    dsimp only at e;split at e
    · rename_i y fs q;obtain⟨hy,e3⟩:=cV e;subst hy;obtain⟨d2,q2,e4⟩:=xA e3;cases e4;obtain⟨a,z,ha⟩:=Gm.mp R1;obtain⟨C,dx,vs,c1,g1,g2,g3⟩:=S1.ob n a _ ha q;obtain⟨C',c2,c3,c4⟩:=cl.ex;have cc:C'=C:=clsOf.inj c2 c1;subst cc;obtain⟨v2,w1,w2⟩:=(sT g2 g3).1 _ q2;exact⟨a,C',dx,vs,v2,z,g1,c3,c4,w1,k ρ1 _ _ w2 S1 E1⟩
    · cases e
   | _=>cases e
theorem CO(cl:CJ X.K x f)(ha:EM X o fo)(hv:EM X value fe)(hs:swapsWith value (some (.Attribute o f pos')) pos.line X.env=pure false:=by rfl):ZM X (.Assign [.Attribute o f pos'] value pos) (KI x f fo fe):=by
 with_unfolding_all
  exact PS.imp (Wr ha hv hs) fun D σ H zz=>by
   obtain⟨ρ,l,h,r,S,L,e,k⟩:=zz;obtain⟨⟨v,hv⟩,e1,e⟩:=xA e;obtain⟨⟨d,hd⟩,e2,e⟩:=xA e;refine⟨ρ,l,h,v,hv,S,L,e1,fun ρ1 u H1 R1 S1 E1=>⟨ρ1,l,hv,d,hd,S1,L.ext E1,e2,fun ρ2 y H2 R2 S2 E2=>?_⟩⟩;cases d with
   | ref n=>
    dsimp only at e;split at e
    · rename_i y fs q;obtain⟨⟨hy,hl⟩,e⟩:=FE e;cases e;subst hy;obtain⟨a,zz,ha⟩:=Gm.mp R2;obtain⟨C,dx,vs,c1,g1,g2,g3⟩:=S2.ob n a _ ha q;obtain⟨C',c2,c3,c4⟩:=cl.ex;have cc:C'=C:=clsOf.inj c2 c1;subst cc;have hm:=mem_of_getElem? ha;have hlen:vs.length=fs.length:=by have:=congrArg List.length g2;simpa using this.symm
      obtain⟨p1,p2⟩:=bY (f:=f) (zm.ext E2 _ R1) g2 g3;refine⟨a,C',dx,vs,zz,g1,c3,c4,by rw[hlen];exact hl,?_⟩;exact k ρ2 σ _ (S2.write ha (J1 g1) ⟨C',dx,_,c1,SC,p1,p2.ext (Ext.write hm (J1 g1))⟩) (L.ext (E1.trans (E2.trans (Ext.write hm (J1 g1))))) (E1.trans (E2.trans (Ext.write hm (J1 g1))))
    · cases e
   | _=>cases e
theorem xg (c:sP X.prog X.w X.K X.mg X.base k n x F) (hr:Zm k' X.A) (hk:k+1<=k') (hg:Gl X x) (ha:AM X (e::es) g) (hdb:(x==("__debug__" :Str))=false:=by decide)
 (he:xB e=true:=by rfl) (hpl:es.all xB=true:=by rfl):EM X (.Call (.Name x p) (e::es) [] pos) (OO x F g):=by
 with_unfolding_all
  obtain⟨C,f,fd,ps,c1,c2,c3,c4,c5⟩:=c.ex;exact PE.imp (Ek c2 c3 (hr.mono hk) hg c4 c5 .nil (E:=E0) aP ha hdb (jB he _ _) (uI hpl)) fun σ H Q zz=>by
   obtain⟨ρ,l,h,d,h',S,L,e,k⟩:=zz;obtain⟨⟨ds1,h1⟩,e1,e⟩:=xA e;obtain⟨⟨d2,h2⟩,e2,e⟩:=xA e;cases d2 with
   | non=>
    cases e;refine⟨ρ,l,h,ds1,h1,S,L,e1,fun ρ1 vs H1 R1 S1 E1 xa dx hx hdx hne=>?_⟩;have S2:Em X.K ρ1 h1 (KB H1 dx (.own xa)):=S1.fresh hdx;have hx2:KB H1 dx (.own xa) xa=none:=by rw[cB (Ne.symm hne)];exact hx
    have S3:=S2.own (p:=xa) (o:=.ins C dx []) (u:=.ins x []) hx2 ⟨C,dx,[],c1,SC,rfl,.nil⟩;have E3:Ext ρ1 (ρ1.add xa) H1 (KB (KB H1 dx (.own xa)) xa (.ins C dx [])):=(Ext.fresh hdx).trans (Ext.own hx2);have at3:(ρ1.add xa).v[h1.length]?=some xa:=by simp[Rg.add,<- S1.len]
    have R3:jm X.K (KB (KB H1 dx (.own xa)) xa (.ins C dx [])) (ρ1.add xa) (.ref h1.length::ds1) (.ref xa::(vs++[])):=.cons (Gm.mpr ⟨xa,rfl,at3⟩) (by rw[zf3];exact R1.ext E3);exact⟨ρ1.add xa,_,_,.non,h2,S3,R3,c.len _ _ _ e2,e2,fun ρ' v H' R' S' E'=>⟨Km.mp R',k ρ' _ H' (Gm.mpr ⟨xa,rfl,E'.get at3⟩) S' (E1.trans (E3.trans E'))⟩⟩
   | _=>cases e
theorem fT{pl:Sem Bool}(c:iH X.prog X.w X.K X.mg X.base k n x m F)(hr:Zm k' X.A)(hk:k<=k')(ho:EM X o fo)(ha:AM X (e::es) g)
 (he:xB e=true:=by rfl) (hpl:es.all xB=true:=by rfl)
 (ht:eval (.Call (.Attribute o m apos) (e::es) [] pos) X.env=(do
  let ov <- eval o X.env
  standAt apos.atName
  let (f,first) <- holding [ov] (getMethod ov m pl)
  callWith pos f first (backTo pos (starEach (e::es) X.env)) (backToKw pos (keywordEach [] X.env))):=by rfl):EM X (.Call (.Attribute o m apos) (e::es) [] pos) (FI x m F fo g):=by
 with_unfolding_all
  obtain⟨C,f,fd,ps,c1,c2,c3,c4,c5⟩:=c.ex;exact PE.imp (Gk (pl:=pl) ho c2 c3 c4 (hr.mono hk) c5 .nil (E:=E0) aP ha (jB he _ _) (uI hpl) ht) fun σ H Q zz=>by
   obtain⟨ρ,l,h,d,h',S,L,e,k⟩:=zz;obtain⟨⟨d1,h1⟩,e1,e⟩:=xA e;refine⟨ρ,l,h,d1,h1,S,L,e1,fun ρ1 v H1 R1 S1 E1=>?_⟩;cases d1 with
   | ref nn=>
    dsimp only at e;split at e
    · rename_i y fs q;obtain⟨⟨hy,hl⟩,e3⟩:=cV e;subst hy;obtain⟨⟨ds,h2⟩,e2,e4⟩:=xA e3;obtain⟨a,z,ha⟩:=Gm.mp R1;obtain⟨C',dx,vs,c1',g1,g2,g3⟩:=S1.ob nn a _ ha q;have cc:C'=C:=clsOf.inj c1' c1;subst cc;refine⟨a,dx,vs,z,g1,(sT g2 g3).2 hl,ρ1,l,h1,ds,h2,S1,L.ext E1,e2,fun ρ2 us H2 R2 S2 E2=>?_⟩;exact⟨ρ2,_,h2,d,h',S2,.cons (zm.ext E2 _ R1) (by rw[zf3];exact R2),c.len _ _ _ e4,e4,(k.ext E1).ext E2⟩
    · cases e
   | _=>cases e
end
structure rP(K:Frag)(x qual:Str)(st:Stmt)(dV:Value)(f:Addr)(fd:FuncData):Prop where
 ex:∃(oc:Value)(od:Option Addr)(kV doc pm:Value)(an:Option Addr)(cdv ct:Value)(osl:Array (Option Value)),
  fd=fnOf x qual (mF st) (AD st) (HA st) dV kV doc pm an cdv ct/\K.lookup f=some ⟨oc,od,.func fd,osl⟩/\PySem.W.codeIn K cdv qual=true
 kp:keepIn K (.ref f)=true
section
variable{P:Program}{w:World}{K:Frag}{mg:Str->Option Value}{base:Heap}
theorem Dg{x qual:Str}{st:Stmt}{f:Addr}{oc dV:Value}{od an:Option Addr}{osl:Array (Option Value)}{kV doc pm cdv ct:Value}(l:K.lookup f=some ⟨oc,od,.func (fnOf x qual (mF st) (AD st) (HA st) dV kV doc pm an cdv ct),osl⟩)
 (c:PySem.W.codeIn K cdv qual=true) (k:keepIn K (.ref f)=true):rP K x qual st dV f (fnOf x qual (mF st) (AD st) (HA st) dV kV doc pm an cdv ct):=⟨⟨oc,od,kV,doc,pm,an,cdv,ct,osl,rfl,l,c⟩,k⟩
theorem Tg{x qual:Str}{st:Stmt}{dV:Value}{f:Addr}{fd:FuncData}{N ps:List Str}{k:Nat}{body:RS}(F:rP K x qual st dV f fd)(S:dB N ps (HA st))
 (hb:∀(cdv:Value)(A:Around)(outer:List Env)(s:Shared)(H:Hp)(E:XK),Zm k (A.deeper (envOfC qual (HA st) s.heap.objs.size f cdv))->
  UH (AF dG P w K mg base N qual (HA st) f cdv A outer s H E).nox (AD st) body):Ql P w K mg base dG (k+1) f fd ps (SI K ps.length (jC ps.length N.length body)):=by
 with_unfolding_all
  obtain⟨oc,od,kV,doc,pm,an,cdv,ct,osl,rfl,lk,hcd⟩:=F.ex;refine MZ lk hcd S (fun vs H Q E h=>?_) fun A outer s H vs Q E hr h=>?_
  · obtain⟨ρ,ds,h,d,h',S,R,hl,_⟩:=h;rw[R.length,hl]
  · obtain⟨ρ,ds,h,d,h',S,R,hl,e,k⟩:=h;refine⟨_,(hb cdv A outer s H E hr).nox,?_⟩;unfold jC at e;rw[if_pos hl]at e;rw[<- hl]at e;split at e
    · rename_i d1 h1 q;cases e;exact⟨ρ,_,h,_,S,IN R,q,k⟩
    · rename_i l1 h1 q;cases e;exact⟨ρ,_,h,_,S,IN R,q,fun ρ' σ' H' S' L' E'=>k ρ' _ H' (Km.mpr rfl) S' E'⟩
    · cases e
structure SL(K:Frag)(mg:Str->Option Value)(x:Str)(st:Stmt)(ps:List Str)(dds:List Dt):Prop where
 ex:∃dV f fd ds Np,rP K x x st dV f fd/\mg x=some (.ref f)/\Binds K fd ps ds/\Vals Np ds/\∀H ρ,jm K H ρ dds Np
structure PL(P:Program)(w:World)(K:Frag)(mg:Str->Option Value)(base:Heap)(k n:Nat)(x:Str)(F:RB)(dds:List Dt):Prop where
 ex:∃f fd ps ds Np,Ql P w K mg base dG k f fd ps (SI K n F)/\mg x=some (.ref f)/\keepIn K (.ref f)=true/\Binds K fd ps ds/\Vals Np ds/\∀H ρ,jm K H ρ dds Np
 len:∀ds h r,F ds h=some r->ds.length=n
theorem Jw{x:Str}{st:Stmt}{N ps:List Str}{k n m:Nat}{body:RS}{dds:List Dt}(D:SL K mg x st ps dds)(S:dB N ps (HA st))(hn:ps.length=n)(hm:N.length=m)
 (hb:∀(f:Addr)(cdv:Value)(A:Around)(outer:List Env)(s:Shared)(H:Hp)(E:XK),Zm k (A.deeper (envOfC x (HA st) s.heap.objs.size f cdv))->
  UH (AF dG P w K mg base N x (HA st) f cdv A outer s H E).nox (AD st) body):PL P w K mg base (k+1) n x (jC n m body) dds:=by
 with_unfolding_all subst hn hm;obtain⟨dV,f,fd,ds,Np,hF,h1,h2,h3,h4⟩:=D.ex;exact⟨⟨f,fd,ps,ds,Np,Tg hF S fun cdv A outer s H E hr=>hb f cdv A outer s H E hr,h1,hF.kp,h2,h3,h4⟩,fun ds h r e=>pO e⟩
end
section
variable{X:Cx}{k k' n:Nat}{F:RB}{x:Str}{p pos:Pos}{e:Expr}{es:List Expr}{g:RA}{dds:List Dt}
theorem bx (c:PL X.prog X.w X.K X.mg X.base k n x F dds) (hr:Zm k' X.A) (hk:k<=k') (hg:Gl X x) (ha:AM X (e::es) g) (hdb:(x==("__debug__" :Str))=false:=by decide)
 (he:xB e=true:=by rfl) (hpl:es.all xB=true:=by rfl) :
 EM X (.Call (.Name x p) (e::es) [] pos) (FA F dds g):=by
 with_unfolding_all obtain⟨f,fd,ps,ds,Np,h1,h2,h3,h4,h5,h6⟩:=c.ex;exact HX h1 (hr.mono hk) hg h2 h3 h4 h5 h6 ha (fun F' e ds h r q=>c.len ds h r (e ▸ q)) hdb he hpl
end
def wB(K:Frag)(x:Str)(st:Stmt):Prop:=∃(f:Addr)(oc:Value)(od:Option Addr)(kV dc pm:Value)(an:Option Addr)(cd ct:Value)(sl:Array (Option Value)),nsIn K mainGlobals x=some (some (.ref f))/\
 K.lookup f=some ⟨oc,od,.func (fnOf x x (mF st) (AD st) (HA st) .none kV dc pm an cd ct),sl⟩/\PySem.W.codeIn K cd x=true/\keepIn K (.ref f)=true
def K0(K:Frag)(x:Str)(st:Stmt)(d:Int):Prop:=∃(f:Addr)(oc:Value)(od:Option Addr)(td:Addr)(kV dc pm:Value)(an:Option Addr)(cd ct:Value)(sl:Array (Option Value))(ot:Obj)(t:Tok)(nt:Nat),nsIn K mainGlobals x=some (some (.ref f))/\
 K.lookup f=some ⟨oc,od,.func (fnOf x x (mF st) (AD st) (HA st) (.ref td) kV dc pm an cd ct),sl⟩/\PySem.W.codeIn K cd x=true/\keepIn K (.ref f)=true/\K.lookup td=some ot/\ot.data=.seq #[.int d t] nt
def EL(K:Frag)(C:Addr)(m qual:Str)(st:Stmt):Prop:=∃(f:Addr)(oc:Value)(od:Option Addr)(kV dc pm:Value)(an:Option Addr)(cd ct:Value)(sl:Array (Option Value)),findIn K (.ref C) m=some (some (.ref f))/\PySem.W.isFn K (.ref f)=true/\
 K.lookup f=some ⟨oc,od,.func (fnOf m qual (mF st) (AD st) (HA st) .none kV dc pm an cd ct),sl⟩/\PySem.W.codeIn K cd qual=true/\keepIn K (.ref f)=true
structure QL(K:Frag)(x:Str)(C:Addr):Prop where
 ac:nsIn K mainGlobals x=some (some (.ref C))
 pg:PySem.W.plainGet K C Str.empty=true
 hd:PySem.W.hasDictIn K C=true
 po:PySem.W.plainOver K C=true
 sa:findIn K (.ref C) "__setattr__" =some (some (.builtin "object.__setattr__"))
 mkk:PySem.W.makesIn K C=true
 kc:keepIn K (.ref C)=true
section
variable{K:Frag}{h:Heap}{mg:Str->Option Value}{x m qual:Str}{st:Stmt}{ps:List Str}{C:Addr}{d:Int}
theorem AB(X:K.In h)(G:h.Ns mainGlobals mg)(D:wB K x st)(hb:∀(kV doc pm:Value)(an:Option Addr)(cdv ct:Value)(us:List Value),us.length=ps.length->bindArgs (fnOf x x (mF st) (AD st) (HA st) .none kV doc pm an cdv ct) ⟨us,[]⟩=pure (ps.zip us)):sB K mg x st ps:=by obtain⟨f,oc,od,kV,dc,pm,an,cd,ct,sl,a,l,c,k⟩:=D;have F:=GO l c k;exact⟨⟨f,_,F,PySem.W.mg_of X G a,F.binds hb⟩⟩
theorem Uy(X:K.In h)(G:h.Ns mainGlobals mg)(D:K0 K x st d)(hb:∀(s:Shared)(td:Addr)(ot:Obj)(t:Tok)(nt:Nat)(kV doc pm:Value)(an:Option Addr)(cdv ct:Value)(us:List Value),us.length=ps.length->s.heap.get? td=some ot->ot.data=.seq #[.int d t] nt->BindsTo s (fnOf x x (mF st) (AD st) (HA st) (.ref td) kV doc pm an cdv ct) ⟨us,[]⟩ (ps.zip (us++[]))):SL K mg x st ps []:=by obtain⟨f,oc,od,td,kV,dc,pm,an,cd,ct,sl,ot,t,nt,a,l,c,k,l2,e2⟩:=D;exact⟨⟨_,f,_,[],[],Dg l c k,PySem.W.mg_of X G a,fun s us KX hl=>hb s td ot t nt _ _ _ _ _ _ us (by simpa using hl) (KX _ _ l2) e2,.nil,fun _ _=>.nil⟩⟩
theorem zX(k:QL K x C)(D:EL K C m qual st)(hb:∀(kV doc pm:Value)(an:Option Addr)(cdv ct:Value)(us:List Value),us.length=ps.length->bindArgs (fnOf m qual (mF st) (AD st) (HA st) .none kV doc pm an cdv ct) ⟨us,[]⟩=pure (ps.zip us)):sL K x m qual st ps:=by obtain⟨f,oc,od,kV,dc,pm,an,cd,ct,sl,a,i,l,c,k'⟩:=D;have F:=GO l c k';exact⟨⟨C,f,_,k.ac,⟨k.pg,k.hd,k.po,k.sa⟩,⟨a,i,k'⟩,F,F.binds hb⟩⟩
theorem Vv (X:K.In h) (G:h.Ns mainGlobals mg) (k:QL K x C) (D:EL K C "__init__" qual st) (hb:∀(kV doc pm:Value) (an:Option Addr) (cdv ct:Value) (us:List Value),us.length=ps.length->bindArgs (fnOf "__init__" qual (mF st) (AD st) (HA st) .none kV doc pm an cdv ct) ⟨us,[]⟩=pure (ps.zip us)):CT K mg x qual st ps:=by obtain⟨f,oc,od,kV,dc,pm,an,cd,ct,sl,a,i,l,c,k'⟩:=D;have F:=GO l c k';exact⟨⟨C,f,_,k.ac,⟨k.mkk,a,i,k.kc⟩,F,PySem.W.mg_of X G k.ac,F.binds hb⟩⟩
theorem iT{f:Str}(k:QL K x C)(n:findIn K (.ref C) f=some none):CJ K x f:=⟨⟨C,k.ac,⟨k.pg,k.hd,k.po,k.sa⟩,n⟩⟩
end
section
variable{Q:List Value->Prop}
theorem kK(h:Q []):∀us:List Value,us.length=0->Q us | [],_=>h
theorem nG{n:Nat}(h:∀a us,us.length=n->Q (a::us)):∀us:List Value,us.length=n+1->Q us | a::us,e=>h a us (Nat.succ.inj e)
theorem len1(h:∀a,Q [a]):∀us:List Value,us.length=1->Q us:=nG fun a=>kK (h a)
theorem NC(h:∀a b,Q [a,b]):∀us:List Value,us.length=2->Q us:=nG fun a=>nG fun b=>kK (h a b)
theorem pH(h:∀a b c,Q [a,b,c]):∀us:List Value,us.length=3->Q us:=nG fun a=>nG fun b=>nG fun c=>kK (h a b c)
theorem lK(h:∀a b c d,Q [a,b,c,d]):∀us:List Value,us.length=4->Q us:=nG fun a=>nG fun b=>nG fun c=>nG fun d=>kK (h a b c d)
end
theorem qB{N P:List Str}{sc:Scope}(a:sc.kind=.function:=by exact rfl)(b:sc.isCoroutine=false:=by exact rfl)(c:sc.isGenerator=false:=by exact rfl)(d:N.Nodup:=by decide +kernel)(e:N.take P.length=P:=by exact rfl)
 (f:∀x∈P,sc.names.lookup x=some .local\/sc.names.lookup x=some .cell:=by decide +kernel) (g:∀y∈sc.names,y.2≠.free:=by decide +kernel):dB N P sc:=⟨a,b,c,d,e,f,g⟩
theorem VA {X:Cx} {k k' n:Nat} {x:Str} {F:RB} {e:Expr} {es:List Expr} {g:RA} {p pos:Pos} (c:UC X.prog X.w X.K X.mg X.base k n x F) (hr:Zm k' X.A) (ha:AM X (e::es) g) (hk:k<=k':=by decide) (hg:Gl X x:=by exact rfl) (hdb:(x==("__debug__" :Str))=false:=by decide)
 (he:xB e=true:=by rfl) (hpl:es.all xB=true:=by rfl):EM X (.Call (.Name x p) (e::es) [] pos) (FA F [] g):=BH c hr hk hg ha hdb he hpl
end SM
namespace L2
theorem nY:∀{bs:List Bool}{us:List Value},Vals (bs.map V.bl) us->us=bs.map Value.bool
 | [],_,h=>by cases h;rfl
 | b::bs,_,h=>by
  cases h with
  | cons r rr=>rw[nY rr];cases r;rfl
def Z4(K:Frag):V->List V->Hp->VK->Prop:=fun x vs H Q=>∃(a:Addr)(bs:List Bool)(b:Bool),x=.ref a/\vs=[.bl b]/\yp K H a (bs.map V.bl)/\Q (.int ((bs.countP (· ==b):Nat):Int)) H
section
variable{X:Cx}
theorem Aq:Z1 X "list.count" (Z4 X.K):=by
 intro pins s σ H x vs v us Q I rx rv h;obtain⟨p,bs,b,rfl,rfl,sq,q⟩:=h;cases rx;obtain⟨u,rfl,ru⟩:=cG rv;cases ru;obtain⟨its,rw',⟨⟨c1,d1,t1,sl1⟩,n,e0,k1,k2,k3⟩,z⟩:=I.list sq;simp only at k1 k2 k3;subst k1 k2 k3;have ib:=nY rw';refine call_meets PySem.F.slot_list_count ⟨_,e0,rfl⟩ PySem.F.entry_list_count (PySem.F.args_list_count_2 _ _) (SeqAt.list_countAt p its.toArray n none sl1 (.bool b) (isBoolOf b)) ⟨e0,fun y hy=>?_,?_⟩
 · have hy':y∈its:=by simpa using hy
   rw[ib]at hy';obtain⟨c,_,rfl⟩:=mem_map.mp hy';exact SeqAt.EqAt.bool_bool c b
 · have ec:its.toArray.toList.countP (isBoolOf b)=bs.countP (· ==b):=by rw[show its.toArray.toList=its from rfl,ib,countP_map];rfl
   rw[ec];exact⟨.int _,H,I.tok _,⟨_,rfl⟩,q⟩
end
end L2
namespace SM
def VS(fa fb:RE):RE:=fun l h=>(fa l h).bind fun r=>(fb l r.2).bind fun q=>match r.1,q.1 with
 | .lst xs,.bl b=>(uF xs).bind fun bs=>some (.int ((bs.countP (· ==b):Nat):Int),q.2)
 | _,_=>none
section
variable{X:Cx}{a b:Expr}{fa fb:RE}
theorem Oq {apos cpos:Pos} (ho:EM X a fa) (hb:EM X b fb) (hbase:attributeBase a "count" X.env (eval a X.env)=eval a X.env:=by rfl)
 (hline:(apos.endLine==cpos.line)=true:=by rfl) (hs:xB b=true:=by rfl) :
 EM X (.Call (.Attribute a "count" apos) [b] [] cpos) (VS fa fb):=by
 with_unfolding_all
  exact PE.imp (VJ PySem.F.plainAttrs_list PySem.F.slot_list_count PySem.F.type_list_count Aq ho (TC hb fE (jB hs _ _)) hbase (iL hs) hline (jB hs _ _)) fun σ H Q zz=>by
   obtain⟨ρ,l,h,d,h',S,L,e,k⟩:=zz;obtain⟨⟨d1,h1⟩,e1,e⟩:=xA e;obtain⟨⟨d2,h2⟩,e2,e⟩:=xA e;refine⟨ρ,l,h,d1,h1,S,L,e1,fun ρ1 v H1 R1 S1 E1=>?_⟩;cases d1 with
   | lst xs=>
    cases d2 with
    | bl b=>obtain⟨bs,q,e⟩:=xA e;cases e;obtain⟨x,ws,z,t,rs⟩:=Cm.mp R1;subst z;refine⟨.inl ⟨rfl,ws,t.sq⟩,ρ1,l,h1,.bl b,h2,S1,L.ext E1,e2,fun ρ2 y H2 R2 S2 E2=>?_⟩;rw[QS q]at rs;have ew:=rs.zbr;rw[ew]at t;exact⟨x,bs,b,rfl,by rw[Am.mp R2],(t.same E2.same).sq,k ρ2 _ H2 (qm.mpr rfl) S2 (E1.trans E2)⟩
    | _=>cases e
   | _=>cases e
end
theorem jh{P:Program}{w:World}{K:Frag}{mg:Str->Option Value}{base:Heap}{x:Str}{st:Stmt}{ps:List Str}{k n:Nat}(D:sB K mg x st ps):UC P w K mg base k n x (fun _ _=>none):=by
 with_unfolding_all
  obtain⟨f,fd,hF,hm,hB⟩:=D.ex;refine⟨⟨f,fd,ps,⟨fun vs H Q E h=>?_,fun A outer s H args us vs Q E hr he hb hv h=>?_⟩,hm,hF.kp,hB⟩,fun ds h r e=>by cases e⟩
  · obtain⟨ρ,ds,h,d,h',_,_,_,e,_⟩:=h;cases e
  · obtain⟨ρ,ds,h,d,h',_,_,_,e,_⟩:=h;cases e
end SM
namespace L2
section
variable{X:Cx}
end
end L2
namespace SM
noncomputable def iB{α β:Type}(o:Option α)(f:α->Option β):Option β:=o.bind f
@[simp] theorem oA{α β:Type}(a:α)(f:α->Option β):iB (some a) f=f a:=by rfl
@[simp] theorem Jb{α β:Type}(f:α->Option β):iB none f=none:=by rfl
@[simp] theorem Ub{α β:Type}{c:Prop}[Decidable c](a b:Option α)(k:α->Option β):iB (if c then a else b) k=if c then iB a k else iB b k:=by split<;>rfl
section
variable{l:LI}{h:HI}{f g fa fb fc:RE}
@[simp] theorem DA(d:Dt):eC d l h=some (d,h):=by rfl
noncomputable def YH(h:HI):Option (Option Dt)->Option (Dt×HI)
 | some (some d)=>some (d,h)
 | _=>none
@[simp] theorem uA(d:Dt):YH h (some (some d))=some (d,h):=by rfl
@[simp] theorem sA(i:Nat):eV i l h=YH h l[i]?:=by unfold eV YH;rfl
@[simp] theorem EA(op:TD):e2 op fa fb l h=iB (fa l h) fun r=>iB (fb l r.2) fun q=>op r.1 q.1 q.2:=by rfl
@[simp] theorem NA:kA l h=some ([],h):=by rfl
@[simp] theorem SA(r:RA):cA f r l h=iB (f l h) fun r'=>iB (r l r'.2) fun q=>some (r'.1::q.1,q.2):=by rfl
noncomputable def Td:Dt×HI->Option (Bool×HI)
 | (.bl b,h)=>some (b,h)
 | _=>none
@[simp] theorem fB(b:Bool):Td (.bl b,h)=some (b,h):=by rfl
@[simp] theorem gB:Dl f l h=iB (f l h) Td:=by
 unfold iB;unfold Dl
 congr 1
 funext r
 obtain⟨d,h⟩:=r;cases d<;>rfl
@[simp] theorem dP(t u:RT):LG t u l h=iB (t l h) fun r=>if r.1=true then some (true,r.2)else u l r.2:=by rfl
@[simp] theorem HJ(t:RT):lG t l h=iB (t l h) fun r=>some (!r.1,r.2):=by rfl
noncomputable def C0(u:RE)(l:LI):Dt×HI->Option (Dt×HI)
 | (.bl true,h)=>u l h
 | (.bl false,h)=>some (.bl false,h)
 | _=>none
noncomputable def yV(u:RE)(l:LI):Dt×HI->Option (Dt×HI)
 | (.bl true,h)=>some (.bl true,h)
 | (.bl false,h)=>u l h
 | _=>none
@[simp] theorem rS(u:RE)(b:Bool):C0 u l (.bl b,h)=if b=true then u l h else some (.bl false,h):=by cases b<;>rfl
@[simp] theorem rY(u:RE)(b:Bool):yV u l (.bl b,h)=if b=true then some (.bl true,h)else u l h:=by cases b<;>rfl
@[simp] theorem hU(u:RE):tH f u l h=iB (f l h) (C0 u l):=by
 unfold iB;unfold tH
 congr 1
 funext r
 obtain⟨d,h⟩:=r;cases d<;>(try rfl);rename_i b;cases b<;>rfl
@[simp] theorem XZ(u:RE):xV f u l h=iB (f l h) (yV u l):=by
 unfold iB;unfold xV
 congr 1
 funext r
 obtain⟨d,h⟩:=r;cases d<;>(try rfl);rename_i b;cases b<;>rfl
noncomputable def D0:Dt×HI->Option (Dt×HI)
 | (.bl b,h)=>some (.bl (!b),h)
 | _=>none
@[simp] theorem Ab(b:Bool):D0 (.bl b,h)=some (.bl (!b),h):=by rfl
@[simp] theorem Rn:qM f l h=iB (f l h) D0:=by
 unfold iB;unfold qM
 congr 1
 funext r
 obtain⟨d,h⟩:=r;cases d<;>rfl
@[simp] theorem WZ(t:RT):pM t f g l h=iB (t l h) fun r=>if r.1=true then f l r.2 else g l r.2:=by rfl
noncomputable def Ad(o':TD)(fc:RE)(l:LI)(q:Dt):Dt×HI->Option (Dt×HI)
 | (.bl true,h)=>(fc l h).bind fun r=>o' q r.1 r.2
 | (.bl false,h)=>some (.bl false,h)
 | _=>none
@[simp] theorem kh(o':TD)(q:Dt)(b:Bool):Ad o' fc l q (.bl b,h)=if b=true then iB (fc l h) fun r=>o' q r.1 r.2 else some (.bl false,h):=by cases b<;>rfl
@[simp] theorem Sh(o o':TD):tL o o' fa fb fc l h=iB (fa l h) fun r=>iB (fb l r.2) fun q=>iB (o r.1 q.1 q.2) (Ad o' fc l q.1):=by
 unfold iB;unfold tL
 congr 1
 funext r
 congr 1
 funext q
 congr 1
 funext z
 obtain⟨d,h⟩:=z;cases d<;>(try rfl);rename_i b;cases b<;>rfl
@[simp] theorem ND(r:RA):bB r l h=iB (r l h) fun r=>if r.1.length<=sizeLine then some (.tup r.1,r.2)else none:=by rfl
@[simp] theorem CL(r:RA):aE r l h=iB (r l h) fun r=>if r.1.length<=sizeLine then some (.lst r.1,r.2)else none:=by rfl
@[simp] theorem bH(r:RA):KF r l h=iB (r l h) fun r=>if r.1.length<=sizeLine then some (.ref r.2.length,r.2++[.lst r.1])else none:=by rfl
noncomputable def mV:Dt×HI->Option (Dt×HI)
 | (.int b,h)=>some (.int (-b),h)
 | _=>none
@[simp] theorem AX(b:Int):mV (.int b,h)=some (.int (-b),h):=by rfl
@[simp] theorem UZ:ZE f l h=iB (f l h) mV:=by
 unfold iB;unfold ZE
 congr 1
 funext r
 obtain⟨d,h⟩:=r;cases d<;>rfl
@[simp] theorem uD(i j:Int):lB (.int i) (.int j) h=some (.int (i+j),h):=by rfl
@[simp] theorem FU(i j:Int):fG (.int i) (.int j) h=some (.int (i-j),h):=by rfl
@[simp] theorem zL(i j:Int):JH (.int i) (.int j) h=some (.int (Builtin.bitAnd i j),h):=by rfl
@[simp] theorem Wn(i j:Int):KP (.int i) (.int j) h=some (.int (Builtin.bitOr i j),h):=by rfl
@[simp] theorem oV(i j:Int):mP (.int i) (.int j) h=some (.bl (decide (i<j)),h):=by rfl
@[simp] theorem MP(i j:Int):bM (.int i) (.int j) h=some (.bl (decide (i<=j)),h):=by rfl
@[simp] theorem cI(i j:Int):aM (.int i) (.int j) h=some (.bl (decide (j<i)),h):=by rfl
@[simp] theorem LP(i j:Int):OU (.int i) (.int j) h=some (.bl (decide (j<=i)),h):=by rfl
theorem xF{i j:Int}(c:zaJ i j):yC (.int i) (.int j) h=some (.int (i*j),h):=by simp only[yC,oI,if_pos c]
theorem zG{i j:Int}(c:YJ i j):cE (.int i) (.int j) h=some (.int (i/j),h):=by simp only[cE,oI,if_pos c]
theorem wF{i j:Int}(c:0<j):xC (.int i) (.int j) h=some (.int (i%j),h):=by simp only[xC,oI,if_pos c]
theorem CU{i j:Int}(c:DG i j):bI (.int i) (.int j) h=some (.int (i^j.toNat),h):=by simp only[bI,oI,if_pos c]
theorem DU{i j:Int}(c:DG i j):aJ (.int i) (.int j) h=some (.int (i*2^j.toNat),h):=by simp only[aJ,oI,if_pos c]
theorem EU{i j:Int}(c:0<=j):bJ (.int i) (.int j) h=some (.int (i/2^j.toNat),h):=by simp only[bJ,oI,if_pos c]
@[simp] theorem vE(i j:Int):IB (.int i) (.int j) h=some (.bl (decide (i=j)),h):=by show some (Dt.bl (decide (V.int i=V.int j)),h)=_;simp
@[simp] theorem qK(i j:Int):kE (.int i) (.int j) h=some (.bl (!decide (i=j)),h):=by show some (Dt.bl (!decide (V.int i=V.int j)),h)=_;simp
@[simp] theorem vF(i j:Str):IB (.str i) (.str j) h=some (.bl (decide (i=j)),h):=by show some (Dt.bl (decide (V.str i=V.str j)),h)=_;simp
@[simp] theorem XO(i j:Str):kE (.str i) (.str j) h=some (.bl (!decide (i=j)),h):=by show some (Dt.bl (!decide (V.str i=V.str j)),h)=_;simp
theorem M5{xs ys:List Dt}(c:YF xs ys=true):kE (.lst xs) (.lst ys) h=some (.bl (!bE xs ys),h):=by simp only[kE,if_pos c]
@[simp] theorem FL(d:Dt):sH d .non h=some (.bl (yG d),h):=by rfl
@[simp] theorem OD{α:Type}(xs:List α)(k:Nat):Gp xs (k:Int)=xs[k]?:=by
 unfold Gp QI;rw[if_pos (by omega)];by_cases hk:k<xs.length
 · rw[if_pos (by omega)];simp
 · rw[if_neg (by omega)];simp;omega
@[simp] theorem UB{α:Type}(xs:List α):Gp xs 0=xs[0]?:=OD xs 0
@[simp] theorem pD{α:Type}(xs:List α):Gp xs 1=xs[1]?:=OD xs 1
@[simp] theorem EI{α:Type}(xs:List α):Gp xs 2=xs[2]?:=OD xs 2
@[simp] theorem yB(xs:List Dt)(i:Int):BA (.tup xs) (.int i) h=(Gp xs i).map fun d=>(d,h):=by rfl
@[simp] theorem II(xs:List Dt)(i:Int):BA (.lst xs) (.int i) h=(Gp xs i).map fun d=>(d,h):=by rfl
theorem XF{n:Nat}{xs:List Dt}(e:h[n]?=some (.lst xs))(i:Int):BA (.ref n) (.int i) h=(Gp xs i).map fun d=>(d,h):=by simp only[BA,LD,TB,e,zfV]
noncomputable def uV(g:RS):Rs->Option Rs
 | .nx l h=>g l h
 | r=>some r
@[simp] theorem ZA(g:RS):uV g (.nx l h)=g l h:=by rfl
@[simp] theorem BE(g:RS)(d:Dt):uV g (.rt d h)=some (.rt d h):=by rfl
@[simp] theorem XA(f g:RS):qA f g l h=iB (f l h) (uV g):=by
 unfold iB;unfold qA
 congr 1
@[simp] theorem EC:EB l h=some (.nx l h):=by rfl
@[simp] theorem pB(i:Nat):IA i f l h=iB (f l h) fun r=>some (.nx (l.set i (some r.1)) r.2):=by rfl
@[simp] theorem eE:ED f l h=iB (f l h) fun r=>some (.nx l r.2):=by rfl
@[simp] theorem CB:KA f l h=iB (f l h) fun r=>some (.rt r.1 r.2):=by rfl
@[simp] theorem uB(t:RT)(f g:RS):GD t f g l h=iB (t l h) fun r=>if r.1=true then f l r.2 else g l r.2:=by rfl
noncomputable def XH:Option Rs->Option (Dt×HI)
 | some (.rt d h')=>some (d,h')
 | some (.nx _ h')=>some (.non,h')
 | _=>none
@[simp] theorem OB(d:Dt):XH (some (.rt d h))=some (d,h):=by rfl
@[simp] theorem Bg:XH (some (.nx l h))=some (.non,h):=by rfl
@[simp] theorem Nb{c:Prop}[Decidable c](a b:Option Rs):XH (if c then a else b)=if c then XH a else XH b:=by split<;>rfl
@[simp] theorem YB(n N:Nat)(body:RS)(ds:List Dt):jC n N body ds h=if ds.length=n then XH (body (ds.map some++List.replicate (N-n) none) h)else none:=by unfold jC XH;rfl
@[simp] theorem rB(F:RB)(dds:List Dt)(g:RA):FA F dds g l h=iB (g l h) fun r=>F (r.1++dds) r.2:=by rfl
@[simp] theorem Wb(F:RB)(dds:List Dt):DO F dds l h=F dds h:=by rfl
noncomputable def UP(go:LI->HI->Option Rs):Rs->Option Rs
 | .nx l h=>go l h
 | .ct l h=>go l h
 | .bk l h=>some (.nx l h)
 | .rt d h=>some (.rt d h)
@[simp] theorem Wt(go:LI->HI->Option Rs):UP go (.nx l h)=go l h:=by rfl
@[simp] theorem Tn(go:LI->HI->Option Rs):UP go (.ct l h)=go l h:=by rfl
@[simp] theorem HZ(go:LI->HI->Option Rs)(d:Dt):UP go (.rt d h)=some (.rt d h):=by rfl
def FC(bd:RG)(body:RS):List Dt->LI->HI->Option Rs
 | [],l,h=>some (.nx l h)
 | x::xs,l,h=>(bd x l).bind fun l1=>(body l1 h).bind (UP (FC bd body xs))
theorem NW(bd:RG)(body:RS)(xs:List Dt):∀(n k:Nat)(l:LI)(h:HI),n=(xs.length-k)+1->k<=xs.length->wC bd body (.vals xs) n k l h=FC bd body (xs.drop k) l h:=by
 intro n
 induction n with
 | zero=>intro k l h e;omega
 | succ n ih=>
  intro k l h e hk;unfold wC;simp only[Src.at];by_cases hl:k<xs.length
  · rw[getElem?_eq_getElem hl,drop_eq_getElem_cons hl];simp only[FC]
    congr 1
    funext l1
    congr 1
    funext r
    cases r with
    | nx l' h'=>exact ih (k+1) l' h' (by omega) (by omega)
    | ct l' h'=>exact ih (k+1) l' h' (by omega) (by omega)
    | bk l' h'=>rfl
    | rt d h'=>rfl
  · rw[getElem?_eq_none (by omega),drop_eq_nil_of_le (by omega)];rfl
theorem Rb{g:RI}{xs:List Dt}{h':HI}(e:g l h=some (.vals xs,h'))(bd:RG)(body:RS):OC g bd body l h=FC bd body xs l h':=by unfold OC;rw[e];simp only[zfV,Src.fuel];exact NW bd body xs _ 0 _ _ (by omega) (by omega)
@[simp] theorem jG(i:Nat)(d:Dt):JA i d l=some (l.set i (some d)):=by rfl
def uE(bd:RG)(body:RS)(l:LI):Src×HI->Option Rs:=fun r=>wC bd body r.1 (r.1.fuel r.2) 0 l r.2
@[simp] theorem AE(g:RI)(bd:RG)(body:RS):OC g bd body l h=iB (g l h) (uE bd body l):=by rfl
@[simp] theorem QG(bd:RG)(body:RS)(xs:List Dt):uE bd body l (.vals xs,h)=FC bd body xs l h:=by unfold uE;simp only[Src.fuel];exact NW bd body xs _ 0 _ _ (by omega) (by omega)
noncomputable def Q1:Dt×HI->Option (Src×HI)
 | (.int j,h)=>if -(2^62)<=j/\j<2^62 then some (.vals ((List.range j.toNat).map fun(k:Nat)=>Dt.int (k:Int)),h)else none
 | _=>none
@[simp] theorem cP:ZI f l h=iB (f l h) Q1:=by
 unfold iB;unfold ZI
 congr 1
 funext r
 obtain⟨d,h⟩:=r;cases d<;>rfl
theorem vG{j:Int}(a:-(2^62)<=j)(b:j<2^62):Q1 (.int j,h)=some (.vals ((List.range j.toNat).map fun(k:Nat)=>Dt.int (k:Int)),h):=if_pos ⟨a,b⟩
noncomputable def Od:Dt->Dt×HI->Option (Src×HI)
 | .int i,(.int j,h)=>if -(2^62)<=i/\i<2^62/\-(2^62)<=j/\j<2^62 then some (.vals ((List.range (j-i).toNat).map fun(k:Nat)=>Dt.int (i+(k:Int))),h)else none
 | _,_=>none
@[simp] theorem TZ:ZU f g l h=iB (f l h) fun r=>iB (g l r.2) (Od r.1):=by
 unfold iB;unfold ZU
 congr 1
 funext r
 obtain⟨d,h⟩:=r
 congr 1
 funext q
 obtain⟨d',h'⟩:=q;cases d<;>cases d'<;>rfl
theorem RY{i j:Int}(a:-(2^62)<=i)(a':i<2^62)(b:-(2^62)<=j)(b':j<2^62):Od (.int i) (.int j,h)=some (.vals ((List.range (j-i).toNat).map fun(k:Nat)=>Dt.int (i+(k:Int))),h):=if_pos ⟨a,a',b,b'⟩
def eJ:Dt×HI->Option (Src×HI)
 | (.lst xs,h)=>some (.vals xs,h)
 | (.ref n,h)=>if 0<Src.fuel (.rf n) h then some (.rf n,h)else none
 | _=>none
@[simp] theorem AH(xs:List Dt):eJ (.lst xs,h)=some (.vals xs,h):=by rfl
@[simp] theorem gE:zC f l h=iB (f l h) eJ:=by
 unfold iB;unfold zC aV;cases f l h with
 | none=>rfl
 | some r=>obtain⟨d,h⟩:=r;cases d<;>first | rfl | (simp[eJ,Src.fuel];done)
noncomputable def rE(bd:RG)(tc:RT)(te:RE):List Dt->LI->HI->Option (List Dt×HI)
 | [],_,h=>some ([],h)
 | x::xs,l,h=>(bd x l).bind fun l1=>(tc l1 h).bind fun b=>if b.1=true then(te l1 b.2).bind fun r=>(rE bd tc te xs l1 r.2).bind fun q=>some (r.1::q.1,q.2)
  else rE bd tc te xs l1 b.2
theorem G9(bd:RG)(tc:RT)(te:RE)(xs:List Dt)(hx:xs.length<sizeLine):∀(n k:Nat)(l:LI)(h:HI)(ys:List Dt),n=(xs.length-k)+1->k<=xs.length->ys.length<=k->
 qE bd tc te (.vals xs) n k l h ys=(rE bd tc te (xs.drop k) l h).bind fun q=>some (ys++q.1,q.2):=by
 intro n
 induction n with
 | zero=>intro k l h ys e;omega
 | succ n ih=>
  intro k l h ys e hk hy;unfold qE;simp only[Src.at];by_cases hl:k<xs.length
  · rw[getElem?_eq_getElem hl,drop_eq_getElem_cons hl];simp only[rE];cases bd xs[k] l with
    | none=>rfl
    | some l1=>
     simp only[zfV];cases tc l1 h with
     | none=>rfl
     | some b=>
      simp only[zfV];by_cases hb:b.1=true
      · simp only[if_pos hb];cases te l1 b.2 with
        | none=>rfl
        | some r=>
         simp only[zfV];rw[if_pos (by omega),ih (k+1) l1 r.2 _ (by omega) (by omega) (by simp;omega)];cases rE bd tc te (xs.drop (k+1)) l1 r.2 with
         | none=>rfl
         | some q=>simp
      · simp only[if_neg hb];exact ih (k+1) l1 b.2 ys (by omega) (by omega) (by omega)
  · rw[getElem?_eq_none (by omega),drop_eq_nil_of_le (by omega)];simp[rE]
def cF(bd:RG)(tc:RT)(te:RE)(l:LI):Src×HI->Option (List Dt×HI):=fun r=>qE bd tc te r.1 (r.1.fuel r.2) 0 l r.2 []
theorem RF(bd:RG)(tc:RT)(te:RE){xs:List Dt}(hx:xs.length<sizeLine):cF bd tc te l (.vals xs,h)=rE bd tc te xs l h:=by unfold cF;simp only[Src.fuel];rw[G9 bd tc te xs hx _ 0 _ _ _ (by omega) (by omega) (by simp)];rw[drop_zero];cases rE bd tc te xs l h<;>simp
@[simp] theorem ZG(g:RI)(bd:RG)(tc:RT)(te:RE)(cap:List (Option Nat)):PD g bd tc te cap l h=iB (iB (g l h) (cF bd tc te (zF l cap))) fun q=>some (.lst q.1,q.2):=by unfold iB;unfold PD cF;rw[Option.bind_assoc]
@[simp] theorem BS(g:RI)(bd:RG)(tc:RT)(te:RE)(cap:List (Option Nat)):dH g bd tc te cap l h=iB (iB (g l h) (cF bd tc te (zF l cap))) fun q=>some (.ref q.2.length,q.2++[.lst q.1]):=by unfold iB;unfold dH cF;rw[Option.bind_assoc]
@[simp] theorem uO:JB l h=some (true,h):=by rfl
@[simp] theorem TF:zF l []=[]:=by rfl
@[simp] theorem QF(cap:List (Option Nat)):zF l (none::cap)=none::zF l cap:=by rfl
@[simp] theorem WN(j:Nat)(cap:List (Option Nat)):zF l (some j::cap)=(l[j]?).join::zF l cap:=by rfl
theorem uS{α:Type}{te:RE}{i:Nat}{tc:RT}(D:α->Dt)(p:α->Bool)(F:α->Dt)(h:HI):∀(xs:List α)(l:LI),(∀x∈xs,tc (l.set i (some (D x))) h=some (p x,h)/\(p x=true->te (l.set i (some (D x))) h=some (F x,h)))->
 rE (JA i) tc te (xs.map D) l h=some ((xs.filter p).map F,h)
 | [],_,_=>rfl
 | x::xs,l,H=>by
  have hx:=H x (by simp);have ih:=uS D p F h xs (l.set i (some (D x))) (te:=te) (tc:=tc) (i:=i) (fun y hy=>by
   rw[set_set];exact H y (by simp[hy]))
  simp only[zfQ,rE,jG,zfV,hx.1];by_cases hp:p x=true
  · simp only[hp,if_true,hx.2 hp,zfV,ih];simp[hp]
  · simp only[hp];rw[if_neg (by simp),ih];simp[hp]
theorem XG{α:Type}{te:RE}{i:Nat}{tc:RT}(D:α->Dt)(F:α->Dt)(h:HI)(xs:List α)(l:LI)(H:∀x∈xs,tc (l.set i (some (D x))) h=some (true,h)/\te (l.set i (some (D x))) h=some (F x,h)) :
 rE (JA i) tc te (xs.map D) l h=some (xs.map F,h):=by
 rw[uS D (fun _=>true) F h xs l fun x hx=>⟨(H x hx).1,fun _=>(H x hx).2⟩,filter_eq_self.mpr (by simp)]
@[simp] theorem sD(F:Dt->HI->Option (Dt×HI)):VC F f l h=iB (f l h) fun r=>F r.1 r.2:=by rfl
@[simp] theorem eU(xs:List Dt):iD (.lst xs) h=some (.int xs.length,h):=by rfl
@[simp] theorem vZ(xs:List Dt):iD (.tup xs) h=some (.int xs.length,h):=by rfl
theorem xL{n:Nat}{xs:List Dt}(e:h[n]?=some (.lst xs)):iD (.ref n) h=some (.int xs.length,h):=by simp only[iD,LD,TB,e,zfU]
@[simp] theorem uZ(b:Bool):lH (.bl b) h=some (.int (if b=true then 1 else 0),h):=by rfl
@[simp] theorem Yv(ns:List Int):xE (ns.map Dt.int)=some ns:=by
 induction ns with
 | nil=>rfl
 | cons n ns ih=>simp[xE,ih]
theorem LZ(ns:List Int):YI (.lst (ns.map Dt.int)) h=some (.int ns.sum,h):=by simp[YI,TB]
theorem W6{ns:List Int}(c:ns ≠ []):mH (.lst (ns.map Dt.int)) h=some (.int (YC ns),h):=by simp[mH,TB,c]
theorem KZ{ns:List Int}(c:ns ≠ []):HG (.lst (ns.map Dt.int)) h=some (.int (hC ns),h):=by simp[HG,TB,c]
@[simp] theorem IU(T:String):VH T f l h=iB (f l h) fun r=>(BG r.2 r.1).map fun t=>(.bl (ZL t T),r.2):=by rfl
@[simp] theorem Vn (b:Int):BG h (.int b)=some "int" :=by rfl
@[simp] theorem gn:ZL "int" "int" =true:=by decide +kernel
@[simp] theorem Zb:ZL "int" "bool" =false:=by decide +kernel
@[simp] theorem Xn:pV l h=some (none,h):=by rfl
noncomputable def yd:Dt×HI->Option (Option Int×HI)
 | (.int i,h)=>some (some i,h)
 | _=>none
@[simp] theorem Gw(i:Int):yd (.int i,h)=some (some i,h):=by rfl
@[simp] theorem X4:OL f l h=iB (f l h) yd:=by
 unfold iB;unfold OL
 congr 1
 funext r
 obtain⟨d,h⟩:=r;cases d<;>rfl
@[simp] theorem l6(lo hi:RO):DP f lo hi l h=iB (f l h) fun r=>iB (lo l r.2) fun o=>iB (hi l o.2) fun u=>(TB u.2 r.1).map fun xs=>(.lst (GG xs o.1 u.1),u.2):=by rfl
@[simp] theorem Qw(xs:List Dt):TB h (.lst xs)=some xs:=by rfl
theorem Sw{n:Nat}{xs:List Dt}(e:h[n]?=some (.lst xs)):TB h (.ref n)=some xs:=by simp only[TB,e]
theorem Sq(xs:List Dt)(k:Nat):GG xs (some (k:Int)) none=xs.drop k:=by
 unfold GG HT.sIx;have e:(if(k:Int)<0 then((k:Int)+(xs.length:Int)).toNat else min (k:Int).toNat xs.length)=min k xs.length:=by rw[if_neg (by omega),Int.toNat_natCast]
 simp only[e];rw[take_of_length_le (by rw[length_drop];omega)];by_cases hk:k<=xs.length
 · rw[Nat.min_eq_left hk]
 · rw[Nat.min_eq_right (by omega),drop_eq_nil_of_le (zf1 _),drop_eq_nil_of_le (by omega)]
theorem K5{xs ys:List Dt}(c:xs.length+ys.length<=sizeLine):nK (.lst xs) (.lst ys) h=some (.lst (xs++ys),h):=by simp only[nK,TB,zfV,if_pos c]
def bV(q:Dt×HI):Dt->Option (Dt×HI)
 | .lst xs=>if AI xs q.1=true then(LF xs q.1).map fun j=>(.int (j:Nat),q.2)else none
 | _=>none
@[simp] theorem Eb(q:Dt×HI)(xs:List Dt):bV q (.lst xs)=if AI xs q.1=true then(LF xs q.1).map fun j=>(.int (j:Nat),q.2)else none:=by rfl
@[simp] theorem Gn:NO f g l h=iB (f l h) fun r=>iB (g l r.2) fun q=>bV q r.1:=by
 unfold iB;unfold NO
 congr 1
@[simp] theorem tI:sizeLine=16777216:=by rfl
noncomputable def xP(g:RE)(l:LI):Dt×HI->Option (Dt×HI)
 | (.ref n,h)=>(match h[n]? with
  | some (.lst _)=>(g l h).bind fun q=>match q.2[n]? with
   | some (.lst xs)=>if xs.length<sizeLine then some (.non,q.2.set n (.lst (xs++[q.1])))else none
   | _=>none
  | _=>none)
 | _=>none
@[simp] theorem nF:mE f g l h=iB (f l h) (xP g l):=by
 unfold iB;unfold mE
 congr 1
 funext r
 obtain⟨d,h⟩:=r;cases d<;>(try rfl)
theorem PF{n:Nat}{xs ys:List Dt}{d:Dt}{h':HI}(e:h[n]?=some (.lst ys))(eg:g l h=some (d,h'))(e':h'[n]?=some (.lst xs))(c:xs.length<sizeLine):xP g l (.ref n,h)=some (.non,h'.set n (.lst (xs++[d]))):=by simp only[xP,e,eg,zfV,e',if_pos c]
end
noncomputable def Pass(I:LI->HI->Prop):Rs->Prop
 | .nx l h=>I l h
 | .ct l h=>I l h
 | _=>False
theorem ak{α:Type}{i:Nat}{body:RS}(D:α->Dt)(I:LI->HI->Prop)(xs:List α)(H:∀x∈xs,∀l h,I l h->∃r,body (l.set i (some (D x))) h=some r/\Pass I r) :
 ∀l h,I l h->∃l' h',FC (JA i) body (xs.map D) l h=some (.nx l' h')/\I l' h':=by
 induction xs with
 | nil=>intro l h i;exact⟨l,h,rfl,i⟩
 | cons x xs ih=>
  intro l h i;obtain⟨r,e,p⟩:=H x (by simp) l h i;cases r with
  | nx l2 h2=>obtain⟨l',h',e',i'⟩:=ih (fun y hy=>H y (by simp[hy])) l2 h2 p;exact⟨l',h',by simp[FC,e,e'],i'⟩
  | ct l2 h2=>obtain⟨l',h',e',i'⟩:=ih (fun y hy=>H y (by simp[hy])) l2 h2 p;exact⟨l',h',by simp[FC,e,e'],i'⟩
  | bk l2 h2=>exact p.elim
  | rt d h2=>exact p.elim
theorem eS{α β:Type}{i:Nat}{body:RS}(D:α->Dt)(S:β->LI->HI->Prop)(f:β->α->β)(xs:List α)(H:∀x∈xs,∀b l h,S b l h->∃r,body (l.set i (some (D x))) h=some r/\Pass (S (f b x)) r) :
 ∀b l h,S b l h->∃l' h',FC (JA i) body (xs.map D) l h=some (.nx l' h')/\S (xs.foldl f b) l' h':=by
 induction xs with
 | nil=>intro b l h i;exact⟨l,h,rfl,i⟩
 | cons x xs ih=>
  intro b l h i;obtain⟨r,e,p⟩:=H x (by simp) b l h i;cases r with
  | nx l2 h2=>obtain⟨l',h',e',i'⟩:=ih (fun y hy=>H y (by simp[hy])) _ l2 h2 p;exact⟨l',h',by simp[FC,e,e'],i'⟩
  | ct l2 h2=>obtain⟨l',h',e',i'⟩:=ih (fun y hy=>H y (by simp[hy])) _ l2 h2 p;exact⟨l',h',by simp[FC,e,e'],i'⟩
  | bk l2 h2=>exact p.elim
  | rt d h2=>exact p.elim
section
variable{l:LI}{h:HI}{f g:RE}
@[simp] theorem Bb(bs:List Bool):uF (bs.map Dt.bl)=some bs:=by
 induction bs with
 | nil=>rfl
 | cons n ns ih=>simp[uF,ih]
@[simp] theorem OY(i j:Nat)(a b:Dt):dF i j (.tup [a,b]) l=some ((l.set i (some a)).set j (some b)):=by rfl
end
theorem Vt{α:Type}{i n:Nat}{body:RS}(D:α->Dt)(I:LI->HI->Prop)(xs:List α)(hI:∀l h,I l h->h[n]?=some (.lst (xs.map D)))(H:∀x∈xs,∀l h,I l h->∃r,body (l.set i (some (D x))) h=some r/\Pass I r)
 (l:LI) (h:HI) (h0:I l h):∃l' h',uE (JA i) body l (.rf n,h)=some (.nx l' h')/\I l' h':=by
 have go:∀(f k:Nat)(l:LI)(h:HI),I l h->f=xs.length-k+1->k<=xs.length->∃l' h',wC (JA i) body (.rf n) f k l h=some (.nx l' h')/\I l' h':=by
  intro f
  induction f with
  | zero=>intro k l h _ e;omega
  | succ f ih=>
   intro k l h i0 e hk;unfold wC;simp only[Src.at,hI l h i0,getElem?_map];by_cases hl:k<xs.length
   · rw[getElem?_eq_getElem hl];obtain⟨r,e1,p1⟩:=H xs[k] (getElem_mem hl) l h i0;simp only[zfU,jG,zfV,e1];cases r with
     | nx l2 h2=>exact ih (k+1) l2 h2 p1 (by omega) (by omega)
     | ct l2 h2=>exact ih (k+1) l2 h2 p1 (by omega) (by omega)
     | bk l2 h2=>exact p1.elim
     | rt d h2=>exact p1.elim
   · rw[getElem?_eq_none (by omega)];exact⟨l,h,rfl,i0⟩
 have hf:Src.fuel (.rf n) h=xs.length-0+1:=by simp only[Src.fuel,hI l h h0,length_map];omega
 unfold uE;exact go _ 0 l h h0 hf (Nat.zero_le _)
theorem OF{h:HI}{n:Nat}{xs:List Dt}(e:h[n]?=some (.lst xs)):eJ (.ref n,h)=some (.rf n,h):=by
 have:0<Src.fuel (.rf n) h:=by simp only[Src.fuel,e];omega
 simp only[eJ,if_pos this]
section
variable{l:LI}{h:HI}{f g fe fo fi fa fb:RE}
def RP(l:LI)(v o:Dt):Dt×HI->Option Rs
 | (.int k,h)=>(match o with
  | .ref n=>(match h[n]? with
   | some (.lst xs)=>(QI xs.length k).bind fun j=>some (.nx l (h.set n (.lst (xs.set j v))))
   | _=>none)
  | _=>none)
 | _=>none
@[simp] theorem QY:yI fe fo fi l h=iB (fe l h) fun v=>iB (fo l v.2) fun o=>iB (fi l o.2) (RP l v.1 o.1):=by
 unfold iB yI
 congr 1
 funext v
 congr 1
 funext o
 congr 1
 funext i
 obtain⟨d,h⟩:=o;obtain⟨k,h⟩:=i;cases k<;>cases d<;>rfl
theorem Vk{n k:Nat}(hk:k<n):QI n (k:Int)=some k:=by unfold QI;rw[if_pos (by omega),if_pos (by omega)];simp
theorem cO{n k:Nat}{xs:List Dt}{v:Dt}(e:h[n]?=some (.lst xs))(hk:k<xs.length):RP l v (.ref n) (.int (k:Int),h)=some (.nx l (h.set n (.lst (xs.set k v)))):=by simp only[RP,e,Vk hk,zfV]
@[simp] theorem SZ(t:RG):QP t fe l h=iB (fe l h) fun v=>iB (t v.1 l) fun l'=>some (.nx l' v.2):=by rfl
@[simp] theorem Uh(i j k:Nat)(a b c:Dt):UO i j k (.tup [a,b,c]) l=some (((l.set i (some a)).set j (some b)).set k (some c)):=by rfl
def OP(a:Dt):Dt×HI->Option (Dt×HI)
 | (.int i,h)=>if -(2^62)<=i/\i<=1000000 then some (.lst (KG a i),h)else none
 | _=>none
def JU(a:Dt):Dt×HI->Option (Dt×HI)
 | (.int i,h)=>if -(2^62)<=i/\i<=1000000 then some (.ref h.length,h++[.lst (KG a i)])else none
 | _=>none
@[simp] theorem Yn:XI fa fb l h=iB (fa l h) fun a=>iB (fb l a.2) (OP a.1):=by
 unfold iB XI
 congr 1
 funext v
 congr 1
 funext o
 obtain⟨d,h⟩:=o;cases d<;>rfl
@[simp] theorem Qn:PJ fa fb l h=iB (fa l h) fun a=>iB (fb l a.2) (JU a.1):=by
 unfold iB PJ
 congr 1
 funext v
 congr 1
 funext o
 obtain⟨d,h⟩:=o;cases d<;>rfl
theorem cY(a:Dt){k:Nat}(hk:k<=1000000):OP a (.int (k:Int),h)=some (.lst (List.replicate k a),h):=by unfold OP;simp only;rw[if_pos ⟨by omega,by omega⟩];simp[KG]
theorem DN(a:Dt){k:Nat}(hk:k<=1000000):JU a (.int (k:Int),h)=some (.ref h.length,h++[.lst (List.replicate k a)]):=by unfold JU;simp only;rw[if_pos ⟨by omega,by omega⟩];simp[KG]
theorem T6(bs:List Bool):VL (.lst (bs.map Dt.bl)) h=some (.bl (bs.any id),h):=by simp[VL,TB]
@[simp] theorem AV(i j:Int):oK (.int i) (.int j) h=some (.bl (decide (i=j)),h):=by
 have r:∀k:Int,PB h 8 (.int k)=some (.int k):=fun _=>by simp[PB]
 simp only[oK,r,zfV,vE,zfU]
theorem I0{a b:Dt}{xs ys:List Dt}(e1:PB h 8 a=some (.lst xs))(e2:PB h 8 b=some (.lst ys))(c:YF xs ys=true):aI a b h=some (.bl (!bE xs ys),h):=by simp only[aI,e1,e2,zfV,M5 c,zfU]
def Vd(go:RS)(body:RS)(l:LI):Bool×HI->Option Rs:=fun c=>if c.1=true then(body l c.2).bind (UP go)else some (.nx l c.2)
theorem f9(t:RT)(body:RS)(n:Nat):bG t body (n+1) l h=iB (t l h) (Vd (bG t body n) body l):=by
 unfold iB;rw[bG]
 congr 1
noncomputable def iK(fa:RE)(l:LI):Dt×HI->Option (Dt×HI)
 | (.ref n,h)=>(match h[n]? with
  | some (.lst _)=>(fa l h).bind fun q=>match q.1 with
   | .ref m=>(match q.2[n]?,q.2[m]? with
    | some (.lst xs),some (.lst ys)=>if xs.length+ys.length<=sizeLine then some (.non,q.2.set n (.lst (xs++ys)))else none
    | _,_=>none)
   | _=>none
  | _=>none)
 | _=>none
@[simp] theorem aO:pI fo fa l h=iB (fo l h) (iK fa l):=by
 unfold iB pI
 congr 1
 funext r
 obtain⟨d,h⟩:=r;cases d<;>(try rfl)
theorem JX{n m:Nat}{xs ys zs:List Dt}{h':HI}(e:h[n]?=some (.lst zs))(eg:fa l h=some (.ref m,h'))(e1:h'[n]?=some (.lst xs))(e2:h'[m]?=some (.lst ys))(c:xs.length+ys.length<=sizeLine):iK fa l (.ref n,h)=some (.non,h'.set n (.lst (xs++ys))):=by simp only[iK,e,eg,zfV,e1,e2,if_pos c]
@[simp] theorem jM(F:Dt->Dt->Option Dt):kP F fa fb l h=iB (fa l h) fun r=>iB (fb l r.2) fun q=>(F r.1 q.1).map fun d=>(d,q.2):=by rfl
@[simp] theorem yZ(i j:Int):IL (.int i) (.int j)=some (.int (max i j)):=by
 unfold IL;simp only
 congr 2
 split<;>omega
@[simp] theorem Yb(i j:Int):QJ (.int i) (.int j)=some (.int (min i j)):=by
 unfold QJ;simp only
 congr 2
 split<;>omega
end
theorem Qx{bd:RG}{tc:RT}{te:RE}{n:Nat}{xs:List Dt}(p1:∀l h b h',tc l h=some (b,h')->h[n]?=some (.lst xs)->h'[n]?=some (.lst xs))(p2:∀l h b h',te l h=some (b,h')->h[n]?=some (.lst xs)->h'[n]?=some (.lst xs)) :
 ∀(m k:Nat)(l:LI)(h:HI)(ys:List Dt),h[n]?=some (.lst xs)->qE bd tc te (.rf n) m k l h ys=qE bd tc te (.vals xs) m k l h ys:=by
 intro m
 induction m with
 | zero=>intros;rfl
 | succ m ih=>
  intro k l h ys e;unfold qE;simp only[Src.at,e];cases xs[k]? with
  | none=>rfl
  | some d=>
   simp only;cases bd d l with
   | none=>rfl
   | some l1=>
    simp only[zfV];cases q:tc l1 h with
    | none=>rfl
    | some b=>
     obtain⟨b,h1⟩:=b;have e1:=p1 _ _ _ _ q e;simp only[zfV];split
     · cases q2:te l1 h1 with
       | none=>rfl
       | some r=>
        obtain⟨r,h2⟩:=r;have e2:=p2 _ _ _ _ q2 e1;simp only[zfV];split
        · exact ih _ _ _ _ e2
        · rfl
     · exact ih _ _ _ _ e1
theorem tS{bd:RG}{tc:RT}{te:RE}{n:Nat}{xs:List Dt}{l:LI}{h:HI}(e:h[n]?=some (.lst xs))(hx:xs.length<sizeLine)(p1:∀l h b h',tc l h=some (b,h')->h[n]?=some (.lst xs)->h'[n]?=some (.lst xs))(p2:∀l h b h',te l h=some (b,h')->h[n]?=some (.lst xs)->h'[n]?=some (.lst xs)) :
 cF bd tc te l (.rf n,h)=rE bd tc te xs l h:=by
 rw[<- RF bd tc te hx];unfold cF;have e1:Src.fuel (.rf n) h=xs.length+1:=by simp only[Src.fuel,e]
 have e2:Src.fuel (.vals xs) h=xs.length+1:=by simp only[Src.fuel]
 simp only[e1,e2];exact Qx p1 p2 _ _ _ _ _ e
theorem ER{α:Type}{te:RE}{i:Nat}(D:α->Dt)(O:α->Ob)(h0:HI):∀(xs:List α)(l:LI)(e:HI),(∀x∈xs,∀e,te (l.set i (some (D x))) (h0++e)=some (.ref (h0++e).length,h0++e++[O x]))->
 rE (JA i) JB te (xs.map D) l (h0++e)=some ((List.range xs.length).map (fun(k:Nat)=>Dt.ref ((h0++e).length+k)),h0++e++xs.map O)
 | [],_,e,_=>by simp[rE]
 | x::xs,l,e,H=>by
  have hx:=H x (by simp) e;have ih:=ER D O h0 xs (l.set i (some (D x))) (e++[O x]) (te:=te) (i:=i) (fun y hy e=>by
   rw[set_set];exact H y (by simp[hy]) e)
  simp only[zfQ,rE,jG,zfV,uO,hx,if_true];rw[<- append_assoc]at ih;rw[ih];simp only[zfV,zfO,range_succ_eq_map,zfQ,map_map,append_assoc,zfX,zfW]
  congr 2
  rw[Nat.add_zero]
  congr 1
  refine map_congr_left fun k _=>?_
  simp;omega
theorem qL{α:Type}{i:Nat}{body:RS}(D:α->Dt)(S:Nat->LI->HI->Prop):∀(xs:List α)(k0:Nat)(_:∀(k:Nat) x,xs[k]?=some x->∀l h,S (k0+k) l h->∃r,body (l.set i (some (D x))) h=some r/\Pass (S (k0+k+1)) r)(l:LI)(h:HI),S k0 l h->
 ∃l' h',FC (JA i) body (xs.map D) l h=some (.nx l' h')/\S (k0+xs.length) l' h'
 | [],k0,_,l,h,s=>⟨l,h,rfl,s⟩
 | x::xs,k0,H,l,h,s=>by
  obtain⟨r,e,p⟩:=H 0 x rfl l h s;have H':∀(k:Nat) y,xs[k]?=some y->∀l h,S (k0+1+k) l h->∃r,body (l.set i (some (D y))) h=some r/\Pass (S (k0+1+k+1)) r:=by intro k y hy l h s;have:=H (k+1) y (by simpa using hy) l h (by rw[show k0+(k+1)=k0+1+k by omega];exact s);rw[show k0+(k+1)+1=k0+1+k+1 by omega]at this;exact this
  cases r with
  | nx l2 h2=>obtain⟨l',h',e',i'⟩:=qL D S xs (k0+1) H' l2 h2 p;exact⟨l',h',by simp[FC,e,e'],by rw[zfO,show k0+(xs.length+1)=k0+1+xs.length by omega];exact i'⟩
  | ct l2 h2=>obtain⟨l',h',e',i'⟩:=qL D S xs (k0+1) H' l2 h2 p;exact⟨l',h',by simp[FC,e,e'],by rw[zfO,show k0+(xs.length+1)=k0+1+xs.length by omega];exact i'⟩
  | bk l2 h2=>exact p.elim
  | rt d h2=>exact p.elim
theorem OK{i:Nat}{body:RS}(D:Nat->Dt)(S:Nat->LI->HI->Prop)(n:Nat)(H:∀k<n,∀l h,S k l h->∃r,body (l.set i (some (D k))) h=some r/\Pass (S (k+1)) r)(l:LI)(h:HI)(s:S 0 l h) :
 ∃l' h',FC (JA i) body ((List.range n).map D) l h=some (.nx l' h')/\S n l' h':=by
 obtain⟨l',h',e,i'⟩:=qL (i:=i) (body:=body) D S (List.range n) 0 (fun k x hx l h s=>by
  obtain⟨h1,h2⟩:=zfY hx;simp at h1 h2;subst h2;rw[Nat.zero_add]at s ⊢;exact H k h1 l h s) l h s
 exact⟨l',h',e,by simpa using i'⟩
theorem fP{α:Type}{i n:Nat}{body:RS}(D:α->Dt)(S:Nat->LI->HI->Prop)(xs:List α)(hS:∀k l h,S k l h->h[n]?=some (.lst (xs.map D)))(H:∀(k:Nat) x,xs[k]?=some x->∀l h,S k l h->∃r,body (l.set i (some (D x))) h=some r/\Pass (S (k+1)) r)
 (l:LI) (h:HI) (h0:S 0 l h):∃l' h',uE (JA i) body l (.rf n,h)=some (.nx l' h')/\S xs.length l' h':=by
 have go:∀(f k:Nat)(l:LI)(h:HI),S k l h->f=xs.length-k+1->k<=xs.length->∃l' h',wC (JA i) body (.rf n) f k l h=some (.nx l' h')/\S xs.length l' h':=by
  intro f
  induction f with
  | zero=>intro k l h _ e;omega
  | succ f ih=>
   intro k l h i0 e hk;unfold wC;simp only[Src.at,hS k l h i0,getElem?_map];by_cases hl:k<xs.length
   · rw[getElem?_eq_getElem hl];obtain⟨r,e1,p1⟩:=H k xs[k] (getElem?_eq_getElem hl) l h i0;simp only[zfU,jG,zfV,e1];cases r with
     | nx l2 h2=>exact ih (k+1) l2 h2 p1 (by omega) (by omega)
     | ct l2 h2=>exact ih (k+1) l2 h2 p1 (by omega) (by omega)
     | bk l2 h2=>exact p1.elim
     | rt d h2=>exact p1.elim
   · rw[getElem?_eq_none (by omega)];have:k=xs.length:=by omega
     subst this;exact⟨l,h,rfl,i0⟩
 have hf:Src.fuel (.rf n) h=xs.length-0+1:=by simp only[Src.fuel,hS 0 l h h0,length_map];omega
 unfold uE;exact go _ 0 l h h0 hf (Nat.zero_le _)
section
variable{l:LI}{h:HI}{fo fi fe f fa:RE}
noncomputable def GP(fi fe:RE)(l:LI):Dt×HI->Option (Dt×HI)
 | (.ref n,h)=>(match h[n]? with
  | some (.lst _)=>(fi l h).bind fun i=>(fe l i.2).bind fun q=>match i.1,q.2[n]? with
   | .int k,some (.lst xs)=>if 0<=k/\k<=1000000/\xs.length<sizeLine then some (.non,q.2.set n (.lst (xs.take k.toNat++q.1::xs.drop k.toNat)))else none
   | _,_=>none
  | _=>none)
 | _=>none
@[simp] theorem Gz:mO fo fi fe l h=iB (fo l h) (GP fi fe l):=by
 unfold iB mO
 congr 1
 funext r
 obtain⟨d,h⟩:=r;cases d<;>(try rfl)
theorem Xv{n k:Nat}{xs:List Dt}{d:Dt}(e:h[n]?=some (.lst xs))(ei:fi l h=some (.int (k:Nat),h))(ee:fe l h=some (d,h))(c:xs.length<sizeLine)(ck:k<=1000000):GP fi fe l (.ref n,h)=some (.non,h.set n (.lst (xs.take k++d::xs.drop k))):=by have:0<=((k:Nat):Int)/\((k:Nat):Int)<=1000000/\xs.length<sizeLine:=⟨by omega,by omega,c⟩;simp only[GP,e,ei,zfV,ee,if_pos this,Int.toNat_natCast]
noncomputable def NP(fa:RE)(l:LI):Dt×HI->Option (Dt×HI)
 | (.ref n,h)=>(match h[n]? with
  | some (.lst _)=>(fa l h).bind fun q=>match q.1 with
   | .int 0=>(match q.2[n]? with
    | some (.lst (x::xs))=>some (x,q.2.set n (.lst xs))
    | _=>none)
   | _=>none
  | _=>none)
 | _=>none
@[simp] theorem Vh:FO fo fa l h=iB (fo l h) (NP fa l):=by
 unfold iB FO
 congr 1
 funext r
 obtain⟨d,h⟩:=r;cases d<;>(try rfl)
theorem Fv{n:Nat}{x:Dt}{xs:List Dt}(e:h[n]?=some (.lst (x::xs)))(ea:fa l h=some (.int 0,h)):NP fa l (.ref n,h)=some (x,h.set n (.lst xs)):=by simp only[NP,e,ea,zfV]
noncomputable def fV:Dt×HI->Option (Dt×HI)
 | (.int b,h)=>some (.int (Builtin.bitNot b),h)
 | _=>none
@[simp] theorem Zv(b:Int):fV (.int b,h)=some (.int (Builtin.bitNot b),h):=by rfl
@[simp] theorem W4:nM f l h=iB (f l h) fV:=by
 unfold iB nM
 congr 1
 funext r
 obtain⟨d,h⟩:=r;cases d<;>rfl
@[simp] theorem Wh(n:Nat)(t:RT)(body:RS):zO n t body l h=bG t body n l h:=by rfl
end
noncomputable def BI(I:LI->HI->Prop)(E:Dt->HI->Prop):Rs->Prop
 | .nx l h=>I l h
 | .rt d h=>E d h
 | _=>False
theorem nX{t:RT}{body:RS}(I:Nat->LI->HI->Prop)(N:LI->HI->Prop)(E:Dt->HI->Prop)
 (H:∀m l h,I m l h->∃b h1,t l h=some (b,h1)/\if b=true then ∃r,body l h1=some r/\BI (fun l' h'=>∃m',m'<m/\I m' l' h') E r else N l h1) :
 ∀(n m:Nat)(l:LI)(h:HI),I m l h->m<n->∃r,bG t body n l h=some r/\BI N E r:=by
 intro n
 induction n with
 | zero=>intro m l h _ hn;omega
 | succ n ih=>
  intro m l h i hn;obtain⟨b,h1,e1,q⟩:=H m l h i;rw[f9,e1,oA];unfold Vd;cases b with
  | false=>rw[if_neg zf0]at q ⊢;exact⟨_,rfl,q⟩
  | true=>
   rw[if_pos rfl]at q ⊢;obtain⟨r,e2,q⟩:=q;simp only[e2,zfV];cases r with
   | nx l' h'=>obtain⟨m',hm,i'⟩:=q;exact ih m' l' h' i' (by omega)
   | rt d h'=>exact⟨_,rfl,q⟩
   | bk l' h'=>exact q.elim
   | ct l' h'=>exact q.elim
theorem GZ{α:Type}{i n:Nat}{body:RS}(D:α->Dt)(S:Nat->LI->HI->Prop)(E:Dt->HI->Prop)(xs:List α)(hS:∀k l h,S k l h->h[n]?=some (.lst (xs.map D)))(H:∀(k:Nat) x,xs[k]?=some x->∀l h,S k l h->∃r,body (l.set i (some (D x))) h=some r/\BI (S (k+1)) E r)
 (l:LI) (h:HI) (h0:S 0 l h):∃r,uE (JA i) body l (.rf n,h)=some r/\BI (S xs.length) E r:=by
 have go:∀(f k:Nat)(l:LI)(h:HI),S k l h->f=xs.length-k+1->k<=xs.length->∃r,wC (JA i) body (.rf n) f k l h=some r/\BI (S xs.length) E r:=by
  intro f
  induction f with
  | zero=>intro k l h _ e;omega
  | succ f ih=>
   intro k l h i0 e hk;unfold wC;simp only[Src.at,hS k l h i0,getElem?_map];by_cases hl:k<xs.length
   · rw[getElem?_eq_getElem hl];obtain⟨r,e1,p1⟩:=H k xs[k] (getElem?_eq_getElem hl) l h i0;simp only[zfU,jG,zfV,e1];cases r with
     | nx l2 h2=>exact ih (k+1) l2 h2 p1 (by omega) (by omega)
     | rt d h2=>exact⟨_,rfl,p1⟩
     | bk l2 h2=>exact p1.elim
     | ct l2 h2=>exact p1.elim
   · rw[getElem?_eq_none (by omega)];have:k=xs.length:=by omega
     subst this;exact⟨_,rfl,i0⟩
 have hf:Src.fuel (.rf n) h=xs.length-0+1:=by simp only[Src.fuel,hS 0 l h h0,length_map];omega
 unfold uE;exact go _ 0 l h h0 hf (Nat.zero_le _)
section
variable{l:LI}{h:HI}{f g fo fe:RE}{ga:RA}
noncomputable def Z3(c:Nat):Dt->Dt×HI->Option (Src×HI)
 | .int i,(.int j,h)=>if 0<=i/\i<2^61/\0<=j/\j<2^61/\0<c/\c<1000 then some (.vals ((List.range ((j-i+(c:Int)-1)/(c:Int)).toNat).map fun(k:Nat)=>Dt.int (i+(k:Int)*(c:Int))),h)else none
 | _,_=>none
@[simp] theorem m6(c:Nat):F1 f g c l h=iB (f l h) fun r=>iB (g l r.2) (Z3 c r.1):=by
 unfold iB;unfold F1
 congr 1
 funext r
 obtain⟨d,h⟩:=r
 congr 1
 funext q
 obtain⟨d',h'⟩:=q;cases d<;>cases d'<;>rfl
def FP(x f:Str):Dt×HI->Option (Dt×HI)
 | (.ref n,h)=>(match h[n]? with
  | some (.ins y fs)=>if y=x then(DD f fs).bind fun d=>some (d,h)else none
  | _=>none)
 | _=>none
@[simp] theorem bP(x k:Str):kH x k fo l h=iB (fo l h) (FP x k):=by
 unfold iB kH
 congr 1
 funext r
 obtain⟨d,h⟩:=r;cases d<;>(try rfl)
theorem ON{x k:Str}{n:Nat}{fs:List (Str×Dt)}{d:Dt}(e:h[n]?=some (.ins x fs))(ef:DD k fs=some d):FP x k (.ref n,h)=some (d,h):=by simp only[FP,e,if_true,ef,zfV]
def wU(x f:Str)(v:Dt)(l:LI):Dt×HI->Option Rs
 | (.ref n,h)=>(match h[n]? with
  | some (.ins y fs)=>if y=x/\fs.length<1000 then some (.nx l (h.set n (.ins y (WE f v fs))))else none
  | _=>none)
 | _=>none
@[simp] theorem FZ(x k:Str):KI x k fo fe l h=iB (fe l h) fun r=>iB (fo l r.2) (wU x k r.1 l):=by
 unfold iB KI
 congr 1
 funext r
 congr 1
 funext q
 obtain⟨d,h⟩:=q;cases d<;>(try rfl)
theorem HN{x k:Str}{n:Nat}{fs:List (Str×Dt)}{v:Dt}(e:h[n]?=some (.ins x fs))(hl:fs.length<1000):wU x k v l (.ref n,h)=some (.nx l (h.set n (.ins x (WE k v fs)))):=by simp only[wU,e,true_and,if_pos hl]
noncomputable def OZ(n:Nat):Dt×HI->Option (Dt×HI)
 | (.non,h)=>some (.ref n,h)
 | _=>none
@[simp] theorem nq(n:Nat):OZ n (.non,h)=some (.ref n,h):=by rfl
@[simp] theorem Tt(x:Str)(F:RB):OO x F ga l h=iB (ga l h) fun r=>iB (F (.ref r.2.length::r.1) (r.2++[.ins x []])) (OZ r.2.length):=by
 unfold iB OO
 congr 1
 funext r
 congr 1
 funext q
 obtain⟨d,h⟩:=q;cases d<;>(try rfl)
def zU(x m:Str)(F:RB)(ga:RA)(l:LI):Dt×HI->Option (Dt×HI)
 | (.ref n,h)=>(match h[n]? with
  | some (.ins y fs)=>if y=x/\DD m fs=none then(ga l h).bind fun q=>F (.ref n::q.1) q.2 else none
  | _=>none)
 | _=>none
@[simp] theorem gU(x m:Str)(F:RB):FI x m F fo ga l h=iB (fo l h) (zU x m F ga l):=by
 unfold iB FI
 congr 1
 funext r
 obtain⟨d,h⟩:=r;cases d<;>(try rfl)
theorem oS{x m:Str}{F:RB}{n:Nat}{fs:List (Str×Dt)}(e:h[n]?=some (.ins x fs))(hm:DD m fs=none):zU x m F ga l (.ref n,h)=iB (ga l h) fun q=>F (.ref n::q.1) q.2:=by simp only[zU,e,true_and,if_pos hm];rfl
def BP(fb:RE)(l:LI):Dt×HI->Option (Dt×HI):=fun r=>(fb l r.2).bind fun q=>match r.1,q.1 with
 | .lst xs,.bl b=>(uF xs).bind fun bs=>some (.int ((bs.countP (· ==b):Nat):Int),q.2)
 | _,_=>none
@[simp] theorem Gb(fa fb:RE):VS fa fb l h=iB (fa l h) (BP fb l):=by rfl
theorem Lb{fb:RE}{bs:List Bool}{b:Bool}(e:fb l h=some (.bl b,h)):BP fb l (.lst (bs.map Dt.bl),h)=some (.int ((bs.countP (· ==b):Nat):Int),h):=by
 have q:uF (bs.map Dt.bl)=some bs:=by
  induction bs with
  | nil=>rfl
  | cons n ns ih=>simp only[zfQ,uF,ih,zfU]
 simp only[BP,e,zfV,q]
def mU:Dt×HI->Option (Src×HI)
 | (.lst xs,h)=>some (.vals (zI 0 xs),h)
 | (.ref n,h)=>(match h[n]? with
  | some (.lst _)=>some (.en n,h)
  | _=>none)
 | _=>none
@[simp] theorem PY:JL f l h=iB (f l h) mU:=by
 unfold iB JL
 congr 1
 funext r
 obtain⟨d,h⟩:=r;cases d<;>(try rfl)
theorem JW{n:Nat}{xs:List Dt}(e:h[n]?=some (.lst xs)):mU (.ref n,h)=some (.en n,h):=by simp only[mU,e]
end
theorem S0{α:Type}{i j n:Nat}{body:RS}(D:α->Dt)(S:Nat->LI->HI->Prop)(xs:List α)(hS:∀k l h,S k l h->h[n]?=some (.lst (xs.map D)))(H:∀(k:Nat) x,xs[k]?=some x->∀l h,S k l h->∃r,body ((l.set i (some (.int (k:Int)))).set j (some (D x))) h=some r/\Pass (S (k+1)) r)
 (l:LI) (h:HI) (h0:S 0 l h):∃l' h',uE (dF i j) body l (.en n,h)=some (.nx l' h')/\S xs.length l' h':=by
 have go:∀(f k:Nat)(l:LI)(h:HI),S k l h->f=xs.length-k+1->k<=xs.length->∃l' h',wC (dF i j) body (.en n) f k l h=some (.nx l' h')/\S xs.length l' h':=by
  intro f
  induction f with
  | zero=>intro k l h _ e;omega
  | succ f ih=>
   intro k l h i0 e hk;unfold wC;simp only[Src.at,hS k l h i0,getElem?_map];by_cases hl:k<xs.length
   · rw[getElem?_eq_getElem hl];obtain⟨r,e1,p1⟩:=H k xs[k] (getElem?_eq_getElem hl) l h i0;simp only[zfU,OY,zfV,e1];cases r with
     | nx l2 h2=>exact ih (k+1) l2 h2 p1 (by omega) (by omega)
     | ct l2 h2=>exact ih (k+1) l2 h2 p1 (by omega) (by omega)
     | bk l2 h2=>exact p1.elim
     | rt d h2=>exact p1.elim
   · rw[getElem?_eq_none (by omega)];have:k=xs.length:=by omega
     subst this;exact⟨l,h,rfl,i0⟩
 have hf:Src.fuel (.en n) h=xs.length-0+1:=by simp only[Src.fuel,hS 0 l h h0,length_map];omega
 unfold uE;exact go _ 0 l h h0 hf (Nat.zero_le _)
end SM
namespace G
def top(i:Nat):Stmt:=PySem.Challenge.pw_spanways_k19_lengths_to_the_grain.main.body.getD i (.Pass ⟨0,0,0,0⟩)
noncomputable abbrev DL:Dt:=(.int 8191)
noncomputable def Ew:List Dt:=[(.tup [(.int 0),(.int 0)]),(.tup [(.int 0),(.int 1)]),(.tup [(.int 0),(.int 2)]),(.tup [(.int 0),(.int 3)]),(.tup [(.int 0),(.int 4)]),(.tup [(.int 1),(.int 2)]),(.tup [(.int 1),(.int 3)]),(.tup [(.int 1),(.int 4)]),(.tup [(.int 2),(.int 2)]),(.tup [(.int 2),(.int 3)]),(.tup [(.int 2),(.int 4)]),(.tup [(.int 3),(.int 4)]),(.tup [(.int 4),(.int 4)])]
abbrev ZS:Dt:=.tup Ew
noncomputable def Bl:List Dt:=[(.tup [(.int 1),(.int 1),(.int 1),(.int 1),(.int 1),(.int 1),(.int 1),(.int 1),(.int 295),(.int 295),(.int 295),(.int 295),(.int 8191)]),(.tup [(.int 1),(.int 1),(.int 1),(.int 1),(.int 1),(.int 2),(.int 2),(.int 2),(.int 292),(.int 292),(.int 292),(.int 584),(.int 7312)]),(.tup [(.int 1),(.int 1),(.int 7),(.int 7),(.int 31),(.int 4),(.int 4),(.int 28),(.int 292),(.int 292),(.int 2044),(.int 1168),(.int 7312)]),(.tup [(.int 1),(.int 2),(.int 4),(.int 8),(.int 16),(.int 4),(.int 8),(.int 16),(.int 292),(.int 584),(.int 1168),(.int 1168),(.int 7312)]),(.tup [(.int 31),(.int 28),(.int 28),(.int 16),(.int 16),(.int 28),(.int 16),(.int 16),(.int 2044),(.int 1168),(.int 1168),(.int 1168),(.int 7312)]),(.tup [(.int 1),(.int 1),(.int 7),(.int 7),(.int 31),(.int 32),(.int 32),(.int 224),(.int 256),(.int 256),(.int 1792),(.int 2048),(.int 4096)]),(.tup [(.int 1),(.int 2),(.int 4),(.int 8),(.int 16),(.int 32),(.int 64),(.int 128),(.int 256),(.int 512),(.int 1024),(.int 2048),(.int 4096)]),(.tup [(.int 31),(.int 28),(.int 28),(.int 16),(.int 16),(.int 224),(.int 128),(.int 128),(.int 1792),(.int 1024),(.int 1024),(.int 2048),(.int 4096)]),(.tup [(.int 1),(.int 1),(.int 295),(.int 295),(.int 8191),(.int 256),(.int 256),(.int 7936),(.int 256),(.int 256),(.int 7936),(.int 4096),(.int 4096)]),(.tup [(.int 1),(.int 2),(.int 292),(.int 584),(.int 7312),(.int 256),(.int 512),(.int 7168),(.int 256),(.int 512),(.int 7168),(.int 4096),(.int 4096)]),(.tup [(.int 31),(.int 28),(.int 2044),(.int 1168),(.int 7312),(.int 1792),(.int 1024),(.int 7168),(.int 1792),(.int 1024),(.int 7168),(.int 4096),(.int 4096)]),(.tup [(.int 31),(.int 224),(.int 1792),(.int 2048),(.int 4096),(.int 1792),(.int 2048),(.int 4096),(.int 1792),(.int 2048),(.int 4096),(.int 4096),(.int 4096)]),(.tup [(.int 8191),(.int 7936),(.int 7936),(.int 4096),(.int 4096),(.int 7936),(.int 4096),(.int 4096),(.int 7936),(.int 4096),(.int 4096),(.int 4096),(.int 4096)])]
abbrev MR:Dt:=.tup Bl
noncomputable abbrev MT:Dt:=(.int 64)
abbrev xT:Stmt:=top 3
def UX:RS:=KA (e2 BA (eC ZS) (eV 0))
def aT:RB:=jC 1 1 UX
abbrev cS:Stmt:=top 4
def fR:RE:=eV 0
def gR:RT:=Dl (e2 IB (e2 JH (e2 bJ (eV 1) (eV 0)) (eC (.int 1))) (eC (.int 1)))
def LR:RS:=KA (PD (ZI (eC (.int 13))) (JA 0) gR fR [none,some 0])
def WG:RB:=jC 1 1 LR
abbrev FS:Stmt:=top 5
def zR:RE:=e2 aJ (eC (.int 1)) (eV 0)
def LS:RS:=KA (VC YI (PD (zC (eV 0)) (JA 0) JB zR [none]))
def TN:RB:=jC 1 1 LS
abbrev GS:Stmt:=top 6
def AR:RE:=e2 fG (eC (.int 12)) (eV 0)
def MS:RS:=KA (FA TN [] (cA (PD (zC (FA WG [] (cA (eV 0) kA))) (JA 0) JB AR [none]) kA))
def UN:RB:=jC 1 1 MS
abbrev xQ:Stmt:=top 9
def yQ:RS:=IA 3 (e2 KP (eV 3) (e2 BA (e2 BA (eC MR) (eV 4)) (eV 5)))
def wM:RS:=OC (zC (eV 2)) (JA 5) yQ
def pQ:RS:=qA (IA 2 (FA WG [] (cA (eV 1) kA))) (qA (IA 3 (eC (.int 0))) (qA (OC (zC (FA WG [] (cA (eV 0) kA))) (JA 4) wM) (KA (eV 3))))
def LM:RB:=jC 2 6 pQ
abbrev YR:Stmt:=top 12
def yR:RS:=KA (e2 WO (e2 nK (XI (eC DL) (eV 1)) (aE (cA (eC MT) kA))) (XI (eC DL) (e2 fG (e2 fG (eV 0) (eV 1)) (eC (.int 1)))))
def mN:RB:=jC 2 2 yR
abbrev jU:Stmt:=top 13
def NS:RE:=FA mN [] (cA (eV 1) (cA (eV 0) kA))
def JT:RS:=KA (dH (ZI (eV 0)) (JA 0) JB NS [none,some 0])
def vO:RB:=jC 1 1 JT
abbrev WR:Stmt:=top 14
def JQ:RS:=ED (mE (eV 1) (bB (cA (eV 2) (cA (eV 3) kA))))
def iR:RS:=OC (ZU (e2 lB (eV 2) (eC (.int 1))) (eV 0)) (JA 3) JQ
def xR:RS:=qA (IA 1 (KF kA)) (qA (OC (ZI (eV 0)) (JA 2) iR) (KA (eV 1)))
def iI:RB:=jC 1 4 xR
abbrev VR:Stmt:=top 15
def PV:RE:=VC eF (eV 0)
def wR:RS:=qA (IA 4 (dH (zC (eV 0)) (JA 0) JB PV [none])) (qA (yI (e2 JH (e2 BA (e2 BA (eV 0) (eV 1)) (eV 3)) (eV 2)) (e2 BA (eV 4) (eV 1)) (eV 3)) (qA (yI (FA UN [] (cA (e2 BA (e2 BA (eV 4) (eV 1)) (eV 3)) kA)) (e2 BA (eV 4) (eV 3)) (eV 1)) (KA (eV 4))))
def gI:RB:=jC 4 5 wR
abbrev pS:Stmt:=top 16
def HR:RS:=qA (IA 2 (e2 BA (e2 BA (eV 0) (e2 BA (eV 1) (eC (.int 0)))) (e2 BA (eV 1) (eC (.int 1))))) (qA (IA 3 (e2 BA (e2 BA (eV 0) (e2 BA (eV 1) (eC (.int 1)))) (e2 BA (eV 1) (eC (.int 2))))) (KA (e2 JH (e2 BA (e2 BA (eV 0) (e2 BA (eV 1) (eC (.int 0)))) (e2 BA (eV 1) (eC (.int 2)))) (FA LM [] (cA (eV 2) (cA (eV 3) kA))))))
def QK:RB:=jC 2 4 HR
abbrev bS:Stmt:=top 17
def JR:RS:=KA (e2 kE (FA QK [] (cA (eV 0) (cA (eV 1) kA))) (e2 BA (e2 BA (eV 0) (e2 BA (eV 1) (eC (.int 0)))) (e2 BA (eV 1) (eC (.int 2)))))
def MN:RB:=jC 2 2 JR
abbrev qS:Stmt:=top 18
def IR:RS:=KA (FA gI [] (cA (eV 0) (cA (e2 BA (eV 1) (eC (.int 0))) (cA (FA QK [] (cA (eV 0) (cA (eV 1) kA))) (cA (e2 BA (eV 1) (eC (.int 2))) kA)))))
def LN:RB:=jC 2 2 IR
abbrev UR:Stmt:=top 19
def OV:RE:=e2 (rH false) (eC (.int 0)) (eV 0)
def vR:RS:=KA (VC VL (PD (zC (eV 0)) (JA 0) JB OV [none]))
def kN:RB:=jC 1 1 vR
abbrev mQ:Stmt:=top 20
def zQ:RS:=GD (Dl (e2 (rH true) (eV 3) (eV 0))) (qA (ED (mE (eV 2) (bB (cA (e2 BA (eV 0) (eC (.int 0))) (cA (e2 BA (eV 0) (eC (.int 1))) (cA (eV 3) kA)))))) (ED (mE (eV 2) (bB (cA (e2 BA (eV 0) (eC (.int 1))) (cA (e2 BA (eV 0) (eC (.int 0))) (cA (eV 3) kA))))))) EB
def tQ:RS:=qA (IA 2 (KF kA)) (qA (OC (ZI (eV 1)) (JA 3) zQ) (KA (eV 2)))
def NM:RB:=jC 2 4 tQ
abbrev kQ:Stmt:=top 21
def BV:RE:=VC eF (eV 0)
def fJ:RS:=GD (Dl (FA MN [] (cA (eV 3) (cA (eV 6) kA)))) (qA (IA 3 (FA LN [] (cA (eV 3) (cA (eV 6) kA)))) (qA (ED (mE (eV 2) (eV 6))) (qA (GD (Dl (e2 oK (e2 BA (e2 BA (eV 3) (e2 BA (eV 6) (eC (.int 0)))) (e2 BA (eV 6) (eC (.int 2)))) (eC (.int 0)))) (KA (bB (cA (eC .non) (cA (eV 2) kA)))) EB) (ED (mE (eV 4) (bB (cA (e2 BA (eV 6) (eC (.int 0))) (cA (e2 BA (eV 6) (eC (.int 2))) kA)))))))) EB
def xM:RS:=qA (IA 5 (FO (eV 4) (eC (.int 0)))) (OC (zC (FA NM [] (cA (eV 5) (cA (VC iD (eV 0)) kA)))) (JA 6) fJ)
def vM:RT:=Dl (e2 aI (eV 4) (aE kA))
def rQ:RS:=qA (IA 2 (KF kA)) (qA (GD (Dl (FA kN [] (cA (eV 0) kA))) (KA (bB (cA (eC .non) (cA (eV 2) kA)))) EB) (qA (IA 3 (dH (zC (eV 0)) (JA 0) JB BV [none])) (qA (IA 4 (VC eF (eV 1))) (qA (zO 1000000 vM xM) (KA (bB (cA (eV 3) (cA (eV 2) kA))))))))
def BK:RB:=jC 2 7 rQ
abbrev YQ:Stmt:=top 23
def MK:RS:=GD (Dl (e2 IB (e2 BA (eV 3) (eC (.int 0))) (eC (.str "ways")))) (IA 2 (FA gI [] (cA (eV 2) (cA (e2 BA (eV 3) (eC (.int 1))) (cA (e2 BA (eV 3) (eC (.int 2))) (cA (e2 BA (eV 3) (eC (.int 3))) kA)))))) EB
def dR:RS:=qA (IA 2 (FA vO [] (cA (eV 0) kA))) (qA (OC (zC (eV 1)) (JA 3) MK) (KA (eV 2)))
def JK:RB:=jC 2 4 dR
abbrev oR:Stmt:=top 24
def FV:RE:=bB (cA (e2 BA (eV 0) (eC (.int 1))) (cA (e2 BA (eV 0) (eC (.int 2))) (cA (e2 BA (eV 0) (eC (.int 3))) kA)))
def uQ:RT:=Dl (e2 IB (e2 BA (eV 0) (eC (.int 0))) (eC (.str "long")))
def GQ:RS:=KA (PD (zC (eV 0)) (JA 0) uQ FV [none])
def cN:RB:=jC 1 1 GQ
abbrev ZQ:Stmt:=top 25
def JV:RE:=e2 BA (eV 0) (eC (.int 1))
def RQ:RT:=Dl (e2 IB (e2 BA (eV 0) (eC (.int 0))) (eC (.str "one")))
def eR:RS:=KA (PD (zC (eV 0)) (JA 0) RQ JV [none])
def FK:RB:=jC 1 1 eR
abbrev MQ:Stmt:=top 26
def RM:RS:=qA (IA 5 (pM (Dl (e2 IB (eV 3) (eV 2))) (e2 BA (eV 4) (eC (.int 2))) (e2 JH (eC DL) (nM (e2 BA (eV 4) (eC (.int 2))))))) (IA 0 (FA gI [] (cA (eV 0) (cA (e2 BA (eV 4) (eC (.int 1))) (cA (eV 5) (cA (e2 BA (eV 4) (eC (.int 3))) kA))))))
def PQ:RS:=qA (OC (JL (eV 1)) (dF 3 4) RM) (KA (eV 0))
def FM:RB:=jC 3 6 PQ
abbrev dQ:Stmt:=top 27
def uM:RS:=GD (Dl (e2 aM (VC iD (FA WG [] (cA (e2 BA (e2 BA (eV 0) (e2 BA (eV 1) (eC (.int 0)))) (e2 BA (eV 1) (eC (.int 1)))) kA))) (eC (.int 1)))) (KA (eV 1)) EB
def zM:RS:=qA (OC (zC (FA iI [] (cA (VC iD (eV 0)) kA))) (JA 1) uM) (KA (eC .non))
def zK:RB:=jC 1 2 zM
abbrev XR:Stmt:=top 28
def aN:RE:=FA FM [] (cA (eV 1) (cA (eV 2) (cA (eV 0) kA)))
def QV:RE:=bB (cA (e2 BA (eV 0) (eC (.int 1))) (cA (e2 BA (eV 0) (eC (.int 3))) kA))
def bN:RE:=FA gI [] (cA (eV 1) (cA (e2 BA (eV 2) (eC (.int 0))) (cA (e2 aJ (eC (.int 1)) (eV 0)) (cA (e2 BA (eV 2) (eC (.int 1))) kA))))
def fN:RS:=qA (GD (Dl (e2 aI (eV 1) (aE kA))) (qA (IA 2 (e2 BA (eV 1) (eC (.int 0)))) (qA (IA 3 (PD (ZI (VC iD (eV 2))) (JA 0) JB aN [none,some 0,some 2])) (KA (bB (cA (eC (.str "one")) (cA (bB kA) (cA (eV 3) (cA (PD (zC (eV 2)) (JA 0) JB QV [none]) kA)))))))) EB) (qA (IA 4 (FA zK [] (cA (eV 0) kA))) (qA (GD (Dl (e2 sH (eV 4) (eC .non))) (KA (eC .non)) EB) (qA (IA 5 (e2 BA (e2 BA (eV 0) (e2 BA (eV 4) (eC (.int 0)))) (e2 BA (eV 4) (eC (.int 1))))) (qA (IA 3 (PD (zC (FA WG [] (cA (eV 5) kA))) (JA 0) JB bN [none,some 0,some 4])) (KA (bB (cA (eC (.str "split")) (cA (eV 4) (cA (eV 3) (cA (aE (cA (eV 4) kA)) kA))))))))))
def zH:RB:=jC 2 6 fN
abbrev tT:Stmt:=top 30
def XS:RS:=KA (e2 lB (e2 yC (eC (.int 2)) (eV 0)) (eC (.int 1)))
def kL:RB:=jC 1 1 XS
abbrev nQ:Stmt:=top 31
def AQ:RS:=qA (IA 2 (e2 yC (eC (.int 2)) (e2 BA (eV 0) (eC (.int 0))))) (KA (KF (cA (bB (cA (eV 2) (cA (e2 lB (eV 2) (eC (.int 1))) (cA (e2 yC (ZE (e2 BA (eV 0) (eC (.int 1)))) (eV 1)) kA)))) (cA (bB (cA (e2 lB (eV 2) (eC (.int 1))) (cA (eV 2) (cA (e2 yC (e2 BA (eV 0) (eC (.int 2))) (eV 1)) kA)))) kA))))
def EK:RB:=jC 2 3 AQ
abbrev jQ:Stmt:=top 32
def qQ:RS:=qA (IA 4 (KF kA)) (qA (GD (Dl (e2 bM (VC mH (eV 3)) (eV 2))) (ED (mE (eV 4) (bB (cA (eV 0) (cA (eV 1) (cA (pM (Dl (e2 mP (VC mH (eV 3)) (eV 2))) (ZE (eC (.int 1))) (eC (.int 0))) kA)))))) EB) (qA (GD (Dl (e2 OU (VC HG (eV 3)) (eV 2))) (ED (mE (eV 4) (bB (cA (eV 1) (cA (eV 0) (cA (pM (Dl (e2 aM (VC HG (eV 3)) (eV 2))) (ZE (eC (.int 1))) (eC (.int 0))) kA)))))) EB) (KA (eV 4))))
def fI:RB:=jC 4 5 qQ
abbrev pR:Stmt:=top 33
def AK:RE:=e2 BA (FA aT [] (cA (eV 0) kA)) (eV 1)
def CK:RS:=qA (IA 5 (PD (zC (FA WG [] (cA (eV 1) kA))) (JA 0) JB AK [none,some 4])) (qA (ED (pI (eV 3) (FA fI [] (cA (e2 lB (e2 yC (eC (.int 2)) (eV 0)) (eV 4)) (cA (e2 yC (eC (.int 2)) (eV 2)) (cA (eC (.int 1)) (cA (eV 5) kA))))))) (ED (pI (eV 3) (FA fI [] (cA (e2 lB (e2 yC (eC (.int 2)) (eV 0)) (eV 4)) (cA (e2 lB (e2 yC (eC (.int 2)) (eV 2)) (eC (.int 1))) (cA (eC (.int 3)) (cA (eV 5) kA))))))))
def HQ:RS:=qA (IA 3 (KF kA)) (qA (OC (ZI (eC (.int 2))) (JA 4) CK) (KA (eV 3)))
def jJ:RB:=jC 3 6 HQ
abbrev ES:Stmt:=top 34
def gN:RE:=bB (cA (e2 yC (eC (.int 2)) (eV 0)) (cA (e2 lB (e2 yC (eC (.int 2)) (eV 0)) (eC (.int 1))) (cA (ZE (eC (.int 1))) kA)))
def nN:RS:=ED (pI (eV 2) (FA EK [] (cA (eV 3) (cA (FA kL [] (cA (VC iD (eV 0)) kA)) kA))))
def jI:RS:=ED (pI (eV 2) (FA jJ [] (cA (e2 BA (eV 4) (eC (.int 0))) (cA (e2 BA (e2 BA (eV 0) (e2 BA (eV 4) (eC (.int 0)))) (e2 BA (eV 4) (eC (.int 1)))) (cA (e2 BA (eV 4) (eC (.int 1))) kA)))))
def KS:RS:=qA (IA 2 (dH (ZI (VC iD (eV 0))) (JA 0) JB gN [none])) (qA (OC (zC (eV 1)) (JA 3) nN) (qA (OC (zC (FA iI [] (cA (VC iD (eV 0)) kA))) (JA 4) jI) (KA (eV 2))))
def SN:RB:=jC 2 5 KS
abbrev iQ:Stmt:=top 35
def DK:RS:=qA (IA 3 (CP (cA (e2 BA (eV 2) (eC (.int 0))) (cA (e2 BA (eV 2) (eC (.int 1))) kA)))) (gP (kP QJ (DH (eV 1) (eV 3) (e2 BA (eV 2) (eC (.int 2)))) (e2 BA (eV 2) (eC (.int 2)))) (eV 1) (eV 3))
def KM:RS:=qA (IA 1 uU) (qA (OC (zC (eV 0)) (JA 2) DK) (KA (eV 1)))
def kJ:RB:=jC 1 4 KM
abbrev uT:Stmt:=top 36
def kI:RS:=GD (Dl (e2 aM (e2 BA (eV 1) (e2 BA (eV 4) (eC (.int 0)))) (e2 lB (e2 BA (eV 1) (e2 BA (eV 4) (eC (.int 1)))) (eV 5)))) (qA (yI (e2 lB (e2 BA (eV 1) (e2 BA (eV 4) (eC (.int 1)))) (eV 5)) (eV 1) (e2 BA (eV 4) (eC (.int 0)))) (qA (yI (e2 BA (eV 4) (eC (.int 1))) (eV 2) (e2 BA (eV 4) (eC (.int 0)))) (IA 3 (e2 BA (eV 4) (eC (.int 0)))))) EB
def YS:RS:=qA (IA 3 (eC .non)) (qA (OC (wI (eV 0)) (dF 4 5) kI) (KA (eV 3)))
def AJ:RB:=jC 3 6 YS
abbrev NQ:Stmt:=top 37
def CQ:RS:=IA 0 (e2 BA (eV 1) (eV 0))
def DQ:RS:=ED (mE (eV 3) (e2 BA (eV 1) (e2 BA (eV 3) (ZE (eC (.int 1))))))
def BQ:RT:=Dl (e2 kE (e2 BA (eV 3) (ZE (eC (.int 1)))) (eV 0))
def QQ:RS:=qA (OC (ZI (VC iD (eV 1))) (JA 2) CQ) (qA (IA 3 (KF (cA (eV 0) (cA (e2 BA (eV 1) (eV 0)) kA)))) (qA (zO 100 BQ DQ) (KA (eV 3))))
def HM:RB:=jC 2 4 QQ
abbrev vT:Stmt:=top 38
def PK:RE:=e2 fG (eV 0) (eV 1)
def rJ:RS:=qA (IA 6 (FA AJ [] (cA (eV 2) (cA (eV 3) (cA (eV 4) kA))))) (GD (Dl (e2 sH (eV 6) (eC .non))) (qA (IA 7 (vU (eV 3) (eC (.int 0)))) (KA (bB (cA (eC (.str "times")) (cA (PD (zC (eV 3)) (JA 0) JB PK [none,some 7]) kA))))) EB)
def yJ:RS:=qA (IA 2 (FA kJ [] (cA (eV 1) kA))) (qA (IA 3 (PJ (eC (.int 0)) (eV 0))) (qA (IA 4 (PJ (eC .non) (eV 0))) (qA (OC (ZI (e2 lB (eV 0) (eC (.int 1)))) (JA 5) rJ) (KA (bB (cA (eC (.str "ring")) (cA (FA HM [] (cA (eV 6) (cA (eV 4) kA))) kA)))))))
def tG:RB:=jC 2 8 yJ
abbrev fQ:Stmt:=jT (top 40) 0
def eQ:RS:=qA (KI "Search" "lengths" (eV 0) (eV 1)) (qA (KI "Search" "most" (eV 0) (eV 2)) (KI "Search" "made" (eV 0) (eC (.int 0))))
def xK:RB:=jC 3 3 eQ
abbrev lQ:Stmt:=top 41
def yM:RE:=bB (cA (e2 BA (eV 1) (eV 0)) (cA (e2 BA (eV 1) (e2 lB (eV 0) (eC (.int 1)))) kA))
def sQ:RS:=KA (PD (F1 (eC (.int 0)) (VC iD (eV 0)) 2) (JA 0) JB yM [none,some 0])
def MM:RB:=jC 1 1 sQ
abbrev aQ:Stmt:=jT (top 40) 2
def vK (R:RB):RS:=qA (IA 6 (FI "Search" "look" R (eV 0) (cA (eV 5) (cA (e2 BA (eV 1) (eC (.int 3))) (cA (eV 3) kA))))) (qA (GD (Dl (e2 kE (e2 BA (eV 6) (eC (.int 0))) (eC (.str "clash")))) (KA (eV 6)) EB) (ED (mE (eV 4) (e2 BA (eV 6) (eC (.int 1))))))
def wK (R:RB):RS:=qA (IA 4 (KF kA)) (qA (OC (zC (e2 BA (eV 1) (eC (.int 2)))) (JA 5) (vK R)) (KA (bB (cA (eC (.str "clash")) (cA (e2 GI (e2 GI (bB (cA (e2 BA (eV 1) (eC (.int 0))) (cA (eV 2) kA))) (e2 BA (eV 1) (eC (.int 1)))) (bB (cA (eV 4) kA))) kA)))))
def uH(R:RB):RB:=jC 4 7 (wK R)
abbrev KQ:Stmt:=jT (top 40) 1
def LK (R:RB):RS:=qA (IA 4 (FA BK [] (cA (eV 1) (cA (eV 2) kA)))) (qA (IA 5 (e2 BA (eV 4) (eC (.int 0)))) (qA (IA 6 (e2 BA (eV 4) (eC (.int 1)))) (qA (GD (Dl (e2 sH (eV 5) (eC .non))) (KA (bB (cA (eC (.str "clash")) (cA (bB (cA (eC (.str "threes")) (cA (eV 6) kA))) kA)))) EB) (qA (IA 7 (FA tG [] (cA (e2 yC (eC (.int 2)) (VC iD (eV 5))) (cA (FA SN [] (cA (eV 5) (cA (kH "Search" "lengths" (eV 0)) kA))) kA)))) (qA (GD (Dl (e2 IB (e2 BA (eV 7) (eC (.int 0))) (eC (.str "ring")))) (KA (bB (cA (eC (.str "clash")) (cA (bB (cA (eC (.str "ring")) (cA (eV 6) (cA (e2 BA (eV 7) (eC (.int 1))) kA)))) kA)))) EB) (qA (IA 8 (FA zH [] (cA (eV 5) (cA (eV 3) kA)))) (qA (GD (Dl (e2 sH (eV 8) (eC .non))) (KA (bB (cA (eC (.str "laid")) (cA (FA MM [] (cA (e2 BA (eV 7) (eC (.int 1))) kA)) kA)))) EB) (qA (GD (Dl (e2 OU (kH "Search" "made" (eV 0)) (kH "Search" "most" (eV 0)))) (KA (bB (cA (eC (.str "open")) (cA (eC .non) kA)))) EB) (qA (KI "Search" "made" (eV 0) (e2 lB (kH "Search" "made" (eV 0)) (eC (.int 1)))) (KA (FI "Search" "look_at_branches" (uH R) (eV 0) (cA (eV 8) (cA (eV 6) (cA (DP (eV 3) (OL (eC (.int 1))) pV) kA))))))))))))))
def NF(n:Nat):RB:=Nat.rec (fun _ _=>none) (fun _ R=>jC 4 9 (LK R)) n
abbrev FN:Stmt:=top 42
def KR:RS:=qA (IA 3 (OO "Search" xK (cA (FA cN [] (cA (eV 1) kA)) (cA (eV 2) kA)))) (qA (IA 4 (FI "Search" "look" (NF 22) (eV 3) (cA (FA JK [] (cA (eV 0) (cA (eV 1) kA))) (cA (FA iI [] (cA (eV 0) kA)) (cA (FA FK [] (cA (eV 1) kA)) kA))))) (KA (bB (cA (e2 BA (eV 4) (eC (.int 0))) (cA (e2 BA (eV 4) (eC (.int 1))) (cA (kH "Search" "made" (eV 3)) kA))))))
def mI:RB:=jC 3 5 KR
abbrev wQ:Stmt:=top 44
def oQ:RS:=qA (GD (Dl (e2 mP (eV 1) (VC iD (eV 0)))) (KA (e2 BA (eV 0) (eV 1))) EB) (KA (eC (.int 0)))
def aF:RB:=jC 2 2 oQ
abbrev mR:Stmt:=top 45
def FQ:RS:=KA (tH (VH "int" (eV 0)) (qM (VH "bool" (eV 0))))
def iJ:RB:=jC 1 1 FQ
abbrev lR:Stmt:=top 46
def EQ:RS:=KA (e2 xC (e2 yC (e2 lB (e2 xC (eV 0) (eC (.int 2147483647))) (eC (.int 11))) (eV 1)) (eC (.int 2147483629)))
def wH:RB:=jC 2 2 EQ
abbrev nR:Stmt:=top 47
def NV:RS:=qA (IA 0 (aE (cA (bB (cA (eC (.int 0)) (cA (eC (.int 0)) kA))) (cA (bB (cA (eC (.int 0)) (cA (eC (.int 1)) kA))) (cA (bB (cA (eC (.int 0)) (cA (eC (.int 2)) kA))) (cA (bB (cA (eC (.int 0)) (cA (eC (.int 3)) kA))) (cA (bB (cA (eC (.int 0)) (cA (eC (.int 4)) kA))) (cA (bB (cA (eC (.int 1)) (cA (eC (.int 2)) kA))) (cA (bB (cA (eC (.int 1)) (cA (eC (.int 3)) kA))) kA))))))))) (KA (e2 nK (eV 0) (aE (cA (bB (cA (eC (.int 1)) (cA (eC (.int 4)) kA))) (cA (bB (cA (eC (.int 2)) (cA (eC (.int 2)) kA))) (cA (bB (cA (eC (.int 2)) (cA (eC (.int 3)) kA))) (cA (bB (cA (eC (.int 2)) (cA (eC (.int 4)) kA))) (cA (bB (cA (eC (.int 3)) (cA (eC (.int 4)) kA))) (cA (bB (cA (eC (.int 4)) (cA (eC (.int 4)) kA))) kA)))))))))
def IQ:RB:=jC 0 1 NV
abbrev XQ:Stmt:=top 48
def cR:RS:=qA (GD (Dl (e2 bM (eV 0) (e2 BA (eV 1) (eC (.int 0))))) (KA (VC lH (e2 IB (eV 0) (e2 BA (eV 1) (eC (.int 0)))))) EB) (qA (GD (Dl (e2 mP (eV 0) (e2 BA (eV 1) (eC (.int 1))))) (KA (eC (.int 2))) EB) (KA (e2 fG (eC (.int 4)) (VC lH (e2 IB (eV 0) (e2 BA (eV 1) (eC (.int 1))))))))
def IK:RB:=jC 2 2 cR
abbrev TR:Stmt:=top 49
def uR:RS:=KA (NO (DO IQ []) (bB (cA (FA IK [] (cA (e2 BA (eV 0) (eC (.int 0))) (cA (eV 1) kA))) (cA (FA IK [] (cA (e2 BA (eV 0) (eC (.int 1))) (cA (eV 1) kA))) kA))))
def jN:RB:=jC 2 2 uR
abbrev LQ:Stmt:=top 50
def QM:RS:=GD (Dl (e2 IB (e2 JH (e2 bJ (eV 0) (eV 2)) (eC (.int 1))) (eC (.int 1)))) (IA 1 (e2 lB (eV 1) (e2 aJ (eC (.int 1)) (e2 fG (eC (.int 12)) (eV 2))))) EB
def OQ:RS:=qA (IA 1 (eC (.int 0))) (qA (OC (ZI (eC (.int 13))) (JA 2) QM) (KA (eV 1)))
def DM:RB:=jC 1 3 OQ
abbrev kR:Stmt:=top 51
def U7(R:RB):RE:=FA R [] (cA (eV 0) (cA (eV 1) (cA (eV 2) kA)))
def gJ (R:RB):RS:=qA (GD (Dl (e2 IB (e2 BA (eV 0) (eC (.int 0))) (eC (.str "ways")))) (KA (e2 IB (e2 JH (e2 bJ (e2 BA (eV 0) (eC (.int 2))) (FA jN [] (cA (e2 BA (eV 1) (e2 BA (eV 0) (eC (.int 1)))) (cA (e2 BA (eV 1) (e2 BA (eV 0) (eC (.int 3)))) kA)))) (eC (.int 1))) (eC (.int 1)))) EB) (qA (GD (Dl (e2 IB (e2 BA (eV 0) (eC (.int 0))) (eC (.str "long")))) (qA (IA 3 (e2 fG (e2 BA (e2 BA (eV 1) (e2 BA (eV 0) (eC (.int 1)))) (eC (.int 1))) (e2 BA (e2 BA (eV 1) (e2 BA (eV 0) (eC (.int 1)))) (eC (.int 0))))) (KA (tH (e2 bM (e2 yC (e2 BA (eV 0) (eC (.int 2))) (eV 2)) (eV 3)) (e2 bM (eV 3) (e2 yC (e2 BA (eV 0) (eC (.int 3))) (eV 2)))))) EB) (KA (e2 IB (VS (PD (zC (e2 BA (eV 0) (eC (.int 1)))) (JA 0) JB ((U7 R)) [none,some 1,some 2]) (eC (.bl true))) (eC (.int 1)))))
def hJ(n:Nat):RB:=Nat.rec (fun _ _=>none) (fun _ R=>jC 3 4 (gJ R)) n
abbrev UQ:Stmt:=top 52
def JM:RS:=qA (GD (LG (lG (Dl (VH "tuple" (eV 2)))) (LG (Dl (e2 kE (VC iD (eV 2)) (eC (.int 2)))) (LG (lG (Dl (FA iJ [] (cA (e2 BA (eV 2) (eC (.int 0))) kA)))) (lG (Dl (FA iJ [] (cA (e2 BA (eV 2) (eC (.int 1))) kA))))))) (KA (eC (.bl false))) EB) (GD (Dl (e2 OU (e2 BA (eV 2) (eC (.int 0))) (e2 BA (eV 2) (eC (.int 1))))) (KA (eC (.bl false))) EB)
def BM:RE:=e2 BA (eV 0) (eC (.int 0))
def aR:RS:=qA (GD (LG (lG (Dl (VH "list" (eV 0)))) (Dl (e2 kE (VC iD (eV 0)) (eV 1)))) (KA (eC (.bl false))) EB) (qA (OC (zC (eV 0)) (JA 2) JM) (KA (e2 IB (VC HG (PD (zC (eV 0)) (JA 0) JB BM [none])) (eC (.int 0)))))
def XM:RB:=jC 2 3 aR
abbrev VQ:Stmt:=top 53
def bR:RS:=qA (GD (LG (lG (Dl (VH "tuple" (eV 0)))) (LG (Dl (e2 kE (VC iD (eV 0)) (eC (.int 3)))) (lG (Dl (FA iJ [] (cA (e2 BA (eV 0) (eC (.int 2))) kA)))))) (KA (eC (.bl false))) EB) (qA (GD (Dl (e2 IB (e2 BA (eV 0) (eC (.int 0))) (eC (.str "open")))) (KA (tH (e2 sH (e2 BA (eV 0) (eC (.int 1))) (eC .non)) (e2 IB (e2 BA (eV 0) (eC (.int 2))) (eV 1)))) EB) (KA (tH (e2 (rH false) (e2 BA (eV 0) (eC (.int 0))) (bB (cA (eC (.str "laid")) (cA (eC (.str "clash")) kA)))) (tL bM bM (eC (.int 0)) (e2 BA (eV 0) (eC (.int 2))) (eV 1)))))
def HK:RB:=jC 2 2 bR
abbrev TQ:Stmt:=top 54
def UM:RS:=qA (GD (Dl (e2 IB (eV 1) (eC (.int 1)))) (qA (IA 2 (e2 BA (aE (cA (eC (.int 32)) (cA (eC (.int 64)) (cA (eC (.int 256)) (cA (eC (.int 512)) (cA (e2 lB (eC (.int 32)) (eC (.int 512))) (cA (e2 lB (eC (.int 64)) (eC (.int 256))) (cA (e2 lB (eC (.int 32)) (eC (.int 256))) (cA (eC (.int 864)) kA))))))))) (e2 xC (eV 0) (eC (.int 8))))) (qA (IA 3 (e2 BA (aE (cA (eC (.int 1)) (cA (eC (.int 0)) (cA (eC (.int 2)) (cA (eC (.int 1)) (cA (eC (.int 1)) (cA (eC (.int 0)) (cA (eC (.int 1)) (cA (eC (.int 0)) kA))))))))) (e2 xC (eV 0) (eC (.int 8))))) (KA (bB (cA (eV 2) (cA (eV 2) (cA (eV 3) kA))))))) EB) (qA (IA 4 (e2 BA (aE (cA (eC (.int 32)) (cA (eC (.int 256)) (cA (e2 lB (eC (.int 32)) (eC (.int 256))) kA)))) (e2 xC (eV 0) (eC (.int 3))))) (qA (IA 5 (e2 BA (aE (cA (eC (.int 512)) (cA (eC (.int 256)) (cA (e2 lB (eC (.int 512)) (eC (.int 256))) kA)))) (e2 xC (e2 cE (eV 0) (eC (.int 3))) (eC (.int 3))))) (qA (IA 3 (e2 lB (VC lH (e2 IB (e2 xC (eV 0) (eC (.int 3))) (eC (.int 1)))) (VC lH (e2 IB (e2 xC (e2 cE (eV 0) (eC (.int 3))) (eC (.int 3))) (eC (.int 1)))))) (KA (bB (cA (e2 lB (eV 4) (e2 BA (aE (cA (eC (.int 0)) (cA (eC (.int 64)) (cA (eC (.int 512)) kA)))) (e2 xC (e2 cE (eV 0) (eC (.int 9))) (eC (.int 3))))) (cA (e2 lB (eV 5) (e2 BA (aE (cA (eC (.int 0)) (cA (eC (.int 64)) (cA (eC (.int 32)) kA)))) (e2 xC (e2 cE (eV 0) (eC (.int 27))) (eC (.int 3))))) (cA (eV 3) kA))))))))
def GK:RB:=jC 2 6 UM
abbrev WQ:Stmt:=top 55
def VM:RS:=qA (GD (Dl (e2 IB (e2 xC (eV 0) (eC (.int 2))) (eC (.int 0)))) (KA (bB (cA (eC (.str "ways")) (cA (eV 1) (cA (eV 2) (cA (eV 3) kA)))))) EB) (KA (bB (cA (eC (.str "ways")) (cA (eV 3) (cA (FA DM [] (cA (eV 2) kA)) (cA (eV 1) kA))))))
def MG:RB:=jC 4 4 VM
abbrev SR:Stmt:=top 56
def NK:RS:=qA (IA 2 (FA wH [] (cA (FA aF [] (cA (eV 0) (cA (e2 lB (eV 8) (eC (.int 1))) kA))) (cA (eC (.int 16807)) kA)))) (qA (IA 9 (e2 BA (aE (cA (eC (.int 0)) (cA (e2 lB (eC (.int 1)) (e2 xC (e2 cE (eV 2) (eC (.int 4))) (eC (.int 4)))) (cA (e2 xC (FA aF [] (cA (eV 0) (cA (e2 lB (eV 8) (eC (.int 1))) kA))) (e2 bI (eC (.int 10)) (eC (.int 17)))) (cA (eV 2) kA))))) (e2 xC (eV 2) (eC (.int 4))))) (qA (ED (mE (eV 4) (bB (cA (eC (.str "long")) (cA (eV 8) (cA (eV 9) (cA (e2 bI (eC (.int 10)) (eC (.int 18))) kA))))))) (qA (IA 5 (e2 lB (eV 5) (kP IL (e2 yC (eV 9) (eV 6)) (eC (.int 1))))) (qA (IA 7 (e2 lB (eV 7) (eV 9))) (GD (Dl (e2 mP (eV 8) (eV 1))) (qA (IA 10 (e2 xC (e2 cE (eV 2) (eC (.int 16))) (eC (.int 3)))) (qA (IA 5 (e2 lB (eV 5) (VC lH (e2 IB (eV 10) (eC (.int 1)))))) (ED (mE (eV 4) (FA MG [] (cA (e2 cE (eV 2) (eC (.int 48))) (cA (eV 8) (cA (e2 BA (aE (cA (eC (.int 2)) (cA (eC (.int 1)) (cA (eC (.int 3)) kA)))) (eV 10)) (cA (e2 lB (eV 8) (eC (.int 1))) kA))))))))) EB)))))
def tR:RS:=qA (IA 2 (FA wH [] (cA (FA aF [] (cA (eV 0) (cA (eC (.int 1)) kA))) (cA (eC (.int 48271)) kA)))) (qA (IA 3 (FA GK [] (cA (eV 2) (cA (eV 1) kA)))) (qA (IA 4 (KF (cA (FA MG [] (cA (e2 cE (eV 2) (eC (.int 81))) (cA (eC (.int 1)) (cA (e2 BA (eV 3) (eC (.int 0))) (cA (eC (.int 0)) kA))))) kA))) (qA (IA 5 (e2 BA (eV 3) (eC (.int 2)))) (qA (IA 6 (e2 lB (e2 yC (eC (.int 2)) (eV 1)) (eC (.int 3)))) (qA (IA 7 (eC (.int 0))) (qA (OC (ZU (eC (.int 1)) (e2 lB (eV 1) (eC (.int 1)))) (JA 8) NK) (qA (GD (Dl (e2 aM (eV 1) (eC (.int 1)))) (ED (mE (eV 4) (FA MG [] (cA (e2 cE (eV 2) (eC (.int 96))) (cA (eV 1) (cA (e2 BA (eV 3) (eC (.int 1))) (cA (eC (.int 0)) kA))))))) EB) (KA (bB (cA (eV 4) (cA (eV 5) (cA (eV 7) kA))))))))))))
def iN:RB:=jC 2 11 tR
abbrev cQ:Stmt:=top 57
def bQ:RS:=ED (mO (eV 2) (e2 xC (FA wH [] (cA (FA aF [] (cA (eV 1) (cA (e2 lB (eV 3) (eC (.int 7))) kA))) (cA (e2 lB (eC (.int 69621)) (e2 yC (e2 yC (eC (.int 2)) (eV 3)) (eV 3))) kA))) (e2 lB (eV 3) (eC (.int 1)))) (eV 4))
def gQ:RS:=qA (IA 2 (KF kA)) (qA (OC (JL (eV 0)) (dF 3 4) bQ) (KA (eV 2)))
def yK:RB:=jC 2 5 gQ
abbrev KU:Stmt:=top 58
def zJ:RE:=e2 xC (eV 0) (e2 bI (eC (.int 10)) (eC (.int 16)))
def lO:RS:=GD (lG (Dl (FA (hJ 3) [] (cA (eV 8) (cA (e2 BA (eV 7) (eC (.int 1))) (cA (e2 lB (e2 yC (eC (.int 2)) (eV 1)) (eC (.int 3))) kA)))))) (KA (eC (.bl false))) EB
def LO:RS:=qA (IA 1 (e2 lB (eC (.int 1)) (e2 xC (FA aF [] (cA (eV 0) (cA (eC (.int 0)) kA))) (eC (.int 4))))) (qA (GD (Dl (e2 IB (e2 xC (e2 cE (FA aF [] (cA (eV 0) (cA (eC (.int 0)) kA))) (eC (.int 4))) (eC (.int 8))) (eC (.int 1)))) (IA 1 (e2 lB (eC (.int 5)) (e2 xC (e2 cE (FA aF [] (cA (eV 0) (cA (eC (.int 0)) kA))) (eC (.int 32))) (eC (.int 3))))) EB) (qA (QP (UO 2 3 4) (FA iN [] (cA (eV 0) (cA (eV 1) kA)))) (qA (IA 5 (FA wH [] (cA (FA aF [] (cA (eV 0) (cA (eC (.int 6)) kA))) (cA (eC (.int 69621)) kA)))) (qA (IA 6 (kP IL (eC (.int 0)) (e2 fG (e2 lB (eV 4) (e2 xC (e2 cE (eV 5) (eC (.int 4))) (eC (.int 5)))) (eC (.int 2))))) (qA (GD (Dl (e2 IB (e2 xC (eV 5) (eC (.int 4))) (eC (.int 0)))) (IA 6 (VC YI (PD (zC (DP (eV 0) (OL (eC (.int 6))) (OL (eC (.int 60))))) (JA 0) JB zJ [none]))) EB) (qA (ED (mE (eV 2) (bB (cA (eC (.str "long")) (cA (eC (.int 0)) (cA (eC (.int 0)) (cA (eV 6) kA))))))) (qA (IA 2 (FA yK [] (cA (eV 2) (cA (eV 0) kA)))) (qA (IA 7 (FA mI [] (cA (e2 lB (eV 1) (eC (.int 1))) (cA (VC eF (eV 2)) (cA (eC (.int 20)) kA))))) (qA (GD (lG (Dl (FA HK [] (cA (eV 7) (cA (eC (.int 20)) kA))))) (KA (eC (.bl false))) EB) (qA (GD (Dl (e2 aM (eV 3) (e2 yC (eV 6) (e2 lB (e2 yC (eC (.int 2)) (eV 1)) (eC (.int 3)))))) (KA (tH (e2 IB (e2 BA (eV 7) (eC (.int 0))) (eC (.str "clash"))) (xV (e2 IB (eV 1) (eC (.int 1))) (e2 IB (e2 BA (eV 7) (eC (.int 2))) (eC (.int 0)))))) EB) (qA (GD (LG (Dl (e2 kE (e2 BA (eV 7) (eC (.int 0))) (eC (.str "laid")))) (lG (Dl (FA XM [] (cA (e2 BA (eV 7) (eC (.int 1))) (cA (e2 lB (eV 1) (eC (.int 1))) kA)))))) (KA (eC (.bl false))) EB) (qA (OC (zC (eV 2)) (JA 8) lO) (KA (eC (.bl true)))))))))))))))
def MJ:RB:=jC 1 9 LO
structure ud(K:Frag)(mg:Str->Option Value):Prop where
 zdn:sB K mg "zones" xT ["way"]
 zdg:sB K mg "ways_in" cS ["mask"]
 zdj:sB K mg "set_of" FS ["ways"]
 zdk:sB K mg "turned" GS ["mask"]
 zcJ:sB K mg "chained_sets" xQ ["one", "other"]
 zdb:sB K mg "wide_row" YR ["count", "i"]
 zdr:sB K mg "wide" jU ["count"]
 zc9:sB K mg "pairs_of" WR ["count"]
 zc8:sB K mg "narrowed" VR ["net", "i", "mask", "j"]
 zdd:sB K mg "left_by" pS ["net", "three"]
 zdf:sB K mg "narrows" bS ["net", "three"]
 zde:sB K mg "made_of" qS ["net", "three"]
 zc7:sB K mg "is_empty" UR ["net"]
 zcO:sB K mg "threes_along" mQ ["pair", "count"]
 zcM:sB K mg "rounded_from" kQ ["net", "pairs"]
 zc2:sB K mg "first_net" YQ ["count", "facts"]
 zcS:sB K mg "lengths_in" oR ["facts"]
 zc3:sB K mg "groups_in" ZQ ["facts"]
 zcV:sB K mg "only_member" MQ ["net", "group", "chosen"]
 zcG:sB K mg "first_loose_pair" dQ ["net"]
 zda:sB K mg "split_of" XR ["net", "groups"]
 zdp:sB K mg "grain" tT ["count"]
 zcH:sB K mg "length_bounds" nQ ["length", "one"]
 zcL:sB K mg "point_bounds" jQ ["p", "q", "at", "seen"]
 zcT:sB K mg "set_bounds" pR ["i", "mask", "j"]
 zdi:sB K mg "bounds" ES ["net", "lengths"]
 zcK:sB K mg "least_bounds" iQ ["found"]
 zdl:sB K mg "moved" uT ["least", "times", "causes"]
 zcW:sB K mg "ring_behind" NQ ["point", "causes"]
 zdm:sB K mg "timed" vT ["points", "bounds"]
 zdh:CT K mg "Search" "Search.__init__" fQ ["self", "lengths", "most"]
 zb9:sL K "Search" "look" "Search.look" KQ ["self", "net", "pairs", "groups"]
 zcE:sL K "Search" "look_at_branches" "Search.look_at_branches" aQ ["self", "split", "steps", "groups"]
 zcN:sB K mg "stretches_at" lQ ["times"]
 zc4:SL K mg "planned" FN ["count", "facts", "most"] []
 zcI:sB K mg "_law_cell_at" wQ ["_law_script", "_law_k"]
 zcQ:sB K mg "_law_whole" mR ["_law_found"]
 zcP:sB K mg "_law_mixed" lR ["_law_cell", "_law_factor"]
 zcR:sB K mg "_law_zones" nR []
 zc1:sB K mg "_law_zone" XQ ["_law_at", "_law_other"]
 zc6:sB K mg "_law_way" TR ["_law_one", "_law_other"]
 zcU:sB K mg "_law_turned" LQ ["_law_mask"]
 zcb:sB K mg "_law_keeps" kR ["_law_fact", "_law_spans", "_law_unit"]
 zcY:sB K mg "_law_plan" UQ ["_law_found", "_law_count"]
 zcZ:sB K mg "_law_told" VQ ["_law_found", "_law_most"]
 zcX:sB K mg "_law_ends" TQ ["_law_number", "_law_many"]
 zc0:sB K mg "_law_ways" WQ ["_law_number", "_law_i", "_law_mask", "_law_j"]
 zc5:sB K mg "_law_row" SR ["_law_script", "_law_many"]
 zcF:sB K mg "_law_drawn_order" cQ ["_law_facts", "_law_script"]
 zb8:CJ K "Search" "lengths"
 zca:CJ K "Search" "most"
 za6:CJ K "Search" "made"
 zdt:mg "any" =none
 zds:mg "bool" =none
 zcc:mg "enumerate" =none
 zaS:mg "int" =none
 za5:mg "isinstance" =none
 zac:mg "len" =none
 za7:mg "list" =none
 zbt:mg "max" =none
 za8:mg "min" =none
 zai:mg "range" =none
 zce:mg "sum" =none
 zcd:mg "tuple" =none
 zbH:ZJ K mg "ALL" DL
 zdo:ZJ K mg "ZONES" ZS
 zdc:ZJ K mg "CHAINED" MR
 zdq:ZJ K mg "SAME" MT
section
variable{P:Program}{w:World}{K:Frag}{mg:Str->Option Value}
theorem Mw:dB ["way"] ["way"] (HA xT):=qB
theorem Hj:dB ["mask"] ["mask"] (HA cS):=qB
theorem jz:dB ["ways"] ["ways"] (HA FS):=qB
theorem qz:dB ["mask"] ["mask"] (HA GS):=qB
theorem DB:dB ["one", "other", "seconds", "reached", "first", "second"] ["one", "other"] (HA xQ):=qB
theorem b9:dB ["count", "i"] ["count", "i"] (HA YR):=qB
theorem jt:dB ["count"] ["count"] (HA jU):=qB
theorem HD:dB ["count", "found", "i", "j"] ["count"] (HA WR):=qB
theorem JF:dB ["net", "i", "mask", "j", "made"] ["net", "i", "mask", "j"] (HA VR):=qB
theorem XE:dB ["net", "three", "first", "second"] ["net", "three"] (HA pS):=qB
theorem Gj:dB ["net", "three"] ["net", "three"] (HA bS):=qB
theorem Fj:dB ["net", "three"] ["net", "three"] (HA qS):=qB
theorem Z8:dB ["net"] ["net"] (HA UR):=qB
theorem aD:dB ["pair", "count", "found", "other"] ["pair", "count"] (HA mQ):=qB
theorem oB:dB ["net", "pairs", "steps", "end", "waiting", "pair", "three"] ["net", "pairs"] (HA kQ):=qB
theorem kD:dB ["count", "facts", "net", "fact"] ["count", "facts"] (HA YQ):=qB
theorem w8:dB ["facts"] ["facts"] (HA oR):=qB
theorem m9:dB ["facts"] ["facts"] (HA ZQ):=qB
theorem BC:dB ["net", "group", "chosen", "place", "member", "mask"] ["net", "group", "chosen"] (HA MQ):=qB
theorem gD:dB ["net", "pair"] ["net"] (HA dQ):=qB
theorem vC:dB ["net", "groups", "group", "nets", "pair", "mask"] ["net", "groups"] (HA XR):=qB
theorem Lw:dB ["count"] ["count"] (HA tT):=qB
theorem WD:dB ["length", "one", "start"] ["length", "one"] (HA nQ):=qB
theorem iE:dB ["p", "q", "at", "seen", "found"] ["p", "q", "at", "seen"] (HA jQ):=qB
theorem LC:dB ["i", "mask", "j", "found", "side", "seen"] ["i", "mask", "j"] (HA pR):=qB
theorem HE:dB ["net", "lengths", "found", "length", "pair"] ["net", "lengths"] (HA ES):=qB
theorem qC:dB ["found", "least", "bound", "pair"] ["found"] (HA iQ):=qB
theorem kF:dB ["least", "times", "causes", "last", "pair", "most"] ["least", "times", "causes"] (HA uT):=qB
theorem CC:dB ["point", "causes", "step", "ring"] ["point", "causes"] (HA NQ):=qB
theorem tD:dB ["points", "bounds", "least", "times", "causes", "turn", "last", "first"] ["points", "bounds"] (HA vT):=qB
theorem A7:dB ["self", "lengths", "most"] ["self", "lengths", "most"] (HA fQ):=qB
theorem T7:dB ["times"] ["times"] (HA lQ):=qB
theorem eB:dB ["self", "split", "steps", "groups", "branches", "net", "told"] ["self", "split", "steps", "groups"] (HA aQ):=qB
theorem QB:dB ["self", "net", "pairs", "groups", "gone_round", "end", "steps", "laid", "split"] ["self", "net", "pairs", "groups"] (HA KQ):=qB
theorem YE:dB ["count", "facts", "most", "search", "told"] ["count", "facts", "most"] (HA FN):=qB
theorem S7:dB ["_law_script", "_law_k"] ["_law_script", "_law_k"] (HA wQ):=qB
theorem v8:dB ["_law_found"] ["_law_found"] (HA mR):=qB
theorem t8:dB ["_law_cell", "_law_factor"] ["_law_cell", "_law_factor"] (HA lR):=qB
theorem VE:dB ["_law_low"] [] (HA nR):=qB
theorem k9:dB ["_law_at", "_law_other"] ["_law_at", "_law_other"] (HA XQ):=qB
theorem Y8:dB ["_law_one", "_law_other"] ["_law_one", "_law_other"] (HA TR):=qB
theorem AC:dB ["_law_mask", "_law_found", "_law_way_here"] ["_law_mask"] (HA LQ):=qB
theorem UE:dB ["_law_fact", "_law_spans", "_law_unit", "_law_size"] ["_law_fact", "_law_spans", "_law_unit"] (HA kR):=qB
theorem jF:dB ["_law_found", "_law_count", "_law_one"] ["_law_found", "_law_count"] (HA UQ):=qB
theorem i9:dB ["_law_found", "_law_most"] ["_law_found", "_law_most"] (HA VQ):=qB
theorem iC:dB ["_law_number", "_law_many", "_law_mask", "_law_gaps", "_law_first", "_law_last"] ["_law_number", "_law_many"] (HA TQ):=qB
theorem j9:dB ["_law_number", "_law_i", "_law_mask", "_law_j"] ["_law_number", "_law_i", "_law_mask", "_law_j"] (HA WQ):=qB
theorem UA:dB ["_law_script", "_law_many", "_law_number", "_law_ends_here", "_law_facts", "_law_least", "_law_unit", "_law_sizes", "_law_k", "_law_size", "_law_gap"] ["_law_script", "_law_many"] (HA SR):=qB
theorem kC:dB ["_law_facts", "_law_script", "_law_found", "_law_k", "_law_fact"] ["_law_facts", "_law_script"] (HA cQ):=qB
theorem JD:dB ["_law_script", "_law_many", "_law_facts", "_law_least", "_law_sizes", "_law_number", "_law_high", "_law_found", "_law_fact"] ["_law_script"] (HA KU):=qB
variable(T:ud K mg)(b:Heap)
include T
theorem Aj:UC P w K mg b 1 1 "zones" aT:=
 BB (k:=0) (body:=UX) T.zdn Mw rfl rfl fun _ _ _ _ _ _ _ hr=>AA (MA (lA (DJ rfl T.zdo) (aA 0)))
theorem mJ:UC P w K mg b 1 1 "ways_in" WG:=
 BB (k:=0) (body:=LR) T.zdg Hj rfl rfl fun _ _ _ _ _ _ _ hr=>AA (MA (UF (Nc:=["way", "mask"]) rfl (oG rfl T.zai jA) (by decide +kernel) rfl (by decide +kernel) (by rfl) (by exact⟨⟨rfl,.inl rfl,.inl rfl,rfl⟩,trivial⟩) (fun _ _ _ _=>aC 0 (show(["way", "mask"]:List Str).Nodup by decide +kernel)) (fun _ _ _ _=>bU (NB (JC hr.units) (yA BJ (yA QT (aA 1) (aA 0)) jA) jA)) (fun _ _ _ _=>aA 0)))
theorem C9:UC P w K mg b 1 1 "set_of" TN:=
 BB (k:=0) (body:=LS) T.zdj jz rfl rfl fun _ _ _ _ _ _ _ hr=>AA (MA (pZ rfl rfl T.zce (UF (Nc:=["way"]) rfl (dD (aA 0)) (by decide +kernel) rfl (by decide +kernel) (by rfl) (by exact trivial) (fun _ _ _ _=>aC 0 (show(["way"]:List Str).Nodup by decide +kernel)) (fun _ _ _ _=>KE) (fun _ _ _ _=>yA OT jA (aA 0)))))
theorem D9:UC P w K mg b 2 1 "turned" UN:=
 BB (k:=1) (body:=MS) T.zdk qz rfl rfl fun _ _ _ _ _ _ _ hr=>AA (MA (VA (C9 T b) hr (dA (UF (Nc:=["way"]) rfl (dD (VA (mJ T b) hr (dA (aA 0) nA))) (by decide +kernel) rfl (by decide +kernel) (by rfl) (by exact trivial) (fun _ _ _ _=>aC 0 (show(["way"]:List Str).Nodup by decide +kernel)) (fun _ _ _ _=>KE) (fun _ _ _ _=>yA HH jA (aA 0))) nA)))
theorem K7:UC P w K mg b 2 2 "chained_sets" LM:=
 BB (k:=1) (body:=pQ) T.zcJ DB rfl rfl fun _ _ _ _ _ _ _ hr=>vA (QA 2 DB.nd (VA (mJ T b) hr (dA (aA 1) nA))) (vA (QA 3 DB.nd jA) (vA (zD PassesOwn.never rfl (dD (VA (mJ T b) hr (dA (aA 0) nA))) (aC 4 DB.nd) (AA (zD PassesOwn.never rfl (dD (aA 2)) (aC 5 DB.nd) (AA (QA 3 DB.nd (yA Qf (aA 3) (lA (lA (DJ rfl T.zdc) (aA 4)) (aA 5)))))))) (AA (MA (aA 3)))))
theorem E8:UC P w K mg b 1 2 "wide_row" mN:=
 BB (k:=0) (body:=yR) T.zdb b9 rfl rfl fun _ _ _ _ _ _ _ hr=>AA (MA (yA Hy (yA XY (oZ (DJ rfl T.zbH) (aA 1)) (rF (dA (DJ rfl T.zdq) nA))) (oZ (DJ rfl T.zbH) (yA HH (yA HH (aA 0) (aA 1)) jA))))
theorem Jx:UC P w K mg b 2 1 "wide" vO:=
 BB (k:=1) (body:=JT) T.zdr jt rfl rfl fun _ _ _ _ _ _ _ hr=>AA (MA (Kv (Nc:=["i", "count"]) rfl (oG rfl T.zai (aA 0)) (by decide +kernel) rfl (by decide +kernel) (by rfl) (by exact⟨⟨rfl,.inl rfl,.inl rfl,rfl⟩,trivial⟩) (fun _ _ _ _=>aC 0 (show(["i", "count"]:List Str).Nodup by decide +kernel)) (fun _ _ _ _=>KE) (fun _ _ _ _=>VA (E8 T b) hr (dA (aA 1) (dA (aA 0) nA)))))
theorem jR:UC P w K mg b 1 1 "pairs_of" iI:=
 BB (k:=0) (body:=xR) T.zc9 HD rfl rfl fun _ _ _ _ _ _ _ hr=>vA (QA 1 HD.nd (pG nA)) (vA (zD PassesOwn.never rfl (oG rfl T.zai (aA 0)) (aC 2 HD.nd) (AA (zD PassesOwn.never rfl (RW rfl T.zai (yA MB (aA 2) jA) (aA 0)) (aC 3 HD.nd) (AA (nE (EF (aA 1) (mB (dA (aA 2) (dA (aA 3) nA))))))))) (AA (MA (aA 1))))
theorem dN:UC P w K mg b 3 4 "narrowed" gI:=
 BB (k:=2) (body:=wR) T.zc8 JF rfl rfl fun _ _ _ _ _ _ _ hr=>vA (DR (Nc:=["row"]) 4 rfl JF.nd (dD (aA 0)) (by decide +kernel) rfl (by decide +kernel) (by rfl) (by exact trivial) (fun _ _ _ _=>aC 0 (show(["row"]:List Str).Nodup by decide +kernel)) (fun _ _ _ _=>KE) (fun _ _ _ _=>xN rfl T.za7 (aA 0)) (by rfl)) (vA (YN (yA BJ (lA (lA (aA 0) (aA 1)) (aA 3)) (aA 2)) (lA (aA 4) (aA 1)) (aA 3)) (vA (YN (VA (D9 T b) hr (dA (lA (lA (aA 4) (aA 1)) (aA 3)) nA)) (lA (aA 4) (aA 3)) (aA 1)) (AA (MA (aA 4)))))
theorem SV:UC P w K mg b 3 2 "left_by" QK:=
 BB (k:=2) (body:=HR) T.zdd XE rfl rfl fun _ _ _ _ _ _ _ hr=>vA (QA 2 XE.nd (lA (lA (aA 0) (lA (aA 1) jA)) (lA (aA 1) jA))) (vA (QA 3 XE.nd (lA (lA (aA 0) (lA (aA 1) jA)) (lA (aA 1) jA))) (AA (MA (yA BJ (lA (lA (aA 0) (lA (aA 1) jA)) (lA (aA 1) jA)) (VA (K7 T b) hr (dA (aA 2) (dA (aA 3) nA)))))))
theorem P8:UC P w K mg b 4 2 "narrows" MN:=
 BB (k:=3) (body:=JR) T.zdf Gj rfl rfl fun _ _ _ _ _ _ _ hr=>AA (MA (oE (GH hr.units) (VA (SV T b) hr (dA (aA 0) (dA (aA 1) nA))) (lA (lA (aA 0) (lA (aA 1) jA)) (lA (aA 1) jA))))
theorem O8:UC P w K mg b 4 2 "made_of" LN:=
 BB (k:=3) (body:=IR) T.zde Fj rfl rfl fun _ _ _ _ _ _ _ hr=>AA (MA (VA (dN T b) hr (dA (aA 0) (dA (lA (aA 1) jA) (dA (VA (SV T b) hr (dA (aA 0) (dA (aA 1) nA))) (dA (lA (aA 1) jA) nA))))))
theorem C8:UC P w K mg b 1 1 "is_empty" kN:=
 BB (k:=0) (body:=vR) T.zc7 Z8 rfl rfl fun _ _ _ _ _ _ _ hr=>AA (MA (Jh rfl rfl T.zdt (UF (Nc:=["row"]) rfl (dD (aA 0)) (by decide +kernel) rfl (by decide +kernel) (by rfl) (by exact trivial) (fun _ _ _ _=>aC 0 (show(["row"]:List Str).Nodup by decide +kernel)) (fun _ _ _ _=>KE) (fun _ _ _ _=>oE QZ jA (aA 0)))))
theorem G7:UC P w K mg b 1 2 "threes_along" NM:=
 BB (k:=0) (body:=tQ) T.zcO aD rfl rfl fun _ _ _ _ _ _ _ hr=>vA (QA 2 aD.nd (pG nA)) (vA (zD PassesOwn.never rfl (oG rfl T.zai (aA 1)) (aC 3 aD.nd) (AA (cC (NB Rz (aA 3) (aA 0)) (vA (nE (EF (aA 2) (mB (dA (lA (aA 0) jA) (dA (lA (aA 0) jA) (dA (aA 3) nA)))))) (AA (nE (EF (aA 2) (mB (dA (lA (aA 0) jA) (dA (lA (aA 0) jA) (dA (aA 3) nA)))))))) bC))) (AA (MA (aA 2))))
theorem M7:UC P w K mg b 5 2 "rounded_from" BK:=
 BB (k:=4) (body:=rQ) T.zcM oB rfl rfl fun _ _ _ _ _ _ _ hr=>vA (QA 2 oB.nd (pG nA)) (vA (cC (kG (VA (C8 T b) hr (dA (aA 0) nA))) (AA (MA (mB (dA ZF (dA (aA 2) nA))))) bC) (vA (DR (Nc:=["row"]) 3 rfl oB.nd (dD (aA 0)) (by decide +kernel) rfl (by decide +kernel) (by rfl) (by exact trivial) (fun _ _ _ _=>aC 0 (show(["row"]:List Str).Nodup by decide +kernel)) (fun _ _ _ _=>KE) (fun _ _ _ _=>xN rfl T.za7 (aA 0)) (by rfl)) (vA (QA 4 oB.nd (xN rfl T.za7 (aA 1))) (vA (TX PassesOwn.never (NB (YY hr.units) (aA 4) (rF nA)) (vA (QA 5 oB.nd (Ov (aA 4) jA)) (AA (zD PassesOwn.never rfl (dD (VA (G7 T b) hr (dA (aA 5) (dA (qF rfl T.zac (aA 0)) nA)))) (aC 6 oB.nd) (AA (cC (kG (VA (P8 T b) hr (dA (aA 3) (dA (aA 6) nA)))) (vA (QA 3 oB.nd (VA (O8 T b) hr (dA (aA 3) (dA (aA 6) nA)))) (vA (nE (EF (aA 2) (aA 6))) (vA (cC (NB (Rf hr.units) (lA (lA (aA 3) (lA (aA 6) jA)) (lA (aA 6) jA)) jA) (AA (MA (mB (dA ZF (dA (aA 2) nA))))) bC) (AA (nE (EF (aA 4) (mB (dA (lA (aA 6) jA) (dA (lA (aA 6) jA) nA))))))))) bC)))))) (AA (MA (mB (dA (aA 3) (dA (aA 2) nA)))))))))
theorem k8:UC P w K mg b 4 2 "first_net" JK:=
 BB (k:=3) (body:=dR) T.zc2 kD rfl rfl fun _ _ _ _ _ _ _ hr=>vA (QA 2 kD.nd (VA (Jx T b) hr (dA (aA 0) nA))) (vA (zD PassesOwn.never rfl (dD (aA 1)) (aC 3 kD.nd) (AA (cC (NB (JC hr.units) (lA (aA 3) jA) IC) (AA (QA 2 kD.nd (VA (dN T b) hr (dA (aA 2) (dA (lA (aA 3) jA) (dA (lA (aA 3) jA) (dA (lA (aA 3) jA) nA))))))) bC))) (AA (MA (aA 2))))
theorem W7:UC P w K mg b 1 1 "lengths_in" cN:=
 BB (k:=0) (body:=GQ) T.zcS w8 rfl rfl fun _ _ _ _ _ _ _ hr=>AA (MA (UF (Nc:=["fact"]) rfl (dD (aA 0)) (by decide +kernel) rfl (by decide +kernel) (by rfl) (by exact trivial) (fun _ _ _ _=>aC 0 (show(["fact"]:List Str).Nodup by decide +kernel)) (fun _ _ _ _=>bU (NB (JC hr.units) (lA (aA 0) jA) IC)) (fun _ _ _ _=>mB (dA (lA (aA 0) jA) (dA (lA (aA 0) jA) (dA (lA (aA 0) jA) nA))))))
theorem n8:UC P w K mg b 1 1 "groups_in" FK:=
 BB (k:=0) (body:=eR) T.zc3 m9 rfl rfl fun _ _ _ _ _ _ _ hr=>AA (MA (UF (Nc:=["fact"]) rfl (dD (aA 0)) (by decide +kernel) rfl (by decide +kernel) (by rfl) (by exact trivial) (fun _ _ _ _=>aC 0 (show(["fact"]:List Str).Nodup by decide +kernel)) (fun _ _ _ _=>bU (NB (JC hr.units) (lA (aA 0) jA) IC)) (fun _ _ _ _=>lA (aA 0) jA)))
theorem C7:UC P w K mg b 4 3 "only_member" FM:=
 BB (k:=3) (body:=PQ) T.zcV BC rfl rfl fun _ _ _ _ _ _ _ hr=>vA (zD PassesOwn.never rfl (yY rfl T.zcc (aA 1)) (ST 3 4 rfl BC.nd) (vA (QA 5 BC.nd (lU (NB (JC hr.units) (aA 3) (aA 2)) (lA (aA 4) jA) (yA BJ (DJ rfl T.zbH) (Kh (lA (aA 4) jA))))) (AA (QA 0 BC.nd (VA (dN T b) hr (dA (aA 0) (dA (lA (aA 4) jA) (dA (aA 5) (dA (lA (aA 4) jA) nA))))))))) (AA (MA (aA 0)))
theorem u7:UC P w K mg b 2 1 "first_loose_pair" zK:=
 BB (k:=1) (body:=zM) T.zcG gD rfl rfl fun _ _ _ _ _ _ _ hr=>vA (zD PassesOwn.never rfl (dD (VA (jR T b) hr (dA (qF rfl T.zac (aA 0)) nA))) (aC 1 gD.nd) (AA (cC (NB GL (qF rfl T.zac (VA (mJ T b) hr (dA (lA (lA (aA 0) (lA (aA 1) jA)) (lA (aA 1) jA)) nA))) jA) (AA (MA (aA 1))) bC))) (AA (MA ZF))
theorem D8:UC P w K mg b 5 2 "split_of" zH:=
 BB (k:=4) (body:=fN) T.zda vC rfl rfl fun _ _ _ _ _ _ _ hr=>vA (cC (NB (YY hr.units) (aA 1) (rF nA)) (vA (QA 2 vC.nd (lA (aA 1) jA)) (vA (FR (Nc:=["chosen", "net", "group"]) 3 rfl vC.nd (oG rfl T.zai (qF rfl T.zac (aA 2))) (by decide +kernel) rfl (by decide +kernel) (by rfl) (by exact⟨⟨rfl,.inl rfl,.inl rfl,rfl⟩,⟨⟨rfl,.inl rfl,.inl rfl,rfl⟩,trivial⟩⟩) (fun _ _ _ _=>aC 0 (show(["chosen", "net", "group"]:List Str).Nodup by decide +kernel)) (fun _ _ _ _=>KE) (fun _ _ _ _=>VA (C7 T b) hr (dA (aA 1) (dA (aA 2) (dA (aA 0) nA)))) (by rfl)) (AA (MA (mB (dA IC (dA (mB nA) (dA (aA 3) (dA (UF (Nc:=["member"]) rfl (dD (aA 2)) (by decide +kernel) rfl (by decide +kernel) (by rfl) (by exact trivial) (fun _ _ _ _=>aC 0 (show(["member"]:List Str).Nodup by decide +kernel)) (fun _ _ _ _=>KE) (fun _ _ _ _=>mB (dA (lA (aA 0) jA) (dA (lA (aA 0) jA) nA)))) nA))))))))) bC) (vA (QA 4 vC.nd (VA (u7 T b) hr (dA (aA 0) nA))) (vA (cC (NB AL (aA 4) ZF) (AA (MA ZF)) bC) (vA (QA 5 vC.nd (lA (lA (aA 0) (lA (aA 4) jA)) (lA (aA 4) jA))) (vA (FR (Nc:=["way", "net", "pair"]) 3 rfl vC.nd (dD (VA (mJ T b) hr (dA (aA 5) nA))) (by decide +kernel) rfl (by decide +kernel) (by rfl) (by exact⟨⟨rfl,.inl rfl,.inl rfl,rfl⟩,⟨⟨rfl,.inl rfl,.inl rfl,rfl⟩,trivial⟩⟩) (fun _ _ _ _=>aC 0 (show(["way", "net", "pair"]:List Str).Nodup by decide +kernel)) (fun _ _ _ _=>KE) (fun _ _ _ _=>VA (dN T b) hr (dA (aA 1) (dA (lA (aA 2) jA) (dA (yA OT jA (aA 0)) (dA (lA (aA 2) jA) nA))))) (by rfl)) (AA (MA (mB (dA IC (dA (aA 4) (dA (aA 3) (dA (rF (dA (aA 4) nA)) nA)))))))))))
theorem wj:UC P w K mg b 1 1 "grain" kL:=
 BB (k:=0) (body:=XS) T.zdp Lw rfl rfl fun _ _ _ _ _ _ _ hr=>AA (MA (yA MB (yA MD jA (aA 0)) jA))
theorem v7:UC P w K mg b 1 2 "length_bounds" EK:=
 BB (k:=0) (body:=AQ) T.zcH WD rfl rfl fun _ _ _ _ _ _ _ hr=>vA (QA 2 WD.nd (yA MD jA (lA (aA 0) jA))) (AA (MA (pG (dA (mB (dA (aA 2) (dA (yA MB (aA 2) jA) (dA (yA MD (EJ (lA (aA 0) jA)) (aA 1)) nA)))) (dA (mB (dA (yA MB (aA 2) jA) (dA (aA 2) (dA (yA MD (lA (aA 0) jA) (aA 1)) nA)))) nA)))))
theorem DV:UC P w K mg b 1 4 "point_bounds" fI:=
 BB (k:=0) (body:=qQ) T.zcL iE rfl rfl fun _ _ _ _ _ _ _ hr=>vA (QA 4 iE.nd (pG nA)) (vA (cC (NB UJ (nZ rfl rfl T.zbt (aA 3)) (aA 2)) (AA (nE (EF (aA 4) (mB (dA (aA 0) (dA (aA 1) (dA (lU (NB YO (nZ rfl rfl T.zbt (aA 3)) (aA 2)) (EJ jA) jA) nA))))))) bC) (vA (cC (NB GU (dU rfl rfl T.za8 (aA 3)) (aA 2)) (AA (nE (EF (aA 4) (mB (dA (aA 1) (dA (aA 0) (dA (lU (NB GL (dU rfl rfl T.za8 (aA 3)) (aA 2)) (EJ jA) jA) nA))))))) bC) (AA (MA (aA 4)))))
theorem X7:UC P w K mg b 2 3 "set_bounds" jJ:=
 BB (k:=1) (body:=HQ) T.zcT LC rfl rfl fun _ _ _ _ _ _ _ hr=>vA (QA 3 LC.nd (pG nA)) (vA (zD PassesOwn.never rfl (oG rfl T.zai jA) (aC 4 LC.nd) (vA (FR (Nc:=["way", "side"]) 5 rfl LC.nd (dD (VA (mJ T b) hr (dA (aA 1) nA))) (by decide +kernel) rfl (by decide +kernel) (by rfl) (by exact⟨⟨rfl,.inl rfl,.inl rfl,rfl⟩,trivial⟩) (fun _ _ _ _=>aC 0 (show(["way", "side"]:List Str).Nodup by decide +kernel)) (fun _ _ _ _=>KE) (fun _ _ _ _=>lA (VA (Aj T b) hr (dA (aA 0) nA)) (aA 1)) (by rfl)) (vA (nE (wN (aA 3) (VA (DV T b) hr (dA (yA MB (yA MD jA (aA 0)) (aA 4)) (dA (yA MD jA (aA 2)) (dA jA (dA (aA 5) nA))))))) (AA (nE (wN (aA 3) (VA (DV T b) hr (dA (yA MB (yA MD jA (aA 0)) (aA 4)) (dA (yA MB (yA MD jA (aA 2)) jA) (dA jA (dA (aA 5) nA))))))))))) (AA (MA (aA 3))))
theorem B9:UC P w K mg b 3 2 "bounds" SN:=
 BB (k:=2) (body:=KS) T.zdi HE rfl rfl fun _ _ _ _ _ _ _ hr=>vA (DR (Nc:=["i"]) 2 rfl HE.nd (oG rfl T.zai (qF rfl T.zac (aA 0))) (by decide +kernel) rfl (by decide +kernel) (by rfl) (by exact trivial) (fun _ _ _ _=>aC 0 (show(["i"]:List Str).Nodup by decide +kernel)) (fun _ _ _ _=>KE) (fun _ _ _ _=>mB (dA (yA MD jA (aA 0)) (dA (yA MB (yA MD jA (aA 0)) jA) (dA (EJ jA) nA)))) (by rfl)) (vA (zD PassesOwn.never rfl (dD (aA 1)) (aC 3 HE.nd) (AA (nE (wN (aA 2) (VA (v7 T b) hr (dA (aA 3) (dA (VA (wj T b) hr (dA (qF rfl T.zac (aA 0)) nA)) nA))))))) (vA (zD PassesOwn.never rfl (dD (VA (jR T b) hr (dA (qF rfl T.zac (aA 0)) nA))) (aC 4 HE.nd) (AA (nE (wN (aA 2) (VA (X7 T b) hr (dA (lA (aA 4) jA) (dA (lA (lA (aA 0) (lA (aA 4) jA)) (lA (aA 4) jA)) (dA (lA (aA 4) jA) nA)))))))) (AA (MA (aA 2)))))
theorem L7:UC P w K mg b 1 1 "least_bounds" kJ:=
 BB (k:=0) (body:=KM) T.zcK qC rfl rfl fun _ _ _ _ _ _ _ hr=>vA (QA 1 qC.nd vg) (vA (zD PassesOwn.never rfl (dD (aA 0)) (aC 2 qC.nd) (vA (QA 3 qC.nd (Kg (dA (lA (aA 2) jA) (dA (lA (aA 2) jA) nA)))) (AA (Xg hr.units (yg rfl rfl T.za8 (Mv hr.units (aA 1) (aA 3) (lA (aA 2) jA)) (lA (aA 2) jA)) (aA 1) (aA 3))))) (AA (MA (aA 1))))
theorem yj:UC P w K mg b 1 3 "moved" AJ:=
 BB (k:=0) (body:=YS) T.zdl kF rfl rfl fun _ _ _ _ _ _ _ hr=>vA (QA 3 kF.nd ZF) (vA (zD PassesOwn.never rfl (Uv (aA 0)) (ST 4 5 rfl kF.nd) (AA (cC (NB GL (lA (aA 1) (lA (aA 4) jA)) (yA MB (lA (aA 1) (lA (aA 4) jA)) (aA 5))) (vA (YN (yA MB (lA (aA 1) (lA (aA 4) jA)) (aA 5)) (aA 1) (lA (aA 4) jA)) (vA (YN (lA (aA 4) jA) (aA 2) (lA (aA 4) jA)) (AA (QA 3 kF.nd (lA (aA 4) jA))))) bC))) (AA (MA (aA 3))))
theorem D7:UC P w K mg b 1 2 "ring_behind" HM:=
 BB (k:=0) (body:=QQ) T.zcW CC rfl rfl fun _ _ _ _ _ _ _ hr=>vA (zD PassesOwn.never rfl (oG rfl T.zai (qF rfl T.zac (aA 1))) (aC 2 CC.nd) (AA (QA 0 CC.nd (lA (aA 1) (aA 0))))) (vA (QA 3 CC.nd (pG (dA (aA 0) (dA (lA (aA 1) (aA 0)) nA)))) (vA (TX PassesOwn.never (NB (GH hr.units) (lA (aA 3) (EJ jA)) (aA 0)) (AA (nE (EF (aA 3) (lA (aA 1) (lA (aA 3) (EJ jA))))))) (AA (MA (aA 3)))))
theorem zj:UC P w K mg b 2 2 "timed" tG:=
 BB (k:=1) (body:=yJ) T.zdm tD rfl rfl fun _ _ _ _ _ _ _ hr=>vA (QA 2 tD.nd (VA (L7 T b) hr (dA (aA 1) nA))) (vA (QA 3 tD.nd (RX jA (aA 0))) (vA (QA 4 tD.nd (RX ZF (aA 0))) (vA (zD PassesOwn.never rfl (oG rfl T.zai (yA MB (aA 0) jA)) (aC 5 tD.nd) (vA (QA 6 tD.nd (VA (yj T b) hr (dA (aA 2) (dA (aA 3) (dA (aA 4) nA))))) (AA (cC (NB AL (aA 6) ZF) (vA (QA 7 tD.nd (Ag rfl rfl T.za8 (aA 3) jA)) (AA (MA (mB (dA IC (dA (UF (Nc:=["time", "first"]) rfl (dD (aA 3)) (by decide +kernel) rfl (by decide +kernel) (by rfl) (by exact⟨⟨rfl,.inl rfl,.inl rfl,rfl⟩,trivial⟩) (fun _ _ _ _=>aC 0 (show(["time", "first"]:List Str).Nodup by decide +kernel)) (fun _ _ _ _=>KE) (fun _ _ _ _=>yA HH (aA 0) (aA 1))) nA)))))) bC)))) (AA (MA (mB (dA IC (dA (VA (D7 T b) hr (dA (aA 6) (dA (aA 4) nA))) nA))))))))
theorem V8:sP P w K mg b 1 3 "Search" xK:=
 by unfold xK;exact Yk (k:=0) (body:=eQ) T.zdh A7 rfl rfl fun _ _ _ _ _ _ _ hr=>vA (CO T.zb8 (aA 0) (aA 1)) (vA (CO T.zca (aA 0) (aA 2)) (AA (CO T.za6 (aA 0) jA)))
theorem F7:UC P w K mg b 1 1 "stretches_at" MM:=
 BB (k:=0) (body:=sQ) T.zcN T7 rfl rfl fun _ _ _ _ _ _ _ hr=>AA (MA (UF (Nc:=["start", "times"]) rfl (Qj (c:=2) rfl T.zai jA (qF rfl T.zac (aA 0)) jA) (by decide +kernel) rfl (by decide +kernel) (by rfl) (by exact⟨⟨rfl,.inl rfl,.inl rfl,rfl⟩,trivial⟩) (fun _ _ _ _=>aC 0 (show(["start", "times"]:List Str).Nodup by decide +kernel)) (fun _ _ _ _=>KE) (fun _ _ _ _=>mB (dA (lA (aA 1) (aA 0)) (dA (lA (aA 1) (yA MB (aA 0) jA)) nA)))))
theorem p7 {R:RB} {k:Nat} (hk:5<=k) (hR:iH P w K mg b k 4 "Search" "look" R):iH P w K mg b (k+1) 4 "Search" "look_at_branches" (uH R):=
 by unfold uH;exact DY (k:=k) (body:=wK R) T.zcE eB rfl rfl fun _ _ _ _ _ _ _ hr=>vA (QA 4 eB.nd (pG nA)) (vA (zD PassesOwn.never rfl (dD (lA (aA 1) jA)) (aC 5 eB.nd) (vA (QA 6 eB.nd (fT hR hr (by omega) (aA 0) (dA (aA 5) (dA (lA (aA 1) jA) (dA (aA 3) nA))))) (vA (cC (NB (GH hr.units) (lA (aA 6) jA) IC) (AA (MA (aA 6))) bC) (AA (nE (EF (aA 4) (lA (aA 6) jA))))))) (AA (MA (mB (dA IC (dA (yA GY (yA GY (mB (dA (lA (aA 1) jA) (dA (aA 2) nA))) (lA (aA 1) jA)) (mB (dA (aA 4) nA))) nA))))))
theorem z7 {R:RB} {k:Nat} (hk:5<=k) (hR:iH P w K mg b k 4 "Search" "look" R):iH P w K mg b (k+2) 4 "Search" "look" (jC 4 9 (LK R)):=
 DY (k:=k+1) (body:=LK R) T.zb9 QB rfl rfl fun _ _ _ _ _ _ _ hr=>vA (QA 4 QB.nd (BH (M7 T b) hr (by omega) rfl (dA (aA 1) (dA (aA 2) nA)))) (vA (QA 5 QB.nd (lA (aA 4) jA)) (vA (QA 6 QB.nd (lA (aA 4) jA)) (vA (cC (NB AL (aA 5) ZF) (AA (MA (mB (dA IC (dA (mB (dA IC (dA (aA 6) nA))) nA))))) bC) (vA (QA 7 QB.nd (BH (zj T b) hr (by omega) rfl (dA (yA MD jA (qF rfl T.zac (aA 5))) (dA (BH (B9 T b) hr (by omega) rfl (dA (aA 5) (dA (vL T.zb8 (aA 0)) nA))) nA)))) (vA (cC (NB (JC hr.units) (lA (aA 7) jA) IC) (AA (MA (mB (dA IC (dA (mB (dA IC (dA (aA 6) (dA (lA (aA 7) jA) nA)))) nA))))) bC) (vA (QA 8 QB.nd (BH (D8 T b) hr (by omega) rfl (dA (aA 5) (dA (aA 3) nA)))) (vA (cC (NB AL (aA 8) ZF) (AA (MA (mB (dA IC (dA (BH (F7 T b) hr (by omega) rfl (dA (lA (aA 7) jA) nA)) nA))))) bC) (vA (cC (NB GU (vL T.za6 (aA 0)) (vL T.zca (aA 0))) (AA (MA (mB (dA IC (dA ZF nA))))) bC) (vA (CO T.za6 (aA 0) (yA MB (vL T.za6 (aA 0)) jA)) (AA (MA (fT (p7 T b hk hR) hr (by omega) (aA 0) (dA (aA 8) (dA (aA 6) (dA (IX (aA 3) (pT jA) Jy) nA)))))))))))))))
theorem EV:∀n:Nat,iH P w K mg b (5+2*n) 4 "Search" "look" (NF n)
 | 0=>qy T.zb9
 | n+1=>z7 T b (Nat.le_add_right _ _) (EV n)
theorem F8 {dds:List Dt} (D:SL K mg "planned" FN ["count", "facts", "most"] dds):PL P w K mg b 50 3 "planned" mI dds:=
 by unfold mI;exact Jw (k:=49) (body:=KR) D YE rfl rfl fun _ _ _ _ _ _ _ hr=>vA (QA 3 YE.nd (xg (V8 T b) hr (by decide) rfl (dA (VA (W7 T b) hr (dA (aA 1) nA)) (dA (aA 2) nA)))) (vA (QA 4 YE.nd (fT (EV T b 22) hr (by decide) (aA 3) (dA (VA (k8 T b) hr (dA (aA 0) (dA (aA 1) nA))) (dA (VA (jR T b) hr (dA (aA 0) nA)) (dA (VA (n8 T b) hr (dA (aA 1) nA)) nA))))) (AA (MA (mB (dA (lA (aA 4) jA) (dA (lA (aA 4) jA) (dA (vL T.za6 (aA 3)) nA)))))))
theorem N7:PL P w K mg b 50 3 "planned" mI []:=F8 T b T.zc4
theorem vH:UC P w K mg b 1 2 "_law_cell_at" aF:=
 BB (k:=0) (body:=oQ) T.zcI S7 rfl rfl fun _ _ _ _ _ _ _ hr=>vA (cC (NB YO (aA 1) (qF rfl T.zac (aA 0))) (AA (MA (lA (aA 0) (aA 1)))) bC) (AA (MA jA))
theorem vQ:UC P w K mg b 1 1 "_law_whole" iJ:=
 BB (k:=0) (body:=FQ) T.zcQ v8 rfl rfl fun _ _ _ _ _ _ _ hr=>AA (MA (uL (wL rfl T.za5 rfl T.zaS PyProof.Rows.boot_int (by decide) (aA 0)) (FJ (Lh (wL rfl T.za5 rfl T.zds PyProof.Rows.boot_bool (by decide) (aA 0))))))
theorem PM:UC P w K mg b 1 2 "_law_mixed" wH:=
 BB (k:=0) (body:=EQ) T.zcP t8 rfl rfl fun _ _ _ _ _ _ _ hr=>AA (MA (yA yD (yA MD (yA MB (yA yD (aA 0) jA) jA) (aA 1)) jA))
theorem V7:UC P w K mg b 1 0 "_law_zones" IQ:=
 BB (k:=0) (body:=NV) T.zcR VE rfl rfl fun _ _ _ _ _ _ _ hr=>vA (QA 0 VE.nd (rF (dA (mB (dA jA (dA jA nA))) (dA (mB (dA jA (dA jA nA))) (dA (mB (dA jA (dA jA nA))) (dA (mB (dA jA (dA jA nA))) (dA (mB (dA jA (dA jA nA))) (dA (mB (dA jA (dA jA nA))) (dA (mB (dA jA (dA jA nA))) nA))))))))) (AA (MA (yA XY (aA 0) (rF (dA (mB (dA jA (dA jA nA))) (dA (mB (dA jA (dA jA nA))) (dA (mB (dA jA (dA jA nA))) (dA (mB (dA jA (dA jA nA))) (dA (mB (dA jA (dA jA nA))) (dA (mB (dA jA (dA jA nA))) nA))))))))))
theorem LV:UC P w K mg b 1 2 "_law_zone" IK:=
 BB (k:=0) (body:=cR) T.zc1 k9 rfl rfl fun _ _ _ _ _ _ _ hr=>vA (cC (NB UJ (aA 0) (lA (aA 1) jA)) (AA (MA (nL rfl T.zaS (oE (JC hr.units) (aA 0) (lA (aA 1) jA))))) bC) (vA (cC (NB YO (aA 0) (lA (aA 1) jA)) (AA (MA jA)) bC) (AA (MA (yA HH jA (nL rfl T.zaS (oE (JC hr.units) (aA 0) (lA (aA 1) jA)))))))
theorem B8:UC P w K mg b 2 2 "_law_way" jN:=
 BB (k:=1) (body:=uR) T.zc6 Y8 rfl rfl fun _ _ _ _ _ _ _ hr=>AA (MA (Nv hr.units (Zq (V7 T b) hr (by decide) rfl) (mB (dA (VA (LV T b) hr (dA (lA (aA 0) jA) (dA (aA 1) nA))) (dA (VA (LV T b) hr (dA (lA (aA 0) jA) (dA (aA 1) nA))) nA)))))
theorem B7:UC P w K mg b 1 1 "_law_turned" DM:=
 BB (k:=0) (body:=OQ) T.zcU AC rfl rfl fun _ _ _ _ _ _ _ hr=>vA (QA 1 AC.nd jA) (vA (zD PassesOwn.never rfl (oG rfl T.zai jA) (aC 2 AC.nd) (AA (cC (NB (JC hr.units) (yA BJ (yA QT (aA 0) (aA 2)) jA) jA) (AA (QA 1 AC.nd (yA MB (aA 1) (yA OT jA (yA HH jA (aA 2)))))) bC))) (AA (MA (aA 1))))
theorem J7 {R:RB} {k:Nat} (hk:2<=k) (hR:UC P w K mg b k 3 "_law_keeps" R):UC P w K mg b (k+1) 3 "_law_keeps" (jC 3 4 (gJ R)):=
 BB (k:=k) (body:=gJ R) T.zcb UE rfl rfl fun _ _ _ _ _ _ _ hr=>vA (cC (NB (JC hr.units) (lA (aA 0) jA) IC) (AA (MA (oE (JC hr.units) (yA BJ (yA QT (lA (aA 0) jA) (BH (B8 T b) hr (by omega) rfl (dA (lA (aA 1) (lA (aA 0) jA)) (dA (lA (aA 1) (lA (aA 0) jA)) nA)))) jA) jA))) bC) (vA (cC (NB (JC hr.units) (lA (aA 0) jA) IC) (vA (QA 3 UE.nd (yA HH (lA (lA (aA 1) (lA (aA 0) jA)) jA) (lA (lA (aA 1) (lA (aA 0) jA)) jA))) (AA (MA (uL (oE UJ (yA MD (lA (aA 0) jA) (aA 2)) (aA 3)) (FJ (oE UJ (aA 3) (yA MD (lA (aA 0) jA) (aA 2)))))))) bC) (AA (MA (oE (JC hr.units) (Oq (UF (Nc:=["_law_one", "_law_spans", "_law_unit"]) rfl (dD (lA (aA 0) jA)) (by decide +kernel) rfl (by decide +kernel) (by rfl) (by exact⟨⟨rfl,.inl rfl,.inl rfl,rfl⟩,⟨⟨rfl,.inl rfl,.inl rfl,rfl⟩,trivial⟩⟩) (fun _ _ _ _=>aC 0 (show(["_law_one", "_law_spans", "_law_unit"]:List Str).Nodup by decide +kernel)) (fun _ _ _ _=>KE) (fun _ _ _ _=>BH hR hr (by omega) rfl (dA (aA 0) (dA (aA 1) (dA (aA 2) nA))))) fH) jA))))
theorem GV:∀n:Nat,UC P w K mg b (2+n) 3 "_law_keeps" (hJ n)
 | 0=>jh T.zcb
 | n+1=>J7 T b (Nat.le_add_right _ _) (GV n)
theorem i8:UC P w K mg b 2 2 "_law_plan" XM:=
 BB (k:=1) (body:=aR) T.zcY jF rfl rfl fun _ _ _ _ _ _ _ hr=>vA (cC (WM.tm (MI (cH (kG (wL rfl T.za5 rfl T.za7 PyProof.Rows.boot_list (by decide) (aA 0)))) (BO (NB (GH hr.units) (qF rfl T.zac (aA 0)) (aA 1))))) (AA (MA fH)) bC) (vA (zD PassesOwn.never rfl (dD (aA 0)) (aC 2 jF.nd) (vA (cC (WM.tm (MI (cH (kG (wL rfl T.za5 rfl T.zcd PyProof.Rows.boot_tuple (by decide) (aA 2)))) (MI (NB (GH hr.units) (qF rfl T.zac (aA 2)) jA) (MI (cH (kG (VA (vQ T b) hr (dA (lA (aA 2) jA) nA)))) (BO (cH (kG (VA (vQ T b) hr (dA (lA (aA 2) jA) nA))))))))) (AA (MA fH)) bC) (AA (cC (NB GU (lA (aA 2) jA) (lA (aA 2) jA)) (AA (MA fH)) bC)))) (AA (MA (oE (JC hr.units) (dU rfl rfl T.za8 (UF (Nc:=["_law_one"]) rfl (dD (aA 0)) (by decide +kernel) rfl (by decide +kernel) (by rfl) (by exact trivial) (fun _ _ _ _=>aC 0 (show(["_law_one"]:List Str).Nodup by decide +kernel)) (fun _ _ _ _=>KE) (fun _ _ _ _=>lA (aA 0) jA))) jA))))
theorem j8:UC P w K mg b 2 2 "_law_told" HK:=
 BB (k:=1) (body:=bR) T.zcZ i9 rfl rfl fun _ _ _ _ _ _ _ hr=>vA (cC (WM.tm (MI (cH (kG (wL rfl T.za5 rfl T.zcd PyProof.Rows.boot_tuple (by decide) (aA 0)))) (MI (NB (GH hr.units) (qF rfl T.zac (aA 0)) jA) (BO (cH (kG (VA (vQ T b) hr (dA (lA (aA 0) jA) nA)))))))) (AA (MA fH)) bC) (vA (cC (NB (JC hr.units) (lA (aA 0) jA) IC) (AA (MA (uL (oE AL (lA (aA 0) jA) ZF) (FJ (oE (JC hr.units) (lA (aA 0) jA) (aA 1)))))) bC) (AA (MA (uL (oE QZ (lA (aA 0) jA) (mB (dA IC (dA IC nA)))) (FJ (Jv UJ UJ jA (lA (aA 0) jA) (aA 1)))))))
theorem h8:UC P w K mg b 1 2 "_law_ends" GK:=
 BB (k:=0) (body:=UM) T.zcX iC rfl rfl fun _ _ _ _ _ _ _ hr=>vA (cC (NB (JC hr.units) (aA 1) jA) (vA (QA 2 iC.nd (lA (rF (dA jA (dA jA (dA jA (dA jA (dA (yA MB jA jA) (dA (yA MB jA jA) (dA (yA MB jA jA) (dA jA nA))))))))) (yA yD (aA 0) jA))) (vA (QA 3 iC.nd (lA (rF (dA jA (dA jA (dA jA (dA jA (dA jA (dA jA (dA jA (dA jA nA))))))))) (yA yD (aA 0) jA))) (AA (MA (mB (dA (aA 2) (dA (aA 2) (dA (aA 3) nA)))))))) bC) (vA (QA 4 iC.nd (lA (rF (dA jA (dA jA (dA (yA MB jA jA) nA)))) (yA yD (aA 0) jA))) (vA (QA 5 iC.nd (lA (rF (dA jA (dA jA (dA (yA MB jA jA) nA)))) (yA yD (yA aG (aA 0) jA) jA))) (vA (QA 3 iC.nd (yA MB (nL rfl T.zaS (oE (JC hr.units) (yA yD (aA 0) jA) jA)) (nL rfl T.zaS (oE (JC hr.units) (yA yD (yA aG (aA 0) jA) jA) jA)))) (AA (MA (mB (dA (yA MB (aA 4) (lA (rF (dA jA (dA jA (dA jA nA)))) (yA yD (yA aG (aA 0) jA) jA))) (dA (yA MB (aA 5) (lA (rF (dA jA (dA jA (dA jA nA)))) (yA yD (yA aG (aA 0) jA) jA))) (dA (aA 3) nA)))))))))
theorem SQ:UC P w K mg b 2 4 "_law_ways" MG:=
 BB (k:=1) (body:=VM) T.zc0 j9 rfl rfl fun _ _ _ _ _ _ _ hr=>vA (cC (NB (JC hr.units) (yA yD (aA 0) jA) jA) (AA (MA (mB (dA IC (dA (aA 1) (dA (aA 2) (dA (aA 3) nA))))))) bC) (AA (MA (mB (dA IC (dA (aA 3) (dA (VA (B7 T b) hr (dA (aA 2) nA)) (dA (aA 1) nA)))))))
theorem A8:UC P w K mg b 3 2 "_law_row" iN:=
 BB (k:=2) (body:=tR) T.zc5 UA rfl rfl fun _ _ _ _ _ _ _ hr=>vA (QA 2 UA.nd (VA (PM T b) hr (dA (VA (vH T b) hr (dA (aA 0) (dA jA nA))) (dA jA nA)))) (vA (QA 3 UA.nd (VA (h8 T b) hr (dA (aA 2) (dA (aA 1) nA)))) (vA (QA 4 UA.nd (pG (dA (VA (SQ T b) hr (dA (yA aG (aA 2) jA) (dA jA (dA (lA (aA 3) jA) (dA jA nA))))) nA))) (vA (QA 5 UA.nd (lA (aA 3) jA)) (vA (QA 6 UA.nd (yA MB (yA MD jA (aA 1)) jA)) (vA (QA 7 UA.nd jA) (vA (zD PassesOwn.never rfl (RW rfl T.zai jA (yA MB (aA 1) jA)) (aC 8 UA.nd) (vA (QA 2 UA.nd (VA (PM T b) hr (dA (VA (vH T b) hr (dA (aA 0) (dA (yA MB (aA 8) jA) nA))) (dA jA nA)))) (vA (QA 9 UA.nd (lA (rF (dA jA (dA (yA MB jA (yA yD (yA aG (aA 2) jA) jA)) (dA (yA yD (VA (vH T b) hr (dA (aA 0) (dA (yA MB (aA 8) jA) nA))) (yA NT jA jA)) (dA (aA 2) nA))))) (yA yD (aA 2) jA))) (vA (nE (EF (aA 4) (mB (dA IC (dA (aA 8) (dA (aA 9) (dA (yA NT jA jA) nA))))))) (vA (QA 5 UA.nd (yA MB (aA 5) (QX rfl rfl T.zbt (yA MD (aA 9) (aA 6)) jA))) (vA (QA 7 UA.nd (yA MB (aA 7) (aA 9))) (AA (cC (NB YO (aA 8) (aA 1)) (vA (QA 10 UA.nd (yA yD (yA aG (aA 2) jA) jA)) (vA (QA 5 UA.nd (yA MB (aA 5) (nL rfl T.zaS (oE (JC hr.units) (aA 10) jA)))) (AA (nE (EF (aA 4) (VA (SQ T b) hr (dA (yA aG (aA 2) jA) (dA (aA 8) (dA (lA (rF (dA jA (dA jA (dA jA nA)))) (aA 10)) (dA (yA MB (aA 8) jA) nA)))))))))) bC)))))))) (vA (cC (NB GL (aA 1) jA) (AA (nE (EF (aA 4) (VA (SQ T b) hr (dA (yA aG (aA 2) jA) (dA (aA 1) (dA (lA (aA 3) jA) (dA jA nA)))))))) bC) (AA (MA (mB (dA (aA 4) (dA (aA 5) (dA (aA 7) nA)))))))))))))
theorem t7:UC P w K mg b 2 2 "_law_drawn_order" yK:=
 BB (k:=1) (body:=gQ) T.zcF kC rfl rfl fun _ _ _ _ _ _ _ hr=>vA (QA 2 kC.nd (pG nA)) (vA (zD PassesOwn.never rfl (yY rfl T.zcc (aA 0)) (ST 3 4 rfl kC.nd) (AA (nE (Pq (aA 2) (yA yD (VA (PM T b) hr (dA (VA (vH T b) hr (dA (aA 1) (dA (yA MB (aA 3) jA) nA))) (dA (yA MB jA (yA MD (yA MD jA (aA 3)) (aA 3))) nA))) (yA MB (aA 3) jA)) (aA 4))))) (AA (MA (aA 2))))
theorem Qg {f:Addr} {fd:FuncData} (F:Fun K "law" "law" KU f fd):Ql P w K mg b dG 51 f fd ["_law_script"] (SI K 1 MJ):=by unfold MJ;exact Sg (k:=50) (body:=LO) F JD rfl rfl fun cdv A outer s H E hr=>by(unfold LO lO zJ;exact vA (QA 1 JD.nd (yA MB jA (yA yD (VA (vH T b) hr (dA (aA 0) (dA jA nA))) jA))) (vA (cC (NB (JC hr.units) (yA yD (yA aG (VA (vH T b) hr (dA (aA 0) (dA jA nA))) jA) jA) jA) (AA (QA 1 JD.nd (yA MB jA (yA yD (yA aG (VA (vH T b) hr (dA (aA 0) (dA jA nA))) jA) jA)))) bC) (vA (Wg (VA (A8 T b) hr (dA (aA 0) (dA (aA 1) nA))) (Rv 2 3 4 rfl JD.nd)) (vA (QA 5 JD.nd (VA (PM T b) hr (dA (VA (vH T b) hr (dA (aA 0) (dA jA nA))) (dA jA nA)))) (vA (QA 6 JD.nd (QX rfl rfl T.zbt jA (yA HH (yA MB (aA 4) (yA yD (yA aG (aA 5) jA) jA)) jA))) (vA (cC (NB (JC hr.units) (yA yD (aA 5) jA) jA) (AA (QA 6 JD.nd (pZ rfl rfl T.zce (UF (Nc:=["_law_cell"]) rfl (dD (IX (aA 0) (pT jA) (pT jA))) (by decide +kernel) rfl (by decide +kernel) (by rfl) (by exact trivial) (fun _ _ _ _=>aC 0 (show(["_law_cell"]:List Str).Nodup by decide +kernel)) (fun _ _ _ _=>KE) (fun _ _ _ _=>yA yD (aA 0) (yA NT jA jA)))))) bC) (vA (nE (EF (aA 2) (mB (dA IC (dA jA (dA jA (dA (aA 6) nA))))))) (vA (QA 2 JD.nd (VA (t7 T b) hr (dA (aA 2) (dA (aA 0) nA)))) (vA (QA 7 JD.nd (bx (N7 T b) hr (by decide) rfl (dA (yA MB (aA 1) jA) (dA (xN rfl T.za7 (aA 2)) (dA jA nA))))) (vA (cC (cH (kG (VA (j8 T b) hr (dA (aA 7) (dA jA nA))))) (AA (MA fH)) bC) (vA (cC (NB GL (aA 3) (yA MD (aA 6) (yA MB (yA MD jA (aA 1)) jA))) (AA (MA (uL (oE (JC hr.units) (lA (aA 7) jA) IC) (FJ (Q6 (oE (JC hr.units) (aA 1) jA) (FJ (oE (JC hr.units) (lA (aA 7) jA) jA))))))) bC) (vA (cC (WM.tm (MI (NB (GH hr.units) (lA (aA 7) jA) IC) (BO (cH (kG (VA (i8 T b) hr (dA (lA (aA 7) jA) (dA (yA MB (aA 1) jA) nA)))))))) (AA (MA fH)) bC) (vA (zD PassesOwn.never rfl (dD (aA 2)) (aC 8 JD.nd) (AA (cC (cH (kG (VA (GV T b 3) hr (dA (aA 8) (dA (lA (aA 7) jA) (dA (yA MB (yA MD jA (aA 1)) jA) nA)))))) (AA (MA fH)) bC))) (AA (MA fH)))))))))))))))
end
end G
namespace BF
noncomputable def put{α:Type}(f:Nat->α)(i:Nat)(a:α):Nat->α:=fun j=>if j=i then a else f j
theorem iG{α:Type}(f:Nat->α)(i:Nat)(a:α):put f i a i=a:=if_pos rfl
theorem fF{α:Type}(f:Nat->α){i j:Nat}(a:α)(h:j≠i):put f i a j=f j:=if_neg h
noncomputable abbrev Bd:=Nat×Nat×Int
structure FG where
 t:Nat->Int
 c:Nat->Option Nat
 l:Option Nat
def step(s:FG)(e:Bd):FG:=if s.t e.1>s.t e.2.1+e.2.2 then⟨put s.t e.1 (s.t e.2.1+e.2.2),put s.c e.1 (some e.2.1),some e.1⟩else s
def turn(E:List Bd)(s:FG):FG:=E.foldl step ⟨s.t,s.c,none⟩
noncomputable def yF(t:Nat->Int)(e:Bd):Prop:=t e.1<=t e.2.1+e.2.2
structure NU(n:Nat)(E:List Bd):Prop where
 lt:∀e∈E,e.1<n/\e.2.1<n/\e.1≠e.2.1
 un:∀e∈E,∀e'∈E,e.1=e'.1->e.2.1=e'.2.1->e.2.2=e'.2.2
noncomputable def o2(w:Nat->Nat->Int)(c:Nat->Option Nat):Prop:=
 ∀C:List Nat,C ≠ []->C.Nodup->(C.map c).Perm (C.map some)->(C.map fun x=>w x ((c x).getD 0)).sum<0
structure Ok(n:Nat)(E:List Bd)(w:Nat->Nat->Int)(r:Nat)(D:List Bd)(u:Nat->Nat)(s:FG):Prop where
 cau:∀x y,s.c x=some y->(x,y,w x y)∈E/\s.t y+w x y<=s.t x/\1<=u x/\u x<=u y+1
 top:∀x,u x<=r+1
 has:∀x,1<=u x->∃y,s.c x=some y
 old:∀e∈E,r<=u e.2.1\/yF s.t e
 new:∀e∈D,r+1<=u e.2.1\/yF s.t e
 neg:o2 w s.c
 lst:∀x,s.l=some x->u x=r+1
theorem IJ{f g:Nat->Int}:∀(D:List Nat),(∀x∈D,f x<=g x)->(D.map f).sum<=(D.map g).sum
 | [],_=>Int.le_refl _
 | x::D,h=>by
  simp only[zfQ,sum_cons];have h1:=h x mem_cons_self;have h2:=IJ D fun y hy=>h y (mem_cons_of_mem _ hy)
  omega
theorem pY{f g:Nat->Int}:∀(D:List Nat),(D.map fun x=>f x-g x).sum=(D.map f).sum-(D.map g).sum
 | []=>rfl
 | x::D=>by simp only[zfQ,sum_cons];have:=pY (f:=f) (g:=g) D;omega
theorem qX{l l':List Int}(h:l.Perm l'):l.sum=l'.sum:=by
 induction h with
 | nil=>rfl
 | cons x _ ih=>simp only[sum_cons,ih]
 | swap x y l=>simp only[sum_cons];omega
 | trans _ _ h1 h2=>exact h1.trans h2
theorem map_none{C:List Nat}{c:Nat->Option Nat}(h:(C.map c).Perm (C.map some)):∀x∈C,∃y,c x=some y:=by intro x hx;have:c x∈C.map some:=h.subset (mem_map_of_mem hx);obtain⟨y,_,e⟩:=mem_map.mp this;exact⟨y,e.symm⟩
theorem TK{α β:Type}{f g:α->β}{C:List α}(h:∀x∈C,f x=g x):C.map f=C.map g:=map_congr_left h
theorem Ay{w:Nat->Nat->Int}{c:Nat->Option Nat}{t:Nat->Int}{p q:Nat}(hn:o2 w c)(hc:∀x y,c x=some y->t y+w x y<=t x)(hm:t p>t q+w p q):o2 w (put c p (some q)):=by
 intro C h0 hd hp;by_cases hin:p∈C
 · obtain⟨D1,D2,rfl⟩:=append_of_mem hin;have pp:(D1++p::D2).Perm (p::(D1++D2)):=perm_middle;have nd:(p::(D1++D2)).Nodup:=pp.nodup_iff.mp hd;have np:p∉D1++D2:=(nodup_cons.mp nd).1;generalize D1++D2=D at pp np;have ec:D.map (put c p (some q))=D.map c:=TK fun x hx=>fF c _ (fun z=>np (z ▸ hx))
   have h1:((p::D).map (put c p (some q))).Perm ((p::D).map some):=((pp.map _).symm.trans hp).trans (pp.map _);rw[zfQ,iG,ec]at h1;have hall:∀x∈D,∃y,c x=some y:=fun x hx=>by have:c x∈(p::D).map some:=h1.subset (mem_cons_of_mem _ (mem_map_of_mem hx));obtain⟨y,_,e⟩:=mem_map.mp this;exact⟨y,e.symm⟩
   have h2:=qX (h1.map fun o=>t (o.getD 0));simp only[zfQ,map_map,sum_cons,Function.comp_def,Option.getD_some]at h2
   change t q+_=t p+(D.map t).sum at h2
   have h3:((D1++p::D2).map fun x=>w x ((put c p (some q) x).getD 0)).sum=w p q+(D.map fun x=>w x ((c x).getD 0)).sum:=by
    have:=qX (pp.map fun x=>w x ((put c p (some q) x).getD 0));rw[this,zfQ,sum_cons,iG]
    congr 1
    rw[TK (f:=fun x=>w x ((put c p (some q) x).getD 0)) (g:=fun x=>w x ((c x).getD 0)) fun x hx=>by rw[fF c _ (fun z:x=p=>np (z ▸ hx))]]
   have h4:(D.map fun x=>w x ((c x).getD 0)).sum<=(D.map fun x=>t x-t ((c x).getD 0)).sum:=IJ D fun x hx=>by obtain⟨y,ey⟩:=hall x hx;have:=hc x y ey;rw[ey];simp only[Option.getD_some];omega
   rw[pY]at h4;rw[h3];omega
 · have ec:C.map (put c p (some q))=C.map c:=TK fun x hx=>fF c _ (fun z=>hin (z ▸ hx))
   rw[ec]at hp;have:=hn C h0 hd hp;rw[TK (f:=fun x=>w x ((put c p (some q) x).getD 0)) (g:=fun x=>w x ((c x).getD 0)) fun x hx=>by rw[fF c _ (fun z:x=p=>hin (z ▸ hx))]];exact this
theorem Gy{n:Nat}{E:List Bd}{w:Nat->Nat->Int}{r:Nat}{D:List Bd}{u:Nat->Nat}{s:FG}(T:NU n E)(hw:∀e∈E,w e.1 e.2.1=e.2.2)(I:Ok n E w r D u s){e:Bd}(he:e∈E) :
 ∃u',Ok n E w r (e::D) u' (step s e):=by
 obtain⟨p,q,m⟩:=e;obtain⟨_,_,hne⟩:=T.lt _ he;have ew:w p q=m:=hw _ he;have hne':q≠p:=fun z=>hne z.symm
 by_cases hm:s.t p>s.t q+m
 · have es:step s (p,q,m)=⟨put s.t p (s.t q+m),put s.c p (some q),some p⟩:=if_pos hm;rw[es];have uq:r<=u q:=by
    rcases I.old _ he with z | z
    · exact z
    · exact absurd z (by simp only[yF];omega)
   have up:u p<=r+1:=I.top p;have dec:∀x,put s.t p (s.t q+m) x<=s.t x:=fun x=>by
    by_cases hx:x=p
    · rw[hx,iG];omega
    · rw[fF _ _ hx];exact Int.le_refl _
   have grow:∀x,u x<=put u p (r+1) x:=fun x=>by
    by_cases hx:x=p
    · rw[hx,iG];exact up
    · rw[fF _ _ hx];exact zf1 _
   have keep:∀k,∀e:Bd,k<=r+1->(k<=u e.2.1\/yF s.t e)->(k<=put u p (r+1) e.2.1\/yF (put s.t p (s.t q+m)) e):=fun k e hk h=>by
    by_cases hx:e.2.1=p
    · exact .inl (by rw[hx,iG];exact hk)
    · rcases h with h | h
      · exact .inl (Nat.le_trans h (grow _))
      · refine .inr ?_;simp only[yF]at h ⊢;rw[fF _ _ hx];exact Int.le_trans (dec _) h
   refine⟨put u p (r+1),⟨fun x y h=>?_,fun x=>?_,fun x h=>?_,fun e h=>keep r e (Nat.le_succ r) (I.old e h),fun e h=>?_,Ay I.neg (fun x y h=>(I.cau x y h).2.1) (by rw[ew];exact hm),fun x h=>?_⟩⟩
   · by_cases hx:x=p
     · subst hx;simp only[iG]at h ⊢;cases h;rw[fF _ _ hne',fF _ _ hne',ew];exact⟨he,Int.le_refl _,by omega,by omega⟩
     · simp only[fF _ _ hx]at h ⊢;obtain⟨h1,h2,h3,h4⟩:=I.cau x y h;exact⟨h1,Int.le_trans (Int.add_le_add_right (dec y) _) h2,h3,Nat.le_trans h4 (Nat.add_le_add_right (grow y) 1)⟩
   · by_cases hx:x=p
     · rw[hx,iG];exact zf1 _
     · rw[fF _ _ hx];exact I.top x
   · by_cases hx:x=p
     · subst hx;exact⟨q,iG _ _ _⟩
     · rw[fF _ _ hx]at h;obtain⟨y,hy⟩:=I.has x h;exact⟨y,by simp only[fF _ _ hx];exact hy⟩
   · rcases mem_cons.mp h with z | z
     · subst z;refine .inr ?_;simp only[yF,iG,fF _ _ hne'];exact Int.le_refl _
     · exact keep (r+1) e (zf1 _) (I.new e z)
   · cases h;exact iG _ _ _
 · have es:step s (p,q,m)=s:=if_neg hm;rw[es];refine⟨u,⟨I.cau,I.top,I.has,I.old,fun e h=>?_,I.neg,I.lst⟩⟩;rcases mem_cons.mp h with z | z
   · subst z;exact .inr (by simp only[yF];omega)
   · exact I.new e z
theorem oT{n:Nat}{E:List Bd}{w:Nat->Nat->Int}{r:Nat}(T:NU n E)(hw:∀e∈E,w e.1 e.2.1=e.2.2):∀(L D:List Bd)(u:Nat->Nat)(s:FG),(∀e∈L,e∈E)->Ok n E w r D u s->∃u' D',Ok n E w r D' u' (L.foldl step s)/\(∀e∈L,e∈D')/\∀e∈D,e∈D'
 | [],D,u,s,_,I=>⟨u,D,I,(fun _ h=>nomatch h),fun _ h=>h⟩
 | e::L,D,u,s,hs,I=>by
  obtain⟨u1,I1⟩:=Gy T hw I (hs e mem_cons_self);obtain⟨u2,D2,I2,h1,h2⟩:=oT T hw L (e::D) u1 (step s e) (fun x hx=>hs x (mem_cons_of_mem _ hx)) I1;refine⟨u2,D2,I2,fun x hx=>?_,fun x hx=>h2 x (mem_cons_of_mem _ hx)⟩;rcases mem_cons.mp hx with z | z
  · rw[z];exact h2 e mem_cons_self
  · exact h1 x z
def YD(E:List Bd):Nat->FG->FG
 | 0,s=>s
 | r+1,s=>turn E (YD E r s)
noncomputable def s0:FG:=⟨fun _=>0,fun _=>none,none⟩
theorem zS{n:Nat}{E:List Bd}{w:Nat->Nat->Int}(T:NU n E)(hw:∀e∈E,w e.1 e.2.1=e.2.2):∀r,∃u D,Ok n E w r D u (YD E (r+1) s0)/\∀e∈E,e∈D
 | 0=>by
  have I:Ok n E w 0 [] (fun _=>0) ⟨s0.t,s0.c,none⟩:=by
   refine⟨fun x y h=>(by cases h),fun x=>Nat.zero_le _,fun x h=>(by omega),fun e h=>.inl (Nat.zero_le _),(fun e h=>nomatch h),fun C h0 hd hp=>?_,fun x h=>(by cases h)⟩;cases C with
   | nil=>exact absurd rfl h0
   | cons x C=>obtain⟨y,e⟩:=map_none hp x mem_cons_self;cases e
  obtain⟨u,D,I',h1,_⟩:=oT T hw E [] _ _ (fun _ h=>h) I;exact⟨u,D,I',h1⟩
 | r+1=>by
  obtain⟨u,D,I,hD⟩:=zS T hw r;have I1:Ok n E w (r+1) [] u ⟨(YD E (r+1) s0).t,(YD E (r+1) s0).c,none⟩:=
   ⟨I.cau,fun x=>Nat.le_succ_of_le (I.top x),I.has,fun e h=>I.new e (hD e h),(fun e h=>nomatch h),I.neg,fun x h=>(by cases h)⟩
  obtain⟨u2,D2,I2,h1,_⟩:=oT T hw E [] _ _ (fun _ h=>h) I1;exact⟨u2,D2,I2,h1⟩
theorem vW:∀(L:List Bd)(s:FG),(L.foldl step s).l=none->s.l=none/\L.foldl step s=s/\∀e∈L,yF s.t e
 | [],s,h=>⟨h,rfl,(fun _ h=>nomatch h)⟩
 | e::L,s,h=>by
  obtain⟨h1,h2,h3⟩:=vW L (step s e) h;by_cases hm:s.t e.1>s.t e.2.1+e.2.2
  · have es:step s e=⟨put s.t e.1 (s.t e.2.1+e.2.2),put s.c e.1 (some e.2.1),some e.1⟩:=if_pos hm;rw[es]at h1;cases h1
  · have es:step s e=s:=if_neg hm;rw[es]at h1 h2 h3;refine⟨h1,by rw[foldl_cons,es];exact h2,fun x hx=>?_⟩;rcases mem_cons.mp hx with z | z
    · subst z;simp only[yF];omega
    · exact h3 x z
noncomputable def WB(f:Nat->Nat):Nat->Nat->Nat
 | 0,x=>x
 | k+1,x=>f (WB f k x)
theorem uG(f:Nat->Nat)(x:Nat)(b:Nat):∀a,WB f (a+b) x=WB f a (WB f b x)
 | 0=>by rw[Nat.zero_add];rfl
 | a+1=>by rw[Nat.add_right_comm];show f (WB f (a+b) x)=f (WB f a (WB f b x));rw[uG f x b a]
theorem Kd:∀(n:Nat)(g:Nat->Nat),(∀k,k<=n->g k<n)->∃i j,i<j/\j<=n/\g i=g j
 | 0,g,h=>absurd (h 0 (zf1 _)) (Nat.not_lt_zero _)
 | n+1,g,h=>by
  by_cases hx:∃k,k<=n/\g k=g (n+1)
  · obtain⟨k,h1,h2⟩:=hx;exact⟨k,n+1,by omega,zf1 _,h2⟩
  · have ne:∀k,k<=n->g k≠g (n+1):=fun k hk e=>hx ⟨k,hk,e⟩
    have hl:=h (n+1) (zf1 _);obtain⟨i,j,h1,h2,h3⟩:=Kd n (fun k=>if g k>g (n+1)then g k-1 else g k) fun k hk=>by have h1:=h k (by omega);have h2:=ne k hk;show(if g k>g (n+1)then g k-1 else g k)<n;split<;>omega
    refine⟨i,j,h1,by omega,?_⟩;have a1:=ne i (by omega);have a2:=ne j h2;have b1:(if g i>g (n+1)then g i-1 else g i)=(if g j>g (n+1)then g j-1 else g j):=h3;split at b1<;>split at b1<;>omega
theorem Xj{Q:Nat->Prop}:∀d,1<=d->Q d->∃k,1<=k/\k<=d/\Q k/\∀i,1<=i->i<k->¬Q i:=by
 intro d
 induction d using Nat.strongRecOn with
 | ind d ih=>
  intro h1 hq;by_cases hx:∃i,1<=i/\i<d/\Q i
  · obtain⟨i,a,b,c⟩:=hx;obtain⟨k,k1,k2,k3,k4⟩:=ih i b a c;exact⟨k,k1,by omega,k3,k4⟩
  · exact⟨d,h1,zf1 _,hq,fun i a b c=>hx ⟨i,a,b,c⟩⟩
noncomputable def nxt(c:Nat->Option Nat)(x:Nat):Nat:=(c x).getD 0
structure RH(n:Nat)(E:List Bd)(w:Nat->Nat->Int)(c:Nat->Option Nat)(P k:Nat):Prop where
 pos:1<=k
 le:k<=n
 back:WB (nxt c) k P=P
 first:∀i,1<=i->i<k->WB (nxt c) i P≠P
 edge:∀i,i<=k->(WB (nxt c) i P,WB (nxt c) (i+1) P,w (WB (nxt c) i P) (WB (nxt c) (i+1) P))∈E/\c (WB (nxt c) i P)=some (WB (nxt c) (i+1) P)
 sum:((List.range k).map fun i=>w (WB (nxt c) i P) (WB (nxt c) (i+1) P)).sum<0
theorem apart{f:Nat->Nat}{P k:Nat}(hb:WB f k P=P)(hf:∀i,1<=i->i<k->WB f i P≠P){i j:Nat}(hij:i<j)(hj:j<=k)(h0:i=0->j<k):WB f i P≠WB f j P:=by
 intro e;have e2:WB f ((k-j)+i) P=WB f ((k-j)+j) P:=by rw[uG,uG,e]
 rw[Nat.sub_add_cancel hj,hb]at e2;refine hf (k-j+i) ?_ ?_ e2
 · by_cases h:i=0
   · have:=h0 h;omega
   · omega
 · omega
theorem R7{α:Type}{g:Nat->α}(k:Nat)(h:∀i j,i<j->j<k->g i≠g j):((List.range k).map g).Nodup:=by rw[nodup_iff_pairwise_ne,pairwise_map];refine List.Pairwise.imp_of_mem ?_ (pairwise_lt_range (n:=k));intro a b ha hb hab;exact h a b hab (mem_range.mp hb)
theorem TY{n:Nat}{E:List Bd}{w:Nat->Nat->Int}{D:List Bd}{u:Nat->Nat}{s:FG}{x:Nat}(T:NU n E)(I:Ok n E w n D u s)(hx:s.l=some x):∃k,RH n E w s.c (WB (nxt s.c) n x) k/\
 ∀i,i<=n->s.c (WB (nxt s.c) i x)=some (WB (nxt s.c) (i+1) x)/\WB (nxt s.c) i x<n:=by
 have ux:=I.lst x hx;have zcj:∀y,1<=u y->s.c y=some (nxt s.c y):=fun y hy=>by obtain⟨z,e⟩:=I.has y hy;unfold nxt;rw[e];rfl
 have ch:∀i,i<=n->n+1<=u (WB (nxt s.c) i x)+i:=by
  intro i
  induction i with
  | zero=>intro _;show n+1<=u x+0;omega
  | succ i ih=>intro hi;have h1:=ih (by omega);have h2:=zcj (WB (nxt s.c) i x) (by omega);have h3:=(I.cau _ _ h2).2.2.2;show n+1<=u (nxt s.c (WB (nxt s.c) i x))+(i+1);omega
 have cd:∀i,i<=n->s.c (WB (nxt s.c) i x)=some (WB (nxt s.c) (i+1) x):=fun i hi=>zcj _ (by have:=ch i hi;omega)
 have lt:∀i,i<=n->WB (nxt s.c) i x<n:=fun i hi=>(T.lt _ (I.cau _ _ (cd i hi)).1).1
 obtain⟨i,j,hij,hj,e⟩:=Kd n (fun i=>WB (nxt s.c) i x) lt;have per:WB (nxt s.c) (j-i) (WB (nxt s.c) n x)=WB (nxt s.c) n x:=by
  rw[<- uG];have a1:j-i+n=(n-i)+j:=by omega
  rw[a1,uG,<- e,<- uG]
  congr 1
  omega
 obtain⟨k,k1,k2,k3,k4⟩:=Xj (Q:=fun d=>WB (nxt s.c) d (WB (nxt s.c) n x)=WB (nxt s.c) n x) (j-i) (by omega) per;have shf:∀m,WB (nxt s.c) (j+m) x=WB (nxt s.c) (i+m) x:=fun m=>by rw[Nat.add_comm j m,Nat.add_comm i m,uG,uG,e]
 have ed:∀m,m<=k->s.c (WB (nxt s.c) m (WB (nxt s.c) n x))=some (WB (nxt s.c) (m+1) (WB (nxt s.c) n x)):=fun m hm=>by
  rw[<- uG,<- uG];by_cases h:m+n<=n
  · have:m=0:=by omega
    subst this;rw[Nat.zero_add,Nat.add_comm];exact cd n (zf1 _)
  · have a1:m+n=j+(m+n-j):=by omega
    have a2:m+1+n=j+(m+n-j+1):=by omega
    rw[a1,a2,shf,shf];exact cd _ (by omega)
 refine⟨k,⟨k1,by omega,k3,k4,fun m hm=>⟨(I.cau _ _ (ed m hm)).1,ed m hm⟩,?_⟩,fun i hi=>⟨cd i hi,lt i hi⟩⟩;generalize WB (nxt s.c) n x=P at *;have hn:=I.neg ((List.range k).map fun m=>WB (nxt s.c) m P) (by
  intro z;have:=congrArg List.length z;simp at this;omega) (R7 k fun a b hab hb=>apart k3 k4 hab (by omega) (fun _=>hb)) (by
  rw[map_map,map_map];have e1:(List.range k).map (s.c ∘ fun m=>WB (nxt s.c) m P)=(List.range k).map (fun m=>some (WB (nxt s.c) (m+1) P)):=TK fun m hm=>ed m (Nat.le_of_lt (mem_range.mp hm))
  rw[e1];obtain⟨k',rfl⟩:∃k',k=k'+1:=⟨k-1,by omega⟩
  rw[range_succ,map_append];have e2:(List.range k'++[k']).map (some ∘ fun m=>WB (nxt s.c) m P)=some P::(List.range k').map (fun m=>some (WB (nxt s.c) (m+1) P)):=by rw[<- range_succ,range_succ_eq_map,zfQ,map_map];rfl
  rw[e2];have e3:[k'].map (fun m=>some (WB (nxt s.c) (m+1) P))=[some P]:=by rw[zfQ,zfR,k3]
  rw[e3];exact perm_append_singleton _ _)
 rw[map_map]at hn;have e4:(List.range k).map ((fun y=>w y ((s.c y).getD 0)) ∘ fun m=>WB (nxt s.c) m P)=(List.range k).map fun i=>w (WB (nxt s.c) i P) (WB (nxt s.c) (i+1) P):=rfl
 rw[e4]at hn;exact hn
end BF
namespace SM
section
variable{l:LI}{h:HI}{f g fo fy fx fe fa fd:RE}
@[simp] theorem En:uU l h=some (.ref h.length,h++[.dt []]):=by rfl
def JP:List Dt×HI->Option (Dt×HI):=fun r=>if r.1.length<=sizeLine then(xE r.1).map fun is=>(.Ip is,r.2)else none
@[simp] theorem VZ(r:RA):CP r l h=iB (r l h) JP:=by rfl
theorem EX(i j:Int):JP ([.int i,.int j],h)=some (.Ip [i,j],h):=by unfold JP;rw[if_pos (show([Dt.int i,Dt.int j]:List Dt).length<=sizeLine by simp)];rfl
def X2(n:Nat)(k:List Int):Dt×HI->Option (Dt×HI):=fun x=>match x.2[n]? with
 | some (.dt kvs)=>some ((OI kvs k).getD x.1,x.2)
 | _=>none
theorem mZ{n:Nat}{k:List Int}{d:Dt}{kvs:List (List Int×Dt)}(e:h[n]?=some (.dt kvs)):X2 n k (d,h)=some ((OI kvs k).getD d,h):=by simp only[X2,e]
theorem NY{n:Nat}{k:List Int}{kvs:List (List Int×Dt)}(e1:fo l h=some (.ref n,h))(e2:h[n]?=some (.dt kvs))(e3:fy l h=some (.Ip k,h)):DH fo fy fx l h=iB (fx l h) (X2 n k):=by simp only[DH,e1,e2,e3,zfV];rfl
theorem EZ{n:Nat}{k:List Int}{kvs:List (List Int×Dt)}{d:Dt}(e0:fe l h=some (d,h))(e1:fo l h=some (.ref n,h))(e2:h[n]?=some (.dt kvs))(e3:fy l h=some (.Ip k,h))(c:kvs.length<sizeLine) :
 gP fe fo fy l h=some (.nx l (h.set n (.dt (WI kvs k d)))):=by
 simp only[gP,e0,e1,e2,e3,zfV,if_pos c]
theorem Uj{n:Nat}{kvs:List (List Int×Dt)}(e1:f l h=some (.ref n,h))(e2:h[n]?=some (.dt kvs)):wI f l h=some (.it n,h.set n (.df kvs)):=by simp only[wI,e1,e2,zfV]
theorem Tj{n:Nat}{kvs:List (List Int×Dt)}(e1:f l h=some (.ref n,h))(e2:h[n]?=some (.df kvs)):wI f l h=some (.it n,h):=by simp only[wI,e1,e2,zfV]
def AU(fd:RE)(l:LI):Dt×HI->Option (Dt×HI):=fun r=>iB (fd l r.2) fun q=>(TB q.2 r.1).bind fun xs=>(xE xs).bind fun ns=>if ns ≠ []then some (.int (hC ns),q.2)else none
@[simp] theorem Pn:vU fa fd l h=iB (fa l h) (AU fd l):=by rfl
end
theorem Rk{β:Type}{i j n:Nat}{body:RS}{kvs:List (List Int×Dt)}(S:β->LI->HI->Prop)(F:β->List Int×Dt->β)(hS:∀b l h,S b l h->h[n]?=some (.df kvs))
 (H:∀x∈kvs,∀b l h,S b l h->∃r,body ((l.set i (some (.tup (x.1.map Dt.int)))).set j (some x.2)) h=some r/\Pass (S (F b x)) r) :
 ∀(m k:Nat)(b:β)(l:LI)(h:HI),m=(kvs.length-k)+1->k<=kvs.length->S b l h->∃l' h',wC (dF i j) body (.it n) m k l h=some (.nx l' h')/\S ((kvs.drop k).foldl F b) l' h':=by
 intro m
 induction m with
 | zero=>intro k b l h hm;omega
 | succ m ih=>
  intro k b l h hm hk s;have e:=hS b l h s;by_cases hlt:k<kvs.length
  · have ek:kvs[k]?=some kvs[k]:=getElem?_eq_getElem hlt;obtain⟨r,e1,p⟩:=H kvs[k] (getElem_mem hlt) b l h s;have ed:(kvs.drop k).foldl F b=(kvs.drop (k+1)).foldl F (F b kvs[k]):=by rw[drop_eq_getElem_cons hlt,foldl_cons]
    rw[ed];have eu:wC (dF i j) body (.it n) (m+1) k l h=iB (body ((l.set i (some (.tup (kvs[k].1.map Dt.int)))).set j (some kvs[k].2)) h) (UP (wC (dF i j) body (.it n) m (k+1))):=by
     simp only[wC,Src.at,e,ek,zfU,OY,zfV];cases body ((l.set i (some (.tup (kvs[k].1.map Dt.int)))).set j (some kvs[k].2)) h with
     | none=>rfl
     | some r=>cases r<;>rfl
    rw[eu,e1,oA];cases r with
    | nx l2 h2=>exact ih (k+1) _ l2 h2 (by omega) hlt p
    | ct l2 h2=>exact ih (k+1) _ l2 h2 (by omega) hlt p
    | bk l2 h2=>exact p.elim
    | rt d h2=>exact p.elim
  · have ek:kvs[k]?=none:=getElem?_eq_none (by omega);refine⟨l,h,by simp only[wC,Src.at,e,ek,Option.map_none],?_⟩;rw[drop_eq_nil_of_le (by omega)];exact s
theorem Cg{β:Type}{i j n:Nat}{body:RS}{kvs:List (List Int×Dt)}{l:LI}{h:HI}(S:β->LI->HI->Prop)(F:β->List Int×Dt->β)(hS:∀b l h,S b l h->h[n]?=some (.df kvs))
 (H:∀x∈kvs,∀b l h,S b l h->∃r,body ((l.set i (some (.tup (x.1.map Dt.int)))).set j (some x.2)) h=some r/\Pass (S (F b x)) r) (b:β) (s:S b l h) :
 ∃l' h',uE (dF i j) body l (.it n,h)=some (.nx l' h')/\S (kvs.foldl F b) l' h':=by
 have e:=hS b l h s;have:=Rk (i:=i) (j:=j) S F hS H (kvs.length+1) 0 b l h (by omega) (Nat.zero_le _) s;rw[drop_zero]at this;obtain⟨l',h',e1,e2⟩:=this;refine⟨l',h',?_,e2⟩;show wC (dF i j) body (.it n) (Src.fuel (.it n) h) 0 l h=_;have ef:Src.fuel (.it n) h=kvs.length+1:=by simp only[Src.fuel,e]
 rw[ef];exact e1
end SM
namespace G
noncomputable def nB(e:Bd):List Int×Dt:=([(e.1:Int),(e.2.1:Int)],.int e.2.2)
noncomputable def pA(e:Bd):Dt:=.tup [.int (e.1:Nat),.int (e.2.1:Nat),.int e.2.2]
noncomputable def qD(p q:Nat)(x:Bd):Bool:=decide (x.1=p)&&decide (x.2.1=q)
def NH(E:List Bd)(p q:Nat):Option Int:=(E.find? (qD p q)).map (·.2.2)
def dJ(E:List Bd)(p q:Nat)(v:Int):List Bd:=if E.any (qD p q)=true then E.map (fun x=>if qD p q x=true then(x.1,x.2.1,v)else x)else E++[(p,q,v)]
def XC(E:List Bd)(e:Bd):List Bd:=dJ E e.1 e.2.1 (min ((NH E e.1 e.2.1).getD e.2.2) e.2.2)
theorem YT(p q:Nat)(x:Bd):decide ((nB x).1=[(p:Int),(q:Int)])=qD p q x:=by unfold nB qD;by_cases h1:x.1=p<;>by_cases h2:x.2.1=q<;>simp[h1,h2]<;>omega
theorem cU(p q:Nat):∀E:List Bd,OI (E.map nB) [(p:Int),(q:Int)]=(NH E p q).map Dt.int
 | []=>rfl
 | x::E=>by
  have ih:=cU p q E;unfold OI NH at ih ⊢;rw[zfQ,find?_cons,find?_cons,YT];cases qD p q x with
  | true=>rfl
  | false=>exact ih
theorem dh(p q:Nat)(E:List Bd):((E.map nB).any fun y=>decide (y.1=[(p:Int),(q:Int)]))=E.any (qD p q):=by
 rw[any_map]
 congr 1
 funext x
 exact YT p q x
theorem ZX(p q:Nat)(v:Int)(E:List Bd):WI (E.map nB) [(p:Int),(q:Int)] (.int v)=(dJ E p q v).map nB:=by
 unfold WI dJ;rw[dh];split
 · rw[map_map,map_map];refine map_congr_left fun x _=>?_
   have k:=YT p q x;simp only[Function.comp_def];cases c:qD p q x with
   | true=>rw[c]at k;rw[if_pos (of_decide_eq_true k),if_pos rfl];rfl
   | false=>rw[c]at k;rw[if_neg (of_decide_eq_false k),if_neg zf0]
 · rw[map_append];rfl
structure OJ(told E:List Bd):Prop where
 mem:∀x∈E,x∈told
 low:∀e∈told,∃x∈E,x.1=e.1/\x.2.1=e.2.1/\x.2.2<=e.2.2
 un:∀x∈E,∀y∈E,x.1=y.1->x.2.1=y.2.1->x.2.2=y.2.2
 len:E.length<=told.length
theorem Bp{p q:Nat}{x:Bd}:qD p q x=true↔x.1=p/\x.2.1=q:=by simp[qD]
theorem Mt:OJ [] []:=⟨fun _ h=>h,fun _ h=>(nomatch h),fun _ h=>(nomatch h),zf1 _⟩
theorem Jt{told E:List Bd}(I:OJ told E)(e:Bd):OJ (told++[e]) (XC E e):=by
 obtain⟨p,q,m⟩:=e;unfold XC dJ;cases ha:NH E p q with
 | none=>
  have nk:∀x∈E,qD p q x=false:=by unfold NH at ha;simpa using ha
  have na:E.any (qD p q)=false:=by rw[any_eq_false];intro x hx;rw[nk x hx];exact zf0
  simp only[na,zf4,if_false,ha,Option.getD_none,Int.min_self];refine⟨fun x hx=>?_,fun e' he=>?_,fun x hx y hy h1 h2=>?_,by simp;exact I.len⟩
  · rcases mem_append.mp hx with hx | hx
    · exact mem_append_left _ (I.mem x hx)
    · exact mem_append_right _ hx
  · rcases mem_append.mp he with he | he
    · obtain⟨x,hx,r⟩:=I.low e' he;exact⟨x,mem_append_left _ hx,r⟩
    · rw[mem_singleton.mp he];exact⟨_,mem_append_right _ (mem_singleton.mpr rfl),rfl,rfl,Int.le_refl _⟩
  · rcases mem_append.mp hx with hx | hx<;>rcases mem_append.mp hy with hy | hy
    · exact I.un x hx y hy h1 h2
    · have:=nk x hx;rw[mem_singleton.mp hy]at h1 h2;rw[Bp.mpr ⟨h1,h2⟩]at this;cases this
    · have:=nk y hy;rw[mem_singleton.mp hx]at h1 h2;rw[Bp.mpr ⟨h1.symm,h2.symm⟩]at this;cases this
    · rw[mem_singleton.mp hx,mem_singleton.mp hy]
 | some v0=>
  obtain⟨x0,hf,rfl⟩:∃x0,E.find? (qD p q)=some x0/\x0.2.2=v0:=by unfold NH at ha;simpa using ha
  have k0:=find?_some hf;have m0:=mem_of_find?_eq_some hf;have na:E.any (qD p q)=true:=any_eq_true.mpr ⟨x0,m0,k0⟩;obtain⟨k1,k2⟩:=Bp.mp k0;have un0:∀x∈E,qD p q x=true->x.2.2=x0.2.2:=fun x hx h=>by obtain⟨h1,h2⟩:=Bp.mp h;exact I.un x hx x0 m0 (h1.trans k1.symm) (h2.trans k2.symm)
  simp only[na,if_true,Option.getD_some];have vm:((p,q,min x0.2.2 m):Bd)∈told++[(p,q,m)]:=by
   by_cases h:x0.2.2<=m
   · rw[Int.min_eq_left h];refine mem_append_left _ ?_;have:=I.mem x0 m0;rw[<- k1,<- k2];exact this
   · rw[Int.min_eq_right (by omega)];exact mem_append_right _ (mem_singleton.mpr rfl)
  refine⟨fun x hx=>?_,fun e' he=>?_,fun x hx y hy h1 h2=>?_,by simp;have:=I.len;omega⟩
  · obtain⟨y,hy,rfl⟩:=mem_map.mp hx;split
    · rename_i h;obtain⟨h1,h2⟩:=Bp.mp h;rw[h1,h2];exact vm
    · exact mem_append_left _ (I.mem y hy)
  · have new:∀x∈E,(if qD p q x=true then(x.1,x.2.1,min x0.2.2 m)else x)∈E.map (fun x=>if qD p q x=true then(x.1,x.2.1,min x0.2.2 m)else x):=fun x hx=>mem_map_of_mem hx
    rcases mem_append.mp he with he | he
    · obtain⟨x,hx,r1,r2,r3⟩:=I.low e' he;refine⟨_,new x hx,?_⟩;split
      · rename_i h;refine⟨r1,r2,?_⟩;have:=un0 x hx h;show min x0.2.2 m<=e'.2.2;have:=Int.min_le_left x0.2.2 m;omega
      · exact⟨r1,r2,r3⟩
    · rw[mem_singleton.mp he];refine⟨_,new x0 m0,?_⟩;rw[if_pos k0];exact⟨k1,k2,Int.min_le_right _ _⟩
  · obtain⟨x',hx',rfl⟩:=mem_map.mp hx;obtain⟨y',hy',rfl⟩:=mem_map.mp hy;have fst:∀z:Bd,(if qD p q z=true then((z.1,z.2.1,min x0.2.2 m):Bd)else z).1=z.1/\(if qD p q z=true then((z.1,z.2.1,min x0.2.2 m):Bd)else z).2.1=z.2.1:=fun z=>by split<;>exact⟨rfl,rfl⟩
    rw[(fst x').1,(fst y').1]at h1;rw[(fst x').2,(fst y').2]at h2;have kk:qD p q x'=qD p q y':=by unfold qD;rw[h1,h2]
    rw[kk];split
    · rfl
    · exact I.un x' hx' y' hy' h1 h2
theorem jY:∀(L told E:List Bd),OJ told E->OJ (told++L) (L.foldl XC E)
 | [],told,E,I=>by rw[zf3];exact I
 | e::L,told,E,I=>by have:=jY L (told++[e]) (XC E e) (Jt I e);rw[append_assoc]at this;exact this
def oC(told:List Bd):List Bd:=told.foldl XC []
theorem JJ(told:List Bd):OJ told (oC told):=by have:=jY told [] [] Mt;rwa[zfW]at this
theorem wX(E:List Bd)(p q:Nat)(v:Int):(dJ E p q v).length<=E.length+1:=by
 unfold dJ;split
 · simp
 · simp
theorem iX{α β:Type}(f:β->α->β)(b:β){xs:List α}{k:Nat}{x:α}(hx:xs[k]?=some x):(xs.take (k+1)).foldl f b=f ((xs.take k).foldl f b) x:=by rw[take_add_one,hx,foldl_append];rfl
theorem P7(told:List Bd)(hl:told.length<=1000)(h:HI):kJ [.lst (told.map pA)] h=some (.ref h.length,h++[.dt ((oC told).map nB)]):=by
 obtain⟨l',h',e,⟨y2,y3,rfl⟩,rfl,_⟩:=qL (i:=2) (body:=DK) pA (fun k l h'=>(∃y2 y3,l=[some (.lst (told.map pA)),some (.ref h.length),y2,y3])/\h'=h++[.dt (((told.take k).foldl XC []).map nB)]/\((told.take k).foldl XC []).length<=k) told 0 (by
  rintro k x hx l h' ⟨⟨y2,y3,rfl⟩,rfl,hk⟩;rw[Nat.zero_add]at hk ⊢;have kl:k<told.length:=(zfY hx).1;rw[iX XC [] hx];generalize (told.take k).foldl XC []=E at hk;have ed:(h++[Ob.dt (E.map nB)])[h.length]?=some (.dt (E.map nB)):=by simp
  have LL:([some (Dt.lst (told.map pA)),some (.ref h.length),y2,y3]:LI).set 2 (some (pA x))=[some (Dt.lst (told.map pA)),some (.ref h.length),some (pA x),y3]:=rfl;rw[LL];refine⟨.nx [some (.lst (told.map pA)),some (.ref h.length),some (pA x),some (.Ip [(x.1:Int),(x.2.1:Int)])] (h++[.dt ((XC E x).map nB)]),?_,⟨_,_,rfl⟩,rfl,?_⟩
  · have g1:DH (eV 1) (eV 3) (e2 BA (eV 2) (eC (.int 2))) [some (.lst (told.map pA)),some (.ref h.length),some (pA x),some (.Ip [(x.1:Int),(x.2.1:Int)])] (h++[.dt (E.map nB)])=some (.int ((NH E x.1 x.2.1).getD x.2.2),h++[.dt (E.map nB)]):=by rw[NY (n:=h.length) (k:=[(x.1:Int),(x.2.1:Int)]) (kvs:=E.map nB) (by simp) ed (by simp)];simp only[EA,sA,DA,zfM,zfN,uA,oA,pA,yB,EI,zfU];rw[mZ ed,cU];cases NH E x.1 x.2.1<;>rfl
    have g2:=EZ (l:=[some (.lst (told.map pA)),some (.ref h.length),some (pA x),some (.Ip [(x.1:Int),(x.2.1:Int)])]) (h:=h++[.dt (E.map nB)]) (fe:=kP QJ (DH (eV 1) (eV 3) (e2 BA (eV 2) (eC (.int 2)))) (e2 BA (eV 2) (eC (.int 2)))) (fo:=eV 1) (fy:=eV 3) (n:=h.length) (k:=[(x.1:Int),(x.2.1:Int)]) (kvs:=E.map nB)
     (d:=.int (min ((NH E x.1 x.2.1).getD x.2.2) x.2.2)) (by
      rw[jM,g1,oA];simp[pA]) (by simp) ed (by simp) (by simp;omega)
    rw[ZX]at g2;have es:(h++[Ob.dt (E.map nB)]).set h.length (.dt ((XC E x).map nB))=h++[.dt ((XC E x).map nB)]:=by simp
    simp only[DK,XA,pB,VZ,SA,NA,EA,sA,DA,zfM,zfN,uA,oA,pA,yB,UB,pD,zfU,EX,zfT,zfS,ZA];have g3:=g2;simp only[pA]at g3;rw[g3];show some (Rs.nx _ ((h++[Ob.dt (E.map nB)]).set h.length (.dt ((XC E x).map nB))))=_;rw[es]
  · have:=wX E x.1 x.2.1 (min ((NH E x.1 x.2.1).getD x.2.2) x.2.2);show(XC E x).length<=k+1;unfold XC;omega) [some (.lst (told.map pA)),some (.ref h.length),none,none] (h++[.dt []]) ⟨⟨_,_,rfl⟩,by simp,by simp⟩
 rw[Nat.zero_add,take_length]at e;simp[kJ,KM,e];rfl
noncomputable def JE:Option Nat->Dt
 | none=>.non
 | some q=>.int (q:Nat)
noncomputable def uC(n:Nat)(t:Nat->Int):List Dt:=(List.range n).map fun i=>.int (t i)
def dE(n:Nat)(c:Nat->Option Nat):List Dt:=(List.range n).map fun i=>JE (c i)
theorem dS(n:Nat)(t:Nat->Int):(uC n t).length=n:=by simp[uC]
theorem UV(n:Nat)(c:Nat->Option Nat):(dE n c).length=n:=by simp[dE]
theorem dO{n p:Nat}(t:Nat->Int)(hp:p<n):(uC n t)[p]?=some (.int (t p)):=by simp[uC,hp]
theorem PR{n p:Nat}(c:Nat->Option Nat)(hp:p<n):(dE n c)[p]?=some (JE (c p)):=by simp[dE,hp]
theorem xW{α β:Type}(n p:Nat)(f:Nat->α)(D:α->β)(v:α):((List.range n).map fun i=>D (f i)).set p (D v)=(List.range n).map fun i=>D (put f p v i):=by
 apply ext_getElem?;intro i;rw[getElem?_set];simp only[getElem?_map,length_map,length_range];by_cases h:p=i
 · subst h;by_cases hp:p<n
   · simp[hp,iG]
   · simp[hp,getElem?_eq_none]
 · have h':i≠p:=fun z=>h z.symm
   rw[if_neg h];by_cases hi:i<n
   · simp[hi,fF _ _ h']
   · simp[getElem?_eq_none,hi]
theorem Cz(n p:Nat)(t:Nat->Int)(v:Int):(uC n t).set p (.int v)=uC n (put t p v):=xW n p t Dt.int v
theorem E9(n p q:Nat)(c:Nat->Option Nat):(dE n c).set p (.int (q:Nat))=dE n (put c p (some q)):=xW n p c JE (some q)
structure QH(h0:HI)(a b c n:Nat)(E:List Bd)(s:FG)(h:HI):Prop where
 len:h.length=h0.length
 da:h[a]?=some (.df (E.map nB))
 db:h[b]?=some (.lst (uC n s.t))
 dc:h[c]?=some (.lst (dE n s.c))
 els:∀m,m≠a->m≠b->m≠c->h[m]?=h0[m]?
noncomputable def oM(x:List Int×Dt):Bd:=match x with
 | ([p,q],.int m)=>(p.toNat,q.toNat,m)
 | _=>(0,0,0)
theorem A0(e:Bd):oM (nB e)=e:=by simp[oM,nB]
theorem sy{h0:HI}{a b c n:Nat}(ab:a≠b)(ac:a≠c)(bc:b≠c){E:List Bd}{e:Bd}(he:e.1<n/\e.2.1<n){s:FG}{h:HI}(M:QH h0 a b c n E s h) :
 ∃h',kI [some (.ref a),some (.ref b),some (.ref c),some (JE s.l),some (.tup [.int (e.1:Nat),.int (e.2.1:Nat)]),some (.int e.2.2)] h=some (.nx [some (.ref a),some (.ref b),some (.ref c),some (JE (step s e).l),some (.tup [.int (e.1:Nat),.int (e.2.1:Nat)]),some (.int e.2.2)] h')/\QH h0 a b c n E (step s e) h':=by
 obtain⟨p,q,m⟩:=e;obtain⟨hp,hq⟩:=he;have xb:=fun i=>XF M.db i
 have tp:=dO s.t hp;have tq:=dO s.t hq;have blt:b<h.length:=(zfY M.db).1;have clt:c<h.length:=(zfY M.dc).1;by_cases hm:s.t p>s.t q+m
 · have es:step s (p,q,m)=⟨put s.t p (s.t q+m),put s.c p (some q),some p⟩:=if_pos hm;rw[es];have hm':decide (s.t q+m<s.t p)=true:=decide_eq_true hm;have g1:=cO (l:=[some (.ref a),some (.ref b),some (.ref c),some (JE s.l),some (.tup [.int (p:Nat),.int (q:Nat)]),some (.int m)]) (v:=.int (s.t q+m)) (k:=p) M.db (by rw[dS];exact hp);rw[Cz]at g1;have c2:(h.set b (.lst (uC n (put s.t p (s.t q+m)))))[c]?=some (.lst (dE n s.c)):=by rw[getElem?_set_ne bc];exact M.dc
   have g2:=cO (l:=[some (.ref a),some (.ref b),some (.ref c),some (JE s.l),some (.tup [.int (p:Nat),.int (q:Nat)]),some (.int m)]) (v:=.int (q:Nat)) (k:=p) c2 (by rw[UV];exact hp);rw[E9]at g2;refine⟨(h.set b (.lst (uC n (put s.t p (s.t q+m))))).set c (.lst (dE n (put s.c p (some q)))),?_,?_⟩
   · simp only[kI,uB,gB,EA,sA,DA,zfM,zfN,uA,oA,yB,UB,pD,zfU,xb,SM.OD,tp,tq,uD,cI,fB,hm',if_true,XA,QY,g1,ZA,g2,pB,zfT,zfS];rfl
   · refine⟨by simp[M.len],?_,?_,?_,fun k h1 h2 h3=>?_⟩
     · rw[getElem?_set_ne (Ne.symm ac),getElem?_set_ne (Ne.symm ab)];exact M.da
     · rw[getElem?_set_ne (Ne.symm bc),getElem?_set_self blt]
     · rw[getElem?_set_self (by simp;exact clt)]
     · rw[getElem?_set_ne (Ne.symm h3),getElem?_set_ne (Ne.symm h2)];exact M.els k h1 h2 h3
 · have es:step s (p,q,m)=s:=if_neg hm;rw[es];have hm':decide (s.t q+m<s.t p)=false:=decide_eq_false hm;refine⟨h,?_,M⟩;simp only[kI,uB,gB,EA,sA,DA,zfM,zfN,uA,oA,yB,UB,pD,zfU,xb,SM.OD,tp,tq,uD,cI,fB,hm',zf4,if_false,EC]
theorem uy{h0:HI}{a b c n:Nat}(ab:a≠b)(ac:a≠c)(bc:b≠c){E:List Bd}(hE:∀e∈E,e.1<n/\e.2.1<n){s:FG}{h:HI}(M:QH h0 a b c n E s h)(x4 x5:Option Dt) :
 ∃x4' x5' h',uE (dF 4 5) kI [some (.ref a),some (.ref b),some (.ref c),some (JE s.l),x4,x5] (.it a,h)=some (.nx [some (.ref a),some (.ref b),some (.ref c),some (JE (E.foldl step s).l),x4',x5'] h')/\QH h0 a b c n E (E.foldl step s) h':=by
 obtain⟨l',h',e,⟨y4,y5,rfl⟩,M'⟩:=Cg (i:=4) (j:=5) (n:=a) (body:=kI) (kvs:=E.map nB) (fun(s:FG) l h=>(∃y4 y5,l=[some (.ref a),some (.ref b),some (.ref c),some (JE s.l),y4,y5])/\QH h0 a b c n E s h) (fun s x=>step s (oM x)) (fun s l h ⟨_,M⟩=>M.da) (by
  rintro x hx s l h ⟨⟨y4,y5,rfl⟩,M⟩;obtain⟨e,he,rfl⟩:=mem_map.mp hx;obtain⟨h',e1,M'⟩:=sy ab ac bc (hE e he) M;rw[A0];exact⟨_,e1,⟨_,_,rfl⟩,M'⟩) s ⟨⟨x4,x5,rfl⟩,M⟩
 have ef:(E.map nB).foldl (fun s x=>step s (oM x)) s=E.foldl step s:=by simp only[foldl_map,A0]
 rw[ef]at e M';exact⟨y4,y5,h',e,M'⟩
theorem cg{a b c n:Nat}(ab:a≠b)(ac:a≠c)(bc:b≠c){E:List Bd}(hE:∀e∈E,e.1<n/\e.2.1<n){s:FG}{h:HI}(da:h[a]?=some (.dt (E.map nB))\/h[a]?=some (.df (E.map nB)))(db:h[b]?=some (.lst (uC n s.t)))(dc:h[c]?=some (.lst (dE n s.c))) :
 ∃h',AJ [.ref a,.ref b,.ref c] h=some (JE (turn E s).l,h')/\QH h a b c n E (turn E s) h':=by
 have alt:a<h.length:=by rcases da with da | da<;>exact(zfY da).1
 obtain⟨h1,ei,M⟩:∃h1,wI (eV 0) [some (.ref a),some (.ref b),some (.ref c),some .non,none,none] h=some (.it a,h1)/\QH h a b c n E ⟨s.t,s.c,none⟩ h1:=by
  rcases da with da | da
  · refine⟨_,Uj (by simp) da,⟨by simp,getElem?_set_self alt,?_,?_,fun m h1 _ _=>getElem?_set_ne (Ne.symm h1)⟩⟩
    · rw[getElem?_set_ne ab];exact db
    · rw[getElem?_set_ne ac];exact dc
  · exact⟨_,Tj (by simp) da,⟨rfl,da,db,dc,fun _ _ _ _=>rfl⟩⟩
 obtain⟨y4,y5,h',e,M'⟩:=uy ab ac bc hE M none none;refine⟨h',?_,M'⟩;have e':uE (dF 4 5) kI [some (.ref a),some (.ref b),some (.ref c),some .non,none,none] (.it a,h1)=_:=e;simp only[AJ,YS,YB,zfO,zfP,if_true,zfQ,zfR,List.replicate,zfX,zfW,XA,pB,DA,oA,zfT,zfS,ZA,AE];simp[ei,e'];rfl
theorem Vw(l:LI)(h:HI)(b:Dt)(h':HI)(e:PK l h=some (b,h')):h'=h:=by
 simp only[PK,EA,sA]at e;rcases h0:l[0]? with _ | _ | d0
 · rw[h0]at e;cases e
 · rw[h0]at e;cases e
 · rcases h1:l[1]? with _ | _ | d1
   · rw[h0,h1]at e;cases e
   · rw[h0,h1]at e;cases e
   · rw[h0,h1]at e;simp only[uA,oA]at e;cases d0<;>cases d1<;>simp[fG,pK]at e;exact e.2.symm
theorem bW(n:Nat)(t:Nat->Int):uC n t=((List.range n).map t).map Dt.int:=by unfold uC;rw[map_map];rfl
structure SH(h0:HI)(n:Nat)(E:List Bd)(s:FG)(h:HI):Prop where
 len:h.length=h0.length+3
 da:h[h0.length]?=some (.dt (E.map nB))\/h[h0.length]?=some (.df (E.map nB))
 db:h[h0.length+1]?=some (.lst (uC n s.t))
 dc:h[h0.length+2]?=some (.lst (dE n s.c))
 els:∀m,m<h0.length->h[m]?=h0[m]?
def FB(n:Nat)(t:Nat->Int):Nat->Int:=fun i=>t i-hC ((List.range n).map t)
theorem Nt{h0:HI}{n:Nat}(hn:1<=n)(hn2:n<=1000){E:List Bd}(hE:∀e∈E,e.1<n/\e.2.1<n){s:FG}{h:HI}(M:SH h0 n E s h)(x0 x1 x5 x6 x7:Option Dt) :
 ∃h',SH h0 n E (turn E s) h'/\rJ [x0,x1,some (.ref h0.length),some (.ref (h0.length+1)),some (.ref (h0.length+2)),x5,x6,x7] h =
  (match(turn E s).l with
  | none=>some (.rt (.tup [.str "times", .lst (uC n (FB n (turn E s).t))]) h')
  | some p=>some (.nx [x0,x1,some (.ref h0.length),some (.ref (h0.length+1)),some (.ref (h0.length+2)),x5,some (.int (p:Nat)),x7] h')):=by
 obtain⟨h',e,M'⟩:=cg (a:=h0.length) (b:=h0.length+1) (c:=h0.length+2) (by omega) (by omega) (by omega) hE M.da M.db M.dc;refine⟨h',⟨by rw[M'.len,M.len],.inr M'.da,M'.db,M'.dc,fun m hm=>(M'.els m (by omega) (by omega) (by omega)).trans (M.els m hm)⟩,?_⟩;cases q:(turn E s).l with
 | some p=>rw[q]at e;have e':AJ [.ref h0.length,.ref (h0.length+1),.ref (h0.length+2)] h=some (.int (p:Nat),h'):=e;simp[rJ,e',yG]
 | none=>
  rw[q]at e;have e':AJ [.ref h0.length,.ref (h0.length+1),.ref (h0.length+2)] h=some (.non,h'):=e;have hne:(List.range n).map (turn E s).t ≠ []:=by intro z;have:=congrArg List.length z;simp at this;omega
  have em:AU (eC (.int 0)) [x0,x1,some (.ref h0.length),some (.ref (h0.length+1)),some (.ref (h0.length+2)),x5,some .non,x7] (.ref (h0.length+1),h')=some (.int (hC ((List.range n).map (turn E s).t)),h'):=by unfold AU;rw[DA,oA,Sw M'.db,bW];simp only[zfV,SM.Yv];rw[if_pos hne]
  have ec:cF (JA 0) JB PK [none,some (.int (hC ((List.range n).map (turn E s).t)))] (.rf (h0.length+1),h')=some (uC n (FB n (turn E s).t),h'):=by
   rw[tS M'.db (by rw[dS];simp;omega) (fun l h b h' e q=>by simp at e;rw[<- e.2];exact q) (fun l h b h' e q=>by rw[Vw l h b h' e];exact q)];rw[bW,XG Dt.int (fun x=>Dt.int (x-hC ((List.range n).map (turn E s).t))) h' _ _ (by
    intro x hx;exact⟨by simp,by simp[PK]⟩)]
   unfold uC FB;rw[map_map];rfl
  simp[rJ,e',yG,em,OF M'.db,ec]
theorem zT{h0:HI}{n:Nat}(hn:1<=n)(hn2:n<=1000){E:List Bd}(hE:∀e∈E,e.1<n/\e.2.1<n)(x0 x1:Option Dt):∀(xs:List Dt)(k:Nat)(x5 x6 x7:Option Dt)(h:HI),SH h0 n E (YD E k s0) h->(1<=k->∃p:Nat,(YD E k s0).l=some p/\x6=some (.int (p:Nat)))->
 (∃s h',s.l=none/\(∀e∈E,yF s.t e)/\SH h0 n E s h'/\FC (JA 5) rJ xs [x0,x1,some (.ref h0.length),some (.ref (h0.length+1)),some (.ref (h0.length+2)),x5,x6,x7] h=some (.rt (.tup [.str "times", .lst (uC n (FB n s.t))]) h'))\/
 (∃y5 y6 h',SH h0 n E (YD E (k+xs.length) s0) h'/\(1<=k+xs.length->∃p:Nat,(YD E (k+xs.length) s0).l=some p/\y6=some (.int (p:Nat)))/\
  FC (JA 5) rJ xs [x0,x1,some (.ref h0.length),some (.ref (h0.length+1)),some (.ref (h0.length+2)),x5,x6,x7] h=some (.nx [x0,x1,some (.ref h0.length),some (.ref (h0.length+1)),some (.ref (h0.length+2)),y5,y6,x7] h'))
 | [],k,x5,x6,x7,h,M,q=>.inr ⟨x5,x6,h,M,q,rfl⟩
 | x::xs,k,x5,x6,x7,h,M,q=>by
  obtain⟨h1,M1,e1⟩:=Nt hn hn2 hE M x0 x1 (some x) x6 x7;cases ql:(turn E (YD E k s0)).l with
  | none=>
   rw[ql]at e1;obtain⟨_,p2,p3⟩:=vW E _ ql;refine .inl ⟨turn E (YD E k s0),h1,ql,?_,M1,by simp[FC,e1]⟩;show ∀e∈E,yF (E.foldl step _).t e
   rw[p2];exact p3
  | some p=>
   rw[ql]at e1;have:=zT hn hn2 hE x0 x1 xs (k+1) (some x) (some (.int (p:Nat))) x7 h1 M1 (fun _=>⟨p,ql,rfl⟩);rw[show k+(x::xs).length=k+1+xs.length by simp;omega];rcases this with⟨s,h',a1,a2,a3,a4⟩ | ⟨y5,y6,h',a1,a2,a3⟩
   · exact .inl ⟨s,h',a1,a2,a3,by simp[FC,e1,a4]⟩
   · exact .inr ⟨y5,y6,h',a1,a2,by simp[FC,e1,a3]⟩
def QC(c:Nat->Option Nat)(P i:Nat):List Dt:=(List.range (i+1)).map fun m=>.int ((WB (nxt c) m P:Nat):Int)
theorem iz(c:Nat->Option Nat)(P i:Nat):Gp (QC c P i) (-1)=some (.int ((WB (nxt c) i P:Nat):Int)):=by
 unfold QC Gp QI;have h1:(1:Int)<=(i:Int)+1:=by omega
 have h2:(-1+((i:Int)+1)).toNat=i:=by omega
 simp[h1,h2]
theorem MV{n a k x:Nat}(hn:1<=n)(hn2:n<=90){E:List Bd}{w:Nat->Nat->Int}{c:Nat->Option Nat}{h:HI}(dc:h[a]?=some (.lst (dE n c)))(T:NU n E)
 (R:RH n E w c (WB (nxt c) n x) k) (cd:∀i,i<=n->c (WB (nxt c) i x)=some (WB (nxt c) (i+1) x)/\WB (nxt c) i x<n) :
 HM [.int (x:Nat),.ref a] h=some (.ref h.length,h++[.lst (QC c (WB (nxt c) n x) k)]):=by
 have xc:=fun i=>XF dc i
 have er:=vG (h:=h) (show(-(2^62):Int)<=(n:Int) by omega) (show(n:Int)<2^62 by omega);simp only[Int.toNat_natCast]at er;obtain⟨l',h',e,⟨y,rfl⟩,hh⟩:=OK (i:=2) (body:=CQ) (fun(k:Nat)=>Dt.int (k:Int)) (fun i l h'=>(∃y,l=[some (.int ((WB (nxt c) i x:Nat):Int)),some (.ref a),y,none])/\h'=h) n (by
  rintro i hi l h' ⟨⟨y,rfl⟩,rfl⟩;obtain⟨c1,c2⟩:=cd i (by omega);have ca:=PR c c2;rw[c1]at ca;refine⟨.nx [some (.int ((WB (nxt c) (i+1) x:Nat):Int)),some (.ref a),some (.int (i:Nat)),none] h',?_,⟨_,rfl⟩,rfl⟩;simp only[CQ,pB,EA,sA,zfT,zfS,zfM,zfN,uA,oA,xc,SM.OD,ca,zfU,JE]) [some (.int (x:Nat)),some (.ref a),none,none] h ⟨⟨_,rfl⟩,rfl⟩
 rw[hh]at e;clear hh;obtain⟨c1,c2⟩:=cd n (zf1 _);generalize hP:WB (nxt c) n x=P at R e c1 c2;have c1':c P=some (WB (nxt c) (n+1) x):=c1;have caP:=PR c c2;have f1:WB (nxt c) (n+1) x=nxt c P:=by show nxt c (WB (nxt c) n x)=_;rw[hP]
 rw[c1',f1]at caP;obtain⟨r,ew,Rr⟩:=nX (t:=BQ) (body:=DQ) (fun m l h'=>∃i,1<=i/\i<=k/\m=k-i/\l=[some (.int (P:Nat)),some (.ref a),y,some (.ref h.length)]/\h'=h++[.lst (QC c P i)])
  (fun l h'=>l=[some (.int (P:Nat)),some (.ref a),y,some (.ref h.length)]/\h'=h++[.lst (QC c P k)]) (fun _ _=>False) (by
  rintro m l h' ⟨i,i1,i2,rfl,rfl,rfl⟩;have dr:(h++[Ob.lst (QC c P i)])[h.length]?=some (.lst (QC c P i)):=by simp
  have dc':(h++[Ob.lst (QC c P i)])[a]?=some (.lst (dE n c)):=by rw[zfZ (zfY dc).1];exact dc
  have xr:=fun j=>XF dr j
  have xc':=fun j=>XF dc' j
  have rl:=iz c P i;refine⟨!decide (((WB (nxt c) i P:Nat):Int)=(P:Int)),h++[.lst (QC c P i)],?_,?_⟩
  · simp only[BQ,gB,EA,sA,UZ,DA,AX,zfM,zfN,uA,oA,xr,rl,zfU,qK,fB]
  · by_cases hk:i=k
    · subst hk;rw[R.back];simp
    · have ne:=R.first i i1 (by omega);have ne':¬(((WB (nxt c) i P:Nat):Int)=(P:Int)):=fun z=>ne (by omega)
      rw[decide_eq_false ne'];obtain⟨g1,g2⟩:=R.edge i i2;have glt:=(T.lt _ g1).1;have ca:=PR c glt;rw[g2]at ca;have ea:e2 BA (eV 1) (e2 BA (eV 3) (ZE (eC (.int 1)))) [some (.int (P:Nat)),some (.ref a),y,some (.ref h.length)] (h++[.lst (QC c P i)])=some (.int ((WB (nxt c) (i+1) P:Nat):Int),h++[.lst (QC c P i)]):=by simp only[EA,sA,UZ,DA,AX,zfM,zfN,uA,oA,xr,rl,zfU,xc',SM.OD,ca,JE]
      have ap:=PF (l:=[some (.int (P:Nat)),some (.ref a),y,some (.ref h.length)]) (g:=e2 BA (eV 1) (e2 BA (eV 3) (ZE (eC (.int 1))))) dr ea dr (by have:=R.le;simp[QC];omega);have en:QC c P i++[.int ((WB (nxt c) (i+1) P:Nat):Int)]=QC c P (i+1):=by unfold QC;rw[range_succ (n:=i+1),map_append];rfl
      rw[en]at ap;have es:(h++[Ob.lst (QC c P i)]).set h.length (.lst (QC c P (i+1)))=h++[.lst (QC c P (i+1))]:=by simp
      rw[es]at ap;refine⟨.nx [some (.int (P:Nat)),some (.ref a),y,some (.ref h.length)] (h++[.lst (QC c P (i+1))]),?_,k-(i+1),by omega,i+1,by omega,by omega,rfl,rfl,rfl⟩;simp only[DQ,eE,nF,sA,zfM,zfN,uA,oA,ap]) 100 (k-1) [some (.int (P:Nat)),some (.ref a),y,some (.ref h.length)] (h++[.lst (QC c P 1)]) ⟨1,zf1 _,R.pos,rfl,rfl,rfl⟩ (by have:=R.le;omega)
 cases r with
 | nx l2 h2=>obtain⟨rfl,rfl⟩:=Rr;have e1:QC c P 1=[.int (P:Nat),.int ((nxt c P:Nat):Int)]:=rfl;rw[e1]at ew;simp[HM,QQ,xL dc,UV,er,e,xc,caP,JE,ew]
 | rt d h2=>exact Rr.elim
 | bk l2 h2=>exact Rr.elim
 | ct l2 h2=>exact Rr.elim
def oP(told:List Bd)(p q:Nat):Int:=(NH (oC told) p q).getD 0
theorem zV{told:List Bd}{e:Bd}(he:e∈oC told):oP told e.1 e.2.1=e.2.2:=by
 unfold oP NH;cases q:(oC told).find? (qD e.1 e.2.1)with
 | none=>have:=find?_eq_none.mp q e he;exact absurd (Bp.mpr ⟨rfl,rfl⟩) this
 | some x=>obtain⟨h1,h2⟩:=Bp.mp (find?_some q);exact(JJ told).un x (mem_of_find?_eq_some q) e he h1 h2
theorem qY{n:Nat}{told:List Bd}(hT:∀e∈told,e.1<n/\e.2.1<n/\e.1≠e.2.1):NU n (oC told):=⟨fun e he=>hT e ((JJ told).mem e he),(JJ told).un⟩
theorem Vb{n:Nat}(hn:1<=n)(hn2:n<=16)(told:List Bd)(hT:∀e∈told,e.1<n/\e.2.1<n/\e.1≠e.2.1)(hl:told.length<=1000)(h:HI) :
 (∃t h',(∀e∈told,yF t e)/\(∀m,m<h.length->h'[m]?=h[m]?)/\tG [.int (n:Nat),.lst (told.map pA)] h=some (.tup [.str "times", .lst (uC n (FB n t))],h'))\/
 (∃c P k r h',RH n (oC told) (oP told) c P k/\(∀m,m<h.length->h'[m]?=h[m]?)/\h'[r]?=some (.lst (QC c P k))/\tG [.int (n:Nat),.lst (told.map pA)] h=some (.tup [.str "ring", .ref r],h')):=by
 have T:=qY hT;have hE:∀e∈oC told,e.1<n/\e.2.1<n:=fun e he=>⟨(T.lt e he).1,(T.lt e he).2.1⟩
 have eb:=P7 told hl h;have r1:=DN (h:=h++[.dt ((oC told).map nB)]) (Dt.int 0) (show n<=1000000 by omega);have r2:=DN (h:=h++[.dt ((oC told).map nB)]++[.lst (List.replicate n (Dt.int 0))]) Dt.non (show n<=1000000 by omega);have t0:List.replicate n (Dt.int 0)=uC n s0.t:=by unfold uC;rw[show(fun i=>Dt.int (s0.t i))=fun _=>Dt.int 0 from rfl,map_const',length_range]
 have c0:List.replicate n Dt.non=dE n s0.c:=by unfold dE;rw[show(fun i=>JE (s0.c i))=fun _=>Dt.non from rfl,map_const',length_range]
 rw[t0]at r1 r2;rw[c0]at r2;simp only[append_assoc,zfX,zfW,length_append,zfO,zfP,Nat.zero_add]at r1 r2;have er:=fun h=>vG (h:=h) (show(-(2^62):Int)<=(n:Int)+1 by omega) (show(n:Int)+1<2^62 by omega)
 have en:((n:Int)+1).toNat=n+1:=by omega
 rw[en]at er;have M:SH h n (oC told) (YD (oC told) 0 s0) (h++[.dt ((oC told).map nB),.lst (uC n s0.t),.lst (dE n s0.c)]):=by
  refine⟨by simp,.inl ?_,?_,?_,fun m hm=>zfZ hm⟩
  · rw[zf2 (zf1 _),Nat.sub_self];rfl
  · rw[zf2 (by omega),Nat.add_sub_cancel_left];rfl
  · rw[zf2 (by omega),Nat.add_sub_cancel_left];rfl
 rcases zT hn (by omega) hE (some (.int (n:Nat))) (some (.lst (told.map pA))) ((List.range (n+1)).map fun(k:Nat)=>Dt.int (k:Int)) 0 none none none _ M (fun h=>absurd h (by omega))with⟨s,h',a1,a2,a3,a4⟩ | ⟨y5,y6,h',a1,a2,a3⟩
 · refine .inl ⟨s.t,h',fun e he=>?_,a3.els,?_⟩
   · obtain⟨x,hx,x1,x2,x3⟩:=(JJ told).low e he;have:=a2 x hx;simp only[yF]at this ⊢;rw[x1,x2]at this;omega
   · simp[tG,yJ,eb,r1,r2,er,a4]
 · rw[length_map,length_range,Nat.zero_add]at a1 a2;obtain⟨p,ql,rfl⟩:=a2 (by omega);obtain⟨u,D,I,_⟩:=zS T (fun e he=>zV he) n;obtain⟨k,R,cd⟩:=TY T I ql;have g:=MV hn (by omega) a1.dc T R cd;refine .inr ⟨(YD (oC told) (n+1) s0).c,WB (nxt (YD (oC told) (n+1) s0).c) n p,k,h'.length,h'++[.lst (QC (YD (oC told) (n+1) s0).c (WB (nxt (YD (oC told) (n+1) s0).c) n p) k)],R,fun m hm=>?_,?_,?_⟩
   · rw[zfZ (by rw[a1.len];omega)];exact a1.els m hm
   · rw[zf2 (zf1 _),Nat.sub_self];rfl
   · simp[tG,yJ,eb,r1,r2,er,a3,g]
theorem Y7(told:List Bd)(hl:told.length<=1000)(h:HI){a:Nat}(da:h[a]?=some (.lst (told.map pA))):kJ [.ref a] h=some (.ref h.length,h++[.dt ((oC told).map nB)]):=by
 obtain⟨l',h',e,⟨y2,y3,rfl⟩,rfl,_⟩:=fP (i:=2) (n:=a) (body:=DK) pA (fun k l h'=>(∃y2 y3,l=[some (.ref a),some (.ref h.length),y2,y3])/\h'=h++[.dt (((told.take k).foldl XC []).map nB)]/\((told.take k).foldl XC []).length<=k) told (by
  rintro k l h' ⟨_,rfl,_⟩;rw[zfZ (zfY da).1];exact da) (by
  rintro k x hx l h' ⟨⟨y2,y3,rfl⟩,rfl,hk⟩;have kl:k<told.length:=(zfY hx).1;rw[iX XC [] hx];generalize (told.take k).foldl XC []=E at hk;have ed:(h++[Ob.dt (E.map nB)])[h.length]?=some (.dt (E.map nB)):=by simp
  have LL:([some (Dt.ref a),some (.ref h.length),y2,y3]:LI).set 2 (some (pA x))=[some (Dt.ref a),some (.ref h.length),some (pA x),y3]:=rfl;rw[LL];refine⟨.nx [some (.ref a),some (.ref h.length),some (pA x),some (.Ip [(x.1:Int),(x.2.1:Int)])] (h++[.dt ((XC E x).map nB)]),?_,⟨_,_,rfl⟩,rfl,?_⟩
  · have g1:DH (eV 1) (eV 3) (e2 BA (eV 2) (eC (.int 2))) [some (.ref a),some (.ref h.length),some (pA x),some (.Ip [(x.1:Int),(x.2.1:Int)])] (h++[.dt (E.map nB)])=some (.int ((NH E x.1 x.2.1).getD x.2.2),h++[.dt (E.map nB)]):=by rw[NY (n:=h.length) (k:=[(x.1:Int),(x.2.1:Int)]) (kvs:=E.map nB) (by simp) ed (by simp)];simp only[EA,sA,DA,zfM,zfN,uA,oA,pA,yB,EI,zfU];rw[mZ ed,cU];cases NH E x.1 x.2.1<;>rfl
    have g2:=EZ (l:=[some (.ref a),some (.ref h.length),some (pA x),some (.Ip [(x.1:Int),(x.2.1:Int)])]) (h:=h++[.dt (E.map nB)]) (fe:=kP QJ (DH (eV 1) (eV 3) (e2 BA (eV 2) (eC (.int 2)))) (e2 BA (eV 2) (eC (.int 2)))) (fo:=eV 1) (fy:=eV 3) (n:=h.length) (k:=[(x.1:Int),(x.2.1:Int)]) (kvs:=E.map nB)
     (d:=.int (min ((NH E x.1 x.2.1).getD x.2.2) x.2.2)) (by
      rw[jM,g1,oA];simp[pA]) (by simp) ed (by simp) (by simp;omega)
    rw[ZX]at g2;have es:(h++[Ob.dt (E.map nB)]).set h.length (.dt ((XC E x).map nB))=h++[.dt ((XC E x).map nB)]:=by simp
    simp only[DK,XA,pB,VZ,SA,NA,EA,sA,DA,zfM,zfN,uA,oA,pA,yB,UB,pD,zfU,EX,zfT,zfS,ZA];have g3:=g2;simp only[pA]at g3;rw[g3];show some (Rs.nx _ ((h++[Ob.dt (E.map nB)]).set h.length (.dt ((XC E x).map nB))))=_;rw[es]
  · have:=wX E x.1 x.2.1 (min ((NH E x.1 x.2.1).getD x.2.2) x.2.2);show(XC E x).length<=k+1;unfold XC;omega) [some (.ref a),some (.ref h.length),none,none] (h++[.dt []]) ⟨⟨_,_,rfl⟩,by simp,by simp⟩
 have da':(h++[Ob.dt []])[a]?=some (.lst (told.map pA)):=by rw[zfZ (zfY da).1];exact da
 rw[take_length]at e;simp[kJ,KM,OF da',e];rfl
theorem GX{n a:Nat}(hn:1<=n)(hn2:n<=16)(told:List Bd)(hT:∀e∈told,e.1<n/\e.2.1<n/\e.1≠e.2.1)(hl:told.length<=1000)(h:HI)(da:h[a]?=some (.lst (told.map pA))) :
 (∃t h',(∀e∈told,yF t e)/\(∀m,m<h.length->h'[m]?=h[m]?)/\tG [.int (n:Nat),.ref a] h=some (.tup [.str "times", .lst (uC n (FB n t))],h'))\/
 (∃c P k r h',RH n (oC told) (oP told) c P k/\(∀m,m<h.length->h'[m]?=h[m]?)/\h'[r]?=some (.lst (QC c P k))/\tG [.int (n:Nat),.ref a] h=some (.tup [.str "ring", .ref r],h')/\h.length<=r):=by
 have T:=qY hT;have hE:∀e∈oC told,e.1<n/\e.2.1<n:=fun e he=>⟨(T.lt e he).1,(T.lt e he).2.1⟩
 have eb:=Y7 told hl h da;have r1:=DN (h:=h++[.dt ((oC told).map nB)]) (Dt.int 0) (show n<=1000000 by omega);have r2:=DN (h:=h++[.dt ((oC told).map nB)]++[.lst (List.replicate n (Dt.int 0))]) Dt.non (show n<=1000000 by omega);have t0:List.replicate n (Dt.int 0)=uC n s0.t:=by unfold uC;rw[show(fun i=>Dt.int (s0.t i))=fun _=>Dt.int 0 from rfl,map_const',length_range]
 have c0:List.replicate n Dt.non=dE n s0.c:=by unfold dE;rw[show(fun i=>JE (s0.c i))=fun _=>Dt.non from rfl,map_const',length_range]
 rw[t0]at r1 r2;rw[c0]at r2;simp only[append_assoc,zfX,zfW,length_append,zfO,zfP,Nat.zero_add]at r1 r2;have er:=fun h=>vG (h:=h) (show(-(2^62):Int)<=(n:Int)+1 by omega) (show(n:Int)+1<2^62 by omega)
 have en:((n:Int)+1).toNat=n+1:=by omega
 rw[en]at er;have M:SH h n (oC told) (YD (oC told) 0 s0) (h++[.dt ((oC told).map nB),.lst (uC n s0.t),.lst (dE n s0.c)]):=by
  refine⟨by simp,.inl ?_,?_,?_,fun m hm=>zfZ hm⟩
  · rw[zf2 (zf1 _),Nat.sub_self];rfl
  · rw[zf2 (by omega),Nat.add_sub_cancel_left];rfl
  · rw[zf2 (by omega),Nat.add_sub_cancel_left];rfl
 rcases zT hn (by omega) hE (some (.int (n:Nat))) (some (.ref a)) ((List.range (n+1)).map fun(k:Nat)=>Dt.int (k:Int)) 0 none none none _ M (fun h=>absurd h (by omega))with⟨s,h',a1,a2,a3,a4⟩ | ⟨y5,y6,h',a1,a2,a3⟩
 · refine .inl ⟨s.t,h',fun e he=>?_,a3.els,?_⟩
   · obtain⟨x,hx,x1,x2,x3⟩:=(JJ told).low e he;have:=a2 x hx;simp only[yF]at this ⊢;rw[x1,x2]at this;omega
   · simp[tG,yJ,eb,r1,r2,er,a4]
 · rw[length_map,length_range,Nat.zero_add]at a1 a2;obtain⟨p,ql,rfl⟩:=a2 (by omega);obtain⟨u,D,I,_⟩:=zS T (fun e he=>zV he) n;obtain⟨k,R,cd⟩:=TY T I ql;have g:=MV hn (by omega) a1.dc T R cd;refine .inr ⟨(YD (oC told) (n+1) s0).c,WB (nxt (YD (oC told) (n+1) s0).c) n p,k,h'.length,h'++[.lst (QC (YD (oC told) (n+1) s0).c (WB (nxt (YD (oC told) (n+1) s0).c) n p) k)],R,fun m hm=>?_,?_,?_,by rw[a1.len];omega⟩
   · rw[zfZ (by rw[a1.len];omega)];exact a1.els m hm
   · rw[zf2 (zf1 _),Nat.sub_self];rfl
   · simp[tG,yJ,eb,r1,r2,er,a3,g]
theorem FY{n:Nat}{told:List Bd}{b:Nat->Int}{c:Nat->Option Nat}{P k:Nat}(hb:∀e∈told,b e.1-b e.2.1<=e.2.2)(R:RH n (oC told) (oP told) c P k):False:=by
 have h1:∀i,i<=k->b P-b (WB (nxt c) i P)<=((List.range i).map fun m=>oP told (WB (nxt c) m P) (WB (nxt c) (m+1) P)).sum:=by
  intro i
  induction i with
  | zero=>intro _;show b P-b P<=0;omega
  | succ i ih=>intro hi;have h2:=ih (by omega);have h3:=hb _ ((JJ told).mem _ (R.edge i (by omega)).1);rw[range_succ,map_append,sum_append];simp only[zfQ,zfR,sum_cons,sum_nil,Int.add_zero]at h3 ⊢;omega
 have h2:=h1 k (zf1 _);rw[R.back]at h2;have:=R.sum;omega
theorem Xb{α:Type}{bd:RG}{n:Nat}{body:RS}(D:α->Dt)(I:LI->HI->Prop)(xs:List α)(hI:∀l h,I l h->h[n]?=some (.lst (xs.map D)))
 (H:∀x∈xs,∀l h,I l h->∃l1 r,bd (D x) l=some l1/\body l1 h=some r/\Pass I r):∀l h,I l h->∃l' h',uE bd body l (.rf n,h)=some (.nx l' h')/\I l' h':=by
 have go:∀(f k:Nat)(l:LI)(h:HI),I l h->f=xs.length-k+1->k<=xs.length->∃l' h',wC bd body (.rf n) f k l h=some (.nx l' h')/\I l' h':=by
  intro f
  induction f with
  | zero=>intro k l h _ e;omega
  | succ f ih=>
   intro k l h i hf hk;have e:=hI l h i;by_cases hlt:k<xs.length
   · obtain⟨l1,r,e1,e2,p⟩:=H xs[k] (getElem_mem hlt) l h i;have ek:(xs.map D)[k]?=some (D xs[k]):=by rw[getElem?_map,getElem?_eq_getElem hlt];rfl
     have eu:wC bd body (.rf n) (f+1) k l h=iB (body l1 h) (UP (wC bd body (.rf n) f (k+1))):=by
      simp only[wC,Src.at,e,ek,e1,zfV];cases body l1 h with
      | none=>rfl
      | some r=>cases r<;>rfl
     rw[eu,e2,oA];cases r with
     | nx l2 h2=>exact ih (k+1) l2 h2 p (by omega) hlt
     | ct l2 h2=>exact ih (k+1) l2 h2 p (by omega) hlt
     | bk l2 h2=>exact p.elim
     | rt d h2=>exact p.elim
   · have ek:(xs.map D)[k]?=none:=getElem?_eq_none (by rw[length_map];omega);exact⟨l,h,by simp only[wC,Src.at,e,ek],i⟩
 intro l h i;have e:=hI l h i;obtain⟨l',h',e1,e2⟩:=go (xs.length+1) 0 l h i (by omega) (Nat.zero_le _);refine⟨l',h',?_,e2⟩;show wC bd body (.rf n) (Src.fuel (.rf n) h) 0 l h=_;have ef:Src.fuel (.rf n) h=xs.length+1:=by simp only[Src.fuel,e,length_map]
 rw[ef];exact e1
theorem vq{n:Nat}(hn:1<=n)(t:Nat->Int):(List.range n).map (FB n t) ≠ []/\hC ((List.range n).map (FB n t))=0:=by
 have ne:∀g:Nat->Int,(List.range n).map g ≠ []:=fun g z=>by have:=congrArg List.length z;simp at this;omega
 refine⟨ne _,?_⟩;obtain⟨a1,a2⟩:=SG _ (ne t);obtain⟨b1,b2⟩:=SG _ (ne (FB n t));obtain⟨i,hi,e⟩:=mem_map.mp a1;obtain⟨j,hj,e'⟩:=mem_map.mp b1;have c1:=b2 (FB n t i) (mem_map_of_mem hi);have c2:=a2 (t j) (mem_map_of_mem hj);have d1:FB n t i=0:=by unfold FB;rw[e];omega
 have d2:FB n t j=t j-hC ((List.range n).map t):=rfl;omega
noncomputable def XB(t a b:Int):Nat:=if t<a then 0 else if t=a then 1 else if t<b then 2 else if t=b then 3 else 4
noncomputable def Il:List (Nat×Nat):=[(0,0),(0,1),(0,2),(0,3),(0,4),(1,2),(1,3),(1,4),(2,2),(2,3),(2,4),(3,4),(4,4)]
theorem CN{a b c d:Int}(h1:a<b)(h2:c<d):(XB a c d,XB b c d)∈Il:=by
 unfold XB
 repeat' split
 all_goals first | (exfalso;omega) | decide
noncomputable def pr(p:Nat×Nat):Dt:=.tup [.int (p.1:Int),.int (p.2:Int)]
noncomputable def KJ(s:Int×Int):Dt:=.tup [.int s.1,.int s.2]
def zB(s o:Int×Int):Nat:=Il.idxOf (XB s.1 o.1 o.2,XB s.2 o.1 o.2)
noncomputable def FD(s:Int×Int):Prop:=s.1<s.2
theorem pF{s o:Int×Int}(h1:FD s)(h2:FD o):zB s o<13:=idxOf_lt_length_of_mem (CN h1 h2)
theorem Pj:∀p∈Il,AI (Il.map pr) (pr p)=true/\LF (Il.map pr) (pr p)=some (Il.idxOf p):=by intro p hp;simp only[Il,mem_cons,not_mem_nil,or_false]at hp;rcases hp with rfl | rfl | rfl | rfl | rfl | rfl | rfl | rfl | rfl | rfl | rfl | rfl | rfl<;>exact⟨rfl,rfl⟩
noncomputable def mK(n:Nat)(p:Nat->Bool):Nat:=match n with
 | 0=>0
 | n+1=>mK n p+(if p n=true then 2^n else 0)
theorem ZT(p:Nat->Bool):∀n,mK n p<2^n
 | 0=>by simp[mK]
 | n+1=>by have:=ZT p n;simp only[mK];rw[Nat.pow_succ];split<;>omega
theorem EY(p:Nat->Bool):∀n k,(mK n p).testBit k=(decide (k<n)&&p k)
 | 0,k=>by simp[mK]
 | n+1,k=>by
  have ih:=EY p n k;have lt:=ZT p n;simp only[mK];by_cases hp:p n=true
  · rw[if_pos hp,Nat.add_comm];rcases Nat.lt_trichotomy k n with h | h | h
    · rw[Nat.testBit_two_pow_add_gt h,ih];simp[h,Nat.lt_succ_of_lt h]
    · subst h;rw[Nat.testBit_two_pow_add_eq,ih];simp[hp]
    · have:2^n+mK n p<2^k:=Nat.lt_of_lt_of_le (show 2^n+mK n p<2^(n+1) by rw[Nat.pow_succ];omega) (Nat.pow_le_pow_right (by decide) h);rw[Nat.testBit_lt_two_pow this];have:¬k<n+1:=by omega
      simp[this]
  · rw[if_neg hp,Nat.add_zero,ih];by_cases h:k=n
    · subst h;simp[hp]
    · have:(k<n+1)=(k<n):=by apply propext;omega
      simp[this]
theorem YG{a b:Nat}(ha:a<8192)(hb:b<8192)(h:∀k<13,a.testBit k=b.testBit k):a=b:=by
 apply Nat.eq_of_testBit_eq;intro k;by_cases hk:k<13
 · exact h k hk
 · have hp:8192<=2^k:=by have:=Nat.pow_le_pow_right (show 1<=2 by decide) (show 13<=k by omega);exact this
   rw[Nat.testBit_lt_two_pow (by omega),Nat.testBit_lt_two_pow (by omega)]
def mk(p:Nat->Bool):Nat:=mK 13 p
theorem J5(p:Nat->Bool):mk p<8192:=ZT p 13
theorem Lf(p:Nat->Bool){k:Nat}(hk:k<13):(mk p).testBit k=p k:=by unfold mk;rw[EY];simp[hk]
noncomputable def OA(m:Nat):List Nat:=(List.range 13).filter m.testBit
theorem Wm{m k:Nat}:k∈OA m↔k<13/\m.testBit k=true:=by simp[OA]
theorem aj(g:Nat->Int)(p:Nat->Bool)(xs:List Nat):((xs.filter p).map g).sum=(xs.map fun k=>if p k=true then g k else 0).sum:=by
 induction xs with
 | nil=>rfl
 | cons x xs ih=>by_cases h:p x=true<;>simp[h,ih]
theorem iY(p:Nat->Bool):((((List.range 13).filter p).map fun k=>(2:Int)^(12-k))).sum=(mk (fun j=>p (12-j)):Int):=by
 rw[aj];simp only[mk,mK,List.range,List.range.loop,zfQ,zfR,sum_cons,sum_nil,Nat.reduceSub];generalize p 0=a0;generalize p 1=a1;generalize p 2=a2;generalize p 3=a3;generalize p 4=a4;generalize p 5=a5;generalize p 6=a6;generalize p 7=a7;generalize p 8=a8;generalize p 9=a9;generalize p 10=a10;generalize p 11=a11;generalize p 12=a12;have f:∀(b:Bool)(k:Nat),(if b=true then(2:Int)^k else 0)=((if b=true then 2^k else 0:Nat):Int):=by intro b k;cases b<;>simp
 simp only[f];omega
def Al(m:Nat):Nat:=mk fun j=>m.testBit (12-j)
theorem nI(m:Nat):Al m<8192:=J5 _
theorem bF(m:Nat){k:Nat}(hk:k<13):(Al m).testBit k=m.testBit (12-k):=Lf _ hk
theorem YK{m:Nat}(hm:m<8192):Al (Al m)=m:=YG (nI _) hm fun k hk=>by
 rw[bF _ hk,bF _ (by omega)]
 congr 1
 omega
theorem OS(a b:Nat):Builtin.bitAnd (a:Int) (b:Int)=((a&&&b:Nat):Int):=by unfold Builtin.bitAnd;simp
theorem Iw(a b:Nat):Builtin.bitOr (a:Int) (b:Int)=((a|||b:Nat):Int):=by
 unfold Builtin.bitOr Builtin.bitAnd Builtin.bitNot;have h1:decide (0<=-(a:Int)-1)=false:=by simp;omega
 have h2:decide (0<=-(b:Int)-1)=false:=by simp;omega
 have e:∀x:Int,-(-x-1)-1=x:=by intro x;omega
 simp only[h1,h2,e];simp
theorem IT(m k:Nat):decide (Builtin.bitAnd ((m:Int)/2^k) 1=1)=m.testBit k:=by
 have e:((m:Int)/2^k)=((m/2^k:Nat):Int):=by simp
 rw[e];have:=OS (m/2^k) 1;simp only[Int.cast_ofNat_Int]at this;rw[this,Nat.testBit_eq_decide_div_mod_eq];have e2:(m/2^k&&&1)=m/2^k%2:=Nat.and_one_is_mod _;rw[e2]
 congr 1
 apply propext;omega
theorem zP{k:Nat}(hk:k<13):DG 1 (k:Int):=⟨by omega,by omega,by decide⟩
theorem Ld(h:HI):Q1 (.int 13,h)=some (.vals ((List.range 13).map fun(k:Nat)=>Dt.int (k:Int)),h):=vG (by decide) (by decide)
theorem Zd{α:Type}(f:Nat->α):((List.range 13).map f).length<sizeLine:=by rw[length_map,length_range];decide
theorem Q3{i:Nat}(h:i<13):i=0\/i=1\/i=2\/i=3\/i=4\/i=5\/i=6\/i=7\/i=8\/i=9\/i=10\/i=11\/i=12:=by revert i;decide
theorem ZK(m:Nat):(OA m).length<=13:=by unfold OA;exact Nat.le_trans (length_filter_le _ _) (by simp)
theorem RK(m:Nat)(h:HI):WG [.int m] h=some (.lst ((OA m).map fun(k:Nat)=>Dt.int (k:Int)),h):=by
 have ec:=uS (te:=fR) (tc:=gR) (i:=0) (fun(k:Nat)=>Dt.int (k:Int)) m.testBit (fun(k:Nat)=>Dt.int (k:Int)) h (List.range 13) [none,some (.int m)] fun k _=>⟨by
  simp[gR,EU,IT],fun _=>by simp[fR]⟩
 simp[WG,LR,Ld,RF _ _ _ (Zd _),ec,OA]
theorem Wq(ks:List Nat)(hk:∀k∈ks,k<13)(hl:ks.length<=13)(h:HI):TN [.lst (ks.map fun(k:Nat)=>Dt.int (k:Int))] h=some (.int ((ks.map fun k=>(2:Int)^k).sum),h):=by
 have ec:=XG (te:=zR) (tc:=JB) (i:=0) (fun(k:Nat)=>Dt.int (k:Int)) (fun(k:Nat)=>Dt.int ((2:Int)^k)) h ks [none] fun k hm=>⟨rfl,by
  simp[zR,DU (zP (hk k hm))]⟩
 have hs:((ks.map fun(k:Nat)=>Dt.int (k:Int))).length<sizeLine:=by rw[length_map];exact Nat.lt_of_le_of_lt hl (by decide)
 have es:=LZ (h:=h) (ks.map fun k=>(2:Int)^k);rw[map_map]at es;have:(Dt.int ∘ fun k=>(2:Int)^k)=fun(k:Nat)=>Dt.int ((2:Int)^k):=rfl
 rw[this]at es;simp[TN,LS,RF _ _ _ hs,ec,es]
theorem Yq(m:Nat)(h:HI):UN [.int m] h=some (.int (Al m),h):=by
 have ec:=XG (te:=AR) (tc:=JB) (i:=0) (fun(k:Nat)=>Dt.int (k:Int)) (fun(k:Nat)=>Dt.int (((12-k:Nat):Nat):Int)) h (OA m) [none] fun k hm=>⟨rfl,by
  have:=(Wm.mp hm).1;simp[AR];omega⟩
 have hs:((OA m).map fun(k:Nat)=>Dt.int (k:Int)).length<sizeLine:=by rw[length_map];exact Nat.lt_of_le_of_lt (ZK m) (by decide)
 have es:=Wq ((OA m).map fun k=>12-k) (by intro k hk;obtain⟨j,_,rfl⟩:=mem_map.mp hk;omega) (by rw[length_map];exact ZK m) h;rw[map_map,map_map]at es;have e1:((fun(k:Nat)=>Dt.int (k:Int)) ∘ fun k=>12-k)=fun(k:Nat)=>Dt.int (((12-k:Nat):Nat):Int):=rfl
 have e2:((fun(k:Nat)=>(2:Int)^k) ∘ fun k=>12-k)=fun(k:Nat)=>(2:Int)^(12-k):=rfl
 have e3:((OA m).map fun k=>(2:Int)^(12-k)).sum=(Al m:Int):=iY _;rw[e1,e2,e3]at es;simp[UN,MS,RK,RF _ _ _ hs,ec,es]
theorem GR(t a b:Int)(hab:a<b):(t<a/\XB t a b=0)\/(t=a/\XB t a b=1)\/(a<t/\t<b/\XB t a b=2)\/(t=b/\XB t a b=3)\/(b<t/\XB t a b=4):=by
 unfold XB
 repeat' split
 all_goals omega
theorem gb{w:Nat}(hw:w<13):Al (2^w)=2^(12-w):=by
 have h1:2^(12-w)<8192:=Nat.lt_of_le_of_lt (Nat.pow_le_pow_right (by decide) (show 12-w<=12 by omega)) (by decide);refine YG (nI _) h1 fun k hk=>?_
 rw[bF _ hk,Nat.testBit_two_pow,Nat.testBit_two_pow]
 congr 1
 apply propext;omega
noncomputable def PZ(ns:List Int):List Nat:=0::8191::ns.map fun c=>(c%8192).toNat
theorem Fb{ns:List Int}{m:Nat}(h:m∈PZ ns):m<8192:=by
 simp only[PZ,mem_cons,mem_map]at h;rcases h with rfl | rfl | ⟨c,_,rfl⟩
 · decide
 · decide
 · have:=Int.emod_lt_of_pos c (show(0:Int)<8192 by decide);have:=Int.emod_nonneg c (show(8192:Int)≠0 by decide);omega
def CH(i j:Nat):Nat:=match Bl[i]? with
 | some (.tup r)=>(match r[j]? with
  | some (.int n)=>n.toNat
  | _=>0)
 | _=>0
noncomputable def T3:Dt->Nat
 | .int n=>n.toNat
 | _=>0
def kM:Dt->List Nat
 | .tup r=>r.map T3
 | _=>[]
theorem Zg:Bl=(Bl.map kM).map fun r=>.tup (r.map fun n:Nat=>.int (n:Int)):=by rfl
theorem F6:(Bl.map kM).length=13/\∀r∈Bl.map kM,r.length=13:=by decide +kernel
theorem K6{i j:Nat}(hi:i<13)(hj:j<13):∃r,Bl[i]?=some (.tup r)/\r[j]?=some (.int (CH i j)):=by
 obtain⟨N,hN⟩:∃N,Bl.map kM=N:=⟨_,rfl⟩
 have T:=Zg;have T2:=F6;rw[hN]at T T2;have hi':i<N.length:=by rw[T2.1];exact hi
 have e1:Bl[i]?=some (.tup (N[i].map fun n:Nat=>.int (n:Int))):=by rw[T,getElem?_map,getElem?_eq_getElem hi'];rfl
 have hj':j<N[i].length:=by rw[T2.2 _ (getElem_mem hi')];exact hj
 have e2:(N[i].map fun n:Nat=>Dt.int (n:Int))[j]?=some (.int (N[i][j]:Int)):=by rw[getElem?_map,getElem?_eq_getElem hj'];rfl
 refine⟨_,e1,?_⟩;rw[e2];unfold CH;rw[e1];dsimp only;rw[e2];rfl
theorem Yg:∀i<13,∀j<13,1<=CH i j/\CH i j<8192:=by decide +kernel
theorem VX:∀i<13,∀j<13,∀k<13,(CH (12-j) (12-i)).testBit (12-k)=(CH i j).testBit k:=by decide +kernel
noncomputable def rk(l:List Int)(x:Int):Nat:=match l with
 | []=>0
 | z::l=>(if z<x then 1 else 0)+rk l x
theorem ZZ{x y:Int}(h:x<=y):∀l,rk l x<=rk l y
 | []=>zf1 _
 | z::l=>by have:=ZZ h l;unfold rk;split<;>split<;>omega
theorem LH{x y:Int}(h:x<y):∀l,x∈l->rk l x<rk l y
 | z::l,m=>by
  unfold rk;rcases mem_cons.mp m with rfl | m
  · have:=ZZ (Int.le_of_lt h) l;rw[if_neg (Int.lt_irrefl _),if_pos h];omega
  · have:=LH h l m;split<;>split<;>omega
theorem yO{x:Int}:∀l,x∈l->rk l x<l.length
 | z::l,m=>by
  have q:∀l,rk l x<=l.length:=by
   intro l;induction l with
   | nil=>exact zf1 _
   | cons z l ih=>unfold rk;rw[zfO];split<;>omega
  unfold rk;rw[zfO];rcases mem_cons.mp m with rfl | m
  · have:=q l;rw[if_neg (Int.lt_irrefl _)];omega
  · have:=yO l m;split<;>omega
theorem ZW{l:List Int}{x y:Int}(hx:x∈l)(hy:y∈l):(x<y)=((rk l x:Int)<(rk l y:Int)):=by
 apply propext;constructor
 · intro h;have:=LH h l hx;omega
 · intro h;rcases Int.lt_trichotomy x y with g | g | g
   · exact g
   · subst g;omega
   · have:=LH g l hy;omega
theorem YW{l:List Int}{x y:Int}(hx:x∈l)(hy:y∈l):(x=y)=((rk l x:Int)=(rk l y:Int)):=by
 apply propext;constructor
 · intro h;rw[h]
 · intro h;rcases Int.lt_trichotomy x y with g | g | g
   · have:=LH g l hx;omega
   · exact g
   · have:=LH g l hy;omega
theorem xJ{l:List Int}{t a b:Int}(ht:t∈l)(ha:a∈l)(hb:b∈l):XB t a b=XB (rk l t) (rk l a) (rk l b):=by unfold XB;simp only[ZW ht ha,YW ht ha,ZW ht hb,YW ht hb]
noncomputable def MH(t a b:Nat):Nat:=if t<a then 0 else if t=a then 1 else if t<b then 2 else if t=b then 3 else 4
theorem B6(t a b:Nat):XB t a b=MH t a b:=by unfold XB MH;simp only[Int.ofNat_lt,Int.ofNat_inj]
noncomputable def uK(z y:Nat):Nat:=[0,3,6,7,8].getD z 0+y
theorem o7:∀z<5,∀y<5,(z,y)∈Il->Il.idxOf (z,y)=uK z y:=by decide +kernel
theorem Bx:∀b<6,∀a<b,∀d<6,∀c<d,∀q<6,∀p<q,
 (CH (uK (MH a c d) (MH b c d)) (uK (MH c p q) (MH d p q))).testBit (uK (MH a p q) (MH b p q))=true:=by decide +kernel
theorem J0(t a b:Int):XB t a b<5:=by
 unfold XB
 repeat' split
 all_goals decide
theorem WW{s o t:Int×Int}(h1:FD s)(h2:FD o)(h3:FD t):(CH (zB s o) (zB o t)).testBit (zB s t)=true:=by
 obtain⟨a,b⟩:=s;obtain⟨c,d⟩:=o;obtain⟨p,q⟩:=t;unfold FD at h1 h2 h3;simp only at h1 h2 h3;have W:∀{a b c d:Int},a<b->c<d->zB (a,b) (c,d)=uK (XB a c d) (XB b c d):=fun g1 g2=>o7 _ (J0 _ _ _) _ (J0 _ _ _) (CN g1 g2)
 rw[W h1 h2,W h2 h3,W h1 h3];have ma:a ∈ [a,b,c,d,p,q]:=by simp
 have mb:b ∈ [a,b,c,d,p,q]:=by simp
 have mc:c ∈ [a,b,c,d,p,q]:=by simp
 have md:d ∈ [a,b,c,d,p,q]:=by simp
 have mp:p ∈ [a,b,c,d,p,q]:=by simp
 have mq:q ∈ [a,b,c,d,p,q]:=by simp
 have k1:=LH h1 _ ma;have k2:=LH h2 _ mc;have k3:=LH h3 _ mp;have t1:=yO _ mb;have t2:=yO _ md;have t3:=yO _ mq;rw[xJ ma mc md,xJ mb mc md,xJ mc mp mq,xJ md mp mq,xJ ma mp mq,xJ mb mp mq];generalize rk [a,b,c,d,p,q] a=a' at *;generalize rk [a,b,c,d,p,q] b=b' at *;generalize rk [a,b,c,d,p,q] c=c' at *;generalize rk [a,b,c,d,p,q] d=d' at *;generalize rk [a,b,c,d,p,q] p=p' at *;generalize rk [a,b,c,d,p,q] q=q' at *;simp only[B6];exact Bx _ t1 _ k1 _ t2 _ k2 _ t3 _ k3
theorem Bw:∀i<13,∀j<13,(CH i j).testBit 6=true->j=12-i:=by decide +kernel
theorem jk{s:Int×Int}(h:FD s):zB s s=6:=by obtain⟨a,b⟩:=s;have h:a<b:=h;unfold zB XB;simp[h,Int.ne_of_gt h,show ¬b<a by omega];rfl
theorem uN{s o:Int×Int}(h1:FD s)(h2:FD o):zB o s=12-zB s o:=by have:=WW h1 h2 h1;rw[jk h1]at this;exact Bw _ (pF h1 h2) _ (pF h2 h1) this
noncomputable def NL(f:Nat->Nat)(xs:List Nat)(a:Nat):Nat:=xs.foldl (fun acc x=>acc|||f x) a
theorem KY(f:Nat->Nat)(k:Nat):∀(xs:List Nat)(a:Nat),(NL f xs a).testBit k=(a.testBit k || xs.any fun x=>(f x).testBit k)
 | [],a=>by simp[NL]
 | x::xs,a=>by have:=KY f k xs (a|||f x);unfold NL at this ⊢;rw[foldl_cons,this];simp[Nat.testBit_or,Bool.or_assoc]
theorem cZ(f:Nat->Nat):∀(xs:List Nat)(a:Nat),a<8192->(∀x∈xs,f x<8192)->NL f xs a<8192
 | [],a,ha,_=>ha
 | x::xs,a,ha,h=>by unfold NL;rw[foldl_cons];exact cZ f xs (a|||f x) (Nat.or_lt_two_pow (n:=13) ha (h x (by simp))) fun y hy=>h y (by simp[hy])
def gH(a b:Nat):Nat:=(OA a).foldl (fun acc i=>NL (CH i) (OA b) acc) 0
theorem dW(b k:Nat):∀(xs:List Nat)(a:Nat),(xs.foldl (fun acc i=>NL (CH i) (OA b) acc) a).testBit k=(a.testBit k || xs.any fun i=>(OA b).any fun j=>(CH i j).testBit k)
 | [],a=>by simp
 | x::xs,a=>by rw[foldl_cons,dW b k xs,KY];simp[Bool.or_assoc]
theorem mL(a b k:Nat):(gH a b).testBit k=true↔∃i j,i<13/\a.testBit i=true/\j<13/\b.testBit j=true/\(CH i j).testBit k=true:=by
 unfold gH;rw[dW];simp only[Nat.zero_testBit,Bool.false_or,any_eq_true,Wm];constructor
 · rintro⟨i,⟨h1,h2⟩,j,⟨h3,h4⟩,h5⟩;exact⟨i,j,h1,h2,h3,h4,h5⟩
 · rintro⟨i,j,h1,h2,h3,h4,h5⟩;exact⟨i,⟨h1,h2⟩,j,⟨h3,h4⟩,h5⟩
theorem CW(b:Nat):∀(xs:List Nat)(a:Nat),a<8192->(∀i∈xs,i<13)->xs.foldl (fun acc i=>NL (CH i) (OA b) acc) a<8192
 | [],a,ha,_=>ha
 | x::xs,a,ha,h=>by rw[foldl_cons];exact CW b xs _ (cZ _ _ _ ha fun j hj=>(Yg x (h x (by simp)) j (Wm.mp hj).1).2) fun y hy=>h y (by simp[hy])
theorem oh(a b:Nat):gH a b<8192:=CW b _ 0 (by decide) fun i hi=>(Wm.mp hi).1
theorem Gx{a b:Bool}(h:a=true↔b=true):a=b:=by cases a<;>cases b<;>simp_all
theorem yt{a b:Nat}(ha:a<8192)(hb:b<8192)(h:∀k<13,a.testBit k=true↔b.testBit k=true):a=b:=YG ha hb fun k hk=>Gx (h k hk)
theorem Mx(a b:Nat):gH (Al b) (Al a)=Al (gH a b):=by
 refine yt (oh _ _) (nI _) fun k hk=>?_
 rw[bF _ hk,mL,mL];constructor
 · rintro⟨i,j,h1,h2,h3,h4,h5⟩;rw[bF _ h1]at h2;rw[bF _ h3]at h4;refine⟨12-j,12-i,by omega,h4,by omega,h2,?_⟩;have:=VX i h1 j h3 k hk;rw[this];exact h5
 · rintro⟨i,j,h1,h2,h3,h4,h5⟩;refine⟨12-j,12-i,by omega,?_,by omega,?_,?_⟩
   · rw[bF _ (by omega),show 12-(12-j)=j by omega];exact h4
   · rw[bF _ (by omega),show 12-(12-i)=i by omega];exact h2
   · have:=VX i h1 j h3 (12-k) (by omega);rw[show 12-(12-k)=k by omega]at this;rw[this];exact h5
theorem Wy{i:Nat}(hi:i<13)(b acc:Nat)(x y z:Option Dt)(h:HI):∃z',wM [x,y,some (.lst ((OA b).map fun(k:Nat)=>Dt.int (k:Int))),some (.int acc),some (.int i),z] h=some (.nx [x,y,some (.lst ((OA b).map fun(k:Nat)=>Dt.int (k:Int))),some (.int (NL (CH i) (OA b) acc)),some (.int i),z'] h):=by
 obtain⟨l',h',e,⟨z',rfl⟩,rfl⟩:=eS (i:=5) (body:=yQ) (fun(k:Nat)=>Dt.int (k:Int)) (fun(a:Nat) l h'=>(∃z',l=[x,y,some (.lst ((OA b).map fun(k:Nat)=>Dt.int (k:Int))),some (.int a),some (.int i),z'])/\h'=h) (fun a j=>a|||CH i j) (OA b) (by
  rintro j hj a l h ⟨⟨z',rfl⟩,rfl⟩;obtain⟨r,e1,e2⟩:=K6 hi (Wm.mp hj).1;refine⟨.nx [x,y,some (.lst ((OA b).map fun(k:Nat)=>Dt.int (k:Int))),some (.int ((a|||CH i j:Nat):Int)),some (.int i),some (.int j)] h,?_,⟨_,rfl⟩,rfl⟩;simp[yQ,e1,e2,Iw]) acc [x,y,some (.lst ((OA b).map fun(k:Nat)=>Dt.int (k:Int))),some (.int acc),some (.int i),z] h ⟨⟨z,rfl⟩,rfl⟩
 refine⟨z',?_⟩;simp[wM,e];rfl
theorem O7(a b:Nat)(h:HI):LM [.int a,.int b] h=some (.int (gH a b),h):=by
 obtain⟨l',h',e,⟨z,w,rfl⟩,rfl⟩:=eS (i:=4) (body:=wM) (fun(k:Nat)=>Dt.int (k:Int)) (fun(c:Nat) l h'=>(∃z w,l=[some (.int a),some (.int b),some (.lst ((OA b).map fun(k:Nat)=>Dt.int (k:Int))),some (.int c),z,w])/\h'=h) (fun acc i=>NL (CH i) (OA b) acc) (OA a) (by
  rintro i hi c l h ⟨⟨z,w,rfl⟩,rfl⟩;obtain⟨z',e⟩:=Wy (Wm.mp hi).1 b c (some (.int a)) (some (.int b)) w h;exact⟨_,e,⟨_,_,rfl⟩,rfl⟩) 0 [some (.int a),some (.int b),some (.lst ((OA b).map fun(k:Nat)=>Dt.int (k:Int))),some (.int 0),none,none] h ⟨⟨none,none,rfl⟩,rfl⟩
 simp[LM,pQ,RK,e];rfl
noncomputable def ZC(c:Nat)(g:Nat->Nat):List Dt:=(List.range c).map fun(j:Nat)=>Dt.int (g j:Nat)
noncomputable def MF(b c:Nat):List Dt:=(List.range c).map fun(k:Nat)=>Dt.ref (b+k)
structure Bm(h:HI)(b c:Nat)(f:Nat->Nat->Nat):Prop where
 row:∀i<c,h[b+i]?=some (.lst (ZC c (f i)))
 top:h[b+c]?=some (.lst (MF b c))
def xD(b c:Nat)(f:Nat->Nat->Nat):HI:=((List.range c).map fun i=>Ob.lst (ZC c (f i)))++[.lst (MF b c)]
theorem Bm.lt{h:HI}{b c:Nat}{f:Nat->Nat->Nat}(N:Bm h b c f):b+c<h.length:=(zfY N.top).1
theorem Bm.grow{h:HI}{b c:Nat}{f:Nat->Nat->Nat}(N:Bm h b c f)(e:HI):Bm (h++e) b c f:=by have:=N.lt;exact⟨fun i hi=>by rw[zfZ (by omega)];exact N.row i hi,by rw[zfZ (by omega)];exact N.top⟩
theorem UG(h:HI)(c:Nat)(f:Nat->Nat->Nat):Bm (h++xD h.length c f) h.length c f:=by
 constructor
 · intro i hi;rw[zf2 (by omega)];unfold xD;rw[zfZ (by simp;omega)];simp[hi]
 · rw[zf2 (by omega)];unfold xD;rw[zf2 (by simp)];simp
theorem bO(c:Nat)(g:Nat->Nat):(ZC c g).length=c:=by simp[ZC]
theorem fO(b c:Nat):(MF b c).length=c:=by simp[MF]
theorem gL{c j:Nat}(hj:j<c)(g:Nat->Nat):(ZC c g)[j]?=some (.int (g j:Nat)):=by simp[ZC,hj]
theorem eO{b c j:Nat}(hj:j<c):(MF b c)[j]?=some (.ref (b+j)):=by simp[MF,hj]
theorem Ej{c:Nat}{g g':Nat->Nat}(e:∀j<c,g j=g' j):ZC c g=ZC c g':=map_congr_left fun j hj=>by rw[e j (mem_range.mp hj)]
theorem Hz{c j:Nat}(g:Nat->Nat)(v:Nat):(ZC c g).set j (.int (v:Nat))=ZC c (fun x=>if x=j then v else g x):=by
 apply ext_getElem?;intro k;rw[getElem?_set];simp only[ZC,length_map,length_range,getElem?_map];by_cases hk:k<c
 · rw[getElem?_range hk];by_cases hj:j=k
   · subst hj;simp[hk]
   · have:¬k=j:=fun z=>hj z.symm
     simp[hj,this]
 · rw[getElem?_eq_none (by simpa using hk)];split
   · have:¬j<c:=by omega
     simp[this]
   · rfl
theorem Bm.congr{h:HI}{b c:Nat}{f g:Nat->Nat->Nat}(N:Bm h b c f)(e:∀i<c,∀j<c,f i j=g i j):Bm h b c g:=
 ⟨fun i hi=>by rw[<- Ej (e i hi)];exact N.row i hi,N.top⟩
noncomputable def LB(f:Nat->Nat->Nat)(i j v:Nat):Nat->Nat->Nat:=fun a b=>if a=i then(if b=j then v else f a b)else f a b
theorem Bm.other{h:HI}{b c:Nat}{f:Nat->Nat->Nat}(N:Bm h b c f){n:Nat}(hn:n<b\/b+c<n)(o:Ob):Bm (h.set n o) b c f:=
 ⟨fun i hi=>by rw[getElem?_set_ne (by omega)];exact N.row i hi,by rw[getElem?_set_ne (by omega)];exact N.top⟩
theorem Bm.ix{h:HI}{b c:Nat}{f:Nat->Nat->Nat}(N:Bm h b c f){i:Nat}(hi:i<c):BA (.ref (b+c)) (.int (i:Nat)) h=some (.ref (b+i),h):=by rw[XF N.top,SM.OD,eO hi];rfl
theorem Bm.ix2{h:HI}{b c:Nat}{f:Nat->Nat->Nat}(N:Bm h b c f){i j:Nat}(hi:i<c)(hj:j<c):BA (.ref (b+i)) (.int (j:Nat)) h=some (.int (f i j:Nat),h):=by rw[XF (N.row i hi),SM.OD,gL hj];rfl
theorem Bm.len{h:HI}{b c:Nat}{f:Nat->Nat->Nat}(N:Bm h b c f):iD (.ref (b+c)) h=some (.int (c:Nat),h):=by rw[xL N.top,fO]
theorem Bm.seq{h:HI}{b c:Nat}{f:Nat->Nat->Nat}(N:Bm h b c f):eJ (.ref (b+c),h)=some (.rf (b+c),h):=OF N.top
theorem Bm.len1{h:HI}{b c:Nat}{f:Nat->Nat->Nat}(N:Bm h b c f){i:Nat}(hi:i<c):iD (.ref (b+i)) h=some (.int (c:Nat),h):=by rw[xL (N.row i hi),bO]
theorem U9{i n:Nat}{xs:List Dt}:∀(l:LI)(h:HI)(b:Dt)(h':HI),VC eF (eV i) l h=some (b,h')->h[n]?=some (.lst xs)->h'[n]?=some (.lst xs):=by
 intro l h b h' e q;have hn:=(zfY q).1;rw[sD,sA]at e;cases z:l[i]? with
 | none=>rw[z]at e;simp[YH]at e
 | some o=>
  rw[z]at e;cases o with
  | none=>simp[YH]at e
  | some d=>
   simp only[uA,oA,eF]at e;cases y:LD h d with
   | none=>rw[y]at e;cases e
   | some ys=>rw[y]at e;simp only[zfU,Option.some.injEq,Prod.mk.injEq]at e;obtain⟨_,rfl⟩:=e;rw[zfZ hn];exact q
theorem jX{n:Nat}{xs:List Dt}:∀(l:LI)(h:HI)(b:Bool)(h':HI),JB l h=some (b,h')->h[n]?=some (.lst xs)->h'[n]?=some (.lst xs):=by intro l h b h' e q;simp only[uO,Option.some.injEq,Prod.mk.injEq]at e;rw[<- e.2];exact q
theorem EW{te:RE}(ht:te=VC eF (eV 0)){h:HI}{b c:Nat}{f:Nat->Nat->Nat}(N:Bm h b c f)(hc:c<=1000)(l:LI)(hl:0<l.length):cF (JA 0) JB te l (.rf (b+c),h)=some (MF h.length c,h++(List.range c).map fun i=>Ob.lst (ZC c (f i))):=by
 subst ht;rw[tS N.top (by rw[fO];simp;omega) jX U9];have:=ER (te:=VC eF (eV 0)) (i:=0) (fun(k:Nat)=>Dt.ref (b+k)) (fun i=>Ob.lst (ZC c (f i))) h (List.range c) l [] (by
  intro k hk e;have hk:=mem_range.mp hk;have q:=(N.grow e).row k hk;rw[sD,sA,getElem?_set_self hl,uA,oA];simp only[eF,LD,TB,q,zfU])
 rw[zf3,length_range]at this;exact this
theorem SW{α:Type}{F:Dt->Option Dt}(D E:α->Dt):∀(xs:List α),(∀x∈xs,F (D x)=some (E x))->ID F (xs.map D)=some (xs.map E)
 | [],_=>rfl
 | x::xs,H=>by simp only[zfQ,ID,H x (by simp),zfV,SW D E xs fun y hy=>H y (by simp[hy]),zfU]
noncomputable def vB(i j:Nat):Nat:=if i=j then 64 else 8191
theorem kW(b c:Nat)(f:Nat->Nat->Nat):(xD b c f).length=c+1:=by simp[xD]
theorem mW(h:HI){c i:Nat}(hi:i<c)(f:Nat->Nat->Nat)(j v:Nat):(h++xD h.length c f).set (h.length+i) (.lst ((ZC c (f i)).set j (.int (v:Nat))))=h++xD h.length c (LB f i j v):=by
 rw[set_append_right _ _ (by omega),Nat.add_sub_cancel_left]
 congr 1
 unfold xD;rw[set_append_left _ _ (by simpa using hi)]
 congr 1
 apply ext_getElem?;intro k;rw[getElem?_set];simp only[length_map,length_range,getElem?_map];by_cases hk:k<c
 · rw[getElem?_range hk];by_cases e:i=k
   · subst e;have:(fun x=>if x=j then v else f i x)=LB f i j v i:=by funext x;simp[LB]
     simp[hi,Hz,this]
   · have:¬k=i:=by omega
     have q:LB f i j v k=f k:=by funext x;simp[LB,this]
     simp[e,q]
 · rw[getElem?_eq_none (by simpa using hk)];have:¬i=k:=by omega
   simp[this]
theorem Rh(f:Nat->Nat->Nat)(i j v:Nat):LB f i j v i j=v:=by simp[LB]
def kB(f:Nat->Nat->Nat)(i m j:Nat):Nat->Nat->Nat:=LB (LB f i j (f i j&&&m)) j i (Al (f i j&&&m))
theorem oN{h:HI}{b c:Nat}{f:Nat->Nat->Nat}(N:Bm h b c f)(hc:c<=1000){i j:Nat}(hi:i<c)(hj:j<c)(m:Nat) :
 gI [.ref (b+c),.int (i:Nat),.int (m:Nat),.int (j:Nat)] h=some (.ref (h.length+c),h++xD h.length c (kB f i m j)):=by
 have e1:=EW (te:=PV) rfl N hc [none] (by simp);have N1:=N.grow (xD h.length c f);have M1:=UG h c f;have M2:=UG h c (LB f i j (f i j&&&m));have p1:=mW h hi f j (f i j&&&m);have p2:=mW h hj (LB f i j (f i j&&&m)) i (Al (f i j&&&m));have t1:=Yq (f i j&&&m) (h++xD h.length c (LB f i j (f i j&&&m)));have r1:=fun(l:LI)=>cO (l:=l) (v:=.int ((f i j&&&m:Nat):Nat)) (M1.row i hi) (show j<(ZC c (f i)).length by rw[bO];exact hj)
 have r2:=fun(l:LI)=>cO (l:=l) (v:=.int ((Al (f i j&&&m):Nat):Nat)) (M2.row j hj) (show i<(ZC c (LB f i j (f i j&&&m) j)).length by rw[bO];exact hi)
 have x2:=M2.ix2 hi hj;rw[Rh]at x2;have en:(h++(List.range c).map fun i=>Ob.lst (ZC c (f i)))++[Ob.lst (MF h.length c)]=h++xD h.length c f:=by rw[append_assoc];rfl
 have el:(h++(List.range c).map fun i=>Ob.lst (ZC c (f i))).length=h.length+c:=by simp
 simp only[gI,wR,YB,XA,pB,BS,gE,sA,zfQ,zfR,zfX,zfW,zfO,zfP,zfM,zfN,uA,oA,N.seq,QF,TF,e1,en,el,ZA,if_true,Nat.reduceSub,Nat.reduceAdd,List.replicate,zfT,zfS,QY,EA,N1.ix hi,N1.ix2 hi hj,M1.ix hi,zL,OS,r1,p1,rB,SA,NA,M2.ix hi,x2,zf3,t1,M2.ix hj,r2,p2,CB,OB];rfl
theorem zf(c:Nat)(g:Nat->Nat)(z:Nat){h:HI}{n:Nat}(e:h[n]?=some (.lst (ZC c g))):rH false (.int (z:Nat)) (.ref n) h=some (.bl ((List.range c).any fun j=>g j==z),h):=by
 have f1:∀xs:List Nat,QE (xs.map fun(j:Nat)=>Dt.int (g j:Nat))=some (xs.map fun(j:Nat)=>V.int (g j:Nat)):=by
  intro xs
  induction xs with
  | nil=>rfl
  | cons x xs ih=>simp[QE,UD,ih]
 have f2:ML (V.int (z:Nat)) ((List.range c).map fun(j:Nat)=>V.int (g j:Nat))=(List.range c).any fun j=>g j==z:=by
  unfold ML;rw[any_map]
  congr 1
  funext j
  simp only[Function.comp];unfold gK;by_cases q:g j=z
  · simp[q]
  · have:(g j:Int)≠(z:Int):=by omega
    show((g j:Int)==(z:Int))=(g j==z);rw[beq_eq_false_iff_ne.mpr this,beq_eq_false_iff_ne.mpr q]
 simp only[rH,UD,LD,TB,e,zfV,ZC,f1,f2];simp
noncomputable def mC(c:Nat)(f:Nat->Nat->Nat):Bool:=(List.range c).any fun i=>(List.range c).any fun j=>f i j==0
theorem Qk{n:Nat}{xs:List Dt}(a:Dt)(i:Nat):∀(l:LI)(h:HI)(b:Dt)(h':HI),e2 (rH false) (eC a) (eV i) l h=some (b,h')->h[n]?=some (.lst xs)->h'[n]?=some (.lst xs):=by
 intro l h b h' e q;rw[EA,DA,oA,sA]at e;cases z:l[i]? with
 | none=>rw[z]at e;simp[YH]at e
 | some o=>
  rw[z]at e;cases o with
  | none=>simp[YH]at e
  | some d=>
   simp only[uA,oA,rH]at e;cases z1:UD a with
   | none=>rw[z1]at e;cases e
   | some a1=>
    rw[z1]at e;cases z2:LD h d with
    | none=>rw[z2]at e;cases e
    | some a2=>
     rw[z2]at e;cases z3:QE a2 with
     | none=>simp[z3]at e
     | some a3=>simp only[zfV,z3,Option.some.injEq,Prod.mk.injEq]at e;rw[<- e.2];exact q
theorem Rx{te:RE}(ht:te=e2 (rH false) (eC (.int 0)) (eV 0)){h:HI}{b c:Nat}{f:Nat->Nat->Nat}(N:Bm h b c f)(hc:c<=1000):cF (JA 0) JB te [none] (.rf (b+c),h)=some (((List.range c).map fun i=>(List.range c).any fun j=>f i j==0).map Dt.bl,h):=by
 subst ht;rw[tS N.top (by rw[fO];simp;omega) jX (Qk _ _)];have:=XG (te:=e2 (rH false) (eC (.int 0)) (eV 0)) (tc:=JB) (i:=0) (fun(k:Nat)=>Dt.ref (b+k)) (fun i=>Dt.bl ((List.range c).any fun j=>f i j==0)) h (List.range c) [none] (by
  intro k hk;have:=zf c (f k) 0 (N.row k (mem_range.mp hk));simp only[Int.ofNat_eq_natCast,Int.cast_ofNat_Int]at this;exact⟨rfl,by simp[this]⟩)
 rw[MF,this];simp[map_map]
theorem K9{h:HI}{b c:Nat}{f:Nat->Nat->Nat}(N:Bm h b c f)(hc:c<=1000):kN [.ref (b+c)] h=some (.bl (mC c f),h):=by have e:=Rx (te:=OV) rfl N hc;have a:=T6 (h:=h) ((List.range c).map fun i=>(List.range c).any fun j=>f i j==0);simp only[kN,vR,YB,CB,sD,ZG,gE,sA,zfQ,zfR,zfX,zfW,zfO,zfP,zfM,uA,oA,N.seq,QF,TF,e,a,if_true,OB,Nat.reduceAdd];simp[mC,any_map]
noncomputable def CA(p:Nat×Nat):Dt:=.tup [.int (p.1:Nat),.int (p.2:Nat)]
noncomputable def bD(c:Nat)(n:Nat):List (Nat×Nat):=(List.range n).flatMap fun i=>(List.range (c-i-1)).map fun k=>(i,i+1+k)
def LA(c:Nat):List (Nat×Nat):=bD c c
theorem Vm{c:Nat}{p:Nat×Nat}:p∈LA c↔p.1<p.2/\p.2<c:=by
 obtain⟨i,j⟩:=p;unfold LA bD;simp only[mem_flatMap,mem_range,mem_map,Prod.mk.injEq];constructor
 · rintro⟨a,ha,k,hk,rfl,rfl⟩;omega
 · rintro⟨h1,h2⟩;exact⟨i,by omega,j-i-1,by omega,rfl,by omega⟩
theorem UK(c n:Nat):(bD c n).length<=n*c:=by
 induction n with
 | zero=>simp[bD]
 | succ n ih=>
  have:bD c (n+1)=bD c n++(List.range (c-n-1)).map fun k=>(n,n+1+k):=by unfold bD;rw[range_succ,flatMap_append];simp
  rw[this,length_append,length_map,length_range,Nat.succ_mul];omega
theorem rR{c:Nat}(hc:c<=1000)(h:HI):iI [.int (c:Nat)] h=some (.ref h.length,h++[.lst ((LA c).map CA)]):=by
 have er:=vG (h:=h++[.lst []]) (show(-(2^62):Int)<=(c:Int) by omega) (show(c:Int)<2^62 by omega);simp only[Int.toNat_natCast]at er;have hcc:c*c<=1000*1000:=Nat.mul_le_mul hc hc;obtain⟨l',h',e,⟨y,z,rfl⟩,rfl⟩:=OK (i:=2) (body:=iR) (fun(k:Nat)=>Dt.int (k:Int)) (fun(n:Nat) l h'=>(∃y z,l=[some (.int (c:Nat)),some (.ref h.length),y,z])/\h'=h++[.lst ((bD c n).map CA)]) c (by
  rintro n hn l h1 ⟨⟨y,z,rfl⟩,rfl⟩;have hl:=UK c n;have hnc:n*c<=c*c:=Nat.mul_le_mul_right _ (by omega);obtain⟨l',h',e,⟨y,rfl⟩,rfl⟩:=OK (i:=3) (body:=JQ) (fun(k:Nat)=>Dt.int ((n:Int)+1+(k:Int))) (fun(m:Nat) l h'=>(∃y,l=[some (.int (c:Nat)),some (.ref h.length),some (.int (n:Nat)),y])/\h'=h++[.lst ((bD c n++(List.range m).map fun k=>(n,n+1+k)).map CA)]) (c-n-1) (by
   rintro m hm l h1 ⟨⟨y,rfl⟩,rfl⟩;refine⟨.nx [some (.int (c:Nat)),some (.ref h.length),some (.int (n:Nat)),some (.int ((n:Int)+1+(m:Int)))] (h++[.lst ((bD c n++(List.range (m+1)).map fun k=>(n,n+1+k)).map CA)]),?_,⟨_,rfl⟩,rfl⟩;have ea:=fun(l:LI) (g:RE) (d:Dt) (eg:g l (h++[.lst ((bD c n++(List.range m).map fun k=>(n,n+1+k)).map CA)])=some (d,h++[.lst ((bD c n++(List.range m).map fun k=>(n,n+1+k)).map CA)]))=>PF (h:=h++[.lst ((bD c n++(List.range m).map fun k=>(n,n+1+k)).map CA)]) (l:=l) (n:=h.length) (ys:=(bD c n++(List.range m).map fun k=>(n,n+1+k)).map CA) (xs:=(bD c n++(List.range m).map fun k=>(n,n+1+k)).map CA) (by simp) eg (by simp) (by simp;omega)
   simp only[JQ,eE,nF,sA,zfS,zfT,zfM,zfN,uA,oA];rw[ea _ _ (CA (n,n+1+m))]
   · simp only[oA];rw[show ∀(o o':Ob),(h++[o]).set h.length o'=h++[o'] by simp];simp[range_succ]
   · simp[CA]) [some (.int (c:Nat)),some (.ref h.length),some (.int (n:Nat)),z] (h++[.lst ((bD c n).map CA)]) ⟨⟨z,rfl⟩,by simp⟩
  have er:=RY (h:=h++[.lst ((bD c n).map CA)]) (i:=(n:Int)+1) (j:=(c:Int)) (by omega) (by omega) (by omega) (by omega);rw[show((c:Int)-((n:Int)+1)).toNat=c-n-1 by omega]at er;have ep:bD c (n+1)=bD c n++(List.range (c-n-1)).map fun k=>(n,n+1+k):=by unfold bD;rw[range_succ,flatMap_append];simp
  refine⟨.nx [some (.int (c:Nat)),some (.ref h.length),some (.int (n:Nat)),y] (h++[.lst ((bD c (n+1)).map CA)]),?_,⟨_,_,rfl⟩,rfl⟩
  · simp only[iR,AE,TZ,EA,sA,DA,zfS,zfT,zfM,zfN,uA,oA,uD,er,QG];rw[e,ep]) [some (.int (c:Nat)),some (.ref h.length),none,none] (h++[.lst []]) ⟨⟨none,none,rfl⟩,by simp[bD]⟩
 simp only[iI,xR,YB,XA,pB,bH,NA,zfQ,zfR,zfX,zfW,zfO,zfP,if_true,oA,ZA,Nat.reduceAdd,Nat.reduceSub,List.replicate,zfS,zfT,AE,cP,sA,zfM,zfN,uA,er,QG,tI,Nat.zero_le,e,CB,OB];rfl
structure aB(c:Nat)(f:Nat->Nat->Nat):Prop where
 lt:∀i<c,∀j<c,f i j<8192
 tn:∀i<c,∀j<c,f j i=Al (f i j)
theorem WF(c:Nat):aB c vB:=by
 constructor
 · intro i _ j _;unfold vB;split<;>decide
 · intro i _ j _;unfold vB;by_cases h:i=j
   · subst h;rw[if_pos rfl];decide +kernel
   · have:¬j=i:=fun z=>h z.symm
     rw[if_neg h,if_neg this];decide +kernel
theorem yE{c:Nat}{f:Nat->Nat->Nat}(o:aB c f){i j:Nat}(hi:i<c)(hj:j<c)(hij:i≠j)(m:Nat):aB c (kB f i m j):=by
 have hv:f i j&&&m<8192:=Nat.lt_of_le_of_lt Nat.and_le_left (o.lt i hi j hj);have hji:¬j=i:=fun z=>hij z.symm
 constructor
 · intro a ha b hb;unfold kB LB
   repeat' split
   all_goals first | exact nI _ | exact hv | exact o.lt a ha b hb
 · intro a ha b hb;unfold kB LB;by_cases h1:a=i
   · subst h1;by_cases h2:b=j
     · subst h2;simp[hij,hji]
     · by_cases h3:b=a
       · subst h3;simp[hij,h2];exact o.tn _ ha _ hb
       · simp[h2,h3,hij];exact o.tn _ ha _ hb
   · by_cases h2:a=j
     · subst h2;by_cases h3:b=i
       · subst h3;simp[hij,hji,YK hv]
       · simp[h1,h3];exact o.tn _ ha _ hb
     · simp[h1,h2];exact o.tn _ ha _ hb
noncomputable def SD(i k j:Nat):Dt:=.tup [.int (i:Nat),.int (k:Nat),.int (j:Nat)]
def Rm(f:Nat->Nat->Nat)(i k j:Nat):Nat:=f i j&&&gH (f i k) (f k j)
theorem HW{h:HI}{b c:Nat}{f:Nat->Nat->Nat}(N:Bm h b c f){i k j:Nat}(hi:i<c)(hk:k<c)(hj:j<c):QK [.ref (b+c),SD i k j] h=some (.int (Rm f i k j:Nat),h):=by simp only[QK,HR,SD,YB,XA,pB,EA,sA,DA,zfQ,zfR,zfX,zfW,zfO,zfP,if_true,Nat.reduceAdd,Nat.reduceSub,List.replicate,zfM,zfN,uA,oA,yB,UB,pD,EI,zfU,N.ix hi,N.ix2 hi hk,N.ix hk,N.ix2 hk hj,N.ix2 hi hj,ZA,zfS,zfT,CB,rB,SA,NA,zf3,O7,zL,OS,OB];rfl
theorem Kq{h:HI}{b c:Nat}{f:Nat->Nat->Nat}(N:Bm h b c f)(hc:c<=1000){i k j:Nat}(hi:i<c)(hk:k<c)(hj:j<c):LN [.ref (b+c),SD i k j] h=some (.ref (h.length+c),h++xD h.length c (kB f i (Rm f i k j) j)):=by have e1:=HW N hi hk hj;have e2:=oN N hc hi hj (Rm f i k j);unfold SD at e1 ⊢;simp only[LN,IR,YB,EA,sA,DA,zfQ,zfR,zfX,zfW,zfO,zfP,if_true,Nat.reduceAdd,Nat.reduceSub,List.replicate,zfM,zfN,uA,oA,yB,UB,pD,EI,zfU,CB,rB,SA,NA,zf3,e1,e2,OB]
theorem vX(f:Nat->Nat->Nat)(i k j:Nat):f i j&&&Rm f i k j=Rm f i k j:=by unfold Rm;rw[<- Nat.and_assoc,Nat.and_self]
def GC(f:Nat->Nat->Nat)(i k j:Nat):Nat->Nat->Nat:=kB f i (Rm f i k j) j
theorem aH(f:Nat->Nat->Nat){i k j:Nat}(hij:i≠j):GC f i k j i j=Rm f i k j:=by unfold GC kB LB;simp[hij,vX]
theorem IS(f:Nat->Nat->Nat)(i k j:Nat):GC f i k j j i=Al (Rm f i k j):=by unfold GC kB LB;simp[vX]
theorem VG(f:Nat->Nat->Nat){i k j a b:Nat}(h1:¬(a=i/\b=j))(h2:¬(a=j/\b=i)):GC f i k j a b=f a b:=by
 unfold GC kB LB;by_cases q1:a=j
 · subst q1;have:¬b=i:=fun z=>h2 ⟨rfl,z⟩
   by_cases q2:a=i
   · subst q2;simp[this]
   · simp[this,q2]
 · by_cases q2:a=i
   · subst q2;have:¬b=j:=fun z=>h1 ⟨rfl,z⟩
     simp[q1,this]
   · simp[q1,q2]
noncomputable def Im(a b:Nat):Prop:=a&&&b=a
theorem Nm{a b:Nat}:Im a b↔∀k,a.testBit k=true->b.testBit k=true:=by
 unfold Im;constructor
 · intro h k hk;rw[<- h,Nat.testBit_and,Bool.and_eq_true]at hk;exact hk.2
 · intro h;apply Nat.eq_of_testBit_eq;intro k;rw[Nat.testBit_and];cases q:a.testBit k with
   | false=>rfl
   | true=>rw[h k q];rfl
theorem Im.refl(a:Nat):Im a a:=Nat.and_self a
theorem Im.trans{a b c:Nat}(h1:Im a b)(h2:Im b c):Im a c:=Nm.mpr fun k hk=>Nm.mp h2 k (Nm.mp h1 k hk)
theorem DF(a b:Nat):Im (a&&&b) a:=Nm.mpr fun k hk=>by rw[Nat.testBit_and,Bool.and_eq_true]at hk;exact hk.1
theorem jL{a b c:Nat}(h1:Im a b)(h2:Im a c):Im a (b&&&c):=Nm.mpr fun k hk=>by rw[Nat.testBit_and,Nm.mp h1 k hk,Nm.mp h2 k hk];rfl
theorem XN{a b a' b':Nat}(h1:Im a a')(h2:Im b b'):Im (gH a b) (gH a' b'):=Nm.mpr fun k hk=>by obtain⟨i,j,q1,q2,q3,q4,q5⟩:=(mL a b k).mp hk;exact(mL a' b' k).mpr ⟨i,j,q1,Nm.mp h1 i q2,q3,Nm.mp h2 j q4,q5⟩
theorem lY(a b:Nat):Al (a&&&b)=Al a&&&Al b:=by
 refine YG (nI _) (Nat.lt_of_le_of_lt Nat.and_le_left (nI a)) fun k hk=>?_
 rw[bF _ hk,Nat.testBit_and,Nat.testBit_and,bF _ hk,bF _ hk]
theorem Yw{a b:Nat}(ha:a<8192)(hb:b<8192)(h:Al a=Al b):a=b:=by rw[<- YK ha,h,YK hb]
theorem zan:Al 0=0:=by decide +kernel
theorem yH{a b:Nat}(h:Im a b):Im (Al a) (Al b):=by unfold Im at h ⊢;rw[<- lY,h]
theorem BY{c:Nat}{f:Nat->Nat->Nat}(o:aB c f){i k j:Nat}(hi:i<c)(hj:j<c):Rm f i k j<8192:=Nat.lt_of_le_of_lt Nat.and_le_left (o.lt i hi j hj)
theorem yw{c:Nat}{f:Nat->Nat->Nat}(o:aB c f){i k j:Nat}(hi:i<c)(hk:k<c)(hj:j<c):Rm f j k i=Al (Rm f i k j):=by unfold Rm;rw[o.tn i hi j hj,o.tn k hk j hj,o.tn i hi k hk,Mx,lY]
theorem mT{c:Nat}{f:Nat->Nat->Nat}(o:aB c f){i k j:Nat}(hi:i<c)(hk:k<c)(hj:j<c)(h:Rm f j k i≠f j i):Rm f i k j≠f i j:=by intro e;apply h;rw[yw o hi hk hj,e,<- o.tn i hi j hj]
theorem oY{c:Nat}{f:Nat->Nat->Nat}(o:aB c f){i k j:Nat}(hi:i<c)(hj:j<c)(hij:i≠j):aB c (GC f i k j):=yE o hi hj hij _
noncomputable def QD(W:List (Nat×Nat))(i k j:Nat):Prop:=(i,k)∈W\/(k,i)∈W\/(k,j)∈W\/(j,k)∈W
noncomputable def EG(i k j:Nat):Prop:=i≠k/\k≠j/\i≠j
def CD(c:Nat)(f:Nat->Nat->Nat)(W:List (Nat×Nat))(R:List (Nat×Nat×Nat)):Prop:=
 ∀i<c,∀k<c,∀j<c,EG i k j->Rm f i k j≠f i j->QD W i k j\/(i,k,j)∈R\/(j,k,i)∈R
noncomputable def gG(a b c:Nat):List (Nat×Nat×Nat):=(List.range c).flatMap fun o=>if o=a\/o=b then []else [(a,b,o),(b,a,o)]
theorem Cp{a b c:Nat}{t:Nat×Nat×Nat}:t∈gG a b c↔∃o,o<c/\o≠a/\o≠b/\(t=(a,b,o)\/t=(b,a,o)):=by
 unfold gG;simp only[mem_flatMap,mem_range];constructor
 · rintro⟨o,ho,h⟩;by_cases q:o=a\/o=b
   · rw[if_pos q]at h;cases h
   · rw[if_neg q]at h;simp only[mem_cons,not_mem_nil,or_false]at h;exact⟨o,ho,fun z=>q (.inl z),fun z=>q (.inr z),h⟩
 · rintro⟨o,ho,h1,h2,h⟩;refine⟨o,ho,?_⟩;rw[if_neg (by rintro(z | z);exact h1 z;exact h2 z)];simpa using h
theorem yx{c:Nat}{f:Nat->Nat->Nat}{a b:Nat}{W:List (Nat×Nat)}(h:CD c f ((a,b)::W) []):CD c f W (gG a b c):=by
 intro i hi k hk j hj d n;obtain⟨d1,d2,d3⟩:=d;rcases h i hi k hk j hj ⟨d1,d2,d3⟩ n with h | h | h
 · unfold QD at h ⊢;simp only[mem_cons,Prod.mk.injEq]at h;rcases h with(⟨rfl,rfl⟩ | h) | (⟨rfl,rfl⟩ | h) | (⟨rfl,rfl⟩ | h) | (⟨rfl,rfl⟩ | h)
   · exact .inr (.inl (Cp.mpr ⟨j,hj,Ne.symm d3,Ne.symm d2,.inl rfl⟩))
   · exact .inl (.inl h)
   · exact .inr (.inl (Cp.mpr ⟨j,hj,Ne.symm d2,Ne.symm d3,.inr rfl⟩))
   · exact .inl (.inr (.inl h))
   · exact .inr (.inr (Cp.mpr ⟨i,hi,d1,d3,.inr rfl⟩))
   · exact .inl (.inr (.inr (.inl h)))
   · exact .inr (.inr (Cp.mpr ⟨i,hi,d3,d1,.inl rfl⟩))
   · exact .inl (.inr (.inr (.inr h)))
 · cases h
 · cases h
theorem kj{c:Nat}{f:Nat->Nat->Nat}(o:aB c f){x y z:Nat}(hx:x<c)(hy:y<c)(hz:z<c){W:List (Nat×Nat)}{R:List (Nat×Nat×Nat)}(h:CD c f W ((x,y,z)::R))(n:Rm f x y z=f x z):CD c f W R:=by
 intro i hi k hk j hj d m;rcases h i hi k hk j hj d m with h | h | h
 · exact .inl h
 · rcases mem_cons.mp h with h | h
   · cases h;exact absurd n m
   · exact .inr (.inl h)
 · rcases mem_cons.mp h with h | h
   · cases h;exact absurd n (mT o hx hy hz m)
   · exact .inr (.inr h)
theorem UW{a b e:Nat}(h:Im a b)(q:b&&&e=b):a&&&e=a:=Im.trans h q
theorem mj{c:Nat}{f:Nat->Nat->Nat}(o:aB c f){x y z:Nat}(hx:x<c)(hy:y<c)(hz:z<c)(dd:EG x y z){W:List (Nat×Nat)}{R:List (Nat×Nat×Nat)}(h:CD c f W ((x,y,z)::R)):CD c (GC f x y z) (W++[(x,z)]) R:=by
 obtain⟨d1,d2,d3⟩:=dd;have o':=oY (k:=y) o hx hz d3;have main:∀i<c,∀k<c,∀j<c,EG i k j->¬(i=z/\j=x)->Rm (GC f x y z) i k j≠GC f x y z i j->QD (W++[(x,z)]) i k j\/(i,k,j)∈R\/(j,k,i)∈R:=by
  intro i hi k hk j hj d nz m;obtain⟨e1,e2,e3⟩:=d;have grow:∀{i k j},QD W i k j->QD (W++[(x,z)]) i k j:=by
   intro i k j q;unfold QD at q ⊢;simp only[mem_append];rcases q with q | q | q | q
   · exact .inl (.inl q)
   · exact .inr (.inl (.inl q))
   · exact .inr (.inr (.inl (.inl q)))
   · exact .inr (.inr (.inr (.inl q)))
  by_cases ht:i=x/\j=z
  · obtain⟨rfl,rfl⟩:=ht;have l1:GC f i y j i k=f i k:=VG f (fun q=>e2 q.2) (fun q=>e1 q.2.symm);have l2:GC f i y j k j=f k j:=VG f (fun q=>e1 q.1.symm) (fun q=>e2 q.1);have lf:Rm (GC f i y j) i k j=Rm f i y j&&&gH (f i k) (f k j):=by unfold Rm;rw[l1,l2,aH f e3];rfl
    by_cases ky:k=y
    · subst ky;exfalso;apply m;rw[lf,aH f e3];unfold Rm;rw[Nat.and_assoc,Nat.and_self]
    · have n:Rm f i k j≠f i j:=by intro q;apply m;rw[lf,aH f e3];exact UW (DF (f i j) _) q
      rcases h i hi k hk j hj ⟨e1,e2,e3⟩ n with q | q | q
      · exact .inl (grow q)
      · rcases mem_cons.mp q with q | q
        · cases q;exact absurd rfl ky
        · exact .inr (.inl q)
      · rcases mem_cons.mp q with q | q
        · simp only[Prod.mk.injEq]at q;exact absurd q.1.symm e3
        · exact .inr (.inr q)
  · by_cases leg:QD [(x,z)] i k j
    · refine .inl ?_;unfold QD at leg ⊢;simp only[mem_append];rcases leg with q | q | q | q
      · exact .inl (.inr q)
      · exact .inr (.inl (.inr q))
      · exact .inr (.inr (.inl (.inr q)))
      · exact .inr (.inr (.inr (.inr q)))
    · unfold QD at leg;simp only[mem_cons,not_mem_nil,or_false,Prod.mk.injEq,not_or]at leg;obtain⟨g1,g2,g3,g4⟩:=leg;have l0:GC f x y z i j=f i j:=VG f (fun q=>ht q) (fun q=>nz q);have l1:GC f x y z i k=f i k:=VG f (fun q=>g1 q) (fun q=>g2 ⟨q.2,q.1⟩);have l2:GC f x y z k j=f k j:=VG f (fun q=>g3 q) (fun q=>g4 ⟨q.2,q.1⟩);have n:Rm f i k j≠f i j:=by unfold Rm at m ⊢;rw[l0,l1,l2]at m;exact m
      rcases h i hi k hk j hj ⟨e1,e2,e3⟩ n with q | q | q
      · exact .inl (grow q)
      · rcases mem_cons.mp q with q | q
        · simp only[Prod.mk.injEq]at q;exact absurd ⟨q.1,q.2.2⟩ ht
        · exact .inr (.inl q)
      · rcases mem_cons.mp q with q | q
        · simp only[Prod.mk.injEq]at q;exact absurd ⟨q.2.2,q.1⟩ nz
        · exact .inr (.inr q)
 intro i hi k hk j hj d m;by_cases nz:i=z/\j=x
 · obtain⟨e1,e2,e3⟩:=d;have m':=mT o' hj hk hi m;rcases main j hj k hk i hi ⟨Ne.symm e2,Ne.symm e1,Ne.symm e3⟩ (fun q=>e3 (by omega)) m' with q | q | q
   · refine .inl ?_;unfold QD at q ⊢;rcases q with q | q | q | q
     · exact .inr (.inr (.inr q))
     · exact .inr (.inr (.inl q))
     · exact .inr (.inl q)
     · exact .inl q
   · exact .inr (.inr q)
   · exact .inr (.inl q)
 · exact main i hi k hk j hj d nz m
def FF(c:Nat)(f:Nat->Nat->Nat):Prop:=∀i<c,∀k<c,∀j<c,EG i k j->Rm f i k j=f i j
theorem p9{c:Nat}{f:Nat->Nat->Nat}(h:CD c f [] []):FF c f:=by
 intro i hi k hk j hj d;apply Classical.byContradiction;intro n;rcases h i hi k hk j hj d n with q | q | q
 · unfold QD at q;simp at q
 · cases q
 · cases q
theorem lX(c:Nat)(f:Nat->Nat->Nat):CD c f (LA c) []:=by
 intro i hi k hk j hj d _;refine .inl ?_;unfold QD;obtain⟨d1,_,_⟩:=d;rcases Nat.lt_or_gt_of_ne d1 with h | h
 · exact .inl (Vm.mpr ⟨h,hk⟩)
 · exact .inr (.inl (Vm.mpr ⟨h,hi⟩))
def eI(m:Nat):Nat:=(OA m).length
theorem iS{α:Type}{p q:α->Bool}:∀(xs:List α),(∀x∈xs,p x=true->q x=true)->(xs.filter p).length<=(xs.filter q).length
 | [],_=>by simp
 | x::xs,H=>by
  have ih:=iS xs fun y hy=>H y (by simp[hy])
  have hx:=H x (by simp);by_cases h1:p x=true
  · simp[h1,hx h1];exact ih
  · by_cases h2:q x=true
    · simp[h1,h2];omega
    · simp[h1,h2];exact ih
theorem jS{α:Type}{p q:α->Bool}:∀(xs:List α),(∀x∈xs,p x=true->q x=true)->(∃x∈xs,p x=false/\q x=true)->(xs.filter p).length<(xs.filter q).length
 | [],_,h=>by obtain⟨x,h,_⟩:=h;cases h
 | x::xs,H,h=>by
  have hx:=H x (by simp);have ihl:=iS xs fun y hy=>H y (by simp[hy])
  by_cases h1:p x=true
  · obtain⟨y,hy,g1,g2⟩:=h;rcases mem_cons.mp hy with rfl | hy
    · rw[h1]at g1;cases g1
    · have:=jS xs (fun y hy=>H y (by simp[hy])) ⟨y,hy,g1,g2⟩;simp[h1,hx h1];exact this
  · by_cases h2:q x=true
    · simp[h1,h2];omega
    · obtain⟨y,hy,g1,g2⟩:=h;rcases mem_cons.mp hy with rfl | hy
      · rw[g2]at h2;exact absurd rfl h2
      · have:=jS xs (fun y hy=>H y (by simp[hy])) ⟨y,hy,g1,g2⟩;simp[h1,h2];exact this
theorem sY{a b:Nat}(h:Im a b):eI a<=eI b:=iS _ fun k _ hk=>Nm.mp h k hk
theorem Rt{a b:Nat}(h:Im a b)(ha:a<8192)(hb:b<8192)(n:a≠b):eI a<eI b:=by
 refine jS _ (fun k _ hk=>Nm.mp h k hk) ?_;apply Classical.byContradiction;intro hno;apply n;refine YG ha hb fun k hk=>?_
 cases q:b.testBit k with
 | true=>
  cases q2:a.testBit k with
  | true=>rfl
  | false=>exact absurd ⟨k,mem_range.mpr hk,q2,q⟩ hno
 | false=>
  cases q2:a.testBit k with
  | false=>rfl
  | true=>rw[Nm.mp h k q2]at q;cases q
theorem IJ{α:Type}{u v:α->Nat}:∀(xs:List α),(∀x∈xs,u x<=v x)->(xs.map u).sum<=(xs.map v).sum
 | [],_=>by simp
 | x::xs,H=>by
  have:=IJ xs fun y hy=>H y (by simp[hy])
  have:=H x (by simp);simp only[zfQ,sum_cons];omega
theorem kU{α:Type}{u v:α->Nat}:∀(xs:List α),(∀x∈xs,u x<=v x)->(∃x∈xs,u x<v x)->(xs.map u).sum<(xs.map v).sum
 | [],_,h=>by obtain⟨x,h,_⟩:=h;cases h
 | x::xs,H,h=>by
  have h0:=IJ xs fun y hy=>H y (by simp[hy])
  have h1:=H x (by simp);simp only[zfQ,sum_cons];obtain⟨y,hy,g⟩:=h;rcases mem_cons.mp hy with rfl | hy
  · omega
  · have:=kU xs (fun y hy=>H y (by simp[hy])) ⟨y,hy,g⟩;omega
def SE(c:Nat)(f:Nat->Nat->Nat):Nat:=((List.range c).map fun i=>((List.range c).map fun j=>eI (f i j)).sum).sum
theorem qR{α:Type}{u:α->Nat}{m:Nat}:∀(xs:List α),(∀x∈xs,u x<=m)->(xs.map u).sum<=xs.length*m
 | [],_=>by simp
 | x::xs,H=>by
  have:=qR xs fun y hy=>H y (by simp[hy])
  have:=H x (by simp);simp only[zfQ,sum_cons,zfO,Nat.succ_mul];omega
theorem kY(c:Nat)(f:Nat->Nat->Nat):SE c f<=c*(c*13):=by
 have:=qR (u:=fun i=>((List.range c).map fun j=>eI (f i j)).sum) (m:=c*13) (List.range c) fun i _=>by
  have:=qR (u:=fun j=>eI (f i j)) (m:=13) (List.range c) fun j _=>ZK _
  simpa using this
 simpa[SE]using this
theorem JS{c:Nat}{f:Nat->Nat->Nat}(o:aB c f){i k j:Nat}(hi:i<c)(hj:j<c)(hij:i≠j)(a b:Nat):Im (GC f i k j a b) (f a b):=by
 by_cases h1:a=i/\b=j
 · obtain⟨rfl,rfl⟩:=h1;rw[aH f hij];exact DF _ _
 · by_cases h2:a=j/\b=i
   · obtain⟨rfl,rfl⟩:=h2;rw[IS,o.tn b hi a hj];exact yH (DF _ _)
   · rw[VG f h1 h2];exact Im.refl _
theorem cj{c:Nat}{f:Nat->Nat->Nat}(o:aB c f){i k j:Nat}(hi:i<c)(hj:j<c)(hij:i≠j)(n:Rm f i k j≠f i j):SE c (GC f i k j)<SE c f:=by refine kU _ (fun a _=>IJ _ fun b _=>sY (JS o hi hj hij a b)) ⟨i,mem_range.mpr hi,kU _ (fun b _=>sY (JS o hi hj hij i b)) ⟨j,mem_range.mpr hj,?_⟩⟩;rw[aH f hij];exact Rt (DF _ _) (BY o hi hj) (o.lt i hi j hj) n
inductive Steps(c:Nat)(f:Nat->Nat->Nat):List (Nat×Nat×Nat)->(Nat->Nat->Nat)->Prop where
 | nil:Steps c f [] f
 | snoc {st:List (Nat×Nat×Nat)} {g:Nat->Nat->Nat} {i k j:Nat} (h:Steps c f st g) (hi:i<c) (hk:k<c) (hj:j<c) (d:EG i k j) (ne:mC c g=false) (n:Rm g i k j≠g i j):Steps c f (st++[(i,k,j)]) (GC g i k j)
theorem Steps.ok{c:Nat}{f g:Nat->Nat->Nat}{st:List (Nat×Nat×Nat)}(h:Steps c f st g)(o:aB c f):aB c g:=by
 induction h with
 | nil=>exact o
 | snoc h hi hk hj d ne n ih=>exact oY ih hi hj d.2.2
theorem Ul{c:Nat}{f:Nat->Nat->Nat}:mC c f=true↔∃i<c,∃j<c,f i j=0:=by unfold mC;simp only[any_eq_true,mem_range,beq_iff_eq]
theorem jl{c:Nat}{f:Nat->Nat->Nat}(h:mC c f=false){i j:Nat}(hi:i<c)(hj:j<c):f i j≠0:=fun e=>by have:=Ul.mpr ⟨i,hi,j,hj,e⟩;rw[h]at this;cases this
theorem Ot{a:Nat}(ha:a<8192)(h:a≠0):Al a≠0:=fun e=>h (Yw ha (by decide) (e.trans zan.symm))
theorem Y9{c:Nat}{f:Nat->Nat->Nat}(o:aB c f){i k j:Nat}(hi:i<c)(hj:j<c)(hij:i≠j)(ne:mC c f=false):mC c (GC f i k j)=decide (Rm f i k j=0):=by
 by_cases h:Rm f i k j=0
 · rw[decide_eq_true h];exact Ul.mpr ⟨i,hi,j,hj,by rw[aH f hij];exact h⟩
 · rw[decide_eq_false h];cases q:mC c (GC f i k j)with
   | false=>rfl
   | true=>
    obtain⟨a,ha,b,hb,e⟩:=Ul.mp q;exfalso;by_cases h1:a=i/\b=j
    · obtain⟨rfl,rfl⟩:=h1;rw[aH f hij]at e;exact h e
    · by_cases h2:a=j/\b=i
      · obtain⟨rfl,rfl⟩:=h2;rw[IS]at e;exact Ot (BY o hi hj) h e
      · rw[VG f h1 h2]at e;exact jl ne ha hb e
def XD(t:Nat×Nat×Nat):Dt:=SD t.1 t.2.1 t.2.2
theorem Lq{h:HI}{b c:Nat}{f:Nat->Nat->Nat}(N:Bm h b c f){i k j:Nat}(hi:i<c)(hk:k<c)(hj:j<c):MN [.ref (b+c),SD i k j] h=some (.bl (!decide (Rm f i k j=f i j)),h):=by
 have e1:=HW N hi hk hj;have q:decide (((Rm f i k j:Nat):Int)=((f i j:Nat):Int))=decide (Rm f i k j=f i j):=by
  congr 1
  apply propext;omega
 unfold SD at e1 ⊢;simp only[MN,JR,YB,EA,sA,DA,zfQ,zfR,zfX,zfW,zfO,zfP,if_true,Nat.reduceAdd,Nat.reduceSub,List.replicate,zfM,zfN,uA,oA,yB,UB,EI,zfU,CB,rB,SA,NA,zf3,e1,N.ix hi,N.ix2 hi hj,qK,q,OB]
theorem Jg(o a b:Nat)(h:HI):rH true (.int (o:Nat)) (CA (a,b)) h=some (.bl (!(decide (o=a) || decide (o=b))),h):=by
 have f2:ML (V.int (o:Nat)) [V.int (a:Nat),V.int (b:Nat)]=(decide (o=a) || decide (o=b)):=by
  unfold ML;simp only[any_cons,any_nil,Bool.or_false];show(((a:Nat):Int)==((o:Nat):Int) || ((b:Nat):Int)==((o:Nat):Int))=_;have e1:(((a:Nat):Int)==((o:Nat):Int))=decide (o=a):=by
   by_cases q:o=a
   · subst q;simp
   · have:((a:Nat):Int)≠((o:Nat):Int):=by omega
     simp[q,this]
  have e2:(((b:Nat):Int)==((o:Nat):Int))=decide (o=b):=by
   by_cases q:o=b
   · subst q;simp
   · have:((b:Nat):Int)≠((o:Nat):Int):=by omega
     simp[q,this]
  rw[e1,e2]
 have f1:QE [Dt.int (a:Nat),Dt.int (b:Nat)]=some [V.int (a:Nat),V.int (b:Nat)]:=rfl;simp only[rH,UD,LD,CA,zfV,f1,f2];rfl
noncomputable def BD(a b n:Nat):List (Nat×Nat×Nat):=(List.range n).flatMap fun o=>if o=a\/o=b then []else [(a,b,o),(b,a,o)]
theorem o9(a b n:Nat):(BD a b n).length<=2*n:=by
 induction n with
 | zero=>simp[BD]
 | succ n ih=>
  have:BD a b (n+1)=BD a b n++(if n=a\/n=b then []else [(a,b,n),(b,a,n)]):=by unfold BD;rw[range_succ,flatMap_append];simp
  rw[this,length_append];split<;>simp<;>omega
theorem Xq{a b c:Nat}(hc:c<=1000)(h:HI):NM [CA (a,b),.int (c:Nat)] h=some (.ref h.length,h++[.lst ((gG a b c).map XD)]):=by
 have er:=vG (h:=h++[.lst []]) (show(-(2^62):Int)<=(c:Int) by omega) (show(c:Int)<2^62 by omega);simp only[Int.toNat_natCast]at er;have zcB:∀(o o':Ob),(h++[o]).set h.length o'=h++[o']:=by simp
 obtain⟨l',h',e,⟨y,rfl⟩,rfl⟩:=OK (i:=3) (body:=zQ) (fun(k:Nat)=>Dt.int (k:Int)) (fun(n:Nat) l h'=>(∃y,l=[some (CA (a,b)),some (.int (c:Nat)),some (.ref h.length),y])/\h'=h++[.lst ((BD a b n).map XD)]) c (by
  rintro n hn l h1 ⟨⟨y,rfl⟩,rfl⟩;have hl:=o9 a b n;have ep:BD a b (n+1)=BD a b n++(if n=a\/n=b then []else [(a,b,n),(b,a,n)]):=by unfold BD;rw[range_succ,flatMap_append];simp
  refine⟨.nx [some (CA (a,b)),some (.int (c:Nat)),some (.ref h.length),some (.int (n:Nat))] (h++[.lst ((BD a b (n+1)).map XD)]),?_,⟨_,rfl⟩,rfl⟩;have ip:=Jg n a b (h++[.lst ((BD a b n).map XD)]);have ea1:=fun(l:LI) (g:RE) (eg:g l (h++[.lst ((BD a b n).map XD)])=some (XD (a,b,n),h++[.lst ((BD a b n).map XD)]))=>PF (h:=h++[.lst ((BD a b n).map XD)]) (l:=l) (n:=h.length) (ys:=(BD a b n).map XD) (xs:=(BD a b n).map XD) (by simp) eg (by simp) (by simp;omega)
  have ea2:=fun(l:LI) (g:RE) (eg:g l (h++[.lst ((BD a b n).map XD++[XD (a,b,n)])])=some (XD (b,a,n),h++[.lst ((BD a b n).map XD++[XD (a,b,n)])]))=>PF (h:=h++[.lst ((BD a b n).map XD++[XD (a,b,n)])]) (l:=l) (n:=h.length) (ys:=(BD a b n).map XD++[XD (a,b,n)]) (xs:=(BD a b n).map XD++[XD (a,b,n)]) (by simp) eg (by simp) (by simp;omega)
  simp only[zQ,uB,gB,EA,sA,zfS,zfT,zfM,zfN,uA,oA,ip,fB,XA,eE,nF,EC];by_cases q:n=a\/n=b
  · have:(decide (n=a) || decide (n=b))=true:=by simpa using q
    rw[this,ep,if_pos q];simp
  · have:(decide (n=a) || decide (n=b))=false:=by simpa using q
    rw[this,ep,if_neg q];simp only[Bool.not_false,if_true];rw[ea1 _ _ (by simp[CA,XD,SD])];simp only[oA,ZA,zcB,eE,nF,sA,zfM,zfN,uA];rw[ea2 _ _ (by simp[CA,XD,SD])];simp only[oA,zcB];simp) [some (CA (a,b)),some (.int (c:Nat)),some (.ref h.length),none] (h++[.lst []]) ⟨⟨_,rfl⟩,by simp[BD]⟩
 simp only[NM,tQ,YB,XA,pB,bH,NA,zfQ,zfR,zfX,zfW,zfO,zfP,if_true,oA,ZA,Nat.reduceAdd,Nat.reduceSub,List.replicate,zfS,zfT,AE,cP,sA,zfM,zfN,uA,er,QG,tI,Nat.zero_le,e,CB,OB];rfl
structure Rst(h0:HI)(c:Nat)(f:Nat->Nat->Nat)(s w b:Nat)(st:List (Nat×Nat×Nat))(W:List (Nat×Nat))(g:Nat->Nat->Nat)(h:HI):Prop where
 low:∀n,n<h0.length->h[n]?=h0[n]?
 len:h0.length<=h.length
 hs:h[s]?=some (.lst (st.map XD))
 hw:h[w]?=some (.lst (W.map CA))
 net:Bm h b c g
 s0:h0.length<=s
 w0:h0.length<=w
 b0:h0.length<=b
 sw:s≠w
 sb:s<b\/b+c<s
 wb:w<b\/b+c<w
 run:Steps c f st g
 ne:mC c g=false
 sm:st.length+SE c g<=SE c f
 wc:∀p∈W,p.1<c/\p.2<c/\p.1≠p.2
theorem Rst.grow{h0:HI}{c:Nat}{f:Nat->Nat->Nat}{s w b:Nat}{st:List (Nat×Nat×Nat)}{W:List (Nat×Nat)}{g:Nat->Nat->Nat}{h:HI}(R:Rst h0 c f s w b st W g h)(e:HI):Rst h0 c f s w b st W g (h++e):=by
 have l1:=(zfY R.hs).1;have l2:=(zfY R.hw).1;exact { R with
  low:=fun n hn=>by rw[zfZ (by have:=R.len;omega)];exact R.low n hn
  len:=by have:=R.len;rw[length_append];omega
  hs:=by rw[zfZ l1];exact R.hs
  hw:=by rw[zfZ l2];exact R.hw
  net:=R.net.grow e }
def eK(h0:HI)(c:Nat)(f:Nat->Nat->Nat)(d:Dt)(h:HI):Prop:=
 ∃x s st g,d=.tup [x,.ref s]/\h0.length<=s/\h0.length<=h.length/\(∀n,n<h0.length->h[n]?=h0[n]?)/\h[s]?=some (.lst (st.map XD))/\Steps c f st g/\st.length<=SE c f/\
  ((x=.non/\mC c g=true)\/∃b,x=.ref (b+c)/\h0.length<=b/\Bm h b c g/\FF c g/\mC c g=false/\(s<b\/b+c<s))
theorem lg{h0:HI}{c:Nat}(hc:c<=100){f:Nat->Nat->Nat}(of:aB c f){s w b:Nat}{st:List (Nat×Nat×Nat)}{W:List (Nat×Nat)}{g:Nat->Nat->Nat}{h:HI}(R:Rst h0 c f s w b st W g h){x y z:Nat}(hx:x<c)(hy:y<c)(hz:z<c)(d:EG x y z)(lW:W.length<=2000000)(x0 x1 x5:Option Dt) :
 ∃r,fJ [x0,x1,some (.ref s),some (.ref (b+c)),some (.ref w),x5,some (SD x y z)] h=some r/\
  BI (fun l' h'=>∃b' st' W' g',l'=[x0,x1,some (.ref s),some (.ref (b'+c)),some (.ref w),x5,some (SD x y z)]/\Rst h0 c f s w b' st' W' g' h'/\(∀n,n<h.length->n≠s->n≠w->h'[n]?=h[n]?)/\h.length<=h'.length/\
   ((Rm g x y z=g x z/\b'=b/\st'=st/\W'=W/\g'=g/\h'=h)\/(W'=W++[(x,z)]/\g'=GC g x y z/\SE c g'<SE c g))) (eK h0 c f) r:=by
 have og:=R.run.ok of;have tl:=kY c f;have hcc:c*(c*13)<=100*(100*13):=Nat.mul_le_mul hc (Nat.mul_le_mul_right 13 hc);have en:=Lq R.net hx hy hz;by_cases q:Rm g x y z=g x z
 · refine⟨.nx [x0,x1,some (.ref s),some (.ref (b+c)),some (.ref w),x5,some (SD x y z)] h,?_,b,st,W,g,rfl,R,fun _ _ _ _=>rfl,zf1 _,.inl ⟨q,rfl,rfl,rfl,rfl,rfl⟩⟩;simp only[fJ,uB,gB,rB,SA,NA,sA,zfM,zfN,uA,oA,zf3,en,fB,q,decide_true,Bool.not_true,zf4,if_false,EC]
 · have em:=Kq R.net (show c<=1000 by omega) hx hy hz;obtain⟨h1,hh1⟩:∃h1,h1=h++xD h.length c (GC g x y z):=⟨_,rfl⟩
   rw[show kB g x (Rm g x y z) z=GC g x y z from rfl,<- hh1]at em;have len1:h1.length=h.length+(c+1):=by rw[hh1,length_append,kW]
   have M1:Bm h1 h.length c (GC g x y z):=hh1 ▸ UG h c _;have ls:=(zfY R.hs).1;have lw:=(zfY R.hw).1;have hs1:h1[s]?=some (.lst (st.map XD)):=by rw[hh1,zfZ ls];exact R.hs
   have hw1:h1[w]?=some (.lst (W.map CA)):=by rw[hh1,zfZ lw];exact R.hw
   have sm:=R.sm;have ts:=cj og hx hz d.2.2 q;obtain⟨h2,hh2⟩:∃h2,h2=h1.set s (.lst (st.map XD++[SD x y z])):=⟨_,rfl⟩
   have ea:=PF (h:=h1) (l:=[x0,x1,some (.ref s),some (.ref (h.length+c)),some (.ref w),x5,some (SD x y z)]) (g:=eV 6) (n:=s) (ys:=st.map XD) (xs:=st.map XD) (d:=SD x y z) (h':=h1) hs1 (by simp) hs1 (by simp;omega);rw[<- hh2]at ea;have M2:Bm h2 h.length c (GC g x y z):=hh2 ▸ M1.other (.inl ls) _;have hs2:h2[s]?=some (.lst ((st++[(x,y,z)]).map XD)):=by rw[hh2,getElem?_set_self (by omega)];simp[XD]
   have hw2:h2[w]?=some (.lst (W.map CA)):=by rw[hh2,getElem?_set_ne R.sw];exact hw1
   have zcA:=R.run.snoc hx hy hz d R.ne q;have zcq:∀n,n<h0.length->h2[n]?=h0[n]?:=fun n hn=>by have:=R.len;have:=R.s0;rw[hh2,getElem?_set_ne (by omega),hh1,zfZ (by omega)];exact R.low n hn
   have NC:h2.length=h.length+(c+1):=by rw[hh2,length_set];exact len1
   have ix1:=M2.ix hx;have ix2:=M2.ix2 hx hz;rw[aH g d.2.2]at ix2;have se:=Y9 (k:=y) og hx hz d.2.2 R.ne;have zi:(decide (((Rm g x y z:Nat):Int)=0))=decide (Rm g x y z=0):=by
    congr 1
    apply propext;omega
   by_cases q0:Rm g x y z=0
   · refine⟨.rt (.tup [.non,.ref s]) h2,?_,.non,s,st++[(x,y,z)],GC g x y z,rfl,R.s0,by have:=R.len;omega,zcq,hs2,zcA,by simp;omega,.inl ⟨rfl,by rw[se];simp[q0]⟩⟩;simp only[fJ,uB,gB,rB,SA,NA,sA,zfM,zfN,uA,oA,zf3,en,fB,q,decide_false,Bool.not_false,if_true,XA,pB,em,zfS,zfT,ZA,eE,nF,ea];simp only[SD,uB,gB,EA,sA,DA,zfM,zfN,uA,oA,yB,UB,EI,zfU,ix1,ix2,AV,zi,q0,decide_true,fB,if_true,CB,ND,SA,NA,BE];simp
   · have ea2:=PF (h:=h2) (l:=[x0,x1,some (.ref s),some (.ref (h.length+c)),some (.ref w),x5,some (SD x y z)]) (g:=bB (cA (e2 BA (eV 6) (eC (.int 0))) (cA (e2 BA (eV 6) (eC (.int 2))) kA))) (n:=w) (ys:=W.map CA) (xs:=W.map CA) (d:=CA (x,z)) (h':=h2) hw2 (by simp[SD,CA]) hw2 (by simp;omega);have pH:∀o,(h2.set w o).length=h.length+(c+1):=fun o=>by rw[length_set];exact NC
     have hlw:w<h2.length:=(zfY hw2).1;have hw0:=R.w0;have hl0:=R.len;refine⟨.nx [x0,x1,some (.ref s),some (.ref (h.length+c)),some (.ref w),x5,some (SD x y z)] (h2.set w (.lst (W.map CA++[CA (x,z)]))),?_,h.length,st++[(x,y,z)],W++[(x,z)],GC g x y z,rfl,?_,?_,by rw[pH];omega,.inr ⟨rfl,rfl,ts⟩⟩
     · simp only[fJ,uB,gB,rB,SA,NA,sA,zfM,zfN,uA,oA,zf3,en,fB,q,decide_false,Bool.not_false,if_true,XA,pB,em,zfS,zfT,ZA,eE,nF,ea];have tst:Dl (e2 oK (e2 BA (e2 BA (eV 3) (e2 BA (eV 6) (eC (.int 0)))) (e2 BA (eV 6) (eC (.int 2)))) (eC (.int 0))) [x0,x1,some (.ref s),some (.ref (h.length+c)),some (.ref w),x5,some (SD x y z)] h2=some (false,h2):=by simp only[SD,gB,EA,sA,DA,zfM,zfN,uA,oA,yB,UB,EI,zfU,ix1,ix2,AV,zi,q0,decide_false,fB]
       simp only[gB]at tst;simp only[tst,oA,zf4,if_false,EC,ZA,eE,nF,sA,zfM,zfN,uA,ea2]
     · exact {
        low:=fun n hn=>by rw[getElem?_set_ne (by omega)];exact zcq n hn
        len:=by rw[pH];omega
        hs:=by rw[getElem?_set_ne (Ne.symm R.sw)];exact hs2
        hw:=by rw[getElem?_set_self hlw];simp
        net:=M2.other (.inl lw) _
        s0:=R.s0
        w0:=R.w0
        b0:=hl0
        sw:=R.sw
        sb:=.inl ls
        wb:=.inl lw
        run:=zcA
        ne:=by rw[se];simp[q0]
        sm:=by simp;omega
        wc:=fun p hp=>by
         rcases mem_append.mp hp with hp | hp
         · exact R.wc p hp
         · rw[mem_singleton.mp hp];exact⟨hx,hz,d.2.2⟩ }
     · intro n hn h1' h2';rw[getElem?_set_ne (Ne.symm h2'),hh2,getElem?_set_ne (Ne.symm h1'),hh1,zfZ hn]
theorem Sx(W:List (Nat×Nat)):RC (W.map CA)=true:=by
 induction W with
 | nil=>rfl
 | cons p W ih=>simp only[zfQ,RC,CA,GB,ih,Bool.and_self]
theorem Uz(W:List (Nat×Nat)):sE (W.map CA)<=2:=by
 induction W with
 | nil=>simp[sE]
 | cons p W ih=>simp only[zfQ,sE,jH,CA];omega
theorem dz{h:HI}{w:Nat}{W:List (Nat×Nat)}(e:h[w]?=some (.lst (W.map CA)))(k:Nat):PB h (k+3) (.ref w)=some (.lst (W.map CA)):=by
 have:ID (PB h (k+2)) (W.map CA)=some (W.map CA):=SW _ _ _ fun x _=>by unfold CA;simp[PB,ID]
 rw[PB];simp only[e,this,zfU]
theorem Nf{h:HI}{w:Nat}{W:List (Nat×Nat)}(e:h[w]?=some (.lst (W.map CA))):aI (.ref w) (.lst []) h=some (.bl (!W.isEmpty),h):=by
 have r2:PB h 8 (.lst [])=some (.lst []):=by simp[PB,ID]
 have d:=Uz W;have ok:YF (W.map CA) []=true:=by unfold YF;rw[Sx];simp[RC];omega
 rw[I0 (dz e 5) r2 ok];cases W with
 | nil=>rfl
 | cons p W=>rfl
theorem Vy{h0:HI}{c:Nat}(hc:c<=100){f:Nat->Nat->Nat}(of:aB c f){bn:Nat}{f0:Nat->Nat->Nat}(N0:Bm h0 bn c f0){s w b:Nat}{st:List (Nat×Nat×Nat)}{W:List (Nat×Nat)}{g:Nat->Nat->Nat}{h:HI}{u v:Nat}(R:Rst h0 c f s w b st ((u,v)::W) g h)
 (wt:CD c g ((u,v)::W) []) (x1 x5 x6:Option Dt) (lM:2*SE c g+(W.length+1)<=1000000) :
 ∃r,xM [some (.ref (bn+c)),x1,some (.ref s),some (.ref (b+c)),some (.ref w),x5,x6] h=some r/\
  BI (fun l' h'=>∃b' st' W' g' x5 x6,l'=[some (.ref (bn+c)),x1,some (.ref s),some (.ref (b'+c)),some (.ref w),x5,x6]/\Rst h0 c f s w b' st' W' g' h'/\CD c g' W' []/\2*SE c g'+W'.length<2*SE c g+(W.length+1)) (eK h0 c f) r:=by
 have hu:=R.wc (u,v) (by simp);simp only at hu;have pk:=Fv (fa:=eC (Dt.int 0)) (l:=[some (.ref (bn+c)),x1,some (.ref s),some (.ref (b+c)),some (.ref w),x5,x6]) (show h[w]?=some (.lst (CA (u,v)::W.map CA))from R.hw) rfl;obtain⟨h1,hh1⟩:∃h1,h1=h.set w (.lst (W.map CA)):=⟨_,rfl⟩
 rw[<- hh1]at pk;have lw:=(zfY R.hw).1;have len1:h1.length=h.length:=by rw[hh1,length_set]
 have R1:Rst h0 c f s w b st W g h1:={ R with
  low:=fun n hn=>by rw[hh1,getElem?_set_ne (Nat.ne_of_gt (Nat.lt_of_lt_of_le hn R.w0))];exact R.low n hn
  len:=by rw[len1];exact R.len
  hs:=by rw[hh1,getElem?_set_ne (Ne.symm R.sw)];exact R.hs
  hw:=by rw[hh1,getElem?_set_self lw]
  net:=hh1 ▸ R.net.other R.wb _
  wc:=fun p hp=>R.wc p (by simp[hp]) }
 have N1:iD (.ref (bn+c)) h1=some (.int (c:Nat),h1):=by have:=N0.lt;rw[xL (xs:=MF bn c) (by rw[R1.low _ this];exact N0.top),fO]
 have et:=Xq (a:=u) (b:=v) (Nat.le_trans hc (by decide)) h1;obtain⟨h2,hh2⟩:∃h2,h2=h1++[.lst ((gG u v c).map XD)]:=⟨_,rfl⟩
 rw[<- hh2]at et;have R2:Rst h0 c f s w b st W g h2:=hh2 ▸ R1.grow _;have q2:h2[h1.length]?=some (.lst ((gG u v c).map XD)):=by rw[hh2];simp
 have sk:=OF q2;have ls:=(zfY R1.hs).1;have lw1:=(zfY R1.hw).1;obtain⟨r,e,er⟩:=GZ (i:=6) (n:=h1.length) (body:=fJ) XD (fun k l' h'=>∃b' st' W' g' x6,l'=[some (.ref (bn+c)),x1,some (.ref s),some (.ref (b'+c)),some (.ref w),some (CA (u,v)),x6]/\Rst h0 c f s w b' st' W' g' h'/\CD c g' W' ((gG u v c).drop k)/\h'[h1.length]?=some (.lst ((gG u v c).map XD))/\h1.length<h'.length/\2*SE c g'+W'.length<=2*SE c g+W.length) (eK h0 c f) (gG u v c) (by
  rintro k l' h' ⟨b',st',W',g',x6,rfl,R',wt',q',lq,mm⟩;exact q') (by
  rintro k t ht l' h' ⟨b',st',W',g',x6,rfl,R',wt',q',lq,mm⟩;have hk:=(zfY ht).1;have dk:(gG u v c).drop k=t::(gG u v c).drop (k+1):=by rw[drop_eq_getElem_cons hk,(zfY ht).2]
  obtain⟨o,ho,hou,hov,hto⟩:=Cp.mp (mem_of_getElem? ht);obtain⟨x,y,z⟩:=t;have dd:x<c/\y<c/\z<c/\EG x y z:=by
   rcases hto with hto | hto<;>(simp only[Prod.mk.injEq]at hto;obtain⟨rfl,rfl,rfl⟩:=hto)
   · exact⟨hu.1,hu.2.1,ho,hu.2.2,Ne.symm hov,Ne.symm hou⟩
   · exact⟨hu.2.1,hu.1,ho,Ne.symm hu.2.2,Ne.symm hou,Ne.symm hov⟩
  obtain⟨hx,hy,hz,dist⟩:=dd;rw[dk]at wt';have og:=R'.run.ok of;obtain⟨r,e,er⟩:=lg hc of R' hx hy hz dist (by omega) (some (.ref (bn+c))) x1 (some (CA (u,v)));refine⟨r,e,?_⟩;cases r with
  | nx l2 h2=>
   obtain⟨b2,st2,W2,g2,rfl,R2',kp,ll,q⟩:=er;refine⟨b2,st2,W2,g2,_,rfl,R2',?_,by rw[kp _ lq (Nat.ne_of_gt ls) (Nat.ne_of_gt lw1)];exact q',Nat.lt_of_lt_of_le lq ll,?_⟩
   · rcases q with⟨n,rfl,rfl,rfl,rfl,rfl⟩ | ⟨rfl,rfl,tt⟩
     · exact kj og hx hy hz wt' n
     · exact mj og hx hy hz dist wt'
   · rcases q with⟨n,rfl,rfl,rfl,rfl,rfl⟩ | ⟨rfl,rfl,tt⟩
     · exact mm
     · simp only[length_append,zfO,zfP];omega
  | rt d h2=>exact er
  | bk l2 h2=>exact er.elim
  | ct l2 h2=>exact er.elim) [some (.ref (bn+c)),x1,some (.ref s),some (.ref (b+c)),some (.ref w),some (CA (u,v)),x6] h2 ⟨b,st,W,g,x6,rfl,R2,yx wt,q2,by rw[hh2];simp,zf1 _⟩
 refine⟨r,?_,?_⟩
 · simp only[xM,XA,pB,Vh,sA,zfM,zfN,uA,oA,pk,ZA,zfS,zfT,AE,gE,rB,SA,NA,sD,N1,zf3,et,sk];exact e
 · cases r with
   | nx l' h'=>obtain⟨b',st',W',g',x6,rfl,R',wt',q',lq,mm⟩:=er;rw[drop_length]at wt';exact⟨b',st',W',g',_,_,rfl,R',wt',by omega⟩
   | rt d h2=>exact er
   | bk l2 h2=>exact er.elim
   | ct l2 h2=>exact er.elim
theorem CV{h:HI}{c:Nat}(hc:c<=100){f:Nat->Nat->Nat}(of:aB c f){bn:Nat}{pd:Dt}(N:Bm h bn c f){P:List (Nat×Nat)}(hp:∀e:HI,LD (h++e) pd=some (P.map CA))(pc:∀p∈P,p.1<c/\p.2<c/\p.1≠p.2)(wt:CD c f P [])(lP:P.length<=100000) :
 ∃d h',BK [.ref (bn+c),pd] h=some (d,h')/\eK h c f d h':=by
 have tl:=kY c f;have hcc:c*(c*13)<=100*(100*13):=Nat.mul_le_mul hc (Nat.mul_le_mul_right 13 hc);have lN:=N.lt;have N1:=N.grow [.lst []];have em:=K9 N1 (show c<=1000 by omega);generalize hX:BK [.ref (bn+c),pd] h=X;simp only[BK,rQ,YB,XA,pB,bH,NA,zfQ,zfR,zfX,zfW,zfO,zfP,if_true,oA,ZA,Nat.reduceAdd,Nat.reduceSub,List.replicate,zfS,zfT,tI,Nat.zero_le,uB,gB,rB,SA,sA,zfM,zfN,uA,zf3]at hX;by_cases ne:mC c f=true
 · refine⟨.tup [.non,.ref h.length],h++[.lst []],?_,.non,h.length,[],f,rfl,zf1 _,by simp,fun n hn=>by rw[zfZ hn],by simp,.nil,by simp,.inl ⟨rfl,ne⟩⟩;rw[ne]at em;simp only[em,oA,fB,if_true,CB,ND,SA,NA,DA,sA,zfS,zfT,zfM,zfN,uA,BE]at hX;rw[<- hX];simp
 · have ne':mC c f=false:=by simpa using ne
   rw[ne']at em;obtain⟨h1,hh1⟩:∃h1:HI,h1=h++[.lst []]:=⟨_,rfl⟩
   rw[<- hh1]at em N1;have len1:h1.length=h.length+1:=by rw[hh1];simp
   have cp:=EW (te:=BV) rfl N1 (show c<=1000 by omega) [none] (by simp);have en:(h1++(List.range c).map fun i=>Ob.lst (ZC c (f i)))++[Ob.lst (MF h1.length c)]=h1++xD h1.length c f:=by rw[append_assoc];rfl
   have el:(h1++(List.range c).map fun i=>Ob.lst (ZC c (f i))).length=h1.length+c:=by simp
   obtain⟨h2,hh2⟩:∃h2:HI,h2=h1++xD h1.length c f:=⟨_,rfl⟩
   have NC:h2.length=h1.length+(c+1):=by rw[hh2,length_append,kW]
   have l1:h.length<h1.length:=by rw[len1];exact Nat.lt_succ_self _
   have l2:h1.length+c<h2.length:=by rw[NC];exact Nat.lt_succ_self _
   have l3:=Nat.lt_trans l1 (Nat.lt_of_le_of_lt (Nat.le_add_right _ c) l2);have C2:Bm h2 h1.length c f:=hh2 ▸ UG h1 c f;have hp2:LD h2 pd=some (P.map CA):=by rw[hh2,hh1,append_assoc];exact hp _
   have fl:eF pd h2=some (.ref h2.length,h2++[.lst (P.map CA)]):=by simp only[eF,hp2,zfU]
   obtain⟨h3,hh3⟩:∃h3:HI,h3=h2++[.lst (P.map CA)]:=⟨_,rfl⟩
   rw[<- hh3]at fl;have R:Rst h c f h.length h2.length h1.length [] P f h3:={
    low:=fun n hn=>by rw[hh3,zfZ (Nat.lt_trans hn l3),hh2,zfZ (Nat.lt_trans hn l1),hh1,zfZ hn]
    len:=by rw[hh3,length_append];exact Nat.le_trans (Nat.le_of_lt l3) (Nat.le_add_right _ _)
    hs:=by rw[hh3,zfZ l3,hh2,zfZ l1,hh1];simp
    hw:=by rw[hh3];simp
    net:=hh3 ▸ C2.grow _
    s0:=zf1 _
    w0:=Nat.le_of_lt l3
    b0:=Nat.le_of_lt l1
    sw:=Nat.ne_of_lt l3
    sb:=.inl l1
    wb:=.inr l2
    run:=.nil
    ne:=ne'
    sm:=by simp
    wc:=pc }
   obtain⟨r,e,er⟩:=nX (t:=vM) (body:=xM) (fun m l' h'=>∃b' st' W' g' x5 x6,l'=[some (.ref (bn+c)),some pd,some (.ref h.length),some (.ref (b'+c)),some (.ref h2.length),x5,x6]/\Rst h c f h.length h2.length b' st' W' g' h'/\CD c g' W' []/\m=2*SE c g'+W'.length/\m<=1000000)
    (fun l' h'=>∃b' st' g' x5 x6,l'=[some (.ref (bn+c)),some pd,some (.ref h.length),some (.ref (b'+c)),some (.ref h2.length),x5,x6]/\Rst h c f h.length h2.length b' st' [] g' h'/\FF c g') (eK h c f) (by
    rintro m l' h' ⟨b',st',W',g',x5,x6,rfl,R',wt',rfl,lm⟩;have nn:=Nf R'.hw;cases W' with
    | nil=>
     refine⟨false,h',?_,?_⟩
     · simp only[vM,gB,EA,sA,CL,NA,zfM,zfN,uA,oA,zfP,tI,Nat.zero_le,if_true,nn,fB];rfl
     · rw[if_neg zf0];exact⟨b',st',g',x5,x6,rfl,R',p9 wt'⟩
    | cons p W'=>
     obtain⟨u,v⟩:=p;refine⟨true,h',?_,?_⟩
     · simp only[vM,gB,EA,sA,CL,NA,zfM,zfN,uA,oA,zfP,tI,Nat.zero_le,if_true,nn,fB];rfl
     · rw[if_pos rfl];obtain⟨r,e,er⟩:=Vy hc of N R' wt' (some pd) x5 x6 lm;refine⟨r,e,?_⟩;cases r with
       | nx l2 h2=>obtain⟨b2,st2,W2,g2,y5,y6,rfl,R2,wt2,mm⟩:=er;exact⟨_,mm,b2,st2,W2,g2,y5,y6,rfl,R2,wt2,rfl,by simp only[zfO]at lm;omega⟩
       | rt d h2=>exact er
       | bk l2 h2=>exact er.elim
       | ct l2 h2=>exact er.elim) 1000000 (2*SE c f+P.length) [some (.ref (bn+c)),some pd,some (.ref h.length),some (.ref (h1.length+c)),some (.ref h2.length),none,none] h3 ⟨h1.length,[],P,f,none,none,rfl,R,wt,rfl,by omega⟩ (by omega)
   rw[<- hh1]at hX;simp only[em,oA,fB,zf4,if_false,EC,ZA,XA,pB,BS,gE,sA,zfM,zfN,uA,N1.seq,QF,TF,cp,en,el,zfS,zfT,sD]at hX;rw[<- hh2]at hX;simp only[fl,oA,ZA,XA,Wh,zfS,zfT,e]at hX;subst hX;cases r with
   | nx l' h'=>obtain⟨b',st',g',x5,x6,rfl,R',cl⟩:=er;refine⟨.tup [.ref (b'+c),.ref h.length],h',?_,.ref (b'+c),h.length,st',g',rfl,R'.s0,R'.len,R'.low,R'.hs,R'.run,by have:=R'.sm;omega,.inr ⟨b',rfl,R'.b0,R'.net,cl,R'.ne,R'.sb⟩⟩;simp
   | rt d h'=>exact⟨d,h',by simp,er⟩
   | bk l2 h2=>exact er.elim
   | ct l2 h2=>exact er.elim
def jE(c:Nat)(m f:Nat->Nat->Nat):Prop:=∀i<c,∀j<c,Im (m i j) (f i j)
theorem Im.antisymm{a b:Nat}(h1:Im a b)(h2:Im b a):a=b:=by unfold Im at h1 h2;rw[Nat.and_comm]at h2;exact h1.symm.trans h2
theorem Steps.sub{c:Nat}{f g:Nat->Nat->Nat}{st:List (Nat×Nat×Nat)}(h:Steps c f st g)(o:aB c f):jE c g f:=by
 induction h with
 | nil=>exact fun i _ j _=>Im.refl _
 | snoc h hi hk hj d ne n ih=>exact fun a ha b hb=>(JS (h.ok o) hi hj d.2.2 a b).trans (ih a ha b hb)
theorem Steps.keeps{c:Nat}{f g m:Nat->Nat->Nat}{st:List (Nat×Nat×Nat)}(h:Steps c f st g)(om:aB c m)(cm:FF c m)(s:jE c m f):jE c m g:=by
 induction h with
 | nil=>exact s
 | @snoc st g i k j h hi hk hj d ne n ih=>
  have l:Im (m i j) (Rm g i k j):=by have:=cm i hi k hk j hj d;unfold Rm at this ⊢;exact jL (ih i hi j hj) ((show Im (m i j) (gH (m i k) (m k j))from this).trans (XN (ih i hi k hk) (ih k hk j hj)))
  intro a ha b hb;by_cases h1:a=i/\b=j
  · obtain⟨rfl,rfl⟩:=h1;rw[aH g d.2.2];exact l
  · by_cases h2:a=j/\b=i
    · obtain⟨rfl,rfl⟩:=h2;rw[IS,om.tn b hi a hj];exact yH l
    · rw[VG g h1 h2];exact ih a ha b hb
theorem Steps.diag{c:Nat}{f g:Nat->Nat->Nat}{st:List (Nat×Nat×Nat)}(h:Steps c f st g)(d0:∀i<c,f i i=64):∀i<c,g i i=64:=by
 induction h with
 | nil=>exact d0
 | snoc h hi hk hj d ne n ih=>intro a ha;rw[VG _ (fun q=>d.2.2 (q.1.symm.trans q.2)) (fun q=>d.2.2 (q.2.symm.trans q.1))];exact ih a ha
structure zaN(c:Nat)(p q:Nat->Nat):Prop where
 pl:∀i<c,p i<c
 ql:∀i<c,q i<c
 qp:∀i<c,q (p i)=i
 pq:∀i<c,p (q i)=i
theorem zaN.symm{c:Nat}{p q:Nat->Nat}(P:zaN c p q):zaN c q p:=⟨P.ql,P.pl,P.pq,P.qp⟩
noncomputable def Up(h h':HI):Prop:=h.length<=h'.length/\∀n,n<h.length->h'[n]?=h[n]?
theorem Up.refl(h:HI):Up h h:=⟨zf1 _,fun _ _=>rfl⟩
theorem Up.trans{h h1 h2:HI}(a:Up h h1)(b:Up h1 h2):Up h h2:=⟨Nat.le_trans a.1 b.1,fun n hn=>by rw[b.2 n (by have:=a.1;omega),a.2 n hn]⟩
theorem Up.app(h e:HI):Up h (h++e):=⟨by simp,fun n hn=>zfZ hn⟩
theorem Up.net{h h':HI}(u:Up h h'){b c:Nat}{f:Nat->Nat->Nat}(N:Bm h b c f):Bm h' b c f:=by have:=N.lt;exact⟨fun i hi=>by rw[u.2 _ (by omega)];exact N.row i hi,by rw[u.2 _ this];exact N.top⟩
theorem Up.get{h h':HI}(u:Up h h'){n:Nat}{o:Ob}(e:h[n]?=some o):h'[n]?=some o:=by rw[u.2 n (zfY e).1];exact e
noncomputable def JG(p q:Nat)(a mx mn:Int):List Bd:=(if mx<=a then [(p,q,if mx<a then -1 else 0)]else [])++(if a<=mn then [(q,p,if a<mn then -1 else 0)]else [])
theorem HV(p q:Nat)(a:Int){seen:List Int}(hs:seen ≠ [])(h:HI):fI [.int (p:Nat),.int (q:Nat),.int a,.lst (seen.map Dt.int)] h=some (.ref h.length,h++[.lst ((JG p q a (YC seen) (hC seen)).map pA)]):=by
 have e1:=fun h=>W6 (h:=h) hs
 have em:=fun h=>KZ (h:=h) hs
 generalize YC seen=mx at e1;generalize hC seen=mn at em;have ap:=fun(l:LI) (xs:List Bd) (g:RE) (d:Bd) (c:xs.length<5) (eg:g l (h++[.lst (xs.map pA)])=some (pA d,h++[.lst (xs.map pA)]))=>PF (h:=h++[.lst (xs.map pA)]) (l:=l) (n:=h.length) (ys:=xs.map pA) (xs:=xs.map pA) (d:=pA d) (by simp) eg (by simp) (by simp;omega)
 have es:∀(xs:List Bd)(d:Bd),(h++[Ob.lst (xs.map pA)]).set h.length (.lst (xs.map pA++[pA d]))=h++[.lst ((xs++[d]).map pA)]:=fun xs d=>by simp
 have first:∀l2:LI,l2=[some (.int (p:Nat)),some (.int (q:Nat)),some (.int a),some (.lst (seen.map Dt.int)),some (.ref h.length)]->GD (Dl (e2 bM (VC mH (eV 3)) (eV 2))) (ED (mE (eV 4) (bB (cA (eV 0) (cA (eV 1) (cA (pM (Dl (e2 mP (VC mH (eV 3)) (eV 2))) (ZE (eC (.int 1))) (eC (.int 0))) (kA))))))) (EB) l2 (h++[.lst []]) =
  some (.nx l2 (h++[.lst ((if mx<=a then [((p,q,if mx<a then -1 else 0):Bd)]else []).map pA)])):=fun l2 hl2=>by
  subst hl2;by_cases c1:mx<=a
  · have g:=ap [some (.int (p:Nat)),some (.int (q:Nat)),some (.int a),some (.lst (seen.map Dt.int)),some (.ref h.length)] [] (bB (cA (eV 0) (cA (eV 1) (cA (pM (Dl (e2 mP (VC mH (eV 3)) (eV 2))) (ZE (eC (.int 1))) (eC (.int 0))) (kA))))) (p,q,if mx<a then -1 else 0) (by simp) (by
     by_cases c2:mx<a<;>simp[e1,c2,pA])
    rw[es]at g;simp only[zfR,zfW]at g;simp only[uB,gB,EA,sD,sA,zfM,zfN,uA,oA,e1,MP,fB,c1,decide_true,if_true,eE,nF,g]
  · simp[e1,c1]
 have second:∀(xs:List Bd),xs.length<5->GD (Dl (e2 OU (VC HG (eV 3)) (eV 2))) (ED (mE (eV 4) (bB (cA (eV 1) (cA (eV 0) (cA (pM (Dl (e2 aM (VC HG (eV 3)) (eV 2))) (ZE (eC (.int 1))) (eC (.int 0))) (kA))))))) (EB) [some (.int (p:Nat)),some (.int (q:Nat)),some (.int a),some (.lst (seen.map Dt.int)),some (.ref h.length)] (h++[.lst (xs.map pA)]) =
  some (.nx [some (.int (p:Nat)),some (.int (q:Nat)),some (.int a),some (.lst (seen.map Dt.int)),some (.ref h.length)] (h++[.lst ((xs++if a<=mn then [((q,p,if a<mn then -1 else 0):Bd)]else []).map pA)])):=fun xs hx=>by
  by_cases c1:a<=mn
  · have g:=ap [some (.int (p:Nat)),some (.int (q:Nat)),some (.int a),some (.lst (seen.map Dt.int)),some (.ref h.length)] xs (bB (cA (eV 1) (cA (eV 0) (cA (pM (Dl (e2 aM (VC HG (eV 3)) (eV 2))) (ZE (eC (.int 1))) (eC (.int 0))) (kA))))) (q,p,if a<mn then -1 else 0) hx (by
     by_cases c2:a<mn<;>simp[em,c2,pA])
    rw[es]at g;simp only[uB,gB,EA,sD,sA,zfM,zfN,uA,oA,em,LP,fB,c1,decide_true,if_true,eE,nF,g]
  · simp[em,c1]
 have f1:=first _ rfl
 have f2:=second (if mx<=a then [((p,q,if mx<a then -1 else 0):Bd)]else []) (by split<;>simp);unfold JG;simp only[fI,qQ,YB,zfO,zfP,if_true,zfQ,zfR,Nat.reduceAdd,Nat.reduceSub,List.replicate,zfX,zfW,XA,pB,bH,NA,oA,Nat.zero_le,tI,zfT,zfS,ZA,f1,f2,CB,sA,zfM,zfN,uA,OB]
def pz(w:Nat):Nat×Nat:=Il.getD w (0,0)
theorem ug{w:Nat}(hw:w<13)(h:HI):aT [.int w] h=some (pr (pz w),h):=by rcases Q3 hw with rfl | rfl | rfl | rfl | rfl | rfl | rfl | rfl | rfl | rfl | rfl | rfl | rfl<;>kernel_rfl
def zs(side w:Nat):Int:=if side=0 then((pz w).1:Int)else((pz w).2:Int)
def VB(side m:Nat):List Int:=(OA m).map (zs side)
theorem yT{side m:Nat}(hm:OA m ≠ []):VB side m ≠ []:=by unfold VB;intro z;exact hm (map_eq_nil_iff.mp z)
def GF(i j side m:Nat):List Bd:=JG (2*i+side) (2*j) 1 (YC (VB side m)) (hC (VB side m))++JG (2*i+side) (2*j+1) 3 (YC (VB side m)) (hC (VB side m))
theorem HY{c:Prop}[Decidable c](x:Bd):(if c then [x]else []).length<=1:=by split<;>simp
theorem qT(p q:Nat)(a mx mn:Int):(JG p q a mx mn).length<=2:=by unfold JG;rw[length_append];exact Nat.add_le_add (HY _) (HY _)
theorem tZ{h:HI}{F G:List Bd}{rest:List Ob}{l:LI}{g:RE}(c:F.length+G.length<=100000)(eg:g l (h++.lst (F.map pA)::rest)=some (.ref (h++.lst (F.map pA)::rest).length,(h++.lst (F.map pA)::rest)++[.lst (G.map pA)])) :
 iK g l (.ref h.length,h++.lst (F.map pA)::rest)=some (.non,h++.lst ((F++G).map pA)::(rest++[.lst (G.map pA)])):=by
 have e0:(h++Ob.lst (F.map pA)::rest)[h.length]?=some (.lst (F.map pA)):=by simp
 have e1:((h++Ob.lst (F.map pA)::rest)++[Ob.lst (G.map pA)])[h.length]?=some (.lst (F.map pA)):=by rw[zfZ (by simp)];exact e0
 have e2:((h++Ob.lst (F.map pA)::rest)++[Ob.lst (G.map pA)])[(h++Ob.lst (F.map pA)::rest).length]?=some (.lst (G.map pA)):=by rw[zf2 (zf1 _),Nat.sub_self];rfl
 rw[JX e0 eg e1 e2 (by simp;omega)];simp
theorem cX(i j m side:Nat)(hs:side=0\/side=1)(hi:i<=1000)(hj:j<=1000)(hm:OA m ≠ [])(h:HI)(F:List Bd)(hF:F.length<=1000)(rest:List Ob)(y5:Option Dt):∃y rest',CK [some (.int (i:Nat)),some (.int (m:Nat)),some (.int (j:Nat)),some (.ref h.length),some (.int (side:Nat)),y5] (h++.lst (F.map pA)::rest) =
 some (.nx [some (.int (i:Nat)),some (.int (m:Nat)),some (.int (j:Nat)),some (.ref h.length),some (.int (side:Nat)),y] (h++.lst ((F++GF i j side m).map pA)::rest')):=by
 have ew:=fun h=>RK m h
 have wl:∀k∈OA m,k<13:=fun k hk=>mem_range.mp (mem_filter.mp hk).1
 have ln:((OA m).map fun(k:Nat)=>Dt.int (k:Int)).length<sizeLine:=by have:(OA m).length<=13:=Nat.le_trans (length_filter_le _ _) (by simp);simp;omega
 have ec:=XG (te:=AK) (tc:=JB) (i:=0) (fun(k:Nat)=>Dt.int (k:Int)) (fun k=>Dt.int (zs side k)) (h++.lst (F.map pA)::rest) (OA m) [none,some (.int (side:Nat))] (by
  intro k hk;have ez:=ug (wl k hk) (h++.lst (F.map pA)::rest);refine⟨by simp,?_⟩;rcases hs with rfl | rfl
  · simp[AK,ez,pr,zs]
  · simp[AK,ez,pr,zs])
 have ek:=RF (l:=[none,some (.int (side:Nat))]) (h:=h++.lst (F.map pA)::rest) (JA 0) JB AK ln;rw[ec]at ek;have sl:(OA m).map (fun k=>Dt.int (zs side k))=(VB side m).map Dt.int:=by unfold VB;rw[map_map];rfl
 rw[sl]at ek;have hp:=fun h=>HV (2*i+side) (2*j) 1 (yT (side:=side) hm) h
 have hq:=fun h=>HV (2*i+side) (2*j+1) 3 (yT (side:=side) hm) h
 have pl:∀p q a mx mn,(JG p q a mx mn).length<=2:=qT
 have u:=fun(i:Int) (h:HI)=>xF (h:=h) (i:=2) (j:=i) (Or.inl ⟨by decide,by decide⟩)
 have ca:(2:Int)*(i:Int)+(side:Int)=((2*i+side:Nat):Int):=by omega
 have cb:(2:Int)*(j:Int)=((2*j:Nat):Int):=by omega
 have cc:((2*j:Nat):Int)+1=((2*j+1:Nat):Int):=by omega
 have x1:=tZ (h:=h) (F:=F) (G:=JG (2*i+side) (2*j) 1 (YC (VB side m)) (hC (VB side m))) (rest:=rest) (l:=[some (.int (i:Nat)),some (.int (m:Nat)),some (.int (j:Nat)),some (.ref h.length),some (.int (side:Nat)),some (.lst ((VB side m).map Dt.int))])
  (g:=FA fI [] (cA (e2 lB (e2 yC (eC (.int 2)) (eV 0)) (eV 4)) (cA (e2 yC (eC (.int 2)) (eV 2)) (cA (eC (.int 1)) (cA (eV 5) (kA)))))) (by have:=pl (2*i+side) (2*j) 1 (YC (VB side m)) (hC (VB side m));omega) (by
   simp only[rB,SA,NA,EA,DA,sA,zfM,zfN,uA,oA,u,uD,ca,cb,zf3];exact hp _)
 have x2:=tZ (h:=h) (F:=F++JG (2*i+side) (2*j) 1 (YC (VB side m)) (hC (VB side m))) (G:=JG (2*i+side) (2*j+1) 3 (YC (VB side m)) (hC (VB side m))) (rest:=rest++[.lst ((JG (2*i+side) (2*j) 1 (YC (VB side m)) (hC (VB side m))).map pA)]) (l:=[some (.int (i:Nat)),some (.int (m:Nat)),some (.int (j:Nat)),some (.ref h.length),some (.int (side:Nat)),some (.lst ((VB side m).map Dt.int))])
  (g:=FA fI [] (cA (e2 lB (e2 yC (eC (.int 2)) (eV 0)) (eV 4)) (cA (e2 lB (e2 yC (eC (.int 2)) (eV 2)) (eC (.int 1))) (cA (eC (.int 3)) (cA (eV 5) (kA)))))) (by have:=pl (2*i+side) (2*j) 1 (YC (VB side m)) (hC (VB side m));have:=pl (2*i+side) (2*j+1) 3 (YC (VB side m)) (hC (VB side m));simp;omega) (by
   simp only[rB,SA,NA,EA,DA,sA,zfM,zfN,uA,oA,u,uD,ca,cb,cc,zf3];exact hq _)
 refine⟨some (.lst ((VB side m).map Dt.int)),rest++[.lst ((JG (2*i+side) (2*j) 1 (YC (VB side m)) (hC (VB side m))).map pA)]++[.lst ((JG (2*i+side) (2*j+1) 3 (YC (VB side m)) (hC (VB side m))).map pA)],?_⟩;unfold GF;rw[<- append_assoc];simp only[CK,XA,pB,ZG,gE,rB,SA,NA,sA,zfM,zfN,uA,oA,zf3,ew,AH,QF,WN,TF,Option.join,zfV,id,ek,zfT,zfS,ZA,eE,aO,x1,x2]
theorem lI(i j side m:Nat):(GF i j side m).length<=4:=by unfold GF;rw[length_append];have h1:=qT (2*i+side) (2*j) 1 (YC (VB side m)) (hC (VB side m));have h2:=qT (2*i+side) (2*j+1) 3 (YC (VB side m)) (hC (VB side m));omega
def DC(i m j:Nat):List Bd:=GF i j 0 m++GF i j 1 m
theorem IV(i m j:Nat)(hi:i<=1000)(hj:j<=1000)(hm:OA m ≠ [])(h:HI):∃rest,jJ [.int (i:Nat),.int (m:Nat),.int (j:Nat)] h=some (.ref h.length,h++.lst ((DC i m j).map pA)::rest):=by
 obtain⟨y1,r1,e1⟩:=cX i j m 0 (.inl rfl) hi hj hm h [] (by simp) [] none;obtain⟨y2,r2,e2⟩:=cX i j m 1 (.inr rfl) hi hj hm h (GF i j 0 m) (by have:=lI i j 0 m;omega) r1 y1;have er:Q1 (.int 2,h++[.lst []])=some (.vals [.int 0,.int 1],h++[.lst []]):=by rw[vG (by decide) (by decide)];rfl
 refine⟨r2,?_⟩;have e1':CK [some (.int (i:Nat)),some (.int (m:Nat)),some (.int (j:Nat)),some (.ref h.length),some (.int 0),none] (h++[.lst []])=some (.nx [some (.int (i:Nat)),some (.int (m:Nat)),some (.int (j:Nat)),some (.ref h.length),some (.int 0),y1] (h++.lst ((GF i j 0 m).map pA)::r1)):=e1;have e2':CK [some (.int (i:Nat)),some (.int (m:Nat)),some (.int (j:Nat)),some (.ref h.length),some (.int 1),y1] (h++.lst ((GF i j 0 m).map pA)::r1)=some (.nx [some (.int (i:Nat)),some (.int (m:Nat)),some (.int (j:Nat)),some (.ref h.length),some (.int 1),y2] (h++.lst ((DC i m j).map pA)::r2)):=e2;simp[jJ,HQ,er,FC,e1',e2']
theorem Z7(i:Nat)(lo hi:Int){g:Nat}(hg:g<=1000)(h:HI):EK [.tup [.int (i:Nat),.int lo,.int hi],.int (g:Nat)] h=some (.ref h.length,h++[.lst (([(2*i,2*i+1,-lo*g),(2*i+1,2*i,hi*g)]:List Bd).map pA)]):=by
 have u:=fun(h:HI)=>xF (h:=h) (i:=2) (j:=(i:Int)) (Or.inl ⟨by decide,by decide⟩)
 have v:=fun(x:Int) (h:HI)=>xF (h:=h) (i:=x) (j:=(g:Int)) (Or.inr ⟨by omega,by omega⟩)
 simp[EK,AQ,u,v,pA]
noncomputable abbrev Ln:=Nat×Int×Int
noncomputable def rC(x:Ln):Dt:=.tup [.int (x.1:Nat),.int x.2.1,.int x.2.2]
noncomputable def HC(g:Nat)(x:Ln):List Bd:=[(2*x.1,2*x.1+1,-x.2.1*g),(2*x.1+1,2*x.1,x.2.2*g)]
noncomputable def qH(c:Nat)(N:Nat->Nat->Nat):List Dt:=(List.range c).map fun i=>.lst ((List.range c).map fun j=>.int ((N i j:Nat):Int))
noncomputable def jD(c:Nat):List Bd:=(List.range c).map fun i=>(2*i,2*i+1,-1)
def eD(c:Nat)(N:Nat->Nat->Nat)(ls:List Ln):List Bd:=jD c++ls.flatMap (HC (2*c+1))++(LA c).flatMap fun p=>DC p.1 (N p.1 p.2) p.2
theorem gT{h:HI}{F G:List Bd}{rest zay:List Ob}{l:LI}{g:RE}(c:F.length+G.length<=100000)(eg:g l (h++.lst (F.map pA)::rest)=some (.ref (h++.lst (F.map pA)::rest).length,(h++.lst (F.map pA)::rest)++.lst (G.map pA)::zay)) :
 iK g l (.ref h.length,h++.lst (F.map pA)::rest)=some (.non,h++.lst ((F++G).map pA)::(rest++.lst (G.map pA)::zay)):=by
 have e0:(h++Ob.lst (F.map pA)::rest)[h.length]?=some (.lst (F.map pA)):=by simp
 have e1:((h++Ob.lst (F.map pA)::rest)++Ob.lst (G.map pA)::zay)[h.length]?=some (.lst (F.map pA)):=by rw[zfZ (by simp)];exact e0
 have e2:((h++Ob.lst (F.map pA)::rest)++Ob.lst (G.map pA)::zay)[(h++Ob.lst (F.map pA)::rest).length]?=some (.lst (G.map pA)):=by rw[zf2 (zf1 _),Nat.sub_self];rfl
 rw[JX e0 eg e1 e2 (by simp;omega)];simp
theorem sJ{α β:Type}(f:α->List β){xs:List α}{k:Nat}{x:α}(hx:xs[k]?=some x):(xs.take (k+1)).flatMap f=(xs.take k).flatMap f++f x:=by rw[take_add_one,hx,flatMap_append];simp
theorem Xy(c:Nat)(h:HI):kL [.int (c:Nat)] h=some (.int ((2*c+1:Nat):Int),h):=by
 have u:=fun(h:HI)=>xF (h:=h) (i:=2) (j:=(c:Int)) (Or.inl ⟨by decide,by decide⟩)
 simp[kL,XS,u]
theorem Ib{c b:Nat}(hc:c<=100){N:Nat->Nat->Nat}(hN:∀i j,OA (N i j) ≠ []){h:HI}{F:List Bd}(hF:F.length<=3000){r0:List Ob}(db:∀G:List Bd,∀r2:List Ob,(h++.lst (G.map pA)::(r0++r2))[b]?=some (.lst ((LA c).map CA)))(x1 y3:Option Dt)(pl:(LA c).length<=10000)(pin:∀p∈LA c,p.1<c/\p.2<c) :
 ∃y rest,uE (JA 4) jI [some (.lst (qH c N)),x1,some (.ref h.length),y3,none] (.rf b,h++.lst (F.map pA)::r0) =
 some (.nx [some (.lst (qH c N)),x1,some (.ref h.length),y3,y] (h++.lst ((F++(LA c).flatMap fun p=>DC p.1 (N p.1 p.2) p.2).map pA)::rest)):=by
 obtain⟨l',h',e,⟨y,rfl⟩,r2,rfl,_⟩:=fP (i:=4) (n:=b) (body:=jI) CA (fun k l h'=>(∃y,l=[some (.lst (qH c N)),x1,some (.ref h.length),y3,y])/\∃r2,h'=h++.lst ((F++((LA c).take k).flatMap fun p=>DC p.1 (N p.1 p.2) p.2).map pA)::(r0++r2)/\(((LA c).take k).flatMap fun p=>DC p.1 (N p.1 p.2) p.2).length<=8*k) (LA c) (by
  rintro k l h' ⟨_,r2,rfl,_⟩;exact db _ r2) (by
  rintro k x hx l h' ⟨⟨y,rfl⟩,r2,rfl,hk⟩;have kl:k<(LA c).length:=(zfY hx).1;obtain⟨p1,p2⟩:=pin x (mem_of_getElem? hx);have l8:(DC x.1 (N x.1 x.2) x.2).length<=8:=by unfold DC;rw[length_append];have:=lI x.1 x.2 0 (N x.1 x.2);have:=lI x.1 x.2 1 (N x.1 x.2);omega
  obtain⟨rs,eb⟩:=IV x.1 (N x.1 x.2) x.2 (by omega) (by omega) (hN _ _) (h++.lst ((F++((LA c).take k).flatMap fun p=>DC p.1 (N p.1 p.2) p.2).map pA)::(r0++r2));have n1:(qH c N)[x.1]?=some (.lst ((List.range c).map fun j=>.int ((N x.1 j:Nat):Int))):=by simp[qH,p1]
  have n2:((List.range c).map fun j=>Dt.int ((N x.1 j:Nat):Int))[x.2]?=some (.int ((N x.1 x.2:Nat):Int)):=by simp[p2]
  have xx:=gT (h:=h) (F:=F++((LA c).take k).flatMap fun p=>DC p.1 (N p.1 p.2) p.2) (G:=DC x.1 (N x.1 x.2) x.2) (rest:=r0++r2) (zay:=rs) (l:=[some (.lst (qH c N)),x1,some (.ref h.length),y3,some (CA x)]) (g:=FA jJ [] (cA (e2 BA (eV 4) (eC (.int 0))) (cA (e2 BA (e2 BA (eV 0) (e2 BA (eV 4) (eC (.int 0)))) (e2 BA (eV 4) (eC (.int 1)))) (cA (e2 BA (eV 4) (eC (.int 1))) (kA))))) (by rw[length_append];omega) (by
   simp only[rB,SA,NA,EA,DA,sA,zfM,zfN,uA,oA,CA,yB,UB,pD,zfU,II,SM.OD,n1,n2,zf3];exact eb)
  refine⟨.nx [some (.lst (qH c N)),x1,some (.ref h.length),y3,some (CA x)] (h++.lst ((F++((LA c).take (k+1)).flatMap fun p=>DC p.1 (N p.1 p.2) p.2).map pA)::(r0++(r2++.lst ((DC x.1 (N x.1 x.2) x.2).map pA)::rs))),?_,⟨_,rfl⟩,_,rfl,?_⟩
  · rw[sJ _ hx,<- append_assoc,<- append_assoc];simp only[jI,eE,aO,sA,zfT,zfS,zfM,zfN,uA,oA,xx]
  · rw[sJ _ hx,length_append];omega) [some (.lst (qH c N)),x1,some (.ref h.length),y3,none] (h++.lst (F.map pA)::r0) ⟨⟨_,rfl⟩,[],by simp,by simp⟩
 rw[take_length]at e;exact⟨y,_,e⟩
theorem AS{c:Nat}{p:Nat×Nat}(h:p∈LA c):p.1<c/\p.2<c:=by unfold LA bD at h;obtain⟨i,hi,h⟩:=mem_flatMap.mp h;obtain⟨k,hk,rfl⟩:=mem_map.mp h;have:=mem_range.mp hi;have:=mem_range.mp hk;exact⟨by omega,by show i+1+k<c;omega⟩
theorem g9{c i:Nat}(hi:i<c):List.replicate i (Dt.int 8191)++[Dt.int 64]++List.replicate (c-i-1) (Dt.int 8191)=ZC c (vB i):=by
 apply ext_getElem?;intro k;by_cases hk:k<c
 · rw[gL hk];rcases Nat.lt_trichotomy k i with h | h | h
   · rw[append_assoc,zfZ (by simpa using h)];have:¬i=k:=by omega
     simp[h,vB,this]
   · subst h;rw[append_assoc,zf2 (by simp)];simp[vB]
   · rw[zf2 (by simp;omega)];have:¬i=k:=by omega
     have q:k-(i+1)<c-i-1:=by omega
     simp[vB,this,getElem?_replicate,q]
 · rw[getElem?_eq_none (by simp;omega),getElem?_eq_none (by rw[bO];omega)]
theorem q9{c i:Nat}(hi:i<c)(hc:c<=1000)(h:HI):mN [.int (c:Nat),.int (i:Nat)] h=some (.ref h.length,h++[.lst (ZC c (vB i))]):=by
 have e1:=cY (h:=h) (Dt.int 8191) (show i<=1000000 by omega);have e2:=cY (h:=h) (Dt.int 8191) (show c-i-1<=1000000 by omega);have ec:(c:Int)-(i:Int)-1=((c-i-1:Nat):Int):=by omega
 have e3:=K5 (h:=h) (xs:=List.replicate i (Dt.int 8191)) (ys:=[Dt.int 64]) (by simp;omega);have e4:WO (.lst (List.replicate i (Dt.int 8191)++[Dt.int 64])) (.lst (List.replicate (c-i-1) (Dt.int 8191))) h=some (.ref h.length,h++[.lst (List.replicate i (Dt.int 8191)++[Dt.int 64]++List.replicate (c-i-1) (Dt.int 8191))]):=by simp only[WO,TB,zfV];rw[if_pos (by simp;omega)]
 rw[g9 hi]at e4;simp[mN,yR,e1,ec,e2,e3,e4]
theorem Ih{c:Nat}(hc:c<=1000)(h:HI):vO [.int (c:Nat)] h=some (.ref (h.length+c),h++xD h.length c vB):=by
 have er:=vG (h:=h) (show(-(2^62):Int)<=(c:Int) by omega) (show(c:Int)<2^62 by omega);simp only[Int.toNat_natCast]at er;have hn:=ER (te:=NS) (i:=0) (fun(k:Nat)=>Dt.int (k:Int)) (fun i=>Ob.lst (ZC c (vB i))) h (List.range c) [none,some (.int (c:Nat))] [] (by
  intro k hk e;have:=q9 (mem_range.mp hk) hc (h++e);simp[NS,this])
 rw[zf3,length_range]at hn;have hs:((List.range c).map fun(k:Nat)=>Dt.int (k:Int)).length<sizeLine:=by simp;omega
 simp[vO,JT,er,RF _ _ _ hs,hn,xD,MF]
noncomputable def UpL(h h':HI):Prop:=h.length<=h'.length/\∀(n:Nat)(xs:List Dt),h[n]?=some (.lst xs)->h'[n]?=some (.lst xs)
theorem UpL.refl(h:HI):UpL h h:=⟨zf1 _,fun _ _ e=>e⟩
theorem UpL.trans{h h1 h2:HI}(a:UpL h h1)(b:UpL h1 h2):UpL h h2:=⟨Nat.le_trans a.1 b.1,fun n xs e=>b.2 n xs (a.2 n xs e)⟩
theorem Up.l{h h':HI}(u:Up h h'):UpL h h':=⟨u.1,fun _ _ e=>u.get e⟩
theorem UpL.app(h e:HI):UpL h (h++e):=(Up.app h e).l
theorem UpL.net{h h':HI}(u:UpL h h'){b c:Nat}{f:Nat->Nat->Nat}(N:Bm h b c f):Bm h' b c f:=⟨fun i hi=>u.2 _ _ (N.row i hi),u.2 _ _ N.top⟩
theorem UpL.set{h:HI}{n:Nat}{x:Str}{fs fs':List (Str×Dt)}(e:h[n]?=some (.ins x fs)):UpL h (h.set n (.ins x fs')):=by
 refine⟨by simp,fun k xs q=>?_⟩;rw[getElem?_set];by_cases z:n=k
 · subst z;rw[e]at q;cases q
 · rw[if_neg z];exact q
noncomputable abbrev fD:=Nat×Nat×Nat
noncomputable def dC (m:fD):Dt:=.tup [.str "ways", .int (m.1:Nat),.int (m.2.1:Nat),.int (m.2.2:Nat)]
noncomputable def pE(c:Nat)(m:fD):Prop:=m.1<c/\m.2.2<c/\m.1≠m.2.2/\m.2.1<8192
def zaK(h:HI)(d:Dt)(g:List fD):Prop:=∃n,d=.ref n/\h[n]?=some (.lst (g.map dC))
theorem zaK.up{h h':HI}{d:Dt}{g:List fD}(q:zaK h d g)(u:UpL h h'):zaK h' d g:=by obtain⟨n,e,q⟩:=q;exact⟨n,e,u.2 _ _ q⟩
noncomputable def MC(c:Nat)(g:Nat->Nat->Nat):Nat->Nat->Nat:=fun i j=>if i<c/\j<c then g i j else 0
theorem ME{c:Nat}(g:Nat->Nat->Nat){i j:Nat}(hi:i<c)(hj:j<c):MC c g i j=g i j:=if_pos ⟨hi,hj⟩
theorem V9{c:Nat}{g g':Nat->Nat->Nat}(e:∀i<c,∀j<c,g i j=g' i j):MC c g=MC c g':=by
 funext i j
 unfold MC;split
 · rename_i q;exact e i q.1 j q.2
 · rfl
theorem Ry{h:HI}{b c:Nat}{g:Nat->Nat->Nat}(N:Bm h b c g):Bm h b c (MC c g):=N.congr fun _ hi _ hj=>(ME g hi hj).symm
theorem uh{c:Nat}{g:Nat->Nat->Nat}(o:aB c g):aB c (MC c g):=⟨fun i hi j hj=>by rw[ME g hi hj];exact o.lt i hi j hj,fun i hi j hj=>by rw[ME g hi hj,ME g hj hi];exact o.tn i hi j hj⟩
theorem Uq{c:Nat}{g:Nat->Nat->Nat}{i k j:Nat}(hi:i<c)(hk:k<c)(hj:j<c):Rm (MC c g) i k j=Rm g i k j:=by unfold Rm;rw[ME g hi hj,ME g hi hk,ME g hk hj]
theorem J9{c:Nat}{g:Nat->Nat->Nat}(o:FF c g):FF c (MC c g):=fun i hi k hk j hj d=>by rw[Uq hi hk hj,ME g hi hj];exact o i hi k hk j hj d
theorem NR{α:Type}{p q:α->Bool}:∀{xs:List α},(∀x∈xs,p x=q x)->xs.any p=xs.any q
 | [],_=>rfl
 | x::xs,h=>by rw[any_cons,any_cons,h x (by simp),NR fun y hy=>h y (by simp[hy])]
theorem U8{c:Nat}{g g':Nat->Nat->Nat}(e:∀i<c,∀j<c,g i j=g' i j):mC c g=mC c g':=by unfold mC;exact NR fun i hi=>NR fun j hj=>by rw[e i (mem_range.mp hi) j (mem_range.mp hj)]
theorem Fq(c:Nat)(g:Nat->Nat->Nat):mC c (MC c g)=mC c g:=U8 fun _ hi _ hj=>ME g hi hj
def zaA(c:Nat)(f:Nat->Nat->Nat)(st:List (Nat×Nat×Nat))(g:Nat->Nat->Nat):Prop:=∃g0,Steps c f st g0/\FF c g0/\mC c g0=false/\g=MC c g0
theorem zaA.ok{c:Nat}{f g:Nat->Nat->Nat}{st:List (Nat×Nat×Nat)}(e:zaA c f st g)(o:aB c f):aB c g/\FF c g/\mC c g=false:=by obtain⟨g0,s,cl,ne,rfl⟩:=e;exact⟨uh (s.ok o),J9 cl,by rw[Fq];exact ne⟩
theorem zaA.unique{c:Nat}{f g g':Nat->Nat->Nat}{st st':List (Nat×Nat×Nat)}(o:aB c f)(e:zaA c f st g)(e':zaA c f st' g'):g=g':=by
 obtain⟨g0,s,cl,ne,rfl⟩:=e;obtain⟨g1,s',cl',ne',rfl⟩:=e';refine V9 fun i hi j hj=>?_
 have a1:=s.keeps (s'.ok o) cl' (s'.sub o) i hi j hj;have a2:=s'.keeps (s.ok o) cl (s.sub o) i hi j hj;exact Im.antisymm a2 a1
theorem zaA.jl{c:Nat}{f g g':Nat->Nat->Nat}{st st':List (Nat×Nat×Nat)}(o:aB c f)(e:zaA c f st g)(s':Steps c f st' g'):mC c g'=false:=by
 obtain⟨g0,s,cl,ne,rfl⟩:=e;have a1:=s'.keeps (s.ok o) cl (s.sub o);cases z:mC c g' with
 | false=>rfl
 | true=>
  obtain⟨i,hi,j,hj,e⟩:=Ul.mp z;have:=a1 i hi j hj;rw[e]at this;have h0:g0 i j=0:=by unfold Im at this;rw[Nat.and_zero]at this;exact this.symm
  exact absurd h0 (G.jl ne hi hj)
noncomputable def notM(m:Nat):Nat:=8191-m
def tF(f:Nat->Nat->Nat)(k:Nat):List fD->Nat->(Nat->Nat->Nat)
 | [],_=>f
 | m::ms,p=>tF (kB f m.1 (if p=k then m.2.1 else notM m.2.1) m.2.2) k ms (p+1)
def ZO(f:Nat->Nat->Nat)(g:List fD)(k:Nat):Nat->Nat->Nat:=tF f k g 0
theorem ZV(k:Nat)(m:fD):∀(ms:List fD)(f:Nat->Nat->Nat)(p:Nat),tF f k (ms++[m]) p=kB (tF f k ms p) m.1 (if p+ms.length=k then m.2.1 else notM m.2.1) m.2.2
 | [],f,p=>by simp[tF]
 | x::ms,f,p=>by show tF (kB f x.1 (if p=k then x.2.1 else notM x.2.1) x.2.2) k (ms++[m]) (p+1)=_;rw[ZV k m ms _ (p+1),zfO,show p+(ms.length+1)=p+1+ms.length by omega];rfl
theorem tW{c k:Nat}:∀(ms:List fD)(_:∀m∈ms,pE c m)(f:Nat->Nat->Nat)(p:Nat),aB c f->aB c (tF f k ms p)
 | [],_,f,p,o=>o
 | m::ms,h,f,p,o=>by obtain⟨a,b,d,_⟩:=h m (by simp);exact tW ms (fun x hx=>h x (by simp[hx])) _ _ (yE o a b d _)
def NE(c:Nat)(g:Nat->Nat->Nat):Option (Nat×Nat):=(LA c).find? fun p=>decide (1<(OA (g p.1 p.2)).length)
theorem Dy{m:Nat}(h:m<8192):Builtin.bitAnd 8191 (Builtin.bitNot ((m:Nat):Int))=((notM m:Nat):Int):=by
 have h1:Builtin.bitNot (Builtin.bitNot ((m:Nat):Int))=(m:Int):=by unfold Builtin.bitNot;omega
 have h2:¬(0<=Builtin.bitNot ((m:Nat):Int)):=by unfold Builtin.bitNot;omega
 have h3:(8191:Nat)&&&m=m:=by rw[Nat.and_comm,show(8191:Nat)=2^13-1 from rfl,Nat.and_two_pow_sub_one_eq_mod];exact Nat.mod_eq_of_lt h
 unfold Builtin.bitAnd;have d1:decide ((8191:Int) >=0)=true:=by decide
 have d2:decide (Builtin.bitNot ((m:Nat):Int) >=0)=false:=decide_eq_false h2;simp only[d1,d2,h1];show(8191:Int)-(((8191:Int).toNat&&&(m:Int).toNat:Nat):Int)=_;rw[show(8191:Int).toNat=8191 from rfl,Int.toNat_natCast,h3];unfold notM;omega
theorem Ww{α:Type}{xs:List α}{k:Nat}(h:k<=xs.length):(xs.take k).length=k:=by rw[length_take];omega
theorem uJ{α:Type}{xs:List α}{k:Nat}{x:α}(h:xs[k]?=some x):xs.take (k+1)=xs.take k++[x]:=by rw[take_add_one,h];rfl
theorem p8{h:HI}{b c:Nat}{f:Nat->Nat->Nat}(N:Bm h b c f)(hc:c<=1000){n:Nat}{g:List fD}(hg:h[n]?=some (.lst (g.map dC)))(ok:∀m∈g,pE c m)(k:Nat) :
 ∃b' h',FM [.ref (b+c),.ref n,.int (k:Nat)] h=some (.ref (b'+c),h')/\Bm h' b' c (ZO f g k)/\Up h h':=by
 obtain⟨l',h',e,b',y3,y4,y5,rfl,N',U⟩:=S0 (i:=3) (j:=4) (n:=n) (body:=RM) dC (fun k' l h'=>∃b' y3 y4 y5,l=[some (.ref (b'+c)),some (.ref n),some (.int (k:Nat)),y3,y4,y5]/\Bm h' b' c (tF f k (g.take k') 0)/\Up h h') g (by
  rintro k' l h' ⟨b',y3,y4,y5,rfl,N',U⟩;exact U.get hg) (by
  rintro k' x hx l h' ⟨b',y3,y4,y5,rfl,N',U⟩;obtain⟨a1,a2,a3,a4⟩:=ok x (mem_of_getElem? hx);have kl:k'<g.length:=(zfY hx).1;have eq:tF f k (g.take (k'+1)) 0=kB (tF f k (g.take k') 0) x.1 (if k'=k then x.2.1 else notM x.2.1) x.2.2:=by rw[uJ hx,ZV,Ww (by omega),Nat.zero_add]
  have en:=oN N' hc a1 a2 (if k'=k then x.2.1 else notM x.2.1);rw[<- eq]at en;have M:=UG h' c (tF f k (g.take (k'+1)) 0);refine⟨.nx [some (.ref (h'.length+c)),some (.ref n),some (.int (k:Nat)),some (.int (k':Nat)),some (dC x),some (.int ((if k'=k then x.2.1 else notM x.2.1:Nat):Int))] (h'++xD h'.length c (tF f k (g.take (k'+1)) 0)),?_,h'.length,_,_,_,rfl,M,U.trans (Up.app _ _)⟩;have m2:Gp [Dt.str "ways",Dt.int (x.1:Nat),Dt.int (x.2.1:Nat),Dt.int (x.2.2:Nat)] 2=some (.int (x.2.1:Nat)):=rfl;have m1:Gp [Dt.str "ways",Dt.int (x.1:Nat),Dt.int (x.2.1:Nat),Dt.int (x.2.2:Nat)] 1=some (.int (x.1:Nat)):=rfl;have m3:Gp [Dt.str "ways",Dt.int (x.1:Nat),Dt.int (x.2.1:Nat),Dt.int (x.2.2:Nat)] 3=some (.int (x.2.2:Nat)):=rfl;by_cases z:k'=k
  · subst z;rw[if_pos rfl]at en ⊢;have dd:decide ((k':Int)=(k':Int))=true:=decide_eq_true rfl;simp only[RM,XA,pB,WZ,gB,EA,sA,DA,zfT,zfS,zfM,zfN,uA,oA,vE,decide_true,fB,if_true,dC,yB,m1,m2,m3,zfU,ZA,rB,SA,NA,zf3,en]
  · rw[if_neg z]at en ⊢;have dd:decide ((k':Int)=(k:Int))=false:=decide_eq_false (by omega);simp only[RM,XA,pB,WZ,gB,EA,sA,DA,zfT,zfS,zfM,zfN,uA,oA,vE,dd,fB,zf4,if_false,dC,yB,m1,m2,m3,zfU,W4,Zv,zL,Dy a4,ZA,rB,SA,NA,zf3,en]) [some (.ref (b+c)),some (.ref n),some (.int (k:Nat)),none,none,none] h ⟨b,_,_,_,rfl,N,Up.refl h⟩
 rw[take_length]at N';refine⟨b',h',?_,N',U⟩;simp only[FM,PQ,YB,zfO,zfP,if_true,zfQ,zfR,Nat.reduceAdd,Nat.reduceSub,List.replicate,zfX,zfW,XA,AE,PY,sA,zfM,zfN,uA,oA,JW hg,e,ZA,CB,OB]
theorem o8{h:HI}{b c:Nat}{g:Nat->Nat->Nat}(N:Bm h b c g)(hc:c<=1000) :
 ∃h',zK [.ref (b+c)] h=some ((match NE c g with | none=>.non | some p=>CA p),h')/\Up h h':=by
 have ep:=rR hc h;have U:Up h (h++[.lst ((LA c).map CA)]):=Up.app _ _;have N1:Bm (h++[.lst ((LA c).map CA)]) b c g:=U.net N;have hl:(h++[Ob.lst ((LA c).map CA)])[h.length]?=some (.lst ((LA c).map CA)):=by simp
 refine⟨h++[.lst ((LA c).map CA)],?_,U⟩;have body:∀p∈LA c,∀y,uM [some (.ref (b+c)),some (CA p)] (h++[.lst ((LA c).map CA)])=some (if decide (1<(OA (g p.1 p.2)).length)=true then .rt (CA p) (h++[.lst ((LA c).map CA)])else .nx [some (.ref (b+c)),some (CA p)] (h++[.lst ((LA c).map CA)]))\/y:=by
  intro p hp y;obtain⟨p1,p2⟩:=AS hp
  left
  have i1:=XF N1.top (p.1:Int);rw[SM.OD,eO p1,zfU]at i1;have i2:=XF (N1.row _ p1) (p.2:Int);rw[SM.OD,gL p2,zfU]at i2;have dd:decide ((1:Int)<(((OA (g p.1 p.2)).map fun(k:Nat)=>Dt.int (k:Int)).length:Nat))=decide (1<(OA (g p.1 p.2)).length):=by
   rw[length_map];by_cases z:1<(OA (g p.1 p.2)).length
   · rw[decide_eq_true z,decide_eq_true (by omega)]
   · rw[decide_eq_false z,decide_eq_false (by omega)]
  simp only[uM,uB,gB,EA,sD,rB,SA,NA,sA,DA,zfM,zfN,uA,oA,CA,yB,UB,pD,zfU,i1,i2,zf3,RK,eU,cI,dd,fB,CB,EC];split<;>rfl
 obtain⟨r,e,er⟩:=GZ (i:=1) (n:=h.length) (body:=uM) CA (fun k l h'=>(∃y,l=[some (.ref (b+c)),y])/\h'=h++[.lst ((LA c).map CA)]/\((LA c).take k).find? (fun p=>decide (1<(OA (g p.1 p.2)).length))=none) (fun d h'=>h'=h++[.lst ((LA c).map CA)]/\∃p,NE c g=some p/\d=CA p) (LA c) (by
  rintro k l h' ⟨_,rfl,_⟩;exact hl) (by
  rintro k x hx l h' ⟨⟨y,rfl⟩,rfl,nf⟩;rcases body x (mem_of_getElem? hx) False with bb | bb
  · refine⟨_,bb,?_⟩;by_cases z:decide (1<(OA (g x.1 x.2)).length)=true
    · rw[if_pos z];refine⟨rfl,x,?_,rfl⟩;unfold NE;rw[<- take_append_drop k (LA c),find?_append,nf,Option.none_or];have:(LA c).drop k=x::(LA c).drop (k+1):=by obtain⟨q1,q2⟩:=zfY hx;rw[<- q2];exact drop_eq_getElem_cons q1
      rw[this,find?_cons,z]
    · rw[if_neg z];refine⟨⟨_,rfl⟩,rfl,?_⟩;rw[uJ hx,find?_append,nf,Option.none_or,find?_cons];simp only[show decide (1<(OA (g x.1 x.2)).length)=false by simpa using z];rfl
  · exact bb.elim) [some (.ref (b+c)),none] (h++[.lst ((LA c).map CA)]) ⟨⟨_,rfl⟩,rfl,rfl⟩
 have fl:=N.len;cases r with
 | nx l' h'=>obtain⟨_,rfl,nf⟩:=er;rw[take_length]at nf;have:NE c g=none:=nf;rw[this];simp only[zK,zM,YB,zfO,zfP,if_true,zfQ,zfR,Nat.reduceAdd,Nat.reduceSub,List.replicate,zfX,zfW,XA,AE,gE,rB,SA,NA,sD,sA,zfM,uA,oA,fl,zf3,ep,OF hl,e,ZA,CB,DA,OB]
 | rt d h'=>obtain⟨rfl,p,e1,rfl⟩:=er;rw[e1];simp only[zK,zM,YB,zfO,zfP,if_true,zfQ,zfR,Nat.reduceAdd,Nat.reduceSub,List.replicate,zfX,zfW,XA,AE,gE,rB,SA,NA,sD,sA,zfM,uA,oA,fl,zf3,ep,OF hl,e,BE,OB]
 | bk l' h'=>exact er.elim
 | ct l' h'=>exact er.elim
inductive Fact where
 | ways (m:fD)
 | long (x:Ln)
 | one (g:List fD)
def Xl(h:HI)(d:Dt):Fact->Prop
 | .ways m=>d=dC m
 | .long x=>d=.tup [.str "long", .int (x.1:Nat),.int x.2.1,.int x.2.2]
 | .one g=>∃gd,d=.tup [.str "one",gd]/\zaK h gd g
theorem Xl.up{h h':HI}{d:Dt}{f:Fact}(q:Xl h d f)(u:UpL h h'):Xl h' d f:=by
 cases f with
 | ways m=>exact q
 | long x=>exact q
 | one g=>obtain⟨gd,e,q⟩:=q;exact⟨gd,e,q.up u⟩
def cD(c:Nat):Fact->Prop
 | .ways m=>pE c m
 | .long x=>x.1<c
 | .one g=>∀m∈g,pE c m
inductive Um(h:HI):List Dt->List Fact->Prop where
 | nil:Um h [] []
 | cons {d:Dt} {f:Fact} {ds:List Dt} {fs:List Fact} (a:Xl h d f) (r:Um h ds fs):Um h (d::ds) (f::fs)
theorem Um.up{h h':HI}{ds:List Dt}{fs:List Fact}(q:Um h ds fs)(u:UpL h h'):Um h' ds fs:=by
 induction q with
 | nil=>exact .nil
 | cons a r ih=>exact .cons (a.up u) ih
theorem Um.len{h:HI}{ds:List Dt}{fs:List Fact}(q:Um h ds fs):ds.length=fs.length:=by
 induction q with
 | nil=>rfl
 | cons a r ih=>simp[ih]
theorem Um.get{h:HI}{ds:List Dt}{fs:List Fact}(q:Um h ds fs):∀{k:Nat}{d:Dt},ds[k]?=some d->∃f,fs[k]?=some f/\Xl h d f:=by
 induction q with
 | nil=>intro k d e;simp at e
 | cons a r ih=>
  intro k d e;cases k with
  | zero=>simp at e;subst e;exact⟨_,by simp,a⟩
  | succ k=>exact(by obtain⟨f,e1,e2⟩:=ih (k:=k) (by simpa using e);exact⟨f,by simpa using e1,e2⟩)
theorem Um.snoc{h:HI}{ds:List Dt}{fs:List Fact}(q:Um h ds fs){d:Dt}{f:Fact}(a:Xl h d f):Um h (ds++[d]) (fs++[f]):=by
 induction q with
 | nil=>exact .cons a .nil
 | cons b r ih=>exact .cons b ih
noncomputable def HP:Fact->Bool
 | .ways _=>true
 | _=>false
noncomputable def WL:Fact->Bool
 | .long _=>true
 | _=>false
noncomputable def YL:Fact->Bool
 | .one _=>true
 | _=>false
theorem Ed:decide ((("long" :Str))=(("ways" :Str)))=false:=by decide +kernel
theorem Ac:decide ((("one" :Str))=(("ways" :Str)))=false:=by decide +kernel
theorem Xc:decide ((("ways" :Str))=(("long" :Str)))=false:=by decide +kernel
theorem yc:decide ((("one" :Str))=(("long" :Str)))=false:=by decide +kernel
theorem Yc:decide ((("ways" :Str))=(("one" :Str)))=false:=by decide +kernel
theorem jc:decide ((("long" :Str))=(("one" :Str)))=false:=by decide +kernel
theorem k7 {h:HI} {d:Dt} {f:Fact} (q:Xl h d f) (l:LI) (k:HI) (i:Nat) (hi:l[i]?=some (some d)):e2 IB (e2 BA (eV i) (eC (.int 0))) (eC (.str "ways")) l k=some (.bl (HP f),k):=by
 cases f with
 | ways m=>rw[show d=dC m from q]at hi;simp only[EA,sA,hi,uA,oA,DA,dC,yB,UB,zfM,zfU,vF,decide_true,HP]
 | long x=>rw[show d=_ from q]at hi;simp only[EA,sA,hi,uA,oA,DA,yB,UB,zfM,zfU,vF,Ed,HP]
 | one g=>obtain⟨gd,rfl,_⟩:=q;simp only[EA,sA,hi,uA,oA,DA,yB,UB,zfM,zfU,vF,Ac,HP]
theorem i7 {h:HI} {d:Dt} {f:Fact} (q:Xl h d f) (l:LI) (k:HI) (i:Nat) (hi:l[i]?=some (some d)):e2 IB (e2 BA (eV i) (eC (.int 0))) (eC (.str "long")) l k=some (.bl (WL f),k):=by
 cases f with
 | ways m=>rw[show d=dC m from q]at hi;simp only[EA,sA,hi,uA,oA,DA,dC,yB,UB,zfM,zfU,vF,Xc,WL]
 | long x=>rw[show d=_ from q]at hi;simp only[EA,sA,hi,uA,oA,DA,yB,UB,zfM,zfU,vF,decide_true,WL]
 | one g=>obtain⟨gd,rfl,_⟩:=q;simp only[EA,sA,hi,uA,oA,DA,yB,UB,zfM,zfU,vF,yc,WL]
theorem j7 {h:HI} {d:Dt} {f:Fact} (q:Xl h d f) (l:LI) (k:HI) (i:Nat) (hi:l[i]?=some (some d)):e2 IB (e2 BA (eV i) (eC (.int 0))) (eC (.str "one")) l k=some (.bl (YL f),k):=by
 cases f with
 | ways m=>rw[show d=dC m from q]at hi;simp only[EA,sA,hi,uA,oA,DA,dC,yB,UB,zfM,zfU,vF,Yc,YL]
 | long x=>rw[show d=_ from q]at hi;simp only[EA,sA,hi,uA,oA,DA,yB,UB,zfM,zfU,vF,jc,YL]
 | one g=>obtain⟨gd,rfl,_⟩:=q;simp only[EA,sA,hi,uA,oA,DA,yB,UB,zfM,zfU,vF,decide_true,YL]
def fC(f:Nat->Nat->Nat):List Fact->(Nat->Nat->Nat)
 | []=>f
 | .ways m::fs=>fC (kB f m.1 m.2.1 m.2.2) fs
 | _::fs=>fC f fs
theorem YM(x:Fact):∀(fs:List Fact)(f:Nat->Nat->Nat),fC f (fs++[x])=fC (fC f fs) [x]
 | [],f=>rfl
 | .ways m::fs,f=>YM x fs _
 | .long m::fs,f=>YM x fs _
 | .one m::fs,f=>YM x fs _
theorem xH{c:Nat}:∀(fs:List Fact)(_:∀x∈fs,cD c x)(f:Nat->Nat->Nat),aB c f->aB c (fC f fs)
 | [],_,f,o=>o
 | .ways m::fs,h,f,o=>by obtain⟨a,b,d,_⟩:=h (.ways m) (by simp);exact xH fs (fun x hx=>h x (by simp[hx])) _ (yE o a b d _)
 | .long m::fs,h,f,o=>xH fs (fun x hx=>h x (by simp[hx])) _ o
 | .one m::fs,h,f,o=>xH fs (fun x hx=>h x (by simp[hx])) _ o
theorem R8{h:HI}{a c:Nat}(hc:c<=1000){ds:List Dt}(ha:h[a]?=some (.lst ds)){fs:List Fact}(F:Um h ds fs)(ok:∀x∈fs,cD c x) :
 ∃b h',JK [.int (c:Nat),.ref a] h=some (.ref (b+c),h')/\Bm h' b c (fC vB fs)/\Up h h':=by
 have ew:=Ih hc h;have U0:Up h (h++xD h.length c vB):=Up.app _ _;have M0:=UG h c vB;have mp:ds=ds.map id:=by simp
 obtain⟨l',h',e,b',y,rfl,N',U⟩:=fP (i:=3) (n:=a) (body:=MK) id (fun k l h'=>∃b' y,l=[some (.int (c:Nat)),some (.ref a),some (.ref (b'+c)),y]/\Bm h' b' c (fC vB (fs.take k))/\Up h h') ds (by
  rintro k l h' ⟨b',y,rfl,N',U⟩;rw[<- mp];exact U.get ha) (by
  rintro k d hd l h' ⟨b',y,rfl,N',U⟩;obtain⟨x,hx,q⟩:=F.get hd;have tw:=k7 q [some (.int (c:Nat)),some (.ref a),some (.ref (b'+c)),some d] h' 3 rfl;have okx:=ok x (mem_of_getElem? hx);have eq:fC vB (fs.take (k+1))=fC (fC vB (fs.take k)) [x]:=by rw[uJ hx,YM]
  have LL:([some (.int (c:Nat)),some (.ref a),some (.ref (b'+c)),y]:LI).set 3 (some (id d))=[some (.int (c:Nat)),some (.ref a),some (.ref (b'+c)),some d]:=rfl;rw[LL];cases x with
  | ways m=>obtain⟨a1,a2,a3,a4⟩:=okx;have qd:d=dC m:=q;have en:=oN N' hc a1 a2 m.2.1;have M:=UG h' c (kB (fC vB (fs.take k)) m.1 m.2.1 m.2.2);refine⟨.nx [some (.int (c:Nat)),some (.ref a),some (.ref (h'.length+c)),some d] (h'++xD h'.length c (kB (fC vB (fs.take k)) m.1 m.2.1 m.2.2)),?_,h'.length,_,rfl,by rw[eq];exact M,U.trans (Up.app _ _)⟩;have m2:Gp [Dt.str "ways",Dt.int (m.1:Nat),Dt.int (m.2.1:Nat),Dt.int (m.2.2:Nat)] 2=some (.int (m.2.1:Nat)):=rfl;have m1:Gp [Dt.str "ways",Dt.int (m.1:Nat),Dt.int (m.2.1:Nat),Dt.int (m.2.2:Nat)] 1=some (.int (m.1:Nat)):=rfl;have m3:Gp [Dt.str "ways",Dt.int (m.1:Nat),Dt.int (m.2.1:Nat),Dt.int (m.2.2:Nat)] 3=some (.int (m.2.2:Nat)):=rfl;unfold MK;rw[uB,gB,tw];rw[qd];simp only[HP,oA,fB,if_true,pB,rB,SA,NA,EA,sA,DA,zfM,zfN,uA,dC,yB,m1,m2,m3,zfU,zf3,en,zfT,zfS]
  | long m=>refine⟨.nx [some (.int (c:Nat)),some (.ref a),some (.ref (b'+c)),some d] h',?_,b',_,rfl,by rw[eq];exact N',U⟩;unfold MK;rw[uB,gB,tw];simp only[HP,oA,fB,zf4,if_false,EC]
  | one m=>
   refine⟨.nx [some (.int (c:Nat)),some (.ref a),some (.ref (b'+c)),some d] h',?_,b',_,rfl,by rw[eq];exact N',U⟩;unfold MK;rw[uB,gB,tw];simp only[HP,oA,fB,zf4,if_false,EC]) [some (.int (c:Nat)),some (.ref a),some (.ref (h.length+c)),none] (h++xD h.length c vB) ⟨h.length,_,rfl,M0,U0⟩
 rw[F.len,take_length]at N';refine⟨b',h',?_,N',U⟩;simp only[JK,dR,YB,zfO,zfP,if_true,zfQ,zfR,Nat.reduceAdd,Nat.reduceSub,List.replicate,zfX,zfW,XA,pB,rB,SA,NA,sA,zfM,zfN,uA,oA,zf3,ew,ZA,zfT,zfS,AE,gE,OF (U0.get ha),e,CB,OB]
theorem DW{te:RE}{tc:RT}{n:Nat}(p:Fact->Bool)(Fd:Dt->Fact->Dt){ds:List Dt}{fs:List Fact}(l:LI)(h:HI)(F:Um h ds fs)(e:h[n]?=some (.lst ds))(hx:ds.length<sizeLine)
 (H:∀d f,Xl h d f->f∈fs->tc (l.set 0 (some d)) h=some (p f,h)/\(p f=true->te (l.set 0 (some d)) h=some (Fd d f,h))) :
 cF (JA 0) tc te l (.rf n,h)=some (((ds.zip fs).filter fun x=>p x.2).map fun x=>Fd x.1 x.2,h):=by
 have go:∀(m k:Nat)(l':LI),(∀d,l'.set 0 d=l.set 0 d)->m=ds.length-k+1->k<=ds.length->∀ys:List Dt,ys.length<=k->ys=((((ds.zip fs).take k).filter fun x=>p x.2).map fun x=>Fd x.1 x.2)->qE (JA 0) tc te (.rf n) m k l' h ys=some (((ds.zip fs).filter fun x=>p x.2).map fun x=>Fd x.1 x.2,h):=by
  intro m
  induction m with
  | zero=>intro k l' _ e;omega
  | succ m ih=>
   intro k l' hl' hm hk ys yl yy;unfold qE;simp only[Src.at,e];by_cases hlt:k<ds.length
   · obtain⟨f,hf,q⟩:=F.get (getElem?_eq_getElem hlt);have hz:(ds.zip fs)[k]?=some (ds[k],f):=by rw[getElem?_zip_eq_some];exact⟨getElem?_eq_getElem hlt,hf⟩
     obtain⟨t1,t2⟩:=H ds[k] f q (mem_of_getElem? hf);rw[getElem?_eq_getElem hlt];simp only[jG,zfV,hl',t1];by_cases z:p f=true
     · rw[if_pos z];simp only[t2 z,zfV];rw[if_pos (by omega)];refine ih (k+1) _ (fun d=>by rw[set_set]) (by omega) (by omega) _ (by simp;omega) ?_;rw[uJ hz,filter_append,map_append,<- yy];simp[z]
     · rw[if_neg z];refine ih (k+1) _ (fun d=>by rw[set_set]) (by omega) (by omega) _ (by omega) ?_;rw[uJ hz,filter_append,map_append,<- yy];simp[z]
   · rw[getElem?_eq_none (by omega)];have lz:(ds.zip fs).length=ds.length:=by rw[length_zip,F.len];omega
     rw[take_of_length_le (by omega)]at yy;rw[yy]
 have hf:Src.fuel (.rf n) h=ds.length-0+1:=by simp only[Src.fuel,e];omega
 unfold cF;simp only[hf];exact go _ 0 l (fun _=>rfl) rfl (Nat.zero_le _) [] (by simp) (by simp)
def KC:List Fact->List Ln
 | []=>[]
 | .long x::fs=>x::KC fs
 | _::fs=>KC fs
def sG:List Fact->List (List fD)
 | []=>[]
 | .one g::fs=>g::sG fs
 | _::fs=>sG fs
def Gd:Fact->Dt
 | .long x=>rC x
 | _=>.non
noncomputable def Cd:Dt->Dt
 | .tup [_,x]=>x
 | _=>.non
theorem M8{h:HI}{a:Nat}{ds:List Dt}(ha:h[a]?=some (.lst ds))(hz:ds.length<sizeLine){fs:List Fact}(F:Um h ds fs):cN [.ref a] h=some (.lst ((KC fs).map rC),h):=by
 have ck:=DW (te:=FV) (tc:=uQ) WL (fun _ f=>Gd f) [none] h F ha hz (by
  intro d f q _;refine⟨?_,fun z=>?_⟩
  · unfold uQ;rw[gB,i7 q _ _ 0 rfl];rfl
  · cases f with
    | long x=>rw[show d=_ from q];rfl
    | ways m=>cases z
    | one g=>cases z)
 have eq:∀(ds:List Dt)(fs:List Fact),Um h ds fs->((ds.zip fs).filter fun x=>WL x.2).map (fun x=>Gd x.2)=(KC fs).map rC:=by
  intro ds fs F
  induction F with
  | nil=>rfl
  | @cons d f ds fs a r ih=>
   rw[zip_cons_cons,filter_cons];cases f with
   | long x=>rw[if_pos (show WL (Fact.long x)=true from rfl),zfQ,ih];rfl
   | ways m=>rw[if_neg (show ¬WL (Fact.ways m)=true from zf0),ih];rfl
   | one g=>rw[if_neg (show ¬WL (Fact.one g)=true from zf0),ih];rfl
 rw[eq _ _ F]at ck;simp only[cN,GQ,YB,zfO,zfP,if_true,zfQ,zfR,Nat.reduceAdd,Nat.reduceSub,List.replicate,zfX,zfW,zf3,CB,ZG,gE,sA,zfM,uA,oA,OF ha,QF,TF,ck,OB]
inductive El(h:HI):List Dt->List (List fD)->Prop where
 | nil:El h [] []
 | cons {d:Dt} {g:List fD} {ds:List Dt} {gs:List (List fD)} (a:zaK h d g) (r:El h ds gs):El h (d::ds) (g::gs)
theorem El.up{h h':HI}{ds:List Dt}{gs:List (List fD)}(q:El h ds gs)(u:UpL h h'):El h' ds gs:=by
 induction q with
 | nil=>exact .nil
 | cons a r ih=>exact .cons (a.up u) ih
theorem S8{h:HI}{a:Nat}{ds:List Dt}(ha:h[a]?=some (.lst ds))(hz:ds.length<sizeLine){fs:List Fact}(F:Um h ds fs):∃Mp,El h Mp (sG fs)/\FK [.ref a] h=some (.lst Mp,h):=by
 have ck:=DW (te:=JV) (tc:=RQ) YL (fun d _=>Cd d) [none] h F ha hz (by
  intro d f q _;refine⟨?_,fun z=>?_⟩
  · unfold RQ;rw[gB,j7 q _ _ 0 rfl];rfl
  · cases f with
    | one g=>obtain⟨gd,rfl,_⟩:=q;rfl
    | ways m=>cases z
    | long x=>cases z)
 refine⟨((ds.zip fs).filter fun x=>YL x.2).map fun x=>Cd x.1,?_,?_⟩
 rotate_left
 · simp only[FK,eR,YB,zfO,zfP,if_true,zfQ,zfR,Nat.reduceAdd,Nat.reduceSub,List.replicate,zfX,zfW,zf3,CB,ZG,gE,sA,zfM,uA,oA,OF ha,QF,TF,ck,OB]
 · clear ck ha hz
   induction F with
   | nil=>exact .nil
   | @cons d f ds fs a r ih=>
    rw[zip_cons_cons,filter_cons];cases f with
    | one g=>obtain⟨gd,rfl,q⟩:=a;rw[if_pos (show YL (Fact.one g)=true from rfl),zfQ];exact .cons q ih
    | ways m=>rw[if_neg (show ¬YL (Fact.ways m)=true from zf0)];exact ih
    | long x=>rw[if_neg (show ¬YL (Fact.long x)=true from zf0)];exact ih
theorem T9{α:Type}{te:RE}{i n:Nat}(D F:α->Dt)(xs:List α)(l:LI)(h:HI)(e:h[n]?=some (.lst (xs.map D)))(hx:xs.length<sizeLine)(H:∀x∈xs,te (l.set i (some (D x))) h=some (F x,h)) :
 cF (JA i) JB te l (.rf n,h)=some (xs.map F,h):=by
 have go:∀(m k:Nat)(l':LI),(∀d,l'.set i d=l.set i d)->m=xs.length-k+1->k<=xs.length->qE (JA i) JB te (.rf n) m k l' h ((xs.take k).map F)=some (xs.map F,h):=by
  intro m
  induction m with
  | zero=>intro k l' _ e;omega
  | succ m ih=>
   intro k l' hl' hm hk;unfold qE;simp only[Src.at,e,getElem?_map];by_cases hlt:k<xs.length
   · rw[getElem?_eq_getElem hlt];have hx':=H xs[k] (getElem_mem hlt);have ln:((xs.take k).map F).length<sizeLine:=by rw[length_map,length_take];omega
     simp only[zfU,jG,zfV,uO,if_true,hl',hx',if_pos ln];have:=ih (k+1) (l.set i (some (D xs[k]))) (fun d=>by rw[set_set]) (by omega) (by omega);rw[take_add_one,getElem?_eq_getElem hlt,map_append]at this;exact this
   · rw[getElem?_eq_none (by omega)];have:k=xs.length:=by omega
     subst this;simp only[Option.map_none,take_length]
 have hf:Src.fuel (.rf n) h=xs.length-0+1:=by simp only[Src.fuel,e,length_map];omega
 unfold cF;have:=go (xs.length-0+1) 0 l (fun _=>rfl) rfl (Nat.zero_le _);simp only[hf];exact this
inductive Yp{α β:Type}(R:α->β->Prop):List α->List β->Prop where
 | nil:Yp R [] []
 | cons {a:α} {b:β} {as:List α} {bs:List β} (h:R a b) (r:Yp R as bs):Yp R (a::as) (b::bs)
theorem Yp.imp{α β:Type}{R S:α->β->Prop}(i:∀a b,R a b->S a b){as:List α}{bs:List β}(h:Yp R as bs):Yp S as bs:=by
 induction h with
 | nil=>exact .nil
 | cons a r ih=>exact .cons (i _ _ a) ih
theorem Yp.zax{α β γ:Type}{R:γ->β->Prop}{f:α->γ}:∀{as:List α}{bs:List β},Yp (fun a b=>R (f a) b) as bs->Yp R (as.map f) bs
 | _,_,.nil=>.nil
 | _,_,.cons h r=>.cons h (Yp.zax r)
theorem BR{α:Type}{te:RE}(D:α->Dt)(P:HI->α->Dt->Prop)(up:∀h h' x d,Up h h'->P h x d->P h' x d):∀(xs:List α)(l:LI)(h:HI),(∀x∈xs,∀h',Up h h'->∃d h2,te (l.set 0 (some (D x))) h'=some (d,h2)/\Up h' h2/\P h2 x d)->
 ∃ds h',rE (JA 0) JB te (xs.map D) l h=some (ds,h')/\Up h h'/\Yp (P h') xs ds
 | [],l,h,_=>⟨[],h,rfl,Up.refl h,.nil⟩
 | x::xs,l,h,H=>by
  obtain⟨d,h1,e1,u1,p1⟩:=H x (by simp) h (Up.refl h);obtain⟨ds,h2,e2,u2,p2⟩:=BR D P up xs (l.set 0 (some (D x))) h1 (fun y hy h' u=>by
   rw[set_set];exact H y (by simp[hy]) h' (u1.trans u))
  refine⟨d::ds,h2,?_,u1.trans u2,.cons (up _ _ _ _ u2 p1) p2⟩;simp only[zfQ,rE,jG,zfV,uO,if_true,e1,e2]
noncomputable def zaD(h:HI)(c:Nat)(f:Nat->Nat->Nat)(d:Dt):Prop:=∃b,d=.ref (b+c)/\Bm h b c f
theorem zaD.up{h h':HI}{c:Nat}{f:Nat->Nat->Nat}{d:Dt}(n:zaD h c f d)(u:UpL h h'):zaD h' c f d:=by obtain⟨b,e,N⟩:=n;exact⟨b,e,u.net N⟩
def ZD(c:Nat)(g:Nat->Nat->Nat):List (List fD)->Option (Option (Nat×Nat)×List (Nat->Nat->Nat)×List (Nat×Nat))
 | grp::_=>some (none,(List.range grp.length).map (ZO g grp),grp.map fun m=>(m.1,m.2.2))
 | []=>match NE c g with
  | none=>none
  | some p=>some (some p,(OA (g p.1 p.2)).map fun w=>kB g p.1 (2^w) p.2,[p])
def lE(tag:Option (Nat×Nat))(Lp:List Dt)(ps:List (Nat×Nat)):Dt:=match tag with
 | none=>.tup [.str "one", .tup [],.lst Lp,.lst (ps.map CA)]
 | some p=>.tup [.str "split",CA p,.lst Lp,.lst (ps.map CA)]
theorem rW:∀g:List fD,RC (g.map dC)=true
 | []=>rfl
 | m::g=>by rw[zfQ];simp only[RC,dC,GB,Bool.true_and];exact rW g
theorem xX:∀g:List fD,sE (g.map dC)<=1
 | []=>Nat.zero_le _
 | m::g=>by rw[zfQ];have:=xX g;have e1:jH (dC m)=1:=rfl;simp only[sE,e1];omega
theorem yX(h:HI):∀g:List fD,ID (PB h 6) (g.map dC)=some (g.map dC)
 | []=>rfl
 | m::g=>by rw[zfQ];have ih:=yX h g;have e1:PB h 6 (dC m)=some (dC m):=rfl;simp only[ID,e1,ih,zfV,zfU]
theorem Sv{h:HI}{ds:List Dt}{gs:List (List fD)}(q:El h ds gs):ID (PB h 7) ds=some (gs.map fun g=>.lst (g.map dC)):=by
 induction q with
 | nil=>rfl
 | @cons d g ds gs a r ih=>
  obtain⟨n,rfl,e⟩:=a;have e1:PB h 7 (.ref n)=some (.lst (g.map dC)):=by show(match h[n]? with | some (.lst xs)=>(ID (PB h 6) xs).map Dt.lst | _=>none)=_;rw[e];simp only[yX,zfU]
  simp only[ID,e1,ih,zfV,zfU,zfQ]
theorem OW:∀gs:List (List fD),RC (gs.map fun g=>.lst (g.map dC))=true
 | []=>rfl
 | g::gs=>by rw[zfQ];simp only[RC,GB,rW,Bool.true_and];exact OW gs
theorem tX:∀gs:List (List fD),sE (gs.map fun g=>.lst (g.map dC))<=2
 | []=>Nat.zero_le _
 | g::gs=>by rw[zfQ];have:=tX gs;have h1:=xX g;simp only[sE,jH];omega
theorem Gg{h:HI}{ds:List Dt}{gs:List (List fD)}(q:El h ds gs):aI (.lst ds) (.lst []) h=some (.bl (!gs.isEmpty),h):=by
 have r1:PB h 8 (.lst ds)=some (.lst (gs.map fun g=>.lst (g.map dC))):=by show(ID (PB h 7) ds).map Dt.lst=_;rw[Sv q];rfl
 have r2:PB h 8 (.lst [])=some (.lst []):=by simp[PB,ID]
 have ok:YF (gs.map fun g=>Dt.lst (g.map dC)) []=true:=by unfold YF;rw[OW];have:=tX gs;simp[RC];omega
 rw[I0 r1 r2 ok];cases gs with
 | nil=>rfl
 | cons p W=>rfl
theorem L9{h:HI}{b c:Nat}{g:Nat->Nat->Nat}(N:Bm h b c g)(og:aB c g)(hc:c<=100){Mp:List Dt}{gs:List (List fD)}(Q:El h Mp gs)(ok:∀x∈gs,∀m∈x,pE c m)(sm:∀x∈gs,x.length<=1000) :
 ∃h',Up h h'/\match ZD c g gs with
  | none=>zH [.ref (b+c),.lst Mp] h=some (.non,h')
  | some (tag,bs,ps)=>∃Lp,Yp (zaD h' c) bs Lp/\zH [.ref (b+c),.lst Mp] h=some (lE tag Lp ps,h'):=by
 have ne:=Gg Q;cases Q with
 | @cons d grp ds gs' a r=>
  obtain⟨n,rfl,en⟩:=a;have gl:=sm grp (by simp);have gok:=ok grp (by simp);have er:=fun h=>vG (h:=h) (show(-(2^62):Int)<=(grp.length:Int) by omega) (show(grp.length:Int)<2^62 by omega)
  simp only[Int.toNat_natCast]at er;obtain⟨Lp,h',e,U,A⟩:=BR (te:=aN) (fun(k:Nat)=>Dt.int (k:Int)) (fun h k d=>zaD h c (ZO g grp k) d) (fun h h' k d u q=>q.up u.l) (List.range grp.length) [none,some (.ref (b+c)),some (.ref n)] h (by
   intro k _ h' u;obtain⟨b',h2,e,N',U'⟩:=p8 (u.net N) (by omega) (u.get en) gok k;refine⟨_,h2,?_,U',b',rfl,N'⟩;simp only[aN,rB,SA,NA,sA,zfS,zfM,zfN,uA,oA,zf3,e])
  have ck:=RF (l:=[none,some (.ref (b+c)),some (.ref n)]) (h:=h) (JA 0) JB aN (xs:=(List.range grp.length).map fun(k:Nat)=>Dt.int (k:Int)) (by simp[sizeLine];omega);rw[e]at ck;have ck2:=T9 (te:=QV) (i:=0) dC (fun m:fD=>CA (m.1,m.2.2)) grp [none] h' (U.get en) (by simp[sizeLine];omega) (by
   intro m _;rfl)
  have fl:=xL en;rw[length_map]at fl;refine⟨h',U,?_⟩;show ∃Lp,Yp (zaD h' c) ((List.range grp.length).map (ZO g grp)) Lp/\zH [.ref (b+c),.lst (.ref n::ds)] h=some (lE none Lp (grp.map fun m=>(m.1,m.2.2)),h')
  refine⟨Lp,A.zax,?_⟩;have pm:grp.map (fun m:fD=>CA (m.1,m.2.2))=(grp.map fun m=>(m.1,m.2.2)).map CA:=by rw[map_map];rfl
  rw[pm]at ck2;have sk:=OF (U.get en);simp only[zH,fN,YB,zfO,zfP,if_true,zfQ,zfR,Nat.reduceAdd,Nat.reduceSub,List.replicate,zfX,zfW,XA,uB,gB,EA,sA,DA,CL,NA,zfM,zfN,uA,oA,Nat.zero_le,ne,isEmpty_cons,Bool.not_false,fB,pB,II,UB,zfU,zfT,zfS,ZA,ZG,cP,sD,fl,er,QF,WN,TF,Option.join_some,ck,CB,ND,SA,gE,sk,ck2,BE,OB];rfl
 | nil=>
  obtain⟨h1,e1,U1⟩:=o8 N (show c<=1000 by omega);generalize hX:zH [.ref (b+c),.lst []] h=X;simp only[zH,fN,YB,zfO,zfP,if_true,zfQ,zfR,Nat.reduceAdd,Nat.reduceSub,List.replicate,zfX,zfW,XA,uB,gB,EA,sA,DA,CL,NA,zfM,zfN,uA,oA,Nat.zero_le,ne,isEmpty_nil,Bool.not_true,fB,zf4,if_false,EC,ZA,pB,rB,SA,zf3]at hX;cases lp:NE c g with
  | none=>
   rw[lp]at e1;refine⟨h1,U1,?_⟩;have sp:ZD c g []=none:=by simp only[ZD,lp]
   rw[sp];simp only[e1,oA,ZA,XA,uB,gB,EA,sA,DA,zfM,zfN,uA,zfT,zfS,FL,yG,fB,if_true,CB,BE,OB]at hX;exact hX.symm
  | some p=>
   rw[lp]at e1;have sp:ZD c g []=some (some p,(OA (g p.1 p.2)).map (fun w=>kB g p.1 (2^w) p.2),[p]):=by simp only[ZD,lp]
   rw[sp];have hp:p∈LA c:=mem_of_find?_eq_some lp;obtain⟨p1,p2⟩:=AS hp;have N1:=U1.net N;obtain⟨Lp,h',e,U,A⟩:=BR (te:=bN) (fun(w:Nat)=>Dt.int (w:Int)) (fun h w d=>zaD h c (kB g p.1 (2^w) p.2) d) (fun h h' k d u q=>q.up u.l) (OA (g p.1 p.2)) [none,some (.ref (b+c)),some (CA p)] h1 (by
    intro w hw h' u;have wl:=(Wm.mp hw).1;have en:=oN (u.net N1) (show c<=1000 by omega) p1 p2 (2^w);refine⟨_,_,?_,Up.app _ _,h'.length,rfl,UG h' c _⟩;have sh:=DU (h:=h') (zP wl);have pw:(1:Int)*2^w=((2^w:Nat):Int):=by simp
    simp only[bN,rB,SA,NA,EA,DA,sA,zfS,zfM,zfN,uA,oA,CA,yB,UB,pD,zfU,sh,Int.toNat_natCast,pw,zf3,en])
   have wl:=ZK (g p.1 p.2);have ck:=RF (l:=[none,some (.ref (b+c)),some (CA p)]) (h:=h1) (JA 0) JB bN (xs:=(OA (g p.1 p.2)).map fun(w:Nat)=>Dt.int (w:Int)) (by simp[sizeLine];omega);rw[e]at ck;have i1:=XF N1.top (p.1:Int);rw[SM.OD,eO p1,zfU]at i1;have i2:=XF (N1.row _ p1) (p.2:Int);rw[SM.OD,gL p2,zfU]at i2;refine⟨h',U1.trans U,Lp,A.zax,?_⟩;have np:yG (CA p)=false:=rfl;have x0:BA (CA p) (.int 0) h1=some (.int (p.1:Nat),h1):=rfl;have x1:BA (CA p) (.int 1) h1=some (.int (p.2:Nat),h1):=rfl;simp only[e1,oA,ZA,XA,uB,gB,EA,sA,DA,zfM,zfN,uA,zfT,zfS,FL,np,fB,zf4,if_false,EC,pB,rB,SA,NA,zf3,x0,x1,i1,i2,ZG,gE,RK,AH,QF,WN,TF,Option.join_some,ck,CB,ND,zfO,zfP,Nat.reduceAdd,OB]at hX;rw[<- hX];rfl
theorem Yj{c nb:Nat}(hc:c<=100){N:Nat->Nat->Nat}{ls:List Ln}(hl:ls.length<=1000){h:HI}(NN:Bm h nb c N)(x1 x4:Option Dt):∃y rest,FC (JA 3) nN (ls.map rC) [some (.ref (nb+c)),x1,some (.ref h.length),none,x4] (h++[.lst ((jD c).map pA)]) =
 some (.nx [some (.ref (nb+c)),x1,some (.ref h.length),y,x4] (h++.lst ((jD c++ls.flatMap (HC (2*c+1))).map pA)::rest)):=by
 have ol:(jD c).length=c:=by simp[jD]
 obtain⟨l',h',e,⟨y,rfl⟩,rest,rfl,_⟩:=qL (i:=3) (body:=nN) rC (fun k l h'=>(∃y,l=[some (.ref (nb+c)),x1,some (.ref h.length),y,x4])/\∃rest,h'=h++.lst ((jD c++(ls.take k).flatMap (HC (2*c+1))).map pA)::rest/\((ls.take k).flatMap (HC (2*c+1))).length<=2*k) ls 0 (by
  rintro k x hx l h' ⟨⟨y,rfl⟩,rest,rfl,hk⟩;rw[Nat.zero_add]at hk ⊢;have kl:k<ls.length:=(zfY hx).1;have l2:(HC (2*c+1) x).length=2:=rfl;have nl:=(NN.grow (.lst ((jD c++(ls.take k).flatMap (HC (2*c+1))).map pA)::rest)).len;have eb:=Z7 x.1 x.2.1 x.2.2 (g:=2*c+1) (by omega) (h++.lst ((jD c++(ls.take k).flatMap (HC (2*c+1))).map pA)::rest);have x1:=gT (h:=h) (F:=jD c++(ls.take k).flatMap (HC (2*c+1))) (G:=HC (2*c+1) x) (rest:=rest) (zay:=[]) (l:=[some (.ref (nb+c)),x1,some (.ref h.length),some (rC x),x4]) (g:=FA EK [] (cA (eV 3) (cA (FA kL [] (cA (VC iD (eV 0)) (kA))) (kA)))) (by rw[length_append,ol,l2];omega) (by
   simp only[rB,SA,NA,sD,sA,zfM,zfN,uA,oA,nl,Xy,zf3,rC];exact eb)
  refine⟨.nx [some (.ref (nb+c)),_,some (.ref h.length),some (rC x),x4] (h++.lst ((jD c++(ls.take (k+1)).flatMap (HC (2*c+1))).map pA)::(rest++[.lst ((HC (2*c+1) x).map pA)])),?_,⟨some (rC x),rfl⟩,rest++[.lst ((HC (2*c+1) x).map pA)],rfl,?_⟩
  · rw[sJ _ hx,<- append_assoc];simp only[nN,eE,aO,sA,zfT,zfS,zfM,zfN,uA,oA,x1]
  · rw[sJ _ hx,length_append,l2];omega) [some (.ref (nb+c)),x1,some (.ref h.length),none,x4] (h++[.lst ((jD c).map pA)]) ⟨⟨_,rfl⟩,[],by simp,by simp⟩
 rw[Nat.zero_add,take_length]at *;exact⟨y,rest,e⟩
theorem wz{c nb b:Nat}(hc:c<=100){N:Nat->Nat->Nat}(hN:∀i j,i<c->j<c->OA (N i j) ≠ []){h:HI}(NN:Bm h nb c N){F:List Bd}(hF:F.length<=3000){r0:List Ob}(db:∀G:List Bd,∀r2:List Ob,(h++.lst (G.map pA)::(r0++r2))[b]?=some (.lst ((LA c).map CA)))(x1 y3:Option Dt)(pl:(LA c).length<=10000)(pin:∀p∈LA c,p.1<c/\p.2<c) :
 ∃y rest,uE (JA 4) jI [some (.ref (nb+c)),x1,some (.ref h.length),y3,none] (.rf b,h++.lst (F.map pA)::r0) =
 some (.nx [some (.ref (nb+c)),x1,some (.ref h.length),y3,y] (h++.lst ((F++(LA c).flatMap fun p=>DC p.1 (N p.1 p.2) p.2).map pA)::rest)):=by
 obtain⟨l',h',e,⟨y,rfl⟩,r2,rfl,_⟩:=fP (i:=4) (n:=b) (body:=jI) CA (fun k l h'=>(∃y,l=[some (.ref (nb+c)),x1,some (.ref h.length),y3,y])/\∃r2,h'=h++.lst ((F++((LA c).take k).flatMap fun p=>DC p.1 (N p.1 p.2) p.2).map pA)::(r0++r2)/\(((LA c).take k).flatMap fun p=>DC p.1 (N p.1 p.2) p.2).length<=8*k) (LA c) (by
  rintro k l h' ⟨_,r2,rfl,_⟩;exact db _ r2) (by
  rintro k x hx l h' ⟨⟨y,rfl⟩,r2,rfl,hk⟩;have kl:k<(LA c).length:=(zfY hx).1;obtain⟨p1,p2⟩:=pin x (mem_of_getElem? hx);have l8:(DC x.1 (N x.1 x.2) x.2).length<=8:=by unfold DC;rw[length_append];have:=lI x.1 x.2 0 (N x.1 x.2);have:=lI x.1 x.2 1 (N x.1 x.2);omega
  have NG:=NN.grow (.lst ((F++((LA c).take k).flatMap fun p=>DC p.1 (N p.1 p.2) p.2).map pA)::(r0++r2));obtain⟨rs,eb⟩:=IV x.1 (N x.1 x.2) x.2 (by omega) (by omega) (hN _ _ p1 p2) (h++.lst ((F++((LA c).take k).flatMap fun p=>DC p.1 (N p.1 p.2) p.2).map pA)::(r0++r2));have i1:=XF NG.top (x.1:Int);rw[SM.OD,eO p1,zfU]at i1;have i2:=XF (NG.row _ p1) (x.2:Int);rw[SM.OD,gL p2,zfU]at i2;have xx:=gT (h:=h) (F:=F++((LA c).take k).flatMap fun p=>DC p.1 (N p.1 p.2) p.2) (G:=DC x.1 (N x.1 x.2) x.2) (rest:=r0++r2) (zay:=rs) (l:=[some (.ref (nb+c)),x1,some (.ref h.length),y3,some (CA x)]) (g:=FA jJ [] (cA (e2 BA (eV 4) (eC (.int 0))) (cA (e2 BA (e2 BA (eV 0) (e2 BA (eV 4) (eC (.int 0)))) (e2 BA (eV 4) (eC (.int 1)))) (cA (e2 BA (eV 4) (eC (.int 1))) (kA))))) (by rw[length_append];omega) (by
   simp only[rB,SA,NA,EA,DA,sA,zfM,zfN,uA,oA,CA,yB,UB,pD,zfU,i1,i2,zf3];exact eb)
  refine⟨.nx [some (.ref (nb+c)),x1,some (.ref h.length),y3,some (CA x)] (h++.lst ((F++((LA c).take (k+1)).flatMap fun p=>DC p.1 (N p.1 p.2) p.2).map pA)::(r0++(r2++.lst ((DC x.1 (N x.1 x.2) x.2).map pA)::rs))),?_,⟨_,rfl⟩,_,rfl,?_⟩
  · rw[sJ _ hx,<- append_assoc,<- append_assoc];simp only[jI,eE,aO,sA,zfT,zfS,zfM,zfN,uA,oA,xx]
  · rw[sJ _ hx,length_append];omega) [some (.ref (nb+c)),x1,some (.ref h.length),y3,none] (h++.lst (F.map pA)::r0) ⟨⟨_,rfl⟩,[],by simp,by simp⟩
 rw[take_length]at e;exact⟨y,_,e⟩
theorem Hq{c nb:Nat}(hc:c<=100){N:Nat->Nat->Nat}(hN:∀i j,i<c->j<c->OA (N i j) ≠ []){ls:List Ln}(hl:ls.length<=1000){h:HI}(NN:Bm h nb c N) :
 ∃rest,SN [.ref (nb+c),.lst (ls.map rC)] h=some (.ref h.length,h++.lst ((eD c N ls).map pA)::rest):=by
 have nl:=NN.len;have er:=vG (h:=h) (show(-(2^62):Int)<=(c:Int) by omega) (show(c:Int)<2^62 by omega);simp only[Int.toNat_natCast]at er;have u:=fun(i:Int) (h:HI)=>xF (h:=h) (i:=2) (j:=i) (Or.inl ⟨by decide,by decide⟩)
 have ec:=XG (te:=gN) (tc:=JB) (i:=0) (fun(k:Nat)=>Dt.int (k:Int)) (fun k=>pA (2*k,2*k+1,-1)) h (List.range c) [none] (by
  intro k _;exact⟨by simp,by simp[gN,u,pA]⟩)
 have ek:=RF (l:=[none]) (h:=h) (JA 0) JB gN (xs:=(List.range c).map fun(k:Nat)=>Dt.int (k:Int)) (by simp;omega);rw[ec]at ek;have eo:(List.range c).map (fun k=>pA (2*k,2*k+1,-1))=(jD c).map pA:=by unfold jD;rw[map_map];rfl
 rw[eo]at ek;obtain⟨y,r0,e1⟩:=Yj hc hl NN (some (.lst (ls.map rC))) none;have nl2:=(NN.grow (.lst ((jD c++ls.flatMap (HC (2*c+1))).map pA)::r0)).len;have ep:=rR (c:=c) (by omega) (h++.lst ((jD c++ls.flatMap (HC (2*c+1))).map pA)::r0);have fl:(ls.flatMap (HC (2*c+1))).length<=2*ls.length:=by
  clear e1 ep ek nl2
  induction ls with
  | nil=>simp
  | cons x ls ih=>rw[flatMap_cons,length_append,zfO];have:(HC (2*c+1) x).length=2:=rfl;have:=ih (by simp at hl;omega);omega
 have pl:(LA c).length<=10000:=by have:=UK c c;have h2:c*c<=100*100:=Nat.mul_le_mul hc hc;unfold LA;omega
 obtain⟨y4,rest,e2⟩:=wz (b:=(h++Ob.lst ((jD c++ls.flatMap (HC (2*c+1))).map pA)::r0).length) hc hN NN (F:=jD c++ls.flatMap (HC (2*c+1))) (by simp[jD]at fl ⊢;omega) (r0:=r0++[.lst ((LA c).map CA)]) (fun G r2=>by
  have:h++Ob.lst (G.map pA)::(r0++[Ob.lst ((LA c).map CA)]++r2)=(h++Ob.lst (G.map pA)::r0)++Ob.lst ((LA c).map CA)::r2:=by simp
  rw[this,zf2 (by simp)];simp) (some (.lst (ls.map rC))) y pl (fun p hp=>AS hp)
 refine⟨rest,?_⟩;have es:(h++Ob.lst ((jD c++ls.flatMap (HC (2*c+1))).map pA)::r0)++[Ob.lst ((LA c).map CA)]=h++Ob.lst ((jD c++ls.flatMap (HC (2*c+1))).map pA)::(r0++[Ob.lst ((LA c).map CA)]):=by simp
 rw[es]at ep;have sk:=OF (h:=h++Ob.lst ((jD c++ls.flatMap (HC (2*c+1))).map pA)::(r0++[Ob.lst ((LA c).map CA)])) (n:=(h++Ob.lst ((jD c++ls.flatMap (HC (2*c+1))).map pA)::r0).length) (xs:=(LA c).map CA) (by
  rw[<- es,zf2 (zf1 _),Nat.sub_self];rfl)
 unfold eD;simp only[SN,KS,YB,zfO,zfP,if_true,zfQ,zfR,Nat.reduceAdd,Nat.reduceSub,List.replicate,zfX,zfW,XA,pB,BS,cP,sD,sA,zfM,zfN,uA,oA,nl,nl2,er,QF,TF,ek,zfT,zfS,ZA,AE,gE,AH,QG,e1,rB,SA,NA,zf3,ep,sk,e2,CB,OB]
theorem qG(f:Nat->Nat->Nat){i j:Nat}(m:Nat)(hij:i≠j):kB f i m j i j=f i j&&&m:=by unfold kB LB;have:¬i=j:=hij;simp[this]
theorem GJ(f:Nat->Nat->Nat)(i m j:Nat):kB f i m j j i=Al (f i j&&&m):=by unfold kB LB;simp
theorem SF(f:Nat->Nat->Nat){i m j a b:Nat}(h1:¬(a=i/\b=j))(h2:¬(a=j/\b=i)):kB f i m j a b=f a b:=by
 unfold kB LB;by_cases e1:a=j
 · by_cases e2:b=i
   · exact absurd ⟨e1,e2⟩ h2
   · rw[if_pos e1,if_neg e2];by_cases e3:a=i
     · by_cases e4:b=j
       · exact absurd ⟨e3,e4⟩ h1
       · rw[if_pos e3,if_neg e4]
     · rw[if_neg e3]
 · rw[if_neg e1];by_cases e3:a=i
   · by_cases e4:b=j
     · exact absurd ⟨e3,e4⟩ h1
     · rw[if_pos e3,if_neg e4]
   · rw[if_neg e3]
theorem RV{c:Nat}{f:Nat->Nat->Nat}(h:FF c f):CD c f [] []:=fun i hi k hk j hj d n=>absurd (h i hi k hk j hj d) n
theorem mX{c:Nat}{f:Nat->Nat->Nat}(o:aB c f){x z:Nat}(hx:x<c)(hz:z<c)(d3:x≠z)(mm:Nat){W:List (Nat×Nat)}(h:CD c f W []):CD c (kB f x mm z) (W++[(x,z)]) []:=by
 have o':=yE o hx hz d3 mm;have main:∀i<c,∀k<c,∀j<c,EG i k j->¬(i=z/\j=x)->Rm (kB f x mm z) i k j≠kB f x mm z i j->QD (W++[(x,z)]) i k j:=by
  intro i hi k hk j hj d nz m;obtain⟨e1,e2,e3⟩:=d;have grow:∀{i k j},QD W i k j->QD (W++[(x,z)]) i k j:=by
   intro i k j q;unfold QD at q ⊢;simp only[mem_append];rcases q with q | q | q | q
   · exact .inl (.inl q)
   · exact .inr (.inl (.inl q))
   · exact .inr (.inr (.inl (.inl q)))
   · exact .inr (.inr (.inr (.inl q)))
  have un:∀{i k j},Rm f i k j≠f i j->i<c->k<c->j<c->EG i k j->QD W i k j:=by
   intro i k j n hi hk hj d;rcases h i hi k hk j hj d n with q | q | q
   · exact q
   · cases q
   · cases q
  by_cases ht:i=x/\j=z
  · obtain⟨rfl,rfl⟩:=ht;have l1:kB f i mm j i k=f i k:=SF f (fun q=>e2 q.2) (fun q=>e1 q.2.symm);have l2:kB f i mm j k j=f k j:=SF f (fun q=>e1 q.1.symm) (fun q=>e2 q.1);have n:Rm f i k j≠f i j:=by intro q;apply m;unfold Rm;rw[l1,l2,qG f mm e3];exact UW (DF (f i j) _) q
    exact grow (un n hi hk hj ⟨e1,e2,e3⟩)
  · by_cases leg:QD [(x,z)] i k j
    · unfold QD at leg ⊢;simp only[mem_append];rcases leg with q | q | q | q
      · exact .inl (.inr q)
      · exact .inr (.inl (.inr q))
      · exact .inr (.inr (.inl (.inr q)))
      · exact .inr (.inr (.inr (.inr q)))
    · unfold QD at leg;simp only[mem_cons,not_mem_nil,or_false,Prod.mk.injEq,not_or]at leg;obtain⟨g1,g2,g3,g4⟩:=leg;have l0:kB f x mm z i j=f i j:=SF f (fun q=>ht q) (fun q=>nz q);have l1:kB f x mm z i k=f i k:=SF f (fun q=>g1 q) (fun q=>g2 ⟨q.2,q.1⟩);have l2:kB f x mm z k j=f k j:=SF f (fun q=>g3 q) (fun q=>g4 ⟨q.2,q.1⟩);have n:Rm f i k j≠f i j:=by unfold Rm at m ⊢;rw[l0,l1,l2]at m;exact m
      exact grow (un n hi hk hj ⟨e1,e2,e3⟩)
 intro i hi k hk j hj d m
 left
 by_cases nz:i=z/\j=x
 · obtain⟨e1,e2,e3⟩:=d;have m':=mT o' hj hk hi m;have q:=main j hj k hk i hi ⟨Ne.symm e2,Ne.symm e1,Ne.symm e3⟩ (fun q=>e3 (by omega)) m';unfold QD at q ⊢;rcases q with q | q | q | q
   · exact .inr (.inr (.inr q))
   · exact .inr (.inr (.inl q))
   · exact .inr (.inl q)
   · exact .inl q
 · exact main i hi k hk j hj d nz m
theorem cW{c k:Nat}:∀(ms:List fD)(_:∀m∈ms,pE c m)(f:Nat->Nat->Nat)(p:Nat)(W:List (Nat×Nat)),aB c f->CD c f W []->CD c (tF f k ms p) (W++ms.map fun m=>(m.1,m.2.2)) []
 | [],_,f,p,W,o,h=>by simpa[tF]using h
 | m::ms,hm,f,p,W,o,h=>by obtain⟨a,b,d,_⟩:=hm m (by simp);have:=cW (k:=k) ms (fun x hx=>hm x (by simp[hx])) _ (p+1) _ (yE o a b d (if p=k then m.2.1 else notM m.2.1)) (mX o a b d (if p=k then m.2.1 else notM m.2.1) h);rw[append_assoc]at this;exact this
inductive Tr where
 | zaz (st:List (Nat×Nat×Nat))
 | ring (st:List (Nat×Nat×Nat)) (cs:Nat->Option Nat) (P k:Nat)
 | one (st:List (Nat×Nat×Nat)) (bs:List Tr)
 | split (st:List (Nat×Nat×Nat)) (p:Nat×Nat) (bs:List Tr)
inductive Ans where
 | opn
 | laid (t:Nat->Int)
 | clash (tr:Tr)
inductive Wd where | opn | laid | clash
noncomputable def Ans.wd:Ans->Wd
 | .opn=>.opn
 | .laid _=>.laid
 | .clash _=>.clash
noncomputable def lV(tag:Option (Nat×Nat))(st:List (Nat×Nat×Nat))(bs:List Tr):Tr:=match tag with
 | none=>.one st bs
 | some p=>.split st p bs
noncomputable abbrev YA:=Nat->Nat->Nat
def tE(L:YA->List (List fD)->Nat->Ans->Nat->Prop)(tag:Option (Nat×Nat))(st:List (Nat×Nat×Nat))(gs:List (List fD)):List YA->Nat->List Tr->Ans->Nat->Prop
 | [],made,acc,a,Xp=>a=.clash (lV tag st acc)/\Xp=made
 | b::bs,made,acc,a,Xp=>(∃tr zbK,L b gs made (.clash tr) zbK/\tE L tag st gs bs zbK (acc++[tr]) a Xp)\/(a.wd≠.clash/\L b gs made a Xp)
def lC(c m:Nat)(ls:List Ln):Nat->YA->List (List fD)->Nat->Ans->Nat->Prop
 | 0,_,_,_,_,_=>False
 | n+1,f,gs,made,a,Xp=>
  (∃st g,Steps c f st g/\mC c g=true/\a=.clash (.zaz st)/\Xp=made)\/
  ∃st g,zaA c f st g/\
   ((∃cs P k,RH (2*c) (oC (eD c g ls)) (oP (eD c g ls)) cs P k/\a=.clash (.ring st cs P k)/\Xp=made)\/
    (∃t,(∀e∈eD c g ls,yF t e)/\
     ((ZD c g gs=none/\a=.laid t/\Xp=made)\/
      (∃tag bs ps,ZD c g gs=some (tag,bs,ps)/\
       ((m<=made/\a=.opn/\Xp=made)\/(made<m/\tE (lC c m ls n) tag st gs.tail bs (made+1) [] a Xp))))))
def Yl(c:Nat)(gs:List (List fD)):Prop:=∀x∈gs,∀m∈x,pE c m
theorem Yl.tail{c:Nat}{gs:List (List fD)}(h:Yl c gs):Yl c gs.tail:=fun x hx=>h x (mem_of_mem_tail hx)
theorem HS{c:Nat}{g:YA}(o:aB c g){gs:List (List fD)}(ok:Yl c gs){tag:Option (Nat×Nat)}{bs:List YA}{ps:List (Nat×Nat)}(h:ZD c g gs=some (tag,bs,ps)):∀b∈bs,aB c b:=by
 cases gs with
 | cons grp gs=>simp only[ZD,Option.some.injEq,Prod.mk.injEq]at h;obtain⟨_,rfl,_⟩:=h;intro b hb;obtain⟨k,_,rfl⟩:=mem_map.mp hb;exact tW grp (ok grp (by simp)) g 0 o
 | nil=>
  simp only[ZD]at h;cases lp:NE c g with
  | none=>rw[lp]at h;cases h
  | some p=>rw[lp]at h;simp only[Option.some.injEq,Prod.mk.injEq]at h;obtain⟨_,rfl,_⟩:=h;intro b hb;obtain⟨w,_,rfl⟩:=mem_map.mp hb;have hp:p∈LA c:=mem_of_find?_eq_some lp;obtain⟨q1,q2⟩:=Vm.mp hp;exact yE o (by omega) (by omega) (by omega) _
theorem DS{c:Nat}{g:YA}{ls:List Ln}{cs:Nat->Option Nat}{P k:Nat}(R:RH (2*c) (oC (eD c g ls)) (oP (eD c g ls)) cs P k){t:Nat->Int}(ht:∀e∈eD c g ls,yF t e):False:=
 FY (b:=t) (fun e he=>by have:=ht e he;unfold yF at this;omega) R
theorem pJ{c m:Nat}{ls:List Ln}:∀(n:Nat)(f:YA)(gs:List (List fD))(made:Nat)(a a':Ans)(s s':Nat),aB c f->Yl c gs->lC c m ls n f gs made a s->lC c m ls n f gs made a' s'->a.wd=a'.wd/\s=s'
 | 0,_,_,_,_,_,_,_,_,_,h,_=>h.elim
 | n+1,f,gs,made,a,a',s,s',of,og,h,h'=>by
  rcases h with⟨st,g,h1,h2,rfl,rfl⟩ | ⟨st,g,h1,h⟩
  · rcases h' with⟨st',g',k1,k2,rfl,rfl⟩ | ⟨st',g',k1,h'⟩
    · exact⟨rfl,rfl⟩
    · have:=k1.jl of h1;rw[h2]at this;cases this
  · rcases h' with⟨st',g',k1,k2,rfl,rfl⟩ | ⟨st',g',k1,h'⟩
    · have:=h1.jl of k1;rw[k2]at this;cases this
    · have eg:=h1.unique of k1;subst eg;have okg:=(h1.ok of).1;rcases h with⟨cs,P,k,R,rfl,rfl⟩ | ⟨t,ht,h⟩
      · rcases h' with⟨cs',P',k',R',rfl,rfl⟩ | ⟨t',ht',h'⟩
        · exact⟨rfl,rfl⟩
        · exact(DS R ht').elim
      · rcases h' with⟨cs',P',k',R',rfl,rfl⟩ | ⟨t',ht',h'⟩
        · exact(DS R' ht).elim
        · rcases h with⟨sp,rfl,rfl⟩ | ⟨tag,bs,ps,sp,h⟩
          · rcases h' with⟨sp',rfl,rfl⟩ | ⟨tag',bs',ps',sp',h'⟩
            · exact⟨rfl,rfl⟩
            · rw[sp]at sp';cases sp'
          · rcases h' with⟨sp',rfl,rfl⟩ | ⟨tag',bs',ps',sp',h'⟩
            · rw[sp]at sp';cases sp'
            · rw[sp]at sp';cases sp';rcases h with⟨lm,rfl,rfl⟩ | ⟨lm,h⟩
              · rcases h' with⟨lm',rfl,rfl⟩ | ⟨lm',h'⟩
                · exact⟨rfl,rfl⟩
                · omega
              · rcases h' with⟨lm',rfl,rfl⟩ | ⟨lm',h'⟩
                · omega
                · have bok:=HS okg og sp;have go:∀(bs:List YA),(∀b∈bs,aB c b)->∀(md:Nat)(acc acc':List Tr)(a a':Ans)(s s':Nat),tE (lC c m ls n) tag st gs.tail bs md acc a s->tE (lC c m ls n) tag st' gs.tail bs md acc' a' s'->a.wd=a'.wd/\s=s':=by
                   intro bs
                   induction bs with
                   | nil=>rintro _ md acc acc' a a' s s' ⟨rfl,rfl⟩ ⟨rfl,rfl⟩;exact⟨rfl,rfl⟩
                   | cons b bs ih=>
                    intro hb md acc acc' a a' s s' q q';have hb0:=hb b (by simp);have hb1:∀x∈bs,aB c x:=fun x hx=>hb x (by simp[hx])
                    rcases q with⟨tr,m1,q1,q2⟩ | ⟨q1,q2⟩
                    · rcases q' with⟨tr',m1',q1',q2'⟩ | ⟨q1',q2'⟩
                      · obtain⟨_,rfl⟩:=pJ n b _ md _ _ _ _ hb0 og.tail q1 q1';exact ih hb1 _ _ _ _ _ _ _ q2 q2'
                      · obtain⟨z,_⟩:=pJ n b _ md _ _ _ _ hb0 og.tail q1 q2';exact absurd z.symm q1'
                    · rcases q' with⟨tr',m1',q1',q2'⟩ | ⟨q1',q2'⟩
                      · obtain⟨z,_⟩:=pJ n b _ md _ _ _ _ hb0 og.tail q2 q1';exact absurd z q1
                      · exact pJ n b _ md _ _ _ _ hb0 og.tail q2 q2'
                  exact go bs bok _ _ _ _ _ _ _ h h'
theorem rO{c m:Nat}{ls:List Ln}:∀(n:Nat)(f:YA)(gs:List (List fD))(made:Nat)(a:Ans)(s:Nat),lC c m ls n f gs made a s->made<=s/\(made<=m->s<=m)/\(made<=m->a.wd=.opn->s=m)
 | 0,_,_,_,_,_,h=>h.elim
 | n+1,f,gs,made,a,s,h=>by
  rcases h with⟨st,g,h1,h2,rfl,rfl⟩ | ⟨st,g,h1,h⟩
  · exact⟨zf1 _,id,fun _ z=>by cases z⟩
  · rcases h with⟨cs,P,k,R,rfl,rfl⟩ | ⟨t,ht,h⟩
    · exact⟨zf1 _,id,fun _ z=>by cases z⟩
    · rcases h with⟨sp,rfl,rfl⟩ | ⟨tag,bs,ps,sp,h⟩
      · exact⟨zf1 _,id,fun _ z=>by cases z⟩
      · rcases h with⟨lm,rfl,rfl⟩ | ⟨lm,h⟩
        · exact⟨zf1 _,id,fun _ _=>by omega⟩
        · have go:∀(bs:List YA)(md:Nat)(acc:List Tr)(a:Ans)(s:Nat),tE (lC c m ls n) tag st gs.tail bs md acc a s->md<=s/\(md<=m->s<=m)/\(md<=m->a.wd=.opn->s=m):=by
           intro bs
           induction bs with
           | nil=>rintro md acc a s ⟨rfl,rfl⟩;refine⟨zf1 _,id,fun _ z=>by cases z⟩
           | cons b bs ih=>
            intro md acc a s q;rcases q with⟨tr,m1,q1,q2⟩ | ⟨q1,q2⟩
            · obtain⟨a1,a2,_⟩:=rO n b _ md _ _ q1;obtain⟨b1,b2,b3⟩:=ih _ _ _ _ q2;exact⟨by omega,fun z=>b2 (a2 z),fun z=>b3 (a2 z)⟩
            · exact rO n b _ md _ _ q2
          obtain⟨a1,a2,a3⟩:=go bs _ _ _ _ h;exact⟨by omega,fun _=>a2 (by omega),fun _=>a3 (by omega)⟩
mutual
noncomputable def Fp(lo:Nat)(h:HI):Tr->Dt->Prop
 | .zaz st,d=>∃s,d=.tup [.str "threes", .ref s]/\lo<=s/\h[s]?=some (.lst (st.map XD))
 | .ring st cs P k,d=>∃s r,d=.tup [.str "ring", .ref s,.ref r]/\lo<=s/\lo<=r/\h[s]?=some (.lst (st.map XD))/\h[r]?=some (.lst (QC cs P k))
 | .one st bs,d=>∃s r ds,d=.tup [.str "one", .ref s,.ref r]/\lo<=s/\lo<=r/\h[s]?=some (.lst (st.map XD))/\h[r]?=some (.lst ds)/\Ym lo h bs ds
 | .split st p bs,d=>∃s r ds,d=.tup [.str "split", .ref s,.int (p.1:Nat),.int (p.2:Nat),.ref r]/\lo<=s/\lo<=r/\h[s]?=some (.lst (st.map XD))/\h[r]?=some (.lst ds)/\Ym lo h bs ds
noncomputable def Ym(lo:Nat)(h:HI):List Tr->List Dt->Prop
 | [],ds=>ds=[]
 | t::ts,ds=>∃d r,ds=d::r/\Fp lo h t d/\Ym lo h ts r
end
noncomputable def A1(lo:Nat)(h h':HI):Prop:=∀(n:Nat)(xs:List Dt),lo<=n->h[n]?=some (.lst xs)->h'[n]?=some (.lst xs)
mutual
theorem Fp.up{lo lo':Nat}(hl:lo'<=lo){h h':HI}(u:A1 lo h h'):∀(t:Tr){d:Dt},Fp lo h t d->Fp lo' h' t d
 | .zaz st,d,q=>by simp only[Fp]at q ⊢;obtain⟨s,e,l,q⟩:=q;exact⟨s,e,by omega,u _ _ l q⟩
 | .ring st cs P k,d,q=>by simp only[Fp]at q ⊢;obtain⟨s,r,e,l1,l2,q1,q2⟩:=q;exact⟨s,r,e,by omega,by omega,u _ _ l1 q1,u _ _ l2 q2⟩
 | .one st bs,d,q=>by simp only[Fp]at q ⊢;obtain⟨s,r,ds,e,l1,l2,q1,q2,q3⟩:=q;exact⟨s,r,ds,e,by omega,by omega,u _ _ l1 q1,u _ _ l2 q2,Ym.up hl u bs q3⟩
 | .split st p bs,d,q=>by simp only[Fp]at q ⊢;obtain⟨s,r,ds,e,l1,l2,q1,q2,q3⟩:=q;exact⟨s,r,ds,e,by omega,by omega,u _ _ l1 q1,u _ _ l2 q2,Ym.up hl u bs q3⟩
theorem Ym.up{lo lo':Nat}(hl:lo'<=lo){h h':HI}(u:A1 lo h h'):∀(ts:List Tr){ds:List Dt},Ym lo h ts ds->Ym lo' h' ts ds
 | [],ds,q=>by simp only[Ym]at q ⊢;exact q
 | t::ts,ds,q=>by simp only[Ym]at q ⊢;obtain⟨d,r,e,q1,q2⟩:=q;exact⟨d,r,e,Fp.up hl u t q1,Ym.up hl u ts q2⟩
end
theorem Ym.snoc{lo:Nat}{h:HI}{t:Tr}{d:Dt}(a:Fp lo h t d):∀(ts:List Tr){ds:List Dt},Ym lo h ts ds->Ym lo h (ts++[t]) (ds++[d])
 | [],ds,q=>by simp only[Ym]at q;subst q;simp only[zfW,Ym];exact⟨d,[],rfl,a,rfl⟩
 | t'::ts,ds,q=>by simp only[Ym]at q;obtain⟨d',r,rfl,q1,q2⟩:=q;simp only[zfX,Ym];exact⟨d',r++[d],rfl,q1,Ym.snoc a ts q2⟩
noncomputable def vD(c:Nat)(u:Nat->Int):List Dt:=(List.range c).map fun k=>.tup [.int (u (2*k)),.int (u (2*k+1))]
def zaq(lo:Nat)(h:HI)(c:Nat):Ans->Dt->Prop
 | .opn,d=>d=.tup [.str "open", .non]
 | .laid t,d=>d=.tup [.str "laid", .lst (vD c (FB (2*c) t))]
 | .clash tr,d=>∃x,d=.tup [.str "clash",x]/\Fp lo h tr x
theorem zaq.up{lo lo':Nat}(hl:lo'<=lo){h h':HI}(u:A1 lo h h'){c:Nat}{a:Ans}{d:Dt}(q:zaq lo h c a d):zaq lo' h' c a d:=by
 cases a with
 | opn=>exact q
 | laid t=>exact q
 | clash tr=>obtain⟨x,e,q⟩:=q;exact⟨x,e,Fp.up hl u tr q⟩
theorem Q7{c:Nat}(hc:c<=100)(u:Nat->Int)(h:HI):MM [.lst (uC (2*c) u)] h=some (.lst (vD c u),h):=by
 have er:Z3 2 (.int 0) (.int ((2*c:Nat):Int),h)=some (.vals ((List.range c).map fun(k:Nat)=>Dt.int (0+(k:Int)*(2:Nat))),h):=by
  have e1:((((2*c:Nat):Int)-0+((2:Nat):Int)-1)/((2:Nat):Int)).toNat=c:=by omega
  have cc:(0:Int)<=0/\(0:Int)<2^61/\0<=((2*c:Nat):Int)/\((2*c:Nat):Int)<2^61/\0<2/\2<1000:=by omega
  simp only[Z3,if_pos cc,e1]
 have ec:=XG (te:=yM) (tc:=JB) (i:=0) (fun(k:Nat)=>Dt.int (0+(k:Int)*(2:Nat))) (fun k=>Dt.tup [.int (u (2*k)),.int (u (2*k+1))]) h (List.range c) [none,some (.lst (uC (2*c) u))] (by
  intro k hk;have hk:=mem_range.mp hk;refine⟨by simp,?_⟩;have g1:(0:Int)+(k:Int)*((2:Nat):Int)=((2*k:Nat):Int):=by omega
  have g2:((2*k:Nat):Int)+1=((2*k+1:Nat):Int):=by omega
  have t1:=dO u (show 2*k<2*c by omega);have t2:=dO u (show 2*k+1<2*c by omega);rw[g1];simp only[yM,ND,SA,NA,EA,DA,sA,zfS,zfM,zfN,uA,oA,uD,g2,II,SM.OD,t1,t2,zfU];rfl)
 have ck:=RF (l:=[none,some (.lst (uC (2*c) u))]) (h:=h) (JA 0) JB yM (xs:=(List.range c).map fun(k:Nat)=>Dt.int (0+(k:Int)*(2:Nat))) (by simp[sizeLine];omega);rw[ec]at ck;have tl:=dS (2*c) u;simp only[MM,sQ,YB,zfO,zfP,if_true,zfQ,zfR,Nat.reduceAdd,Nat.reduceSub,List.replicate,zf3,CB,ZG,m6,DA,sD,sA,zfM,uA,oA,eU,tl,er,QF,WN,TF,Option.join_some,ck,OB];rfl
def zbQ(h:HI)(d:Dt)(P:List (Nat×Nat)):Prop:=d=.lst (P.map CA)\/∃n,d=.ref n/\h[n]?=some (.lst (P.map CA))
theorem zbQ.seq{h:HI}{d:Dt}{P:List (Nat×Nat)}(q:zbQ h d P)(e:HI):LD (h++e) d=some (P.map CA):=by
 rcases q with rfl | ⟨n,rfl,q⟩
 · rfl
 · have:=(Up.app h e).get q;simp only[LD,TB,this]
def Jp (h:HI) (o:Nat) (ls:List Ln) (m made:Nat):Prop:=h[o]?=some (.ins "Search" [("lengths", .lst (ls.map rC)),("most", .int (m:Nat)),("made", .int (made:Nat))])
theorem Jp.up{h h':HI}(u:Up h h'){o m made:Nat}{ls:List Ln}(s:Jp h o ls m made):Jp h' o ls m made:=u.get s
theorem eT{m:Nat}(hm:m<8192)(h:m≠0):OA m ≠ []:=by
 intro e;apply h;refine YG hm (by decide) fun k hk=>?_
 cases z:m.testBit k with
 | false=>simp
 | true=>have:k∈OA m:=Wm.mpr ⟨hk,z⟩;rw[e]at this;cases this
theorem Pz{c:Nat}{g:YA}(o:aB c g)(ne:mC c g=false):∀i j,i<c->j<c->OA (g i j) ≠ []:=fun i j hi hj=>eT (o.lt i hi j hj) (jl ne hi hj)
theorem oX{c:Nat}{p:Nat×Nat}(h:p∈LA c):p.1<p.2/\p.2<c:=by unfold LA bD at h;obtain⟨i,hi,h⟩:=mem_flatMap.mp h;obtain⟨k,hk,rfl⟩:=mem_map.mp h;have:=mem_range.mp hi;have:=mem_range.mp hk;exact⟨by show i<i+1+k;omega,by show i+1+k<c;omega⟩
theorem uW{c i j:Nat}(h1:i<j)(h2:j<c):(i,j)∈LA c:=by unfold LA bD;refine mem_flatMap.mpr ⟨i,mem_range.mpr (by omega),mem_map.mpr ⟨j-i-1,mem_range.mpr (by omega),?_⟩⟩;rw[show i+1+(j-i-1)=j by omega]
theorem AZ{p q:Nat}{a mx mn:Int}{e:Bd}(h:e∈JG p q a mx mn):(e.1=p/\e.2.1=q)\/(e.1=q/\e.2.1=p):=by
 unfold JG at h;rcases mem_append.mp h with h | h
 · split at h
   · rw[mem_singleton.mp h];exact .inl ⟨rfl,rfl⟩
   · exact nomatch h
 · split at h
   · rw[mem_singleton.mp h];exact .inr ⟨rfl,rfl⟩
   · exact nomatch h
theorem UY{i j side m:Nat}{e:Bd}(h:e∈GF i j side m):∃z:Nat,z<2/\((e.1=2*i+side/\e.2.1=2*j+z)\/(e.1=2*j+z/\e.2.1=2*i+side)):=by
 unfold GF at h;rcases mem_append.mp h with h | h
 · exact⟨0,by omega,AZ h⟩
 · exact⟨1,by omega,AZ h⟩
theorem YX{c:Nat}(N:Nat->Nat->Nat){ls:List Ln}(hl:∀x∈ls,x.1<c):∀e∈eD c N ls,e.1<2*c/\e.2.1<2*c/\e.1≠e.2.1:=by
 intro e he;unfold eD at he;rcases mem_append.mp he with he | he
 · rcases mem_append.mp he with he | he
   · obtain⟨i,hi,rfl⟩:=mem_map.mp he;have:=mem_range.mp hi;refine⟨?_,?_,?_⟩<;>simp only<;>omega
   · obtain⟨x,hx,he⟩:=mem_flatMap.mp he;have:=hl x hx;unfold HC at he;simp only[mem_cons,not_mem_nil,or_false]at he;rcases he with rfl | rfl
     · refine⟨?_,?_,?_⟩<;>simp only<;>omega
     · refine⟨?_,?_,?_⟩<;>simp only<;>omega
 · obtain⟨p,hp,he⟩:=mem_flatMap.mp he;obtain⟨h1,h2⟩:=oX hp;unfold DC at he;rcases mem_append.mp he with he | he
   · obtain⟨z,hz,⟨a,b⟩ | ⟨a,b⟩⟩:=UY he
     · rw[a,b];omega
     · rw[a,b];omega
   · obtain⟨z,hz,⟨a,b⟩ | ⟨a,b⟩⟩:=UY he
     · rw[a,b];omega
     · rw[a,b];omega
theorem xS{α β:Type}(f:α->List β)(n:Nat):∀(xs:List α)(_:∀x∈xs,(f x).length<=n),(xs.flatMap f).length<=n*xs.length
 | [],_=>by simp
 | x::xs,h=>by have:=xS f n xs (fun y hy=>h y (by simp[hy]));have:=h x (by simp);rw[flatMap_cons,length_append,zfO,Nat.mul_succ];omega
theorem VW{c:Nat}(hc:c<=8)(N:Nat->Nat->Nat){ls:List Ln}(hl:ls.length<=100):(eD c N ls).length<=1000:=by
 unfold eD;rw[length_append,length_append];have a1:(jD c).length=c:=by simp[jD]
 have a2:=xS (HC (2*c+1)) 2 ls (fun x _=>zf1 _);have a3:=xS (fun p:Nat×Nat=>DC p.1 (N p.1 p.2) p.2) 8 (LA c) (fun x _=>by
  unfold DC;rw[length_append];have:=lI x.1 x.2 0 (N x.1 x.2);have:=lI x.1 x.2 1 (N x.1 x.2);omega)
 have a4:=UK c c;have h2:c*c<=8*8:=Nat.mul_le_mul hc hc;have a5:(LA c).length<=64:=by unfold LA;omega
 omega
theorem B0{h h':HI}(f:∀m,m<h.length->h'[m]?=h[m]?):Up h h':=by refine⟨?_,f⟩;apply Classical.byContradiction;intro n;have e:=f h'.length (by omega);rw[getElem?_eq_none (zf1 _),getElem?_eq_getElem (by omega)]at e;cases e
theorem Hg{h:HI}{ds:List Dt}{gs:List (List fD)}(q:El h ds gs):El h (ds.drop 1) gs.tail:=by
 cases q with
 | nil=>exact .nil
 | cons a r=>exact r
theorem V6 {x y z:Dt}:DD "lengths" [("lengths",x),("most",y),("made",z)]=some x:=by rfl
theorem Og {x y z:Dt}:DD "most" [("lengths",x),("most",y),("made",z)]=some y:=by
 have:¬((("most" :Str))=(("lengths" :Str))):=by decide +kernel
 simp only[DD,if_neg this,if_true]
theorem xZ {x y z:Dt}:DD "made" [("lengths",x),("most",y),("made",z)]=some z:=by
 have h1:¬((("made" :Str))=(("lengths" :Str))):=by decide +kernel
 have h2:¬((("made" :Str))=(("most" :Str))):=by decide +kernel
 simp only[DD,if_neg h1,if_neg h2,if_true]
theorem SX {x y z:Dt}:DD "look" [("lengths",x),("most",y),("made",z)]=none:=by
 have h1:¬((("look" :Str))=(("lengths" :Str))):=by decide +kernel
 have h2:¬((("look" :Str))=(("most" :Str))):=by decide +kernel
 have h3:¬((("look" :Str))=(("made" :Str))):=by decide +kernel
 simp only[DD,if_neg h1,if_neg h2,if_neg h3]
theorem Pg {x y z:Dt}:DD "look_at_branches" [("lengths",x),("most",y),("made",z)]=none:=by
 have h1:¬((("look_at_branches" :Str))=(("lengths" :Str))):=by decide +kernel
 have h2:¬((("look_at_branches" :Str))=(("most" :Str))):=by decide +kernel
 have h3:¬((("look_at_branches" :Str))=(("made" :Str))):=by decide +kernel
 simp only[DD,if_neg h1,if_neg h2,if_neg h3]
theorem Er {x y z v:Dt}:WE "made" v [("lengths",x),("most",y),("made",z)]=([("lengths",x),("most",y),("made",v)]:List (Str×Dt)):=by
 have h1:¬((("lengths" :Str))=(("made" :Str))):=by decide +kernel
 have h2:¬((("most" :Str))=(("made" :Str))):=by decide +kernel
 simp only[WE,if_neg h1,if_neg h2,if_true]
theorem uc:decide ((("open" :Str))=(("clash" :Str)))=false:=by decide +kernel
theorem N3:decide ((("laid" :Str))=(("clash" :Str)))=false:=by decide +kernel
theorem Wc:decide ((("times" :Str))=(("ring" :Str)))=false:=by decide +kernel
def Cw(c m:Nat)(ls:List Ln)(n:Nat)(f:YA)(gs:List (List fD))(made o:Nat)(h:HI)(r:Option (Dt×HI)):Prop:=
 ∃d h' a s,r=some (d,h')/\lC c m ls n f gs made a s/\zaq h.length h' c a d/\UpL h h'/\Jp h' o ls m s
structure C6(c m:Nat)(ls:List Ln)(n:Nat)(f:YA)(gs:List (List fD))(Mp:List Dt)(made b o:Nat)(pd:Dt)(P:List (Nat×Nat))(h:HI):Prop where
 ex:∃a s,lC c m ls n f gs made a s
 of:aB c f
 og:Yl c gs
 sg:∀x∈gs,x.length<=1000
 net:Bm h b c f
 grp:El h Mp gs
 prs:zbQ h pd P
 pc:∀p∈P,p.1<c/\p.2<c/\p.1≠p.2
 wt:CD c f P []
 lp:P.length<=1000
 ob:Jp h o ls m made
def DT(c m:Nat)(ls:List Ln)(n:Nat):Prop:=∀(f:YA)(gs:List (List fD))(Mp:List Dt)(made b o:Nat)(pd:Dt)(P:List (Nat×Nat))(h:HI),C6 c m ls n f gs Mp made b o pd P h->Cw c m ls n f gs made o h (NF n [.ref o,.ref (b+c),pd,.lst Mp] h)
theorem k5(tag:Option (Nat×Nat))(Lp:List Dt)(ps:List (Nat×Nat))(k:HI):BA (lE tag Lp ps) (.int 2) k=some (.lst Lp,k):=by cases tag<;>rfl
theorem o5(tag:Option (Nat×Nat))(Lp:List Dt)(ps:List (Nat×Nat))(k:HI):BA (lE tag Lp ps) (.int 3) k=some (.lst (ps.map CA),k):=by cases tag<;>rfl
theorem Hx{c m n:Nat}{ls:List Ln}(IH:DT c m ls n){tag:Option (Nat×Nat)}{st st0:List (Nat×Nat×Nat)}{gs:List (List fD)}{Mp:List Dt}{ps:List (Nat×Nat)}{za3:List Dt}{hB:HI}{o sr:Nat}(og:Yl c gs)(sg:∀x∈gs,x.length<=1000)(G0:El hB Mp gs)(pc:∀p∈ps,p.1<c/\p.2<c/\p.1≠p.2)(lp:ps.length<=1000) :
 ∀(bs:List YA)(Lp:List Dt)(made:Nat)(acc acc0:List Tr)(Dp:List Dt)(h:HI)(y5 y6:Option Dt)(a0:Ans)(s0:Nat),tE (lC c m ls n) tag st0 gs bs made acc0 a0 s0->(∀b∈bs,aB c b)->(∀b∈bs,CD c b ps [])->Yp (zaD hB c) bs Lp->UpL hB h->h[hB.length]?=some (.lst Dp)->Ym (hB.length+1) h acc Dp->Dp.length+bs.length<=5000->Jp h o ls m made->
  ∃r,FC (JA 5) (vK (NF n)) Lp [some (.ref o),some (lE tag za3 ps),some (.ref sr),some (.lst Mp),some (.ref hB.length),y5,y6] h=some r/\
   ((∃y5' y6' h' acc' zaF s',r=.nx [some (.ref o),some (lE tag za3 ps),some (.ref sr),some (.lst Mp),some (.ref hB.length),y5',y6'] h'/\UpL hB h'/\h'[hB.length]?=some (.lst zaF)/\Ym (hB.length+1) h' acc' zaF/\Jp h' o ls m s'/\tE (lC c m ls n) tag st gs bs made acc (.clash (lV tag st acc')) s')\/
    (∃d h' a s',r=.rt d h'/\UpL hB h'/\zaq (hB.length+1) h' c a d/\Jp h' o ls m s'/\a.wd≠.clash/\tE (lC c m ls n) tag st gs bs made acc a s')):=by
 intro bs
 induction bs with
 | nil=>intro Lp made acc acc0 Dp h y5 y6 a0 s0 q _ _ A U hb T _ O;cases A;exact⟨_,rfl,.inl ⟨y5,y6,h,acc,Dp,made,rfl,U,hb,T,O,rfl,rfl⟩⟩
 | cons b bs ih=>
  intro Lp made acc acc0 Dp h y5 y6 a0 s0 q okb wtb A U hb T sz O;cases A with
  | @cons _ nd _ zdQ nd1 A=>
  have hbl:hB.length+1<=h.length:=(zfY hb).1;obtain⟨b1,rfl,N1⟩:=nd1;have exb:∃a s,lC c m ls n b gs made a s:=by
   rcases q with⟨tr,m1,q1,_⟩ | ⟨_,q2⟩
   · exact⟨_,_,q1⟩
   · exact⟨_,_,q2⟩
  obtain⟨d,h1,a,s,e,L,AN,U1,O1⟩:=IH b gs Mp made b1 o (.lst (ps.map CA)) ps h ⟨exb,okb b (by simp),og,sg,U.net N1,G0.up U,.inl rfl,pc,wtb b (by simp),lp,O⟩;have mt:=oS (x := "Search") (m := "look") (F:=NF n) (ga:=cA (eV 5) (cA (e2 BA (eV 1) (eC (.int 3))) (cA (eV 3) kA))) (l:=[some (.ref o),some (lE tag za3 ps),some (.ref sr),some (.lst Mp),some (.ref hB.length),some (.ref (b1+c)),y6]) O SX;have ev:FI "Search" "look" (NF n) (eV 0) (cA (eV 5) (cA (e2 BA (eV 1) (eC (.int 3))) (cA (eV 3) kA))) [some (.ref o),some (lE tag za3 ps),some (.ref sr),some (.lst Mp),some (.ref hB.length),some (.ref (b1+c)),y6] h=some (d,h1):=by simp only[gU,sA,zfM,uA,oA,mt,SA,NA,EA,DA,zfN,o5,e]
  cases a with
  | opn=>have dd:d=.tup [.str "open", .non]:=AN;refine⟨.rt d h1,?_,.inr ⟨d,h1,.opn,s,rfl,U.trans U1,AN,O1,(fun z=>by cases z),.inr ⟨(fun z=>by cases z),L⟩⟩⟩;subst dd;simp only[zfQ,FC,jG,zfV,zfT,zfS,vK,XA,pB,ev,oA,ZA,uB,gB,EA,sA,DA,zfM,zfN,uA,yB,UB,zfU,XO,uc,Bool.not_false,fB,if_true,CB,BE,HZ]
  | laid t=>have dd:d=.tup [.str "laid", .lst (vD c (FB (2*c) t))]:=AN;refine⟨.rt d h1,?_,.inr ⟨d,h1,.laid t,s,rfl,U.trans U1,AN,O1,(fun z=>by cases z),.inr ⟨(fun z=>by cases z),L⟩⟩⟩;subst dd;simp only[zfQ,FC,jG,zfV,zfT,zfS,vK,XA,pB,ev,oA,ZA,uB,gB,EA,sA,DA,zfM,zfN,uA,yB,UB,zfU,XO,N3,Bool.not_false,fB,if_true,CB,BE,HZ]
  | clash tr=>
   obtain⟨x,rfl,TA⟩:=AN;have hb1:=U1.2 _ _ hb;obtain⟨h2,hh2⟩:∃h2:HI,h2=h1.set hB.length (.lst (Dp++[x])):=⟨_,rfl⟩
   have l1:hB.length<h1.length:=(zfY hb1).1;have g2:∀k,k≠hB.length->h2[k]?=h1[k]?:=fun k hk=>by rw[hh2,getElem?_set_ne (Ne.symm hk)]
   have U2:UpL hB h2:=⟨by rw[hh2,length_set];exact Nat.le_trans U.1 U1.1,fun k xs hk=>by
    have kl:=(zfY hk).1;rw[g2 k (by omega)];exact U1.2 _ _ (U.2 _ _ hk)⟩
   have F2:A1 (hB.length+1) h1 h2:=fun k xs hk hx=>by rw[g2 k (by omega)];exact hx
   have hb2:h2[hB.length]?=some (.lst (Dp++[x])):=by rw[hh2,getElem?_set_self l1]
   have O2:Jp h2 o ls m s:=by
    have:o≠hB.length:=by intro z;unfold Jp at O1;rw[z,hb1]at O1;cases O1
    unfold Jp;rw[g2 o this];exact O1
   have T2:Ym (hB.length+1) h2 (acc++[tr]) (Dp++[x]):=Ym.snoc (Fp.up hbl (fun k xs hk hx=>F2 k xs (by omega) hx) tr TA) acc (Ym.up (zf1 _) (fun k xs hk hx=>F2 k xs hk (U1.2 _ _ hx)) acc T);have ap:=PF (l:=[some (.ref o),some (lE tag za3 ps),some (.ref sr),some (.lst Mp),some (.ref hB.length),some (.ref (b1+c)),some (.tup [.str "clash",x])]) (h:=h1) (g:=e2 BA (eV 6) (eC (.int 1))) (d:=x) hb1 (by simp) hb1 (by simp at sz;simp[sizeLine];omega);rw[<- hh2]at ap;obtain⟨a1,s1,zbR,q3⟩:∃a1 s1 zbR,tE (lC c m ls n) tag st0 gs bs s zbR a1 s1:=by
    rcases q with⟨tr',m1,q1,q2⟩ | ⟨q1,q2⟩
    · obtain⟨_,z⟩:=pJ n b gs made _ _ _ _ (okb b (by simp)) og q1 L;subst z;exact⟨_,_,_,q2⟩
    · obtain⟨z,_⟩:=pJ n b gs made _ _ _ _ (okb b (by simp)) og q2 L;exact absurd z q1
   obtain⟨r,e3,er⟩:=ih zdQ s (acc++[tr]) zbR (Dp++[x]) h2 (some (.ref (b1+c))) (some (.tup [.str "clash",x])) a1 s1 q3 (fun y hy=>okb y (by simp[hy])) (fun y hy=>wtb y (by simp[hy])) A U2 hb2 T2 (by simp at sz ⊢;omega) O2;refine⟨r,?_,?_⟩
   · simp only[zfQ,FC,jG,zfV,zfT,zfS,vK,XA,pB,ev,oA,ZA,uB,gB,EA,sA,DA,zfM,zfN,uA,yB,UB,zfU,XO,decide_true,Bool.not_true,fB,zf4,if_false,EC,eE,nF,ap,Wt];exact e3
   · rcases er with⟨y5',y6',h',acc',zaF,s',z1,z2,z3,z4,z5,z6⟩ | ⟨d,h',a,s',z1,z2,z3,z4,z5,z6⟩
     · exact .inl ⟨y5',y6',h',acc',zaF,s',z1,z2,z3,z4,z5,.inl ⟨tr,s,L,z6⟩⟩
     · exact .inr ⟨d,h',a,s',z1,z2,z3,z4,z5,.inl ⟨tr,s,L,z6⟩⟩
theorem T1:1<=sizeLine:=by decide
theorem VP:2<=sizeLine:=by decide
theorem V1:3<=sizeLine:=by decide
theorem nV:yG Dt.non=true:=rfl
theorem V3(k:Nat):yG (Dt.ref k)=false:=rfl
theorem N6{c m n:Nat}{ls:List Ln}(IH:DT c m ls n){tag:Option (Nat×Nat)}{st st0:List (Nat×Nat×Nat)}{gs:List (List fD)}{Mp:List Dt}{ps:List (Nat×Nat)}{bs:List YA}{Lp:List Dt}{hB:HI}{o sr lo made:Nat}{a0:Ans}{s0:Nat}(og:Yl c gs)(sg:∀x∈gs,x.length<=1000)(G0:El hB Mp gs)(pc:∀p∈ps,p.1<c/\p.2<c/\p.1≠p.2)(lp:ps.length<=1000)
 (q:tE (lC c m ls n) tag st0 gs bs made [] a0 s0) (okb:∀b∈bs,aB c b) (wtb:∀b∈bs,CD c b ps []) (A:Yp (zaD hB c) bs Lp) (lb:bs.length<=4000) (O:Jp hB o ls m made) (hs:hB[sr]?=some (.lst (st.map XD))) (l1:lo<=sr) (l2:lo<=hB.length) :
 ∃d h' a s,uH (NF n) [.ref o,lE tag Lp ps,.ref sr,.lst Mp] hB=some (d,h')/\tE (lC c m ls n) tag st gs bs made [] a s/\zaq lo h' c a d/\UpL hB h'/\Jp h' o ls m s:=by
 have U0:UpL hB (hB++[.lst []]):=UpL.app _ _;obtain⟨r,e,er⟩:=Hx IH (tag:=tag) (st:=st) (st0:=st0) (za3:=Lp) (sr:=sr) og sg G0 pc lp bs Lp made [] [] [] (hB++[.lst []]) none none a0 s0 q okb wtb A U0 (by simp) (by simp only[Ym]) (by simp;omega) (Jp.up (Up.app hB [.lst []]) O);have s2:=fun k=>k5 tag Lp ps k
 rcases er with⟨y5,y6,h',acc,Dp,s,rfl,U,hb,T,O',B⟩ | ⟨d,h',a,s,rfl,U,AN,O',na,B⟩
 · have hs':=U.2 _ _ hs;have T':Ym lo h' acc Dp:=Ym.up (by omega) (fun k xs hk hx=>hx) acc T;cases tag with
   | none=>
    refine⟨.tup [.str "clash", .tup [.str "one", .ref sr,.ref hB.length]],h',_,s,?_,B,⟨_,rfl,?_⟩,U,O'⟩
    · have c1:∀k:HI,GI (.tup [.str "one", .ref sr]) (.tup []) k=some (.tup [.str "one", .ref sr],k):=fun _=>rfl
      have c2:∀k:HI,GI (.tup [.str "one", .ref sr]) (.tup [.ref hB.length]) k=some (.tup [.str "one", .ref sr,.ref hB.length],k):=fun _=>rfl
      have t2:∀x y:Dt,[x,y].length<=sizeLine:=fun _ _=>by simp[sizeLine]
      have t1:∀x:Dt,[x].length<=sizeLine:=fun _=>by simp[sizeLine]
      have x0:∀k:HI,BA (lE none Lp ps) (.int 0) k=some (.str "one",k):=fun _=>rfl
      have x1:∀k:HI,BA (lE none Lp ps) (.int 1) k=some (.tup [],k):=fun _=>rfl
      simp only[uH,wK,YB,zfO,zfP,if_true,zfQ,zfR,Nat.reduceAdd,Nat.reduceSub,List.replicate,zfX,zfW,XA,pB,bH,NA,oA,Nat.zero_le,zfT,zfS,ZA,AE,gE,EA,sA,DA,zfM,zfN,uA,s2,AH,QG,e,CB,ND,SA,x0,x1,T1,VP,c1,c2,OB]
    · show Fp lo h' (.one st acc) _;simp only[Fp];exact⟨sr,hB.length,Dp,rfl,l1,l2,hs',hb,T'⟩
   | some p=>
    refine⟨.tup [.str "clash", .tup [.str "split", .ref sr,.int (p.1:Nat),.int (p.2:Nat),.ref hB.length]],h',_,s,?_,B,⟨_,rfl,?_⟩,U,O'⟩
    · have c1:∀k:HI,GI (.tup [.str "split", .ref sr]) (CA p) k=some (.tup [.str "split", .ref sr,.int (p.1:Nat),.int (p.2:Nat)],k):=fun _=>rfl
      have c2:∀k:HI,GI (.tup [.str "split", .ref sr,.int (p.1:Nat),.int (p.2:Nat)]) (.tup [.ref hB.length]) k=some (.tup [.str "split", .ref sr,.int (p.1:Nat),.int (p.2:Nat),.ref hB.length],k):=fun _=>rfl
      have t2:∀x y:Dt,[x,y].length<=sizeLine:=fun _ _=>by simp[sizeLine]
      have t1:∀x:Dt,[x].length<=sizeLine:=fun _=>by simp[sizeLine]
      have x0:∀k:HI,BA (lE (some p) Lp ps) (.int 0) k=some (.str "split",k):=fun _=>rfl
      have x1:∀k:HI,BA (lE (some p) Lp ps) (.int 1) k=some (CA p,k):=fun _=>rfl
      simp only[uH,wK,YB,zfO,zfP,if_true,zfQ,zfR,Nat.reduceAdd,Nat.reduceSub,List.replicate,zfX,zfW,XA,pB,bH,NA,oA,Nat.zero_le,zfT,zfS,ZA,AE,gE,EA,sA,DA,zfM,zfN,uA,s2,AH,QG,e,CB,ND,SA,x0,x1,T1,VP,c1,c2,OB]
    · show Fp lo h' (.split st p acc) _;simp only[Fp];exact⟨sr,hB.length,Dp,rfl,l1,l2,hs',hb,T'⟩
 · refine⟨d,h',a,s,?_,B,AN.up (by omega) (fun k xs hk hx=>hx),U,O'⟩;simp only[uH,wK,YB,zfO,zfP,if_true,zfQ,zfR,Nat.reduceAdd,Nat.reduceSub,List.replicate,zfX,zfW,XA,pB,bH,NA,oA,Nat.zero_le,zfT,zfS,ZA,AE,gE,EA,sA,DA,zfM,zfN,uA,s2,AH,QG,e,BE,OB]
theorem Uw{c:Nat}{g:YA}(o:aB c g)(cl:FF c g){gs:List (List fD)}(ok:Yl c gs)(sg:∀x∈gs,x.length<=1000){tag:Option (Nat×Nat)}{bs:List YA}{ps:List (Nat×Nat)}(h:ZD c g gs=some (tag,bs,ps)):(∀p∈ps,p.1<c/\p.2<c/\p.1≠p.2)/\ps.length<=1000/\(∀b∈bs,CD c b ps [])/\bs.length<=1000:=by
 cases gs with
 | cons grp gs=>
  simp only[ZD,Option.some.injEq,Prod.mk.injEq]at h;obtain⟨_,rfl,rfl⟩:=h;have gk:=ok grp (by simp);refine⟨fun p hp=>?_,by simp;exact sg grp (by simp),fun b hb=>?_,by simp;exact sg grp (by simp)⟩
  · obtain⟨x,hx,rfl⟩:=mem_map.mp hp;obtain⟨a,b,d,_⟩:=gk x hx;exact⟨a,b,d⟩
  · obtain⟨k,_,rfl⟩:=mem_map.mp hb;have:=cW (k:=k) grp gk g 0 [] o (RV cl);rw[zfW]at this;exact this
 | nil=>
  simp only[ZD]at h;cases lp:NE c g with
  | none=>rw[lp]at h;cases h
  | some p=>
   rw[lp]at h;simp only[Option.some.injEq,Prod.mk.injEq]at h;obtain⟨_,rfl,rfl⟩:=h;have hp:p∈LA c:=mem_of_find?_eq_some lp;obtain⟨q1,q2⟩:=Vm.mp hp;refine⟨fun x hx=>?_,by simp,fun b hb=>?_,by have:=ZK (g p.1 p.2);simp;omega⟩
   · rw[mem_singleton.mp hx];omega
   · obtain⟨w,_,rfl⟩:=mem_map.mp hb;have:=mX o (show p.1<c by omega) (show p.2<c by omega) (by omega) (2^w) (RV cl);rw[zfW]at this;exact this
theorem N8(n:Nat):NF (n+1)=jC 4 9 (LK (NF n)):=rfl
theorem Dh{c m:Nat}{ls:List Ln}(hc1:1<=c)(hc:c<=8)(hl:ls.length<=100)(lok:∀x∈ls,x.1<c):∀n,DT c m ls n:=by
 intro n
 induction n with
 | zero=>intro f gs Mp made b o pd P h K;obtain⟨a,s,q⟩:=K.ex;exact q.elim
 | succ n IH=>
  intro f gs Mp made b o pd P h K;obtain⟨a0,s0,q0⟩:=K.ex;obtain⟨d,h1,e1,x,sr,st,g,rfl,r1,r2,r3,r4,r5,r6,r7⟩:=CV (show c<=100 by omega) K.of K.net (pd:=pd) (P:=P) (fun e=>K.prs.seq e) K.pc K.wt (by have:=K.lp;omega);have U1:Up h h1:=⟨r2,r3⟩;generalize hX:NF (n+1) [.ref o,.ref (b+c),pd,.lst Mp] h=X;rw[N8]at hX;simp only[LK,YB,zfO,zfP,if_true,zfQ,zfR,Nat.reduceAdd,Nat.reduceSub,List.replicate,zfX,zfW,XA,pB,rB,SA,NA,sA,zfM,zfN,uA,oA,zf3,zfT,zfS,ZA,EA,DA,yB,UB,pD,zfU,e1,uB,gB,FL]at hX;have O1:Jp h1 o ls m made:=K.ob.up U1;rcases r7 with⟨rfl,em⟩ | ⟨bg,rfl,bl,Ng,cl,ne,_⟩
  · refine⟨.tup [.str "clash", .tup [.str "threes", .ref sr]],h1,.clash (.zaz st),made,?_,.inl ⟨st,g,r5,em,rfl,rfl⟩,⟨_,rfl,?_⟩,U1.l,O1⟩
    · simp only[nV,oA,fB,if_true,CB,ND,SA,NA,sA,DA,zfM,zfN,uA,zfO,zfP,Nat.reduceAdd,VP,BE,OB]at hX;exact hX.symm
    · show Fp h.length h1 (.zaz st) _;simp only[Fp];exact⟨sr,rfl,r1,r4⟩
  · have EN:zaA c f st (MC c g):=⟨g,r5,cl,ne,rfl⟩;obtain⟨okg,clg,neg⟩:=EN.ok K.of;have Ng':=Ry Ng;generalize MC c g=g' at EN okg clg neg Ng';obtain⟨rest,eb⟩:=Hq (show c<=100 by omega) (Pz okg neg) (show ls.length<=1000 by omega) Ng';obtain⟨h2,hh2⟩:∃h2:HI,h2=h1++.lst ((eD c g' ls).map pA)::rest:=⟨_,rfl⟩
    rw[<- hh2]at eb;have U2:Up h1 h2:=hh2 ▸ Up.app _ _;have hb2:h2[h1.length]?=some (.lst ((eD c g' ls).map pA)):=by rw[hh2];simp
    have O2:=O1.up U2;have nl:=Ng'.len;have u1:=fun(h:HI)=>xF (h:=h) (i:=2) (j:=(c:Int)) (Or.inl ⟨by decide,by decide⟩)
    have g2:(2:Int)*(c:Int)=((2*c:Nat):Int):=by omega
    have fL:=fun(d:Dt)=>ON (x := "Search") (k := "lengths") O1 (V6)
    have fl1:=fL .non;simp only[V3,fB,zf4,if_false,EC,XA,pB,rB,SA,NA,sA,zfM,zfN,uA,oA,zf3,zfT,zfS,ZA,EA,DA,yB,UB,pD,zfU,sD,nl,u1,g2,bP,fl1,eb]at hX;rcases GX (n:=2*c) (a:=h1.length) (by omega) (by omega) (eD c g' ls) (YX g' lok) (VW hc g' hl) h2 hb2 with⟨t,h3,sat,fr,et⟩ | ⟨cs,PP,k,r,h3,R,fr,hr,et,rl⟩
    · have U3:Up h2 h3:=B0 fr;have O3:=O2.up U3;obtain⟨h4,U4,es⟩:=L9 ((U2.trans U3).net Ng') okg (show c<=100 by omega) (K.grp.up (U1.trans (U2.trans U3)).l) K.og K.sg;have O4:=O3.up U4;simp only[et,XA,pB,rB,SA,NA,sA,zfM,zfN,uA,oA,zf3,zfT,zfS,ZA,EA,DA,yB,UB,pD,zfU,uB,gB,vF,Wc,fB,zf4,if_false,EC]at hX;have UU:Up h h4:=U1.trans (U2.trans (U3.trans U4));cases sp:ZD c g' gs with
      | none=>rw[sp]at es;have esa:=Q7 (c:=c) (by omega) (FB (2*c) t) h4;refine⟨.tup [.str "laid", .lst (vD c (FB (2*c) t))],h4,.laid t,made,?_,.inr ⟨st,g',EN,.inr ⟨t,sat,.inl ⟨sp,rfl,rfl⟩⟩⟩,rfl,UU.l,O4⟩;simp only[es,XA,pB,rB,SA,NA,sA,zfM,zfN,uA,oA,zf3,zfT,zfS,ZA,EA,DA,yB,UB,pD,zfU,uB,gB,FL,nV,fB,if_true,sD,nl,CB,ND,esa,zfO,zfP,Nat.reduceAdd,VP,BE,OB]at hX;exact hX.symm
      | some v=>
       obtain⟨tag,bs,ps⟩:=v;rw[sp]at es;obtain⟨Lp,A,es⟩:=es;have fm:=ON (x := "Search") (k := "made") O4 (xZ);have fM:=ON (x := "Search") (k := "most") O4 (Og);have nn:yG (lE tag Lp ps)=false:=by cases tag<;>rfl
       simp only[es,XA,pB,rB,SA,NA,sA,zfM,zfN,uA,oA,zf3,zfT,zfS,ZA,EA,DA,yB,UB,pD,zfU,uB,gB,FL,nn,fB,zf4,if_false,EC,bP,fm,fM,LP]at hX;by_cases lm:m<=made
       · refine⟨.tup [.str "open", .non],h4,.opn,made,?_,.inr ⟨st,g',EN,.inr ⟨t,sat,.inr ⟨tag,bs,ps,sp,.inl ⟨lm,rfl,rfl⟩⟩⟩⟩,rfl,UU.l,O4⟩;have dg:decide (((m:Nat):Int)<=((made:Nat):Int))=true:=decide_eq_true (by omega);simp only[dg,oA,fB,if_true,CB,ND,SA,NA,DA,zfO,zfP,Nat.reduceAdd,VP,BE,OB]at hX;exact hX.symm
       · have dg:decide (((m:Nat):Int)<=((made:Nat):Int))=false:=decide_eq_false (by omega);have bok:=HS okg K.og sp;obtain⟨pc,pl,wb,lb⟩:=Uw okg clg K.og K.sg sp;obtain⟨h5,hh5⟩:∃h5:HI,h5=h4.set o (.ins "Search" [("lengths", .lst (ls.map rC)),("most", .int (m:Nat)),("made", .int ((made+1:Nat):Int))]):=⟨_,rfl⟩
         have ol:=(zfY O4).1;have O5:Jp h5 o ls m (made+1):=by unfold Jp;rw[hh5,getElem?_set_self ol]
         have U5:UpL h4 h5:=hh5 ▸ UpL.set O4;have l5:h5.length=h4.length:=by rw[hh5,length_set]
         have sf:=HN (x := "Search") (k := "made") (v:=.int ((made+1:Nat):Int)) (l:=[some (.ref o),some (.ref (b+c)),some pd,some (.lst Mp),some (.tup [.ref (bg+c),.ref sr]),some (.ref (bg+c)),some (.ref sr),some (.tup [.str "times", .lst (uC (2*c) (FB (2*c) t))]),some (lE tag Lp ps)]) O4 (by simp);rw[Er,<- hh5]at sf;have m1:((made:Nat):Int)+1=((made+1:Nat):Int):=by omega
         have hs5:h5[sr]?=some (.lst (st.map XD)):=U5.2 _ _ ((U2.trans (U3.trans U4)).get r4);have qb:∃st0,tE (lC c m ls n) tag st0 gs.tail bs (made+1) [] a0 s0:=by
          rcases q0 with⟨st',g1,k1,k2,_,_⟩ | ⟨st',g1,k1,k⟩
          · have:=EN.jl K.of k1;rw[k2]at this;cases this
          · have eg:=EN.unique K.of k1;subst eg;rcases k with⟨cs',P',k',R',_,_⟩ | ⟨t',ht',k⟩
            · exact(DS R' sat).elim
            · rcases k with⟨sp',_,_⟩ | ⟨tag',bs',ps',sp',k⟩
              · rw[sp]at sp';cases sp'
              · rw[sp]at sp';cases sp';rcases k with⟨lm',_,_⟩ | ⟨lm',k⟩
                · omega
                · exact⟨_,k⟩
         obtain⟨st0,qb⟩:=qb;obtain⟨d,h',a,s,e6,B,AN,U6,O6⟩:=N6 IH (tag:=tag) (st:=st) (Mp:=Mp.drop 1) (sr:=sr) (lo:=h.length) (hB:=h5) K.og.tail (fun x hx=>K.sg x (mem_of_mem_tail hx)) (Hg (K.grp.up (UU.l.trans U5))) pc pl qb bok wb (A.imp fun _ _ z=>z.up U5) (by omega) O5 hs5 r1 (by have:=UU.1;omega);refine⟨d,h',a,s,?_,.inr ⟨st,g',EN,.inr ⟨t,sat,.inr ⟨tag,bs,ps,sp,.inr ⟨by omega,B⟩⟩⟩⟩,AN,UU.l.trans (U5.trans U6),O6⟩;have mt:=oS (x := "Search") (m := "look_at_branches") (F:=uH (NF n)) (ga:=cA (eV 8) (cA (eV 6) (cA (DP (eV 3) (OL (eC (.int 1))) pV) kA))) (l:=[some (.ref o),some (.ref (b+c)),some pd,some (.lst Mp),some (.tup [.ref (bg+c),.ref sr]),some (.ref (bg+c)),some (.ref sr),some (.tup [.str "times", .lst (uC (2*c) (FB (2*c) t))]),some (lE tag Lp ps)]) O5 Pg;have cf:GG Mp (some 1) none=Mp.drop 1:=Sq Mp 1;have esl:DP (eV 3) (OL (eC (.int 1))) pV [some (.ref o),some (.ref (b+c)),some pd,some (.lst Mp),some (.tup [.ref (bg+c),.ref sr]),some (.ref (bg+c)),some (.ref sr),some (.tup [.str "times", .lst (uC (2*c) (FB (2*c) t))]),some (lE tag Lp ps)] h5=some (.lst (Mp.drop 1),h5):=by simp[cf,TB]
         simp only[dg,fB,zf4,if_false,EC,XA,pB,rB,SA,NA,sA,zfM,zfN,uA,oA,zf3,zfT,zfS,ZA,EA,DA,yB,UB,pD,zfU,bP,fm,FZ,uD,m1,sf,CB,gU,mt,esl,e6,OB]at hX;exact hX.symm
    · have U3:Up h2 h3:=B0 fr;have UU:Up h h3:=U1.trans (U2.trans U3);refine⟨.tup [.str "clash", .tup [.str "ring", .ref sr,.ref r]],h3,.clash (.ring st cs PP k),made,?_,.inr ⟨st,g',EN,.inl ⟨cs,PP,k,R,rfl,rfl⟩⟩,⟨_,rfl,?_⟩,UU.l,O2.up U3⟩
      · simp only[et,XA,pB,rB,SA,NA,sA,zfM,zfN,uA,oA,zf3,zfT,zfS,ZA,EA,DA,yB,UB,pD,zfU,uB,gB,vF,decide_true,fB,if_true,CB,ND,zfO,zfP,Nat.reduceAdd,V1,VP,BE,OB]at hX;exact hX.symm
      · show Fp h.length h3 (.ring st cs PP k) _;simp only[Fp];refine⟨sr,r,rfl,r1,?_,(U2.trans U3).get r4,hr⟩;have:=(U1.trans U2).1;omega
theorem IW{c:Nat}(hc:c<=8){f:YA}(of:aB c f):∃st,(∃g,Steps c f st g/\mC c g=true)\/(∃g,zaA c f st g):=by
 have N:=UG [] c f;have hl:=UK c c;have hcc:c*c<=8*8:=Nat.mul_le_mul hc hc;obtain⟨d,h1,e1,x,sr,st,g,rfl,r1,r2,r3,r4,r5,r6,r7⟩:=CV (show c<=100 by omega) of N (pd:=.lst ((LA c).map CA)) (P:=LA c) (fun e=>rfl) (fun p hp=>by
  obtain⟨q1,q2⟩:=Vm.mp hp;omega) (lX c f) (by unfold LA;omega)
 rcases r7 with⟨rfl,em⟩ | ⟨bg,rfl,bl,Ng,cl,ne,_⟩
 · exact⟨st,.inl ⟨g,r5,em⟩⟩
 · exact⟨st,.inr ⟨_,g,r5,cl,ne,rfl⟩⟩
theorem u9{c m:Nat}{ls:List Ln}(hc1:1<=c)(hc:c<=8)(hl:ls.length<=100)(lok:∀x∈ls,x.1<c):∀(n:Nat)(f:YA)(gs:List (List fD))(made:Nat),aB c f->Yl c gs->made<=m->m+1<=made+n->∃a s,lC c m ls n f gs made a s:=by
 intro n
 induction n with
 | zero=>intro f gs made _ _ h1 h2;omega
 | succ n ih=>
  intro f gs made of og h1 h2;obtain⟨st,⟨g,s,em⟩ | ⟨g,EN⟩⟩:=IW hc of
  · exact⟨_,_,.inl ⟨st,g,s,em,rfl,rfl⟩⟩
  · obtain⟨okg,clg,neg⟩:=EN.ok of;rcases GX (n:=2*c) (a:=0) (by omega) (by omega) (eD c g ls) (YX g lok) (VW hc g hl) [.lst ((eD c g ls).map pA)] rfl with⟨t,h3,sat,fr,et⟩ | ⟨cs,PP,k,r,h3,R,fr,hr,et,rl⟩
    · cases sp:ZD c g gs with
      | none=>exact⟨_,_,.inr ⟨st,g,EN,.inr ⟨t,sat,.inl ⟨sp,rfl,rfl⟩⟩⟩⟩
      | some v=>
       obtain⟨tag,bs,ps⟩:=v;by_cases lm:m<=made
       · exact⟨_,_,.inr ⟨st,g,EN,.inr ⟨t,sat,.inr ⟨tag,bs,ps,sp,.inl ⟨lm,rfl,rfl⟩⟩⟩⟩⟩
       · have bok:=HS okg og sp;have go:∀(bs:List YA),(∀b∈bs,aB c b)->∀(md:Nat)(acc:List Tr),md<=m->m+1<=md+n->∃a s,tE (lC c m ls n) tag st gs.tail bs md acc a s:=by
          intro bs
          induction bs with
          | nil=>intro _ md acc _ _;exact⟨_,_,rfl,rfl⟩
          | cons b bs ih2=>
           intro hb md acc m1 m2;obtain⟨a,s,q⟩:=ih b gs.tail md (hb b (by simp)) og.tail m1 m2;obtain⟨z1,z2,_⟩:=rO n b _ md _ _ q;have z3:=z2 m1;cases a with
           | clash tr=>obtain⟨a',s',q'⟩:=ih2 (fun x hx=>hb x (by simp[hx])) s (acc++[tr]) z3 (by omega);exact⟨a',s',.inl ⟨tr,s,q,q'⟩⟩
           | opn=>exact⟨_,_,.inr ⟨(fun z=>by cases z),q⟩⟩
           | laid t=>exact⟨_,_,.inr ⟨(fun z=>by cases z),q⟩⟩
         obtain⟨a,s,q⟩:=go bs bok (made+1) [] (by omega) (by omega);exact⟨a,s,.inr ⟨st,g,EN,.inr ⟨t,sat,.inr ⟨tag,bs,ps,sp,.inr ⟨by omega,q⟩⟩⟩⟩⟩
    · exact⟨_,_,.inr ⟨st,g,EN,.inl ⟨cs,PP,k,R,rfl,rfl⟩⟩⟩
noncomputable def CG:Wd->Dt
 | .opn=>.str "open"
 | .laid=>.str "laid"
 | .clash=>.str "clash"
structure L0(c:Nat)(h:HI)(a:Nat)(fs:List Fact):Prop where
 ds:∃ds,h[a]?=some (.lst ds)/\Um h ds fs
 ok:∀x∈fs,cD c x
 sg:∀x∈sG fs,x.length<=1000
 len:fs.length<=100
theorem SK:∀fs:List Fact,(KC fs).length<=fs.length
 | []=>zf1 _
 | .long x::fs=>by have:=SK fs;simp only[KC,zfO];omega
 | .ways x::fs=>by have:=SK fs;simp only[KC,zfO];omega
 | .one x::fs=>by have:=SK fs;simp only[KC,zfO];omega
theorem oJ{c:Nat}:∀fs:List Fact,(∀x∈fs,cD c x)->∀x∈KC fs,x.1<c
 | [],_,x,hx=>nomatch hx
 | .long y::fs,h,x,hx=>by
  simp only[KC,mem_cons]at hx;rcases hx with rfl | hx
  · exact h (.long x) (by simp)
  · exact oJ fs (fun z hz=>h z (by simp[hz])) x hx
 | .ways y::fs,h,x,hx=>oJ fs (fun z hz=>h z (by simp[hz])) x hx
 | .one y::fs,h,x,hx=>oJ fs (fun z hz=>h z (by simp[hz])) x hx
theorem pL{c:Nat}:∀fs:List Fact,(∀x∈fs,cD c x)->Yl c (sG fs)
 | [],_,x,hx=>nomatch hx
 | .one y::fs,h,x,hx=>by
  simp only[sG,mem_cons]at hx;rcases hx with rfl | hx
  · exact h (.one x) (by simp)
  · exact pL fs (fun z hz=>h z (by simp[hz])) x hx
 | .ways y::fs,h,x,hx=>pL fs (fun z hz=>h z (by simp[hz])) x hx
 | .long y::fs,h,x,hx=>pL fs (fun z hz=>h z (by simp[hz])) x hx
def pU(c m:Nat)(fs:List Fact)(n:Nat)(a:Ans)(s:Nat):Prop:=lC c m (KC fs) n (fC vB fs) (sG fs) 0 a s
theorem Bh {h:HI} (ls:List Ln) (m:Nat):xK [.ref h.length,.lst (ls.map rC),.int (m:Nat)] (h++[.ins "Search" []])=some (.non,h++[.ins "Search" [("lengths", .lst (ls.map rC)),("most", .int (m:Nat)),("made", .int ((0:Nat):Int))]]):=by
 have n1:¬((("lengths" :Str))=(("most" :Str))):=by decide +kernel
 have n2:¬((("lengths" :Str))=(("made" :Str))):=by decide +kernel
 have n3:¬((("most" :Str))=(("made" :Str))):=by decide +kernel
 have p1:WE "lengths" (.lst (ls.map rC)) []=([("lengths", .lst (ls.map rC))]:List (Str×Dt)):=rfl;have p2:WE "most" (.int (m:Nat)) [("lengths", .lst (ls.map rC))]=([("lengths", .lst (ls.map rC)),("most", .int (m:Nat))]:List (Str×Dt)):=by simp only[WE,if_neg n1]
 have p3:WE "made" (.int 0) [("lengths", .lst (ls.map rC)),("most", .int (m:Nat))]=([("lengths", .lst (ls.map rC)),("most", .int (m:Nat)),("made", .int 0)]:List (Str×Dt)):=by simp only[WE,if_neg n2,if_neg n3]
 have s1:=HN (h:=h++[.ins "Search" []]) (n:=h.length) (x := "Search") (k := "lengths") (v:=.lst (ls.map rC)) (l:=[some (.ref h.length),some (.lst (ls.map rC)),some (.int (m:Nat))]) (fs:=[]) (by simp) (by simp);have s2:=HN (h:=h++[.ins "Search" [("lengths", .lst (ls.map rC))]]) (n:=h.length) (x := "Search") (k := "most") (v:=.int (m:Nat)) (l:=[some (.ref h.length),some (.lst (ls.map rC)),some (.int (m:Nat))]) (fs:=[("lengths", .lst (ls.map rC))]) (by simp) (by simp);have s3:=HN (h:=h++[.ins "Search" [("lengths", .lst (ls.map rC)),("most", .int (m:Nat))]]) (n:=h.length) (x := "Search") (k := "made") (v:=.int 0) (l:=[some (.ref h.length),some (.lst (ls.map rC)),some (.int (m:Nat))]) (fs:=[("lengths", .lst (ls.map rC)),("most", .int (m:Nat))]) (by simp) (by simp);rw[p1]at s1;rw[p2]at s2;rw[p3]at s3;have hs:∀x y:Ob,(h++[x]).set h.length y=h++[y]:=fun x y=>by simp
 rw[hs]at s1 s2 s3;simp only[xK,eQ,YB,zfO,zfP,if_true,zfQ,zfR,Nat.reduceAdd,Nat.reduceSub,List.replicate,zf3,XA,FZ,sA,DA,zfM,zfN,uA,oA,s1,ZA,s2,s3,Bg];rfl
theorem Mq{c m:Nat}(hc1:1<=c)(hc:c<=8){h:HI}{a:Nat}{fs:List Fact}(F:L0 c h a fs)(ex:∃A s,pU c m fs 22 A s) :
 ∃A s x h',pU c m fs 22 A s/\mI [.int (c:Nat),.ref a,.int (m:Nat)] h=some (.tup [CG A.wd,x,.int (s:Nat)],h')/\zaq h.length h' c A (.tup [CG A.wd,x])/\UpL h h':=by
 obtain⟨ds,ha,D⟩:=F.ds;have dl:=D.len;have fl:=F.len;have hz:ds.length<sizeLine:=by rw[dl];simp[sizeLine];omega
 have eL:=M8 ha hz D;obtain⟨h1,hh1⟩:∃h1:HI,h1=h++[.ins "Search" [("lengths", .lst ((KC fs).map rC)),("most", .int (m:Nat)),("made", .int ((0:Nat):Int))]]:=⟨_,rfl⟩
 have ei:=Bh (h:=h) (KC fs) m;rw[<- hh1]at ei;have U1:Up h h1:=hh1 ▸ Up.app _ _;have O1:Jp h1 h.length (KC fs) m 0:=by unfold Jp;rw[hh1];simp
 obtain⟨b,h2,eN,N2,U2⟩:=R8 (show c<=1000 by omega) (U1.get ha) (D.up U1.l) F.ok;have eP:=rR (show c<=1000 by omega) h2;obtain⟨h3,hh3⟩:∃h3:HI,h3=h2++[.lst ((LA c).map CA)]:=⟨_,rfl⟩
 rw[<- hh3]at eP;have U3:Up h2 h3:=hh3 ▸ Up.app _ _;have UU:Up h h3:=U1.trans (U2.trans U3);obtain⟨Mp,GA,eG⟩:=S8 (UU.get ha) hz (D.up UU.l);have pl:=UK c c;have hcc:c*c<=8*8:=Nat.mul_le_mul hc hc;obtain⟨d,h',A,s,e,L,AN,U4,O4⟩:=Dh (m:=m) hc1 hc (show(KC fs).length<=100 by have:=SK fs;omega) (oJ fs F.ok) 22 (fC vB fs) (sG fs) Mp 0 b h.length (.ref h2.length) (LA c) h3
  ⟨ex,xH fs F.ok _ (WF c),pL fs F.ok,F.sg,U3.net N2,GA,.inr ⟨h2.length,rfl,by rw[hh3];simp⟩,(fun p hp=>by obtain⟨q1,q2⟩:=Vm.mp hp;omega),lX c _,by unfold LA;omega,(O1.up U2).up U3⟩
 have lo:h.length<=h3.length:=UU.1;have fm:=ON (x := "Search") (k := "made") O4 (xZ);have mt:=oS (h:=h1) (x := "Search") (m := "look") (F:=NF 22) (ga:=cA (FA JK [] (cA (eV 0) (cA (eV 1) kA))) (cA (FA iI [] (cA (eV 0) kA)) (cA (FA FK [] (cA (eV 1) kA)) kA))) (l:=[some (.int (c:Nat)),some (.ref a),some (.int (m:Nat)),some (.ref h.length),none]) O1 SX;obtain⟨x,hx⟩:∃x,d=.tup [CG A.wd,x]:=by
  cases A with
  | opn=>exact⟨_,AN⟩
  | laid t=>exact⟨_,AN⟩
  | clash tr=>obtain⟨x,e,_⟩:=AN;exact⟨x,e⟩
 subst hx;refine⟨A,s,x,h',L,?_,AN.up lo (fun k xs hk hx=>hx),(UU.l).trans U4⟩;simp only[mI,KR,YB,zfO,zfP,if_true,zfQ,zfR,Nat.reduceAdd,Nat.reduceSub,List.replicate,zfX,zfW,XA,pB,Tt,rB,SA,NA,sA,zfM,zfN,uA,oA,zf3,eL,ei,nq,zfT,zfS,ZA,gU,mt,eN,eP,eG,e,CB,ND,EA,DA,yB,UB,pD,zfU,bP,fm,V1,OB]
def Kp(c:Nat)(f:YA)(s:Nat->Int×Int):Prop:=∀i<c,∀j<c,i≠j->(f i j).testBit (zB (s i) (s j))=true
theorem Kp.nar{c:Nat}{f:YA}{s:Nat->Int×Int}(ok:∀i,i<c->FD (s i))(h:Kp c f s){i j:Nat}(hi:i<c)(hj:j<c)(hij:i≠j){m:Nat}(hm:m.testBit (zB (s i) (s j))=true):Kp c (kB f i m j) s:=by
 have hw:=pF (ok i hi) (ok j hj);have hb:(f i j&&&m).testBit (zB (s i) (s j))=true:=by rw[Nat.testBit_and,h i hi j hj hij,hm];rfl
 intro a ha b hb' hab;by_cases e1:a=i/\b=j
 · obtain⟨rfl,rfl⟩:=e1;rw[qG f m hij];exact hb
 · by_cases e2:a=j/\b=i
   · obtain⟨rfl,rfl⟩:=e2;rw[GJ,uN (ok b hb') (ok a ha),bF _ (by omega),show 12-(12-zB (s b) (s a))=zB (s b) (s a) by omega];exact hb
   · rw[SF f e1 e2];exact h a ha b hb' hab
theorem Kp.zbm{c:Nat}{f:YA}{s:Nat->Int×Int}(ok:∀i,i<c->FD (s i)){i j m:Nat}(hi:i<c)(hj:j<c)(hij:i≠j)(o:aB c f)(h:Kp c (kB f i m j) s):Kp c f s/\m.testBit (zB (s i) (s j))=true:=by
 have h1:=h i hi j hj hij;rw[qG f m hij,Nat.testBit_and,Bool.and_eq_true]at h1;refine⟨fun a ha b hb hab=>?_,h1.2⟩;by_cases e1:a=i/\b=j
 · obtain⟨rfl,rfl⟩:=e1;exact h1.1
 · by_cases e2:a=j/\b=i
   · obtain⟨rfl,rfl⟩:=e2;have hw:=pF (ok b hb) (ok a ha);rw[o.tn b hb a ha,uN (ok b hb) (ok a ha),bF _ (by omega),show 12-(12-zB (s b) (s a))=zB (s b) (s a) by omega];exact h1.1
   · have:=h a ha b hb hab;rw[SF f e1 e2]at this;exact this
theorem Kp.sub{c:Nat}{f g:YA}{s:Nat->Int×Int}(h:Kp c g s)(q:jE c g f):Kp c f s:=fun i hi j hj hij=>Nm.mp (q i hi j hj) _ (h i hi j hj hij)
theorem Kp.steps{c:Nat}{f g:YA}{st:List (Nat×Nat×Nat)}{s:Nat->Int×Int}(ok:∀i,i<c->FD (s i))(h:Steps c f st g)(q:Kp c f s):Kp c g s:=by
 induction h with
 | nil=>exact q
 | @snoc st g i k j h hi hk hj d ne n ih=>refine Kp.nar ok ih hi hj d.2.2 ?_;unfold Rm;rw[Nat.testBit_and,ih i hi j hj d.2.2,Bool.true_and];exact(mL _ _ _).mpr ⟨_,_,pF (ok i hi) (ok k hk),ih i hi k hk d.1,pF (ok k hk) (ok j hj),ih k hk j hj d.2.1,WW (ok i hi) (ok k hk) (ok j hj)⟩
theorem Kp.cut{c:Nat}{f:YA}{s:Nat->Int×Int}(h:Kp c f s):Kp c (MC c f) s:=fun i hi j hj hij=>by rw[ME f hi hj];exact h i hi j hj hij
theorem Kp.zb4{c:Nat}{f:YA}{s:Nat->Int×Int}(h:Kp c (MC c f) s):Kp c f s:=fun i hi j hj hij=>by have:=h i hi j hj hij;rw[ME f hi hj]at this;exact this
theorem Ak(k:Nat):(0:Nat).testBit k=false:=by simp
theorem Kp.ne{c:Nat}{f:YA}{s:Nat->Int×Int}(h:Kp c f s)(d:∀i<c,f i i=64):mC c f=false:=by
 cases z:mC c f with
 | false=>rfl
 | true=>
  obtain⟨i,hi,j,hj,e⟩:=Ul.mp z;by_cases hij:i=j
  · subst hij;rw[d i hi]at e;cases e
  · have:=h i hi j hj hij;rw[e,Ak]at this;cases this
theorem bL{c:Nat}{f:YA}(d:∀i<c,f i i=64){i j:Nat}(hij:i≠j)(m:Nat):∀k<c,kB f i m j k k=64:=fun k hk=>by rw[SF f (fun q=>hij (q.1.symm.trans q.2)) (fun q=>hij (q.2.symm.trans q.1))];exact d k hk
def CI(s:Nat->Int×Int)(m:fD):Bool:=m.2.1.testBit (zB (s m.1) (s m.2.2))
noncomputable def eM(s:Nat->Int×Int)(p:Nat):Int:=if p%2=0 then(s (p/2)).1 else(s (p/2)).2
theorem rK(s:Nat->Int×Int)(i:Nat):eM s (2*i)=(s i).1:=by unfold eM;rw[if_pos (by omega),show 2*i/2=i by omega]
theorem sK(s:Nat->Int×Int)(i:Nat):eM s (2*i+1)=(s i).2:=by unfold eM;rw[if_neg (by omega),show(2*i+1)/2=i by omega]
noncomputable def Alike(T t:Nat->Int)(p q:Nat):Prop:=(T p<T q->t p<t q)/\(T p=T q->t p=t q)/\(T q<T p->t q<t p)
theorem Alike.symm{T t:Nat->Int}{p q:Nat}(h:Alike T t p q):Alike T t q p:=⟨h.2.2,fun e=>(h.2.1 e.symm).symm,h.1⟩
theorem wY{g x y:Int}(hg:1<=g)(h:x<y):g*x-g*y<=-1:=by rw[<- Int.mul_sub];have h1:g*(x-y)<=g*(-1):=Int.mul_le_mul_of_nonneg_left (by omega) (by omega);omega
theorem vY{g x y:Int}(hg:1<=g)(h:x<=y):g*x-g*y<=0:=by rw[<- Int.mul_sub];have h1:g*(x-y)<=g*0:=Int.mul_le_mul_of_nonneg_left (by omega) (by omega);omega
theorem pX{g:Int}(hg:1<=g){T:Nat->Int}{p q:Nat}{a mx mn z:Int}(z1:z<=mx)(z2:mn<=z)(lt:z<a->T p<T q)(eq:z=a->T p=T q)(gt:a<z->T q<T p):∀e∈JG p q a mx mn,g*T e.1-g*T e.2.1<=e.2.2:=by
 intro e he;unfold JG at he;rcases mem_append.mp he with he | he
 · by_cases c1:mx<=a
   · rw[if_pos c1]at he;rw[mem_singleton.mp he];by_cases c2:mx<a
     · rw[if_pos c2];exact wY hg (lt (by omega))
     · rw[if_neg c2];refine vY hg (x:=T p) (y:=T q) ?_;rcases Int.lt_trichotomy z a with y | y | y
       · have:=lt y;omega
       · have:=eq y;omega
       · omega
   · rw[if_neg c1]at he;exact nomatch he
 · by_cases c1:a<=mn
   · rw[if_pos c1]at he;rw[mem_singleton.mp he];by_cases c2:a<mn
     · rw[if_pos c2];exact wY hg (gt (by omega))
     · rw[if_neg c2];refine vY hg (x:=T q) (y:=T p) ?_;rcases Int.lt_trichotomy z a with y | y | y
       · omega
       · have:=eq y;omega
       · have:=gt y;omega
   · rw[if_neg c1]at he;exact nomatch he
theorem vf:∀p∈Il,pz (Il.idxOf p)=p:=by decide +kernel
theorem fU{s o:Int×Int}(h1:FD s)(h2:FD o):pz (zB s o)=(XB s.1 o.1 o.2,XB s.2 o.1 o.2):=vf _ (CN h1 h2)
theorem Ow{s o:Int×Int}(h1:FD s)(h2:FD o){m:Nat}(hm:m.testBit (zB s o)=true)(side:Nat)(hs:side<2):((XB (if side=0 then s.1 else s.2) o.1 o.2:Nat):Int)∈VB side m:=by unfold VB;refine mem_map.mpr ⟨zB s o,Wm.mpr ⟨pF h1 h2,hm⟩,?_⟩;unfold zs;rw[fU h1 h2];rcases(show side=0\/side=1 by omega)with rfl | rfl<;>rfl
theorem dX{c:Nat}{g:YA}{s:Nat->Int×Int}(ok:∀i,i<c->FD (s i))(q:Kp c g s){G:Int}(hG:1<=G){i j side:Nat}(hi:i<c)(hj:j<c)(hij:i≠j)(hs:side<2):∀e∈GF i j side (g i j),G*eM s e.1-G*eM s e.2.1<=e.2.2:=by
 have mem:=Ow (ok i hi) (ok j hj) (q i hi j hj hij) side hs;have ne:VB side (g i j) ≠ []:=fun z=>by rw[z]at mem;cases mem
 have mx:=(zN _ ne).2 _ mem;have mn:=(SG _ ne).2 _ mem;have pt:eM s (2*i+side)=(if side=0 then(s i).1 else(s i).2):=by
  rcases(show side=0\/side=1 by omega)with rfl | rfl
  · rw[Nat.add_zero,rK];rfl
  · rw[sK];rfl
 have okj:(s j).1<(s j).2:=ok j hj;intro e he;unfold GF at he;have zc:=GR (if side=0 then(s i).1 else(s i).2) (s j).1 (s j).2 okj;rcases mem_append.mp he with he | he
 · refine pX hG mx mn ?_ ?_ ?_ e he<;>rw[pt,rK]<;>intro z<;>rcases zc with⟨y,w⟩ | ⟨y,w⟩ | ⟨y,y',w⟩ | ⟨y,w⟩ | ⟨y,w⟩<;>rw[w]at z<;>omega
 · refine pX hG mx mn ?_ ?_ ?_ e he<;>rw[pt,sK]<;>intro z<;>rcases zc with⟨y,w⟩ | ⟨y,w⟩ | ⟨y,y',w⟩ | ⟨y,w⟩ | ⟨y,w⟩<;>rw[w]at z<;>omega
noncomputable def UL(c:Nat)(s:Nat->Int×Int)(x:Ln):Prop:=x.1<c/\x.2.1*((2*c+1:Nat):Int)<=(s x.1).2-(s x.1).1/\(s x.1).2-(s x.1).1<=x.2.2*((2*c+1:Nat):Int)
theorem uX{c:Nat}{g:YA}{s:Nat->Int×Int}(ok:∀i,i<c->FD (s i))(q:Kp c g s){ls:List Ln}(hl:∀x∈ls,UL c s x):∀e∈eD c g ls,eM s e.1-eM s e.2.1<=e.2.2:=by
 intro e he;unfold eD at he;rcases mem_append.mp he with he | he
 · rcases mem_append.mp he with he | he
   · obtain⟨i,hi,rfl⟩:=mem_map.mp he;simp only[rK,sK];have:(s i).1<(s i).2:=ok i (mem_range.mp hi);omega
   · obtain⟨x,hx,he⟩:=mem_flatMap.mp he;obtain⟨h1,h2,h3⟩:=hl x hx;unfold HC at he;simp only[mem_cons,not_mem_nil,or_false]at he;rcases he with rfl | rfl
     · simp only[rK,sK,Int.neg_mul];omega
     · simp only[rK,sK];omega
 · obtain⟨p,hp,he⟩:=mem_flatMap.mp he;obtain⟨p1,p2⟩:=oX hp;have h1:(1:Int)<=1:=by decide
   unfold DC at he;rcases mem_append.mp he with he | he
   · have:=dX ok q h1 (by omega) p2 (by omega) (by omega) e he;rw[Int.one_mul,Int.one_mul]at this;exact this
   · have:=dX ok q h1 (by omega) p2 (by omega) (by omega) e he;rw[Int.one_mul,Int.one_mul]at this;exact this
theorem lS{c m:Nat}{ls:List Ln}{s:Nat->Int×Int}(ok:∀i,i<c->FD (s i))(hb:∀g,Kp c g s->∃T:Nat->Int,∀e∈eD c g ls,T e.1-T e.2.1<=e.2.2):∀(n:Nat)(f:YA)(made:Nat)(a:Ans)(sp:Nat),lC c m ls n f [] made a sp->aB c f->(∀i<c,f i i=64)->Kp c f s->a.wd≠.clash
 | 0,_,_,_,_,h,_,_,_=>h.elim
 | n+1,f,made,a,sp,h,of,dg,q=>by
  rcases h with⟨st,g,h1,h2,rfl,rfl⟩ | ⟨st,g,EN,h⟩
  · have:=(q.steps ok h1).ne (h1.diag dg);rw[h2]at this;cases this
  · obtain⟨okg,clg,neg⟩:=EN.ok of;obtain⟨g0,s0,_,_,rfl⟩:=EN;have qg:Kp c (MC c g0) s:=(q.steps ok s0).cut;have dg':∀i<c,MC c g0 i i=64:=fun i hi=>by rw[ME g0 hi hi];exact s0.diag dg i hi
    generalize MC c g0=g at okg clg neg qg dg' h;rcases h with⟨cs,P,k,R,rfl,rfl⟩ | ⟨t,ht,h⟩
    · obtain⟨T,hT⟩:=hb _ qg;exact(FY (b:=T) hT R).elim
    · rcases h with⟨_,rfl,rfl⟩ | ⟨tag,bs,ps,hs,h⟩
      · intro z;cases z
      · rcases h with⟨_,rfl,rfl⟩ | ⟨_,h⟩
        · intro z;cases z
        · simp only[ZD]at hs;cases lp:NE c g with
          | none=>rw[lp]at hs;cases hs
          | some p=>
           rw[lp]at hs;simp only[Option.some.injEq,Prod.mk.injEq]at hs;obtain⟨_,rfl,_⟩:=hs;obtain⟨q1,q2⟩:=Vm.mp (mem_of_find?_eq_some lp);have p1:p.1<c:=by omega
           have hw:=qg p.1 p1 p.2 q2 (by omega);have wl:=pF (ok _ p1) (ok _ q2);have go:∀ws:List Nat,zB (s p.1) (s p.2)∈ws->∀(md:Nat)(acc:List Tr)(a:Ans)(sp:Nat),tE (lC c m ls n) tag st [] (ws.map fun w=>kB g p.1 (2^w) p.2) md acc a sp->a.wd≠.clash:=by
            intro ws
            induction ws with
            | nil=>intro z;cases z
            | cons w ws ih=>
             intro hm md acc a sp B;rcases B with⟨tr,m1,B1,B2⟩ | ⟨B1,_⟩
             · rcases mem_cons.mp hm with rfl | hm
               · exact absurd rfl (lS ok hb n _ md _ _ B1 (yE okg p1 q2 (by omega) _) (bL dg' (by omega) _) (qg.nar ok p1 q2 (by omega) (by rw[Nat.testBit_two_pow];simp)))
               · exact ih hm _ _ _ _ B2
             · exact B1
           exact go _ (Wm.mpr ⟨wl,hw⟩) _ _ _ _ h
noncomputable def RL:List Nat:=[1,2,3,4,6,7,8,12,14,15,16,24,28,30,31,32,36,38,39,64,72,96,108,110,111,128,144,192,216,224,252,254,255,256,288,292,294,295,512,576,584,768,864,876,878,879,1024,1152,1168,1536,1728,1752,1792,2016,2044,2046,2047,2048,3072,3200,3216,3584,3776,3800,3840,4064,4092,4094,4095,4096,6144,7168,7296,7312,7680,7872,7896,7936,8160,8188,8190,8191]
theorem wO:∀k<13,2^k∈RL:=by decide +kernel
theorem bT:∀m∈RL,Al m∈RL:=by decide +kernel
theorem ET:∀m∈RL,∀n∈RL,(m&&&n)=0\/(m&&&n)∈RL:=by decide +kernel
theorem D6:∀m∈RL,∀n∈RL,gH m n∈RL:=by decide +kernel
theorem MO:∀m∈RL,m≠0/\m<8192:=by decide +kernel
abbrev zA(w:Nat):Nat:=(pz w).1
abbrev zE(w:Nat):Nat:=(pz w).2
def pP(f:Nat->Nat)(m:Nat):Nat:=((OA m).map f).foldl Nat.min 4
def qP(f:Nat->Nat)(m:Nat):Nat:=((OA m).map f).foldl Nat.max 0
theorem Dw:∀m∈RL,(pP zA m<5/\qP zA m<5/\pP zE m<5/\qP zE m<5)/\∀w<13,m.testBit w=((decide (pP zA m<=zA w)&&decide (zA w<=qP zA m))&&(decide (pP zE m<=zE w)&&decide (zE w<=qP zE m))):=by decide +kernel
theorem qU{m w:Nat}(hm:m∈RL)(hw:w<13):m.testBit w=true↔(pP zA m<=zA w/\zA w<=qP zA m)/\(pP zE m<=zE w/\zE w<=qP zE m):=by rw[(Dw m hm).2 w hw];simp only[Bool.and_eq_true,decide_eq_true_eq]
theorem Jd{z:Nat}(h:z<5):z=0\/z=1\/z=2\/z=3\/z=4:=by omega
def DI(c:Nat)(g:YA):Prop:=∀i<c,∀j<c,i≠j->g i j∈RL
theorem wk:∀w:Nat,w<13->OA (2^w)=[w]:=by decide +kernel
theorem Ky{m:Nat}(hm:m<8192)(h0:m≠0)(h1:¬1<(OA m).length):∃w,w<13/\m=2^w:=by
 have ne:=eT hm h0;obtain⟨w,hw⟩:∃w,OA m=[w]:=by
  cases e:OA m with
  | nil=>exact absurd e ne
  | cons w r=>
   cases r with
   | nil=>exact⟨w,rfl⟩
   | cons x r=>rw[e]at h1;simp at h1
 have wm:w∈OA m:=by rw[hw];simp
 obtain⟨w13,wb⟩:=Wm.mp wm;refine⟨w,w13,YG hm (zdV w13) fun k hk=>?_⟩;rw[Nat.testBit_two_pow];by_cases z:w=k
 · subst z;rw[wb];simp
 · rw[decide_eq_false z];cases b:m.testBit k with
   | false=>rfl
   | true=>have:k∈OA m:=Wm.mpr ⟨hk,b⟩;rw[hw]at this;exact absurd (mem_singleton.mp this).symm z
where zdV {w:Nat} (h:w<13):2^w<8192:=Nat.pow_lt_pow_right (by decide) h (m:=w) (n:=13)
noncomputable def gC(t:Nat->Int)(k:Nat):Int×Int:=(t (2*k),t (2*k+1))
theorem sO{c:Nat}{g:YA}{ls:List Ln}{t:Nat->Int}(ht:∀e∈eD c g ls,yF t e):∀i,i<c->FD (gC t i):=by intro i hi;have h:=ht (2*i,2*i+1,-1) (mem_append.mpr (.inl (mem_append.mpr (.inl (mem_map.mpr ⟨i,mem_range.mpr hi,rfl⟩)))));simp only[yF]at h;show t (2*i)<t (2*i+1);omega
theorem CY{c:Nat}{g:YA}{ls:List Ln}{t:Nat->Int}(ht:∀e∈eD c g ls,yF t e){x:Ln}(hx:x∈ls):x.2.1*((2*c+1:Nat):Int)<=t (2*x.1+1)-t (2*x.1)/\t (2*x.1+1)-t (2*x.1)<=x.2.2*((2*c+1:Nat):Int):=by have h1:=ht (2*x.1,2*x.1+1,-x.2.1*((2*c+1:Nat):Int)) (mem_append.mpr (.inl (mem_append.mpr (.inr (mem_flatMap.mpr ⟨x,hx,by simp[HC]⟩)))));have h2:=ht (2*x.1+1,2*x.1,x.2.2*((2*c+1:Nat):Int)) (mem_append.mpr (.inl (mem_append.mpr (.inr (mem_flatMap.mpr ⟨x,hx,by simp[HC]⟩)))));simp only[yF,Int.neg_mul]at h1 h2;omega
theorem Fz{t:Nat->Int}{p j mx mn:Nat}(h1:mx<5)(h2:mn<5)(hj:t (2*j)<t (2*j+1))(h:∀e∈JG p (2*j) 1 (mx:Int) (mn:Int)++JG p (2*j+1) 3 (mx:Int) (mn:Int),yF t e):mn<=XB (t p) (t (2*j)) (t (2*j+1))/\XB (t p) (t (2*j)) (t (2*j+1))<=mx:=by
 have zc:=GR (t p) (t (2*j)) (t (2*j+1)) hj;constructor
 · rcases Jd h2 with rfl | rfl | rfl | rfl | rfl
   · exact Nat.zero_le _
   all_goals
    have a:=fun e he=>h e (mem_append.mpr (.inl (mem_append.mpr (.inr he))))
    have b:=fun e he=>h e (mem_append.mpr (.inr (mem_append.mpr (.inr he))))
    simp[yF]at a b;rcases zc with⟨y,w⟩ | ⟨y,w⟩ | ⟨y,y',w⟩ | ⟨y,w⟩ | ⟨y,w⟩<;>rw[w]<;>omega
 · rcases Jd h1 with rfl | rfl | rfl | rfl | rfl
   rotate_right 1
   · rcases zc with⟨y,w⟩ | ⟨y,w⟩ | ⟨y,y',w⟩ | ⟨y,w⟩ | ⟨y,w⟩<;>rw[w]<;>omega
   all_goals
    have a:=fun e he=>h e (mem_append.mpr (.inl (mem_append.mpr (.inl he))))
    have b:=fun e he=>h e (mem_append.mpr (.inr (mem_append.mpr (.inl he))))
    simp[yF]at a b;rcases zc with⟨y,w⟩ | ⟨y,w⟩ | ⟨y,y',w⟩ | ⟨y,w⟩ | ⟨y,w⟩<;>rw[w]<;>omega
theorem P1:∀w<13,(pz w).1<5/\(pz w).2<5:=by decide +kernel
theorem qt{m:Nat}(hm:m∈RL)(side:Nat)(hs:side<2):∃mx mn:Nat,mx<5/\mn<5/\YC (VB side m)=(mx:Int)/\hC (VB side m)=(mn:Int)/\mx<=qP (fun w=>if side=0 then zA w else zE w) m/\pP (fun w=>if side=0 then zA w else zE w) m<=mn:=by
 obtain⟨n0,nl⟩:=MO m hm;have ne:VB side m ≠ []:=yT (eT nl n0);have g:∀x∈VB side m,∃w,w<13/\m.testBit w=true/\x=(((if side=0 then zA w else zE w):Nat):Int):=by intro x hx;obtain⟨w,hw,rfl⟩:=mem_map.mp hx;obtain⟨w13,wb⟩:=Wm.mp hw;refine⟨w,w13,wb,?_⟩;unfold zs;rcases(show side=0\/side=1 by omega)with rfl | rfl<;>rfl
 obtain⟨w,w13,wb,ew⟩:=g _ (zN _ ne).1;obtain⟨v,v13,vb,ev⟩:=g _ (SG _ ne).1;refine⟨_,_,?_,?_,ew,ev,?_,?_⟩
 · rcases(show side=0\/side=1 by omega)with rfl | rfl
   · exact(P1 w w13).1
   · exact(P1 w w13).2
 · rcases(show side=0\/side=1 by omega)with rfl | rfl
   · exact(P1 v v13).1
   · exact(P1 v v13).2
 · obtain⟨⟨_,a⟩,_,b⟩:=(qU hm w13).mp wb;rcases(show side=0\/side=1 by omega)with rfl | rfl
   · exact a
   · exact b
 · obtain⟨⟨a,_⟩,b,_⟩:=(qU hm v13).mp vb;rcases(show side=0\/side=1 by omega)with rfl | rfl
   · exact a
   · exact b
theorem wW{c:Nat}{g:YA}(og:aB c g)(tg:DI c g){ls:List Ln}{t:Nat->Int}(ht:∀e∈eD c g ls,yF t e):Kp c g (gC t):=by
 have ok:=sO ht;have up:∀i j,i<j->j<c->(g i j).testBit (zB (gC t i) (gC t j))=true:=by
  intro i j hij hj;have hi:i<c:=by omega
  have hp:=uW hij hj;have hm:=tg i hi j hj (by omega);have sd:∀side,side<2->pP (fun w=>if side=0 then zA w else zE w) (g i j)<=XB (t (2*i+side)) (t (2*j)) (t (2*j+1))/\XB (t (2*i+side)) (t (2*j)) (t (2*j+1))<=qP (fun w=>if side=0 then zA w else zE w) (g i j):=by
   intro side hs;obtain⟨mx,mn,m5,n5,e1,e2,l1,l2⟩:=qt hm side hs;have:=Fz (p:=2*i+side) m5 n5 (ok j hj) (fun e he=>by
    refine ht e (mem_append.mpr (.inr (mem_flatMap.mpr ⟨(i,j),hp,?_⟩)));rw[<- e1,<- e2]at he;unfold DC;rcases(show side=0\/side=1 by omega)with rfl | rfl
    · exact mem_append.mpr (.inl he)
    · exact mem_append.mpr (.inr he))
   exact⟨Nat.le_trans l2 this.1,Nat.le_trans this.2 l1⟩
  have wl:=pF (ok i hi) (ok j hj);refine(qU hm wl).mpr ?_;have pw:=fU (ok i hi) (ok j hj);simp only[zA,zE,pw];exact⟨sd 0 (by omega),sd 1 (by omega)⟩
 intro i hi j hj hij;rcases Nat.lt_or_gt_of_ne hij with z | z
 · exact up i j z hj
 · have hw:=pF (ok j hj) (ok i hi);rw[og.tn j hj i hi,uN (ok j hj) (ok i hi),bF _ (by omega),show 12-(12-zB (gC t j) (gC t i))=zB (gC t j) (gC t i) by omega];exact up j i z hi
theorem Tz{c:Nat}{g:YA}(og:aB c g)(ne:mC c g=false)(lp:NE c g=none):DI c g:=by
 have up:∀i j,i<j->j<c->g i j∈RL:=by
  intro i j hij hj;have nl:¬1<(OA (g i j)).length:=by have:=find?_eq_none.mp lp (i,j) (uW hij hj);simpa using this
  obtain⟨w,hw,e⟩:=Ky (og.lt i (by omega) j hj) (jl ne (by omega) hj) nl;rw[e];exact wO w hw
 intro i hi j hj hij;rcases Nat.lt_or_gt_of_ne hij with z | z
 · exact up i j z hj
 · rw[og.tn j hj i hi];exact bT _ (up j i z hi)
structure TL(c:Nat)(ls:List Ln)(f:YA)(t:Nat->Int):Prop where
 ok:∀i,i<c->FD (gC t i)
 net:Kp c f (gC t)
 len:∀x∈ls,x.2.1*((2*c+1:Nat):Int)<=t (2*x.1+1)-t (2*x.1)/\t (2*x.1+1)-t (2*x.1)<=x.2.2*((2*c+1:Nat):Int)
theorem mS{c m:Nat}{ls:List Ln}:∀(n:Nat)(f:YA)(made:Nat)(t:Nat->Int)(sp:Nat),lC c m ls n f [] made (.laid t) sp->aB c f->TL c ls f t
 | 0,_,_,_,_,h,_=>h.elim
 | n+1,f,made,t,sp,h,of=>by
  rcases h with⟨st,g,h1,h2,h3,_⟩ | ⟨st,g,EN,h⟩
  · cases h3
  · obtain⟨okg,clg,neg⟩:=EN.ok of;obtain⟨g0,s0,_,_,rfl⟩:=EN;have sub:∀{s:Nat->Int×Int},Kp c (MC c g0) s->Kp c f s:=fun q=>q.zb4.sub (s0.sub of)
    generalize MC c g0=g at okg clg neg sub h;rcases h with⟨cs,P,k,R,h3,_⟩ | ⟨t',ht,h⟩
    · cases h3
    · rcases h with⟨hs,h3,_⟩ | ⟨tag,bs,ps,hs,h⟩
      · cases h3;have lp:NE c g=none:=by
         simp only[ZD]at hs;cases lp:NE c g with
         | none=>rfl
         | some p=>rw[lp]at hs;cases hs
        exact⟨sO ht,sub (wW okg (Tz okg neg lp) ht),fun x hx=>CY ht hx⟩
      · rcases h with⟨_,h3,_⟩ | ⟨_,h⟩
        · cases h3
        · simp only[ZD]at hs;cases lp:NE c g with
          | none=>rw[lp]at hs;cases hs
          | some p=>
           rw[lp]at hs;simp only[Option.some.injEq,Prod.mk.injEq]at hs;obtain⟨_,rfl,_⟩:=hs;obtain⟨q1,q2⟩:=Vm.mp (mem_of_find?_eq_some lp);have go:∀(ws:List Nat)(md:Nat)(acc:List Tr)(sp:Nat),tE (lC c m ls n) tag st [] (ws.map fun w=>kB g p.1 (2^w) p.2) md acc (.laid t) sp->∃w,TL c ls (kB g p.1 (2^w) p.2) t:=by
            intro ws
            induction ws with
            | nil=>rintro md acc sp ⟨q,_⟩;cases q
            | cons w ws ih=>
             intro md acc sp q;rcases q with⟨tr,m1,_,B2⟩ | ⟨_,B1⟩
             · exact ih _ _ _ B2
             · exact⟨w,mS n _ md _ _ B1 (yE okg (by omega) q2 (by omega) _)⟩
           obtain⟨w,K⟩:=go _ _ _ _ h;exact⟨K.ok,sub (Kp.zbm K.ok (by omega) q2 (by omega) okg K.net).1,K.len⟩
def Ol(c:Nat)(g:YA):Prop:=∀i<c,∀j<c,i≠j->g i j=0\/g i j∈RL
theorem Ol.nar{c:Nat}{f:YA}(h:Ol c f){i j m:Nat}(hi:i<c)(hj:j<c)(hij:i≠j)(hm:f i j∈RL->f i j&&&m=0\/f i j&&&m∈RL):Ol c (kB f i m j):=by
 have at':f i j&&&m=0\/f i j&&&m∈RL:=by
  rcases h i hi j hj hij with e | e
  · left;rw[e];simp
  · exact hm e
 intro a ha b hb hab;by_cases e1:a=i/\b=j
 · obtain⟨rfl,rfl⟩:=e1;rw[qG f m hij];exact at'
 · by_cases e2:a=j/\b=i
   · obtain⟨rfl,rfl⟩:=e2;rw[GJ];rcases at' with e | e
     · left;rw[e];exact zan
     · exact .inr (bT _ e)
   · rw[SF f e1 e2];exact h a ha b hb hab
theorem Ol.tame{c:Nat}{g:YA}(h:Ol c g)(ne:mC c g=false):DI c g:=fun i hi j hj hij=>by
 rcases h i hi j hj hij with e | e
 · exact absurd e (jl ne hi hj)
 · exact e
theorem Ol.steps{c:Nat}{f g:YA}{st:List (Nat×Nat×Nat)}(h:Steps c f st g)(q:Ol c f):Ol c g:=by
 induction h with
 | nil=>exact q
 | @snoc st g i k j h hi hk hj d ne n ih=>
  have t:=ih.tame ne;refine ih.nar hi hj d.2.2 fun e=>?_
  unfold Rm;rw[<- Nat.and_assoc,Nat.and_self];exact ET _ e _ (D6 _ (t i hi k hk d.1) _ (t k hk j hj d.2.1))
def lc(c:Nat)(g:YA):Nat:=(LA c).countP fun p=>decide (1<(OA (g p.1 p.2)).length)
theorem KN{a b:Nat}(h:Im a b):(OA a).length<=(OA b).length:=by unfold OA;rw[<- countP_eq_length_filter,<- countP_eq_length_filter];exact countP_mono_left fun k _ hk=>Nm.mp h k hk
theorem lT{c:Nat}{f g:YA}(h:jE c g f):lc c g<=lc c f:=countP_mono_left fun p hp hk=>by obtain⟨p1,p2⟩:=Vm.mp hp;have:=KN (h p.1 (by omega) p.2 p2);simp only[decide_eq_true_eq]at hk ⊢;omega
theorem FW{α:Type}{p q:α->Bool}{x:α}:∀{l:List α},(∀y∈l,p y=true->q y=true)->x∈l->q x=true->p x=false->l.countP p<l.countP q
 | y::l,h,hx,hq,hp=>by
  have m:=countP_mono_left (p:=p) (q:=q) (l:=l) fun z hz=>h z (by simp[hz])
  rcases mem_cons.mp hx with rfl | hx
  · rw[countP_cons_of_pos hq,countP_cons_of_neg (by rw[hp];decide)];omega
  · have ih:=FW (fun z hz=>h z (by simp[hz])) hx hq hp;by_cases e:p y=true
    · rw[countP_cons_of_pos e,countP_cons_of_pos (h y (by simp) e)];omega
    · rw[countP_cons_of_neg e];have:l.countP q<=(y::l).countP q:=by rw[countP_cons];omega
      omega
theorem jZ{c:Nat}{g:YA}(o:aB c g){p:Nat×Nat}(lp:NE c g=some p){w:Nat}(hw:w<13):lc c (kB g p.1 (2^w) p.2)<lc c g:=by
 have hp:=mem_of_find?_eq_some lp;obtain⟨p1,p2⟩:=Vm.mp hp;have sub:jE c (kB g p.1 (2^w) p.2) g:=by
  intro a ha b hb;by_cases e1:a=p.1/\b=p.2
  · obtain⟨rfl,rfl⟩:=e1;rw[qG g _ (by omega)];exact DF _ _
  · by_cases e2:a=p.2/\b=p.1
    · obtain⟨rfl,rfl⟩:=e2;rw[GJ,o.tn p.1 (by omega) p.2 p2];exact yH (DF _ _)
    · rw[SF g e1 e2];exact Im.refl _
 have lq:(fun p:Nat×Nat=>decide (1<(OA (g p.1 p.2)).length)) p=true:=find?_some (p:=fun p:Nat×Nat=>decide (1<(OA (g p.1 p.2)).length)) (l:=LA c) lp;refine FW (x:=p) (fun q hq hk=>?_) hp lq ?_
 · obtain⟨q1,q2⟩:=Vm.mp hq;have:=KN (sub q.1 (by omega) q.2 q2);simp only[decide_eq_true_eq]at hk ⊢;omega
 · show decide (1<(OA (kB g p.1 (2^w) p.2 p.1 p.2)).length)=false;rw[qG g _ (by omega)];have h1:Im (g p.1 p.2&&&2^w) (2^w):=by rw[Nat.and_comm];exact DF _ _
   have:=KN h1;rw[wk w hw]at this;simp only[zfO,zfP]at this;exact decide_eq_false (by omega)
theorem Dj{c:Nat}{g:YA}{ls:List Ln}(lok:∀x∈ls,x.1<c){t:Nat->Int}(ht:∀e∈eD c g ls,yF t e):∀g',Kp c g' (gC t)->∃T:Nat->Int,∀e∈eD c g' ls,T e.1-T e.2.1<=e.2.2:=fun g' q=>⟨_,uX (sO ht) q fun x hx=>⟨lok x hx,CY ht hx⟩⟩
theorem sR{c m:Nat}{ls:List Ln}(lok:∀x∈ls,x.1<c):∀(n:Nat)(f:YA)(made:Nat)(a:Ans)(sp:Nat),lC c m ls n f [] made a sp->aB c f->(∀i<c,f i i=64)->(∀st g,Steps c f st g->FF c g->mC c g=false->DI c g/\made+lc c g<=m)->a.wd=.laid\/(a.wd=.clash/\sp=made)
 | 0,_,_,_,_,h,_,_,_=>h.elim
 | n+1,f,made,a,sp,h,of,dg,tz=>by
  rcases h with⟨st,g,h1,h2,rfl,rfl⟩ | ⟨st,g,EN,h⟩
  · exact .inr ⟨rfl,rfl⟩
  · obtain⟨okg,clg,neg⟩:=EN.ok of;obtain⟨g0,s0,cl0,ne0,rfl⟩:=EN;have dg':∀i<c,MC c g0 i i=64:=fun i hi=>by rw[ME g0 hi hi];exact s0.diag dg i hi
    obtain⟨t0,lm0⟩:=tz st g0 s0 cl0 ne0;have tg:DI c (MC c g0):=fun i hi j hj hij=>by rw[ME g0 hi hj];exact t0 i hi j hj hij
    have lm:made+lc c (MC c g0)<=m:=by
     have:lc c (MC c g0)<=lc c g0:=lT fun i hi j hj=>by rw[ME g0 hi hj];exact Im.refl _
     omega
    generalize MC c g0=g at okg clg neg dg' tg lm h;rcases h with⟨cs,P,k,R,rfl,rfl⟩ | ⟨t,ht,h⟩
    · exact .inr ⟨rfl,rfl⟩
    · have q:=wW okg tg ht;have ok:=sO ht;rcases h with⟨_,rfl,rfl⟩ | ⟨tag,bs,ps,hs,h⟩
      · exact .inl rfl
      · simp only[ZD]at hs;cases lp:NE c g with
        | none=>rw[lp]at hs;cases hs
        | some p=>
         rw[lp]at hs;simp only[Option.some.injEq,Prod.mk.injEq]at hs;obtain⟨_,rfl,_⟩:=hs;have hp:=mem_of_find?_eq_some lp;obtain⟨q1,q2⟩:=Vm.mp hp;have zcr:∀w,w<13->made+1+lc c (kB g p.1 (2^w) p.2)<=m:=fun w hw=>by have:=jZ okg lp hw;omega
         have l1:made+1<=m:=by have:=zcr 0 (by decide);omega
         rcases h with⟨hl,rfl,rfl⟩ | ⟨_,h⟩
         · omega
         · have one:∀w,w<13->∀a1 m1,lC c m ls n (kB g p.1 (2^w) p.2) [] (made+1) a1 m1->a1.wd=.laid\/(a1.wd=.clash/\m1=made+1):=fun w hw a1 m1 L=>
            sR lok n _ _ a1 m1 L (yE okg (by omega) q2 (by omega) _) (bL dg' (by omega) _) fun st g1 s1 _ ne1=>
             ⟨(Ol.steps s1 (Ol.nar (fun i hi j hj hij=>.inr (tg i hi j hj hij)) (by omega) q2 (by omega) (fun z=>ET _ z _ (wO _ hw)))).tame ne1,by
              have:=lT (s1.sub (yE okg (by omega) q2 (by omega) _));have:=zcr w hw;omega⟩
           have wl:=pF (ok p.1 (by omega)) (ok p.2 q2);have go:∀ws:List Nat,(∀w∈ws,w<13)->zB (gC t p.1) (gC t p.2)∈ws->∀(acc:List Tr)(a:Ans)(sp:Nat),tE (lC c m ls n) tag st [] (ws.map fun w=>kB g p.1 (2^w) p.2) (made+1) acc a sp->a.wd=.laid:=by
            intro ws
            induction ws with
            | nil=>intro _ hw;cases hw
            | cons w ws ih=>
             intro h13 hw acc a sp B;have w13:=h13 w (by simp);rcases B with⟨tr,m1,B1,B2⟩ | ⟨nc,B1⟩
             · rcases one w w13 _ _ B1 with z | ⟨_,rfl⟩
               · cases z
               · rcases mem_cons.mp hw with rfl | hw
                 · exact absurd rfl (lS ok (Dj lok ht) n _ _ _ _ B1 (yE okg (by omega) q2 (by omega) _) (bL dg' (by omega) _) (q.nar ok (by omega) q2 (by omega) (by rw[Nat.testBit_two_pow];simp)))
                 · exact ih (fun x hx=>h13 x (by simp[hx])) hw _ _ _ B2
             · rcases one w w13 _ _ B1 with z | ⟨z,_⟩
               · exact z
               · exact absurd z nc
           exact .inl (go _ (fun w hw=>(Wm.mp hw).1) (Wm.mpr ⟨wl,q p.1 (by omega) p.2 q2 (by omega)⟩) _ _ _ h)
theorem Hr:(LA 2).length=1:=by decide
theorem Aw{m:Nat}{ls:List Ln}(lok:∀x∈ls,x.1<2){n:Nat}{f:YA}{made:Nat}{a:Ans}{sp:Nat}(h:lC 2 m ls n f [] made a sp)(of:aB 2 f)(dg:∀i<2,f i i=64)(hm:made+1<=m):a.wd≠.opn:=by
 cases n with
 | zero=>exact h.elim
 | succ n=>
  rcases h with⟨st,g,h1,h2,rfl,rfl⟩ | ⟨st,g,EN,h⟩
  · intro z;cases z
  · obtain⟨okg,clg,neg⟩:=EN.ok of;obtain⟨g0,s0,cl0,ne0,rfl⟩:=EN;have dg':∀i<2,MC 2 g0 i i=64:=fun i hi=>by rw[ME g0 hi hi];exact s0.diag dg i hi
    generalize MC 2 g0=g at okg clg neg dg' h;rcases h with⟨cs,P,k,R,rfl,rfl⟩ | ⟨t,ht,h⟩
    · intro z;cases z
    · rcases h with⟨_,rfl,rfl⟩ | ⟨tag,bs,ps,hs,h⟩
      · intro z;cases z
      · simp only[ZD]at hs;cases lp:NE 2 g with
        | none=>rw[lp]at hs;cases hs
        | some p=>
         rw[lp]at hs;simp only[Option.some.injEq,Prod.mk.injEq]at hs;obtain⟨_,rfl,_⟩:=hs;have hp:=mem_of_find?_eq_some lp;obtain⟨q1,q2⟩:=Vm.mp hp;rcases h with⟨hl,rfl,rfl⟩ | ⟨_,h⟩
         · omega
         · have one:∀w,w<13->∀a1 m1,lC 2 m ls n (kB g p.1 (2^w) p.2) [] (made+1) a1 m1->a1.wd=.laid\/(a1.wd=.clash/\m1=made+1):=fun w hw a1 m1 L=>by
            have tz:Ol 2 (kB g p.1 (2^w) p.2):=by
             have p0:p.1=0:=by omega
             have p1:p.2=1:=by omega
             have e01:kB g 0 (2^w) 1 0 1=g 0 1&&&2^w:=qG g _ (by decide);have e10:kB g 0 (2^w) 1 1 0=Al (g 0 1&&&2^w):=GJ g _ _ _;have on:g 0 1&&&2^w=0\/g 0 1&&&2^w∈RL:=by
              have gl:=okg.lt 0 (by decide) 1 (by decide);have pl:2^w<8192:=(MO _ (wO w hw)).2;cases z:(g 0 1).testBit w with
              | false=>
               left
               refine YG (Nat.lt_of_le_of_lt Nat.and_le_left gl) (by decide) fun k _=>?_
               rw[Nat.testBit_and,Nat.testBit_two_pow];by_cases e:w=k
               · subst e;rw[z];simp
               · rw[decide_eq_false e];simp
              | true=>
               right
               have:g 0 1&&&2^w=2^w:=YG (Nat.lt_of_le_of_lt Nat.and_le_left gl) pl fun k _=>by
                rw[Nat.testBit_and,Nat.testBit_two_pow];by_cases e:w=k
                · subst e;rw[z];rfl
                · rw[decide_eq_false e];simp
               rw[this];exact wO w hw
             rw[p0,p1];intro i hi j hj hij;rcases(show(i=0/\j=1)\/(i=1/\j=0) by omega)with⟨rfl,rfl⟩ | ⟨rfl,rfl⟩
             · rw[e01];exact on
             · rw[e10];rcases on with e | e
               · left;rw[e];exact zan
               · exact .inr (bT _ e)
            have l0:=jZ okg lp hw;have l1:lc 2 g<=1:=Nat.le_trans countP_le_length (Nat.le_of_eq Hr);exact sR lok n _ _ a1 m1 L (yE okg (by omega) q2 (by omega) _) (bL dg' (by omega) _) (fun st g1 s1 _ ne1=>⟨(Ol.steps s1 tz).tame ne1,by
             have:=lT (s1.sub (yE okg (by omega) q2 (by omega) _));omega⟩)
           have go:∀ws:List Nat,(∀w∈ws,w<13)->∀(acc:List Tr)(md:Nat)(a:Ans)(sp:Nat),md=made+1->tE (lC 2 m ls n) tag st [] (ws.map fun w=>kB g p.1 (2^w) p.2) md acc a sp->a.wd≠.opn:=by
            intro ws
            induction ws with
            | nil=>rintro _ acc md a sp _ ⟨rfl,_⟩ z;cases z
            | cons w ws ih=>
             intro h13 acc md a sp hmd B;subst hmd;have w13:=h13 w (by simp);rcases B with⟨tr,m1,B1,B2⟩ | ⟨nc,B1⟩
             · refine ih (fun x hx=>h13 x (by simp[hx])) _ m1 _ _ ?_ B2;rcases one w w13 _ _ B1 with z | ⟨_,z⟩
               · cases z
               · exact z
             · rcases one w w13 _ _ B1 with z | ⟨z,_⟩
               · rw[z];intro y;cases y
               · exact absurd z nc
           exact go _ (fun w hw=>(Wm.mp hw).1) _ _ _ _ rfl h
theorem tY{t a b:Int}(h:a<b):(XB t a b=0↔t<a)/\(XB t a b=1↔t=a)/\(XB t a b=2↔a<t/\t<b)/\(XB t a b=3↔t=b):=by rcases GR t a b h with⟨y,w⟩ | ⟨y,w⟩ | ⟨y,y',w⟩ | ⟨y,w⟩ | ⟨y,w⟩<;>rw[w]<;>exact⟨by omega,by omega,by omega,by omega⟩
theorem A6{X O:Int×Int}(hX:FD X)(hO:FD O){w:Nat}(hw:w<13):zB X O=w↔XB X.1 O.1 O.2=(pz w).1/\XB X.2 O.1 O.2=(pz w).2:=by
 have pw:=fU hX hO;constructor
 · rintro rfl;rw[pw];exact⟨rfl,rfl⟩
 · intro h;have:∀w<13,Il.idxOf (pz w)=w:=by decide +kernel
   rw[<- this w hw];unfold zB;rw[h.1,h.2]
theorem wJ{X O:Int×Int}(hX:FD X)(hO:FD O):(zB X O=0↔X.2<O.1)/\(zB X O=1↔X.2=O.1)/\(zB X O=5↔X.1=O.1/\X.2<O.2)/\(zB X O=6↔X.1=O.1/\X.2=O.2)/\(zB X O=8↔O.1<X.1/\X.2<O.2)/\(zB X O=9↔O.1<X.1/\X.2=O.2):=by
 have x:X.1<X.2:=hX;obtain⟨a0,a1,a2,a3⟩:=tY (t:=X.1) hO;obtain⟨b0,b1,b2,b3⟩:=tY (t:=X.2) hO;have W:=fun {w:Nat} (hw:w<13)=>A6 hX hO hw
 refine⟨(W (by decide)).trans ?_,(W (by decide)).trans ?_,(W (by decide)).trans ?_,(W (by decide)).trans ?_,(W (by decide)).trans ?_,(W (by decide)).trans ?_⟩
 · rw[show pz 0=(0,0)from rfl,a0,b0];exact⟨fun h=>h.2,fun h=>⟨Int.lt_trans x h,h⟩⟩
 · rw[show pz 1=(0,1)from rfl,a0,b1];exact⟨fun h=>h.2,fun h=>⟨h ▸ x,h⟩⟩
 · rw[show pz 5=(1,2)from rfl,a1,b2];exact⟨fun h=>⟨h.1,h.2.2⟩,fun h=>⟨h.1,h.1 ▸ x,h.2⟩⟩
 · rw[show pz 6=(1,3)from rfl,a1,b3]
 · rw[show pz 8=(2,2)from rfl,a2,b2];exact⟨fun h=>⟨h.1.1,h.2.2⟩,fun h=>⟨⟨h.1,Int.lt_trans x h.2⟩,Int.lt_trans h.1 x,h.2⟩⟩
 · rw[show pz 9=(2,3)from rfl,a2,b3];exact⟨fun h=>⟨h.1.1,h.2⟩,fun h=>⟨⟨h.1,h.2 ▸ x⟩,h.2⟩⟩
structure Rw where
 many:Nat
 A:Nat
 Z:Nat
 e1:Nat
 e2:Nat
 sz:Nat->Int
 gp:Nat->Nat
 hi:Int
noncomputable def Rw.G(R:Rw):Int:=((2*(R.many+1)+1:Nat):Int)
def Rw.w(R:Rw)(k:Nat):Int:=max (R.sz k*R.G) 1
noncomputable def Rw.d(R:Rw)(k:Nat):Int:=if k+1<R.many/\R.gp k=1 then 1 else 0
def Rw.tot(R:Rw):Nat->Int
 | 0=>R.e1
 | k+1=>R.tot k+R.w k+R.d k
theorem Rw.w1(R:Rw)(k:Nat):1<=R.w k:=by unfold Rw.w;omega
theorem Rw.d0(R:Rw)(k:Nat):0<=R.d k:=by unfold Rw.d;split<;>omega
theorem Rw.zbE(R:Rw):∀k,0<=R.tot k
 | 0=>by simp only[Rw.tot];omega
 | k+1=>by have:=R.zbE k;have:=R.w1 k;have:=R.d0 k;simp only[Rw.tot];omega
def iP(e1 e2:Nat):Nat:=if e1=0 then(if e2=0 then 6 else 5)else(if e2=0 then 9 else 8)
def VO(w:Nat):Nat:=if w=6 then 0 else if w=8 then 2 else 1
structure Rw.Ok(R:Rw):Prop where
 m1:1<=R.many
 m7:R.many<=7
 aw:∀w,R.A.testBit w=true->w=5\/w=6\/w=8\/w=9
 al:R.A<8192
 e1:R.e1<=1
 e2:R.e2<=1
 gp:∀k,R.gp k=1\/R.gp k=2\/R.gp k=3
 sz:∀k,0<=R.sz k/\R.sz k<=1000000000000000000
 one:R.many=1->R.A.testBit (iP R.e1 R.e2)=true/\∀w,R.A.testBit w=true->R.e1+R.e2<=VO w
 zw:1<R.many->∀w,R.Z.testBit w=true->w=5\/w=6\/w=8\/w=9
 zl:R.Z<8192
 ma:1<R.many->R.A.testBit (if R.e1=0 then 5 else 8)=true/\(R.e1=1->R.A.testBit 5=false)/\R.A&&&288∈RL
 mz:1<R.many->R.Z.testBit (if R.e2=0 then 9 else 8)=true/\(R.e2=1->R.Z.testBit 9=false)/\R.Z&&&768∈RL
def aK(f:Fact)(i m j:Nat):Prop:=f=.ways (i,m,j)\/f=.ways (j,Al m,i)
noncomputable def rD(k:Nat)(a b:Int):Fact:=.long (k,a,b)
structure PH(R:Rw)(fs:List Fact):Prop where
 fA:∃f∈fs,aK f 1 R.A 0
 fZ:1<R.many->∃f∈fs,aK f R.many R.Z 0
 fg:∀k,k+1<R.many->∃f∈fs,aK f (k+1) (R.gp k) (k+2)
 fl:∀k,k<R.many->rD (k+1) (R.sz k) 1000000000000000000∈fs
 fh:rD 0 0 R.hi∈fs
 only:∀f∈fs,aK f 1 R.A 0\/(1<R.many/\aK f R.many R.Z 0)\/(∃k,k+1<R.many/\aK f (k+1) (R.gp k) (k+2))\/(∃k,k<R.many/\f=rD (k+1) (R.sz k) 1000000000000000000)\/f=rD 0 0 R.hi
def NJ(c:Nat)(s:Nat->Int×Int):Fact->Prop
 | .ways m=>CI s m=true
 | .long x=>UL c s x
 | .one _=>False
theorem SJ{c:Nat}{s:Nat->Int×Int}{f:Fact}{i m j:Nat}(h:aK f i m j)(oi:FD (s i))(oj:FD (s j)):NJ c s f↔m.testBit (zB (s i) (s j))=true:=by
 rcases h with rfl | rfl
 · exact Iff.rfl
 · have wl:=pF oi oj;show(Al m).testBit (zB (s j) (s i))=true↔_;rw[uN oi oj,bF _ (by omega),show 12-(12-zB (s i) (s j))=zB (s i) (s j) by omega]
theorem Vg{n w:Nat}(h:n=1\/n=2\/n=3)(hb:n.testBit w=true)(hw:w<13):(w=0/\n≠2)\/(w=1/\n≠1):=by
 have q:∀n<4,∀w<13,(!n.testBit w || decide (n=0) || (decide (w=0) && !decide (n=2)) || (decide (w=1) && !decide (n=1)))=true:=by decide
 have:=q n (by omega) w hw;rw[hb]at this;simp at this;omega
theorem uw{R:Rw}(O:R.Ok){fs:List Fact}(H:PH R fs){s:Nat->Int×Int}(ok:∀i,i<R.many+1->FD (s i))(K:∀f∈fs,NJ (R.many+1) s f):R.tot R.many+R.e2<=R.hi*R.G:=by
 have m1:=O.m1;have o0:FD (s 0):=ok 0 (Nat.succ_pos _);have o1:FD (s 1):=ok 1 (Nat.succ_lt_succ m1);have om:FD (s R.many):=ok R.many (Nat.lt_succ_self _);have len:∀k,k<R.many->R.w k<=(s (k+1)).2-(s (k+1)).1:=by intro k hk;obtain⟨_,a,_⟩:UL (R.many+1) s (k+1,R.sz k,1000000000000000000):=K _ (H.fl k hk);have b:(s (k+1)).1<(s (k+1)).2:=ok (k+1) (Nat.succ_lt_succ hk);have a':R.sz k*R.G<=(s (k+1)).2-(s (k+1)).1:=a;unfold Rw.w;omega
 obtain⟨_,_,up⟩:UL (R.many+1) s (0,0,R.hi):=K _ H.fh;have up':(s 0).2-(s 0).1<=R.hi*R.G:=up;obtain⟨fA,hA,iA⟩:=H.fA;have bA:=(SJ iA o1 o0).mp (K fA hA);have rA:=wJ o1 o0;have wA:=O.aw _ bA;generalize zB (s 1) (s 0)=u at bA rA wA;by_cases m2:1<R.many
 · obtain⟨fZ,hZ,iZ⟩:=H.fZ m2;have bZ:=(SJ iZ om o0).mp (K fZ hZ);have rZ:=wJ om o0;have wZ:=O.zw m2 _ bZ;generalize zB (s R.many) (s 0)=v at bZ rZ wZ;have nx:∀k,k+1<R.many->(s (k+1)).2+R.d k<=(s (k+2)).1:=by
    intro k hk;obtain⟨f,hf,i⟩:=H.fg k hk;have b:=(SJ i (ok (k+1) (Nat.lt_succ_of_lt hk)) (ok (k+2) (Nat.succ_lt_succ hk))).mp (K f hf);have r:=wJ (ok (k+1) (Nat.lt_succ_of_lt hk)) (ok (k+2) (Nat.succ_lt_succ hk));have wl:=pF (ok (k+1) (Nat.lt_succ_of_lt hk)) (ok (k+2) (Nat.succ_lt_succ hk));unfold Rw.d;rcases Vg (O.gp k) b wl with⟨z,z'⟩ | ⟨z,z'⟩
    · have:=r.1.mp z;split<;>omega
    · have:=r.2.1.mp z;rw[if_neg (fun q=>z' q.2)];omega
   have go:∀k,k<R.many->(s 1).1-R.e1+R.tot k<=(s (k+1)).1/\(s 1).2<=(s (k+1)).2:=by
    intro k
    induction k with
    | zero=>intro _;show(s 1).1-R.e1+R.e1<=(s 1).1/\(s 1).2<=(s 1).2;exact⟨by omega,by omega⟩
    | succ k ih=>intro hk;obtain⟨a,a'⟩:=ih (Nat.lt_of_succ_lt hk);have l:=len k (Nat.lt_of_succ_lt hk);have x:=nx k hk;have d0:=R.d0 k;have o:(s (k+2)).1<(s (k+2)).2:=ok (k+2) (Nat.succ_lt_succ hk);show(s 1).1-R.e1+(R.tot k+R.w k+R.d k)<=(s (k+2)).1/\(s 1).2<=(s (k+2)).2;exact⟨by omega,by omega⟩
   obtain⟨n,hn⟩:∃n,R.many=n+1:=⟨R.many-1,by omega⟩
   obtain⟨g1,g2⟩:=go n (by omega);have ln:=len n (by omega);have te:R.tot R.many=R.tot n+R.w n:=by
    have:R.d n=0:=by unfold Rw.d;rw[if_neg (by omega)]
    rw[hn,Rw.tot,this];omega
   obtain⟨p,hp⟩:∃p,R.many=p+2:=⟨R.many-2,by omega⟩
   have xx:=nx p (by rw[hp];exact Nat.lt_succ_self _);have d0:=R.d0 p;have yy:=(go p (by rw[hp];exact Nat.lt_succ_of_lt (Nat.lt_succ_self _))).2;rw[<- hp]at xx;have lt:(s 1).2<=(s R.many).1:=by clear go len nx;omega
   have z1:(s 1).1<(s 1).2:=o1;have z2:(s R.many).1<(s R.many).2:=om;clear nx go xx yy d0;rw[<- hn]at g1 g2 ln;obtain⟨_,c1,_⟩:=O.ma m2;obtain⟨_,c2,_⟩:=O.mz m2;have E1:=O.e1;have E2:=O.e2;have x1:(s 0).1+R.e1<=(s 1).1:=by
    rcases wA with z | z | z | z
    · have:=rA.2.2.1.mp z;have:R.e1≠1:=fun q=>by rw[z,c1 q]at bA;cases bA
      omega
    · have:=rA.2.2.2.1.mp z;rcases wZ with y | y | y | y
      · have:=rZ.2.2.1.mp y;omega
      · have:=rZ.2.2.2.1.mp y;omega
      · have:=rZ.2.2.2.2.1.mp y;omega
      · have:=rZ.2.2.2.2.2.mp y;omega
    · have:=rA.2.2.2.2.1.mp z;omega
    · have:=rA.2.2.2.2.2.mp z;omega
   have x2:(s R.many).2+R.e2<=(s 0).2:=by
    rcases wZ with z | z | z | z
    · have:=rZ.2.2.1.mp z;omega
    · have:=rZ.2.2.2.1.mp z;omega
    · have:=rZ.2.2.2.2.1.mp z;omega
    · have:=rZ.2.2.2.2.2.mp z;have:R.e2≠1:=fun q=>by rw[z,c2 q]at bZ;cases bZ
      omega
   rw[te];omega
 · have e1':R.many=1:=by omega
   obtain⟨_,gp⟩:=O.one e1';have g:=gp u bA;have l0:=len 0 (by omega);have te:R.tot R.many=R.e1+R.w 0:=by
    have:R.d 0=0:=by unfold Rw.d;rw[if_neg (by omega)]
    rw[e1',Rw.tot,Rw.tot,this];omega
   rw[te];unfold VO at g;rcases wA with z | z | z | z
   · have:=rA.2.2.1.mp z;rw[z]at g;simp at g;simp at l0;omega
   · have:=rA.2.2.2.1.mp z;rw[z]at g;simp at g;simp at l0;omega
   · have:=rA.2.2.2.2.1.mp z;rw[z]at g;simp at g;simp at l0;omega
   · have:=rA.2.2.2.2.2.mp z;rw[z]at g;simp at g;simp at l0;omega
theorem Ax(c:Nat):Ol c vB:=fun i _ j _ hij=>by
 have:vB i j=8191:=by simp[vB,hij]
 rw[this];exact .inr (by decide)
theorem gW{c:Nat}:∀(ms:List fD)(f:YA),Ol c f->(∀m∈ms,pE c m/\m.2.1∈RL)->Ol c (fC f (ms.map Fact.ways))
 | [],_,q,_=>q
 | m::ms,f,q,h=>by obtain⟨⟨a,b,d,_⟩,t⟩:=h m (by simp);exact gW ms _ (q.nar a b d fun z=>ET _ z _ t) fun x hx=>h x (by simp[hx])
def Rw.s(R:Rw):Nat->Int×Int
 | 0=>(0,R.tot R.many+R.e2)
 | k+1=>(R.tot k,R.tot k+R.w k)
theorem Rw.zbp(R:Rw):∀k n,k<n->R.tot k+R.w k+R.d k<=R.tot n
 | k,0,h=>by omega
 | k,n+1,h=>by
  have w1:=R.w1 n;have d0:=R.d0 n;by_cases z:k=n
  · subst z;exact Int.le_refl _
  · have:=R.zbp k n (by omega);simp only[Rw.tot];omega
theorem J6{R:Rw}(O:R.Ok){fs:List Fact}(H:PH R fs)(h:R.tot R.many+R.e2<=R.hi*R.G):(∀i,i<R.many+1->FD (R.s i))/\∀f∈fs,NJ (R.many+1) R.s f:=by
 have m1:=O.m1;have E1:=O.e1;have E2:=O.e2;obtain⟨n,hn⟩:∃n,R.many=n+1:=⟨R.many-1,by omega⟩
 have te:R.tot R.many=R.tot n+R.w n:=by
  have:R.d n=0:=by unfold Rw.d;rw[if_neg (by omega)]
  rw[hn,Rw.tot,this];omega
 have ok:∀i,i<R.many+1->FD (R.s i):=by
  intro i hi;cases i with
  | zero=>show 0<R.tot R.many+R.e2;have:=R.zbE n;have:=R.w1 n;omega
  | succ k=>show R.tot k<R.tot k+R.w k;have:=R.w1 k;omega
 refine⟨ok,fun f hf=>?_⟩;have ok0:=ok 0 (by omega);rcases H.only f hf with i | ⟨m2,i⟩ | ⟨k,hk,i⟩ | ⟨k,hk,rfl⟩ | rfl
 · have ok1:=ok 1 (by omega);rw[SJ i ok1 ok0];obtain⟨r0,r1,r5,r6,r8,r9⟩:=wJ ok1 ok0;have s1:R.s 1=((R.e1:Int),(R.e1:Int)+R.w 0):=rfl;have s0:R.s 0=(0,R.tot R.many+R.e2):=rfl;rw[s1,s0]at r5 r6 r8 r9 ⊢;simp only at r5 r6 r8 r9;by_cases m2:1<R.many
   · obtain⟨bA,_⟩:=O.ma m2;have t:=R.zbp 0 n (by omega);have d0:=R.d0 0;have w1:=R.w1 n;have t0:R.tot 0=R.e1:=rfl;by_cases z:R.e1=0
     · rw[if_pos z]at bA;rw[r5.mpr ⟨by omega,by omega⟩];exact bA
     · rw[if_neg z]at bA;rw[r8.mpr ⟨by omega,by omega⟩];exact bA
   · have e:R.many=1:=by omega
     obtain⟨bA,_⟩:=O.one e;have n0:n=0:=by omega
     subst n0;have t0:R.tot 0=R.e1:=rfl;unfold iP at bA;by_cases z:R.e1=0<;>by_cases y:R.e2=0
     · rw[if_pos z,if_pos y]at bA;rw[r6.mpr ⟨by omega,by omega⟩];exact bA
     · rw[if_pos z,if_neg y]at bA;rw[r5.mpr ⟨by omega,by omega⟩];exact bA
     · rw[if_neg z,if_pos y]at bA;rw[r9.mpr ⟨by omega,by omega⟩];exact bA
     · rw[if_neg z,if_neg y]at bA;rw[r8.mpr ⟨by omega,by omega⟩];exact bA
 · have okm:=ok R.many (by omega);rw[SJ i okm ok0];obtain⟨r0,r1,r5,r6,r8,r9⟩:=wJ okm ok0;have s1:R.s R.many=(R.tot n,R.tot n+R.w n):=by rw[hn];rfl
   have s0:R.s 0=(0,R.tot R.many+R.e2):=rfl;rw[s1,s0]at r8 r9 ⊢;simp only at r8 r9;obtain⟨bZ,_⟩:=O.mz m2;have t:=R.zbp 0 n (by omega);have d0:=R.d0 0;have w1:=R.w1 0;have t0:=R.zbE 0;by_cases z:R.e2=0
   · rw[if_pos z]at bZ;rw[r9.mpr ⟨by omega,by omega⟩];exact bZ
   · rw[if_neg z]at bZ;rw[r8.mpr ⟨by omega,by omega⟩];exact bZ
 · have ok1:=ok (k+1) (by omega);have ok2:=ok (k+2) (by omega);rw[SJ i ok1 ok2];obtain⟨r0,r1,_⟩:=wJ ok1 ok2;have s1:R.s (k+1)=(R.tot k,R.tot k+R.w k):=rfl;have s2:R.s (k+2)=(R.tot k+R.w k+R.d k,R.tot k+R.w k+R.d k+R.w (k+1)):=rfl;rw[s1,s2]at r0 r1 ⊢;simp only at r0 r1;unfold Rw.d at r0 r1 ⊢;rcases O.gp k with z | z | z
   · rw[if_pos ⟨hk,z⟩]at r0 r1 ⊢;rw[r0.mpr (by omega),z];decide
   · rw[if_neg (by omega)]at r0 r1 ⊢;rw[r1.mpr (by omega),z];decide
   · rw[if_neg (by omega)]at r0 r1 ⊢;rw[r1.mpr (by omega),z];decide
 · refine⟨by show k+1<R.many+1;omega,?_,?_⟩
   · show R.sz k*R.G<=(R.tot k+R.w k)-R.tot k;unfold Rw.w;omega
   · show(R.tot k+R.w k)-R.tot k<=1000000000000000000*R.G;have:=O.sz k;have g:(1:Int)<=R.G:=by unfold Rw.G;omega
     have:R.sz k*R.G<=1000000000000000000*R.G:=Int.mul_le_mul_of_nonneg_right this.2 (by omega);unfold Rw.w;omega
 · refine⟨by show 0<R.many+1;omega,?_,?_⟩
   · show 0*R.G<=R.tot R.many+R.e2-0;have:=R.zbE R.many;omega
   · show R.tot R.many+R.e2-0<=R.hi*R.G;omega
theorem zy{c:Nat}{f:YA}(o:aB c f){i m j:Nat}(hi:i<c)(hj:j<c)(hij:i≠j):jE c (kB f i m j) f:=by
 intro a ha b hb;by_cases e1:a=i/\b=j
 · obtain⟨rfl,rfl⟩:=e1;rw[qG f _ hij];exact DF _ _
 · by_cases e2:a=j/\b=i
   · obtain⟨rfl,rfl⟩:=e2;rw[GJ,o.tn b hb a ha];exact yH (DF _ _)
   · rw[SF f e1 e2];exact Im.refl _
theorem aS{c:Nat}{f g h:YA}(a:jE c f g)(b:jE c g h):jE c f h:=fun i hi j hj=>(a i hi j hj).trans (b i hi j hj)
theorem lJ{c:Nat}:∀(fs:List Fact)(_:∀x∈fs,cD c x)(f:YA),aB c f->jE c (fC f fs) f
 | [],_,f,_=>fun _ _ _ _=>Im.refl _
 | x::fs,h,f,o=>by
  have h':∀y∈fs,cD c y:=fun y hy=>h y (by simp[hy])
  cases x with
  | ways m=>obtain⟨a,b,d,e⟩:pE c m:=h (.ways m) (by simp);exact aS (lJ fs h' _ (yE o a b d _)) (zy o a b d)
  | long y=>exact lJ fs h' f o
  | one g=>exact lJ fs h' f o
theorem nJ{c:Nat}:∀(fs:List Fact)(_:∀x∈fs,cD c x)(f:YA),aB c f->∀m,Fact.ways m∈fs->Im (fC f fs m.1 m.2.2) m.2.1
 | [],_,_,_,_,hm=>by cases hm
 | x::fs,h,f,o,m,hm=>by
  have h':∀y∈fs,cD c y:=fun y hy=>h y (by simp[hy])
  rcases mem_cons.mp hm with hz | hk
  · subst hz;obtain⟨a,b,d,e⟩:pE c m:=h (.ways m) (by simp);have s:=lJ fs h' _ (yE o a b d m.2.1) m.1 a m.2.2 b;rw[qG f _ d]at s;refine s.trans ?_;rw[Nat.and_comm];exact DF _ _
  · cases x with
    | ways n=>obtain⟨a,b,d,e⟩:pE c n:=h (.ways n) (by simp);exact nJ fs h' _ (yE o a b d _) m hk
    | long y=>exact nJ fs h' f o m hk
    | one g=>exact nJ fs h' f o m hk
theorem WK{c:Nat}{g:YA}(og:aB c g):∀(fs:List Fact)(_:∀x∈fs,cD c x)(f:YA),jE c g f->(∀m,Fact.ways m∈fs->Im (g m.1 m.2.2) m.2.1)->jE c g (fC f fs)
 | [],_,f,q,_=>q
 | x::fs,h,f,q,H=>by
  have h':∀y∈fs,cD c y:=fun y hy=>h y (by simp[hy])
  have H':∀m,Fact.ways m∈fs->Im (g m.1 m.2.2) m.2.1:=fun m hm=>H m (by simp[hm])
  cases x with
  | ways m=>
   obtain⟨a,b,d,e⟩:pE c m:=h (.ways m) (by simp);refine WK og fs h' _ (fun i hi j hj=>?_) H';have hm:=H m (by simp);by_cases e1:i=m.1/\j=m.2.2
   · obtain⟨rfl,rfl⟩:=e1;rw[qG f _ d];exact jL (q _ hi _ hj) hm
   · by_cases e2:i=m.2.2/\j=m.1
     · obtain⟨rfl,rfl⟩:=e2;rw[GJ,og.tn _ hj _ hi];exact yH (jL (q _ hj _ hi) hm)
     · rw[SF f e1 e2];exact q i hi j hj
  | long y=>exact WK og fs h' f q H'
  | one g=>exact WK og fs h' f q H'
theorem Xw{c:Nat}(hc:c<=8){F F' g:YA}{st:List (Nat×Nat×Nat)}(oF:aB c F)(oF':aB c F')(s:Steps c F st g)(cl:FF c g)(ne:mC c g=false)(h1:jE c F' F)(h2:jE c g F')(tz:Ol c F'):DI c g:=by
 have og:=s.ok oF;obtain⟨st',⟨g',s',em⟩ | ⟨g',EN⟩⟩:=IW hc oF'
 · have k:=s'.keeps og cl h2;obtain⟨i,hi,j,hj,e⟩:=Ul.mp em;have:=k i hi j hj;rw[e]at this;have z:g i j=0:=by unfold Im at this;rw[Nat.and_zero]at this;exact this.symm
   exact absurd z (jl ne hi hj)
 · obtain⟨g0,s0,cl0,ne0,rfl⟩:=EN;have k:=s0.keeps og cl h2;have k':=s.keeps (s0.ok oF') cl0 (aS (s0.sub oF') h1);have t0:=(Ol.steps s0 tz).tame ne0;intro i hi j hj hij;have:g i j=g0 i j:=Im.antisymm (k i hi j hj) (k' i hi j hj);rw[this];exact t0 i hi j hj hij
theorem AO{m:Nat}{a:Nat}(hm:m<8192)(h:∀w,w<13->m.testBit w=true->a.testBit w=true):Im m a:=Nm.mpr fun k hk=>h k (by
 refine Nat.lt_of_not_le fun z=>?_
 have:8192<=2^k:=Nat.pow_le_pow_right (show 1<=2 by decide) z;rw[Nat.testBit_lt_two_pow (by omega)]at hk;cases hk) hk
theorem VT{c:Nat}{g:YA}(og:aB c g){f:Fact}{i m j:Nat}(h:aK f i m j)(hi:i<c)(hj:j<c)(ml:m<8192){F:YA}{fs:List Fact}(fok:∀x∈fs,cD c x)(oF:aB c F)(hf:f∈fs)(s:jE c g (fC F fs)):Im (g i j) m:=by
 rcases h with rfl | rfl
 · exact(s i hi j hj).trans (nJ fs fok F oF _ hf)
 · have:=(s j hj i hi).trans (nJ fs fok F oF _ hf);rw[og.tn i hi j hj]at this;have:=yH this;rw[YK (og.lt i hi j hj),YK ml]at this;exact this
theorem V2:gH 3 3=1:=by decide +kernel
theorem Xd:gH 3 864&&&576=0:=by decide +kernel
theorem Yd:gH 6144 864&&&96=0:=by decide +kernel
theorem t3:Al 3=6144:=by decide +kernel
theorem C4:Im 1 3:=by unfold Im;decide
theorem Ft{m:Nat}(h:Im m 1):(OA m).length<=1:=by
 have:=KN h;have e:(OA 1).length=1:=by decide +kernel
 omega
theorem Qq:∀c<9,(LA c).countP (fun p=>!(decide (1<=p.1)&&decide (p.1+2<=p.2)))<=20:=by decide
theorem Gv:(∀w<13,(864:Nat).testBit w=(decide (w=5) || decide (w=6) || decide (w=8) || decide (w=9)))/\(∀w<13,(288:Nat).testBit w=(decide (w=5) || decide (w=8)))/\(∀w<13,(768:Nat).testBit w=(decide (w=8) || decide (w=9)))/\(∀w<13,(576:Nat).testBit w=(decide (w=6) || decide (w=9)))/\(∀w<13,(96:Nat).testBit w=(decide (w=5) || decide (w=6))):=by decide +kernel
theorem RJ{R:Rw}(O:R.Ok)(k:Nat):R.gp k∈RL/\R.gp k<8192/\Im (R.gp k) 3:=by rcases O.gp k with z | z | z<;>rw[z]<;>exact⟨by decide,by decide,by unfold Im;decide⟩
noncomputable def Rw.ms(R:Rw):List fD:=(1,R.A&&&288,0)::(R.many,R.Z&&&768,0)::(List.range (R.many-1)).map fun k=>(k+1,R.gp k,k+2)
theorem Jz{R:Rw}(O:R.Ok)(m2:1<R.many){fs:List Fact}(H:PH R fs)(fok:∀x∈fs,cD (R.many+1) x){st:List (Nat×Nat×Nat)}{g:YA}(s:Steps (R.many+1) (fC vB fs) st g)(cl:FF (R.many+1) g)(ne:mC (R.many+1) g=false):DI (R.many+1) g/\lc (R.many+1) g<=20:=by
 have m7:=O.m7;have i0:0<R.many+1:=Nat.succ_pos _;have i1:1<R.many+1:=Nat.lt_succ_of_lt m2;have im:R.many<R.many+1:=Nat.lt_succ_self _;have m1:1≠R.many:=Nat.ne_of_lt m2;have m0:R.many≠0:=Nat.ne_of_gt (Nat.lt_trans Nat.zero_lt_one m2);have oF:=xH fs fok _ (WF (R.many+1));have og:=s.ok oF;have sF:=s.sub oF;obtain⟨zby,zdF,zdH,zdG,b96⟩:=Gv;obtain⟨fA,hA,iA⟩:=H.fA;obtain⟨fZ,hZ,iZ⟩:=H.fZ m2;have gA:=VT og iA i1 i0 O.al fok (WF _) hA sF;have gZ:=VT og iZ im i0 O.zl fok (WF _) hZ sF;have A864:Im R.A 864:=AO O.al fun w hw hb=>by rw[zby w hw];rcases O.aw w hb with rfl | rfl | rfl | rfl<;>rfl
 have zch:Im R.Z 864:=AO O.zl fun w hw hb=>by rw[zby w hw];rcases O.zw m2 w hb with rfl | rfl | rfl | rfl<;>rfl
 have gg:∀k,k+1<R.many->Im (g (k+1) (k+2)) (R.gp k):=fun k hk=>by obtain⟨f,hf,i⟩:=H.fg k hk;exact VT og i (Nat.lt_succ_of_lt hk) (Nat.succ_lt_succ hk) (RJ O k).2.1 fok (WF _) hf sF
 have ch:∀n i j,1<=i->j<=R.many->j=i+n+1->Im (g i j) 3/\(1<=n->Im (g i j) 1):=by
  intro n
  induction n with
  | zero=>
   intro i j hi hj e;obtain⟨k,rfl⟩:∃k,i=k+1:=⟨i-1,by omega⟩
   subst e;exact⟨(gg k (by omega)).trans (RJ O k).2.2,by omega⟩
  | succ n ih=>
   intro i j hi hj e;obtain⟨a,_⟩:=ih (i+1) j (by omega) hj (by omega);obtain⟨k,rfl⟩:∃k,i=k+1:=⟨i-1,by omega⟩
   have b:=(gg k (by omega)).trans (RJ O k).2.2;have cb:=show Im (g (k+1) j) (gH (g (k+1) (k+2)) (g (k+2) j))from cl (k+1) (by omega) (k+2) (by omega) j (by omega) ⟨by omega,by omega,by omega⟩
   have:=cb.trans (XN b a);rw[V2]at this;exact⟨this.trans C4,fun _=>this⟩
 have g1m:=(ch (R.many-2) 1 R.many (by omega) (by omega) (by omega)).1;have gm1:Im (g R.many 1) 6144:=by have:=yH g1m;rw[t3]at this;rw[og.tn 1 i1 R.many im];exact this
 have gA':Im (g 1 0) (R.A&&&288):=by
  refine jL gA (AO (og.lt 1 i1 0 i0) fun w hw hb=>?_);have h1:=Nm.mp (gA.trans A864) w hb;have cb:=Nm.mp ((show Im (g 1 0) (gH (g 1 R.many) (g R.many 0))from cl 1 i1 R.many im 0 i0 ⟨m1,m0,Nat.one_ne_zero⟩).trans (XN g1m (gZ.trans zch))) w hb;have n1:(576:Nat).testBit w=false:=by have:=congrArg (fun x=>Nat.testBit x w) Xd;simp only[Nat.testBit_and,cb,Bool.true_and,Nat.zero_testBit]at this;exact this
  rw[zby w hw]at h1;rw[zdG w hw]at n1;rw[zdF w hw];revert h1 n1;cases decide (w=5)<;>cases decide (w=6)<;>cases decide (w=8)<;>cases decide (w=9)<;>simp
 have gZ':Im (g R.many 0) (R.Z&&&768):=by
  refine jL gZ (AO (og.lt R.many im 0 i0) fun w hw hb=>?_);have h1:=Nm.mp (gZ.trans zch) w hb;have cb:=Nm.mp ((show Im (g R.many 0) (gH (g R.many 1) (g 1 0))from cl R.many im 1 i1 0 i0 ⟨Ne.symm m1,Nat.one_ne_zero,m0⟩).trans (XN gm1 (gA.trans A864))) w hb;have n1:(96:Nat).testBit w=false:=by have:=congrArg (fun x=>Nat.testBit x w) Yd;simp only[Nat.testBit_and,cb,Bool.true_and,Nat.zero_testBit]at this;exact this
  rw[zby w hw]at h1;rw[b96 w hw]at n1;rw[zdH w hw];revert h1 n1;cases decide (w=5)<;>cases decide (w=6)<;>cases decide (w=8)<;>cases decide (w=9)<;>simp
 have mok:∀m∈R.ms,pE (R.many+1) m/\m.2.1∈RL:=by
  intro m hm;unfold Rw.ms at hm;rcases mem_cons.mp hm with rfl | hm
  · have:=(O.ma m2).2.2;exact⟨⟨i1,i0,Nat.one_ne_zero,(MO _ this).2⟩,this⟩
  · rcases mem_cons.mp hm with rfl | hm
    · have:=(O.mz m2).2.2;exact⟨⟨im,i0,m0,(MO _ this).2⟩,this⟩
    · obtain⟨k,hk,rfl⟩:=mem_map.mp hm;have hk:=mem_range.mp hk;exact⟨⟨by show k+1<R.many+1;omega,by show k+2<R.many+1;omega,by show k+1≠k+2;omega,(RJ O k).2.1⟩,(RJ O k).1⟩
 have zbD:∀x∈R.ms.map Fact.ways,cD (R.many+1) x:=fun x hx=>by obtain⟨y,hy,rfl⟩:=mem_map.mp hx;exact(mok y hy).1
 have oF':=xH _ zbD _ (WF (R.many+1));have tz:=gW R.ms vB (Ax (R.many+1)) mok;have gin:∀m,Fact.ways m∈R.ms.map Fact.ways->Im (g m.1 m.2.2) m.2.1:=by
  intro m hm;obtain⟨y,hy,e⟩:=mem_map.mp hm;cases e;unfold Rw.ms at hy;rcases mem_cons.mp hy with rfl | hy
  · exact gA'
  · rcases mem_cons.mp hy with rfl | hy
    · exact gZ'
    · obtain⟨k,hk,rfl⟩:=mem_map.mp hy;exact gg k (by have:=mem_range.mp hk;omega)
 have h2:jE (R.many+1) g (fC vB (R.ms.map Fact.ways)):=WK og _ zbD vB (aS sF (lJ fs fok _ (WF _))) gin;have fin:∀m∈R.ms,Im (fC vB (R.ms.map Fact.ways) m.1 m.2.2) m.2.1:=fun m hm=>nJ _ zbD _ (WF _) m (mem_map_of_mem hm)
 have h1:jE (R.many+1) (fC vB (R.ms.map Fact.ways)) (fC vB fs):=by
  refine WK oF' fs fok vB (lJ _ zbD _ (WF _)) fun m hm=>?_
  have back:∀{i x j:Nat},i<R.many+1->j<R.many+1->Im (fC vB (R.ms.map Fact.ways) i j) x->aK (.ways m) i x j->Im (fC vB (R.ms.map Fact.ways) m.1 m.2.2) m.2.1:=by
   intro i x j hi hj q w;rcases w with e | e
   · cases e;exact q
   · cases e;show Im (fC vB (R.ms.map Fact.ways) j i) (Al x);rw[oF'.tn i hi j hj];exact yH q
  rcases H.only _ hm with i | ⟨_,i⟩ | ⟨k,hk,i⟩ | ⟨k,hk,e⟩ | e
  · exact back (i:=1) (j:=0) i1 i0 ((fin (1,R.A&&&288,0) (by simp[Rw.ms])).trans (DF _ _)) i
  · exact back (i:=R.many) (j:=0) im i0 ((fin (R.many,R.Z&&&768,0) (by simp[Rw.ms])).trans (DF _ _)) i
  · exact back (i:=k+1) (j:=k+2) (Nat.lt_succ_of_lt hk) (Nat.succ_lt_succ hk) (fin (k+1,R.gp k,k+2) (by unfold Rw.ms;exact mem_cons_of_mem _ (mem_cons_of_mem _ (mem_map.mpr ⟨k,mem_range.mpr (Nat.lt_sub_of_add_lt hk),rfl⟩)))) i
  · cases e
  · cases e
 refine⟨Xw (by omega) oF oF' s cl ne h1 h2 tz,?_⟩;refine Nat.le_trans (countP_mono_left fun p hp hk=>?_) (Qq (R.many+1) (by omega));obtain⟨p1,p2⟩:=Vm.mp hp;simp only[decide_eq_true_eq]at hk;by_cases a:1<=p.1
 · by_cases b:p.1+2<=p.2
   · have:=Ft ((ch (p.2-p.1-1) p.1 p.2 a (by omega) (by omega)).2 (by omega));omega
   · simp[b]
 · simp[a]
theorem kZ(m:Nat):∀(xs:List Nat)(a:Nat),((xs.foldl (fun a x=>if m.testBit x=true then a+2^(12-x)else a) a:Nat):Int)=a+((xs.filter fun x=>m.testBit x).map fun k=>(2:Int)^(12-k)).sum
 | [],a=>by simp
 | x::xs,a=>by
  rw[foldl_cons,kZ m xs,filter_cons];by_cases q:m.testBit x=true
  · rw[if_pos q,if_pos q,zfQ,sum_cons];have:((a+2^(12-x):Nat):Int)=a+(2:Int)^(12-x):=by simp
    omega
  · rw[if_neg q,if_neg q]
theorem jy(m:Nat):(List.range 13).foldl (fun a x=>if m.testBit x=true then a+2^(12-x)else a) 0=Al m:=by have:=kZ m (List.range 13) 0;rw[iY]at this;have e:mk (fun j=>m.testBit (12-j))=Al m:=rfl;rw[e]at this;omega
theorem Jq(m:Nat)(h:HI):DM [.int m] h=some (.int (Al m),h):=by
 obtain⟨l',h',e,⟨z,rfl⟩,rfl⟩:=eS (i:=2) (body:=QM) (fun(k:Nat)=>Dt.int (k:Int)) (fun(a:Nat) l h'=>(∃z,l=[some (.int m),some (.int a),z])/\h'=h) (fun a x=>if m.testBit x=true then a+2^(12-x)else a) (List.range 13) (by
  rintro k hk a l h ⟨⟨z,rfl⟩,rfl⟩;have hk:=mem_range.mp hk;have ep:(12-(k:Int))=((12-k:Nat):Int):=by omega
  have s1:=DU (h:=h) (zP (show 12-k<13 by omega));simp only[Int.toNat_natCast]at s1;have b:=IT m k;refine⟨.nx [some (.int m),some (.int ((if m.testBit k=true then a+2^(12-k)else a:Nat):Nat)),some (.int k)] h,?_,⟨_,rfl⟩,rfl⟩;simp only[QM,uB,gB,EA,sA,DA,zfS,zfT,zfM,zfN,uA,oA,EU (show(0:Int)<=(k:Int) by omega),Int.toNat_natCast,zL,vE,fB,b,ep,FU,s1,pB,uD,Int.one_mul,EC];by_cases hb:m.testBit k=true<;>simp[hb]) 0 [some (.int m),some (.int 0),none] h ⟨⟨none,rfl⟩,rfl⟩
 rw[jy]at e;have e':FC (JA 2) QM (List.map (fun(k:Nat)=>Dt.int (k:Int)) (List.range 13)) [some (.int m),some (.int 0),none] h'=some (.nx [some (.int m),some (.int (Al m)),z] h'):=e;simp[DM,OQ,Ld,e']
def WA:Fact->Dt
 | .ways m=>dC m
 | .long x=>.tup [.str "long", .int (x.1:Nat),.int x.2.1,.int x.2.2]
 | .one _=>.non
def wf(N i m j:Nat):Fact:=if N%2=0 then .ways (i,m,j)else .ways (j,Al m,i)
theorem LJ(N i m j:Nat):aK (wf N i m j) i m j:=by
 unfold wf;split
 · exact .inl rfl
 · exact .inr rfl
theorem WS(N i m j:Nat)(h:HI):MG [.int (N:Nat),.int (i:Nat),.int (m:Nat),.int (j:Nat)] h=some (WA (wf N i m j),h):=by
 have m2:=fun(x:Int) (h:HI)=>wF (h:=h) (i:=x) (show(0:Int)<2 by decide)
 have sz4:4<=sizeLine:=by decide
 unfold wf;by_cases z:N%2=0
 · have d:decide ((N:Int)%2=0)=true:=decide_eq_true (by omega);rw[if_pos z];simp only[MG,VM,YB,zfO,zfP,if_true,zfQ,zfR,Nat.reduceAdd,Nat.reduceSub,List.replicate,zf3,XA,uB,gB,EA,sA,DA,zfM,zfN,uA,oA,m2,vE,d,fB,CB,ND,SA,NA,sz4,BE,OB];rfl
 · have d:decide ((N:Int)%2=0)=false:=decide_eq_false (by omega);rw[if_neg z];simp only[MG,VM,YB,zfO,zfP,if_true,zfQ,zfR,Nat.reduceAdd,Nat.reduceSub,List.replicate,zf3,XA,uB,gB,EA,sA,DA,zfM,zfN,uA,oA,m2,vE,d,fB,zf4,if_false,EC,ZA,CB,ND,SA,NA,rB,Jq,sz4,OB];rfl
def VU(A:Nat):Bool:=decide (A<8192)&&(List.range 13).all fun w=>!A.testBit w || (decide (w=5) || decide (w=6) || decide (w=8) || decide (w=9))
def WU(A e1 e2:Nat):Bool:=(VU A&&decide (e1<=1)&&decide (e2<=1))&&(A.testBit (iP e1 e2)&&(List.range 13).all fun w=>!A.testBit w || decide (e1+e2<=VO w))
def XU(A e1:Nat):Bool:=(VU A&&decide (e1<=1))&&(A.testBit (if e1=0 then 5 else 8)&&(!decide (e1=1) || !A.testBit 5)&&RL.contains (A&&&288))
def YU(A e1:Nat):Bool:=(VU A&&decide (e1<=1))&&(A.testBit (if e1=0 then 9 else 8)&&(!decide (e1=1) || !A.testBit 9)&&RL.contains (A&&&768))
noncomputable def jV(r:Nat):Nat:=[32,64,256,512,544,320,288,864].getD r 0
noncomputable def KL(r:Nat):Nat×Nat:=[(0,1),(0,0),(1,1),(1,0),(0,1),(0,0),(0,1),(0,0)].getD r (0,0)
noncomputable def Z2(r q:Nat):Nat:=[32,256,288].getD r 0 + [0,64,512].getD q 0
noncomputable def o3(r q:Nat):Nat:=[512,256,768].getD r 0 + [0,64,32].getD q 0
noncomputable def isE(r:Nat):Nat:=if r=1 then 1 else 0
theorem Nx:∀r<8,WU (jV r) (KL r).1 (KL r).2=true:=by decide +kernel
theorem Ox:∀r<3,∀q<3,XU (Z2 r q) (isE r)=true:=by decide +kernel
theorem Px:∀r<3,∀q<3,YU (o3 r q) (isE r)=true:=by decide +kernel
theorem XX{A w:Nat}(h:A<8192)(hb:A.testBit w=true):w<13:=by
 refine Nat.lt_of_not_le fun z=>?_
 have:8192<=2^w:=Nat.pow_le_pow_right (show 1<=2 by decide) z;rw[Nat.testBit_lt_two_pow (by omega)]at hb;cases hb
theorem aU{A:Nat}(h:VU A=true):A<8192/\∀w,A.testBit w=true->w=5\/w=6\/w=8\/w=9:=by unfold VU at h;rw[Bool.and_eq_true,decide_eq_true_eq]at h;refine⟨h.1,fun w hb=>?_⟩;have:=all_eq_true.mp h.2 w (mem_range.mpr (XX h.1 hb));rw[hb]at this;simpa[or_assoc]using this
structure AT(many A Z e1 e2:Nat):Prop where
 aw:∀w,A.testBit w=true->w=5\/w=6\/w=8\/w=9
 al:A<8192
 l1:e1<=1
 l2:e2<=1
 one:many=1->A.testBit (iP e1 e2)=true/\∀w,A.testBit w=true->e1+e2<=VO w
 zw:1<many->∀w,Z.testBit w=true->w=5\/w=6\/w=8\/w=9
 zl:Z<8192
 ma:1<many->A.testBit (if e1=0 then 5 else 8)=true/\(e1=1->A.testBit 5=false)/\A&&&288∈RL
 mz:1<many->Z.testBit (if e2=0 then 9 else 8)=true/\(e2=1->Z.testBit 9=false)/\Z&&&768∈RL
theorem JI{r:Nat}{xs:List Nat}(h:r<xs.length)(k:HI):BA (.lst (xs.map fun(n:Nat)=>Dt.int (n:Int))) (.int (r:Nat)) k=some (.int (xs.getD r 0:Nat),k):=by rw[II,SM.OD,getElem?_map,getElem?_eq_getElem h];simp[List.getD,getElem?_eq_getElem h]
theorem iV(a b:Int):e2 lB (eC (.int a)) (eC (.int b))=eC (.int (a+b)):=funext fun _=>funext fun _=>rfl
theorem hV(a b c:Int)(l:List (Option Dt))(h:HI):aE (cA (eC (.int a)) (cA (eC (.int b)) (cA (eC (.int c)) kA))) l h=some (.lst [.int a,.int b,.int c],h):=rfl
theorem P3(a b c d e f g i:Int)(l:List (Option Dt))(h:HI):aE (cA (eC (.int a)) (cA (eC (.int b)) (cA (eC (.int c)) (cA (eC (.int d)) (cA (eC (.int e)) (cA (eC (.int f)) (cA (eC (.int g)) (cA (eC (.int i)) kA)))))))) l h=some (.lst [.int a,.int b,.int c,.int d,.int e,.int f,.int g,.int i],h):=rfl
theorem Ah{many:Nat}(h1:1<=many)(N:Nat):∃A Z e1 e2:Nat,AT many A Z e1 e2/\∀h:HI,GK [.int (N:Nat),.int (many:Nat)] h=some (.tup [.int (A:Nat),.int (Z:Nat),.int ((e1+e2:Nat):Int)],h):=by
 have zbo:3<=sizeLine:=by decide
 by_cases z:many=1
 · subst z;have hr:N%8<8:=Nat.mod_lt _ (by decide);have c:=Nx _ hr;unfold WU at c;simp only[Bool.and_eq_true,decide_eq_true_eq]at c;obtain⟨⟨⟨c1,c2⟩,c3⟩,c4,c5⟩:=c;obtain⟨al,aw⟩:=aU c1;refine⟨jV (N%8),jV (N%8),(KL (N%8)).1,(KL (N%8)).2,⟨aw,al,c2,c3,fun _=>⟨c4,fun w hb=>?_⟩,fun q=>absurd q (by decide),al,fun q=>absurd q (by decide),fun q=>absurd q (by decide)⟩,fun h=>?_⟩
   · have:=all_eq_true.mp c5 w (mem_range.mpr (XX al hb));rw[hb]at this;simpa using this
   · have m8:=fun(h:HI)=>wF (h:=h) (i:=(N:Int)) (show(0:Int)<8 by decide)
     have e8:(N:Int)%8=((N%8:Nat):Int):=rfl;have p1:=fun k=>JI (xs:=[32,64,256,512,544,320,288,864]) hr k
     have p2:=fun k=>JI (xs:=[1,0,2,1,1,0,1,0]) hr k
     have g:[1,0,2,1,1,0,1,0].getD (N%8) 0=(KL (N%8)).1+(KL (N%8)).2:=by
      have:∀r<8,[1,0,2,1,1,0,1,0].getD r 0=(KL r).1+(KL r).2:=by decide
      exact this _ hr
     rw[g]at p2;have g1:[32,64,256,512,544,320,288,864].getD (N%8) 0=jV (N%8):=rfl;rw[g1]at p1;generalize jV (N%8)=A at p1;generalize (KL (N%8)).1+(KL (N%8)).2=B at p2;simp only[zfQ,zfR,Int.cast_ofNat_Int]at p1 p2;have d1:decide (((1:Nat):Int)=1)=true:=rfl;simp only[GK,UM,YB,zfO,zfP,if_true,zfQ,zfR,Nat.reduceAdd,Nat.reduceSub,List.replicate,zfX,zfW,XA,uB,gB,EA,sA,DA,P3,iV,SA,NA,zfM,zfN,uA,oA,vE,d1,fB,pB,uD,Int.reduceAdd,m8,e8,p1,p2,zfT,zfS,ZA,CB,ND,zbo,BE,OB]
 · have hr:N%3<3:=Nat.mod_lt _ (by decide);have hr2:N/3%3<3:=Nat.mod_lt _ (by decide);have hr3:N/9%3<3:=Nat.mod_lt _ (by decide);have hr4:N/27%3<3:=Nat.mod_lt _ (by decide);have c:=Ox _ hr _ hr3;have c':=Px _ hr2 _ hr4;unfold XU at c;unfold YU at c';simp only[Bool.and_eq_true,decide_eq_true_eq]at c c';obtain⟨⟨c1,c2⟩,⟨c3,c4⟩,c5⟩:=c;obtain⟨⟨c1',c2'⟩,⟨c3',c4'⟩,c5'⟩:=c';obtain⟨al,aw⟩:=aU c1;obtain⟨al',aw'⟩:=aU c1';refine⟨Z2 (N%3) (N/9%3),o3 (N/3%3) (N/27%3),isE (N%3),isE (N/3%3),⟨aw,al,c2,c2',fun q=>absurd q z,fun _=>aw',al',fun _=>⟨c3,fun q=>?_,contains_iff_mem.mp c5⟩,fun _=>⟨c3',fun q=>?_,contains_iff_mem.mp c5'⟩⟩,fun h=>?_⟩
   · simpa[q]using c4
   · simpa[q]using c4'
   · have m3:=fun(x:Int) (h:HI)=>wF (h:=h) (i:=x) (show(0:Int)<3 by decide)
     have d3:=fun(i:Int) (h:HI)=>zG (h:=h) (i:=i) (j:=3) ⟨by decide,by decide⟩
     have d9:=fun(i:Int) (h:HI)=>zG (h:=h) (i:=i) (j:=9) ⟨by decide,by decide⟩
     have d27:=fun(i:Int) (h:HI)=>zG (h:=h) (i:=i) (j:=27) ⟨by decide,by decide⟩
     have k1:(N:Int)%3=((N%3:Nat):Int):=rfl;have k2:(N:Int)/3%3=((N/3%3:Nat):Int):=rfl;have k3:(N:Int)/9%3=((N/9%3:Nat):Int):=rfl;have k4:(N:Int)/27%3=((N/27%3:Nat):Int):=rfl;generalize N%3=r at hr k1;generalize N/3%3=r2 at hr2 k2;generalize N/9%3=r3 at hr3 k3;generalize N/27%3=r4 at hr4 k4;have p1:=fun k=>JI (xs:=[32,256,288]) hr k
     have p2:=fun k=>JI (xs:=[512,256,768]) hr2 k
     have p3:=fun k=>JI (xs:=[0,64,512]) hr3 k
     have p4:=fun k=>JI (xs:=[0,64,32]) hr4 k
     have b1:∀x:Nat,(if decide ((x:Int)=1)=true then(1:Int)else 0)=((isE x:Nat):Int):=fun x=>by
      unfold isE;by_cases z:x=1
      · rw[if_pos z,if_pos (decide_eq_true (by omega))];rfl
      · rw[if_neg z,decide_eq_false (by omega:¬(x:Int)=1)];rfl
     have eA:∀a b:Nat,((a:Nat):Int)+((b:Nat):Int)=((a+b:Nat):Int):=fun _ _=>rfl
     unfold Z2 o3;generalize [32,256,288].getD r 0=a1 at p1;generalize [512,256,768].getD r2 0=a2 at p2;generalize [0,64,512].getD r3 0=a3 at p3;generalize [0,64,32].getD r4 0=a4 at p4;simp only[zfQ,zfR,Int.cast_ofNat_Int]at p1 p2 p3 p4;have dm:decide (((many:Nat):Int)=1)=false:=decide_eq_false (by omega);simp only[GK,UM,YB,zfO,zfP,if_true,zfQ,zfR,Nat.reduceAdd,Nat.reduceSub,List.replicate,zfX,zfW,XA,uB,gB,EA,sA,DA,hV,iV,SA,NA,sD,zfM,zfN,uA,oA,vE,dm,fB,zf4,if_false,EC,ZA,pB,uD,Int.reduceAdd,zbo,m3,d3,d9,d27,k1,k2,k3,k4,p1,p2,p3,p4,uZ,b1,eA,zfT,zfS,CB,ND,OB]
theorem rL(ns:List Int)(k:Nat)(h:HI):aF [.lst (ns.map Dt.int),.int (k:Int)] h=some (.int (ns[k]?.getD 0),h):=by
 simp[aF,oQ];by_cases hk:k<ns.length
 · simp[hk]
 · simp[hk]
theorem nO(x f:Int)(h:HI):wH [.int x,.int f] h=some (.int ((x%2147483647+11)*f%2147483629),h):=by
 have c:zaJ (x%2147483647+11) f:=Or.inl ⟨by omega,by omega⟩;have d1:=fun(i:Int) (h:HI)=>wF (h:=h) (i:=i) (show(0:Int)<2147483647 by decide)
 have d2:=fun(i:Int) (h:HI)=>wF (h:=h) (i:=i) (show(0:Int)<2147483629 by decide)
 have d3:=fun(h:HI)=>xF (h:=h) c
 simp only[wH,EQ,YB,zfO,zfP,if_true,zfQ,zfR,List.replicate,zfX,zfW,CB,EA,sA,DA,zfM,zfN,uA,oA,d1,d2,d3,uD,OB]
theorem Tq(ns:List Int)(lo hi:Option Int):∃ms:List Int,GG (ns.map Dt.int) lo hi=ms.map Dt.int/\ms.length<=ns.length:=by unfold SM.GG;rw[<- map_drop,<- map_take];refine⟨_,rfl,?_⟩;rw[length_take,length_drop];omega
noncomputable def Qm(ns:List Int)(k:Nat):Nat:=((ns[k+2]?.getD 0%2147483647+11)*16807%2147483629).toNat
def dI(ns:List Int)(k:Nat):Int:=if Qm ns k%4=0 then 0 else if Qm ns k%4=1 then 1+(Qm ns k:Int)/4%4 else if Qm ns k%4=2 then ns[k+2]?.getD 0%100000000000000000 else(Qm ns k:Int)
def ZH(ns:List Int)(k:Nat):Nat:=[2,1,3].getD (Qm ns k/16%3) 0
theorem Ey(ns:List Int)(k:Nat):Qm ns k<2147483629:=by unfold Qm;have:=Int.emod_lt_of_pos ((ns[k+2]?.getD (0:Int)%2147483647+11)*16807) (show(0:Int)<2147483629 by decide);omega
theorem Yt(ns:List Int)(k:Nat):0<=dI ns k/\dI ns k<=1000000000000000000:=by
 have l:=Ey ns k;unfold dI;generalize Qm ns k=N at l;have:=Int.emod_nonneg (ns[k+2]?.getD (0:Int)) (show(100000000000000000:Int)≠0 by decide);have:=Int.emod_lt_of_pos (ns[k+2]?.getD (0:Int)) (show(0:Int)<100000000000000000 by decide);split
 · omega
 · split
   · omega
   · split<;>omega
theorem Ug(ns:List Int)(k:Nat):ZH ns k=1\/ZH ns k=2\/ZH ns k=3:=by unfold ZH;have:Qm ns k/16%3<3:=Nat.mod_lt _ (by decide);rcases(show Qm ns k/16%3=0\/Qm ns k/16%3=1\/Qm ns k/16%3=2 by omega)with z | z | z<;>rw[z]<;>decide
def gF(ns:List Int)(many A Z e1 e2:Nat)(hi:Int):Rw:=⟨many,A,Z,e1,e2,dI ns,ZH ns,hi⟩
def XJ(ns:List Int)(many k:Nat):List Fact:=rD (k+1) (dI ns k) 1000000000000000000::(if k+1<many then [wf (Qm ns k/48) (k+1) (ZH ns k) (k+2)]else [])
theorem p5(ns:List Int)(k:Nat):Gp [Dt.int 0,.int (1+(Qm ns k:Int)/4%4),.int (ns[k+2]?.getD 0%100000000000000000),.int (Qm ns k:Nat)] ((Qm ns k:Int)%4)=some (.int (dI ns k)):=by
 unfold dI;generalize Qm ns k=N;rcases(show N%4=0\/N%4=1\/N%4=2\/N%4=3 by omega)with z | z | z | z
 · rw[show(N:Int)%4=0 by omega,if_pos z];rfl
 · rw[show(N:Int)%4=1 by omega,if_neg (by omega),if_pos z];rfl
 · rw[show(N:Int)%4=2 by omega,if_neg (by omega),if_neg (by omega),if_pos z];rfl
 · rw[show(N:Int)%4=3 by omega,if_neg (by omega),if_neg (by omega),if_neg (by omega)];rfl
theorem Iz(ns:List Int){many A Z f1 f2 k:Nat}(h7:many<=7)(hk:k<many){n:Nat}{xs:List Dt}{h:HI}(hn:h[n]?=some (.lst xs))(lx:xs.length<=100)(x0 x2 x3 x9 x10:Option Dt)(S:Int):∃z9 z10,
 NK [some (.lst (ns.map Dt.int)),some (.int (many:Nat)),x2,x3,some (.ref n),some (.int ((gF ns many A Z f1 f2 0).tot k+(f2:Int))),some (.int (2*(many:Int)+3)),some (.int S),some (.int (1+(k:Int))),x9,x10] h =
  some (.nx [some (.lst (ns.map Dt.int)),some (.int (many:Nat)),some (.int (Qm ns k:Nat)),x3,some (.ref n),some (.int ((gF ns many A Z f1 f2 0).tot (k+1)+(f2:Int))),some (.int (2*(many:Int)+3)),some (.int (S+dI ns k)),some (.int (1+(k:Int))),z9,z10] (h.set n (.lst (xs++(XJ ns many k).map WA)))):=by
 have cc:=fun h=>rL ns (k+2) h
 have ca:(1:Int)+(k:Int)+1=((k+2:Nat):Int):=by omega
 have cb:(1:Int)+(k:Int)=((k+1:Nat):Int):=by omega
 have en:(ns[k+2]?.getD 0%2147483647+11)*16807%2147483629=((Qm ns k:Nat):Int):=by unfold Qm;have:=Int.emod_nonneg ((ns[k+2]?.getD (0:Int)%2147483647+11)*16807) (show(2147483629:Int)≠0 by decide);omega
 have d4:=fun(i:Int) (h:HI)=>zG (h:=h) (i:=i) (j:=4) ⟨by decide,by decide⟩
 have d16:=fun(i:Int) (h:HI)=>zG (h:=h) (i:=i) (j:=16) ⟨by decide,by decide⟩
 have d48:=fun(i:Int) (h:HI)=>zG (h:=h) (i:=i) (j:=48) ⟨by decide,by decide⟩
 have m4:=fun(i:Int) (h:HI)=>wF (h:=h) (i:=i) (show(0:Int)<4 by decide)
 have m3:=fun(i:Int) (h:HI)=>wF (h:=h) (i:=i) (show(0:Int)<3 by decide)
 have m17:=fun(i:Int) (h:HI)=>wF (h:=h) (i:=i) (show(0:Int)<100000000000000000 by decide)
 have zcy:=fun(h:HI)=>CU (h:=h) (i:=10) (j:=17) ⟨by decide,by decide,by decide⟩
 have zcz:=fun(h:HI)=>CU (h:=h) (i:=10) (j:=18) ⟨by decide,by decide,by decide⟩
 simp only[show(17:Int).toNat=17 from rfl,show(10:Int)^17=100000000000000000 from rfl]at zcy;simp only[show(18:Int).toNat=18 from rfl,show(10:Int)^18=1000000000000000000 from rfl]at zcz;have sa:=p5 ns k;have um:=fun(h:HI)=>xF (h:=h) (i:=dI ns k) (j:=2*(many:Int)+3) (Or.inr ⟨by omega,by omega⟩)
 have sz4:4<=sizeLine:=by decide
 have eG:max (dI ns k*(2*(many:Int)+3)) 1=(gF ns many A Z f1 f2 0).w k:=by show _=max (dI ns k*((2*(many+1)+1:Nat):Int)) 1;rw[show((2*(many+1)+1:Nat):Int)=2*(many:Int)+3 by omega]
 obtain⟨T,hT⟩:∃T,T=(gF ns many A Z f1 f2 0).tot k:=⟨_,rfl⟩
 obtain⟨W,hW⟩:∃W,W=(gF ns many A Z f1 f2 0).w k:=⟨_,rfl⟩
 have tn:(gF ns many A Z f1 f2 0).tot (k+1)=T+W+(if k+1<many/\ZH ns k=1 then 1 else 0):=by rw[hT,hW];rfl
 rw[<- hW]at eG;rw[<- hT,tn];generalize hz:dI ns k=z at sa um eG;have lD:WA (rD (k+1) z 1000000000000000000)=.tup [.str "long", .int ((k+1:Nat):Int),.int z,.int 1000000000000000000]:=rfl;have ap:=fun(x10:Option Dt)=>PF (l:=[some (.lst (ns.map Dt.int)),some (.int (many:Nat)),some (.int (Qm ns k:Nat)),x3,some (.ref n),some (.int (T+(f2:Int))),some (.int (2*(many:Int)+3)),some (.int S),some (.int ((k+1:Nat):Int)),some (.int z),x10]) (h:=h) (g:=bB (cA (eC (.str "long")) (cA (eV 8) (cA (eV 9) (cA (e2 bI (eC (.int 10)) (eC (.int 18))) kA))))) (d:=WA (rD (k+1) z 1000000000000000000)) hn (by
  simp only[ND,SA,NA,DA,sA,EA,zfM,zfN,uA,oA,zcz,zfO,zfP,Nat.reduceAdd,sz4,if_true,lD]) hn (by simp[sizeLine];omega)
 obtain⟨h1,hh1⟩:∃h1,h1=h.set n (.lst (xs++[WA (rD (k+1) z 1000000000000000000)])):=⟨_,rfl⟩
 rw[<- hh1]at ap;have nl:n<h.length:=(zfY hn).1;have hn1:h1[n]?=some (.lst (xs++[WA (rD (k+1) z 1000000000000000000)])):=by rw[hh1];simp[nl]
 have em:=fun(x f:Int) (h:HI)=>nO x f h
 have gk:(Qm ns k:Int)/16%3=((Qm ns k/16%3:Nat):Int):=rfl;have ce:((k+1:Nat):Int)+1=((k+2:Nat):Int):=rfl;refine⟨some (.int z),if k+1<many then some (.int ((Qm ns k/16%3:Nat):Int))else x10,?_⟩;simp only[NK,XA,pB,rB,SA,NA,EA,CL,sA,DA,zfO,zfP,Nat.reduceAdd,zfT,zfS,zfM,zfN,uA,oA,cb,uD,ce,cc,zf3,em,en,ZA,d4,m4,zcy,m17,sz4,if_true,II,sa,zfU,eE,nF,ap,jM,um,yZ,eG];by_cases kl:k+1<many
 · have dk:decide (((k+1:Nat):Int)<((many:Nat):Int))=true:=decide_eq_true (by omega);rw[if_pos kl];have g48:(Qm ns k:Int)/48=((Qm ns k/48:Nat):Int):=rfl;have gl:Qm ns k/16%3<3:=Nat.mod_lt _ (by decide);have pg:=fun h=>JI (xs:=[2,1,3]) gl h
   have pe:[2,1,3].getD (Qm ns k/16%3) 0=ZH ns k:=rfl;rw[pe]at pg;simp only[zfQ,zfR,Int.cast_ofNat_Int]at pg;have gi:(if decide (((Qm ns k/16%3:Nat):Int)=1)=true then(1:Int)else 0)=(if k+1<many/\ZH ns k=1 then 1 else 0):=by
    have:(Qm ns k/16%3=1)↔ZH ns k=1:=by unfold ZH;rcases(show Qm ns k/16%3=0\/Qm ns k/16%3=1\/Qm ns k/16%3=2 by omega)with z | z | z<;>rw[z]<;>decide
    by_cases y:Qm ns k/16%3=1
    · rw[if_pos (decide_eq_true (by omega)),if_pos ⟨kl,this.mp y⟩]
    · rw[decide_eq_false (show ¬((Qm ns k/16%3:Nat):Int)=1 by omega),if_neg zf0,if_neg (fun q:k+1<many/\ZH ns k=1=>y (this.mpr q.2))]
   generalize Qm ns k/16%3=gx at gk pg gi ⊢;generalize hgq:ZH ns k=gq at pg gi ⊢;have ew:=fun h=>WS (Qm ns k/48) (k+1) gq (k+2) h
   have ap2:=fun(x5 x7:Option Dt)=>PF (l:=[some (.lst (ns.map Dt.int)),some (.int (many:Nat)),some (.int (Qm ns k:Nat)),x3,some (.ref n),x5,some (.int (2*(many:Int)+3)),x7,some (.int ((k+1:Nat):Int)),some (.int z),some (.int (gx:Nat))]) (h:=h1) (g:=FA MG [] (cA (e2 cE (eV 2) (eC (.int 48))) (cA (eV 8) (cA (e2 BA (aE (cA (eC (.int 2)) (cA (eC (.int 1)) (cA (eC (.int 3)) kA)))) (eV 10)) (cA (e2 lB (eV 8) (eC (.int 1))) kA))))) (d:=WA (wf (Qm ns k/48) (k+1) gq (k+2))) hn1 (by
    simp only[rB,SA,NA,DA,sA,EA,hV,zfM,zfN,uA,oA,d48,g48,pg,uD,ce,zf3,ew]) hn1 (by simp[sizeLine];omega)
   have hh:h1.set n (.lst (xs++[WA (rD (k+1) z 1000000000000000000)]++[WA (wf (Qm ns k/48) (k+1) gq (k+2))]))=h.set n (.lst (xs++[WA (rD (k+1) z 1000000000000000000),WA (wf (Qm ns k/48) (k+1) gq (k+2))])):=by rw[hh1,set_set,append_assoc];rfl
   rw[hh]at ap2;have ass:T+(f2:Int)+W+(if k+1<many/\gq=1 then(1:Int)else 0)=T+W+(if k+1<many/\gq=1 then 1 else 0)+(f2:Int):=by omega
   rw[show XJ ns many k=[rD (k+1) z 1000000000000000000,wf (Qm ns k/48) (k+1) gq (k+2)]from by unfold XJ;rw[if_pos kl,hz,hgq]];simp only[XA,pB,EA,sA,DA,zfT,zfS,zfM,zfN,uA,oA,uD,ZA,eE,nF,uB,gB,oV,dk,fB,if_true,d16,m3,gk,sD,vE,uZ,gi,ap2,ass,zfQ,zfR]
 · have dk:decide (((k+1:Nat):Int)<((many:Nat):Int))=false:=decide_eq_false (by omega);rw[if_neg kl];have g0:(if k+1<many/\ZH ns k=1 then(1:Int)else 0)=0:=if_neg (fun q=>kl q.1);have ass:T+(f2:Int)+W=T+W+0+(f2:Int):=by omega
   rw[show XJ ns many k=[rD (k+1) z 1000000000000000000]from by unfold XJ;rw[if_neg kl,hz],g0,hh1];simp only[EA,sA,DA,zfM,zfN,uA,oA,uB,gB,oV,dk,fB,zf4,if_false,EC,ass,zfQ,zfR]
def VD(ns:List Int)(many A N0 k:Nat):List Fact:=wf (N0/81) 1 A 0::(List.range k).flatMap (XJ ns many)
theorem Py(ns:List Int)(many k:Nat):(XJ ns many k).length<=2:=by unfold XJ;split<;>simp
theorem tO(ns:List Int)(many A N0:Nat):∀k,(VD ns many A N0 k).length<=1+2*k
 | 0=>by simp[VD]
 | k+1=>by have ih:=tO ns many A N0 k;have:=Py ns many k;unfold VD at ih ⊢;rw[range_succ,flatMap_append];simp only[zfO,length_append,flatMap_cons,flatMap_nil,zf3]at ih ⊢;omega
theorem Hv(ns:List Int)(many A N0 k:Nat):VD ns many A N0 (k+1)=VD ns many A N0 k++XJ ns many k:=by unfold VD;rw[range_succ,flatMap_append];simp
def wD(ns:List Int)(many A Z N0 N1:Nat):List Fact:=VD ns many A N0 many++(if 1<many then [wf (N1/96) many Z 0]else [])
theorem P6(ns:List Int){many:Nat}(h1:1<=many)(h7:many<=7):∃A Z f1 f2 N0 N1 S,AT many A Z f1 f2/\∀h:HI,iN [.lst (ns.map Dt.int),.int (many:Nat)] h=some (.tup [.ref h.length,.int ((gF ns many A Z f1 f2 0).tot many+(f2:Int)),.int S],h++[.lst ((wD ns many A Z N0 N1).map WA)]):=by
 have c1:=fun h=>rL ns 1 h
 simp only[Int.cast_ofNat_Int]at c1;have em:=fun(x f:Int) (h:HI)=>nO x f h
 obtain⟨N0,hN0⟩:∃N0:Nat,(ns[1]?.getD 0%2147483647+11)*48271%2147483629=(N0:Int):=⟨((ns[1]?.getD (0:Int)%2147483647+11)*48271%2147483629).toNat,by
  have:=Int.emod_nonneg ((ns[1]?.getD (0:Int)%2147483647+11)*48271) (show(2147483629:Int)≠0 by decide);omega⟩
 obtain⟨A,Z,f1,f2,EO,ee⟩:=Ah h1 N0;obtain⟨SS,hSS⟩:∃SS:Nat->Int,SS=fun k=>((List.range k).map (dI ns)).sum:=⟨_,rfl⟩
 have ss1:∀k,SS k+dI ns k=SS (k+1):=fun k=>by rw[hSS];simp[range_succ]
 have d81:=fun(i:Int) (h:HI)=>zG (h:=h) (i:=i) (j:=81) ⟨by decide,by decide⟩
 have d96:=fun(i:Int) (h:HI)=>zG (h:=h) (i:=i) (j:=96) ⟨by decide,by decide⟩
 have g81:(N0:Int)/81=((N0/81:Nat):Int):=rfl;have u2:=fun(h:HI)=>xF (h:=h) (i:=2) (j:=(many:Int)) (Or.inl ⟨by decide,by decide⟩)
 have ew1:=fun h=>WS (N0/81) 1 A 0 h
 simp only[Int.cast_ofNat_Int]at ew1;have er:=fun h=>RY (h:=h) (show(-(2^62):Int)<=1 by decide) (show(1:Int)<2^62 by decide) (show(-(2^62):Int)<=(many:Int)+1 by omega) (show(many:Int)+1<2^62 by omega)
 rw[show((many:Int)+1-1).toNat=many by omega]at er;have T1:1<=sizeLine:=by decide
 have zbo:3<=sizeLine:=by decide
 have x2:∀a b d:Dt,Gp [a,b,d] 2=some d:=fun _ _ _=>rfl
 have loop:∀h:HI,∃l' h',FC (JA 8) NK ((List.range many).map fun(k:Nat)=>Dt.int (1+(k:Int))) [some (.lst (ns.map Dt.int)),some (.int (many:Nat)),some (.int (N0:Nat)),some (.tup [.int (A:Nat),.int (Z:Nat),.int ((f1+f2:Nat):Int)]),some (.ref h.length),some (.int ((f1+f2:Nat):Int)),some (.int (2*(many:Int)+3)),some (.int 0),none,none,none] (h++[.lst [WA (wf (N0/81) 1 A 0)]])=some (.nx l' h')/\∃y8 y9 y10,l'=[some (.lst (ns.map Dt.int)),some (.int (many:Nat)),some (.int (Qm ns (many-1):Nat)),some (.tup [.int (A:Nat),.int (Z:Nat),.int ((f1+f2:Nat):Int)]),some (.ref h.length),some (.int ((gF ns many A Z f1 f2 0).tot many+(f2:Int))),some (.int (2*(many:Int)+3)),some (.int (SS many)),y8,y9,y10]/\h'=h++[.lst ((VD ns many A N0 many).map WA)]:=by
  intro h;obtain⟨l',h',e,⟨y2,y8,y9,y10,rfl,hy⟩,rfl⟩:=OK (i:=8) (body:=NK) (fun(k:Nat)=>Dt.int (1+(k:Int))) (fun k l h'=>(∃y2 y8 y9 y10,l=[some (.lst (ns.map Dt.int)),some (.int (many:Nat)),some (.int (y2:Nat)),some (.tup [.int (A:Nat),.int (Z:Nat),.int ((f1+f2:Nat):Int)]),some (.ref h.length),some (.int ((gF ns many A Z f1 f2 0).tot k+(f2:Int))),some (.int (2*(many:Int)+3)),some (.int (SS k)),y8,y9,y10]/\(1<=k->y2=Qm ns (k-1)))/\h'=h++[.lst ((VD ns many A N0 k).map WA)]) many (by
   rintro k hk l h' ⟨⟨y2,y8,y9,y10,rfl,_⟩,rfl⟩;have pl:=tO ns many A N0 k;obtain⟨z9,z10,e⟩:=Iz ns (A:=A) (Z:=Z) (f1:=f1) (f2:=f2) h7 hk (n:=h.length) (xs:=(VD ns many A N0 k).map WA) (h:=h++[.lst ((VD ns many A N0 k).map WA)]) (by simp) (by rw[length_map];omega) none (some (.int (y2:Nat))) (some (.tup [.int (A:Nat),.int (Z:Nat),.int ((f1+f2:Nat):Int)])) y9 y10 (SS k);refine⟨_,e,⟨Qm ns k,_,z9,z10,by rw[ss1],fun _=>rfl⟩,?_⟩;rw[Hv,map_append];simp) [some (.lst (ns.map Dt.int)),some (.int (many:Nat)),some (.int (N0:Nat)),some (.tup [.int (A:Nat),.int (Z:Nat),.int ((f1+f2:Nat):Int)]),some (.ref h.length),some (.int ((f1+f2:Nat):Int)),some (.int (2*(many:Int)+3)),some (.int 0),none,none,none] (h++[.lst [WA (wf (N0/81) 1 A 0)]]) ⟨⟨N0,none,none,none,by
    have:((f1+f2:Nat):Int)=(gF ns many A Z f1 f2 0).tot 0+(f2:Int):=by show _=(f1:Int)+(f2:Int);omega
    rw[this,hSS];rfl,by omega⟩,by simp[VD]⟩
  have hy':=hy h1;subst hy';exact⟨_,_,e,_,_,_,rfl,rfl⟩
 refine⟨A,Z,f1,f2,N0,Qm ns (many-1),SS many,EO,fun h=>?_⟩;obtain⟨l',h',e,y8,y9,y10,rfl,rfl⟩:=loop h;simp only[iN,tR,YB,zfO,zfP,if_true,zfQ,zfR,Nat.reduceAdd,Nat.reduceSub,List.replicate,zfX,zfW,XA,pB,rB,SA,NA,EA,bH,sA,DA,zfT,zfS,zfM,zfN,uA,oA,zf3,c1,em,hN0,ZA,ee,d81,g81,yB,UB,zfU,ew1,T1,x2,u2,uD,AE,TZ,er,QG,e];by_cases m2:1<many
 · have dm:decide ((1:Int)<((many:Nat):Int))=true:=decide_eq_true (by omega);have ew2:=fun h=>WS (Qm ns (many-1)/96) many Z 0 h
   have g96:(Qm ns (many-1):Int)/96=((Qm ns (many-1)/96:Nat):Int):=rfl;simp only[Int.cast_ofNat_Int]at ew2;have pl:=tO ns many A N0 many;have ap:=PF (l:=[some (.lst (ns.map Dt.int)),some (.int (many:Nat)),some (.int (Qm ns (many-1):Nat)),some (.tup [.int (A:Nat),.int (Z:Nat),.int ((f1+f2:Nat):Int)]),some (.ref h.length),some (.int ((gF ns many A Z f1 f2 0).tot many+(f2:Int))),some (.int (2*(many:Int)+3)),some (.int (SS many)),y8,y9,y10]) (h:=h++[Ob.lst ((VD ns many A N0 many).map WA)]) (h':=h++[Ob.lst ((VD ns many A N0 many).map WA)]) (g:=FA MG [] (cA (e2 cE (eV 2) (eC (.int 96))) (cA (eV 1) (cA (e2 BA (eV 3) (eC (.int 1))) (cA (eC (.int 0)) kA))))) (d:=WA (wf (Qm ns (many-1)/96) many Z 0)) (ys:=(VD ns many A N0 many).map WA) (xs:=(VD ns many A N0 many).map WA) (n:=h.length) (by simp) (by
    simp only[rB,SA,NA,EA,sA,DA,zfM,zfN,uA,oA,d96,g96,yB,pD,zfU,zf3,ew2]) (by simp) (by rw[length_map];simp[sizeLine];omega)
   have hs:(h++[Ob.lst ((VD ns many A N0 many).map WA)]).set h.length (.lst ((VD ns many A N0 many).map WA++[WA (wf (Qm ns (many-1)/96) many Z 0)]))=h++[.lst ((wD ns many A Z N0 (Qm ns (many-1))).map WA)]:=by unfold wD;rw[if_pos m2,map_append];simp
   rw[hs]at ap;simp only[XA,SA,NA,EA,sA,DA,zfM,zfN,uA,oA,ZA,uB,gB,cI,dm,fB,if_true,eE,nF,ap,CB,ND,zfO,zfP,Nat.reduceAdd,zbo,OB]
 · have dm:decide ((1:Int)<((many:Nat):Int))=false:=decide_eq_false (by omega);have rr:wD ns many A Z N0 (Qm ns (many-1))=VD ns many A N0 many:=by unfold wD;rw[if_neg m2,zf3]
   rw[rr];simp only[XA,SA,NA,EA,sA,DA,zfM,zfN,uA,oA,ZA,uB,gB,cI,dm,fB,zf4,if_false,EC,if_true,CB,ND,zfO,zfP,Nat.reduceAdd,zbo,OB]
theorem ig(ns:List Int){fs:List Fact}(lf:fs.length<=100){h:HI}{a:Nat}(ha:h[a]?=some (.lst (fs.map WA))):∃gs:List Fact,(∀f,f∈gs↔f∈fs)/\gs.length=fs.length/\yK [.ref a,.lst (ns.map Dt.int)] h=some (.ref h.length,h++[.lst (gs.map WA)]):=by
 have al:a<h.length:=(zfY ha).1;have em:=fun(x f:Int) (h:HI)=>nO x f h
 obtain⟨l',h',e,gs,y3,y4,rfl,rfl,m1,m2⟩:=S0 (i:=3) (j:=4) (n:=a) (body:=bQ) WA (fun k l h'=>∃gs y3 y4,l=[some (.ref a),some (.lst (ns.map Dt.int)),some (.ref h.length),y3,y4]/\h'=h++[.lst (gs.map WA)]/\(∀f,f∈gs↔f∈fs.take k)/\gs.length=k) fs (by
  rintro k l h' ⟨gs,y3,y4,rfl,rfl,_⟩;rw[zfZ al];exact ha) (by
  rintro k x hx l h' ⟨gs,y3,y4,rfl,rfl,m1,m2⟩;have kl:k<fs.length:=(zfY hx).1;have cc:=fun h=>rL ns (k+7) h
  have ca:(k:Int)+7=((k+7:Nat):Int):=by omega
  have u1:=fun(h:HI)=>xF (h:=h) (i:=2) (j:=(k:Int)) (Or.inl ⟨by decide,by decide⟩)
  have u2:=fun(h:HI)=>xF (h:=h) (i:=2*(k:Int)) (j:=(k:Int)) (Or.inl ⟨by omega,by omega⟩)
  have mk:=fun(x:Int) (h:HI)=>wF (h:=h) (i:=x) (show(0:Int)<(k:Int)+1 by omega)
  obtain⟨p,hp,pk⟩:∃p:Nat,(ns[k+7]?.getD 0%2147483647+11)*(69621+2*(k:Int)*(k:Int))%2147483629%((k:Int)+1)=(p:Int)/\p<=k:=by have a1:=Int.emod_nonneg ((ns[k+7]?.getD (0:Int)%2147483647+11)*(69621+2*(k:Int)*(k:Int))%2147483629) (show(k:Int)+1≠0 by omega);have a2:=Int.emod_lt_of_pos ((ns[k+7]?.getD (0:Int)%2147483647+11)*(69621+2*(k:Int)*(k:Int))%2147483629) (show(0:Int)<(k:Int)+1 by omega);exact⟨((ns[k+7]?.getD (0:Int)%2147483647+11)*(69621+2*(k:Int)*(k:Int))%2147483629%((k:Int)+1)).toNat,by omega,by omega⟩
  have ins:=Xv (l:=[some (.ref a),some (.lst (ns.map Dt.int)),some (.ref h.length),some (.int (k:Int)),some (WA x)]) (h:=h++[Ob.lst (gs.map WA)]) (n:=h.length) (k:=p) (xs:=gs.map WA) (d:=WA x) (fi:=e2 xC (FA wH [] (cA (FA aF [] (cA (eV 1) (cA (e2 lB (eV 3) (eC (.int 7))) kA))) (cA (e2 lB (eC (.int 69621)) (e2 yC (e2 yC (eC (.int 2)) (eV 3)) (eV 3))) kA))) (e2 lB (eV 3) (eC (.int 1)))) (fe:=eV 4) (by simp) (by
   simp only[rB,SA,NA,EA,sA,DA,zfM,zfN,uA,oA,uD,ca,cc,u1,u2,zf3,em,mk,hp]) (by simp only[sA,zfM,zfN,uA]) (by rw[length_map];simp[sizeLine];omega) (by omega)
  have hs:(h++[Ob.lst (gs.map WA)]).set h.length (.lst ((gs.map WA).take p++WA x::(gs.map WA).drop p))=h++[.lst ((gs.take p++x::gs.drop p).map WA)]:=by rw[map_append,zfQ,map_take,map_drop];simp
  rw[hs]at ins;refine⟨.nx [some (.ref a),some (.lst (ns.map Dt.int)),some (.ref h.length),some (.int (k:Int)),some (WA x)] (h++[.lst ((gs.take p++x::gs.drop p).map WA)]),?_,gs.take p++x::gs.drop p,_,_,rfl,rfl,fun f=>?_,?_⟩
  · simp only[bQ,eE,Gz,sA,zfT,zfS,zfM,zfN,uA,oA,ins]
  · rw[uJ hx,mem_append,mem_cons,mem_append,mem_singleton,<- m1 f];have:f∈gs↔f∈gs.take p\/f∈gs.drop p:=by rw[<- mem_append,take_append_drop]
    rw[this];constructor
    · rintro(q | q | q)
      · exact .inl (.inl q)
      · exact .inr q
      · exact .inl (.inr q)
    · rintro((q | q) | q)
      · exact .inl q
      · exact .inr (.inr q)
      · exact .inr (.inl q)
  · rw[length_append,zfO,length_take,length_drop];omega) [some (.ref a),some (.lst (ns.map Dt.int)),some (.ref h.length),none,none] (h++[.lst []]) ⟨[],none,none,rfl,rfl,by simp,rfl⟩
 rw[take_length]at m1;refine⟨gs,m1,m2,?_⟩;have ha':(h++[Ob.lst []])[a]?=some (.lst (fs.map WA)):=by rw[zfZ al];exact ha
 simp only[yK,gQ,YB,zfO,zfP,if_true,zfQ,zfR,Nat.reduceAdd,Nat.reduceSub,List.replicate,zfX,zfW,XA,pB,bH,NA,tI,Nat.zero_le,oA,zfT,zfS,ZA,AE,PY,sA,zfM,zfN,uA,JW ha',e,CB,OB]
theorem PX(i:Int)(h:HI):iJ [.int i] h=some (.bl true,h):=by simp[iJ,FQ]
theorem Zy(t:Int){a b:Int}(hab:a<b)(h:HI):IK [.int t,.tup [.int a,.int b]] h=some (.int (XB t a b),h):=by
 simp[IK,cR];unfold XB
 repeat' split
 all_goals first | rfl | (exfalso;omega)
theorem jg(h:HI):IQ [] h=some (.lst (Il.map pr),h):=by rfl
theorem Eh{s o:Int×Int}(h1:FD s)(h2:FD o)(h:HI):jN [KJ s,KJ o] h=some (.int (zB s o),h):=by have hp:=Pj _ (CN h1 h2);simp only[pr]at hp;simp[jN,uR,KJ,Zy _ h2,jg,hp.1,hp.2];rfl
theorem Y3:decide ((("open" :Str))=(("open" :Str)))=true:=decide_eq_true rfl
theorem M3:decide ((("laid" :Str))=(("open" :Str)))=false:=by decide +kernel
theorem P2:decide ((("clash" :Str))=(("open" :Str)))=false:=by decide +kernel
theorem X3:decide ((("open" :Str))=(("laid" :Str)))=false:=by decide +kernel
theorem K2:decide ((("clash" :Str))=(("laid" :Str)))=false:=by decide +kernel
theorem L3:decide ((("laid" :Str))=(("clash" :Str)))=false:=by decide +kernel
theorem W3:decide ((("open" :Str))=(("clash" :Str)))=false:=by decide +kernel
noncomputable def LU:Wd->Wd->Bool
 | .opn,.opn=>true
 | .laid,.laid=>true
 | .clash,.clash=>true
 | _,_=>false
theorem F0(w v:Wd)(h:HI):IB (CG w) (CG v) h=some (.bl (LU w v),h):=by cases w<;>cases v<;>simp only[CG,vF,Y3,M3,P2,X3,K2,L3,W3,decide_true,LU]
theorem F5 {w:Wd} (hw:w≠.opn) (h:HI):rH false (CG w) (.tup [.str "laid", .str "clash"]) h=some (.bl true,h):=by
 have n1:¬((("laid" :Str))=(("clash" :Str))):=by decide +kernel
 cases w with
 | opn=>exact absurd rfl hw
 | laid=>simp[rH,CG,UD,QE,LD,TB,ML,gK]
 | clash=>simp[rH,CG,UD,QE,LD,TB,ML,gK]
theorem Hh{A:Ans}{lo c:Nat}{k:HI}{x:Dt}(q:zaq lo k c A (.tup [CG A.wd,x])){s m:Nat}(hs:s<=m)(z:A.wd≠.opn)(h:HI):HK [.tup [CG A.wd,x,.int (s:Nat)],.int (m:Nat)] h=some (.bl true,h):=by
 have t1:∀xs,BG h (.tup xs)=some "tuple" :=fun _=>rfl
 have t3:ZL "tuple" "tuple" =true:=by decide
 have d3:decide ((3:Int)=3)=true:=rfl;have x2:∀a b:Dt,Gp [a,b,.int (s:Nat)] 2=some (.int (s:Nat)):=fun _ _=>rfl
 have w0:(WdO:Dt)->True:=fun _=>trivial
 have il:=F5 z h;have we:=F0 A.wd .opn h;have ws:LU A.wd .opn=false:=by
  cases A with
  | opn=>exact absurd rfl z
  | laid t=>rfl
  | clash tr=>rfl
 rw[ws]at we;generalize CG A.wd=W at il we q;have we':IB W (.str "open") h=some (.bl false,h):=we;have c1:decide ((0:Int)<=((s:Nat):Int))=true:=decide_eq_true (by omega);have c2:decide (((s:Nat):Int)<=((m:Nat):Int))=true:=decide_eq_true (by omega);simp only[HK,bR,YB,zfO,zfP,if_true,zfQ,zfR,Nat.reduceAdd,Nat.reduceSub,List.replicate,zf3,XA,uB,dP,HJ,gB,IU,sA,DA,EA,sD,zfM,zfN,uA,oA,t1,t3,zfU,fB,Bool.not_true,zf4,if_false,vZ,Int.cast_ofNat_Int,qK,decide_true,rB,SA,NA,yB,x2,PX,EC,ZA,UB,pD,we',CB,hU,ND,VP,il,rS,Sh,MP,c1,c2,kh,OB]
theorem rT{c k:Nat}(u:Nat->Int)(hk:k<c):(vD c u)[k]?=some (KJ (gC u k)):=by simp[vD,hk,KJ,gC]
theorem jW(n:Nat):hJ (n+1)=jC 3 4 (gJ (hJ n)):=rfl
theorem T8{c:Nat}{u:Nat->Int}(ok:∀i,i<c->FD (gC u i)){m:fD}(hm:pE c m)(n:Nat)(G:Int)(h:HI):hJ (n+1) [dC m,.lst (vD c u),.int G] h=some (.bl (CI (gC u) m),h):=by
 obtain⟨a,b,d,e⟩:=hm;have p1:=rT u a;have p2:=rT u b;have ew:=fun h=>Eh (ok _ a) (ok _ b) h
 have bt:=IT m.2.1 (zB (gC u m.1) (gC u m.2.2));have m0:∀k:HI,BA (dC m) (.int 0) k=some (.str "ways",k):=fun _=>rfl
 have m1:∀k:HI,BA (dC m) (.int 1) k=some (.int (m.1:Nat),k):=fun _=>rfl
 have m2:∀k:HI,BA (dC m) (.int 2) k=some (.int (m.2.1:Nat),k):=fun _=>rfl
 have m3:∀k:HI,BA (dC m) (.int 3) k=some (.int (m.2.2:Nat),k):=fun _=>rfl
 have sr:=fun(h:HI)=>EU (h:=h) (i:=(m.2.1:Int)) (show(0:Int)<=((zB (gC u m.1) (gC u m.2.2):Nat):Int) by omega)
 rw[jW];simp only[gJ,YB,zfO,zfP,if_true,zfQ,zfR,Nat.reduceAdd,Nat.reduceSub,List.replicate,zfX,zfW,XA,uB,gB,EA,sA,DA,zfM,zfN,uA,oA,m0,vF,decide_true,fB,CB,m2,rB,SA,NA,m1,m3,II,SM.OD,p1,p2,zfU,zf3,ew,sr,Int.toNat_natCast,zL,vE,bt,BE,OB];rfl
def O0(c:Nat)(u:Nat->Int):Fact->Prop
 | .ways m=>pE c m/\CI (gC u) m=true
 | .long x=>x.1<c/\x.2.1*((2*c+1:Nat):Int)<=u (2*x.1+1)-u (2*x.1)/\u (2*x.1+1)-u (2*x.1)<=x.2.2*((2*c+1:Nat):Int)
 | .one _=>False
theorem Yy{c:Nat}(hc:c<=100){u:Nat->Int}(ok:∀i,i<c->FD (gC u i)){f:Fact}{d:Dt}{h:HI}(q:Xl h d f)(k:O0 c u f):hJ 3 [d,.lst (vD c u),.int ((2*c+1:Nat):Int)] h=some (.bl true,h):=by
 cases f with
 | ways m=>rw[show d=dC m from q,T8 ok k.1 2,k.2]
 | long x=>
  obtain⟨k1,k2,k3⟩:=k;have qd:d=.tup [.str "long", .int (x.1:Nat),.int x.2.1,.int x.2.2]:=q;subst qd;have p1:=rT u k1;have m2:∀a b c d:Dt,Gp [a,b,c,d] 2=some c:=fun _ _ _ _=>rfl
  have m3:∀a b c d:Dt,Gp [a,b,c,d] 3=some d:=fun _ _ _ _=>rfl
  have um:=fun(i:Int) (h:HI)=>xF (h:=h) (i:=i) (j:=((2*c+1:Nat):Int)) (Or.inr ⟨by omega,by omega⟩)
  have c1:decide (x.2.1*((2*c+1:Nat):Int)<=u (2*x.1+1)-u (2*x.1))=true:=decide_eq_true k2;have c2:decide (u (2*x.1+1)-u (2*x.1)<=x.2.2*((2*c+1:Nat):Int))=true:=decide_eq_true k3;rw[jW];simp only[gJ,YB,zfO,zfP,if_true,zfQ,zfR,Nat.reduceAdd,Nat.reduceSub,List.replicate,zfX,zfW,XA,pB,uB,gB,EA,sA,DA,zfM,zfN,uA,oA,yB,UB,pD,zfU,vF,Ed,decide_true,fB,zf4,if_false,EC,ZA,II,SM.OD,p1,KJ,gC,FU,zfT,zfS,CB,hU,m2,m3,um,MP,c1,rS,c2,BE,OB]
 | one g=>exact k.elim
theorem X9{c:Nat}(hc:1<=c){t:Nat->Int}(ok:∀i,i<c->FD (gC t i)):(List.range c).map (fun k=>FB (2*c) t (2*k)) ≠ []/\hC ((List.range c).map fun k=>FB (2*c) t (2*k))=0:=by
 obtain⟨m1,m2⟩:=vq (n:=2*c) (by omega) t;have ne:(List.range c).map (fun k=>FB (2*c) t (2*k)) ≠ []:=fun z=>by have:=congrArg List.length z;simp at this;omega
 refine⟨ne,?_⟩;obtain⟨a1,a2⟩:=SG _ m1;obtain⟨b1,b2⟩:=SG _ ne;rw[m2]at a1 a2;obtain⟨p,hp,ep⟩:=mem_map.mp a1;obtain⟨k,hk,ek⟩:=mem_map.mp b1;have hp:=mem_range.mp hp;have hk:=mem_range.mp hk;have c1:=a2 (FB (2*c) t (2*k)) (mem_map_of_mem (mem_range.mpr (by omega)));have c2:=b2 (FB (2*c) t (2*(p/2))) (mem_map.mpr ⟨p/2,mem_range.mpr (by omega),rfl⟩);have c3:FB (2*c) t (2*(p/2))<=FB (2*c) t p:=by
  rcases(show p=2*(p/2)\/p=2*(p/2)+1 by omega)with z | z
  · rw[<- z];exact Int.le_refl _
  · have o:=ok (p/2) (by omega);have o':t (2*(p/2))<t (2*(p/2)+1):=o;rw[<- z]at o';unfold FB;omega
 omega
theorem fY{c:Nat}{t:Nat->Int}(n:Nat)(ok:∀i,i<c->FD (gC t i)):∀i,i<c->FD (gC (FB n t) i):=fun i hi=>by have:t (2*i)<t (2*i+1):=ok i hi;show FB n t (2*i)<FB n t (2*i+1);unfold FB;omega
theorem Gh{c:Nat}(hc1:1<=c)(hc:c<=100){t:Nat->Int}(ok:∀i,i<c->FD (gC t i))(h:HI):XM [.lst (vD c (FB (2*c) t)),.int (c:Nat)] h=some (.bl true,h):=by
 have oks:=fY (2*c) ok;obtain⟨s1,s2⟩:=X9 hc1 ok;generalize FB (2*c) t=u at oks s1 s2;have pl:(vD c u).length=c:=by simp[vD]
 obtain⟨l',h',e,⟨y,rfl⟩,hh⟩:=ak (i:=2) (body:=JM) (fun k:Nat=>Dt.tup [.int (u (2*k)),.int (u (2*k+1))]) (fun l h'=>(∃y,l=[some (.lst (vD c u)),some (.int (c:Nat)),y])/\h'=h) (List.range c) (by
  rintro k hk l h' ⟨⟨y,rfl⟩,rfl⟩;have o:u (2*k)<u (2*k+1):=oks k (mem_range.mp hk);have d2:decide (((2:Nat):Int)=2)=true:=rfl;have dg:decide (u (2*k+1)<=u (2*k))=false:=decide_eq_false (by omega);have t1:∀xs,BG h' (.tup xs)=some "tuple" :=fun _=>rfl
  have t3:ZL "tuple" "tuple" =true:=by decide
  refine⟨.nx [some (.lst (vD c u)),some (.int (c:Nat)),some (.tup [.int (u (2*k)),.int (u (2*k+1))])] h',?_,⟨_,rfl⟩,rfl⟩;simp only[JM,XA,uB,dP,HJ,gB,IU,EA,sA,DA,sD,zfT,zfS,zfM,zfN,uA,oA,t1,t3,zfU,fB,Bool.not_true,zf4,if_false,vZ,zfO,zfP,Nat.reduceAdd,Int.cast_ofNat_Int,qK,decide_true,rB,SA,NA,yB,UB,pD,zf3,PX,EC,ZA,LP,dg]) [some (.lst (vD c u)),some (.int (c:Nat)),none] h ⟨⟨_,rfl⟩,rfl⟩
 rw[hh]at e;have e':FC (JA 2) JM (vD c u) [some (.lst (vD c u)),some (.int (c:Nat)),none] h=some (.nx [some (.lst (vD c u)),some (.int (c:Nat)),y] h):=e;have ca:=XG (te:=BM) (i:=0) (tc:=JB) (fun k:Nat=>Dt.tup [.int (u (2*k)),.int (u (2*k+1))]) (fun k=>Dt.int (u (2*k))) h (List.range c) [none] (by
  intro k _;exact⟨by simp,rfl⟩)
 have ck:=RF (l:=[none]) (h:=h) (JA 0) JB BM (xs:=vD c u) (by rw[pl];simp[sizeLine];omega);have ca':rE (JA 0) JB BM (vD c u) [none] h=some (((List.range c).map fun k=>u (2*k)).map Dt.int,h):=by rw[map_map];exact ca
 rw[ca']at ck;have fm:=KZ (h:=h) s1;rw[s2]at fm;have t2:∀xs,BG h (.lst xs)=some "list" :=fun _=>rfl
 have t4:ZL "list" "list" =true:=by decide
 simp only[XM,aR,YB,zfO,zfP,if_true,zfQ,zfR,Nat.reduceAdd,Nat.reduceSub,List.replicate,zfX,zfW,XA,uB,dP,HJ,gB,IU,EA,sA,DA,sD,zfM,zfN,uA,oA,t2,t4,zfU,fB,Bool.not_true,zf4,if_false,eU,pl,qK,decide_true,EC,ZA,AE,gE,AH,QG,e',CB,ZG,QF,TF,ck,fm,vE,OB]
theorem pN{c:Nat}:∀(fs:List Fact)(f:YA),(∀x∈fs,cD c x)->(∀i<c,f i i=64)->∀i<c,fC f fs i i=64
 | [],f,_,q=>q
 | x::fs,f,h,q=>by
  have h':∀y∈fs,cD c y:=fun y hy=>h y (by simp[hy])
  cases x with
  | ways m=>obtain⟨a,b,d,e⟩:pE c m:=h (.ways m) (by simp);exact pN fs _ h' (bL q d _)
  | long y=>exact pN fs _ h' q
  | one g=>exact pN fs _ h' q
theorem nj(x a b d:Int):XB (x-d) (a-d) (b-d)=XB x a b:=by have a1:(x-d<a-d)=(x<a):=propext ⟨fun h=>by omega,fun h=>by omega⟩;have a2:(x-d=a-d)=(x=a):=propext ⟨fun h=>by omega,fun h=>by omega⟩;have a3:(x-d<b-d)=(x<b):=propext ⟨fun h=>by omega,fun h=>by omega⟩;have a4:(x-d=b-d)=(x=b):=propext ⟨fun h=>by omega,fun h=>by omega⟩;unfold XB;simp only[a1,a2,a3,a4]
theorem zx(t:Nat->Int)(n i j:Nat):zB (gC (FB n t) i) (gC (FB n t) j)=zB (gC t i) (gC t j):=by unfold zB gC FB;simp only[nj]
theorem PN{c:Nat}{s:Nat->Int×Int}(ok:∀i,i<c->FD (s i)):∀(fs:List Fact)(_:∀x∈fs,cD c x)(f:YA),aB c f->Kp c (fC f fs) s->Kp c f s/\∀m,Fact.ways m∈fs->CI s m=true
 | [],_,f,_,q=>⟨q,fun m hm=>by cases hm⟩
 | x::fs,h,f,o,q=>by
  have h':∀y∈fs,cD c y:=fun y hy=>h y (by simp[hy])
  cases x with
  | ways m=>
   obtain⟨a,b,d,e⟩:pE c m:=h (.ways m) (by simp);obtain⟨q1,H⟩:=PN ok fs h' (kB f m.1 m.2.1 m.2.2) (yE o a b d _) q;obtain⟨q2,hb⟩:=q1.zbm ok a b d o;refine⟨q2,fun y hy=>?_⟩;rcases mem_cons.mp hy with z | z
   · cases z;exact hb
   · exact H y z
  | long y=>obtain⟨q1,H⟩:=PN ok fs h' f o q;exact⟨q1,fun y hy=>(mem_cons.mp hy).elim (fun z=>by cases z) (H y)⟩
  | one g=>obtain⟨q1,H⟩:=PN ok fs h' f o q;exact⟨q1,fun y hy=>(mem_cons.mp hy).elim (fun z=>by cases z) (H y)⟩
theorem Az(t:Nat->Int)(n:Nat)(m:fD):CI (gC (FB n t)) m=CI (gC t) m:=by unfold CI;rw[zx]
theorem zaH{ns:List Int}{many k:Nat}{f:Fact}:f∈XJ ns many k↔f=rD (k+1) (dI ns k) 1000000000000000000\/(k+1<many/\f=wf (Qm ns k/48) (k+1) (ZH ns k) (k+2)):=by
 unfold XJ;rw[mem_cons];split
 · rename_i z;simp[z]
 · rename_i z;simp[z]
theorem zag{ns:List Int}{many A Z N0 N1:Nat}{f:Fact}:f∈wD ns many A Z N0 N1↔f=wf (N0/81) 1 A 0\/(∃k,k<many/\f∈XJ ns many k)\/(1<many/\f=wf (N1/96) many Z 0):=by
 unfold wD VD;rw[mem_append,mem_cons,mem_flatMap];by_cases z:1<many
 · rw[if_pos z,mem_singleton];simp only[mem_range,z,true_and];exact or_assoc
 · rw[if_neg z];simp only[mem_range,z,false_and,or_false,not_mem_nil]
theorem D3{ns:List Int}{many A Z f1 f2 N0 N1:Nat}{hi:Int}{gs:List Fact}(hg:∀f,f∈gs↔f∈wD ns many A Z N0 N1\/f=rD 0 0 hi):PH (gF ns many A Z f1 f2 hi) gs where
 fA:=⟨_,(hg _).mpr (.inl (zag.mpr (.inl rfl))),LJ _ _ _ _⟩
 fZ:=fun m2=>⟨_,(hg _).mpr (.inl (zag.mpr (.inr (.inr ⟨m2,rfl⟩)))),LJ _ _ _ _⟩
 fg:=fun k hk=>⟨_,(hg _).mpr (.inl (zag.mpr (.inr (.inl ⟨k,Nat.lt_trans (Nat.lt_succ_self k) hk,zaH.mpr (.inr ⟨hk,rfl⟩)⟩)))),LJ _ _ _ _⟩
 fl:=fun k hk=>(hg _).mpr (.inl (zag.mpr (.inr (.inl ⟨k,hk,zaH.mpr (.inl rfl)⟩))))
 fh:=(hg _).mpr (.inr rfl)
 only:=fun f hf=>by
  rcases(hg f).mp hf with h | rfl
  · rcases zag.mp h with rfl | ⟨k,hk,h⟩ | ⟨m2,rfl⟩
    · exact .inl (LJ _ _ _ _)
    · rcases zaH.mp h with rfl | ⟨hk',rfl⟩
      · exact .inr (.inr (.inr (.inl ⟨k,hk,rfl⟩)))
      · exact .inr (.inr (.inl ⟨k,hk',LJ _ _ _ _⟩))
    · exact .inr (.inl ⟨m2,LJ _ _ _ _⟩)
  · exact .inr (.inr (.inr (.inr rfl)))
theorem u4{ns:List Int}{many A Z f1 f2:Nat}(h1:1<=many)(h7:many<=7)(E:AT many A Z f1 f2)(hi:Int):(gF ns many A Z f1 f2 hi).Ok:=
 ⟨h1,h7,E.aw,E.al,E.l1,E.l2,Ug ns,Yt ns,E.one,E.zw,E.zl,E.ma,E.mz⟩
theorem JZ(ns:List Int)(many A Z f1 f2:Nat)(hi:Int):∀k,(gF ns many A Z f1 f2 hi).tot k=(gF ns many A Z f1 f2 0).tot k
 | 0=>rfl
 | k+1=>by show(gF ns many A Z f1 f2 hi).tot k+_+_=(gF ns many A Z f1 f2 0).tot k+_+_;rw[JZ ns many A Z f1 f2 hi k];rfl
theorem WT{c:Nat}{f:Fact}{i m j:Nat}(h:aK f i m j)(hi:i<c)(hj:j<c)(hij:i≠j)(hm:m<8192):cD c f:=by
 rcases h with rfl | rfl
 · exact⟨hi,hj,hij,hm⟩
 · exact⟨hj,hi,Ne.symm hij,nI m⟩
theorem dZ{R:Rw}(O:R.Ok){fs:List Fact}(H:PH R fs):∀f∈fs,cD (R.many+1) f:=by
 intro f hf;have m1:=O.m1;rcases H.only f hf with i | ⟨m2,i⟩ | ⟨k,hk,i⟩ | ⟨k,hk,rfl⟩ | rfl
 · exact WT i (by omega) (by omega) (by decide) O.al
 · exact WT i (by omega) (by omega) (by omega) O.zl
 · exact WT i (by omega) (by omega) (by omega) (RJ O k).2.1
 · show k+1<R.many+1;omega
 · show 0<R.many+1;omega
theorem xY{R:Rw}{fs:List Fact}(H:PH R fs):∀g,Fact.one g∉fs:=by
 intro g hg;rcases H.only _ hg with i | ⟨m2,i⟩ | ⟨k,hk,i⟩ | ⟨k,hk,e⟩ | e
 · rcases i with e | e<;>cases e
 · rcases i with e | e<;>cases e
 · rcases i with e | e<;>cases e
 · cases e
 · cases e
theorem LX(h:HI):∀fs:List Fact,(∀g,Fact.one g∉fs)->Um h (fs.map WA) fs
 | [],_=>.nil
 | f::fs,H=>.cons (by
  cases f with
  | ways m=>rfl
  | long x=>rfl
  | one g=>exact absurd mem_cons_self (H g)) (LX h fs fun g hg=>H g (by simp[hg]))
theorem nT:∀fs:List Fact,(∀g,Fact.one g∉fs)->sG fs=[]
 | [],_=>rfl
 | f::fs,H=>by
  have ih:=nT fs fun g hg=>H g (by simp[hg])
  cases f with
  | ways m=>exact ih
  | long x=>exact ih
  | one g=>exact absurd mem_cons_self (H g)
theorem BN:∀{fs:List Fact}{x:Ln},x∈KC fs->Fact.long x∈fs
 | [],x,h=>by cases h
 | f::fs,x,h=>by
  cases f with
  | long y=>
   rcases mem_cons.mp h with rfl | h
   · simp
   · simp[BN h]
  | ways m=>simp[BN (show x∈KC fs from h)]
  | one g=>simp[BN (show x∈KC fs from h)]
theorem qW:∀{fs:List Fact}{x:Ln},Fact.long x∈fs->x∈KC fs
 | f::fs,x,h=>by
  rcases mem_cons.mp h with rfl | h
  · simp[KC]
  · have:=qW h;cases f<;>simp[KC,this]
theorem NZ{c:Nat}{fs:List Fact}(fok:∀x∈fs,cD c x)(no:∀g,Fact.one g∉fs){t:Nat->Int}(K:TL c (KC fs) (fC vB fs) t):∀f∈fs,NJ c (gC t) f:=by
 obtain⟨_,H⟩:=PN K.ok fs fok vB (WF c) K.net;intro f hf;cases f with
 | ways m=>exact H m hf
 | long x=>exact⟨fok _ hf,K.len x (qW hf)⟩
 | one g=>exact absurd hf (no g)
theorem RN{c:Nat}{s:Nat->Int×Int}(ok:∀i,i<c->FD (s i)):∀(fs:List Fact)(f:YA),(∀x∈fs,cD c x)->(∀x∈fs,NJ c s x)->Kp c f s->Kp c (fC f fs) s
 | [],f,_,_,q=>q
 | x::fs,f,fo,h,q=>by
  have fo':∀y∈fs,cD c y:=fun y hy=>fo y (by simp[hy])
  have h':∀y∈fs,NJ c s y:=fun y hy=>h y (by simp[hy])
  cases x with
  | ways m=>obtain⟨a,b,d,e⟩:pE c m:=fo (.ways m) (by simp);exact RN ok fs _ fo' h' (q.nar ok a b d (h (.ways m) (by simp)))
  | long y=>exact RN ok fs _ fo' h' q
  | one g=>exact RN ok fs _ fo' h' q
theorem Wv{c:Nat}{s:Nat->Int×Int}(ok:∀i,i<c->FD (s i)):Kp c vB s:=fun i hi j hj hij=>by
 have e:vB i j=8191:=by simp[vB,hij]
 have hw:=pF (ok i hi) (ok j hj);rw[e,show(8191:Nat)=2^13-1 from rfl,Nat.testBit_two_pow_sub_one];exact decide_eq_true hw
theorem Kz{R:Rw}(O:R.Ok){fs:List Fact}(H:PH R fs){n:Nat}{a:Ans}{sp:Nat}(L:lC (R.many+1) 20 (KC fs) n (fC vB fs) [] 0 a sp):(R.tot R.many+R.e2<=R.hi*R.G->a.wd=.laid)/\(R.hi*R.G<R.tot R.many+R.e2->a.wd=.clash/\(1<R.many->sp=0)):=by
 have fok:=dZ O H;have no:=xY H;have m1:=O.m1;have oF:=xH fs fok _ (WF (R.many+1));have dg:=pN fs vB fok (fun i _=>by simp[vB]) (c:=R.many+1);have lok:=oJ fs fok;have two:a.wd=.laid\/(a.wd=.clash/\(1<R.many->sp=0)):=by
  by_cases m2:1<R.many
  · rcases sR lok n _ 0 a sp L oF dg (fun st g s cl ne=>by
     obtain⟨t,l⟩:=Jz O m2 H fok s cl ne;exact⟨t,by omega⟩)with z | ⟨z,y⟩
    · exact .inl z
    · exact .inr ⟨z,fun _=>y⟩
  · have e:R.many=1:=by omega
    rw[e]at L oF dg lok;have:=Aw lok L oF dg (by decide);cases a with
    | opn=>exact absurd rfl this
    | laid t=>exact .inl rfl
    | clash tr=>exact .inr ⟨rfl,fun q=>absurd q m2⟩
 constructor
 · intro le;obtain⟨ok,K⟩:=J6 O H le;rcases two with z | ⟨z,_⟩
   · exact z
   · exact absurd z (lS ok (fun g q=>⟨_,uX ok q fun x hx=>K _ (BN hx)⟩) n _ 0 a sp L oF dg (RN ok fs vB fok K (Wv ok)))
 · intro lt;rcases two with z | z
   · exfalso;cases a with
     | opn=>cases z
     | clash tr=>cases z
     | laid t=>have K:=mS n _ 0 t sp L oF;have:=uw O H K.ok (NZ fok no K);omega
   · exact z
theorem W9{c:Nat}{fs:List Fact}(fok:∀x∈fs,cD c x)(no:∀g,Fact.one g∉fs){t:Nat->Int}(K:TL c (KC fs) (fC vB fs) t):∀f∈fs,O0 c (FB (2*c) t) f:=by
 intro f hf;have q:=NZ fok no K f hf;cases f with
 | ways m=>exact⟨fok _ hf,by rw[Az];exact q⟩
 | long x=>obtain⟨a,b,d⟩:=q;refine⟨fok _ hf,?_⟩;unfold FB;have b':x.2.1*((2*c+1:Nat):Int)<=t (2*x.1+1)-t (2*x.1):=b;have d':t (2*x.1+1)-t (2*x.1)<=x.2.2*((2*c+1:Nat):Int):=d;constructor<;>omega
 | one g=>exact absurd hf (no g)
noncomputable def B4:Dt->Dt
 | .tup [_,y]=>y
 | _=>.non
theorem law_true(ns:List Int)(hl:ns.length<=63):∃h',MJ [.lst (ns.map Dt.int)] []=some (.bl true,h'):=by
 have c0:=fun h=>rL ns 0 h
 have c6:=fun h=>rL ns 6 h
 simp only[Int.cast_ofNat_Int]at c0 c6;have m4:=fun(x:Int) (h:HI)=>wF (h:=h) (i:=x) (show(0:Int)<4 by decide)
 have m8:=fun(x:Int) (h:HI)=>wF (h:=h) (i:=x) (show(0:Int)<8 by decide)
 have m3:=fun(x:Int) (h:HI)=>wF (h:=h) (i:=x) (show(0:Int)<3 by decide)
 have m5:=fun(x:Int) (h:HI)=>wF (h:=h) (i:=x) (show(0:Int)<5 by decide)
 have m16:=fun(x:Int) (h:HI)=>wF (h:=h) (i:=x) (show(0:Int)<10000000000000000 by decide)
 have d4:=fun(i:Int) (h:HI)=>zG (h:=h) (i:=i) (j:=4) ⟨by decide,by decide⟩
 have d32:=fun(i:Int) (h:HI)=>zG (h:=h) (i:=i) (j:=32) ⟨by decide,by decide⟩
 have zcx:=fun(h:HI)=>CU (h:=h) (i:=10) (j:=16) ⟨by decide,by decide,by decide⟩
 simp only[show(16:Int).toNat=16 from rfl,show(10:Int)^16=10000000000000000 from rfl]at zcx;have em:=fun(x f:Int) (h:HI)=>nO x f h
 obtain⟨many,h1,h7,HF⟩:∃many:Nat,1<=many/\many<=7/\∀R:RS,iB (IA 1 (e2 lB (eC (.int 1)) (e2 xC (FA aF [] (cA (eV 0) (cA (eC (.int 0)) kA))) (eC (.int 4)))) [some (.lst (ns.map Dt.int)),none,none,none,none,none,none,none,none] []) (uV (qA (GD (Dl (e2 IB (e2 xC (e2 cE (FA aF [] (cA (eV 0) (cA (eC (.int 0)) kA))) (eC (.int 4))) (eC (.int 8))) (eC (.int 1)))) (IA 1 (e2 lB (eC (.int 5)) (e2 xC (e2 cE (FA aF [] (cA (eV 0) (cA (eC (.int 0)) kA))) (eC (.int 32))) (eC (.int 3))))) EB) R))=R [some (.lst (ns.map Dt.int)),some (.int (many:Nat)),none,none,none,none,none,none,none] []:=by
  by_cases z:ns[0]?.getD (0:Int)/4%8=1
  · obtain⟨c,hcc,h2,h4⟩:∃c:Nat,5+ns[0]?.getD (0:Int)/32%3=(c:Int)/\1<=c/\c<=7:=⟨(5+ns[0]?.getD (0:Int)/32%3).toNat,by omega,by omega,by omega⟩
    refine⟨c,h2,h4,fun R=>?_⟩;simp only[pB,EA,DA,sA,rB,SA,NA,zfM,uA,oA,zf3,c0,m4,uD,zfT,zfS,ZA,XA,uB,gB,d4,m8,vE,decide_eq_true z,fB,if_true,d32,m3,hcc]
  · obtain⟨c,hcc,h2,h4⟩:∃c:Nat,1+ns[0]?.getD (0:Int)%4=(c:Int)/\1<=c/\c<=7:=⟨(1+ns[0]?.getD (0:Int)%4).toNat,by omega,by omega,by omega⟩
    refine⟨c,h2,h4,fun R=>?_⟩;simp only[pB,EA,DA,sA,rB,SA,NA,zfM,uA,oA,zf3,c0,m4,uD,hcc,zfT,zfS,ZA,XA,uB,gB,d4,m8,vE,decide_eq_false z,fB,zf4,if_false,EC]
 obtain⟨A,Z,f1,f2,N0,N1,S,EO,er⟩:=P6 ns h1 h7;have er0:=er [];have rl:(wD ns many A Z N0 N1).length<=16:=by have:=tO ns many A N0 many;unfold wD;rw[length_append];split<;>simp<;>omega
 obtain⟨xs,cx,lx⟩:=Tq ns (some 6) (some 60);obtain⟨Y,hY⟩:∃Y:Int,(ns[6]?.getD (0:Int)%2147483647+11)*69621%2147483629=Y:=⟨_,rfl⟩
 obtain⟨hi,hig⟩:∃hi:Int,∀(R:RS)(h:HI),iB (GD (Dl (e2 IB (e2 xC (eV 5) (eC (.int 4))) (eC (.int 0)))) (IA 6 (VC YI (PD (zC (DP (eV 0) (OL (eC (.int 6))) (OL (eC (.int 60))))) (JA 0) JB zJ [none]))) EB [some (.lst (ns.map Dt.int)),some (.int (many:Nat)),some (.ref 0),some (.int ((gF ns many A Z f1 f2 0).tot many+(f2:Int))),some (.int S),some (.int Y),some (.int (max 0 (S+Y/4%5-2))),none,none] h) (uV R)=R [some (.lst (ns.map Dt.int)),some (.int (many:Nat)),some (.ref 0),some (.int ((gF ns many A Z f1 f2 0).tot many+(f2:Int))),some (.int S),some (.int Y),some (.int hi),none,none] h:=by
  by_cases z:Y%4=0
  · refine⟨(xs.map fun x=>x%10000000000000000).sum,fun R h=>?_⟩;have ca:=XG (te:=zJ) (i:=0) (tc:=JB) Dt.int (fun x=>Dt.int (x%10000000000000000)) h xs [none] (by
     intro x _;refine⟨rfl,?_⟩;simp only[zJ,EA,sA,DA,zfS,zfM,uA,oA,zcx,m16])
    have ck:=RF (l:=[none]) (h:=h) (JA 0) JB zJ (xs:=xs.map Dt.int) (by simp[sizeLine];omega);have e':xs.map (fun x=>Dt.int (x%10000000000000000))=(xs.map fun x=>x%10000000000000000).map Dt.int:=by rw[map_map];rfl
    rw[ca,e']at ck;have fs:=LZ (h:=h) (xs.map fun x=>x%10000000000000000);simp only[uB,gB,EA,sA,DA,zfM,zfN,uA,oA,m4,vE,decide_eq_true z,fB,if_true,pB,sD,ZG,gE,l6,X4,Gw,Qw,zfU,cx,AH,QF,TF,ck,fs,zfT,zfS,ZA]
  · refine⟨max 0 (S+Y/4%5-2),fun R h=>?_⟩;simp only[uB,gB,EA,sA,DA,zfM,zfN,uA,oA,m4,vE,decide_eq_false z,fB,zf4,if_false,EC,ZA]
 have O:=u4 (ns:=ns) h1 h7 EO hi;have ap:=PF (l:=[some (.lst (ns.map Dt.int)),some (.int (many:Nat)),some (.ref 0),some (.int ((gF ns many A Z f1 f2 0).tot many+(f2:Int))),some (.int S),some (.int Y),some (.int hi),none,none]) (h:=[Ob.lst ((wD ns many A Z N0 N1).map WA)]) (h':=[Ob.lst ((wD ns many A Z N0 N1).map WA)]) (g:=bB (cA (eC (.str "long")) (cA (eC (.int 0)) (cA (eC (.int 0)) (cA (eV 6) kA))))) (d:=WA (rD 0 0 hi)) (ys:=(wD ns many A Z N0 N1).map WA) (xs:=(wD ns many A Z N0 N1).map WA) (n:=0) rfl (by
  have sz4:4<=sizeLine:=by decide
  simp only[ND,SA,NA,DA,sA,zfM,zfN,uA,oA,zfO,zfP,Nat.reduceAdd,sz4,if_true];rfl) rfl (by rw[length_map];simp[sizeLine];omega)
 have hs:([Ob.lst ((wD ns many A Z N0 N1).map WA)]:HI).set 0 (.lst ((wD ns many A Z N0 N1).map WA++[WA (rD 0 0 hi)]))=[.lst ((wD ns many A Z N0 N1++[rD 0 0 hi]).map WA)]:=by rw[map_append];rfl
 rw[hs]at ap;obtain⟨gs,gm,gl,eo⟩:=ig ns (fs:=wD ns many A Z N0 N1++[rD 0 0 hi]) (by rw[length_append];simp;omega) (h:=[.lst ((wD ns many A Z N0 N1++[rD 0 0 hi]).map WA)]) (a:=0) rfl;have gm':∀f,f∈gs↔f∈wD ns many A Z N0 N1\/f=rD 0 0 hi:=fun f=>by rw[gm f,mem_append,mem_singleton]
 have H:=D3 (f1:=f1) (f2:=f2) gm';have gl':gs.length<=17:=by rw[gl,length_append];simp;omega
 have fok:=dZ O H;have no:=xY H;have zbg:∀f∈gs,cD (many+1) f:=fok
 generalize hR:gF ns many A Z f1 f2 hi=R at O H fok;have rm:R.many=many:=by rw[<- hR];rfl
 have re2:R.e2=f2:=by rw[<- hR];rfl
 have rhi:R.hi=hi:=by rw[<- hR];rfl
 have rG:R.G=2*(many:Int)+3:=by rw[<- hR];show((2*(many+1)+1:Nat):Int)=_;omega
 have rt:R.tot R.many=(gF ns many A Z f1 f2 0).tot many:=by rw[<- hR];exact JZ ns many A Z f1 f2 hi many
 obtain⟨k1,hk1⟩:∃k1:HI,k1=[Ob.lst ((wD ns many A Z N0 N1++[rD 0 0 hi]).map WA)]++[.lst (gs.map WA)]:=⟨_,rfl⟩
 have hn1:k1[1]?=some (.lst (gs.map WA)):=by rw[hk1];rfl
 have l1:k1.length=2:=by rw[hk1];rfl
 have eo':yK [.ref 0,.lst (ns.map Dt.int)] [.lst ((wD ns many A Z N0 N1++[rD 0 0 hi]).map WA)]=some (.ref 1,k1):=by rw[hk1];exact eo
 have fl:eF (.ref 1) k1=some (.ref k1.length,k1++[.lst (gs.map WA)]):=by simp only[eF,LD,TB,hn1,zfU]
 have FT:L0 (many+1) (k1++[.lst (gs.map WA)]) k1.length gs:=⟨⟨_,by simp,LX _ gs no⟩,zbg,(fun x hx=>by rw[nT gs no]at hx;exact absurd hx (by simp)),by omega⟩;have oF:=xH gs zbg _ (WF (many+1));have ex:=u9 (m:=20) (show 1<=many+1 by omega) (show many+1<=8 by omega) (show(KC gs).length<=100 by have:=SK gs;omega) (oJ gs zbg) 22 (fC vB gs) (sG gs) 0 oF (pL gs zbg) (by omega) (by omega);obtain⟨B,sp,x,h3,L,ep,AN,U3⟩:=Mq (show 1<=many+1 by omega) (show many+1<=8 by omega) FT ex;obtain⟨_,l2,_⟩:=rO 22 _ _ 0 _ _ L;have l2:=l2 (by omega);have L':lC (R.many+1) 20 (KC gs) 22 (fC vB gs) [] 0 B sp:=by have z:=L;unfold pU at z;rw[nT gs no]at z;rw[rm];exact z
 obtain⟨w1,w2⟩:=Kz O H L';rw[rt,re2,rhi,rG]at w1 w2;have ca:((many:Nat):Int)+1=((many+1:Nat):Int):=by omega
 have u2:=fun(h:HI)=>xF (h:=h) (i:=2) (j:=(many:Int)) (Or.inl ⟨by decide,by decide⟩)
 have um:=fun(h:HI)=>xF (h:=h) (i:=hi) (j:=2*(many:Int)+3) (Or.inr ⟨by omega,by omega⟩)
 have ep':mI [.int ((many+1:Nat):Int),.ref k1.length,.int 20] (k1++[.lst (gs.map WA)])=some (.tup [CG B.wd,x,.int (sp:Nat)],h3):=ep;have et:HK [.tup [CG B.wd,x,.int (sp:Nat)],.int 20] h3=some (.bl true,h3):=Hh AN l2 (by
  intro z;by_cases lt:hi*(2*(many:Int)+3)<(gF ns many A Z f1 f2 0).tot many+(f2:Int)
  · have:=(w2 lt).1;rw[z]at this;cases this
  · have:=w1 (by omega);rw[z]at this;cases this) h3
 have x2:∀a b d:Dt,Gp [a,b,d] 2=some d:=fun _ _ _=>rfl
 simp only[MJ,LO,YB,zfO,zfP,if_true,zfQ,zfR,Nat.reduceAdd,Nat.reduceSub,List.replicate,zfX,zfW,XA];simp only[HF];simp only[XA,SZ,pB,EA,jM,DA,sA,rB,SA,NA,zfO,zfP,Nat.reduceAdd,zfT,zfS,zfM,zfN,uA,oA,zf3,zfW,er0,Uh,ZA,c6,em,hY,d4,m5,uD,FU,yZ,zfU];simp only[hig];refine⟨h3,?_⟩;simp only[XA,SZ,pB,eE,EA,sD,DA,sA,rB,SA,NA,zfT,zfS,zfM,zfN,uA,oA,zf3,ZA,uD,nF,ap,eo',ca,fl,ep',et,uB,HJ,gB];simp only[fB,Bool.not_true,zf4,if_false,EC,oA,ZA];by_cases lt:hi*(2*(many:Int)+3)<(gF ns many A Z f1 f2 0).tot many+(f2:Int)
 · obtain⟨wc,ws⟩:=w2 lt;have dl:decide (hi*(2*(many:Int)+3)<(gF ns many A Z f1 f2 0).tot many+(f2:Int))=true:=decide_eq_true lt;rw[wc];have fin:(xV (e2 IB (eV 1) (eC (.int 1))) (e2 IB (e2 BA (eV 7) (eC (.int 2))) (eC (.int 0)))) [some (.lst (ns.map Dt.int)),some (.int (many:Nat)),some (.ref 1),some (.int ((gF ns many A Z f1 f2 0).tot many+(f2:Int))),some (.int S),some (.int Y),some (.int hi),some (.tup [CG .clash,x,.int (sp:Nat)]),none] h3=some (.bl true,h3):=by
    by_cases m2:1<many
    · have s0:=ws (by rw[rm];exact m2);subst s0;have dm:decide (((many:Nat):Int)=1)=false:=decide_eq_false (by omega);have d0:decide (((0:Nat):Int)=0)=true:=rfl;simp only[XZ,EA,sA,DA,zfM,zfN,uA,oA,vE,dm,rY,zf4,if_false,yB,x2,zfU,d0]
    · have dm:decide (((many:Nat):Int)=1)=true:=decide_eq_true (by omega);simp only[XZ,EA,sA,DA,zfM,zfN,uA,oA,vE,dm,rY,if_true]
   have we:∀h,IB (CG .clash) (.str "clash") h=some (.bl true,h):=fun h=>F0 .clash .clash h
   simp only[XA,EA,DA,sA,zfM,zfN,uA,oA,uD,uB,gB,fB,u2,um,cI,dl,if_true,CB,hU,yB,UB,zfU,we,rS,fin,BE,OB]
 · have wl:=w1 (by omega);have dl:decide (hi*(2*(many:Int)+3)<(gF ns many A Z f1 f2 0).tot many+(f2:Int))=false:=decide_eq_false lt;cases B with
   | opn=>cases wl
   | clash tr=>cases wl
   | laid t=>
    have hx:x=.lst (vD (many+1) (FB (2*(many+1)) t)):=congrArg B4 AN;rw[hx];have L2':lC (many+1) 20 (KC gs) 22 (fC vB gs) [] 0 (.laid t) sp:=by rw[<- rm];exact L'
    have K:=mS 22 _ 0 t sp L2' oF;have kp:=W9 zbg no K;have pl:=fun h=>Gh (show 1<=many+1 by omega) (show many+1<=100 by omega) K.ok h
    have oks:=fY (2*(many+1)) K.ok;have hn3:h3[1]?=some (.lst (gs.map WA)):=U3.2 _ _ (by rw[zfZ (by omega)];exact hn1);obtain⟨l9,h9,e9,⟨y,rfl⟩,hh⟩:=Vt (i:=8) (n:=1) (body:=lO) WA (fun l h'=>(∃y,l=[some (.lst (ns.map Dt.int)),some (.int (many:Nat)),some (.ref 1),some (.int ((gF ns many A Z f1 f2 0).tot many+(f2:Int))),some (.int S),some (.int Y),some (.int hi),some (.tup [CG (Ans.laid t).wd,.lst (vD (many+1) (FB (2*(many+1)) t)),.int (sp:Nat)]),y])/\h'=h3) gs (by
     rintro l h' ⟨_,rfl⟩;exact hn3) (by
     rintro f hf l h' ⟨⟨y,rfl⟩,rfl⟩;have ek:=Yy (show many+1<=100 by omega) oks (f:=f) (d:=WA f) (h:=h') (by
      cases f with
      | ways m=>rfl
      | long x=>rfl
      | one g=>exact absurd hf (no g)) (kp f hf)
     rw[show((2*(many+1)+1:Nat):Int)=2*(many:Int)+3 by omega]at ek;refine⟨.nx [some (.lst (ns.map Dt.int)),some (.int (many:Nat)),some (.ref 1),some (.int ((gF ns many A Z f1 f2 0).tot many+(f2:Int))),some (.int S),some (.int Y),some (.int hi),some (.tup [CG (Ans.laid t).wd,.lst (vD (many+1) (FB (2*(many+1)) t)),.int (sp:Nat)]),some (WA f)] h',?_,⟨_,rfl⟩,rfl⟩;simp only[lO,uB,HJ,gB,rB,SA,NA,EA,sA,DA,zfT,zfS,zfM,zfN,uA,oA,yB,pD,zfU,u2,uD,zf3,ek,fB,Bool.not_true,zf4,if_false,EC]) [some (.lst (ns.map Dt.int)),some (.int (many:Nat)),some (.ref 1),some (.int ((gF ns many A Z f1 f2 0).tot many+(f2:Int))),some (.int S),some (.int Y),some (.int hi),some (.tup [CG (Ans.laid t).wd,.lst (vD (many+1) (FB (2*(many+1)) t)),.int (sp:Nat)]),none] h3 ⟨⟨_,rfl⟩,rfl⟩
    rw[hh]at e9;have we:∀h,kE (CG (Ans.laid t).wd) (.str "laid") h=some (.bl false,h):=fun h=>by show kE (.str "laid") (.str "laid") h=_;rw[XO,decide_eq_true rfl];rfl
    simp only[XA,EA,DA,sA,rB,SA,NA,zfM,zfN,uA,oA,zf3,ZA,uD,uB,gB,HJ,fB,Bool.not_true,ca,zf4,if_false,EC,u2,um,cI,dl,dP,yB,UB,pD,zfU,we,pl,AE,gE,OF hn3,e9,CB,OB]
set_option maxHeartbeats 0 in
theorem bh {l:PySem.W.OpenLaw} {w:World} {K:Frag} {h:Heap} {mg:Str->Option Value} {fa:Addr} (X:K.In h) (G:h.Ns mainGlobals mg) (hfa:mg "law" =some (.ref fa))
 {Vl:Addr} {zbP:Value} {zaU:Addr} {zaB:Addr} {zbq:Value}
 (yq0:QL K "Search" Vl) (yq1:findIn K (.ref Vl) "lengths" =some none) (yq2:findIn K (.ref Vl) "most" =some none) (yq3:findIn K (.ref Vl) "made" =some none) (yq4:wB K "zones" xT) (yq5:wB K "ways_in" cS) (yq6:wB K "set_of" FS) (yq7:wB K "turned" GS) (yq8:wB K "chained_sets" xQ) (yq9:wB K "wide_row" YR) (yq10:wB K "wide" jU) (yq11:wB K "pairs_of" WR) (yq12:wB K "narrowed" VR) (yq13:wB K "left_by" pS) (yq14:wB K "narrows" bS) (yq15:wB K "made_of" qS) (yq16:wB K "is_empty" UR) (yq17:wB K "threes_along" mQ) (yq18:wB K "rounded_from" kQ) (yq19:wB K "first_net" YQ) (yq20:wB K "lengths_in" oR) (yq21:wB K "groups_in" ZQ) (yq22:wB K "only_member" MQ) (yq23:wB K "first_loose_pair" dQ) (yq24:wB K "split_of" XR) (yq25:wB K "grain" tT) (yq26:wB K "length_bounds" nQ) (yq27:wB K "point_bounds" jQ) (yq28:wB K "set_bounds" pR) (yq29:wB K "bounds" ES) (yq30:wB K "least_bounds" iQ) (yq31:wB K "moved" uT) (yq32:wB K "ring_behind" NQ) (yq33:wB K "timed" vT) (yq34:EL K Vl "__init__" "Search.__init__" fQ) (yq35:EL K Vl "look" "Search.look" KQ) (yq36:EL K Vl "look_at_branches" "Search.look_at_branches" aQ) (yq37:wB K "stretches_at" lQ) (yq38:K0 K "planned" FN 200) (yq39:wB K "_law_cell_at" wQ) (yq40:wB K "_law_whole" mR) (yq41:wB K "_law_mixed" lR) (yq42:wB K "_law_zones" nR) (yq43:wB K "_law_zone" XQ) (yq44:wB K "_law_way" TR) (yq45:wB K "_law_turned" LQ) (yq46:wB K "_law_keeps" kR) (yq47:wB K "_law_plan" UQ) (yq48:wB K "_law_told" VQ) (yq49:wB K "_law_ends" TQ) (yq50:wB K "_law_ways" WQ) (yq51:wB K "_law_row" SR) (yq52:wB K "_law_drawn_order" cQ) (yq53:wB K "law" KU) (yq54:nsIn K mainGlobals "any" =some none) (yq55:nsIn K mainGlobals "bool" =some none) (yq56:nsIn K mainGlobals "enumerate" =some none) (yq57:nsIn K mainGlobals "int" =some none) (yq58:nsIn K mainGlobals "isinstance" =some none) (yq59:nsIn K mainGlobals "len" =some none) (yq60:nsIn K mainGlobals "list" =some none) (yq61:nsIn K mainGlobals "max" =some none) (yq62:nsIn K mainGlobals "min" =some none) (yq63:nsIn K mainGlobals "range" =some none) (yq64:nsIn K mainGlobals "sum" =some none) (yq65:nsIn K mainGlobals "tuple" =some none) (yq66:nsIn K mainGlobals "ALL" =some (some zbP)) (yq67:RD K 6 zbP=some DL) (yq68:nsIn K mainGlobals "ZONES" =some (some (.ref zaU))) (yq69:RD K 6 (.ref zaU)=some ZS) (yq70:nsIn K mainGlobals "CHAINED" =some (some (.ref zaB))) (yq71:RD K 6 (.ref zaB)=some MR) (yq72:nsIn K mainGlobals "SAME" =some (some zbq)) (yq73:RD K 6 zbq=some MT)
 :∃fd:FuncData,(∀(s:Shared) (v:Value),BindsTo s fd ⟨[v],[]⟩ [("_law_script",v)])/\∀base:Heap,K.In base->base.Ns mainGlobals mg->Ql l.prog w K mg base dG 51 fa fd ["_law_script"] (SI K 1 MJ):=by
 have T:ud K mg:={
  zdn:=AB X G yq4 fun _ _ _ _ _ _=>len1 (fun _=>rfl)
  zdg:=AB X G yq5 fun _ _ _ _ _ _=>len1 (fun _=>rfl)
  zdj:=AB X G yq6 fun _ _ _ _ _ _=>len1 (fun _=>rfl)
  zdk:=AB X G yq7 fun _ _ _ _ _ _=>len1 (fun _=>rfl)
  zcJ:=AB X G yq8 fun _ _ _ _ _ _=>NC (fun _ _=>rfl)
  zdb:=AB X G yq9 fun _ _ _ _ _ _=>NC (fun _ _=>rfl)
  zdr:=AB X G yq10 fun _ _ _ _ _ _=>len1 (fun _=>rfl)
  zc9:=AB X G yq11 fun _ _ _ _ _ _=>len1 (fun _=>rfl)
  zc8:=AB X G yq12 fun _ _ _ _ _ _=>lK (fun _ _ _ _=>rfl)
  zdd:=AB X G yq13 fun _ _ _ _ _ _=>NC (fun _ _=>rfl)
  zdf:=AB X G yq14 fun _ _ _ _ _ _=>NC (fun _ _=>rfl)
  zde:=AB X G yq15 fun _ _ _ _ _ _=>NC (fun _ _=>rfl)
  zc7:=AB X G yq16 fun _ _ _ _ _ _=>len1 (fun _=>rfl)
  zcO:=AB X G yq17 fun _ _ _ _ _ _=>NC (fun _ _=>rfl)
  zcM:=AB X G yq18 fun _ _ _ _ _ _=>NC (fun _ _=>rfl)
  zc2:=AB X G yq19 fun _ _ _ _ _ _=>NC (fun _ _=>rfl)
  zcS:=AB X G yq20 fun _ _ _ _ _ _=>len1 (fun _=>rfl)
  zc3:=AB X G yq21 fun _ _ _ _ _ _=>len1 (fun _=>rfl)
  zcV:=AB X G yq22 fun _ _ _ _ _ _=>pH (fun _ _ _=>rfl)
  zcG:=AB X G yq23 fun _ _ _ _ _ _=>len1 (fun _=>rfl)
  zda:=AB X G yq24 fun _ _ _ _ _ _=>NC (fun _ _=>rfl)
  zdp:=AB X G yq25 fun _ _ _ _ _ _=>len1 (fun _=>rfl)
  zcH:=AB X G yq26 fun _ _ _ _ _ _=>NC (fun _ _=>rfl)
  zcL:=AB X G yq27 fun _ _ _ _ _ _=>lK (fun _ _ _ _=>rfl)
  zcT:=AB X G yq28 fun _ _ _ _ _ _=>pH (fun _ _ _=>rfl)
  zdi:=AB X G yq29 fun _ _ _ _ _ _=>NC (fun _ _=>rfl)
  zcK:=AB X G yq30 fun _ _ _ _ _ _=>len1 (fun _=>rfl)
  zdl:=AB X G yq31 fun _ _ _ _ _ _=>pH (fun _ _ _=>rfl)
  zcW:=AB X G yq32 fun _ _ _ _ _ _=>NC (fun _ _=>rfl)
  zdm:=AB X G yq33 fun _ _ _ _ _ _=>NC (fun _ _=>rfl)
  zdh:=Vv X G yq0 yq34 fun _ _ _ _ _ _=>pH (fun _ _ _=>rfl)
  zb9:=zX yq0 yq35 fun _ _ _ _ _ _=>lK (fun _ _ _ _=>rfl)
  zcE:=zX yq0 yq36 fun _ _ _ _ _ _=>lK (fun _ _ _ _=>rfl)
  zcN:=AB X G yq37 fun _ _ _ _ _ _=>len1 (fun _=>rfl)
  zc4:=Uy X G yq38 fun _ _ _ _ _ _ _ _ _ _ _ us hl h1 h2=>match us,hl with | [_,_,_],_=>BindsTo.of_defaults rfl h1 h2 rfl rfl
  zcI:=AB X G yq39 fun _ _ _ _ _ _=>NC (fun _ _=>rfl)
  zcQ:=AB X G yq40 fun _ _ _ _ _ _=>len1 (fun _=>rfl)
  zcP:=AB X G yq41 fun _ _ _ _ _ _=>NC (fun _ _=>rfl)
  zcR:=AB X G yq42 fun _ _ _ _ _ _=>kK rfl
  zc1:=AB X G yq43 fun _ _ _ _ _ _=>NC (fun _ _=>rfl)
  zc6:=AB X G yq44 fun _ _ _ _ _ _=>NC (fun _ _=>rfl)
  zcU:=AB X G yq45 fun _ _ _ _ _ _=>len1 (fun _=>rfl)
  zcb:=AB X G yq46 fun _ _ _ _ _ _=>pH (fun _ _ _=>rfl)
  zcY:=AB X G yq47 fun _ _ _ _ _ _=>NC (fun _ _=>rfl)
  zcZ:=AB X G yq48 fun _ _ _ _ _ _=>NC (fun _ _=>rfl)
  zcX:=AB X G yq49 fun _ _ _ _ _ _=>NC (fun _ _=>rfl)
  zc0:=AB X G yq50 fun _ _ _ _ _ _=>lK (fun _ _ _ _=>rfl)
  zc5:=AB X G yq51 fun _ _ _ _ _ _=>NC (fun _ _=>rfl)
  zcF:=AB X G yq52 fun _ _ _ _ _ _=>NC (fun _ _=>rfl)
  zb8:=iT yq0 yq1
  zca:=iT yq0 yq2
  za6:=iT yq0 yq3
  zdt:=mg_none_of X G yq54
  zds:=mg_none_of X G yq55
  zcc:=mg_none_of X G yq56
  zaS:=mg_none_of X G yq57
  za5:=mg_none_of X G yq58
  zac:=mg_none_of X G yq59
  za7:=mg_none_of X G yq60
  zbt:=mg_none_of X G yq61
  za8:=mg_none_of X G yq62
  zai:=mg_none_of X G yq63
  zce:=mg_none_of X G yq64
  zcd:=mg_none_of X G yq65
  zbH:=⟨⟨_,6,PySem.W.mg_of X G yq66,yq67⟩⟩
  zdo:=⟨⟨_,6,PySem.W.mg_of X G yq68,yq69⟩⟩
  zdc:=⟨⟨_,6,PySem.W.mg_of X G yq70,yq71⟩⟩
  zdq:=⟨⟨_,6,PySem.W.mg_of X G yq72,yq73⟩⟩
 }
 obtain⟨f,oc,od,kV,dc,pm,an,cd,ct,sl,a,l1,c1,k1⟩:=yq53;have e:=hfa.symm.trans (PySem.W.mg_of X G a);cases e;exact⟨_,fun s v=>.of_eq rfl,fun base _ _=>Qg T base (GO l1 c1 k1)⟩
end G
open PySem.W
set_option maxRecDepth 100000 in
set_option maxHeartbeats 0 in
theorem PySem.Challenge.cw_spanways_k19_lengths_to_the_grain_holds : PySem.Challenge.rw_spanways_k19_lengths_to_the_grain.Holds := by
 refine HD.top ?_
 k_fill
 refine SM.qw (l:=PySem.Challenge.rw_spanways_k19_lengths_to_the_grain) (F:=G.MJ) (k:=51) (x := "_law_script") rfl rfl ⟨rfl,by decide,by decide⟩ (fun w h Y=>PySem.W.kIn_of Y) ?F G.law_true
 case F=>
  intro w mg fa h KX GN hmg
  refine' G.bh KX GN hmg ?yq0 ?yq1 ?yq2 ?yq3 ?yq4 ?yq5 ?yq6 ?yq7 ?yq8 ?yq9 ?yq10 ?yq11 ?yq12 ?yq13 ?yq14 ?yq15 ?yq16 ?yq17 ?yq18 ?yq19 ?yq20 ?yq21 ?yq22 ?yq23 ?yq24 ?yq25 ?yq26 ?yq27 ?yq28 ?yq29 ?yq30 ?yq31 ?yq32 ?yq33 ?yq34 ?yq35 ?yq36 ?yq37 ?yq38 ?yq39 ?yq40 ?yq41 ?yq42 ?yq43 ?yq44 ?yq45 ?yq46 ?yq47 ?yq48 ?yq49 ?yq50 ?yq51 ?yq52 ?yq53 ?yq54 ?yq55 ?yq56 ?yq57 ?yq58 ?yq59 ?yq60 ?yq61 ?yq62 ?yq63 ?yq64 ?yq65 ?yq66 ?yq67 ?yq68 ?yq69 ?yq70 ?yq71 ?yq72 ?yq73
  (case yq0=>exact⟨by k_is,by k_is,by k_is,by k_is,by k_is,by k_is,by k_is⟩)
  (case yq1 | yq2 | yq3=>k_is)
  (case yq4 | yq5 | yq6 | yq7 | yq8 | yq9 | yq10 | yq11 | yq12 | yq13 | yq14 | yq15 | yq16 | yq17 | yq18 | yq19 | yq20 | yq21 | yq22 | yq23 | yq24 | yq25 | yq26 | yq27 | yq28 | yq29 | yq30 | yq31 | yq32 | yq33=>exact⟨_,_,_,_,_,_,_,_,_,_,by k_is,by k_is,by k_is,by k_is⟩)
  (case yq34 | yq35 | yq36=>exact⟨_,_,_,_,_,_,_,_,_,_,by k_is,by k_is,by k_is,by k_is,by k_is⟩)
  (case yq37=>exact⟨_,_,_,_,_,_,_,_,_,_,by k_is,by k_is,by k_is,by k_is⟩)
  (case yq38=>exact⟨_,_,_,_,_,_,_,_,_,_,_,_,_,_,by k_is,by k_is,by k_is,by k_is,by k_is,by rfl⟩)
  (case yq39 | yq40 | yq41 | yq42 | yq43 | yq44 | yq45 | yq46 | yq47 | yq48 | yq49 | yq50 | yq51 | yq52 | yq53=>exact⟨_,_,_,_,_,_,_,_,_,_,by k_is,by k_is,by k_is,by k_is⟩)
  (case yq54 | yq55 | yq56 | yq57 | yq58 | yq59 | yq60 | yq61 | yq62 | yq63 | yq64 | yq65 | yq66=>k_is)
  (case yq67=>kernel_rfl)
  (case yq68=>k_is)
  (case yq69=>kernel_rfl)
  (case yq70=>k_is)
  (case yq71=>kernel_rfl)
  (case yq72=>k_is)
  (case yq73=>kernel_rfl)
end
