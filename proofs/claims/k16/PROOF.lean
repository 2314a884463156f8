import PyProof.Rows.All
import Wide.All
import OpenK.AllK
import Wide.FinOn
import Lean
import PyProof.EqAt
import PyProof.EqKinds
import PyProof.TupleCall
import PySem.Challenge.RW_spanways_k16_what_drawn_stretches_keep
set_option Elab.async false
set_option linter.all false
set_option maxRecDepth 100000
set_option compiler.extract_closed false
set_option bootstrap.genMatcherCode false
noncomputable section
section
open PySem PySem.W PyProof.Rows
namespace HD
noncomputable abbrev rw:=PySem.Challenge.rw_spanways_k16_what_drawn_stretches_keep.row.toRowW
noncomputable def vw:Program:={rw.prog with main:={rw.prog.main with body:=[1,2,3,4,5,6,8,9,11,12,13,14,15,16,17,18,19,20,21,23,24,25,26,27,28,30,31,32,33,34,35,36,37,38,40,41,44,45,46,47,48,49,50,51,52,53,54,55,56,57,58,59,60,61,62,63,64].filterMap (rw.prog.main.body[·]?)}}
noncomputable abbrev xt:Shared->Bool:=fun s=>xlAt HD.vw [] s && recOk (RowW.records HD.rw) s
theorem jn {p q:Program}{l:List Str}{X:Shared->Bool}{α:Type}{Y:Shared->α}{Z:World->α}{N:Nat}(a:∀ w,(openEnds treeTable p w N).map (fun s=>(openSeen q l (importedModules p.main.body) X true s).1)=some (openGood q l).1)(b:∀ w,(openEnds treeTable p w N).map (fun s=>(openSeen q l (importedModules p.main.body) X true s).2)=some (openGood q l).2)(c:∀ w,(openEnds treeTable p w N).map Y=some (Z w)):LeftO p q l X Y Z N:=fun w=>by
  obtain ⟨s,e,d⟩:=Option.map_eq_some_iff.mp (a w)
  have f:=b w
  have g:=c w
  rw [e] at f g
  show (openEnds treeTable p w N).map _=_
  rw [e]
  exact congrArg some (Prod.ext (Prod.ext d (Option.some.inj f)) (Option.some.inj g))
set_option maxHeartbeats 0
theorem a1:∀ w,(openEnds treeTable rw.prog w 4584).map (fun s=>(openSeen vw ["planned"] (importedModules rw.prog.main.body) xt true s).1)=some (openGood vw ["planned"]).1:=by intro w; kernel_rfl
theorem a2:∀ w,(openEnds treeTable rw.prog w 4584).map (fun s=>(openSeen vw ["planned"] (importedModules rw.prog.main.body) xt true s).2)=some (openGood vw ["planned"]).2:=by intro w; kernel_rfl
local macro_rules | `(tactic|o_head $H)=>do
  let hw:=Lean.mkIdent `hw
  `(tactic|(refine holds_open (q:=HD.vw) (loose:=["planned"]) (Xt:=HD.xt) (XP:=XL HD.vw []) (Yf:=Hook.obs $H) (Ya:=Hook.val $H) (YP:=Hook.says $H) (N:=4584) ?_ (Hook.of $H) (Hook.keeps $H) (fun s e=>xl_of s (Bool.and_eq_true_iff.mp e).1) XL.keeps (by rfl) (by rfl) (by rfl) (fun s e=>recFacts_of (Bool.and_eq_true_iff.mp e).2) (by rfl) (by first | assumption | decide +kernel) (by decide +kernel) ⟨rfl,rfl,rfl,rfl,rfl,by decide +kernel⟩ ?$hw ?_; focus (refine HD.jn HD.a1 HD.a2 ?_; intro w; kernel_rfl)))
open_top top for PySem.Challenge.rw_spanways_k16_what_drawn_stretches_keep
end HD
end
namespace L2
end L2
namespace SM
end SM
namespace BF
end BF
namespace G
end G
open PySem PySem.Spec PyProof.Rows L2 SM BF G List
theorem zqR(h:0=0:=by rfl):0=0:=h
theorem zqQ(h:0=0:=by decide):0=0:=h
theorem zqP(h:0=0:=by intro Z;rfl):0=0:=h
theorem zqD(h:0=0:=by first | exact .inl rfl | exact .inr rfl | assumption):0=0:=h
theorem zqr(h:0=0:=by decide +kernel):0=0:=h
theorem zqq(h:0=0:=by first | exact HZ _ | with_unfolding_all rfl):0=0:=h
theorem zxA{a b c:Nat}(h:a<=b)(k:b<=c):a<=c:=Nat.le_trans h k
theorem zxB(n:Nat):0<=n:=Nat.zero_le n
theorem zxC{a b c:Nat}(h:a<b)(k:b<=c):a<c:=Nat.lt_of_lt_of_le h k
theorem zxD{a b:Nat}(h:a<b):a≠b:=Nat.ne_of_lt h
theorem zxE(n:Nat):Int.toNat n=n:=rfl
theorem zxF{a b c:Nat}(h:a<=b)(k:b<c):a<c:=Nat.lt_of_le_of_lt h k
theorem zxG(a b i:Nat):(a&&&b).testBit i=(a.testBit i&&b.testBit i):=Nat.testBit_and a b i
theorem zxH{n m:Nat}:(2^n).testBit m=decide (n=m):=Nat.testBit_two_pow
theorem zxI(n:Nat):0+n=n:=Nat.zero_add n
theorem zfF{α:Type _}{a:α}{l:List α}:(a::l)[0]?=some a:=rfl
theorem zfG{α:Type _}{a:α}{l:List α}{i:Nat}:(a::l)[i+1]?=l[i]?:=rfl
theorem zfH{α:Type _}{a:α}{l:List α}:(a::l).length=l.length+1:=rfl
theorem zfI{α:Type _}:([]:List α).length=0:=rfl
theorem zfJ{α β:Type _}{f:α->β}{a:α}{l:List α}:(a::l).map f=f a::l.map f:=rfl
theorem zfK{α β:Type _}{f:α->β}:[].map f=[]:=rfl
theorem zfL{α:Type _}{a b:α}{l:List α}:(a::l).set 0 b=b::l:=rfl
theorem zfM{α:Type _}{a b:α}{l:List α}{i:Nat}:(a::l).set (i+1) b=a::l.set i b:=rfl
theorem zfN{α β:Type _}{f:α->β}{a:α}:(some a).map f=some (f a):=rfl
theorem zfO{α β:Type _}{a:α}{f:α->Option β}:(some a).bind f=f a:=rfl
theorem zfP{α:Type _}{l:List α}:[]++l=l:=rfl
theorem zfQ{α:Type _}{a:α}{l k:List α}:a::l++k=a::(l++k):=rfl
theorem zfR{α:Type _}{l:List α}{i:Nat}{a:α}:l[i]?=some a->∃h:i<l.length,l[i]=a:=List.getElem?_eq_some_iff.mp
theorem zfS{α:Type _}{l k:List α}{i:Nat}(h:i<l.length):(l++k)[i]?=l[i]?:=List.getElem?_append_left h
theorem zfT:false≠true:=Bool.false_ne_true
theorem zfU(n:Nat):n<=n:=Nat.le_refl n
theorem zfV{α:Type _}{l k:List α}{i:Nat}(h:l.length<=i):(l++k)[i]?=k[i-l.length]?:=List.getElem?_append_right h
theorem zfW{α:Type _}(l:List α):l++[]=l:=List.append_nil l
theorem zfX:(false=true)=False:=Bool.false_eq_true
open PySem.W (Frag nsIn findIn keepIn fnOf mg_none_of)
namespace L2
noncomputable abbrev pC:=Sum Int Str
noncomputable def aK:pC->Value->Bool
 | .inl k,v=>Value.isInt k v
 | .inr x,v=>Value.isStrOf x v
noncomputable def o4(w:World):pC->Int
 | .inl k=>hashInt k
 | .inr x=>hashStr w x
theorem cH:∀{k:pC}{v:Value},aK k v=true->(∃i t,k=Sum.inl i/\v=Value.int i t)\/(∃x t,k=Sum.inr x/\v=Value.str x t)
 | .inl i,v,h=>by obtain⟨t,e⟩:=Value.isInt_shape (k:=i) (v:=v) h;exact .inl ⟨i,t,rfl,e⟩
 | .inr x,v,h=>by obtain⟨t,e⟩:=Value.isStrOf_shape (x:=x) (v:=v) h;exact .inr ⟨x,t,rfl,e⟩
theorem Gx(i:Int)(t:Tok):aK (.inl i) (.int i t)=true:=by simp[aK,Value.isInt]
theorem Hx(x:Str)(t:Tok):aK (.inr x) (.str x t)=true:=by simp[aK,Value.isStrOf]
theorem Nr(a b:Int):decide ((Sum.inl a:pC)=Sum.inl b)=(a==b):=by
 by_cases e:a=b
 · subst e;simp
 · have h:¬(Sum.inl a:pC)=Sum.inl b:=fun q=>e (Sum.inl.inj q)
   rw[decide_eq_false h];exact(beq_eq_false_iff_ne.mpr e).symm
theorem Vr(a b:Str):decide ((Sum.inr a:pC)=Sum.inr b)=decide (a=b):=by
 by_cases e:a=b
 · subst e;simp
 · have h:¬(Sum.inr a:pC)=Sum.inr b:=fun q=>e (Sum.inr.inj q)
   rw[decide_eq_false h,decide_eq_false e]
theorem Pr(a:Int)(b:Str):decide ((Sum.inl a:pC)=Sum.inr b)=false:=decide_eq_false (fun q=>nomatch q)
theorem Ur(a:Str)(b:Int):decide ((Sum.inr a:pC)=Sum.inl b)=false:=decide_eq_false (fun q=>nomatch q)
def JE(prog:Program)(w:World):PySem.KeyKind prog w pC where
 is:=aK
 hash:=o4 w
 inj:=fun v a b ha hb=>by
  rcases cH ha with⟨i,t,rfl,rfl⟩ | ⟨x,t,rfl,rfl⟩
  · rcases cH hb with⟨j,u,rfl,e⟩ | ⟨y,u,rfl,e⟩
    · injection e with e1 _;rw[e1]
    · exact nomatch e
  · rcases cH hb with⟨j,u,rfl,e⟩ | ⟨y,u,rfl,e⟩
    · exact nomatch e
    · injection e with e1 _;rw[e1]
 byValue:=fun k v h=>by rcases cH h with⟨i,t,rfl,rfl⟩ | ⟨x,t,rfl,rfl⟩<;>rfl
 pyHash:=fun hv h=>by
  rcases cH hv with⟨i,t,rfl,rfl⟩ | ⟨x,t,rfl,rfl⟩
  · exact wpAny_pyHash_int h
  · exact wpAny_pyHash_str h
 eqBool:=fun hu hv h=>by
  rcases cH hu with⟨i,t,rfl,rfl⟩ | ⟨x,t,rfl,rfl⟩
  · rcases cH hv with⟨j,u,rfl,rfl⟩ | ⟨y,u,rfl,rfl⟩
    · rw[Nr]at h;exact wpAny_eqBool_int h
    · rw[Pr]at h;exact SeqAt.EqAt.int_str i t y u _ _ _ _ h
  · rcases cH hv with⟨j,u,rfl,rfl⟩ | ⟨y,u,rfl,rfl⟩
    · rw[Ur]at h;exact SeqAt.EqAt.str_int x t j u _ _ _ _ h
    · rw[Vr]at h;exact wpAny_eqBool_str h
 «strs»:=fun k x t v h=>by
  rcases cH h with⟨i,u,rfl,e⟩ | ⟨y,u,rfl,e⟩
  · exact nomatch e
  · injection e with e1 _
    subst e1;cases v<;>rfl
theorem fj(prog:Program)(w:World)(i:Int)(t:Tok):(JE prog w).is (.inl i) (.int i t)=true:=Gx i t
theorem gj(prog:Program)(w:World)(x:Str)(t:Tok):(JE prog w).is (.inr x) (.str x t)=true:=Hx x t
inductive V where
 | non | bl (b:Bool) | int (i:Int) | str (x:Str) | byt (b:Array UInt8) | flt (b:UInt64) | ref (a:Addr) | ty (n:String)
 deriving DecidableEq
noncomputable def RelV:V->Value->Prop
 | .non,u=>u=Value.none
 | .bl b,u=>u=Value.bool b
 | .int i,u=>∃t,u=Value.int i t
 | .str x,u=>∃t,u=Value.str x t
 | .byt b,u=>∃t,u=Value.bytes b t
 | .flt b,u=>∃t,u=Value.float b t
 | .ref a,u=>u=Value.ref a
 | .ty n,u=>u=Value.type n
abbrev Vals:List V->List Value->Prop:=Paired RelV
theorem Vals.length{xs:List V}{us:List Value}(r:Vals xs us):xs.length=us.length:=Paired.length r
theorem Vals.get:∀{xs:List V}{us:List Value}{i:Nat}{x:V},Vals xs us->xs[i]?=some x->∃u,us[i]?=some u/\RelV x u
 | _,_,_,_,.nil,e=>by simp at e
 | _,_,0,_,.cons r _,e=>by simp at e;subst e;exact⟨_,rfl,r⟩
 | _,_,i+1,x,.cons _ t,e=>by obtain⟨u,h1,h2⟩:=Vals.get (i:=i) (x:=x) t (by simpa using e);exact⟨u,by simpa using h1,h2⟩
theorem Vals.set{x:V}{u:Value}(r:RelV x u):∀{xs:List V}{us:List Value}(i:Nat),Vals xs us->Vals (xs.set i x) (us.set i u)
 | _,_,_,.nil=>.nil
 | _,_,0,.cons _ t=>.cons r t
 | _,_,i+1,.cons q t=>.cons q (Vals.set r i t)
theorem Vals.append:∀{xs ys:List V}{us ws:List Value},Vals xs us->Vals ys ws->Vals (xs++ys) (us++ws)
 | _,_,_,_,.nil,s=>s
 | _,_,_,_,.cons r t,s=>.cons r (Vals.append t s)
theorem Vals.take:∀{xs:List V}{us:List Value}(n:Nat),Vals xs us->Vals (xs.take n) (us.take n)
 | _,_,0,_=>.nil
 | _,_,_+1,.nil=>.nil
 | _,_,n+1,.cons r t=>.cons r (Vals.take n t)
theorem Vals.drop:∀{xs:List V}{us:List Value}(n:Nat),Vals xs us->Vals (xs.drop n) (us.drop n)
 | _,_,0,r=>r
 | _,_,_+1,.nil=>.nil
 | _,_,n+1,.cons _ t=>Vals.drop n t
theorem Vals.none_of:∀{xs:List V}{us:List Value}{i:Nat},Vals xs us->xs[i]?=none->us[i]?=none:=fun {xs us i} r e=>by have h1:=r.length;have h2:xs.length<=i:=getElem?_eq_none_iff.mp e;exact getElem?_eq_none_iff.mpr (by omega)
def zaa:Option V->Option Value->Prop
 | some v,some u=>RelV v u
 | none,none=>True
 | _,_=>False
def KV{κ:Type}:List (κ×V)->List (κ×Value)->Prop:=Paired fun(p:κ×V) (q:κ×Value)=>p.1=q.1/\RelV p.2 q.2
noncomputable def kV:pC->V
 | .inl i=>.int i
 | .inr x=>.str x
inductive HO where
 | lst (xs:List V)
 | tup (xs:List V)
 | dK (kvs:List (pC×V)) | dT (kvs:List (List pC×V))
 | set (S:Int->Bool) (n:Nat)
 | ins (C dx:Addr) (fs:List (Str×V))
 | own (x:Addr)
 | xd (fs:List (Str×V))
 | met (f x:Addr)
 | rng (lo hi:Int)
 | frz (o:Obj) (u:HO)
 | tbl (ps:Array Value)
 | ext (φ:Heap->Prop)
noncomputable abbrev Hp:=Addr->Option HO
noncomputable def PB(H:Hp)(a:Addr)(o:HO):Hp:=fun b=>if b=a then some o else H b
theorem jD{H:Hp}{a:Addr}{o:HO}:PB H a o a=some o:=by unfold PB;rw[if_pos rfl]
theorem ZA{H:Hp}{a b:Addr}{o:HO}(h:b≠a):PB H a o b=H b:=by unfold PB;rw[if_neg h]
theorem pV{H:Hp}{a b:Addr}{o u:HO}(h:H a=some o)(h':H b=some u)(d:o≠u):a≠b:=by intro e;subst e;rw[h]at h';exact d (Option.some.inj h')
theorem wD{H:Hp}{a b:Addr}{o:HO}(h:H a=some o)(h':H b=none):a≠b:=by intro e;subst e;rw[h]at h';cases h'
section
variable(P:Program)(w:World)
def Rm(H:Hp)(h:Heap)(a:Addr):HO->Prop
 | .lst xs=>xs.length<=sizeLine/\∃(its:List Value) (n:Nat),Vals xs its/\h.get? a=some { cls:=.type "list",data:=.seq its.toArray n }
 | .tup xs=>xs.length<=sizeLine/\∃its:List Value,Vals xs its/\IsTup h a its.toArray
 | .dK kvs=>kvs.length<=sizeLine/\(a==sysModules)=false/\∃vs,KV kvs vs/\h.DictOf (JE P w) a vs
 | .dT kvs=>kvs.length<=sizeLine/\(a==sysModules)=false/\∃xs:List (List pC×Addr×Value),
  Paired (fun(p:List pC×V) (q:List pC×Addr×Value)=>p.1=q.1/\H q.2.1=some (.tup (p.1.map kV))/\RelV p.2 q.2.2) kvs xs/\
  ∃o es ep,h.get? a=some o/\o.ExactDict/\o.data=.dict es ep/\es.toList=xs.map (entryOfKey (tupleKind (JE P w)))/\(xs.map (·.1)).Nodup
 | .set S n=>h.SetOf (intKind P w) a S n
 | .ins C dx fs=>H dx=some (.own a)/\fs.length<=1000/\dx≠a/\h.get? a=some (PySem.W.instObj C dx)/\
  ∃mA,h.Ns1 dx mA/\(∀f,zaa (fs.lookup f) (mA f))/\PySem.Within mA (fs.map (·.1))
 | .own _=>∃o,h.get? a=some o
 | .xd fs=>∃mA,h.Ns1 a mA/\∀f,zaa (fs.lookup f) (mA f)
 | .rng lo hi=>∃t u v,h.get? a=some { cls:=.type "range",data:=.fields #[.int lo t,.int hi u,.int 1 v] }
 | .frz o u=>h.get? a=some o/\Rm H h a u
 | .tbl ps=>h.get? a=some { cls:=.none,data:=.fields ps }
 | .met f x=>h.get? a=some (PySem.W.methodObj (.ref f) (.ref x))
 | .ext φ=>φ h/\(∃o,h.get? a=some o)/\∀h1 h2:Heap,φ h1->(∀o,h1.get? a=some o->h2.get? a=some o)->φ h2
def HOk(H:Hp)(h:Heap):Prop:=∀a o,H a=some o->Rm P w H h a o
end
section
variable{P:Program}{w:World}{H H':Hp}{h h':Heap}{a:Addr}{o:HO}
theorem Rm.lt(x:Rm P w H h a o):a<h.objs.size:=by
 cases o with
 | lst xs=>obtain⟨Z,Z,Z,Z,e⟩:=x;exact Heap.lt_size e
 | tup xs=>obtain⟨Z,Z,Z,p⟩:=x;exact p.lt
 | dK kvs=>obtain⟨Z,Z,Z,Z,o,Z,Z,e,Z⟩:=x;exact Heap.lt_size e
 | dT kvs=>obtain⟨Z,Z,Z,Z,o,Z,Z,e,Z⟩:=x;exact Heap.lt_size e
 | set S n=>obtain⟨o,Z,Z,Z,e,Z⟩:=x;exact Heap.lt_size e
 | ins C dx fs=>obtain⟨Z,Z,Z,e,Z⟩:=x;exact Heap.lt_size e
 | own y=>obtain⟨Z,e⟩:=x;exact Heap.lt_size e
 | xd fs=>obtain⟨Z,⟨Z,Z,Z,e,Z⟩,Z⟩:=x;exact Heap.lt_size e
 | rng lo hi=>obtain⟨Z,Z,Z,e⟩:=x;exact Heap.lt_size e
 | frz ob u=>obtain⟨e,Z⟩:=x;exact Heap.lt_size e
 | tbl ps=>exact Heap.lt_size (show h.get? a=some _ from x)
 | met f y=>exact Heap.lt_size (show h.get? a=some _ from x)
 | ext φ=>obtain⟨Z,⟨Z,e⟩,Z⟩:=x;exact Heap.lt_size e
theorem Paired.zb2{α β:Type}{F G:α->β->Prop}:∀{l₁:List α}{l₂:List β},Paired F l₁ l₂->(∀a b,F a b->G a b)->Paired G l₁ l₂
 | _,_,.nil,_=>.nil
 | _,_,.cons r t,f=>.cons (f _ _ r) (Paired.zb2 t f)
theorem Rm.stay(x:Rm P w H h a o)(k:∀b u,(b=a\/H b=some (.own a))->h.get? b=some u->h'.get? b=some u)
 (ho:∀b,H b=some (.own a)->H' b=some (.own a)) (ht:∀b xs,H b=some (.tup xs)->H' b=some (.tup xs)):Rm P w H' h' a o:=by
 induction o with
 | lst xs=>obtain⟨z,its,n,r,e⟩:=x;exact⟨z,its,n,r,k _ _ (.inl rfl) e⟩
 | tup xs=>obtain⟨z,its,r,ob,e,c⟩:=x;exact⟨z,its,r,ob,k _ _ (.inl rfl) e,c⟩
 | dK kvs=>obtain⟨z,y,vs,r,ob,es,ep,e,c⟩:=x;exact⟨z,y,vs,r,ob,es,ep,k _ _ (.inl rfl) e,c⟩
 | dT kvs=>obtain⟨z,y,xs,r,ob,es,ep,e,c⟩:=x;exact⟨z,y,xs,Paired.zb2 r fun p q z=>⟨z.1,ht _ _ z.2.1,z.2.2⟩,ob,es,ep,k _ _ (.inl rfl) e,c⟩
 | set S n=>obtain⟨ob,es,ep,t,e,c⟩:=x;exact⟨ob,es,ep,t,k _ _ (.inl rfl) e,c⟩
 | ins C dx fs=>obtain⟨d,z,ne,e,mA,⟨od,es,ep,e2,c⟩,r⟩:=x;exact⟨ho _ d,z,ne,k _ _ (.inl rfl) e,mA,⟨od,es,ep,k _ _ (.inr d) e2,c⟩,r⟩
 | own y=>obtain⟨ob,e⟩:=x;exact⟨ob,k _ _ (.inl rfl) e⟩
 | xd fs=>obtain⟨mA,⟨od,es,ep,e,c⟩,r⟩:=x;exact⟨mA,⟨od,es,ep,k _ _ (.inl rfl) e,c⟩,r⟩
 | rng lo hi=>obtain⟨t,u,v,e⟩:=x;exact⟨t,u,v,k _ _ (.inl rfl) e⟩
 | frz ob u ih=>obtain⟨e,q⟩:=x;exact⟨k _ _ (.inl rfl) e,ih q⟩
 | tbl ps=>have e:h.get? a=some { cls:=.none,data:=.fields ps }:=x;show h'.get? a=some { cls:=.none,data:=.fields ps };exact k a _ (.inl rfl) e
 | met f y=>have e:h.get? a=some (PySem.W.methodObj (.ref f) (.ref y)):=x;show h'.get? a=some (PySem.W.methodObj (.ref f) (.ref y));exact k a _ (.inl rfl) e
 | ext φ=>obtain⟨p,⟨o,e⟩,st⟩:=x;exact⟨st _ _ p fun o q=>k _ _ (.inl rfl) q,⟨o,k _ _ (.inl rfl) e⟩,st⟩
theorem HOk.lt(x:HOk P w H h)(e:H a=some o):a<h.objs.size:=(x a o e).lt
theorem HOk.fresh(x:HOk P w H h)(e:h.objs.size<=a):H a=none:=by
 cases q:H a with
 | none=>rfl
 | some u=>exact absurd (zxC (x.lt q) e) (Nat.lt_irrefl _)
theorem HOk.kept(x:HOk P w H h)(k:∀b u,h.get? b=some u->h'.get? b=some u):HOk P w H h':=fun a o e=>(x a o e).stay (fun b u Z q=>k b u q) (fun Z q=>q) fun Z Z q=>q
theorem HOk.laid(x:HOk P w H h)(k:∀b u,h.get? b=some u->h'.get? b=some u)(hp:h.objs.size<=a)(new:Rm P w (PB H a o) h' a o):HOk P w (PB H a o) h':=fun b u e=>by
 have hn:=x.fresh hp;by_cases hb:b=a
 · subst hb;rw[jD]at e;cases e;exact new
 · rw[ZA hb]at e;exact(x b u e).stay (fun c v Z q=>k c v q) (fun c q=>by rw[ZA (wD q hn)];exact q) fun c xs q=>by rw[ZA (wD q hn)];exact q
end
noncomputable def Rd(H:Hp)(a:Addr)(u:HO):Prop:=H a=some u\/∃o,H a=some (.frz o u)
theorem Rd.ok{P:Program}{w:World}{H:Hp}{h:Heap}{a:Addr}{u:HO}(r:Rd H a u)(x:HOk P w H h):Rm P w H h a u:=by
 rcases r with r | ⟨o,r⟩
 · exact x a u r
 · obtain⟨Z,q⟩:=x a _ r;exact q
noncomputable def HV:Option HO->Prop
 | some (.lst _)=>True
 | some (.dK _)=>True
 | some (.dT _)=>True
 | some (.set _ _)=>True
 | some (.ins _ _ _)=>True
 | some (.ext _)=>True
 | _=>False
section
variable{P:Program}{w:World}{H:Hp}{h h':Heap}{x e:Addr}{o':HO}
theorem HOk.write(ok:HOk P w H h)(mu:HV (H x))(he:e=x\/H e=some (.own x))(k:∀b u,b≠e->h.get? b=some u->h'.get? b=some u)(heo:∃u,h'.get? e=some u)
 (new:Rm P w (PB H x o') h' x o'):HOk P w (PB H x o') h':=fun b u q=>by
 have zct:∀c y,H c=some (.own y)->c≠x:=fun c y r z=>by subst z;rw[r]at mu;exact mu
 have zd5:∀c xs,H c=some (.tup xs)->c≠x:=fun c xs r z=>by subst z;rw[r]at mu;exact mu
 by_cases hb:b=x
 · subst hb;rw[jD]at q;cases q;exact new
 · rw[ZA hb]at q;by_cases hbe:b=e
   · have q':H b=some (.own x):=by
      rcases he with z | z
      · exact absurd (hbe.trans z) hb
      · rw[hbe];exact z
     rw[q]at q';cases q';obtain⟨v,hv⟩:=heo;exact⟨v,by rw[hbe];exact hv⟩
   · refine(ok b u q).stay (fun c v hc r=>k c v ?_ r) (fun c r=>by rw[ZA (zct c b r)];exact r) fun c xs r=>by rw[ZA (zd5 c xs r)];exact r
     rcases hc with rfl | hc
     · exact hbe
     · rintro rfl;rcases he with z | z
       · exact zct c b hc z
       · rw[hc]at z;cases z;exact hb rfl
end
structure Un(fs ex:List Addr)(H H':Hp)(h h':Heap):Prop where
 keep:∀b o,h.get? b=some o->H b=none->b∉fs->b∉ex->h'.get? b=some o
 slot:∀b o,h.get? b=some o->H b=none->b∈fs->b∉ex->∃sl,h'.get? b=some { o with slots:=sl }
 free:∀b o,h.get? b=some o->H b=none->b∉ex->H' b=none
 there:∀b o,h.get? b=some o->b∉ex->∃o',h'.get? b=some o'
 tups:∀b xs,H b=some (.tup xs)->H' b=some (.tup xs)
 zam:∀b o u,H b=some (.frz o u)->H' b=some (.frz o u)
 zat:∀b ps,H b=some (.tbl ps)->∃more,H' b=some (.tbl (ps++more))
section
variable{fs fs' ex ex':List Addr}{H H1 H2:Hp}{h h1 h2 h':Heap}{a x e:Addr}{o:HO}
theorem Un.any(u:Un fs ex H H1 h h1){b:Addr}{ob:Obj}(q:h.get? b=some ob)(n:H b=none)(hx:b∉ex):∃sl,h1.get? b=some { ob with slots:=sl }:=by
 by_cases hb:b∈fs
 · exact u.slot b ob q n hb hx
 · exact⟨ob.slots,u.keep b ob q n hb hx⟩
theorem Un.trans(a:Un fs ex H H1 h h1)(b:Un fs ex H1 H2 h1 h2):Un fs ex H H2 h h2 where
 keep:=fun c ob q n hc hx=>b.keep c ob (a.keep c ob q n hc hx) (a.free c ob q n hx) hc hx
 slot:=fun c ob q n hc hx=>by obtain⟨sl,e1⟩:=a.slot c ob q n hc hx;obtain⟨sl',e2⟩:=b.slot c _ e1 (a.free c ob q n hx) hc hx;exact⟨sl',e2⟩
 free:=fun c ob q n hx=>by obtain⟨o',e1⟩:=a.there c ob q hx;exact b.free c o' e1 (a.free c ob q n hx) hx
 there:=fun c ob q hx=>by obtain⟨o',e1⟩:=a.there c ob q hx;exact b.there c o' e1 hx
 tups:=fun c xs q=>b.tups c xs (a.tups c xs q)
 zam:=fun c ob xs q=>b.zam c ob xs (a.zam c ob xs q)
 zat:=fun c ps q=>by obtain⟨m1,e1⟩:=a.zat c ps q;obtain⟨m2,e2⟩:=b.zat c _ e1;exact⟨m1++m2,by rw[e2,Array.append_assoc]⟩
theorem Un.kept(k:∀b u,h.get? b=some u->h'.get? b=some u):Un fs ex H H h h':=
 ⟨fun b ob q Z Z Z=>k b ob q,fun b ob q Z Z Z=>⟨ob.slots,k b ob q⟩,fun Z Z Z n Z=>n,fun b ob q Z=>⟨ob,k b ob q⟩,fun Z Z q=>q,fun Z Z Z q=>q,fun Z ps q=>⟨#[],by rw[q];simp⟩⟩
theorem Un.refl:Un fs ex H H h h:=Un.kept fun Z Z q=>q
theorem Un.laid(k:∀b u,h.get? b=some u->h'.get? b=some u)(hp:h.objs.size<=a)(hn:H a=none):Un fs ex H (PB H a o) h h' where
 keep:=fun b u q Z Z Z=>k b u q
 slot:=fun b u q Z Z Z=>⟨u.slots,k b u q⟩
 free:=fun b u q n Z=>by rw[ZA (zxD (zxC (Heap.lt_size q) hp))];exact n
 there:=fun b u q Z=>⟨u,k b u q⟩
 tups:=fun b xs q=>by rw[ZA (wD q hn)];exact q
 zam:=fun b u xs q=>by rw[ZA (wD q hn)];exact q
 zat:=fun b ps q=>⟨#[],by rw[ZA (wD q hn),q];simp⟩
theorem Un.write(mu:HV (H x))(he:e=x\/H e=some (.own x))(k:∀b u,b≠e->h.get? b=some u->h'.get? b=some u)(heo:∃u,h'.get? e=some u):Un fs ex H (PB H x o) h h':=by
 have hx:∀b,H b=none->b≠x:=fun b n z=>by subst z;rw[n]at mu;exact mu
 have hb:∀b,H b=none->b≠e:=fun b n z=>by
  subst z;rcases he with r | r
  · exact hx b n r
  · rw[n]at r;cases r
 have hm:∀b u,H b=some u->¬HV (some u)->b≠x:=fun b u q nm z=>by subst z;rw[q]at mu;exact nm mu
 refine⟨fun b u q n Z Z=>k b u (hb b n) q,fun b u q n Z Z=>⟨u.slots,k b u (hb b n) q⟩,fun b u q n Z=>by rw[ZA (hx b n)];exact n,fun b u q Z=>?_,
  fun b xs q=>by rw[ZA (hm b _ q fun z=>z)];exact q,fun b u xs q=>by rw[ZA (hm b _ q fun z=>z)];exact q,fun b ps q=>⟨#[],by rw[ZA (hm b _ q fun z=>z),q];simp⟩⟩
 by_cases hbe:b=e
 · subst hbe;exact heo
 · exact⟨u,k b u hbe q⟩
theorem Un.mono(u:Un fs ex H H1 h h1)(hs:∀b∈fs,b∈fs')(hx:∀b∈ex,b∈ex'):Un fs' ex' H H1 h h1:=
 ⟨fun b ob q n hb he=>u.keep b ob q n (fun z=>hb (hs b z)) fun z=>he (hx b z),fun Z Z q n Z he=>u.any q n fun z=>he (hx _ z),fun b ob q n he=>u.free b ob q n fun z=>he (hx b z),fun b ob q he=>u.there b ob q fun z=>he (hx b z),u.tups,u.zam,u.zat⟩
end
noncomputable def C3(h:Heap)(H:Hp):List Addr:=(range h.objs.size).filter fun a=>(H a).isSome
def UG(h:Heap)(H:Hp):Heap:=PySem.W.hideAll h (C3 h H)
theorem Gz(h:Heap)(H:Hp):(UG h H).objs.size=h.objs.size:=PySem.W.hideAll_size _ _
theorem Dk{h:Heap}{H:Hp}{b:Addr}{o:Obj}(e:h.get? b=some o)(n:H b=none):(UG h H).get? b=some o:=
 PySem.W.hideAll_get _ e fun hm=>by have q:(H b).isSome=true:=(mem_filter.mp hm).2;rw[n]at q;simp at q
theorem Qg{h:Heap}{H:Hp}{b:Addr}{o:Obj}(e:(UG h H).get? b=some o):h.get? b=some o/\H b=none:=by
 have e':h.get? b=some o:=PySem.W.of_hideAll (C3 h H) e;refine⟨e',?_⟩;cases q:H b with
 | none=>rfl
 | some x=>have hm:b∈C3 h H:=mem_filter.mpr ⟨mem_range.mpr (Heap.lt_size e'),by simp[q]⟩;have z:(UG h H).get? b=none:=PySem.W.hideAll_none (C3 h H) hm;rw[z]at e;cases e
noncomputable def Ny(g h:Heap)(L:Addr):List (Addr×Obj):=(range h.objs.size).filterMap fun a=>if a=L\/(g.get? a).isSome=true then none else(h.get? a).map fun o=>(a,o)
def rest(g h:Heap)(L d:Addr):List (Addr×Obj):=(Ny g h L).filter fun p=>decide (p.1≠d)
structure Mod(K:Frag)(mg:Str->Option Value)(base:Heap):Prop where
 kin:K.In base
 glob:base.Ns mainGlobals mg
 blt:∃mb,base.Ns builtinsNs mb/\∀x:Str,x ≠ "__name__" ->mb x=bootBuiltins x
 nolimit:base.NoLimit
structure Cx where
 prog:Program
 w:World
 K:Frag
 mg:Str->Option Value
 base:Heap
 A:Around
 N:List Str
 s₀:Shared
 H₀:Hp
 env:Env
 outer:List Env
 stack:List Env
 ex:List Addr
 fn:Str->Bool
 calm:Bool
 pn:List (Addr×Obj)
 xe:Value->Shared->Prop
noncomputable def sK(l:List Env):List Addr:=l.filterMap (·.frame)
abbrev Cx.fs(X:Cx):List Addr:=sK X.outer
noncomputable def P2(sc:Scope)(x:Str):Prop:=sc.names.lookup x=some .local\/sc.names.lookup x=some .cell\/sc.names.lookup x=some .free
noncomputable def zP(sc:Scope)(x:Str):Prop:=sc.names.lookup x=some .local\/sc.names.lookup x=some .cell
noncomputable def J3(env:Env)(h:Heap)(m:Str->Option Value)(x:Str)(u:Value):Prop:=
 (env.kindOf x=some .local/\m x=some u)\/((env.kindOf x=some .cell\/env.kindOf x=some .free)/\∃c,env.cells.lookup x=some c/\h.IsCell c (some u))
structure Cx.Ok(X:Cx):Prop where
 mod:Mod X.K X.mg X.base
 kind:X.env.scope.kind=.function
 glob:X.env.globals=mainGlobals
 blt:X.env.builtins=builtinsNs
 above:X.s₀.heap.objs.size<=X.env.locals
 inj:∀x y c,X.env.cells.lookup x=some c->X.env.cells.lookup y=some c->x=y
 has:∀x,(X.env.kindOf x=some .cell\/X.env.kindOf x=some .free)->∃c,X.env.cells.lookup x=some c
 cab:∀x c,X.fn x=true->X.env.cells.lookup x=some c->X.s₀.heap.objs.size<=c
 hd:X.calm=true->X.A.handled=none
 frames:X.A.frames=some X.stack
 stk:X.stack=X.outer\/(X.stack=X.env::X.outer/\X.env.frame=some X.env.locals)
 exf:∀b∈X.ex,b≠X.env.locals/\∀x c,X.env.cells.lookup x=some c->c≠b
 bs:∀b o,X.base.get? b=some o->X.s₀.heap.get? b=some o/\X.H₀ b=none
 bsz:X.base.objs.size<=X.s₀.heap.objs.size
 zbp:∀b o,X.base.get? b=some o->b∉X.ex
 zbk:∀b∈X.ex,b∉X.fs
 zar:X.s₀.heap.FunFrames X.base X.outer
 frf:∀b∈X.fs,X.H₀ b=none
structure Inv(X:Cx)(pins:List (Addr×Obj))(σ:List (Option V))(H:Hp)(s:Shared):Prop where
 ok:X.Ok
 os:s.os=X.s₀.os
 bare:AllBare s.gens
 base:Un X.fs X.ex X.H₀ H X.s₀.heap s.heap
 loc:∃m,s.heap.Ns X.env.locals m/\∀(i:Nat)(x:Str)(v:V),X.N[i]?=some x->σ[i]?=some (some v)->P2 X.env.scope x->∃u,RelV v u/\J3 X.env s.heap m x u
 cell:∀x c,X.env.cells.lookup x=some c->∃v,s.heap.IsCell c v
 free:H X.env.locals=none
 zab:∀x c,X.env.cells.lookup x=some c->H c=none
 pin:∀p∈X.pn++pins,s.heap.get? p.1=some p.2/\H p.1=none/\p.1≠X.env.locals/\p.1∉X.fs/\∀v,p.2.data≠.cell v
 hok:HOk X.prog X.w H s.heap
 len:σ.length=X.N.length
section
variable{X:Cx}{pins:List (Addr×Obj)}{σ:List (Option V)}{H H':Hp}{s:Shared}{h':Heap}
theorem Cx.Ok.zd2(ok:X.Ok){b:Addr}{o:Obj}(e:X.base.get? b=some o):b∉X.fs:=fun hb=>by have:=(ok.zar.mem hb).1;rw[e]at this;cases this
theorem Inv.bs(I:Inv X pins σ H s):∀b o,X.base.get? b=some o->s.heap.get? b=some o/\H b=none:=fun b o e=>⟨I.base.keep b o (I.ok.bs b o e).1 (I.ok.bs b o e).2 (I.ok.zd2 e) (I.ok.zbp b o e),I.base.free b o (I.ok.bs b o e).1 (I.ok.bs b o e).2 (I.ok.zbp b o e)⟩
theorem Inv.bk(I:Inv X pins σ H s):∀b o,X.base.get? b=some o->s.heap.get? b=some o:=fun b o e=>(I.bs b o e).1
theorem Inv.mod(I:Inv X pins σ H s):Mod X.K X.mg X.base:=I.ok.mod
theorem Inv.kIn(I:Inv X pins σ H s):X.K.In s.heap:=I.ok.mod.kin.keeps I.bk
theorem Inv.nolimit(I:Inv X pins σ H s):s.heap.NoLimit:=I.ok.mod.nolimit.keeps I.bk
theorem Inv.lt(I:Inv X pins σ H s):X.env.locals<s.heap.objs.size:=let ⟨_,hn,_⟩:=I.loc;hn.lt
theorem Inv.sz(I:Inv X pins σ H s):X.s₀.heap.objs.size<=s.heap.objs.size:=zxA I.ok.above (Nat.le_of_lt I.lt)
theorem Inv.zd3(I:Inv X pins σ H s){a:Addr}(h:s.heap.objs.size<=a):a∉X.fs:=fun hb=>by obtain⟨Z,o,ho,Z⟩:=I.ok.zar.mem hb;exact absurd (zxC (Heap.lt_size ho) (zxA I.sz h)) (Nat.lt_irrefl _)
theorem Inv.cne(I:Inv X pins σ H s):∀x c,X.env.cells.lookup x=some c->c≠X.env.locals:=fun x c e z=>by obtain⟨v,o,ho,hd⟩:=I.cell x c e;obtain⟨m,⟨o',es,ep,ho',hd',Z⟩,Z⟩:=I.loc;rw[z,ho']at ho;cases ho;rw[hd']at hd;cases hd
theorem Inv.zar(I:Inv X pins σ H s):s.heap.FunFrames X.base X.outer:=by
 have all:∀(l:List Env),(∀b∈sK l,b∈X.fs)->X.s₀.heap.FunFrames X.base l->s.heap.FunFrames X.base l:=by
  intro l
  induction l with
  | nil=>intro Z Z;trivial
  | cons env r ih=>
   intro hs hl;obtain⟨hk,⟨L,o,hf,hn,ho,hd⟩,hr⟩:=hl;have hL:L∈X.fs:=hs L (by unfold sK;rw[filterMap_cons,hf];exact mem_cons_self);obtain⟨sl,e⟩:=I.base.slot L o ho (I.ok.frf L hL) hL fun z=>I.ok.zbk L z hL
   exact⟨hk,⟨L,_,hf,hn,e,hd⟩,ih (fun b hb=>hs b (by unfold sK;rw[filterMap_cons,hf];exact mem_cons_of_mem _ hb)) hr⟩
 exact all X.outer (fun Z hb=>hb) I.ok.zar
theorem Inv.stack(I:Inv X pins σ H s):s.heap.FunFrames X.base X.stack:=by
 rcases I.ok.stk with e | ⟨e,hf⟩
 · rw[e];exact I.zar
 · rw[e];obtain⟨m,hn,Z⟩:=I.loc;refine .cons (by rw[I.ok.kind];decide) hf hn ?_ I.zar;exact Heap.get?_none_of_le (zxA I.ok.bsz I.ok.above)
theorem Inv.zaU(I:Inv X pins σ H s):∀b∈sK X.stack,b∈X.env.locals::X.fs:=fun b hb=>by
 rcases I.ok.stk with e | ⟨e,hf⟩
 · rw[e]at hb;exact mem_cons_of_mem _ hb
 · rw[e]at hb;unfold sK at hb;rw[filterMap_cons,hf]at hb;exact hb
theorem Inv.za0(I:Inv X pins σ H s):∀b∈sK X.stack,H b=none:=fun b hb=>by
 rcases mem_cons.mp (I.zaU b hb)with e | hb
 · rw[e];exact I.free
 · obtain⟨Z,o,ho,Z⟩:=I.ok.zar.mem hb;exact I.base.free b o ho (I.ok.frf b hb) fun z=>I.ok.zbk b z hb
theorem Inv.step{g':Array GenState}{t':Nat}{d':Drawn}{ch:List Addr}(I:Inv X pins σ H s)
 (hch:∀b∈ch,(b∈X.ex\/X.s₀.heap.objs.size<=b)/\b≠X.env.locals/\(∀x c,X.env.cells.lookup x=some c->c≠b)/\∀p∈X.pn++pins,p.1≠b)
 (keep:∀b o,b≠X.env.locals->b∉X.fs->b∉ch->s.heap.get? b=some o->H b=none->h'.get? b=some o)
 (slot:∀b o,b≠X.env.locals->b∈X.fs->b∉ch->s.heap.get? b=some o->H b=none->∃sl,h'.get? b=some { o with slots:=sl }) (free:∀b o,b∉ch->s.heap.get? b=some o->H b=none->H' b=none)
 (there:∀b o,b∉ch->s.heap.get? b=some o->∃o',h'.get? b=some o')
 (tups:∀b xs,H b=some (.tup xs)->H' b=some (.tup xs)) (zam:∀b o u,H b=some (.frz o u)->H' b=some (.frz o u)) (zat:∀b ps,H b=some (.tbl ps)->∃more,H' b=some (.tbl (ps++more)))
 (ns:∀m,s.heap.Ns X.env.locals m->h'.Ns X.env.locals m) (hok:HOk X.prog X.w H' h') (hg:AllBare g') :
 Inv X pins σ H' { s with heap:=h',gens:=g',drawn:=d',toks:=t' }:=by
 have neL:∀b o,X.s₀.heap.get? b=some o->b≠X.env.locals:=fun b o e=>zxD (zxC (Heap.lt_size e) I.ok.above)
 have neC:∀b o,X.s₀.heap.get? b=some o->b∉X.ex->b∉ch:=fun b o e hx hb=>by
  rcases(hch b hb).1 with z | z
  · exact hx z
  · exact absurd (zxC (Heap.lt_size e) z) (Nat.lt_irrefl _)
 have cellK:∀x c,X.env.cells.lookup x=some c->∀v,s.heap.IsCell c v->h'.IsCell c v:=fun x c e v zz=>by
  obtain⟨o,ho,hd⟩:=zz;have nch:c∉ch:=fun z=>(hch c z).2.2.1 x c e rfl
  by_cases hc:c∈X.fs
  · obtain⟨sl,q⟩:=slot c o (I.cne x c e) hc nch ho (I.zab x c e);exact⟨_,q,hd⟩
  · exact⟨o,keep c o (I.cne x c e) hc nch ho (I.zab x c e),hd⟩
 refine⟨I.ok,I.os,hg,⟨fun b o e n hb hx=>?_,fun b o e n hb hx=>?_,fun b o e n hx=>?_,fun b o e hx=>?_,fun b xs e=>tups b xs (I.base.tups b xs e),fun b o xs e=>zam b o xs (I.base.zam b o xs e),fun b ps e=>?_⟩,?_,fun x c e=>?_,?_,fun x c e=>?_,fun p hp=>?_,hok,I.len⟩
 · exact keep b o (neL b o e) hb (neC b o e hx) (I.base.keep b o e n hb hx) (I.base.free b o e n hx)
 · obtain⟨sl,e1⟩:=I.base.slot b o e n hb hx;obtain⟨sl',e2⟩:=slot b _ (neL b o e) hb (neC b o e hx) e1 (I.base.free b o e n hx);exact⟨sl',e2⟩
 · obtain⟨o',e1⟩:=I.base.there b o e hx;exact free b o' (neC b o e hx) e1 (I.base.free b o e n hx)
 · obtain⟨o',e1⟩:=I.base.there b o e hx;exact there b o' (neC b o e hx) e1
 · obtain⟨m1,e1⟩:=I.base.zat b ps e;obtain⟨m2,e2⟩:=zat b _ e1;exact⟨m1++m2,by rw[e2,Array.append_assoc]⟩
 · obtain⟨m,hn,hl⟩:=I.loc;refine⟨m,ns m hn,fun i x v e1 e2 e3=>?_⟩;obtain⟨u,r,l⟩:=hl i x v e1 e2 e3;refine⟨u,r,?_⟩;rcases l with l | ⟨k,c,e,z⟩
   · exact .inl l
   · exact .inr ⟨k,c,e,cellK x c e _ z⟩
 · obtain⟨v,z⟩:=I.cell x c e;exact⟨v,cellK x c e v z⟩
 · obtain⟨m,⟨o,Z,Z,ho,Z⟩,Z⟩:=I.loc;exact free _ o (fun z=>(hch _ z).2.1 rfl) ho I.free
 · obtain⟨v,o,ho,hd⟩:=I.cell x c e;exact free c o (fun z=>(hch c z).2.2.1 x c e rfl) ho (I.zab x c e)
 · obtain⟨e,n,ne,nf,d⟩:=I.pin p hp;have nch:p.1∉ch:=fun z=>(hch p.1 z).2.2.2 p hp rfl
   exact⟨keep p.1 p.2 ne nf nch e n,free p.1 p.2 nch e n,ne,nf,d⟩
theorem Inv.un{t':Nat}(I:Inv X pins σ H s)(u:Un X.fs [] H H' s.heap h')(hok:HOk X.prog X.w H' h'):Inv X pins σ H' { s with heap:=h',toks:=t' }:=by
 obtain⟨m,⟨o,es,ep,ho,r⟩,Z⟩:=id I.loc;obtain⟨sl,hL⟩:=u.any ho I.free (by simp);exact I.step (g':=s.gens) (d':=s.drawn) (ch:=[]) (fun Z z=>nomatch z) (fun b o Z hb Z e n=>u.keep b o e n hb (by simp)) (fun b o Z hb Z e n=>u.slot b o e n hb (by simp)) (fun b o Z e n=>u.free b o e n (by simp)) (fun b o Z e=>u.there b o e (by simp)) u.tups u.zam u.zat (fun m' hm=>by
  obtain⟨o',es',ep',ho',r'⟩:=hm;rw[ho]at ho';cases ho';exact⟨_,es',ep',hL,r'⟩) hok I.bare
theorem Inv.call{g':Array GenState}{t':Nat}{d':Drawn}{ch:List Addr}(I:Inv X pins σ H s)(u:Un (sK X.stack) ch H H' s.heap h')(hok:HOk X.prog X.w H' h')(hg:AllBare g')
 (hch:∀b∈ch,(b∈X.ex\/X.s₀.heap.objs.size<=b)/\b≠X.env.locals/\(∀x c,X.env.cells.lookup x=some c->c≠b)/\∀p∈X.pn++pins,p.1≠b) :
 Inv X pins σ H' { s with heap:=h',gens:=g',drawn:=d',toks:=t' }:=by
 obtain⟨m,⟨o,es,ep,ho,r⟩,Z⟩:=id I.loc;obtain⟨sl,hL⟩:=u.any ho I.free fun z=>(hch _ z).2.1 rfl
 exact I.step (ch:=ch) hch (fun b o hL hb hc e n=>u.keep b o e n (fun z=>(mem_cons.mp (I.zaU b z)).elim hL hb) hc) (fun b o Z Z hc e n=>u.any e n hc) (fun b o hc e n=>u.free b o e n hc) (fun b o hc e=>u.there b o e hc) u.tups u.zam u.zat (fun m' hm=>by
  obtain⟨o',es',ep',ho',r'⟩:=hm;rw[ho]at ho';cases ho';exact⟨_,es',ep',hL,r'⟩) hok hg
theorem Inv.turned{t':Nat}{it:Addr}(I:Inv X pins σ H s)(k:∀b o,b≠it->s.heap.get? b=some o->h'.get? b=some o)(hn:H it=none)(hL:it≠X.env.locals)
 (h1:it∈X.ex\/X.s₀.heap.objs.size<=it) (h2:∀x c,X.env.cells.lookup x=some c->c≠it) (h3:∀p∈X.pn++pins,p.1≠it):Inv X pins σ H { s with heap:=h',toks:=t' }:=by
 have nit:∀b u,H b=some u->b≠it:=fun b u e z=>by rw[z,hn]at e;cases e
 refine I.step (g':=s.gens) (d':=s.drawn) (ch:=[it]) (fun b hb=>?_) (fun b o Z Z hc e Z=>k b o (fun z=>hc (by simp[z])) e) (fun b o Z Z hc e Z=>⟨o.slots,k b o (fun z=>hc (by simp[z])) e⟩) (fun Z Z Z Z n=>n)
  (fun b o hc e=>⟨o,k b o (fun z=>hc (by simp[z])) e⟩) (fun Z Z e=>e) (fun Z Z Z e=>e) (fun b ps e=>⟨#[],by rw[e];simp⟩) (fun m hm=>?_) (fun b u e=>?_) I.bare
 · have e:b=it:=by simpa using hb
   subst e;exact⟨h1,hL,h2,h3⟩
 · obtain⟨o,es,ep,ho,r⟩:=hm;exact⟨o,es,ep,k _ o (Ne.symm hL) ho,r⟩
 · refine(I.hok b u e).stay (fun c v hc q=>k c v ?_ q) (fun Z q=>q) fun Z Z q=>q
   rcases hc with z | z
   · rw[z];exact nit b u e
   · exact nit c _ z
theorem Inv.tok(I:Inv X pins σ H s)(t:Nat):Inv X pins σ H { s with toks:=t }:=I.un (h':=s.heap) (t':=t) Un.refl I.hok
theorem Inv.kept{t':Nat}(I:Inv X pins σ H s)(k:∀b u,s.heap.get? b=some u->h'.get? b=some u):Inv X pins σ H { s with heap:=h',toks:=t' }:=I.un (Un.kept k) (I.hok.kept k)
theorem Inv.laid{a:Addr}{o:HO}{t':Nat}(I:Inv X pins σ H s)(k:∀b u,s.heap.get? b=some u->h'.get? b=some u)(hp:s.heap.objs.size<=a)(new:Rm X.prog X.w (PB H a o) h' a o) :
 Inv X pins σ (PB H a o) { s with heap:=h',toks:=t' }:=I.un (Un.laid k hp (I.hok.fresh hp)) (I.hok.laid k hp new)
theorem Inv.write{x e:Addr}{o:HO}{t':Nat}(I:Inv X pins σ H s)(mu:HV (H x))(he:e=x\/H e=some (.own x))(k:∀b u,b≠e->s.heap.get? b=some u->h'.get? b=some u)(heo:∃u,h'.get? e=some u)
 (new:Rm X.prog X.w (PB H x o) h' x o):Inv X pins σ (PB H x o) { s with heap:=h',toks:=t' }:=I.un (Un.write mu he k heo) (I.hok.write mu he k heo new)
theorem Inv.zaZ{zbM:List (Addr×Obj)}(I:Inv X pins σ H s)(h:∀p∈zbM,s.heap.get? p.1=some p.2/\H p.1=none/\p.1≠X.env.locals/\p.1∉X.fs/\∀v,p.2.data≠.cell v):Inv X zbM σ H s:=
 ⟨I.ok,I.os,I.bare,I.base,I.loc,I.cell,I.free,I.zab,fun p hp=>(mem_append.mp hp).elim (fun z=>I.pin p (mem_append_left _ z)) (h p),I.hok,I.len⟩
theorem pY{N:List Str}(hN:N.Nodup){i j:Nat}{x:Str}(a:N[i]?=some x)(b:N[j]?=some x):i=j:=by obtain⟨h1,e1⟩:=zfR a;obtain⟨h2,e2⟩:=zfR b;exact(getElem_inj hN).mp (e1.trans e2.symm)
theorem TX{M:Model}{A:Around}{E:Value->Shared->Prop}{i:Nat}{x:Str}{v:V}{u:Value}{Q:Unit->Shared->Prop}(I:Inv X pins σ H s)(hN:X.N.Nodup)(hi:X.N[i]?=some x)(hx:zP X.env.scope x)(r:RelV v u)
 (h:∀s',Inv X pins (σ.set i (some v)) H s'->(∃a,Heap.SameBut a s.heap s'.heap/\(a=X.env.locals\/X.env.cells.lookup x=some a))->Q () s') (hf:autoParam (X.fn x=true\/X.env.scope.names.lookup x=some .local) zqD._auto_1):wpAny M A (storeName X.env x u) Q E s:=by
 obtain⟨m,hn,hl⟩:=id I.loc;have hcls:(X.env.scope.kind==.class || (X.env.scope.kind==.module&&X.env.locals !=X.env.globals))=false:=by rw[I.ok.kind];rfl
 have hiσ:i<σ.length:=by rw[I.len];exact(zfR hi).1
 have cne:=I.cne;have tracked:∀{a:Addr}{h':Heap},(∃o,s.heap.get? a=some o/\H a=none)->Heap.SameBut a s.heap h'->HOk X.prog X.w H h':=fun {a h'} ha hs b ob e=>by
  obtain⟨Z,Z,hfree⟩:=ha;refine(I.hok b ob e).stay (fun c w' hc q=>(hs.2 c ?_).trans q) (fun Z q=>q) fun Z Z q=>q
  rintro rfl;rcases hc with rfl | hc
  · rw[hfree]at e;cases e
  · rw[hfree]at hc;cases hc
 rcases hx with hk | hk
 · refine wpAny_storeName_local hk hn (fun h' hn' hs=>?_) hcls;obtain⟨oL,Z,Z,hoL,Z⟩:=id hn;refine h _ ⟨I.ok,I.os,I.bare,⟨fun b o e n hb hx=>?_,fun b o e n hb hx=>?_,I.base.free,fun b o e hx=>?_,I.base.tups,I.base.zam,I.base.zat⟩,⟨_,hn',fun j y v' e1 e2 e3=>?_⟩,fun y c e=>?_,I.free,I.zab,fun p hp=>?_,tracked ⟨oL,hoL,I.free⟩ hs,by simpa using I.len⟩ ⟨_,hs,.inl rfl⟩
   · exact(hs.2 b (zxD (zxC (Heap.lt_size e) I.ok.above))).trans (I.base.keep b o e n hb hx)
   · obtain⟨sl,e1⟩:=I.base.slot b o e n hb hx;exact⟨sl,(hs.2 b (zxD (zxC (Heap.lt_size e) I.ok.above))).trans e1⟩
   · obtain⟨o',e1⟩:=I.base.there b o e hx;exact⟨o',(hs.2 b (zxD (zxC (Heap.lt_size e) I.ok.above))).trans e1⟩
   · by_cases hj:j=i
     · subst hj;rw[hi]at e1;cases e1;rw[getElem?_set_self hiσ]at e2;cases e2;exact⟨u,r,.inl ⟨hk,by simp⟩⟩
     · rw[getElem?_set_ne (Ne.symm hj)]at e2;obtain⟨u',r',q⟩:=hl j y v' e1 e2 e3;refine⟨u',r',?_⟩;rcases q with⟨k,e⟩ | ⟨k,c,e,z⟩
       · refine .inl ⟨k,?_⟩;have:y≠x:=fun e=>hj (pY hN e1 (e ▸ hi))
         simp[this,e]
       · exact .inr ⟨k,c,e,z.sameBut hs (cne y c e)⟩
   · obtain⟨w',z⟩:=I.cell y c e;exact⟨w',z.sameBut hs (cne y c e)⟩
   · obtain⟨e,n,ne,nf,d⟩:=I.pin p hp;exact⟨(hs.2 p.1 ne).trans e,n,ne,nf,d⟩
 · have hfn:X.fn x=true:=by
    rcases hf with z | z
    · exact z
    · rw[z]at hk;cases hk
   obtain⟨c,hc⟩:=I.ok.has x (.inl hk);obtain⟨w',z⟩:=I.cell x c hc;refine wpAny_storeName_cell I.ok.kind hk hc z (fun h' hc' hs=>?_);obtain⟨oc,hoc,zdY⟩:=id z;refine h { s with heap:=h' } ⟨I.ok,I.os,I.bare,⟨fun b o e n hb hx=>?_,fun b o e n hb hx=>?_,I.base.free,fun b o e hx=>?_,I.base.tups,I.base.zam,I.base.zat⟩,⟨m,hn.sameBut hs (Ne.symm (cne x c hc)),fun j y v' e1 e2 e3=>?_⟩,fun y c' e=>?_,I.free,I.zab,fun p hp=>?_,tracked ⟨oc,hoc,I.zab x c hc⟩ hs,by simpa using I.len⟩ ⟨c,hs,.inr hc⟩
   · exact(hs.2 b (zxD (zxC (Heap.lt_size e) (I.ok.cab x c hfn hc)))).trans (I.base.keep b o e n hb hx)
   · obtain⟨sl,e1⟩:=I.base.slot b o e n hb hx;exact⟨sl,(hs.2 b (zxD (zxC (Heap.lt_size e) (I.ok.cab x c hfn hc)))).trans e1⟩
   · obtain⟨o',e1⟩:=I.base.there b o e hx;exact⟨o',(hs.2 b (zxD (zxC (Heap.lt_size e) (I.ok.cab x c hfn hc)))).trans e1⟩
   · by_cases hj:j=i
     · subst hj;rw[hi]at e1;cases e1;rw[getElem?_set_self hiσ]at e2;cases e2;exact⟨u,r,.inr ⟨.inl hk,c,hc,hc'⟩⟩
     · rw[getElem?_set_ne (Ne.symm hj)]at e2;obtain⟨u',r',q⟩:=hl j y v' e1 e2 e3;refine⟨u',r',?_⟩;rcases q with q | ⟨k,c',e,z'⟩
       · exact .inl q
       · refine .inr ⟨k,c',e,z'.sameBut hs ?_⟩;rintro rfl;exact hj (pY hN e1 (I.ok.inj _ _ _ e hc ▸ hi))
   · by_cases hcc:c'=c
     · subst hcc;exact⟨_,hc'⟩
     · obtain⟨w2,z2⟩:=I.cell y c' e;exact⟨w2,z2.sameBut hs hcc⟩
   · obtain⟨e,n,ne,nf,d⟩:=I.pin p hp;refine⟨(hs.2 p.1 ?_).trans e,n,ne,nf,d⟩;intro q;rw[q,hoc]at e;have q':oc=p.2:=Option.some.inj e;exact d w' (by rw[<- q'];exact zdY)
theorem TY{M:Model}{A:Around}{E:Value->Shared->Prop}{i:Nat}{x:Str}{v:V}{u:Value}{Q:Unit->Shared->Prop}(I:Inv X pins σ H s)(hN:X.N.Nodup)(hi:X.N[i]?=some x)(hx:zP X.env.scope x)(r:RelV v u)
 (h:∀s',Inv X pins (σ.set i (some v)) H s'->Q () s') (hf:autoParam (X.fn x=true\/X.env.scope.names.lookup x=some .local) zqD._auto_1):wpAny M A (storeName X.env x u) Q E s:=
 TX I hN hi hx r (fun s' I' Z=>h s' I') hf
theorem Inv.call'{s':Shared}{ch:List Addr}(I:Inv X pins σ H s)(ho:s'.os=s.os)(u:Un (sK X.stack) ch H H' s.heap s'.heap)(hok:HOk X.prog X.w H' s'.heap)(hg:AllBare s'.gens)
 (hch:∀b∈ch,(b∈X.ex\/X.s₀.heap.objs.size<=b)/\b≠X.env.locals/\(∀x c,X.env.cells.lookup x=some c->c≠b)/\∀p∈X.pn++pins,p.1≠b):Inv X pins σ H' s':=by
 obtain⟨h',g',d',t',o'⟩:=s';have e:o'=s.os:=ho;subst e;exact I.call (g':=g') (t':=t') (d':=d') u hok hg hch
end
abbrev XK:=Value->Option Addr->Hp->Prop
noncomputable abbrev St:=List (Option V)
abbrev VK:=V->Hp->Prop
abbrev TE:=St->Hp->VK->Prop
abbrev TT:=St->Hp->(Bool->Hp->Prop)->Prop
abbrev TA:=St->Hp->(List V->Hp->Prop)->Prop
structure eI where
 nx:St->Hp->Prop
 rt:VK
 bk:St->Hp->Prop:=fun Z Z=>False
 ct:St->Hp->Prop:=fun Z Z=>False
abbrev TS:=eI->St->Hp->Prop
def EP(X:Cx)(pins:List (Addr×Obj))(σ:St)(Q:VK)(u:Value)(s':Shared):Prop:=∃v H',Inv X pins σ H' s'/\RelV v u/\Q v H'
noncomputable def TP(X:Cx)(pins:List (Addr×Obj))(σ:St)(Q:Bool->Hp->Prop)(b:Bool)(s':Shared):Prop:=∃H',Inv X pins σ H' s'/\Q b H'
def AP(X:Cx)(pins:List (Addr×Obj))(σ:St)(Q:List V->Hp->Prop)(us:List Value)(s':Shared):Prop:=∃vs H',Inv X pins σ H' s'/\Vals vs us/\Q vs H'
def SP(X:Cx)(pins:List (Addr×Obj))(D:eI)(f:Flow)(s':Shared):Prop:=
 match f with
 | .next=>∃σ' H',Inv X pins σ' H' s'/\D.nx σ' H'
 | .brk=>∃σ' H',Inv X pins σ' H' s'/\D.bk σ' H'
 | .cont=>∃σ' H',Inv X pins σ' H' s'/\D.ct σ' H'
 | .ret u=>∃v σ' H',Inv X pins σ' H' s'/\RelV v u/\D.rt v H'
def PE(X:Cx)(e:Expr)(t:TE):Prop:=
 ∀(pins:List (Addr×Obj))(s:Shared)(σ:St)(H:Hp)(Q:VK),Inv X pins σ H s->t σ H Q->wpAny (model X.prog X.w) X.A (eval e X.env) (EP X pins σ Q) X.xe s
def PT(X:Cx)(e:Expr)(t:TT):Prop:=
 ∀(pins:List (Addr×Obj))(s:Shared)(σ:St)(H:Hp)(Q:Bool->Hp->Prop),Inv X pins σ H s->t σ H Q->wpAny (model X.prog X.w) X.A (isTrue e X.env (eval e X.env)) (TP X pins σ Q) X.xe s
def PW(X:Cx)(e:Expr)(t:TT):Prop:=
 ∀(whole:Sem Value)(pins:List (Addr×Obj))(s:Shared)(σ:St)(H:Hp)(Q:Bool->Hp->Prop),Inv X pins σ H s->t σ H Q->wpAny (model X.prog X.w) X.A (isTrue e X.env whole) (TP X pins σ Q) X.xe s
theorem PW.pt{X:Cx}{e:Expr}{t:TT}(h:PW X e t):PT X e t:=h _
def PA(X:Cx)(es:List Expr)(t:TA):Prop:=
 ∀(pos:Pos)(pins:List (Addr×Obj))(s:Shared)(σ:St)(H:Hp)(Q:List V->Hp->Prop),Inv X pins σ H s->t σ H Q->wpAny (model X.prog X.w) X.A (spliced (backTo pos (starEach es X.env))) (AP X pins σ Q) X.xe s
def PS(X:Cx)(st:Stmt)(t:TS):Prop:=
 ∀(pins:List (Addr×Obj))(s:Shared)(σ:St)(H:Hp)(D:eI),Inv X pins σ H s->t D σ H->wpAny (model X.prog X.w) X.A (exec st X.env) (SP X pins D) X.xe s
def PSs(X:Cx)(st:List Stmt)(t:TS):Prop:=
 ∀(pins:List (Addr×Obj))(s:Shared)(σ:St)(H:Hp)(D:eI),Inv X pins σ H s->t D σ H->wpAny (model X.prog X.w) X.A (execs st X.env) (SP X pins D) X.xe s
theorem HB{α:Type}{t:Sem α}{Q Q':α->Shared->Prop}{M:Model}{A:Around}{E:Value->Shared->Prop}{s:Shared}(h:wpAny M A t Q E s)(hQ:∀a s,Q a s->Q' a s):wpAny M A t Q' E s:=wpAny_mono h hQ fun Z Z x=>x
section
variable{X:Cx}
theorem jm{a b:Expr}{ta tb:TE}(ha:PE X a ta)(hb:PE X b tb){pins:List (Addr×Obj)}{s:Shared}{σ:St}{H:Hp}{R:V->V->Hp->Prop}(I:Inv X pins σ H s)(h:ta σ H fun x H1=>tb σ H1 fun y H2=>R x y H2)
 {α:Type} {Q:α->Shared->Prop} {f:Value->Value->Sem α}
 (hf:∀v u s2 x y H2,Inv X pins σ H2 s2->RelV x v->RelV y u->R x y H2->wpAny (model X.prog X.w) X.A (f v u) Q X.xe s2) :
 wpAny (model X.prog X.w) X.A (eval a X.env) (fun v s₁=>wpAny (model X.prog X.w) X.A (eval b X.env) (fun u s₂=>wpAny (model X.prog X.w) X.A (f v u) Q X.xe s₂) X.xe s₁) X.xe s:=by
 refine HB (ha pins s σ H _ I h) fun v s1 zz=>?_
 obtain⟨x,H1,I1,r1,q1⟩:=zz;refine HB (hb pins s1 σ H1 _ I1 q1) fun u s2 zz=>?_
 obtain⟨y,H2,I2,r2,q2⟩:=zz;exact hf v u s2 x y H2 I2 r1 r2 q2
noncomputable def p5(i:Nat):TE:=fun σ H Q=>∃v,σ[i]?=some (some v)/\Q v H
noncomputable def tC(v:V):TE:=fun Z H Q=>Q v H
theorem W6 {i:Nat} {x:Str} {pos:Pos} (hN:X.N[i]?=some x) (hv:P2 X.env.scope x) (hd:autoParam ((x==("__debug__" :Str))=false) zqQ._auto_1) (hcd:autoParam ((x==("__classdict__" :Str))=false) zqQ._auto_1):PE X (.Name x pos) (p5 i):=by
 intro pins s σ H Q I h;obtain⟨v,e,h⟩:=h;obtain⟨m,hn,hl⟩:=I.loc;obtain⟨u,r,l⟩:=hl i x v hN e hv;have fin:EP X pins σ Q u s:=⟨v,H,I,r,h⟩;rcases l with⟨hk,hm⟩ | ⟨hk,c,hc,hcell⟩
 · exact wpAny_Name (wpAny_loadName_local I.ok.kind hk hn hm fin) hd
 · rcases hk with hk | hk
   · exact wpAny_Name (wpAny_loadName_cell I.ok.kind hk hc hcell fin) hd
   · exact wpAny_Name (wpAny_loadName_free I.ok.kind hk hc hcell fin hcd) hd
theorem N6{i j pos}:PE X (.Constant (.int i) j pos) (tC (.int i)):=fun Z Z Z H Z I h=>wpAny_Constant_int ⟨.int i,H,I.tok _,⟨_,rfl⟩,h⟩
theorem p8{b j pos}:PE X (.Constant (.bool b) j pos) (tC (.bl b)):=fun Z Z Z H Z I h=>Constant_bool ⟨.bl b,H,I,rfl,h⟩
theorem P6{j pos}:PE X (.Constant .none j pos) (tC .non):=fun Z Z Z H Z I h=>Constant_none ⟨.non,H,I,rfl,h⟩
theorem V6{x j pos}:PE X (.Constant (.str x) j pos) (tC (.str x)):=fun Z Z Z H Z I h=>Calls.Constant_str ⟨.str x,H,I.tok _,⟨_,rfl⟩,h⟩
noncomputable def Gl(X:Cx)(x:Str):Prop:=X.env.kindOf x=some .globalImplicit
theorem BO{E:Value->Shared->Prop}{pins:List (Addr×Obj)}{s:Shared}{σ:St}{H:Hp}{x:Str}{u:Value}{pos:Pos}{Q:Value->Shared->Prop}(I:Inv X pins σ H s)(hg:Gl X x)(hm:X.mg x=some u)(h:Q u s)
 (hd:autoParam ((x==("__debug__" :Str))=false) zqQ._auto_1):wpAny (model X.prog X.w) X.A (eval (.Name x pos) X.env) Q E s:=
 Calls.Name_function_global I.ok.kind hg (Calls.loadGlobal_global (by rw[I.ok.glob];exact I.mod.glob.keeps I.bk) hm h) hd
theorem SH{E:Value->Shared->Prop}{pins:List (Addr×Obj)}{s:Shared}{σ:St}{H:Hp}{x:Str}{u:Value}{pos:Pos}{Q:Value->Shared->Prop}(I:Inv X pins σ H s)(hg:Gl X x)(hm:X.mg x=none)(hv:bootBuiltins x=some u)(h:Q u s)
 (hn:autoParam (x ≠ "__name__") zqQ._auto_1) (hd:autoParam ((x==("__debug__" :Str))=false) zqQ._auto_1):wpAny (model X.prog X.w) X.A (eval (.Name x pos) X.env) Q E s:=by
 obtain⟨mb,h1,h2⟩:=I.mod.blt;exact Calls.Name_function_global I.ok.kind hg (Calls.loadGlobal_builtin (by rw[I.ok.glob];exact I.mod.glob.keeps I.bk) hm (by rw[I.ok.blt];exact h1.keeps I.bk) ((h2 x hn).trans hv) h) hd
theorem bh {x:Str} {v:V} {u:Value} {pos:Pos} (hg:Gl X x) (hm:X.mg x=some u) (r:RelV v u) (hd:autoParam ((x==("__debug__" :Str))=false) zqQ._auto_1):PE X (.Name x pos) (tC v):=
 fun Z Z Z H Z I h=>BO I hg hm ⟨v,H,I,r,h⟩ hd
theorem Xg {x:Str} {v:V} {u:Value} {pos:Pos} (hg:Gl X x) (hm:X.mg x=none) (hv:bootBuiltins x=some u) (r:RelV v u) (hn:autoParam (x ≠ "__name__") zqQ._auto_1) (hd:autoParam ((x==("__debug__" :Str))=false) zqQ._auto_1):PE X (.Name x pos) (tC v):=
 fun Z Z Z H Z I h=>SH I hg hm hv ⟨v,H,I,r,h⟩ hn hd
variable{a b:Expr}{ta tb:TE}{pos:Pos}
def PC(X:Cx)(op:CmpOp)(a b:Expr)(t:TE):Prop:=
 ∀(pins:List (Addr×Obj))(s:Shared)(σ:St)(H:Hp)(Q:VK),Inv X pins σ H s->t σ H Q->
  wpAny (model X.prog X.w) X.A (eval a X.env) (fun v s₁=>wpAny (model X.prog X.w) X.A (eval b X.env) (fun u s₂=>wpAny (model X.prog X.w) X.A (compareOp op v u) (EP X pins σ Q) X.xe s₂) X.xe s₁) X.xe s
theorem qy(b:Expr){op:CmpOp}(h:op≠.In)(h2:op≠.NotIn):behindInMarks op b=false:=by
 have e1:(op==CmpOp.In)=false:=by cases op<;>first | rfl | exact absurd rfl h
 have e2:(op==CmpOp.NotIn)=false:=by cases op<;>first | rfl | exact absurd rfl h2
 cases b<;>simp[behindInMarks,e1,e2]
noncomputable def tB(t:TE):TT:=fun σ H Q=>t σ H fun x H1=>∃c,x=.bl c/\Q c H1
theorem Ub{op:CmpOp}{t:TE}(h:PC X op a b t)(h1:behindInMarks op b=false:=by first | exact qy _ (by decide) (by decide) | rfl):PT X (.Compare a [op] [b] pos) (tB t):=by intro pins s σ H Q I hw;refine wpAny_isTrue_Compare1 (HB (h pins s σ H _ I hw) fun v s1 h1=>HB h1 fun u s2 h2=>HB h2 fun c s3 zz=>?_) h1;obtain⟨x,H1,I1,r1,q1⟩:=zz;obtain⟨d,rfl,q⟩:=q1;cases r1;exact wpAny_truthy_bool ⟨H1,I1,q⟩
theorem h7{e:Expr}{t:TE}(h:PE X e t)(he:autoParam (∀whole,isTrue e X.env whole=(do let v <- whole;standAt e.pos;holding [v] (truthy v))) zqP._auto_1):PT X e (tB t):=by intro pins s σ H Q I hw;refine isTrue_plain (HB (h pins s σ H _ I hw) fun v s1 zz=>?_) (he _);obtain⟨x,H1,I1,r1,q1⟩:=zz;obtain⟨d,rfl,q⟩:=q1;cases r1;exact wpAny_truthy_bool ⟨H1,I1,q⟩
variable{tA Wm:TT}{rest:List Expr}
noncomputable def X4(t u:TT):TT:=fun σ H Q=>t σ H fun c H1=>if c=true then u σ H1 Q else Q false H1
noncomputable def Rc(t u:TT):TT:=fun σ H Q=>t σ H fun c H1=>if c=true then Q true H1 else u σ H1 Q
noncomputable def j5(t:TT):TT:=fun σ H Q=>t σ H fun c H1=>Q (!c) H1
theorem Cg(ha:PT X a tA):PW X (.BoolOp .And [a] pos) tA:=by
 intro wh pins s σ H Q I h;refine isTrue_and (HB (ha pins s σ H Q I h) fun c s1 e=>?_);cases c with
 | true=>exact isTrue_and_nil e
 | false=>exact e
theorem j7(ha:PT X a tA):PW X (.BoolOp .Or [a] pos) tA:=by
 intro wh pins s σ H Q I h;refine isTrue_or (HB (ha pins s σ H Q I h) fun c s1 e=>?_);cases c with
 | false=>exact isTrue_or_nil e
 | true=>exact e
theorem i7(ha:PT X a tA)(hb:PW X (.BoolOp .And (b::rest) pos) Wm):PW X (.BoolOp .And (a::b::rest) pos) (X4 tA Wm):=by
 intro wh pins s σ H Q I h;refine isTrue_and (HB (ha pins s σ H _ I h) fun c s1 zz=>?_);obtain⟨H1,I1,q1⟩:=zz;cases c with
 | true=>exact hb wh pins s1 σ H1 Q I1 q1
 | false=>exact⟨H1,I1,q1⟩
theorem w8(ha:PT X a tA)(hb:PW X (.BoolOp .Or (b::rest) pos) Wm):PW X (.BoolOp .Or (a::b::rest) pos) (Rc tA Wm):=by
 intro wh pins s σ H Q I h;refine isTrue_or (HB (ha pins s σ H _ I h) fun c s1 zz=>?_);obtain⟨H1,I1,q1⟩:=zz;cases c with
 | true=>exact⟨H1,I1,q1⟩
 | false=>exact hb wh pins s1 σ H1 Q I1 q1
theorem g7(ha:PT X a tA):PT X (.UnaryOp .Not a pos) (j5 tA):=by intro pins s σ H Q I h;exact isTrue_not (ha pins s σ H (fun c H1=>Q (!c) H1) I h)
noncomputable def A7(ta tb:TE):TE:=fun σ H Q=>ta σ H fun x H1=>∃c,x=.bl c/\if c=true then tb σ H1 Q else Q (.bl false) H1
noncomputable def J7(ta:TE):TE:=fun σ H Q=>ta σ H fun x H1=>∃c,x=.bl c/\Q (.bl (!c)) H1
theorem T6{op}{t:TE}(h:PE X a t):PE X (.BoolOp op [a] pos) t:=fun pins s σ H Q I hw=>BoolOp_one (h pins s σ H Q I hw)
theorem L6(ha:PE X a ta)(hb:PE X (.BoolOp .And (b::rest) pos) tb):PE X (.BoolOp .And (a::b::rest) pos) (A7 ta tb):=by
 intro pins s σ H Q I h;refine BoolOp_and (HB (ha pins s σ H _ I h) fun v s1 zz=>?_);obtain⟨x,H1,I1,r1,q1⟩:=zz;obtain⟨c,rfl,q1⟩:=q1;cases r1;refine wpAny_truthy_bool ?_;cases c with
 | true=>exact hb pins s1 σ H1 Q I1 q1
 | false=>exact⟨.bl false,H1,I1,rfl,q1⟩
theorem Q6(ha:PE X a ta):PE X (.UnaryOp .Not a pos) (J7 ta):=by intro pins s σ H Q I h;refine UnaryOp_ (HB (ha pins s σ H _ I h) fun v s1 zz=>?_);obtain⟨x,H1,I1,r1,q1⟩:=zz;obtain⟨c,rfl,q1⟩:=q1;cases r1;exact not_of (wpAny_truthy_bool ⟨.bl (!c),H1,I1,rfl,q1⟩)
noncomputable def Jc(t:TT)(ta tb:TE):TE:=fun σ H Q=>t σ H fun c H1=>if c=true then ta σ H1 Q else tb σ H1 Q
theorem Jw{c:Expr}(hc:PT X c tA)(ha:PE X a ta)(hb:PE X b tb):PE X (.IfExp c a b pos) (Jc tA ta tb):=by
 intro pins s σ H Q I h;refine wpAny_IfExp (HB (hc pins s σ H _ I h) fun d s1 zz=>?_);obtain⟨H1,I1,q1⟩:=zz;cases d with
 | true=>exact ha pins s1 σ H1 Q I1 q1
 | false=>exact hb pins s1 σ H1 Q I1 q1
end
def vp(K:Frag)(H:Hp)(a:Addr)(xs:List V):Prop:=
 Rd H a (.lst xs)\/
  ∃(o:Obj) (its:Array Value) (n:Nat),K.lookup a=some o/\o.cls=.type "list" /\ o.dict=none/\o.data=.seq its n/\its.size<=sizeLine/\Vals xs its.toList
def aJ(K:Frag)(H:Hp)(a:Addr)(xs:List V):Prop:=
 Rd H a (.tup xs)\/
  ∃(o:Obj) (its:Array Value) (n:Nat),K.lookup a=some o/\o.cls=.type "tuple" /\ o.data=.seq its n/\its.size<=sizeLine/\Vals xs its.toList
noncomputable def P3:Value->Option V
 | .none=>some .non
 | .bool b=>some (.bl b)
 | .int i _=>some (.int i)
 | .str x _=>some (.str x)
 | .bytes b _=>some (.byt b)
 | .float b _=>some (.flt b)
 | .ref a=>some (.ref a)
 | .type n=>some (.ty n)
 | _=>none
theorem RelV.abs{x:V}{u:Value}(r:RelV x u):P3 u=some x:=by
 cases x with
 | non=>cases r;rfl
 | bl _=>cases r;rfl
 | int _=>obtain⟨t,rfl⟩:=r;rfl
 | str _=>obtain⟨t,rfl⟩:=r;rfl
 | byt _=>obtain⟨t,rfl⟩:=r;rfl
 | flt _=>obtain⟨t,rfl⟩:=r;rfl
 | ref _=>cases r;rfl
 | ty _=>cases r;rfl
theorem RelV.inj{x y:V}{u:Value}(r:RelV x u)(q:RelV y u):x=y:=Option.some.inj (r.abs.symm.trans q.abs)
theorem Vals.inj:∀{xs ys:List V}{us:List Value},Vals xs us->Vals ys us->xs=ys
 | _,_,_,.nil,.nil=>rfl
 | _,_,_,.cons r t,.cons r' t'=>by rw[r.inj r',Vals.inj t t']
section
variable{X:Cx}{pins:List (Addr×Obj)}{σ:St}{H:Hp}{s:Shared}{a:Addr}{xs ys:List V}
theorem vp.of{K:Frag}(h:H a=some (.lst xs)):vp K H a xs:=.inl (.inl h)
theorem Inv.list(I:Inv X pins σ H s)(h:vp X.K H a xs):∃its:List Value,Vals xs its/\PlainL s.heap a its.toArray/\xs.length<=sizeLine:=by
 rcases h with h | ⟨o,its,n,hk,hc,hd,hs,hz,r⟩
 · obtain⟨z,its,n,r,e⟩:=h.ok I.hok;exact⟨its,r,⟨_,n,e,rfl,rfl,rfl⟩,z⟩
 · refine⟨its.toList,r,⟨o,n,I.kIn a o hk,hc,hd,by simpa using hs⟩,?_⟩;have e:=r.length;simp only[Array.length_toList]at e;omega
theorem Inv.tuple(I:Inv X pins σ H s)(h:aJ X.K H a xs):∃its:List Value,Vals xs its/\IsTup s.heap a its.toArray/\xs.length<=sizeLine:=by
 rcases h with h | ⟨o,its,n,hk,hc,hs,hz,r⟩
 · obtain⟨z,its,r,p⟩:=h.ok I.hok;exact⟨its,r,p,z⟩
 · refine⟨its.toList,r,⟨o,I.kIn a o hk,hc,n,by simpa using hs⟩,?_⟩;have e:=r.length;simp only[Array.length_toList]at e;omega
theorem Inv.zau(I:Inv X pins σ H s)(h:vp X.K H a xs)(h':vp X.K H a ys):xs=ys:=by
 obtain⟨its,r,⟨o,n,e,Z,Z,d⟩,Z⟩:=I.list h;obtain⟨its',r',⟨o',n',e',Z,Z,d'⟩,Z⟩:=I.list h';rw[e]at e';cases e';rw[d]at d';injection d' with d1 _
 have:its=its':=by simpa using congrArg Array.toList d1
 subst this;exact r.inj r'
theorem Inv.za8(I:Inv X pins σ H s)(h:aJ X.K H a xs)(h':aJ X.K H a ys):xs=ys:=by
 obtain⟨its,r,⟨o,e,Z,n,d⟩,Z⟩:=I.tuple h;obtain⟨its',r',⟨o',e',Z,n',d'⟩,Z⟩:=I.tuple h';rw[e]at e';cases e';rw[d]at d';injection d' with d1 _
 have:its=its':=by simpa using congrArg Array.toList d1
 subst this;exact r.inj r'
end
noncomputable abbrev Cx.wish(X:Cx)(E:Value->Shared->Prop):Cx:={ X with xe:=E }
abbrev Cx.nox(X:Cx):Cx:=X.wish fun Z Z=>False
theorem Cx.Ok.wish{X:Cx}(ok:X.Ok)(E:Value->Shared->Prop):(X.wish E).Ok:=
 ⟨ok.mod,ok.kind,ok.glob,ok.blt,ok.above,ok.inj,ok.has,ok.cab,ok.hd,ok.frames,ok.stk,ok.exf,ok.bs,ok.bsz,ok.zbp,ok.zbk,ok.zar,ok.frf⟩
theorem Cx.Ok.Vp{X:Cx}{E:Value->Shared->Prop}(ok:(X.wish E).Ok):X.Ok:=
 ⟨ok.mod,ok.kind,ok.glob,ok.blt,ok.above,ok.inj,ok.has,ok.cab,ok.hd,ok.frames,ok.stk,ok.exf,ok.bs,ok.bsz,ok.zbp,ok.zbk,ok.zar,ok.frf⟩
section
variable{X:Cx}{pins:List (Addr×Obj)}{σ:St}{H:Hp}{s:Shared}{E:Value->Shared->Prop}
theorem Inv.wish(I:Inv X pins σ H s)(E:Value->Shared->Prop):Inv (X.wish E) pins σ H s:=⟨I.ok.wish E,I.os,I.bare,I.base,I.loc,I.cell,I.free,I.zab,I.pin,I.hok,I.len⟩
theorem Inv.Vp(I:Inv (X.wish E) pins σ H s):Inv X pins σ H s:=⟨I.ok.Vp,I.os,I.bare,I.base,I.loc,I.cell,I.free,I.zab,I.pin,I.hok,I.len⟩
theorem SP.Vp{D:eI}{f:Flow}{s':Shared}(h:SP (X.wish E) pins D f s'):SP X pins D f s':=by
 cases f with
 | next=>obtain⟨σ',H',I,q⟩:=h;exact⟨σ',H',I.Vp,q⟩
 | brk=>obtain⟨σ',H',I,q⟩:=h;exact⟨σ',H',I.Vp,q⟩
 | cont=>obtain⟨σ',H',I,q⟩:=h;exact⟨σ',H',I.Vp,q⟩
 | ret u=>obtain⟨v,σ',H',I,r,q⟩:=h;exact⟨v,σ',H',I.Vp,r,q⟩
theorem PSs.nox{st:List Stmt}{t:TS}(h:PSs X.nox st t):PSs X st t:=fun pins s σ H D I hw=>wpAny_mono (h pins s σ H D (I.wish _) hw) (fun Z Z q=>q.Vp) fun Z Z z=>False.elim z
end
section
variable{X:Cx}{st:Stmt}{rest:List Stmt}{t u:TS}{e:Expr}{te:TE}{pos:Pos}
noncomputable def G7:TS:=fun D σ H=>D.nx σ H
noncomputable def m5(t u:TS):TS:=fun D σ H=>t { D with nx:=u D } σ H
theorem Gh:PSs X [] G7:=fun Z Z σ H Z I h=>wpAny_execs_nil ⟨σ,H,I,h⟩
theorem Sw(h1:PS X st t)(h2:PSs X rest u):PSs X (st::rest) (m5 t u):=by
 intro pins s σ H D I h;refine wpAny_execs_cons (HB (h1 pins s σ H { D with nx:=u D } I h) fun f s1 q=>?_);cases f with
 | next=>obtain⟨σ',H',I',q⟩:=q;exact h2 pins s1 σ' H' D I' q
 | ret v=>exact q
 | brk=>exact q
 | cont=>exact q
theorem Hh(h1:PS X st t):PSs X [st] t:=by
 intro pins s σ H D I h;refine wpAny_execs_cons (HB (h1 pins s σ H D I h) fun f s1 q=>?_);cases f with
 | next=>exact wpAny_execs_nil q
 | ret v=>exact q
 | brk=>exact q
 | cont=>exact q
theorem Inv.quiet{pins:List (Addr×Obj)}{σ:St}{H:Hp}{s:Shared}(I:Inv X pins σ H s):interactive X.env=false:=by simp[interactive,I.ok.kind]
noncomputable def B7(te:TE):TS:=fun D σ H=>te σ H fun Z H1=>D.nx σ H1
theorem Eh(he:PE X e te)(hs:autoParam (swapsWith e none pos.line X.env=pure false) zqR._auto_1):PS X (.Expr e pos) (B7 te):=by intro pins s σ H D I h;exact wpAny_Expr_any (HB (he pins s σ H _ I h) fun v s1 ⟨x,H1,I1,r1,q1⟩=>⟨σ,H1,I1,q1⟩) I.quiet hs
noncomputable def k5(te:TE):TS:=fun D σ H=>te σ H D.rt
theorem e7(he:PE X e te):PS X (.Return (some e) pos) (k5 te):=by intro pins s σ H D I h;exact wpAny_Return_some (HB (he pins s σ H _ I h) fun v s1 ⟨x,H1,I1,r1,q1⟩=>⟨x,σ,H1,I1,r1,q1⟩)
noncomputable def g5(c:TT)(t u:TS):TS:=fun D σ H=>c σ H fun b H1=>if b=true then t D σ H1 else u D σ H1
theorem v8{c:Expr}{a b:List Stmt}{tc:TT}(hc:PT X c tc)(ha:PSs X a t)(hb:PSs X b u):PS X (.If c a b pos) (g5 tc t u):=by
 intro pins s σ H D I h;refine wpAny_If (HB (hc pins s σ H _ I h) fun d s1 zz=>?_);obtain⟨H1,I1,q1⟩:=zz;cases d with
 | true=>exact ha pins s1 σ H1 D I1 q1
 | false=>exact hb pins s1 σ H1 D I1 q1
end
abbrev TG:=V->St->Hp->(St->Hp->Prop)->Prop
abbrev MP:=List V->St->Hp->(St->Hp->Prop)->Prop
def PG(X:Cx)(target:Expr)(t:TG):Prop:=
 ∀(pins:List (Addr×Obj))(s:Shared)(σ:St)(H:Hp)(v:V)(u:Value)(Q:St->Hp->Prop),Inv X pins σ H s->RelV v u->t v σ H Q->
  wpAny (model X.prog X.w) X.A (assign target X.env u) (fun Z s'=>∃σ' H',Inv X pins σ' H' s'/\Q σ' H') X.xe s
def J2(X:Cx)(ts:List Expr)(t:MP):Prop:=
 ∀(pins:List (Addr×Obj))(s:Shared)(σ:St)(H:Hp)(vs:List V)(us:List Value)(Q:St->Hp->Prop),Inv X pins σ H s->Vals vs us->t vs σ H Q->
  wpAny (model X.prog X.w) X.A (assignInOrder ((assignEach ts X.env).map (·.2)) us) (fun Z s'=>∃σ' H',Inv X pins σ' H' s'/\Q σ' H') X.xe s
abbrev NP:=V->V->V->Hp->(Hp->Prop)->Prop
def IV(X:Cx)(t:NP):Prop:=
 ∀(pins:List (Addr×Obj))(s:Shared)(σ:St)(H:Hp)(o i v:V)(ov iv u:Value)(Q:Hp->Prop),Inv X pins σ H s->RelV o ov->RelV i iv->RelV v u->t o i v H Q->
  wpAny (model X.prog X.w) X.A (setItem ov iv u) (fun Z s'=>∃H',Inv X pins σ H' s'/\Q H') X.xe s
section
variable{X:Cx}{pos:Pos}
noncomputable def oP(i:Nat):TG:=fun v σ H Q=>Q (σ.set i (some v)) H
theorem nU{i:Nat}{x:Str}(hN:X.N.Nodup)(hi:X.N[i]?=some x)(hx:zP X.env.scope x)(hf:autoParam (X.fn x=true\/X.env.scope.names.lookup x=some .local) zqD._auto_1):PG X (.Name x pos) (oP i):=by intro pins s σ H v u Q I r h;exact wpAny_assign_Name (TY I hN hi hx r (fun s' I'=>⟨_,H,I',h⟩) hf)
noncomputable def X3:MP:=fun vs σ H Q=>vs=[]/\Q σ H
noncomputable def J5(t:TG)(u:MP):MP:=fun vs σ H Q=>∃v r,vs=v::r/\t v σ H fun σ' H'=>u r σ' H' Q
theorem uh:J2 X [] X3:=by intro pins s σ H vs us Q I r h;obtain⟨e,h⟩:=h;subst e;cases r;exact assignInOrder_nil ⟨σ,H,I,h⟩
theorem fY{e:Expr}{es:List Expr}{t:TG}{u:MP}(h1:PG X e t)(h2:J2 X es u)
 (hs:autoParam ((assignEach (e::es) X.env).map (·.2)=assign e X.env::(assignEach es X.env).map (·.2)) zqR._auto_1):J2 X (e::es) (J5 t u):=by
 intro pins s σ H vs us Q I r h;obtain⟨v,vr,e1,h⟩:=h;subst e1;cases r with
 | cons r rr=>rw[hs];refine assignInOrder_cons (HB (h1 pins s σ H _ _ _ I r h) fun Z s1 zz=>?_);obtain⟨σ1,H1,I1,q1⟩:=zz;exact h2 pins s1 σ1 H1 _ _ Q I1 rr q1
def Z3(K:Frag)(n:Nat)(t:MP):TG:=fun v σ H Q=>∃a xs,v=.ref a/\aJ K H a xs/\xs.length=n/\t xs σ H Q
theorem Y6{es:List Expr}{k:Nat}{t:MP}{n:Nat}(hc:X.calm=true)(h:J2 X es t)
 (hn:autoParam ((assignEach es X.env).length=n) zqR._auto_1) (hst:autoParam ((assignEach es X.env).findIdx? (·.1)=none) zqR._auto_1):PG X (.Tuple es k pos) (Z3 X.K n t):=by
 intro pins s σ H v u Q I r hw;obtain⟨a,xs,e1,hq,hl,hw⟩:=hw;subst e1;cases r;obtain⟨its,rv,ht,hz⟩:=I.tuple hq;refine assign_Tuple_tuple (I.ok.hd hc) ht (by simp[hn,<- hl,rv.length]) hst fun h' hx=>?_
 have I1:Inv X pins σ H { s with heap:=h' }:=I.kept (t':=s.toks) fun b o e=>hx b o (zxD (Heap.lt_size e)) e
 exact h pins _ σ H xs _ Q I1 (by simpa using rv) hw
noncomputable def Y3(to ti:TE)(t:NP):TG:=fun v σ H Q=>to σ H fun o H1=>ti σ H1 fun i H2=>t o i v H2 fun H3=>Q σ H3
theorem X6{o i:Expr}{to ti:TE}{t:NP}(ho:PE X o to)(hi:PE X i ti)(hs:IV X t)
 (ha:autoParam (∀v,assign (.Subscript o i pos) X.env v=(do
  let ov <- holding [v] (eval o X.env)
  let iv <- holding [v,ov] (eval i X.env)
  standAt pos
  holding [v,ov,iv] (setItem ov iv v)
  release [v,ov,iv] [])) zqP._auto_1):PG X (.Subscript o i pos) (Y3 to ti t):=by
 intro pins s σ H v u Q I r h;rw[ha];refine wpAny_bind (wpAny_holding (HB (ho pins s σ H _ I h) fun ov s1 zz=>?_));obtain⟨x,H1,I1,r1,q1⟩:=zz;refine wpAny_bind (wpAny_holding (HB (hi pins s1 σ H1 _ I1 q1) fun iv s2 zz=>?_));obtain⟨y,H2,I2,r2,q2⟩:=zz;refine wpAny_bind (wpAny_standAt (wpAny_bind (wpAny_holding (HB (hs pins s2 σ H2 x y v ov iv u _ I2 r1 r2 r q2) fun Z s3 zz=>?_))));obtain⟨H3,I3,q3⟩:=zz;exact wpAny_release ⟨σ,H3,I3,q3⟩
noncomputable def jQ(te:TE)(g:TG):TS:=fun D σ H=>te σ H fun x H1=>g x σ H1 D.nx
theorem Z6{tg e:Expr}{te:TE}{g:TG}(he:PE X e te)(hg:PG X tg g)(hs:autoParam (swapsWithSole [tg] e pos.line X.env=pure false) zqR._auto_1)(hw:autoParam (swappedStores [tg] e X.env=pure none) zqR._auto_1)
 (h1:autoParam ((assignEach [tg] X.env).map (·.2)=[assign tg X.env]) zqR._auto_1):PS X (.Assign [tg] e pos) (jQ te g):=by
 intro pins s σ H D I h;refine wpAny_Assign_stores (HB (he pins s σ H _ I h) fun v s1 zz=>?_) hs hw;obtain⟨x,H1,I1,r1,q1⟩:=zz;rw[h1];exact HB (hg pins s1 σ H1 x v _ I1 r1 q1) fun Z s2 q=>q
theorem f7{i:Nat}{x:Str}{e:Expr}{te:TE}{pos':Pos}(hN:X.N.Nodup)(hi:X.N[i]?=some x)(hx:zP X.env.scope x)(he:PE X e te)(hs:autoParam (swapsWith e (some (.Name x pos')) pos.line X.env=pure false) zqR._auto_1)(hf:autoParam (X.fn x=true\/X.env.scope.names.lookup x=some .local) zqD._auto_1) :
 PS X (.Assign [.Name x pos'] e pos) (jQ te (oP i)):=by
 intro pins s σ H D I h;refine wpAny_Assign_Name (HB (he pins s σ H _ I h) fun v s1 zz=>?_) hs;obtain⟨y,H1,I1,r1,q1⟩:=zz;exact TY I1 hN hi hx r1 (fun s2 I2=>⟨_,H1,I2,q1⟩) hf
def X5(c:TT)(tb:TS):TS:=fun D σ H=>∃W:Nat->St->Hp->Prop,(∃m,W m σ H)/\∀m σ H,W m σ H->
 c σ H fun b H1=>if b=true then ∃N:St->Hp->Prop,(∀σ' H',N σ' H'->∃m',m'<m/\W m' σ' H')/\tb { D with nx:=N,ct:=N,bk:=D.nx } σ H1 else D.nx σ H1
theorem Rw{c:Expr}{body:List Stmt}{tc:TT}{tb:TS}(hp:PassesOwn (model X.prog X.w) X.A X.env X.xe)(hc:PT X c tc)(hb:PSs X body tb):PS X (.While c body [] pos) (X5 tc tb):=by
 intro pins s σ H D I h;obtain⟨W,⟨m0,w0⟩,turn⟩:=h;refine wpAny_While (codeAny_whileLoop (fun n s'=>∃σ' H',Inv X pins σ' H' s'/\W n σ' H') ?_ m0 ⟨σ,H,I,w0⟩);rintro n s1 ⟨σ1,H1,I1,w1⟩;refine wpAny_passesOwn hp (HB (hc pins s1 σ1 H1 _ I1 (turn n σ1 H1 w1)) fun b s2 zz=>?_);obtain⟨H2,I2,q2⟩:=zz;cases b with
 | true=>
  obtain⟨N,hN,q2⟩:=q2;rw[if_pos rfl];refine wpAny_passesOwn hp (HB (hb pins s2 σ1 H2 _ I2 q2) fun f s3 q3=>?_);cases f with
  | next=>obtain⟨σ3,H3,I3,n3⟩:=q3;obtain⟨m',hm,w3⟩:=hN σ3 H3 n3;exact⟨m',hm,σ3,H3,I3,w3⟩
  | cont=>obtain⟨σ3,H3,I3,n3⟩:=q3;obtain⟨m',hm,w3⟩:=hN σ3 H3 n3;exact⟨m',hm,σ3,H3,I3,w3⟩
  | brk=>exact q3
  | ret v=>exact q3
 | false=>rw[if_neg zfT];exact wpAny_execs_nil ⟨σ1,H2,I2,q2⟩
end
structure It where
 go:Nat->Hp->Prop
 yld:Nat->Hp->V->Hp->Prop
 stop:Nat->Hp->Prop
def vF(X:Cx)(pins:List (Addr×Obj))(H:Hp)(b:Addr):Prop:=
 H b=none/\b≠X.env.locals/\b∉X.fs/\(b∈X.ex\/X.s₀.heap.objs.size<=b)/\(∀x c,X.env.cells.lookup x=some c->c≠b)/\∀p∈X.pn++pins,p.1≠b
theorem Inv.za4{X:Cx}{pins:List (Addr×Obj)}{σ:St}{H H':Hp}{s:Shared}{b:Addr}(I:Inv X pins σ H s)(hb:s.heap.objs.size<=b)(hn:H' b=none):vF X pins H' b:=by
 refine⟨hn,Nat.ne_of_gt (zxC I.lt hb),I.zd3 hb,.inr (zxA I.sz hb),fun x c e z=>?_,fun p hp z=>?_⟩
 · obtain⟨v,q⟩:=I.cell x c e;exact absurd (zxC q.lt (by rw[z];exact hb)) (Nat.lt_irrefl _)
 · exact absurd (zxC (Heap.lt_size (I.pin p hp).1) (by rw[z];exact hb)) (Nat.lt_irrefl _)
structure jI(P:Program)(w:World)(K:Frag)(tg:Expr)(J:It)(fp:List Addr)(it:Addr)(tn:Nat->Heap->Prop):Prop where
 mem:it∈fp
 obj:∀i h,tn i h->∀b∈fp,∃o,h.get? b=some o/\∀v,o.data≠.cell v
 keep:∀i h h',tn i h->(∀b∈fp,∀o,h.get? b=some o->h'.get? b=some o)->tn i h'
 item:∀(X:Cx),X.prog=P->X.w=w->X.K=K->X.calm=true->∀(i:Nat)(pins:List (Addr×Obj))(s:Shared)(σ:St)(H:Hp)(E:Value->Shared->Prop),Inv X pins σ H s->(∀b∈fp,vF X pins H b)->tn i s.heap->J.go i H->
  wpAny (model P w) X.A (pyNext (.ref it)) (fun r s1=>∃u,r=some u/\
   wpAny (model P w) X.A (letOwnedTupleGo tg (.ref it) u) (fun Z s2=>∃x H',Inv X pins σ H' s2/\RelV x u/\J.yld i H x H'/\tn (i+1) s2.heap/\∀b∈fp,H' b=none) E s1) E s
 done:∀(X:Cx),X.prog=P->X.w=w->X.K=K->X.calm=true->∀(i:Nat)(pins:List (Addr×Obj))(s:Shared)(σ:St)(H:Hp)(E:Value->Shared->Prop),Inv X pins σ H s->(∀b∈fp,vF X pins H b)->tn i s.heap->J.stop i H->
  wpAny (model P w) X.A (pyNext (.ref it)) (fun r s1=>r=none/\Inv X pins σ H s1) E s
 self:∀(A:Around)(i:Nat)(s:Shared)(Q:Value->Shared->Prop)(E:Value->Shared->Prop),tn i s.heap->Q (.ref it) s->wpAny (model P w) A (pyIter (.ref it)) Q E s
abbrev TI:=St->Hp->(It->Hp->Prop)->Prop
def N3(X:Cx)(pins:List (Addr×Obj))(σ:St)(tg:Expr)(R:It->Hp->Prop)(itv:Value)(s2:Shared):Prop:=
 ∃(it:Addr)(fp:List Addr)(tn:Nat->Heap->Prop)(J:It)(H':Hp),itv=.ref it/\Inv X pins σ H' s2/\jI X.prog X.w X.K tg J fp it tn/\tn 0 s2.heap/\(∀b∈fp,vF X pins H' b)/\R J H'
def PI(X:Cx)(tg iter:Expr)(wi:TI):Prop:=
 ∀(pins:List (Addr×Obj))(s:Shared)(σ:St)(H:Hp)(R:It->Hp->Prop),Inv X pins σ H s->wi σ H R->
  wpAny (model X.prog X.w) X.A (eval iter X.env) (fun v s1=>wpAny (model X.prog X.w) X.A (pyIter v) (N3 X pins σ tg R) X.xe s1) X.xe s
theorem YU{M:Model}{A:Around}{E:Value->Shared->Prop}{s:Shared}{tg:Expr}{it:Addr}{u:Value}{o:Obj}{n:String}{vs:Array Value}{Q:Unit->Shared->Prop}(ho:s.heap.get? it=some o)(hc:o.cls=.type n)(hd:o.data=.fields vs)
 (hn:["enumerate", "zip", "dict_itemiterator", "dict_reverseitemiterator", "odict_iterator", "itertools.zip_longest", "itertools.pairwise"].contains n=false) (hQ:Q () s):wpAny M A (letOwnedTupleGo tg (.ref it) u) Q E s:=by
 unfold letOwnedTupleGo;cases tg<;>first
  | exact wpAny_pure hQ
  | (cases u<;>first
   | exact wpAny_pure hQ
   | (refine wpAny_bind (wpAny_load ho ?_);rw[hc,hd];show wpAny M A (if(["enumerate", "zip", "dict_itemiterator", "dict_reverseitemiterator", "odict_iterator", "itertools.zip_longest", "itertools.pairwise"].contains n&&vs[0]?==some (rawInt _))=true then _ else _) Q E s;rw[if_neg (by intro h;rw[hn,Bool.false_and]at h;cases h)];exact wpAny_pure hQ))
def ud(K:Frag)(a:Addr):It:=
 ⟨fun i H=>∃xs x,vp K H a xs/\xs[i]?=some x,fun i H x H'=>H'=H/\∀xs,vp K H a xs->xs[i]?=some x,fun i H=>∃xs,vp K H a xs/\xs.length<=i⟩
noncomputable def A2(lo:Int)(n:Nat):It:=⟨fun i Z=>i<n,fun i H x H'=>H'=H/\x=.int (lo+i),fun i Z=>n<=i⟩
theorem dw{P:Program}{w:World}{K:Frag}{tg:Expr}(a it:Addr):jI P w K tg (ud K a) [it] it (fun i h=>h.IsListIter it a i) where
 mem:=by simp
 obj:=fun i h st b hb=>by
  have e:b=it:=by simpa using hb
  subst e;obtain⟨o,e,c,d⟩:=st;exact⟨o,e,fun v z=>by rw[d]at z;cases z⟩
 keep:=fun i h h' st k=>st.at fun o e=>k it (by simp) o e
 item:=by
  intro X hP hw hK hc i pins s σ H E I hf st hg;subst hP hw hK;obtain⟨xs,x,hq,hx⟩:=hg;obtain⟨its,rv,p,hz⟩:=I.list hq;obtain⟨u,hu,ru⟩:=rv.get hx;obtain⟨f0,f1,f2,f3,f4,f5⟩:=hf it (by simp);refine wpAny_pyNext_list_item st p.isList (x:=u) (by simpa using hu) fun h' st' sb=>?_
  have I1:Inv X pins σ H { s with heap:=h' }:=I.turned (t':=s.toks) (fun b o hb e=>(sb.2 b hb).trans e) f0 f1 f3 f4 f5;obtain⟨o,e,c,d⟩:=id st';exact⟨u,rfl,YU (s:={ s with heap:=h' }) e c d (by decide) ⟨x,H,I1,ru,⟨rfl,fun ys hy=>by rw[I.zau hy hq];exact hx⟩,st',fun b hb=>(hf b hb).1⟩⟩
 done:=by intro X hP hw hK hc i pins s σ H E I hf st hg;subst hP hw hK;obtain⟨xs,hq,hx⟩:=hg;obtain⟨its,rv,p,hz⟩:=I.list hq;obtain⟨f0,f1,f2,f3,f4,f5⟩:=hf it (by simp);have hl:=rv.length;exact wpAny_pyNext_list_end (I.ok.hd hc) st p.isList (by simp;omega) fun h' eb=>⟨rfl,I.turned (t':=s.toks) (fun b o hb e=>eb b o hb e) f0 f1 f3 f4 f5⟩
 self:=fun Z Z Z Z Z st h=>wpAny_pyIter_listiter st h
theorem Dq{P:Program}{w:World}{K:Frag}{tg:Expr}(it:Addr)(lo:Int)(n:Nat):jI P w K tg (A2 lo n) [it] it (fun i h=>IsRangeIter h it (lo+(i:Nat)*1) ((n:Int)-(i:Nat)) 1) where
 mem:=by simp
 obj:=fun i h st b hb=>by
  have e:b=it:=by simpa using hb
  subst e;exact⟨_,st,fun v z=>by
   have z':Data.fields _=Data.cell v:=z;cases z'⟩
 keep:=fun i h h' st k=>k it (by simp) _ st
 item:=by
  intro X hP hw hK hc i pins s σ H E I hf st hg;subst hP hw hK;obtain⟨f0,f1,f2,f3,f4,f5⟩:=hf it (by simp);have W:=Walks.range (prog:=X.prog) (w:=X.w) (I.ok.hd hc) it lo 1 n;refine W.item i s _ _ hg st fun v h' tk hv st' kk=>?_
  obtain⟨t,rfl⟩:=hv;have I1:Inv X pins σ H { s with heap:=h',toks:=tk }:=I.turned (fun b o hb e=>kk b o (by simpa using hb) e) f0 f1 f3 f4 f5;refine⟨_,rfl,YU (s:={ s with heap:=h',toks:=tk }) (n := "range_iterator") st' rfl rfl (by decide) ⟨.int (lo+i),H,I1,⟨t,?_⟩,⟨rfl,rfl⟩,st',fun b hb=>(hf b hb).1⟩⟩;rw[Int.mul_one]
 done:=by intro X hP hw hK hc i pins s σ H E I hf st hg;subst hP hw hK;obtain⟨f0,f1,f2,f3,f4,f5⟩:=hf it (by simp);exact wpAny_pyNext_range_end (I.ok.hd hc) st (by have:n<=i:=hg;omega) fun h' eb=>⟨rfl,I.turned (t':=s.toks) (fun b o hb e=>eb b o hb e) f0 f1 f3 f4 f5⟩
 self:=fun Z Z Z Z Z st h=>wpAny_pyIter_rangeiter st h
section
variable{X:Cx}{tg:Expr}
def K5(K:Frag)(tl:TE):TI:=fun σ H R=>tl σ H fun x H1=>∃a,x=.ref a/\(∃xs,vp K H1 a xs)/\R (ud K a) H1
theorem yh{l:Expr}{tl:TE}(hl:PE X l tl):PI X tg l (K5 X.K tl):=by
 intro pins s σ H R I h;refine HB (hl pins s σ H _ I h) fun v s1 zz=>?_
 obtain⟨x,H1,I1,r1,q1⟩:=zz;obtain⟨a,e,⟨xs,hq⟩,q⟩:=q1;subst e;cases r1;obtain⟨its,rv,p,hz⟩:=I1.list hq;refine wpAny_pyIter_list p.isList ?_;refine⟨s1.heap.objs.size,[s1.heap.objs.size],_,_,H1,rfl,I1.kept (t':=s1.toks) fun b o e=>Heap.get?_push_of_some _ e,dw a _,⟨_,Heap.get?_push_size _ rfl,rfl,rfl⟩,fun b hb=>?_,q⟩;have e:b=s1.heap.objs.size:=by simpa using hb
 subst e;exact I1.za4 (zfU _) (I1.hok.fresh (zfU _))
theorem NY{pins:List (Addr×Obj)}{σ:St}{H:Hp}{s:Shared}{R:It->Hp->Prop}{E:Value->Shared->Prop}{lo hi:Int}{t u v:Tok}{tk:Nat}(I:Inv X pins σ H s)(h1:-(2^62)<=lo)(h2:lo<2^62)(h3:-(2^62)<=hi)(h4:hi<2^62)
 (q:R (A2 lo (hi-lo).toNat) H):wpAny (model X.prog X.w) X.A (pyIter (.ref s.heap.objs.size)) (N3 X pins σ tg R) E { s with heap:=s.heap.push { cls:=.type "range",data:=.fields #[.int lo t,.int hi u,.int 1 v] },toks:=tk }:=by
 refine wpAny_pyIter_range (IsRange.new ..) (small_one h1 h2 h3 h4) ?_;have I1:Inv X pins σ H { s with heap:=s.heap.push { cls:=.type "range",data:=.fields #[.int lo t,.int hi u,.int 1 v] },toks:=tk }:=I.kept fun b o e=>Heap.get?_push_of_some _ e
 refine⟨(s.heap.push { cls:=.type "range",data:=.fields #[.int lo t,.int hi u,.int 1 v] }).objs.size,[(s.heap.push { cls:=.type "range",data:=.fields #[.int lo t,.int hi u,.int 1 v] }).objs.size],_,_,H,rfl,
  I1.kept (t':=tk) fun b o e=>Heap.get?_push_of_some _ e,Dq _ lo (hi-lo).toNat,?_,fun b hb=>?_,q⟩
 · have e1:lo+((0:Nat):Int)*1=lo:=by simp
   have e2:(((hi-lo).toNat:Nat):Int)-((0:Nat):Int)=Builtin.Range.rangeSize lo hi 1:=by rw[rangeSize_one];split<;>omega
   show IsRangeIter _ _ (lo+((0:Nat):Int)*1) ((((hi-lo).toNat:Nat):Int)-((0:Nat):Int)) 1;rw[e1,e2];exact Heap.get?_push_size _ rfl
 · have e:b=(s.heap.push { cls:=.type "range",data:=.fields #[.int lo t,.int hi u,.int 1 v] }).objs.size:=by simpa using hb
   subst e;exact I1.za4 (zfU _) (I1.hok.fresh (zfU _))
def M5(ta:TA):TI:=fun σ H R=>ta σ H fun vs H1=>∃j:Int,vs=[.int j]/\-(2^62)<=j/\j<2^62/\R (A2 0 j.toNat) H1
def N5(ta:TA):TI:=fun σ H R=>ta σ H fun vs H1=>∃i j:Int,vs=[.int i,.int j]/\(-(2^62)<=i/\i<2^62/\-(2^62)<=j/\j<2^62)/\R (A2 i (j-i).toNat) H1
theorem Mv {a:Expr} {ta:TA} {p pos:Pos} (hg:Gl X "range") (hm:X.mg "range" =none) (ha:PA X [a] ta) (hs:autoParam (starEach [a] X.env=[(false,eval a X.env)]) zqR._auto_1):PI X tg (.Call (.Name "range" p) [a] [] pos) (M5 ta):=by
 intro pins s σ H R I h;refine Call_ (SH I hg hm boot_range (PyProof.Rows.callWith_type1 (HB (ha pos pins s σ H _ I h) fun us s1 zz=>?_) hs rfl));obtain⟨vs,H1,I1,r1,q1⟩:=zz;obtain⟨j,e,q1,q2,q⟩:=q1;subst e;cases r1 with
 | cons r rr=>cases rr;obtain⟨t,rfl⟩:=r;exact call_range_1 (NY I1 (by omega) (by omega) q1 q2 (by simpa using q))
theorem Nv {a b:Expr} {ta:TA} {p pos:Pos} (hg:Gl X "range") (hm:X.mg "range" =none) (ha:PA X [a,b] ta) (hs:autoParam (starEach [a,b] X.env=[(false,eval a X.env),(false,eval b X.env)]) zqR._auto_1) (hs2:autoParam (starEach [b] X.env=[(false,eval b X.env)]) zqR._auto_1) :
 PI X tg (.Call (.Name "range" p) [a,b] [] pos) (N5 ta):=by
 intro pins s σ H R I h;refine Call_ (SH I hg hm boot_range (PyProof.Rows.callWith_type1 (HB (ha pos pins s σ H _ I h) fun us s1 zz=>?_) (by rw[hs,hs2]) (by rw[hs2];rfl)));obtain⟨vs,H1,I1,r1,q1⟩:=zz;obtain⟨i,j,e,⟨q1,q2,q3,q4⟩,q⟩:=q1;subst e;cases r1 with
 | cons r rr=>
  cases rr with
  | cons r' rr=>cases rr;obtain⟨t,rfl⟩:=r;obtain⟨t',rfl⟩:=r';exact call_range_2 (NY I1 q1 q2 q3 q4 q)
def Z4(wi:TI)(g:TG)(tb:TS):TS:=fun D σ H=>wi σ H fun J H1=>∃W:Nat->Nat->St->Hp->Prop,(∃m,W 0 m σ H1)/\∀i m σ H,W i m σ H->
 (J.stop i H/\D.nx σ H)\/(J.go i H/\∃N:St->Hp->Prop,(∀σ' H',N σ' H'->∃m',m'<m/\W (i+1) m' σ' H')/\∀x H',J.yld i H x H'->g x σ H' fun σ2 H2=>tb { D with nx:=N,ct:=N,bk:=D.nx } σ2 H2)
noncomputable def RL(fp:List Addr)(h:Heap):List (Addr×Obj):=fp.filterMap fun b=>(h.get? b).map fun o=>(b,o)
theorem MN{fp:List Addr}{h:Heap}{b:Addr}{o:Obj}(hb:b∈fp)(e:h.get? b=some o):(b,o)∈RL fp h:=mem_filterMap.mpr ⟨b,hb,by rw[e];rfl⟩
theorem Zq{fp:List Addr}{h:Heap}{p:Addr×Obj}(hp:p∈RL fp h):p.1∈fp/\h.get? p.1=some p.2:=by
 obtain⟨b,hb,e⟩:=mem_filterMap.mp hp;cases q:h.get? b with
 | none=>rw[q]at e;cases e
 | some o=>rw[q]at e;have e':(b,o)=p:=Option.some.inj e;subst e';exact⟨hb,q⟩
theorem Inv.pinned{pins:List (Addr×Obj)}{σ:St}{H:Hp}{s:Shared}{fp:List Addr}(I:Inv X pins σ H s)(hf:∀b∈fp,vF X pins H b)(ho:∀b∈fp,∃o,s.heap.get? b=some o/\∀v,o.data≠.cell v):Inv X (pins++RL fp s.heap) σ H s:=
 I.zaZ fun p hp=>(mem_append.mp hp).elim (fun z=>I.pin p (mem_append_right _ z)) fun z=>by obtain⟨hb,e⟩:=Zq z;obtain⟨f0,f1,f2,Z⟩:=hf p.1 hb;obtain⟨o,e',d⟩:=ho p.1 hb;rw[e]at e';cases e';exact⟨e,f0,f1,f2,d⟩
theorem Inv.zaj{pins pl:List (Addr×Obj)}{σ:St}{H:Hp}{s:Shared}(I:Inv X (pins++pl) σ H s):Inv X pins σ H s:=I.zaZ fun p hp=>I.pin p (mem_append_right _ (mem_append_left _ hp))
theorem d7{iter:Expr}{body:List Stmt}{wi:TI}{g:TG}{tb:TS}{pos:Pos}(hp:PassesOwn (model X.prog X.w) X.A X.env X.xe)(hc:X.calm=true)(hi:PI X tg iter wi)(hg:PG X tg g)(hb:PSs X body tb)
 (hs:autoParam (∀x,foldedSetIterable iter X.env x=pure x) zqP._auto_1):PS X (.For tg iter body [] pos) (Z4 wi g tb):=by
 intro pins s σ H D I h;refine wpAny_For (HB (hi pins s σ H _ I h) fun v s1 h1=>HB h1 fun itv s2 h2=>?_) hs;obtain⟨it,fp,tn,J,H2,e,I2,T,st2,f2,W,⟨m0,w0⟩,turn⟩:=h2;subst e;have stat:∀{H':Hp},(∀b∈fp,H' b=none)->∀b∈fp,vF X pins H' b:=fun hn b hb=>⟨hn b hb,(f2 b hb).2⟩
 refine codeAny_forLoop_any (fun n s'=>∃i σ' H',Inv X pins σ' H' s'/\tn i s'.heap/\(∀b∈fp,H' b=none)/\W i n σ' H') ?_ m0 ⟨0,σ,H2,I2,st2,fun b hb=>(f2 b hb).1,w0⟩;rintro n s3 ⟨i,σ3,H3,I3,st3,fr3,w3⟩;rcases turn i n σ3 H3 w3 with⟨stop,qn⟩ | ⟨go,N,hN,step⟩
 · refine wpAny_passesOwn hp (HB (T.done X rfl rfl rfl hc i pins s3 σ3 H3 X.xe I3 (stat fr3) st3 stop) fun r s4 zz=>?_);obtain⟨hr,I4⟩:=zz;subst hr;exact wpAny_execs_nil ⟨σ3,H3,I4,qn⟩
 · refine wpAny_passesOwn hp (HB (T.item X rfl rfl rfl hc i pins s3 σ3 H3 X.xe I3 (stat fr3) st3 go) fun r s4 zz=>?_);obtain⟨u,hr,h4⟩:=zz;subst hr;refine wpAny_passesOwn hp (HB h4 fun Z s5 zz=>?_);obtain⟨x,H5,I5,r5,y5,st5,fr5⟩:=zz;have I5':=I5.pinned (stat fr5) (T.obj _ _ st5);refine wpAny_passesOwn hp (HB (hg _ s5 σ3 H5 x u _ I5' r5 (step x H5 y5)) fun Z s6 zz=>?_);obtain⟨σ6,H6,I6,q6⟩:=zz;refine wpAny_passesOwn hp (HB (hb _ s6 σ6 H6 _ I6 q6) fun f s7 q7=>?_);have again:∀{σ7:St}{H7:Hp},Inv X (pins++RL fp s5.heap) σ7 H7 s7->N σ7 H7->∃m,m<n/\∃i σ' H',Inv X pins σ' H' s7/\tn i s7.heap/\(∀b∈fp,H' b=none)/\W i m σ' H':=fun {σ7 H7} I7 n7=>by obtain⟨m',hm,w7⟩:=hN σ7 H7 n7;refine⟨m',hm,i+1,σ7,H7,I7.zaj,T.keep _ _ _ st5 fun b hb o e=>(I7.pin (b,o) (mem_append_right _ (mem_append_right _ (MN hb e)))).1,fun b hb=>?_,w7⟩;obtain⟨o,e,d⟩:=T.obj _ _ st5 b hb;exact(I7.pin (b,o) (mem_append_right _ (mem_append_right _ (MN hb e)))).2.1
   cases f with
   | next=>obtain⟨σ7,H7,I7,n7⟩:=q7;exact again I7 n7
   | cont=>obtain⟨σ7,H7,I7,n7⟩:=q7;exact again I7 n7
   | brk=>obtain⟨σ7,H7,I7,q7⟩:=q7;exact⟨σ7,H7,I7.zaj,q7⟩
   | ret v=>obtain⟨x7,σ7,H7,I7,r7,q7⟩:=q7;exact⟨x7,σ7,H7,I7.zaj,r7,q7⟩
end
abbrev R2:=V->V->Hp->VK->Prop
def Bp(X:Cx)(f:Value->Value->Sem Value)(r:R2):Prop:=
 ∀(pins:List (Addr×Obj))(s:Shared)(σ:St)(H:Hp)(x y:V)(v u:Value)(Q:VK),Inv X pins σ H s->RelV x v->RelV y u->r x y H Q->
  wpAny (model X.prog X.w) X.A (f v u) (EP X pins σ Q) X.xe s
def K2(X:Cx)(f:Value->Sem Value)(r:V->Hp->VK->Prop):Prop:=
 ∀(pins:List (Addr×Obj))(s:Shared)(σ:St)(H:Hp)(x:V)(v:Value)(Q:VK),Inv X pins σ H s->RelV x v->r x H Q->
  wpAny (model X.prog X.w) X.A (f v) (EP X pins σ Q) X.xe s
def Hl(X:Cx)(f:Value)(r:List V->Hp->VK->Prop):Prop:=
 ∀(pins:List (Addr×Obj))(s:Shared)(σ:St)(H:Hp)(xs:List V)(us:List Value)(Q:VK),Inv X pins σ H s->Vals xs us->r xs H Q->
  wpAny (model X.prog X.w) X.A (call f us) (EP X pins σ Q) X.xe s
noncomputable def cW(r:R2)(ta tb:TE):TE:=fun σ H Q=>ta σ H fun x H1=>tb σ H1 fun y H2=>r x y H2 Q
noncomputable def Vc(r:V->Hp->VK->Prop)(ta:TE):TE:=fun σ H Q=>ta σ H fun x H1=>r x H1 Q
noncomputable def rI(C:Int->Int->Prop)(g:Int->Int->V):R2:=fun x y H Q=>∃i j,x=.int i/\y=.int j/\C i j/\Q (g i j) H
noncomputable def CK(g:Int->Int->V):R2:=fun x y H Q=>∃i j,x=.int i/\y=.int j/\Q (g i j) H
noncomputable def rU(g:Int->V):V->Hp->VK->Prop:=fun x H Q=>∃i,x=.int i/\Q (g i) H
section
variable{X:Cx}{a b c:Expr}{ta tb tc:TE}{pos:Pos}
theorem QP(ha:PE X a ta)(hb:PE X b tb){pins:List (Addr×Obj)}{s:Shared}{σ:St}{H:Hp}{R:V->V->Hp->Prop}(I:Inv X pins σ H s)
 (h:ta σ H fun x H1=>tb σ H1 fun y H2=>R x y H2) {Q:Value->Shared->Prop} {f:Value->Value->Sem Value}
 (hf:∀v u s2 x y H2,Inv X pins σ H2 s2->RelV x v->RelV y u->R x y H2->wpAny (model X.prog X.w) X.A (f v u) Q X.xe s2) :
 wpAny (model X.prog X.w) X.A (eval a X.env) (fun v s₁=>wpAny (model X.prog X.w) X.A (eval b X.env) (fun u s₂=>wpAny (model X.prog X.w) X.A (f v u) Q X.xe s₂) X.xe s₁) X.xe s:=by
 refine HB (ha pins s σ H _ I h) fun v s1 zz=>?_
 obtain⟨x,H1,I1,r1,q1⟩:=zz;refine HB (hb pins s1 σ H1 _ I1 q1) fun u s2 zz=>?_
 obtain⟨y,H2,I2,r2,q2⟩:=zz;exact hf v u s2 x y H2 I2 r1 r2 q2
theorem uV{op:Operator}{r:R2}(ho:Bp X (binaryOp op) r)(ha:PE X a ta)(hb:PE X b tb):PE X (.BinOp a op b pos) (cW r ta tb):=by intro pins s σ H Q I h;exact wpAny_BinOp (QP ha hb I h fun v u s2 x y H2 I2 rx ry q=>ho pins s2 σ H2 x y v u Q I2 rx ry q)
theorem T1{op:UnaryOp}{r:V->Hp->VK->Prop}(ho:K2 X (unaryOp op) r)(ha:PE X a ta):PE X (.UnaryOp op a pos) (Vc r ta):=by intro pins s σ H Q I h;exact UnaryOp_ (HB (ha pins s σ H _ I h) fun v s1 ⟨x,H1,I1,r1,q1⟩=>ho pins s1 σ H1 x v Q I1 r1 q1)
theorem EV{f:Value->Value->Sem Value}{C:Int->Int->Prop}{g:Int->Int->Int}
 (rule:∀(i j:Int)(t u:Tok)(s:Shared)(Q:Value->Shared->Prop)(E:Value->Shared->Prop),C i j->Q (.int (g i j) s.toks) { s with toks:=s.toks+1 }->wpAny (model X.prog X.w) X.A (f (.int i t) (.int j u)) Q E s) :
 Bp X f (rI C fun i j=>.int (g i j)):=by
 intro pins s σ H x y v u Q I rx ry h;obtain⟨i,j,rfl,rfl,hc,q⟩:=h;obtain⟨t,rfl⟩:=rx;obtain⟨t',rfl⟩:=ry;exact rule i j t t' s _ _ hc ⟨.int (g i j),H,I.tok _,⟨_,rfl⟩,q⟩
theorem HM{f:Value->Value->Sem Value}{g:Int->Int->Int}
 (rule:∀(i j:Int)(t u:Tok)(s:Shared)(Q:Value->Shared->Prop)(E:Value->Shared->Prop),Q (.int (g i j) s.toks) { s with toks:=s.toks+1 }->wpAny (model X.prog X.w) X.A (f (.int i t) (.int j u)) Q E s) :
 Bp X f (CK fun i j=>.int (g i j)):=by
 intro pins s σ H x y v u Q I rx ry h;obtain⟨i,j,rfl,rfl,q⟩:=h;obtain⟨t,rfl⟩:=rx;obtain⟨t',rfl⟩:=ry;exact rule i j t t' s _ _ ⟨.int (g i j),H,I.tok _,⟨_,rfl⟩,q⟩
theorem FM{f:Value->Value->Sem Value}{g:Int->Int->Bool}
 (rule:∀(i j:Int)(t u:Tok)(s:Shared)(Q:Value->Shared->Prop)(E:Value->Shared->Prop),Q (.bool (g i j)) s->wpAny (model X.prog X.w) X.A (f (.int i t) (.int j u)) Q E s) :
 Bp X f (CK fun i j=>.bl (g i j)):=by
 intro pins s σ H x y v u Q I rx ry h;obtain⟨i,j,rfl,rfl,q⟩:=h;obtain⟨t,rfl⟩:=rx;obtain⟨t',rfl⟩:=ry;exact rule i j t t' s _ _ ⟨.bl (g i j),H,I,rfl,q⟩
noncomputable def iK(i j:Int):Prop:=0<j/\j<1073741824
noncomputable def vH(i j:Int):Prop:=0<=j/\j<=1000000/\i.natAbs<2^64
noncomputable def zaI(i j:Int):Prop:=(-(2^64)<i/\i<2^64)\/(-(2^64)<j/\j<2^64)
theorem zaI.ok{i j:Int}(h:zaI i j):IntMulOk i j:=by
 rcases h with⟨h1,h2⟩ | ⟨h1,h2⟩
 · exact .of_left (intBits_le_64 h1 h2)
 · exact .of_right (intBits_le_64 h1 h2)
theorem Fq(k:Nat):(0:Int)<=2^k:=by rw[two_pow_cast];exact Int.natCast_nonneg _
theorem Ut:Bp X (binaryOp .Add) (CK fun i j=>.int (i+j)):=HM fun Z Z Z Z Z Z Z q=>add_int q
theorem J6:Bp X (binaryOp .Sub) (CK fun i j=>.int (i-j)):=HM fun Z Z Z Z Z Z Z q=>sub_int q
theorem Zt:Bp X (binaryOp .Mult) (rI zaI fun i j=>.int (i*j)):=EV fun Z Z Z Z Z Z Z hc q=>mul_int q hc.ok
theorem Wg:Bp X (binaryOp .FloorDiv) (rI iK fun i j=>.int (i/j)):=EV fun i j Z Z Z Z Z hc q=>by have h1:(0:Int)<j:=hc.1;have h2:j<1073741824:=hc.2;exact floordiv_int (by omega) (by rw[Int.fdiv_eq_ediv_of_nonneg i (by omega)];exact q) (.inl (PyProof.noPylong_small (by omega)))
theorem Yt:Bp X (binaryOp .Mod) (rI (fun Z j=>0<j) fun i j=>.int (i%j)):=EV fun i j Z Z Z Z Z hc q=>by have h1:(0:Int)<j:=hc;exact mod_int' (by omega) (by rw[Int.fmod_eq_emod_of_nonneg i (by omega)];exact q)
theorem C6:Bp X (binaryOp .Pow) (rI vH fun i j=>.int (i^j.toNat)):=EV fun Z Z Z Z Z Z Z hc q=>pow_int_small hc.1 hc.2.1 hc.2.2 q
theorem D6:Bp X (binaryOp .LShift) (rI vH fun i j=>.int (i*2^j.toNat)):=EV fun Z Z Z Z Z Z Z hc q=>lshift_int_small hc.1 hc.2.1 hc.2.2 q
theorem F6:Bp X (binaryOp .RShift) (rI (fun Z j=>0<=j) fun i j=>.int (i/2^j.toNat)):=EV fun i j Z Z Z Z Z hc q=>rshift_int hc (by rw[Int.fdiv_eq_ediv_of_nonneg i (Fq _)];exact q)
theorem Vt:Bp X (binaryOp .BitAnd) (CK fun i j=>.int (Builtin.bitAnd i j)):=HM fun Z Z Z Z Z Z Z q=>and_int q
theorem o8:Bp X (binaryOp .BitOr) (CK fun i j=>.int (Builtin.bitOr i j)):=HM fun Z Z Z Z Z Z Z q=>or_int q
theorem jc{f:Value->Sem Value}{g:Int->Int}
 (rule:∀(i:Int)(t:Tok)(s:Shared)(Q:Value->Shared->Prop)(E:Value->Shared->Prop),Q (.int (g i) s.toks) { s with toks:=s.toks+1 }->wpAny (model X.prog X.w) X.A (f (.int i t)) Q E s) :
 K2 X f (rU fun i=>.int (g i)):=by
 intro pins s σ H x v Q I rx h;obtain⟨i,rfl,q⟩:=h;obtain⟨t,rfl⟩:=rx;exact rule i t s _ _ ⟨.int (g i),H,I.tok _,⟨_,rfl⟩,q⟩
theorem k6:K2 X (unaryOp .USub) (rU fun i=>.int (-i)):=jc fun Z Z Z Z Z q=>neg_int q
theorem j6:K2 X (unaryOp .Invert) (rU fun i=>.int (Builtin.bitNot i)):=jc fun Z Z Z Z Z q=>invert_int q
end
noncomputable def KM:V->V->Bool
 | .non,.non=>true | .non,.int _=>true | .int _,.non=>true | .non,.bl _=>true | .bl _,.non=>true | .non,.str _=>true | .str _,.non=>true
 | .int _,.int _=>true | .bl _,.bl _=>true | .str _,.str _=>true | .byt _,.byt _=>true
 | .int _,.str _=>true | .str _,.int _=>true | .bl _,.str _=>true | .str _,.bl _=>true
 | _,_=>false
def Bc:R2:=fun x y H Q=>KM x y=true/\Q (.bl (decide (x=y))) H
def Dc:R2:=fun x y H Q=>KM x y=true/\Q (.bl (!decide (x=y))) H
theorem CY{i j:Int}:decide (V.int i=V.int j)=(i==j):=by rw[Bool.eq_iff_iff];simp
theorem QZ{i j:Bool}:decide (V.bl i=V.bl j)=(i==j):=by rw[Bool.eq_iff_iff];simp
theorem DY{i j:Str}:decide (V.str i=V.str j)=(i==j):=by rw[Bool.eq_iff_iff];simp
theorem BY{i j:Array UInt8}:decide (V.byt i=V.byt j)=(i.toList==j.toList):=by rw[Bool.eq_iff_iff];cases i;cases j;simp
section
variable{X:Cx}{a b c:Expr}{ta tb tc:TE}{pos:Pos}
theorem AC{pins:List (Addr×Obj)}{σ:St}{H:Hp}{s:Shared}{Q:VK}{k k':Bool}(I:Inv X pins σ H s)(q:Q (.bl k) H)(e:k=k'):EP X pins σ Q (.bool k') s:=by subst e;exact⟨.bl k,H,I,rfl,q⟩
theorem e8:Bp X (compareOp .Eq) Bc:=by
 intro pins s σ H x y v u Q I rx ry h;obtain⟨hs,q⟩:=h;cases x with
 | non=>
  cases rx;cases y with
  | non=>cases ry;exact PySem.EqNone.eq_none_none (AC I q (by simp))
  | bl j=>cases ry;exact PySem.EqNone.eq_none_bool (AC I q (by simp))
  | int j=>obtain⟨t',rfl⟩:=ry;exact PySem.EqNone.eq_none_int (AC I q (by simp))
  | str j=>obtain⟨t',rfl⟩:=ry;exact PySem.EqNone.eq_none_str (AC I q (by simp))
  | _=>exact absurd (show false=true from hs) zfT
 | bl i=>
  cases rx;cases y with
  | non=>cases ry;exact PySem.EqNone.eq_bool_none (AC I q (by simp))
  | bl j=>cases ry;exact eq_bool (AC I q QZ)
  | str j=>obtain⟨t',rfl⟩:=ry;exact PySem.EqMixed.eq_bool_str (AC I q (by simp))
  | _=>exact absurd (show false=true from hs) zfT
 | int i=>
  obtain⟨t,rfl⟩:=rx;cases y with
  | non=>cases ry;exact PySem.EqNone.eq_int_none (AC I q (by simp))
  | int j=>obtain⟨t',rfl⟩:=ry;exact eq_int (AC I q CY)
  | str j=>obtain⟨t',rfl⟩:=ry;exact PySem.EqMixed.eq_int_str (AC I q (by simp))
  | _=>exact absurd (show false=true from hs) zfT
 | str i=>
  obtain⟨t,rfl⟩:=rx;cases y with
  | non=>cases ry;exact PySem.EqNone.eq_str_none (AC I q (by simp))
  | bl j=>cases ry;exact PySem.EqMixed.eq_str_bool (AC I q (by simp))
  | int j=>obtain⟨t',rfl⟩:=ry;exact PySem.EqMixed.eq_str_int (AC I q (by simp))
  | str j=>obtain⟨t',rfl⟩:=ry;exact eq_str (AC I q DY)
  | _=>exact absurd (show false=true from hs) zfT
 | byt i=>
  obtain⟨t,rfl⟩:=rx;cases y with
  | byt j=>obtain⟨t',rfl⟩:=ry;exact PySem.W.eq_bytes (AC I q BY)
  | _=>exact absurd (show false=true from hs) zfT
 | _=>cases y<;>exact absurd (show false=true from hs) zfT
theorem n8:Bp X (compareOp .NotEq) Dc:=by
 intro pins s σ H x y v u Q I rx ry h;obtain⟨hs,q⟩:=h;cases x with
 | non=>
  cases rx;cases y with
  | non=>cases ry;exact PySem.EqNone.ne_none_none (AC I q (by simp))
  | bl j=>cases ry;exact PySem.EqNone.ne_none_bool (AC I q (by simp))
  | int j=>obtain⟨t',rfl⟩:=ry;exact PySem.EqNone.ne_none_int (AC I q (by simp))
  | str j=>obtain⟨t',rfl⟩:=ry;exact PySem.EqNone.ne_none_str (AC I q (by simp))
  | _=>exact absurd (show false=true from hs) zfT
 | bl i=>
  cases rx;cases y with
  | non=>cases ry;exact PySem.EqNone.ne_bool_none (AC I q (by simp))
  | bl j=>cases ry;exact ne_bool (AC I q (congrArg not QZ))
  | str j=>obtain⟨t',rfl⟩:=ry;exact PySem.EqMixed.ne_bool_str (AC I q (by simp))
  | _=>exact absurd (show false=true from hs) zfT
 | int i=>
  obtain⟨t,rfl⟩:=rx;cases y with
  | non=>cases ry;exact PySem.EqNone.ne_int_none (AC I q (by simp))
  | int j=>obtain⟨t',rfl⟩:=ry;exact ne_int (AC I q (congrArg not CY))
  | str j=>obtain⟨t',rfl⟩:=ry;exact PySem.EqMixed.ne_int_str (AC I q (by simp))
  | _=>exact absurd (show false=true from hs) zfT
 | str i=>
  obtain⟨t,rfl⟩:=rx;cases y with
  | non=>cases ry;exact PySem.EqNone.ne_str_none (AC I q (by simp))
  | bl j=>cases ry;exact PySem.EqMixed.ne_str_bool (AC I q (by simp))
  | int j=>obtain⟨t',rfl⟩:=ry;exact PySem.EqMixed.ne_str_int (AC I q (by simp))
  | str j=>obtain⟨t',rfl⟩:=ry;exact ne_str (AC I q (congrArg not DY))
  | _=>exact absurd (show false=true from hs) zfT
 | byt i=>
  obtain⟨t,rfl⟩:=rx;cases y with
  | byt j=>obtain⟨t',rfl⟩:=ry;exact PySem.W.ne_bytes (AC I q (congrArg not BY))
  | _=>exact absurd (show false=true from hs) zfT
 | _=>cases y<;>exact absurd (show false=true from hs) zfT
theorem k8:Bp X (compareOp .Lt) (CK fun i j=>.bl (decide (i<j))):=FM fun Z Z Z Z Z Z Z q=>lt_int q
theorem j8:Bp X (compareOp .LtE) (CK fun i j=>.bl (decide (i<=j))):=FM fun Z Z Z Z Z Z Z q=>le_int q
theorem i8:Bp X (compareOp .Gt) (CK fun i j=>.bl (decide (j<i))):=FM fun Z Z Z Z Z Z Z q=>gt_int q
theorem g8:Bp X (compareOp .GtE) (CK fun i j=>.bl (decide (j<=i))):=FM fun Z Z Z Z Z Z Z q=>ge_int q
theorem Wt:Bp X (compareOp .Is) (fun x y H Q=>y=.non/\Q (.bl (decide (x=.non))) H):=by
 intro pins s σ H x y v u Q I rx ry h;obtain⟨rfl,q⟩:=h;cases ry;refine is_none_gen (AC I q ?_);cases x<;>first
  | (cases rx;rfl)
  | (obtain⟨t,rfl⟩:=rx;rfl)
theorem HZ(b:Expr){op:CmpOp}(h:autoParam (op≠.In) zqQ._auto_1)(h2:autoParam (op≠.NotIn) zqQ._auto_1):behindInMarks op b=false:=by
 have e1:(op==CmpOp.In)=false:=by cases op<;>first | rfl | exact absurd rfl h
 have e2:(op==CmpOp.NotIn)=false:=by cases op<;>first | rfl | exact absurd rfl h2
 cases b<;>simp[behindInMarks,e1,e2]
theorem Zg{op:CmpOp}{r:R2}(ho:Bp X (compareOp op) r)(ha:PE X a ta)(hb:PE X b tb)(hm:behindInMarks op b=false):PE X (.Compare a [op] [b] pos) (cW r ta tb):=by intro pins s σ H Q I h;exact wpAny_Compare1 (QP ha hb I h fun v u s2 x y H2 I2 rx ry q=>ho pins s2 σ H2 x y v u Q I2 rx ry q) hm
noncomputable def L7(t:TE):TT:=fun σ H Q=>t σ H fun x H'=>∃k,x=.bl k/\Q k H'
theorem Ih{op:CmpOp}{r:R2}(ho:Bp X (compareOp op) r)(ha:PE X a ta)(hb:PE X b tb)(hm:behindInMarks op b=false):PT X (.Compare a [op] [b] pos) (L7 (cW r ta tb)):=by
 intro pins s σ H Q I h;refine wpAny_isTrue_Compare1 (HB (ha pins s σ H _ I h) fun v s1 ⟨x,H1,I1,r1,q1⟩=>HB (hb pins s1 σ H1 _ I1 q1) fun u s2 ⟨y,H2,I2,r2,q2⟩=>
  HB (ho pins s2 σ H2 x y v u _ I2 r1 r2 q2) fun c s3 ⟨z,H3,I3,r3,k,e,q3⟩=>?_) hm
 subst e;cases r3;exact wpAny_truthy_bool ⟨H3,I3,q3⟩
noncomputable def K0(r r':R2)(ta tb tc:TE):TE:=fun σ H Q=>ta σ H fun x H1=>tb σ H1 fun y H2=>r x y H2 fun z H3=>∃k,z=.bl k/\
 (if k=true then tc σ H3 fun w' H4=>r' y w' H4 Q else Q (.bl false) H3)
theorem Gw{op op':CmpOp}{r r':R2}(ho:Bp X (compareOp op) r)(ho':Bp X (compareOp op') r')(ha:PE X a ta)(hb:PE X b tb)(hc:PE X c tc)
 (hm:autoParam (lastMarks [op,op'] [b,c]=false) zqq._auto_1):PE X (.Compare a [op,op'] [b,c] pos) (K0 r r' ta tb tc):=by
 intro pins s σ H Q I h;refine Compare_chain (HB (ha pins s σ H _ I h) fun v s1 ⟨x,H1,I1,r1,q1⟩=>chain_link (HB (hb pins s1 σ H1 _ I1 q1) fun u s2 ⟨y,H2,I2,r2,q2⟩=>
  HB (ho pins s2 σ H2 x y v u _ I2 r1 r2 q2) fun d s3 ⟨z,H3,I3,r3,k,e,q3⟩=>?_)) hm
 subst e;cases r3;refine wpAny_truthy_bool ?_;cases k with
 | false=>exact ite_ff ⟨.bl false,H3,I3,rfl,q3⟩
 | true=>exact ite_tt (chain_last (HB (hc pins s3 σ H3 _ I3 q3) fun w' s4 ⟨z',H4,I4,r4,q4⟩=>ho' pins s4 σ H4 y z' u w' Q I4 r2 r4 q4))
theorem JI:(sizeLine:Nat)<2^63:=by rw[sizeLine_eq];decide
theorem TF{x:V}{us:List Value}(r:Vals [x] us):∃u,us=[u]/\RelV x u:=by
 cases r with
 | cons r1 r2=>cases r2;exact⟨_,rfl,r1⟩
theorem lV{x y:V}{us:List Value}(r:Vals [x,y] us):∃u w',us=[u,w']/\RelV x u/\RelV y w':=by
 cases r with
 | cons r1 r2=>
  cases r2 with
  | cons r3 r4=>cases r4;exact⟨_,_,rfl,r1,r3⟩
theorem Xj (hc:X.calm=true):Hl X (.builtin "max") (fun xs H Q=>∃i j,xs=[.int i,.int j]/\Q (.int (if j>i then j else i)) H):=by
 intro pins s σ H xs us Q I r h;obtain⟨i,j,rfl,q⟩:=h;obtain⟨u,w',rfl,⟨t,rfl⟩,⟨t',rfl⟩⟩:=lV r;refine max_two_ints (I.ok.hd hc) fun h' tk k=>⟨_,H,I.kept k,?_,q⟩
 by_cases hj:j>i
 · rw[if_pos hj,if_pos hj];exact⟨_,rfl⟩
 · rw[if_neg hj,if_neg hj];exact⟨_,rfl⟩
theorem Zj (hc:X.calm=true):Hl X (.builtin "min") (fun xs H Q=>∃i j,xs=[.int i,.int j]/\Q (.int (if j<i then j else i)) H):=by
 intro pins s σ H xs us Q I r h;obtain⟨i,j,rfl,q⟩:=h;obtain⟨u,w',rfl,⟨t,rfl⟩,⟨t',rfl⟩⟩:=lV r;refine min_two_ints (I.ok.hd hc) fun h' tk k=>⟨_,H,I.kept k,?_,q⟩
 by_cases hj:j<i
 · rw[if_pos hj,if_pos hj];exact⟨_,rfl⟩
 · rw[if_neg hj,if_neg hj];exact⟨_,rfl⟩
theorem Wj:Hl X (.type "int") (fun xs H Q=>(∃i,xs=[.int i]/\Q (.int i) H)\/∃k,xs=[.bl k]/\Q (.int (if k then 1 else 0)) H):=by
 intro pins s σ H xs us Q I r h;rcases h with⟨i,rfl,q⟩ | ⟨k,rfl,q⟩
 · obtain⟨u,rfl,t,rfl⟩:=TF r;exact call_int_int ⟨.int i,H,I,⟨_,rfl⟩,q⟩
 · obtain⟨u,rfl,r1⟩:=TF r;cases r1;exact call_int_bool ⟨.int (if k then 1 else 0),H,I.tok _,⟨_,rfl⟩,q⟩
end
structure zaP(h:Heap)(x dx C:Addr)(mA:Str->Option Value):Prop where
 obj:h.get? x=some (PySem.W.instObj C dx)
 ns:h.Ns1 dx mA
 ne:dx≠x
theorem Ox{h:Heap}{dx:Addr}{mA:Str->Option Value}(n:h.Ns1 dx mA):∃od,h.get? dx=some od/\∀name,PySem.W.lookIn name od=some (mA name):=by
 obtain⟨o,es,ep,ho,hd,hk,Z,hm⟩:=n;refine⟨o,ho,fun name=>?_⟩;have e:=hm name;unfold nsFind findBy at e;rw[<- Array.find?_toList]at e;unfold PySem.W.lookIn;rw[hd];dsimp only;split
 · rename_i y q;rw[q]at e;exact congrArg some e
 · rename_i q;rw[q]at e;have a:es.toList.any (·.refKey)=false:=by rw[any_eq_false];intro y hy;obtain⟨z,t,hkey⟩:=hk y (Array.mem_toList_iff.mp hy);simp[DictEntry.refKey,hkey]
   have a':¬es.toList.any (·.refKey)=true:=by rw[a];exact zfT
   rw[if_neg a'];exact congrArg some e
theorem zaP.look{h:Heap}{x dx C:Addr}{mA:Str->Option Value}(I:zaP h x dx C mA):∃od,PySem.W.InstAt h x (PySem.W.instObj C dx) C (some od)/\∀name,PySem.W.lookIn name od=some (mA name):=
 let ⟨od,ho,hl⟩:=Ox I.ns
 ⟨od,⟨I.obj,rfl,rfl,ho⟩,hl⟩
section
variable{prog:Program}{w:World}{A:Around}{E:Value->Shared->Prop}{s:Shared}{K:Frag}{x dx C f:Addr}{mA:Str->Option Value}{name:Str}{v:Value}
theorem Ph{expr:Bool}{Q:Value->Shared->Prop}(X:K.In s.heap)(I:zaP s.heap x dx C mA)(hg:PySem.W.plainGet K C name=true)(hh:PySem.W.hasDictIn K C=true)
 (ha:findIn K (.ref C) name=some none) (hv:mA name=some v) (hv':PySem.W.handedIn v=true) (h:Q v { s with toks:=s.toks+1 }) :
 wpAny (model prog w) A (getAttr (.ref x) name expr) Q E s:=by
 obtain⟨od,J,hl⟩:=I.look;exact PySem.W.get_value X J (PySem.W.plainGet_of hg).1 (PySem.W.findObj_own hh ha rfl (by rw[hl,hv])) hv' h
theorem Bk{pl:Sem Bool}{Q:Value×List Value->Shared->Prop}(X:K.In s.heap)(I:zaP s.heap x dx C mA)(hg:PySem.W.plainGet K C name=true)
 (hf:findIn K (.ref C) name=some (some (.ref f))) (ht:PySem.W.isFn K (.ref f)=true) (hv:mA name=none) (h:Q (.ref f,[.ref x]) s) :
 wpAny (model prog w) A (getMethod (.ref x) name pl) Q E s:=by
 obtain⟨od,J,hl⟩:=I.look;exact PySem.W.method_fn X J (PySem.W.plainGet_of hg).1 (PySem.W.plainGet_of hg).2 hf (beq_iff_eq.mp ht) (by show(PySem.W.lookIn name od).map (·.isSome)=some false;rw[hl,hv];rfl) h
theorem Mg{ns:List Str}{Q:Unit->Shared->Prop}(X:K.In s.heap)(I:zaP s.heap x dx C mA)
 (hs:findIn K (.ref C) "__setattr__" =some (some (.builtin "object.__setattr__"))) (hp:PySem.W.plainOver K C=true) (ht:PySem.W.takerIn K C name=some none) (hh:PySem.W.hasDictIn K C=true)
 (hw:PySem.Within mA ns) (hsz:ns.length<=sizeLine)
 (h:∀h',zaP h' x dx C (fun y=>if y=name then some v else mA y)->Heap.SameBut dx s.heap h'->Q () { s with heap:=h',toks:=s.toks+2 }) :
 wpAny (model prog w) A (setAttr (.ref x) name v) Q E s:=by
 obtain⟨od,J,hl⟩:=I.look;refine PySem.W.set_plain X J hs (PySem.W.osa_open (s:={ s with toks:=s.toks+1 }) (r:=none) X J hp ht fun b=>?_);obtain⟨cd,hc,hd'⟩:=PySem.W.any_some hh;have hx:s.heap.get? x=some ⟨.ref C,some dx,.plain,#[]⟩:=I.obj;refine wpAny_bind (wpAny_pure (wpAny_bind (wpAny_bind (wpAny_loadPart hx (wpAny_bind (PySem.W.Looks.here (s:={ s with toks:=s.toks+1 }) (PySem.W.looks_clsIn X hc) ?_))))));rw[hd'];refine wpAny_pure (a:=some dx) (wpAny_bind (wpAny_pure (wpAny_bind ?_)));refine wpAny_nsSet1 (s:={ s with toks:=s.toks+1 }) I.ns fun h' hn2 hs2=>?_
 obtain⟨oD,esD,epD,hoD,hdD,hcD⟩:=hn2.count (PySem.Within.cons name v hw);refine wpAny_bind (wpAny_lookBehind hoD (by rw[hdD];exact pastItsLine_dict (zxA hcD (by rw[zfH];omega))) ?_);exact wpAny_pure (h _ ⟨(hs2.2 _ (Ne.symm I.ne)).trans I.obj,hn2,I.ne⟩ hs2)
theorem Yk{R:Result->Shared->Prop}{vs:List Value}{kw:List (Str×Value)}(X:K.In s.heap)(hm:PySem.W.makesIn K C=true)
 (hi:findIn K (.ref C) "__init__" =some (some (.ref f))) (hf:PySem.W.typeIn K (.ref f)=some (.type "function"))
 (h:codeAny (model prog w) (A.under (.builtin "type.__call__" ⟨.ref C::vs,kw⟩)) (.call (.ref f) ⟨.ref (s.heap.objs.size+1)::vs,kw⟩) (PySem.W.InitBack (s.heap.objs.size+1) R)
  { s with heap:=(s.heap.push PySem.W.emptyDict).push (PySem.W.instObj C s.heap.objs.size) }) :
 codeAny (model prog w) A (.call (.ref C) ⟨vs,kw⟩) R s:=by
 obtain⟨hh,g,d,t,os⟩:=s;exact PySem.W.make_core (PySem.W.makes_of X hm) (PySem.W.looks_findIn X hi) (fun self=>PySem.W.bind_fn X self hf) (.inl rfl) h
end
noncomputable def NB(f:Str)(v:V):List (Str×V)->List (Str×V)
 | []=>[(f,v)]
 | (g,x)::r=>if g=f then(g,v)::r else(g,x)::NB f v r
theorem OW(f g:Str)(v:V):∀fs:List (Str×V),(NB f v fs).lookup g=if g=f then some v else fs.lookup g
 | []=>by
  show List.lookup g [(f,v)]=_;by_cases h:g=f
  · have hb:(g==f)=true:=beq_iff_eq.mpr h;simp only[List.lookup,hb,if_pos h]
  · have hb:(g==f)=false:=beq_eq_false_iff_ne.mpr h;simp only[List.lookup,hb,if_neg h]
 | (k,x)::r=>by
  have ih:=OW f g v r;rw[show NB f v ((k,x)::r)=(if k=f then(k,v)::r else(k,x)::NB f v r)from rfl];by_cases hk:k=f
  · rw[if_pos hk];by_cases h:g=k
    · have hb:(g==k)=true:=beq_iff_eq.mpr h;simp only[List.lookup,hb,if_pos (h.trans hk)]
    · have hb:(g==k)=false:=beq_eq_false_iff_ne.mpr h;simp only[List.lookup,hb,if_neg (fun e:g=f=>h (e.trans hk.symm))]
  · rw[if_neg hk];by_cases h:g=k
    · have hb:(g==k)=true:=beq_iff_eq.mpr h;simp only[List.lookup,hb,if_neg (fun e:g=f=>hk (h.symm.trans e))]
    · have hb:(g==k)=false:=beq_eq_false_iff_ne.mpr h;simp only[List.lookup,hb];exact ih
theorem MS(f:Str)(v:V):∀fs:List (Str×V),f∈(NB f v fs).map (·.1)/\∀g,g∈fs.map (·.1)->g∈(NB f v fs).map (·.1)
 | []=>⟨by simp[NB],fun g h=>by simp at h⟩
 | (k,x)::r=>by
  obtain⟨i1,i2⟩:=MS f v r;rw[show NB f v ((k,x)::r)=(if k=f then(k,v)::r else(k,x)::NB f v r)from rfl];by_cases hk:k=f
  · rw[if_pos hk];subst hk;exact⟨by simp,fun g h=>by simpa using h⟩
  · rw[if_neg hk];refine⟨?_,fun g h=>?_⟩
    · rw[zfJ];exact mem_cons_of_mem _ i1
    · rw[zfJ]at h ⊢;rcases mem_cons.mp h with e | e
      · exact mem_cons.mpr (.inl e)
      · exact mem_cons_of_mem _ (i2 g e)
theorem HW(f:Str)(v:V):∀fs:List (Str×V),(NB f v fs).length<=fs.length+1
 | []=>by simp[NB]
 | (k,x)::r=>by
  have ih:=HW f v r;rw[show NB f v ((k,x)::r)=(if k=f then(k,v)::r else(k,x)::NB f v r)from rfl];by_cases hk:k=f
  · rw[if_pos hk,zfH,zfH];omega
  · rw[if_neg hk,zfH,zfH];omega
theorem zaa.some_of{v:V}{o:Option Value}(r:zaa (some v) o):∃u,o=some u/\RelV v u:=by
 cases o with
 | none=>exact(show False from r).elim
 | some u=>exact⟨u,rfl,r⟩
theorem zaa.none_of{o:Option Value}(r:zaa none o):o=none:=by
 cases o with
 | none=>rfl
 | some u=>exact(show False from r).elim
theorem Fz{v:V}{u:Value}(r:RelV v u):PySem.W.handedIn u=true:=by
 cases v with
 | non=>cases (show u=Value.none from r);rfl
 | bl b=>cases (show u=Value.bool b from r);rfl
 | int i=>obtain⟨t,e⟩:=(show ∃t,u=Value.int i t from r);cases e;rfl
 | str x=>obtain⟨t,e⟩:=(show ∃t,u=Value.str x t from r);cases e;rfl
 | byt b=>obtain⟨t,e⟩:=(show ∃t,u=Value.bytes b t from r);cases e;rfl
 | flt b=>obtain⟨t,e⟩:=(show ∃t,u=Value.float b t from r);cases e;rfl
 | ref a=>cases (show u=Value.ref a from r);rfl
 | ty n=>cases (show u=Value.type n from r);rfl
section
variable{P:Program}{w:World}{H H':Hp}{h h':Heap}{a C dx:Addr}{fs fs':List (Str×V)}
theorem gU(hok:HOk P w H h)(e:H a=some (.ins C dx fs)):∃mA,zaP h a dx C mA/\(∀f,zaa (fs.lookup f) (mA f))/\PySem.Within mA (fs.map (·.1))/\fs.length<=1000/\H dx=some (.own a):=by obtain⟨d,z,ne,ob,mA,n,r,q⟩:=(show Rm P w H h a (.ins C dx fs)from hok a _ e);exact⟨mA,⟨ob,n,ne⟩,r,q,z,d⟩
end
structure Cls(K:Frag)(C:Addr):Prop where
 pg:PySem.W.plainGet K C Str.empty=true
 hd:PySem.W.hasDictIn K C=true
 po:PySem.W.plainOver K C=true
 sa:findIn K (.ref C) "__setattr__" =some (some (.builtin "object.__setattr__"))
theorem Cls.get{K:Frag}{C:Addr}(c:Cls K C)(f:Str):PySem.W.plainGet K C f=true:=c.pg
noncomputable def zae(K:Frag)(C:Addr)(f:Str):Prop:=findIn K (.ref C) f=some none
theorem zae.taker{K:Frag}{C:Addr}{f:Str}(n:zae K C f):PySem.W.takerIn K C f=some none:=by unfold PySem.W.takerIn;rw[show findIn K (.ref C) f=some none from n];rfl
structure kK(K:Frag)(C:Addr)(m:Str)(f:Addr):Prop where
 at_:findIn K (.ref C) m=some (some (.ref f))
 fn:PySem.W.isFn K (.ref f)=true
 kp:keepIn K (.ref f)=true
section
variable{X:Cx}{pins:List (Addr×Obj)}{σ:St}{H:Hp}{s:Shared}{a C dx:Addr}{fs:List (Str×V)}{f:Str}{v:V}{A:Around}{E:Value->Shared->Prop}
theorem Gj{b:Bool}{Q:Value->Shared->Prop}(I:Inv X pins σ H s)(e:H a=some (.ins C dx fs))(c:Cls X.K C)(n:zae X.K C f)(l:fs.lookup f=some v)
 (h:∀u s',Inv X pins σ H s'->RelV v u->Q u s'):wpAny (model X.prog X.w) A (getAttr (.ref a) f b) Q E s:=by
 obtain⟨mA,O,r,Z,Z,Z⟩:=gU I.hok e;obtain⟨u,hu,ru⟩:=zaa.some_of (v:=v) (o:=mA f) (by rw[<- l];exact r f);exact Ph I.kIn O (c.get f) c.hd n hu (Fz ru) (h u _ (I.tok _) ru)
theorem YW{m:Str}{g:Addr}{pl:Sem Bool}{Q:Value×List Value->Shared->Prop}(I:Inv X pins σ H s)(e:H a=some (.ins C dx fs))(c:Cls X.K C)(k:kK X.K C m g)(l:fs.lookup m=none)
 (h:Q (.ref g,[.ref a]) s):wpAny (model X.prog X.w) A (getMethod (.ref a) m pl) Q E s:=by
 obtain⟨mA,O,r,Z,Z,Z⟩:=gU I.hok e;have hn:mA m=none:=zaa.none_of (by rw[<- l];exact r m);exact Bk I.kIn O (c.get m) k.at_ k.fn hn h
theorem Yq{y:V}{u:Value}{Q:Unit->Shared->Prop}(I:Inv X pins σ H s)(e:H a=some (.ins C dx fs))(c:Cls X.K C)(n:zae X.K C f)(hl:fs.length<1000)(ry:RelV y u)
 (h:∀s',Inv X pins σ (PB H a (.ins C dx (NB f y fs))) s'->Q () s'):wpAny (model X.prog X.w) A (setAttr (.ref a) f u) Q E s:=by
 obtain⟨mA,O,r,wi,Z,ho⟩:=gU I.hok e;have hz:(fs.map (·.1)).length<=sizeLine:=by rw[length_map,sizeLine_eq];omega
 refine Mg I.kIn O c.sa c.po n.taker c.hd wi hz fun h' O' sb=>h _ ?_
 have hd:∃o,h'.get? dx=some o:=let ⟨o,_,_,e',_⟩:=O'.ns;⟨o,e'⟩
 refine I.write (x:=a) (e:=dx) (by rw[e];exact True.intro) (.inr ho) (fun b q hb z=>(sb.2 b hb).trans z) hd ?_;refine⟨by rw[ZA O.ne];exact ho,?_,O.ne,O'.obj,_,O'.ns,fun g=>?_,fun g hg=>?_⟩
 · have:=HW f y fs;omega
 · show zaa ((NB f y fs).lookup g) (if g=f then some u else mA g);rw[OW];by_cases q:g=f
   · rw[if_pos q,if_pos q];exact ry
   · rw[if_neg q,if_neg q];exact r g
 · by_cases q:g=f
   · rw[q];exact(MS f y fs).1
   · refine(MS f y fs).2 g (wi g fun z=>hg ?_);show(if g=f then some u else mA g)=none;rw[if_neg q];exact z
theorem Inv.made(I:Inv X pins σ H s):Inv X pins σ (PB (PB H s.heap.objs.size (.own (s.heap.objs.size+1))) (s.heap.objs.size+1) (.ins C s.heap.objs.size []))
 { s with heap:=(s.heap.push PySem.W.emptyDict).push (PySem.W.instObj C s.heap.objs.size) }:=by
 have e1:(s.heap.push PySem.W.emptyDict).get? s.heap.objs.size=some PySem.W.emptyDict:=Heap.get?_push_size s.heap rfl;have e2:((s.heap.push PySem.W.emptyDict).push (PySem.W.instObj C s.heap.objs.size)).get? (s.heap.objs.size+1)=some (PySem.W.instObj C s.heap.objs.size):=by have:=Heap.get?_push_size (s.heap.push PySem.W.emptyDict) (o:=PySem.W.instObj C s.heap.objs.size) rfl;rwa[Heap.size_push]at this
 have e3:(s.heap.push PySem.W.emptyDict).Ns s.heap.objs.size (fun Z=>none):=⟨PySem.W.emptyDict,#[],_,e1,rfl,(fun e he=>absurd he (by simp)),fun Z=>rfl⟩;have I1:=I.laid (a:=s.heap.objs.size) (o:=.own (s.heap.objs.size+1)) (h':=s.heap.push PySem.W.emptyDict) (t':=s.toks) (fun b u q=>Heap.get?_push_of_some _ q) (zfU _) ⟨_,e1⟩;refine I1.laid (a:=s.heap.objs.size+1) (o:=.ins C s.heap.objs.size []) (t':=s.toks) (fun b u q=>Heap.get?_push_of_some _ q) (Nat.le_of_eq (Heap.size_push _ _)) ?_;have ne:s.heap.objs.size≠s.heap.objs.size+1:=zxD (Nat.lt_succ_self _);refine⟨by rw[ZA ne,jD],zxB _,ne,e2,fun Z=>none,(Heap.Ns1.of_empty e3).at fun o q=>Heap.get?_push_of_some _ q,fun Z=>True.intro,fun y hy=>absurd rfl hy⟩
theorem Py{prog:Program}{w:World}{env:Env}{e:Expr}{f:Str}{pos:Pos}{s:Shared}{Q:Value->Shared->Prop}(hb:attributeBase e f env (eval e env)=eval e env)
 (h:wpAny (model prog w) A (eval e env) (fun o s₁=>wpAny (model prog w) A (getAttr o f true) Q E s₁) E s):wpAny (model prog w) A (eval (.Attribute e f pos) env) Q E s:=
 Attribute_any_ h (by rw[arm_eval_Attribute,hb])
end
def Y4(K:Frag)(ta:TE)(f:Str):TE:=fun σ H Q=>ta σ H fun x H1=>∃a C dx fs v,x=.ref a/\H1 a=some (.ins C dx fs)/\Cls K C/\zae K C f/\fs.lookup f=some v/\Q v H1
def W4(K:Frag)(ta tv:TE)(f:Str):TS:=fun D σ H=>tv σ H fun y H1=>ta σ H1 fun x H2=>∃a C dx fs,x=.ref a/\H2 a=some (.ins C dx fs)/\Cls K C/\zae K C f/\fs.length<1000/\
 D.nx σ (PB H2 a (.ins C dx (NB f y fs)))
section
variable{X:Cx}{o e value:Expr}{f:Str}{pos pos' tpos:Pos}{ta tv:TE}
theorem M6(he:PE X e ta)(hb:attributeBase e f X.env (eval e X.env)=eval e X.env):PE X (.Attribute e f pos) (Y4 X.K ta f):=by intro pins s σ H Q I h;refine Py hb (HB (he pins s σ H _ I h) fun u s1 zz=>?_);obtain⟨x,H1,I1,rx,a,C,dx,fs,v,ex,ea,c,n,l,q⟩:=zz;subst ex;obtain rfl:u=Value.ref a:=rx;exact Gj I1 ea c n l fun u' s2 I2 ru=>⟨v,H1,I2,ru,q⟩
theorem b7(ha:PE X o ta)(hv:PE X value tv)(hs:swapsWith value (some (.Attribute o f pos')) pos.line X.env=pure false):PS X (.Assign [.Attribute o f pos'] value pos) (W4 X.K ta tv f):=by intro pins s σ H D I h;refine plainObj_wpAny_Assign_Attribute (HB (hv pins s σ H _ I h) fun u s1 ⟨y,H1,I1,ry,q⟩=>HB (ha pins s1 σ H1 _ I1 q) fun ov s2 zz=>?_) hs;obtain⟨x,H2,I2,rx,a,C,dx,fs,ex,ea,c,n,l,q2⟩:=zz;subst ex;obtain rfl:ov=Value.ref a:=rx;exact Yq I2 ea c n l ry fun s3 I3=>⟨σ,_,I3,q2⟩
theorem Yc{pl:Sem Bool}{m:Str}{apos:Pos}{args:List Expr}{pins:List (Addr×Obj)}{s:Shared}{σ:St}{H:Hp}{Q:Value->Shared->Prop}{te:TE}(he:PE X e te)(I:Inv X pins σ H s)
 (h:te σ H fun x H1=>∃a C dx fs g,x=.ref a/\H1 a=some (.ins C dx fs)/\Cls X.K C/\kK X.K C m g/\fs.lookup m=none/\
  ∀s1,Inv X pins σ H1 s1->wpAny (model X.prog X.w) X.A (callWith pos (.ref g) [.ref a] (backTo pos (starEach args X.env)) (backToKw pos (keywordEach [] X.env))) Q X.xe s1)
 (ht:eval (.Call (.Attribute e m apos) args [] pos) X.env=(do
  let ov <- eval e X.env
  standAt apos.atName
  let (f,first) <- holding [ov] (getMethod ov m pl)
  callWith pos f first (backTo pos (starEach args X.env)) (backToKw pos (keywordEach [] X.env)))) :
 wpAny (model X.prog X.w) X.A (eval (.Call (.Attribute e m apos) args [] pos) X.env) Q X.xe s:=by
 refine PySem.W.methodCall_KW (pl:=pl) (HB (he pins s σ H _ I h) fun u s1 zz=>?_) ht;obtain⟨x,H1,I1,rx,a,C,dx,fs,g,ex,ea,c,k,l,q⟩:=zz;subst ex;obtain rfl:u=Value.ref a:=rx;exact YW I1 ea c k l (q s1 I1)
end
section
variable{X:Cx}{pins:List (Addr×Obj)}{σ:St}{H:Hp}{s:Shared}{A:Around}{E:Value->Shared->Prop}{Q:Value->Shared->Prop}{c:Value}{b:Bool}
end
structure Ym(k:Nat)(A:Around):Prop where
 hd:A.handled=none
 dp:A.depth+3*k+5<recursionLimit
 un:A.units+16*k+200<cLine
theorem Ym.mono{j k:Nat}{A:Around}(r:Ym k A)(h:j<=k):Ym j A:=⟨r.hd,by have:=r.dp;omega,by have:=r.un;omega⟩
theorem Ym.deeper{k:Nat}{A:Around}(r:Ym (k+1) A)(env:Env):Ym k (A.deeper env):=
 ⟨r.hd,by have:=r.dp;show A.depth+1+3*k+5<_;omega,by have:=r.un;show A.units+3+16*k+200<_;omega⟩
theorem Ij {A:Around} {C:Addr} {us:List Value} {kw:List (Str×Value)}:(A.under (.builtin "type.__call__" ⟨.ref C::us,kw⟩)).depth=A.depth+1:=by first | rfl | simp[Around.under,Code.weight,Code.isCreation,Code.isGuard,Code.isCaller,Code.frames,Code.isFrame,guardIds]
theorem Rq {A:Around} {C:Addr} {us:List Value} {kw:List (Str×Value)}:(A.under (.builtin "type.__call__" ⟨.ref C::us,kw⟩)).units=A.units+1:=by first | rfl | simp[Around.under,Code.cUnits,Code.frames,Code.isFrame]
theorem Ym.make {k:Nat} {A:Around} (r:Ym (k+1) A) (C:Addr) (us:List Value) (kw:List (Str×Value)):Ym k (A.under (.builtin "type.__call__" ⟨.ref C::us,kw⟩)):=
 ⟨r.hd,by have:=r.dp;rw[Ij];omega,by have:=r.un;rw[Rq];omega⟩
theorem Ym.depth{k:Nat}{A:Around}(r:Ym k A):A.depth<recursionLimit:=by have:=r.dp;omega
theorem Ym.units{k:Nat}{A:Around}(r:Ym k A):A.units+64<cLine:=by have:=r.un;omega
noncomputable def kQ:TA:=fun Z H Q=>Q [] H
noncomputable def P0(ta:TE)(tr:TA):TA:=fun σ H Q=>ta σ H fun x H1=>tr σ H1 fun xs H2=>Q (x::xs) H2
section
variable{X:Cx}{e:Expr}{es:List Expr}{te:TE}{t:TA}{pos:Pos}
theorem sE:PA X [] kQ:=fun Z Z Z Z H Q I h=>Calls.spliced_nil ⟨[],H,I,.nil,h⟩
theorem yD(ha:PE X e te)(hr:PA X es t)(hs:autoParam (starEach (e::es) X.env=(false,eval e X.env)::starEach es X.env) zqR._auto_1):PA X (e::es) (P0 te t):=by intro pos pins s σ H Q I h;rw[hs];show wpAny _ _ (spliced ((false,eval e X.env)::backTo pos (starEach es X.env))) _ _ s;refine Calls.spliced_cons (HB (ha pins s σ H _ I h) fun u s1 zz=>?_);obtain⟨x,H1,I1,r1,q1⟩:=zz;exact HB (hr pos pins s1 σ H1 _ I1 q1) fun us s2 ⟨xs,H2,I2,r2,q2⟩=>⟨x::xs,H2,I2,.cons r1 r2,q2⟩
def o5(t:TA):TE:=fun σ H Q=>t σ H fun xs H1=>xs.length<=sizeLine/\∀p,H1 p=none->Q (.ref p) (PB H1 p (.tup xs))
def bW(t:TA):TE:=fun σ H Q=>t σ H fun xs H1=>xs.length<=sizeLine/\∀p,H1 p=none->Q (.ref p) (PB H1 p (.lst xs))
theorem B0{x1}(h:PA X es t):PE X (.Tuple es x1 pos) (o5 t):=by intro pins s σ H Q I hq;refine wpAny_Tuple_spliced (HB (h pos pins s σ H _ I hq) fun us s1 ⟨xs,H1,I1,r,z,q⟩=>⟨by rw[<- r.length];exact z,?_⟩);have hf:H1 s1.heap.objs.size=none:=I1.hok.fresh (zfU _);refine⟨.ref s1.heap.objs.size,PB H1 s1.heap.objs.size (.tup xs),I1.laid (t':=s1.toks) (fun b u e=>Heap.get?_push_of_some _ e) (zfU _) ?_,rfl,q _ hf⟩;exact⟨z,us,r,⟨_,Heap.get?_push_size _ rfl,rfl,_,rfl⟩⟩
theorem NO(h:PA X es t):PE X (.List es pos) (bW t):=by intro pins s σ H Q I hq;refine wpAny_List_spliced (HB (h pos pins s σ H _ I hq) fun us s1 ⟨xs,H1,I1,r,z,q⟩=>⟨by rw[<- r.length];exact z,?_⟩);have hf:H1 s1.heap.objs.size=none:=I1.hok.fresh (zfU _);refine⟨.ref s1.heap.objs.size,PB H1 s1.heap.objs.size (.lst xs),I1.laid (t':=s1.toks) (fun b u e=>Heap.get?_push_of_some _ e) (zfU _) ?_,rfl,q _ hf⟩;exact⟨z,us,0,r,Heap.get?_push_size _ rfl⟩
end
abbrev Sp:=List V->Hp->VK->XK->Prop
abbrev gK:=List Env->Hp->Shared->XK->Value->Shared->Prop
structure zaN(P:Program)(w:World)(K:Frag)(mg:Str->Option Value)(base:Heap)(A:Around)(outer:List Env)(s:Shared)(H:Hp):Prop where
 frames:A.frames=some outer
 mod:Mod K mg base
 bs:∀b o,base.get? b=some o->s.heap.get? b=some o/\H b=none
 bsz:base.objs.size<=s.heap.objs.size
 zar:s.heap.FunFrames base outer
 frf:∀b∈sK outer,H b=none
 hok:HOk P w H s.heap
 bare:AllBare s.gens
def CE(outer:List Env)(P:Program)(w:World)(H:Hp)(s:Shared)(Q:VK)(u:Value)(s':Shared):Prop:=
 ∃v H',s'.os=s.os/\AllBare s'.gens/\Un (sK outer) [] H H' s.heap s'.heap/\HOk P w H' s'.heap/\RelV v u/\Q v H'
def CR(CX:gK)(outer:List Env)(P:Program)(w:World)(H:Hp)(s:Shared)(Q:VK)(E:XK)(r:Result)(s':Shared):Prop:=
 match r with
 | .ok (.ret u)=>CE outer P w H s Q u s'
 | .ok _=>False
 | .error e=>CX outer H s E e s'
structure Xl(P:Program)(w:World)(K:Frag)(mg:Str->Option Value)(base:Heap)(CX:gK)(k:Nat)(f:Addr)(fd:FuncData)(ps:List Str)(sp:Sp):Prop where
 len:∀vs H Q E,sp vs H Q E->vs.length=ps.length
 run:∀(A:Around)(outer:List Env)(s:Shared)(H:Hp)(args:Args)(us:List Value)(vs:List V)(Q:VK)(E:XK),Ym k A->zaN P w K mg base A outer s H->BindsTo s fd args (ps.zip us)->Vals vs us->sp vs H Q E->
  codeAny (model P w) A (.call (.ref f) args) (CR CX outer P w H s Q E) s
theorem Xl.mono{P:Program}{w:World}{K:Frag}{mg:Str->Option Value}{base:Heap}{CX:gK}{j k:Nat}{f:Addr}{fd:FuncData}{ps:List Str}{sp:Sp}(F:Xl P w K mg base CX j f fd ps sp)(h:j<=k) :
 Xl P w K mg base CX k f fd ps sp:=⟨F.len,fun A outer s H args us vs Q E hr=>F.run A outer s H args us vs Q E (hr.mono h)⟩
theorem zaN.make{P:Program}{w:World}{K:Frag}{mg:Str->Option Value}{base:Heap}{A:Around}{outer:List Env}{s:Shared}{H:Hp}(e:zaN P w K mg base A outer s H)(C:Addr)(us:List Value)(kw:List (Str×Value)) :
 zaN P w K mg base (A.under (.builtin "type.__call__" ⟨.ref C::us,kw⟩)) outer s H:=⟨by first | exact e.frames | (simpa[Around.under,Code.envs,Code.isFrame,pushEnvs]using e.frames),e.mod,e.bs,e.bsz,e.zar,e.frf,e.hok,e.bare⟩
section
variable{X:Cx}{pins:List (Addr×Obj)}{σ:St}{H:Hp}{s s':Shared}
theorem Inv.env0(I:Inv X pins σ H s):zaN X.prog X.w X.K X.mg X.base X.A X.stack s H:=
 ⟨I.ok.frames,I.ok.mod,I.bs,zxA I.ok.bsz I.sz,I.stack,I.za0,I.hok,I.bare⟩
theorem Inv.after{Q:VK}{u:Value}(I:Inv X pins σ H s)(h:CE X.stack X.prog X.w H s Q u s'):EP X pins σ Q u s':=by obtain⟨v,H',os,bare,un,hok,r,q⟩:=h;obtain⟨hh,g,d,t,os'⟩:=s';obtain rfl:os'=s.os:=os;exact⟨v,H',I.call (h':=hh) (g':=g) (d':=d) (t':=t) (ch:=[]) un hok bare (fun b z=>absurd z (by simp)),r,q⟩
end
noncomputable def o2(sp:Sp)(Rp:List V)(E:XK)(t:TA):TE:=fun σ H Q=>t σ H fun vs H1=>sp (vs++Rp) H1 Q E
def D7(C:Addr)(m:Str)(sp:Sp)(Rp:List V)(E:XK)(ta:TE)(t:TA):TE:=fun σ H Q=>ta σ H fun x H1=>∃a dx fs,x=.ref a/\H1 a=some (.ins C dx fs)/\fs.lookup m=none/\
 t σ H1 fun vs H2=>sp (x::(vs++Rp)) H2 Q E
def C7(C:Addr)(sp:Sp)(Rp:List V)(E:XK)(t:TA):TE:=fun σ H Q=>t σ H fun vs H1=>∀x dx,H1 x=none->H1 dx=none->dx≠x->
 sp (.ref x::(vs++Rp)) (PB (PB H1 dx (.own x)) x (.ins C dx [])) (fun v H2=>v=.non/\Q (.ref x) H2) E
noncomputable def Binds(K:Frag)(fd:FuncData)(ps:List Str)(ds:List Value):Prop:=
 ∀(s:Shared)(us:List Value),K.In s.heap->(us++ds).length=ps.length->BindsTo s fd ⟨us,[]⟩ (ps.zip (us++ds))
theorem Binds.all{K:Frag}{fd:FuncData}{ps:List Str}(h:∀us:List Value,us.length=ps.length->bindArgs fd ⟨us,[]⟩=pure (ps.zip us)):Binds K fd ps []:=fun s us Z hl=>by rw[zfW]at hl ⊢;exact .of_eq (h us hl)
def KI(CX:gK)(X:Cx)(E:XK):Prop:=∀(pins:List (Addr×Obj))(σ:St)(H:Hp)(s:Shared)(e:Value)(s':Shared),Inv X pins σ H s->CX X.stack H s E e s'->X.xe e s'
section
variable{X:Cx}{CX:gK}{k:Nat}{f C:Addr}{fd:FuncData}{ps:List Str}{sp:Sp}{Rp:List V}{ds:List Value}{E:XK}{x m:Str}{p pos apos:Pos}{e o:Expr}{es:List Expr}{ta:TE}{t:TA}
theorem RU{pins:List (Addr×Obj)}{σ:St}{H:Hp}{s:Shared}{Q:VK}{us:List Value}{vs:List V}(F:Xl X.prog X.w X.K X.mg X.base CX k f fd ps sp)(hr:Ym k X.A)(hb:Binds X.K fd ps ds)(hd:Vals Rp ds)(hx:KI CX X E)
 (I:Inv X pins σ H s) (r:Vals vs us) (h:sp (vs++Rp) H Q E):wpAny (model X.prog X.w) X.A (call (.ref f) us) (EP X pins σ Q) X.xe s:=by
 have r2:Vals (vs++Rp) (us++ds):=r.append hd;have hl:(us++ds).length=ps.length:=by rw[<- r2.length];exact F.len _ _ _ _ h
 refine wpAny_call (codeAny_mono (F.run X.A X.stack s H ⟨us,[]⟩ (us++ds) (vs++Rp) Q E hr I.env0 (hb s us I.kIn hl) r2 h) fun r s' hq=>?_);cases r with
 | error e=>exact hx pins σ H s e s' I hq
 | ok fl=>
  cases fl with
  | ret u=>exact I.after hq
  | next=>exact False.elim hq
  | brk=>exact False.elim hq
  | cont=>exact False.elim hq
theorem Yg(F:Xl X.prog X.w X.K X.mg X.base CX k f fd ps sp)(hr:Ym k X.A)(hg:Gl X x)(hm:X.mg x=some (.ref f))(hk:keepIn X.K (.ref f)=true)(hb:Binds X.K fd ps ds)(hd:Vals Rp ds)(hx:KI CX X E)
 (ha:PA X (e::es) t) (hdb:autoParam ((x==("__debug__" :Str))=false) zqQ._auto_1) (he:autoParam (starEach (e::es) X.env=(false,eval e X.env)::starEach es X.env) zqR._auto_1) (hpl:autoParam ((backTo pos (starEach es X.env)).any (·.1)=false) zqR._auto_1) :
 PE X (.Call (.Name x p) (e::es) [] pos) (o2 sp Rp E t):=by
 intro pins s σ H Q I h;refine wpAny_Call_Name_kw (BO I hg hm ?_ hdb);refine PySem.W.callWith_K (h₀:=X.base) I.ok.mod.kin hk (HB (ha pos pins s σ H _ I h) fun us s1 ⟨vs,H1,I1,r,q⟩=>⟨I1.kIn,?_⟩) he hpl;exact RU F hr hb hd hx I1 r q
theorem Fw(F:Xl X.prog X.w X.K X.mg X.base CX k f fd ps sp)(hr:Ym k X.A)(hg:Gl X x)(hm:X.mg x=some (.ref f))(hk:keepIn X.K (.ref f)=true)(hb:Binds X.K fd ps ds)(hd:Vals Rp ds)(hx:KI CX X E)
 (hdb:autoParam ((x==("__debug__" :Str))=false) zqQ._auto_1):PE X (.Call (.Name x p) [] [] pos) (o2 sp Rp E kQ):=by
 intro pins s σ H Q I h;refine wpAny_Call_Name_kw (BO I hg hm ?_ hdb);exact PySem.W.callWith_K0 I.kIn hk (RU (us:=[]) F hr hb hd hx I .nil h)
theorem kh{pl:Sem Bool}(he:PE X o ta)(c:Cls X.K C)(hm:kK X.K C m f)(F:Xl X.prog X.w X.K X.mg X.base CX k f fd ps sp)(hr:Ym k X.A)(hb:Binds X.K fd ps ds)(hd:Vals Rp ds)(hx:KI CX X E)(ha:PA X (e::es) t)
 (hst:autoParam (starEach (e::es) X.env=(false,eval e X.env)::starEach es X.env) zqR._auto_1) (hpl:autoParam ((backTo pos (starEach es X.env)).any (·.1)=false) zqR._auto_1)
 (ht:autoParam (eval (.Call (.Attribute o m apos) (e::es) [] pos) X.env=(do
  let ov <- eval o X.env
  standAt apos.atName
  let (f,first) <- holding [ov] (getMethod ov m pl)
  callWith pos f first (backTo pos (starEach (e::es) X.env)) (backToKw pos (keywordEach [] X.env)))) zqR._auto_1) :
 PE X (.Call (.Attribute o m apos) (e::es) [] pos) (D7 C m sp Rp E ta t):=by
 intro pins s σ H Q I h;refine PySem.W.methodCall_KW (pl:=pl) (HB (he pins s σ H _ I h) fun u s1 zz=>?_) ht;obtain⟨x,H1,I1,rx,a,dx,fs,ex,ea,l,q⟩:=zz;subst ex;obtain rfl:u=Value.ref a:=rx;refine YW I1 ea c hm l ?_;refine PySem.W.callWith_K (first:=[.ref a]) (h₀:=X.base) I.ok.mod.kin hm.kp (HB (ha pos pins s1 σ H1 _ I1 q) fun us s2 ⟨vs,H2,I2,r,q2⟩=>⟨I2.kIn,?_⟩) hst hpl;exact RU (us:=.ref a::us) (vs:=.ref a::vs) F hr hb hd hx I2 (.cons rfl r) q2
structure Mk(K:Frag)(C f:Addr):Prop where
 makes:PySem.W.makesIn K C=true
 init:findIn K (.ref C) "__init__" =some (some (.ref f))
 fn:PySem.W.isFn K (.ref f)=true
 kp:keepIn K (.ref C)=true
theorem Vw{pins:List (Addr×Obj)}{σ:St}{H:Hp}{s:Shared}{Q:VK}{us:List Value}{vs:List V}(M:Mk X.K C f)(F:Xl X.prog X.w X.K X.mg X.base CX k f fd ps sp)(hr:Ym (k+1) X.A)(hb:Binds X.K fd ps ds)(hd:Vals Rp ds)
 (hx:KI CX X E) (I:Inv X pins σ H s) (r:Vals vs us)
 (h:∀x dx,H x=none->H dx=none->dx≠x->sp (.ref x::(vs++Rp)) (PB (PB H dx (.own x)) x (.ins C dx [])) (fun v H2=>v=.non/\Q (.ref x) H2) E) :
 wpAny (model X.prog X.w) X.A (call (.ref C) us) (EP X pins σ Q) X.xe s:=by
 have hq:=h (s.heap.objs.size+1) s.heap.objs.size (I.hok.fresh (Nat.le_succ _)) (I.hok.fresh (zfU _)) (zxD (Nat.lt_succ_self _));have I2:=Inv.made (C:=C) I;have r2:Vals (V.ref (s.heap.objs.size+1)::(vs++Rp)) (Value.ref (s.heap.objs.size+1)::(us++ds)):=.cons rfl (r.append hd);have hl:(Value.ref (s.heap.objs.size+1)::us++ds).length=ps.length:=by have e:=r2.length;rw[F.len _ _ _ _ hq]at e;exact e.symm
 refine wpAny_call (Yk (f:=f) I.kIn M.makes M.init (beq_iff_eq.mp M.fn) (codeAny_mono (F.run _ X.stack _ _ ⟨Value.ref (s.heap.objs.size+1)::us,[]⟩ (Value.ref (s.heap.objs.size+1)::(us++ds)) _ _ E (hr.make C us [])
  (I2.env0.make C us []) (hb _ (Value.ref (s.heap.objs.size+1)::us) I2.kIn hl) r2 hq) fun r s' hq'=>?_))
 cases r with
 | error e=>exact hx pins σ _ _ e s' I2 hq'
 | ok fl=>
  cases fl with
  | ret u=>obtain⟨v,H',I3,rv,ev,q3⟩:=I2.after hq';subst ev;exact⟨rv,⟨V.ref (s.heap.objs.size+1),H',I3,rfl,q3⟩⟩
  | next=>exact False.elim hq'
  | brk=>exact False.elim hq'
  | cont=>exact False.elim hq'
theorem jh(M:Mk X.K C f)(F:Xl X.prog X.w X.K X.mg X.base CX k f fd ps sp)(hr:Ym (k+1) X.A)(hg:Gl X x)(hm:X.mg x=some (.ref C))(hb:Binds X.K fd ps ds)(hd:Vals Rp ds)(hx:KI CX X E)
 (ha:PA X (e::es) t) (hdb:autoParam ((x==("__debug__" :Str))=false) zqQ._auto_1) (he:autoParam (starEach (e::es) X.env=(false,eval e X.env)::starEach es X.env) zqR._auto_1) (hpl:autoParam ((backTo pos (starEach es X.env)).any (·.1)=false) zqR._auto_1) :
 PE X (.Call (.Name x p) (e::es) [] pos) (C7 C sp Rp E t):=by
 intro pins s σ H Q I h;refine wpAny_Call_Name_kw (BO I hg hm ?_ hdb);refine PySem.W.callWith_K (h₀:=X.base) I.ok.mod.kin M.kp (HB (ha pos pins s σ H _ I h) fun us s1 ⟨vs,H1,I1,r,q⟩=>⟨I1.kIn,?_⟩) he hpl;exact Vw M F hr hb hd hx I1 r q
end
section
variable{X:Cx}{CX:gK}{k:Nat}{f C:Addr}{fd:FuncData}{ps ks:List Str}{sp:Sp}{E:XK}{x m:Str}{p pos apos kpos:Pos}{e o:Expr}{es:List Expr}{kws:List Keyword}{te ta:TE}{t tk:TA}{nm:Option Str}
variable{g:List Value->List Value->List Value}{gV:List V->List V->List V}
end
structure SA(N P:List Str)(sc:Scope):Prop where
 kind:sc.kind=.function
 co:sc.isCoroutine=false
 gen:sc.isGenerator=false
 nd:N.Nodup
 pre:N.take P.length=P
 par:∀x∈P,sc.names.lookup x=some .local\/sc.names.lookup x=some .cell
 zb3:∀y∈sc.names,y.2≠.free
theorem pX{kindOf:Str->Option NameKind}{x:Str}:∀{binds:List (Str×Value)}{m:Str->Option Value},(∀v,(x,v)∉binds)->bindL kindOf binds m x=m x
 | [],_,_=>rfl
 | (n,v)::r,m,h=>by
  unfold bindL;rw[pX fun w hw=>h w (mem_cons_of_mem _ hw)];split
  · have:x≠n:=by rintro rfl;exact h v mem_cons_self
    simp[this]
  · rfl
theorem nX{kindOf:Str->Option NameKind}{x:Str}:∀{binds:List (Str×Value)}{m:Str->Option Value},(∀v,(x,v)∉binds)->bindC kindOf binds m x=m x
 | [],_,_=>rfl
 | (n,v)::r,m,h=>by
  unfold bindC;rw[nX fun w hw=>h w (mem_cons_of_mem _ hw)];split
  · rfl
  · have:x≠n:=by rintro rfl;exact h v mem_cons_self
    simp[this]
theorem oX{kindOf:Str->Option NameKind}{x:Str}{v:Value}:∀{P:List Str}{vs:List Value}{i:Nat}{m:Str->Option Value},P.Nodup->P[i]?=some x->vs[i]?=some v->kindOf x=some .local->
 bindL kindOf (P.zip vs) m x=some v
 | [],_,_,_,_,h,_,_=>by simp at h
 | _::_,[],_,_,_,_,h,_=>by simp at h
 | p::P,w::vs,0,m,nd,h1,h2,hk=>by simp at h1 h2;subst h1;subst h2;show bindL kindOf ((p,w)::P.zip vs) m p=_;unfold bindL;rw[pX fun v hv=>(nodup_cons.mp nd).1 (of_mem_zip hv).1,if_pos hk];simp
 | p::P,w::vs,i+1,m,nd,h1,h2,hk=>by show bindL kindOf ((p,w)::P.zip vs) m x=_;unfold bindL;exact oX (i:=i) (nodup_cons.mp nd).2 (by simpa using h1) (by simpa using h2) hk
theorem mX{kindOf:Str->Option NameKind}{x:Str}{v:Value}:∀{P:List Str}{vs:List Value}{i:Nat}{m:Str->Option Value},P.Nodup->P[i]?=some x->vs[i]?=some v->kindOf x≠some .local->
 bindC kindOf (P.zip vs) m x=some v
 | [],_,_,_,_,h,_,_=>by simp at h
 | _::_,[],_,_,_,_,h,_=>by simp at h
 | p::P,w::vs,0,m,nd,h1,h2,hk=>by simp at h1 h2;subst h1;subst h2;show bindC kindOf ((p,w)::P.zip vs) m p=_;unfold bindC;rw[nX fun v hv=>(nodup_cons.mp nd).1 (of_mem_zip hv).1,if_neg hk];simp
 | p::P,w::vs,i+1,m,nd,h1,h2,hk=>by show bindC kindOf ((p,w)::P.zip vs) m x=_;unfold bindC;exact mX (i:=i) (nodup_cons.mp nd).2 (by simpa using h1) (by simpa using h2) hk
noncomputable def xG(N:List Str)(vs:List V):St:=vs.map some++replicate (N.length-vs.length) none
noncomputable def HF(CX:gK)(P:Program)(w:World)(K:Frag)(mg:Str->Option Value)(base:Heap)(N:List Str)(qual:Str)(scope:Scope)(f:Addr)(cd:Value)(A:Around)(outer:List Env)(s:Shared)(H:Hp)(E:XK):Cx where
 prog:=P
 w:=w
 K:=K
 mg:=mg
 base:=base
 A:=A.deeper (envOfC qual scope s.heap.objs.size f cd)
 N:=N
 s₀:=s
 H₀:=H
 env:=envOfC qual scope s.heap.objs.size f cd
 outer:=outer
 stack:=envOfC qual scope s.heap.objs.size f cd::outer
 ex:=[]
 calm:=true
 fn:=fun Z=>true
 pn:=[]
 xe:=fun e s'=>wpAny (model P w) (A.deeper (envOfC qual scope s.heap.objs.size f cd)) (leaving (envOfC qual scope s.heap.objs.size f cd) e) (fun Z s''=>CX outer H s E e s'') (fun e' s''=>CX outer H s E e' s'') s'
theorem tY{sc:Scope}{n:Nat}{x:Str}(h:sc.names.lookup x=some .cell):∃c,(cellsFrom n sc.names []).lookup x=some c:=by have q:=PySem.W.cellsFrom_some sc.names n [] (.inl h);exact Option.isSome_iff_exists.mp q
theorem Ax{CX:gK}{P:Program}{w:World}{K:Frag}{mg:Str->Option Value}{base:Heap}{N ps:List Str}{qual:Str}{scope:Scope}{f:Addr}{cd:Value}{A:Around}{outer:List Env}{s s1:Shared}{H:Hp}{E:XK}{us:List Value}{vs:List V}
 (S:SA N ps scope) (hd:A.handled=none) (e0:zaN P w K mg base A outer s H) (hl:vs.length=ps.length) (r:Vals vs us)
 (x:InCallC s s.heap.objs.size (bindL (envOfC qual scope s.heap.objs.size f cd).kindOf (ps.zip us) fun Z=>none) (cellsFrom (s.heap.objs.size+1) scope.names []) (bindC (envOfC qual scope s.heap.objs.size f cd).kindOf (ps.zip us) fun Z=>none) s1) :
 Inv (HF CX P w K mg base N qual scope f cd A outer s H E) [] (xG N vs) H s1:=by
 have hpl:ps.length<=N.length:=by have:=congrArg List.length S.pre;rw[length_take]at this;omega
 obtain⟨h1,tk,rfl,hk⟩:=x.done;have noA:∀b:Addr,b∉(HF CX P w K mg base N qual scope f cd A outer s H E).ex:=fun b z=>absurd (show b∈([]:List Addr)from z) (by simp)
 refine⟨⟨e0.mod,S.kind,rfl,rfl,zfU _,fun y z c h1 h2=>?_,fun y hy=>?_,fun y c Z h=>?_,fun Z=>hd,Around.frames_deeper e0.frames,.inr ⟨rfl,rfl⟩,fun b z=>absurd z (noA b),e0.bs,e0.bsz,fun b Z Z=>noA b,fun b z=>absurd z (noA b),e0.zar,e0.frf⟩,
  rfl,e0.bare,Un.kept hk,⟨_,x.toInCall.ns,fun i y v h1 h2 h3=>?_⟩,fun y c h=>⟨_,x.cell y c h⟩,e0.hok.fresh (zfU _),fun y c h=>?_,fun p hp=>absurd (show p∈([]:List (Addr×Obj))from hp) (by simp),e0.hok.kept hk,?_⟩
 · exact name_of_addr x.apart (PySem.mem_of_lookup h1) (PySem.mem_of_lookup h2)
 · have hy:scope.names.lookup y=some .cell\/scope.names.lookup y=some .free:=hy;rcases hy with hy | hy
   · exact tY hy
   · exact absurd rfl (S.zb3 _ (PySem.mem_of_lookup hy))
 · exact Nat.le_of_lt (x.above y c (PySem.mem_of_lookup h))
 · have hi:i<vs.length:=by
    unfold xG at h2;by_cases hi:i<vs.length
    · exact hi
    · rw[zfV (by simpa using hi)]at h2;rw[getElem?_replicate]at h2;split at h2<;>cases h2
   have ha:vs[i]?=some v:=by
    unfold xG at h2;rw[zfS (by simpa using hi),getElem?_map]at h2;cases e:vs[i]? with
    | none=>rw[e]at h2;cases h2
    | some a=>rw[e]at h2;cases h2;rfl
   obtain⟨u,hu,rv⟩:=r.get ha;have hp:ps[i]?=some y:=by rw[<- S.pre,getElem?_take_of_lt (by omega)];exact h1
   have ndP:ps.Nodup:=by rw[<- S.pre];exact S.nd.sublist (take_sublist _ _)
   refine⟨u,rv,?_⟩;rcases S.par y (mem_of_getElem? hp)with k | k
   · exact .inl ⟨k,oX ndP hp hu k⟩
   · obtain⟨c,e⟩:=tY (n:=s.heap.objs.size+1) k;refine .inr ⟨.inl k,c,e,?_⟩;have q:=x.cell y c e;rw[mX ndP hp hu (by show scope.names.lookup y≠_;rw[k];decide)]at q;exact q
 · exact e0.hok.fresh (Nat.le_of_lt (x.above y c (PySem.mem_of_lookup h)))
 · unfold xG;show _=N.length;rw[length_append,length_map,length_replicate];omega
theorem J1{CX:gK}{P:Program}{w:World}{K:Frag}{mg:Str->Option Value}{base:Heap}{k:Nat}{f:Addr}{name qual:Str}{params:Arguments}{body:List Stmt}{scope:Scope}{dV kV doc pm cdv ct oc:Value}{an od:Option Addr}
 {osl:Array (Option Value)} {N ps:List Str} {sp:Sp} (lk:K.lookup f=some ⟨oc,od,.func (fnOf name qual params body scope dV kV doc pm an cdv ct),osl⟩) (hcd:PySem.W.codeIn K cdv qual=true) (S:SA N ps scope)
 (len:∀vs H Q E,sp vs H Q E->vs.length=ps.length)
 (hbody:∀(A:Around)(outer:List Env)(s:Shared)(H:Hp)(vs:List V)(Q:VK)(E:XK),Ym k (A.deeper (envOfC qual scope s.heap.objs.size f cdv))->sp vs H Q E->
  ∃t,PSs (HF CX P w K mg base N qual scope f cdv A outer s H E) body t/\t { nx:=fun Z H'=>Q .non H',rt:=Q } (xG N vs) H) :
 Xl P w K mg base CX (k+1) f (fnOf name qual params body scope dV kV doc pm an cdv ct) ps sp:=by
 refine⟨len,fun A outer s H args us vs Q E hr e0 hb r hsp=>?_⟩;have hl:=len _ _ _ _ hsp;have KX:K.In s.heap:=e0.mod.kin.keeps fun b o e=>(e0.bs b o e).1
 have lim:s.heap.NoLimit:=e0.mod.nolimit.keeps fun b o e=>(e0.bs b o e).1
 have hkind:∀y∈ps.zip us,scope.names.lookup y.1=some .local\/(scope.names.lookup y.1=some .cell/\((cellsFrom (s.heap.objs.size+1) scope.names []).lookup y.1).isSome=true):=fun zz hy=>by
  obtain⟨n,v⟩:=zz;rcases S.par n (of_mem_zip hy).1 with q | q
  · exact .inl q
  · exact .inr ⟨q,PySem.W.cellsFrom_some _ _ _ (.inl q)⟩
 refine codeAny_call_function hr.depth (KX _ _ lk) rfl S.co S.gen rfl (PySem.W.codeRec_of KX hcd) (hb _ _ _ _ ?_);refine wpAny_newFunctionEnv_cells S.kind hkind fun env he s1 x=>?_
 subst he;refine⟨lim.keeps x.toInCall.keep,codeAny_func ?_⟩;obtain⟨t,ht,hq⟩:=hbody A outer s H vs Q E (hr.deeper _) hsp;have I:Inv (HF CX P w K mg base N qual scope f cdv A outer s H E) [] (xG N vs) H s1:=Ax S hr.hd e0 hl r x;refine wpAny_mono (ht [] s1 (xG N vs) H _ I hq) (fun fl s' hs=>?_) fun e s' hs=>hs
 have fin:∀{σ':St}{H':Hp}{v:V}{u:Value},Inv (HF CX P w K mg base N qual scope f cdv A outer s H E) [] σ' H' s'->RelV v u->Q v H'->CE outer P w H s Q u s':=
  fun {σ' H' v u} J rv q=>⟨v,H',J.os,J.bare,J.base,J.hok,rv,q⟩
 cases fl with
 | ret u=>obtain⟨v,σ',H',J,rv,q⟩:=hs;exact fin J rv q
 | next=>obtain⟨σ',H',J,q⟩:=hs;exact fin (v:=V.non) (u:=Value.none) J rfl q
 | brk=>obtain⟨Z,Z,Z,q⟩:=hs;exact False.elim q
 | cont=>obtain⟨Z,Z,Z,q⟩:=hs;exact False.elim q
section
variable{X:Cx}{x:Str}{p pos:Pos}{e:Expr}{es:List Expr}{t:TA}{id T:String}{r:List V->Hp->VK->Prop}
noncomputable def Yd(r:List V->Hp->VK->Prop)(t:TA):TE:=fun σ H Q=>t σ H fun vs H1=>r vs H1 Q
theorem dO (hc:Hl X (.builtin id) r) (hg:Gl X x) (hm:X.mg x=none) (hv:bootBuiltins x=some (.builtin id)) (ha:PA X (e::es) t) (hn:autoParam (x ≠ "__name__") zqQ._auto_1) (hdb:autoParam ((x==("__debug__" :Str))=false) zqQ._auto_1)
 (he:autoParam (starEach (e::es) X.env=(false,eval e X.env)::starEach es X.env) zqR._auto_1) (hpl:autoParam ((backTo pos (starEach es X.env)).any (·.1)=false) zqR._auto_1):PE X (.Call (.Name x p) (e::es) [] pos) (Yd r t):=by
 intro pins s σ H Q I h;refine wpAny_Call_Name_kw (SH I hg hm hv ?_ hn hdb);exact PyProof.Rows.callWith_builtin1 (HB (ha pos pins s σ H _ I h) fun us s1 ⟨vs,H1,I1,r1,q1⟩=>hc pins s1 σ H1 vs us Q I1 r1 q1) he hpl
theorem Kv (hc:Hl X (.type T) r) (hg:Gl X x) (hm:X.mg x=none) (hv:bootBuiltins x=some (.type T)) (ha:PA X (e::es) t) (hn:autoParam (x ≠ "__name__") zqQ._auto_1) (hdb:autoParam ((x==("__debug__" :Str))=false) zqQ._auto_1)
 (he:autoParam (starEach (e::es) X.env=(false,eval e X.env)::starEach es X.env) zqR._auto_1) (hpl:autoParam ((backTo pos (starEach es X.env)).any (·.1)=false) zqR._auto_1):PE X (.Call (.Name x p) (e::es) [] pos) (Yd r t):=by
 intro pins s σ H Q I h;refine wpAny_Call_Name_kw (SH I hg hm hv ?_ hn hdb);exact PyProof.Rows.callWith_type1 (HB (ha pos pins s σ H _ I h) fun us s1 ⟨vs,H1,I1,r1,q1⟩=>hc pins s1 σ H1 vs us Q I1 r1 q1) he hpl
end
end L2
namespace HT
section
open PySem.SeqAt
open PySem.AutoSeq1 (wpAny_loadPart')
open PySem.MeetsSeq PySem.MeetsSeq2 PySem.MeetsSeq3
end
section
variable{prog:Program}{w:World}{A:Around}{E:Value->Shared->Prop}{s:Shared}
theorem zbA{t b:Addr}{vs ws:List Value}{Q:Value->Shared->Prop}(ht:IsTup s.heap t vs.toArray)(hb:IsTup s.heap b ws.toArray)(hv:vs ≠ [])
 (h1:ws=[]->Q (.ref t) s) (h2:ws ≠ []->Q (.ref s.heap.objs.size) { s with heap:=s.heap.push { cls:=.type "tuple",data:=.seq (vs++ws).toArray } })
 (hsz:vs.length+ws.length<=sizeLine):wpAny (model prog w) A (binaryOp .Add (.ref t) (.ref b)) Q E s:=by
 obtain⟨⟨cls,dd,data,sl⟩,ho,hc,n,hd⟩:=id ht;obtain⟨⟨cls2,dd2,data2,sl2⟩,ho2,hc2,n2,hd2⟩:=id hb;simp only at hc hd hc2 hd2;subst hc hd hc2 hd2;have e:vs.toArray++ws.toArray=(vs++ws).toArray:=by simp
 by_cases hw:ws=[]
 · exact concat_meets ⟨_,ho,rfl⟩ ⟨_,ho2,rfl⟩ noFill_tuple_add seq_tuple_add PySem.F.slot_tuple_add PySem.F.entry_tuple_add (PySem.F.args_tuple_add_2 _ _)
    (tuple_addW1 t b vs.toArray ws.toArray n n2 dd dd2 sl sl2 (by simpa using hv) (by simp[hw])) ⟨ho,ho2,h1 hw⟩
 · refine concat_meets ⟨_,ho,rfl⟩ ⟨_,ho2,rfl⟩ noFill_tuple_add seq_tuple_add PySem.F.slot_tuple_add PySem.F.entry_tuple_add (PySem.F.args_tuple_add_2 _ _)
    (tuple_addW2 t b vs.toArray ws.toArray n n2 dd dd2 sl sl2 (by simpa using hv) (by simpa using hw) (by rw[size_toArray,size_toArray];exact hsz)) ⟨ho,ho2,?_⟩
   rw[e];exact h2 hw
noncomputable def sIx(n d:Nat):Option Int->Nat
 | none=>d
 | some v=>if v<0 then(v+(n:Int)).toNat else min v.toNat n
end
end HT
namespace L2
abbrev TO:=St->Hp->(Option Int->Hp->Prop)->Prop
def PO(X:Cx)(e:Option Expr)(t:TO):Prop:=
 ∀(pins:List (Addr×Obj))(s:Shared)(σ:St)(H:Hp)(Q:Option Int->Hp->Prop),Inv X pins σ H s->t σ H Q->
  wpAny (model X.prog X.w) X.A (evalPart e X.env) (fun u s'=>∃o H',Inv X pins σ H' s'/\IsPart u o/\Q o H') X.xe s
noncomputable def bf:TO:=fun Z H Q=>Q none H
noncomputable def K7(t:TE):TO:=fun σ H Q=>t σ H fun x H1=>∃i,x=.int i/\Q (some i) H1
theorem KN{ns:List Int}:∀{us:List Value},Vals (ns.map V.int) us->IntsAre us ns:=by
 induction ns with
 | nil=>intro us r;rw[zfK]at r;cases r;exact .nil
 | cons n ns ih=>
  intro us r;rw[zfJ]at r;cases r with
  | cons r1 r2=>obtain⟨t,e⟩:=r1;subst e;exact .cons n t (ih r2)
section
variable{X:Cx}{e:Expr}{te:TE}{lo hi:Option Expr}{tl th:TO}{pos p2:Pos}
theorem Ah:PO X none bf:=by intro pins s σ H Q I h;rw[evalPart_none];exact wpAny_pure ⟨none,H,I,.none,h⟩
theorem Bh(h:PE X e te):PO X (some e) (K7 te):=by
 intro pins s σ H Q I hw;rw[evalPart_some];refine HB (h pins s σ H _ I hw) fun u s1 zz=>?_
 obtain⟨x,H1,I1,r1,q1⟩:=zz;obtain⟨i,rfl,q⟩:=q1;obtain⟨t,rfl⟩:=r1;exact⟨some i,H1,I1,.int i t,q⟩
def yd(X:Cx)(r:V->Option Int->Option Int->Hp->VK->Prop):Prop:=
 ∀(pins:List (Addr×Obj))(s:Shared)(σ:St)(H:Hp)(x:V)(v vl vu:Value)(lo hi:Option Int)(sl:Addr)(Q:VK),Inv X pins σ H s->RelV x v->s.heap.IsSliceOf sl vl vu .none->IsPart vl lo->IsPart vu hi->r x lo hi H Q->
  ∃T id,typeLookup (.type T) "__getitem__" =pure (some (.builtin id))/\s.TypeIs v T/\wpAny (model X.prog X.w) X.A (getItem v (.ref sl)) (EP X pins σ Q) X.xe s
noncomputable def Uc(r:V->Option Int->Option Int->Hp->VK->Prop)(te:TE)(tl th:TO):TE:=fun σ H Q=>te σ H fun x H1=>tl σ H1 fun l H2=>th σ H2 fun u H3=>r x l u H3 Q
theorem Kw{r:V->Option Int->Option Int->Hp->VK->Prop}(hr:yd X r)(he:PE X e te)(hl:PO X lo tl)(hu:PO X hi th):PE X (.Subscript e (.Slice lo hi none p2) pos) (Uc r te tl th):=by
 intro pins s σ H Q I h;refine Subscript_ (HB (he pins s σ H _ I h) fun v s1 zz=>?_);obtain⟨x,H1,I1,r1,q1⟩:=zz;refine wpAny_Slice (HB (hl pins s1 σ H1 _ I1 q1) fun vl s2 ⟨l,H2,I2,pl,q2⟩=>HB (hu pins s2 σ H2 _ I2 q2) fun vu s3 zz=>?_);obtain⟨u,H3,I3,pu,q3⟩:=zz;rw[evalPart_none];refine wpAny_pure ?_;have I4:Inv X pins σ H3 { s3 with heap:=s3.heap.push { cls:=.type "slice",data:=.fields #[vl,vu,.none] } }:=I3.kept (t':=s3.toks) fun b ob q=>Heap.get?_push_of_some _ q
 obtain⟨T,id,hT,ht,hg⟩:=hr pins { s3 with heap:=s3.heap.push { cls:=.type "slice",data:=.fields #[vl,vu,.none] } } σ H3 x v vl vu l u s3.heap.objs.size Q I4 r1 (Heap.IsSliceOf.new ..) pl pu q3;show wpAny (model X.prog X.w) X.A (subscriptTail e (.Slice lo hi none p2) v (.ref s3.heap.objs.size)) (EP X pins σ Q) X.xe { s3 with heap:=s3.heap.push { cls:=.type "slice",data:=.fields #[vl,vu,.none] } };exact tail_any (ops:=[.ref s3.heap.objs.size,v]) ht hT hg (by with_unfolding_all rfl)
def gJ(xs:List V)(lo hi:Option Int):List V:=(xs.drop (HT.sIx xs.length 0 lo)).take (HT.sIx xs.length xs.length hi-HT.sIx xs.length 0 lo)
theorem W9(xs:List V)(lo hi:Option Int):(gJ xs lo hi).length<=xs.length:=by unfold gJ;exact((take_sublist _ _).trans (drop_sublist _ _)).length_le
def D8(K:Frag):R2:=fun x y H Q=>∃a b xs ys,x=.ref a/\y=.ref b/\aJ K H a xs/\aJ K H b ys/\xs ≠ []/\xs.length+ys.length<=sizeLine/\
 (ys=[]->Q (.ref a) H)/\(ys ≠ []->∀p,H p=none->Q (.ref p) (PB H p (.tup (xs++ys))))
theorem Vals.zaG{xs:List V}{us:List Value}(r:Vals xs us):us=[]↔xs=[]:=by
 cases r with
 | nil=>simp
 | cons _ _=>simp
theorem Vg:Bp X (binaryOp .Add) (D8 X.K):=by intro pins s σ H x y v u Q I rx ry h;obtain⟨a,b,xs,ys,rfl,rfl,ha,hb,hx,hz,q1,q2⟩:=h;cases rx;cases ry;obtain⟨its,r1,p1,Z⟩:=I.tuple ha;obtain⟨its2,r2,p2,Z⟩:=I.tuple hb;refine HT.zbA p1 p2 (fun z=>hx (r1.zaG.mp z)) (fun z=>⟨.ref a,H,I,rfl,q1 (r2.zaG.mp z)⟩) (fun z=>?_) (by rw[<- r1.length,<- r2.length];exact hz);refine⟨.ref s.heap.objs.size,_,I.laid (t':=s.toks) (o:=.tup (xs++ys)) (fun b ob q=>Heap.get?_push_of_some _ q) (zfU _) ?_,rfl,q2 (fun w=>z (r2.zaG.mpr w)) _ (I.hok.fresh (zfU _))⟩;exact⟨by rw[length_append];exact hz,_,r1.append r2,IsTup.new _ _⟩
end
noncomputable def cJ(n:Nat)(i:Int):Option Nat:=if 0<=i then(if i<n then some i.toNat else none)else if -(n:Int)<=i then some (i+n).toNat else none
def Kp{α:Type}(xs:List α)(i:Int):Option α:=(cJ xs.length i).bind fun j=>xs[j]?
theorem oZ{n:Nat}{i:Int}{j:Nat}(h:cJ n i=some j):seqIndex? i n=some j/\j<n/\-(n:Int)<=i/\i<n:=by
 unfold cJ at h;by_cases h0:0<=i
 · rw[if_pos h0]at h;by_cases h1:i<n
   · rw[if_pos h1]at h;have e:i.toNat=j:=Option.some.inj h;exact⟨by rw[seqIndex_of h0 h1,e],by omega,by omega,h1⟩
   · rw[if_neg h1]at h;cases h
 · rw[if_neg h0]at h;by_cases h1:-(n:Int)<=i
   · rw[if_pos h1]at h;have e:(i+n).toNat=j:=Option.some.inj h;exact⟨by rw[seqIndex_neg (by omega) h1,e],by omega,h1,by omega⟩
   · rw[if_neg h1]at h;cases h
theorem UT{α:Type}{xs:List α}{i:Int}{v:α}(h:Kp xs i=some v):∃j,seqIndex? i xs.length=some j/\xs[j]?=some v/\j<xs.length/\-(xs.length:Int)<=i/\i<xs.length:=by
 unfold Kp at h;cases e:cJ xs.length i with
 | none=>rw[e]at h;cases h
 | some j=>rw[e]at h;obtain⟨h1,h2,h3,h4⟩:=oZ e;exact⟨j,h1,h,h2,h3,h4⟩
theorem ZC{α:Type}{xs:List α}{j:Nat}{v:α}(h:xs[j]?=some v):Kp xs (j:Int)=some v:=by
 have hj:j<xs.length:=(zfR h).1;have e:cJ xs.length (j:Int)=some j:=by unfold cJ;rw[if_pos (by omega),if_pos (by omega)];simp
 unfold Kp;rw[e];exact h
noncomputable def JY(b:Expr):Prop:=∀o i,subscripted b false o i=operate [o,i] (getItem o i)
def IxR(X:Cx)(r:R2):Prop:=
 ∀(value slice:Expr)(pins:List (Addr×Obj))(s:Shared)(σ:St)(H:Hp)(x y:V)(v u:Value)(Q:VK),Inv X pins σ H s->RelV x v->RelV y u->r x y H Q->
  subscripted slice false v u=operate [v,u] (getItem v u)->wpAny (model X.prog X.w) X.A (subscriptTail value slice v u) (EP X pins σ Q) X.xe s
def L3(X:Cx)(id:String)(r:V->List V->Hp->VK->Prop):Prop:=
 ∀(pins:List (Addr×Obj))(s:Shared)(σ:St)(H:Hp)(x:V)(xs:List V)(v:Value)(us:List Value)(Q:VK),Inv X pins σ H s->RelV x v->Vals xs us->r x xs H Q->
  wpAny (model X.prog X.w) X.A (call (.builtin id) (v::us)) (EP X pins σ Q) X.xe s
section
variable{X:Cx}{a b:Expr}{ta tb:TE}{pos:Pos}
theorem IxR.or{r r':R2}(h:IxR X r)(h':IxR X r'):IxR X (fun x y H Q=>r x y H Q\/r' x y H Q):=by
 intro value slice pins s σ H x y v u Q I rx ry q hs;rcases q with q | q
 · exact h value slice pins s σ H x y v u Q I rx ry q hs
 · exact h' value slice pins s σ H x y v u Q I rx ry q hs
theorem t8{r:R2}(hr:IxR X r)(ha:PE X a ta)(hb:PE X b tb)(hs:JY b):PE X (.Subscript a b pos) (cW r ta tb):=by intro pins s σ H Q I h;exact Subscript_ (QP ha hb I h fun v u s2 x y H2 I2 rx ry q=>hr a b pins s2 σ H2 x y v u Q I2 rx ry q (hs _ _))
def VV(K:Frag):R2:=fun x y H Q=>∃p xs i v,x=.ref p/\y=.int i/\vp K H p xs/\Kp xs i=some v/\Q v H
def YV(K:Frag):R2:=fun x y H Q=>∃p xs i v,x=.ref p/\y=.int i/\aJ K H p xs/\Kp xs i=some v/\Q v H
def WV:R2:=fun x y H Q=>∃z i c,x=.str z/\y=.int i/\z.length<=sizeLine/\Kp z.cps.toList i=some c/\Q (.str ⟨#[c]⟩) H
theorem zbC:IxR X (VV X.K):=by
 intro value slice pins s σ H x y v u Q I rx ry h hs;obtain⟨p,xs,i,z,rfl,rfl,hq,he,q⟩:=h;cases rx;obtain⟨t,rfl⟩:=ry;obtain⟨its,r,pl,hz⟩:=I.list hq;obtain⟨j,h1,h2,h3,h4,h5⟩:=UT he;obtain⟨w,ew,rw'⟩:=r.get h2;have hl:=r.length;have hn:=JI;have fin:EP X pins σ Q w s:=⟨z,H,I,rw',q⟩;by_cases h0:0<=i
 · have hj:i.toNat=j:=by rw[seqIndex_of h0 h5]at h1;exact Option.some.inj h1
   exact item_listR pl.isList h0 (by omega) (by rw[hj];simpa using ew) fin hs
 · have hj:(i+(its.toArray.size:Int)).toNat=j:=by rw[seqIndex_neg (by omega) h4]at h1;rw[size_toArray,<- hl];exact Option.some.inj h1
   exact subscriptTail_builtinR (x:=w) pl.isList.typeIs slot_list_getitem.lookup
    (wpAny_getItem_list_neg (Q:=fun r s'=>r=w/\EP X pins σ Q r s') pl.isList (by omega) (by rw[size_toArray]<;>omega) (by omega) (by rw[hj];simpa using ew) ⟨rfl,fin⟩) hs
theorem zbX:IxR X (YV X.K):=by
 intro value slice pins s σ H x y v u Q I rx ry h hs;obtain⟨p,xs,i,z,rfl,rfl,hq,he,q⟩:=h;cases rx;obtain⟨t,rfl⟩:=ry;obtain⟨its,r,pl,hz⟩:=I.tuple hq;obtain⟨j,h1,h2,h3,h4,h5⟩:=UT he;obtain⟨w,ew,rw'⟩:=r.get h2;have hl:=r.length;have hn:=JI;have fin:EP X pins σ Q w s:=⟨z,H,I,rw',q⟩;exact subscriptTail_builtinR (x:=w) pl.typeIs slot_tuple_getitem.lookup
  (getItem_tuple (j:=j) (Q:=fun r s'=>r=w/\EP X pins σ Q r s') pl (by omega) (by omega) (by rw[size_toArray,<- hl];exact h1) (by simpa using ew) ⟨rfl,fin⟩) hs
theorem Mr:IxR X WV:=by
 intro value slice pins s σ H x y v u Q I rx ry h hs;obtain⟨z,i,c,rfl,rfl,hz,he,q⟩:=h;obtain⟨t,rfl⟩:=rx;obtain⟨t',rfl⟩:=ry;obtain⟨j,h1,h2,h3,h4,h5⟩:=UT he;have hl:z.cps.toList.length=z.length:=by simp[Str.length]
 rw[hl]at h1 h4 h5;have hn:=JI;exact tail_any (typeIs_str s z t) slot_str_getitem.lookup (getItem_str (c:=c) (by
  have e1:decide (i < -(2^63:Int))=false:=decide_eq_false (by omega);have e2:decide (i >=2^63)=false:=decide_eq_false (by omega);rw[e1,e2,Bool.or_false]) (by rw[h1];simpa using h2) ⟨.str ⟨#[c]⟩,H,I.tok _,⟨_,rfl⟩,q⟩) hs
def Vd(K:Frag):R2:=fun x y H Q=>VV K x y H Q\/YV K x y H Q\/WV x y H Q
theorem Lr:IxR X (Vd X.K):=zbC.or (zbX.or Mr)
theorem Sq (its:List Value) (n j:Nat) (u:Value):Obj.mapSeq (·.setIfInBounds j u) { cls:=.type "list",data:=.seq its.toArray n }={ cls:=.type "list",data:=.seq (its.set j u).toArray n }:=by simp[Obj.mapSeq]
theorem Inv.lst{pins:List (Addr×Obj)}{σ:St}{H:Hp}{s:Shared}{p:Addr}{xs:List V}(I:Inv X pins σ H s)(h:H p=some (.lst xs)) :
 ∃(its:List Value) (n:Nat),Vals xs its/\s.heap.get? p=some { cls:=.type "list",data:=.seq its.toArray n }/\xs.length<=sizeLine:=by
 obtain⟨z,its,n,r,e⟩:=I.hok p _ h;exact⟨its,n,r,e,z⟩
theorem Inv.zb1{pins:List (Addr×Obj)}{σ:St}{H:Hp}{s:Shared}{p:Addr}{xs ys:List V}{its its':List Value}{n n':Nat}{f:Obj->Obj}(I:Inv X pins σ H s)(h:H p=some (.lst xs))
 (ho:s.heap.get? p=some { cls:=.type "list",data:=.seq its.toArray n }) (hf:f { cls:=.type "list",data:=.seq its.toArray n }={ cls:=.type "list",data:=.seq its'.toArray n' }) (r:Vals ys its') (hz:ys.length<=sizeLine) (t:Nat) :
 Inv X pins σ (PB H p (.lst ys)) { s with heap:=s.heap.update p f,toks:=t }:=by
 have e:(s.heap.update p f).get? p=some { cls:=.type "list",data:=.seq its'.toArray n' }:=by rw[Heap.get?_update_self f ho (by rw[hf]<;>rfl),hf]
 refine I.write (x:=p) (e:=p) (by rw[h];trivial) (.inl rfl) (fun b u hb q=>(Heap.get?_update_other _ _ (Ne.symm hb)).trans q) ⟨_,e⟩ ?_;exact⟨hz,its',n',r,e⟩
def m7:V->V->V->Hp->(Hp->Prop)->Prop:=fun o i v H Q=>∃p xs k j,o=.ref p/\i=.int k/\H p=some (.lst xs)/\cJ xs.length k=some j/\Q (PB H p (.lst (xs.set j v)))
theorem jw:IV X m7:=by
 intro pins s σ H o i v ov iv u Q I ro ri rv h;obtain⟨p,xs,k,j,rfl,rfl,hp,hj,q⟩:=h;cases ro;obtain⟨t,rfl⟩:=ri;obtain⟨its,n,r,ho,hz⟩:=I.lst hp;obtain⟨h1,h2,h3,h4⟩:=oZ hj;have hl:=r.length;have hn:=JI;have I':Inv X pins σ (PB H p (.lst (xs.set j v))) { s with heap:=s.heap.update p (Obj.mapSeq (·.setIfInBounds j u)) }:=
  I.zb1 hp ho (Sq its n j u) (r.set rv j) (by rw[length_set];exact hz) s.toks
 by_cases h0:0<=k
 · have hk:k.toNat=j:=by rw[seqIndex_of h0 h4]at h1;exact Option.some.inj h1
   exact PySem.W.ki_setAt ho h0 (by omega) (by rw[size_toArray,<- hl];exact h4) (by rw[hk];exact⟨_,I',q⟩)
 · have hk:(k+(its.toArray.size:Int)).toNat=j:=by rw[seqIndex_neg (by omega) h3]at h1;rw[size_toArray,<- hl];exact Option.some.inj h1
   exact PySem.W.ki_setBack ho (by omega) (by rw[size_toArray,<- hl];exact h3) (by omega) (by rw[hk];exact⟨_,I',q⟩)
theorem Cj(lo hi:Option Int)(n:Nat):(sliceBounds lo hi none n).1=((HT.sIx n 0 lo:Nat):Int)/\(sliceBounds lo hi none n).2.1=((HT.sIx n n hi:Nat):Int)/\(sliceBounds lo hi none n).2.2=1:=by
 refine⟨?_,?_,rfl⟩
 · cases lo with
   | none=>simp[sliceBounds,HT.sIx]
   | some i=>
    simp only[sliceBounds,HT.sIx,Option.getD_none,show(1:Int)>0 by decide,if_true];by_cases h:i<0
    · simp only[h,if_true]<;>omega
    · simp only[h,if_false]<;>omega
 · cases hi with
   | none=>simp[sliceBounds,HT.sIx]
   | some i=>
    simp only[sliceBounds,HT.sIx,Option.getD_none,show(1:Int)>0 by decide,if_true];by_cases h:i<0
    · simp only[h,if_true]<;>omega
    · simp only[h,if_false]<;>omega
theorem B9(its:List Value)(lo hi:Option Int):slicePick its.toArray lo hi none=((its.drop (HT.sIx its.length 0 lo)).take (HT.sIx its.length its.length hi-HT.sIx its.length 0 lo)).toArray:=by obtain⟨h1,h2,h3⟩:=Cj lo hi its.toArray.size;unfold slicePick;rw[h1,h2,h3];simp only[sliceRange_one,pick_run,size_toArray]<;>rfl
def V4(K:Frag):V->Option Int->Option Int->Hp->VK->Prop:=fun x lo hi H Q=>∃a xs,x=.ref a/\vp K H a xs/\∀p,H p=none->Q (.ref p) (PB H p (.lst (gJ xs lo hi)))
theorem Yr:yd X (V4 X.K):=by intro pins s σ H x v vl vu lo hi sl Q I rx hs pl pu h;obtain⟨a,xs,rfl,hx,q⟩:=h;cases rx;obtain⟨its,r,ht,hz⟩:=I.list hx;have hlen:=r.length;refine⟨"list",_,slot_list_getitem.lookup,ht.isList.typeIs,?_⟩;refine wpAny_getItem_list_slice ht.isList hs pl pu .none (by simp) ?_ (by rw[size_toArray]<;>omega);rw[B9,<- hlen];refine⟨.ref s.heap.objs.size,_,I.laid (t':=s.toks) (o:=.lst (gJ xs lo hi)) (fun b ob q=>Heap.get?_push_of_some _ q) (zfU _) ?_,rfl,q _ (I.hok.fresh (zfU _))⟩;exact⟨zxA (W9 xs lo hi) hz,_,0,(r.drop (HT.sIx xs.length 0 lo)).take (HT.sIx xs.length xs.length hi-HT.sIx xs.length 0 lo),Heap.get?_push_size _ rfl⟩
noncomputable def IG:V->Bool
 | .non=>true
 | .bl _=>true
 | .int _=>true
 | .str _=>true
 | _=>false
noncomputable def oK:V->V->Bool
 | .non,.non=>true
 | .bl a,.bl b=>a==b
 | .bl a,.int b=>(if a then 1 else 0)==b
 | .int a,.bl b=>a==(if b then 1 else 0)
 | .int a,.int b=>a==b
 | .str a,.str b=>a==b
 | _,_=>false
theorem yr{A:Around}{s:Shared}{y x:V}{u v:Value}(ry:RelV y u)(rx:RelV x v)(fy:IG y=true)(fx:IG x=true):SeqAt.EqAt A s u v (oK y x):=by
 cases y with
 | non=>
  cases ry;cases x with
  | non=>cases rx;exact SeqAt.EqAt.same _
  | bl b=>cases rx;exact SeqAt.EqAt.none_bool b
  | int b=>obtain⟨t,rfl⟩:=rx;exact SeqAt.EqAt.none_int b t
  | str b=>obtain⟨t,rfl⟩:=rx;exact SeqAt.EqAt.none_str b t
  | _=>exact absurd (show false=true from fx) zfT
 | bl a=>
  cases ry;cases x with
  | non=>cases rx;exact SeqAt.EqAt.bool_none a
  | bl b=>cases rx;exact SeqAt.EqAt.bool_bool a b
  | int b=>obtain⟨t,rfl⟩:=rx;exact SeqAt.EqAt.bool_int a b t
  | str b=>obtain⟨t,rfl⟩:=rx;exact SeqAt.EqAt.bool_str a b t
  | _=>exact absurd (show false=true from fx) zfT
 | int a=>
  obtain⟨t',rfl⟩:=ry;cases x with
  | non=>cases rx;exact SeqAt.EqAt.int_none a t'
  | bl b=>cases rx;exact SeqAt.EqAt.int_bool a t' b
  | int b=>obtain⟨t,rfl⟩:=rx;exact SeqAt.EqAt.int_int a t' b t
  | str b=>obtain⟨t,rfl⟩:=rx;exact SeqAt.EqAt.int_str a t' b t
  | _=>exact absurd (show false=true from fx) zfT
 | str a=>
  obtain⟨t',rfl⟩:=ry;cases x with
  | non=>cases rx;exact SeqAt.EqAt.str_none a t'
  | bl b=>cases rx;exact SeqAt.EqAt.str_bool a t' b
  | int b=>obtain⟨t,rfl⟩:=rx;exact SeqAt.EqAt.str_int a t' b t
  | str b=>obtain⟨t,rfl⟩:=rx;exact SeqAt.EqAt.str_str a t' b t
  | _=>exact absurd (show false=true from fx) zfT
 | _=>exact absurd (show false=true from fy) zfT
def mI(x:V)(u:Value):Bool:=match u with
 | .none=>oK .non x
 | .bool b=>oK (.bl b) x
 | .int i _=>oK (.int i) x
 | .str z _=>oK (.str z) x
 | _=>false
theorem YZ{x y:V}{u:Value}(r:RelV y u)(f:IG y=true):mI x u=oK y x:=by
 cases y with
 | non=>cases r;rfl
 | bl b=>cases r;rfl
 | int i=>obtain⟨t,rfl⟩:=r;rfl
 | str z=>obtain⟨t,rfl⟩:=r;rfl
 | _=>exact absurd (show false=true from f) zfT
theorem wL{x:V}:∀{xs:List V}{us:List Value},Vals xs us->xs.all IG=true->us.any (mI x)=xs.any fun y=>oK y x
 | _,_,.nil,_=>rfl
 | y::xs,u::us,.cons r t,f=>by rw[all_cons,Bool.and_eq_true]at f;rw[any_cons,any_cons,YZ r f.1,wL t f.2]
theorem xL{A:Around}{s:Shared}{x:V}{v:Value}(rx:RelV x v)(fx:IG x=true):∀{xs:List V}{us:List Value},Vals xs us->xs.all IG=true->∀u∈us,SeqAt.EqAt A s u v (mI x u)
 | _,_,.nil,_=>fun u hu=>by cases hu
 | y::xs,u::us,.cons r t,f=>fun u' hu=>by
  rw[all_cons,Bool.and_eq_true]at f;rcases mem_cons.mp hu with rfl | hu
  · rw[YZ r f.1];exact yr r rx f.1 fx
  · exact xL rx fx t f.2 u' hu
def dM(x:V)(xs:List V):Bool:=xs.any fun y=>oK y x
def T4(K:Frag)(neg:Bool):R2:=fun x y H Q=>∃p xs,y=.ref p/\(vp K H p xs\/aJ K H p xs)/\IG x=true/\xs.all IG=true/\Q (.bl (if neg then !dM x xs else dM x xs)) H
theorem bx:Bp X (compareOp .In) (T4 X.K false):=by
 intro pins s σ H x y v u Q I rx ry h;obtain⟨p,xs,rfl,hq,fx,fs,q⟩:=h;cases ry;rcases hq with hq | hq
 · obtain⟨its,r,pl,hz⟩:=I.list hq;refine SeqAt.in_listAt (mI x) pl.isList (fun w hw=>xL rx fx r fs w (by simpa using hw)) ⟨.bl _,H,I,rfl,?_⟩;rw[show its.toArray.any (mI x)=its.any (mI x) by simp,wL r fs];exact q
 · obtain⟨its,r,pl,hz⟩:=I.tuple hq;refine SeqAt.in_tupleAt (mI x) pl (fun w hw=>xL rx fx r fs w (by simpa using hw)) ⟨.bl _,H,I,rfl,?_⟩;rw[show its.toArray.any (mI x)=its.any (mI x) by simp,wL r fs];exact q
theorem G9:Bp X (compareOp .NotIn) (T4 X.K true):=by
 intro pins s σ H x y v u Q I rx ry h;obtain⟨p,xs,rfl,hq,fx,fs,q⟩:=h;cases ry;rcases hq with hq | hq
 · obtain⟨its,r,pl,hz⟩:=I.list hq;refine SeqAt.notIn_listAt (mI x) pl.isList (fun w hw=>xL rx fx r fs w (by simpa using hw)) ⟨.bl _,H,I,rfl,?_⟩;rw[show its.toArray.any (mI x)=its.any (mI x) by simp,wL r fs];exact q
 · obtain⟨its,r,pl,hz⟩:=I.tuple hq;refine SeqAt.notIn_tupleAt (mI x) pl (fun w hw=>xL rx fx r fs w (by simpa using hw)) ⟨.bl _,H,I,rfl,?_⟩;rw[show its.toArray.any (mI x)=its.any (mI x) by simp,wL r fs];exact q
theorem O9:Hl X (.builtin "len") (fun xs H Q=>∃p ys,xs=[.ref p]/\(vp X.K H p ys\/aJ X.K H p ys)/\Q (.int ys.length) H):=by
 intro pins s σ H xs us Q I r h;obtain⟨p,ys,rfl,hq,q⟩:=h;obtain⟨u,rfl,rx⟩:=TF r;cases rx;have hn:=JI;rcases hq with hq | hq
 · obtain⟨its,r',pl,hz⟩:=I.list hq;have hlen:=r'.length;exact Calls.call_len_list pl.isList (by simp only[size_toArray]<;>omega) ⟨.int ys.length,H,I.tok _,⟨s.toks+1,by rw[size_toArray,hlen]⟩,q⟩
 · obtain⟨its,r',pl,hz⟩:=I.tuple hq;have hlen:=r'.length;exact len_tuple pl (by simp only[size_toArray]<;>omega) ⟨.int ys.length,H,I.tok _,⟨s.toks+1,by rw[size_toArray,hlen]⟩,q⟩
theorem P9:Hl X (.builtin "len") (fun xs H Q=>∃z,xs=[.str z]/\z.length<=sizeLine/\Q (.int z.length) H):=by intro pins s σ H xs us Q I r h;obtain⟨z,rfl,hz,q⟩:=h;obtain⟨u,rfl,t,rfl⟩:=TF r;have hn:=JI;exact len_str (by omega) ⟨.int z.length,H,I.tok _,⟨_,rfl⟩,q⟩
theorem Hl.or{f:Value}{r r':List V->Hp->VK->Prop}(h:Hl X f r)(h':Hl X f r'):Hl X f (fun xs H Q=>r xs H Q\/r' xs H Q):=by
 intro pins s σ H xs us Q I rs q;rcases q with q | q
 · exact h pins s σ H xs us Q I rs q
 · exact h' pins s σ H xs us Q I rs q
theorem Q9:Hl X (.type "list") (fun xs H Q=>∃p ys,xs=[.ref p]/\(vp X.K H p ys\/aJ X.K H p ys)/\∀l,H l=none->Q (.ref l) (PB H l (.lst ys))):=by
 intro pins s σ H xs us Q I r h;obtain⟨p,ys,rfl,hq,q⟩:=h;obtain⟨u,rfl,rx⟩:=TF r;cases rx;have fin:∀(its:List Value),Vals ys its->ys.length<=sizeLine->∀(h':Heap)(c':Nat),(∀b o',s.heap.get? b=some o'->h'.get? b=some o')->
  h'.get? s.heap.objs.size=some { cls:=.type "list",dict:=none,data:=.seq its.toArray c',slots:=#[] }->EP X pins σ Q (.ref s.heap.objs.size) { s with heap:=h' }:=fun its r' hz h' c' kp e=>
  ⟨.ref s.heap.objs.size,_,I.laid (t':=s.toks) kp (zfU _) (show Rm X.prog X.w _ h' _ (.lst ys)from⟨hz,its,c',r',e⟩),rfl,q _ (I.hok.fresh (zfU _))⟩
 rcases hq with hq | hq
 · obtain⟨its,r',pl,hz⟩:=I.list hq;have hlen:=r'.length;obtain⟨o,ho,hc,n,hd⟩:=pl.isList;exact call_list_seq p (.inl rfl) ho hc hd (fun h' c' kp e=>fin its r' hz h' c' kp e) (by simp only[size_toArray]<;>omega)
 · obtain⟨its,r',pl,hz⟩:=I.tuple hq;have hlen:=r'.length;obtain⟨o,ho,hc,n,hd⟩:=pl;exact call_list_seq p (.inr rfl) ho hc hd (fun h' c' kp e=>fin its r' hz h' c' kp e) (by simp only[size_toArray]<;>omega)
def u5(K:Frag)(T:String)(x:V)(H:Hp):Prop:=match x with
 | .str _=>T = "str"
 | .int _=>T = "int"
 | .ref p=>(T = "list" /\ ∃xs,vp K H p xs)\/(T = "tuple" /\ ∃o,K.lookup p=some o/\o.cls=.type "tuple" /\ o.dict=none)\/
  (T = "dict" /\ ((∃kvs,H p=some (.dK kvs))\/∃kvs,H p=some (.dT kvs)))\/(T = "set" /\ ∃S n,H p=some (.set S n))
 | _=>False
theorem i6{pins:List (Addr×Obj)}{σ:St}{H:Hp}{s:Shared}{T:String}{x:V}{v:Value}(I:Inv X pins σ H s)(r:RelV x v)(ty:u5 X.K T x H) :
 s.TypeIs v T/\∀a,v=.ref a->∃ob,s.heap.get? a=some ob/\ob.dict=none:=by
 cases x with
 | str z=>obtain⟨t,rfl⟩:=r;cases (show T = "str" from ty);exact⟨typeIs_str s z t,fun Z e=>nomatch e⟩
 | int i=>obtain⟨t,rfl⟩:=r;cases (show T = "int" from ty);exact⟨typeIs_int s i t,fun Z e=>nomatch e⟩
 | ref p=>
  cases r;rcases ty with⟨rfl,xs,hq⟩ | ⟨rfl,o,hk,hc,hd⟩ | ⟨rfl,hk⟩ | ⟨rfl,S,n,hk⟩
  · obtain⟨its,Z,pl,Z⟩:=I.list hq;refine⟨pl.isList.typeIs,fun a e=>?_⟩;cases e;obtain⟨o,n,e,c,hd,Z⟩:=pl;exact⟨o,e,hd⟩
  · refine⟨⟨o,I.kIn p o hk,hc⟩,fun a e=>?_⟩;cases e;exact⟨o,I.kIn _ o hk,hd⟩
  · have z:∃o,s.heap.get? p=some o/\o.ExactDict:=by
     rcases hk with⟨kvs,hk⟩ | ⟨kvs,hk⟩
     · obtain⟨Z,Z,Z,Z,o,Z,Z,e,ex,Z⟩:=I.hok p _ hk;exact⟨o,e,ex⟩
     · obtain⟨Z,Z,Z,Z,o,Z,Z,e,ex,Z⟩:=I.hok p _ hk;exact⟨o,e,ex⟩
    obtain⟨o,e,ex⟩:=z;refine⟨⟨o,e,ex.1⟩,fun a e2=>?_⟩;cases e2;exact⟨o,e,ex.2.1⟩
  · obtain⟨o,Z,Z,Z,e,ex,Z⟩:=I.hok p _ hk;refine⟨⟨o,e,ex.1⟩,fun a e2=>?_⟩;cases e2;exact⟨o,e,ex.2.1⟩
 | _=>exact False.elim ty
def Ec(K:Frag)(T:String)(r:V->List V->Hp->VK->Prop)(to:TE)(t:TA):TE:=fun σ H Q=>to σ H fun x H1=>u5 K T x H1/\t σ H1 fun xs H2=>r x xs H2 Q
variable{o e:Expr}{es:List Expr}{to:TE}{t:TA}{name:Str}{apos cpos:Pos}{T id:String}{r:V->List V->Hp->VK->Prop}
theorem YL (pa:PlainAttrs T) (slot:Slot T name id) (hty:typeOf (.builtin id)=pure (.type "method_descriptor")) (hm:L3 X id r) (ho:PE X o to) (ha:PA X (e::es) t)
 (hbase:autoParam (attributeBase o name X.env (eval o X.env)=eval o X.env) zqR._auto_1)
 (hfew:autoParam (((backTo cpos (starEach (e::es) X.env)).all (fun x=>!x.1)&&(backToKw cpos (keywordEach [] X.env)).all (fun x=>x.1.isSome)
  && decide ((e::es).length+([]:List Keyword).length+(if([]:List Keyword).isEmpty then 0 else 1)<30))=true) zqR._auto_1)
 (hline:autoParam ((apos.endLine==cpos.line)=true) zqR._auto_1) (hs:autoParam (starEach (e::es) X.env=(false,eval e X.env)::starEach es X.env) zqR._auto_1) (hplain:autoParam ((backTo cpos (starEach es X.env)).any (·.1)=false) zqR._auto_1) :
 PE X (.Call (.Attribute o name apos) (e::es) [] cpos) (Ec X.K T r to t):=by
 intro pins s σ H Q I h;refine wpAny_Call_method_late hbase hfew hline rfl (HB (ho pins s σ H _ I h) fun v s1 zz=>?_);obtain⟨x,H1,I1,r1,ty,q1⟩:=zz;obtain⟨h1,h2⟩:=i6 I1 r1 ty;refine⟨T,id,pa,slot,hty,h1,h2,?_⟩;have hA:=ha cpos pins s1 σ H1 _ I1 q1;rw[hs]at hA ⊢;refine Calls.callWith_builtin (by show(false || (backTo cpos (starEach es X.env)).any (·.1))=false;rw[hplain]<;>rfl) (Calls.evalArgs_plain ?_);exact HB hA fun us s2 ⟨vs,H2,I2,r2,q2⟩=>hm pins s2 σ H2 x vs v us Q I2 r1 r2 q2
end
def K3(X:Cx)(id:String)(r:V->List V->Hp->VK->Prop):Prop:=
 ∀(pins:List (Addr×Obj))(s:Shared)(σ:St)(H:Hp)(x:V)(xs:List V)(v:Value)(us:List Value)(Q:VK),Inv X pins σ H s->RelV x v->Vals xs us->r x xs H Q->
  wpAny (model X.prog X.w) X.A (call (.builtin id) (v::us)) (EP X pins σ Q) X.xe s
theorem Vals.one:∀{x:V}{us:List Value},Vals [x] us->∃u,us=[u]/\RelV x u
 | _,_,.cons r .nil=>⟨_,rfl,r⟩
theorem Vals.zero:∀{us:List Value},Vals [] us->us=[]
 | _,.nil=>rfl
theorem Vals.eraseIdx:∀{xs:List V}{us:List Value}(i:Nat),Vals xs us->Vals (xs.eraseIdx i) (us.eraseIdx i)
 | _,_,_,.nil=>.nil
 | _,_,0,.cons _ t=>t
 | _,_,i+1,.cons r t=>.cons r (Vals.eraseIdx i t)
theorem Vals.rep{xs:List V}{us:List Value}(h:Vals xs us):∀k:Nat,Vals (replicate k xs).flatten (replicate k us).flatten
 | 0=>.nil
 | k+1=>by rw[replicate_succ,replicate_succ,flatten_cons,flatten_cons];exact Vals.append h (Vals.rep h k)
theorem hX{α:Type}:∀(l:List α)(i:Nat),(l.eraseIdx i).length<=l.length
 | [],_=>zfU _
 | _::_,0=>Nat.le_succ _
 | _::r,i+1=>Nat.succ_le_succ (hX r i)
theorem cX(its:List Value):∀(k:Nat)(acc:List Value),
 List.foldl (fun x1 x2=>x1++x2) acc.toArray (replicate k its.toArray)=(acc++(replicate k its).flatten).toArray
 | 0,acc=>by simp
 | k+1,acc=>by
  have e:acc.toArray++its.toArray=(acc++its).toArray:=by simp
  have e2:(acc++its)++(replicate k its).flatten=acc++(replicate (k+1) its).flatten:=by rw[replicate_succ,flatten_cons,append_assoc]
  rw[<- e2,<- cX its k (acc++its),<- e,replicate_succ,foldl_cons]
section
variable{X:Cx}{pins:List (Addr×Obj)}{σ:St}{H:Hp}{s:Shared}{l b:Addr}{xs ys zs:List V}
theorem Inv.zb0{its its':List Value}{n:Nat}{f:Array Value->Array Value}{t':Nat}(I:Inv X pins σ H s)(hH:H l=some (.lst xs))
 (e:s.heap.get? l=some { cls:=.type "list",data:=.seq its.toArray n }) (hf:f its.toArray=its'.toArray) (hv:Vals ys its') (hz:ys.length<=sizeLine) :
 Inv X pins σ (PB H l (.lst ys)) { s with heap:=s.heap.update l (Obj.mapSeq f),toks:=t' }:=by
 have q:=PySem.IsL.update e f;rw[hf]at q;refine I.write (x:=l) (e:=l) (by rw[hH];exact trivial) (.inl rfl) (fun b' u hb hu=>(Heap.get?_update_other s.heap (Obj.mapSeq f) (Ne.symm hb)).trans hu) ⟨_,q⟩ ?_;exact⟨hz,its',_,hv,q⟩
theorem Inv.zbZ{its:List Value}{t':Nat}(I:Inv X pins σ H s)(hv:Vals ys its)(hz:ys.length<=sizeLine) :
 Inv X pins σ (PB H s.heap.objs.size (.lst ys)) { s with heap:=s.heap.push { cls:=.type "list",data:=.seq its.toArray },toks:=t' }:=
 I.laid (fun Z Z q=>Heap.get?_push_of_some _ q) (zfU _) ⟨hz,its,0,hv,Heap.get?_push_size _ rfl⟩
theorem Inv.fresh(I:Inv X pins σ H s):H s.heap.objs.size=none:=I.hok.fresh (zfU _)
theorem Inv.zbo (I:Inv X pins σ H s) (hH:H l=some (.lst xs)):xs.length<=sizeLine/\∃(its:List Value) (n:Nat),Vals xs its/\xs.length=its.length/\s.heap.get? l=some { cls:=.type "list",data:=.seq its.toArray n }:=by obtain⟨z,its,n,r,e⟩:=I.hok l _ hH;exact⟨z,its,n,r,r.length,e⟩
theorem qY{n:Nat}(h:n<=sizeLine):Builtin.List.listTooLong n=false:=by unfold Builtin.List.listTooLong;exact decide_eq_false (by omega)
end
section
variable{X:Cx}
def Ig:V->List V->Hp->VK->Prop:=fun x vs H Q=>∃l xs y,x=.ref l/\vs=[y]/\H l=some (.lst xs)/\xs.length<sizeLine/\Q .non (PB H l (.lst (xs++[y])))
theorem kX:K3 X "list.append" Ig:=by intro pins s σ H x vs v us Q I rx rv h;obtain⟨l,xs,y,rfl,rfl,hH,hz,q⟩:=h;cases rx;obtain⟨u,rfl,ru⟩:=rv.one;obtain⟨z,its,n,r,hl,e⟩:=I.zbo hH;refine call_meets F.slot_list_append ⟨_,e,rfl⟩ F.entry_list_append (F.args_list_append_2 _ _) (PySem.list_append l its.toArray n u (by rw[size_toArray];omega)) ⟨e,?_⟩;refine⟨.non,_,I.zb0 (its':=its++[u]) hH e (by simp) (r.append (.cons ru .nil)) ?_,rfl,q⟩;rw[length_append,length_singleton];omega
def Jg:V->List V->Hp->VK->Prop:=fun x vs H Q=>∃l b xs zs,x=.ref l/\vs=[.ref b]/\H l=some (.lst xs)/\H b=some (.lst zs)/\xs.length+zs.length<=sizeLine/\Q .non (PB H l (.lst (xs++zs)))
theorem Xx:K3 X "list.extend" Jg:=by
 intro pins s σ H x vs v us Q I rx rv h;obtain⟨l,b,xs,zs,rfl,rfl,hH,hB,hz,q⟩:=h;cases rx;obtain⟨u,rfl,ru⟩:=rv.one;cases ru;obtain⟨z,its,n,r,hl,e⟩:=I.zbo hH;obtain⟨z2,its2,n2,r2,hl2,e2⟩:=I.zbo hB;have hsz:its.toArray.size+its2.toArray.size<=sizeLine:=by rw[size_toArray,size_toArray];omega
 have zbl:¬(!its.toArray.isEmpty&&Builtin.List.listTooLong (its.toArray.size+its2.toArray.size))=true:=by rw[qY hsz,Bool.and_false];exact zfT
 refine call_meets F.slot_list_extend ⟨_,e,rfl⟩ F.entry_list_extend (F.args_list_extend_2 _ _)
  (AutoSeq1.list_extend_list_list_0 l its.toArray n b its2.toArray n2 zbl (by rw[size_toArray];omega) (by omega)) ⟨e,e2,?_⟩
 refine⟨.non,_,I.zb0 (its':=its++its2) hH e (by simp) (r.append r2) ?_,rfl,q⟩;rw[length_append];omega
def Q5:V->List V->Hp->VK->Prop:=fun x vs H Q=>∃l xs i k y,x=.ref l/\vs=[.int i]/\H l=some (.lst xs)/\-(2^63)<=i/\i<2^63/\seqIndex? i xs.length=some k/\xs[k]?=some y/\Q y (PB H l (.lst (xs.eraseIdx k)))
theorem Zk:K3 X "list.pop" Q5:=by
 intro pins s σ H x vs v us Q I rx rv h;obtain⟨l,xs,i,k,y,rfl,rfl,hH,h1,h2,hk,hy,q⟩:=h;cases rx;obtain⟨u,rfl,ru⟩:=rv.one;obtain⟨t,rfl⟩:=ru;obtain⟨z,its,n,r,hl,e⟩:=I.zbo hH;obtain⟨w,hw,rw'⟩:=r.get hy;refine call_meets F.slot_list_pop ⟨_,e,rfl⟩ F.entry_list_pop (F.args_list_pop_2 _ _)
  (MeetsSeq.list_pop_at l its.toArray n i t k w (fitsIndex_both h1 h2) (by rw[size_toArray,<- hl];exact hk) (by rw[<- Array.getElem?_toList];exact hw) (by rw[size_toArray];omega)) ⟨e,?_⟩
 refine⟨y,_,I.zb0 (its':=its.eraseIdx k) hH e ?_ (r.eraseIdx k) ?_,rw',q⟩
 · show its.toArray.eraseIdxIfInBounds k=(its.eraseIdx k).toArray;rw[eraseIdxIfInBounds_toArray]
 · have:=hX xs k;omega
def ZV:R2:=fun x y H Q=>∃l k xs,x=.ref l/\y=.int k/\H l=some (.lst xs)/\-(2^63)<=k/\k<2^63/\xs.length*k.toNat<=sizeLine/\
 ∀p,H p=none->Q (.ref p) (PB H p (.lst (replicate k.toNat xs).flatten))
theorem Bt{α:Type}(xs:List α)(k:Nat):(replicate k xs).flatten.length=k*xs.length:=by
 induction k with
 | zero=>simp
 | succ k ih=>rw[replicate_succ,flatten_cons,length_append,ih,Nat.succ_mul,Nat.add_comm]
theorem LZ:Bp X (binaryOp .Mult) ZV:=by
 intro pins s σ H x y v u Q I rx ry h;obtain⟨l,k,xs,rfl,rfl,hH,h1,h2,hz,q⟩:=h;cases rx;obtain⟨t,rfl⟩:=ry;obtain⟨z,its,n,r,hl,e⟩:=I.zbo hH;have hlen:its.toArray.size*k.toNat<=sizeLine:=by rw[size_toArray,<- hl];exact hz
 have hcap:¬its.toArray.size*k.toNat>(2^63-1)/8:=by
  have:(sizeLine:Nat)<=(2^63-1)/8:=by decide
  omega
 have hfit:¬(!Builtin.List.listFitsIndex k)=true:=by rw[fitsIndex_both h1 h2];exact zfT
 have zbl:¬Builtin.List.listTooLong (its.toArray.size*k.toNat)=true:=by rw[qY hlen];exact zfT
 have hnew:List.foldl (fun x1 x2=>x1++x2) #[] (replicate (if its.toArray.isEmpty=true then 0 else k.toNat) its.toArray)=(replicate k.toNat its).flatten.toArray:=by
  have f0:∀m:Nat,List.foldl (fun x1 x2=>x1++x2) #[] (replicate m its.toArray)=(replicate m its).flatten.toArray:=fun m=>by have:=cX its m [];rw[zfP]at this;exact this
  rw[f0];cases its with
  | nil=>simp
  | cons a r'=>rw[if_neg (by simp)]
 refine wpAny_binaryOp_repeat_ref (T := "list") (U := "int") (by decide) ⟨_,e,rfl⟩ (fun s'=>typeIs_int s' k t) noFill_list_mul F.fills_int_mul F.slot_int_rmul repeat_list F.slot_int_index.lookup
  (call_meets F.slot_int_rmul (typeIs_int s k t) F.entry_int_rmul (F.args_int_rmul_2 _ _) (int___rmul___int_list k t l its.toArray n)
   ⟨e,rfl,⟨_,e,rfl⟩,call_meets F.slot_list_mul ⟨_,e,rfl⟩ F.entry_list_mul (F.args_list_mul_2 _ _) (AutoListH.list___mul___list_int_3 l its.toArray n k t hfit hcap zbl) ⟨e,?_⟩⟩)
 rw[hnew];exact⟨.ref _,_,I.zbZ (t':=s.toks) (r.rep k.toNat) (by rw[Bt,Nat.mul_comm];exact hz),rfl,q _ I.fresh⟩
end
section
variable{prog:Program}{w:World}{A:Around}{E:Value->Shared->Prop}{s:Shared}
end
section
variable{X:Cx}
end
end L2
namespace Att
open PySem.W PySem.Calls
theorem p9{P:Params}{h:Heap}:∀(ns:List Int)(vs:List Value),WellAll P h vs (ns.map WData.int)->IntsAre vs ns:=by
 intro ns
 induction ns with
 | nil=>intro vs w;rw[zfK]at w;cases w;exact .nil
 | cons n ns ih=>
  intro vs w;rw[zfJ]at w;cases w with
  | cons a b=>cases a;exact .cons _ _ (ih _ b)
theorem Xv{l:OpenLaw}{n:Nat}(hn:l.most=some n){P:Params}{h:Heap}{args:List WData}{vals:List Value}
 (hpre:l.row.toRowW.claim.pre args=true) (hwl:WellAll P h vals args) :
 ∃a vs ns,vals=[Value.ref a]/\args=[WData.list (ns.map WData.int)]/\h.get? a=some { cls:=.type "list",data:=.seq vs.toArray }/\IntsAre vs ns/\ns.length<=n:=by
 have hsh:WShape.hasAll [] args [.list .int]=true:=(pre_splitW hpre).1;have hc:l.pre.holds [] { args:=args }=true:=(pre_splitW hpre).2;obtain⟨d,r,rfl,h1,h2⟩:=hasAllW_cons hsh;obtain rfl:=hasAllW_nil h2;obtain⟨xs,rfl,h3⟩:=hasW_list h1;obtain⟨ns,rfl⟩:=items_int h3;have hlen:ns.length<=n:=by
  unfold OpenLaw.pre at hc;have h4:(WTm.not (.lt (.lit (.int (n:Int))) (.len (.arg 0)))).holds [] { args:=[.list (ns.map .int)] }=true:=by have h4:=(holds_andW hc).1;rw[hn]at h4;exact h4
  have h5:=condW_of h4 (w_not (w_lt w_lit (w_len_list (w_arg rfl))));rw[length_map]at h5;refine Nat.le_of_not_lt fun q=>?_
  have q':(n:Int)<((ns.length:Nat):Int):=by omega
  first
   | (rw[decide_eq_true q']at h5;exact absurd h5 (by decide))
   | (simp at h5;omega)
 cases hwl with
 | cons w1 w2=>
  cases w2;cases w1 with
  | list ho hall=>exact⟨_,_,ns,rfl,rfl,ho,p9 ns _ hall,hlen⟩
theorem Rv(l:OpenLaw)(args:List WData):l.row.toRowW.claim.post args (.bool true) args=true:=
 postW_of (r:=l.row.toRowW) (X:=(true==true))
  (show WShape.has [] (.bool true) .bool=true by first | rfl | decide | simp[WShape.has,WShape.arms,WShape.armsAll])
  (show(WTm.eq .res (.lit (.bool true))).value [] { args:=args,res:=some (.bool true),after:=args }=some (.bool (true==true))from w_eq_bool (w_res rfl) w_lit) rfl
theorem zaK{l:OpenLaw}{n:Nat}{q:Program}{loose:List Str}{XP:(Str->Option Value)->Heap->Prop}{YP:World->Heap->Prop}{d:DefRec}
 (hn:l.most=some n) (hdf:d.params.defaults=[])
 (call:∀(w:World)(s₀ s₁:Shared)(mg mb:Str->Option Value)(fa:Addr)(o:Obj)(pm cd doc:Value)(a:Addr)(vs:List Value)(ns:List Int),
  Ground q loose [] XP w s₀ mg mb s₁.heap->YP w s₁.heap->
  s₁.heap.get? fa=some o->o.data=.func (docDef d.name d.params d.body d.scope pm cd doc)->s₁.heap.CodeRec cd d.name->mg d.name=some (.ref fa)->
  s₁.heap.get? a=some { cls:=.type "list",data:=.seq vs.toArray }->IntsAre vs ns->ns.length<=n->s₁.gens=#[]->
  codeAny (model l.prog w) callerA (.call (.ref fa) ⟨[.ref a],[]⟩) (fun r s'=>r=.ok (.ret (.bool true))/\OldK s₁.heap s'.heap/\s'.os=s₁.os/\AllBare s'.gens) s₁) :
 WalkO q loose XP YP l.row.toRowW d [] (fun f vs=>PySem.call f vs):=by
 intro w s₀ s₁ mg mb G Y fa o pm cd doc dV kV ho hd hcd hD hmg hg args vals as hpre hlay hrd hwl hlo;obtain rfl:dV=.none:=Dflts.none hD hdf;obtain rfl:kV=.none:=Dflts.noKw hD;obtain⟨a,vs,ns,rfl,rfl,hobj,hints,hlen⟩:=Xv hn hpre hwl;refine enter_call (codeAny_mono (call w s₀ s₁ mg mb fa o pm cd doc a vs ns G Y ho (fd_plain hd) hcd hmg hobj hints hlen hg) fun r s' hq=>?_);obtain⟨rfl,h2,h3,h4⟩:=hq;exact⟨.inl ⟨.bool true,.bool true,[],rfl,fun Z=>rfl,.bool true,Rv l _,fun Z=>⟨List.Pairwise.nil,fun Z hm=>(nomatch hm)⟩⟩,h2,h3,h4⟩
section
variable{prog:Program}{w:World}{A:Around}{E:Value->Shared->Prop}{s:Shared}{K:Frag}
end
end Att
namespace L2
theorem XX:∀{vs:List Value}{ns:List Int},IntsAre vs ns->Vals (ns.map V.int) vs
 | _,_,.nil=>.nil
 | _,_,.cons n t h=>.cons ⟨t,rfl⟩ (XX h)
noncomputable def LP(H:Hp):Prop:=∀b,H b=none\/∃o xs,H b=some (.frz o (.lst xs))
theorem Uk{P:Program}{w:World}{K:Frag}{mg mb:Str->Option Value}{CX:gK}{k:Nat}{fa a:Addr}{fd:FuncData}{x:Str}{sp:Sp}{s₁:Shared}{vs:List Value}{ns:List Int}
 (KX:K.In s₁.heap) (hns:s₁.heap.Ns mainGlobals mg) (hb:s₁.heap.Ns builtinsNs mb) (hbb:∀x:Str,x ≠ "__name__" ->mb x=bootBuiltins x) (hlim:s₁.heap.NoLimit) (hg:s₁.gens=#[])
 (ha:s₁.heap.get? a=some { cls:=.type "list",data:=.seq vs.toArray }) (hi:IntsAre vs ns) (hl:ns.length<=sizeLine) (hr:Ym k callerA)
 (F:∀base:Heap,K.In base->base.Ns mainGlobals mg->Xl P w K mg base CX k fa fd [x] sp) (hbind:∀(s:Shared)(u:Value),BindsTo s fd ⟨[u],[]⟩ [(x,u)])
 (hsp:∀H:Hp,LP H->vp K H a (ns.map V.int)->sp [.ref a] H (fun v Z=>v=.bl true) fun Z Z Z=>False)
 (hCX:∀H e s',CX [] H s₁ (fun Z Z Z=>False) e s'->False) :
 codeAny (model P w) callerA (.call (.ref fa) ⟨[.ref a],[]⟩) (fun r s'=>r=.ok (.ret (.bool true))/\OldK s₁.heap s'.heap/\s'.os=s₁.os/\AllBare s'.gens) s₁:=by
 have rv:=XX hi;have lenV:=hi.length;have core:∀H:Hp,LP H->vp K H a (ns.map V.int)->HOk P w H s₁.heap->(∀b,H b≠none->b=a)->(H a≠none->K.lookup a=none)->
  codeAny (model P w) callerA (.call (.ref fa) ⟨[.ref a],[]⟩) (fun r s'=>r=.ok (.ret (.bool true))/\OldK s₁.heap s'.heap/\s'.os=s₁.os/\AllBare s'.gens) s₁:=by
  intro H hO hS hok hA hK;have zaW:∀{b:Addr}{o:Obj},s₁.heap.get? b=some o->H b=none->(UG s₁.heap H).get? b=some o:=fun e n=>Dk e n
  have noA:∀{b:Addr}{o:Obj}{es:Array DictEntry}{ep:Nat},s₁.heap.get? b=some o->o.data=.dict es ep->H b=none:=fun {b o es ep} e d=>by
   cases q:H b with
   | none=>rfl
   | some u=>have e':b=a:=hA b (by rw[q];simp);subst e';rw[ha]at e;cases e;have d':Data.seq vs.toArray _=Data.dict es ep:=d;cases d'
  have nsK:∀{b:Addr}{m:Str->Option Value},s₁.heap.Ns b m->(UG s₁.heap H).Ns b m:=fun {b m} ⟨o,es,ep,e,d,r⟩=>⟨o,es,ep,zaW e (noA e d),d,r⟩
  have hKb:K.In (UG s₁.heap H):=fun b o e=>zaW (KX b o e) (by
   cases q:H b with
   | none=>rfl
   | some u=>
    have e':b=a:=hA b (by rw[q];simp);subst e';rw[hK (by rw[q];simp)]at e;cases e)
  have hM:Mod K mg (UG s₁.heap H):=⟨hKb,nsK hns,⟨mb,nsK hb,hbb⟩,let ⟨mc,h1,h2⟩:=hlim;⟨mc,nsK h1,h2⟩⟩;have e0:zaN P w K mg (UG s₁.heap H) callerA [] s₁ H:=⟨rfl,hM,fun b o e=>Qg e,Nat.le_of_eq (Gz _ _),trivial,fun b hb=>absurd (show b∈([]:List Addr)from hb) (by simp),hok,.of_eq hg⟩;refine codeAny_mono ((F _ hKb (nsK hns)).run callerA [] s₁ H ⟨[.ref a],[]⟩ [.ref a] [.ref a] _ _ hr e0 (hbind s₁ (.ref a)) (.cons rfl .nil) (hsp H hO hS)) fun r s' h=>?_
  cases r with
  | error e=>exact(hCX H e s' h).elim
  | ok fl=>
   cases fl with
   | next=>exact False.elim h
   | brk=>exact False.elim h
   | cont=>exact False.elim h
   | ret u=>
    obtain⟨v,H',os,bare,un,hok',r',q⟩:=h;have q':v=.bl true:=q;subst q';obtain rfl:u=Value.bool true:=r';refine⟨rfl,OldK.of_keep fun b o e=>?_,os,bare⟩;cases q:H b with
    | none=>exact un.keep b o e q (by intro z;exact absurd (show b∈([]:List Addr)from z) (by simp)) (by simp)
    | some u=>
     rcases hO b with z | ⟨ob,xs,z⟩
     · rw[q]at z;cases z
     · have z2:=un.zam b ob _ z;obtain⟨e1,Z⟩:=hok b _ z;obtain⟨e2,Z⟩:=hok' b _ z2;rw[e]at e1;cases e1;exact e2
 cases hk:K.lookup a with
 | some o=>have e:=KX a o hk;rw[ha]at e;cases e;refine core (fun Z=>none) (fun Z=>.inl rfl) (.inr ⟨_,vs.toArray,_,hk,rfl,rfl,rfl,by rw[size_toArray,lenV];exact hl,by simpa using rv⟩) (fun b u z=>by have z':(none:Option HO)=some u:=z;cases z') (fun b z=>absurd rfl z) fun z=>absurd rfl z
 | none=>
  refine core (fun b=>if b=a then some (.frz { cls:=.type "list",data:=.seq vs.toArray } (.lst (ns.map V.int)))else none) (fun b=>?_) (.inl (.inr ⟨{ cls:=.type "list",data:=.seq vs.toArray },if_pos rfl⟩)) (fun b u z=>?_) (fun b z=>?_) fun Z=>hk
  · by_cases hb:b=a
    · exact .inr ⟨_,_,if_pos hb⟩
    · exact .inl (if_neg hb)
  · by_cases hb:b=a
    · have z':=(if_pos hb).symm.trans z;cases z';subst hb;exact⟨ha,by rw[length_map];exact hl,vs,_,rv,ha⟩
    · have z':=(if_neg hb).symm.trans z;cases z'
  · by_cases hb:b=a
    · exact hb
    · exact absurd (if_neg hb) z
theorem zf{l:PySem.W.OpenLaw}{n k:Nat}{q:Program}{loose:List Str}{XP:(Str->Option Value)->Heap->Prop}{YP:World->Heap->Prop}{d:DefRec}{K:Params->Frag}{CX:World->gK}{sp:World->Sp}{x:Str}
 (hn:l.most=some n) (hn2:n<=sizeLine) (hdf:d.params.defaults=[]) (hr:Ym k callerA)
 (hY:∀(w:World)(h:Heap),YP w h->(K w.params).In h)
 (F:∀(w:World)(mg:Str->Option Value)(fa:Addr)(h:Heap),(K w.params).In h->h.Ns mainGlobals mg->mg d.name=some (.ref fa)->
  ∃fd:FuncData,(∀(s:Shared)(u:Value),BindsTo s fd ⟨[u],[]⟩ [(x,u)])/\
   ∀base:Heap,(K w.params).In base->base.Ns mainGlobals mg->Xl l.prog w (K w.params) mg base (CX w) k fa fd [x] (sp w))
 (hsp:∀(w:World)(H:Hp)(a:Addr)(ns:List Int),ns.length<=n->LP H->vp (K w.params) H a (ns.map V.int)->sp w [.ref a] H (fun v Z=>v=.bl true) fun Z Z Z=>False)
 (hCX:∀(w:World)(H:Hp)(s:Shared)(e:Value)(s':Shared),CX w [] H s (fun Z Z Z=>False) e s'->False) :
 PySem.W.WalkO q loose XP YP l.row.toRowW d [] (fun f vs=>PySem.call f vs):=by
 refine Att.zaK hn hdf fun w s₀ s₁ mg mb fa o pm cd doc a vs ns G Y ho hd hcd hmg hobj hints hlen hg=>?_
 have KX:=hY w _ Y;obtain⟨fd,hb,hF⟩:=F w mg fa _ KX G.T.g hmg;exact Uk KX G.T.g G.T.b G.T.builtins G.T.nolimit hg hobj hints (zxA hlen hn2) hr hF hb (fun H hO hS=>hsp w H a ns hlen hO hS) fun H e s'=>hCX w H s₁ e s'
noncomputable def fU(s:Stmt)(j:Nat):Stmt:=match s with
 | .ClassDef _ _ _ body _ _ _ _ _ _ _=>body.getD j (.Pass ⟨0,0,0,0⟩)
 | _=>.Pass ⟨0,0,0,0⟩
noncomputable def AF(s:Stmt):Arguments:=match s with
 | .FunctionDef _ a _ _ _ _ _ _ _ _=>a
 | _=>{ posonlyargs:=[],args:=[],vararg:=none,kwonlyargs:=[],kw_defaults:=[],kwarg:=none,defaults:=[] }
noncomputable def FD(s:Stmt):List Stmt:=match s with
 | .FunctionDef _ _ b _ _ _ _ _ _ _=>b
 | _=>[]
noncomputable def BA(s:Stmt):Scope:=match s with
 | .FunctionDef _ _ _ _ _ _ sc _ _ _=>sc
 | _=>{ kind:=.function,names:=[],isGenerator:=false,isCoroutine:=false }
noncomputable abbrev cG:gK:=fun Z Z Z Z Z Z=>False
noncomputable abbrev E0:XK:=fun Z Z Z=>False
theorem tP{X:Cx}:KI cG X E0:=fun Z Z Z Z Z Z Z h=>h.elim
structure Fun(K:Frag)(x qual:Str)(st:Stmt)(f:Addr)(fd:FuncData):Prop where
 ex:∃(oc:Value)(od:Option Addr)(kV doc pm:Value)(an:Option Addr)(cdv ct:Value)(osl:Array (Option Value)),
  fd=fnOf x qual (AF st) (FD st) (BA st) .none kV doc pm an cdv ct/\K.lookup f=some ⟨oc,od,.func fd,osl⟩/\PySem.W.codeIn K cdv qual=true
 kp:keepIn K (.ref f)=true
section
variable{P:Program}{w:World}{K:Frag}{mg:Str->Option Value}{base:Heap}
theorem Fun.ok{x qual:Str}{st:Stmt}{f:Addr}{fd:FuncData}{N ps:List Str}{k:Nat}{sp:Sp}(F:Fun K x qual st f fd)(S:SA N ps (BA st))(len:∀vs H Q E,sp vs H Q E->vs.length=ps.length)
 (hbody:∀(cdv:Value)(A:Around)(outer:List Env)(s:Shared)(H:Hp)(vs:List V)(Q:VK)(E:XK),Ym k (A.deeper (envOfC qual (BA st) s.heap.objs.size f cdv))->sp vs H Q E->
  ∃t,PSs (HF cG P w K mg base N qual (BA st) f cdv A outer s H E).nox (FD st) t/\t { nx:=fun Z H'=>Q .non H',rt:=Q } (xG N vs) H):Xl P w K mg base cG (k+1) f fd ps sp:=by
 obtain⟨oc,od,kV,doc,pm,an,cdv,ct,osl,rfl,lk,hcd⟩:=F.ex;refine J1 lk hcd S len fun A outer s H vs Q E hr hsp=>?_
 obtain⟨t,h,q⟩:=hbody cdv A outer s H vs Q E hr hsp;exact⟨t,h.nox,q⟩
theorem Fun.binds{x qual:Str}{st:Stmt}{f:Addr}{fd:FuncData}{ps:List Str}(F:Fun K x qual st f fd)
 (h:∀(kV doc pm:Value)(an:Option Addr)(cdv ct:Value)(us:List Value),us.length=ps.length->bindArgs (fnOf x qual (AF st) (FD st) (BA st) .none kV doc pm an cdv ct) ⟨us,[]⟩=pure (ps.zip us)):Binds K fd ps []:=by
 obtain⟨oc,od,kV,doc,pm,an,cdv,ct,osl,rfl,lk,hcd⟩:=F.ex;exact .all (h kV doc pm an cdv ct)
theorem cP{x qual:Str}{st:Stmt}{f:Addr}{oc:Value}{od an:Option Addr}{osl:Array (Option Value)}{kV doc pm cdv ct:Value}(l:K.lookup f=some ⟨oc,od,.func (fnOf x qual (AF st) (FD st) (BA st) .none kV doc pm an cdv ct),osl⟩)
 (c:PySem.W.codeIn K cdv qual=true) (k:keepIn K (.ref f)=true):Fun K x qual st f (fnOf x qual (AF st) (FD st) (BA st) .none kV doc pm an cdv ct):=⟨⟨oc,od,kV,doc,pm,an,cdv,ct,osl,rfl,l,c⟩,k⟩
end
section
variable{X:Cx}
end
theorem BH{A B:Prop}(h:B):if false=true then A else B:=by rw[if_neg zfT];exact h
theorem DH{A B:Prop}(h:A):if true=true then A else B:=by rw[if_pos rfl];exact h
noncomputable def Same(H H':Hp):Prop:=∀b o,H b=some o->H' b=some o
theorem Same.refl(H:Hp):Same H H:=fun Z Z h=>h
theorem Same.trans{H H1 H2:Hp}(a:Same H H1)(b:Same H1 H2):Same H H2:=fun c o h=>b c o (a c o h)
theorem Same.free{H H':Hp}(e:Same H H'){l:Addr}(h:H' l=Option.none):H l=Option.none:=by
 cases q:H l with
 | none=>rfl
 | some o=>rw[e l o q]at h;cases h
open PySem.AutoSeq1 (wpAny_loadPart')
open PySem.SeqAt PySem.MeetsSeq PySem.MeetsSeq2 PySem.MeetsSeq3
theorem Mx(l b:Addr)(items items2:Array Value)(n n2:Nat)(dd dd2:Option Addr)(sl sl2:Array (Option Value))(hc0:items.size+items2.size<=sizeLine) :
 Meets (Builtin.«list.__add__» ⟨[.ref l,.ref b],[]⟩) (fun Z R s=>s.heap.get? l=some { cls:=.type "list",dict:=dd,data:=.seq items n,slots:=sl }/\s.heap.get? b=some { cls:=.type "list",dict:=dd2,data:=.seq items2 n2,slots:=sl2 }/\R (.ok (.ret (Value.ref s.heap.objs.size))) { s with heap:=s.heap.push { cls:=Value.type "list",data:=Data.seq (items++items2) },toks:=s.toks }):=
 .of_wp fun prog w A R s h=>by obtain⟨hp,g,d,tk,os⟩:=s;obtain⟨hl,hb,h⟩:=h;have f1:=AutoSeq1.idx_int;have f2:=AutoSeq1.sub_tuple_tuple;have f3:=AutoSeq1.sub_list_list;have f4:=AutoSeq1.sub_tuple_list;have f5:=AutoSeq1.sub_list_tuple;wp_walk using wpAny_loadPart' hl,wpAny_loadPart' hb;exact⟨_,rfl,h⟩
section
variable{X:Cx}
theorem wZ:Bp X (binaryOp .Add) (fun x y H Q=>∃l b xs zs,x=.ref l/\y=.ref b/\vp X.K H l xs/\vp X.K H b zs/\xs.length+zs.length<=sizeLine/\∀p,H p=none->Q (.ref p) (PB H p (.lst (xs++zs)))):=by
 intro pins s σ H x y v u Q I rx ry h;obtain⟨l,b,xs,zs,rfl,rfl,hH,hB,hz,q⟩:=h;cases rx;cases ry;obtain⟨its,r,⟨⟨c1,d1,t1,sl1⟩,n,e,k1,k2,k3⟩,z⟩:=I.list hH;obtain⟨its2,r2,⟨⟨c2,d2,t2,sl2⟩,n2,e2,m1,m2,m3⟩,z2⟩:=I.list hB;simp only at k1 k2 k3 m1 m2 m3;subst k1 k2 k3 m1 m2 m3;have hl:=r.length;have hl2:=r2.length;refine concat_meets ⟨_,e,rfl⟩ ⟨_,e2,rfl⟩ noFill_list_add seq_list_add F.slot_list_add F.entry_list_add (F.args_list_add_2 _ _) (Mx l b its.toArray its2.toArray n n2 none none sl1 sl2 (by rw[size_toArray,size_toArray];omega)) ⟨e,e2,?_⟩;have ea:its.toArray++its2.toArray=(its++its2).toArray:=by simp
 rw[ea];exact⟨.ref _,_,I.zbZ (t':=s.toks) (r.append r2) (by rw[length_append];omega),rfl,q _ I.fresh⟩
theorem LN{us:List Value}{ns:List Int}(h:IntsAre us ns):∃xs:Array (Int×Tok),us.toArray=intItems xs/\xs.toList.map (·.1)=ns:=by obtain⟨xs,e⟩:=h.allInts.items;refine⟨xs,e,?_⟩;have e2:=h.numsOf;rw[<- nums_intItems,<- e];exact e2
theorem gq (hc:X.calm=true):Hl X (.builtin "sum") (fun xs H Q=>∃(p:Addr) (ns:List Int),xs=[.ref p]/\vp X.K H p (ns.map V.int)/\Q (.int ns.sum) H):=by
 intro pins s σ H xs us Q I r h;obtain⟨p,ns,rfl,hq,q⟩:=h;obtain⟨u,rfl,rx⟩:=TF r;cases rx;obtain⟨its,r',pl,hz⟩:=I.list hq;obtain⟨ys,e,e2⟩:=LN (KN r');have hl:=pl.isList;rw[e]at hl;refine sum_intListG (I.ok.hd hc) hl fun h' tk t' k=>⟨.int ns.sum,H,I.kept k,⟨t',?_⟩,q⟩
 rw[preSum_eq,take_of_length_le (by simp),e2]
theorem Yj (hc:X.calm=true):Hl X (.builtin "max") (fun xs H Q=>∃(p:Addr) (ns:List Int),xs=[.ref p]/\vp X.K H p (ns.map V.int)/\ns ≠ []/\∀M,M∈ns->(∀a∈ns,a<=M)->Q (.int M) H):=by
 intro pins s σ H xs us Q I r h;obtain⟨p,ns,rfl,hq,hne,q⟩:=h;obtain⟨u,rfl,rx⟩:=TF r;cases rx;obtain⟨its,r',pl,hz⟩:=I.list hq;obtain⟨ys,e,e2⟩:=LN (KN r');have hl:=pl.isList;rw[e]at hl;have hsz:0<ys.size:=by
  rcases Nat.eq_zero_or_pos ys.size with z | z
  · exfalso;apply hne;rw[<- e2];have:ys.toList=[]:=by apply eq_nil_of_length_eq_zero;simpa using z
    rw[this];rfl
  · exact z
 refine max_intList (I.ok.hd hc) hl hsz fun v h' tk hv k=>?_
 obtain⟨t,rfl⟩:=intItems_at hv;obtain⟨h1,h2⟩:=argBest_gt (numAt ys) (ys.size-1);refine⟨.int _,H,I.kept k,⟨t,rfl⟩,q _ ?_ fun a ha=>?_⟩
 · rw[numAt_eq,<- e2];exact getD_mem (by rw[length_map,Array.length_toList];omega)
 · rw[<- e2]at ha;obtain⟨j,hj,rfl⟩:=mem_getD ha;rw[length_map,Array.length_toList]at hj;rw[<- numAt_eq];exact h2 j (by omega)
theorem aq (hc:X.calm=true):Hl X (.builtin "min") (fun xs H Q=>∃(p:Addr) (ns:List Int),xs=[.ref p]/\vp X.K H p (ns.map V.int)/\ns ≠ []/\∀M,M∈ns->(∀a∈ns,M<=a)->Q (.int M) H):=by
 intro pins s σ H xs us Q I r h;obtain⟨p,ns,rfl,hq,hne,q⟩:=h;obtain⟨u,rfl,rx⟩:=TF r;cases rx;obtain⟨its,r',pl,hz⟩:=I.list hq;obtain⟨ys,e,e2⟩:=LN (KN r');have hl:=pl.isList;rw[e]at hl;have hsz:0<ys.size:=by
  rcases Nat.eq_zero_or_pos ys.size with z | z
  · exfalso;apply hne;rw[<- e2];have:ys.toList=[]:=by apply eq_nil_of_length_eq_zero;simpa using z
    rw[this];rfl
  · exact z
 refine min_intList (I.ok.hd hc) hl hsz fun v h' tk hv k=>?_
 obtain⟨t,rfl⟩:=intItems_at hv;obtain⟨h1,h2⟩:=argBest_lt (numAt ys) (ys.size-1);refine⟨.int _,H,I.kept k,⟨t,rfl⟩,q _ ?_ fun a ha=>?_⟩
 · rw[numAt_eq,<- e2];exact getD_mem (by rw[length_map,Array.length_toList];omega)
 · rw[<- e2]at ha;obtain⟨j,hj,rfl⟩:=mem_getD ha;rw[length_map,Array.length_toList]at hj;rw[<- numAt_eq];exact h2 j (by omega)
def Cd(K:Frag)(H:Hp)(x:V)(t:String):Prop:=match x with
 | .non=>t = "NoneType"
 | .bl _=>t = "bool"
 | .int _=>t = "int"
 | .str _=>t = "str"
 | .ref a=>(t = "list" /\ ∃xs,vp K H a xs)\/(t = "tuple" /\ ∃xs,aJ K H a xs)
 | _=>False
theorem Zz {T:String}:Hl X (.builtin "isinstance") (fun xs H Q=>∃x t b,xs=[x,.ty T]/\Cd X.K H x t/\PySem.W.kitOne X.K (.type t) (.type T)=some b/\Q (.bl b) H):=by
 intro pins s σ H xs us Q I r h;obtain⟨x,t,b,rfl,ty,e,q⟩:=h;obtain⟨u,u2,rfl,rx,ry⟩:=lV r;cases ry;have fin:∀tk,EP X pins σ Q (.bool b) { s with toks:=tk }:=fun tk=>⟨.bl b,H,I.tok tk,rfl,q⟩
 cases x with
 | non=>cases (show t = "NoneType" from ty);cases rx;exact PySem.W.kia_one PySem.W.kitx_none I.kIn True.intro e (fun z=>nomatch z) fin
 | bl y=>cases (show t = "bool" from ty);cases rx;exact PySem.W.kia_one PySem.W.kitx_bool I.kIn True.intro e (fun z=>nomatch z) fin
 | int i=>cases (show t = "int" from ty);obtain⟨Z,rfl⟩:=rx;exact PySem.W.kia_one PySem.W.kitx_int I.kIn True.intro e (fun z=>nomatch z) fin
 | str y=>cases (show t = "str" from ty);obtain⟨Z,rfl⟩:=rx;exact PySem.W.kia_one PySem.W.kitx_str I.kIn True.intro e (fun z=>nomatch z) fin
 | ref a=>
  cases rx;rcases ty with⟨rfl,ys,sq⟩ | ⟨rfl,ys,sq⟩
  · obtain⟨its,Z,⟨o,n,h1,h2,Z,Z⟩,Z⟩:=I.list sq;exact PySem.W.kia_one PySem.W.kitx_list I.kIn ⟨o,h1,h2⟩ e (fun z=>nomatch z) fin
  · obtain⟨its,Z,⟨o,h1,h2,Z⟩,Z⟩:=I.tuple sq;exact PySem.W.kia_one PySem.W.kitx_tuple I.kIn ⟨o,h1,h2⟩ e (fun z=>nomatch z) fin
 | byt _=>exact False.elim ty
 | flt _=>exact False.elim ty
 | ty _=>exact False.elim ty
end
open PySem.AutoSeq1 (wpAny_loadPart')
open PySem.SeqAt PySem.MeetsSeq PySem.MeetsSeq2 PySem.MeetsSeq3
theorem Cq(l b:Addr)(items items2:Array Value)(n n2:Nat)(dd dd2:Option Addr)(sl sl2:Array (Option Value))(e:Nat->Bool) :
 Meets (Builtin.«tuple.__ne__» ⟨[.ref l,.ref b],[]⟩)
  (fun A R s=>s.heap.get? l=some { cls:=.type "tuple",dict:=dd,data:=.seq items n,slots:=sl }/\s.heap.get? b=some { cls:=.type "tuple",dict:=dd2,data:=.seq items2 n2,slots:=sl2 }/\
   (∀j (h1:j<items.size) (h2:j<items2.size),EqAt A.in1 s items[j] items2[j] (e j))/\
   R (.ok (.ret (.bool (!((range (min items.size items2.size)).all e&&items.size==items2.size))))) s):=
 .of_wp fun prog w A R s h=>by
  obtain⟨hp,g,d,tk,os⟩:=s;obtain⟨hl,hb,he,h⟩:=h;have f2:=AutoSeq1.sub_tuple_tuple;have hZ:(items.toList.zip items2.toList).length=min items.size items2.size:=by simp
  wp_walk using wpAny_loadPart' hl,wpAny_loadPart' hb,wpAny_forIn_list _ (fun rest b s'=>b.1=none/\s'=⟨hp,g,d,tk,os⟩/\∃i,rest=(items.toList.zip items2.toList).drop i/\
   R (.ok (.ret (.bool (!(((range (min items.size items2.size)).drop i).all e&&items.size==items2.size))))) ⟨hp,g,d,tk,os⟩) _
  case turn=>
   rintro⟨y,x⟩ rest b s' ⟨hb',rfl,i,hz,hR⟩;have hlt:i<(items.toList.zip items2.toList).length:=by
    rcases Nat.lt_or_ge i (items.toList.zip items2.toList).length with h' | h'
    · exact h'
    · rw[drop_of_length_le h']at hz;cases hz
   have hm:i<min items.size items2.size:=hZ ▸ hlt;have h1:i<items.size:=zxC hm (Nat.min_le_left _ _);have h2:i<items2.size:=zxC hm (Nat.min_le_right _ _);rw[drop_eq_getElem_cons hlt]at hz;injection hz with hyx hrest
   have hy:y=items[i]:=by have:=congrArg Prod.fst hyx;simpa using this
   have hx:x=items2[i]:=by have:=congrArg Prod.snd hyx;simpa using this
   subst hy hx;have hd:(range (min items.size items2.size)).drop i=i::(range (min items.size items2.size)).drop (i+1):=by simp[drop_eq_getElem_cons,hm]
   rw[hd,all_cons]at hR;refine wpAny_bind (he i h1 h2 prog w _ _ ?_);cases hy:e i with
   | true=>
    rw[hy]at hR
    wp_walk
    exact⟨rfl,rfl,i+1,hrest,by simpa only[Bool.true_and]using hR⟩
   | false=>
    rw[hy]at hR
    wp_walk
    exact⟨_,rfl,by simpa only[Bool.false_and,Bool.not_false]using hR⟩
  case fin=>
   rintro⟨b1,b2⟩ s' ⟨hb',rfl,i,hz,hR⟩;simp only at hb';subst hb';have hge:min items.size items2.size<=i:=by
    rcases Nat.lt_or_ge i (items.toList.zip items2.toList).length with h' | h'
    · rw[drop_eq_getElem_cons h']at hz;cases hz
    · exact hZ ▸ h'
   rw[drop_of_length_le (by simpa using hge)]at hR
   wp_walk
   exact⟨_,rfl,by simpa[Builtin.Tuple.tupleCompareSizes,bne]using hR⟩
  case h=>exact⟨rfl,rfl,0,rfl,by simpa only[drop_zero]using h⟩
theorem Zx(l b:Addr)(items items2:Array Value)(n n2:Nat)(dd dd2:Option Addr)(sl sl2:Array (Option Value))(hsz:items.size=items2.size)(e:Nat->Bool)(k:Nat) :
 ∀i:Nat,items.size-i=k->Meets (Builtin.«list.__eq__.loop» ⟨[.ref l,.ref b,rawInt i,rawInt 3],[]⟩)
  (fun A R s=>s.heap.get? l=some { cls:=.type "list",dict:=dd,data:=.seq items n,slots:=sl }/\s.heap.get? b=some { cls:=.type "list",dict:=dd2,data:=.seq items2 n2,slots:=sl2 }/\
   (∀j (h1:j<items.size) (h2:j<items2.size),EqAt A.in1 s items[j] items2[j] (e j))/\
   R (.ok (.ret (.bool (!(((range items.size).drop i).all e))))) s):=by
 induction k with
 | zero=>
  intro i hk prog w A R s h;obtain⟨hp,g,d,tk,os⟩:=s;obtain⟨hl,hb,he,h⟩:=h
  wp_walk using wpAny_loadPart' hl,wpAny_loadPart' hb
  have hi1:items[((i:Nat):Int).toNat]?=none:=by simp;omega
  have hi2:items2[((i:Nat):Int).toNat]?=none:=by simp;omega
  have hd:(range items.size).drop i=[]:=by simp;omega
  rw[hd]at h;rw[hi1,hi2]
  wp_walk using wpAny_loadPart' hl,wpAny_loadPart' hb
  show R (.ok (.ret (.bool (items.size !=items2.size)))) _;rw[hsz];simpa using h
 | succ k ih=>
  intro i hk prog w A R s h;obtain⟨hp,g,d,tk,os⟩:=s;obtain⟨hl,hb,he,h⟩:=h
  wp_walk using wpAny_loadPart' hl,wpAny_loadPart' hb
  have hlt:i<items.size:=by omega
  have hlt2:i<items2.size:=by omega
  have hi1:items[((i:Nat):Int).toNat]?=some items[i]:=by simp[hlt]
  have hi2:items2[((i:Nat):Int).toNat]?=some items2[i]:=by simp[hlt2]
  have hd:(range items.size).drop i=i::(range items.size).drop (i+1):=by simp[drop_eq_getElem_cons,hlt]
  have hc:((i:Int)+1)=((i+1:Nat):Int):=by push_cast;rfl
  rw[hd,all_cons]at h;rw[hi1,hi2];refine wpAny_bind (he i hlt hlt2 prog w _ _ ?_);cases hb':e i with
  | true=>
   rw[hb']at h
   wp_walk
   rw[hc];exact⟨plainId_quiet plain_eq_loop _,codeAny_builtin entry_eq_loop (by
    rw[Around.under_plainId plain_eq_loop _];exact ih (i+1) (by omega) prog w A R _ ⟨hl,hb,he,by simpa only[Bool.true_and]using h⟩)⟩
  | false=>
   rw[hb']at h
   wp_walk using wpAny_loadPart' hl,wpAny_loadPart' hb
   rw[hi1,hi2]
   wp_walk
   simpa using h
theorem Nx(l b:Addr)(items items2:Array Value)(n n2:Nat)(dd dd2:Option Addr)(sl sl2:Array (Option Value))(hsz:items.size=items2.size)(e:Nat->Bool) :
 Meets (Builtin.«list.__ne__» ⟨[.ref l,.ref b],[]⟩)
  (fun A R s=>s.heap.get? l=some { cls:=.type "list",dict:=dd,data:=.seq items n,slots:=sl }/\s.heap.get? b=some { cls:=.type "list",dict:=dd2,data:=.seq items2 n2,slots:=sl2 }/\
   (∀j (h1:j<items.size) (h2:j<items2.size),EqAt A.in1 s items[j] items2[j] (e j))/\
   R (.ok (.ret (.bool (!((range items.size).all e))))) s):=by
 intro prog w A R s h;obtain⟨hp,g,d,tk,os⟩:=s;obtain⟨hl,hb,he,h⟩:=h;have f3:=AutoSeq1.sub_list_list;have hne:¬(items.size !=items2.size)=true:=by simp[hsz]
 wp_walk using wpAny_loadPart' hl,wpAny_loadPart' hb
 exact⟨plainId_quiet plain_eq_loop _,codeAny_builtin entry_eq_loop (by
  rw[Around.under_plainId plain_eq_loop _];exact Zx l b items items2 n n2 dd dd2 sl sl2 hsz e _ 0 rfl prog w A R _ ⟨hl,hb,he,by simpa only[drop_zero]using h⟩)⟩
theorem Q8(l b:Addr)(items items2:Array Value)(n n2:Nat)(dd dd2:Option Addr)(sl sl2:Array (Option Value))(hc0:(items.size !=items2.size)=true) :
 Meets (Builtin.«list.__ne__» ⟨[.ref l,.ref b],[]⟩)
  (fun Z R s=>s.heap.get? l=some { cls:=.type "list",dict:=dd,data:=.seq items n,slots:=sl }/\s.heap.get? b=some { cls:=.type "list",dict:=dd2,data:=.seq items2 n2,slots:=sl2 }/\
   R (.ok (.ret (.bool true))) s):=
 .of_wp fun prog w A R s h=>by
  obtain⟨hp,g,d,tk,os⟩:=s;obtain⟨hl,hb,h⟩:=h;have f3:=AutoSeq1.sub_list_list
  wp_walk using wpAny_loadPart' hl,wpAny_loadPart' hb
  exact⟨_,rfl,h⟩
section
variable{prog:Program}{w:World}{A:Around}{E:Value->Shared->Prop}{s:Shared}{Q:Value->Shared->Prop}
theorem dz{l b:Addr}{items items2:Array Value}{e:Nat->Bool}(hl:s.heap.IsTuple l items)(hb:s.heap.IsTuple b items2)(hu:A.units<cLine)
 (he:∀j (h1:j<items.size) (h2:j<items2.size),EqAt A.in1 s items[j] items2[j] (e j)) (h:Q (.bool (!((range (min items.size items2.size)).all e&&items.size==items2.size))) s):wpAny (model prog w) A (compareOp .NotEq (.ref l) (.ref b)) Q E s:=by
 obtain⟨⟨cls,dd,data,sl⟩,ho,hc,n,hd⟩:=id hl;obtain⟨⟨cls2,dd2,data2,sl2⟩,ho2,hc2,n2,hd2⟩:=id hb;simp only at hc hd hc2 hd2;subst hc hd hc2 hd2;exact richCompare_meets_room (op:=.NotEq) ⟨_,ho,rfl⟩ ⟨_,ho2,rfl⟩ F.slot_tuple_ne F.entry_tuple_ne (F.args_tuple_ne_2 _ _) (Cq l b items items2 n n2 dd dd2 sl sl2 e) ⟨ho,ho2,he,⟨(fun x=>nomatch x),h⟩⟩ hu
theorem iy{l b:Addr}{items items2:Array Value}{e:Nat->Bool}(hl:s.heap.IsList l items)(hb:s.heap.IsList b items2)(hsz:items.size=items2.size)(hu:A.units<cLine)
 (he:∀j (h1:j<items.size) (h2:j<items2.size),EqAt A.in1 s items[j] items2[j] (e j)) (h:Q (.bool (!((range items.size).all e))) s):wpAny (model prog w) A (compareOp .NotEq (.ref l) (.ref b)) Q E s:=by
 obtain⟨⟨cls,dd,data,sl⟩,ho,hc,n,hd⟩:=id hl;obtain⟨⟨cls2,dd2,data2,sl2⟩,ho2,hc2,n2,hd2⟩:=id hb;simp only at hc hd hc2 hd2;subst hc hd hc2 hd2;exact richCompare_meets_room (op:=.NotEq) ⟨_,ho,rfl⟩ ⟨_,ho2,rfl⟩ F.slot_list_ne F.entry_list_ne (F.args_list_ne_2 _ _) (Nx l b items items2 n n2 dd dd2 sl sl2 hsz e) ⟨ho,ho2,he,⟨(fun x=>nomatch x),h⟩⟩ hu
theorem J9{l b:Addr}{items items2:Array Value}(hl:s.heap.IsList l items)(hb:s.heap.IsList b items2)(hsz:(items.size !=items2.size)=true)(hu:A.units<cLine)
 (h:Q (.bool true) s):wpAny (model prog w) A (compareOp .NotEq (.ref l) (.ref b)) Q E s:=by
 obtain⟨⟨cls,dd,data,sl⟩,ho,hc,n,hd⟩:=id hl;obtain⟨⟨cls2,dd2,data2,sl2⟩,ho2,hc2,n2,hd2⟩:=id hb;simp only at hc hd hc2 hd2;subst hc hd hc2 hd2;exact richCompare_meets_room (op:=.NotEq) ⟨_,ho,rfl⟩ ⟨_,ho2,rfl⟩ F.slot_list_ne F.entry_list_ne (F.args_list_ne_2 _ _) (Q8 l b items items2 n n2 dd dd2 sl sl2 hsz) ⟨ho,ho2,⟨(fun x=>nomatch x),h⟩⟩ hu
end
end L2
namespace SM
inductive Dt where
 | non | bl (b:Bool) | int (i:Int) | str (x:Str) | tup (xs:List Dt) | lst (xs:List Dt) | ref (n:Nat) | Ip (xs:List Int)
inductive Ob where
 | lst (xs:List Dt)
 | ins (x:Str) (fs:List (Str×Dt))
 | dk (kvs:List (pC×Dt))
 | dt (kvs:List (List Int×Dt))
 | df (kvs:List (List Int×Dt))
noncomputable abbrev HI:=List Ob
noncomputable abbrev LI:=List (Option Dt)
structure Rg where
 v:List Addr
 z:List Addr
noncomputable def Rg.no(ρ:Rg)(a:Addr):Prop:=a∉ρ.v/\a∉ρ.z
noncomputable def Rg.add(ρ:Rg)(p:Addr):Rg:=⟨ρ.v++[p],ρ.z⟩
noncomputable def Rg.hide(ρ:Rg)(p:Addr):Rg:=⟨ρ.v,p::ρ.z⟩
noncomputable def Rg.nil:Rg:=⟨[],[]⟩
def TupAt(K:Frag)(H:Hp)(ρ:Rg)(a:Addr)(vs:List V):Prop:=
 (ρ.no a/\Rd H a (.tup vs))\/
  ∃(o:Obj) (its:Array Value) (n:Nat),K.lookup a=some o/\o.cls=.type "tuple" /\ o.data=.seq its n/\its.size<=sizeLine/\Vals vs its.toList
def LstAt(K:Frag)(H:Hp)(ρ:Rg)(a:Addr)(vs:List V):Prop:=
 (ρ.no a/\Rd H a (.lst vs))\/
  ∃(o:Obj) (its:Array Value) (n:Nat),K.lookup a=some o/\o.cls=.type "list" /\ o.dict=none/\o.data=.seq its n/\its.size<=sizeLine/\Vals vs its.toList
theorem TupAt.sq{K:Frag}{H:Hp}{ρ:Rg}{a:Addr}{vs:List V}(h:TupAt K H ρ a vs):aJ K H a vs:=by
 rcases h with⟨_,h⟩ | h
 · exact .inl h
 · exact .inr h
theorem LstAt.sq{K:Frag}{H:Hp}{ρ:Rg}{a:Addr}{vs:List V}(h:LstAt K H ρ a vs):vp K H a vs:=by
 rcases h with⟨_,h⟩ | h
 · exact .inl h
 · exact .inr h
mutual
noncomputable def zm(K:Frag)(H:Hp)(ρ:Rg):Dt->V->Prop
 | .non,v=>v=.non
 | .bl b,v=>v=.bl b
 | .int i,v=>v=.int i
 | .str x,v=>v=.str x
 | .tup xs,v=>∃a vs,v=.ref a/\TupAt K H ρ a vs/\qm K H ρ xs vs
 | .lst xs,v=>∃a vs,v=.ref a/\LstAt K H ρ a vs/\qm K H ρ xs vs
 | .ref n,v=>∃a,v=.ref a/\ρ.v[n]?=some a
 | .Ip xs,v=>∃a,v=.ref a/\ρ.no a/\H a=some (.tup (xs.map V.int))
noncomputable def qm(K:Frag)(H:Hp)(ρ:Rg):List Dt->List V->Prop
 | [],vs=>vs=[]
 | x::xs,vs=>∃v r,vs=v::r/\zm K H ρ x v/\qm K H ρ xs r
end
structure Ext(ρ ρ':Rg)(H H':Hp):Prop where
 pre:∃e,ρ'.v=ρ.v++e/\∀a∈e,H a=none
 hid:ρ'.z=ρ.z
 keep:∀a o,H a=some o->a∉ρ.v->H' a=some o
 live:∀a,H' a=none->H a=none
 fz:∀a o u,H a=some (.frz o u)->H' a=some (.frz o u)
theorem Ext.refl(ρ:Rg)(H:Hp):Ext ρ ρ H H:=⟨⟨[],by simp,by simp⟩,rfl,fun Z Z h Z=>h,fun Z h=>h,fun Z Z Z h=>h⟩
theorem Ext.zcs{ρ ρ':Rg}{H H':Hp}(x:Ext ρ ρ' H H'){a:Addr}{o:HO}(h:H a=some o)(n:a∉ρ.v):a∉ρ'.v:=by
 obtain⟨e,e',hn⟩:=x.pre;rw[e'];intro hm;rcases mem_append.mp hm with hm | hm
 · exact n hm
 · have:=hn a hm;rw[h]at this;cases this
theorem Ext.zbq{ρ ρ':Rg}{H H':Hp}(x:Ext ρ ρ' H H'){a:Addr}{o:HO}(h:H a=some o)(n:ρ.no a):ρ'.no a:=⟨x.zcs h n.1,by rw[x.hid];exact n.2⟩
theorem Ext.trans{ρ ρ1 ρ2:Rg}{H H1 H2:Hp}(x:Ext ρ ρ1 H H1)(y:Ext ρ1 ρ2 H1 H2):Ext ρ ρ2 H H2:=by
 refine⟨?_,y.hid.trans x.hid,fun a o h n=>y.keep a o (x.keep a o h n) (x.zcs h n),fun a h=>x.live a (y.live a h),fun a o u h=>y.fz a o u (x.fz a o u h)⟩;obtain⟨e,q1,h1⟩:=x.pre;obtain⟨e',q2,h2⟩:=y.pre;refine⟨e++e',by rw[q2,q1,append_assoc],fun a ha=>?_⟩;rcases mem_append.mp ha with ha | ha
 · exact h1 a ha
 · exact x.live a (h2 a ha)
theorem Ext.get{ρ ρ':Rg}{H H':Hp}(x:Ext ρ ρ' H H'){n:Nat}{a:Addr}(h:ρ.v[n]?=some a):ρ'.v[n]?=some a:=by obtain⟨e,e',Z⟩:=x.pre;have:=(zfR h).1;rw[e',zfS this];exact h
theorem Ext.fresh{ρ:Rg}{H:Hp}{p:Addr}{o:HO}(h:H p=none):Ext ρ ρ H (PB H p o):=by
 refine⟨⟨[],by simp,by simp⟩,rfl,fun a u e Z=>?_,fun a e=>?_,fun a o u e=>by rw[ZA (wD e h)];exact e⟩
 · rw[ZA (wD e h)];exact e
 · by_cases ha:a=p
   · subst ha;exact h
   · rw[ZA ha]at e;exact e
theorem Ext.own{ρ:Rg}{H:Hp}{p:Addr}{o:HO}(h:H p=none):Ext ρ (ρ.add p) H (PB H p o):=by refine⟨⟨[p],rfl,fun a ha=>?_⟩,rfl,(Ext.fresh (ρ:=ρ) h).keep,(Ext.fresh (ρ:=ρ) h).live,(Ext.fresh (ρ:=ρ) h).fz⟩;rw[mem_singleton.mp ha];exact h
noncomputable def zV(H:Hp)(a:Addr):Prop:=∀o u,H a≠some (.frz o u)
theorem FH{H:Hp}{a:Addr}{vs:List V}(h:H a=some (.lst vs)):zV H a:=fun Z Z e=>by rw[h]at e;cases e
theorem Ext.write{ρ:Rg}{H:Hp}{a:Addr}{o:HO}(ha:a∈ρ.v)(nf:zV H a):Ext ρ ρ H (PB H a o):=by
 refine⟨⟨[],by simp,by simp⟩,rfl,fun b u e n=>?_,fun b e=>?_,fun b q u e=>by rw[ZA (fun z:b=a=>nf q u (by rw[<- z];exact e))];exact e⟩
 · rw[ZA (fun z=>n (by rw[z];exact ha))];exact e
 · by_cases hb:b=a
   · subst hb;rw[jD]at e;cases e
   · rw[ZA hb]at e;exact e
structure Ol(ρ ρ':Rg)(H H':Hp):Prop where
 no:∀a u,H a=some u->ρ.no a->ρ'.no a
 eq:∀a u,H a=some u->ρ.no a->H' a=some u
 ix:∀(n:Nat) a,ρ.v[n]?=some a->ρ'.v[n]?=some a
 fz:∀a o u,H a=some (.frz o u)->H' a=some (.frz o u)
theorem Ext.same{ρ ρ':Rg}{H H':Hp}(x:Ext ρ ρ' H H'):Ol ρ ρ' H H':=⟨fun Z Z e n=>x.zbq e n,fun Z Z e n=>x.keep _ _ e n.1,fun Z Z e=>x.get e,x.fz⟩
theorem Ol.trans{ρ ρ1 ρ2:Rg}{H H1 H2:Hp}(x:Ol ρ ρ1 H H1)(y:Ol ρ1 ρ2 H1 H2):Ol ρ ρ2 H H2:=
 ⟨fun a u e n=>y.no a u (x.eq a u e n) (x.no a u e n),fun a u e n=>y.eq a u (x.eq a u e n) (x.no a u e n),fun n a e=>y.ix n a (x.ix n a e),fun a o u e=>y.fz a o u (x.fz a o u e)⟩
theorem TupAt.same{K:Frag}{ρ ρ':Rg}{H H':Hp}(x:Ol ρ ρ' H H'){a:Addr}{vs:List V}(h:TupAt K H ρ a vs):TupAt K H' ρ' a vs:=by
 rcases h with⟨n,t | ⟨y,t⟩⟩ | t
 · exact .inl ⟨x.no _ _ t n,.inl (x.eq _ _ t n)⟩
 · exact .inl ⟨x.no _ _ t n,.inr ⟨y,x.eq _ _ t n⟩⟩
 · exact .inr t
theorem LstAt.same{K:Frag}{ρ ρ':Rg}{H H':Hp}(x:Ol ρ ρ' H H'){a:Addr}{vs:List V}(h:LstAt K H ρ a vs):LstAt K H' ρ' a vs:=by
 rcases h with⟨n,t | ⟨y,t⟩⟩ | t
 · exact .inl ⟨x.no _ _ t n,.inl (x.eq _ _ t n)⟩
 · exact .inl ⟨x.no _ _ t n,.inr ⟨y,x.eq _ _ t n⟩⟩
 · exact .inr t
mutual
theorem zm.same{K:Frag}{ρ ρ':Rg}{H H':Hp}(x:Ol ρ ρ' H H'):∀(d:Dt){v:V},zm K H ρ d v->zm K H' ρ' d v
 | .non,_,h=>by simp only[zm]at h ⊢;exact h
 | .bl _,_,h=>by simp only[zm]at h ⊢;exact h
 | .int _,_,h=>by simp only[zm]at h ⊢;exact h
 | .str _,_,h=>by simp only[zm]at h ⊢;exact h
 | .tup xs,_,h=>by simp only[zm]at h ⊢;obtain⟨a,vs,e,t,r⟩:=h;exact⟨a,vs,e,t.same x,qm.same x xs r⟩
 | .lst xs,_,h=>by simp only[zm]at h ⊢;obtain⟨a,vs,e,t,r⟩:=h;exact⟨a,vs,e,t.same x,qm.same x xs r⟩
 | .ref _,_,h=>by simp only[zm]at h ⊢;obtain⟨a,e,t⟩:=h;exact⟨a,e,x.ix _ _ t⟩
 | .Ip _,_,h=>by simp only[zm]at h ⊢;obtain⟨a,e,n,t⟩:=h;exact⟨a,e,x.no _ _ t n,x.eq _ _ t n⟩
theorem qm.same{K:Frag}{ρ ρ':Rg}{H H':Hp}(x:Ol ρ ρ' H H'):∀(ds:List Dt){vs:List V},qm K H ρ ds vs->qm K H' ρ' ds vs
 | [],_,h=>by simp only[qm]at h ⊢;exact h
 | d::ds,_,h=>by simp only[qm]at h ⊢;obtain⟨v,r,e,h1,h2⟩:=h;exact⟨v,r,e,zm.same x d h1,qm.same x ds h2⟩
end
theorem zm.ext{K:Frag}{ρ ρ':Rg}{H H':Hp}(x:Ext ρ ρ' H H')(d:Dt){v:V}(h:zm K H ρ d v):zm K H' ρ' d v:=zm.same x.same d h
theorem qm.ext{K:Frag}{ρ ρ':Rg}{H H':Hp}{ds:List Dt}{vs:List V}(h:qm K H ρ ds vs)(x:Ext ρ ρ' H H'):qm K H' ρ' ds vs:=qm.same x.same ds h
section
variable{K:Frag}{H:Hp}{ρ:Rg}
theorem qm.nil:qm K H ρ [] []:=by simp only[qm]
theorem qm.cons{d:Dt}{v:V}{ds:List Dt}{vs:List V}(h:zm K H ρ d v)(r:qm K H ρ ds vs):qm K H ρ (d::ds) (v::vs):=by simp only[qm];exact⟨v,vs,rfl,h,r⟩
theorem qm.Km{d:Dt}{ds:List Dt}{vs:List V}(h:qm K H ρ (d::ds) vs):∃v r,vs=v::r/\zm K H ρ d v/\qm K H ρ ds r:=by simpa only[qm]using h
theorem qm.Ql{vs:List V}(h:qm K H ρ [] vs):vs=[]:=by simpa only[qm]using h
theorem qm.length:∀{ds:List Dt}{vs:List V},qm K H ρ ds vs->vs.length=ds.length
 | [],_,h=>by rw[h.Ql];rfl
 | d::ds,_,h=>by obtain⟨v,r,rfl,Z,h2⟩:=h.Km;rw[zfH,zfH,qm.length h2]
theorem qm.get:∀{ds:List Dt}{vs:List V}{i:Nat}{d:Dt},qm K H ρ ds vs->ds[i]?=some d->∃v,vs[i]?=some v/\zm K H ρ d v
 | [],_,_,_,_,e=>by simp at e
 | d::ds,_,0,_,h,e=>by obtain⟨v,r,rfl,h1,Z⟩:=h.Km;simp at e;subst e;exact⟨v,rfl,h1⟩
 | d::ds,_,i+1,d',h,e=>by obtain⟨v,r,rfl,Z,h2⟩:=h.Km;obtain⟨u,q1,q2⟩:=qm.get (i:=i) h2 (by simpa using e);exact⟨u,by simpa using q1,q2⟩
theorem qm.append:∀{ds es:List Dt}{vs us:List V},qm K H ρ ds vs->qm K H ρ es us->qm K H ρ (ds++es) (vs++us)
 | [],_,_,_,h,h'=>by rw[h.Ql];exact h'
 | d::ds,_,_,_,h,h'=>by obtain⟨v,r,rfl,h1,h2⟩:=h.Km;exact .cons h1 (qm.append h2 h')
theorem qm.set:∀{ds:List Dt}{vs:List V}{d:Dt}{v:V}(i:Nat),qm K H ρ ds vs->zm K H ρ d v->qm K H ρ (ds.set i d) (vs.set i v)
 | [],_,_,_,_,h,_=>by rw[h.Ql];exact .nil
 | d::ds,_,_,_,0,h,q=>by obtain⟨v,r,rfl,h1,h2⟩:=h.Km;exact .cons q h2
 | d::ds,_,_,_,i+1,h,q=>by obtain⟨v,r,rfl,h1,h2⟩:=h.Km;exact .cons h1 (qm.set i h2 q)
theorem qm.take:∀{ds:List Dt}{vs:List V}(n:Nat),qm K H ρ ds vs->qm K H ρ (ds.take n) (vs.take n)
 | [],_,n,h=>by rw[h.Ql];simp;exact .nil
 | d::ds,_,0,h=>.nil
 | d::ds,_,n+1,h=>by obtain⟨v,r,rfl,h1,h2⟩:=h.Km;exact .cons h1 (qm.take n h2)
theorem qm.drop:∀{ds:List Dt}{vs:List V}(n:Nat),qm K H ρ ds vs->qm K H ρ (ds.drop n) (vs.drop n)
 | [],_,n,h=>by rw[h.Ql];simp;exact .nil
 | d::ds,_,0,h=>h
 | d::ds,_,n+1,h=>by obtain⟨v,r,rfl,h1,h2⟩:=h.Km;exact qm.drop n h2
theorem qm.ints(ns:List Int):qm K H ρ (ns.map Dt.int) (ns.map V.int):=by
 induction ns with
 | nil=>exact .nil
 | cons n ns ih=>exact .cons (by simp only[zm]) ih
theorem qm.zan:∀{ns:List Int}{vs:List V},qm K H ρ (ns.map Dt.int) vs->vs=ns.map V.int
 | [],_,h=>h.Ql
 | n::ns,_,h=>by obtain⟨v,r,rfl,h1,h2⟩:=qm.Km h;simp only[zm]at h1;rw[h1,qm.zan h2];rfl
theorem rm{i:Int}{v:V}:zm K H ρ (.int i) v↔v=.int i:=by simp only[zm]
theorem Am{i:Bool}{v:V}:zm K H ρ (.bl i) v↔v=.bl i:=by simp only[zm]
theorem Nm{i:Str}{v:V}:zm K H ρ (.str i) v↔v=.str i:=by simp only[zm]
theorem Jm{v:V}:zm K H ρ .non v↔v=.non:=by simp only[zm]
theorem Em{xs:List Dt}{v:V}:zm K H ρ (.tup xs) v↔∃a vs,v=.ref a/\TupAt K H ρ a vs/\qm K H ρ xs vs:=by simp only[zm]
theorem Cm{xs:List Dt}{v:V}:zm K H ρ (.lst xs) v↔∃a vs,v=.ref a/\LstAt K H ρ a vs/\qm K H ρ xs vs:=by simp only[zm]
theorem Fp{xs:List Int}{v:V}:zm K H ρ (.Ip xs) v↔∃a,v=.ref a/\ρ.no a/\H a=some (.tup (xs.map V.int)):=by simp only[zm]
theorem Im{n:Nat}{v:V}:zm K H ρ (.ref n) v↔∃a,v=.ref a/\ρ.v[n]?=some a:=by simp only[zm]
end
def zaq(K:Frag)(H:Hp)(ρ:Rg)(a:Addr):Ob->Prop
 | .lst xs=>∃vs,H a=some (.lst vs)/\qm K H ρ xs vs
 | .ins x fs=>∃C dx vs,nsIn K mainGlobals x=some (some (.ref C))/\H a=some (.ins C dx vs)/\fs.map (·.1)=vs.map (·.1)/\qm K H ρ (fs.map (·.2)) (vs.map (·.2))
 | .dk kvs=>∃vs,H a=some (.dK vs)/\kvs.map (·.1)=vs.map (·.1)/\qm K H ρ (kvs.map (·.2)) (vs.map (·.2))
 | .dt kvs=>∃vs:List (List pC×V),H a=some (.dT vs)/\vs.map (·.1)=kvs.map (fun p=>p.1.map Sum.inl)/\qm K H ρ (kvs.map (·.2)) (vs.map (·.2))
 | .df kvs=>∃(o:Obj)(vs:List (List pC×V)),H a=some (.frz o (.dT vs))/\vs.map (·.1)=kvs.map (fun p=>p.1.map Sum.inl)/\qm K H ρ (kvs.map (·.2)) (vs.map (·.2))
structure Dm(K:Frag)(ρ:Rg)(h:HI)(H:Hp):Prop where
 nd:ρ.v.Nodup
 len:ρ.v.length=h.length
 ob:∀(n:Nat) a o,ρ.v[n]?=some a->h[n]?=some o->zaq K H ρ a o
 zt:∀a∈ρ.z,a∉ρ.v/\∃vs,H a=some (.lst vs)
theorem zaq.ext{K:Frag}{H H':Hp}{ρ ρ':Rg}{a:Addr}{o:Ob}(x:Ext ρ ρ' H H')(e:H' a=H a)(h:zaq K H ρ a o):zaq K H' ρ' a o:=by
 cases o with
 | lst xs=>obtain⟨vs,h1,h2⟩:=h;exact⟨vs,e.trans h1,h2.ext x⟩
 | ins y fs=>obtain⟨C,dx,vs,h0,h1,h2,h3⟩:=h;exact⟨C,dx,vs,h0,e.trans h1,h2,h3.ext x⟩
 | dk kvs=>obtain⟨vs,h1,h2,h3⟩:=h;exact⟨vs,e.trans h1,h2,h3.ext x⟩
 | dt kvs=>obtain⟨vs,h1,h2,h3⟩:=h;exact⟨vs,e.trans h1,h2,h3.ext x⟩
 | df kvs=>obtain⟨o,vs,h1,h2,h3⟩:=h;exact⟨o,vs,e.trans h1,h2,h3.ext x⟩
theorem zaq.some{K:Frag}{H:Hp}{ρ:Rg}{a:Addr}{o:Ob}(h:zaq K H ρ a o):∃u,H a=some u:=by
 cases o with
 | lst xs=>obtain⟨vs,h1,Z⟩:=h;exact⟨_,h1⟩
 | ins y fs=>obtain⟨C,dx,vs,Z,h1,Z⟩:=h;exact⟨_,h1⟩
 | dk kvs=>obtain⟨vs,h1,Z⟩:=h;exact⟨_,h1⟩
 | dt kvs=>obtain⟨vs,h1,Z⟩:=h;exact⟨_,h1⟩
 | df kvs=>obtain⟨o,vs,h1,Z⟩:=h;exact⟨_,h1⟩
section
variable{K:Frag}{H H':Hp}{ρ:Rg}{h:HI}
theorem Dm.nil:Dm K .nil [] H:=⟨nodup_nil,rfl,fun Z Z Z e=>by simp[Rg.nil]at e,fun Z h=>nomatch h⟩
theorem Dm.tracked(S:Dm K ρ h H){a:Addr}(ha:a∈ρ.v):∃u,H a=some u:=by
 obtain⟨n,hn⟩:=mem_iff_getElem?.mp ha;have hl:n<h.length:=by rw[<- S.len];exact(zfR hn).1
 exact(S.ob n a _ hn (getElem?_eq_getElem hl)).some
theorem Dm.out(S:Dm K ρ h H){p:Addr}(hp:H p=none):ρ.no p:=by
 refine⟨fun ha=>?_,fun ha=>?_⟩
 · obtain⟨u,e⟩:=S.tracked ha;rw[hp]at e;cases e
 · obtain⟨Z,u,e⟩:=S.zt p ha;rw[hp]at e;cases e
theorem Dm.fresh(S:Dm K ρ h H){p:Addr}{o:HO}(hp:H p=none):Dm K ρ h (PB H p o):=
 ⟨S.nd,S.len,fun n a u e1 e2=>(S.ob n a u e1 e2).ext (Ext.fresh hp) (ZA (fun z=>(S.out hp).1 (z ▸ mem_of_getElem? e1))),fun a ha=>by
  obtain⟨n,u,e⟩:=S.zt a ha;exact⟨n,u,by rw[ZA (wD e hp)];exact e⟩⟩
theorem Dm.own(S:Dm K ρ h H){p:Addr}{o:HO}{u:Ob}(hp:H p=none)(hu:zaq K (PB H p o) (ρ.add p) p u):Dm K (ρ.add p) (h++[u]) (PB H p o):=by
 refine⟨?_,by simp only[Rg.add];rw[length_append,length_append,S.len];rfl,fun n a ob e1 e2=>?_,fun a ha=>?_⟩
 · simp only[Rg.add];rw[nodup_append];refine⟨S.nd,nodup_cons.mpr ⟨by simp,nodup_nil⟩,fun a ha b hb=>?_⟩;rw[mem_singleton.mp hb];intro z;exact(S.out hp).1 (z ▸ ha)
 · simp only[Rg.add]at e1;by_cases hn:n<h.length
   · rw[zfS hn]at e2;rw[zfS (by rw[S.len];exact hn)]at e1;exact(S.ob n a ob e1 e2).ext (Ext.own hp) (ZA (fun z=>(S.out hp).1 (z ▸ mem_of_getElem? e1)))
   · have hn':h.length<=n:=Nat.not_lt.mp hn;rw[zfV hn']at e2;rw[zfV (by rw[S.len];exact hn'),S.len]at e1;cases hk:n-h.length with
     | zero=>rw[hk]at e1 e2;simp at e1 e2;subst e1 e2;exact hu
     | succ k=>rw[hk]at e2;simp at e2
 · obtain⟨n,u,e⟩:=S.zt a ha;refine⟨fun hm=>?_,u,by rw[ZA (wD e hp)];exact e⟩;simp only[Rg.add]at hm;rcases mem_append.mp hm with hm | hm
   · exact n hm
   · rw[mem_singleton.mp hm,hp]at e;cases e
theorem Dm.write(S:Dm K ρ h H){n:Nat}{p:Addr}{o:HO}{u:Ob}(hn:ρ.v[n]?=some p)(nf:zV H p)(hu:zaq K (PB H p o) ρ p u):Dm K ρ (h.set n u) (PB H p o):=by
 refine⟨S.nd,by rw[length_set];exact S.len,fun m a ob e1 e2=>?_,fun a ha=>?_⟩
 · by_cases hm:m=n
   · subst hm;rw[hn]at e1;cases e1;have hl:m<h.length:=by rw[<- S.len];exact(zfR hn).1
     rw[getElem?_set_self hl]at e2;cases e2;exact hu
   · rw[getElem?_set_ne (Ne.symm hm)]at e2;refine(S.ob m a ob e1 e2).ext (Ext.write (mem_of_getElem? hn) nf) (ZA fun z=>hm ?_);subst z;obtain⟨h1,q1⟩:=zfR e1;obtain⟨h2,q2⟩:=zfR hn;exact(getElem_inj S.nd).mp (q1.trans q2.symm)
 · obtain⟨m,w,e⟩:=S.zt a ha;exact⟨m,w,by rw[ZA (fun z=>m (by rw[z];exact mem_of_getElem? hn))];exact e⟩
theorem Dm.lst(S:Dm K ρ h H){n:Nat}{a:Addr}{xs:List Dt}(hn:ρ.v[n]?=some a)(e:h[n]?=some (.lst xs)):∃vs,H a=some (.lst vs)/\qm K H ρ xs vs:=S.ob n a _ hn e
end
structure Jl(K:Frag)(H:Hp)(ρ:Rg)(l:LI)(σ:L2.St):Prop where
 len:l.length=σ.length
 val:∀(i:Nat) d,l[i]?=some (some d)->∃v,σ[i]?=some (some v)/\zm K H ρ d v
theorem Jl.ext{K:Frag}{H H':Hp}{ρ ρ':Rg}{l:LI}{σ:L2.St}(L:Jl K H ρ l σ)(x:Ext ρ ρ' H H'):Jl K H' ρ' l σ:=
 ⟨L.len,fun i d e=>let ⟨v,e1,r⟩:=L.val i d e;⟨v,e1,zm.ext x d r⟩⟩
theorem Jl.set{K:Frag}{H:Hp}{ρ:Rg}{l:LI}{σ:L2.St}(L:Jl K H ρ l σ){d:Dt}{v:V}(i:Nat)(r:zm K H ρ d v):Jl K H ρ (l.set i (some d)) (σ.set i (some v)):=by
 refine⟨by rw[length_set,length_set];exact L.len,fun j d' e=>?_⟩;by_cases hj:j=i
 · subst hj;have hl:j<l.length:=by have:=(zfR e).1;rwa[length_set]at this
   rw[getElem?_set_self hl]at e;cases e;exact⟨v,getElem?_set_self (by rw[<- L.len];exact hl),r⟩
 · rw[getElem?_set_ne (Ne.symm hj)]at e;rw[getElem?_set_ne (Ne.symm hj)];exact L.val j d' e
abbrev RE:=LI->HI->Option (Dt×HI)
abbrev RT:=LI->HI->Option (Bool×HI)
abbrev RA:=LI->HI->Option (List Dt×HI)
inductive Rs where
 | nx (l:LI) (h:HI) | rt (d:Dt) (h:HI) | bk (l:LI) (h:HI) | ct (l:LI) (h:HI)
abbrev RS:=LI->HI->Option Rs
abbrev ZD:=Dt->Dt->HI->Option (Dt×HI)
abbrev IB:=List Dt->HI->Option (Dt×HI)
noncomputable def DB:Expr->Bool
 | .Starred _ _=>false
 | _=>true
theorem wB{e:Expr}(h:DB e=true)(es:List Expr)(env:Env):starEach (e::es) env=(false,eval e env)::starEach es env:=by cases e<;>first | rfl | (exact absurd h zfT)
theorem JJ{pos:Pos}{env:Env}:∀{es:List Expr},es.all DB=true->(backTo pos (starEach es env)).any (·.1)=false
 | [],_=>rfl
 | e::es,h=>by rw[all_cons,Bool.and_eq_true]at h;have ih:=JJ (pos:=pos) (env:=env) h.2;rw[wB h.1];unfold backTo at ih ⊢;simp only[zfJ,any_cons,Bool.false_or];exact ih
theorem CL{pos:Pos}{env:Env}{b:Expr}(h:DB b=true):((backTo pos (starEach [b] env)).all (fun x=>!x.1)&&(backToKw pos (keywordEach [] env)).all (fun x=>x.1.isSome)
 && decide ([b].length+([]:List Keyword).length+(if([]:List Keyword).isEmpty then 0 else 1)<30))=true:=by
 rw[wB h];rfl
def Out(K:Frag)(ρ:Rg)(H:Hp)(d:Dt)(h':HI)(Q:VK):Prop:=
 ∀ρ' v H',zm K H' ρ' d v->Dm K ρ' h' H'->Ext ρ ρ' H H'->Q v H'
noncomputable def zbi(K:Frag)(ρ:Rg)(H:Hp)(h':HI)(Q:Hp->Prop):Prop:=
 ∀ρ' H',Dm K ρ' h' H'->Ext ρ ρ' H H'->Q H'
def tM(K:Frag)(f:RE):TE:=fun σ H Q=>∃ρ l h d h',Dm K ρ h H/\Jl K H ρ l σ/\f l h=some (d,h')/\Out K ρ H d h' Q
def GP(K:Frag)(f:RT):TT:=fun σ H Q=>∃ρ l h b h',Dm K ρ h H/\Jl K H ρ l σ/\f l h=some (b,h')/\zbi K ρ H h' (Q b)
def Kc(K:Frag)(f:RA):TA:=fun σ H Q=>∃ρ l h ds h',Dm K ρ h H/\Jl K H ρ l σ/\f l h=some (ds,h')/\∀ρ' vs H',qm K H' ρ' ds vs->Dm K ρ' h' H'->Ext ρ ρ' H H'->Q vs H'
def rM(K:Frag)(op:ZD):R2:=fun x y H Q=>∃ρ h d1 d2 d h',Dm K ρ h H/\zm K H ρ d1 x/\zm K H ρ d2 y/\op d1 d2 h=some (d,h')/\Out K ρ H d h' Q
def zbz(K:Frag)(ρ:Rg)(H:Hp)(D:eI):Rs->Prop
 | .nx l h=>∀ρ' σ' H',Dm K ρ' h H'->Jl K H' ρ' l σ'->Ext ρ ρ' H H'->D.nx σ' H'
 | .bk l h=>∀ρ' σ' H',Dm K ρ' h H'->Jl K H' ρ' l σ'->Ext ρ ρ' H H'->D.bk σ' H'
 | .ct l h=>∀ρ' σ' H',Dm K ρ' h H'->Jl K H' ρ' l σ'->Ext ρ ρ' H H'->D.ct σ' H'
 | .rt d h=>Out K ρ H d h D.rt
def sM(K:Frag)(f:RS):TS:=fun D σ H=>∃ρ l h r,Dm K ρ h H/\Jl K H ρ l σ/\f l h=some r/\zbz K ρ H D r
theorem Out.ext{K:Frag}{ρ ρ1:Rg}{H H1:Hp}{d:Dt}{h':HI}{Q:VK}(k:Out K ρ H d h' Q)(x:Ext ρ ρ1 H H1):Out K ρ1 H1 d h' Q:=fun ρ' v H' r s e=>k ρ' v H' r s (x.trans e)
theorem zbi.ext{K:Frag}{ρ ρ1:Rg}{H H1:Hp}{h':HI}{Q:Hp->Prop}(k:zbi K ρ H h' Q)(x:Ext ρ ρ1 H H1):zbi K ρ1 H1 h' Q:=fun ρ' H' s e=>k ρ' H' s (x.trans e)
theorem zbz.ext{K:Frag}{ρ ρ1:Rg}{H H1:Hp}{D:eI}{r:Rs}(k:zbz K ρ H D r)(x:Ext ρ ρ1 H H1):zbz K ρ1 H1 D r:=by
 cases r with
 | nx l h=>exact fun ρ' σ' H' s l e=>k ρ' σ' H' s l (x.trans e)
 | bk l h=>exact fun ρ' σ' H' s l e=>k ρ' σ' H' s l (x.trans e)
 | ct l h=>exact fun ρ' σ' H' s l e=>k ρ' σ' H' s l (x.trans e)
 | rt d h=>exact Out.ext k x
@[irreducible] def EM(X:Cx)(e:Expr)(f:RE):Prop:=PE X e (tM X.K f)
@[irreducible] def TM(X:Cx)(e:Expr)(f:RT):Prop:=PT X e (GP X.K f)
@[irreducible] def WM(X:Cx)(e:Expr)(f:RT):Prop:=PW X e (GP X.K f)
@[irreducible] def AM(X:Cx)(es:List Expr)(f:RA):Prop:=PA X es (Kc X.K f)
@[irreducible] def OM(X:Cx)(f:Value->Value->Sem Value)(op:ZD):Prop:=Bp X f (rM X.K op)
@[irreducible] def ZM(X:Cx)(st:Stmt)(f:RS):Prop:=PS X st (sM X.K f)
@[irreducible] def kI(X:Cx)(st:List Stmt)(f:RS):Prop:=PSs X st (sM X.K f)
theorem PE.imp{X:Cx}{e:Expr}{t t':TE}(h:PE X e t)(i:∀σ H Q,t' σ H Q->t σ H Q):PE X e t':=fun pins s σ H Q I q=>h pins s σ H Q I (i σ H Q q)
theorem PT.imp{X:Cx}{e:Expr}{t t':TT}(h:PT X e t)(i:∀σ H Q,t' σ H Q->t σ H Q):PT X e t':=fun pins s σ H Q I q=>h pins s σ H Q I (i σ H Q q)
theorem PW.imp{X:Cx}{e:Expr}{t t':TT}(h:PW X e t)(i:∀σ H Q,t' σ H Q->t σ H Q):PW X e t':=fun wh pins s σ H Q I q=>h wh pins s σ H Q I (i σ H Q q)
theorem PA.imp{X:Cx}{e:List Expr}{t t':TA}(h:PA X e t)(i:∀σ H Q,t' σ H Q->t σ H Q):PA X e t':=fun pos pins s σ H Q I q=>h pos pins s σ H Q I (i σ H Q q)
theorem PS.imp{X:Cx}{e:Stmt}{t t':TS}(h:PS X e t)(i:∀D σ H,t' D σ H->t D σ H):PS X e t':=fun pins s σ H D I q=>h pins s σ H D I (i D σ H q)
theorem PSs.imp{X:Cx}{e:List Stmt}{t t':TS}(h:PSs X e t)(i:∀D σ H,t' D σ H->t D σ H):PSs X e t':=fun pins s σ H D I q=>h pins s σ H D I (i D σ H q)
theorem Bp.imp{X:Cx}{f:Value->Value->Sem Value}{t t':R2}(h:Bp X f t)(i:∀x y H Q,t' x y H Q->t x y H Q):Bp X f t':=fun pins s σ H x y v u Q I r1 r2 q=>h pins s σ H x y v u Q I r1 r2 (i x y H Q q)
noncomputable def eC(d:Dt):RE:=fun Z h=>some (d,h)
noncomputable def eV(i:Nat):RE:=fun l h=>match l[i]? with | some (some d)=>some (d,h) | _=>none
noncomputable def e2(op:ZD)(fa fb:RE):RE:=fun l h=>(fa l h).bind fun r=>(fb l r.2).bind fun q=>op r.1 q.1 q.2
noncomputable def eA:RA:=fun Z h=>some ([],h)
noncomputable def bA(f:RE)(g:RA):RA:=fun l h=>(f l h).bind fun r=>(g l r.2).bind fun q=>some (r.1::q.1,q.2)
section
variable{X:Cx}{a b c:Expr}{fa fb fc:RE}{pos:Pos}
theorem dA{i j pos}:EM X (.Constant (.int i) j pos) (eC (.int i)):=by with_unfolding_all exact PE.imp N6 fun σ H Q zz=>by obtain⟨ρ,l,h,d,h',S,L,e,k⟩:=zz;cases e;exact k ρ _ H (rm.mpr rfl) S (Ext.refl _ _)
theorem SF{i j pos}:EM X (.Constant (.bool i) j pos) (eC (.bl i)):=by with_unfolding_all exact PE.imp p8 fun σ H Q zz=>by obtain⟨ρ,l,h,d,h',S,L,e,k⟩:=zz;cases e;exact k ρ _ H (Am.mpr rfl) S (Ext.refl _ _)
theorem uC{i j pos}:EM X (.Constant (.str i) j pos) (eC (.str i)):=by with_unfolding_all exact PE.imp V6 fun σ H Q zz=>by obtain⟨ρ,l,h,d,h',S,L,e,k⟩:=zz;cases e;exact k ρ _ H (Nm.mpr rfl) S (Ext.refl _ _)
theorem ZF{j pos}:EM X (.Constant .none j pos) (eC .non):=by with_unfolding_all exact PE.imp P6 fun σ H Q zz=>by obtain⟨ρ,l,h,d,h',S,L,e,k⟩:=zz;cases e;exact k ρ _ H (Jm.mpr rfl) S (Ext.refl _ _)
theorem aA (i:Nat) {x:Str} {pos:Pos} (hN:autoParam (X.N[i]?=some x) zqR._auto_1) (hv:P2 X.env.scope x:=by first | exact Or.inl rfl | exact Or.inr (Or.inl rfl) | exact Or.inr (Or.inr rfl)) (hd:autoParam ((x==("__debug__" :Str))=false) zqQ._auto_1)
 (hcd:autoParam ((x==("__classdict__" :Str))=false) zqQ._auto_1):EM X (.Name x pos) (eV i):=by
 with_unfolding_all
  exact PE.imp (W6 hN hv hd hcd) fun σ H Q zz=>by
   obtain⟨ρ,l,h,d,h',S,L,e,k⟩:=zz;unfold eV at e;split at e
   · rename_i d' q;cases e;obtain⟨v,e1,r⟩:=L.val i _ q;exact⟨v,e1,k ρ v H r S (Ext.refl _ _)⟩
   · cases e
theorem Ey {x:Str} {v:V} {u:Value} {d:Dt} {pos:Pos} (hg:Gl X x) (hm:X.mg x=some u) (r:RelV v u) (rd:∀H ρ,zm X.K H ρ d v) (hd:autoParam ((x==("__debug__" :Str))=false) zqQ._auto_1):EM X (.Name x pos) (eC d):=by with_unfolding_all exact PE.imp (bh hg hm r hd) fun σ H Q zz=>by obtain⟨ρ,l,h,d',h',S,L,e,k⟩:=zz;cases e;exact k ρ v H (rd H ρ) S (Ext.refl _ _)
theorem vA{α β:Type}{o:Option α}{f:α->Option β}{b:β}(h:o.bind f=some b):∃a,o=some a/\f a=some b:=by
 cases o with
 | none=>cases h
 | some a=>exact⟨a,rfl,h⟩
theorem uA{op:Operator}{o:ZD}(ho:OM X (binaryOp op) o)(ha:EM X a fa)(hb:EM X b fb):EM X (.BinOp a op b pos) (e2 o fa fb):=by
 with_unfolding_all
  exact PE.imp (uV ho ha hb) fun σ H Q zz=>by
   obtain⟨ρ,l,h,d,h',S,L,e,k⟩:=zz;obtain⟨⟨d1,h1⟩,e1,e⟩:=vA e;obtain⟨⟨d2,h2⟩,e2,e⟩:=vA e;exact⟨ρ,l,h,d1,h1,S,L,e1,fun ρ1 x H1 R1 S1 E1=>⟨ρ1,l,h1,d2,h2,S1,L.ext E1,e2,fun ρ2 y H2 R2 S2 E2=>
    ⟨ρ2,h2,d1,d2,d,h',S2,zm.ext E2 _ R1,R2,e,k.ext (E1.trans E2)⟩⟩⟩
theorem oF{op:CmpOp}{o:ZD}(ho:OM X (compareOp op) o)(ha:EM X a fa)(hb:EM X b fb)(hm:autoParam (behindInMarks op b=false) zqq._auto_1):EM X (.Compare a [op] [b] pos) (e2 o fa fb):=by
 with_unfolding_all
  exact PE.imp (Zg ho ha hb hm) fun σ H Q zz=>by
   obtain⟨ρ,l,h,d,h',S,L,e,k⟩:=zz;obtain⟨⟨d1,h1⟩,e1,e⟩:=vA e;obtain⟨⟨d2,h2⟩,e2,e⟩:=vA e;exact⟨ρ,l,h,d1,h1,S,L,e1,fun ρ1 x H1 R1 S1 E1=>⟨ρ1,l,h1,d2,h2,S1,L.ext E1,e2,fun ρ2 y H2 R2 S2 E2=>
    ⟨ρ2,h2,d1,d2,d,h',S2,zm.ext E2 _ R1,R2,e,k.ext (E1.trans E2)⟩⟩⟩
noncomputable def Wm(f:RE):RT:=fun l h=>(f l h).bind fun r=>match r.1 with | .bl b=>some (b,r.2) | _=>none
theorem oB{op:CmpOp}{o:ZD}(ho:OM X (compareOp op) o)(ha:EM X a fa)(hb:EM X b fb)(hm:autoParam (behindInMarks op b=false) zqq._auto_1):TM X (.Compare a [op] [b] pos) (Wm (e2 o fa fb)):=by
 with_unfolding_all
  exact PT.imp (Ih ho ha hb hm) fun σ H Q zz=>by
   obtain⟨ρ,l,h,bb,h',S,L,e,k⟩:=zz;obtain⟨⟨d,h3⟩,e0,e⟩:=vA e;obtain⟨⟨d1,h1⟩,e1,e0⟩:=vA e0;obtain⟨⟨d2,h2⟩,e2,e0⟩:=vA e0;refine⟨ρ,l,h,d1,h1,S,L,e1,fun ρ1 x H1 R1 S1 E1=>⟨ρ1,l,h1,d2,h2,S1,L.ext E1,e2,fun ρ2 y H2 R2 S2 E2=>
    ⟨ρ2,h2,d1,d2,d,h3,S2,zm.ext E2 _ R1,R2,e0,fun ρ3 v H3 R3 S3 E3=>?_⟩⟩⟩
   cases d with
   | bl q=>cases e;exact⟨bb,Am.mp R3,k ρ3 H3 S3 (E1.trans (E2.trans E3))⟩
   | _=>cases e
theorem bF{e:Expr}{f:RE}(h:EM X e f)(he:autoParam (∀whole,isTrue e X.env whole=(do let v <- whole;standAt e.pos;holding [v] (truthy v))) zqP._auto_1):TM X e (Wm f):=by
 with_unfolding_all
  exact PT.imp (h7 h he) fun σ H Q zz=>by
   obtain⟨ρ,l,h,bb,h',S,L,e,k⟩:=zz;obtain⟨⟨d,h3⟩,e0,e⟩:=vA e;refine⟨ρ,l,h,d,h3,S,L,e0,fun ρ3 v H3 R3 S3 E3=>?_⟩;cases d with
   | bl q=>cases e;exact⟨bb,Am.mp R3,k ρ3 H3 S3 E3⟩
   | _=>cases e
noncomputable def ML(o o':ZD)(fa fb fc:RE):RE:=fun l h=>(fa l h).bind fun r=>(fb l r.2).bind fun q=>(o r.1 q.1 q.2).bind fun z=>match z.1 with
 | .bl true=>(fc l z.2).bind fun y=>o' q.1 y.1 y.2
 | .bl false=>some (.bl false,z.2)
 | _=>none
theorem Oj{r r':ZD}{σ:L2.St}{H:Hp}{Q:VK}(h:tM X.K (ML r r' fa fb fc) σ H Q):K0 (rM X.K r) (rM X.K r') (tM X.K fa) (tM X.K fb) (tM X.K fc) σ H Q:=by
 obtain⟨ρ,l,h,d,h',S,L,e,k⟩:=h;obtain⟨⟨d1,h1⟩,e1,e⟩:=vA e;obtain⟨⟨d2,h2⟩,e2,e⟩:=vA e;obtain⟨⟨d3,h3⟩,e3,e⟩:=vA e;refine⟨ρ,l,h,d1,h1,S,L,e1,fun ρ1 x H1 R1 S1 E1=>⟨ρ1,l,h1,d2,h2,S1,L.ext E1,e2,fun ρ2 y H2 R2 S2 E2=>
  ⟨ρ2,h2,d1,d2,d3,h3,S2,zm.ext E2 _ R1,R2,e3,fun ρ3 v H3 R3 S3 E3=>?_⟩⟩⟩
 cases d3 with
 | bl q=>
  refine⟨q,Am.mp R3,?_⟩;cases q with
  | true=>dsimp only at e;obtain⟨⟨d4,h4⟩,e4,e⟩:=vA e;refine DH ⟨ρ3,l,h3,d4,h4,S3,(L.ext (E1.trans (E2.trans E3))),e4,fun ρ4 u H4 R4 S4 E4=>⟨ρ4,h4,d2,d4,d,h',S4,zm.ext (E3.trans E4) _ R2,R4,e,k.ext (E1.trans (E2.trans (E3.trans E4)))⟩⟩
  | false=>cases e;exact BH (k ρ3 _ H3 (Am.mpr rfl) S3 (E1.trans (E2.trans E3)))
 | _=>cases e
theorem Mz{op op':CmpOp}{r r':ZD}(ho:OM X (compareOp op) r)(ho':OM X (compareOp op') r')(ha:EM X a fa)(hb:EM X b fb)(hc:EM X c fc)
 (hm:autoParam (lastMarks [op,op'] [b,c]=false) zqq._auto_1):EM X (.Compare a [op,op'] [b,c] pos) (ML r r' fa fb fc):=by
 with_unfolding_all exact PE.imp (Gw ho ho' ha hb hc hm) fun Z Z Z h=>Oj h
noncomputable def fK(t u:RT):RT:=fun l h=>(t l h).bind fun r=>if r.1=true then u l r.2 else some (false,r.2)
noncomputable def WF(t u:RT):RT:=fun l h=>(t l h).bind fun r=>if r.1=true then some (true,r.2)else u l r.2
noncomputable def sF(t:RT):RT:=fun l h=>(t l h).bind fun r=>some (!r.1,r.2)
variable{tA tB2:RT}{rest:List Expr}
theorem WM.tm{e:Expr}{f:RT}(h:WM X e f):TM X e f:=by with_unfolding_all exact PW.pt h
theorem ZT(ha:TM X a tA):WM X (.BoolOp .And [a] pos) tA:=by with_unfolding_all exact Cg ha
theorem NL(ha:TM X a tA):WM X (.BoolOp .Or [a] pos) tA:=by with_unfolding_all exact j7 ha
theorem OU(ha:TM X a tA)(hb:WM X (.BoolOp .And (b::rest) pos) tB2):WM X (.BoolOp .And (a::b::rest) pos) (fK tA tB2):=by
 with_unfolding_all
  exact PW.imp (i7 ha hb) fun σ H Q zz=>by
   obtain⟨ρ,l,h,bb,h',S,L,e,k⟩:=zz;obtain⟨⟨b1,h1⟩,e1,e⟩:=vA e;refine⟨ρ,l,h,b1,h1,S,L,e1,fun ρ1 H1 S1 E1=>?_⟩;cases b1 with
   | true=>rw[if_pos rfl]at e;exact DH ⟨ρ1,l,h1,bb,h',S1,L.ext E1,e,k.ext E1⟩
   | false=>rw[if_neg zfT]at e;cases e;exact BH (k ρ1 H1 S1 E1)
theorem KG(ha:TM X a tA)(hb:WM X (.BoolOp .Or (b::rest) pos) tB2):WM X (.BoolOp .Or (a::b::rest) pos) (WF tA tB2):=by
 with_unfolding_all
  exact PW.imp (w8 ha hb) fun σ H Q zz=>by
   obtain⟨ρ,l,h,bb,h',S,L,e,k⟩:=zz;obtain⟨⟨b1,h1⟩,e1,e⟩:=vA e;refine⟨ρ,l,h,b1,h1,S,L,e1,fun ρ1 H1 S1 E1=>?_⟩;cases b1 with
   | true=>rw[if_pos rfl]at e;cases e;exact DH (k ρ1 H1 S1 E1)
   | false=>rw[if_neg zfT]at e;exact BH ⟨ρ1,l,h1,bb,h',S1,L.ext E1,e,k.ext E1⟩
theorem QF(ha:TM X a tA):TM X (.UnaryOp .Not a pos) (sF tA):=by with_unfolding_all exact PT.imp (g7 ha) fun σ H Q zz=>by obtain⟨ρ,l,h,bb,h',S,L,e,k⟩:=zz;obtain⟨⟨b1,h1⟩,e1,e⟩:=vA e;cases e;exact⟨ρ,l,h,b1,h1,S,L,e1,fun ρ1 H1 S1 E1=>k ρ1 H1 S1 E1⟩
noncomputable def qI(t u:RE):RE:=fun l h=>(t l h).bind fun r=>match r.1 with | .bl true=>u l r.2 | .bl false=>some (.bl false,r.2) | _=>none
noncomputable def PM(t:RE):RE:=fun l h=>(t l h).bind fun r=>match r.1 with | .bl b=>some (.bl (!b),r.2) | _=>none
theorem aP{op}(h:EM X a fa):EM X (.BoolOp op [a] pos) fa:=by with_unfolding_all exact T6 h
theorem YO(ha:EM X a fa)(hb:EM X (.BoolOp .And (b::rest) pos) fb):EM X (.BoolOp .And (a::b::rest) pos) (qI fa fb):=by
 with_unfolding_all
  exact PE.imp (L6 ha hb) fun σ H Q zz=>by
   obtain⟨ρ,l,h,d,h',S,L,e,k⟩:=zz;obtain⟨⟨d1,h1⟩,e1,e⟩:=vA e;refine⟨ρ,l,h,d1,h1,S,L,e1,fun ρ1 v H1 R1 S1 E1=>?_⟩;cases d1 with
   | bl q=>
    refine⟨q,Am.mp R1,?_⟩;cases q with
    | true=>exact DH ⟨ρ1,l,h1,d,h',S1,L.ext E1,e,k.ext E1⟩
    | false=>cases e;exact BH (k ρ1 _ H1 (Am.mpr rfl) S1 E1)
   | _=>cases e
theorem Zf(ha:EM X a fa):EM X (.UnaryOp .Not a pos) (PM fa):=by
 with_unfolding_all
  exact PE.imp (Q6 ha) fun σ H Q zz=>by
   obtain⟨ρ,l,h,d,h',S,L,e,k⟩:=zz;obtain⟨⟨d1,h1⟩,e1,e⟩:=vA e;refine⟨ρ,l,h,d1,h1,S,L,e1,fun ρ1 v H1 R1 S1 E1=>?_⟩;cases d1 with
   | bl q=>cases e;exact⟨q,Am.mp R1,k ρ1 _ H1 (Am.mpr rfl) S1 E1⟩
   | _=>cases e
noncomputable def kM(t:RT)(f g:RE):RE:=fun l h=>(t l h).bind fun r=>if r.1=true then f l r.2 else g l r.2
theorem kP{c:Expr}(hc:TM X c tA)(ha:EM X a fa)(hb:EM X b fb):EM X (.IfExp c a b pos) (kM tA fa fb):=by
 with_unfolding_all
  exact PE.imp (Jw hc ha hb) fun σ H Q zz=>by
   obtain⟨ρ,l,h,d,h',S,L,e,k⟩:=zz;obtain⟨⟨b1,h1⟩,e1,e⟩:=vA e;refine⟨ρ,l,h,b1,h1,S,L,e1,fun ρ1 H1 S1 E1=>?_⟩;cases b1 with
   | true=>rw[if_pos rfl]at e;exact DH ⟨ρ1,l,h1,d,h',S1,L.ext E1,e,k.ext E1⟩
   | false=>rw[if_neg zfT]at e;exact BH ⟨ρ1,l,h1,d,h',S1,L.ext E1,e,k.ext E1⟩
theorem gA:AM X [] eA:=by with_unfolding_all exact PA.imp sE fun σ H Q zz=>by obtain⟨ρ,l,h,ds,h',S,L,e,k⟩:=zz;cases e;exact k ρ [] H .nil S (Ext.refl _ _)
theorem cA{e:Expr}{es:List Expr}{f:RE}{g:RA}(ha:EM X e f)(hr:AM X es g)(hs:autoParam (DB e=true) zqR._auto_1):AM X (e::es) (bA f g):=by with_unfolding_all exact PA.imp (yD ha hr (wB hs es X.env)) fun σ H Q zz=>by obtain⟨ρ,l,h,ds,h',S,L,e,k⟩:=zz;obtain⟨⟨d1,h1⟩,e1,e⟩:=vA e;obtain⟨⟨ds2,h2⟩,e2,e⟩:=vA e;cases e;exact⟨ρ,l,h,d1,h1,S,L,e1,fun ρ1 x H1 R1 S1 E1=>⟨ρ1,l,h1,ds2,h2,S1,L.ext E1,e2,fun ρ2 xs H2 R2 S2 E2=>k ρ2 _ H2 (.cons (zm.ext E2 _ R1) R2) S2 (E1.trans E2)⟩⟩
noncomputable def aB(g:RA):RE:=fun l h=>(g l h).bind fun r=>if r.1.length<=sizeLine then some (.tup r.1,r.2)else none
noncomputable def fG(g:RA):RE:=fun l h=>(g l h).bind fun r=>if r.1.length<=sizeLine then some (.lst r.1,r.2)else none
noncomputable def NE(g:RA):RE:=fun l h=>(g l h).bind fun r=>if r.1.length<=sizeLine then some (.ref r.2.length,r.2++[.lst r.1])else none
theorem PL{K:Frag}{H:Hp}{ρ:Rg}{h:HI}{ds:List Dt}{vs:List V}{p:Addr}(S:Dm K ρ h H)(R:qm K H ρ ds vs)(hp:H p=none):zm K (PB H p (.tup vs)) ρ (.tup ds) (.ref p):=
 Em.mpr ⟨p,vs,rfl,.inl ⟨S.out hp,.inl jD⟩,R.ext (Ext.fresh hp)⟩
theorem dP{K:Frag}{H:Hp}{ρ:Rg}{h:HI}{ds:List Dt}{vs:List V}{p:Addr}(S:Dm K ρ h H)(R:qm K H ρ ds vs)(hp:H p=none):zm K (PB H p (.lst vs)) ρ (.lst ds) (.ref p):=
 Cm.mpr ⟨p,vs,rfl,.inl ⟨S.out hp,.inl jD⟩,R.ext (Ext.fresh hp)⟩
theorem TH{K:Frag}{H:Hp}{ρ:Rg}{h:HI}{ds:List Dt}{vs:List V}{p:Addr}(S:Dm K ρ h H)(R:qm K H ρ ds vs)(hp:H p=none) :
 zm K (PB H p (.lst vs)) (ρ.add p) (.ref h.length) (.ref p)/\Dm K (ρ.add p) (h++[.lst ds]) (PB H p (.lst vs)):=by
 refine⟨Im.mpr ⟨p,rfl,?_⟩,S.own hp ⟨vs,jD,R.ext (Ext.own hp)⟩⟩;simp only[Rg.add];rw[<- S.len,zfV (zfU _),Nat.sub_self];rfl
theorem OE{α:Type}{c:Prop}[Decidable c]{a b:α}(h:(if c then some a else none)=some b):c/\a=b:=by
 by_cases hc:c
 · rw[if_pos hc]at h;exact⟨hc,Option.some.inj h⟩
 · rw[if_neg hc]at h;cases h
theorem xB{es:List Expr}{g:RA}{x1}(h:AM X es g):EM X (.Tuple es x1 pos) (aB g):=by with_unfolding_all exact PE.imp (B0 h) fun σ H Q zz=>by obtain⟨ρ,l,h,d,h',S,L,e,k⟩:=zz;obtain⟨⟨ds,h1⟩,e1,e⟩:=vA e;obtain⟨hz,e⟩:=OE e;cases e;exact⟨ρ,l,h,ds,h1,S,L,e1,fun ρ1 vs H1 R1 S1 E1=>⟨by rw[R1.length];exact hz,fun p hp=>k ρ1 _ _ (PL S1 R1 hp) (S1.fresh hp) (E1.trans (Ext.fresh hp))⟩⟩
theorem qH{es:List Expr}{g:RA}(h:AM X es g):EM X (.List es pos) (fG g):=by with_unfolding_all exact PE.imp (NO h) fun σ H Q zz=>by obtain⟨ρ,l,h,d,h',S,L,e,k⟩:=zz;obtain⟨⟨ds,h1⟩,e1,e⟩:=vA e;obtain⟨hz,e⟩:=OE e;cases e;exact⟨ρ,l,h,ds,h1,S,L,e1,fun ρ1 vs H1 R1 S1 E1=>⟨by rw[R1.length];exact hz,fun p hp=>k ρ1 _ _ (dP S1 R1 hp) (S1.fresh hp) (E1.trans (Ext.fresh hp))⟩⟩
theorem DF{es:List Expr}{g:RA}(h:AM X es g):EM X (.List es pos) (NE g):=by with_unfolding_all exact PE.imp (NO h) fun σ H Q zz=>by obtain⟨ρ,l,h,d,h',S,L,e,k⟩:=zz;obtain⟨⟨ds,h1⟩,e1,e⟩:=vA e;obtain⟨hz,e⟩:=OE e;cases e;exact⟨ρ,l,h,ds,h1,S,L,e1,fun ρ1 vs H1 R1 S1 E1=>⟨by rw[R1.length];exact hz,fun p hp=>k _ _ _ (TH S1 R1 hp).1 (TH S1 R1 hp).2 (E1.trans (Ext.own hp))⟩⟩
end
noncomputable def oI(C:Int->Int->Prop)[∀i j,Decidable (C i j)](g:Int->Int->Dt):ZD:=fun a b h=>match a,b with
 | .int i,.int j=>if C i j then some (g i j,h)else none
 | _,_=>none
noncomputable def yK(g:Int->Int->Dt):ZD:=fun a b h=>match a,b with
 | .int i,.int j=>some (g i j,h)
 | _,_=>none
instance:∀i j,Decidable (iK i j):=fun i j=>by unfold iK;infer_instance
instance:∀i j,Decidable (zaI i j):=fun i j=>by unfold zaI;infer_instance
instance:∀i j,Decidable (vH i j):=fun i j=>by unfold vH;infer_instance
noncomputable def aE:Dt->Option V
 | .non=>some .non
 | .bl b=>some (.bl b)
 | .int i=>some (.int i)
 | .str x=>some (.str x)
 | _=>none
theorem gY{K:Frag}{H:Hp}{ρ:Rg}{d:Dt}{v:V}(e:aE d=some v):zm K H ρ d v:=by cases d<;>simp only[aE]at e<;>first | (cases e;simp only[zm]) | cases e
theorem HJ{K:Frag}{H:Hp}{ρ:Rg}{d:Dt}{v u:V}(e:aE d=some v)(r:zm K H ρ d u):u=v:=by cases d<;>simp only[aE]at e<;>first | (cases e;simpa only[zm]using r) | cases e
section
variable{X:Cx}
theorem lJ{f:Value->Value->Sem Value}{C:Int->Int->Prop}[∀i j,Decidable (C i j)]{g:Int->Int->Dt}{g':Int->Int->V}(ho:Bp X f (rI C g'))(hg:∀i j,aE (g i j)=some (g' i j)):OM X f (oI C g):=by
 with_unfolding_all
  exact Bp.imp ho fun x y H Q zz=>by
   obtain⟨ρ,h,d1,d2,d,h',S,R1,R2,e,k⟩:=zz;unfold oI at e;split at e
   · rename_i i j;obtain⟨hc,e⟩:=OE e;cases e;exact⟨i,j,rm.mp R1,rm.mp R2,hc,k ρ _ H (gY (hg i j)) S (Ext.refl _ _)⟩
   · cases e
theorem ZH{f:Value->Value->Sem Value}{g:Int->Int->Dt}{g':Int->Int->V}(ho:Bp X f (CK g'))(hg:∀i j,aE (g i j)=some (g' i j)):OM X f (yK g):=by
 with_unfolding_all
  exact Bp.imp ho fun x y H Q zz=>by
   obtain⟨ρ,h,d1,d2,d,h',S,R1,R2,e,k⟩:=zz;unfold yK at e;split at e
   · rename_i i j;cases e;exact⟨i,j,rm.mp R1,rm.mp R2,k ρ _ H (gY (hg i j)) S (Ext.refl _ _)⟩
   · cases e
def XB:ZD:=yK fun i j=>.int (i+j)
def AE:ZD:=yK fun i j=>.int (i-j)
def gC:ZD:=oI zaI fun i j=>.int (i*j)
def iF:ZD:=oI iK fun i j=>.int (i/j)
def YC:ZD:=oI (fun Z j=>0<j) fun i j=>.int (i%j)
def dQ:ZD:=oI vH fun i j=>.int (i^j.toNat)
def BG:ZD:=oI vH fun i j=>.int (i*2^j.toNat)
def pI:ZD:=oI (fun Z j=>0<=j) fun i j=>.int (i/2^j.toNat)
def vG:ZD:=yK fun i j=>.int (Builtin.bitAnd i j)
def yM:ZD:=yK fun i j=>.int (Builtin.bitOr i j)
def BM:ZD:=yK fun i j=>.bl (decide (i<j))
def zM:ZD:=yK fun i j=>.bl (decide (i<=j))
def CP:ZD:=yK fun i j=>.bl (decide (j<i))
def DV:ZD:=yK fun i j=>.bl (decide (j<=i))
theorem HC:OM X (binaryOp .Add) XB:=by with_unfolding_all exact ZH Ut fun Z Z=>rfl
theorem EF:OM X (binaryOp .Sub) AE:=by with_unfolding_all exact ZH J6 fun Z Z=>rfl
theorem xD:OM X (binaryOp .Mult) gC:=by with_unfolding_all exact lJ Zt fun Z Z=>rfl
theorem oG:OM X (binaryOp .FloorDiv) iF:=by with_unfolding_all exact lJ Wg fun Z Z=>rfl
theorem XD:OM X (binaryOp .Mod) YC:=by with_unfolding_all exact lJ Yt fun Z Z=>rfl
theorem Tt:OM X (binaryOp .Pow) dQ:=by with_unfolding_all exact lJ C6 fun Z Z=>rfl
theorem MI:OM X (binaryOp .LShift) BG:=by with_unfolding_all exact lJ D6 fun Z Z=>rfl
theorem MO:OM X (binaryOp .RShift) pI:=by with_unfolding_all exact lJ F6 fun Z Z=>rfl
theorem mH:OM X (binaryOp .BitAnd) vG:=by with_unfolding_all exact ZH Vt fun Z Z=>rfl
theorem IZ:OM X (binaryOp .BitOr) yM:=by with_unfolding_all exact ZH o8 fun Z Z=>rfl
theorem sP:OM X (compareOp .Lt) BM:=by with_unfolding_all exact ZH k8 fun Z Z=>rfl
theorem eK:OM X (compareOp .LtE) zM:=by with_unfolding_all exact ZH j8 fun Z Z=>rfl
theorem rP:OM X (compareOp .Gt) CP:=by with_unfolding_all exact ZH i8 fun Z Z=>rfl
theorem sV:OM X (compareOp .GtE) DV:=by with_unfolding_all exact ZH g8 fun Z Z=>rfl
def Z2:ZD:=fun a b h=>match aE a,aE b with
 | some x,some y=>if KM x y=true then some (.bl (decide (x=y)),h)else none
 | _,_=>none
def o3:ZD:=fun a b h=>match aE a,aE b with
 | some x,some y=>if KM x y=true then some (.bl (!decide (x=y)),h)else none
 | _,_=>none
theorem Z7:OM X (compareOp .Eq) Z2:=by
 with_unfolding_all
  exact Bp.imp e8 fun x y H Q zz=>by
   obtain⟨ρ,h,d1,d2,d,h',S,R1,R2,e,k⟩:=zz;unfold Z2 at e;split at e
   · rename_i u v e1 e2;obtain⟨hc,e⟩:=OE e;cases e;rw[HJ e1 R1,HJ e2 R2];exact⟨hc,k ρ _ H (Am.mpr rfl) S (Ext.refl _ _)⟩
   · cases e
theorem b8:OM X (compareOp .NotEq) o3:=by
 with_unfolding_all
  exact Bp.imp n8 fun x y H Q zz=>by
   obtain⟨ρ,h,d1,d2,d,h',S,R1,R2,e,k⟩:=zz;unfold o3 at e;split at e
   · rename_i u v e1 e2;obtain⟨hc,e⟩:=OE e;cases e;rw[HJ e1 R1,HJ e2 R2];exact⟨hc,k ρ _ H (Am.mpr rfl) S (Ext.refl _ _)⟩
   · cases e
noncomputable def JG:Dt->Bool
 | .non=>true
 | _=>false
def HH:ZD:=fun a b h=>match b with
 | .non=>some (.bl (JG a),h)
 | _=>none
theorem Sv{K:Frag}{H:Hp}{ρ:Rg}{d:Dt}{v:V}(r:zm K H ρ d v):decide (v=.non)=JG d:=by
 cases d with
 | non=>have e:=Jm.mp r;subst e;rfl
 | bl b=>have e:=Am.mp r;subst e;rfl
 | int i=>have e:=rm.mp r;subst e;rfl
 | str x=>have e:=Nm.mp r;subst e;rfl
 | tup xs=>obtain⟨a,vs,e,Z⟩:=Em.mp r;subst e;rfl
 | lst xs=>obtain⟨a,vs,e,Z⟩:=Cm.mp r;subst e;rfl
 | ref n=>obtain⟨a,e,Z⟩:=Im.mp r;subst e;rfl
 | Ip n=>obtain⟨a,e,Z⟩:=Fp.mp r;subst e;rfl
theorem QL:OM X (compareOp .Is) HH:=by
 with_unfolding_all
  exact Bp.imp Wt fun x y H Q zz=>by
   obtain⟨ρ,h,d1,d2,d,h',S,R1,R2,e,k⟩:=zz;unfold HH at e;split at e
   · cases e;exact⟨Jm.mp R2,k ρ _ H (Am.mpr (by rw[Sv R1])) S (Ext.refl _ _)⟩
   · cases e
noncomputable def mF(f:RE):RE:=fun l h=>(f l h).bind fun r=>match r.1 with | .int i=>some (.int (-i),r.2) | _=>none
theorem TJ{a:Expr}{fa:RE}{pos:Pos}(ha:EM X a fa):EM X (.UnaryOp .USub a pos) (mF fa):=by
 with_unfolding_all
  exact PE.imp (T1 k6 ha) fun σ H Q zz=>by
   obtain⟨ρ,l,h,d,h',S,L,e,k⟩:=zz;obtain⟨⟨d1,h1⟩,e1,e⟩:=vA e;refine⟨ρ,l,h,d1,h1,S,L,e1,fun ρ1 x H1 R1 S1 E1=>?_⟩;cases d1 with
   | int i=>cases e;exact⟨i,rm.mp R1,k ρ1 _ H1 (rm.mpr rfl) S1 E1⟩
   | _=>cases e
end
noncomputable def OB(h:HI):Dt->Option (List Dt)
 | .lst xs=>some xs
 | .ref n=>match h[n]? with | some (.lst xs)=>some xs | _=>none
 | _=>none
def QD(h:HI):Dt->Option (List Dt)
 | .tup xs=>some xs
 | d=>OB h d
theorem PF{K:Frag}{H:Hp}{ρ:Rg}{h:HI}{d:Dt}{v:V}{xs:List Dt}(S:Dm K ρ h H)(R:zm K H ρ d v)(e:OB h d=some xs):∃a vs,v=.ref a/\vp K H a vs/\qm K H ρ xs vs:=by
 cases d with
 | lst ys=>cases e;obtain⟨a,vs,e,q,r⟩:=Cm.mp R;exact⟨a,vs,e,q.sq,r⟩
 | ref n=>
  simp only[OB]at e;split at e
  · rename_i ys q;cases e;obtain⟨a,rfl,ha⟩:=Im.mp R;obtain⟨vs,h1,h2⟩:=S.lst ha q;exact⟨a,vs,rfl,vp.of h1,h2⟩
  · cases e
 | _=>simp only[OB]at e<;>cases e
theorem FO{K:Frag}{H:Hp}{ρ:Rg}{h:HI}{d:Dt}{v:V}{xs:List Dt}(S:Dm K ρ h H)(R:zm K H ρ d v)(e:QD h d=some xs):∃a vs,v=.ref a/\(vp K H a vs\/aJ K H a vs)/\qm K H ρ xs vs:=by
 cases d with
 | tup ys=>cases e;obtain⟨a,vs,e,q,r⟩:=Em.mp R;exact⟨a,vs,e,.inr q.sq,r⟩
 | lst ys=>obtain⟨a,vs,e,q,r⟩:=PF S R (show OB h (.lst ys)=some xs from e);exact⟨a,vs,e,.inl q,r⟩
 | ref n=>obtain⟨a,vs,e,q,r⟩:=PF S R (show OB h (.ref n)=some xs from e);exact⟨a,vs,e,.inl q,r⟩
 | _=>cases e
theorem qm.Kp{K:Frag}{H:Hp}{ρ:Rg}{ds:List Dt}{vs:List V}{i:Int}{d:Dt}(r:qm K H ρ ds vs)(e:L2.Kp ds i=some d):∃v,L2.Kp vs i=some v/\zm K H ρ d v:=by
 unfold L2.Kp at e ⊢;rw[r.length];cases q:cJ ds.length i with
 | none=>rw[q]at e;cases e
 | some j=>rw[q]at e;exact r.get e
def rA:ZD:=fun a b h=>match b with
 | .int i=>match a with
  | .str z=>if z.length<=sizeLine then(L2.Kp z.cps.toList i).map fun c=>(.str ⟨#[c]⟩,h)else none
  | _=>(QD h a).bind fun xs=>(L2.Kp xs i).map fun d=>(d,h)
 | _=>none
section
variable{X:Cx}{a b c:Expr}{fa fb fc:RE}{pos:Pos}
theorem Zh{x y:V}{H:Hp}{Q:VK}(h:rM X.K rA x y H Q):Vd X.K x y H Q:=by
 obtain⟨ρ,h,d1,d2,d,h',S,R1,R2,e,k⟩:=h;unfold rA at e;split at e
 · rename_i i;have ei:=rm.mp R2;split at e
   · rename_i z;split at e
     · rename_i hz;cases q:L2.Kp z.cps.toList i with
       | none=>rw[q]at e;cases e
       | some c=>rw[q]at e;cases e;exact .inr (.inr ⟨z,i,c,Nm.mp R1,ei,hz,q,k ρ _ H (Nm.mpr rfl) S (Ext.refl _ _)⟩)
     · cases e
   · obtain⟨xs,e1,e⟩:=vA e;cases q:L2.Kp xs i with
     | none=>rw[q]at e;cases e
     | some u=>
      rw[q]at e;cases e;obtain⟨p,vs,e2,sq,r⟩:=FO S R1 e1;obtain⟨v,q1,q2⟩:=r.Kp q;rcases sq with sq | sq
      · exact .inl ⟨p,vs,i,v,e2,ei,sq,q1,k ρ _ H q2 S (Ext.refl _ _)⟩
      · exact .inr (.inl ⟨p,vs,i,v,e2,ei,sq,q1,k ρ _ H q2 S (Ext.refl _ _)⟩)
 · cases e
theorem fA(ha:EM X a fa)(hb:EM X b fb)(hs:JY b:=by intro Z Z;rfl):EM X (.Subscript a b pos) (e2 rA fa fb):=by
 with_unfolding_all
  exact PE.imp (t8 Lr ha hb hs) fun σ H Q zz=>by
   obtain⟨ρ,l,h,d,h',S,L,e,k⟩:=zz;obtain⟨⟨d1,h1⟩,e1,e⟩:=vA e;obtain⟨⟨d2,h2⟩,e2,e⟩:=vA e;exact⟨ρ,l,h,d1,h1,S,L,e1,fun ρ1 x H1 R1 S1 E1=>⟨ρ1,l,h1,d2,h2,S1,L.ext E1,e2,fun ρ2 y H2 R2 S2 E2=>
    Zh ⟨ρ2,h2,d1,d2,d,h',S2,zm.ext E2 _ R1,R2,e,k.ext (E1.trans E2)⟩⟩⟩
end
noncomputable def zB:RS:=fun l h=>some (.nx l h)
noncomputable def jA(f g:RS):RS:=fun l h=>(f l h).bind fun r=>match r with | .nx l' h'=>g l' h' | r=>some r
noncomputable def CA(i:Nat)(f:RE):RS:=fun l h=>(f l h).bind fun r=>some (.nx (l.set i (some r.1)) r.2)
noncomputable def mD(f:RE):RS:=fun l h=>(f l h).bind fun r=>some (.nx l r.2)
noncomputable def FA(f:RE):RS:=fun l h=>(f l h).bind fun r=>some (.rt r.1 r.2)
noncomputable def uD(t:RT)(f g:RS):RS:=fun l h=>(t l h).bind fun r=>if r.1=true then f l r.2 else g l r.2
section
variable{X:Cx}{st:Stmt}{rest:List Stmt}{e:Expr}{f:RE}{t u:RS}{c:RT}{pos:Pos}
theorem MB:kI X [] zB:=by with_unfolding_all exact PSs.imp Gh fun D σ H zz=>by obtain⟨ρ,l,h,r,S,L,e,k⟩:=zz;cases e;exact k ρ σ H S L (Ext.refl _ _)
theorem kA(h1:ZM X st t)(h2:kI X rest u):kI X (st::rest) (jA t u):=by
 with_unfolding_all
  exact PSs.imp (Sw h1 h2) fun D σ H zz=>by
   obtain⟨ρ,l,h,r,S,L,e,k⟩:=zz;obtain⟨r1,e1,e⟩:=vA e;refine⟨ρ,l,h,r1,S,L,e1,?_⟩;cases r1 with
   | nx l' h'=>exact fun ρ' σ' H' S' L' E'=>⟨ρ',l',h',r,S',L',e,k.ext E'⟩
   | rt d h'=>cases e;exact k
   | bk l' h'=>cases e;exact k
   | ct l' h'=>cases e;exact k
theorem qA(h1:ZM X st t):kI X [st] t:=by with_unfolding_all exact Hh h1
theorem SD(he:EM X e f)(hs:autoParam (swapsWith e none pos.line X.env=pure false) zqR._auto_1):ZM X (.Expr e pos) (mD f):=by with_unfolding_all exact PS.imp (Eh he hs) fun D σ H zz=>by obtain⟨ρ,l,h,r,S,L,e,k⟩:=zz;obtain⟨⟨d1,h1⟩,e1,e⟩:=vA e;cases e;exact⟨ρ,l,h,d1,h1,S,L,e1,fun ρ1 v H1 R1 S1 E1=>k ρ1 σ H1 S1 (L.ext E1) E1⟩
theorem HA(he:EM X e f):ZM X (.Return (some e) pos) (FA f):=by with_unfolding_all exact PS.imp (e7 he) fun D σ H zz=>by obtain⟨ρ,l,h,r,S,L,e,k⟩:=zz;obtain⟨⟨d1,h1⟩,e1,e⟩:=vA e;cases e;exact⟨ρ,l,h,d1,h1,S,L,e1,k⟩
theorem FB{b:Expr}{ss ss':List Stmt}(hc:TM X b c)(ha:kI X ss t)(hb:kI X ss' u):ZM X (.If b ss ss' pos) (uD c t u):=by
 with_unfolding_all
  exact PS.imp (v8 hc ha hb) fun D σ H zz=>by
   obtain⟨ρ,l,h,r,S,L,e,k⟩:=zz;obtain⟨⟨b1,h1⟩,e1,e⟩:=vA e;refine⟨ρ,l,h,b1,h1,S,L,e1,fun ρ1 H1 S1 E1=>?_⟩;cases b1 with
   | true=>rw[if_pos rfl]at e;exact DH ⟨ρ1,l,h1,r,S1,L.ext E1,e,k.ext E1⟩
   | false=>rw[if_neg zfT]at e;exact BH ⟨ρ1,l,h1,r,S1,L.ext E1,e,k.ext E1⟩
theorem IA(i:Nat){x:Str}{pos':Pos}(hN:X.N.Nodup)(he:EM X e f)(hi:autoParam (X.N[i]?=some x) zqR._auto_1)(hx:autoParam (zP X.env.scope x) zqD._auto_1)
 (hs:autoParam (swapsWith e (some (.Name x pos')) pos.line X.env=pure false) zqR._auto_1) (hf:autoParam (X.fn x=true\/X.env.scope.names.lookup x=some .local) zqD._auto_1) :
 ZM X (.Assign [.Name x pos'] e pos) (CA i f):=by
 with_unfolding_all exact PS.imp (f7 hN hi hx he hs hf) fun D σ H zz=>by obtain⟨ρ,l,h,r,S,L,e,k⟩:=zz;obtain⟨⟨d1,h1⟩,e1,e⟩:=vA e;cases e;exact⟨ρ,l,h,d1,h1,S,L,e1,fun ρ1 v H1 R1 S1 E1=>k ρ1 _ H1 S1 ((L.ext E1).set i R1) E1⟩
end
inductive Src where
 | vals (xs:List Dt)
 | rf (n:Nat)
 | zp (a b:Dt)
 | it (n:Nat)
 | en (n:Nat)
def Src.at(s:Src)(h:HI)(i:Nat):Option (Option Dt):=match s with
 | .vals xs=>some xs[i]?
 | .rf n=>match h[n]? with | some (.lst xs)=>some xs[i]? | _=>none
 | .zp a b=>match OB h a,OB h b with
  | some xs,some ys=>some (match xs[i]?,ys[i]? with | some x,some y=>some (.tup [x,y]) | _,_=>none)
  | _,_=>none
 | .it n=>match h[n]? with | some (.df kvs)=>some (kvs[i]?.map fun p=>.tup [.tup (p.1.map Dt.int),p.2]) | _=>none
 | .en n=>match h[n]? with | some (.lst xs)=>some (xs[i]?.map fun x=>.tup [.int (i:Int),x]) | _=>none
def Src.fuel(s:Src)(h:HI):Nat:=match s with
 | .vals xs=>xs.length+1
 | .rf n=>match h[n]? with | some (.lst xs)=>xs.length+1 | _=>0
 | .zp a _=>match OB h a with | some xs=>xs.length+1 | _=>0
 | .it n=>match h[n]? with | some (.df kvs)=>kvs.length+1 | _=>0
 | .en n=>match h[n]? with | some (.lst xs)=>xs.length+1 | _=>0
abbrev RI:=LI->HI->Option (Src×HI)
def Z0(K:Frag)(H:Hp)(ρ:Rg)(s:Src)(J:It):Prop:=
 ∀H2 ρ2 h2,Ol ρ ρ2 H H2->Dm K ρ2 h2 H2->∀i:Nat,match s.at h2 i with
  | none=>True
  | some none=>J.stop i H2
  | some (some d)=>J.go i H2/\∀v H3,J.yld i H2 v H3->zm K H3 ρ2 d v/\Ext ρ2 ρ2 H2 H3/\Dm K ρ2 h2 H3
def iM(K:Frag)(g:RI):TI:=fun σ H R=>∃ρ l h s h',Dm K ρ h H/\Jl K H ρ l σ/\g l h=some (s,h')/\∀ρ' J H',Z0 K H' ρ' s J->Dm K ρ' h' H'->Ext ρ ρ' H H'->R J H'
@[irreducible] def IM(X:Cx)(tg iter:Expr)(g:RI):Prop:=PI X tg iter (iM X.K g)
theorem PI.imp{X:Cx}{tg e:Expr}{t t':TI}(h:PI X tg e t)(i:∀σ H Q,t' σ H Q->t σ H Q):PI X tg e t':=fun pins s σ H Q I q=>h pins s σ H Q I (i σ H Q q)
abbrev RG:=Dt->LI->Option LI
def gM(K:Frag)(g:RG):TG:=fun v σ H Q=>∃ρ l h d l',Dm K ρ h H/\Jl K H ρ l σ/\zm K H ρ d v/\g d l=some l'/\∀σ',Jl K H ρ l' σ'->Q σ' H
@[irreducible] def GM(X:Cx)(tg:Expr)(g:RG):Prop:=PG X tg (gM X.K g)
theorem PG.imp{X:Cx}{e:Expr}{t t':TG}(h:PG X e t)(i:∀v σ H Q,t' v σ H Q->t v σ H Q):PG X e t':=fun pins s σ H v u Q I r q=>h pins s σ H v u Q I r (i v σ H Q q)
noncomputable def DA(i:Nat):RG:=fun d l=>some (l.set i (some d))
def kC(bd:RG)(body:RS)(s:Src):Nat->Nat->RS
 | 0,_,_,_=>none
 | k+1,i,l,h=>match s.at h i with
  | none=>none
  | some none=>some (.nx l h)
  | some (some d)=>(bd d l).bind fun l1=>(body l1 h).bind fun r=>match r with
   | .nx l' h'=>kC bd body s k (i+1) l' h'
   | .ct l' h'=>kC bd body s k (i+1) l' h'
   | .bk l' h'=>some (.nx l' h')
   | .rt d h'=>some (.rt d h')
def oC(g:RI)(bd:RG)(body:RS):RS:=fun l h=>(g l h).bind fun r=>kC bd body r.1 (r.1.fuel r.2) 0 l r.2
section
variable{X:Cx}{tg iter:Expr}{pos:Pos}
theorem CB(i:Nat){x:Str}{pos:Pos}(hN:X.N.Nodup)(hi:autoParam (X.N[i]?=some x) zqR._auto_1)(hx:autoParam (zP X.env.scope x) zqD._auto_1)
 (hf:autoParam (X.fn x=true\/X.env.scope.names.lookup x=some .local) zqD._auto_1):GM X (.Name x pos) (DA i):=by
 with_unfolding_all exact PG.imp (nU hN hi hx hf) fun v σ H Q zz=>by obtain⟨ρ,l,h,d,l',S,L,R,e,k⟩:=zz;cases e;exact k _ (L.set i R)
noncomputable def AH(f:RE):RI:=fun l h=>(f l h).bind fun r=>match r.1 with | .int j=>if -(2^62)<=j/\j<2^62 then some (.vals ((range j.toNat).map fun(k:Nat)=>Dt.int (k:Int)),r.2)else none | _=>none
noncomputable def V2(f g:RE):RI:=fun l h=>(f l h).bind fun r=>(g l r.2).bind fun q=>match r.1,q.1 with
 | .int i,.int j=>if -(2^62)<=i/\i<2^62/\-(2^62)<=j/\j<2^62 then some (.vals ((range (j-i).toNat).map fun(k:Nat)=>Dt.int (i+(k:Int))),q.2)else none | _,_=>none
theorem CF {a:Expr} {f:RE} {p pos:Pos} (hg:Gl X "range") (hm:X.mg "range" =none) (ha:EM X a f) (hs:autoParam (DB a=true) zqR._auto_1) :
 IM X tg (.Call (.Name "range" p) [a] [] pos) (AH f):=by
 with_unfolding_all
  exact PI.imp (Mv hg hm (yD ha sE (wB hs _ _)) (wB hs _ _)) fun σ H R zz=>by
   obtain⟨ρ,l,h,s,h',S,L,e,k⟩:=zz;obtain⟨⟨d1,h1⟩,e1,e⟩:=vA e;refine⟨ρ,l,h,d1,h1,S,L,e1,fun ρ1 v H1 R1 S1 E1=>?_⟩;cases d1 with
   | int j=>
    obtain⟨⟨c1,c2⟩,e⟩:=OE e;cases e;refine⟨j,by rw[rm.mp R1],c1,c2,k ρ1 _ H1 (fun H2 ρ2 h2 E2 S2 i=>?_) S1 E1⟩;simp only[Src.at,getElem?_map];by_cases hi:i<j.toNat
    · rw[getElem?_range hi];refine⟨hi,fun v H3 q=>?_⟩;obtain⟨rfl,rfl⟩:=q;exact⟨rm.mpr (by simp),Ext.refl _ _,S2⟩
    · rw[getElem?_eq_none (by simpa using Nat.not_lt.mp hi)];exact Nat.not_lt.mp hi
   | _=>cases e
theorem yx {a b:Expr} {f g:RE} {p pos:Pos} (hg:Gl X "range") (hm:X.mg "range" =none) (ha:EM X a f) (hb:EM X b g) (hs:autoParam (DB a=true) zqR._auto_1) (hs2:autoParam (DB b=true) zqR._auto_1) :
 IM X tg (.Call (.Name "range" p) [a,b] [] pos) (V2 f g):=by
 with_unfolding_all
  exact PI.imp (Nv hg hm (yD ha (yD hb sE (wB hs2 _ _)) (wB hs _ _)) (by rw[wB hs,wB hs2];rfl) (wB hs2 _ _)) fun σ H R zz=>by
   obtain⟨ρ,l,h,s,h',S,L,e,k⟩:=zz;obtain⟨⟨d1,h1⟩,e1,e⟩:=vA e;obtain⟨⟨d2,h2⟩,e2,e⟩:=vA e;refine⟨ρ,l,h,d1,h1,S,L,e1,fun ρ1 v H1 R1 S1 E1=>⟨ρ1,l,h1,d2,h2,S1,L.ext E1,e2,fun ρ2 u H2 R2 S2 E2=>?_⟩⟩;cases d1 with
   | int i=>
    cases d2 with
    | int j=>
     obtain⟨c,e⟩:=OE e;cases e;refine⟨i,j,by rw[rm.mp R1,rm.mp R2],c,k ρ2 _ H2 (fun H3 ρ3 h3 E3 S3 n=>?_) S2 (E1.trans E2)⟩;simp only[Src.at,getElem?_map];by_cases hi:n<(j-i).toNat
     · rw[getElem?_range hi];refine⟨hi,fun v H4 q=>?_⟩;obtain⟨rfl,rfl⟩:=q;exact⟨rm.mpr rfl,Ext.refl _ _,S3⟩
     · rw[getElem?_eq_none (by simpa using Nat.not_lt.mp hi)];exact Nat.not_lt.mp hi
    | _=>cases e
   | _=>cases e
noncomputable def LV(f:RE):RI:=fun l h=>(f l h).bind fun r=>match r.1 with | .lst xs=>some (.vals xs,r.2) | .ref n=>some (.rf n,r.2) | _=>none
def nC(f:RE):RI:=fun l h=>(LV f l h).bind fun r=>if 0<r.1.fuel r.2 then some r else none
theorem GC{a:Expr}{f:RE}(ha:EM X a f):IM X tg a (nC f):=by
 with_unfolding_all
  exact PI.imp (yh ha) fun σ H R zz=>by
   obtain⟨ρ,l,h,s,h',S,L,e,k⟩:=zz;obtain⟨⟨s1,h1⟩,e,ez⟩:=vA e;obtain⟨hz,ez⟩:=OE ez;cases ez;obtain⟨⟨d1,h2⟩,e1,e⟩:=vA e;refine⟨ρ,l,h,d1,h2,S,L,e1,fun ρ1 v H1 R1 S1 E1=>?_⟩;cases d1 with
   | lst xs=>
    cases e;obtain⟨a,vs,rfl,q,r⟩:=Cm.mp R1;refine⟨a,rfl,⟨vs,q.sq⟩,k ρ1 _ H1 (fun H2 ρ2 h2 E2 S2 i=>?_) S1 E1⟩;have q2:=q.same E2;have r2:=qm.same E2 _ r;simp only[Src.at];cases ei:xs[i]? with
    | none=>refine⟨vs,q2.sq,?_⟩;rw[r.length];exact getElem?_eq_none_iff.mp ei
    | some d=>obtain⟨v,g1,g2⟩:=r2.get ei;refine⟨⟨vs,v,q2.sq,g1⟩,fun u H3 y=>?_⟩;obtain⟨rfl,y⟩:=y;have y2:=y vs q2.sq;rw[g1]at y2;cases y2;exact⟨g2,Ext.refl _ _,S2⟩
   | ref n=>
    cases e;obtain⟨a,rfl,ha⟩:=Im.mp R1;simp only[Src.fuel]at hz;split at hz
    · rename_i xs q0;obtain⟨vs0,g0,Z⟩:=S1.lst ha q0;refine⟨a,rfl,⟨vs0,vp.of g0⟩,k ρ1 _ H1 (fun H2 ρ2 h2 E2 S2 i=>?_) S1 E1⟩;have ha2:=E2.ix _ _ ha;simp only[Src.at];split
      · trivial
      · rename_i y;split at y
        · rename_i ys q2;obtain⟨vs,g1,r⟩:=S2.lst ha2 q2;refine⟨vs,vp.of g1,?_⟩;rw[r.length];exact getElem?_eq_none_iff.mp (Option.some.inj y)
        · cases y
      · rename_i d y;split at y
        · rename_i ys q2;obtain⟨vs,g1,r⟩:=S2.lst ha2 q2;obtain⟨v,z1,z2⟩:=r.get (Option.some.inj y);refine⟨⟨vs,v,vp.of g1,z1⟩,fun u H3 y=>?_⟩;obtain⟨rfl,y⟩:=y;have y2:=y vs (vp.of g1);rw[z1]at y2;cases y2;exact⟨z2,Ext.refl _ _,S2⟩
        · cases y
    · exact absurd hz (by omega)
   | _=>cases e
theorem NC{body:List Stmt}{g:RI}{bd:RG}{f:RS}(hp:PassesOwn (model X.prog X.w) X.A X.env X.xe)(hc:X.calm=true)(hi:IM X tg iter g)(hg:GM X tg bd)(hb:kI X body f)
 (hs:autoParam (∀x,foldedSetIterable iter X.env x=pure x) zqP._auto_1):ZM X (.For tg iter body [] pos) (oC g bd f):=by
 with_unfolding_all
  exact PS.imp (d7 hp hc hi hg hb hs) fun D σ H zz=>by
   obtain⟨ρ,l,h,r,S,L,e,k⟩:=zz;obtain⟨⟨s,h1⟩,e1,e⟩:=vA e;refine⟨ρ,l,h,s,h1,S,L,e1,fun ρ1 J H1 ok S1 E1=>?_⟩;refine⟨fun i m σ' H'=>∃ρ' l' h',Dm X.K ρ' h' H'/\Jl X.K H' ρ' l' σ'/\Ext ρ1 ρ' H1 H'/\kC bd f s m i l' h'=some r,⟨_,ρ1,l,h1,S1,L.ext E1,Ext.refl _ _,e⟩,?_⟩;rintro i m σ' H' ⟨ρ',l',h',S',L',E',e'⟩;cases m with
   | zero=>simp only[kC]at e';cases e'
   | succ m=>
    simp only[kC]at e';have ok':=ok H' ρ' h' E'.same S' i;cases q:s.at h' i with
    | none=>rw[q]at e';cases e'
    | some o=>
     rw[q]at e' ok';cases o with
     | none=>cases e';exact .inl ⟨ok',k ρ' σ' H' S' L' (E1.trans E')⟩
     | some d=>
      dsimp only at e';obtain⟨l1,b1,e'⟩:=vA e';obtain⟨r1,b2,e'⟩:=vA e';refine .inr ⟨ok'.1,fun σ2 H2=>∃m',m'<m+1/\∃ρ' l' h',Dm X.K ρ' h' H2/\Jl X.K H2 ρ' l' σ2/\Ext ρ1 ρ' H1 H2/\kC bd f s m' (i+1) l' h'=some r,fun σ2 H2 q=>q,fun v H3 y=>?_⟩;obtain⟨R3,E3,S3⟩:=ok'.2 v H3 y;refine⟨ρ',l',h',d,l1,S3,L'.ext E3,R3,b1,fun σ4 L4=>⟨ρ',l1,h',r1,S3,L4,b2,?_⟩⟩;cases r1 with
      | nx l2 h2=>exact fun ρ5 σ5 H5 S5 L5 E5=>⟨m,Nat.lt_succ_self _,ρ5,l2,h2,S5,L5,E'.trans (E3.trans E5),e'⟩
      | ct l2 h2=>exact fun ρ5 σ5 H5 S5 L5 E5=>⟨m,Nat.lt_succ_self _,ρ5,l2,h2,S5,L5,E'.trans (E3.trans E5),e'⟩
      | bk l2 h2=>cases e';exact fun ρ5 σ5 H5 S5 L5 E5=>k ρ5 σ5 H5 S5 L5 (E1.trans (E'.trans (E3.trans E5)))
      | rt d2 h2=>cases e';exact fun ρ5 v5 H5 R5 S5 E5=>k ρ5 v5 H5 R5 S5 (E1.trans (E'.trans (E3.trans E5)))
end
noncomputable def cC(n N:Nat)(body:RS):IB:=fun ds h=>if ds.length=n then match body (ds.map some++replicate (N-n) none) h with
 | some (.rt d h')=>some (d,h')
 | some (.nx _ h')=>some (.non,h')
 | _=>none
 else none
def dJ(K:Frag)(n:Nat)(F:IB):Sp:=fun vs H Q Z=>∃ρ ds h d h',Dm K ρ h H/\qm K H ρ ds vs/\ds.length=n/\F ds h=some (d,h')/\Out K ρ H d h' Q
section
variable{P:Program}{w:World}{K:Frag}{mg:Str->Option Value}{base:Heap}
theorem VN{H:Hp}{ρ:Rg}{N:List Str}{ds:List Dt}{vs:List V}(R:qm K H ρ ds vs):Jl K H ρ (ds.map some++replicate (N.length-ds.length) none) (L2.xG N vs):=by
 have hl:=R.length;refine⟨by simp[L2.xG,hl],fun i d e=>?_⟩;by_cases hi:i<ds.length
 · rw[zfS (by simpa using hi),getElem?_map]at e;cases q:ds[i]? with
   | none=>rw[q]at e;cases e
   | some d'=>rw[q]at e;cases e;obtain⟨v,g1,g2⟩:=R.get q;refine⟨v,?_,g2⟩;unfold L2.xG;rw[zfS (by simpa[hl]using hi),getElem?_map,g1];rfl
 · rw[zfV (by simpa using Nat.not_lt.mp hi),getElem?_replicate]at e;split at e<;>cases e
theorem nP{x qual:Str}{st:Stmt}{f:Addr}{fd:FuncData}{N ps:List Str}{k:Nat}{body:RS}(F:Fun K x qual st f fd)(S:SA N ps (BA st))
 (hb:∀(cdv:Value)(A:Around)(outer:List Env)(s:Shared)(H:Hp)(E:XK),Ym k (A.deeper (envOfC qual (BA st) s.heap.objs.size f cdv))->
  kI (HF cG P w K mg base N qual (BA st) f cdv A outer s H E).nox (FD st) body):Xl P w K mg base cG (k+1) f fd ps (dJ K ps.length (cC ps.length N.length body)):=by
 with_unfolding_all
  refine F.ok S (fun vs H Q E h=>?_) (fun cdv A outer s H vs Q E hr h=>?_)
  · obtain⟨ρ,ds,h,d,h',S,R,hl,Z⟩:=h;rw[R.length,hl]
  · obtain⟨ρ,ds,h,d,h',S,R,hl,e,k⟩:=h;refine⟨_,hb cdv A outer s H E hr,?_⟩;unfold cC at e;rw[if_pos hl]at e;rw[<- hl]at e;split at e
    · rename_i d1 h1 q;cases e;exact⟨ρ,_,h,_,S,VN R,q,k⟩
    · rename_i l1 h1 q;cases e;exact⟨ρ,_,h,_,S,VN R,q,fun ρ' σ' H' S' L' E'=>k ρ' _ H' (Jm.mpr rfl) S' E'⟩
    · cases e
end
noncomputable def zA(F:IB)(dds:List Dt)(g:RA):RE:=fun l h=>(g l h).bind fun r=>F (r.1++dds) r.2
section
variable{X:Cx}{k n:Nat}{f:Addr}{fd:FuncData}{ps:List Str}{F:IB}{x:Str}{p pos:Pos}{e:Expr}{es:List Expr}{g:RA}{Rp:List V}{ds:List Value}{dds:List Dt}
theorem wY(hF:Xl X.prog X.w X.K X.mg X.base cG k f fd ps (dJ X.K n F))(hr:Ym k X.A)(hg:Gl X x)(hm:X.mg x=some (.ref f))(hk:keepIn X.K (.ref f)=true)(hb:Binds X.K fd ps ds)(hd:Vals Rp ds)(hdd:∀H ρ,qm X.K H ρ dds Rp)
 (ha:AM X (e::es) g) (hn:∀(F':List Dt->HI->Option (Dt×HI)),F'=F->∀ds h r,F' ds h=some r->ds.length=n) (hdb:autoParam ((x==("__debug__" :Str))=false) zqQ._auto_1) (he:autoParam (DB e=true) zqR._auto_1) (hpl:autoParam (es.all DB=true) zqR._auto_1) :
 EM X (.Call (.Name x p) (e::es) [] pos) (zA F dds g):=by
 with_unfolding_all exact PE.imp (Yg hF hr hg hm hk hb hd (E:=E0) tP ha hdb (wB he _ _) (JJ hpl)) fun σ H Q zz=>by obtain⟨ρ,l,h,d,h',S,L,e,k⟩:=zz;obtain⟨⟨ds1,h1⟩,e1,e⟩:=vA e;exact⟨ρ,l,h,ds1,h1,S,L,e1,fun ρ1 vs H1 R1 S1 E1=>⟨ρ1,_,h1,d,h',S1,R1.append (hdd H1 ρ1),hn F rfl _ _ _ e,e,k.ext E1⟩⟩
theorem AO{n N:Nat}{body:RS}{ds:List Dt}{h:HI}{r:Dt×HI}(e:cC n N body ds h=some r):ds.length=n:=by
 unfold cC at e;split at e
 · assumption
 · cases e
noncomputable def VO(F:IB)(dds:List Dt):RE:=fun Z h=>F dds h
theorem uz(hF:Xl X.prog X.w X.K X.mg X.base cG k f fd ps (dJ X.K n F))(hr:Ym k X.A)(hg:Gl X x)(hm:X.mg x=some (.ref f))(hk:keepIn X.K (.ref f)=true)(hb:Binds X.K fd ps ds)(hd:Vals Rp ds)(hdd:∀H ρ,qm X.K H ρ dds Rp)
 (hn:∀(F':List Dt->HI->Option (Dt×HI)),F'=F->∀ds h r,F' ds h=some r->ds.length=n) (hdb:autoParam ((x==("__debug__" :Str))=false) zqQ._auto_1) :
 EM X (.Call (.Name x p) [] [] pos) (VO F dds):=by
 with_unfolding_all exact PE.imp (Fw hF hr hg hm hk hb hd (E:=E0) tP hdb) fun σ H Q zz=>by obtain⟨ρ,l,h,d,h',S,L,e,k⟩:=zz;exact⟨ρ,dds,h,d,h',S,hdd H ρ,hn F rfl _ _ _ e,e,k⟩
end
end SM
namespace L2
noncomputable def WE(cells:List (Str×Addr)):List (Str×NameKind)->List (Str×Addr)->Option (List (Str×Addr))
 | [],cs=>some cs
 | (n,k)::r,cs=>if k==.free then match cells.lookup n with
  | some a=>WE cells r ((n,a)::cs)
  | none=>none
  else WE cells r cs
theorem zT{env:Env}:∀{l:List (Str×NameKind)}{cs cl:List (Str×Addr)},WE env.cells l cs=some cl->
 (forIn l cs fun(x:Str×NameKind) (r:List (Str×Addr))=>if(x.2==NameKind.free)=true then(do let a <- cellOf env x.1;pure (ForInStep.yield ((x.1,a)::r)):Sem _)else pure (ForInStep.yield r))=pure cl
 | [],cs,cl,h=>by simp only[WE]at h;cases h;rfl
 | (n,k)::r,cs,cl,h=>by
  simp only[WE]at h;rw[forIn_cons];cases hk:k==NameKind.free with
  | true=>
   rw[hk,if_pos rfl]at h;cases hc:env.cells.lookup n with
   | none=>rw[hc]at h;cases h
   | some a=>
    rw[hc]at h;have ih:=zT (env:=env) h;simp only[hk,if_true];have e:cellOf env n=pure a:=by unfold cellOf;rw[hc]
    rw[e];simp only[pure_bind];exact ih
  | false=>rw[hk,if_neg (by decide)]at h;have ih:=zT (env:=env) h;simp only[hk,zfX,if_false,pure_bind];exact ih
theorem LW{scope:Scope}{env:Env}{cl:List (Str×Addr)}(h:WE env.cells scope.names []=some cl):closureFor scope env=pure cl:=by have e:=zT (env:=env) h;unfold closureFor;simp only[bind_pure];exact e
theorem uS{cells:List (Str×Addr)}:∀{l:List (Str×NameKind)}{cs cl:List (Str×Addr)},WE cells l cs=some cl->(∀x c,cs.lookup x=some c->cells.lookup x=some c)->
 (∀x c,cl.lookup x=some c->cells.lookup x=some c)/\(∀x c,cs.lookup x=some c->∃c',cl.lookup x=some c')/\∀n,(n,NameKind.free)∈l->∃c,cl.lookup n=some c
 | [],cs,cl,h,i=>by simp only[WE]at h;cases h;exact⟨i,fun x c e=>⟨c,e⟩,fun n hn=>nomatch hn⟩
 | (n,k)::r,cs,cl,h,i=>by
  simp only[WE]at h;cases hk:k==NameKind.free with
  | true=>
   rw[hk,if_pos rfl]at h;cases hc:cells.lookup n with
   | none=>rw[hc]at h;cases h
   | some a=>
    rw[hc]at h;have i':∀x c,((n,a)::cs).lookup x=some c->cells.lookup x=some c:=fun x c e=>by
     rw[lookup_cons]at e;cases hx:x==n with
     | true=>rw[hx]at e;cases e;rw[eq_of_beq hx];exact hc
     | false=>rw[hx]at e;exact i x c e
    obtain⟨h1,h2,h3⟩:=uS h i';refine⟨h1,fun x c e=>?_,fun m hm=>?_⟩
    · cases hx:x==n with
      | true=>exact h2 x a (by rw[lookup_cons,hx])
      | false=>exact h2 x c (by rw[lookup_cons,hx];exact e)
    · rcases mem_cons.mp hm with z | z
      · cases z;exact h2 _ a (by rw[lookup_cons,beq_self_eq_true])
      · exact h3 m z
  | false=>
   rw[hk,if_neg (by decide)]at h;obtain⟨h1,h2,h3⟩:=uS h i;refine⟨h1,h2,fun m hm=>?_⟩;rcases mem_cons.mp hm with z | z
   · cases z;cases hk
   · exact h3 m z
noncomputable def sC(X:Cx)(Nc:List Str)(scope:Scope)(cl:List (Str×Addr))(C:Addr)(s0:Shared)(H0:Hp)(fp:List Addr):Cx:=
 { X with N:=Nc,s₀:=s0,H₀:=H0,env:=compEnvC scope cl C X.env,outer:=X.stack,stack:=X.stack,ex:=fp,fn:=fun Z=>false,pn:=[],xe:=fun Z Z=>False }
theorem IW{env:Env}:∀{names:List (Str×NameKind)}{x:Str},(∀y∈names,y.2≠.cell)->
 ((names.map fun(n,k)=>if(k==NameKind.free&&env.scope.kind==.function&&env.kindOf n==some .cell)then(n,NameKind.cell)else(n,k)).lookup x=some .cell\/
  (names.map fun(n,k)=>if(k==NameKind.free&&env.scope.kind==.function&&env.kindOf n==some .cell)then(n,NameKind.cell)else(n,k)).lookup x=some .free)->(x,NameKind.free)∈names
 | [],_,_,h=>by simp at h
 | (n,k)::r,x,hc,h=>by
  have ih:=@IW env r x (fun y hy=>hc y (mem_cons_of_mem _ hy));have hk:k≠.cell:=hc (n,k) mem_cons_self;rw[zfJ]at h;cases hx:x==n with
  | true=>
   have ex:=eq_of_beq hx;subst ex;by_cases hf:k=.free
   · subst hf;exact mem_cons_self
   · have hb:(k==NameKind.free)=false:=by simpa using hf
     simp only[hb,Bool.false_and,zfX,if_false,lookup_cons,beq_self_eq_true]at h;rcases h with h | h
     · exact absurd (Option.some.inj h) hk
     · exact absurd (Option.some.inj h) hf
  | false=>
   refine mem_cons_of_mem _ (ih ?_);by_cases hq:(k==NameKind.free&&env.scope.kind==.function&&env.kindOf n==some .cell)=true
   · simp only[hq,if_true,lookup_cons,hx]at h;exact h
   · rw[Bool.not_eq_true]at hq;simp only[hq,zfX,if_false,lookup_cons,hx]at h;exact h
noncomputable def Vl(X:Cx)(scope:Scope)(cl:List (Str×Addr)):List Str->List (Option Nat)->Prop
 | [],[]=>True
 | _::N,none::cs=>Vl X scope cl N cs
 | x::N,some j::cs=>(X.N[j]?=some x/\(X.env.kindOf x=some .cell\/X.env.kindOf x=some .free)/\((relabel scope X.env).names.lookup x=some .cell\/(relabel scope X.env).names.lookup x=some .free)/\
  cl.lookup x=X.env.cells.lookup x)/\Vl X scope cl N cs
 | _,_=>False
noncomputable def HG(σ:St)(cap:List (Option Nat)):St:=cap.map fun o=>match o with | some j=>(σ[j]?).join | none=>none
theorem Vl.get{X:Cx}{scope:Scope}{cl:List (Str×Addr)}:∀{N:List Str}{cs:List (Option Nat)},Vl X scope cl N cs->∀{i j:Nat}{x:Str},N[i]?=some x->cs[i]?=some (some j)->
 X.N[j]?=some x/\(X.env.kindOf x=some .cell\/X.env.kindOf x=some .free)/\((relabel scope X.env).names.lookup x=some .cell\/(relabel scope X.env).names.lookup x=some .free)/\cl.lookup x=X.env.cells.lookup x
 | [],[],_,i,j,x,h,_=>by simp at h
 | y::N,none::cs,h,0,j,x,_,e=>by simp at e
 | y::N,none::cs,h,i+1,j,x,e1,e2=>Vl.get (N:=N) (cs:=cs) h (i:=i) (by simpa using e1) (by simpa using e2)
 | y::N,some k::cs,h,0,j,x,e1,e2=>by simp at e1 e2;subst e1 e2;exact h.1
 | y::N,some k::cs,h,i+1,j,x,e1,e2=>Vl.get (N:=N) (cs:=cs) h.2 (i:=i) (by simpa using e1) (by simpa using e2)
 | [],_::_,h,_,_,_,_,_=>h.elim
 | _::_,[],h,_,_,_,_,_=>h.elim
theorem Vl.length{X:Cx}{scope:Scope}{cl:List (Str×Addr)}:∀{N:List Str}{cs:List (Option Nat)},Vl X scope cl N cs->cs.length=N.length
 | [],[],_=>rfl
 | y::N,none::cs,h=>by rw[zfH,zfH,Vl.length (N:=N) (cs:=cs) h]
 | y::N,some k::cs,h=>by rw[zfH,zfH,Vl.length (N:=N) (cs:=cs) h.2]
 | [],_::_,h=>h.elim
 | _::_,[],h=>h.elim
def eJ(X:Cx)(ifs:List Expr)(t:TT):Prop:=
 ∀(pins:List (Addr×Obj))(s:Shared)(σ:St)(H:Hp)(Q:Bool->Hp->Prop),Inv X pins σ H s->t σ H Q->
  wpAny (model X.prog X.w) X.A (forIn ifs true fun c r=>if r=true then do let ok <- isTrue c X.env (eval c X.env);pure (ForInStep.yield ok)else pure (ForInStep.yield r)) (TP X pins σ Q) X.xe s
theorem Mw{X:Cx}:eJ X [] (fun Z H Q=>Q true H):=fun Z Z Z H Z I q=>wpAny_tests_nil ⟨H,I,q⟩
theorem Ow{X:Cx}{c:Expr}{t:TT}(h:PT X c t):eJ X [c] t:=fun pins s σ H Q I q=>wpAny_tests_one (h pins s σ H Q I q)
def jV(wi:TI)(g:TG)(tc:TT)(te:TE)(cap:List (Option Nat)):TE:=fun σ H Q=>wi σ H fun J H1=>∀D,H1 D=none->∃W:Nat->Nat->St->List V->Hp->Prop,
 (∃m,W 0 m (HG σ cap) [] (PB H1 D (.lst [])))/\∀i m σ' ys H',W i m σ' ys H'->
  (J.stop i H'/\Q (.ref D) H')\/(J.go i H'/\∀x H2,J.yld i H' x H2->g x σ' H2 fun σ2 H3=>tc σ2 H3 fun b H4=>if b=true then te σ2 H4 fun y H5=>
   H5 D=some (.lst ys)/\ys.length<sizeLine/\∃m',m'<m/\W (i+1) m' σ2 (ys++[y]) (PB H5 D (.lst (ys++[y])))else ∃m',m'<m/\W (i+1) m' σ2 ys H4)
section
variable{prog:Program}{w:World}{A:Around}{R:Result->Shared->Prop}{s:Shared}
theorem R9{elt target iter:Expr}{ifs:List Expr}{scope:Scope}{pos:Pos}{it acc:Value}{env:Env}(I:Nat->Shared->Prop)
 (turn:∀n s,I n s->wpAny (model prog w) A (pyNext it) (fun r s₁=>match r with
  | none=>R (.ok .next) s₁
  | some v=>wpAny (model prog w) A (letOwnedTupleGo target it v) (fun Z s₁'=>wpAny (model prog w) A (assign target env v) (fun Z s₂=>
   wpAny (model prog w) A (forIn ifs true fun c r=>if r=true then do let ok <- isTrue c env (eval c env);pure (ForInStep.yield ok)else pure (ForInStep.yield r)) (fun ok s₃=>
    if ok=true then wpAny (model prog w) A (eval elt env) (fun x s₄=>
     wpAny (model prog w) A (call (.builtin "list.append") [acc,x]) (fun Z s₅=>∃m,m<n/\I m s₅) (fun Z Z=>False) s₄) (fun Z Z=>False) s₃
    else ∃m,m<n/\I m s₃) (fun Z Z=>False) s₂) (fun Z Z=>False) s₁') (fun Z Z=>False) s₁) (fun Z Z=>False) s)
 (n:Nat) (h:I n s):codeAny (model prog w) A (.compLoop (.ListComp elt [⟨target,iter,ifs,0⟩] scope pos) 0 it acc env) R s:=by
 refine codeAny_loop rfl I (fun n s hI=>?_) n h;show wpAny _ A ((compTurn (.ListComp elt [⟨target,iter,ifs,0⟩] scope pos) 0 it acc env).onRaise (fun x=>do noteFrame x env;theTreesLotGoes x)) _ _ s;refine wpAny_noted ?_;rw[compTurn_list];refine wpAny_bind (wpAny_standAt (wpAny_bind (wpAny_mono (turn n s hI) (fun r s₁ h₁=>?_) fun Z Z h'=>h'.elim)));cases r with
 | none=>exact wpAny_pure h₁
 | some v=>
  refine wpAny_bind (wpAny_mono h₁ (fun Z s₁' h₁'=>?_) fun Z Z h'=>h'.elim);refine wpAny_bind (wpAny_mono h₁' (fun Z s₂ h₂=>wpAny_bind (wpAny_mono h₂ (fun ok s₃ h₃=>?_) fun Z Z h'=>h'.elim)) fun Z Z h'=>h'.elim);cases ok with
  | false=>exact wpAny_pure ⟨rfl,h₃⟩
  | true=>exact wpAny_bind (wpAny_bind (wpAny_mono h₃ (fun x s₄ h₄=>wpAny_bind (wpAny_mono h₄ (fun Z s₅ h₅=>wpAny_pure (wpAny_pure ⟨rfl,h₅⟩)) fun Z Z h'=>h'.elim)) fun Z Z h'=>h'.elim))
end
section
variable{X:Cx}{elt iter tg:Expr}{ifs:List Expr}{scope:Scope}{cl:List (Str×Addr)}{pos:Pos}{Nc:List Str}{wi:TI}{g:TG}{tc:TT}{te:TE}{cap:List (Option Nat)}
theorem MW{pins:List (Addr×Obj)}{σ:St}{H:Hp}{s:Shared}{it:Addr}{fp:List Addr}{tn:Nat->Heap->Prop}{J:It}{Q:VK}{RR:Value->Addr->Result->Shared->Prop}{E:Value->Shared->Prop}
 (hc:X.calm=true) (hcl:WE X.env.cells scope.names []=some cl) (hcell:∀y∈scope.names,y.2≠.cell) (hkind:scope.kind=.function) (hcap:Vl X scope cl Nc cap)
 (hg:∀C s0 H0 fp,PG (sC X Nc scope cl C s0 H0 fp) tg g) (ht:∀C s0 H0 fp,eJ (sC X Nc scope cl C s0 H0 fp) ifs tc) (he:∀C s0 H0 fp,PE (sC X Nc scope cl C s0 H0 fp) elt te)
 (I:Inv X pins σ H s) (T:jI X.prog X.w X.K tg J fp it tn) (st:tn 0 s.heap) (hf:∀b∈fp,vF X pins H b)
 (read:∀D,H D=none->∃W:Nat->Nat->St->List V->Hp->Prop,
  (∃m,W 0 m (HG σ cap) [] (PB H D (.lst [])))/\∀i m σ' ys H',W i m σ' ys H'->
   (J.stop i H'/\Q (.ref D) H')\/(J.go i H'/\∀x H2,J.yld i H' x H2->g x σ' H2 fun σ2 H3=>tc σ2 H3 fun b H4=>if b=true then te σ2 H4 fun y H5=>
    H5 D=some (.lst ys)/\ys.length<sizeLine/\∃m',m'<m/\W (i+1) m' σ2 (ys++[y]) (PB H5 D (.lst (ys++[y])))else ∃m',m'<m/\W (i+1) m' σ2 ys H4))
 (hRR:∀(C D:Addr)(s':Shared)(H':Hp) m,Inv X pins σ H' s'->s'.heap.Ns C m->H' C=none->C≠X.env.locals->X.s₀.heap.objs.size<=C->(∀x c,X.env.cells.lookup x=some c->c≠C)->(∀p∈X.pn++pins,p.1≠C)->Q (.ref D) H'->RR (.ref D) C (.ok .next) s') :
 wpAny (model X.prog X.w) X.A (newList []) (fun acc s₃=>wpAny (model X.prog X.w) X.A (newFunctionEnv scope X.env.globals cl [] X.env.qual none .none (some X.env)) (fun cenv s₄=>
  codeAny (model X.prog X.w) X.A (.compStart (.ListComp elt [⟨tg,iter,ifs,0⟩] scope pos) 0 (.ref it) acc { cenv with scope:=relabel scope X.env }) (RR acc cenv.locals) s₄) E s₃) E s:=by
 obtain⟨sub,Z,zdX⟩:=uS hcl (fun Z Z e=>by simp at e);refine wpAny_newObj_type (wpAny_newFunctionEnv hcell (by intro y hy;simp at hy) (fun h₁ hns₁ hsb₁=>?_) hkind);have hD:=I.fresh;have I3:Inv X pins σ (PB H s.heap.objs.size (.lst [])) { s with heap:=s.heap.push { cls:=.type "list",data:=.seq ([]:List Value).toArray } }:=I.zbZ (ys:=[]) (its:=[]) (t':=s.toks) .nil (zxB _);generalize hs3:({ s with heap:=s.heap.push { cls:=.type "list",data:=.seq ([]:List Value).toArray } }:Shared)=s3 at I3;generalize hH3:PB H s.heap.objs.size (.lst [])=H3 at I3;have hh3:s3.heap=s.heap.push { cls:=.type "list",dict:=none,data:=.seq ([]:List Value).toArray }:=by rw[<- hs3]
 dsimp only at hns₁ hsb₁ ⊢;rw[<- hh3]at hns₁ hsb₁;have hCn:H3 s3.heap.objs.size=none:=I3.fresh;have hCL:s3.heap.objs.size≠X.env.locals:=fun z=>by have:=I3.lt;rw[<- z]at this;exact Nat.lt_irrefl _ this
 have hC0:X.s₀.heap.objs.size<=s3.heap.objs.size:=I3.sz;have zbR:∀x c,X.env.cells.lookup x=some c->c<s3.heap.objs.size:=fun x c e=>by obtain⟨v,o,ho,Z⟩:=I3.cell x c e;exact Heap.lt_size ho
 have hCc:∀x c,X.env.cells.lookup x=some c->c≠s3.heap.objs.size:=fun x c e z=>by have:=zbR x c e;rw[z]at this;exact Nat.lt_irrefl _ this
 have hCp:∀p∈X.pn++pins,p.1≠s3.heap.objs.size:=fun p hp z=>by have:=Heap.lt_size (I3.pin p hp).1;rw[z]at this;exact Nat.lt_irrefl _ this
 have zci:∀b∈fp,b<s.heap.objs.size:=fun b hb=>by obtain⟨o,e,Z⟩:=T.obj 0 _ st b hb;exact Heap.lt_size e
 have B3:s3.heap.objs.size=s.heap.objs.size+1:=by rw[hh3,Heap.size_push]
 have old:∀b o,s3.heap.get? b=some o->h₁.get? b=some o:=fun b o e=>hsb₁.extBut b o (zxD (Heap.lt_size e)) (Heap.get?_push_of_some _ e)
 have zd6:∀b o,s.heap.get? b=some o->s3.heap.get? b=some o:=fun b o e=>by rw[hh3];exact Heap.get?_push_of_some _ e
 have fpH:∀b∈fp,H3 b=none:=fun b hb=>by rw[<- hH3,ZA (zxD (zci b hb))];exact(hf b hb).1
 have okY:(sC X Nc scope cl s3.heap.objs.size s3 H3 fp).Ok:=by
  refine⟨I3.ok.mod,hkind,I3.ok.glob,I3.ok.blt,zfU _,fun x y c e1 e2=>I3.ok.inj x y c (sub x c e1) (sub y c e2),fun x hx=>?_,fun x c e Z=>absurd e zfT,I3.ok.hd,I3.ok.frames,.inl rfl,fun b hb=>⟨?_,fun x c e=>?_⟩,fun b o e=>I3.bs b o e,?_,fun b o e=>?_,fun b hb=>?_,I3.stack,I3.za0⟩
  · exact zdX x (IW hcell hx)
  · intro z;have:=zci b hb;have z':b=s3.heap.objs.size:=z;rw[z',B3]at this;exact absurd this (Nat.not_lt.mpr (Nat.le_succ _))
  · exact(hf b hb).2.2.2.2.1 x c (sub x c e)
  · exact zxA I3.ok.bsz I3.sz
  · intro hb;have h1:=(hf b hb).2.2.2.1;have h2:=I3.ok.bs b o e;rcases h1 with z | z
    · exact I3.ok.zbp b o e z
    · exact absurd (zxC (Heap.lt_size h2.1) z) (Nat.lt_irrefl _)
  · intro z;rcases mem_cons.mp (I3.zaU b z)with z | z
    · exact(hf b hb).2.1 z
    · exact(hf b hb).2.2.1 z
 have IY:Inv (sC X Nc scope cl s3.heap.objs.size s3 H3 fp) [] (HG σ cap) H3 { s3 with heap:=h₁,toks:=s3.toks+([]:List (Str×Value)).length }:=by
  refine⟨okY,rfl,I3.bare,Un.kept old,⟨_,hns₁,fun i x v e1 e2 Z=>?_⟩,fun x c e=>?_,hCn,fun x c e=>I3.zab x c (sub x c e),fun p hp=>absurd hp (by simp[sC]),I3.hok.kept old,?_⟩
  · have e2':(HG σ cap)[i]?=some (some v):=e2;unfold HG at e2';rw[getElem?_map]at e2';cases q:cap[i]? with
    | none=>rw[q]at e2';cases e2'
    | some o=>
     rw[q]at e2';cases o with
     | none=>cases e2'
     | some j=>
      have e3:(σ[j]?).join=some v:=by simpa using e2'
      have e4:σ[j]?=some (some v):=by
       cases z:σ[j]? with
       | none=>rw[z]at e3;cases e3
       | some y=>rw[z]at e3;simpa using e3
      obtain⟨n1,n2,n3,n4⟩:=hcap.get e1 q;obtain⟨m,Z,hl⟩:=I3.loc;have hv:P2 X.env.scope x:=.inr n2;obtain⟨u,r,lk⟩:=hl j x v n1 e4 hv;refine⟨u,r,.inr ⟨n3,?_⟩⟩;rcases lk with⟨k,_⟩ | ⟨_,c,ec,ob,z1,z2⟩
      · rcases n2 with n2 | n2<;>rw[k]at n2<;>cases n2
      · exact⟨c,n4.trans ec,ob,old c ob z1,z2⟩
  · obtain⟨v,o,z1,z2⟩:=I3.cell x c (sub x c e);exact⟨v,o,old c o z1,z2⟩
  · show(HG σ cap).length=Nc.length;unfold HG;rw[length_map];exact hcap.length
 obtain⟨W,⟨m0,w0⟩,turn⟩:=read s.heap.objs.size hD;rw[hH3]at w0;have st1:tn 0 h₁:=T.keep 0 _ _ st fun b Z o e=>old b o (zd6 b o e)
 have fpY:∀{H':Hp},(∀b∈fp,H' b=none)->∀b∈fp,vF (sC X Nc scope cl s3.heap.objs.size s3 H3 fp) [] H' b:=fun hn b hb=>⟨hn b hb,(okY.exf b hb).1,okY.zbk b hb,.inl hb,fun x c e=>(okY.exf b hb).2 x c e,fun p hp=>absurd hp (by simp[sC])⟩
 have loop:codeAny (model X.prog X.w) X.A (.compLoop (.ListComp elt [⟨tg,iter,ifs,0⟩] scope pos) 0 (.ref it) (.ref s.heap.objs.size) (compEnvC scope cl s3.heap.objs.size X.env)) (RR (.ref s.heap.objs.size) s3.heap.objs.size)
  { s3 with heap:=h₁,toks:=s3.toks+([]:List (Str×Value)).length }:=by
  refine R9 (fun n s'=>∃i σ' ys H',Inv (sC X Nc scope cl s3.heap.objs.size s3 H3 fp) [] σ' H' s'/\tn i s'.heap/\(∀b∈fp,H' b=none)/\W i n σ' ys H') ?_ m0 ⟨0,_,[],H3,IY,st1,fpH,w0⟩;rintro n s4 ⟨i,σ4,ys,H4,I4,st4,fr4,w4⟩;rcases turn i n σ4 ys H4 w4 with⟨stop,qn⟩ | ⟨go,step⟩
  · refine HB (T.done (sC X Nc scope cl s3.heap.objs.size s3 H3 fp) rfl rfl rfl hc i [] s4 σ4 H4 _ I4 (fpY fr4) st4 stop) fun r s5 zz=>?_
    obtain⟨hr,I5⟩:=zz;subst hr;have I6:Inv X pins σ H4 s5:=I3.call' (ch:=fp) I5.os I5.base I5.hok I5.bare fun b hb=>⟨(hf b hb).2.2.2.1,(hf b hb).2.1,(hf b hb).2.2.2.2.1,(hf b hb).2.2.2.2.2⟩
    obtain⟨m,hn,Z⟩:=I5.loc;exact hRR _ _ s5 H4 m I6 hn I5.free hCL hC0 hCc hCp qn
  · refine HB (T.item (sC X Nc scope cl s3.heap.objs.size s3 H3 fp) rfl rfl rfl hc i [] s4 σ4 H4 _ I4 (fpY fr4) st4 go) fun r s5 zz=>?_
    obtain⟨u,hr,h5⟩:=zz;subst hr;refine HB h5 fun Z s6 zz=>?_
    obtain⟨x,H6,I6,r6,y6,st6,fr6⟩:=zz;have I6':=I6.pinned (fpY fr6) (T.obj _ _ st6);refine HB (hg _ _ _ _ _ s6 σ4 H6 x u _ I6' r6 (step x H6 y6)) fun Z s7 zz=>?_
    obtain⟨σ7,H7,I7,q7⟩:=zz;refine HB (ht _ _ _ _ _ s7 σ7 H7 _ I7 q7) fun b s8 zz=>?_
    obtain⟨H8,I8,q8⟩:=zz;have again:∀{σ9:St}{H9:Hp}{s9:Shared}{ys9:List V},Inv (sC X Nc scope cl s3.heap.objs.size s3 H3 fp) ([]++RL fp s6.heap) σ9 H9 s9->(∃m',m'<n/\W (i+1) m' σ9 ys9 H9)->
     ∃m',m'<n/\∃i σ' ys H',Inv (sC X Nc scope cl s3.heap.objs.size s3 H3 fp) [] σ' H' s9/\tn i s9.heap/\(∀b∈fp,H' b=none)/\W i m' σ' ys H':=fun {σ9 H9 s9 ys9} I9 ⟨m',hm,w9⟩=>by
     refine⟨m',hm,i+1,σ9,ys9,H9,I9.zaj,T.keep _ _ _ st6 fun b hb o e=>(I9.pin (b,o) (mem_append_right _ (mem_append_right _ (MN hb e)))).1,fun b hb=>?_,w9⟩;obtain⟨o,e,d⟩:=T.obj _ _ st6 b hb;exact(I9.pin (b,o) (mem_append_right _ (mem_append_right _ (MN hb e)))).2.1
    cases b with
    | false=>rw[if_neg zfT]at q8 ⊢;exact again I8 q8
    | true=>
     rw[if_pos rfl]at q8 ⊢;refine HB (he _ _ _ _ _ s8 σ7 H8 _ I8 q8) fun y s9 zz=>?_
     obtain⟨v,H9,I9,r9,d9,z9,w9⟩:=zz;refine HB (kX (X:=sC X Nc scope cl s3.heap.objs.size s3 H3 fp) _ s9 σ7 H9 (.ref s.heap.objs.size) [v] (.ref s.heap.objs.size) [y] (fun Z H'=>H'=PB H9 s.heap.objs.size (.lst (ys++[v]))) I9 rfl (.cons r9 .nil) ⟨_,ys,v,rfl,rfl,d9,z9,rfl⟩) fun Z s10 zz=>?_
     obtain⟨Z,H10,I10,Z,e10⟩:=zz;subst e10;exact again I10 w9
 exact codeAny_compStart_list loop (T.self X.A 0 _ _ _ st1 loop)
theorem yZ(hc:X.calm=true)(hi:PI X tg iter wi)(hcl:WE X.env.cells scope.names []=some cl)(hcell:∀y∈scope.names,y.2≠.cell)(hkind:scope.kind=.function)
 (hnames:∀y∈scope.names,y.2=.local->scope.names.lookup y.1=some .local) (hcap:Vl X scope cl Nc cap)
 (hg:∀C s0 H0 fp,PG (sC X Nc scope cl C s0 H0 fp) tg g) (ht:∀C s0 H0 fp,eJ (sC X Nc scope cl C s0 H0 fp) ifs tc) (he:∀C s0 H0 fp,PE (sC X Nc scope cl C s0 H0 fp) elt te)
 (hs:autoParam (∀x,foldedSetIterable iter X.env x=pure x) zqP._auto_1):PE X (.ListComp elt [⟨tg,iter,ifs,0⟩] scope pos) (jV wi g tc te cap):=by
 intro pins s σ H Q I h;rw[eval_ListComp];refine wpAny_comprehension_free (use:=none) rfl hs (LW hcl) hkind hnames (HB (hi pins s σ H _ I h) fun v s1 h1=>HB h1 fun itv s2 h2=>?_);obtain⟨it,fp,tn,J,H2,e,I2,T,st2,f2,read⟩:=h2;subst e;refine MW hc hcl hcell hkind hcap hg ht he I2 T st2 f2 read fun C D s' H' m I' hn n1 n2 n3 n4 n5 q=>?_
 refine⟨m,hn,fun h' hs'=>⟨.ref D,H',?_,rfl,q⟩⟩;exact I'.turned (t':=s'.toks) (fun b o hb e=>hs'.extBut b o hb e) n1 n2 (.inr n3) n4 n5
theorem UW{i:Nat}{y:Str}{py spos:Pos}(hc:X.calm=true)(hN:X.N.Nodup)(hiN:X.N[i]?=some y)(hy:X.env.scope.names.lookup y=some .local)(hi:PI X tg iter wi)(hcl:WE X.env.cells scope.names []=some cl)(hcell:∀y∈scope.names,y.2≠.cell)(hkind:scope.kind=.function)
 (hnames:∀y∈scope.names,y.2=.local->scope.names.lookup y.1=some .local) (hcap:Vl X scope cl Nc cap)
 (hg:∀C s0 H0 fp,PG (sC X Nc scope cl C s0 H0 fp) tg g) (ht:∀C s0 H0 fp,eJ (sC X Nc scope cl C s0 H0 fp) ifs tc) (he:∀C s0 H0 fp,PE (sC X Nc scope cl C s0 H0 fp) elt te)
 (hsw:swapsWith (.ListComp elt [⟨tg,iter,ifs,0⟩] scope pos) (some (.Name y py)) spos.line X.env=pure true)
 (hs:autoParam (∀x,foldedSetIterable iter X.env x=pure x) zqP._auto_1):PS X (.Assign [.Name y py] (.ListComp elt [⟨tg,iter,ifs,0⟩] scope pos) spos) (jQ (jV wi g tc te cap) (oP i)):=by
 intro pins s σ H D I h;rw[exec_Assign_Name_used _ _ _ _ hsw];refine wpAny_bind (wpAny_standAt (wpAny_bind ?_));show wpAny _ X.A (do let _ <- comprehension (.ListComp elt [⟨tg,iter,ifs,0⟩] scope pos) scope X.env _ (newList []) false (eval iter X.env) (some (assign (.Name y py) X.env))) _ _ s;refine wpAny_bind (wpAny_mono (wpAny_comprehension_free (use:=some (assign (.Name y py) X.env)) (Q:=fun Z s'=>SP X pins D .next s') rfl hs (LW hcl) hkind hnames
  (HB (hi pins s σ H _ I h) fun v s1 h1=>HB h1 fun itv s2 h2=>?_)) (fun Z s' hq=>wpAny_pure (wpAny_pure hq)) fun Z Z e=>e)
 obtain⟨it,fp,tn,J,H2,e,I2,T,st2,f2,read⟩:=h2;subst e;refine MW (Q:=fun x H1=>oP i x σ H1 D.nx) hc hcl hcell hkind hcap hg ht he I2 T st2 f2 read fun C Dd s' H' m I' hn n1 n2 n3 n4 n5 q=>?_
 show wpAny _ X.A (assign (.Name y py) X.env (.ref Dd)) _ _ _;refine wpAny_assign_Name (TX I' hN hiN (.inl hy) (v:=.ref Dd) rfl (fun s4 I4 zz=>?_) (.inr hy));obtain⟨a,sb,ha⟩:=zz;have hCa:C≠a:=by
  rcases ha with ha | ha
  · rw[ha];exact n2
  · exact fun z=>n4 _ _ ha z.symm
 refine⟨m,hn.sameBut sb hCa,fun h' hs'=>⟨_,H',?_,q⟩⟩;exact I4.turned (t':=s4.toks) (fun b o hb e=>hs'.extBut b o hb e) n1 n2 (.inr n3) n4 n5
end
end L2
namespace SM
def tE(bd:RG)(tc:RT)(te:RE)(s:Src):Nat->Nat->LI->HI->List Dt->Option (List Dt×HI)
 | 0,_,_,_,_=>none
 | k+1,i,l,h,ys=>match s.at h i with
  | none=>none
  | some none=>some (ys,h)
  | some (some d)=>(bd d l).bind fun l1=>(tc l1 h).bind fun b=>if b.1=true then(te l1 b.2).bind fun r=>if ys.length<sizeLine then tE bd tc te s k (i+1) l1 r.2 (ys++[r.1])else none
   else tE bd tc te s k (i+1) l1 b.2 ys
noncomputable def wF(l:LI)(cap:List (Option Nat)):LI:=cap.map fun o=>match o with | some j=>(l[j]?).join | none=>none
def TD(g:RI)(bd:RG)(tc:RT)(te:RE)(cap:List (Option Nat)):RE:=fun l h=>(g l h).bind fun r=>(tE bd tc te r.1 (r.1.fuel r.2) 0 (wF l cap) r.2 []).bind fun q=>some (.lst q.1,q.2)
def pH(g:RI)(bd:RG)(tc:RT)(te:RE)(cap:List (Option Nat)):RE:=fun l h=>(g l h).bind fun r=>(tE bd tc te r.1 (r.1.fuel r.2) 0 (wF l cap) r.2 []).bind fun q=>some (.ref q.2.length,q.2++[.lst q.1])
noncomputable def VB:RT:=fun Z h=>some (true,h)
theorem Ry{K:Frag}{H:Hp}{ρ:Rg}{l:LI}{σ:L2.St}(L:Jl K H ρ l σ)(cap:List (Option Nat)):Jl K H ρ (wF l cap) (HG σ cap):=by
 refine⟨by simp[wF,HG],fun i d e=>?_⟩;unfold wF at e;unfold HG;rw[getElem?_map]at e ⊢;cases q:cap[i]? with
 | none=>rw[q]at e;cases e
 | some o=>
  rw[q]at e;cases o with
  | none=>cases e
  | some j=>
   have e3:(l[j]?).join=some d:=by simpa using e
   have e4:l[j]?=some (some d):=by
    cases z:l[j]? with
    | none=>rw[z]at e3;cases e3
    | some y=>rw[z]at e3;simpa using e3
   obtain⟨v,g1,g2⟩:=L.val j d e4;refine⟨v,?_,g2⟩;simp[g1]
section
variable{X:Cx}{elt iter tg:Expr}{ifs:List Expr}{scope:Scope}{cl:List (Str×Addr)}{pos:Pos}{Nc:List Str}{g:RI}{bd:RG}{tc:RT}{te:RE}{cap:List (Option Nat)}
@[irreducible] def CM(X:Cx)(ifs:List Expr)(f:RT):Prop:=eJ X ifs (GP X.K f)
theorem YE:CM X [] VB:=by with_unfolding_all exact fun pins s σ H Q I q=>by obtain⟨ρ,l,h,b,h',S,L,e,k⟩:=q;cases e;exact Mw pins s σ H Q I (k ρ H S (Ext.refl _ _))
theorem JO{c:Expr}{f:RT}(h:TM X c f):CM X [c] f:=by with_unfolding_all exact Ow h
end
section
variable{K:Frag}{H:Hp}{ρ:Rg}{p:Addr}{o:HO}{h:HI}
theorem Ot{a:Addr}{u:HO}(hp:H p=none)(e:H a=some u)(n:ρ.no a):(ρ.hide p).no a:=
 ⟨n.1,fun z=>by
  rcases mem_cons.mp z with z | z
  · rw[z,hp]at e;cases e
  · exact n.2 z⟩
theorem Ext.zbt{τ:Rg}{H':Hp}(x:Ext (ρ.hide p) τ H H'):∃ρ',τ=ρ'.hide p/\Ext ρ ρ' H H':=by
 refine⟨⟨τ.v,ρ.z⟩,?_,⟨x.pre,rfl,x.keep,x.live,x.fz⟩⟩;have e:=x.hid;cases τ with
 | mk v z=>have e':z=p::ρ.z:=e;subst e';rfl
theorem Ext.zb6{ρ':Rg}{H':Hp}(x:Ext ρ ρ' H H')(hp:H p=none):Ext ρ ρ' H (PB H' p o):=
 ⟨x.pre,x.hid,fun a u e n=>by rw[ZA (wD e hp)];exact x.keep a u e n,fun a e=>by
  by_cases ha:a=p
  · rw[ha];exact hp
  · rw[ZA ha]at e;exact x.live a e,fun a q u e=>by rw[ZA (wD e hp)];exact x.fz a q u e⟩
theorem zaq.same{ρ':Rg}{H':Hp}{a:Addr}{u:Ob}(x:Ol ρ ρ' H H')(e:H' a=H a)(q:zaq K H ρ a u):zaq K H' ρ' a u:=by
 cases u with
 | lst xs=>obtain⟨vs,h1,h2⟩:=q;exact⟨vs,e.trans h1,qm.same x _ h2⟩
 | ins y fs=>obtain⟨C,dx,vs,h0,h1,h2,h3⟩:=q;exact⟨C,dx,vs,h0,e.trans h1,h2,qm.same x _ h3⟩
 | dk kvs=>obtain⟨vs,h1,h2,h3⟩:=q;exact⟨vs,e.trans h1,h2,qm.same x _ h3⟩
 | dt kvs=>obtain⟨vs,h1,h2,h3⟩:=q;exact⟨vs,e.trans h1,h2,qm.same x _ h3⟩
 | df kvs=>obtain⟨o,vs,h1,h2,h3⟩:=q;exact⟨o,vs,e.trans h1,h2,qm.same x _ h3⟩
theorem Jl.same{ρ':Rg}{H':Hp}{l:LI}{σ:L2.St}(x:Ol ρ ρ' H H')(L:Jl K H ρ l σ):Jl K H' ρ' l σ:=
 ⟨L.len,fun i d e=>let ⟨v,e1,r⟩:=L.val i d e;⟨v,e1,zm.same x d r⟩⟩
theorem MX(hp:H p=none):Ol ρ (ρ.hide p) H (PB H p o):=
 ⟨fun Z Z e n=>Ot hp e n,fun a u e Z=>by rw[ZA (wD e hp)];exact e,fun Z Z e=>e,fun a q u e=>by rw[ZA (wD e hp)];exact e⟩
theorem FS{o:HO}(nf:zV H p):Ol (ρ.hide p) (ρ.hide p) H (PB H p o):=
 ⟨fun Z Z Z n=>n,fun a u e n=>by rw[ZA (fun z=>n.2 (by rw[z];exact mem_cons_self))];exact e,fun Z Z e=>e,fun a q u e=>by rw[ZA (fun z:a=p=>nf q u (by rw[<- z];exact e))];exact e⟩
theorem NX:Ol (ρ.hide p) ρ H H:=⟨fun Z Z Z n=>⟨n.1,fun z=>n.2 (mem_cons_of_mem _ z)⟩,fun Z Z e Z=>e,fun Z Z e=>e,fun Z Z Z e=>e⟩
theorem SY:Ol (ρ.hide p) (ρ.add p) H H:=
 ⟨fun a Z Z n=>⟨fun z=>(mem_append.mp z).elim n.1 fun z=>n.2 (by rw[mem_singleton.mp z];exact mem_cons_self),fun z=>n.2 (mem_cons_of_mem _ z)⟩,fun Z Z e Z=>e,fun n a e=>by
  have e':ρ.v[n]?=some a:=e;have:=(zfR e').1;show(ρ.v++[p])[n]?=some a;rw[zfS this];exact e',fun Z Z Z e=>e⟩
theorem Dm.hide{xs:List V}(S:Dm K ρ h H)(hp:H p=none):Dm K (ρ.hide p) h (PB H p (.lst xs)):=
 ⟨S.nd,S.len,fun n a u e1 e2=>(S.ob n a u e1 e2).same (MX hp) (ZA (fun z=>(S.out hp).1 (z ▸ mem_of_getElem? e1))),fun a ha=>by
  rcases mem_cons.mp ha with z | z
  · rw[z];exact⟨(S.out hp).1,xs,jD⟩
  · obtain⟨m,u,e⟩:=S.zt a z;exact⟨m,u,by rw[ZA (wD e hp)];exact e⟩⟩
theorem Dm.zbW{xs:List V}(S:Dm K (ρ.hide p) h H):Dm K (ρ.hide p) h (PB H p (.lst xs)):=
 ⟨S.nd,S.len,fun n a u e1 e2=>(S.ob n a u e1 e2).same (FS (FH (S.zt p mem_cons_self).2.choose_spec)) (ZA (fun z=>(S.zt p mem_cons_self).1 (z ▸ mem_of_getElem? e1))),fun a ha=>by
  obtain⟨m,u,e⟩:=S.zt a ha;by_cases hap:a=p
  · subst hap;exact⟨m,xs,jD⟩
  · exact⟨m,u,by rw[ZA hap];exact e⟩⟩
theorem Dm.show(S:Dm K (ρ.hide p) h H):Dm K ρ h H:=
 ⟨S.nd,S.len,fun n a u e1 e2=>(S.ob n a u e1 e2).same NX rfl,fun a ha=>S.zt a (mem_cons_of_mem _ ha)⟩
theorem Dm.zbr(S:Dm K (ρ.hide p) h H)(hz:p∉ρ.z){ds:List Dt}{vs:List V}(e:H p=some (.lst vs))(R:qm K H (ρ.hide p) ds vs):Dm K (ρ.add p) (h++[.lst ds]) H:=by
 have nv:=(S.zt p mem_cons_self).1;refine⟨?_,by simp only[Rg.add];rw[length_append,length_append,<- S.len];rfl,fun n a ob e1 e2=>?_,fun a ha=>?_⟩
 · simp only[Rg.add];rw[nodup_append];refine⟨S.nd,nodup_cons.mpr ⟨by simp,nodup_nil⟩,fun a ha b hb=>?_⟩;rw[mem_singleton.mp hb];intro z;exact nv (z ▸ ha)
 · simp only[Rg.add]at e1;have hl:ρ.v.length=h.length:=S.len;by_cases hn:n<h.length
   · rw[zfS hn]at e2;rw[zfS (by rw[hl];exact hn)]at e1;exact(S.ob n a ob e1 e2).same SY rfl
   · have hn':h.length<=n:=Nat.not_lt.mp hn;rw[zfV hn']at e2;rw[zfV (by rw[hl];exact hn'),hl]at e1;cases hk:n-h.length with
     | zero=>rw[hk]at e1 e2;simp at e1 e2;subst e1 e2;exact⟨vs,e,qm.same SY _ R⟩
     | succ k=>rw[hk]at e2;simp at e2
 · obtain⟨n,u,e'⟩:=S.zt a (mem_cons_of_mem _ ha);refine⟨fun hm=>?_,u,e'⟩;rcases mem_append.mp hm with hm | hm
   · exact n hm
   · exact hz ((mem_singleton.mp hm) ▸ ha)
end
section
variable{X:Cx}{elt iter tg:Expr}{ifs:List Expr}{scope:Scope}{cl:List (Str×Addr)}{pos:Pos}{Nc:List Str}{g:RI}{bd:RG}{tc:RT}{te:RE}{cap:List (Option Nat)}
theorem aO{σ:L2.St}{H:Hp}{Q:VK}(own:Bool){d:Dt}{h':HI}{ρ:Rg}{l:LI}{h:HI}(S:Dm X.K ρ h H)(L:Jl X.K H ρ l σ)
 (e:(if own=true then pH g bd tc te cap else TD g bd tc te cap) l h=some (d,h')) (k:Out X.K ρ H d h' Q):jV (iM X.K g) (gM X.K bd) (GP X.K tc) (tM X.K te) cap σ H Q:=by
 have e0:∃s1 h1,g l h=some (s1,h1)/\∃ys h2,tE bd tc te s1 (s1.fuel h1) 0 (wF l cap) h1 []=some (ys,h2)/\h'=(if own=true then h2++[.lst ys]else h2)/\d=(if own=true then .ref h2.length else .lst ys):=by
  cases own with
  | true=>rw[if_pos rfl]at e;obtain⟨⟨s1,h1⟩,e1,e⟩:=vA e;obtain⟨⟨ys,h2⟩,e2,e⟩:=vA e;cases e;exact⟨s1,h1,e1,ys,h2,e2,rfl,rfl⟩
  | false=>rw[if_neg zfT]at e;obtain⟨⟨s1,h1⟩,e1,e⟩:=vA e;obtain⟨⟨ys,h2⟩,e2,e⟩:=vA e;cases e;exact⟨s1,h1,e1,ys,h2,e2,rfl,rfl⟩
 obtain⟨s1,h1,e1,zs,h2,e2,eh,ed⟩:=e0;refine⟨ρ,l,h,s1,h1,S,L,e1,fun ρ1 J H1 ok S1 E1 D hD=>?_⟩;have hDz:D∉ρ1.z:=(S1.out hD).2;refine⟨fun i m σ' ys H'=>∃ρ' l' h' ds,Dm X.K (ρ'.hide D) h' H'/\Jl X.K H' (ρ'.hide D) l' σ'/\Ext ρ1 ρ' H1 H'/\H' D=some (.lst ys)/\qm X.K H' (ρ'.hide D) ds ys/\tE bd tc te s1 m i l' h' ds=some (zs,h2),?_,?_⟩
 · exact⟨_,ρ1,_,h1,[],S1.hide hD,Ry (Jl.same (MX hD) (L.ext E1)) cap,Ext.fresh hD,jD,.nil,e2⟩
 · rintro i m σ' ys H' ⟨ρ',l',h3,ds,S',L',E',hD',R',e'⟩;cases m with
   | zero=>simp only[tE]at e';cases e'
   | succ m=>
    simp only[tE]at e';have sm:Ol ρ1 (ρ'.hide D) H1 H':=⟨fun a u z n=>⟨(E'.zbq z n).1,fun w=>by
     rcases mem_cons.mp w with w | w
     · rw[w,hD]at z;cases z
     · exact(E'.zbq z n).2 w⟩,fun a u z n=>E'.keep a u z n.1,fun n a z=>E'.get z,E'.fz⟩
    have ok':=ok H' (ρ'.hide D) h3 sm S' i;cases q:s1.at h3 i with
    | none=>rw[q]at e';cases e'
    | some o=>
     rw[q]at e' ok';cases o with
     | none=>
      cases e';refine .inl ⟨ok',?_⟩;have nD:ρ'.no D:=⟨(S'.zt D mem_cons_self).1,by rw[E'.hid];exact hDz⟩;cases own with
      | false=>rw[if_neg zfT]at eh ed;subst eh ed;exact k ρ' _ H' (Cm.mpr ⟨D,ys,rfl,.inl ⟨nD,.inl hD'⟩,qm.same NX _ R'⟩) S'.show (E1.trans E')
      | true=>
       rw[if_pos rfl]at eh ed;subst eh ed;refine k (ρ'.add D) _ H' (Im.mpr ⟨D,rfl,?_⟩) (S'.zbr nD.2 hD' R') (E1.trans ⟨?_,E'.hid,E'.keep,E'.live,E'.fz⟩)
       · have hl:ρ'.v.length=h2.length:=S'.len;show(ρ'.v++[D])[h2.length]?=some D;rw[<- hl,zfV (zfU _),Nat.sub_self];rfl
       · obtain⟨x,q1,q2⟩:=E'.pre;refine⟨x++[D],by show ρ'.v++[D]=_;rw[q1,append_assoc],fun a ha=>?_⟩;rcases mem_append.mp ha with ha | ha
         · exact q2 a ha
         · rw[mem_singleton.mp ha];exact hD
     | some d0=>
      dsimp only at e';obtain⟨l1,b1,e'⟩:=vA e';obtain⟨⟨b,h4⟩,b2,e'⟩:=vA e';refine .inr ⟨ok'.1,fun v H3 y=>?_⟩;obtain⟨R3,E3,S3⟩:=ok'.2 v H3 y;have nDv:=(S'.zt D mem_cons_self).1;refine⟨ρ'.hide D,l',h3,d0,l1,S3,L'.ext E3,R3,b1,fun σ4 L4=>⟨ρ'.hide D,l1,h3,b,h4,S3,L4,b2,fun ρ5 H5 S5 E5=>?_⟩⟩;cases b with
      | true=>
       dsimp only at e';rw[if_pos rfl]at e';obtain⟨⟨d5,h5⟩,b3,e'⟩:=vA e';by_cases hz:ds.length<sizeLine
       · rw[if_pos hz]at e';refine DH ⟨ρ5,l1,h4,d5,h5,S5,L4.ext E5,b3,fun ρ6 v6 H6 R6 S6 E6=>⟨?_,by rw[R'.length];exact hz,m,Nat.lt_succ_self _,?_⟩⟩
         · exact(E3.trans (E5.trans E6)).keep D _ hD' nDv
         · obtain⟨ρ7,rfl,E7⟩:=(E3.trans (E5.trans E6)).zbt;refine⟨ρ7,l1,h5,ds++[d5],S6.zbW,Jl.same (FS (FH (S6.zt D mem_cons_self).2.choose_spec)) (L4.ext (E5.trans E6)),(E'.trans E7).zb6 hD,jD,?_,e'⟩;exact qm.same (FS (FH (S6.zt D mem_cons_self).2.choose_spec)) _ ((R'.ext (E3.trans (E5.trans E6))).append (.cons R6 .nil))
       · rw[if_neg hz]at e';cases e'
      | false=>dsimp only at e';rw[if_neg zfT]at e';refine BH ⟨m,Nat.lt_succ_self _,?_⟩;obtain⟨ρ7,rfl,E7⟩:=(E3.trans E5).zbt;exact⟨ρ7,l1,h4,ds,S5,L4.ext E5,E'.trans E7,(E3.trans E5).keep D _ hD' nDv,R'.ext (E3.trans E5),e'⟩
theorem NF(hc:X.calm=true)(hi:IM X tg iter g)(hcell:∀y∈scope.names,y.2≠.cell)(hkind:scope.kind=.function)
 (hnames:∀y∈scope.names,y.2=.local->scope.names.lookup y.1=some .local) (hcl:WE X.env.cells scope.names []=some cl) (hcap:Vl X scope cl Nc cap)
 (hg:∀C s0 H0 fp,GM (sC X Nc scope cl C s0 H0 fp) tg bd) (ht:∀C s0 H0 fp,CM (sC X Nc scope cl C s0 H0 fp) ifs tc) (he:∀C s0 H0 fp,EM (sC X Nc scope cl C s0 H0 fp) elt te)
 (hs:autoParam (∀x,foldedSetIterable iter X.env x=pure x) zqP._auto_1):EM X (.ListComp elt [⟨tg,iter,ifs,0⟩] scope pos) (TD g bd tc te cap):=by
 with_unfolding_all exact PE.imp (yZ (g:=gM X.K bd) (tc:=GP X.K tc) (te:=tM X.K te) hc hi hcl hcell hkind hnames hcap hg ht he hs) fun σ H Q ⟨ρ,l,h,d,h',S,L,e,k⟩=>aO (X:=X) false S L e k
theorem Nz(hc:X.calm=true)(hi:IM X tg iter g)(hcell:∀y∈scope.names,y.2≠.cell)(hkind:scope.kind=.function)
 (hnames:∀y∈scope.names,y.2=.local->scope.names.lookup y.1=some .local) (hcl:WE X.env.cells scope.names []=some cl) (hcap:Vl X scope cl Nc cap)
 (hg:∀C s0 H0 fp,GM (sC X Nc scope cl C s0 H0 fp) tg bd) (ht:∀C s0 H0 fp,CM (sC X Nc scope cl C s0 H0 fp) ifs tc) (he:∀C s0 H0 fp,EM (sC X Nc scope cl C s0 H0 fp) elt te)
 (hs:autoParam (∀x,foldedSetIterable iter X.env x=pure x) zqP._auto_1):EM X (.ListComp elt [⟨tg,iter,ifs,0⟩] scope pos) (pH g bd tc te cap):=by
 with_unfolding_all exact PE.imp (yZ (g:=gM X.K bd) (tc:=GP X.K tc) (te:=tM X.K te) hc hi hcl hcell hkind hnames hcap hg ht he hs) fun σ H Q ⟨ρ,l,h,d,h',S,L,e,k⟩=>aO (X:=X) true S L e k
theorem GS(i:Nat){y:Str}{py spos:Pos}(hc:X.calm=true)(hN:X.N.Nodup)(hi:IM X tg iter g)(hcell:∀y∈scope.names,y.2≠.cell)(hkind:scope.kind=.function)
 (hnames:∀y∈scope.names,y.2=.local->scope.names.lookup y.1=some .local) (hcl:WE X.env.cells scope.names []=some cl) (hcap:Vl X scope cl Nc cap)
 (hg:∀C s0 H0 fp,GM (sC X Nc scope cl C s0 H0 fp) tg bd) (ht:∀C s0 H0 fp,CM (sC X Nc scope cl C s0 H0 fp) ifs tc) (he:∀C s0 H0 fp,EM (sC X Nc scope cl C s0 H0 fp) elt te)
 (hsw:swapsWith (.ListComp elt [⟨tg,iter,ifs,0⟩] scope pos) (some (.Name y py)) spos.line X.env=pure true)
 (hiN:autoParam (X.N[i]?=some y) zqR._auto_1) (hy:autoParam (X.env.scope.names.lookup y=some .local) zqR._auto_1) (hs:autoParam (∀x,foldedSetIterable iter X.env x=pure x) zqP._auto_1) :
 ZM X (.Assign [.Name y py] (.ListComp elt [⟨tg,iter,ifs,0⟩] scope pos) spos) (CA i (TD g bd tc te cap)):=by
 with_unfolding_all exact PS.imp (UW (g:=gM X.K bd) (tc:=GP X.K tc) (te:=tM X.K te) hc hN hiN hy hi hcl hcell hkind hnames hcap hg ht he hsw hs) fun D σ H zz=>by obtain⟨ρ,l,h,r,S,L,e,k⟩:=zz;obtain⟨⟨d1,h1⟩,e1,e⟩:=vA e;cases e;exact aO (X:=X) false S L e1 fun ρ1 v H1 R1 S1 E1=>k ρ1 _ H1 S1 ((L.ext E1).set i R1) E1
theorem ER(i:Nat){y:Str}{py spos:Pos}(hc:X.calm=true)(hN:X.N.Nodup)(hi:IM X tg iter g)(hcell:∀y∈scope.names,y.2≠.cell)(hkind:scope.kind=.function)
 (hnames:∀y∈scope.names,y.2=.local->scope.names.lookup y.1=some .local) (hcl:WE X.env.cells scope.names []=some cl) (hcap:Vl X scope cl Nc cap)
 (hg:∀C s0 H0 fp,GM (sC X Nc scope cl C s0 H0 fp) tg bd) (ht:∀C s0 H0 fp,CM (sC X Nc scope cl C s0 H0 fp) ifs tc) (he:∀C s0 H0 fp,EM (sC X Nc scope cl C s0 H0 fp) elt te)
 (hsw:swapsWith (.ListComp elt [⟨tg,iter,ifs,0⟩] scope pos) (some (.Name y py)) spos.line X.env=pure true)
 (hiN:autoParam (X.N[i]?=some y) zqR._auto_1) (hy:autoParam (X.env.scope.names.lookup y=some .local) zqR._auto_1) (hs:autoParam (∀x,foldedSetIterable iter X.env x=pure x) zqP._auto_1) :
 ZM X (.Assign [.Name y py] (.ListComp elt [⟨tg,iter,ifs,0⟩] scope pos) spos) (CA i (pH g bd tc te cap)):=by
 with_unfolding_all exact PS.imp (UW (g:=gM X.K bd) (tc:=GP X.K tc) (te:=tM X.K te) hc hN hiN hy hi hcl hcell hkind hnames hcap hg ht he hsw hs) fun D σ H zz=>by obtain⟨ρ,l,h,r,S,L,e,k⟩:=zz;obtain⟨⟨d1,h1⟩,e1,e⟩:=vA e;cases e;exact aO (X:=X) true S L e1 fun ρ1 v H1 R1 S1 E1=>k ρ1 _ H1 S1 ((L.ext E1).set i R1) E1
end
end SM
namespace L2
section
variable{X:Cx}{elt iter tg:Expr}{ifs:List Expr}{scope:Scope}{cl:List (Str×Addr)}{pos:Pos}{Nc:List Str}{wi:TI}{g:TG}{tc:TT}{te:TE}{cap:List (Option Nat)}{x0:Str}
end
end L2
namespace SM
section
variable{X:Cx}{elt iter tg:Expr}{ifs:List Expr}{scope:Scope}{cl:List (Str×Addr)}{pos:Pos}{Nc:List Str}{g:RI}{bd:RG}{tc:RT}{te:RE}{cap:List (Option Nat)}{x0:Str}
end
mutual
noncomputable def EB:Dt->Bool
 | .tup xs=>MC xs
 | .lst xs=>MC xs
 | .ref _=>false
 | .Ip _=>false
 | _=>true
noncomputable def MC:List Dt->Bool
 | []=>true
 | x::xs=>EB x&&MC xs
end
mutual
noncomputable def yG:Dt->Nat
 | .tup xs=>JD xs+1
 | .lst xs=>JD xs+1
 | _=>0
noncomputable def JD:List Dt->Nat
 | []=>0
 | x::xs=>max (yG x) (JD xs)
end
mutual
noncomputable def bD:Dt->Dt->Bool
 | .non,.non=>true
 | .bl a,.bl b=>a==b
 | .bl a,.int b=>(if a then 1 else 0)==b
 | .int a,.bl b=>a==(if b then 1 else 0)
 | .int a,.int b=>a==b
 | .str a,.str b=>a==b
 | .tup xs,.tup ys=>fE xs ys
 | .lst xs,.lst ys=>fE xs ys
 | _,_=>false
noncomputable def fE:List Dt->List Dt->Bool
 | [],[]=>true
 | x::xs,y::ys=>bD x y&&fE xs ys
 | _,_=>false
end
mutual
theorem CT:∀d:Dt,EB d=true->bD d d=true
 | .non,_=>by simp only[bD]
 | .bl b,_=>by simp only[bD,beq_self_eq_true]
 | .int i,_=>by simp only[bD,beq_self_eq_true]
 | .str x,_=>by simp only[bD,beq_self_eq_true]
 | .tup xs,h=>by simp only[bD];exact PN xs (by simpa only[EB]using h)
 | .lst xs,h=>by simp only[bD];exact PN xs (by simpa only[EB]using h)
 | .ref _,h=>by simp[EB]at h
 | .Ip _,h=>by simp[EB]at h
theorem PN:∀ds:List Dt,MC ds=true->fE ds ds=true
 | [],_=>by simp only[fE]
 | d::ds,h=>by simp only[MC,Bool.and_eq_true]at h;simp only[fE,Bool.and_eq_true];exact⟨CT d h.1,PN ds h.2⟩
end
section
variable{X:Cx}{pins:List (Addr×Obj)}{σ:L2.St}{H:Hp}{s:Shared}{ρ:Rg}
mutual
theorem EO(I:Inv X pins σ H s):∀(d d':Dt){v:V},EB d=true->EB d'=true->zm X.K H ρ d v->zm X.K H ρ d' v->d=d'
 | .non,d',v,_,p,r,r'=>by
  have e:=Jm.mp r;subst e;cases d' with
  | non=>rfl
  | bl b=>have:=Am.mp r';cases this
  | int b=>have:=rm.mp r';cases this
  | str b=>have:=Nm.mp r';cases this
  | tup b=>obtain⟨Z,Z,z,Z⟩:=Em.mp r';cases z
  | lst b=>obtain⟨Z,Z,z,Z⟩:=Cm.mp r';cases z
  | ref b=>obtain⟨Z,z,Z⟩:=Im.mp r';cases z
  | Ip b=>obtain⟨Z,z,Z⟩:=Fp.mp r';cases z
 | .bl i,d',v,_,p,r,r'=>by
  have e:=Am.mp r;subst e;cases d' with
  | non=>have:=Jm.mp r';cases this
  | bl b=>have:=Am.mp r';cases this;rfl
  | int b=>have:=rm.mp r';cases this
  | str b=>have:=Nm.mp r';cases this
  | tup b=>obtain⟨Z,Z,z,Z⟩:=Em.mp r';cases z
  | lst b=>obtain⟨Z,Z,z,Z⟩:=Cm.mp r';cases z
  | ref b=>obtain⟨Z,z,Z⟩:=Im.mp r';cases z
  | Ip b=>obtain⟨Z,z,Z⟩:=Fp.mp r';cases z
 | .int i,d',v,_,p,r,r'=>by
  have e:=rm.mp r;subst e;cases d' with
  | non=>have:=Jm.mp r';cases this
  | bl b=>have:=Am.mp r';cases this
  | int b=>have:=rm.mp r';cases this;rfl
  | str b=>have:=Nm.mp r';cases this
  | tup b=>obtain⟨Z,Z,z,Z⟩:=Em.mp r';cases z
  | lst b=>obtain⟨Z,Z,z,Z⟩:=Cm.mp r';cases z
  | ref b=>obtain⟨Z,z,Z⟩:=Im.mp r';cases z
  | Ip b=>obtain⟨Z,z,Z⟩:=Fp.mp r';cases z
 | .str i,d',v,_,p,r,r'=>by
  have e:=Nm.mp r;subst e;cases d' with
  | non=>have:=Jm.mp r';cases this
  | bl b=>have:=Am.mp r';cases this
  | int b=>have:=rm.mp r';cases this
  | str b=>have:=Nm.mp r';cases this;rfl
  | tup b=>obtain⟨Z,Z,z,Z⟩:=Em.mp r';cases z
  | lst b=>obtain⟨Z,Z,z,Z⟩:=Cm.mp r';cases z
  | ref b=>obtain⟨Z,z,Z⟩:=Im.mp r';cases z
  | Ip b=>obtain⟨Z,z,Z⟩:=Fp.mp r';cases z
 | .tup xs,d',v,p0,p,r,r'=>by
  obtain⟨a,vs,e,q,rs⟩:=Em.mp r;subst e;cases d' with
  | non=>have:=Jm.mp r';cases this
  | bl b=>have:=Am.mp r';cases this
  | int b=>have:=rm.mp r';cases this
  | str b=>have:=Nm.mp r';cases this
  | tup ys=>obtain⟨b,ws,z,q',rs'⟩:=Em.mp r';cases z;have ee:=I.za8 q.sq q'.sq;subst ee;rw[gT I xs ys (by simpa only[EB]using p0) (by simpa only[EB]using p) rs rs']
  | lst ys=>
   obtain⟨b,ws,z,q',rs'⟩:=Cm.mp r';cases z;obtain⟨Z,Z,⟨o,e1,e2,Z⟩,Z⟩:=I.tuple q.sq;obtain⟨Z,Z,⟨o',Z,e1',e2',Z⟩,Z⟩:=I.list q'.sq;rw[e1]at e1';cases e1';rw[e2]at e2';injection e2' with e3
   exact absurd e3 (by decide)
  | ref b=>simp[EB]at p
  | Ip b=>simp[EB]at p
 | .lst xs,d',v,p0,p,r,r'=>by
  obtain⟨a,vs,e,q,rs⟩:=Cm.mp r;subst e;cases d' with
  | non=>have:=Jm.mp r';cases this
  | bl b=>have:=Am.mp r';cases this
  | int b=>have:=rm.mp r';cases this
  | str b=>have:=Nm.mp r';cases this
  | lst ys=>obtain⟨b,ws,z,q',rs'⟩:=Cm.mp r';cases z;have ee:=I.zau q.sq q'.sq;subst ee;rw[gT I xs ys (by simpa only[EB]using p0) (by simpa only[EB]using p) rs rs']
  | tup ys=>
   obtain⟨b,ws,z,q',rs'⟩:=Em.mp r';cases z;obtain⟨Z,Z,⟨o,e1,e2,Z⟩,Z⟩:=I.tuple q'.sq;obtain⟨Z,Z,⟨o',Z,e1',e2',Z⟩,Z⟩:=I.list q.sq;rw[e1]at e1';cases e1';rw[e2]at e2';injection e2' with e3
   exact absurd e3 (by decide)
  | ref b=>simp[EB]at p
  | Ip b=>simp[EB]at p
 | .ref _,_,_,p,_,_,_=>by simp[EB]at p
 | .Ip _,_,_,p,_,_,_=>by simp[EB]at p
theorem gT(I:Inv X pins σ H s):∀(ds ds':List Dt){vs:List V},MC ds=true->MC ds'=true->qm X.K H ρ ds vs->qm X.K H ρ ds' vs->ds=ds'
 | [],[],_,_,_,_,_=>rfl
 | [],d'::ds',_,_,_,r,r'=>by rw[r.Ql]at r';obtain⟨Z,Z,z,Z⟩:=r'.Km;cases z
 | d::ds,[],_,_,_,r,r'=>by rw[r'.Ql]at r;obtain⟨Z,Z,z,Z⟩:=r.Km;cases z
 | d::ds,d'::ds',_,p,p',r,r'=>by simp only[MC,Bool.and_eq_true]at p p';obtain⟨v,vs,e,r1,r2⟩:=r.Km;subst e;obtain⟨v',vs',e,r1',r2'⟩:=r'.Km;cases e;rw[EO I d d' p.1 p'.1 r1 r1',gT I ds ds' p.2 p'.2 r2 r2']
end
def zG(xs ys:List Dt)(j:Nat):Bool:=match xs[j]?,ys[j]? with
 | some x,some y=>bD x y
 | _,_=>false
theorem EI:∀(xs ys:List Dt),xs.length=ys.length->(range xs.length).all (zG xs ys)=fE xs ys
 | [],[],_=>by simp[fE]
 | [],_::_,h=>by simp at h
 | _::_,[],h=>by simp at h
 | x::xs,y::ys,h=>by have ih:=EI xs ys (by simpa using h);rw[zfH,range_succ_eq_map,all_cons,all_map];simp only[fE];rw[<- ih];rfl
theorem DI:∀(xs ys:List Dt),xs.length≠ys.length->fE xs ys=false
 | [],[],h=>absurd rfl h
 | [],_::_,_=>by simp only[fE]
 | _::_,[],_=>by simp only[fE]
 | x::xs,y::ys,h=>by simp only[fE];rw[DI xs ys (fun z=>h (by simp[z])),Bool.and_false]
theorem QN(A:Around):A.in1.units<=A.units+1:=by first | exact zfU _ | simp[Around.in1]
theorem QE{h:Heap}{a:Addr}{its:Array Value}(p:IsTup h a its):h.IsTuple a its:=by obtain⟨o,h1,h2,n,h3⟩:=p;exact⟨o,h1,h2,n,h3⟩
mutual
theorem XZ(I:Inv X pins σ H s):∀(d d':Dt){v v':V}{u u':Value}(A:Around),EB d=true->EB d'=true->A.units+yG d<cLine->zm X.K H ρ d v->zm X.K H ρ d' v'->RelV v u->RelV v' u'->SeqAt.EqAt A s u u' (bD d d')
 | .tup xs,d',v,v',u,u',A,p,p',hu,r,r',q,q'=>by
  obtain⟨a,vs,e,t,rs⟩:=Em.mp r;subst e;cases q;simp only[yG]at hu;have hu0:A.units<cLine:=by omega
  obtain⟨its,rv,tp,Z⟩:=I.tuple t.sq;cases d' with
  | non=>cases Jm.mp r';cases q';simpa only[bD]using SeqAt.EqAt.tuple_none (QE tp) hu0
  | bl b=>cases Am.mp r';cases q';simpa only[bD]using SeqAt.EqAt.tuple_bool b (QE tp) hu0
  | int b=>cases rm.mp r';obtain⟨t',rfl⟩:=q';simpa only[bD]using SeqAt.EqAt.tuple_int b t' (QE tp) hu0
  | str b=>cases Nm.mp r';obtain⟨t',rfl⟩:=q';simpa only[bD]using SeqAt.EqAt.tuple_str b t' (QE tp) hu0
  | lst ys=>obtain⟨b,ws,e,t',rs'⟩:=Cm.mp r';subst e;cases q';obtain⟨its',rv',Yp,Z⟩:=I.list t'.sq;simpa only[bD]using SeqAt.EqAt.tuple_list (QE tp) Yp.isList hu0
  | tup ys=>
   obtain⟨b,ws,e,t',rs'⟩:=Em.mp r';subst e;cases q';obtain⟨its',rv',Yp,Z⟩:=I.tuple t'.sq;by_cases hab:a=b
   · subst hab;have e:=EO I (.tup xs) (.tup ys) p p' r r';rw[<- e,CT _ p];exact SeqAt.EqAt.same _
   · refine .of_refs hab ?_;have l1:its.length=xs.length:=by rw[<- rv.length,rs.length]
     have l2:its'.length=ys.length:=by rw[<- rv'.length,rs'.length]
     have ih:=zO I xs ys A.in1 (by simpa only[EB]using p) (by simpa only[EB]using p') (by have:=QN A;omega) rs rs' rv rv';have z:=SeqAt.RcAt.tuples (e:=zG xs ys) (QE tp) (QE Yp) hu0 fun j h1 h2=>by rw[size_toArray]at h1 h2;simpa using ih j h1 h2
     rw[size_toArray,size_toArray,l1,l2]at z;simp only[bD];by_cases hl:xs.length=ys.length
     · rw[<- hl,Nat.min_self,EI xs ys hl,beq_self_eq_true,Bool.and_true]at z;exact z
     · rw[DI xs ys hl];have hb:(xs.length==ys.length)=false:=by simpa using hl
       rw[hb,Bool.and_false]at z;exact z
  | ref b=>simp[EB]at p'
  | Ip b=>simp[EB]at p'
 | .lst xs,d',v,v',u,u',A,p,p',hu,r,r',q,q'=>by
  obtain⟨a,vs,e,t,rs⟩:=Cm.mp r;subst e;cases q;simp only[yG]at hu;have hu0:A.units<cLine:=by omega
  obtain⟨its,rv,tp,Z⟩:=I.list t.sq;cases d' with
  | non=>cases Jm.mp r';cases q';simpa only[bD]using SeqAt.EqAt.list_none tp.isList hu0
  | bl b=>cases Am.mp r';cases q';simpa only[bD]using SeqAt.EqAt.list_bool b tp.isList hu0
  | int b=>cases rm.mp r';obtain⟨t',rfl⟩:=q';simpa only[bD]using SeqAt.EqAt.list_int b t' tp.isList hu0
  | str b=>cases Nm.mp r';obtain⟨t',rfl⟩:=q';simpa only[bD]using SeqAt.EqAt.list_str b t' tp.isList hu0
  | tup ys=>obtain⟨b,ws,e,t',rs'⟩:=Em.mp r';subst e;cases q';obtain⟨its',rv',Yp,Z⟩:=I.tuple t'.sq;simpa only[bD]using SeqAt.EqAt.list_tuple tp.isList (QE Yp) hu0
  | lst ys=>
   obtain⟨b,ws,e,t',rs'⟩:=Cm.mp r';subst e;cases q';obtain⟨its',rv',Yp,Z⟩:=I.list t'.sq;by_cases hab:a=b
   · subst hab;have e:=EO I (.lst xs) (.lst ys) p p' r r';rw[<- e,CT _ p];exact SeqAt.EqAt.same _
   · refine .of_refs hab ?_;have l1:its.length=xs.length:=by rw[<- rv.length,rs.length]
     have l2:its'.length=ys.length:=by rw[<- rv'.length,rs'.length]
     simp only[bD];by_cases hl:xs.length=ys.length
     · have ih:=zO I xs ys A.in1 (by simpa only[EB]using p) (by simpa only[EB]using p') (by have:=QN A;omega) rs rs' rv rv';have z:=SeqAt.RcAt.lists (e:=zG xs ys) tp.isList Yp.isList (by rw[size_toArray,size_toArray,l1,l2,hl]) hu0 fun j h1 h2=>by rw[size_toArray]at h1 h2;simpa using ih j h1 h2
       rw[size_toArray,l1,EI xs ys hl]at z;exact z
     · rw[DI xs ys hl];exact SeqAt.RcAt.lists_lengths tp.isList Yp.isList (by rw[size_toArray,size_toArray,l1,l2];simpa using hl) hu0
  | ref b=>simp[EB]at p'
  | Ip b=>simp[EB]at p'
 | .ref _,_,_,_,_,_,_,p,_,_,_,_,_,_=>by simp[EB]at p
 | .Ip _,_,_,_,_,_,_,p,_,_,_,_,_,_=>by simp[EB]at p
 | .non,d',v,v',u,u',A,p,p',hu,r,r',q,q'=>by
  cases Jm.mp r;cases q;have hu0:A.units<cLine:=by omega
  cases d' with
  | non=>cases Jm.mp r';cases q';simp only[bD];exact SeqAt.EqAt.same _
  | bl b=>cases Am.mp r';cases q';simpa only[bD]using SeqAt.EqAt.none_bool b
  | int b=>cases rm.mp r';obtain⟨t',rfl⟩:=q';simpa only[bD]using SeqAt.EqAt.none_int b t'
  | str b=>cases Nm.mp r';obtain⟨t',rfl⟩:=q';simpa only[bD]using SeqAt.EqAt.none_str b t'
  | tup ys=>obtain⟨b,ws,e,t',rs'⟩:=Em.mp r';subst e;cases q';obtain⟨its',rv',Yp,Z⟩:=I.tuple t'.sq;simpa only[bD]using SeqAt.EqAt.none_tuple (QE Yp) hu0
  | lst ys=>obtain⟨b,ws,e,t',rs'⟩:=Cm.mp r';subst e;cases q';obtain⟨its',rv',Yp,Z⟩:=I.list t'.sq;simpa only[bD]using SeqAt.EqAt.none_list Yp.isList hu0
  | ref b=>simp[EB]at p'
  | Ip b=>simp[EB]at p'
 | .bl i,d',v,v',u,u',A,p,p',hu,r,r',q,q'=>by
  cases Am.mp r;cases q;have hu0:A.units<cLine:=by omega
  cases d' with
  | non=>cases Jm.mp r';cases q';simpa only[bD]using SeqAt.EqAt.bool_none i
  | bl b=>cases Am.mp r';cases q';simpa only[bD]using SeqAt.EqAt.bool_bool i b
  | int b=>cases rm.mp r';obtain⟨t',rfl⟩:=q';simpa only[bD]using SeqAt.EqAt.bool_int i b t'
  | str b=>cases Nm.mp r';obtain⟨t',rfl⟩:=q';simpa only[bD]using SeqAt.EqAt.bool_str i b t'
  | tup ys=>obtain⟨b,ws,e,t',rs'⟩:=Em.mp r';subst e;cases q';obtain⟨its',rv',Yp,Z⟩:=I.tuple t'.sq;simpa only[bD]using SeqAt.EqAt.bool_tuple i (QE Yp) hu0
  | lst ys=>obtain⟨b,ws,e,t',rs'⟩:=Cm.mp r';subst e;cases q';obtain⟨its',rv',Yp,Z⟩:=I.list t'.sq;simpa only[bD]using SeqAt.EqAt.bool_list i Yp.isList hu0
  | ref b=>simp[EB]at p'
  | Ip b=>simp[EB]at p'
 | .int i,d',v,v',u,u',A,p,p',hu,r,r',q,q'=>by
  cases rm.mp r;obtain⟨ti,rfl⟩:=q;have hu0:A.units<cLine:=by omega
  cases d' with
  | non=>cases Jm.mp r';cases q';simpa only[bD]using SeqAt.EqAt.int_none i ti
  | bl b=>cases Am.mp r';cases q';simpa only[bD]using SeqAt.EqAt.int_bool i ti b
  | int b=>cases rm.mp r';obtain⟨t',rfl⟩:=q';simpa only[bD]using SeqAt.EqAt.int_int i ti b t'
  | str b=>cases Nm.mp r';obtain⟨t',rfl⟩:=q';simpa only[bD]using SeqAt.EqAt.int_str i ti b t'
  | tup ys=>obtain⟨b,ws,e,t',rs'⟩:=Em.mp r';subst e;cases q';obtain⟨its',rv',Yp,Z⟩:=I.tuple t'.sq;simpa only[bD]using SeqAt.EqAt.int_tuple i ti (QE Yp) hu0
  | lst ys=>obtain⟨b,ws,e,t',rs'⟩:=Cm.mp r';subst e;cases q';obtain⟨its',rv',Yp,Z⟩:=I.list t'.sq;simpa only[bD]using SeqAt.EqAt.int_list i ti Yp.isList hu0
  | ref b=>simp[EB]at p'
  | Ip b=>simp[EB]at p'
 | .str i,d',v,v',u,u',A,p,p',hu,r,r',q,q'=>by
  cases Nm.mp r;obtain⟨ti,rfl⟩:=q;have hu0:A.units<cLine:=by omega
  cases d' with
  | non=>cases Jm.mp r';cases q';simpa only[bD]using SeqAt.EqAt.str_none i ti
  | bl b=>cases Am.mp r';cases q';simpa only[bD]using SeqAt.EqAt.str_bool i ti b
  | int b=>cases rm.mp r';obtain⟨t',rfl⟩:=q';simpa only[bD]using SeqAt.EqAt.str_int i ti b t'
  | str b=>cases Nm.mp r';obtain⟨t',rfl⟩:=q';simpa only[bD]using SeqAt.EqAt.str_str i ti b t'
  | tup ys=>obtain⟨b,ws,e,t',rs'⟩:=Em.mp r';subst e;cases q';obtain⟨its',rv',Yp,Z⟩:=I.tuple t'.sq;simpa only[bD]using SeqAt.EqAt.str_tuple i ti (QE Yp) hu0
  | lst ys=>obtain⟨b,ws,e,t',rs'⟩:=Cm.mp r';subst e;cases q';obtain⟨its',rv',Yp,Z⟩:=I.list t'.sq;simpa only[bD]using SeqAt.EqAt.str_list i ti Yp.isList hu0
  | ref b=>simp[EB]at p'
  | Ip b=>simp[EB]at p'
theorem zO(I:Inv X pins σ H s):∀(xs ys:List Dt){vs vs':List V}{us us':List Value}(A:Around),MC xs=true->MC ys=true->A.units+JD xs<cLine->qm X.K H ρ xs vs->qm X.K H ρ ys vs'->Vals vs us->Vals vs' us'->
 ∀(j:Nat)(h1:j<us.length)(h2:j<us'.length),SeqAt.EqAt A s us[j] us'[j] (zG xs ys j)
 | [],_,_,_,_,_,_,_,_,_,r,_,q,_,_,h1,_=>by rw[r.Ql]at q;cases q;exact absurd h1 (by simp)
 | _::_,[],_,_,_,_,_,_,_,_,_,r',_,q',_,_,h2=>by rw[r'.Ql]at q';cases q';exact absurd h2 (by simp)
 | x::xs,y::ys,vs,vs',us,us',A,p,p',hu,r,r',q,q',j,h1,h2=>by
  simp only[MC,Bool.and_eq_true]at p p';simp only[JD]at hu;obtain⟨v,r0,e,a1,a2⟩:=r.Km;subst e;obtain⟨v',r0',e,b1,b2⟩:=r'.Km;subst e;cases q with
  | cons q1 q2=>
   cases q' with
   | cons q1' q2'=>
    cases j with
    | zero=>exact XZ I x y A p.1 p'.1 (by omega) a1 b1 q1 q1'
    | succ j=>have ih:=zO I xs ys A p.2 p'.2 (by omega) a2 b2 q2 q2' j (by simpa using h1) (by simpa using h2);simpa[zG]using ih
end
end
section
variable{X:Cx}{a b c e:Expr}{es:List Expr}{fa fb fc f:RE}{g:RA}{p p2 pos:Pos}
def FF(xs ys:List Dt):Bool:=MC xs&&MC ys&&decide (JD xs<=50)
def lB:ZD:=fun a b h=>match a,b with
 | .tup xs,.tup ys=>if FF xs ys=true then some (.bl (fE xs ys),h)else none
 | .lst xs,.lst ys=>if FF xs ys=true then some (.bl (fE xs ys),h)else none
 | a,b=>Z2 a b h
def zE:ZD:=fun a b h=>match a,b with
 | .tup xs,.tup ys=>if FF xs ys=true then some (.bl (!fE xs ys),h)else none
 | .lst xs,.lst ys=>if FF xs ys=true then some (.bl (!fE xs ys),h)else none
 | a,b=>o3 a b h
theorem WN{pins:List (Addr×Obj)}{σ:L2.St}{H:Hp}{s:Shared}{ρ:Rg}{xs ys:List Dt}{vs ws:List V}{its its':List Value}(I:Inv X pins σ H s)(hu:X.A.units+64<cLine)(ok:FF xs ys=true)(rs:qm X.K H ρ xs vs)(rs':qm X.K H ρ ys ws)(rv:Vals vs its)(rv':Vals ws its') :
 ∀(j:Nat)(h1:j<its.toArray.size)(h2:j<its'.toArray.size),SeqAt.EqAt X.A.in1 s its.toArray[j] its'.toArray[j] (zG xs ys j):=fun j h1 h2=>by
 simp only[FF,Bool.and_eq_true,decide_eq_true_eq]at ok;rw[size_toArray]at h1 h2;have:=zO I xs ys X.A.in1 ok.1.1 ok.1.2 (by have:=QN X.A;omega) rs rs' rv rv' j h1 h2;simpa using this
theorem vC(hu:X.A.units+64<cLine):OM X (compareOp .Eq) lB:=by
 with_unfolding_all
  intro pins s σ H x y v u Q I rx ry h;obtain⟨ρ,h,d1,d2,d,h',S,R1,R2,e,k⟩:=h;unfold lB at e;split at e
  · rename_i xs ys;obtain⟨ok,e⟩:=OE e;cases e;obtain⟨a,vs,z,t,rs⟩:=Em.mp R1;obtain⟨b,ws,z',t',rs'⟩:=Em.mp R2;subst z z';cases rx;cases ry;obtain⟨its,rv,tp,Z⟩:=I.tuple t.sq;obtain⟨its',rv',Yp,Z⟩:=I.tuple t'.sq;have l1:its.length=xs.length:=by rw[<- rv.length,rs.length]
    have l2:its'.length=ys.length:=by rw[<- rv'.length,rs'.length]
    refine SeqAt.eq_tupleAt (e:=zG xs ys) (QE tp) (QE Yp) (by omega) (WN I hu ok rs rs' rv rv') ?_;refine⟨.bl _,H,I,rfl,k ρ _ H (Am.mpr (congrArg V.bl ?_)) S (Ext.refl _ _)⟩;rw[size_toArray,size_toArray,l1,l2];by_cases hl:xs.length=ys.length
    · rw[<- hl,Nat.min_self,EI xs ys hl,beq_self_eq_true,Bool.and_true]
    · have hb:(xs.length==ys.length)=false:=by simpa using hl
      rw[DI xs ys hl,hb,Bool.and_false]
  · rename_i xs ys;obtain⟨ok,e⟩:=OE e;cases e;obtain⟨a,vs,z,t,rs⟩:=Cm.mp R1;obtain⟨b,ws,z',t',rs'⟩:=Cm.mp R2;subst z z';cases rx;cases ry;obtain⟨its,rv,tp,Z⟩:=I.list t.sq;obtain⟨its',rv',Yp,Z⟩:=I.list t'.sq;have l1:its.length=xs.length:=by rw[<- rv.length,rs.length]
    have l2:its'.length=ys.length:=by rw[<- rv'.length,rs'.length]
    by_cases hl:xs.length=ys.length
    · refine SeqAt.eq_listAt (e:=zG xs ys) tp.isList Yp.isList (by rw[size_toArray,size_toArray,l1,l2,hl]) (by omega) (WN I hu ok rs rs' rv rv') ?_;refine⟨.bl _,H,I,rfl,k ρ _ H (Am.mpr (congrArg V.bl ?_)) S (Ext.refl _ _)⟩;rw[size_toArray,l1,EI xs ys hl]
    · refine SeqAt.eq_list_lengthsAt tp.isList Yp.isList (by rw[size_toArray,size_toArray,l1,l2];simpa using hl) (by omega) ?_;exact⟨.bl _,H,I,rfl,k ρ _ H (Am.mpr (by rw[DI xs ys hl])) S (Ext.refl _ _)⟩
  · exact Z7 pins s σ H x y v u Q I rx ry ⟨ρ,h,d1,d2,d,h',S,R1,R2,e,k⟩
theorem UH(hu:X.A.units+64<cLine):OM X (compareOp .NotEq) zE:=by
 with_unfolding_all
  intro pins s σ H x y v u Q I rx ry h;obtain⟨ρ,h,d1,d2,d,h',S,R1,R2,e,k⟩:=h;unfold zE at e;split at e
  · rename_i xs ys;obtain⟨ok,e⟩:=OE e;cases e;obtain⟨a,vs,z,t,rs⟩:=Em.mp R1;obtain⟨b,ws,z',t',rs'⟩:=Em.mp R2;subst z z';cases rx;cases ry;obtain⟨its,rv,tp,Z⟩:=I.tuple t.sq;obtain⟨its',rv',Yp,Z⟩:=I.tuple t'.sq;have l1:its.length=xs.length:=by rw[<- rv.length,rs.length]
    have l2:its'.length=ys.length:=by rw[<- rv'.length,rs'.length]
    refine dz (e:=zG xs ys) (QE tp) (QE Yp) (by omega) (WN I hu ok rs rs' rv rv') ?_;refine⟨.bl _,H,I,rfl,k ρ _ H (Am.mpr (congrArg V.bl ?_)) S (Ext.refl _ _)⟩;rw[size_toArray,size_toArray,l1,l2];by_cases hl:xs.length=ys.length
    · rw[<- hl,Nat.min_self,EI xs ys hl,beq_self_eq_true,Bool.and_true]
    · have hb:(xs.length==ys.length)=false:=by simpa using hl
      rw[DI xs ys hl,hb,Bool.and_false]
  · rename_i xs ys;obtain⟨ok,e⟩:=OE e;cases e;obtain⟨a,vs,z,t,rs⟩:=Cm.mp R1;obtain⟨b,ws,z',t',rs'⟩:=Cm.mp R2;subst z z';cases rx;cases ry;obtain⟨its,rv,tp,Z⟩:=I.list t.sq;obtain⟨its',rv',Yp,Z⟩:=I.list t'.sq;have l1:its.length=xs.length:=by rw[<- rv.length,rs.length]
    have l2:its'.length=ys.length:=by rw[<- rv'.length,rs'.length]
    by_cases hl:xs.length=ys.length
    · refine iy (e:=zG xs ys) tp.isList Yp.isList (by rw[size_toArray,size_toArray,l1,l2,hl]) (by omega) (WN I hu ok rs rs' rv rv') ?_;refine⟨.bl _,H,I,rfl,k ρ _ H (Am.mpr (congrArg V.bl ?_)) S (Ext.refl _ _)⟩;rw[size_toArray,l1,EI xs ys hl]
    · refine J9 tp.isList Yp.isList (by rw[size_toArray,size_toArray,l1,l2];simpa using hl) (by omega) ?_;exact⟨.bl _,H,I,rfl,k ρ _ H (Am.mpr (by rw[DI xs ys hl];rfl)) S (Ext.refl _ _)⟩
  · exact b8 pins s σ H x y v u Q I rx ry ⟨ρ,h,d1,d2,d,h',S,R1,R2,e,k⟩
def cF:List Dt->Option (List V)
 | []=>some []
 | d::ds=>(aE d).bind fun v=>(cF ds).map fun vs=>v::vs
theorem AX{K:Frag}{H:Hp}{ρ:Rg}:∀{ds:List Dt}{ws vs:List V},cF ds=some ws->qm K H ρ ds vs->vs=ws
 | [],_,_,e,r=>by simp only[cF]at e;cases e;exact r.Ql
 | d::ds,_,_,e,r=>by
  simp only[cF]at e;obtain⟨v,e1,e⟩:=vA e;cases q:cF ds with
  | none=>rw[q]at e;cases e
  | some vs=>rw[q]at e;cases e;obtain⟨v',r',z,r1,r2⟩:=r.Km;subst z;rw[HJ e1 r1,AX q r2]
theorem o0{d:Dt}{v:V}(e:aE d=some v):IG v=true:=by cases d<;>simp only[aE]at e<;>first | (cases e;rfl) | cases e
theorem jZ:∀{ds:List Dt}{ws:List V},cF ds=some ws->ws.all IG=true
 | [],_,e=>by simp only[cF]at e;cases e;rfl
 | d::ds,_,e=>by
  simp only[cF]at e;obtain⟨v,e1,e⟩:=vA e;cases q:cF ds with
  | none=>rw[q]at e;cases e
  | some vs=>rw[q]at e;cases e;rw[all_cons,o0 e1,jZ q];rfl
def GH(neg:Bool):ZD:=fun a b h=>(aE a).bind fun x=>(QD h b).bind fun ys=>(cF ys).bind fun zs=>some (.bl (if neg then !dM x zs else dM x zs),h)
theorem nZ{neg:Bool}{x y:V}{H:Hp}{Q:VK}(h:rM X.K (GH neg) x y H Q):T4 X.K neg x y H Q:=by obtain⟨ρ,h,d1,d2,d,h',S,R1,R2,e,k⟩:=h;obtain⟨x',e1,e⟩:=vA e;obtain⟨ys,e2,e⟩:=vA e;obtain⟨zs,e3,e⟩:=vA e;cases e;obtain⟨p,vs,e4,sq,r⟩:=FO S R2 e2;have e5:=AX e3 r;subst e5;have e6:=HJ e1 R1;subst e6;exact⟨p,vs,e4,sq,o0 e1,jZ e3,k ρ _ H (Am.mpr rfl) S (Ext.refl _ _)⟩
theorem P1:OM X (compareOp .In) (GH false):=by with_unfolding_all exact Bp.imp bx fun Z Z Z Z h=>nZ h
theorem Dw:OM X (compareOp .NotIn) (GH true):=by with_unfolding_all exact Bp.imp G9 fun Z Z Z Z h=>nZ h
def xK:ZD:=fun a b h=>(OB h a).bind fun xs=>(OB h b).bind fun ys=>if xs.length+ys.length<=sizeLine then some (.lst (xs++ys),h)else none
def pP:ZD:=fun a b h=>(OB h a).bind fun xs=>(OB h b).bind fun ys=>if xs.length+ys.length<=sizeLine then some (.ref h.length,h++[.lst (xs++ys)])else none
theorem JZ:OM X (binaryOp .Add) xK:=by with_unfolding_all exact Bp.imp wZ fun x y H Q zz=>by obtain⟨ρ,h,d1,d2,d,h',S,R1,R2,e,k⟩:=zz;obtain⟨xs,e1,e⟩:=vA e;obtain⟨ys,e2,e⟩:=vA e;obtain⟨hz,e⟩:=OE e;cases e;obtain⟨l,vs,z1,q1,r1⟩:=PF S R1 e1;obtain⟨b,ws,z2,q2,r2⟩:=PF S R2 e2;exact⟨l,b,vs,ws,z1,z2,q1,q2,by rw[r1.length,r2.length];exact hz,fun p hp=>k ρ _ _ (dP S (r1.append r2) hp) (S.fresh hp) (Ext.fresh hp)⟩
theorem Tg:OM X (binaryOp .Add) pP:=by with_unfolding_all exact Bp.imp wZ fun x y H Q zz=>by obtain⟨ρ,h,d1,d2,d,h',S,R1,R2,e,k⟩:=zz;obtain⟨xs,e1,e⟩:=vA e;obtain⟨ys,e2,e⟩:=vA e;obtain⟨hz,e⟩:=OE e;cases e;obtain⟨l,vs,z1,q1,r1⟩:=PF S R1 e1;obtain⟨b,ws,z2,q2,r2⟩:=PF S R2 e2;exact⟨l,b,vs,ws,z1,z2,q1,q2,by rw[r1.length,r2.length];exact hz,fun p hp=>k _ _ _ (TH S (r1.append r2) hp).1 (TH S (r1.append r2) hp).2 (Ext.own hp)⟩
noncomputable def UC(F:Dt->HI->Option (Dt×HI))(f:RE):RE:=fun l h=>(f l h).bind fun r=>F r.1 r.2
theorem YJ{x:Str}{id:String}{r:List V->Hp->VK->Prop}{F:Dt->HI->Option (Dt×HI)}(hc:Hl X (.builtin id) r)(hF:∀ρ h d v d' h' H Q,Dm X.K ρ h H->zm X.K H ρ d v->F d h=some (d',h')->Out X.K ρ H d' h' Q->r [v] H Q)
 (hg:Gl X x) (hm:X.mg x=none) (hv:bootBuiltins x=some (.builtin id)) (ha:EM X e f) (hn:autoParam (x ≠ "__name__") zqQ._auto_1) (hdb:autoParam ((x==("__debug__" :Str))=false) zqQ._auto_1) (hs:autoParam (DB e=true) zqR._auto_1) :
 EM X (.Call (.Name x p) [e] [] pos) (UC F f):=by
 with_unfolding_all exact PE.imp (dO hc hg hm hv (yD ha sE (wB hs _ _)) hn hdb (he:=wB hs _ _)) fun σ H Q zz=>by obtain⟨ρ,l,h,d,h',S,L,e,k⟩:=zz;obtain⟨⟨d1,h1⟩,e1,e⟩:=vA e;exact⟨ρ,l,h,d1,h1,S,L,e1,fun ρ1 v H1 R1 S1 E1=>hF ρ1 h1 d1 v d h' H1 Q S1 R1 e (k.ext E1)⟩
theorem B1{x:Str}{T:String}{r:List V->Hp->VK->Prop}{F:Dt->HI->Option (Dt×HI)}(hc:Hl X (.type T) r)(hF:∀ρ h d v d' h' H Q,Dm X.K ρ h H->zm X.K H ρ d v->F d h=some (d',h')->Out X.K ρ H d' h' Q->r [v] H Q)
 (hg:Gl X x) (hm:X.mg x=none) (hv:bootBuiltins x=some (.type T)) (ha:EM X e f) (hn:autoParam (x ≠ "__name__") zqQ._auto_1) (hdb:autoParam ((x==("__debug__" :Str))=false) zqQ._auto_1) (hs:autoParam (DB e=true) zqR._auto_1) :
 EM X (.Call (.Name x p) [e] [] pos) (UC F f):=by
 with_unfolding_all exact PE.imp (Kv hc hg hm hv (yD ha sE (wB hs _ _)) hn hdb (he:=wB hs _ _)) fun σ H Q zz=>by obtain⟨ρ,l,h,d,h',S,L,e,k⟩:=zz;obtain⟨⟨d1,h1⟩,e1,e⟩:=vA e;exact⟨ρ,l,h,d1,h1,S,L,e1,fun ρ1 v H1 R1 S1 E1=>hF ρ1 h1 d1 v d h' H1 Q S1 R1 e (k.ext E1)⟩
def EC:Dt->HI->Option (Dt×HI):=fun d h=>match d with
 | .str z=>if z.length<=sizeLine then some (.int z.length,h)else none
 | d=>(QD h d).map fun xs=>(.int xs.length,h)
theorem kE (hg:Gl X "len") (hm:X.mg "len" =none) (ha:EM X e f) (hs:autoParam (DB e=true) zqR._auto_1):EM X (.Call (.Name "len" p) [e] [] pos) (UC EC f):=by
 with_unfolding_all
  exact YJ (Hl.or O9 P9) (fun ρ h d v d' h' H Q S R e k=>by
   unfold EC at e;split at e
   · rename_i z;obtain⟨hz,e⟩:=OE e;cases e;exact .inr ⟨z,by rw[Nm.mp R],hz,k ρ _ H (rm.mpr rfl) S (Ext.refl _ _)⟩
   · cases q:QD h d with
     | none=>rw[q]at e;cases e
     | some xs=>
      rw[q]at e;cases e;obtain⟨a,vs,z,sq,r⟩:=FO S R q;exact .inl ⟨a,vs,by rw[z],sq,by rw[r.length];exact k ρ _ H (rm.mpr rfl) S (Ext.refl _ _)⟩) hg hm PySem.boot_len ha (hs:=hs)
noncomputable def rK:Dt->HI->Option (Dt×HI):=fun d h=>match d with
 | .int i=>some (.int i,h)
 | .bl b=>some (.int (if b then 1 else 0),h)
 | _=>none
theorem EY (hg:Gl X "int") (hm:X.mg "int" =none) (ha:EM X e f) (hs:autoParam (DB e=true) zqR._auto_1):EM X (.Call (.Name "int" p) [e] [] pos) (UC rK f):=by
 with_unfolding_all
  exact B1 Wj (fun ρ h d v d' h' H Q S R e k=>by
   unfold rK at e;split at e
   · rename_i i;cases e;exact .inl ⟨i,by rw[rm.mp R],k ρ _ H (rm.mpr rfl) S (Ext.refl _ _)⟩
   · rename_i b;cases e;exact .inr ⟨b,by rw[Am.mp R],k ρ _ H (rm.mpr rfl) S (Ext.refl _ _)⟩
   · cases e) hg hm PyProof.Rows.boot_int ha (hs:=hs)
def ZE:Dt->HI->Option (Dt×HI):=fun d h=>(QD h d).map fun xs=>(.ref h.length,h++[.lst xs])
theorem ON (hg:Gl X "list") (hm:X.mg "list" =none) (ha:EM X e f) (hs:autoParam (DB e=true) zqR._auto_1):EM X (.Call (.Name "list" p) [e] [] pos) (UC ZE f):=by
 with_unfolding_all
  exact B1 Q9 (fun ρ h d v d' h' H Q S R e k=>by
   unfold ZE at e;cases q:QD h d with
   | none=>rw[q]at e;cases e
   | some xs=>
    rw[q]at e;cases e;obtain⟨a,vs,z,sq,r⟩:=FO S R q;exact⟨a,vs,by rw[z],sq,fun l hl=>k _ _ _ (TH S r hl).1 (TH S r hl).2 (Ext.own hl)⟩) hg hm PyProof.Rows.boot_list ha (hs:=hs)
noncomputable def HE:List Dt->Option (List Int)
 | []=>some []
 | .int i::ds=>(HE ds).map fun ns=>i::ns
 | _::_=>none
theorem CJ:∀{ds:List Dt}{ns:List Int},HE ds=some ns->ds=ns.map Dt.int
 | [],_,e=>by simp only[HE]at e;cases e;rfl
 | d::ds,_,e=>by
  cases d with
  | int i=>
   simp only[HE]at e;cases q:HE ds with
   | none=>rw[q]at e;cases e
   | some ns=>rw[q]at e;cases e;rw[CJ q];rfl
  | _=>simp only[HE]at e<;>cases e
def uM:Dt->HI->Option (Dt×HI):=fun d h=>(OB h d).bind fun xs=>(HE xs).map fun ns=>(.int ns.sum,h)
theorem ur (hc:X.calm=true) (hg:Gl X "sum") (hm:X.mg "sum" =none) (ha:EM X e f) (hs:autoParam (DB e=true) zqR._auto_1):EM X (.Call (.Name "sum" p) [e] [] pos) (UC uM f):=by
 with_unfolding_all
  exact YJ (gq hc) (fun ρ h d v d' h' H Q S R e k=>by
   obtain⟨xs,e1,e⟩:=vA e;cases q:HE xs with
   | none=>rw[q]at e;cases e
   | some ns=>
    rw[q]at e;cases e;obtain⟨a,vs,z,sq,r⟩:=PF S R e1;rw[CJ q]at r;rw[r.zan]at sq;exact⟨a,ns,by rw[z],sq,k ρ _ H (rm.mpr rfl) S (Ext.refl _ _)⟩) hg hm PyProof.Rows.boot_sum ha (hs:=hs)
noncomputable def sD:List Int->Int
 | []=>0
 | [a]=>a
 | a::b::r=>max a (sD (b::r))
noncomputable def fC:List Int->Int
 | []=>0
 | [a]=>a
 | a::b::r=>min a (fC (b::r))
theorem OS:∀(ns:List Int),ns ≠ []->sD ns∈ns/\∀a∈ns,a<=sD ns
 | [],h=>absurd rfl h
 | [a],_=>by simp[sD]
 | a::b::r,_=>by
  obtain⟨h1,h2⟩:=OS (b::r) (by simp);simp only[sD];refine⟨?_,fun c hc=>?_⟩
  · rcases Int.le_total a (sD (b::r))with z | z
    · rw[Int.max_eq_right z];exact mem_cons_of_mem _ h1
    · rw[Int.max_eq_left z];exact mem_cons_self
  · rcases mem_cons.mp hc with z | z
    · rw[z];exact Int.le_max_left _ _
    · exact Int.le_trans (h2 c z) (Int.le_max_right _ _)
theorem fH:∀(ns:List Int),ns ≠ []->fC ns∈ns/\∀a∈ns,fC ns<=a
 | [],h=>absurd rfl h
 | [a],_=>by simp[fC]
 | a::b::r,_=>by
  obtain⟨h1,h2⟩:=fH (b::r) (by simp);simp only[fC];refine⟨?_,fun c hc=>?_⟩
  · rcases Int.le_total a (fC (b::r))with z | z
    · rw[Int.min_eq_left z];exact mem_cons_self
    · rw[Int.min_eq_right z];exact mem_cons_of_mem _ h1
  · rcases mem_cons.mp hc with z | z
    · rw[z];exact Int.min_le_left _ _
    · exact Int.le_trans (Int.min_le_right _ _) (h2 c z)
def yH:Dt->HI->Option (Dt×HI):=fun d h=>(OB h d).bind fun xs=>(HE xs).bind fun ns=>if ns ≠ []then some (.int (sD ns),h)else none
def gG:Dt->HI->Option (Dt×HI):=fun d h=>(OB h d).bind fun xs=>(HE xs).bind fun ns=>if ns ≠ []then some (.int (fC ns),h)else none
theorem VZ (hc:X.calm=true) (hg:Gl X "max") (hm:X.mg "max" =none) (ha:EM X e f) (hs:autoParam (DB e=true) zqR._auto_1):EM X (.Call (.Name "max" p) [e] [] pos) (UC yH f):=by
 with_unfolding_all
  exact YJ (Yj hc) (fun ρ h d v d' h' H Q S R e k=>by
   obtain⟨xs,e1,e⟩:=vA e;obtain⟨ns,q,e⟩:=vA e;obtain⟨hne,e⟩:=OE e;cases e;obtain⟨a,vs,z,sq,r⟩:=PF S R e1;rw[CJ q]at r;rw[r.zan]at sq;obtain⟨m1,m2⟩:=OS ns hne;refine⟨a,ns,by rw[z],sq,hne,fun M h1 h2=>?_⟩;have:M=sD ns:=Int.le_antisymm (m2 M h1) (h2 _ m1);rw[this];exact k ρ _ H (rm.mpr rfl) S (Ext.refl _ _)) hg hm PyProof.Rows.boot_max ha (hs:=hs)
theorem ZO (hc:X.calm=true) (hg:Gl X "min") (hm:X.mg "min" =none) (ha:EM X e f) (hs:autoParam (DB e=true) zqR._auto_1):EM X (.Call (.Name "min" p) [e] [] pos) (UC gG f):=by
 with_unfolding_all
  exact YJ (aq hc) (fun ρ h d v d' h' H Q S R e k=>by
   obtain⟨xs,e1,e⟩:=vA e;obtain⟨ns,q,e⟩:=vA e;obtain⟨hne,e⟩:=OE e;cases e;obtain⟨a,vs,z,sq,r⟩:=PF S R e1;rw[CJ q]at r;rw[r.zan]at sq;obtain⟨m1,m2⟩:=fH ns hne;refine⟨a,ns,by rw[z],sq,hne,fun M h1 h2=>?_⟩;have:M=fC ns:=Int.le_antisymm (h2 _ m1) (m2 M h1);rw[this];exact k ρ _ H (rm.mpr rfl) S (Ext.refl _ _)) hg hm PyProof.Rows.boot_min ha (hs:=hs)
noncomputable def MG(h:HI):Dt->Option String
 | .non=>some "NoneType"
 | .bl _=>some "bool"
 | .int _=>some "int"
 | .str _=>some "str"
 | .tup _=>some "tuple"
 | .lst _=>some "list"
 | .ref n=>match h[n]? with | some (.lst _)=>some "list" | _=>none
 | .Ip _=>none
noncomputable def xM (t T:String):Bool:=t==T || (t == "bool" && T == "int")
def lI(T:String)(f:RE):RE:=fun l h=>(f l h).bind fun r=>(MG r.2 r.1).map fun t=>(.bl (xM t T),r.2)
theorem yt (K:Frag):∀t ∈ ["NoneType", "bool", "int", "str", "tuple", "list"],∀T ∈ ["bool", "int", "str", "tuple", "list"],PySem.W.kitOne K (.type t) (.type T)=some (xM t T):=by intro t ht T hT;simp only[mem_cons,mem_nil_iff,or_false]at ht hT;rcases ht with rfl | rfl | rfl | rfl | rfl | rfl<;>rcases hT with rfl | rfl | rfl | rfl | rfl<;>with_unfolding_all rfl
theorem Z5 {h:HI} {d:Dt} {t:String} (e:MG h d=some t):t ∈ ["NoneType", "bool", "int", "str", "tuple", "list"]:=by
 cases d with
 | ref n=>
  simp only[MG]at e;split at e
  · cases e;decide
  · cases e
 | Ip n=>simp only[MG]at e;cases e
 | _=>simp only[MG]at e<;>cases e<;>decide
theorem P7{K:Frag}{H:Hp}{ρ:Rg}{h:HI}{d:Dt}{v:V}{t:String}(S:Dm K ρ h H)(R:zm K H ρ d v)(e:MG h d=some t):Cd K H v t:=by
 cases d with
 | non=>cases Jm.mp R;simp only[MG]at e;cases e;rfl
 | bl b=>cases Am.mp R;simp only[MG]at e;cases e;rfl
 | int b=>cases rm.mp R;simp only[MG]at e;cases e;rfl
 | str b=>cases Nm.mp R;simp only[MG]at e;cases e;rfl
 | tup xs=>obtain⟨a,vs,z,t,rs⟩:=Em.mp R;subst z;simp only[MG]at e;cases e;exact .inr ⟨rfl,vs,t.sq⟩
 | lst xs=>obtain⟨a,vs,z,t,rs⟩:=Cm.mp R;subst z;simp only[MG]at e;cases e;exact .inl ⟨rfl,vs,t.sq⟩
 | ref n=>
  obtain⟨a,z,ha⟩:=Im.mp R;subst z;simp only[MG]at e;split at e
  · rename_i xs q;cases e;obtain⟨vs,h1,Z⟩:=S.lst ha q;exact .inl ⟨rfl,vs,vp.of h1⟩
  · cases e
 | Ip n=>simp only[MG]at e;cases e
theorem IL {T:Str} {TT:String} (hg:Gl X "isinstance") (hm:X.mg "isinstance" =none) (hgT:Gl X T) (hmT:X.mg T=none) (hv:bootBuiltins T=some (.type TT)) (hT:TT ∈ ["bool", "int", "str", "tuple", "list"]) (ha:EM X e f)
 (hnT:autoParam (T ≠ "__name__") zqQ._auto_1) (hdT:autoParam ((T==("__debug__" :Str))=false) zqQ._auto_1)
 (hs:autoParam (DB e=true) zqR._auto_1) :
 EM X (.Call (.Name "isinstance" p) [e,.Name T p2] [] pos) (lI TT f):=by
 with_unfolding_all
  exact PE.imp (dO (Zz (T:=TT)) hg hm PyProof.Rows.boot_isinstance (yD ha (yD (Xg hgT hmT hv (v:=.ty TT) rfl hnT hdT) sE (wB rfl _ _)) (wB hs _ _)) (he:=wB hs _ _)) fun σ H Q zz=>by
   obtain⟨ρ,l,h,d,h',S,L,e,k⟩:=zz;obtain⟨⟨d1,h1⟩,e1,e⟩:=vA e;refine⟨ρ,l,h,d1,h1,S,L,e1,fun ρ1 v H1 R1 S1 E1=>?_⟩;cases q:MG h1 d1 with
   | none=>rw[q]at e;cases e
   | some t=>rw[q]at e;cases e;exact⟨v,t,xM t TT,rfl,P7 S1 R1 q,yt X.K t (Z5 q) TT hT,k ρ1 _ H1 (Am.mpr rfl) S1 E1⟩
abbrev RO:=LI->HI->Option (Option Int×HI)
noncomputable def TV:RO:=fun Z h=>some (none,h)
noncomputable def jM(f:RE):RO:=fun l h=>(f l h).bind fun r=>match r.1 with | .int i=>some (some i,r.2) | _=>none
def Qc(K:Frag)(f:RO):TO:=fun σ H Q=>∃ρ l h o h',Dm K ρ h H/\Jl K H ρ l σ/\f l h=some (o,h')/\zbi K ρ H h' (Q o)
@[irreducible] def B2(X:Cx)(e:Option Expr)(f:RO):Prop:=PO X e (Qc X.K f)
theorem PO.imp{X:Cx}{e:Option Expr}{t t':TO}(h:PO X e t)(i:∀σ H Q,t' σ H Q->t σ H Q):PO X e t':=fun pins s σ H Q I q=>h pins s σ H Q I (i σ H Q q)
theorem Ug:B2 X none TV:=by with_unfolding_all exact PO.imp Ah fun σ H Q zz=>by obtain⟨ρ,l,h,o,h',S,L,e,k⟩:=zz;cases e;exact k ρ H S (Ext.refl _ _)
theorem kU(ha:EM X a fa):B2 X (some a) (jM fa):=by
 with_unfolding_all
  exact PO.imp (Bh ha) fun σ H Q zz=>by
   obtain⟨ρ,l,h,o,h',S,L,e,k⟩:=zz;obtain⟨⟨d1,h1⟩,e1,e⟩:=vA e;refine⟨ρ,l,h,d1,h1,S,L,e1,fun ρ1 v H1 R1 S1 E1=>?_⟩;cases d1 with
   | int i=>cases e;exact⟨i,rm.mp R1,k ρ1 H1 S1 E1⟩
   | _=>cases e
def SG(xs:List Dt)(lo hi:Option Int):List Dt:=(xs.drop (HT.sIx xs.length 0 lo)).take (HT.sIx xs.length xs.length hi-HT.sIx xs.length 0 lo)
def WP(f:RE)(lo hi:RO):RE:=fun l h=>(f l h).bind fun r=>(lo l r.2).bind fun o=>(hi l o.2).bind fun u=>(OB u.2 r.1).map fun xs=>(.lst (SG xs o.1 u.1),u.2)
theorem Vy{K:Frag}{H:Hp}{ρ:Rg}{xs:List Dt}{vs:List V}(r:qm K H ρ xs vs)(lo hi:Option Int):qm K H ρ (SG xs lo hi) (gJ vs lo hi):=by unfold SG gJ;rw[r.length];exact(r.drop _).take _
theorem yY{lo hi:Option Expr}{fl fh:RO}(ha:EM X a fa)(hl:B2 X lo fl)(hh:B2 X hi fh):EM X (.Subscript a (.Slice lo hi none p2) pos) (WP fa fl fh):=by
 with_unfolding_all
  exact PE.imp (Kw Yr ha hl hh) fun σ H Q zz=>by
   obtain⟨ρ,l,h,d,h',S,L,e,k⟩:=zz;obtain⟨⟨d1,h1⟩,e1,e⟩:=vA e;obtain⟨⟨o,h2⟩,e2,e⟩:=vA e;obtain⟨⟨u,h3⟩,e3,e⟩:=vA e;refine⟨ρ,l,h,d1,h1,S,L,e1,fun ρ1 v H1 R1 S1 E1=>⟨ρ1,l,h1,o,h2,S1,L.ext E1,e2,fun ρ2 H2 S2 E2=>⟨ρ2,l,h2,u,h3,S2,L.ext (E1.trans E2),e3,fun ρ3 H3 S3 E3=>?_⟩⟩⟩;cases q:OB h3 d1 with
   | none=>dsimp only at e;rw[q]at e;cases e
   | some xs=>dsimp only at e;rw[q]at e;cases e;obtain⟨x,vs,z,sq,r⟩:=PF S3 (zm.ext (E2.trans E3) _ R1) q;exact⟨x,vs,z,sq,fun p hp=>k ρ3 _ _ (dP S3 (Vy r o u) hp) (S3.fresh hp) (E1.trans (E2.trans (E3.trans (Ext.fresh hp))))⟩
noncomputable def W3(fo fa:RE):RE:=fun l h=>(fo l h).bind fun r=>match r.1 with
 | .ref n=>(fa l r.2).bind fun q=>match q.2[n]? with
  | some (.lst xs)=>if xs.length<sizeLine then some (.non,q.2.set n (.lst (xs++[q.1])))else none
  | _=>none
 | _=>none
theorem JU {K:Frag} {H:Hp} {ρ:Rg} {h:HI} {n:Nat} {xs:List Dt} {v:V} (S:Dm K ρ h H) (R:zm K H ρ (.ref n) v) (e:h[n]?=some (.lst xs)):u5 K "list" v H:=by obtain⟨a,z,ha⟩:=Im.mp R;subst z;obtain⟨vs,h1,Z⟩:=S.lst ha e;exact .inl ⟨rfl,vs,vp.of h1⟩
def GD(fa fb:RE):RE:=fun l h=>(fa l h).bind fun r=>match r.1 with
 | .ref n=>match r.2[n]? with
  | some (.lst _)=>W3 (eC (.ref n)) fb l r.2
  | _=>none
 | _=>none
theorem DE {apos cpos:Pos} (ho:EM X a fa) (hb:EM X b fb) (hbase:autoParam (attributeBase a "append" X.env (eval a X.env)=eval a X.env) zqR._auto_1)
 (hline:autoParam ((apos.endLine==cpos.line)=true) zqR._auto_1) (hs:autoParam (DB b=true) zqR._auto_1) :
 EM X (.Call (.Attribute a "append" apos) [b] [] cpos) (GD fa fb):=by
 with_unfolding_all
  exact PE.imp (YL PySem.F.plainAttrs_list PySem.F.slot_list_append PySem.F.type_list_append kX ho (yD hb sE (wB hs _ _)) hbase (CL hs) hline (wB hs _ _)) fun σ H Q zz=>by
   obtain⟨ρ,l,h,d,h',S,L,e,k⟩:=zz;obtain⟨⟨d1,h1⟩,e1,e⟩:=vA e;refine⟨ρ,l,h,d1,h1,S,L,e1,fun ρ1 v H1 R1 S1 E1=>?_⟩;cases d1 with
   | ref n=>
    dsimp only at e;split at e
    · rename_i xs0 q0;obtain⟨⟨d0,h0⟩,z0,e⟩:=vA e;cases z0;dsimp only at e;obtain⟨⟨d2,h2⟩,e2,e⟩:=vA e;refine⟨JU S1 R1 q0,ρ1,l,h1,d2,h2,S1,L.ext E1,e2,fun ρ2 y H2 R2 S2 E2=>?_⟩;dsimp only at e;split at e
      · rename_i xs q;obtain⟨hz,e⟩:=OE e;cases e;obtain⟨a,z,ha⟩:=Im.mp R1;subst z;have ha2:=E2.get ha;obtain⟨vs,g1,g2⟩:=S2.lst ha2 q;have hm:=mem_of_getElem? ha2;refine⟨a,vs,y,rfl,rfl,g1,by rw[g2.length];exact hz,k ρ2 _ _ (Jm.mpr rfl) (S2.write ha2 (FH g1) ⟨_,jD,?_⟩) (E1.trans (E2.trans (Ext.write hm (FH g1))))⟩;exact(g2.append (.cons R2 .nil)).ext (Ext.write hm (FH g1))
      · cases e
    · cases e
   | _=>cases e
end
def VF:List Dt->Dt->Option Nat
 | [],_=>none
 | y::ys,x=>if bD y x=true then some 0 else(VF ys x).map (· + 1)
theorem fX:∀{ys:List Dt}{x:Dt}{j:Nat},VF ys x=some j->(∃y,ys[j]?=some y/\bD y x=true)/\∀(m:Nat),m<j->∃y,ys[m]?=some y/\bD y x=false
 | [],_,_,e=>by simp only[VF]at e;cases e
 | y::ys,x,j,e=>by
  simp only[VF]at e;by_cases h:bD y x=true
  · rw[if_pos h]at e;cases e;exact⟨⟨y,rfl,h⟩,fun m hm=>absurd hm (Nat.not_lt_zero _)⟩
  · rw[if_neg h]at e;cases q:VF ys x with
    | none=>rw[q]at e;cases e
    | some k=>
     rw[q]at e;cases e;obtain⟨⟨z,z1,z2⟩,no⟩:=fX q;refine⟨⟨z,by simpa using z1,z2⟩,fun m hm=>?_⟩;cases m with
     | zero=>exact⟨y,rfl,by simpa using h⟩
     | succ m=>obtain⟨u,u1,u2⟩:=no m (Nat.lt_of_succ_lt_succ hm);exact⟨u,by simpa using u1,u2⟩
section
variable{X:Cx}{pins:List (Addr×Obj)}{σ:L2.St}{H:Hp}{s:Shared}{ρ:Rg}
def nK(xs:List Dt)(d:Dt)(k:Nat):Bool:=match xs[k]? with | some z=>bD z d | none=>false
theorem yN:∀{xs:List Dt}{k:Nat}{z:Dt},MC xs=true->xs[k]?=some z->EB z=true
 | [],_,_,_,e=>by simp at e
 | x::xs,0,z,h,e=>by simp only[MC,Bool.and_eq_true]at h;simp at e;subst e;exact h.1
 | x::xs,k+1,z,h,e=>by simp only[MC,Bool.and_eq_true]at h;exact yN h.2 (by simpa using e)
theorem uX:∀{xs:List Dt}{k:Nat}{z:Dt},xs[k]?=some z->yG z<=JD xs
 | [],_,_,e=>by simp at e
 | x::xs,0,z,e=>by simp at e;subst e;simp only[JD];exact Nat.le_max_left _ _
 | x::xs,k+1,z,e=>by simp only[JD];exact zxA (uX (xs:=xs) (k:=k) (by simpa using e)) (Nat.le_max_right _ _)
open Classical in
theorem T7(I:Inv X pins σ H s){xs:List Dt}{d:Dt}{ws:List V}{v:V}{its:List Value}{u:Value}(A:Around)(p:MC xs=true)(p':EB d=true)(hu:A.units+JD xs<cLine)(rs:qm X.K H ρ xs ws)(rd:zm X.K H ρ d v)(rv:Vals ws its)(ru:RelV v u) :
 ∃e:Value->Bool,(∀(k:Nat)(hk:k<its.length),e its[k]=nK xs d k)/\∀y∈its,SeqAt.EqAt A s y u (e y):=by
 have key:∀(k:Nat)(y:Value),its[k]?=some y->∃z w,xs[k]?=some z/\ws[k]?=some w/\zm X.K H ρ z w/\RelV w y:=fun k y e=>by
  have hl:=rv.length;have hk:k<xs.length:=by have:=(zfR e).1;have h2:=rs.length;omega
  obtain⟨w,w1,w2⟩:=rs.get (getElem?_eq_getElem hk);obtain⟨y',y1,y2⟩:=rv.get w1;rw[e]at y1;cases y1;exact⟨_,w,getElem?_eq_getElem hk,w1,w2,y2⟩
 have same:∀(k m:Nat)(y:Value),its[k]?=some y->its[m]?=some y->nK xs d k=nK xs d m:=fun k m y e1 e2=>by obtain⟨z,w,a1,Z,a3,a4⟩:=key k y e1;obtain⟨z',w',b1,Z,b3,b4⟩:=key m y e2;have ew:=RelV.inj a4 b4;subst ew;have ez:=EO I z z' (yN p a1) (yN p b1) a3 b3;unfold nK;rw[a1,b1,ez]
 refine⟨fun y=>if h:∃k,its[k]?=some y then nK xs d h.choose else false,fun k hk=>?_,fun y hy=>?_⟩
 · have hex:∃m,its[m]?=some its[k]:=⟨k,getElem?_eq_getElem hk⟩
   dsimp only;rw[dif_pos hex];exact same _ _ _ hex.choose_spec (getElem?_eq_getElem hk)
 · obtain⟨k,hk⟩:=mem_iff_getElem?.mp hy;have hex:∃m,its[m]?=some y:=⟨k,hk⟩
   dsimp only;rw[dif_pos hex];obtain⟨z,w,a1,Z,a3,a4⟩:=key _ y hex.choose_spec;have ec:nK xs d hex.choose=bD z d:=by unfold nK;rw[a1]
   rw[ec];exact XZ I z d A (yN p a1) p' (by have:=uX a1;omega) a3 rd a4 ru
theorem Sh{xs:List Dt}{d:Dt}{j:Nat}(h:VF xs d=some j):j<xs.length/\nK xs d j=true/\∀m,m<j->nK xs d m=false:=by obtain⟨⟨y,y1,y2⟩,no⟩:=fX h;refine⟨(zfR y1).1,by unfold nK;rw[y1];exact y2,fun m hm=>?_⟩;obtain⟨z,z1,z2⟩:=no m hm;unfold nK;rw[z1];exact z2
end
def YI(xs:List Dt)(d:Dt):Bool:=MC xs&&EB d&&decide (JD xs<=50)
def Q4(K:Frag)(tup:Bool):V->List V->Hp->VK->Prop:=fun x vs H Q=>∃ρ xs d y a ws j,x=.ref a/\vs=[y]/\(if tup=true then aJ K H a ws else vp K H a ws)/\qm K H ρ xs ws/\zm K H ρ d y/\YI xs d=true/\VF xs d=some j/\Q (.int (j:Nat)) H
section
variable{X:Cx}{a b:Expr}{fa fb:RE}
theorem Yx (hu:X.A.units+64<cLine):L3 X "list.index" (Q4 X.K false):=by
 intro pins s σ H x vs v us Q I rx rv h;obtain⟨ρ,xs,d,y,p,ws,j,rfl,rfl,sq,rs,rd,ok,hj,q⟩:=h;rw[if_neg zfT]at sq;cases rx;obtain⟨u,rfl,ru⟩:=TF rv;simp only[YI,Bool.and_eq_true,decide_eq_true_eq]at ok;obtain⟨its,rw',⟨⟨c1,d1,t1,sl1⟩,n,e0,k1,k2,k3⟩,z⟩:=I.list sq;simp only at k1 k2 k3;subst k1 k2 k3;obtain⟨e,e1,e2⟩:=T7 I X.A.in1 ok.1.1 ok.1.2 (by have:=QN X.A;omega) rs rd rw' ru;obtain⟨j1,j2,j3⟩:=Sh hj;have hl:its.length=xs.length:=by rw[<- rw'.length,rs.length]
 have hz:j<its.length:=by omega
 have hn:=JI;refine call_meets PySem.F.slot_list_index ⟨_,e0,rfl⟩ PySem.F.entry_list_index (PySem.F.args_list_index_2 _ _)
  (SeqAt.list_indexAt p its.toArray n none sl1 u e j (by rw[size_toArray];exact hz) (by have:=rw'.length;omega) ?_ ?_) ⟨e0,fun y hy=>e2 y (by simpa using hy),⟨.int (j:Nat),H,I.tok _,⟨_,rfl⟩,q⟩⟩
 · have:=e1 j hz;rw[j2]at this;simpa using this
 · intro m hm hmj;rw[size_toArray]at hm;have:=e1 m hm;rw[j3 m hmj]at this;simpa using this
def iP(fo fa:RE):RE:=fun l h=>(fo l h).bind fun r=>(fa l r.2).bind fun q=>match r.1 with
 | .lst xs=>if YI xs q.1=true then(VF xs q.1).map fun j=>(.int (j:Nat),q.2)else none
 | _=>none
theorem Pz {apos cpos:Pos} (hu:X.A.units+64<cLine) (ho:EM X a fa) (hb:EM X b fb) (hbase:autoParam (attributeBase a "index" X.env (eval a X.env)=eval a X.env) zqR._auto_1)
 (hline:autoParam ((apos.endLine==cpos.line)=true) zqR._auto_1) (hs:autoParam (DB b=true) zqR._auto_1) :
 EM X (.Call (.Attribute a "index" apos) [b] [] cpos) (iP fa fb):=by
 with_unfolding_all
  exact PE.imp (YL PySem.F.plainAttrs_list PySem.F.slot_list_index PySem.F.type_list_index (Yx hu) ho (yD hb sE (wB hs _ _)) hbase (CL hs) hline (wB hs _ _)) fun σ H Q zz=>by
   obtain⟨ρ,l,h,d,h',S,L,e,k⟩:=zz;obtain⟨⟨d1,h1⟩,e1,e⟩:=vA e;obtain⟨⟨d2,h2⟩,e2,e⟩:=vA e;refine⟨ρ,l,h,d1,h1,S,L,e1,fun ρ1 v H1 R1 S1 E1=>?_⟩;cases d1 with
   | lst xs=>
    obtain⟨x,ws,z,t,rs⟩:=Cm.mp R1;subst z;refine⟨.inl ⟨rfl,ws,t.sq⟩,ρ1,l,h1,d2,h2,S1,L.ext E1,e2,fun ρ2 y H2 R2 S2 E2=>?_⟩;dsimp only at e;by_cases ok:YI xs d2=true
    · rw[if_pos ok]at e;cases q:VF xs d2 with
      | none=>rw[q]at e;cases e
      | some j=>rw[q]at e;cases e;exact⟨ρ2,xs,d2,y,x,ws,j,rfl,rfl,by rw[if_neg zfT];exact(t.same E2.same).sq,rs.ext E2,R2,ok,q,k ρ2 _ H2 (rm.mpr rfl) S2 (E1.trans E2)⟩
    · rw[if_neg ok]at e;cases e
   | _=>cases e
noncomputable def VD(K:Frag):Nat->Value->Option Dt
 | _,.none=>some .non
 | _,.bool b=>some (.bl b)
 | _,.int i _=>some (.int i)
 | _,.str x _=>some (.str x)
 | 0,_=>none
 | n+1,.ref a=>match K.lookup a with
  | some ⟨.type T,dd,.seq its _,_⟩=>if its.size<=sizeLine then
   if T = "tuple" then(its.toList.mapM (VD K n)).map .tup
   else if T = "list" then match dd with | none=>(its.toList.mapM (VD K n)).map .lst | some _=>none
   else none
   else none
  | _=>none
 | _,_=>none
noncomputable def FV:Value->V
 | .none=>.non
 | .bool b=>.bl b
 | .int i _=>.int i
 | .str x _=>.str x
 | .ref a=>.ref a
 | _=>.non
theorem aT{K:Frag}{H:Hp}{ρ:Rg}{f:Value->Option Dt}(h:∀u d,f u=some d->RelV (FV u) u/\zm K H ρ d (FV u)):∀{us:List Value}{ds:List Dt},us.mapM f=some ds->Vals (us.map FV) us/\qm K H ρ ds (us.map FV)
 | [],_,e=>by simp at e;subst e;exact⟨.nil,.nil⟩
 | u::us,ds,e=>by
  rw[mapM_cons]at e;cases q:f u with
  | none=>rw[q]at e;cases e
  | some d=>
   rw[q]at e;cases q2:us.mapM f with
   | none=>rw[q2]at e;cases e
   | some ds'=>rw[q2]at e;cases e;obtain⟨h1,h2⟩:=h u d q;obtain⟨h3,h4⟩:=aT h q2;exact⟨.cons h1 h3,.cons h2 h4⟩
theorem IX{K:Frag}{H:Hp}{ρ:Rg}:∀(n:Nat)(u:Value)(d:Dt),VD K n u=some d->RelV (FV u) u/\zm K H ρ d (FV u):=by
 intro n
 induction n with
 | zero=>
  intro u d e;cases u with
  | none=>simp only[VD]at e;cases e;exact⟨rfl,Jm.mpr rfl⟩
  | bool b=>simp only[VD]at e;cases e;exact⟨rfl,Am.mpr rfl⟩
  | int i t=>simp only[VD]at e;cases e;exact⟨⟨_,rfl⟩,rm.mpr rfl⟩
  | str x t=>simp only[VD]at e;cases e;exact⟨⟨_,rfl⟩,Nm.mpr rfl⟩
  | _=>simp only[VD]at e<;>cases e
 | succ n ih=>
  intro u d e;cases u with
  | none=>simp only[VD]at e;cases e;exact⟨rfl,Jm.mpr rfl⟩
  | bool b=>simp only[VD]at e;cases e;exact⟨rfl,Am.mpr rfl⟩
  | int i t=>simp only[VD]at e;cases e;exact⟨⟨_,rfl⟩,rm.mpr rfl⟩
  | str x t=>simp only[VD]at e;cases e;exact⟨⟨_,rfl⟩,Nm.mpr rfl⟩
  | ref a=>
   simp only[VD]at e;split at e
   · rename_i T dd its m sl q;by_cases hz:its.size<=sizeLine
     · rw[if_pos hz]at e;by_cases hT:T = "tuple"
       · rw[if_pos hT]at e;cases q2:its.toList.mapM (VD K n)with
         | none=>rw[q2]at e;cases e
         | some ds=>rw[q2]at e;cases e;obtain⟨h1,h2⟩:=aT (K:=K) (H:=H) (ρ:=ρ) ih q2;subst hT;exact⟨rfl,Em.mpr ⟨a,_,rfl,.inr ⟨_,its,m,q,rfl,rfl,hz,h1⟩,h2⟩⟩
       · rw[if_neg hT]at e;by_cases hT2:T = "list"
         · rw[if_pos hT2]at e;split at e
           · cases q2:its.toList.mapM (VD K n)with
             | none=>rw[q2]at e;cases e
             | some ds=>rw[q2]at e;cases e;obtain⟨h1,h2⟩:=aT (K:=K) (H:=H) (ρ:=ρ) ih q2;subst hT2;exact⟨rfl,Cm.mpr ⟨a,_,rfl,.inr ⟨_,its,m,q,rfl,rfl,rfl,hz,h1⟩,h2⟩⟩
           · cases e
         · rw[if_neg hT2]at e;cases e
     · rw[if_neg hz]at e;cases e
   · cases e
  | _=>simp only[VD]at e<;>cases e
structure jK(K:Frag)(mg:Str->Option Value)(x:Str)(d:Dt):Prop where
 ex:∃u n,mg x=some u/\VD K n u=some d
theorem SJ {x:Str} {d:Dt} {pos:Pos} (hg:Gl X x) (c:jK X.K X.mg x d) (hd:autoParam ((x==("__debug__" :Str))=false) zqQ._auto_1):EM X (.Name x pos) (eC d):=by with_unfolding_all obtain⟨u,n,h1,h2⟩:=c.ex;exact Ey hg h1 (IX (H:=fun Z=>none) (ρ:=.nil) n u d h2).1 (fun H ρ=>(IX n u d h2).2) hd
end
theorem Wr{K:Frag}{F:IB}{n:Nat}(h:∀ns:List Int,ns.length<=n->∃h',F [.lst (ns.map Dt.int)] []=some (.bl true,h'))(H:Hp)(a:Addr)(ns:List Int)(hl:ns.length<=n)(hS:vp K H a (ns.map V.int)) :
 dJ K 1 F [.ref a] H (fun v Z=>v=.bl true) fun Z Z Z=>False:=by
 obtain⟨h',e⟩:=h ns hl;have R:zm K H .nil (.lst (ns.map Dt.int)) (.ref a):=Cm.mpr ⟨a,_,rfl,by
  rcases hS with hS | hS
  · exact .inl ⟨⟨by simp[Rg.nil],by simp[Rg.nil]⟩,hS⟩
  · exact .inr hS,qm.ints ns⟩
 exact⟨.nil,[.lst (ns.map Dt.int)],[],.bl true,h',Dm.nil,.cons R .nil,rfl,e,fun ρ' v H' R' S' E'=>Am.mp R'⟩
structure OC(P:Program)(w:World)(K:Frag)(mg:Str->Option Value)(base:Heap)(k n:Nat)(x:Str)(F:IB):Prop where
 ex:∃f fd ps,Xl P w K mg base cG k f fd ps (dJ K n F)/\mg x=some (.ref f)/\keepIn K (.ref f)=true/\Binds K fd ps []
 len:∀ds h r,F ds h=some r->ds.length=n
structure iB(K:Frag)(mg:Str->Option Value)(x:Str)(st:Stmt)(ps:List Str):Prop where
 ex:∃f fd,Fun K x x st f fd/\mg x=some (.ref f)/\Binds K fd ps []
section
variable{P:Program}{w:World}{K:Frag}{mg:Str->Option Value}{base:Heap}
theorem Hr{x qual:Str}{st:Stmt}{f:Addr}{fd:FuncData}{N ps:List Str}{k n m:Nat}{body:RS}(F:Fun K x qual st f fd)(S:SA N ps (BA st))(hn:ps.length=n)(hm:N.length=m)
 (hb:∀(cdv:Value)(A:Around)(outer:List Env)(s:Shared)(H:Hp)(E:XK),Ym k (A.deeper (envOfC qual (BA st) s.heap.objs.size f cdv))->
  kI (HF cG P w K mg base N qual (BA st) f cdv A outer s H E).nox (FD st) body):Xl P w K mg base cG (k+1) f fd ps (dJ K n (cC n m body)):=by
 with_unfolding_all subst hn hm;exact nP F S hb
theorem vB{x:Str}{st:Stmt}{N ps:List Str}{k n m:Nat}{body:RS}(D:iB K mg x st ps)(S:SA N ps (BA st))(hn:ps.length=n)(hm:N.length=m)
 (hb:∀(f:Addr)(cdv:Value)(A:Around)(outer:List Env)(s:Shared)(H:Hp)(E:XK),Ym k (A.deeper (envOfC x (BA st) s.heap.objs.size f cdv))->
  kI (HF cG P w K mg base N x (BA st) f cdv A outer s H E).nox (FD st) body):OC P w K mg base (k+1) n x (cC n m body):=by
 with_unfolding_all subst hn hm;obtain⟨f,fd,hF,hm,hB⟩:=D.ex;exact⟨⟨f,fd,ps,nP hF S fun cdv A outer s H E hr=>hb f cdv A outer s H E hr,hm,hF.kp,hB⟩,fun ds h r e=>AO e⟩
end
section
variable{X:Cx}{k k' n:Nat}{F:IB}{x:Str}{p pos:Pos}{e:Expr}{es:List Expr}{g:RA}
theorem RH (c:OC X.prog X.w X.K X.mg X.base k n x F) (hr:Ym k' X.A) (hk:k<=k') (hg:Gl X x) (ha:AM X (e::es) g) (hdb:autoParam ((x==("__debug__" :Str))=false) zqQ._auto_1)
 (he:autoParam (DB e=true) zqR._auto_1) (hpl:autoParam (es.all DB=true) zqR._auto_1) :
 EM X (.Call (.Name x p) (e::es) [] pos) (zA F [] g):=by
 with_unfolding_all obtain⟨f,fd,ps,h1,h2,h3,h4⟩:=c.ex;exact wY h1 (hr.mono hk) hg h2 h3 h4 .nil (fun Z Z=>.nil) ha (fun F' e ds h r q=>c.len ds h r (e ▸ q)) hdb he hpl
theorem Lz (c:OC X.prog X.w X.K X.mg X.base k n x F) (hr:Ym k' X.A) (hk:k<=k') (hg:Gl X x) (hdb:autoParam ((x==("__debug__" :Str))=false) zqQ._auto_1) :
 EM X (.Call (.Name x p) [] [] pos) (VO F []):=by
 with_unfolding_all obtain⟨f,fd,ps,h1,h2,h3,h4⟩:=c.ex;exact uz h1 (hr.mono hk) hg h2 h3 h4 .nil (fun Z Z=>.nil) (fun F' e ds h r q=>c.len ds h r (e ▸ q)) hdb
end
theorem Vk{l:PySem.W.OpenLaw}{q:Program}{loose:List Str}{XP:(Str->Option Value)->Heap->Prop}{YP:World->Heap->Prop}{d:DefRec}{K:Params->Frag}{F:IB}{k:Nat}{x:Str}(hn:l.most=some 63)(hdf:d.params.defaults=[])(hr:Ym k callerA)
 (hY:∀(w:World)(h:Heap),YP w h->(K w.params).In h)
 (hF:∀(w:World)(mg:Str->Option Value)(fa:Addr)(h:Heap),(K w.params).In h->h.Ns mainGlobals mg->mg d.name=some (.ref fa)->
  ∃fd:FuncData,(∀(s:Shared)(u:Value),BindsTo s fd ⟨[u],[]⟩ [(x,u)])/\∀base:Heap,(K w.params).In base->base.Ns mainGlobals mg->Xl l.prog w (K w.params) mg base cG k fa fd [x] (dJ (K w.params) 1 F))
 (h:∀ns:List Int,ns.length<=63->∃h',F [.lst (ns.map Dt.int)] []=some (.bl true,h')):PySem.W.WalkO q loose XP YP l.row.toRowW d [] (fun f vs=>PySem.call f vs):=
 L2.zf (n:=63) (k:=k) (x:=x) (CX:=fun Z=>cG) (sp:=fun w=>dJ (K w.params) 1 F) hn (by decide) hdf hr hY hF (fun w H a ns hl Z hS=>Wr h H a ns hl hS) fun Z Z Z Z Z z=>z
end SM
namespace L2
section
variable{X:Cx}
theorem LU:∀{bs:List Bool}{us:List Value},Vals (bs.map V.bl) us->∀(i:Nat)(v:Value),us[i]?=some v->v=.bool (bs.getD i false)
 | [],us,r,i,v,e=>by cases r;simp at e
 | b::bs,us,r,i,v,e=>by
  cases r with
  | cons r rr=>
   cases i with
   | zero=>simp at e;subst e;exact r
   | succ i=>simpa using LU rr i v (by simpa using e)
theorem Uz(bs:List Bool):(range bs.length).all (fun i=>bs.getD i false)=bs.all id:=by
 induction bs with
 | nil=>rfl
 | cons b bs ih=>
  rw[zfH,range_succ_eq_map,all_cons,all_map,all_cons];have:((fun i=>(b::bs).getD i false) ∘ Nat.succ)=fun i=>bs.getD i false:=by
   funext i
   simp
  rw[this,ih];simp
theorem Qq (hc:X.calm=true):Hl X (.builtin "all") (fun xs H Q=>∃(p:Addr) (bs:List Bool),xs=[.ref p]/\vp X.K H p (bs.map V.bl)/\Q (.bl (bs.all id)) H):=by
 intro pins s σ H xs us Q I r h;obtain⟨p,bs,rfl,hq,q⟩:=h;obtain⟨u,rfl,rx⟩:=TF r;cases rx;obtain⟨its,r',pl,hz⟩:=I.list hq;have hlt:p<s.heap.objs.size:=by obtain⟨Z,e,Z⟩:=pl.isList;exact Heap.lt_size e
 refine call_all_walk (wpAny_pyIter_list pl.isList ?_);refine⟨_,_,_,_,_,_,fun i=>bs.getD i false,rfl,Walks.list (A:=X.A.in1) (I.ok.hd hc) s.heap.objs.size p (zxD hlt) its.toArray,⟨⟨_,Heap.get?_push_size _ rfl,rfl,rfl⟩,pl.isList.push _⟩,?_,fun h' tk k=>?_⟩
 · intro i v s2 Q2 E2 hv hQ;have e:=LU r' i v (by simpa using hv);subst e;exact wpAny_truthy_bool hQ
 · have hl:=r'.length;have e:(range its.toArray.size).all (fun i=>bs.getD i false)=bs.all id:=by rw[show its.toArray.size=bs.length by simp at hl ⊢;omega,Uz]
   rw[e];exact⟨.bl (bs.all id),H,I.kept (old_kept k),rfl,q⟩
end
end L2
namespace SM
noncomputable def VE:List Dt->Option (List Bool)
 | []=>some []
 | .bl b::ds=>(VE ds).map fun bs=>b::bs
 | _::_=>none
theorem lO:∀{ds:List Dt}{bs:List Bool},VE ds=some bs->ds=bs.map Dt.bl
 | [],bs,e=>by simp only[VE]at e;cases e;rfl
 | d::ds,bs,e=>by
  cases d with
  | bl b=>
   simp only[VE]at e;cases q:VE ds with
   | none=>rw[q]at e;cases e
   | some cs=>rw[q]at e;cases e;rw[lO q];rfl
  | _=>simp only[VE]at e<;>cases e
theorem qm.za1{K:Frag}{H:Hp}{ρ:Rg}:∀{bs:List Bool}{vs:List V},qm K H ρ (bs.map Dt.bl) vs->vs=bs.map V.bl
 | [],_,h=>h.Ql
 | n::ns,_,h=>by obtain⟨v,r,rfl,h1,h2⟩:=qm.Km h;simp only[zm]at h1;rw[h1,qm.za1 h2];rfl
def qK:Dt->HI->Option (Dt×HI):=fun d h=>(OB h d).bind fun xs=>(VE xs).map fun bs=>(.bl (bs.all id),h)
section
variable{X:Cx}{e:Expr}{f:RE}{p pos:Pos}
theorem Vf (hc:X.calm=true) (hg:Gl X "all") (hm:X.mg "all" =none) (ha:EM X e f) (hs:autoParam (DB e=true) zqR._auto_1):EM X (.Call (.Name "all" p) [e] [] pos) (UC qK f):=by
 with_unfolding_all
  exact YJ (Qq hc) (fun ρ h d v d' h' H Q S R e k=>by
   obtain⟨xs,e1,e⟩:=vA e;cases q:VE xs with
   | none=>rw[q]at e;cases e
   | some ns=>
    rw[q]at e;cases e;obtain⟨a,vs,z,sq,r⟩:=PF S R e1;rw[lO q]at r;rw[r.za1]at sq;exact⟨a,ns,by rw[z],sq,k ρ _ H (Am.mpr rfl) S (Ext.refl _ _)⟩) hg hm PyProof.Rows.boot_all ha (hs:=hs)
end
noncomputable def XI:Nat->List Dt->List Dt
 | _,[]=>[]
 | k,x::xs=>.tup [.int (k:Int),x]::XI (k+1) xs
noncomputable def dF(i j:Nat):RG:=fun d l=>match d with
 | .tup [a,b]=>some ((l.set i (some a)).set j (some b))
 | _=>none
end SM
namespace L2
section
variable{X:Cx}{pins:List (Addr×Obj)}{σ:List (Option V)}{H:Hp}{s:Shared}{h':Heap}
theorem Inv.zbU{t':Nat}{e it p:Addr}{xs:List V}(I:Inv X pins σ H s)(k:∀b o,b≠e->b≠it->s.heap.get? b=some o->h'.get? b=some o)(fe:vF X pins H e)(fi:vF X pins H it)(hp:s.heap.objs.size<=p)
 (new:Rm X.prog X.w (PB H p (.tup xs)) h' p (.tup xs)):Inv X pins σ (PB H p (.tup xs)) { s with heap:=h',toks:=t' }:=by
 obtain⟨e0,e1,e2,e3,e4,e5⟩:=fe;obtain⟨i0,i1,i2,i3,i4,i5⟩:=fi;have hn:H p=none:=I.hok.fresh hp;have ne:∀b u,H b=some u->b≠e:=fun b u q z=>by rw[z,e0]at q;cases q
 have ni:∀b u,H b=some u->b≠it:=fun b u q z=>by rw[z,i0]at q;cases q
 have nc:∀{b},b ∉ [e,it]->b≠e/\b≠it:=fun hc=>⟨fun z=>hc (by simp[z]),fun z=>hc (by simp[z])⟩
 refine I.step (g':=s.gens) (d':=s.drawn) (ch:=[e,it]) (fun b hb=>?_) (fun b o Z Z hc q Z=>k b o (nc hc).1 (nc hc).2 q) (fun b o Z Z hc q Z=>⟨o.slots,k b o (nc hc).1 (nc hc).2 q⟩)
  (fun b o Z q n=>by rw[ZA (zxD (zxC (Heap.lt_size q) hp))];exact n)
  (fun b o hc q=>⟨o,k b o (nc hc).1 (nc hc).2 q⟩) (fun b ys q=>by rw[ZA (wD q hn)];exact q) (fun b o u q=>by rw[ZA (wD q hn)];exact q)
  (fun b ps q=>⟨#[],by rw[ZA (wD q hn),q];simp⟩) (fun m hm=>?_) (fun b u q=>?_) I.bare
 · have z:b=e\/b=it:=by simpa using hb
   rcases z with rfl | rfl
   · exact⟨e3,e1,e4,e5⟩
   · exact⟨i3,i1,i4,i5⟩
 · obtain⟨o,es,ep,ho,r⟩:=hm;exact⟨o,es,ep,k _ o (Ne.symm e1) (Ne.symm i1) ho,r⟩
 · by_cases hb:b=p
   · subst hb;rw[jD]at q;cases q;exact new
   · rw[ZA hb]at q;refine(I.hok b u q).stay (fun c v hc q'=>?_) (fun c q=>by rw[ZA (wD q hn)];exact q) fun c ys q=>by rw[ZA (wD q hn)];exact q
     rcases hc with z | z
     · subst z;exact k c v (ne c u q) (ni c u q) q'
     · exact k c v (ne c _ z) (ni c _ z) q'
theorem Inv.zbD{t':Nat}{e it:Addr}(I:Inv X pins σ H s)(k:∀b o,b≠e->b≠it->s.heap.get? b=some o->h'.get? b=some o)(fe:vF X pins H e)(fi:vF X pins H it):Inv X pins σ H { s with heap:=h',toks:=t' }:=by
 obtain⟨e0,e1,e2,e3,e4,e5⟩:=fe;obtain⟨i0,i1,i2,i3,i4,i5⟩:=fi;have ne:∀b u,H b=some u->b≠e:=fun b u q z=>by rw[z,e0]at q;cases q
 have ni:∀b u,H b=some u->b≠it:=fun b u q z=>by rw[z,i0]at q;cases q
 have nc:∀{b},b ∉ [e,it]->b≠e/\b≠it:=fun hc=>⟨fun z=>hc (by simp[z]),fun z=>hc (by simp[z])⟩
 refine I.step (g':=s.gens) (d':=s.drawn) (ch:=[e,it]) (fun b hb=>?_) (fun b o Z Z hc q Z=>k b o (nc hc).1 (nc hc).2 q) (fun b o Z Z hc q Z=>⟨o.slots,k b o (nc hc).1 (nc hc).2 q⟩)
  (fun b o Z q n=>n) (fun b o hc q=>⟨o,k b o (nc hc).1 (nc hc).2 q⟩) (fun b ys q=>q) (fun b o u q=>q)
  (fun b ps q=>⟨#[],by rw[q];simp⟩) (fun m hm=>?_) (fun b u q=>?_) I.bare
 · have z:b=e\/b=it:=by simpa using hb
   rcases z with rfl | rfl
   · exact⟨e3,e1,e4,e5⟩
   · exact⟨i3,i1,i4,i5⟩
 · obtain⟨o,es,ep,ho,r⟩:=hm;exact⟨o,es,ep,k _ o (Ne.symm e1) (Ne.symm i1) ho,r⟩
 · refine(I.hok b u q).stay (fun c v hc q'=>?_) (fun c q=>q) fun c ys q=>q
   rcases hc with z | z
   · subst z;exact k c v (ne c u q) (ni c u q) q'
   · exact k c v (ne c _ z) (ni c _ z) q'
end
def jd(K:Frag)(a:Addr):It:=
 ⟨fun i H=>∃xs x,vp K H a xs/\xs[i]?=some x,fun i H x H'=>∃p y,H p=none/\x=.ref p/\(∀xs,vp K H a xs->xs[i]?=some y)/\H'=PB H p (.tup [.int (i:Nat),y]),fun i H=>∃xs,vp K H a xs/\xs.length<=i⟩
theorem bw{P:Program}{w:World}{K:Frag}{elts:List Expr}{x1}{pos:Pos}(a e it:Addr)(hne:e≠it):jI P w K (.Tuple elts x1 pos) (jd K a) [e,it] e (fun i h=>(∃old,IsEnum h e it i old)/\h.IsListIter it a i) where
 mem:=by simp
 obj:=fun i h st b hb=>by
  obtain⟨⟨old,s1⟩,s2⟩:=st;have z:b=e\/b=it:=by simpa using hb
  rcases z with rfl | rfl
  · exact⟨_,s1,fun v z=>by cases z⟩
  · obtain⟨o,e,c,d⟩:=s2;exact⟨o,e,fun v z=>by rw[d]at z;cases z⟩
 keep:=fun i h h' st k=>by obtain⟨⟨old,s1⟩,s2⟩:=st;exact⟨⟨old,k e (by simp) _ s1⟩,s2.at fun o e=>k it (by simp) o e⟩
 item:=by
  intro X hP hw hK hc i pins s σ H E I hf st hg;subst hP hw hK;obtain⟨⟨old,s1⟩,s2⟩:=st;obtain⟨xs,x,hq,hx⟩:=hg;obtain⟨its,rv,p,hz⟩:=I.list hq;obtain⟨u,hu,ru⟩:=rv.get hx;have fe:=hf e (by simp);have fi:=hf it (by simp);refine wpAny_pyNext_enum_item s1 s2 p.isList (x:=u) (by simpa using hu) hne fun h' out it' tup sz kp=>?_
  refine⟨_,rfl,wpAny_letOwnedTupleGo_enum out fun h2 he2 sb=>?_⟩;have hpe:s.heap.objs.size≠e:=(zxD (Heap.lt_size s1)).symm;have hpi:s.heap.objs.size≠it:=by obtain⟨o,q,Z⟩:=s2;exact(zxD (Heap.lt_size q)).symm
  have t2:h2.get? s.heap.objs.size=some { cls:=.type "tuple",data:=.seq #[.int i s.toks,u] }:=(sb.2 _ hpe).trans tup;refine⟨.ref s.heap.objs.size,PB H s.heap.objs.size (.tup [.int (i:Nat),x]),I.zbU (fun b o h1 h3 q=>(sb.2 b h1).trans (kp b o h1 h3 q)) fe fi (zfU _) ⟨by simp only[zfH,zfI];rw[sizeLine_eq];decide,[.int i s.toks,u],.cons ⟨_,rfl⟩ (.cons ru .nil),⟨_,t2,rfl,_,rfl⟩⟩,rfl,⟨_,x,I.hok.fresh (zfU _),rfl,fun ys hy=>by rw[I.zau hy hq];exact hx,rfl⟩,⟨⟨_,he2⟩,it'.at fun o q=>(sb.2 it (Ne.symm hne)).trans q⟩,fun b hb=>?_⟩;have z:b=e\/b=it:=by simpa using hb
  rcases z with rfl | rfl
  · rw[ZA (Ne.symm hpe)];exact fe.1
  · rw[ZA (Ne.symm hpi)];exact fi.1
 done:=by intro X hP hw hK hc i pins s σ H E I hf st hg;subst hP hw hK;obtain⟨⟨old,s1⟩,s2⟩:=st;obtain⟨xs,hq,hx⟩:=hg;obtain⟨its,rv,p,hz⟩:=I.list hq;have hl:=rv.length;exact wpAny_pyNext_enum_end (I.ok.hd hc) s1 s2 p.isList (by simp;omega) fun h' eb=>⟨rfl,I.zbD (t':=s.toks) (fun b o Z h3 q=>eb b o h3 q) (hf e (by simp)) (hf it (by simp))⟩
 self:=fun Z Z Z Z Z st h=>by obtain⟨⟨old,s1⟩,Z⟩:=st;exact wpAny_pyIter_enum s1 h
section
variable{X:Cx}
def j4(K:Frag)(ta:TA):TI:=fun σ H R=>ta σ H fun vs H1=>∃a,vs=[.ref a]/\(∃xs,vp K H1 a xs)/\R (jd K a) H1
theorem vh {elts:List Expr} {x1} {tp:Pos} {a:Expr} {ta:TA} {p pos:Pos} (hg:Gl X "enumerate") (hm:X.mg "enumerate" =none) (ha:PA X [a] ta) (hs:autoParam (starEach [a] X.env=[(false,eval a X.env)]) zqR._auto_1) :
 PI X (.Tuple elts x1 tp) (.Call (.Name "enumerate" p) [a] [] pos) (j4 X.K ta):=by
 intro pins s σ H R I h;refine Call_ (SH I hg hm boot_enumerate (PyProof.Rows.callWith_type1 (HB (ha pos pins s σ H _ I h) fun us s1 zz=>?_) hs rfl));obtain⟨vs,H1,I1,r1,q1⟩:=zz;obtain⟨b,e,⟨xs,hq⟩,q⟩:=q1;subst e;cases r1 with
 | cons r rr=>
  cases rr;cases r;obtain⟨its,rv,pl,hz⟩:=I1.list hq;refine call_enumerate_list pl.isList fun h' he hit hsz k=>?_
  have I2:Inv X pins σ H1 { s1 with heap:=h' }:=I1.kept (t':=s1.toks) k;refine wpAny_pyIter_enum he ?_;refine⟨s1.heap.objs.size+1,[s1.heap.objs.size+1,s1.heap.objs.size],_,_,H1,rfl,I2,bw b (s1.heap.objs.size+1) s1.heap.objs.size (Nat.succ_ne_self _),⟨⟨_,he⟩,hit⟩,fun c hc=>?_,q⟩;have z:c=s1.heap.objs.size+1\/c=s1.heap.objs.size:=by simpa using hc
  rcases z with rfl | rfl
  · exact I1.za4 (Nat.le_succ _) (I1.hok.fresh (Nat.le_succ _))
  · exact I1.za4 (zfU _) (I1.hok.fresh (zfU _))
end
end L2
namespace SM
theorem xX:∀(xs:List Dt)(k i:Nat),(XI k xs)[i]?=(xs[i]?).map fun x=>.tup [.int ((k+i:Nat):Int),x]
 | [],_,_=>by simp[XI]
 | x::xs,k,0=>by simp[XI]
 | x::xs,k,i+1=>by
  simp only[XI,zfG];rw[xX xs (k+1) i];have:k+1+i=k+(i+1):=by omega
  rw[this]
section
variable{X:Cx}
theorem EU(i j:Nat){x y:Str}{px py pos:Pos}{x1}(hc:X.calm=true)(hN:X.N.Nodup)(hi:autoParam (X.N[i]?=some x) zqR._auto_1)(hj:autoParam (X.N[j]?=some y) zqR._auto_1)
 (hx:autoParam (zP X.env.scope x) zqD._auto_1) (hy:autoParam (zP X.env.scope y) zqD._auto_1)
 (hf:autoParam (X.fn x=true\/X.env.scope.names.lookup x=some .local) zqD._auto_1)
 (hf':autoParam (X.fn y=true\/X.env.scope.names.lookup y=some .local) zqD._auto_1):GM X (.Tuple [.Name x px,.Name y py] x1 pos) (dF i j):=by
 with_unfolding_all
  refine PG.imp (Y6 (n:=2) hc (fY (nU hN hi hx hf) (fY (nU hN hj hy hf') uh))) fun v σ H Q zz=>?_
  obtain⟨ρ,l,h,d,l',S,L,R,e,k⟩:=zz;unfold dF at e;split at e
  · cases e;obtain⟨a,vs,rfl,q,r⟩:=Em.mp R;obtain⟨v1,r1,rfl,R1,r⟩:=r.Km;obtain⟨v2,r2,rfl,R2,r⟩:=r.Km;cases r.Ql;exact⟨a,[v1,v2],rfl,q.sq,rfl,v1,[v2],rfl,v2,[],rfl,rfl,k _ ((L.set i R1).set j R2)⟩
  · cases e
end
def WH(fe fo fi:RE):RS:=fun l h=>(fe l h).bind fun v=>(fo l v.2).bind fun o=>(fi l o.2).bind fun i=>match o.1,i.1 with
 | .ref n,.int k=>match i.2[n]? with
  | some (.lst xs)=>(cJ xs.length k).bind fun j=>some (.nx l (i.2.set n (.lst (xs.set j v.1))))
  | _=>none
 | _,_=>none
noncomputable def En(i j k:Nat):RG:=fun d l=>match d with
 | .tup [a,b,c]=>some (((l.set i (some a)).set j (some b)).set k (some c))
 | _=>none
noncomputable def XG(d:Dt)(k:Int):List Dt:=replicate k.toNat d
def iJ(fa fb:RE):RE:=fun l h=>(fa l h).bind fun a=>(fb l a.2).bind fun k=>match k.1 with
 | .int i=>if -(2^62)<=i/\i<=1000000 then some (.lst (XG a.1 i),k.2)else none
 | _=>none
def XJ(fa fb:RE):RE:=fun l h=>(fa l h).bind fun a=>(fb l a.2).bind fun k=>match k.1 with
 | .int i=>if -(2^62)<=i/\i<=1000000 then some (.ref k.2.length,k.2++[.lst (XG a.1 i)])else none
 | _=>none
def qM:Dt->HI->Option (Dt×HI):=fun d h=>(OB h d).bind fun xs=>(VE xs).map fun bs=>(.bl (bs.any id),h)
noncomputable def QC(f:Dt->Option Dt):List Dt->Option (List Dt)
 | []=>some []
 | x::xs=>(f x).bind fun y=>(QC f xs).map fun ys=>y::ys
def nB(h:HI):Nat->Dt->Option Dt
 | 0,_=>none
 | n+1,.tup xs=>(QC (nB h n) xs).map .tup
 | n+1,.lst xs=>(QC (nB h n) xs).map .lst
 | n+1,.ref k=>match h[k]? with | some (.lst xs)=>(QC (nB h n) xs).map .lst | _=>none
 | _+1,.Ip _=>none
 | _+1,d=>some d
def jG:ZD:=fun a b h=>(nB h 8 a).bind fun a'=>(nB h 8 b).bind fun b'=>(lB a' b' []).map fun r=>(r.1,h)
def WG:ZD:=fun a b h=>(nB h 8 a).bind fun a'=>(nB h 8 b).bind fun b'=>(zE a' b' []).map fun r=>(r.1,h)
noncomputable def RF(t:RT)(body:RS):Nat->RS
 | 0,_,_=>none
 | n+1,l,h=>(t l h).bind fun c=>if c.1=true then(body l c.2).bind fun r=>match r with
  | .nx l' h'=>RF t body n l' h'
  | .ct l' h'=>RF t body n l' h'
  | .bk l' h'=>some (.nx l' h')
  | .rt d h'=>some (.rt d h')
  else some (.nx l c.2)
def SO(n:Nat)(t:RT)(body:RS):RS:=fun l h=>RF t body n l h
noncomputable def GI(fo fa:RE):RE:=fun l h=>(fo l h).bind fun r=>match r.1 with
 | .ref n=>match r.2[n]? with
  | some (.lst _)=>(fa l r.2).bind fun q=>match q.1 with
   | .ref m=>match q.2[n]?,q.2[m]? with
    | some (.lst xs),some (.lst ys)=>if xs.length+ys.length<=sizeLine then some (.non,q.2.set n (.lst (xs++ys)))else none
    | _,_=>none
   | _=>none
  | _=>none
 | _=>none
noncomputable def WO(fo fa:RE):RE:=fun l h=>(fo l h).bind fun r=>match r.1 with
 | .ref n=>match r.2[n]? with
  | some (.lst _)=>(fa l r.2).bind fun q=>match q.1 with
   | .int 0=>match q.2[n]? with
    | some (.lst (x::xs))=>some (x,q.2.set n (.lst xs))
    | _=>none
   | _=>none
  | _=>none
 | _=>none
noncomputable def UP(F:Dt->Dt->Option Dt)(fa fb:RE):RE:=fun l h=>(fa l h).bind fun r=>(fb l r.2).bind fun q=>(F r.1 q.1).map fun d=>(d,q.2)
noncomputable def mP:Dt->Dt->Option Dt:=fun a b=>match a,b with | .int i,.int j=>some (.int (if j>i then j else i)) | _,_=>none
noncomputable def ZJ:Dt->Dt->Option Dt:=fun a b=>match a,b with | .int i,.int j=>some (.int (if j<i then j else i)) | _,_=>none
noncomputable def MM(f:RE):RE:=fun l h=>(f l h).bind fun r=>match r.1 with | .int i=>some (.int (Builtin.bitNot i),r.2) | _=>none
end SM
namespace L2
section
variable{X:Cx}
theorem Vz(bs:List Bool):(range bs.length).any (fun i=>bs.getD i false)=bs.any id:=by
 induction bs with
 | nil=>rfl
 | cons b bs ih=>
  rw[zfH,range_succ_eq_map,any_cons,any_map,any_cons];have:((fun i=>(b::bs).getD i false) ∘ Nat.succ)=fun i=>bs.getD i false:=by
   funext i
   simp
  rw[this,ih];simp
theorem Vj (hc:X.calm=true):Hl X (.builtin "any") (fun xs H Q=>∃(p:Addr) (bs:List Bool),xs=[.ref p]/\vp X.K H p (bs.map V.bl)/\Q (.bl (bs.any id)) H):=by
 intro pins s σ H xs us Q I r h;obtain⟨p,bs,rfl,hq,q⟩:=h;obtain⟨u,rfl,rx⟩:=TF r;cases rx;obtain⟨its,r',pl,hz⟩:=I.list hq;have hlt:p<s.heap.objs.size:=by obtain⟨Z,e,Z⟩:=pl.isList;exact Heap.lt_size e
 refine call_any_walk (wpAny_pyIter_list pl.isList ?_);refine⟨_,_,_,_,_,_,fun i=>bs.getD i false,rfl,Walks.list (A:=X.A.in1) (I.ok.hd hc) s.heap.objs.size p (zxD hlt) its.toArray,⟨⟨_,Heap.get?_push_size _ rfl,rfl,rfl⟩,pl.isList.push _⟩,?_,fun h' tk k=>?_⟩
 · intro i v s2 Q2 E2 hv hQ;have e:=LU r' i v (by simpa using hv);subst e;exact wpAny_truthy_bool hQ
 · have hl:=r'.length;have e:(range its.toArray.size).any (fun i=>bs.getD i false)=bs.any id:=by rw[show its.toArray.size=bs.length by simp at hl ⊢;omega,Vz]
   rw[e];exact⟨.bl (bs.any id),H,I.kept (old_kept k),rfl,q⟩
end
section
variable{X:Cx}{pins:List (Addr×Obj)}{σ:List (Option V)}{H:Hp}{s:Shared}{h':Heap}
theorem Inv.zch{t':Nat}{fp:List Addr}{p:Addr}{xs:List V}(I:Inv X pins σ H s)(k:∀b o,b∉fp->s.heap.get? b=some o->h'.get? b=some o)(ff:∀b∈fp,vF X pins H b)(hp:s.heap.objs.size<=p)
 (new:Rm X.prog X.w (PB H p (.tup xs)) h' p (.tup xs)):Inv X pins σ (PB H p (.tup xs)) { s with heap:=h',toks:=t' }:=by
 have hn:H p=none:=I.hok.fresh hp;have nt:∀b u,H b=some u->b∉fp:=fun b u q z=>by rw[(ff b z).1]at q;cases q
 refine I.step (g':=s.gens) (d':=s.drawn) (ch:=fp) (fun b hb=>?_) (fun b o Z Z hc q Z=>k b o hc q) (fun b o Z Z hc q Z=>⟨o.slots,k b o hc q⟩)
  (fun b o Z q n=>by rw[ZA (zxD (zxC (Heap.lt_size q) hp))];exact n)
  (fun b o hc q=>⟨o,k b o hc q⟩) (fun b ys q=>by rw[ZA (wD q hn)];exact q) (fun b o u q=>by rw[ZA (wD q hn)];exact q)
  (fun b ps q=>⟨#[],by rw[ZA (wD q hn),q];simp⟩) (fun m hm=>?_) (fun b u q=>?_) I.bare
 · obtain⟨e0,e1,e2,e3,e4,e5⟩:=ff b hb;exact⟨e3,e1,e4,e5⟩
 · obtain⟨o,es,ep,ho,r⟩:=hm;exact⟨o,es,ep,k _ o (fun z=>(ff _ z).2.1 rfl) ho,r⟩
 · by_cases hb:b=p
   · subst hb;rw[jD]at q;cases q;exact new
   · rw[ZA hb]at q;refine(I.hok b u q).stay (fun c v hc q'=>?_) (fun c q=>by rw[ZA (wD q hn)];exact q) fun c ys q=>by rw[ZA (wD q hn)];exact q
     rcases hc with z | z
     · subst z;exact k c v (nt c u q) q'
     · exact k c v (nt c _ z) q'
theorem Inv.zbE{t':Nat}{fp:List Addr}(I:Inv X pins σ H s)(k:∀b o,b∉fp->s.heap.get? b=some o->h'.get? b=some o)(ff:∀b∈fp,vF X pins H b):Inv X pins σ H { s with heap:=h',toks:=t' }:=by
 have nt:∀b u,H b=some u->b∉fp:=fun b u q z=>by rw[(ff b z).1]at q;cases q
 refine I.step (g':=s.gens) (d':=s.drawn) (ch:=fp) (fun b hb=>?_) (fun b o Z Z hc q Z=>k b o hc q) (fun b o Z Z hc q Z=>⟨o.slots,k b o hc q⟩)
  (fun b o Z q n=>n) (fun b o hc q=>⟨o,k b o hc q⟩) (fun b ys q=>q) (fun b o u q=>q)
  (fun b ps q=>⟨#[],by rw[q];simp⟩) (fun m hm=>?_) (fun b u q=>?_) I.bare
 · obtain⟨e0,e1,e2,e3,e4,e5⟩:=ff b hb;exact⟨e3,e1,e4,e5⟩
 · obtain⟨o,es,ep,ho,r⟩:=hm;exact⟨o,es,ep,k _ o (fun z=>(ff _ z).2.1 rfl) ho,r⟩
 · refine(I.hok b u q).stay (fun c v hc q'=>?_) (fun c q=>q) fun c ys q=>q
   rcases hc with z | z
   · subst z;exact k c v (nt c u q) q'
   · exact k c v (nt c _ z) q'
end
section
variable{X:Cx}
end
end L2
namespace SM
section
variable{X:Cx}{e o i a b:Expr}{f g fe fo fi fa fb:RE}{p pos pos':Pos}
theorem Wf (hc:X.calm=true) (hg:Gl X "any") (hm:X.mg "any" =none) (ha:EM X e f) (hs:autoParam (DB e=true) zqR._auto_1):EM X (.Call (.Name "any" p) [e] [] pos) (UC qM f):=by
 with_unfolding_all
  exact YJ (Vj hc) (fun ρ h d v d' h' H Q S R e k=>by
   obtain⟨xs,e1,e⟩:=vA e;cases q:VE xs with
   | none=>rw[q]at e;cases e
   | some ns=>
    rw[q]at e;cases e;obtain⟨a,vs,z,sq,r⟩:=PF S R e1;rw[lO q]at r;rw[r.za1]at sq;exact⟨a,ns,by rw[z],sq,k ρ _ H (Am.mpr rfl) S (Ext.refl _ _)⟩) hg hm PyProof.Rows.boot_any ha (hs:=hs)
theorem DL(he:EM X e fe)(ho:EM X o fo)(hi:EM X i fi)
 (hs:autoParam (swapsWithSole [.Subscript o i pos'] e pos.line X.env=pure false) zqR._auto_1) (hw:autoParam (swappedStores [.Subscript o i pos'] e X.env=pure none) zqR._auto_1) (h1:autoParam ((assignEach [.Subscript o i pos'] X.env).map (·.2)=[assign (.Subscript o i pos') X.env]) zqR._auto_1)
 (ha:autoParam (∀v,assign (.Subscript o i pos') X.env v=(do
  let ov <- holding [v] (eval o X.env)
  let iv <- holding [v,ov] (eval i X.env)
  standAt pos'
  holding [v,ov,iv] (setItem ov iv v)
  release [v,ov,iv] [])) zqP._auto_1):ZM X (.Assign [.Subscript o i pos'] e pos) (WH fe fo fi):=by
 with_unfolding_all
  exact PS.imp (Z6 he (X6 ho hi jw ha) hs hw h1) fun D σ H zz=>by
   obtain⟨ρ,l,h,r,S,L,e,k⟩:=zz;obtain⟨⟨v,hv⟩,e1,e⟩:=vA e;obtain⟨⟨d,hd⟩,e2,e⟩:=vA e;obtain⟨⟨j,hj⟩,e3,e⟩:=vA e;refine⟨ρ,l,h,v,hv,S,L,e1,fun ρ1 u H1 R1 S1 E1=>⟨ρ1,l,hv,d,hd,S1,L.ext E1,e2,fun ρ2 y H2 R2 S2 E2=>⟨ρ2,l,hd,j,hj,S2,L.ext (E1.trans E2),e3,fun ρ3 z H3 R3 S3 E3=>?_⟩⟩⟩;cases d with
   | ref n=>
    cases j with
    | int kk=>
     dsimp only at e;split at e
     · rename_i xs q;obtain⟨jj,e4,e⟩:=vA e;cases e;obtain⟨aa,zz,ha⟩:=Im.mp (zm.ext E3 _ R2);obtain⟨vs,g1,g2⟩:=S3.lst ha q;have hm:=mem_of_getElem? ha;refine⟨aa,vs,kk,jj,zz,rm.mp R3,g1,by rw[g2.length];exact e4,?_⟩;exact k ρ3 σ _ (S3.write ha (FH g1) ⟨_,jD,(g2.set jj (zm.ext (E2.trans E3) _ R1)).ext (Ext.write hm (FH g1))⟩) (L.ext (E1.trans (E2.trans (E3.trans (Ext.write hm (FH g1)))))) (E1.trans (E2.trans (E3.trans (Ext.write hm (FH g1)))))
     · cases e
    | _=>cases e
   | _=>cases e
theorem iY{α:Type}(v:α):∀k:Nat,(replicate k [v]).flatten=replicate k v
 | 0=>rfl
 | k+1=>by rw[replicate_succ,flatten_cons,iY v k];rfl
theorem CZ{K:Frag}{H:Hp}{ρ:Rg}{d:Dt}{v:V}(r:zm K H ρ d v):∀k:Nat,qm K H ρ (replicate k d) (replicate k v)
 | 0=>.nil
 | k+1=>.cons r (CZ r k)
theorem RY{σ:L2.St}{H:Hp}{Q:VK}(own:Bool)(h:tM X.K (if own=true then XJ fa fb else iJ fa fb) σ H Q):cW ZV (bW (P0 (tM X.K fa) kQ)) (tM X.K fb) σ H Q:=by
 obtain⟨ρ,l,h,d,h',S,L,e,k⟩:=h;have e0:∃d1 h1 d2 h2 i,fa l h=some (d1,h1)/\fb l h1=some (d2,h2)/\d2=.int i/\(-(2^62)<=i/\i<=1000000)/\(if own=true then(Dt.ref h2.length,h2++[.lst (XG d1 i)])else(Dt.lst (XG d1 i),h2))=(d,h'):=by
  cases own with
  | true=>
   rw[if_pos rfl]at e;obtain⟨⟨d1,h1⟩,e1,e⟩:=vA e;obtain⟨⟨d2,h2⟩,e2,e⟩:=vA e;cases d2 with
   | int i=>obtain⟨c,e⟩:=OE e;exact⟨d1,h1,_,h2,i,e1,e2,rfl,c,e⟩
   | _=>cases e
  | false=>
   rw[if_neg zfT]at e;obtain⟨⟨d1,h1⟩,e1,e⟩:=vA e;obtain⟨⟨d2,h2⟩,e2,e⟩:=vA e;cases d2 with
   | int i=>obtain⟨c,e⟩:=OE e;exact⟨d1,h1,_,h2,i,e1,e2,rfl,c,e⟩
   | _=>cases e
 obtain⟨d1,h1,d2,h2,i,e1,e2,rfl,c,ed⟩:=e0;refine⟨ρ,l,h,d1,h1,S,L,e1,fun ρ1 v H1 R1 S1 E1=>⟨by simp only[zfH,zfI];rw[sizeLine_eq];decide,fun q hq=>?_⟩⟩;refine⟨ρ1,l,h1,.int i,h2,S1.fresh hq,L.ext (E1.trans (Ext.fresh hq)),e2,fun ρ2 y H2 R2 S2 E2=>?_⟩;have hk:=E2.keep q _ jD (S1.out hq).1;have hi:i.toNat<=1000000:=by omega
 refine⟨q,i,[v],rfl,rm.mp R2,hk,by omega,by omega,by simp only[zfH,zfI];rw[sizeLine_eq];omega,fun q2 hq2=>?_⟩;rw[iY];have RR:qm X.K H2 ρ2 (XG d1 i) (replicate i.toNat v):=CZ (zm.ext ((Ext.fresh hq).trans E2) _ R1) _;have EE:=E1.trans ((Ext.fresh hq).trans E2);cases own with
 | true=>rw[if_pos rfl]at ed;cases ed;exact k _ _ _ (TH S2 RR hq2).1 (TH S2 RR hq2).2 (EE.trans (Ext.own hq2))
 | false=>rw[if_neg zfT]at ed;cases ed;exact k ρ2 _ _ (dP S2 RR hq2) (S2.fresh hq2) (EE.trans (Ext.fresh hq2))
theorem WZ(ha:EM X a fa)(hb:EM X b fb)(hs:autoParam (DB a=true) zqR._auto_1):EM X (.BinOp (.List [a] p) .Mult b pos) (iJ fa fb):=by with_unfolding_all exact PE.imp (uV LZ (NO (yD ha sE (wB hs _ _))) hb) fun σ H Q h=>RY (fa:=fa) (fb:=fb) false h
theorem gZ(ha:EM X a fa)(hb:EM X b fb)(hs:autoParam (DB a=true) zqR._auto_1):EM X (.BinOp (.List [a] p) .Mult b pos) (XJ fa fb):=by with_unfolding_all exact PE.imp (uV LZ (NO (yD ha sE (wB hs _ _))) hb) fun σ H Q h=>RY (fa:=fa) (fb:=fb) true h
end
section
variable{K:Frag}{H:Hp}{ρ:Rg}{h:HI}
theorem Dm.bare(S:Dm K ρ h H):Dm K ⟨[],ρ.z⟩ [] H:=⟨nodup_nil,rfl,fun Z Z Z e=>by simp at e,fun a ha=>⟨by simp,(S.zt a ha).2⟩⟩
theorem kO{f:Dt->Option Dt}(hf:∀d d' v,f d=some d'->zm K H ρ d v->zm K H ⟨[],ρ.z⟩ d' v):∀(xs:List Dt){ys:List Dt}{vs:List V},QC f xs=some ys->qm K H ρ xs vs->qm K H ⟨[],ρ.z⟩ ys vs
 | [],ys,vs,e,r=>by cases e;rw[r.Ql];exact .nil
 | x::xs,ys,vs,e,r=>by
  obtain⟨v,rr,rfl,r1,r2⟩:=r.Km;obtain⟨y,e1,e⟩:=vA (show(f x).bind _=some ys from e);cases q:QC f xs with
  | none=>rw[q]at e;cases e
  | some zs=>rw[q]at e;cases e;exact .cons (hf _ _ _ e1 r1) (kO hf xs q r2)
theorem TupAt.bare{a:Addr}{vs:List V}(t:TupAt K H ρ a vs):TupAt K H ⟨[],ρ.z⟩ a vs:=by
 rcases t with⟨n,t⟩ | t
 · exact .inl ⟨⟨by simp,n.2⟩,t⟩
 · exact .inr t
theorem LstAt.bare{a:Addr}{vs:List V}(t:LstAt K H ρ a vs):LstAt K H ⟨[],ρ.z⟩ a vs:=by
 rcases t with⟨n,t⟩ | t
 · exact .inl ⟨⟨by simp,n.2⟩,t⟩
 · exact .inr t
theorem yL(S:Dm K ρ h H):∀(n:Nat)(d d':Dt)(v:V),nB h n d=some d'->zm K H ρ d v->zm K H ⟨[],ρ.z⟩ d' v
 | 0,_,_,_,e,_=>by simp[nB]at e
 | n+1,.non,_,_,e,r=>by simp only[nB]at e;cases e;simp only[zm]at r ⊢;exact r
 | n+1,.bl _,_,_,e,r=>by simp only[nB]at e;cases e;simp only[zm]at r ⊢;exact r
 | n+1,.int _,_,_,e,r=>by simp only[nB]at e;cases e;simp only[zm]at r ⊢;exact r
 | n+1,.str _,_,_,e,r=>by simp only[nB]at e;cases e;simp only[zm]at r ⊢;exact r
 | n+1,.tup xs,_,_,e,r=>by
  simp only[nB]at e;cases q:QC (nB h n) xs with
  | none=>rw[q]at e;cases e
  | some ys=>rw[q]at e;cases e;obtain⟨a,vs,z,t,rr⟩:=Em.mp r;exact Em.mpr ⟨a,vs,z,t.bare,kO (fun d d' v=>yL S n d d' v) xs q rr⟩
 | n+1,.lst xs,_,_,e,r=>by
  simp only[nB]at e;cases q:QC (nB h n) xs with
  | none=>rw[q]at e;cases e
  | some ys=>rw[q]at e;cases e;obtain⟨a,vs,z,t,rr⟩:=Cm.mp r;exact Cm.mpr ⟨a,vs,z,t.bare,kO (fun d d' v=>yL S n d d' v) xs q rr⟩
 | n+1,.Ip m,_,_,e,r=>by simp only[nB]at e;cases e
 | n+1,.ref m,_,_,e,r=>by
  simp only[nB]at e;split at e
  · rename_i xs q0;cases q:QC (nB h n) xs with
    | none=>rw[q]at e;cases e
    | some ys=>rw[q]at e;cases e;obtain⟨a,z,ha⟩:=Im.mp r;obtain⟨vs,g1,g2⟩:=S.lst ha q0;refine Cm.mpr ⟨a,vs,z,.inl ⟨⟨by simp,fun hz=>(S.zt a hz).1 (mem_of_getElem? ha)⟩,.inl g1⟩,kO (fun d d' v=>yL S n d d' v) xs q g2⟩
  · cases e
theorem Dm.grown{H':Hp}(S:Dm K ρ h H)(g:∀a o,H a=some o->H' a=some o):Dm K ρ h H':=by
 have sm:Ol ρ ρ H H':=⟨fun Z Z Z n=>n,fun a u e Z=>g a u e,fun Z Z e=>e,fun a q u e=>g a _ e⟩;refine⟨S.nd,S.len,fun n a o e1 e2=>?_,fun a ha=>?_⟩
 · have q:=S.ob n a o e1 e2;obtain⟨u,hu⟩:=q.some;exact zaq.same sm ((g a u hu).trans hu.symm) q
 · obtain⟨n,o,e⟩:=S.zt a ha;exact⟨n,o,g a _ e⟩
end
section
variable{X:Cx}
theorem KZ{f:Value->Value->Sem Value}{op:ZD}(hb:∀a b h d h',op a b h=some (d,h')->∃k,d=.bl k)(ho:OM X f op):OM X f (fun a b h=>(nB h 8 a).bind fun a'=>(nB h 8 b).bind fun b'=>(op a' b' []).map fun r=>(r.1,h)):=by
 with_unfolding_all
  exact Bp.imp ho fun x y H Q zz=>by
   obtain⟨ρ,h,d1,d2,d,h',S,R1,R2,e,k⟩:=zz;obtain⟨a',e1,e⟩:=vA e;obtain⟨b',e2,e⟩:=vA e;cases q:op a' b' []with
   | none=>rw[q]at e;cases e
   | some r=>
    obtain⟨r,hr⟩:=r;rw[q]at e;cases e;refine⟨⟨[],ρ.z⟩,[],a',b',r,hr,S.bare,yL S _ _ _ _ e1 R1,yL S _ _ _ _ e2 R2,q,fun ρ' v H' R' S' E'=>?_⟩;obtain⟨kk,rfl⟩:=hb _ _ _ _ _ q;have g:∀a o,H a=some o->H' a=some o:=fun a o ha=>E'.keep a o ha (by simp)
    exact k ρ v H' (Am.mpr (Am.mp R')) (S.grown g) ⟨⟨[],by simp,by simp⟩,rfl,fun a o ha Z=>g a o ha,E'.live,fun a q u e=>g a _ e⟩
theorem Ar(a b:Dt)(h:HI)(d:Dt)(h':HI)(e:lB a b h=some (d,h')):∃k,d=.bl k:=by
 unfold lB at e;split at e
 · obtain⟨Z,e⟩:=OE e;cases e;exact⟨_,rfl⟩
 · obtain⟨Z,e⟩:=OE e;cases e;exact⟨_,rfl⟩
 · unfold Z2 at e;split at e
   · obtain⟨Z,e⟩:=OE e;cases e;exact⟨_,rfl⟩
   · cases e
theorem Qt(a b:Dt)(h:HI)(d:Dt)(h':HI)(e:zE a b h=some (d,h')):∃k,d=.bl k:=by
 unfold zE at e;split at e
 · obtain⟨Z,e⟩:=OE e;cases e;exact⟨_,rfl⟩
 · obtain⟨Z,e⟩:=OE e;cases e;exact⟨_,rfl⟩
 · unfold o3 at e;split at e
   · obtain⟨Z,e⟩:=OE e;cases e;exact⟨_,rfl⟩
   · cases e
theorem AU(hu:X.A.units+64<cLine):OM X (compareOp .Eq) jG:=KZ Ar (vC hu)
theorem BU(hu:X.A.units+64<cLine):OM X (compareOp .NotEq) WG:=KZ Qt (UH hu)
end
section
variable{X:Cx}{e o i a b:Expr}{f g fe fo fi fa fb:RE}{p pos pos' apos cpos:Pos}
theorem bO (ho:EM X a fa) (hb:EM X b fb) (hbase:autoParam (attributeBase a "extend" X.env (eval a X.env)=eval a X.env) zqR._auto_1)
 (hline:autoParam ((apos.endLine==cpos.line)=true) zqR._auto_1) (hs:autoParam (DB b=true) zqR._auto_1) :
 EM X (.Call (.Attribute a "extend" apos) [b] [] cpos) (GI fa fb):=by
 with_unfolding_all
  exact PE.imp (YL PySem.F.plainAttrs_list PySem.F.slot_list_extend PySem.F.type_list_extend Xx ho (yD hb sE (wB hs _ _)) hbase (CL hs) hline (wB hs _ _)) fun σ H Q zz=>by
   obtain⟨ρ,l,h,d,h',S,L,e,k⟩:=zz;obtain⟨⟨d1,h1⟩,e1,e⟩:=vA e;refine⟨ρ,l,h,d1,h1,S,L,e1,fun ρ1 v H1 R1 S1 E1=>?_⟩;cases d1 with
   | ref n=>
    dsimp only at e;split at e
    · rename_i xs0 q0;obtain⟨⟨d2,h2⟩,e2,e⟩:=vA e;refine⟨JU S1 R1 q0,ρ1,l,h1,d2,h2,S1,L.ext E1,e2,fun ρ2 y H2 R2 S2 E2=>?_⟩;dsimp only at e;cases d2 with
      | ref m=>
       dsimp only at e;split at e
       · rename_i xs ys q1 q2;obtain⟨hz,e⟩:=OE e;cases e;obtain⟨a,z,ha⟩:=Im.mp R1;subst z;obtain⟨a2,z2,ha2'⟩:=Im.mp R2;subst z2;have ha2:=E2.get ha;obtain⟨vs,g1,g2⟩:=S2.lst ha2 q1;obtain⟨ws,g3,g4⟩:=S2.lst ha2' q2;have hm:=mem_of_getElem? ha2;refine⟨a,a2,vs,ws,rfl,rfl,g1,g3,by rw[g2.length,g4.length];exact hz,k ρ2 _ _ (Jm.mpr rfl) (S2.write ha2 (FH g1) ⟨_,jD,?_⟩) (E1.trans (E2.trans (Ext.write hm (FH g1))))⟩;exact(g2.append g4).ext (Ext.write hm (FH g1))
       · cases e
      | _=>cases e
    · cases e
   | _=>cases e
theorem Qz (ho:EM X a fa) (hb:EM X b fb) (hbase:autoParam (attributeBase a "pop" X.env (eval a X.env)=eval a X.env) zqR._auto_1)
 (hline:autoParam ((apos.endLine==cpos.line)=true) zqR._auto_1) (hs:autoParam (DB b=true) zqR._auto_1) :
 EM X (.Call (.Attribute a "pop" apos) [b] [] cpos) (WO fa fb):=by
 with_unfolding_all
  exact PE.imp (YL PySem.F.plainAttrs_list PySem.F.slot_list_pop PySem.F.type_list_pop Zk ho (yD hb sE (wB hs _ _)) hbase (CL hs) hline (wB hs _ _)) fun σ H Q zz=>by
   obtain⟨ρ,l,h,d,h',S,L,e,k⟩:=zz;obtain⟨⟨d1,h1⟩,e1,e⟩:=vA e;refine⟨ρ,l,h,d1,h1,S,L,e1,fun ρ1 v H1 R1 S1 E1=>?_⟩;cases d1 with
   | ref n=>
    dsimp only at e;split at e
    · rename_i xs0 q0;obtain⟨⟨d2,h2⟩,e2,e⟩:=vA e;refine⟨JU S1 R1 q0,ρ1,l,h1,d2,h2,S1,L.ext E1,e2,fun ρ2 y H2 R2 S2 E2=>?_⟩;dsimp only at e;split at e
      · rename_i z0;split at e
        · rename_i x xs q1;cases e;obtain⟨a,z,ha⟩:=Im.mp R1;subst z;have ha2:=E2.get ha;obtain⟨vs,g1,g2⟩:=S2.lst ha2 q1;have hm:=mem_of_getElem? ha2;obtain⟨v0,vr,rfl,r0,rr⟩:=g2.Km;have hlt:=S2.len;refine⟨a,v0::vr,0,0,v0,rfl,by rw[rm.mp R2],g1,by decide,by decide,?_,rfl,k ρ2 _ _ (zm.ext (Ext.write hm (FH g1)) _ r0) (S2.write ha2 (FH g1) ⟨_,jD,?_⟩) (E1.trans (E2.trans (Ext.write hm (FH g1))))⟩
          · rw[seqIndex_of (by decide) (by simp only[zfH];omega)];rfl
          · exact rr.ext (Ext.write hm (FH g1))
        · cases e
      · cases e
    · cases e
   | _=>cases e
theorem Xf(ha:EM X a fa):EM X (.UnaryOp .Invert a pos) (MM fa):=by
 with_unfolding_all
  exact PE.imp (T1 j6 ha) fun σ H Q zz=>by
   obtain⟨ρ,l,h,d,h',S,L,e,k⟩:=zz;obtain⟨⟨d1,h1⟩,e1,e⟩:=vA e;refine⟨ρ,l,h,d1,h1,S,L,e1,fun ρ1 x H1 R1 S1 E1=>?_⟩;cases d1 with
   | int i=>cases e;exact⟨i,rm.mp R1,k ρ1 _ H1 (rm.mpr rfl) S1 E1⟩
   | _=>cases e
theorem FY{c:Expr}{body:List Stmt}{t:RT}{u:RS}{n:Nat}(hp:PassesOwn (model X.prog X.w) X.A X.env X.xe)(hc:TM X c t)(hb:kI X body u):ZM X (.While c body [] pos) (SO n t u):=by
 with_unfolding_all
  exact PS.imp (Rw hp hc hb) fun D σ H zz=>by
   obtain⟨ρ,l,h,r,S,L,e,k⟩:=zz;refine⟨fun m σ' H'=>∃ρ' l' h',Dm X.K ρ' h' H'/\Jl X.K H' ρ' l' σ'/\Ext ρ ρ' H H'/\RF t u m l' h'=some r,⟨n,ρ,l,h,S,L,Ext.refl _ _,e⟩,?_⟩;rintro m σ' H' ⟨ρ',l',h',S',L',E',e'⟩;cases m with
   | zero=>simp only[RF]at e';cases e'
   | succ m=>
    simp only[RF]at e';obtain⟨⟨b,h1⟩,e1,e'⟩:=vA e';refine⟨ρ',l',h',b,h1,S',L',e1,fun ρ2 H2 S2 E2=>?_⟩;cases b with
    | true=>
     rw[if_pos rfl]at e';obtain⟨r1,e2,e'⟩:=vA e';refine DH ⟨fun σ3 H3=>∃m',m'<m+1/\∃ρ' l' h',Dm X.K ρ' h' H3/\Jl X.K H3 ρ' l' σ3/\Ext ρ ρ' H H3/\RF t u m' l' h'=some r,fun σ3 H3 q=>q,ρ2,l',h1,r1,S2,L'.ext E2,e2,?_⟩;cases r1 with
     | nx l2 h2=>exact fun ρ5 σ5 H5 S5 L5 E5=>⟨m,Nat.lt_succ_self _,ρ5,l2,h2,S5,L5,E'.trans (E2.trans E5),e'⟩
     | ct l2 h2=>exact fun ρ5 σ5 H5 S5 L5 E5=>⟨m,Nat.lt_succ_self _,ρ5,l2,h2,S5,L5,E'.trans (E2.trans E5),e'⟩
     | bk l2 h2=>cases e';exact fun ρ5 σ5 H5 S5 L5 E5=>k ρ5 σ5 H5 S5 L5 (E'.trans (E2.trans E5))
     | rt d2 h2=>cases e';exact fun ρ5 v5 H5 R5 S5 E5=>k ρ5 v5 H5 R5 S5 (E'.trans (E2.trans E5))
    | false=>rw[if_neg zfT]at e';cases e';exact BH (k ρ2 σ' H2 S2 (L'.ext E2) (E'.trans E2))
theorem Gy (hc:X.calm=true) (hg:Gl X "max") (hm:X.mg "max" =none) (ha:EM X a fa) (hb:EM X b fb) (hs:autoParam (DB a=true) zqR._auto_1) (hs2:autoParam (DB b=true) zqR._auto_1):EM X (.Call (.Name "max" p) [a,b] [] pos) (UP mP fa fb):=by
 with_unfolding_all
  exact PE.imp (dO (Xj hc) hg hm PyProof.Rows.boot_max (yD ha (yD hb sE (wB hs2 _ _)) (wB hs _ _)) (he:=wB hs _ _) (hpl:=JJ (by rw[all_cons,hs2];rfl))) fun σ H Q zz=>by
   obtain⟨ρ,l,h,d,h',S,L,e,k⟩:=zz;obtain⟨⟨d1,h1⟩,e1,e⟩:=vA e;obtain⟨⟨d2,h2⟩,e2,e⟩:=vA e;refine⟨ρ,l,h,d1,h1,S,L,e1,fun ρ1 v H1 R1 S1 E1=>⟨ρ1,l,h1,d2,h2,S1,L.ext E1,e2,fun ρ2 u H2 R2 S2 E2=>?_⟩⟩;cases d1 with
   | int i=>
    cases d2 with
    | int j=>cases e;exact⟨i,j,by rw[rm.mp R1,rm.mp R2],k ρ2 _ H2 (rm.mpr rfl) S2 (E1.trans E2)⟩
    | _=>cases e
   | _=>cases e
theorem Hy (hc:X.calm=true) (hg:Gl X "min") (hm:X.mg "min" =none) (ha:EM X a fa) (hb:EM X b fb) (hs:autoParam (DB a=true) zqR._auto_1) (hs2:autoParam (DB b=true) zqR._auto_1):EM X (.Call (.Name "min" p) [a,b] [] pos) (UP ZJ fa fb):=by
 with_unfolding_all
  exact PE.imp (dO (Zj hc) hg hm PyProof.Rows.boot_min (yD ha (yD hb sE (wB hs2 _ _)) (wB hs _ _)) (he:=wB hs _ _) (hpl:=JJ (by rw[all_cons,hs2];rfl))) fun σ H Q zz=>by
   obtain⟨ρ,l,h,d,h',S,L,e,k⟩:=zz;obtain⟨⟨d1,h1⟩,e1,e⟩:=vA e;obtain⟨⟨d2,h2⟩,e2,e⟩:=vA e;refine⟨ρ,l,h,d1,h1,S,L,e1,fun ρ1 v H1 R1 S1 E1=>⟨ρ1,l,h1,d2,h2,S1,L.ext E1,e2,fun ρ2 u H2 R2 S2 E2=>?_⟩⟩;cases d1 with
   | int i=>
    cases d2 with
    | int j=>cases e;exact⟨i,j,by rw[rm.mp R1,rm.mp R2],k ρ2 _ H2 (rm.mpr rfl) S2 (E1.trans E2)⟩
    | _=>cases e
   | _=>cases e
end
end SM
namespace L2
section
variable{X:Cx}
end
end L2
namespace SM
section
variable{X:Cx}{e o i a b:Expr}{f g fe fo fi fa fb:RE}{p pos pos' apos cpos:Pos}
end
end SM
namespace L2
section
variable{κ:Type}[DecidableEq κ]
noncomputable def zF(kvs:List (κ×V))(k:κ):Option V:=(kvs.find? fun kv=>decide (kv.1=k)).map (·.2)
noncomputable def JF(kvs:List (κ×V))(k:κ)(v:V):List (κ×V):=
 if(kvs.any fun kv=>decide (kv.1=k))=true then kvs.map (fun kv=>if kv.1=k then(kv.1,v)else kv)else kvs++[(k,v)]
noncomputable def A1(kvs:List (κ×V))(k:κ):List (κ×V):=kvs.filter fun kv=>decide (kv.1≠k)
theorem wO{p:κ×V}{r:List (κ×V)}{k:κ}(e:p.1=k):zF (p::r) k=some p.2:=by simp[zF,find?_cons,e]
theorem vO{p:κ×V}{r:List (κ×V)}{k:κ}(e:¬p.1=k):zF (p::r) k=zF r k:=by simp[zF,find?_cons,e]
theorem YY(k:κ):∀kvs:List (κ×V),(kvs.any fun kv=>decide (kv.1=k))=(zF kvs k).isSome
 | []=>rfl
 | p::r=>by
  rw[any_cons];by_cases e:p.1=k
  · simp only[wO e,decide_eq_true e,Bool.true_or,Option.isSome_some]
  · rw[vO e,decide_eq_false e,Bool.false_or];exact YY k r
theorem NW(kvs:List (κ×V))(k:κ)(v:V):(JF kvs k v).length<=kvs.length+1:=by
 unfold JF;split
 · rw[length_map];omega
 · rw[length_append,zfH,zfI];omega
theorem zaa.za5{o:Option V}{u:Option Value}(r:zaa o u):o.isSome=u.isSome:=by
 cases o with
 | none=>cases u with
  | none=>rfl
  | some _=>exact(show False from r).elim
 | some _=>cases u with
  | none=>exact(show False from r).elim
  | some _=>rfl
theorem zaa.getD{o:Option V}{u:Option Value}{d:V}{d':Value}(r:zaa o u)(rd:RelV d d'):RelV (o.getD d) (u.getD d'):=by
 cases o with
 | none=>cases u with
  | none=>exact rd
  | some _=>exact(show False from r).elim
 | some _=>cases u with
  | none=>exact(show False from r).elim
  | some _=>exact r
theorem KV.val{kvs:List (κ×V)}{vs:List (κ×Value)}(r:KV kvs vs)(k:κ):zaa (zF kvs k) (valueAt vs k):=by
 unfold KV at r
 induction r with
 | nil=>exact True.intro
 | @cons p q ps qs h t ih=>
  obtain⟨h1,h2⟩:=h;by_cases e:p.1=k
  · have e':q.1=k:=h1.symm.trans e;have b:valueAt (q::qs) k=some q.2:=by simp[valueAt,find?_cons,e']
    rw[wO e,b];exact h2
  · have e':¬q.1=k:=fun z=>e (h1.trans z)
    have b:valueAt (q::qs) k=valueAt qs k:=by simp[valueAt,find?_cons,e']
    rw[vO e,b];exact ih
theorem KV.any{kvs:List (κ×V)}{vs:List (κ×Value)}(r:KV kvs vs)(k:κ):(kvs.any fun kv=>decide (kv.1=k))=vs.any fun kv=>decide (kv.1=k):=by
 unfold KV at r
 induction r with
 | nil=>rfl
 | cons h t ih=>rw[any_cons,any_cons,ih,h.1]
theorem KV.repl{kvs:List (κ×V)}{vs:List (κ×Value)}(r:KV kvs vs)(k:κ){y:V}{u:Value}(ry:RelV y u) :
 KV (kvs.map fun kv=>if kv.1=k then(kv.1,y)else kv) (vs.map fun kv=>if kv.1=k then(kv.1,u)else kv):=by
 unfold KV at r ⊢
 induction r with
 | nil=>exact .nil
 | @cons p q ps qs h t ih=>
  rw[zfJ,zfJ];refine .cons ?_ ih;obtain⟨h1,h2⟩:=h;by_cases e:p.1=k
  · rw[if_pos e,if_pos (h1.symm.trans e)];exact⟨h1,ry⟩
  · rw[if_neg e,if_neg (fun z=>e (h1.trans z))];exact⟨h1,h2⟩
theorem KV.put{kvs:List (κ×V)}{vs:List (κ×Value)}(r:KV kvs vs)(k:κ){y:V}{u:Value}(ry:RelV y u):KV (JF kvs k y) (stored vs k u):=by
 unfold JF stored;rw[r.any k];by_cases e:(vs.any fun kv=>decide (kv.1=k))=true
 · rw[if_pos e,if_pos e];exact r.repl k ry
 · rw[if_neg e,if_neg e];exact Paired.snoc r ⟨rfl,ry⟩
theorem KV.drop{kvs:List (κ×V)}{vs:List (κ×Value)}(r:KV kvs vs)(k:κ):KV (A1 kvs k) (without vs k):=by
 unfold KV at r ⊢;unfold A1 without
 induction r with
 | nil=>exact .nil
 | @cons p q ps qs h t ih=>
  obtain⟨h1,h2⟩:=h;rw[filter_cons,filter_cons];by_cases e:p.1=k
  · have a:¬decide (p.1≠k)=true:=by simp[e]
    have b:¬decide (q.1≠k)=true:=by simp[h1.symm.trans e]
    rw[if_neg a,if_neg b];exact ih
  · have e':¬q.1=k:=fun z=>e (h1.trans z)
    have a:decide (p.1≠k)=true:=by simp[e]
    have b:decide (q.1≠k)=true:=by simp[e']
    rw[if_pos a,if_pos b];exact .cons ⟨h1,h2⟩ ih
theorem KV.keys{kvs:List (κ×V)}{vs:List (κ×Value)}(r:KV kvs vs):kvs.map (·.1)=vs.map (·.1):=by
 unfold KV at r
 induction r with
 | nil=>rfl
 | cons h t ih=>rw[zfJ,zfJ,ih,h.1]
theorem KV.length{kvs:List (κ×V)}{vs:List (κ×Value)}(r:KV kvs vs):kvs.length=vs.length:=Paired.length r
end
theorem ZU{P:Program}{w:World}{k:pC}{u:Value}(r:RelV (kV k) u):(JE P w).is k u=true:=by
 cases k with
 | inl i=>obtain⟨t,e⟩:=(show ∃t,u=Value.int i t from r);subst e;exact fj P w i t
 | inr x=>obtain⟨t,e⟩:=(show ∃t,u=Value.str x t from r);subst e;exact gj P w x t
theorem gX{P:Program}{w:World}:∀{ks:List pC}{us:List Value},Vals (ks.map kV) us->ItemsAre (JE P w) ks us
 | [],_,r=>by rw[zfK]at r;cases r;exact .nil
 | k::ks,_,r=>by
  rw[zfJ]at r;cases r with
  | cons h t=>exact .cons (ZU h) (gX t)
abbrev KT(H:Hp):List (List pC×V)->List (List pC×Addr×Value)->Prop:=Paired fun p q=>p.1=q.1/\H q.2.1=some (.tup (p.1.map kV))/\RelV p.2 q.2.2
theorem KT.val{H:Hp}{kvs:List (List pC×V)}{xs:List (List pC×Addr×Value)}(r:KT H kvs xs)(k:List pC):zaa (zF kvs k) ((atKey xs k).map (·.2)):=by
 induction r with
 | nil=>exact True.intro
 | @cons p q ps qs h t ih=>
  obtain⟨h1,Z,h2⟩:=h;by_cases e:p.1=k
  · have e':q.1=k:=h1.symm.trans e;have b:atKey (q::qs) k=some q.2:=by simp[atKey,find?_cons,e']
    rw[wO e,b];exact h2
  · have e':¬q.1=k:=fun z=>e (h1.trans z)
    have b:atKey (q::qs) k=atKey qs k:=by simp[atKey,find?_cons,e']
    rw[vO e,b];exact ih
theorem KT.repl{H:Hp}{kvs:List (List pC×V)}{xs:List (List pC×Addr×Value)}(r:KT H kvs xs)(k:List pC){y:V}{u:Value}(ry:RelV y u) :
 KT H (kvs.map fun kv=>if kv.1=k then(kv.1,y)else kv) (xs.map (putAt k u)):=by
 induction r with
 | nil=>exact .nil
 | @cons p q ps qs h t ih=>
  rw[zfJ,zfJ];refine .cons ?_ ih;obtain⟨h1,h2,h3⟩:=h;unfold putAt;by_cases e:p.1=k
  · rw[if_pos e,if_pos (h1.symm.trans e)];exact⟨h1,h2,ry⟩
  · rw[if_neg e,if_neg (fun z=>e (h1.trans z))];exact⟨h1,h2,h3⟩
theorem KT.put{H:Hp}{kvs:List (List pC×V)}{xs:List (List pC×Addr×Value)}(r:KT H kvs xs)(k:List pC){b:Addr}{y:V}{u:Value}(hb:H b=some (.tup (k.map kV)))(ry:RelV y u) :
 KT H (JF kvs k y) (storedH xs k b u):=by
 have e:(kvs.any fun kv=>decide (kv.1=k))=(atKey xs k).isSome:=by rw[YY,(r.val k).za5,Option.isSome_map]
 unfold JF storedH;rw[e];by_cases q:(atKey xs k).isSome=true
 · rw[if_pos q,if_pos q];exact r.repl k ry
 · rw[if_neg q,if_neg q];exact Paired.snoc r ⟨rfl,hb,ry⟩
theorem KT.keeps{H H':Hp}{kvs:List (List pC×V)}{xs:List (List pC×Addr×Value)}(r:KT H kvs xs)(ht:∀b ys,H b=some (.tup ys)->H' b=some (.tup ys)):KT H' kvs xs:=
 Paired.zb2 r fun Z Z z=>⟨z.1,ht _ _ z.2.1,z.2.2⟩
section
variable{P:Program}{w:World}{H:Hp}{h:Heap}{a:Addr}
theorem Y1{u:HO}(ok:HOk P w H h)(e:Rd H a u):Rm P w H h a u:=e.ok ok
theorem cV{kvs:List (pC×V)}(ok:HOk P w H h)(e:Rd H a (.dK kvs)):kvs.length<=sizeLine/\(a==sysModules)=false/\∃vs,KV kvs vs/\h.DictOf (JE P w) a vs:=
 show Rm P w H h a (.dK kvs)from Y1 ok e
theorem A6{kvs:List (pC×V)}(ok:HOk P w H h)(e:H a=some (.dK kvs)):kvs.length<=sizeLine/\(a==sysModules)=false/\∃vs,KV kvs vs/\h.DictOf (JE P w) a vs:=cV ok (.inl e)
theorem GU{ks:List pC}(ok:HOk P w H h)(e:H a=some (.tup (ks.map kV))):(tupleKind (JE P w)).is h ks a:=by obtain⟨Z,its,r,o,h1,h2,n,h3⟩:=(show Rm P w H h a (.tup (ks.map kV))from ok a _ e);exact⟨o,its.toArray,n,h1,h2,h3,by simpa using gX r⟩
theorem fV{kvs:List (List pC×V)}(ok:HOk P w H h)(e:Rd H a (.dT kvs)):kvs.length<=sizeLine/\(a==sysModules)=false/\
 ∃xs,KT H kvs xs/\h.DictOfH (tupleKind (JE P w)) a xs:=by
 obtain⟨z,y,xs,r,o,es,ep,h1,h2,h3,h4,h5⟩:=(show Rm P w H h a (.dT kvs)from Y1 ok e);refine⟨z,y,xs,r,o,es,ep,h1,h2,h3,h4,fun x hx=>?_,h5⟩;have all:∀{l:List (List pC×V)}{m:List (List pC×Addr×Value)},KT H l m->∀x∈m,(tupleKind (JE P w)).is h x.1 x.2.1:=by
  intro l m q
  induction q with
  | nil=>intro x hx;exact nomatch hx
  | @cons p q ps qs hq t ih=>
   intro x hx;rcases mem_cons.mp hx with e | hx
   · subst e;exact GU ok (by rw[<- hq.1];exact hq.2.1)
   · exact ih x hx
 exact all r x hx
theorem B6{kvs:List (List pC×V)}(ok:HOk P w H h)(e:H a=some (.dT kvs)):kvs.length<=sizeLine/\(a==sysModules)=false/\
 ∃xs,KT H kvs xs/\h.DictOfH (tupleKind (JE P w)) a xs:=fV ok (.inl e)
end
def zbf(H:Hp)(a:Addr)(y:V)(r:Option V):Prop:=
 (∃kvs k,Rd H a (.dK kvs)/\y=kV k/\r=zF kvs k)\/∃kvs k b,Rd H a (.dT kvs)/\y=.ref b/\H b=some (.tup (k.map kV))/\r=zF kvs k
def zbg(H:Hp)(a:Addr)(y v:V)(H':Hp):Prop:=
 (∃kvs k,H a=some (.dK kvs)/\y=kV k/\kvs.length<sizeLine/\H'=PB H a (.dK (JF kvs k v)))\/
 ∃kvs k b,H a=some (.dT kvs)/\y=.ref b/\H b=some (.tup (k.map kV))/\kvs.length<sizeLine/\H'=PB H a (.dT (JF kvs k v))
theorem zbf.t{H:Hp}{a b:Addr}{kvs:List (List pC×V)}{k:List pC}(e:H a=some (.dT kvs))(eb:H b=some (.tup (k.map kV))):zbf H a (.ref b) (zF kvs k):=.inr ⟨kvs,k,b,.inl e,rfl,eb,rfl⟩
theorem zbg.t{H:Hp}{a b:Addr}{kvs:List (List pC×V)}{k:List pC}{v:V}(e:H a=some (.dT kvs))(eb:H b=some (.tup (k.map kV)))(hl:kvs.length<sizeLine) :
 zbg H a (.ref b) v (PB H a (.dT (JF kvs k v))):=.inr ⟨kvs,k,b,e,rfl,eb,hl,rfl⟩
section
variable{X:Cx}{pins:List (Addr×Obj)}{σ:St}{H:Hp}{s:Shared}{a:Addr}{y v:V}{u r:Value}{o:Option V}{A:Around}{E:Value->Shared->Prop}
theorem Inv.big(I:Inv X pins σ H s):sysModules<s.heap.objs.size:=by have h:mainGlobals<s.heap.objs.size:=(I.mod.glob.keeps I.bk).lt;exact Nat.lt_trans (by decide) h
theorem IT{h':Heap}{t':Nat}{ob:HO}(I:Inv X pins σ H s)(mu:HV (H a))(hs:Heap.SameBut a s.heap h')(he:∃q,h'.get? a=some q)(new:Rm X.prog X.w (PB H a ob) h' a ob) :
 Inv X pins σ (PB H a ob) { s with heap:=h',toks:=t' }:=
 I.write (x:=a) (e:=a) mu (.inl rfl) (fun b q hb z=>(hs.2 b hb).trans z) he new
theorem Nf{P:Program}{w:World}{H':Hp}{h':Heap}{kvs:List (pC×V)}{vs:List (pC×Value)}(z:kvs.length<=sizeLine)(hd:(a==sysModules)=false)(rel:KV kvs vs)(dd:h'.DictOf (JE P w) a vs) :
 Rm P w H' h' a (.dK kvs):=⟨z,hd,vs,rel,dd⟩
theorem vq{H':Hp}{Q:Unit->Shared->Prop}(hu:A.units+1<cLine)(I:Inv X pins σ H s)(g:zbg H a y v H')(ry:RelV y u)(rv:RelV v r)(h:∀s',Inv X pins σ H' s'->Q () s') :
 wpAny (model X.prog X.w) A (setItem (.ref a) u r) Q E s:=by
 rcases g with⟨kvs,k,e,ey,l,eH⟩ | ⟨kvs,k,b,e,ey,eb,l,eH⟩
 · subst ey eH;obtain⟨z,hd,vs,rel,dd⟩:=A6 I.hok e;have hz:vs.length<=sizeLine:=by rw[<- rel.length];exact z
   have hl:(JF kvs k v).length<=sizeLine:=by have:=NW kvs k v;omega
   refine wpAny_setItem_pairs (hsz:=hz) (ZU ry) dd fun h' dd' hs=>h _ ?_
   have he:∃q,h'.get? a=some q:=let ⟨q,_,_,hq,_⟩:=dd';⟨q,hq⟩
   exact IT I (by rw[e];exact True.intro) hs he (Nf hl hd (rel.put k rv) dd')
 · subst ey eH;cases (show u=Value.ref b from ry);obtain⟨z,hd,xs,rel,dd⟩:=B6 I.hok e;have hz:xs.length<=sizeLine:=by rw[<- Paired.length rel];exact z
   have hl:(JF kvs k v).length<=sizeLine:=by have:=NW kvs k v;omega
   refine wpAny_setItem_heap (hsz:=hz) (tupleKind_room_in1 hu) (GU I.hok eb) dd fun h' dd' hs=>h _ ?_
   obtain⟨q,es,ep,hq,h2,h3,h4,Z,h5⟩:=dd';refine IT I (by rw[e];exact True.intro) hs ⟨q,hq⟩ ⟨hl,hd,_,(rel.put k eb rv).keeps fun c ys ec=>?_,q,es,ep,hq,h2,h3,h4,h5⟩;rw[ZA (pV ec e (fun z=>nomatch z))];exact ec
end
section
variable{X:Cx}{pins:List (Addr×Obj)}{σ:St}{H:Hp}{s:Shared}{a:Addr}{kvs:List (pC×V)}{k:pC}{u:Value}{A:Around}{E:Value->Shared->Prop}
end
def o7(td ty tv:TE):TS:=fun D σ H=>tv σ H fun v H1=>td σ H1 fun x H2=>ty σ H2 fun y H3=>∃a H4,x=.ref a/\zbg H3 a y v H4/\D.nx σ H4
section
variable{X:Cx}{o i e value:Expr}{pos pos' tpos:Pos}{td ty tv:TE}
theorem Dh(hu:X.A.units+1<cLine)(ho:PE X o td)(hi:PE X i ty)(hv:PE X value tv)(hs:swapsWith value (some (.Subscript o i pos')) pos.line X.env=pure false) :
 PS X (.Assign [.Subscript o i pos'] value pos) (o7 td ty tv):=by
 intro pins s σ H D I h;refine wpAny_Assign_Subscript (HB (hv pins s σ H _ I h) fun r s1 ⟨v,H1,I1,rv,q1⟩=>HB (ho pins s1 σ H1 _ I1 q1) fun u s2 ⟨x,H2,I2,rx,q2⟩=>HB (hi pins s2 σ H2 _ I2 q2) fun iv s3 zz=>?_) hs;obtain⟨y,H3,I3,ry,a,H4,ex,g,q3⟩:=zz;subst ex;obtain rfl:u=Value.ref a:=rx;exact vq hu I3 g ry rv fun s4 I4=>⟨σ,H4,I4,q3⟩
end
theorem Jv {P:Program} {w:World} {H:Hp} (h:Heap) (hb:sysModules<h.objs.size):Rm P w H (h.push { cls:=.type "dict",data:=.dict #[] }) h.objs.size (.dT []):=
 ⟨zxB _,beq_eq_false_iff_ne.mpr (Ne.symm (zxD hb)),[],.nil,_,#[],0,Heap.get?_push_size _ rfl,⟨rfl,rfl,rfl⟩,rfl,rfl,nodup_nil⟩
def W5:TE:=fun Z H Q=>∀p,H p=none->Q (.ref p) (PB H p (.dT []))
section
variable{X:Cx}{pos:Pos}
theorem Iw:PE X (.Dict [] [] pos) W5:=fun pins s σ H Q I h=>wpAny_Dict_empty ⟨.ref s.heap.objs.size,_,I.laid (a:=s.heap.objs.size) (o:=.dT []) (t':=s.toks) (fun Z Z q=>Heap.get?_push_of_some _ q) (zfU _) (Jv s.heap I.big),rfl,h _ (I.hok.fresh (zfU _))⟩
end
structure M1(X:Cx)(o:Expr)(m:Str)(apos:Pos)(e:Expr)(cpos:Pos):Prop where
 base:attributeBase o m X.env (eval o X.env)=eval o X.env
 few:((backTo cpos (starEach [e] X.env)).all (fun x=>!x.1)&&(backToKw cpos (keywordEach [] X.env)).all (fun x=>x.1.isSome)
  && decide (([e]:List Expr).length+([]:List Keyword).length+(if([]:List Keyword).isEmpty then 0 else 1)<30))=true
 line:(apos.endLine==cpos.line)=true
 trees:backTo cpos (starEach [e] X.env)=[(false,eval e X.env)]
structure M2(X:Cx)(o:Expr)(m:Str)(apos:Pos)(e f:Expr)(cpos:Pos):Prop where
 base:attributeBase o m X.env (eval o X.env)=eval o X.env
 few:((backTo cpos (starEach [e,f] X.env)).all (fun x=>!x.1)&&(backToKw cpos (keywordEach [] X.env)).all (fun x=>x.1.isSome)
  && decide (([e,f]:List Expr).length+([]:List Keyword).length+(if([]:List Keyword).isEmpty then 0 else 1)<30))=true
 line:(apos.endLine==cpos.line)=true
 trees:backTo cpos (starEach [e,f] X.env)=[(false,eval e X.env),(false,eval f X.env)]
def D3(H:Hp)(a:Addr):Prop:=(∃kvs,Rd H a (.dK kvs))\/∃kvs,Rd H a (.dT kvs)
theorem NZ{X:Cx}{pins:List (Addr×Obj)}{σ:St}{H:Hp}{s:Shared}{a:Addr}(I:Inv X pins σ H s)(d:D3 H a) :
 s.TypeIs (.ref a) "dict" /\ (∀b,Value.ref a=.ref b->∃ob,s.heap.get? b=some ob/\ob.dict=none)/\(a==sysModules)=false:=by
 rcases d with⟨kvs,e⟩ | ⟨kvs,e⟩
 · obtain⟨Z,hd,vs,Z,dd⟩:=cV I.hok e;refine⟨dd.typeIs,fun b q=>?_,hd⟩;cases q;obtain⟨ob,Z,Z,h1,h2,Z⟩:=dd;exact⟨ob,h1,h2.2.1⟩
 · obtain⟨Z,hd,xs,Z,dd⟩:=fV I.hok e;refine⟨dd.typeIs,fun b q=>?_,hd⟩;cases q;obtain⟨ob,Z,Z,h1,h2,Z⟩:=dd;exact⟨ob,h1,h2.2.1⟩
section
variable{X:Cx}{pins:List (Addr×Obj)}{σ:St}{H:Hp}{s:Shared}{a:Addr}{y d:V}{u r:Value}{o:Option V}{A:Around}{E:Value->Shared->Prop}
theorem Mf{Q:Value->Shared->Prop}(hu:A.units+1<cLine)(I:Inv X pins σ H s)(g:zbf H a y o)(ry:RelV y u)(rd:RelV d r)(h:∀w' s',Inv X pins σ H s'->RelV (o.getD d) w'->Q w' s') :
 wpAny (model X.prog X.w) A (call (.builtin "dict.get") [.ref a,u,r]) Q E s:=by
 rcases g with⟨kvs,k,e,ey,l⟩ | ⟨kvs,k,b,e,ey,eb,l⟩
 · subst ey;obtain⟨z,hd,vs,rel,dd⟩:=cV I.hok e;refine call_meetsIn PySem.F.slot_dict_get dd.typeIs PySem.F.entry_dict_get (PySem.F.args_dict_get_3 _ _ _) (meets_dict_get_default (JE X.prog X.w) a (ZU ry) hd r) ⟨_,dd.mapOf,h _ _ (I.tok _) ?_⟩;rw[l];exact(rel.val k).getD rd
 · subst ey;cases (show u=Value.ref b from ry);obtain⟨z,hd,xs,rel,dd⟩:=fV I.hok e;refine call_meetsIn PySem.F.slot_dict_get dd.typeIs PySem.F.entry_dict_get (PySem.F.args_dict_get_3 _ _ _) (meetsH_dict_get_default (tupleKind (JE X.prog X.w)) a b hd r) ⟨tupleKind_room_in1 hu,k,xs,GU I.hok eb,dd,h _ _ (I.tok _) ?_⟩;rw[l];exact(rel.val k).getD rd
end
def V5(td ty tx:TE):TE:=fun σ H Q=>td σ H fun x H1=>∃a,x=.ref a/\D3 H1 a/\ty σ H1 fun y H2=>tx σ H2 fun z H3=>∃o,zbf H3 a y o/\Q (o.getD z) H3
section
variable{X:Cx}{o e f:Expr}{apos cpos:Pos}{td ty tx:TE}
theorem Hw (hu:X.A.units+1<cLine) (ho:PE X o td) (he:PE X e ty) (hf:PE X f tx) (m:M2 X o "get" apos e f cpos):PE X (.Call (.Attribute o "get" apos) [e,f] [] cpos) (V5 td ty tx):=by
 intro pins s σ H Q I h;refine wpAny_Call_method m.base m.few m.line PySem.F.plainAttrs_dict PySem.F.slot_dict_get PySem.F.type_dict_get (HB (ho pins s σ H _ I h) fun u s1 zz=>?_);obtain⟨x,H1,I1,rx,a,ex,d,q1⟩:=zz;subst ex;obtain rfl:u=Value.ref a:=rx;obtain⟨t1,t2,Z⟩:=NZ I1 d;refine⟨t1,t2,?_⟩;rw[m.trees];refine Calls.callWith_builtin rfl (Calls.evalArgs_plain (Calls.spliced_cons (HB (he pins s1 σ H1 _ I1 q1) fun iv s2 ⟨y,H2,I2,ry,q2⟩=>
  Calls.spliced_cons (HB (hf pins s2 σ H2 _ I2 q2) fun fv s3 ⟨z,H3,I3,rz,ov,g,q3⟩=>Calls.spliced_nil ?_))))
 exact Mf hu I3 g ry rz fun w' s4 I4 rw'=>⟨_,H3,I4,rw',q3⟩
end
section
variable{X:Cx}{pins:List (Addr×Obj)}{σ:St}{H:Hp}{s:Shared}{a:Addr}{kvs:List (pC×V)}{A:Around}{E:Value->Shared->Prop}
end
section
variable{X:Cx}{pins:List (Addr×Obj)}{σ:St}{H:Hp}{s:Shared}{a:Addr}{y:V}{u:Value}{A:Around}{E:Value->Shared->Prop}
end
section
variable{prog:Program}{w:World}{A:Around}{E:Value->Shared->Prop}{s:Shared}
theorem pO {it:Addr} {R:String->Shared->Prop} (tt:s.TypeIs (.ref it) "dict_itemiterator") (q:R "dict_itemiterator" s) :
 wpAny (model prog w) A (typeNameOfWhole (.ref it)) R E s:=wpAny_typeNameOfWhole_itemiter tt q
theorem Qk{d:Addr}{es:Array DictEntry}{ep:Nat}{od:Obj}{v:Addr}{R:Value->Shared->Prop}(gv:s.heap.IsItemsView v d)(gd:s.heap.get? d=some od)(gt:od.data=.dict es ep)
 (q:R (.ref s.heap.objs.size) { s with heap:=s.heap.push { cls:=.type "dict_itemiterator",data:=.fields #[.none,.bool false,.ref d,.int 0 0,.int es.size 0,.int ep 0,.none,.none] } }) :
 wpAny (model prog w) A (pyIter (.ref v)) R E s:=by
 obtain⟨o1,g1,g2,g3⟩:=id gv;refine wpAny_pyIter_slot gv.typeIs F.slot_dict_items_iter (wpAny_call_entry F.slot_dict_items_iter gv.typeIs F.entry_dict_items_iter ?c1 (F.args_dict_items_iter_1 _));unfold Builtin.«dict_items.__iter__»;refine wpAny_bind (wpAny_pure (wpAny_bind ?c2));unfold Builtin.Dict_items.dictOf;refine wpAny_bind (wpAny_field g1 g3 (x:=.ref d) rfl (wpAny_pure (wpAny_bind ?c3)));unfold Builtin.Dict_items.newIterator;refine wpAny_bind (wpAny_dictEntries gd gt (wpAny_bind (wpAny_dictEpoch gd gt ?c4)));have own1:Builtin.Dict_items.ownsTuple "dict_itemiterator" =true:=by decide
 simp only[own1,if_true];refine wpAny_newObj_type (wpAny_pure ⟨_,rfl, "dict_itemiterator",_,⟨_,Heap.get?_push_size _ rfl,rfl⟩,F.slot_dict_itemiterator_next.lookup,?c5⟩) ?c6
 · simpa[rawInt,Builtin.Dict_items.ownedTupleFields]using q
 · simp only[sizeOk,Builtin.Dict_items.ownedTupleFields,size_toArray,length_append,zfH,zfI,sizeLine_eq];omega
theorem Nk{it d:Addr}{i ep:Nat}{es:Array DictEntry}{od:Obj}{k0 v0:Value}{R:Option Value->Shared->Prop}
 (gi:IsItemIter s.heap it d i es.size ep k0 v0) (gd:s.heap.get? d=some od) (gt:od.data=.dict es ep) (lt:i<es.size)
 (fin:∀h',IsItemIterOut h' it d (i+1) es.size ep es[i].key es[i].val s.heap.objs.size->
  h'.get? s.heap.objs.size=some { cls:=.type "tuple",data:=.seq #[es[i].key,es[i].val] }->h'.objs.size=s.heap.objs.size+1->
  (∀b o,b≠it->s.heap.get? b=some o->h'.get? b=some o)->R (some (.ref s.heap.objs.size)) { s with heap:=h' }) :
 wpAny (model prog w) A (pyNext (.ref it)) R E s:=by
 obtain⟨G,gg,dr,tk,os⟩:=s;have tt:Shared.TypeIs ⟨G,gg,dr,tk,os⟩ (.ref it) "dict_itemiterator" :=⟨_,gi,rfl⟩;unfold pyNext;refine wpAny_bind (wpAny_attempt (wpAny_callSpecial?_slot (name:=Str.ofString "__next__") tt F.slot_dict_itemiterator_next (wpAny_call_entry F.slot_dict_itemiterator_next tt F.entry_dict_itemiterator_next ?c1 (F.args_dict_itemiterator_next_1 _))));refine wpAny_bind (wpAny_pure (wpAny_bind (wpAny_bind ?c2)))
 first | refine wpAny_bind (pO tt (wpAny_pure ?c3)) | refine wpAny_bind (wpAny_typeNameOf_itemiter tt (wpAny_pure ?c3))
 refine wpAny_bind (wpAny_fieldsOf gi rfl ?c4);have own1:Builtin.Dict_items.ownsTuple "dict_itemiterator" =true:=by decide
 simp only[own1,if_true];show wpAny _ _ (if(Value.ref d==Value.none)=true then _ else _) _ _ _;rw[if_neg (show ¬((Value.ref d==Value.none)=true)from fun z=>zfT z)];refine wpAny_bind (wpAny_pure (wpAny_bind (wpAny_dictEntries gd gt ?c5)));rw[if_neg (by simp)];refine wpAny_bind (wpAny_pure (wpAny_bind (wpAny_dictEpoch gd gt ?c6)));rw[if_neg (by simp)];refine wpAny_pure ?c7;simp only[show ¬((i:Int)<0)from by omega,if_false,zxE,Array.getElem?_eq_getElem lt];refine wpAny_bind ?c8
 first | refine wpAny_bind (pO tt (wpAny_pure ?c9)) | refine wpAny_bind (wpAny_typeNameOf_itemiter tt (wpAny_pure ?c9))
 refine wpAny_bind (wpAny_isOneOf_itemiter tt ?c10);show wpAny _ _ (setField (.ref it) 3 (rawInt ((i:Int)+1)) >>=_) _ _ ⟨G,gg,dr,tk,os⟩;refine wpAny_bind (wpAny_setField_rec gi (by simp) fun G1 f1 b1=>?c11)
 replace b1:Heap.SameBut it G G1:=b1
 replace f1:IsItemIter G1 it d (i+1) es.size ep k0 v0:=by
  have z:((i+1:Nat):Int)=(i:Int)+1:=by omega
  unfold IsItemIter;rw[z];simpa[rawInt]using f1
 have tt1:Shared.TypeIs ⟨G1,gg,dr,tk,os⟩ (.ref it) "dict_itemiterator" :=⟨_,f1,rfl⟩;refine wpAny_bind (wpAny_holding (wpAny_bind (wpAny_isOneOf_itemiter tt1 (wpAny_bind (wpAny_isOneOf_itemiter tt1 ?c12)))));show wpAny _ _ (Builtin.Dict_items.pairFromOwner (.ref it) 6 es[i].key es[i].val) _ _ ⟨G1,gg,dr,tk,os⟩;unfold Builtin.Dict_items.pairFromOwner;refine wpAny_bind (wpAny_newTuple ?c13);have f2:IsItemIter (G1.push { cls:=.type "tuple",data:=.seq #[es[i].key,es[i].val] }) it d (i+1) es.size ep k0 v0:=Heap.get?_push_of_some _ f1;generalize eG:G1.push { cls:=.type "tuple",data:=.seq #[es[i].key,es[i].val] }=G2 at f2;have z1:G1.objs.size=G.objs.size:=b1.1;have il:it<G.objs.size:=Heap.lt_size gi;have t2:G2.get? G.objs.size=some { cls:=.type "tuple",data:=.seq #[es[i].key,es[i].val] }:=by rw[<- eG,<- z1];exact Heap.get?_push_size _ rfl
 have z2:G2.objs.size=G.objs.size+1:=by rw[<- eG,Heap.size_push,z1]
 have k2:∀b o,b≠it->G.get? b=some o->G2.get? b=some o:=fun b o nb e=>by rw[<- eG];exact Heap.get?_push_of_some _ (b1.extBut b o nb e)
 show wpAny _ _ (Builtin.Dict_items.ownedTupleIsFree (.ref it) >>=_) _ _ ⟨G2,gg,dr,tk,os⟩;rw[z1];clear eG f1 b1 tt1 z1 G1;refine wpAny_bind ?c14;unfold Builtin.Dict_items.ownedTupleIsFree;refine wpAny_bind (wpAny_field f2 rfl (x:=.none) rfl (wpAny_pure ?c15));simp only[if_true];refine wpAny_bind (wpAny_field f2 rfl (x:=k0) rfl (wpAny_bind (wpAny_field f2 rfl (x:=v0) rfl ?c16)));refine wpAny_bind (wpAny_setField_rec f2 (by simp) fun G3 f3 b3=>?c17)
 replace b3:Heap.SameBut it G2 G3:=b3
 replace f3:IsItemIter G3 it d (i+1) es.size ep es[i].key v0:=f3
 refine wpAny_bind (wpAny_setField_rec f3 (by simp) fun G4 f4 b4=>?c18)
 replace b4:Heap.SameBut it G3 G4:=b4
 replace f4:IsItemIter G4 it d (i+1) es.size ep es[i].key es[i].val:=f4
 refine wpAny_bind (wpAny_setField_rec f4 (by simp) fun G5 f5 b5=>?c19)
 replace b5:Heap.SameBut it G4 G5:=b5
 replace f5:IsItemIterOut G5 it d (i+1) es.size ep es[i].key es[i].val G.objs.size:=f5
 refine wpAny_bind (wpAny_setField_rec f5 (by simp) fun G6 f6 b6=>?c20)
 replace b6:Heap.SameBut it G5 G6:=b6
 replace f6:IsItemIterOut G6 it d (i+1) es.size ep es[i].key es[i].val G.objs.size:=f6
 have kk:∀b o,b≠it->G2.get? b=some o->G6.get? b=some o:=fun b o nb e=>b6.extBut b o nb (b5.extBut b o nb (b4.extBut b o nb (b3.extBut b o nb e)))
 refine wpAny_bind (wpAny_letGo (wpAny_pure (wpAny_pure ⟨_,rfl,wpAny_pure (fin G6 f6 (kk _ _ (Nat.ne_of_gt il) t2) ?c21 fun b o nb e=>kk b o nb (k2 b o nb e))⟩)));show G6.objs.size=G.objs.size+1;rw[b6.1,b5.1,b4.1,b3.1,z2]
theorem Xh{it d:Addr}{i ep:Nat}{es:Array DictEntry}{od:Obj}{k0 v0:Value}{R:Option Value->Shared->Prop}(hn:A.handled=none)
 (gi:IsItemIter s.heap it d i es.size ep k0 v0) (gd:s.heap.get? d=some od) (gt:od.data=.dict es ep) (ge:es.size<=i)
 (fin:∀h',Heap.ExtBut it s.heap h'->R none { s with heap:=h' }):wpAny (model prog w) A (pyNext (.ref it)) R E s:=by
 have tt:s.TypeIs (.ref it) "dict_itemiterator" :=⟨_,gi,rfl⟩;unfold pyNext;refine wpAny_bind (wpAny_attempt (wpAny_callSpecial?_slot (name:=Str.ofString "__next__") tt F.slot_dict_itemiterator_next (wpAny_call_entry F.slot_dict_itemiterator_next tt F.entry_dict_itemiterator_next ?c1 (F.args_dict_itemiterator_next_1 _))));refine wpAny_bind (wpAny_pure (wpAny_bind (wpAny_bind ?c2)))
 first | refine wpAny_bind (pO tt (wpAny_pure ?c3)) | refine wpAny_bind (wpAny_typeNameOf_itemiter tt (wpAny_pure ?c3))
 refine wpAny_bind (wpAny_fieldsOf gi rfl ?c4);have own1:Builtin.Dict_items.ownsTuple "dict_itemiterator" =true:=by decide
 simp only[own1,if_true];show wpAny _ _ (if(Value.ref d==Value.none)=true then _ else _) _ _ _;rw[if_neg (show ¬((Value.ref d==Value.none)=true)from fun z=>zfT z)];refine wpAny_bind (wpAny_pure (wpAny_bind (wpAny_dictEntries gd gt ?c5)));rw[if_neg (by simp)];refine wpAny_bind (wpAny_pure (wpAny_bind (wpAny_dictEpoch gd gt ?c6)));rw[if_neg (by simp)];refine wpAny_pure ?c7;simp only[show ¬((i:Int)<0)from by omega,if_false,zxE,Array.getElem?_eq_none ge];refine wpAny_bind ?c8
 first | refine wpAny_bind (pO tt (wpAny_pure ?c9)) | refine wpAny_bind (wpAny_typeNameOf_itemiter tt (wpAny_pure ?c9))
 show wpAny _ _ (setField (.ref it) 2 .none >>=_) _ _ _;refine wpAny_bind (wpAny_setField gi rfl (by simp) ?c10);show wpAny _ _ (newExc (.type "StopIteration") [] >>=_) _ _ _;refine wpAny_bind ?c11;simp only[newExc,newTuple];refine wpAny_bind (wpAny_newObj_type (wpAny_bind (m:=firstArgMember _ _) (wpAny_of_eq (a:=Value.none) (by first | rfl | (simp only[firstArgMember];rfl)) ?c12)) (by size_fits));refine wpAny_newObj_type ?c13 (by size_fits);simp only[raiseNew];refine wpAny_bind (wpAny_handled ?c14);rw[show A.in1.handled=none from hn];refine wpAny_bind (wpAny_pure (wpAny_throw ?c15));refine wpAny_bind (wpAny_isInstance (T := "StopIteration") (b:=true) ⟨_,Heap.get?_push_size _ rfl,rfl⟩ isSubtype_stop (wpAny_pure ?c16));exact fin _ (((Heap.SameBut.update ..).extBut.push _).push _)
theorem Lk {d:Addr} {R:Value->Shared->Prop} (tt:s.TypeIs (.ref d) "dict") (nm:(d==sysModules)=false)
 (q:R (.ref s.heap.objs.size) { s with heap:=s.heap.push { cls:=.type "dict_items",data:=.fields #[.ref d] } }):wpAny (model prog w) A (call (.builtin "dict.items") [.ref d]) R E s:=by
 have m:MeetsIn prog w (Builtin.«dict.items» ⟨[.ref d],[]⟩) (fun Z R s=>s.TypeIs (.ref d) "dict" /\ R (.ok (.ret (.ref s.heap.objs.size))) { s with heap:=s.heap.push { cls:=.type "dict_items",data:=.fields #[.ref d] } }):=
  .of_wp fun A R s zz=>by obtain⟨t1,r1⟩:=zz;unfold Builtin.«dict.items»;refine wpAny_bind ?c1;unfold Builtin.Dict.noArgs;refine wpAny_bind (wpAny_notOrdered_dict t1 ?c2);show wpAny _ _ (pure d) _ _ s;refine wpAny_pure ?c3;show wpAny _ _ (Builtin.Dict.showsAll d >>=_) _ _ s;unfold Builtin.Dict.showsAll;rw[if_neg (by rw[nm];exact zfT)];exact wpAny_bind (wpAny_pure (wpAny_bind (wpAny_newObj_type (wpAny_pure ⟨_,rfl,r1⟩))))
 exact call_meetsIn PySem.F.slot_dict_items tt PySem.F.entry_dict_items (PySem.F.args_dict_items_1 _) m ⟨tt,q⟩
theorem t9:entryFor table "dict_itemiterator.__iter__" =some Builtin.«dict_keyiterator.__iter__»:=entryFor_alias (id' := "dict_keyiterator.__iter__") (by kernel_rfl) rfl (by decide +kernel) (by kernel_rfl)
theorem Pk{it d:Addr}{i n ep:Nat}{k0 v0:Value}{R:Value->Shared->Prop}(gi:IsItemIter s.heap it d i n ep k0 v0)(q:R (.ref it) s):wpAny (model prog w) A (pyIter (.ref it)) R E s:=by have tt:s.TypeIs (.ref it) "dict_itemiterator" :=⟨_,gi,rfl⟩;refine wpAny_pyIter_slot tt F.slot_dict_itemiterator_iter (wpAny_call_entry F.slot_dict_itemiterator_iter tt t9 ?c1 (F.args_dict_itemiterator_iter_1 _));show wpAny _ _ (ret (.ref it)) _ _ s;exact wpAny_pure ⟨_,rfl, "dict_itemiterator",_,tt,F.slot_dict_itemiterator_next.lookup,q⟩
end
theorem Paired.Kp{α β:Type}{F:α->β->Prop}:∀{xs:List α}{ys:List β}{i:Nat}{x:α},Paired F xs ys->xs[i]?=some x->∃y,ys[i]?=some y/\F x y
 | _,_,i,x,.nil,e=>by simp at e
 | _,_,0,x,.cons r t,e=>by simp at e;subst e;exact⟨_,rfl,r⟩
 | _,_,i+1,x,.cons r t,e=>by obtain⟨y,e1,e2⟩:=Paired.Kp t (i:=i) (x:=x) (by simpa using e);exact⟨y,by simpa using e1,e2⟩
def GV(a:Addr)(o:Obj):It:=
 ⟨fun i H=>∃kvs p,H a=some (.frz o (.dT kvs))/\kvs[i]?=some p,
  fun i H x H'=>∃q kb p,H q=none/\x=.ref q/\H kb=some (.tup (p.1.map kV))/\(∀kvs,H a=some (.frz o (.dT kvs))->kvs[i]?=some p)/\H'=PB H q (.tup [.ref kb,p.2]),
  fun i H=>∃kvs,H a=some (.frz o (.dT kvs))/\kvs.length<=i⟩
theorem lg{P:Program}{w:World}{K:Frag}{elts:List Expr}{x1}{pos:Pos}(a it:Addr){o:Obj}{es:Array DictEntry}{ep:Nat}(gt:o.data=.dict es ep) :
 jI P w K (.Tuple elts x1 pos) (GV a o) [it] it (fun i h=>∃k0 v0,IsItemIter h it a i es.size ep k0 v0) where
 mem:=by simp
 obj:=fun i h zz c hc=>by obtain⟨k0,v0,st⟩:=zz;rw[mem_singleton.mp hc];exact⟨_,st,fun v z=>by cases z⟩
 keep:=fun i h h' ⟨k0,v0,st⟩ k=>⟨k0,v0,k it (by simp) _ st⟩
 item:=by
  intro X hP hw hK hc i pins s σ H E I hf st hg;subst hP hw hK;obtain⟨k0,v0,gi⟩:=st;obtain⟨kvs,p,e,hp⟩:=hg;obtain⟨go,z,y,xs,r,ob,es',ep',h1,h2,h3,h4,h5⟩:=(show Rm X.prog X.w H s.heap a (.frz o (.dT kvs))from I.hok a _ e);rw[go]at h1;cases h1;rw[gt]at h3;cases h3;obtain⟨q,hq,f1,f2,f3⟩:=Paired.Kp r hp;have e0:es.toList[i]?=some (entryOfKey (tupleKind (JE X.prog X.w)) q):=by rw[h4,getElem?_map,hq];rfl
  have hlt:i<es.size:=by have:=(zfR e0).1;simpa using this
  have ei:es[i]=entryOfKey (tupleKind (JE X.prog X.w)) q:=by rw[Array.getElem?_toList,Array.getElem?_eq_getElem hlt]at e0;exact Option.some.inj e0
  refine Nk gi go gt hlt fun h' z1 tp sz kp=>⟨_,rfl,wpAny_letOwnedTupleGo_items z1 fun h2 he2 sb=>?_⟩
  have hne:s.heap.objs.size≠it:=Nat.ne_of_gt (Heap.lt_size gi);have t2:h2.get? s.heap.objs.size=some { cls:=.type "tuple",data:=.seq #[.ref q.2.1,q.2.2] }:=by rw[sb.2 _ hne,tp,ei];rfl
  have kk:∀c u,c ∉ [it]->s.heap.get? c=some u->h2.get? c=some u:=fun c u hc g=>by
   have hc':c≠it:=fun z=>hc (by rw[z];simp)
   exact(sb.2 c hc').trans (kp c u hc' g)
  refine⟨.ref s.heap.objs.size,PB H s.heap.objs.size (.tup [.ref q.2.1,p.2]),I.zch kk hf (zfU _) ⟨by simp only[zfH,zfI];rw[sizeLine_eq];decide,[.ref q.2.1,q.2.2],.cons rfl (.cons f3 .nil),⟨_,t2,rfl,_,rfl⟩⟩,rfl,
   ⟨_,q.2.1,p,I.hok.fresh (zfU _),rfl,f2,fun kvs' e'=>by rw[e]at e';cases e';exact hp,rfl⟩,⟨_,_,he2⟩,fun c hc=>?_⟩
  rw[mem_singleton.mp hc,ZA (Ne.symm hne)];exact(hf it (by simp)).1
 done:=by
  intro X hP hw hK hc i pins s σ H E I hf st hg;subst hP hw hK;obtain⟨k0,v0,gi⟩:=st;obtain⟨kvs,e,hp⟩:=hg;obtain⟨go,z,y,xs,r,ob,es',ep',h1,h2,h3,h4,h5⟩:=(show Rm X.prog X.w H s.heap a (.frz o (.dT kvs))from I.hok a _ e);rw[go]at h1;cases h1;rw[gt]at h3;cases h3;have hs:es.size=kvs.length:=by rw[<- Array.length_toList,h4,length_map,<- Paired.length r]
  refine Xh (I.ok.hd hc) gi go gt (by omega) fun h' eb=>⟨rfl,I.zbE (t':=s.toks) (fp:=[it]) (fun c u hc q=>eb c u (fun z=>hc (by rw[z];simp)) q) hf⟩
 self:=fun Z Z Z Z Z st h=>by obtain⟨k0,v0,gi⟩:=st;exact Pk gi h
section
variable{X:Cx}
theorem Inv.freeze{pins:List (Addr×Obj)}{σ:St}{H:Hp}{s:Shared}{a:Addr}{o:Obj}{kvs:List (List pC×V)}(I:Inv X pins σ H s)(e:H a=some (.dT kvs))(go:s.heap.get? a=some o) :
 Inv X pins σ (PB H a (.frz o (.dT kvs))) s:=by
 refine IT (t':=s.toks) I (by rw[e];exact True.intro) (Heap.SameBut.refl _ _) ⟨o,go⟩ ⟨go,?_⟩;refine Rm.stay (show Rm X.prog X.w H s.heap a (.dT kvs)from I.hok a _ e) (fun Z Z Z g=>g) (fun b q=>?_) fun b ys q=>?_
 · rw[ZA (pV q e (fun z=>nomatch z))];exact q
 · rw[ZA (pV q e (fun z=>nomatch z))];exact q
def l4(td:TE):TI:=fun σ H R=>td σ H fun x H1=>∃a,x=.ref a/\((∃kvs,H1 a=some (.dT kvs)/\∀o,R (GV a o) (PB H1 a (.frz o (.dT kvs))))\/∃o kvs,H1 a=some (.frz o (.dT kvs))/\R (GV a o) H1)
theorem Lw {elts:List Expr} {x1} {tp:Pos} {d:Expr} {td:TE} {apos cpos:Pos} (ho:PE X d td) (hbase:autoParam (attributeBase d "items" X.env (eval d X.env)=eval d X.env) zqR._auto_1) (hline:autoParam ((apos.endLine==cpos.line)=true) zqR._auto_1) :
 PI X (.Tuple elts x1 tp) (.Call (.Attribute d "items" apos) [] [] cpos) (l4 td):=by
 intro pins s σ H R I h;refine wpAny_Call_method0_late hbase hline (HB (ho pins s σ H _ I h) fun v s1 zz=>?_);obtain⟨x,H1,I1,r1,a,ex,q⟩:=zz;subst ex;obtain rfl:v=Value.ref a:=r1;have dd:D3 H1 a:=by
  rcases q with⟨kvs,e,_⟩ | ⟨o,kvs,e,_⟩
  · exact .inr ⟨kvs,.inl e⟩
  · exact .inr ⟨kvs,.inr ⟨o,e⟩⟩
 obtain⟨t1,t2,t3⟩:=NZ I1 dd;have base:∀(o:Obj)(es:Array DictEntry)(ep:Nat)(H2:Hp),s1.heap.get? a=some o->o.data=.dict es ep->Inv X pins σ H2 s1->R (GV a o) H2->
  wpAny (model X.prog X.w) X.A (call (.builtin "dict.items") [.ref a]) (fun v s1=>wpAny (model X.prog X.w) X.A (pyIter v) (N3 X pins σ (.Tuple elts x1 tp) R) X.xe s1) X.xe s1:=by
  intro o es ep H2 go gt I2 q2;refine Lk t1 t3 ?_;have I3:Inv X pins σ H2 { s1 with heap:=s1.heap.push { cls:=.type "dict_items",data:=.fields #[.ref a] } }:=I2.kept (t':=s1.toks) fun b u g=>Heap.get?_push_of_some _ g
  refine Qk (od:=o) ⟨_,Heap.get?_push_size _ rfl,rfl,rfl⟩ (Heap.get?_push_of_some _ go) gt ?_;have I4:=I3.kept (t':=s1.toks) (h':=(s1.heap.push { cls:=.type "dict_items",data:=.fields #[.ref a] }).push { cls:=.type "dict_itemiterator",data:=.fields #[.none,.bool false,.ref a,.int 0 0,.int es.size 0,.int ep 0,.none,.none] }) fun b u g=>Heap.get?_push_of_some _ g
  refine⟨_,[_],_,_,H2,rfl,I4,lg a _ gt,⟨.none,.none,Heap.get?_push_size _ rfl⟩,fun c hc=>?_,q2⟩;rw[mem_singleton.mp hc];exact I3.za4 (zfU _) (I3.hok.fresh (zfU _))
 refine⟨"dict", "dict.items",PySem.F.plainAttrs_dict,PySem.F.slot_dict_items,PySem.F.type_dict_items,t1,t2,Calls.callWith_builtin rfl (PySem.evalArgs_none ?_)⟩;rcases q with⟨kvs,e,q⟩ | ⟨o,kvs,e,q⟩
 · obtain⟨Z,Z,Z,Z,o,es,ep,h1,Z,h3,Z⟩:=(show Rm X.prog X.w H1 s1.heap a (.dT kvs)from I1.hok a _ e);exact base o es ep _ h1 h3 (I1.freeze e h1) (q o)
 · obtain⟨go,Z,Z,Z,Z,o',es,ep,h1,Z,h3,Z⟩:=(show Rm X.prog X.w H1 s1.heap a (.frz o (.dT kvs))from I1.hok a _ e);rw[go]at h1;cases h1;exact base o es ep _ go h3 I1 q
end
end L2
namespace SM
noncomputable def bJ(kvs:List (List Int×Dt))(k:List Int):Option Dt:=(kvs.find? fun p=>decide (p.1=k)).map (·.2)
noncomputable def hJ(kvs:List (List Int×Dt))(k:List Int)(d:Dt):List (List Int×Dt):=
 if(kvs.any fun p=>decide (p.1=k))=true then kvs.map (fun p=>if p.1=k then(p.1,d)else p)else kvs++[(k,d)]
noncomputable def hV:RE:=fun Z h=>some (.ref h.length,h++[.dt []])
def VP(g:RA):RE:=fun l h=>(g l h).bind fun r=>if r.1.length<=sizeLine then(HE r.1).map fun is=>(.Ip is,r.2)else none
def XH(fo fy fx:RE):RE:=fun l h=>(fo l h).bind fun o=>match o.1 with
 | .ref n=>match o.2[n]? with
  | some (.dt _)=>(fy l o.2).bind fun y=>match y.1 with
   | .Ip k=>(fx l y.2).bind fun x=>match x.2[n]? with
    | some (.dt kvs)=>some ((bJ kvs k).getD x.1,x.2)
    | _=>none
   | _=>none
  | _=>none
 | _=>none
def yP(fe fo fy:RE):RS:=fun l h=>(fe l h).bind fun v=>(fo l v.2).bind fun o=>(fy l o.2).bind fun y=>match o.1,y.1 with
 | .ref n,.Ip k=>match y.2[n]? with
  | some (.dt kvs)=>if kvs.length<sizeLine then some (.nx l (y.2.set n (.dt (hJ kvs k v.1))))else none
  | _=>none
 | _,_=>none
noncomputable def II(f:RE):RI:=fun l h=>(f l h).bind fun r=>match r.1 with
 | .ref n=>match r.2[n]? with
  | some (.dt kvs)=>some (.it n,r.2.set n (.df kvs))
  | some (.df _)=>some (.it n,r.2)
  | _=>none
 | _=>none
section
variable{K:Frag}{H:Hp}{ρ:Rg}
abbrev KD(K:Frag)(H:Hp)(ρ:Rg)(kvs:List (List Int×Dt))(vs:List (List pC×V)):Prop:=vs.map (·.1)=kvs.map (fun p=>p.1.map Sum.inl)/\qm K H ρ (kvs.map (·.2)) (vs.map (·.2))
theorem zah{k k':List Int}:k.map (Sum.inl:Int->pC)=k'.map Sum.inl↔k=k':=⟨fun h=>(map_inj_right (fun Z Z z=>Sum.inl.inj z)).mp h,fun h=>by rw[h]⟩
theorem FU(k:List Int):(k.map (Sum.inl:Int->pC)).map kV=k.map V.int:=by rw[map_map];rfl
theorem KD.Ql{vs:List (List pC×V)}(r:KD K H ρ [] vs):vs=[]:=by have:=r.1;simpa using this
theorem KD.Km{p:List Int×Dt}{kvs:List (List Int×Dt)}{vs:List (List pC×V)}(r:KD K H ρ (p::kvs) vs):∃v rs,vs=(p.1.map Sum.inl,v)::rs/\zm K H ρ p.2 v/\KD K H ρ kvs rs:=by
 obtain⟨h1,h2⟩:=r;cases vs with
 | nil=>simp at h1
 | cons q rs=>simp only[zfJ,List.cons.injEq]at h1;obtain⟨v,r',e,g1,g2⟩:=qm.Km (by simpa only[zfJ]using h2);simp only[zfJ,List.cons.injEq]at e;obtain⟨q1,q2⟩:=q;have h11:q1=p.1.map Sum.inl:=h1.1;have e1:q2=v:=e.1;subst e1;exact⟨q2,rs,by rw[h11],g1,h1.2,by rw[e.2];exact g2⟩
theorem KD.cons{p:List Int×Dt}{v:V}{kvs:List (List Int×Dt)}{vs:List (List pC×V)}(g:zm K H ρ p.2 v)(r:KD K H ρ kvs vs):KD K H ρ (p::kvs) ((p.1.map Sum.inl,v)::vs):=
 ⟨by simp only[zfJ];rw[r.1],.cons g r.2⟩
theorem KD.length{kvs:List (List Int×Dt)}{vs:List (List pC×V)}(r:KD K H ρ kvs vs):vs.length=kvs.length:=by have:=congrArg List.length r.1;simpa using this
theorem KD.get:∀{kvs:List (List Int×Dt)}{vs:List (List pC×V)}{i:Nat}{p:List Int×Dt},KD K H ρ kvs vs->kvs[i]?=some p->∃v,vs[i]?=some (p.1.map Sum.inl,v)/\zm K H ρ p.2 v
 | [],_,_,_,_,e=>by simp at e
 | q::kvs,_,0,p,r,e=>by obtain⟨v,rs,rfl,g,Z⟩:=r.Km;simp at e;subst e;exact⟨v,rfl,g⟩
 | q::kvs,_,i+1,p,r,e=>by obtain⟨v,rs,rfl,Z,r'⟩:=r.Km;obtain⟨u,e1,e2⟩:=KD.get (i:=i) r' (by simpa using e);exact⟨u,by simpa using e1,e2⟩
theorem KD.val(k:List Int):∀{kvs:List (List Int×Dt)}{vs:List (List pC×V)},KD K H ρ kvs vs->(∀d,bJ kvs k=some d->∃v,zF vs (k.map Sum.inl)=some v/\zm K H ρ d v)/\(bJ kvs k=none->zF vs (k.map Sum.inl)=none)
 | [],_,r=>by rw[r.Ql];exact⟨fun d e=>by simp[bJ]at e,fun Z=>rfl⟩
 | p::kvs,_,r=>by
  obtain⟨v,rs,rfl,g,r'⟩:=r.Km;by_cases c:p.1=k
  · have e1:bJ (p::kvs) k=some p.2:=by simp[bJ,find?_cons,c]
    rw[e1,wO (zah.mpr c)];exact⟨fun d e=>by cases e;exact⟨v,rfl,g⟩,fun e=>by cases e⟩
  · have e1:bJ (p::kvs) k=bJ kvs k:=by simp[bJ,find?_cons,c]
    rw[e1,vO (fun z=>c (zah.mp z))];exact KD.val k r'
theorem KD.any(k:List Int):∀{kvs:List (List Int×Dt)}{vs:List (List pC×V)},KD K H ρ kvs vs->(vs.any fun p=>decide (p.1=k.map Sum.inl))=kvs.any fun p=>decide (p.1=k)
 | [],_,r=>by rw[r.Ql];rfl
 | p::kvs,_,r=>by
  obtain⟨v,rs,rfl,g,r'⟩:=r.Km;rw[any_cons,any_cons,KD.any k r']
  congr 1
  exact decide_eq_decide.mpr zah
theorem KD.repl(k:List Int){d:Dt}{v:V}(g:zm K H ρ d v):∀{kvs:List (List Int×Dt)}{vs:List (List pC×V)},KD K H ρ kvs vs->
 KD K H ρ (kvs.map fun p=>if p.1=k then(p.1,d)else p) (vs.map fun p=>if p.1=k.map Sum.inl then(p.1,v)else p)
 | [],_,r=>by rw[r.Ql];exact⟨rfl,.nil⟩
 | p::kvs,_,r=>by
  obtain⟨u,rs,rfl,g',r'⟩:=r.Km;rw[zfJ,zfJ];by_cases c:p.1=k
  · rw[if_pos c,if_pos (zah.mpr c)];exact KD.cons (p:=(p.1,d)) g (KD.repl k g r')
  · rw[if_neg c,if_neg (fun z=>c (zah.mp z))];exact KD.cons g' (KD.repl k g r')
theorem KD.put(k:List Int){d:Dt}{v:V}(g:zm K H ρ d v){kvs:List (List Int×Dt)}{vs:List (List pC×V)}(r:KD K H ρ kvs vs):KD K H ρ (hJ kvs k d) (JF vs (k.map Sum.inl) v):=by
 unfold hJ JF;rw[r.any k];split
 · exact r.repl k g
 · refine⟨by rw[map_append,map_append,r.1];rfl,?_⟩;rw[map_append,map_append];exact r.2.append (.cons g .nil)
theorem KD.ext{ρ':Rg}{H':Hp}{kvs:List (List Int×Dt)}{vs:List (List pC×V)}(r:KD K H ρ kvs vs)(x:Ext ρ ρ' H H'):KD K H' ρ' kvs vs:=⟨r.1,r.2.ext x⟩
theorem Dm.zcr{h:HI}(S:Dm K ρ h H){a:Addr}{vs:List V}(e:H a=some (.tup vs)):ρ.no a:=by
 refine⟨fun ha=>?_,fun ha=>?_⟩
 · obtain⟨n,hn⟩:=mem_iff_getElem?.mp ha;have hl:n<h.length:=by rw[<- S.len];exact(zfR hn).1
   have ob:=S.ob n a _ hn (getElem?_eq_getElem hl);cases q:h[n]with
   | lst xs=>rw[q]at ob;obtain⟨Z,g,Z⟩:=ob;rw[e]at g;cases g
   | ins y fs=>rw[q]at ob;obtain⟨Z,Z,Z,Z,g,Z⟩:=ob;rw[e]at g;cases g
   | dk kvs=>rw[q]at ob;obtain⟨Z,g,Z⟩:=ob;rw[e]at g;cases g
   | dt kvs=>rw[q]at ob;obtain⟨Z,g,Z⟩:=ob;rw[e]at g;cases g
   | df kvs=>rw[q]at ob;obtain⟨Z,Z,g,Z⟩:=ob;rw[e]at g;cases g
 · obtain⟨Z,Z,g⟩:=S.zt a ha;rw[e]at g;cases g
theorem bQ{a:Addr}{kvs:List (List pC×V)}(h:H a=some (.dT kvs)):zV H a:=fun Z Z e=>by rw[h]at e;cases e
end
section
variable{X:Cx}{e o i d a b f:Expr}{fe fo fi fa fb fy fx:RE}{pos pos' apos cpos:Pos}
theorem Dy:EM X (.Dict [] [] pos) hV:=by with_unfolding_all exact PE.imp Iw fun σ H Q zz=>by obtain⟨ρ,l,h,d,h',S,L,e,k⟩:=zz;cases e;intro p hp;refine k (ρ.add p) _ _ (Im.mpr ⟨p,rfl,?_⟩) (S.own hp ⟨[],jD,rfl,.nil⟩) (Ext.own hp);simp only[Rg.add];rw[<- S.len,zfV (zfU _),Nat.sub_self];rfl
theorem jr{es:List Expr}{g:RA}{x1}(h:AM X es g):EM X (.Tuple es x1 pos) (VP g):=by
 with_unfolding_all
  exact PE.imp (B0 h) fun σ H Q zz=>by
   obtain⟨ρ,l,h,d,h',S,L,e,k⟩:=zz;obtain⟨⟨ds,h1⟩,e1,e⟩:=vA e;dsimp only at e;by_cases hz:ds.length<=sizeLine
   · rw[if_pos hz]at e;cases q:HE ds with
     | none=>rw[q]at e;cases e
     | some is=>rw[q]at e;cases e;refine⟨ρ,l,h,ds,_,S,L,e1,fun ρ1 vs H1 R1 S1 E1=>⟨by rw[R1.length];exact hz,fun p hp=>k ρ1 _ _ (Fp.mpr ⟨p,rfl,S1.out hp,?_⟩) (S1.fresh hp) (E1.trans (Ext.fresh hp))⟩⟩;rw[CJ q]at R1;rw[jD,R1.zan]
   · rw[if_neg hz]at e;cases e
theorem Oz (hu:X.A.units+64<cLine) (ho:EM X o fo) (hy:EM X e fy) (hx:EM X f fx) (m:M2 X o "get" apos e f cpos:=by exact⟨rfl,rfl,rfl,rfl⟩) :
 EM X (.Call (.Attribute o "get" apos) [e,f] [] cpos) (XH fo fy fx):=by
 with_unfolding_all
  exact PE.imp (Hw (by omega) ho hy hx m) fun σ H Q zz=>by
   obtain⟨ρ,l,h,dd,h',S,L,e,k⟩:=zz;obtain⟨⟨d1,h1⟩,e1,e⟩:=vA e;refine⟨ρ,l,h,d1,h1,S,L,e1,fun ρ1 x H1 R1 S1 E1=>?_⟩;cases d1 with
   | ref n=>
    dsimp only at e;split at e
    · rename_i kv0 q0;obtain⟨⟨y,h2⟩,e2,e⟩:=vA e;dsimp only at e;cases y with
      | Ip ks=>
       obtain⟨⟨dx,h3⟩,e3,e⟩:=vA e;dsimp only at e;split at e
       · rename_i kvs q;cases e;obtain⟨aa,z,ha⟩:=Im.mp R1;obtain⟨vs0,g0,Z⟩:=S1.ob n aa _ ha q0;refine⟨aa,z,.inr ⟨vs0,.inl g0⟩,ρ1,l,h1,.Ip ks,h2,S1,L.ext E1,e2,fun ρ2 y H2 R2 S2 E2=>⟨ρ2,l,h2,dx,_,S2,L.ext (E1.trans E2),e3,fun ρ3 x3 H3 R3 S3 E3=>?_⟩⟩;obtain⟨kb,zk,nk,gk⟩:=Fp.mp (zm.ext E3 _ R2);obtain⟨vs,g1,g2⟩:=S3.ob n aa _ ((E2.trans E3).get ha) q;refine⟨zF vs (ks.map Sum.inl),by rw[zk];exact zbf.t g1 (by rw[FU];exact gk),?_⟩;obtain⟨v1,v2⟩:=KD.val (K:=X.K) ks g2;refine k ρ3 _ H3 ?_ S3 (E1.trans (E2.trans E3));cases c:bJ kvs ks with
         | none=>rw[v2 c];exact R3
         | some d4=>obtain⟨v4,e4,r4⟩:=v1 d4 c;rw[e4];exact r4
       · cases e
      | _=>cases e
    · cases e
   | _=>cases e
theorem Bf(hu:X.A.units+64<cLine)(he:EM X e fe)(ho:EM X o fo)(hi:EM X i fi)(hs:autoParam (swapsWith e (some (.Subscript o i pos')) pos.line X.env=pure false) zqR._auto_1) :
 ZM X (.Assign [.Subscript o i pos'] e pos) (yP fe fo fi):=by
 with_unfolding_all
  exact PS.imp (Dh (by omega) ho hi he hs) fun D σ H zz=>by
   obtain⟨ρ,l,h,r,S,L,e,k⟩:=zz;obtain⟨⟨v,hv⟩,e1,e⟩:=vA e;obtain⟨⟨d,hd⟩,e2,e⟩:=vA e;obtain⟨⟨j,hj⟩,e3,e⟩:=vA e;refine⟨ρ,l,h,v,hv,S,L,e1,fun ρ1 u H1 R1 S1 E1=>⟨ρ1,l,hv,d,hd,S1,L.ext E1,e2,fun ρ2 y H2 R2 S2 E2=>⟨ρ2,l,hd,j,hj,S2,L.ext (E1.trans E2),e3,fun ρ3 z H3 R3 S3 E3=>?_⟩⟩⟩;cases d with
   | ref n=>
    cases j with
    | Ip ks=>
     dsimp only at e;split at e
     · rename_i kvs q;obtain⟨hz,e⟩:=OE e;cases e;obtain⟨aa,zz,ha⟩:=Im.mp (zm.ext E3 _ R2);obtain⟨vs,g1,g2⟩:=S3.ob n aa _ ha q;obtain⟨kb,zk,nk,gk⟩:=Fp.mp R3;have hm:=mem_of_getElem? ha;have g3:KD X.K H3 ρ3 kvs vs:=g2;refine⟨aa,_,zz,by rw[zk];exact zbg.t g1 (by rw[FU];exact gk) (by rw[g3.length];exact hz),?_⟩;exact k ρ3 σ _ (S3.write ha (bQ g1) ⟨_,jD,(g3.put ks (zm.ext (E2.trans E3) _ R1)).ext (Ext.write hm (bQ g1))⟩) (L.ext (E1.trans (E2.trans (E3.trans (Ext.write hm (bQ g1)))))) (E1.trans (E2.trans (E3.trans (Ext.write hm (bQ g1)))))
     · cases e
    | _=>cases e
   | _=>cases e
theorem RX{K:Frag}{H:Hp}{ρ:Rg}{n:Nat}{aa:Addr}{ob:Obj}{vs0:List (List pC×V)}(ha:ρ.v[n]?=some aa)(e:H aa=some (.frz ob (.dT vs0))):Z0 K H ρ (.it n) (GV aa ob):=by
 intro H2 ρ2 h2 sm S2 i;have f2:=sm.fz aa ob _ e;have ha2:=sm.ix n aa ha;simp only[Src.at];cases q:h2[n]? with
 | none=>trivial
 | some u=>
  cases u with
  | df kvs=>
   obtain⟨o',vs,g1,g2⟩:=S2.ob n aa _ ha2 q;have g3:KD K H2 ρ2 kvs vs:=g2;rw[f2]at g1;cases g1;dsimp only;cases hi:kvs[i]? with
   | none=>exact⟨vs0,f2,by rw[g3.length];exact getElem?_eq_none_iff.mp hi⟩
   | some p=>obtain⟨v,e1,r1⟩:=g3.get hi;refine⟨⟨vs0,_,f2,e1⟩,fun x H3 zz=>?_⟩;obtain⟨qq,kb,p',hn,ex,hk,hh,eH⟩:=zz;have ep:=hh vs0 f2;rw[e1]at ep;cases ep;subst ex eH;rw[FU]at hk;exact⟨PL S2 (.cons (Em.mpr ⟨kb,_,rfl,.inl ⟨S2.zcr hk,.inl hk⟩,qm.ints p.1⟩) (.cons r1 .nil)) hn,Ext.fresh hn,S2.fresh hn⟩
  | _=>trivial
theorem Ek {elts:List Expr} {x1} {tp:Pos} (ho:EM X d fa) (hbase:autoParam (attributeBase d "items" X.env (eval d X.env)=eval d X.env) zqR._auto_1) (hline:autoParam ((apos.endLine==cpos.line)=true) zqR._auto_1) :
 IM X (.Tuple elts x1 tp) (.Call (.Attribute d "items" apos) [] [] cpos) (II fa):=by
 with_unfolding_all
  exact PI.imp (Lw ho hbase hline) fun σ H R zz=>by
   obtain⟨ρ,l,h,s,h',S,L,e,k⟩:=zz;obtain⟨⟨d1,h1⟩,e1,e⟩:=vA e;refine⟨ρ,l,h,d1,h1,S,L,e1,fun ρ1 v H1 R1 S1 E1=>?_⟩;cases d1 with
   | ref n=>
    obtain⟨aa,z,ha⟩:=Im.mp R1;have hm:=mem_of_getElem? ha;refine⟨aa,z,?_⟩;dsimp only at e;split at e
    · rename_i kvs q;cases e;obtain⟨vs,g1,g2⟩:=S1.ob n aa _ ha q;have g3:KD X.K H1 ρ1 kvs vs:=g2;refine .inl ⟨vs,g1,fun ob=>k ρ1 _ _ (RX ha jD) (S1.write ha (bQ g1) ⟨ob,vs,jD,g3.ext (Ext.write hm (bQ g1))⟩) (E1.trans (Ext.write hm (bQ g1)))⟩
    · rename_i kvs q;cases e;obtain⟨ob,vs,g1,g2⟩:=S1.ob n aa _ ha q;exact .inr ⟨ob,vs,g1,k ρ1 _ _ (RX ha g1) S1 E1⟩
    · cases e
   | _=>cases e
end
end SM
namespace L2
section
variable{prog:Program}{w:World}{A:Around}{R:Result->Shared->Prop}{I:Addr}{fp wr:List Addr}{n:Nat}{P:Nat->Value->Prop}{St:Nat->Heap->Prop}
noncomputable abbrev BP (dv:Value):List (Str×Value):=[(Str.ofString "default",dv)]
theorem Ux(dv:Value)(Wk:Walks prog w A.in1 I fp wr n P St)(bt:Nat->Nat->Bool)(cmp:CmpOf prog w A.in1 .Lt P bt)(S:Addr)(nS:S∉fp) :
 ∀(k j:Nat)(s:Shared)(vb:Value)(c:Nat),n-(j+1)=k->j+1<=n->St (j+1) s.heap->P (argBest bt j) vb->
 s.heap.get? S=some { cls:=.type "list",dict:=none,data:=.seq #[vb,vb] c,slots:=#[] }->
 (∀v h' tk,P (argBest bt (n-1)) v->(∀b o,b∉wr->b≠S->s.heap.get? b=some o->h'.get? b=some o)->R (.ok (.ret v)) { s with heap:=h',toks:=tk })->
 codeAny (model prog w) A (.builtin "min.loop" ⟨[.ref I,.none,.ref S],BP dv⟩) R s:=by
 have nW:S∉wr:=fun h=>nS (Wk.sub _ h)
 have nm:(toString "min" ++ toString ".loop" :String) = "min.loop" :=by decide
 intro k
 induction k with
 | zero=>
  intro j s vb c ek hj st Pb gS fin;have ej:j+1=n:=by omega
  refine codeAny_builtin F.entry_min_loop ?_;rw[Around.under_plainId F.plain_min_loop _];show wpAny _ A.in1 (seqItems? (.ref S) >>=_) _ _ s;refine wpAny_bind (wpAny_seqItems gS rfl ?_);show wpAny _ A.in1 (tryCatch (pyNext (.ref I)) _ >>=_) _ _ s;refine wpAny_bind (wpAny_tryCatch (Wk.done s _ _ (ej ▸ st) fun h' tk kp=>?_));have gS':=kp S _ nW gS;show wpAny _ A.in1 (updateSeq S (fun Z=>#[]) >>=_) _ _ _;refine wpAny_bind (wpAny_updateSeq gS' rfl (wpAny_bind (wpAny_letGo (wpAny_pure ?_))));exact fin vb _ tk (by rw[<- ej];exact Pb) fun b o nb ns e=>(Heap.get?_update_other _ _ (Ne.symm ns)).trans (kp b o nb e)
 | succ k ih=>
  intro j s vb c ek hj st Pb gS fin;have lt:j+1<n:=by omega
  refine codeAny_builtin F.entry_min_loop ?_;rw[Around.under_plainId F.plain_min_loop _];show wpAny _ A.in1 (seqItems? (.ref S) >>=_) _ _ s;refine wpAny_bind (wpAny_seqItems gS rfl ?_);show wpAny _ A.in1 (tryCatch (pyNext (.ref I)) _ >>=_) _ _ s;refine wpAny_bind (wpAny_tryCatch (Wk.item (j+1) s _ _ lt st fun v h' tk Pv st' kp=>?_));have gS':=kp S _ nW gS;show wpAny _ A.in1 (tryCatch (holding [v,v] (richCompare .Lt v vb >>=_)) _ >>=_) _ _ _;refine wpAny_bind (wpAny_tryCatch (wpAny_holding (wpAny_bind (cmp (j+1) (argBest bt j) v vb _ _ _ Pv Pb ?_))));refine wpAny_bind (wpAny_holding (wpAny_truthy_bool (wpAny_bind (wpAny_letGo (wpAny_pure ?_)))));cases cb:bt (j+1) (argBest bt j)with
  | true=>
   simp only[if_true];refine wpAny_bind (wpAny_updateSeq gS' rfl (wpAny_bind (wpAny_letGo ?_)));rw[nm];refine wpAny_pure ⟨plainId_quiet F.plain_min_loop _,ih (j+1) _ v _ (by omega) lt (Wk.frame _ _ _ st' fun b hbf o e=>?_) (by simp only[argBest,cb,if_true];exact Pv) (Heap.get?_update_self _ gS' rfl) fun v' h'' tk'' Pv' kp'=>?_⟩
   · exact(Heap.get?_update_other _ _ (fun z:S=b=>nS (by rw[z];exact hbf))).trans e
   · exact fin v' h'' tk'' Pv' fun b o nb ns e=>kp' b o nb ns ((Heap.get?_update_other _ _ (Ne.symm ns)).trans (kp b o nb e))
  | false=>simp only[zfX,if_false];refine wpAny_bind (wpAny_letGo ?_);rw[nm];refine wpAny_pure ⟨plainId_quiet F.plain_min_loop _,ih (j+1) _ vb c (by omega) lt st' (by simp only[argBest,cb,zfX,if_false];exact Pb) gS' fun v' h'' tk'' Pv' kp'=>?_⟩;exact fin v' h'' tk'' Pv' fun b o nb ns e=>kp' b o nb ns (kp b o nb e)
theorem Tq(dv:Value)(Wk:Walks prog w A.in1 I fp wr n P St)(bt:Nat->Nat->Bool)(cmp:CmpOf prog w A.in1 .Lt P bt)(S:Addr)(nS:S∉fp)(hn:0<n){s:Shared}{c:Nat}(st:St 0 s.heap)
 (gS:s.heap.get? S=some { cls:=.type "list",dict:=none,data:=.seq #[] c,slots:=#[] })
 (fin:∀v h' tk,P (argBest bt (n-1)) v->(∀b o,b∉wr->b≠S->s.heap.get? b=some o->h'.get? b=some o)->R (.ok (.ret v)) { s with heap:=h',toks:=tk }) :
 codeAny (model prog w) A (.builtin "min.loop" ⟨[.ref I,.none,.ref S],BP dv⟩) R s:=by
 have nW:S∉wr:=fun h=>nS (Wk.sub _ h)
 have nm:(toString "min" ++ toString ".loop" :String) = "min.loop" :=by decide
 refine codeAny_builtin F.entry_min_loop ?_;rw[Around.under_plainId F.plain_min_loop _];show wpAny _ A.in1 (seqItems? (.ref S) >>=_) _ _ s;refine wpAny_bind (wpAny_seqItems gS rfl ?_);show wpAny _ A.in1 (tryCatch (pyNext (.ref I)) _ >>=_) _ _ s;refine wpAny_bind (wpAny_tryCatch (Wk.item 0 s _ _ hn st fun v h' tk Pv st' kp=>?_));have gS':=kp S _ nW gS;show wpAny _ A.in1 (updateSeq S (fun Z=>#[v,v]) >>=_) _ _ _;refine wpAny_bind (wpAny_updateSeq gS' rfl ?_);rw[nm];refine wpAny_pure ⟨plainId_quiet F.plain_min_loop _,Ux dv Wk bt cmp S nS _ 0 _ v _ rfl hn (Wk.frame _ _ _ st' fun b hbf o e=>?_) Pv (Heap.get?_update_self _ gS' rfl) fun v' h'' tk'' Pv' kp'=>?_⟩
 · exact(Heap.get?_update_other _ _ (fun z:S=b=>nS (by rw[z];exact hbf))).trans e
 · exact fin v' h'' tk'' Pv' fun b o nb ns e=>kp' b o nb ns ((Heap.get?_update_other _ _ (Ne.symm ns)).trans (kp b o nb e))
end
section
variable{prog:Program}{w:World}{A:Around}{E:Value->Shared->Prop}{s:Shared}
theorem Lq (x d:Value):argsOk "min" ⟨[x],BP d⟩:=by unfold argsOk;kernel_rfl
theorem Vx{x dv:Value}{R:Value->Shared->Prop}
 (h:wpAny (model prog w) A.in1 (pyIter x) (fun it s2=>∃I fp wr n P St bt,it=.ref I/\Walks prog w A.in1 I fp wr n P St/\St 0 s2.heap/\(∀b∈fp,b<s2.heap.objs.size)/\0<n/\CmpOf prog w A.in1 .Lt P bt/\
  ∀v h' tk,P (argBest bt (n-1)) v->(∀b o,b∉wr->s2.heap.get? b=some o->h'.get? b=some o)->R v { s2 with heap:=h',toks:=tk }) E s) :
 wpAny (model prog w) A (call (.builtin "min") [x] (BP dv)) R E s:=by
 have nm:(toString "min" ++ toString ".loop" :String) = "min.loop" :=by decide
 refine kmk_tree PySem.F.kind_min PySem.F.plain_min PySem.F.entry_min (Lq _ _) ?_;show wpAny _ A.in1 (Builtin.Builtins.bindParams "min" ["key", "default"] 0 ⟨[],BP dv⟩ >>=_) _ _ s;refine wpAny_bind (wpAny_of_eq (show Builtin.Builtins.bindParams "min" ["key", "default"] 0 ⟨[],BP dv⟩=pure [none,some dv]from rfl) (wpAny_bind (wpAny_pure ?_)));refine wpAny_bind (wpAny_mono h (fun it s2 h2=>?_) fun Z Z e=>e);obtain⟨I,fp,wr,n,P,St,bt,rfl,Wk,st,lo,hn,cmp,fin⟩:=h2;refine wpAny_bind (wpAny_newObj_type ?_);have nS:s2.heap.objs.size∉fp:=fun hm=>Nat.lt_irrefl _ (lo _ hm)
 rw[nm];refine wpAny_pure ⟨plainId_quiet F.plain_min_loop _,Tq dv Wk bt cmp s2.heap.objs.size nS hn (Wk.frame _ _ _ st fun b Z o e=>Heap.get?_push_of_some _ e) (Heap.get?_push_size _ rfl) fun v h' tk Pv kp=>?_⟩;exact fin v h' tk Pv fun b o nb e=>kp b o nb (zxD (Heap.lt_size e)) (Heap.get?_push_of_some _ e)
theorem Sx{l:Addr}{xs:Array (Int×Tok)}{dv:Value}{R:Value->Shared->Prop}(hh:A.handled=none)(hl:s.heap.IsList l (intItems xs))(hne:0<xs.size)
 (h:∀v h' tk,(intItems xs)[argBest (fun i j=>decide (numAt xs i<numAt xs j)) (xs.size-1)]?=some v->(∀b o,s.heap.get? b=some o->h'.get? b=some o)->R v { s with heap:=h',toks:=tk }) :
 wpAny (model prog w) A (call (.builtin "min") [.ref l] (BP dv)) R E s:=by
 refine Vx (iter_intList hl fun s2 e st lo hlI=>?_);subst e;refine⟨_,_,_,_,_,_,_,rfl,Walks.list (A:=A.in1) hh _ l hlI (intItems xs),st,lo,by simpa[intItems]using hne,CmpOf.ints_lt (numAt xs) (fun Z Z=>intItems_at),fun v h' tk Pv kp=>?_⟩;exact h v h' tk (by simpa[intItems]using Pv) (old_kept kp)
end
section
variable{X:Cx}{e d:Expr}{ta:TA}{td:TE}{p pos kp:Pos}
def F7(K:Frag)(ta:TA)(td:TE):TE:=fun σ H Q=>ta σ H fun xs H1=>td σ H1 fun Z H2=>∃(q:Addr)(ns:List Int),xs=[.ref q]/\vp K H2 q (ns.map V.int)/\ns ≠ []/\∀M,M∈ns->(∀a∈ns,M<=a)->Q (.int M) H2
theorem oh (hc:X.calm=true) (hg:Gl X "min") (hm:X.mg "min" =none) (ha:PA X [e] ta) (hd:PE X d td) (he:autoParam (starEach [e] X.env=[(false,eval e X.env)]) zqR._auto_1) :
 PE X (.Call (.Name "min" p) [e] [⟨some "default",d,kp⟩] pos) (F7 X.K ta td):=by
 intro pins s σ H Q I h;refine wpAny_Call_Name_kw (SH I hg hm PyProof.Rows.boot_min ?_);refine callWith_kw ?z1 (by rw[he];rfl) (by rw[he];rfl) rfl rfl;refine HB (ha pos pins s σ H _ I h) fun us s1 ⟨vs,H1,I1,r1,q1⟩=>?z2
 refine kws_cons ?z3;refine HB (hd pins s1 σ H1 _ I1 q1) fun v s2 ⟨y,H2,I2,ry,q2⟩=>?z4
 refine kws_nil ?z5;show wpAny _ _ (call (.builtin "min") us (BP v)) _ _ _;obtain⟨q,ns,rfl,hq,hne,fin⟩:=q2;obtain⟨u,rfl,rx⟩:=TF r1;cases rx;obtain⟨its,r',pl,hz⟩:=I2.list hq;obtain⟨ys,e1,e2⟩:=LN (KN r');have hl:=pl.isList;rw[e1]at hl;have hsz:0<ys.size:=by
  rcases Nat.eq_zero_or_pos ys.size with z | z
  · exfalso;apply hne;rw[<- e2];have:ys.toList=[]:=eq_nil_of_length_eq_zero (by simpa using z);rw[this];rfl
  · exact z
 refine Sx (I2.ok.hd hc) hl hsz fun v h' tk hv k=>?_
 obtain⟨t,rfl⟩:=intItems_at hv;obtain⟨h1,h2⟩:=argBest_lt (numAt ys) (ys.size-1);refine⟨.int _,H2,I2.kept k,⟨t,rfl⟩,fin _ ?_ fun a ha=>?_⟩
 · rw[numAt_eq,<- e2];exact getD_mem (by rw[length_map,Array.length_toList];omega)
 · rw[<- e2]at ha;obtain⟨j,hj,rfl⟩:=mem_getD ha;rw[length_map,Array.length_toList]at hj;rw[<- numAt_eq];exact h2 j (by omega)
end
end L2
namespace SM
def iV(fa fd:RE):RE:=fun l h=>(fa l h).bind fun r=>(fd l r.2).bind fun q=>(OB q.2 r.1).bind fun xs=>(HE xs).bind fun ns=>if ns ≠ []then some (.int (fC ns),q.2)else none
section
variable{X:Cx}{e d:Expr}{fa fd:RE}{p pos kp:Pos}
theorem Kh (hc:X.calm=true) (hg:Gl X "min") (hm:X.mg "min" =none) (ha:EM X e fa) (hd:EM X d fd) (hs:autoParam (DB e=true) zqR._auto_1):EM X (.Call (.Name "min" p) [e] [⟨some "default",d,kp⟩] pos) (iV fa fd):=by with_unfolding_all exact PE.imp (oh hc hg hm (yD ha sE (wB hs _ _)) hd (wB hs _ _)) fun σ H Q zz=>by obtain⟨ρ,l,h,dd,h',S,L,e,k⟩:=zz;obtain⟨⟨d1,h1⟩,e1,e⟩:=vA e;obtain⟨⟨d2,h2⟩,e2,e⟩:=vA e;obtain⟨xs,e3,e⟩:=vA e;obtain⟨ns,q,e⟩:=vA e;obtain⟨hne,e⟩:=OE e;cases e;refine⟨ρ,l,h,d1,h1,S,L,e1,fun ρ1 v H1 R1 S1 E1=>⟨ρ1,l,h1,d2,_,S1,L.ext E1,e2,fun ρ2 v2 H2 R2 S2 E2=>?_⟩⟩;obtain⟨a,vs,z,sq,r⟩:=PF S2 (zm.ext E2 _ R1) e3;rw[CJ q]at r;rw[r.zan]at sq;obtain⟨m1,m2⟩:=fH ns hne;refine⟨a,ns,by rw[z],sq,hne,fun M g1 g2=>?_⟩;have:M=fC ns:=Int.le_antisymm (g2 _ m1) (m2 M g1);rw[this];exact k ρ2 _ H2 (rm.mpr rfl) S2 (E1.trans E2)
end
end SM
namespace L2
section
variable{X:Cx}
end
end L2
namespace SM
section
variable{X:Cx}{e:Expr}{f:RE}{p p' pos pos':Pos}
end
end SM
namespace L2
noncomputable def vd(lo c:Int)(n:Nat):It:=⟨fun i Z=>i<n,fun i H x H'=>H'=H/\x=.int (lo+(i:Int)*c),fun i Z=>n<=i⟩
theorem gw{P:Program}{w:World}{K:Frag}{tg:Expr}(it:Addr)(lo c:Int)(n:Nat):jI P w K tg (vd lo c n) [it] it (fun i h=>IsRangeIter h it (lo+(i:Nat)*c) ((n:Int)-(i:Nat)) c) where
 mem:=by simp
 obj:=fun i h st b hb=>by
  have e:b=it:=by simpa using hb
  subst e;exact⟨_,st,fun v z=>by
   have z':Data.fields _=Data.cell v:=z;cases z'⟩
 keep:=fun i h h' st k=>k it (by simp) _ st
 item:=by
  intro X hP hw hK hc i pins s σ H E I hf st hg;subst hP hw hK;obtain⟨f0,f1,f2,f3,f4,f5⟩:=hf it (by simp);have W:=Walks.range (prog:=X.prog) (w:=X.w) (I.ok.hd hc) it lo c n;refine W.item i s _ _ hg st fun v h' tk hv st' kk=>?_
  obtain⟨t,rfl⟩:=hv;have I1:Inv X pins σ H { s with heap:=h',toks:=tk }:=I.turned (fun b o hb e=>kk b o (by simpa using hb) e) f0 f1 f3 f4 f5;exact⟨_,rfl,YU (s:={ s with heap:=h',toks:=tk }) (n := "range_iterator") st' rfl rfl (by decide) ⟨.int (lo+(i:Int)*c),H,I1,⟨t,rfl⟩,⟨rfl,rfl⟩,st',fun b hb=>(hf b hb).1⟩⟩
 done:=by intro X hP hw hK hc i pins s σ H E I hf st hg;subst hP hw hK;obtain⟨f0,f1,f2,f3,f4,f5⟩:=hf it (by simp);exact wpAny_pyNext_range_end (I.ok.hd hc) st (by have:n<=i:=hg;omega) fun h' eb=>⟨rfl,I.turned (t':=s.toks) (fun b o hb e=>eb b o hb e) f0 f1 f3 f4 f5⟩
 self:=fun Z Z Z Z Z st h=>wpAny_pyIter_rangeiter st h
section
variable{X:Cx}{tg:Expr}
def S7(ta:TA):TI:=fun σ H R=>ta σ H fun vs H1=>∃(i j:Int)(c:Nat),vs=[.int i,.int j,.int (c:Int)]/\(0<=i/\i<2^61/\0<=j/\j<2^61/\0<c/\c<1000)/\R (vd i c ((j-i+(c:Int)-1)/(c:Int)).toNat) H1
theorem SX{i j:Int}{c:Nat}(hc:0<c):Builtin.Range.rangeSize i j (c:Int)=(((j-i+(c:Int)-1)/(c:Int)).toNat:Int):=by
 have c0:(c:Int)>0:=by omega
 unfold Builtin.Range.rangeSize;rw[if_pos c0];by_cases h:i<j
 · rw[if_pos h,show j-i+(c:Int)-1=(j-i-1)+1*(c:Int) by omega,Int.add_mul_ediv_right _ _ (by omega)];have:0<=(j-i-1)/(c:Int):=Int.ediv_nonneg (by omega) (by omega);omega
 · rw[if_neg h];have:(j-i+(c:Int)-1)/(c:Int)<=0:=by have h1:(j-i+(c:Int)-1)/(c:Int)<1:=Int.ediv_lt_of_lt_mul (by omega) (by omega);omega
   omega
theorem zq{i j:Int}{c:Nat}(q:0<=i/\i<2^61/\0<=j/\j<2^61/\0<c/\c<1000):Builtin.Range.small i j (c:Int)=true:=by
 obtain⟨a1,a2,a3,a4,a5,a6⟩:=q;have c0:(c:Int)>0:=by omega
 have sz:Builtin.Range.rangeSize i j (c:Int)<=2^61+1/\0<=Builtin.Range.rangeSize i j (c:Int):=by
  rw[SX a5];refine⟨?_,by omega⟩;have h1:(j-i+(c:Int)-1)/(c:Int)<2^61+1:=Int.ediv_lt_of_lt_mul (by omega) (by
   have:(2^61+1:Int)*(c:Int)=2^61*(c:Int)+(c:Int):=by rw[Int.add_mul,Int.one_mul]
   have h2:(2^61:Int)*1<=2^61*(c:Int):=Int.mul_le_mul_of_nonneg_left (by omega) (by decide);omega)
  omega
 unfold Builtin.Range.small;simp only[Builtin.Range.rangeFitsLong,Bool.and_eq_true,Bool.or_eq_true,decide_eq_true_eq,beq_iff_eq,c0,if_true];omega
theorem Ov {a b d:Expr} {ta:TA} {p pos:Pos} (hg:Gl X "range") (hm:X.mg "range" =none) (ha:PA X [a,b,d] ta) (hs:starEach [a,b,d] X.env=[(false,eval a X.env),(false,eval b X.env),(false,eval d X.env)]) (hs2:starEach [b,d] X.env=[(false,eval b X.env),(false,eval d X.env)]) :
 PI X tg (.Call (.Name "range" p) [a,b,d] [] pos) (S7 ta):=by
 intro pins s σ H R I h;refine Call_ (SH I hg hm boot_range (PyProof.Rows.callWith_type1 (HB (ha pos pins s σ H _ I h) fun us s1 zz=>?_) (by rw[hs,hs2]) (by rw[hs2];rfl)));obtain⟨vs,H1,I1,r1,q1⟩:=zz;obtain⟨i,j,c,e,qq,q⟩:=q1;subst e;cases r1 with
 | cons r rr=>
  cases rr with
  | cons r' rr=>
   cases rr with
   | cons r'' rr=>
    cases rr;obtain⟨t,rfl⟩:=r;obtain⟨t',rfl⟩:=r';obtain⟨t'',rfl⟩:=r'';have c5:=qq.2.2.2.2.1;have c6:=qq.2.2.2.2.2;refine call_range_3 (show((c:Nat):Int)≠0 by omega) ?_ (Or.inl (PyProof.noPylong_small (by omega)));refine wpAny_pyIter_range (IsRange.new ..) (zq qq) ?_;have I2:Inv X pins σ H1 { s1 with heap:=s1.heap.push { cls:=.type "range",data:=.fields #[.int i t,.int j t',.int (c:Int) t''] },toks:=s1.toks }:=I1.kept fun b o e=>Heap.get?_push_of_some _ e
    refine⟨(s1.heap.push { cls:=.type "range",data:=.fields #[.int i t,.int j t',.int (c:Int) t''] }).objs.size,[(s1.heap.push { cls:=.type "range",data:=.fields #[.int i t,.int j t',.int (c:Int) t''] }).objs.size],_,_,H1,rfl,
     I2.kept (t':=s1.toks) fun b o e=>Heap.get?_push_of_some _ e,gw _ i c ((j-i+(c:Int)-1)/(c:Int)).toNat,?_,fun b hb=>?_,q⟩
    · have e1:i+((0:Nat):Int)*(c:Int)=i:=by simp
      have e2:((((j-i+(c:Int)-1)/(c:Int)).toNat:Nat):Int)-((0:Nat):Int)=Builtin.Range.rangeSize i j (c:Int):=by rw[SX c5];omega
      show IsRangeIter _ _ (i+((0:Nat):Int)*(c:Int)) (((((j-i+(c:Int)-1)/(c:Int)).toNat:Nat):Int)-((0:Nat):Int)) (c:Int);rw[e1,e2];exact Heap.get?_push_size _ rfl
    · have e:b=(s1.heap.push { cls:=.type "range",data:=.fields #[.int i t,.int j t',.int (c:Int) t''] }).objs.size:=by simpa using hb
      subst e;exact I2.za4 (zfU _) (I2.hok.fresh (zfU _))
end
end L2
namespace SM
noncomputable def X2(f g:RE)(c:Nat):RI:=fun l h=>(f l h).bind fun r=>(g l r.2).bind fun q=>match r.1,q.1 with
 | .int i,.int j=>if 0<=i/\i<2^61/\0<=j/\j<2^61/\0<c/\c<1000 then some (.vals ((range ((j-i+(c:Int)-1)/(c:Int)).toNat).map fun(k:Nat)=>Dt.int (i+(k:Int)*(c:Int))),q.2)else none | _,_=>none
noncomputable def NI:ZD:=fun a b h=>match a,b with
 | .tup xs,.tup ys=>if xs ≠ []/\xs.length+ys.length<=sizeLine then some (.tup (xs++ys),h)else none
 | _,_=>none
noncomputable def jF(f:Str)(v:Dt):List (Str×Dt)->List (Str×Dt)
 | []=>[(f,v)]
 | (g,x)::r=>if g=f then(g,v)::r else(g,x)::jF f v r
noncomputable def LD(f:Str):List (Str×Dt)->Option Dt
 | []=>none
 | (g,x)::r=>if f=g then some x else LD f r
def xH(x f:Str)(fo:RE):RE:=fun l h=>(fo l h).bind fun r=>match r.1 with
 | .ref n=>(match r.2[n]? with
  | some (.ins y fs)=>if y=x then(LD f fs).bind fun d=>some (d,r.2)else none
  | _=>none)
 | _=>none
def ZI(x f:Str)(fo fe:RE):RS:=fun l h=>(fe l h).bind fun r=>(fo l r.2).bind fun q=>match q.1 with
 | .ref n=>(match q.2[n]? with
  | some (.ins y fs)=>if y=x/\fs.length<1000 then some (.nx l (q.2.set n (.ins y (jF f r.1 fs))))else none
  | _=>none)
 | _=>none
noncomputable def jP(x:Str)(F:IB)(g:RA):RE:=fun l h=>(g l h).bind fun r=>(F (.ref r.2.length::r.1) (r.2++[.ins x []])).bind fun q=>match q.1 with
 | .non=>some (.ref r.2.length,q.2)
 | _=>none
def WI(x m:Str)(F:IB)(fo:RE)(g:RA):RE:=fun l h=>(fo l h).bind fun r=>match r.1 with
 | .ref n=>(match r.2[n]? with
  | some (.ins y fs)=>if y=x/\LD m fs=none then(g l r.2).bind fun q=>F (.ref n::q.1) q.2 else none
  | _=>none)
 | _=>none
section
variable{X:Cx}{tg:Expr}
theorem zx {a b:Expr} {f g:RE} {c:Nat} {p pos:Pos} {d:Expr} (hg:Gl X "range") (hm:X.mg "range" =none) (ha:EM X a f) (hb:EM X b g) (hd:EM X d (eC (.int (c:Int)))) (hs:autoParam (DB a=true) zqR._auto_1) (hs2:autoParam (DB b=true) zqR._auto_1) (hs3:autoParam (DB d=true) zqR._auto_1) :
 IM X tg (.Call (.Name "range" p) [a,b,d] [] pos) (X2 f g c):=by
 with_unfolding_all
  exact PI.imp (Ov hg hm (yD ha (yD hb (yD hd sE (wB hs3 _ _)) (wB hs2 _ _)) (wB hs _ _)) (by rw[wB hs,wB hs2,wB hs3];rfl) (by rw[wB hs2,wB hs3];rfl)) fun σ H R zz=>by
   obtain⟨ρ,l,h,s,h',S,L,e,k⟩:=zz;obtain⟨⟨d1,h1⟩,e1,e⟩:=vA e;obtain⟨⟨d2,h2⟩,e2,e⟩:=vA e;refine⟨ρ,l,h,d1,h1,S,L,e1,fun ρ1 v H1 R1 S1 E1=>⟨ρ1,l,h1,d2,h2,S1,L.ext E1,e2,fun ρ2 u H2 R2 S2 E2=>⟨ρ2,l,h2,.int (c:Int),h2,S2,L.ext (E1.trans E2),rfl,fun ρ3 u3 H3 R3 S3 E3=>?_⟩⟩⟩;cases d1 with
   | int i=>
    cases d2 with
    | int j=>
     obtain⟨cc,e⟩:=OE e;cases e;refine⟨i,j,c,by rw[rm.mp R1,rm.mp R2,rm.mp R3],cc,k ρ3 _ H3 (fun H4 ρ4 h4 E4 S4 n=>?_) S3 (E1.trans (E2.trans E3))⟩;simp only[Src.at,getElem?_map];by_cases hi:n<((j-i+(c:Int)-1)/(c:Int)).toNat
     · rw[getElem?_range hi];refine⟨hi,fun v H5 q=>?_⟩;obtain⟨rfl,rfl⟩:=q;exact⟨rm.mpr rfl,Ext.refl _ _,S4⟩
     · rw[getElem?_eq_none (by simpa using Nat.not_lt.mp hi)];exact Nat.not_lt.mp hi
    | _=>cases e
   | _=>cases e
theorem uZ:OM X (binaryOp .Add) NI:=by
 with_unfolding_all
  exact Bp.imp Vg fun x y H Q zz=>by
   obtain⟨ρ,h,d1,d2,d,h',S,R1,R2,e,k⟩:=zz;cases d1 with
   | tup xs=>
    cases d2 with
    | tup ys=>
     obtain⟨⟨hx,hz⟩,e⟩:=OE e;cases e;obtain⟨a,vs,z1,q1,r1⟩:=Em.mp R1;obtain⟨b,ws,z2,q2,r2⟩:=Em.mp R2;refine⟨a,b,vs,ws,z1,z2,q1.sq,q2.sq,fun z=>?_,by rw[r1.length,r2.length];exact hz,fun z=>?_,fun z p hp=>k ρ _ _ (PL S (r1.append r2) hp) (S.fresh hp) (Ext.fresh hp)⟩
     · have:=r1.length;rw[z]at this;exact hx (length_eq_zero_iff.mp this.symm)
     · have hl:=r2.length;rw[z]at hl;have hy:ys=[]:=length_eq_zero_iff.mp hl.symm;subst hy;rw[zfW]at k;exact k ρ _ _ (z1 ▸ R1) S (Ext.refl _ _)
    | _=>cases e
   | _=>cases e
end
def cM(f:RE):RI:=fun l h=>(f l h).bind fun r=>match r.1 with
 | .lst xs=>some (.vals (XI 0 xs),r.2)
 | .ref n=>(match r.2[n]? with
  | some (.lst _)=>some (.en n,r.2)
  | _=>none)
 | _=>none
theorem lZ {X:Cx} {elts:List Expr} {x1} {tp p pos:Pos} {a:Expr} {f:RE} (hg:Gl X "enumerate") (hm:X.mg "enumerate" =none) (ha:EM X a f) (hs:autoParam (DB a=true) zqR._auto_1):IM X (.Tuple elts x1 tp) (.Call (.Name "enumerate" p) [a] [] pos) (cM f):=by
 with_unfolding_all
  refine PI.imp (vh hg hm (yD ha sE (wB hs _ _)) (wB hs _ _)) fun σ H R zz=>?_
  obtain⟨ρ,l,h,s,h',S,L,e,k⟩:=zz;obtain⟨⟨d1,h2⟩,e1,e⟩:=vA e;refine⟨ρ,l,h,d1,h2,S,L,e1,fun ρ1 v H1 R1 S1 E1=>?_⟩;cases d1 with
  | lst xs=>
   cases e;obtain⟨b,ws,rfl,q,r⟩:=Cm.mp R1;refine⟨b,rfl,⟨ws,q.sq⟩,k ρ1 _ H1 (fun H2 ρ2 h2 E2 S2 i=>?_) S1 E1⟩;have q2:=q.same E2;have r2:=qm.same E2 _ r;simp only[Src.at,xX,zxI];cases ei:xs[i]? with
   | none=>refine⟨ws,q2.sq,?_⟩;rw[r.length];exact getElem?_eq_none_iff.mp ei
   | some d=>obtain⟨v,g1,g2⟩:=r2.get ei;refine⟨⟨ws,v,q2.sq,g1⟩,fun u H3 y=>?_⟩;obtain⟨p0,y0,hp,rfl,gy,rfl⟩:=y;have g3:=gy ws q2.sq;rw[g1]at g3;cases g3;exact⟨PL S2 (.cons (rm.mpr rfl) (.cons g2 .nil)) hp,Ext.fresh hp,S2.fresh hp⟩
  | ref n=>
   dsimp only at e;split at e
   · rename_i xs0 q0;cases e;obtain⟨b,rfl,hb⟩:=Im.mp R1;obtain⟨vs0,g0,Z⟩:=S1.lst hb q0;refine⟨b,rfl,⟨vs0,vp.of g0⟩,k ρ1 _ H1 (fun H2 ρ2 h2 E2 S2 i=>?_) S1 E1⟩;have hb2:=E2.ix _ _ hb;simp only[Src.at];cases q:h2[n]? with
     | none=>trivial
     | some o=>
      cases o with
      | lst xs=>
       obtain⟨ws,g1,r⟩:=S2.lst hb2 q;dsimp only;cases ei:xs[i]? with
       | none=>refine⟨ws,vp.of g1,?_⟩;rw[r.length];exact getElem?_eq_none_iff.mp ei
       | some d=>obtain⟨v,g2,g3⟩:=r.get ei;refine⟨⟨ws,v,vp.of g1,g2⟩,fun u H3 y=>?_⟩;obtain⟨p0,y0,hp,rfl,gy,rfl⟩:=y;have g4:=gy ws (vp.of g1);rw[g2]at g4;cases g4;exact⟨PL S2 (.cons (rm.mpr rfl) (.cons g3 .nil)) hp,Ext.fresh hp,S2.fresh hp⟩
      | _=>trivial
   · cases e
  | _=>cases e
theorem NV{c:Prop}[Decidable c]{α:Type}{x:Option α}{b:α}(e:(if c then x else none)=some b):c/\x=some b:=by
 by_cases h:c
 · rw[if_pos h]at e;exact⟨h,e⟩
 · rw[if_neg h]at e;cases e
noncomputable def clsOf(K:Frag)(x:Str)(C:Addr):Prop:=nsIn K mainGlobals x=some (some (.ref C))
theorem clsOf.inj{K:Frag}{x:Str}{C C':Addr}(h:clsOf K x C)(h':clsOf K x C'):C=C':=by have:=h.symm.trans h';cases this;rfl
theorem tU{K:Frag}{H:Hp}{ρ:Rg}{f:Str}:∀{fs:List (Str×Dt)}{vs:List (Str×V)},fs.map (·.1)=vs.map (·.1)->qm K H ρ (fs.map (·.2)) (vs.map (·.2))->
 (∀d,LD f fs=some d->∃v,vs.lookup f=some v/\zm K H ρ d v)/\(LD f fs=none->vs.lookup f=none)
 | [],[],_,_=>⟨(fun Z h=>by cases h),fun Z=>rfl⟩
 | [],_::_,e,_=>by cases e
 | _::_,[],e,_=>by cases e
 | (x,d)::fs,(y,v)::vs,e,r=>by
  simp only[zfJ,List.cons.injEq]at e;obtain⟨e0,e⟩:=e;subst e0;obtain⟨v',rr,q,h1,h2⟩:=qm.Km r;cases q;obtain⟨i1,i2⟩:=tU (f:=f) e h2;by_cases z:f=x
  · have zb:(f==x)=true:=beq_iff_eq.mpr z;refine⟨fun d' h=>?_,fun h=>?_⟩
    · simp only[LD,if_pos z]at h;cases h;exact⟨v,by simp only[List.lookup,zb],h1⟩
    · simp only[LD,if_pos z]at h;cases h
  · have zb:(f==x)=false:=by rw[<- Bool.not_eq_true,beq_iff_eq];exact z
    refine⟨fun d' h=>?_,fun h=>?_⟩
    · simp only[LD,if_neg z]at h;obtain⟨w,w1,w2⟩:=i1 d' h;exact⟨w,by simp only[List.lookup,zb];exact w1,w2⟩
    · simp only[LD,if_neg z]at h;simp only[List.lookup,zb];exact i2 h
theorem PY{K:Frag}{H:Hp}{ρ:Rg}{f:Str}{d:Dt}{v:V}(rd:zm K H ρ d v):∀{fs:List (Str×Dt)}{vs:List (Str×V)},fs.map (·.1)=vs.map (·.1)->qm K H ρ (fs.map (·.2)) (vs.map (·.2))->
 (jF f d fs).map (·.1)=(L2.NB f v vs).map (·.1)/\qm K H ρ ((jF f d fs).map (·.2)) ((L2.NB f v vs).map (·.2))
 | [],[],_,_=>⟨rfl,.cons rd .nil⟩
 | [],_::_,e,_=>by cases e
 | _::_,[],e,_=>by cases e
 | (x,d0)::fs,(y,v0)::vs,e,r=>by
  simp only[zfJ,List.cons.injEq]at e;obtain⟨e0,e⟩:=e;subst e0;obtain⟨v',rr,q,h1,h2⟩:=qm.Km r;cases q;by_cases z:x=f
  · simp only[jF,L2.NB,if_pos z,zfJ];exact⟨by rw[e],.cons rd h2⟩
  · obtain⟨i1,i2⟩:=PY rd (f:=f) e h2;simp only[jF,L2.NB,if_neg z,zfJ];exact⟨by rw[i1],.cons h1 i2⟩
structure RJ(K:Frag)(x f:Str):Prop where
 ex:∃C,clsOf K x C/\Cls K C/\zae K C f
structure wH(P:Program)(w:World)(K:Frag)(mg:Str->Option Value)(base:Heap)(k n:Nat)(x m:Str)(F:IB):Prop where
 ex:∃C f fd ps,clsOf K x C/\Cls K C/\kK K C m f/\Xl P w K mg base cG k f fd ps (dJ K n F)/\Binds K fd ps []
 len:∀ds h r,F ds h=some r->ds.length=n
structure KL(K:Frag)(x m qual:Str)(st:Stmt)(ps:List Str):Prop where
 ex:∃C f fd,clsOf K x C/\Cls K C/\kK K C m f/\Fun K m qual st f fd/\Binds K fd ps []
structure JP(P:Program)(w:World)(K:Frag)(mg:Str->Option Value)(base:Heap)(k n:Nat)(x:Str)(F:IB):Prop where
 ex:∃C f fd ps,clsOf K x C/\Mk K C f/\Xl P w K mg base cG k f fd ps (dJ K n F)/\mg x=some (.ref C)/\Binds K fd ps []
 len:∀ds h r,F ds h=some r->ds.length=n
structure xU(K:Frag)(mg:Str->Option Value)(x qual:Str)(st:Stmt)(ps:List Str):Prop where
 ex:∃C f fd,clsOf K x C/\Mk K C f/\Fun K "__init__" qual st f fd/\mg x=some (.ref C)/\Binds K fd ps []
section
variable{P:Program}{w:World}{K:Frag}{mg:Str->Option Value}{base:Heap}
theorem qZ{x m qual:Str}{st:Stmt}{N ps:List Str}{k n mm:Nat}{body:RS}(D:KL K x m qual st ps)(S:SA N ps (BA st))(hn:ps.length=n)(hm:N.length=mm)
 (hb:∀(f:Addr)(cdv:Value)(A:Around)(outer:List Env)(s:Shared)(H:Hp)(E:XK),Ym k (A.deeper (envOfC qual (BA st) s.heap.objs.size f cdv))->
  kI (HF cG P w K mg base N qual (BA st) f cdv A outer s H E).nox (FD st) body):wH P w K mg base (k+1) n x m (cC n mm body):=by
 with_unfolding_all subst hn hm;obtain⟨C,f,fd,c1,c2,c3,hF,hB⟩:=D.ex;exact⟨⟨C,f,fd,ps,c1,c2,c3,nP hF S fun cdv A outer s H E hr=>hb f cdv A outer s H E hr,hB⟩,fun ds h r e=>AO e⟩
theorem Ht{x m qual:Str}{st:Stmt}{ps:List Str}{k n:Nat}(D:KL K x m qual st ps):wH P w K mg base k n x m (fun Z Z=>none):=by
 with_unfolding_all
  obtain⟨C,f,fd,c1,c2,c3,hF,hB⟩:=D.ex;refine⟨⟨C,f,fd,ps,c1,c2,c3,⟨fun vs H Q E h=>?_,fun A outer s H args us vs Q E hr he hb hv h=>?_⟩,hB⟩,fun ds h r e=>by cases e⟩
  · obtain⟨ρ,ds,h,d,h',Z,Z,Z,e,Z⟩:=h;cases e
  · obtain⟨ρ,ds,h,d,h',Z,Z,Z,e,Z⟩:=h;cases e
theorem jt{x qual:Str}{st:Stmt}{N ps:List Str}{k n mm:Nat}{body:RS}(D:xU K mg x qual st ps)(S:SA N ps (BA st))(hn:ps.length=n)(hm:N.length=mm)
 (hb:∀(f:Addr)(cdv:Value)(A:Around)(outer:List Env)(s:Shared)(H:Hp)(E:XK),Ym k (A.deeper (envOfC qual (BA st) s.heap.objs.size f cdv))->
  kI (HF cG P w K mg base N qual (BA st) f cdv A outer s H E).nox (FD st) body):JP P w K mg base (k+1) n x (cC n mm body):=by
 with_unfolding_all subst hn hm;obtain⟨C,f,fd,c1,c2,hF,c3,hB⟩:=D.ex;exact⟨⟨C,f,fd,ps,c1,c2,nP hF S fun cdv A outer s H E hr=>hb f cdv A outer s H E hr,c3,hB⟩,fun ds h r e=>AO e⟩
end
theorem Y2{H:Hp}{a C dx:Addr}{vs:List (Str×V)}(h:H a=some (.ins C dx vs)):zV H a:=fun Z Z e=>by rw[h]at e;cases e
section
variable{X:Cx}{e o value:Expr}{es:List Expr}{x f m:Str}{fo fe:RE}{g:RA}{pos pos' apos p:Pos}{k k' n:Nat}{F:IB}
theorem HL(cl:RJ X.K x f)(ha:EM X e fo)(hb:autoParam (attributeBase e f X.env (eval e X.env)=eval e X.env) zqR._auto_1):EM X (.Attribute e f pos) (xH x f fo):=by
 with_unfolding_all
  exact PE.imp (M6 ha hb) fun σ H Q zz=>by
   obtain⟨ρ,l,h,d,h',S,L,e,k⟩:=zz;obtain⟨⟨d1,h1⟩,e1,e⟩:=vA e;refine⟨ρ,l,h,d1,h1,S,L,e1,fun ρ1 v H1 R1 S1 E1=>?_⟩;cases d1 with
   | ref n=>
    dsimp only at e;split at e
    · rename_i y fs q;obtain⟨hy,e3⟩:=NV e;subst hy;obtain⟨d2,q2,e4⟩:=vA e3;cases e4;obtain⟨a,z,ha⟩:=Im.mp R1;obtain⟨C,dx,vs,c1,g1,g2,g3⟩:=S1.ob n a _ ha q;obtain⟨C',c2,c3,c4⟩:=cl.ex;have cc:C'=C:=clsOf.inj c2 c1;subst cc;obtain⟨v2,w1,w2⟩:=(tU g2 g3).1 _ q2;exact⟨a,C',dx,vs,v2,z,g1,c3,c4,w1,k ρ1 _ _ w2 S1 E1⟩
    · cases e
   | _=>cases e
theorem UO(cl:RJ X.K x f)(ha:EM X o fo)(hv:EM X value fe)(hs:autoParam (swapsWith value (some (.Attribute o f pos')) pos.line X.env=pure false) zqR._auto_1):ZM X (.Assign [.Attribute o f pos'] value pos) (ZI x f fo fe):=by
 with_unfolding_all
  exact PS.imp (b7 ha hv hs) fun D σ H zz=>by
   obtain⟨ρ,l,h,r,S,L,e,k⟩:=zz;obtain⟨⟨v,hv⟩,e1,e⟩:=vA e;obtain⟨⟨d,hd⟩,e2,e⟩:=vA e;refine⟨ρ,l,h,v,hv,S,L,e1,fun ρ1 u H1 R1 S1 E1=>⟨ρ1,l,hv,d,hd,S1,L.ext E1,e2,fun ρ2 y H2 R2 S2 E2=>?_⟩⟩;cases d with
   | ref n=>
    dsimp only at e;split at e
    · rename_i y fs q;obtain⟨⟨hy,hl⟩,e⟩:=OE e;cases e;subst hy;obtain⟨a,zz,ha⟩:=Im.mp R2;obtain⟨C,dx,vs,c1,g1,g2,g3⟩:=S2.ob n a _ ha q;obtain⟨C',c2,c3,c4⟩:=cl.ex;have cc:C'=C:=clsOf.inj c2 c1;subst cc;have hm:=mem_of_getElem? ha;have hlen:vs.length=fs.length:=by have:=congrArg List.length g2;simpa using this.symm
      obtain⟨p1,p2⟩:=PY (f:=f) (zm.ext E2 _ R1) g2 g3;refine⟨a,C',dx,vs,zz,g1,c3,c4,by rw[hlen];exact hl,?_⟩;exact k ρ2 σ _ (S2.write ha (Y2 g1) ⟨C',dx,_,c1,jD,p1,p2.ext (Ext.write hm (Y2 g1))⟩) (L.ext (E1.trans (E2.trans (Ext.write hm (Y2 g1))))) (E1.trans (E2.trans (Ext.write hm (Y2 g1))))
    · cases e
   | _=>cases e
theorem Fy (c:JP X.prog X.w X.K X.mg X.base k n x F) (hr:Ym k' X.A) (hk:k+1<=k') (hg:Gl X x) (ha:AM X (e::es) g) (hdb:autoParam ((x==("__debug__" :Str))=false) zqQ._auto_1)
 (he:autoParam (DB e=true) zqR._auto_1) (hpl:autoParam (es.all DB=true) zqR._auto_1):EM X (.Call (.Name x p) (e::es) [] pos) (jP x F g):=by
 with_unfolding_all
  obtain⟨C,f,fd,ps,c1,c2,c3,c4,c5⟩:=c.ex;exact PE.imp (jh c2 c3 (hr.mono hk) hg c4 c5 .nil (E:=E0) tP ha hdb (wB he _ _) (JJ hpl)) fun σ H Q zz=>by
   obtain⟨ρ,l,h,d,h',S,L,e,k⟩:=zz;obtain⟨⟨ds1,h1⟩,e1,e⟩:=vA e;obtain⟨⟨d2,h2⟩,e2,e⟩:=vA e;cases d2 with
   | non=>
    cases e;refine⟨ρ,l,h,ds1,h1,S,L,e1,fun ρ1 vs H1 R1 S1 E1 xa dx hx hdx hne=>?_⟩;have S2:Dm X.K ρ1 h1 (PB H1 dx (.own xa)):=S1.fresh hdx;have hx2:PB H1 dx (.own xa) xa=none:=by rw[ZA (Ne.symm hne)];exact hx
    have S3:=S2.own (p:=xa) (o:=.ins C dx []) (u:=.ins x []) hx2 ⟨C,dx,[],c1,jD,rfl,.nil⟩;have E3:Ext ρ1 (ρ1.add xa) H1 (PB (PB H1 dx (.own xa)) xa (.ins C dx [])):=(Ext.fresh hdx).trans (Ext.own hx2);have at3:(ρ1.add xa).v[h1.length]?=some xa:=by simp[Rg.add,<- S1.len]
    have R3:qm X.K (PB (PB H1 dx (.own xa)) xa (.ins C dx [])) (ρ1.add xa) (.ref h1.length::ds1) (.ref xa::(vs++[])):=.cons (Im.mpr ⟨xa,rfl,at3⟩) (by rw[zfW];exact R1.ext E3);exact⟨ρ1.add xa,_,_,.non,h2,S3,R3,c.len _ _ _ e2,e2,fun ρ' v H' R' S' E'=>⟨Jm.mp R',k ρ' _ H' (Im.mpr ⟨xa,rfl,E'.get at3⟩) S' (E1.trans (E3.trans E'))⟩⟩
   | _=>cases e
theorem bU{pl:Sem Bool}(c:wH X.prog X.w X.K X.mg X.base k n x m F)(hr:Ym k' X.A)(hk:k<=k')(ho:EM X o fo)(ha:AM X (e::es) g)
 (he:autoParam (DB e=true) zqR._auto_1) (hpl:autoParam (es.all DB=true) zqR._auto_1)
 (ht:autoParam (eval (.Call (.Attribute o m apos) (e::es) [] pos) X.env=(do
  let ov <- eval o X.env
  standAt apos.atName
  let (f,first) <- holding [ov] (getMethod ov m pl)
  callWith pos f first (backTo pos (starEach (e::es) X.env)) (backToKw pos (keywordEach [] X.env)))) zqR._auto_1):EM X (.Call (.Attribute o m apos) (e::es) [] pos) (WI x m F fo g):=by
 with_unfolding_all
  obtain⟨C,f,fd,ps,c1,c2,c3,c4,c5⟩:=c.ex;exact PE.imp (kh (pl:=pl) ho c2 c3 c4 (hr.mono hk) c5 .nil (E:=E0) tP ha (wB he _ _) (JJ hpl) ht) fun σ H Q zz=>by
   obtain⟨ρ,l,h,d,h',S,L,e,k⟩:=zz;obtain⟨⟨d1,h1⟩,e1,e⟩:=vA e;refine⟨ρ,l,h,d1,h1,S,L,e1,fun ρ1 v H1 R1 S1 E1=>?_⟩;cases d1 with
   | ref nn=>
    dsimp only at e;split at e
    · rename_i y fs q;obtain⟨⟨hy,hl⟩,e3⟩:=NV e;subst hy;obtain⟨⟨ds,h2⟩,e2,e4⟩:=vA e3;obtain⟨a,z,ha⟩:=Im.mp R1;obtain⟨C',dx,vs,c1',g1,g2,g3⟩:=S1.ob nn a _ ha q;have cc:C'=C:=clsOf.inj c1' c1;subst cc;refine⟨a,dx,vs,z,g1,(tU g2 g3).2 hl,ρ1,l,h1,ds,h2,S1,L.ext E1,e2,fun ρ2 us H2 R2 S2 E2=>?_⟩;exact⟨ρ2,_,h2,d,h',S2,.cons (zm.ext E2 _ R1) (by rw[zfW];exact R2),c.len _ _ _ e4,e4,(k.ext E1).ext E2⟩
    · cases e
   | _=>cases e
end
structure IP(K:Frag)(x qual:Str)(st:Stmt)(dV:Value)(f:Addr)(fd:FuncData):Prop where
 ex:∃(oc:Value)(od:Option Addr)(kV doc pm:Value)(an:Option Addr)(cdv ct:Value)(osl:Array (Option Value)),
  fd=fnOf x qual (AF st) (FD st) (BA st) dV kV doc pm an cdv ct/\K.lookup f=some ⟨oc,od,.func fd,osl⟩/\PySem.W.codeIn K cdv qual=true
 kp:keepIn K (.ref f)=true
section
variable{P:Program}{w:World}{K:Frag}{mg:Str->Option Value}{base:Heap}
theorem Nh{x qual:Str}{st:Stmt}{f:Addr}{oc dV:Value}{od an:Option Addr}{osl:Array (Option Value)}{kV doc pm cdv ct:Value}(l:K.lookup f=some ⟨oc,od,.func (fnOf x qual (AF st) (FD st) (BA st) dV kV doc pm an cdv ct),osl⟩)
 (c:PySem.W.codeIn K cdv qual=true) (k:keepIn K (.ref f)=true):IP K x qual st dV f (fnOf x qual (AF st) (FD st) (BA st) dV kV doc pm an cdv ct):=⟨⟨oc,od,kV,doc,pm,an,cdv,ct,osl,rfl,l,c⟩,k⟩
theorem Ir{x qual:Str}{st:Stmt}{dV:Value}{f:Addr}{fd:FuncData}{N ps:List Str}{k:Nat}{body:RS}(F:IP K x qual st dV f fd)(S:SA N ps (BA st))
 (hb:∀(cdv:Value)(A:Around)(outer:List Env)(s:Shared)(H:Hp)(E:XK),Ym k (A.deeper (envOfC qual (BA st) s.heap.objs.size f cdv))->
  kI (HF cG P w K mg base N qual (BA st) f cdv A outer s H E).nox (FD st) body):Xl P w K mg base cG (k+1) f fd ps (dJ K ps.length (cC ps.length N.length body)):=by
 with_unfolding_all
  obtain⟨oc,od,kV,doc,pm,an,cdv,ct,osl,rfl,lk,hcd⟩:=F.ex;refine J1 lk hcd S (fun vs H Q E h=>?_) fun A outer s H vs Q E hr h=>?_
  · obtain⟨ρ,ds,h,d,h',S,R,hl,Z⟩:=h;rw[R.length,hl]
  · obtain⟨ρ,ds,h,d,h',S,R,hl,e,k⟩:=h;refine⟨_,(hb cdv A outer s H E hr).nox,?_⟩;unfold cC at e;rw[if_pos hl]at e;rw[<- hl]at e;split at e
    · rename_i d1 h1 q;cases e;exact⟨ρ,_,h,_,S,VN R,q,k⟩
    · rename_i l1 h1 q;cases e;exact⟨ρ,_,h,_,S,VN R,q,fun ρ' σ' H' S' L' E'=>k ρ' _ H' (Jm.mpr rfl) S' E'⟩
    · cases e
structure oM(K:Frag)(mg:Str->Option Value)(x:Str)(st:Stmt)(ps:List Str)(dds:List Dt):Prop where
 ex:∃dV f fd ds Rp,IP K x x st dV f fd/\mg x=some (.ref f)/\Binds K fd ps ds/\Vals Rp ds/\∀H ρ,qm K H ρ dds Rp
structure mM(P:Program)(w:World)(K:Frag)(mg:Str->Option Value)(base:Heap)(k n:Nat)(x:Str)(F:IB)(dds:List Dt):Prop where
 ex:∃f fd ps ds Rp,Xl P w K mg base cG k f fd ps (dJ K n F)/\mg x=some (.ref f)/\keepIn K (.ref f)=true/\Binds K fd ps ds/\Vals Rp ds/\∀H ρ,qm K H ρ dds Rp
 len:∀ds h r,F ds h=some r->ds.length=n
theorem Qy{x:Str}{st:Stmt}{N ps:List Str}{k n m:Nat}{body:RS}{dds:List Dt}(D:oM K mg x st ps dds)(S:SA N ps (BA st))(hn:ps.length=n)(hm:N.length=m)
 (hb:∀(f:Addr)(cdv:Value)(A:Around)(outer:List Env)(s:Shared)(H:Hp)(E:XK),Ym k (A.deeper (envOfC x (BA st) s.heap.objs.size f cdv))->
  kI (HF cG P w K mg base N x (BA st) f cdv A outer s H E).nox (FD st) body):mM P w K mg base (k+1) n x (cC n m body) dds:=by
 with_unfolding_all subst hn hm;obtain⟨dV,f,fd,ds,Rp,hF,h1,h2,h3,h4⟩:=D.ex;exact⟨⟨f,fd,ps,ds,Rp,Ir hF S fun cdv A outer s H E hr=>hb f cdv A outer s H E hr,h1,hF.kp,h2,h3,h4⟩,fun ds h r e=>AO e⟩
end
section
variable{X:Cx}{k k' n:Nat}{F:IB}{x:Str}{p pos:Pos}{e:Expr}{es:List Expr}{g:RA}{dds:List Dt}
theorem xY (c:mM X.prog X.w X.K X.mg X.base k n x F dds) (hr:Ym k' X.A) (hk:k<=k') (hg:Gl X x) (ha:AM X (e::es) g) (hdb:autoParam ((x==("__debug__" :Str))=false) zqQ._auto_1)
 (he:autoParam (DB e=true) zqR._auto_1) (hpl:autoParam (es.all DB=true) zqR._auto_1) :
 EM X (.Call (.Name x p) (e::es) [] pos) (zA F dds g):=by
 with_unfolding_all obtain⟨f,fd,ps,ds,Rp,h1,h2,h3,h4,h5,h6⟩:=c.ex;exact wY h1 (hr.mono hk) hg h2 h3 h4 h5 h6 ha (fun F' e ds h r q=>c.len ds h r (e ▸ q)) hdb he hpl
end
def kB(K:Frag)(x:Str)(st:Stmt):Prop:=∃(f:Addr)(oc:Value)(od:Option Addr)(kV dc pm:Value)(an:Option Addr)(cd ct:Value)(sl:Array (Option Value)),nsIn K mainGlobals x=some (some (.ref f))/\
 K.lookup f=some ⟨oc,od,.func (fnOf x x (AF st) (FD st) (BA st) .none kV dc pm an cd ct),sl⟩/\PySem.W.codeIn K cd x=true/\keepIn K (.ref f)=true
def X0(K:Frag)(x:Str)(st:Stmt)(d:Int):Prop:=∃(f:Addr)(oc:Value)(od:Option Addr)(td:Addr)(kV dc pm:Value)(an:Option Addr)(cd ct:Value)(sl:Array (Option Value))(ot:Obj)(t:Tok)(nt:Nat),nsIn K mainGlobals x=some (some (.ref f))/\
 K.lookup f=some ⟨oc,od,.func (fnOf x x (AF st) (FD st) (BA st) (.ref td) kV dc pm an cd ct),sl⟩/\PySem.W.codeIn K cd x=true/\keepIn K (.ref f)=true/\K.lookup td=some ot/\ot.data=.seq #[.int d t] nt
def VL(K:Frag)(C:Addr)(m qual:Str)(st:Stmt):Prop:=∃(f:Addr)(oc:Value)(od:Option Addr)(kV dc pm:Value)(an:Option Addr)(cd ct:Value)(sl:Array (Option Value)),findIn K (.ref C) m=some (some (.ref f))/\PySem.W.isFn K (.ref f)=true/\
 K.lookup f=some ⟨oc,od,.func (fnOf m qual (AF st) (FD st) (BA st) .none kV dc pm an cd ct),sl⟩/\PySem.W.codeIn K cd qual=true/\keepIn K (.ref f)=true
structure nM(K:Frag)(x:Str)(C:Addr):Prop where
 ac:nsIn K mainGlobals x=some (some (.ref C))
 pg:PySem.W.plainGet K C Str.empty=true
 hd:PySem.W.hasDictIn K C=true
 po:PySem.W.plainOver K C=true
 sa:findIn K (.ref C) "__setattr__" =some (some (.builtin "object.__setattr__"))
 mkk:PySem.W.makesIn K C=true
 kc:keepIn K (.ref C)=true
section
variable{K:Frag}{h:Heap}{mg:Str->Option Value}{x m qual:Str}{st:Stmt}{ps:List Str}{C:Addr}{d:Int}
theorem uB(X:K.In h)(G:h.Ns mainGlobals mg)(D:kB K x st)(hb:∀(kV doc pm:Value)(an:Option Addr)(cdv ct:Value)(us:List Value),us.length=ps.length->bindArgs (fnOf x x (AF st) (FD st) (BA st) .none kV doc pm an cdv ct) ⟨us,[]⟩=pure (ps.zip us)):iB K mg x st ps:=by obtain⟨f,oc,od,kV,dc,pm,an,cd,ct,sl,a,l,c,k⟩:=D;have F:=cP l c k;exact⟨⟨f,_,F,PySem.W.mg_of X G a,F.binds hb⟩⟩
theorem Wy(X:K.In h)(G:h.Ns mainGlobals mg)(D:X0 K x st d)(hb:∀(s:Shared)(td:Addr)(ot:Obj)(t:Tok)(nt:Nat)(kV doc pm:Value)(an:Option Addr)(cdv ct:Value)(us:List Value),us.length=ps.length->s.heap.get? td=some ot->ot.data=.seq #[.int d t] nt->BindsTo s (fnOf x x (AF st) (FD st) (BA st) (.ref td) kV doc pm an cdv ct) ⟨us,[]⟩ (ps.zip (us++[]))):oM K mg x st ps []:=by obtain⟨f,oc,od,td,kV,dc,pm,an,cd,ct,sl,ot,t,nt,a,l,c,k,l2,e2⟩:=D;exact⟨⟨_,f,_,[],[],Nh l c k,PySem.W.mg_of X G a,fun s us KX hl=>hb s td ot t nt _ _ _ _ _ _ us (by simpa using hl) (KX _ _ l2) e2,.nil,fun Z Z=>.nil⟩⟩
theorem nY(k:nM K x C)(D:VL K C m qual st)(hb:∀(kV doc pm:Value)(an:Option Addr)(cdv ct:Value)(us:List Value),us.length=ps.length->bindArgs (fnOf m qual (AF st) (FD st) (BA st) .none kV doc pm an cdv ct) ⟨us,[]⟩=pure (ps.zip us)):KL K x m qual st ps:=by obtain⟨f,oc,od,kV,dc,pm,an,cd,ct,sl,a,i,l,c,k'⟩:=D;have F:=cP l c k';exact⟨⟨C,f,_,k.ac,⟨k.pg,k.hd,k.po,k.sa⟩,⟨a,i,k'⟩,F,F.binds hb⟩⟩
theorem Gk (X:K.In h) (G:h.Ns mainGlobals mg) (k:nM K x C) (D:VL K C "__init__" qual st) (hb:∀(kV doc pm:Value) (an:Option Addr) (cdv ct:Value) (us:List Value),us.length=ps.length->bindArgs (fnOf "__init__" qual (AF st) (FD st) (BA st) .none kV doc pm an cdv ct) ⟨us,[]⟩=pure (ps.zip us)):xU K mg x qual st ps:=by obtain⟨f,oc,od,kV,dc,pm,an,cd,ct,sl,a,i,l,c,k'⟩:=D;have F:=cP l c k';exact⟨⟨C,f,_,k.ac,⟨k.mkk,a,i,k.kc⟩,F,PySem.W.mg_of X G k.ac,F.binds hb⟩⟩
theorem dU{f:Str}(k:nM K x C)(n:findIn K (.ref C) f=some none):RJ K x f:=⟨⟨C,k.ac,⟨k.pg,k.hd,k.po,k.sa⟩,n⟩⟩
end
section
variable{Q:List Value->Prop}
theorem tK(h:Q []):∀us:List Value,us.length=0->Q us | [],_=>h
theorem AG{n:Nat}(h:∀a us,us.length=n->Q (a::us)):∀us:List Value,us.length=n+1->Q us | a::us,e=>h a us (Nat.succ.inj e)
theorem len1(h:∀a,Q [a]):∀us:List Value,us.length=1->Q us:=AG fun a=>tK (h a)
theorem rD(h:∀a b,Q [a,b]):∀us:List Value,us.length=2->Q us:=AG fun a=>AG fun b=>tK (h a b)
theorem iG(h:∀a b c,Q [a,b,c]):∀us:List Value,us.length=3->Q us:=AG fun a=>AG fun b=>AG fun c=>tK (h a b c)
theorem uK(h:∀a b c d,Q [a,b,c,d]):∀us:List Value,us.length=4->Q us:=AG fun a=>AG fun b=>AG fun c=>AG fun d=>tK (h a b c d)
end
theorem fB{N P:List Str}{sc:Scope}(a:autoParam (sc.kind=.function) zqR._auto_1)(b:autoParam (sc.isCoroutine=false) zqR._auto_1)(c:autoParam (sc.isGenerator=false) zqR._auto_1)(d:autoParam (N.Nodup) zqr._auto_1)(e:autoParam (N.take P.length=P) zqR._auto_1)
 (f:autoParam (∀x∈P,sc.names.lookup x=some .local\/sc.names.lookup x=some .cell) zqr._auto_1) (g:autoParam (∀y∈sc.names,y.2≠.free) zqr._auto_1):SA N P sc:=⟨a,b,c,d,e,f,g⟩
theorem MA {X:Cx} {k k' n:Nat} {x:Str} {F:IB} {e:Expr} {es:List Expr} {g:RA} {p pos:Pos} (c:OC X.prog X.w X.K X.mg X.base k n x F) (hr:Ym k' X.A) (ha:AM X (e::es) g) (hk:autoParam (k<=k') zqQ._auto_1) (hg:autoParam (Gl X x) zqR._auto_1) (hdb:autoParam ((x==("__debug__" :Str))=false) zqQ._auto_1)
 (he:autoParam (DB e=true) zqR._auto_1) (hpl:autoParam (es.all DB=true) zqR._auto_1):EM X (.Call (.Name x p) (e::es) [] pos) (zA F [] g):=RH c hr hk hg ha hdb he hpl
end SM
namespace L2
theorem ZY:∀{bs:List Bool}{us:List Value},Vals (bs.map V.bl) us->us=bs.map Value.bool
 | [],_,h=>by cases h;rfl
 | b::bs,_,h=>by
  cases h with
  | cons r rr=>rw[ZY rr];cases r;rfl
def E8(K:Frag):V->List V->Hp->VK->Prop:=fun x vs H Q=>∃(a:Addr)(bs:List Bool)(b:Bool),x=.ref a/\vs=[.bl b]/\vp K H a (bs.map V.bl)/\Q (.int ((bs.countP (· ==b):Nat):Int)) H
section
variable{X:Cx}
theorem Wx:L3 X "list.count" (E8 X.K):=by
 intro pins s σ H x vs v us Q I rx rv h;obtain⟨p,bs,b,rfl,rfl,sq,q⟩:=h;cases rx;obtain⟨u,rfl,ru⟩:=TF rv;cases ru;obtain⟨its,rw',⟨⟨c1,d1,t1,sl1⟩,n,e0,k1,k2,k3⟩,z⟩:=I.list sq;simp only at k1 k2 k3;subst k1 k2 k3;have ib:=ZY rw';refine call_meets PySem.F.slot_list_count ⟨_,e0,rfl⟩ PySem.F.entry_list_count (PySem.F.args_list_count_2 _ _) (SeqAt.list_countAt p its.toArray n none sl1 (.bool b) (isBoolOf b)) ⟨e0,fun y hy=>?_,?_⟩
 · have hy':y∈its:=by simpa using hy
   rw[ib]at hy';obtain⟨c,Z,rfl⟩:=mem_map.mp hy';exact SeqAt.EqAt.bool_bool c b
 · have ec:its.toArray.toList.countP (isBoolOf b)=bs.countP (· ==b):=by rw[show its.toArray.toList=its from rfl,ib,countP_map];rfl
   rw[ec];exact⟨.int _,H,I.tok _,⟨_,rfl⟩,q⟩
end
end L2
namespace SM
def JT(fa fb:RE):RE:=fun l h=>(fa l h).bind fun r=>(fb l r.2).bind fun q=>match r.1,q.1 with
 | .lst xs,.bl b=>(VE xs).bind fun bs=>some (.int ((bs.countP (· ==b):Nat):Int),q.2)
 | _,_=>none
section
variable{X:Cx}{a b:Expr}{fa fb:RE}
theorem wz {apos cpos:Pos} (ho:EM X a fa) (hb:EM X b fb) (hbase:autoParam (attributeBase a "count" X.env (eval a X.env)=eval a X.env) zqR._auto_1)
 (hline:autoParam ((apos.endLine==cpos.line)=true) zqR._auto_1) (hs:autoParam (DB b=true) zqR._auto_1) :
 EM X (.Call (.Attribute a "count" apos) [b] [] cpos) (JT fa fb):=by
 with_unfolding_all
  exact PE.imp (YL PySem.F.plainAttrs_list PySem.F.slot_list_count PySem.F.type_list_count Wx ho (yD hb sE (wB hs _ _)) hbase (CL hs) hline (wB hs _ _)) fun σ H Q zz=>by
   obtain⟨ρ,l,h,d,h',S,L,e,k⟩:=zz;obtain⟨⟨d1,h1⟩,e1,e⟩:=vA e;obtain⟨⟨d2,h2⟩,e2,e⟩:=vA e;refine⟨ρ,l,h,d1,h1,S,L,e1,fun ρ1 v H1 R1 S1 E1=>?_⟩;cases d1 with
   | lst xs=>
    cases d2 with
    | bl b=>obtain⟨bs,q,e⟩:=vA e;cases e;obtain⟨x,ws,z,t,rs⟩:=Cm.mp R1;subst z;refine⟨.inl ⟨rfl,ws,t.sq⟩,ρ1,l,h1,.bl b,h2,S1,L.ext E1,e2,fun ρ2 y H2 R2 S2 E2=>?_⟩;rw[lO q]at rs;have ew:=rs.za1;rw[ew]at t;exact⟨x,bs,b,rfl,by rw[Am.mp R2],(t.same E2.same).sq,k ρ2 _ H2 (rm.mpr rfl) S2 (E1.trans E2)⟩
    | _=>cases e
   | _=>cases e
end
theorem Jf{P:Program}{w:World}{K:Frag}{mg:Str->Option Value}{base:Heap}{x:Str}{st:Stmt}{ps:List Str}{k n:Nat}(D:iB K mg x st ps):OC P w K mg base k n x (fun Z Z=>none):=by
 with_unfolding_all
  obtain⟨f,fd,hF,hm,hB⟩:=D.ex;refine⟨⟨f,fd,ps,⟨fun vs H Q E h=>?_,fun A outer s H args us vs Q E hr he hb hv h=>?_⟩,hm,hF.kp,hB⟩,fun ds h r e=>by cases e⟩
  · obtain⟨ρ,ds,h,d,h',Z,Z,Z,e,Z⟩:=h;cases e
  · obtain⟨ρ,ds,h,d,h',Z,Z,Z,e,Z⟩:=h;cases e
noncomputable def jB{α β:Type}(o:Option α)(f:α->Option β):Option β:=o.bind f
@[simp] theorem iA{α β:Type}(a:α)(f:α->Option β):jB (some a) f=f a:=by rfl
@[simp] theorem Bb{α β:Type}(f:α->Option β):jB none f=none:=by rfl
@[simp] theorem Eb{α β:Type}{c:Prop}[Decidable c](a b:Option α)(k:α->Option β):jB (if c then a else b) k=if c then jB a k else jB b k:=by split<;>rfl
section
variable{l:LI}{h:HI}{f g fa fb fc:RE}
@[simp] theorem xA(d:Dt):eC d l h=some (d,h):=by rfl
noncomputable def nI(h:HI):Option (Option Dt)->Option (Dt×HI)
 | some (some d)=>some (d,h)
 | _=>none
@[simp] theorem pA(d:Dt):nI h (some (some d))=some (d,h):=by rfl
@[simp] theorem oA(i:Nat):eV i l h=nI h l[i]?:=by unfold eV nI;rfl
@[simp] theorem yA(op:ZD):e2 op fa fb l h=jB (fa l h) fun r=>jB (fb l r.2) fun q=>op r.1 q.1 q.2:=by rfl
@[simp] theorem KA:eA l h=some ([],h):=by rfl
@[simp] theorem UA(r:RA):bA f r l h=jB (f l h) fun r'=>jB (r l r'.2) fun q=>some (r'.1::q.1,q.2):=by rfl
noncomputable def Zd:Dt×HI->Option (Bool×HI)
 | (.bl b,h)=>some (b,h)
 | _=>none
@[simp] theorem VA(b:Bool):Zd (.bl b,h)=some (b,h):=by rfl
@[simp] theorem NA:Wm f l h=jB (f l h) Zd:=by
 unfold jB;unfold Wm
 congr 1
 funext r
 obtain⟨d,h⟩:=r;cases d<;>rfl
@[simp] theorem OO(t u:RT):fK t u l h=jB (t l h) fun r=>if r.1=true then u l r.2 else some (false,r.2):=by rfl
@[simp] theorem QI(t u:RT):WF t u l h=jB (t l h) fun r=>if r.1=true then some (true,r.2)else u l r.2:=by rfl
@[simp] theorem GG(t:RT):sF t l h=jB (t l h) fun r=>some (!r.1,r.2):=by rfl
noncomputable def S0(u:RE)(l:LI):Dt×HI->Option (Dt×HI)
 | (.bl true,h)=>u l h
 | (.bl false,h)=>some (.bl false,h)
 | _=>none
@[simp] theorem rT(u:RE)(b:Bool):S0 u l (.bl b,h)=if b=true then u l h else some (.bl false,h):=by cases b<;>rfl
@[simp] theorem QU(u:RE):qI f u l h=jB (f l h) (S0 u l):=by
 unfold jB;unfold qI
 congr 1
 funext r
 obtain⟨d,h⟩:=r;cases d<;>(try rfl);rename_i b;cases b<;>rfl
noncomputable def V0:Dt×HI->Option (Dt×HI)
 | (.bl b,h)=>some (.bl (!b),h)
 | _=>none
@[simp] theorem Xn(b:Bool):V0 (.bl b,h)=some (.bl (!b),h):=by rfl
@[simp] theorem Zb:PM f l h=jB (f l h) V0:=by
 unfold jB;unfold PM
 congr 1
 funext r
 obtain⟨d,h⟩:=r;cases d<;>rfl
@[simp] theorem vP(t:RT):kM t f g l h=jB (t l h) fun r=>if r.1=true then f l r.2 else g l r.2:=by rfl
noncomputable def Gd(o':ZD)(fc:RE)(l:LI)(q:Dt):Dt×HI->Option (Dt×HI)
 | (.bl true,h)=>(fc l h).bind fun r=>o' q r.1 r.2
 | (.bl false,h)=>some (.bl false,h)
 | _=>none
@[simp] theorem Kf(o':ZD)(q:Dt)(b:Bool):Gd o' fc l q (.bl b,h)=if b=true then jB (fc l h) fun r=>o' q r.1 r.2 else some (.bl false,h):=by cases b<;>rfl
@[simp] theorem Dg(o o':ZD):ML o o' fa fb fc l h=jB (fa l h) fun r=>jB (fb l r.2) fun q=>jB (o r.1 q.1 q.2) (Gd o' fc l q.1):=by
 unfold jB;unfold ML
 congr 1
 funext r
 congr 1
 funext q
 congr 1
 funext z
 obtain⟨d,h⟩:=z;cases d<;>(try rfl);rename_i b;cases b<;>rfl
@[simp] theorem IE(r:RA):aB r l h=jB (r l h) fun r=>if r.1.length<=sizeLine then some (.tup r.1,r.2)else none:=by rfl
@[simp] theorem VH(r:RA):fG r l h=jB (r l h) fun r=>if r.1.length<=sizeLine then some (.lst r.1,r.2)else none:=by rfl
@[simp] theorem aG(r:RA):NE r l h=jB (r l h) fun r=>if r.1.length<=sizeLine then some (.ref r.2.length,r.2++[.lst r.1])else none:=by rfl
noncomputable def RV:Dt×HI->Option (Dt×HI)
 | (.int b,h)=>some (.int (-b),h)
 | _=>none
@[simp] theorem oY(b:Int):RV (.int b,h)=some (.int (-b),h):=by rfl
@[simp] theorem W1:mF f l h=jB (f l h) RV:=by
 unfold jB;unfold mF
 congr 1
 funext r
 obtain⟨d,h⟩:=r;cases d<;>rfl
@[simp] theorem nE(i j:Int):XB (.int i) (.int j) h=some (.int (i+j),h):=by rfl
@[simp] theorem wG(i j:Int):AE (.int i) (.int j) h=some (.int (i-j),h):=by rfl
@[simp] theorem sH(i j:Int):vG (.int i) (.int j) h=some (.int (Builtin.bitAnd i j),h):=by rfl
@[simp] theorem qV(i j:Int):yM (.int i) (.int j) h=some (.int (Builtin.bitOr i j),h):=by rfl
@[simp] theorem SV(i j:Int):BM (.int i) (.int j) h=some (.bl (decide (i<j)),h):=by rfl
@[simp] theorem eQ(i j:Int):zM (.int i) (.int j) h=some (.bl (decide (i<=j)),h):=by rfl
@[simp] theorem zK(i j:Int):CP (.int i) (.int j) h=some (.bl (decide (j<i)),h):=by rfl
@[simp] theorem DM(i j:Int):DV (.int i) (.int j) h=some (.bl (decide (j<=i)),h):=by rfl
theorem xE{i j:Int}(c:zaI i j):gC (.int i) (.int j) h=some (.int (i*j),h):=by simp only[gC,oI,if_pos c]
theorem tH{i j:Int}(c:iK i j):iF (.int i) (.int j) h=some (.int (i/j),h):=by simp only[iF,oI,if_pos c]
theorem KE{i j:Int}(c:0<j):YC (.int i) (.int j) h=some (.int (i%j),h):=by simp only[YC,oI,if_pos c]
theorem cK{i j:Int}(c:vH i j):BG (.int i) (.int j) h=some (.int (i*2^j.toNat),h):=by simp only[BG,oI,if_pos c]
theorem qP{i j:Int}(c:0<=j):pI (.int i) (.int j) h=some (.int (i/2^j.toNat),h):=by simp only[pI,oI,if_pos c]
@[simp] theorem PD(i j:Int):lB (.int i) (.int j) h=some (.bl (decide (i=j)),h):=by show some (Dt.bl (decide (V.int i=V.int j)),h)=_;simp
@[simp] theorem kJ(i j:Int):zE (.int i) (.int j) h=some (.bl (!decide (i=j)),h):=by show some (Dt.bl (!decide (V.int i=V.int j)),h)=_;simp
@[simp] theorem vE(i j:Str):lB (.str i) (.str j) h=some (.bl (decide (i=j)),h):=by show some (Dt.bl (decide (V.str i=V.str j)),h)=_;simp
@[simp] theorem rV(i j:Str):zE (.str i) (.str j) h=some (.bl (!decide (i=j)),h):=by show some (Dt.bl (!decide (V.str i=V.str j)),h)=_;simp
theorem Y7{xs ys:List Dt}(c:FF xs ys=true):zE (.lst xs) (.lst ys) h=some (.bl (!fE xs ys),h):=by simp only[zE,if_pos c]
@[simp] theorem YH(d:Dt):HH d .non h=some (.bl (JG d),h):=by rfl
@[simp] theorem ZC{α:Type}(xs:List α)(k:Nat):Kp xs (k:Int)=xs[k]?:=by
 unfold Kp cJ;rw[if_pos (by omega)];by_cases hk:k<xs.length
 · rw[if_pos (by omega)];simp
 · rw[if_neg (by omega)];simp;omega
@[simp] theorem YB{α:Type}(xs:List α):Kp xs 0=xs[0]?:=ZC xs 0
@[simp] theorem ID{α:Type}(xs:List α):Kp xs 1=xs[1]?:=ZC xs 1
@[simp] theorem VI{α:Type}(xs:List α):Kp xs 2=xs[2]?:=ZC xs 2
@[simp] theorem QB(xs:List Dt)(i:Int):rA (.tup xs) (.int i) h=(Kp xs i).map fun d=>(d,h):=by rfl
@[simp] theorem bK(xs:List Dt)(i:Int):rA (.lst xs) (.int i) h=(Kp xs i).map fun d=>(d,h):=by rfl
theorem oE{n:Nat}{xs:List Dt}(e:h[n]?=some (.lst xs))(i:Int):rA (.ref n) (.int i) h=(Kp xs i).map fun d=>(d,h):=by simp only[rA,QD,OB,e,zfO]
noncomputable def A3(g:RS):Rs->Option Rs
 | .nx l h=>g l h
 | r=>some r
@[simp] theorem QA(g:RS):A3 g (.nx l h)=g l h:=by rfl
@[simp] theorem aF(g:RS)(d:Dt):A3 g (.rt d h)=some (.rt d h):=by rfl
@[simp] theorem OA(f g:RS):jA f g l h=jB (f l h) (A3 g):=by
 unfold jB;unfold jA
 congr 1
@[simp] theorem dC:zB l h=some (.nx l h):=by rfl
@[simp] theorem YA(i:Nat):CA i f l h=jB (f l h) fun r=>some (.nx (l.set i (some r.1)) r.2):=by rfl
@[simp] theorem RD:mD f l h=jB (f l h) fun r=>some (.nx l r.2):=by rfl
@[simp] theorem yB:FA f l h=jB (f l h) fun r=>some (.rt r.1 r.2):=by rfl
@[simp] theorem dB(t:RT)(f g:RS):uD t f g l h=jB (t l h) fun r=>if r.1=true then f l r.2 else g l r.2:=by rfl
noncomputable def zH:Option Rs->Option (Dt×HI)
 | some (.rt d h')=>some (d,h')
 | some (.nx _ h')=>some (.non,h')
 | _=>none
@[simp] theorem BB(d:Dt):zH (some (.rt d h))=some (d,h):=by rfl
@[simp] theorem Lh:zH (some (.nx l h))=some (.non,h):=by rfl
@[simp] theorem Zc{c:Prop}[Decidable c](a b:Option Rs):zH (if c then a else b)=if c then zH a else zH b:=by split<;>rfl
@[simp] theorem rB(n N:Nat)(body:RS)(ds:List Dt):cC n N body ds h=if ds.length=n then zH (body (ds.map some++replicate (N-n) none) h)else none:=by unfold cC zH;rfl
@[simp] theorem gB(F:IB)(dds:List Dt)(g:RA):zA F dds g l h=jB (g l h) fun r=>F (r.1++dds) r.2:=by rfl
@[simp] theorem Gb(F:IB)(dds:List Dt):VO F dds l h=F dds h:=by rfl
noncomputable def DP(go:LI->HI->Option Rs):Rs->Option Rs
 | .nx l h=>go l h
 | .ct l h=>go l h
 | .bk l h=>some (.nx l h)
 | .rt d h=>some (.rt d h)
@[simp] theorem I0(go:LI->HI->Option Rs):DP go (.nx l h)=go l h:=by rfl
@[simp] theorem gn(go:LI->HI->Option Rs):DP go (.ct l h)=go l h:=by rfl
@[simp] theorem J0(go:LI->HI->Option Rs)(d:Dt):DP go (.rt d h)=some (.rt d h):=by rfl
def zC(bd:RG)(body:RS):List Dt->LI->HI->Option Rs
 | [],l,h=>some (.nx l h)
 | x::xs,l,h=>(bd x l).bind fun l1=>(body l1 h).bind (DP (zC bd body xs))
theorem dX(bd:RG)(body:RS)(xs:List Dt):∀(n k:Nat)(l:LI)(h:HI),n=(xs.length-k)+1->k<=xs.length->kC bd body (.vals xs) n k l h=zC bd body (xs.drop k) l h:=by
 intro n
 induction n with
 | zero=>intro k l h e;omega
 | succ n ih=>
  intro k l h e hk;unfold kC;simp only[Src.at];by_cases hl:k<xs.length
  · rw[getElem?_eq_getElem hl,drop_eq_getElem_cons hl];simp only[zC]
    congr 1
    funext l1
    congr 1
    funext r
    cases r with
    | nx l' h'=>exact ih (k+1) l' h' (by omega) (by omega)
    | ct l' h'=>exact ih (k+1) l' h' (by omega) (by omega)
    | bk l' h'=>rfl
    | rt d h'=>rfl
  · rw[getElem?_eq_none (by omega),drop_eq_nil_of_le (by omega)];rfl
theorem gb{g:RI}{xs:List Dt}{h':HI}(e:g l h=some (.vals xs,h'))(bd:RG)(body:RS):oC g bd body l h=zC bd body xs l h':=by unfold oC;rw[e];simp only[zfO,Src.fuel];exact dX bd body xs _ 0 _ _ (by omega) (by omega)
@[simp] theorem pG(i:Nat)(d:Dt):DA i d l=some (l.set i (some d)):=by rfl
def yE(bd:RG)(body:RS)(l:LI):Src×HI->Option Rs:=fun r=>kC bd body r.1 (r.1.fuel r.2) 0 l r.2
@[simp] theorem ND(g:RI)(bd:RG)(body:RS):oC g bd body l h=jB (g l h) (yE bd body l):=by rfl
@[simp] theorem lG(bd:RG)(body:RS)(xs:List Dt):yE bd body l (.vals xs,h)=zC bd body xs l h:=by unfold yE;simp only[Src.fuel];exact dX bd body xs _ 0 _ _ (by omega) (by omega)
noncomputable def v3:Dt×HI->Option (Src×HI)
 | (.int j,h)=>if -(2^62)<=j/\j<2^62 then some (.vals ((range j.toNat).map fun(k:Nat)=>Dt.int (k:Int)),h)else none
 | _=>none
@[simp] theorem OI:AH f l h=jB (f l h) v3:=by
 unfold jB;unfold AH
 congr 1
 funext r
 obtain⟨d,h⟩:=r;cases d<;>rfl
theorem OF{j:Int}(a:-(2^62)<=j)(b:j<2^62):v3 (.int j,h)=some (.vals ((range j.toNat).map fun(k:Nat)=>Dt.int (k:Int)),h):=if_pos ⟨a,b⟩
noncomputable def Ud:Dt->Dt×HI->Option (Src×HI)
 | .int i,(.int j,h)=>if -(2^62)<=i/\i<2^62/\-(2^62)<=j/\j<2^62 then some (.vals ((range (j-i).toNat).map fun(k:Nat)=>Dt.int (i+(k:Int))),h)else none
 | _,_=>none
@[simp] theorem A8:V2 f g l h=jB (f l h) fun r=>jB (g l r.2) (Ud r.1):=by
 unfold jB;unfold V2
 congr 1
 funext r
 obtain⟨d,h⟩:=r
 congr 1
 funext q
 obtain⟨d',h'⟩:=q;cases d<;>cases d'<;>rfl
theorem Hg{i j:Int}(a:-(2^62)<=i)(a':i<2^62)(b:-(2^62)<=j)(b':j<2^62):Ud (.int i) (.int j,h)=some (.vals ((range (j-i).toNat).map fun(k:Nat)=>Dt.int (i+(k:Int))),h):=if_pos ⟨a,a',b,b'⟩
def YG:Dt×HI->Option (Src×HI)
 | (.lst xs,h)=>some (.vals xs,h)
 | (.ref n,h)=>if 0<Src.fuel (.rf n) h then some (.rf n,h)else none
 | _=>none
@[simp] theorem OH(xs:List Dt):YG (.lst xs,h)=some (.vals xs,h):=by rfl
@[simp] theorem CD:nC f l h=jB (f l h) YG:=by
 unfold jB;unfold nC LV;cases f l h with
 | none=>rfl
 | some r=>obtain⟨d,h⟩:=r;cases d<;>first | rfl | (simp[YG,Src.fuel];done)
noncomputable def uE(bd:RG)(tc:RT)(te:RE):List Dt->LI->HI->Option (List Dt×HI)
 | [],_,h=>some ([],h)
 | x::xs,l,h=>(bd x l).bind fun l1=>(tc l1 h).bind fun b=>if b.1=true then(te l1 b.2).bind fun r=>(uE bd tc te xs l1 r.2).bind fun q=>some (r.1::q.1,q.2)
  else uE bd tc te xs l1 b.2
theorem Pj(bd:RG)(tc:RT)(te:RE)(xs:List Dt)(hx:xs.length<sizeLine):∀(n k:Nat)(l:LI)(h:HI)(ys:List Dt),n=(xs.length-k)+1->k<=xs.length->ys.length<=k->
 tE bd tc te (.vals xs) n k l h ys=(uE bd tc te (xs.drop k) l h).bind fun q=>some (ys++q.1,q.2):=by
 intro n
 induction n with
 | zero=>intro k l h ys e;omega
 | succ n ih=>
  intro k l h ys e hk hy;unfold tE;simp only[Src.at];by_cases hl:k<xs.length
  · rw[getElem?_eq_getElem hl,drop_eq_getElem_cons hl];simp only[uE];cases bd xs[k] l with
    | none=>rfl
    | some l1=>
     simp only[zfO];cases tc l1 h with
     | none=>rfl
     | some b=>
      simp only[zfO];by_cases hb:b.1=true
      · simp only[if_pos hb];cases te l1 b.2 with
        | none=>rfl
        | some r=>
         simp only[zfO];rw[if_pos (by omega),ih (k+1) l1 r.2 _ (by omega) (by omega) (by simp;omega)];cases uE bd tc te (xs.drop (k+1)) l1 r.2 with
         | none=>rfl
         | some q=>simp
      · simp only[if_neg hb];exact ih (k+1) l1 b.2 ys (by omega) (by omega) (by omega)
  · rw[getElem?_eq_none (by omega),drop_eq_nil_of_le (by omega)];simp[uE]
def tF(bd:RG)(tc:RT)(te:RE)(l:LI):Src×HI->Option (List Dt×HI):=fun r=>tE bd tc te r.1 (r.1.fuel r.2) 0 l r.2 []
theorem YF(bd:RG)(tc:RT)(te:RE){xs:List Dt}(hx:xs.length<sizeLine):tF bd tc te l (.vals xs,h)=uE bd tc te xs l h:=by unfold tF;simp only[Src.fuel];rw[Pj bd tc te xs hx _ 0 _ _ _ (by omega) (by omega) (by simp)];rw[drop_zero];cases uE bd tc te xs l h<;>simp
@[simp] theorem rG(g:RI)(bd:RG)(tc:RT)(te:RE)(cap:List (Option Nat)):TD g bd tc te cap l h=jB (jB (g l h) (tF bd tc te (wF l cap))) fun q=>some (.lst q.1,q.2):=by unfold jB;unfold TD tF;rw[Option.bind_assoc]
@[simp] theorem fT(g:RI)(bd:RG)(tc:RT)(te:RE)(cap:List (Option Nat)):pH g bd tc te cap l h=jB (jB (g l h) (tF bd tc te (wF l cap))) fun q=>some (.ref q.2.length,q.2++[.lst q.1]):=by unfold jB;unfold pH tF;rw[Option.bind_assoc]
@[simp] theorem DO:VB l h=some (true,h):=by rfl
@[simp] theorem MF:wF l []=[]:=by rfl
@[simp] theorem KF(cap:List (Option Nat)):wF l (none::cap)=none::wF l cap:=by rfl
@[simp] theorem LJ(j:Nat)(cap:List (Option Nat)):wF l (some j::cap)=(l[j]?).join::wF l cap:=by rfl
theorem mO{α:Type}{te:RE}{i:Nat}{tc:RT}(D:α->Dt)(p:α->Bool)(F:α->Dt)(h:HI):∀(xs:List α)(l:LI),(∀x∈xs,tc (l.set i (some (D x))) h=some (p x,h)/\(p x=true->te (l.set i (some (D x))) h=some (F x,h)))->
 uE (DA i) tc te (xs.map D) l h=some ((xs.filter p).map F,h)
 | [],_,_=>rfl
 | x::xs,l,H=>by
  have hx:=H x (by simp);have ih:=mO D p F h xs (l.set i (some (D x))) (te:=te) (tc:=tc) (i:=i) (fun y hy=>by
   rw[set_set];exact H y (by simp[hy]))
  simp only[zfJ,uE,pG,zfO,hx.1];by_cases hp:p x=true
  · simp only[hp,if_true,hx.2 hp,zfO,ih];simp[hp]
  · simp only[hp];rw[if_neg (by simp),ih];simp[hp]
theorem PH{α:Type}{te:RE}{i:Nat}{tc:RT}(D:α->Dt)(F:α->Dt)(h:HI)(xs:List α)(l:LI)(H:∀x∈xs,tc (l.set i (some (D x))) h=some (true,h)/\te (l.set i (some (D x))) h=some (F x,h)) :
 uE (DA i) tc te (xs.map D) l h=some (xs.map F,h):=by
 rw[mO D (fun Z=>true) F h xs l fun x hx=>⟨(H x hx).1,fun Z=>(H x hx).2⟩,filter_eq_self.mpr (by simp)]
@[simp] theorem RC(F:Dt->HI->Option (Dt×HI)):UC F f l h=jB (f l h) fun r=>F r.1 r.2:=by rfl
@[simp] theorem CU(xs:List Dt):EC (.lst xs) h=some (.int xs.length,h):=by rfl
@[simp] theorem DU(xs:List Dt):EC (.tup xs) h=some (.int xs.length,h):=by rfl
theorem rH{n:Nat}{xs:List Dt}(e:h[n]?=some (.lst xs)):EC (.ref n) h=some (.int xs.length,h):=by simp only[EC,QD,OB,e,zfN]
@[simp] theorem Jb(b:Bool):rK (.bl b) h=some (.int (if b=true then 1 else 0),h):=by rfl
@[simp] theorem Ik(ns:List Int):HE (ns.map Dt.int)=some ns:=by
 induction ns with
 | nil=>rfl
 | cons n ns ih=>simp[HE,ih]
theorem F5(ns:List Int):uM (.lst (ns.map Dt.int)) h=some (.int ns.sum,h):=by simp[uM,OB]
theorem D5{ns:List Int}(c:ns ≠ []):yH (.lst (ns.map Dt.int)) h=some (.int (sD ns),h):=by simp[yH,OB,c]
theorem XU{ns:List Int}(c:ns ≠ []):gG (.lst (ns.map Dt.int)) h=some (.int (fC ns),h):=by simp[gG,OB,c]
@[simp] theorem uP(T:String):lI T f l h=jB (f l h) fun r=>(MG r.2 r.1).map fun t=>(.bl (xM t T),r.2):=by rfl
@[simp] theorem Dn (b:Int):MG h (.int b)=some "int" :=by rfl
@[simp] theorem Rb:xM "int" "int" =true:=by decide +kernel
@[simp] theorem Nb:xM "int" "bool" =false:=by decide +kernel
@[simp] theorem Qn:TV l h=some (none,h):=by rfl
noncomputable def Ed:Dt×HI->Option (Option Int×HI)
 | (.int i,h)=>some (some i,h)
 | _=>none
@[simp] theorem Yn(i:Int):Ed (.int i,h)=some (some i,h):=by rfl
@[simp] theorem Pn:jM f l h=jB (f l h) Ed:=by
 unfold jB;unfold jM
 congr 1
 funext r
 obtain⟨d,h⟩:=r;cases d<;>rfl
@[simp] theorem Gn(lo hi:RO):WP f lo hi l h=jB (f l h) fun r=>jB (lo l r.2) fun o=>jB (hi l o.2) fun u=>(OB u.2 r.1).map fun xs=>(.lst (SG xs o.1 u.1),u.2):=by rfl
@[simp] theorem Vn(xs:List Dt):OB h (.lst xs)=some xs:=by rfl
theorem iw{n:Nat}{xs:List Dt}(e:h[n]?=some (.lst xs)):OB h (.ref n)=some xs:=by simp only[OB,e]
theorem Gv(xs:List Dt)(k:Nat):SG xs (some (k:Int)) none=xs.drop k:=by
 unfold SG HT.sIx;have e:(if(k:Int)<0 then((k:Int)+(xs.length:Int)).toNat else min (k:Int).toNat xs.length)=min k xs.length:=by rw[if_neg (by omega),zxE]
 simp only[e];rw[take_of_length_le (by rw[length_drop];omega)];by_cases hk:k<=xs.length
 · rw[Nat.min_eq_left hk]
 · rw[Nat.min_eq_right (by omega),drop_eq_nil_of_le (zfU _),drop_eq_nil_of_le (by omega)]
theorem X7{xs ys:List Dt}(c:xs.length+ys.length<=sizeLine):xK (.lst xs) (.lst ys) h=some (.lst (xs++ys),h):=by simp only[xK,OB,zfO,if_pos c]
def MV(q:Dt×HI):Dt->Option (Dt×HI)
 | .lst xs=>if YI xs q.1=true then(VF xs q.1).map fun j=>(.int (j:Nat),q.2)else none
 | _=>none
@[simp] theorem Ab(q:Dt×HI)(xs:List Dt):MV q (.lst xs)=if YI xs q.1=true then(VF xs q.1).map fun j=>(.int (j:Nat),q.2)else none:=by rfl
@[simp] theorem Wb:iP f g l h=jB (f l h) fun r=>jB (g l r.2) fun q=>MV q r.1:=by
 unfold jB;unfold iP
 congr 1
@[simp] theorem FI:sizeLine=16777216:=by rfl
noncomputable def OP(g:RE)(l:LI):Dt×HI->Option (Dt×HI)
 | (.ref n,h)=>(match h[n]? with
  | some (.lst _)=>(g l h).bind fun q=>match q.2[n]? with
   | some (.lst xs)=>if xs.length<sizeLine then some (.non,q.2.set n (.lst (xs++[q.1])))else none
   | _=>none
  | _=>none)
 | _=>none
@[simp] theorem BE:GD f g l h=jB (f l h) (OP g l):=by
 unfold jB;unfold GD
 congr 1
 funext r
 obtain⟨d,h⟩:=r;cases d<;>(try rfl)
theorem SE{n:Nat}{xs ys:List Dt}{d:Dt}{h':HI}(e:h[n]?=some (.lst ys))(eg:g l h=some (d,h'))(e':h'[n]?=some (.lst xs))(c:xs.length<sizeLine):OP g l (.ref n,h)=some (.non,h'.set n (.lst (xs++[d]))):=by simp only[OP,e,eg,zfO,e',if_pos c]
end
noncomputable def Pass(I:LI->HI->Prop):Rs->Prop
 | .nx l h=>I l h
 | .ct l h=>I l h
 | _=>False
theorem xg{α:Type}{i:Nat}{body:RS}(D:α->Dt)(I:LI->HI->Prop)(xs:List α)(H:∀x∈xs,∀l h,I l h->∃r,body (l.set i (some (D x))) h=some r/\Pass I r) :
 ∀l h,I l h->∃l' h',zC (DA i) body (xs.map D) l h=some (.nx l' h')/\I l' h':=by
 induction xs with
 | nil=>intro l h i;exact⟨l,h,rfl,i⟩
 | cons x xs ih=>
  intro l h i;obtain⟨r,e,p⟩:=H x (by simp) l h i;cases r with
  | nx l2 h2=>obtain⟨l',h',e',i'⟩:=ih (fun y hy=>H y (by simp[hy])) l2 h2 p;exact⟨l',h',by simp[zC,e,e'],i'⟩
  | ct l2 h2=>obtain⟨l',h',e',i'⟩:=ih (fun y hy=>H y (by simp[hy])) l2 h2 p;exact⟨l',h',by simp[zC,e,e'],i'⟩
  | bk l2 h2=>exact p.elim
  | rt d h2=>exact p.elim
theorem IS{α β:Type}{i:Nat}{body:RS}(D:α->Dt)(S:β->LI->HI->Prop)(f:β->α->β)(xs:List α)(H:∀x∈xs,∀b l h,S b l h->∃r,body (l.set i (some (D x))) h=some r/\Pass (S (f b x)) r) :
 ∀b l h,S b l h->∃l' h',zC (DA i) body (xs.map D) l h=some (.nx l' h')/\S (xs.foldl f b) l' h':=by
 induction xs with
 | nil=>intro b l h i;exact⟨l,h,rfl,i⟩
 | cons x xs ih=>
  intro b l h i;obtain⟨r,e,p⟩:=H x (by simp) b l h i;cases r with
  | nx l2 h2=>obtain⟨l',h',e',i'⟩:=ih (fun y hy=>H y (by simp[hy])) _ l2 h2 p;exact⟨l',h',by simp[zC,e,e'],i'⟩
  | ct l2 h2=>obtain⟨l',h',e',i'⟩:=ih (fun y hy=>H y (by simp[hy])) _ l2 h2 p;exact⟨l',h',by simp[zC,e,e'],i'⟩
  | bk l2 h2=>exact p.elim
  | rt d h2=>exact p.elim
section
variable{l:LI}{h:HI}{f g:RE}
@[simp] theorem Zn(bs:List Bool):VE (bs.map Dt.bl)=some bs:=by
 induction bs with
 | nil=>rfl
 | cons n ns ih=>simp[VE,ih]
theorem A5(bs:List Bool):qK (.lst (bs.map Dt.bl)) h=some (.bl (bs.all id),h):=by simp[qK,OB]
@[simp] theorem BZ(i j:Nat)(a b:Dt):dF i j (.tup [a,b]) l=some ((l.set i (some a)).set j (some b)):=by rfl
end
theorem jE{h:HI}{n:Nat}{xs:List Dt}(e:h[n]?=some (.lst xs)):YG (.ref n,h)=some (.rf n,h):=by
 have:0<Src.fuel (.rf n) h:=by simp only[Src.fuel,e];omega
 simp only[YG,if_pos this]
section
variable{l:LI}{h:HI}{f g fe fo fi fa fb:RE}
def LM(l:LI)(v o:Dt):Dt×HI->Option Rs
 | (.int k,h)=>(match o with
  | .ref n=>(match h[n]? with
   | some (.lst xs)=>(cJ xs.length k).bind fun j=>some (.nx l (h.set n (.lst (xs.set j v))))
   | _=>none)
  | _=>none)
 | _=>none
@[simp] theorem sU:WH fe fo fi l h=jB (fe l h) fun v=>jB (fo l v.2) fun o=>jB (fi l o.2) (LM l v.1 o.1):=by
 unfold jB WH
 congr 1
 funext v
 congr 1
 funext o
 congr 1
 funext i
 obtain⟨d,h⟩:=o;obtain⟨k,h⟩:=i;cases k<;>cases d<;>rfl
theorem Yh{n k:Nat}(hk:k<n):cJ n (k:Int)=some k:=by unfold cJ;rw[if_pos (by omega),if_pos (by omega)];simp
theorem AL{n k:Nat}{xs:List Dt}{v:Dt}(e:h[n]?=some (.lst xs))(hk:k<xs.length):LM l v (.ref n) (.int (k:Int),h)=some (.nx l (h.set n (.lst (xs.set k v)))):=by simp only[LM,e,Yh hk,zfO]
def iQ(a:Dt):Dt×HI->Option (Dt×HI)
 | (.int i,h)=>if -(2^62)<=i/\i<=1000000 then some (.lst (XG a i),h)else none
 | _=>none
def vV(a:Dt):Dt×HI->Option (Dt×HI)
 | (.int i,h)=>if -(2^62)<=i/\i<=1000000 then some (.ref h.length,h++[.lst (XG a i)])else none
 | _=>none
@[simp] theorem Rn:iJ fa fb l h=jB (fa l h) fun a=>jB (fb l a.2) (iQ a.1):=by
 unfold jB iJ
 congr 1
 funext v
 congr 1
 funext o
 obtain⟨d,h⟩:=o;cases d<;>rfl
@[simp] theorem Yb:XJ fa fb l h=jB (fa l h) fun a=>jB (fb l a.2) (vV a.1):=by
 unfold jB XJ
 congr 1
 funext v
 congr 1
 funext o
 obtain⟨d,h⟩:=o;cases d<;>rfl
theorem QY(a:Dt){k:Nat}(hk:k<=1000000):iQ a (.int (k:Int),h)=some (.lst (replicate k a),h):=by unfold iQ;simp only;rw[if_pos ⟨by omega,by omega⟩];simp[XG]
theorem SN(a:Dt){k:Nat}(hk:k<=1000000):vV a (.int (k:Int),h)=some (.ref h.length,h++[.lst (replicate k a)]):=by unfold vV;simp only;rw[if_pos ⟨by omega,by omega⟩];simp[XG]
theorem B5(bs:List Bool):qM (.lst (bs.map Dt.bl)) h=some (.bl (bs.any id),h):=by simp[qM,OB]
@[simp] theorem eW(i j:Int):jG (.int i) (.int j) h=some (.bl (decide (i=j)),h):=by
 have r:∀k:Int,nB h 8 (.int k)=some (.int k):=fun Z=>by simp[nB]
 simp only[jG,r,zfO,PD,zfN]
theorem mV{a b:Dt}{xs ys:List Dt}(e1:nB h 8 a=some (.lst xs))(e2:nB h 8 b=some (.lst ys))(c:FF xs ys=true):WG a b h=some (.bl (!fE xs ys),h):=by simp only[WG,e1,e2,zfO,Y7 c,zfN]
def uc(go:RS)(body:RS)(l:LI):Bool×HI->Option Rs:=fun c=>if c.1=true then(body l c.2).bind (DP go)else some (.nx l c.2)
theorem wj(t:RT)(body:RS)(n:Nat):RF t body (n+1) l h=jB (t l h) (uc (RF t body n) body l):=by
 unfold jB;rw[RF]
 congr 1
noncomputable def pK(fa:RE)(l:LI):Dt×HI->Option (Dt×HI)
 | (.ref n,h)=>(match h[n]? with
  | some (.lst _)=>(fa l h).bind fun q=>match q.1 with
   | .ref m=>(match q.2[n]?,q.2[m]? with
    | some (.lst xs),some (.lst ys)=>if xs.length+ys.length<=sizeLine then some (.non,q.2.set n (.lst (xs++ys)))else none
    | _,_=>none)
   | _=>none
  | _=>none)
 | _=>none
@[simp] theorem eO:GI fo fa l h=jB (fo l h) (pK fa l):=by
 unfold jB GI
 congr 1
 funext r
 obtain⟨d,h⟩:=r;cases d<;>(try rfl)
theorem zY{n m:Nat}{xs ys zs:List Dt}{h':HI}(e:h[n]?=some (.lst zs))(eg:fa l h=some (.ref m,h'))(e1:h'[n]?=some (.lst xs))(e2:h'[m]?=some (.lst ys))(c:xs.length+ys.length<=sizeLine):pK fa l (.ref n,h)=some (.non,h'.set n (.lst (xs++ys))):=by simp only[pK,e,eg,zfO,e1,e2,if_pos c]
@[simp] theorem gQ(F:Dt->Dt->Option Dt):UP F fa fb l h=jB (fa l h) fun r=>jB (fb l r.2) fun q=>(F r.1 q.1).map fun d=>(d,q.2):=by rfl
@[simp] theorem Br(i j:Int):mP (.int i) (.int j)=some (.int (max i j)):=by
 unfold mP;simp only
 congr 2
 split<;>omega
@[simp] theorem Lb(i j:Int):ZJ (.int i) (.int j)=some (.int (min i j)):=by
 unfold ZJ;simp only
 congr 2
 split<;>omega
end
theorem Dv{bd:RG}{tc:RT}{te:RE}{n:Nat}{xs:List Dt}(p1:∀l h b h',tc l h=some (b,h')->h[n]?=some (.lst xs)->h'[n]?=some (.lst xs))(p2:∀l h b h',te l h=some (b,h')->h[n]?=some (.lst xs)->h'[n]?=some (.lst xs)) :
 ∀(m k:Nat)(l:LI)(h:HI)(ys:List Dt),h[n]?=some (.lst xs)->tE bd tc te (.rf n) m k l h ys=tE bd tc te (.vals xs) m k l h ys:=by
 intro m
 induction m with
 | zero=>intros;rfl
 | succ m ih=>
  intro k l h ys e;unfold tE;simp only[Src.at,e];cases xs[k]? with
  | none=>rfl
  | some d=>
   simp only;cases bd d l with
   | none=>rfl
   | some l1=>
    simp only[zfO];cases q:tc l1 h with
    | none=>rfl
    | some b=>
     obtain⟨b,h1⟩:=b;have e1:=p1 _ _ _ _ q e;simp only[zfO];split
     · cases q2:te l1 h1 with
       | none=>rfl
       | some r=>
        obtain⟨r,h2⟩:=r;have e2:=p2 _ _ _ _ q2 e1;simp only[zfO];split
        · exact ih _ _ _ _ e2
        · rfl
     · exact ih _ _ _ _ e1
theorem AT{bd:RG}{tc:RT}{te:RE}{n:Nat}{xs:List Dt}{l:LI}{h:HI}(e:h[n]?=some (.lst xs))(hx:xs.length<sizeLine)(p1:∀l h b h',tc l h=some (b,h')->h[n]?=some (.lst xs)->h'[n]?=some (.lst xs))(p2:∀l h b h',te l h=some (b,h')->h[n]?=some (.lst xs)->h'[n]?=some (.lst xs)) :
 tF bd tc te l (.rf n,h)=uE bd tc te xs l h:=by
 rw[<- YF bd tc te hx];unfold tF;have e1:Src.fuel (.rf n) h=xs.length+1:=by simp only[Src.fuel,e]
 have e2:Src.fuel (.vals xs) h=xs.length+1:=by simp only[Src.fuel]
 simp only[e1,e2];exact Dv p1 p2 _ _ _ _ _ e
theorem xS{α:Type}{te:RE}{i:Nat}(D:α->Dt)(O:α->Ob)(h0:HI):∀(xs:List α)(l:LI)(e:HI),(∀x∈xs,∀e,te (l.set i (some (D x))) (h0++e)=some (.ref (h0++e).length,h0++e++[O x]))->
 uE (DA i) VB te (xs.map D) l (h0++e)=some ((range xs.length).map (fun(k:Nat)=>Dt.ref ((h0++e).length+k)),h0++e++xs.map O)
 | [],_,e,_=>by simp[uE]
 | x::xs,l,e,H=>by
  have hx:=H x (by simp) e;have ih:=xS D O h0 xs (l.set i (some (D x))) (e++[O x]) (te:=te) (i:=i) (fun y hy e=>by
   rw[set_set];exact H y (by simp[hy]) e)
  simp only[zfJ,uE,pG,zfO,DO,hx,if_true];rw[<- append_assoc]at ih;rw[ih];simp only[zfO,zfH,range_succ_eq_map,zfJ,map_map,append_assoc,zfQ,zfP]
  congr 2
  rw[Nat.add_zero]
  congr 1
  refine map_congr_left fun k Z=>?_
  simp;omega
theorem PJ{α:Type}{i:Nat}{body:RS}(D:α->Dt)(S:Nat->LI->HI->Prop):∀(xs:List α)(k0:Nat)(_:∀(k:Nat) x,xs[k]?=some x->∀l h,S (k0+k) l h->∃r,body (l.set i (some (D x))) h=some r/\Pass (S (k0+k+1)) r)(l:LI)(h:HI),S k0 l h->
 ∃l' h',zC (DA i) body (xs.map D) l h=some (.nx l' h')/\S (k0+xs.length) l' h'
 | [],k0,_,l,h,s=>⟨l,h,rfl,s⟩
 | x::xs,k0,H,l,h,s=>by
  obtain⟨r,e,p⟩:=H 0 x rfl l h s;have H':∀(k:Nat) y,xs[k]?=some y->∀l h,S (k0+1+k) l h->∃r,body (l.set i (some (D y))) h=some r/\Pass (S (k0+1+k+1)) r:=by intro k y hy l h s;have:=H (k+1) y (by simpa using hy) l h (by rw[show k0+(k+1)=k0+1+k by omega];exact s);rw[show k0+(k+1)+1=k0+1+k+1 by omega]at this;exact this
  cases r with
  | nx l2 h2=>obtain⟨l',h',e',i'⟩:=PJ D S xs (k0+1) H' l2 h2 p;exact⟨l',h',by simp[zC,e,e'],by rw[zfH,show k0+(xs.length+1)=k0+1+xs.length by omega];exact i'⟩
  | ct l2 h2=>obtain⟨l',h',e',i'⟩:=PJ D S xs (k0+1) H' l2 h2 p;exact⟨l',h',by simp[zC,e,e'],by rw[zfH,show k0+(xs.length+1)=k0+1+xs.length by omega];exact i'⟩
  | bk l2 h2=>exact p.elim
  | rt d h2=>exact p.elim
theorem GJ{i:Nat}{body:RS}(D:Nat->Dt)(S:Nat->LI->HI->Prop)(n:Nat)(H:∀k<n,∀l h,S k l h->∃r,body (l.set i (some (D k))) h=some r/\Pass (S (k+1)) r)(l:LI)(h:HI)(s:S 0 l h) :
 ∃l' h',zC (DA i) body ((range n).map D) l h=some (.nx l' h')/\S n l' h':=by
 obtain⟨l',h',e,i'⟩:=PJ (i:=i) (body:=body) D S (range n) 0 (fun k x hx l h s=>by
  obtain⟨h1,h2⟩:=zfR hx;simp at h1 h2;subst h2;rw[zxI]at s ⊢;exact H k h1 l h s) l h s
 exact⟨l',h',e,by simpa using i'⟩
theorem xP{α:Type}{i n:Nat}{body:RS}(D:α->Dt)(S:Nat->LI->HI->Prop)(xs:List α)(hS:∀k l h,S k l h->h[n]?=some (.lst (xs.map D)))(H:∀(k:Nat) x,xs[k]?=some x->∀l h,S k l h->∃r,body (l.set i (some (D x))) h=some r/\Pass (S (k+1)) r)
 (l:LI) (h:HI) (h0:S 0 l h):∃l' h',yE (DA i) body l (.rf n,h)=some (.nx l' h')/\S xs.length l' h':=by
 have go:∀(f k:Nat)(l:LI)(h:HI),S k l h->f=xs.length-k+1->k<=xs.length->∃l' h',kC (DA i) body (.rf n) f k l h=some (.nx l' h')/\S xs.length l' h':=by
  intro f
  induction f with
  | zero=>intro k l h Z e;omega
  | succ f ih=>
   intro k l h i0 e hk;unfold kC;simp only[Src.at,hS k l h i0,getElem?_map];by_cases hl:k<xs.length
   · rw[getElem?_eq_getElem hl];obtain⟨r,e1,p1⟩:=H k xs[k] (getElem?_eq_getElem hl) l h i0;simp only[zfN,pG,zfO,e1];cases r with
     | nx l2 h2=>exact ih (k+1) l2 h2 p1 (by omega) (by omega)
     | ct l2 h2=>exact ih (k+1) l2 h2 p1 (by omega) (by omega)
     | bk l2 h2=>exact p1.elim
     | rt d h2=>exact p1.elim
   · rw[getElem?_eq_none (by omega)];have:k=xs.length:=by omega
     subst this;exact⟨l,h,rfl,i0⟩
 have hf:Src.fuel (.rf n) h=xs.length-0+1:=by simp only[Src.fuel,hS 0 l h h0,length_map];omega
 unfold yE;exact go _ 0 l h h0 hf (zxB _)
section
variable{l:LI}{h:HI}{fo fi fe f fa:RE}
noncomputable def fQ(fa:RE)(l:LI):Dt×HI->Option (Dt×HI)
 | (.ref n,h)=>(match h[n]? with
  | some (.lst _)=>(fa l h).bind fun q=>match q.1 with
   | .int 0=>(match q.2[n]? with
    | some (.lst (x::xs))=>some (x,q.2.set n (.lst xs))
    | _=>none)
   | _=>none
  | _=>none)
 | _=>none
@[simp] theorem Fg:WO fo fa l h=jB (fo l h) (fQ fa l):=by
 unfold jB WO
 congr 1
 funext r
 obtain⟨d,h⟩:=r;cases d<;>(try rfl)
theorem Qw{n:Nat}{x:Dt}{xs:List Dt}(e:h[n]?=some (.lst (x::xs)))(ea:fa l h=some (.int 0,h)):fQ fa l (.ref n,h)=some (x,h.set n (.lst xs)):=by simp only[fQ,e,ea,zfO]
noncomputable def OV:Dt×HI->Option (Dt×HI)
 | (.int b,h)=>some (.int (Builtin.bitNot b),h)
 | _=>none
@[simp] theorem Jk(b:Int):OV (.int b,h)=some (.int (Builtin.bitNot b),h):=by rfl
@[simp] theorem C8:MM f l h=jB (f l h) OV:=by
 unfold jB MM
 congr 1
 funext r
 obtain⟨d,h⟩:=r;cases d<;>rfl
@[simp] theorem Gg(n:Nat)(t:RT)(body:RS):SO n t body l h=RF t body n l h:=by rfl
end
noncomputable def SI(I:LI->HI->Prop)(E:Dt->HI->Prop):Rs->Prop
 | .nx l h=>I l h
 | .rt d h=>E d h
 | _=>False
theorem bY{t:RT}{body:RS}(I:Nat->LI->HI->Prop)(N:LI->HI->Prop)(E:Dt->HI->Prop)
 (H:∀m l h,I m l h->∃b h1,t l h=some (b,h1)/\if b=true then ∃r,body l h1=some r/\SI (fun l' h'=>∃m',m'<m/\I m' l' h') E r else N l h1) :
 ∀(n m:Nat)(l:LI)(h:HI),I m l h->m<n->∃r,RF t body n l h=some r/\SI N E r:=by
 intro n
 induction n with
 | zero=>intro m l h Z hn;omega
 | succ n ih=>
  intro m l h i hn;obtain⟨b,h1,e1,q⟩:=H m l h i;rw[wj,e1,iA];unfold uc;cases b with
  | false=>rw[if_neg zfT]at q ⊢;exact⟨_,rfl,q⟩
  | true=>
   rw[if_pos rfl]at q ⊢;obtain⟨r,e2,q⟩:=q;simp only[e2,zfO];cases r with
   | nx l' h'=>obtain⟨m',hm,i'⟩:=q;exact ih m' l' h' i' (by omega)
   | rt d h'=>exact⟨_,rfl,q⟩
   | bk l' h'=>exact q.elim
   | ct l' h'=>exact q.elim
theorem F0{α:Type}{i n:Nat}{body:RS}(D:α->Dt)(S:Nat->LI->HI->Prop)(E:Dt->HI->Prop)(xs:List α)(hS:∀k l h,S k l h->h[n]?=some (.lst (xs.map D)))(H:∀(k:Nat) x,xs[k]?=some x->∀l h,S k l h->∃r,body (l.set i (some (D x))) h=some r/\SI (S (k+1)) E r)
 (l:LI) (h:HI) (h0:S 0 l h):∃r,yE (DA i) body l (.rf n,h)=some r/\SI (S xs.length) E r:=by
 have go:∀(f k:Nat)(l:LI)(h:HI),S k l h->f=xs.length-k+1->k<=xs.length->∃r,kC (DA i) body (.rf n) f k l h=some r/\SI (S xs.length) E r:=by
  intro f
  induction f with
  | zero=>intro k l h Z e;omega
  | succ f ih=>
   intro k l h i0 e hk;unfold kC;simp only[Src.at,hS k l h i0,getElem?_map];by_cases hl:k<xs.length
   · rw[getElem?_eq_getElem hl];obtain⟨r,e1,p1⟩:=H k xs[k] (getElem?_eq_getElem hl) l h i0;simp only[zfN,pG,zfO,e1];cases r with
     | nx l2 h2=>exact ih (k+1) l2 h2 p1 (by omega) (by omega)
     | rt d h2=>exact⟨_,rfl,p1⟩
     | bk l2 h2=>exact p1.elim
     | ct l2 h2=>exact p1.elim
   · rw[getElem?_eq_none (by omega)];have:k=xs.length:=by omega
     subst this;exact⟨_,rfl,i0⟩
 have hf:Src.fuel (.rf n) h=xs.length-0+1:=by simp only[Src.fuel,hS 0 l h h0,length_map];omega
 unfold yE;exact go _ 0 l h h0 hf (zxB _)
section
variable{l:LI}{h:HI}{f g fo fe:RE}{ga:RA}
noncomputable def P4(c:Nat):Dt->Dt×HI->Option (Src×HI)
 | .int i,(.int j,h)=>if 0<=i/\i<2^61/\0<=j/\j<2^61/\0<c/\c<1000 then some (.vals ((range ((j-i+(c:Int)-1)/(c:Int)).toNat).map fun(k:Nat)=>Dt.int (i+(k:Int)*(c:Int))),h)else none
 | _,_=>none
@[simp] theorem B8(c:Nat):X2 f g c l h=jB (f l h) fun r=>jB (g l r.2) (P4 c r.1):=by
 unfold jB;unfold X2
 congr 1
 funext r
 obtain⟨d,h⟩:=r
 congr 1
 funext q
 obtain⟨d',h'⟩:=q;cases d<;>cases d'<;>rfl
def ZP(x f:Str):Dt×HI->Option (Dt×HI)
 | (.ref n,h)=>(match h[n]? with
  | some (.ins y fs)=>if y=x then(LD f fs).bind fun d=>some (d,h)else none
  | _=>none)
 | _=>none
@[simp] theorem aM(x k:Str):xH x k fo l h=jB (fo l h) (ZP x k):=by
 unfold jB xH
 congr 1
 funext r
 obtain⟨d,h⟩:=r;cases d<;>(try rfl)
theorem nO{x k:Str}{n:Nat}{fs:List (Str×Dt)}{d:Dt}(e:h[n]?=some (.ins x fs))(ef:LD k fs=some d):ZP x k (.ref n,h)=some (d,h):=by simp only[ZP,e,if_true,ef,zfO]
def yV(x f:Str)(v:Dt)(l:LI):Dt×HI->Option Rs
 | (.ref n,h)=>(match h[n]? with
  | some (.ins y fs)=>if y=x/\fs.length<1000 then some (.nx l (h.set n (.ins y (jF f v fs))))else none
  | _=>none)
 | _=>none
@[simp] theorem D0(x k:Str):ZI x k fo fe l h=jB (fe l h) fun r=>jB (fo l r.2) (yV x k r.1 l):=by
 unfold jB ZI
 congr 1
 funext r
 congr 1
 funext q
 obtain⟨d,h⟩:=q;cases d<;>(try rfl)
theorem UN{x k:Str}{n:Nat}{fs:List (Str×Dt)}{v:Dt}(e:h[n]?=some (.ins x fs))(hl:fs.length<1000):yV x k v l (.ref n,h)=some (.nx l (h.set n (.ins x (jF k v fs)))):=by simp only[yV,e,true_and,if_pos hl]
noncomputable def K1(n:Nat):Dt×HI->Option (Dt×HI)
 | (.non,h)=>some (.ref n,h)
 | _=>none
@[simp] theorem Px(n:Nat):K1 n (.non,h)=some (.ref n,h):=by rfl
@[simp] theorem P5(x:Str)(F:IB):jP x F ga l h=jB (ga l h) fun r=>jB (F (.ref r.2.length::r.1) (r.2++[.ins x []])) (K1 r.2.length):=by
 unfold jB jP
 congr 1
 funext r
 congr 1
 funext q
 obtain⟨d,h⟩:=q;cases d<;>(try rfl)
def nV(x m:Str)(F:IB)(ga:RA)(l:LI):Dt×HI->Option (Dt×HI)
 | (.ref n,h)=>(match h[n]? with
  | some (.ins y fs)=>if y=x/\LD m fs=none then(ga l h).bind fun q=>F (.ref n::q.1) q.2 else none
  | _=>none)
 | _=>none
@[simp] theorem PU(x m:Str)(F:IB):WI x m F fo ga l h=jB (fo l h) (nV x m F ga l):=by
 unfold jB WI
 congr 1
 funext r
 obtain⟨d,h⟩:=r;cases d<;>(try rfl)
theorem SS{x m:Str}{F:IB}{n:Nat}{fs:List (Str×Dt)}(e:h[n]?=some (.ins x fs))(hm:LD m fs=none):nV x m F ga l (.ref n,h)=jB (ga l h) fun q=>F (.ref n::q.1) q.2:=by simp only[nV,e,true_and,if_pos hm];rfl
def RP(fb:RE)(l:LI):Dt×HI->Option (Dt×HI):=fun r=>(fb l r.2).bind fun q=>match r.1,q.1 with
 | .lst xs,.bl b=>(VE xs).bind fun bs=>some (.int ((bs.countP (· ==b):Nat):Int),q.2)
 | _,_=>none
@[simp] theorem Tw(fa fb:RE):JT fa fb l h=jB (fa l h) (RP fb l):=by rfl
theorem Cv{fb:RE}{bs:List Bool}{b:Bool}(e:fb l h=some (.bl b,h)):RP fb l (.lst (bs.map Dt.bl),h)=some (.int ((bs.countP (· ==b):Nat):Int),h):=by
 have q:VE (bs.map Dt.bl)=some bs:=by
  induction bs with
  | nil=>rfl
  | cons n ns ih=>simp only[zfJ,VE,ih,zfN]
 simp only[RP,e,zfO,q]
def WU:Dt×HI->Option (Src×HI)
 | (.lst xs,h)=>some (.vals (XI 0 xs),h)
 | (.ref n,h)=>(match h[n]? with
  | some (.lst _)=>some (.en n,h)
  | _=>none)
 | _=>none
@[simp] theorem qU:cM f l h=jB (f l h) WU:=by
 unfold jB cM
 congr 1
 funext r
 obtain⟨d,h⟩:=r;cases d<;>(try rfl)
theorem kS{n:Nat}{xs:List Dt}(e:h[n]?=some (.lst xs)):WU (.ref n,h)=some (.en n,h):=by simp only[WU,e]
end
theorem C1{α:Type}{i j n:Nat}{body:RS}(D:α->Dt)(S:Nat->LI->HI->Prop)(xs:List α)(hS:∀k l h,S k l h->h[n]?=some (.lst (xs.map D)))(H:∀(k:Nat) x,xs[k]?=some x->∀l h,S k l h->∃r,body ((l.set i (some (.int (k:Int)))).set j (some (D x))) h=some r/\Pass (S (k+1)) r)
 (l:LI) (h:HI) (h0:S 0 l h):∃l' h',yE (dF i j) body l (.en n,h)=some (.nx l' h')/\S xs.length l' h':=by
 have go:∀(f k:Nat)(l:LI)(h:HI),S k l h->f=xs.length-k+1->k<=xs.length->∃l' h',kC (dF i j) body (.en n) f k l h=some (.nx l' h')/\S xs.length l' h':=by
  intro f
  induction f with
  | zero=>intro k l h Z e;omega
  | succ f ih=>
   intro k l h i0 e hk;unfold kC;simp only[Src.at,hS k l h i0,getElem?_map];by_cases hl:k<xs.length
   · rw[getElem?_eq_getElem hl];obtain⟨r,e1,p1⟩:=H k xs[k] (getElem?_eq_getElem hl) l h i0;simp only[zfN,BZ,zfO,e1];cases r with
     | nx l2 h2=>exact ih (k+1) l2 h2 p1 (by omega) (by omega)
     | ct l2 h2=>exact ih (k+1) l2 h2 p1 (by omega) (by omega)
     | bk l2 h2=>exact p1.elim
     | rt d h2=>exact p1.elim
   · rw[getElem?_eq_none (by omega)];have:k=xs.length:=by omega
     subst this;exact⟨l,h,rfl,i0⟩
 have hf:Src.fuel (.en n) h=xs.length-0+1:=by simp only[Src.fuel,hS 0 l h h0,length_map];omega
 unfold yE;exact go _ 0 l h h0 hf (zxB _)
end SM
namespace G
def top(i:Nat):Stmt:=PySem.Challenge.pw_spanways_k16_what_drawn_stretches_keep.main.body.getD i (.Pass ⟨0,0,0,0⟩)
noncomputable abbrev UL:Dt:=(.int 8191)
noncomputable def Ly:List Dt:=[(.tup [(.int 0),(.int 0)]),(.tup [(.int 0),(.int 1)]),(.tup [(.int 0),(.int 2)]),(.tup [(.int 0),(.int 3)]),(.tup [(.int 0),(.int 4)]),(.tup [(.int 1),(.int 2)]),(.tup [(.int 1),(.int 3)]),(.tup [(.int 1),(.int 4)]),(.tup [(.int 2),(.int 2)]),(.tup [(.int 2),(.int 3)]),(.tup [(.int 2),(.int 4)]),(.tup [(.int 3),(.int 4)]),(.tup [(.int 4),(.int 4)])]
abbrev QT:Dt:=.tup Ly
noncomputable def jl:List Dt:=[(.tup [(.int 1),(.int 1),(.int 1),(.int 1),(.int 1),(.int 1),(.int 1),(.int 1),(.int 295),(.int 295),(.int 295),(.int 295),(.int 8191)]),(.tup [(.int 1),(.int 1),(.int 1),(.int 1),(.int 1),(.int 2),(.int 2),(.int 2),(.int 292),(.int 292),(.int 292),(.int 584),(.int 7312)]),(.tup [(.int 1),(.int 1),(.int 7),(.int 7),(.int 31),(.int 4),(.int 4),(.int 28),(.int 292),(.int 292),(.int 2044),(.int 1168),(.int 7312)]),(.tup [(.int 1),(.int 2),(.int 4),(.int 8),(.int 16),(.int 4),(.int 8),(.int 16),(.int 292),(.int 584),(.int 1168),(.int 1168),(.int 7312)]),(.tup [(.int 31),(.int 28),(.int 28),(.int 16),(.int 16),(.int 28),(.int 16),(.int 16),(.int 2044),(.int 1168),(.int 1168),(.int 1168),(.int 7312)]),(.tup [(.int 1),(.int 1),(.int 7),(.int 7),(.int 31),(.int 32),(.int 32),(.int 224),(.int 256),(.int 256),(.int 1792),(.int 2048),(.int 4096)]),(.tup [(.int 1),(.int 2),(.int 4),(.int 8),(.int 16),(.int 32),(.int 64),(.int 128),(.int 256),(.int 512),(.int 1024),(.int 2048),(.int 4096)]),(.tup [(.int 31),(.int 28),(.int 28),(.int 16),(.int 16),(.int 224),(.int 128),(.int 128),(.int 1792),(.int 1024),(.int 1024),(.int 2048),(.int 4096)]),(.tup [(.int 1),(.int 1),(.int 295),(.int 295),(.int 8191),(.int 256),(.int 256),(.int 7936),(.int 256),(.int 256),(.int 7936),(.int 4096),(.int 4096)]),(.tup [(.int 1),(.int 2),(.int 292),(.int 584),(.int 7312),(.int 256),(.int 512),(.int 7168),(.int 256),(.int 512),(.int 7168),(.int 4096),(.int 4096)]),(.tup [(.int 31),(.int 28),(.int 2044),(.int 1168),(.int 7312),(.int 1792),(.int 1024),(.int 7168),(.int 1792),(.int 1024),(.int 7168),(.int 4096),(.int 4096)]),(.tup [(.int 31),(.int 224),(.int 1792),(.int 2048),(.int 4096),(.int 1792),(.int 2048),(.int 4096),(.int 1792),(.int 2048),(.int 4096),(.int 4096),(.int 4096)]),(.tup [(.int 8191),(.int 7936),(.int 7936),(.int 4096),(.int 4096),(.int 7936),(.int 4096),(.int 4096),(.int 7936),(.int 4096),(.int 4096),(.int 4096),(.int 4096)])]
abbrev rS:Dt:=.tup jl
noncomputable abbrev wU:Dt:=(.int 64)
abbrev WT:Stmt:=top 3
def GY:RS:=FA (e2 rA (eC QT) (eV 0))
def ST:IB:=cC 1 1 GY
abbrev ZS:Stmt:=top 4
def JR:RE:=eV 0
def KR:RT:=Wm (e2 lB (e2 vG (e2 pI (eV 1) (eV 0)) (eC (.int 1))) (eC (.int 1)))
def qS:RS:=FA (TD (AH (eC (.int 13))) (DA 0) KR JR [none,some 0])
def iH:IB:=cC 1 1 qS
abbrev kT:Stmt:=top 5
def jS:RE:=e2 BG (eC (.int 1)) (eV 0)
def uT:RS:=FA (UC uM (TD (nC (eV 0)) (DA 0) VB jS [none]))
def iO:IB:=cC 1 1 uT
abbrev lT:Stmt:=top 6
def XR:RE:=e2 AE (eC (.int 12)) (eV 0)
def vT:RS:=FA (zA iO [] (bA (TD (nC (zA iH [] (bA (eV 0) eA))) (DA 0) VB XR [none]) eA))
def jO:IB:=cC 1 1 vT
abbrev JQ:Stmt:=top 9
def xQ:RS:=CA 3 (e2 yM (eV 3) (e2 rA (e2 rA (eC rS) (eV 4)) (eV 5)))
def gN:RS:=oC (nC (eV 2)) (DA 5) xQ
def SQ:RS:=jA (CA 2 (zA iH [] (bA (eV 1) eA))) (jA (CA 3 (eC (.int 0))) (jA (oC (nC (zA iH [] (bA (eV 0) eA))) (DA 4) gN) (FA (eV 3))))
def rN:IB:=cC 2 6 SQ
abbrev ES:Stmt:=top 12
def iS:RS:=FA (e2 pP (e2 xK (iJ (eC UL) (eV 1)) (fG (bA (eC wU) eA))) (iJ (eC UL) (e2 AE (e2 AE (eV 0) (eV 1)) (eC (.int 1)))))
def HN:IB:=cC 2 2 iS
abbrev SU:Stmt:=top 13
def xT:RE:=zA HN [] (bA (eV 1) (bA (eV 0) eA))
def zU:RS:=FA (pH (AH (eV 0)) (DA 0) VB xT [none,some 0])
def LO:IB:=cC 1 1 zU
abbrev CS:Stmt:=top 14
def kR:RS:=mD (GD (eV 1) (aB (bA (eV 2) (bA (eV 3) eA))))
def lR:RS:=oC (V2 (e2 XB (eV 2) (eC (.int 1))) (eV 0)) (DA 3) kR
def fS:RS:=jA (CA 1 (NE eA)) (jA (oC (AH (eV 0)) (DA 2) lR) (FA (eV 1)))
def BI:IB:=cC 1 4 fS
abbrev BS:Stmt:=top 15
def wW:RE:=UC ZE (eV 0)
def eS:RS:=jA (CA 4 (pH (nC (eV 0)) (DA 0) VB wW [none])) (jA (WH (e2 vG (e2 rA (e2 rA (eV 0) (eV 1)) (eV 3)) (eV 2)) (e2 rA (eV 4) (eV 1)) (eV 3)) (jA (WH (zA jO [] (bA (e2 rA (e2 rA (eV 4) (eV 1)) (eV 3)) eA)) (e2 rA (eV 4) (eV 3)) (eV 1)) (FA (eV 4))))
def AI:IB:=cC 4 5 eS
abbrev WS:Stmt:=top 16
def lS:RS:=jA (CA 2 (e2 rA (e2 rA (eV 0) (e2 rA (eV 1) (eC (.int 0)))) (e2 rA (eV 1) (eC (.int 1))))) (jA (CA 3 (e2 rA (e2 rA (eV 0) (e2 rA (eV 1) (eC (.int 1)))) (e2 rA (eV 1) (eC (.int 2))))) (FA (e2 vG (e2 rA (e2 rA (eV 0) (e2 rA (eV 1) (eC (.int 0)))) (e2 rA (eV 1) (eC (.int 2)))) (zA rN [] (bA (eV 2) (bA (eV 3) eA))))))
def qL:IB:=cC 2 4 lS
abbrev YS:Stmt:=top 17
def oS:RS:=FA (e2 zE (zA qL [] (bA (eV 0) (bA (eV 1) eA))) (e2 rA (e2 rA (eV 0) (e2 rA (eV 1) (eC (.int 0)))) (e2 rA (eV 1) (eC (.int 2)))))
def ZN:IB:=cC 2 2 oS
abbrev XS:Stmt:=top 18
def mS:RS:=FA (zA AI [] (bA (eV 0) (bA (e2 rA (eV 1) (eC (.int 0))) (bA (zA qL [] (bA (eV 0) (bA (eV 1) eA))) (bA (e2 rA (eV 1) (eC (.int 2))) eA)))))
def YN:IB:=cC 2 2 mS
abbrev AS:Stmt:=top 19
def vW:RE:=e2 (GH false) (eC (.int 0)) (eV 0)
def dS:RS:=FA (UC qM (TD (nC (eV 0)) (DA 0) VB vW [none]))
def DN:IB:=cC 1 1 dS
abbrev OQ:Stmt:=top 20
def yQ:RS:=uD (Wm (e2 (GH true) (eV 3) (eV 0))) (jA (mD (GD (eV 2) (aB (bA (e2 rA (eV 0) (eC (.int 0))) (bA (e2 rA (eV 0) (eC (.int 1))) (bA (eV 3) eA)))))) (mD (GD (eV 2) (aB (bA (e2 rA (eV 0) (eC (.int 1))) (bA (e2 rA (eV 0) (eC (.int 0))) (bA (eV 3) eA))))))) zB
def VQ:RS:=jA (CA 2 (NE eA)) (jA (oC (AH (eV 1)) (DA 3) yQ) (FA (eV 2)))
def tN:IB:=cC 2 4 VQ
abbrev MQ:Stmt:=top 21
def iW:RE:=UC ZE (eV 0)
def pJ:RS:=uD (Wm (zA ZN [] (bA (eV 3) (bA (eV 6) eA)))) (jA (CA 3 (zA YN [] (bA (eV 3) (bA (eV 6) eA)))) (jA (mD (GD (eV 2) (eV 6))) (jA (uD (Wm (e2 jG (e2 rA (e2 rA (eV 3) (e2 rA (eV 6) (eC (.int 0)))) (e2 rA (eV 6) (eC (.int 2)))) (eC (.int 0)))) (FA (aB (bA (eC .non) (bA (eV 2) eA)))) zB) (mD (GD (eV 4) (aB (bA (e2 rA (eV 6) (eC (.int 0))) (bA (e2 rA (eV 6) (eC (.int 2))) eA)))))))) zB
def MK:RS:=jA (CA 5 (WO (eV 4) (eC (.int 0)))) (oC (nC (zA tN [] (bA (eV 5) (bA (UC EC (eV 0)) eA)))) (DA 6) pJ)
def JK:RT:=Wm (e2 WG (eV 4) (fG eA))
def qN:RS:=jA (CA 2 (NE eA)) (jA (uD (Wm (zA DN [] (bA (eV 0) eA))) (FA (aB (bA (eC .non) (bA (eV 2) eA)))) zB) (jA (CA 3 (pH (nC (eV 0)) (DA 0) VB iW [none])) (jA (CA 4 (UC ZE (eV 1))) (jA (SO 1000000 JK MK) (FA (aB (bA (eV 3) (bA (eV 2) eA))))))))
def uJ:IB:=cC 2 7 qN
abbrev BR:Stmt:=top 23
def SK:RS:=uD (Wm (e2 lB (e2 rA (eV 3) (eC (.int 0))) (eC (.str "ways")))) (CA 2 (zA AI [] (bA (eV 2) (bA (e2 rA (eV 3) (eC (.int 1))) (bA (e2 rA (eV 3) (eC (.int 2))) (bA (e2 rA (eV 3) (eC (.int 3))) eA)))))) zB
def HR:RS:=jA (CA 2 (zA LO [] (bA (eV 0) eA))) (jA (oC (nC (eV 1)) (DA 3) SK) (FA (eV 2)))
def bL:IB:=cC 2 4 HR
abbrev UR:Stmt:=top 24
def kW:RE:=aB (bA (e2 rA (eV 0) (eC (.int 1))) (bA (e2 rA (eV 0) (eC (.int 2))) (bA (e2 rA (eV 0) (eC (.int 3))) eA)))
def XQ:RT:=Wm (e2 lB (e2 rA (eV 0) (eC (.int 0))) (eC (.str "long")))
def gR:RS:=FA (TD (nC (eV 0)) (DA 0) XQ kW [none])
def kN:IB:=cC 1 1 gR
abbrev DR:Stmt:=top 25
def zW:RE:=e2 rA (eV 0) (eC (.int 1))
def tR:RT:=Wm (e2 lB (e2 rA (eV 0) (eC (.int 0))) (eC (.str "one")))
def IR:RS:=FA (TD (nC (eV 0)) (DA 0) tR zW [none])
def cL:IB:=cC 1 1 IR
abbrev xR:Stmt:=top 26
def bN:RS:=jA (CA 5 (kM (Wm (e2 lB (eV 3) (eV 2))) (e2 rA (eV 4) (eC (.int 2))) (e2 vG (eC UL) (MM (e2 rA (eV 4) (eC (.int 2))))))) (CA 0 (zA AI [] (bA (eV 0) (bA (e2 rA (eV 4) (eC (.int 1))) (bA (eV 5) (bA (e2 rA (eV 4) (eC (.int 3))) eA))))))
def rR:RS:=jA (oC (cM (eV 1)) (dF 3 4) bN) (FA (eV 0))
def nN:IB:=cC 3 6 rR
abbrev nQ:Stmt:=top 27
def XM:RS:=uD (Wm (e2 CP (UC EC (zA iH [] (bA (e2 rA (e2 rA (eV 0) (e2 rA (eV 1) (eC (.int 0)))) (e2 rA (eV 1) (eC (.int 1)))) eA))) (eC (.int 1)))) (FA (eV 1)) zB
def QM:RS:=jA (oC (nC (zA BI [] (bA (UC EC (eV 0)) eA))) (DA 1) XM) (FA (eC .non))
def GK:IB:=cC 1 2 QM
abbrev DS:Stmt:=top 28
def iN:RE:=zA nN [] (bA (eV 1) (bA (eV 2) (bA (eV 0) eA)))
def xW:RE:=aB (bA (e2 rA (eV 0) (eC (.int 1))) (bA (e2 rA (eV 0) (eC (.int 3))) eA))
def jN:RE:=zA AI [] (bA (eV 1) (bA (e2 rA (eV 2) (eC (.int 0))) (bA (e2 BG (eC (.int 1)) (eV 0)) (bA (e2 rA (eV 2) (eC (.int 1))) eA))))
def ZK:RS:=jA (uD (Wm (e2 WG (eV 1) (fG eA))) (jA (CA 2 (e2 rA (eV 1) (eC (.int 0)))) (jA (CA 3 (TD (AH (UC EC (eV 2))) (DA 0) VB iN [none,some 0,some 2])) (FA (aB (bA (eC (.str "one")) (bA (aB eA) (bA (eV 3) (bA (TD (nC (eV 2)) (DA 0) VB xW [none]) eA)))))))) zB) (jA (CA 4 (zA GK [] (bA (eV 0) eA))) (jA (uD (Wm (e2 HH (eV 4) (eC .non))) (FA (eC .non)) zB) (jA (CA 5 (e2 rA (e2 rA (eV 0) (e2 rA (eV 4) (eC (.int 0)))) (e2 rA (eV 4) (eC (.int 1))))) (jA (CA 3 (TD (nC (zA iH [] (bA (eV 5) eA))) (DA 0) VB jN [none,some 0,some 4])) (FA (aB (bA (eC (.str "split")) (bA (eV 4) (bA (eV 3) (bA (fG (bA (eV 4) eA)) eA))))))))))
def NH:IB:=cC 2 6 ZK
abbrev uU:Stmt:=top 30
def NT:RS:=FA (e2 XB (e2 gC (eC (.int 2)) (eV 0)) (eC (.int 1)))
def vL:IB:=cC 1 1 NT
abbrev QQ:Stmt:=top 31
def DQ:RS:=jA (CA 2 (e2 gC (eC (.int 2)) (e2 rA (eV 0) (eC (.int 0))))) (FA (NE (bA (aB (bA (eV 2) (bA (e2 XB (eV 2) (eC (.int 1))) (bA (e2 gC (mF (e2 rA (eV 0) (eC (.int 1)))) (eV 1)) eA)))) (bA (aB (bA (e2 XB (eV 2) (eC (.int 1))) (bA (eV 2) (bA (e2 gC (e2 rA (eV 0) (eC (.int 2))) (eV 1)) eA)))) eA))))
def OK:IB:=cC 2 3 DQ
abbrev LQ:Stmt:=top 32
def TQ:RS:=jA (CA 4 (NE eA)) (jA (uD (Wm (e2 zM (UC yH (eV 3)) (eV 2))) (mD (GD (eV 4) (aB (bA (eV 0) (bA (eV 1) (bA (kM (Wm (e2 BM (UC yH (eV 3)) (eV 2))) (mF (eC (.int 1))) (eC (.int 0))) eA)))))) zB) (jA (uD (Wm (e2 DV (UC gG (eV 3)) (eV 2))) (mD (GD (eV 4) (aB (bA (eV 1) (bA (eV 0) (bA (kM (Wm (e2 CP (UC gG (eV 3)) (eV 2))) (mF (eC (.int 1))) (eC (.int 0))) eA)))))) zB) (FA (eV 4))))
def tI:IB:=cC 4 5 TQ
abbrev VR:Stmt:=top 33
def WK:RE:=e2 rA (zA ST [] (bA (eV 0) eA)) (eV 1)
def YK:RS:=jA (CA 5 (TD (nC (zA iH [] (bA (eV 1) eA))) (DA 0) VB WK [none,some 4])) (jA (mD (GI (eV 3) (zA tI [] (bA (e2 XB (e2 gC (eC (.int 2)) (eV 0)) (eV 4)) (bA (e2 gC (eC (.int 2)) (eV 2)) (bA (eC (.int 1)) (bA (eV 5) eA))))))) (mD (GI (eV 3) (zA tI [] (bA (e2 XB (e2 gC (eC (.int 2)) (eV 0)) (eV 4)) (bA (e2 XB (e2 gC (eC (.int 2)) (eV 2)) (eC (.int 1))) (bA (eC (.int 3)) (bA (eV 5) eA))))))))
def iR:RS:=jA (CA 3 (NE eA)) (jA (oC (AH (eC (.int 2))) (DA 4) YK) (FA (eV 3)))
def zJ:IB:=cC 3 6 iR
abbrev jT:Stmt:=top 34
def CN:RE:=aB (bA (e2 gC (eC (.int 2)) (eV 0)) (bA (e2 XB (e2 gC (eC (.int 2)) (eV 0)) (eC (.int 1))) (bA (mF (eC (.int 1))) eA)))
def IN:RS:=mD (GI (eV 2) (zA OK [] (bA (eV 3) (bA (zA vL [] (bA (UC EC (eV 0)) eA)) eA))))
def CI:RS:=mD (GI (eV 2) (zA zJ [] (bA (e2 rA (eV 4) (eC (.int 0))) (bA (e2 rA (e2 rA (eV 0) (e2 rA (eV 4) (eC (.int 0)))) (e2 rA (eV 4) (eC (.int 1)))) (bA (e2 rA (eV 4) (eC (.int 1))) eA)))))
def tT:RS:=jA (CA 2 (pH (AH (UC EC (eV 0))) (DA 0) VB CN [none])) (jA (oC (nC (eV 1)) (DA 3) IN) (jA (oC (nC (zA BI [] (bA (UC EC (eV 0)) eA))) (DA 4) CI) (FA (eV 2))))
def gO:IB:=cC 2 5 tT
abbrev KQ:Stmt:=top 35
def LK:RS:=jA (CA 3 (VP (bA (e2 rA (eV 2) (eC (.int 0))) (bA (e2 rA (eV 2) (eC (.int 1))) eA)))) (yP (UP ZJ (XH (eV 1) (eV 3) (e2 rA (eV 2) (eC (.int 2)))) (e2 rA (eV 2) (eC (.int 2)))) (eV 1) (eV 3))
def YM:RS:=jA (CA 1 hV) (jA (oC (nC (eV 0)) (DA 2) LK) (FA (eV 1)))
def tJ:IB:=cC 1 4 YM
abbrev vU:Stmt:=top 36
def yI:RS:=uD (Wm (e2 CP (e2 rA (eV 1) (e2 rA (eV 4) (eC (.int 0)))) (e2 XB (e2 rA (eV 1) (e2 rA (eV 4) (eC (.int 1)))) (eV 5)))) (jA (WH (e2 XB (e2 rA (eV 1) (e2 rA (eV 4) (eC (.int 1)))) (eV 5)) (eV 1) (e2 rA (eV 4) (eC (.int 0)))) (jA (WH (e2 rA (eV 4) (eC (.int 1))) (eV 2) (e2 rA (eV 4) (eC (.int 0)))) (CA 3 (e2 rA (eV 4) (eC (.int 0)))))) zB
def OT:RS:=jA (CA 3 (eC .non)) (jA (oC (II (eV 0)) (dF 4 5) yI) (FA (eV 3)))
def NJ:IB:=cC 3 6 OT
abbrev yR:Stmt:=top 37
def tQ:RS:=CA 0 (e2 rA (eV 1) (eV 0))
def uQ:RS:=mD (GD (eV 3) (e2 rA (eV 1) (e2 rA (eV 3) (mF (eC (.int 1))))))
def sQ:RT:=Wm (e2 zE (e2 rA (eV 3) (mF (eC (.int 1)))) (eV 0))
def sR:RS:=jA (oC (AH (UC EC (eV 1))) (DA 2) tQ) (jA (CA 3 (NE (bA (eV 0) (bA (e2 rA (eV 1) (eV 0)) eA)))) (jA (SO 100 sQ uQ) (FA (eV 3))))
def oN:IB:=cC 2 4 sR
abbrev VT:Stmt:=top 38
def pL:RE:=e2 AE (eV 0) (eV 1)
def AJ:RS:=jA (CA 6 (zA NJ [] (bA (eV 2) (bA (eV 3) (bA (eV 4) eA))))) (uD (Wm (e2 HH (eV 6) (eC .non))) (jA (CA 7 (iV (eV 3) (eC (.int 0)))) (FA (aB (bA (eC (.str "times")) (bA (TD (nC (eV 3)) (DA 0) VB pL [none,some 7]) eA))))) zB)
def MJ:RS:=jA (CA 2 (zA tJ [] (bA (eV 1) eA))) (jA (CA 3 (XJ (eC (.int 0)) (eV 0))) (jA (CA 4 (XJ (eC .non) (eV 0))) (jA (oC (AH (e2 XB (eV 0) (eC (.int 1)))) (DA 5) AJ) (FA (aB (bA (eC (.str "ring")) (bA (zA oN [] (bA (eV 6) (bA (eV 4) eA))) eA)))))))
def EG:IB:=cC 2 8 MJ
abbrev GQ:Stmt:=fU (top 40) 0
def EQ:RS:=jA (ZI "Search" "lengths" (eV 0) (eV 1)) (jA (ZI "Search" "most" (eV 0) (eV 2)) (ZI "Search" "made" (eV 0) (eC (.int 0))))
def PK:IB:=cC 3 3 EQ
abbrev NQ:Stmt:=top 41
def dN:RE:=aB (bA (e2 rA (eV 1) (eV 0)) (bA (e2 rA (eV 1) (e2 XB (eV 0) (eC (.int 1)))) eA))
def UQ:RS:=FA (TD (X2 (eC (.int 0)) (UC EC (eV 0)) 2) (DA 0) VB dN [none,some 0])
def sN:IB:=cC 1 1 UQ
abbrev lQ:Stmt:=fU (top 40) 2
def FK (R:IB):RS:=jA (CA 6 (WI "Search" "look" R (eV 0) (bA (eV 5) (bA (e2 rA (eV 1) (eC (.int 3))) (bA (eV 3) eA))))) (jA (uD (Wm (e2 zE (e2 rA (eV 6) (eC (.int 0))) (eC (.str "clash")))) (FA (eV 6)) zB) (mD (GD (eV 4) (e2 rA (eV 6) (eC (.int 1))))))
def EK (R:IB):RS:=jA (CA 4 (NE eA)) (jA (oC (nC (e2 rA (eV 1) (eC (.int 2)))) (DA 5) (FK R)) (FA (aB (bA (eC (.str "clash")) (bA (e2 NI (e2 NI (aB (bA (e2 rA (eV 1) (eC (.int 0))) (bA (eV 2) eA))) (e2 rA (eV 1) (eC (.int 1)))) (aB (bA (eV 4) eA))) eA)))))
def KH(R:IB):IB:=cC 4 7 (EK R)
abbrev uR:Stmt:=fU (top 40) 1
def dH (R:IB):RS:=jA (CA 4 (zA uJ [] (bA (eV 1) (bA (eV 2) eA)))) (jA (CA 5 (e2 rA (eV 4) (eC (.int 0)))) (jA (CA 6 (e2 rA (eV 4) (eC (.int 1)))) (jA (uD (Wm (e2 HH (eV 5) (eC .non))) (FA (aB (bA (eC (.str "clash")) (bA (aB (bA (eC (.str "threes")) (bA (eV 6) eA))) eA)))) zB) (jA (CA 7 (zA EG [] (bA (e2 gC (eC (.int 2)) (UC EC (eV 5))) (bA (zA gO [] (bA (eV 5) (bA (xH "Search" "lengths" (eV 0)) eA))) eA)))) (jA (uD (Wm (e2 lB (e2 rA (eV 7) (eC (.int 0))) (eC (.str "ring")))) (FA (aB (bA (eC (.str "clash")) (bA (aB (bA (eC (.str "ring")) (bA (eV 6) (bA (e2 rA (eV 7) (eC (.int 1))) eA)))) eA)))) zB) (jA (CA 8 (zA NH [] (bA (eV 5) (bA (eV 3) eA)))) (jA (uD (Wm (e2 HH (eV 8) (eC .non))) (FA (aB (bA (eC (.str "laid")) (bA (zA sN [] (bA (e2 rA (eV 7) (eC (.int 1))) eA)) eA)))) zB) (jA (uD (Wm (e2 DV (xH "Search" "made" (eV 0)) (xH "Search" "most" (eV 0)))) (FA (aB (bA (eC (.str "open")) (bA (eC .non) eA)))) zB) (jA (ZI "Search" "made" (eV 0) (e2 XB (xH "Search" "made" (eV 0)) (eC (.int 1)))) (FA (WI "Search" "look_at_branches" (KH R) (eV 0) (bA (eV 8) (bA (eV 6) (bA (WP (eV 3) (jM (eC (.int 1))) TV) eA))))))))))))))
def kG(n:Nat):IB:=Nat.rec (fun Z Z=>none) (fun Z R=>cC 4 9 (dH R)) n
abbrev TN:Stmt:=top 42
def pS:RS:=jA (CA 3 (jP "Search" PK (bA (zA kN [] (bA (eV 1) eA)) (bA (eV 2) eA)))) (jA (CA 4 (WI "Search" "look" (kG 12) (eV 3) (bA (zA bL [] (bA (eV 0) (bA (eV 1) eA))) (bA (zA BI [] (bA (eV 0) eA)) (bA (zA cL [] (bA (eV 1) eA)) eA))))) (FA (aB (bA (e2 rA (eV 4) (eC (.int 0))) (bA (e2 rA (eV 4) (eC (.int 1))) (bA (xH "Search" "made" (eV 3)) eA))))))
def DG:IB:=cC 3 5 pS
abbrev IQ:Stmt:=top 44
def RQ:RS:=jA (uD (Wm (e2 BM (eV 1) (UC EC (eV 0)))) (FA (e2 rA (eV 0) (eV 1))) zB) (FA (eC (.int 0)))
def sJ:IB:=cC 2 2 RQ
abbrev SR:Stmt:=top 45
def fR:RS:=FA (qI (lI "int" (eV 0)) (PM (lI "bool" (eV 0))))
def yJ:IB:=cC 1 1 fR
abbrev PR:Stmt:=top 46
def cR:RS:=FA (e2 YC (e2 gC (e2 XB (e2 YC (eV 0) (eC (.int 2147483647))) (eC (.int 11))) (eV 1)) (eC (.int 2147483629)))
def LH:IB:=cC 2 2 cR
abbrev TR:Stmt:=top 47
def uW:RS:=jA (CA 0 (fG (bA (aB (bA (eC (.int 0)) (bA (eC (.int 0)) eA))) (bA (aB (bA (eC (.int 0)) (bA (eC (.int 1)) eA))) (bA (aB (bA (eC (.int 0)) (bA (eC (.int 2)) eA))) (bA (aB (bA (eC (.int 0)) (bA (eC (.int 3)) eA))) (bA (aB (bA (eC (.int 0)) (bA (eC (.int 4)) eA))) (bA (aB (bA (eC (.int 1)) (bA (eC (.int 2)) eA))) (bA (aB (bA (eC (.int 1)) (bA (eC (.int 3)) eA))) eA))))))))) (FA (e2 xK (eV 0) (fG (bA (aB (bA (eC (.int 1)) (bA (eC (.int 4)) eA))) (bA (aB (bA (eC (.int 2)) (bA (eC (.int 2)) eA))) (bA (aB (bA (eC (.int 2)) (bA (eC (.int 3)) eA))) (bA (aB (bA (eC (.int 2)) (bA (eC (.int 4)) eA))) (bA (aB (bA (eC (.int 3)) (bA (eC (.int 4)) eA))) (bA (aB (bA (eC (.int 4)) (bA (eC (.int 4)) eA))) eA)))))))))
def jR:IB:=cC 0 1 uW
abbrev AR:Stmt:=top 48
def GR:RS:=jA (uD (Wm (e2 zM (eV 0) (e2 rA (eV 1) (eC (.int 0))))) (FA (UC rK (e2 lB (eV 0) (e2 rA (eV 1) (eC (.int 0)))))) zB) (jA (uD (Wm (e2 BM (eV 0) (e2 rA (eV 1) (eC (.int 1))))) (FA (eC (.int 2))) zB) (FA (e2 AE (eC (.int 4)) (UC rK (e2 lB (eV 0) (e2 rA (eV 1) (eC (.int 1))))))))
def aL:IB:=cC 2 2 GR
abbrev zS:Stmt:=top 49
def cS:RS:=FA (iP (VO jR []) (aB (bA (zA aL [] (bA (e2 rA (eV 0) (eC (.int 0))) (bA (eV 1) eA))) (bA (zA aL [] (bA (e2 rA (eV 0) (eC (.int 1))) (bA (eV 1) eA))) eA))))
def EJ:IB:=cC 2 2 cS
abbrev QR:Stmt:=top 50
def YQ:RS:=jA (CA 5 (zA LH [] (bA (zA sJ [] (bA (eV 0) (bA (e2 XB (eV 4) (eC (.int 1))) eA))) (bA (e2 XB (eC (.int 48271)) (e2 gC (e2 gC (eC (.int 2)) (eV 4)) (eV 4))) eA)))) (jA (CA 6 (e2 gC (e2 YC (e2 iF (eV 5) (eC (.int 7))) (eC (.int 6))) (eV 2))) (mD (GD (eV 3) (aB (bA (eV 6) (bA (e2 XB (eV 6) (e2 gC (e2 XB (eC (.int 1)) (e2 YC (e2 iF (eV 5) (eC (.int 42))) (eC (.int 4)))) (eV 2))) eA))))))
def dR:RS:=jA (CA 3 (NE eA)) (jA (oC (AH (eV 1)) (DA 4) YQ) (FA (eV 3)))
def UK:IB:=cC 3 7 dR
abbrev PQ:Stmt:=top 51
def NK:RS:=jA (CA 2 (e2 AE (eC (.int 8191)) (e2 BG (eC (.int 1)) (e2 YC (e2 iF (eV 0) (eC (.int 8))) (eC (.int 13)))))) (jA (uD (Wm (e2 lB (e2 YC (eV 0) (eC (.int 3))) (eC (.int 1)))) (CA 2 (e2 YC (e2 iF (eV 0) (eC (.int 8))) (eC (.int 8192)))) zB) (jA (uD (Wm (e2 lB (e2 YC (eV 0) (eC (.int 3))) (eC (.int 2)))) (CA 2 (e2 BG (eC (.int 1)) (e2 YC (e2 iF (eV 0) (eC (.int 8))) (eC (.int 13))))) zB) (FA (e2 yM (eV 2) (e2 BG (eC (.int 1)) (eV 1))))))
def oJ:IB:=cC 2 3 NK
abbrev CQ:Stmt:=top 52
def cN:RS:=jA (CA 3 (e2 YC (eV 0) (UC EC (eV 1)))) (jA (CA 4 (e2 YC (e2 XB (e2 XB (eV 3) (eC (.int 1))) (e2 YC (e2 iF (eV 0) (eC (.int 8))) (e2 AE (UC EC (eV 1)) (eC (.int 1))))) (UC EC (eV 1)))) (jA (CA 5 (zA EJ [] (bA (e2 rA (eV 1) (eV 3)) (bA (e2 rA (eV 1) (eV 4)) eA)))) (jA (CA 6 (zA oJ [] (bA (e2 iF (eV 0) (eC (.int 64))) (bA (eV 5) eA)))) (jA (uD (sF (Wm (eV 2))) (CA 6 (e2 AE (eV 6) (e2 BG (eC (.int 1)) (eV 5)))) zB) (FA (aB (bA (eC (.str "ways")) (bA (eV 3) (bA (eV 6) (bA (eV 4) eA))))))))))
def aH:IB:=cC 3 7 cN
abbrev HQ:Stmt:=top 53
def oQ:RS:=mD (GD (eV 4) (zA aH [] (bA (e2 YC (e2 gC (eV 0) (e2 XB (eC (.int 69621)) (e2 gC (e2 gC (eC (.int 2)) (eV 5)) (eV 5)))) (eC (.int 2147483587))) (bA (eV 1) (bA (e2 lB (eV 5) (eV 3)) eA)))))
def FQ:RS:=jA (CA 2 (e2 XB (eC (.int 1)) (e2 YC (eV 0) (eC (.int 6))))) (jA (CA 3 (e2 YC (e2 iF (eV 0) (eC (.int 6))) (eV 2))) (jA (CA 4 (NE eA)) (jA (oC (AH (eV 2)) (DA 5) oQ) (FA (aB (bA (eC (.str "one")) (bA (eV 4) eA)))))))
def QK:IB:=cC 2 6 FQ
abbrev BQ:Stmt:=top 54
def wQ:RS:=jA (CA 3 (e2 YC (eV 0) (UC EC (eV 1)))) (jA (CA 4 (e2 AE (e2 rA (e2 rA (eV 1) (eV 3)) (eC (.int 1))) (e2 rA (e2 rA (eV 1) (eV 3)) (eC (.int 0))))) (jA (CA 5 (UP mP (eC (.int 0)) (e2 AE (eV 4) (e2 rA (fG (bA (eC (.int 0)) (bA (eC (.int 1)) (bA (eV 2) (bA (e2 gC (eC (.int 9)) (eV 2)) eA))))) (e2 YC (e2 iF (eV 0) (eC (.int 8))) (eC (.int 4))))))) (FA (aB (bA (eC (.str "long")) (bA (eV 3) (bA (eV 5) (bA (e2 XB (eV 4) (e2 rA (fG (bA (eC (.int 0)) (bA (eC (.int 1)) (bA (eV 2) (bA (e2 gC (eV 0) (eC (.int 1000000))) eA))))) (e2 YC (e2 iF (eV 0) (eC (.int 32))) (eC (.int 4))))) eA))))))))
def IK:IB:=cC 3 6 wQ
abbrev MR:Stmt:=top 55
def uI:RS:=jA (CA 7 (zA LH [] (bA (eV 6) (bA (eC (.int 16807)) eA)))) (jA (CA 8 (e2 YC (e2 iF (zA LH [] (bA (eV 6) (bA (eC (.int 69621)) eA))) (eC (.int 16))) (eC (.int 8)))) (uD (fK (Wm (e2 lB (eV 8) (eC (.int 0)))) (Wm (e2 BM (eV 5) (eV 3)))) (jA (CA 5 (e2 XB (eV 5) (eC (.int 1)))) (mD (GD (eV 4) (zA QK [] (bA (eV 7) (bA (eV 1) eA)))))) (uD (Wm (e2 lB (eV 8) (eC (.int 1)))) (mD (GD (eV 4) (zA IK [] (bA (eV 7) (bA (eV 1) (bA (eV 2) eA)))))) (mD (GD (eV 4) (zA aH [] (bA (eV 7) (bA (eV 1) (bA (eC (.bl true)) eA)))))))))
def bR:RS:=jA (CA 4 (NE eA)) (jA (CA 5 (eC (.int 0))) (jA (oC (nC (WP (eV 0) (jM (eC (.int 6))) (jM (eC (.int 66))))) (DA 6) uI) (FA (eV 4))))
def xJ:IB:=cC 4 9 bR
abbrev NR:Stmt:=top 56
def WQ(R:IB):RE:=zA R [] (bA (eV 0) (bA (eV 1) (bA (eV 2) eA)))
def vI (R:IB):RS:=jA (uD (Wm (e2 lB (e2 rA (eV 0) (eC (.int 0))) (eC (.str "ways")))) (FA (e2 lB (e2 vG (e2 pI (e2 rA (eV 0) (eC (.int 2))) (zA EJ [] (bA (e2 rA (eV 1) (e2 rA (eV 0) (eC (.int 1)))) (bA (e2 rA (eV 1) (e2 rA (eV 0) (eC (.int 3)))) eA)))) (eC (.int 1))) (eC (.int 1)))) zB) (jA (uD (Wm (e2 lB (e2 rA (eV 0) (eC (.int 0))) (eC (.str "long")))) (jA (CA 3 (e2 AE (e2 rA (e2 rA (eV 1) (e2 rA (eV 0) (eC (.int 1)))) (eC (.int 1))) (e2 rA (e2 rA (eV 1) (e2 rA (eV 0) (eC (.int 1)))) (eC (.int 0))))) (FA (qI (e2 zM (e2 gC (e2 rA (eV 0) (eC (.int 2))) (eV 2)) (eV 3)) (e2 zM (eV 3) (e2 gC (e2 rA (eV 0) (eC (.int 3))) (eV 2)))))) zB) (FA (e2 lB (JT (TD (nC (e2 rA (eV 0) (eC (.int 1)))) (DA 0) VB ((WQ R)) [none,some 1,some 2]) (eC (.bl true))) (eC (.int 1)))))
def wI(n:Nat):IB:=Nat.rec (fun Z Z=>none) (fun Z R=>cC 3 4 (vI R)) n
abbrev LR:Stmt:=top 57
def pN:RS:=jA (uD (WF (sF (Wm (lI "tuple" (eV 2)))) (WF (Wm (e2 zE (UC EC (eV 2)) (eC (.int 2)))) (WF (sF (Wm (zA yJ [] (bA (e2 rA (eV 2) (eC (.int 0))) eA)))) (sF (Wm (zA yJ [] (bA (e2 rA (eV 2) (eC (.int 1))) eA))))))) (FA (eC (.bl false))) zB) (uD (Wm (e2 DV (e2 rA (eV 2) (eC (.int 0))) (e2 rA (eV 2) (eC (.int 1))))) (FA (eC (.bl false))) zB)
def uN:RE:=e2 rA (eV 0) (eC (.int 0))
def FR:RS:=jA (uD (WF (sF (Wm (lI "list" (eV 0)))) (Wm (e2 zE (UC EC (eV 0)) (eV 1)))) (FA (eC (.bl false))) zB) (jA (oC (nC (eV 0)) (DA 2) pN) (FA (e2 lB (UC gG (TD (nC (eV 0)) (DA 0) VB uN [none])) (eC (.int 0)))))
def vJ:IB:=cC 2 3 FR
abbrev zR:Stmt:=top 58
def wN:RS:=jA (uD (WF (sF (Wm (lI "tuple" (eV 0)))) (WF (Wm (e2 zE (UC EC (eV 0)) (eC (.int 3)))) (sF (Wm (zA yJ [] (bA (e2 rA (eV 0) (eC (.int 2))) eA)))))) (FA (eC (.bl false))) zB) (jA (uD (Wm (e2 lB (e2 rA (eV 0) (eC (.int 0))) (eC (.str "open")))) (FA (qI (e2 HH (e2 rA (eV 0) (eC (.int 1))) (eC .non)) (e2 lB (e2 rA (eV 0) (eC (.int 2))) (eV 1)))) zB) (FA (qI (e2 (GH false) (e2 rA (eV 0) (eC (.int 0))) (aB (bA (eC (.str "laid")) (bA (eC (.str "clash")) eA)))) (ML zM zM (eC (.int 0)) (e2 rA (eV 0) (eC (.int 2))) (eV 1)))))
def bH:IB:=cC 2 2 wN
abbrev wR:Stmt:=top 59
def aN:RS:=uD (Wm (e2 lB (e2 vG (e2 pI (eV 0) (eV 2)) (eC (.int 1))) (eC (.int 1)))) (CA 1 (e2 XB (eV 1) (e2 BG (eC (.int 1)) (e2 AE (eC (.int 12)) (eV 2))))) zB
def qR:RS:=jA (CA 1 (eC (.int 0))) (jA (oC (AH (eC (.int 13))) (DA 2) aN) (FA (eV 1)))
def vN:IB:=cC 1 3 qR
abbrev vR:Stmt:=top 60
def rQ:RE:=e2 lB (e2 XB (e2 rA (eV 0) (eC (.int 1))) (e2 rA (eV 0) (eC (.int 3)))) (eC (.int 1))
def MH:RS:=jA (uD (fK (Wm (e2 lB (e2 rA (eV 2) (eC (.int 0))) (eC (.str "ways")))) (Wm (e2 lB (e2 XB (e2 rA (eV 2) (eC (.int 1))) (e2 rA (eV 2) (eC (.int 3)))) (eC (.int 1))))) (mD (GD (eV 1) (eV 2))) zB) (uD (fK (Wm (e2 lB (e2 rA (eV 2) (eC (.int 0))) (eC (.str "one")))) (Wm (UC qK (TD (nC (e2 rA (eV 2) (eC (.int 1)))) (DA 0) VB rQ [none])))) (mD (GD (eV 1) (aB (bA (eC (.str "one")) (bA (UC ZE (e2 rA (eV 2) (eC (.int 1)))) eA))))) zB)
def pR:RS:=jA (CA 1 (NE eA)) (jA (oC (nC (eV 0)) (DA 2) MH) (FA (eV 1)))
def RK:IB:=cC 1 3 pR
abbrev yS:Stmt:=top 61
def BN:RS:=jA (uD (Wm (e2 lB (e2 rA (eV 0) (eC (.int 1))) (eC (.int 0)))) (FA (e2 rA (eV 0) (eC (.int 2)))) zB) (FA (zA vN [] (bA (e2 rA (eV 0) (eC (.int 2))) eA)))
def zI:IB:=cC 1 1 BN
abbrev AQ:Stmt:=top 62
def qJ:RS:=uD (Wm (e2 lB (e2 rA (eV 2) (eC (.int 0))) (eC (.str "ways")))) (WH (e2 vG (e2 rA (eV 1) (eC (.int 0))) (zA zI [] (bA (eV 2) eA))) (eV 1) (eC (.int 0))) zB
def HK:RS:=CA 6 (e2 vG (eV 6) (kM (Wm (e2 lB (eV 7) (eV 5))) (zA zI [] (bA (eV 8) eA)) (e2 AE (eC (.int 8191)) (zA zI [] (bA (eV 8) eA)))))
def UM:RS:=jA (CA 6 (eV 4)) (jA (oC (cM (e2 rA (eV 2) (eC (.int 1)))) (dF 7 8) HK) (uD (Wm (e2 CP (eV 6) (eC (.int 0)))) (mD (GD (eV 3) (eV 6))) zB))
def VM:RS:=oC (AH (UC EC (e2 rA (eV 2) (eC (.int 1))))) (DA 5) UM
def rJ:RS:=uD (Wm (e2 lB (e2 rA (eV 2) (eC (.int 0))) (eC (.str "one")))) (jA (CA 3 (NE eA)) (jA (oC (nC (eV 1)) (DA 4) VM) (CA 1 (eV 3)))) zB
def fW:RE:=eV 0
def qQ:RT:=Wm (e2 lB (e2 vG (e2 pI (e2 rA (eV 1) (eC (.int 0))) (eV 0)) (eC (.int 1))) (eC (.int 1)))
def vQ:RS:=jA (CA 1 (NE (bA (eC (.int 8191)) eA))) (jA (oC (nC (eV 0)) (DA 2) qJ) (jA (oC (nC (eV 0)) (DA 2) rJ) (FA (UC gG (TD (AH (eC (.int 13))) (DA 0) qQ fW [none,some 1])))))
def fN:IB:=cC 1 9 vQ
abbrev mQ:Stmt:=top 63
def pQ:RS:=jA (CA 1 (zA DG [] (bA (eC (.int 2)) (bA (zA RK [] (bA (eV 0) eA)) (bA (eC (.int 60)) eA))))) (jA (uD (WF (sF (Wm (zA bH [] (bA (eV 1) (bA (eC (.int 60)) eA))))) (WF (Wm (e2 zE (e2 rA (eV 1) (eC (.int 0))) (eC (.str "laid")))) (sF (Wm (zA vJ [] (bA (e2 rA (eV 1) (eC (.int 1))) (bA (eC (.int 2)) eA))))))) (FA (eC (.bl false))) zB) (FA (e2 lB (zA EJ [] (bA (e2 rA (e2 rA (eV 1) (eC (.int 1))) (eC (.int 0))) (bA (e2 rA (e2 rA (eV 1) (eC (.int 1))) (eC (.int 1))) eA))) (zA fN [] (bA (zA RK [] (bA (eV 0) eA)) eA)))))
def RM:IB:=cC 1 2 pQ
abbrev wV:Stmt:=top 64
def xO:RS:=uD (sF (Wm (zA (wI 3) [] (bA (eV 8) (bA (e2 rA (eV 7) (eC (.int 1))) (bA (e2 XB (e2 gC (eC (.int 2)) (eV 1)) (eC (.int 1))) eA)))))) (FA (eC (.bl false))) zB
def TL:RS:=jA (CA 1 (e2 XB (eC (.int 2)) (e2 YC (zA sJ [] (bA (eV 0) (bA (eC (.int 0)) eA))) (eC (.int 3))))) (jA (CA 2 (e2 XB (eC (.int 1)) (e2 YC (zA sJ [] (bA (eV 0) (bA (eC (.int 5)) eA))) (e2 dQ (eC (.int 10)) (eC (.int 14)))))) (jA (CA 3 (zA UK [] (bA (eV 0) (bA (eV 1) (bA (eV 2) eA))))) (jA (CA 4 (zA xJ [] (bA (eV 0) (bA (eV 3) (bA (eV 2) (bA (eC (.int 2)) eA)))))) (jA (CA 5 (zA xJ [] (bA (eV 0) (bA (eV 3) (bA (eV 2) (bA (eC (.int 2)) eA)))))) (jA (CA 6 (e2 rA (fG (bA (eC (.int 6)) (bA (eC (.int 6)) (bA (eC (.int 2)) eA)))) (e2 AE (eV 1) (eC (.int 2))))) (jA (CA 7 (zA DG [] (bA (eV 1) (bA (eV 5) (bA (eV 6) eA))))) (jA (uD (WF (Wm (e2 WG (eV 5) (eV 4))) (WF (sF (Wm (zA bH [] (bA (eV 7) (bA (eV 6) eA))))) (Wm (e2 jG (e2 rA (eV 7) (eC (.int 0))) (eC (.str "clash")))))) (FA (eC (.bl false))) zB) (jA (uD (sF (Wm (zA RM [] (bA (eV 4) eA)))) (FA (eC (.bl false))) zB) (jA (uD (Wm (e2 jG (e2 rA (eV 7) (eC (.int 0))) (eC (.str "open")))) (FA (eC (.bl true))) zB) (jA (uD (sF (Wm (zA vJ [] (bA (e2 rA (eV 7) (eC (.int 1))) (bA (eV 1) eA))))) (FA (eC (.bl false))) zB) (jA (oC (nC (eV 4)) (DA 8) xO) (FA (eC (.bl true))))))))))))))
def UI:IB:=cC 1 9 TL
structure Ad(K:Frag)(mg:Str->Option Value):Prop where
 zdq:iB K mg "zones" WT ["way"]
 zdh:iB K mg "ways_in" ZS ["mask"]
 zdk:iB K mg "set_of" kT ["ways"]
 zdl:iB K mg "turned" lT ["mask"]
 zcJ:iB K mg "chained_sets" JQ ["one", "other"]
 zdc:iB K mg "wide_row" ES ["count", "i"]
 zds:iB K mg "wide" SU ["count"]
 zda:iB K mg "pairs_of" CS ["count"]
 zc9:iB K mg "narrowed" BS ["net", "i", "mask", "j"]
 zde:iB K mg "left_by" WS ["net", "three"]
 zdg:iB K mg "narrows" YS ["net", "three"]
 zdf:iB K mg "made_of" XS ["net", "three"]
 zc8:iB K mg "is_empty" AS ["net"]
 zcO:iB K mg "threes_along" OQ ["pair", "count"]
 zcM:iB K mg "rounded_from" MQ ["net", "pairs"]
 zc3:iB K mg "first_net" BR ["count", "facts"]
 zcR:iB K mg "lengths_in" UR ["facts"]
 zc4:iB K mg "groups_in" DR ["facts"]
 zcY:iB K mg "only_member" xR ["net", "group", "chosen"]
 zcB:iB K mg "first_loose_pair" nQ ["net"]
 zdb:iB K mg "split_of" DS ["net", "groups"]
 zdn:iB K mg "grain" uU ["count"]
 zcH:iB K mg "length_bounds" QQ ["length", "one"]
 zcL:iB K mg "point_bounds" LQ ["p", "q", "at", "seen"]
 zcS:iB K mg "set_bounds" VR ["i", "mask", "j"]
 zdj:iB K mg "bounds" jT ["net", "lengths"]
 zcK:iB K mg "least_bounds" KQ ["found"]
 zdo:iB K mg "moved" vU ["least", "times", "causes"]
 zcZ:iB K mg "ring_behind" yR ["point", "causes"]
 zdp:iB K mg "timed" VT ["points", "bounds"]
 zdi:xU K mg "Search" "Search.__init__" GQ ["self", "lengths", "most"]
 zca:KL K "Search" "look" "Search.look" uR ["self", "net", "pairs", "groups"]
 zcz:KL K "Search" "look_at_branches" "Search.look_at_branches" lQ ["self", "split", "steps", "groups"]
 zcN:iB K mg "stretches_at" NQ ["times"]
 zc5:oM K mg "planned" TN ["count", "facts", "most"] []
 zcI:iB K mg "_law_cell_at" IQ ["_law_script", "_law_k"]
 zcP:iB K mg "_law_whole" SR ["_law_found"]
 zcU:iB K mg "_law_mixed" PR ["_law_cell", "_law_factor"]
 zcQ:iB K mg "_law_zones" TR []
 zc2:iB K mg "_law_zone" AR ["_law_at", "_law_other"]
 zc7:iB K mg "_law_way" zS ["_law_one", "_law_other"]
 zcV:iB K mg "_law_spans" QR ["_law_script", "_law_count", "_law_scale"]
 zcG:iB K mg "_law_true_set" PQ ["_law_number", "_law_way_here"]
 zcD:iB K mg "_law_true_ways" CQ ["_law_number", "_law_spans_here", "_law_so"]
 zcF:iB K mg "_law_true_group" HQ ["_law_number", "_law_spans_here"]
 zcC:iB K mg "_law_true_long" BQ ["_law_number", "_law_spans_here", "_law_scale"]
 zcT:iB K mg "_law_facts" MR ["_law_script", "_law_spans_here", "_law_scale", "_law_most"]
 zb8:iB K mg "_law_keeps" NR ["_law_fact", "_law_spans_here", "_law_unit"]
 zc0:iB K mg "_law_plan" LR ["_law_found", "_law_count"]
 zc1:iB K mg "_law_told" zR ["_law_found", "_law_most"]
 zcX:iB K mg "_law_turned" wR ["_law_mask"]
 zcW:iB K mg "_law_of_two" vR ["_law_facts_here"]
 zc6:iB K mg "_law_set" yS ["_law_fact"]
 zcE:iB K mg "_law_first_way" AQ ["_law_facts_here"]
 zcA:iB K mg "_law_least_first" mQ ["_law_facts_here"]
 zb7:RJ K "Search" "lengths"
 zb9:RJ K "Search" "most"
 zbb:RJ K "Search" "made"
 zdu:mg "all" =none
 zdv:mg "any" =none
 zdt:mg "bool" =none
 zcb:mg "enumerate" =none
 zbG:mg "int" =none
 zbc:mg "isinstance" =none
 Jp:mg "len" =none
 zbd:mg "list" =none
 zbH:mg "max" =none
 zaV:mg "min" =none
 Xp:mg "range" =none
 zdw:mg "sum" =none
 zcc:mg "tuple" =none
 zbF:jK K mg "ALL" UL
 zdm:jK K mg "ZONES" QT
 zdd:jK K mg "CHAINED" rS
 zdr:jK K mg "SAME" wU
section
variable{P:Program}{w:World}{K:Frag}{mg:Str->Option Value}
theorem Xw:SA ["way"] ["way"] (BA WT):=fB
theorem Xq:SA ["mask"] ["mask"] (BA ZS):=fB
theorem Vv:SA ["ways"] ["ways"] (BA kT):=fB
theorem Wv:SA ["mask"] ["mask"] (BA lT):=fB
theorem GB:SA ["one", "other", "seconds", "reached", "first", "second"] ["one", "other"] (BA JQ):=fB
theorem qj:SA ["count", "i"] ["count", "i"] (BA ES):=fB
theorem Kg:SA ["count"] ["count"] (BA SU):=fB
theorem OD:SA ["count", "found", "i", "j"] ["count"] (BA CS):=fB
theorem UF:SA ["net", "i", "mask", "j", "made"] ["net", "i", "mask", "j"] (BA BS):=fB
theorem kF:SA ["net", "three", "first", "second"] ["net", "three"] (BA WS):=fB
theorem Wq:SA ["net", "three"] ["net", "three"] (BA YS):=fB
theorem Vq:SA ["net", "three"] ["net", "three"] (BA XS):=fB
theorem nj:SA ["net"] ["net"] (BA AS):=fB
theorem fD:SA ["pair", "count", "found", "other"] ["pair", "count"] (BA OQ):=fB
theorem sB:SA ["net", "pairs", "steps", "end", "waiting", "pair", "three"] ["net", "pairs"] (BA MQ):=fB
theorem vD:SA ["count", "facts", "net", "fact"] ["count", "facts"] (BA BR):=fB
theorem A9:SA ["facts"] ["facts"] (BA UR):=fB
theorem Bj:SA ["facts"] ["facts"] (BA DR):=fB
theorem JC:SA ["net", "group", "chosen", "place", "member", "mask"] ["net", "group", "chosen"] (BA xR):=fB
theorem qD:SA ["net", "pair"] ["net"] (BA nQ):=fB
theorem DC:SA ["net", "groups", "group", "nets", "pair", "mask"] ["net", "groups"] (BA DS):=fB
theorem Ww:SA ["count"] ["count"] (BA uU):=fB
theorem bE:SA ["length", "one", "start"] ["length", "one"] (BA QQ):=fB
theorem pE:SA ["p", "q", "at", "seen", "found"] ["p", "q", "at", "seen"] (BA LQ):=fB
theorem XC:SA ["i", "mask", "j", "found", "side", "seen"] ["i", "mask", "j"] (BA VR):=fB
theorem ME:SA ["net", "lengths", "found", "length", "pair"] ["net", "lengths"] (BA jT):=fB
theorem wC:SA ["found", "least", "bound", "pair"] ["found"] (BA KQ):=fB
theorem yF:SA ["least", "times", "causes", "last", "pair", "most"] ["least", "times", "causes"] (BA vU):=fB
theorem KC:SA ["point", "causes", "step", "ring"] ["point", "causes"] (BA yR):=fB
theorem BD:SA ["points", "bounds", "least", "times", "causes", "turn", "last", "first"] ["points", "bounds"] (BA VT):=fB
theorem N8:SA ["self", "lengths", "most"] ["self", "lengths", "most"] (BA GQ):=fB
theorem i9:SA ["times"] ["times"] (BA NQ):=fB
theorem bB:SA ["self", "split", "steps", "groups", "branches", "net", "told"] ["self", "split", "steps", "groups"] (BA lQ):=fB
theorem TB:SA ["self", "net", "pairs", "groups", "gone_round", "end", "steps", "laid", "split"] ["self", "net", "pairs", "groups"] (BA uR):=fB
theorem lF:SA ["count", "facts", "most", "search", "told"] ["count", "facts", "most"] (BA TN):=fB
theorem h9:SA ["_law_script", "_law_k"] ["_law_script", "_law_k"] (BA IQ):=fB
theorem y9:SA ["_law_found"] ["_law_found"] (BA SR):=fB
theorem x9:SA ["_law_cell", "_law_factor"] ["_law_cell", "_law_factor"] (BA PR):=fB
theorem gF:SA ["_law_low"] [] (BA TR):=fB
theorem Aj:SA ["_law_at", "_law_other"] ["_law_at", "_law_other"] (BA AR):=fB
theorem mj:SA ["_law_one", "_law_other"] ["_law_one", "_law_other"] (BA zS):=fB
theorem qC:SA ["_law_script", "_law_count", "_law_scale", "_law_made", "_law_k", "_law_number", "_law_start"] ["_law_script", "_law_count", "_law_scale"] (BA QR):=fB
theorem lC:SA ["_law_number", "_law_way_here", "_law_mask"] ["_law_number", "_law_way_here"] (BA PQ):=fB
theorem pB:SA ["_law_number", "_law_spans_here", "_law_so", "_law_i", "_law_j", "_law_way_here", "_law_mask"] ["_law_number", "_law_spans_here", "_law_so"] (BA CQ):=fB
theorem AB:SA ["_law_number", "_law_spans_here", "_law_many", "_law_chosen", "_law_found", "_law_k"] ["_law_number", "_law_spans_here"] (BA HQ):=fB
theorem bC:SA ["_law_number", "_law_spans_here", "_law_scale", "_law_i", "_law_size", "_law_low"] ["_law_number", "_law_spans_here", "_law_scale"] (BA BQ):=fB
theorem LB:SA ["_law_script", "_law_spans_here", "_law_scale", "_law_most", "_law_found", "_law_groups", "_law_cell", "_law_number", "_law_kind"] ["_law_script", "_law_spans_here", "_law_scale", "_law_most"] (BA MR):=fB
theorem fF:SA ["_law_fact", "_law_spans_here", "_law_unit", "_law_size"] ["_law_fact", "_law_spans_here", "_law_unit"] (BA NR):=fB
theorem xF:SA ["_law_found", "_law_count", "_law_one"] ["_law_found", "_law_count"] (BA LR):=fB
theorem zj:SA ["_law_found", "_law_most"] ["_law_found", "_law_most"] (BA zR):=fB
theorem IC:SA ["_law_mask", "_law_found", "_law_way_here"] ["_law_mask"] (BA wR):=fB
theorem AD:SA ["_law_facts_here", "_law_found", "_law_fact"] ["_law_facts_here"] (BA vR):=fB
theorem kj:SA ["_law_fact"] ["_law_fact"] (BA yS):=fB
theorem EA:SA ["_law_facts_here", "_law_left", "_law_fact", "_law_more", "_law_mask", "_law_chosen", "_law_made", "_law_k", "_law_one"] ["_law_facts_here"] (BA AQ):=fB
theorem pD:SA ["_law_facts_here", "_law_found"] ["_law_facts_here"] (BA mQ):=fB
theorem iE:SA ["_law_script", "_law_count", "_law_scale", "_law_spans_here", "_law_facts_here", "_law_handed", "_law_most", "_law_found", "_law_fact"] ["_law_script"] (BA wV):=fB
variable(T:Ad K mg)(b:Heap)
include T
theorem Pq:OC P w K mg b 1 1 "zones" ST:=
 vB (k:=0) (body:=GY) T.zdq Xw rfl rfl fun Z Z Z Z Z Z Z hr=>qA (HA (fA (SJ rfl T.zdm) (aA 0)))
theorem wJ:OC P w K mg b 1 1 "ways_in" iH:=
 vB (k:=0) (body:=qS) T.zdh Xq rfl rfl fun Z Z Z Z Z Z Z hr=>qA (HA (NF (Nc:=["way", "mask"]) rfl (CF rfl T.Xp dA) (by decide +kernel) rfl (by decide +kernel) (by rfl) (by exact⟨⟨rfl,.inl rfl,.inl rfl,rfl⟩,trivial⟩) (fun Z Z Z Z=>CB 0 (show(["way", "mask"]:List Str).Nodup by decide +kernel)) (fun Z Z Z Z=>JO (oB (vC hr.units) (uA mH (uA MO (aA 1) (aA 0)) dA) dA)) (fun Z Z Z Z=>aA 0)))
theorem Lj:OC P w K mg b 1 1 "set_of" iO:=
 vB (k:=0) (body:=uT) T.zdk Vv rfl rfl fun Z Z Z Z Z Z Z hr=>qA (HA (ur rfl rfl T.zdw (NF (Nc:=["way"]) rfl (GC (aA 0)) (by decide +kernel) rfl (by decide +kernel) (by rfl) (by exact trivial) (fun Z Z Z Z=>CB 0 (show(["way"]:List Str).Nodup by decide +kernel)) (fun Z Z Z Z=>YE) (fun Z Z Z Z=>uA MI dA (aA 0)))))
theorem Mj:OC P w K mg b 2 1 "turned" jO:=
 vB (k:=1) (body:=vT) T.zdl Wv rfl rfl fun Z Z Z Z Z Z Z hr=>qA (HA (MA (Lj T b) hr (cA (NF (Nc:=["way"]) rfl (GC (MA (wJ T b) hr (cA (aA 0) gA))) (by decide +kernel) rfl (by decide +kernel) (by rfl) (by exact trivial) (fun Z Z Z Z=>CB 0 (show(["way"]:List Str).Nodup by decide +kernel)) (fun Z Z Z Z=>YE) (fun Z Z Z Z=>uA EF dA (aA 0))) gA)))
theorem V8:OC P w K mg b 2 2 "chained_sets" rN:=
 vB (k:=1) (body:=SQ) T.zcJ GB rfl rfl fun Z Z Z Z Z Z Z hr=>kA (IA 2 GB.nd (MA (wJ T b) hr (cA (aA 1) gA))) (kA (IA 3 GB.nd dA) (kA (NC PassesOwn.never rfl (GC (MA (wJ T b) hr (cA (aA 0) gA))) (CB 4 GB.nd) (qA (NC PassesOwn.never rfl (GC (aA 2)) (CB 5 GB.nd) (qA (IA 3 GB.nd (uA IZ (aA 3) (fA (fA (SJ rfl T.zdd) (aA 4)) (aA 5)))))))) (qA (HA (aA 3)))))
theorem M9:OC P w K mg b 1 2 "wide_row" HN:=
 vB (k:=0) (body:=iS) T.zdc qj rfl rfl fun Z Z Z Z Z Z Z hr=>qA (HA (uA Tg (uA JZ (WZ (SJ rfl T.zbF) (aA 1)) (qH (cA (SJ rfl T.zdr) gA))) (WZ (SJ rfl T.zbF) (uA EF (uA EF (aA 0) (aA 1)) dA))))
theorem Yz:OC P w K mg b 2 1 "wide" LO:=
 vB (k:=1) (body:=zU) T.zds Kg rfl rfl fun Z Z Z Z Z Z Z hr=>qA (HA (Nz (Nc:=["i", "count"]) rfl (CF rfl T.Xp (aA 0)) (by decide +kernel) rfl (by decide +kernel) (by rfl) (by exact⟨⟨rfl,.inl rfl,.inl rfl,rfl⟩,trivial⟩) (fun Z Z Z Z=>CB 0 (show(["i", "count"]:List Str).Nodup by decide +kernel)) (fun Z Z Z Z=>YE) (fun Z Z Z Z=>MA (M9 T b) hr (cA (aA 1) (cA (aA 0) gA)))))
theorem oR:OC P w K mg b 1 1 "pairs_of" BI:=
 vB (k:=0) (body:=fS) T.zda OD rfl rfl fun Z Z Z Z Z Z Z hr=>kA (IA 1 OD.nd (DF gA)) (kA (NC PassesOwn.never rfl (CF rfl T.Xp (aA 0)) (CB 2 OD.nd) (qA (NC PassesOwn.never rfl (yx rfl T.Xp (uA HC (aA 2) dA) (aA 0)) (CB 3 OD.nd) (qA (SD (DE (aA 1) (xB (cA (aA 2) (cA (aA 3) gA))))))))) (qA (HA (aA 1))))
theorem mN:OC P w K mg b 3 4 "narrowed" AI:=
 vB (k:=2) (body:=eS) T.zc9 UF rfl rfl fun Z Z Z Z Z Z Z hr=>kA (ER (Nc:=["row"]) 4 rfl UF.nd (GC (aA 0)) (by decide +kernel) rfl (by decide +kernel) (by rfl) (by exact trivial) (fun Z Z Z Z=>CB 0 (show(["row"]:List Str).Nodup by decide +kernel)) (fun Z Z Z Z=>YE) (fun Z Z Z Z=>ON rfl T.zbd (aA 0)) (by rfl)) (kA (DL (uA mH (fA (fA (aA 0) (aA 1)) (aA 3)) (aA 2)) (fA (aA 4) (aA 1)) (aA 3)) (kA (DL (MA (Mj T b) hr (cA (fA (fA (aA 4) (aA 1)) (aA 3)) gA)) (fA (aA 4) (aA 3)) (aA 1)) (qA (HA (aA 4)))))
theorem EW:OC P w K mg b 3 2 "left_by" qL:=
 vB (k:=2) (body:=lS) T.zde kF rfl rfl fun Z Z Z Z Z Z Z hr=>kA (IA 2 kF.nd (fA (fA (aA 0) (fA (aA 1) dA)) (fA (aA 1) dA))) (kA (IA 3 kF.nd (fA (fA (aA 0) (fA (aA 1) dA)) (fA (aA 1) dA))) (qA (HA (uA mH (fA (fA (aA 0) (fA (aA 1) dA)) (fA (aA 1) dA)) (MA (V8 T b) hr (cA (aA 2) (cA (aA 3) gA)))))))
theorem V9:OC P w K mg b 4 2 "narrows" ZN:=
 vB (k:=3) (body:=oS) T.zdg Wq rfl rfl fun Z Z Z Z Z Z Z hr=>qA (HA (oF (UH hr.units) (MA (EW T b) hr (cA (aA 0) (cA (aA 1) gA))) (fA (fA (aA 0) (fA (aA 1) dA)) (fA (aA 1) dA))))
theorem U9:OC P w K mg b 4 2 "made_of" YN:=
 vB (k:=3) (body:=mS) T.zdf Vq rfl rfl fun Z Z Z Z Z Z Z hr=>qA (HA (MA (mN T b) hr (cA (aA 0) (cA (fA (aA 1) dA) (cA (MA (EW T b) hr (cA (aA 0) (cA (aA 1) gA))) (cA (fA (aA 1) dA) gA))))))
theorem K9:OC P w K mg b 1 1 "is_empty" DN:=
 vB (k:=0) (body:=dS) T.zc8 nj rfl rfl fun Z Z Z Z Z Z Z hr=>qA (HA (Wf rfl rfl T.zdv (NF (Nc:=["row"]) rfl (GC (aA 0)) (by decide +kernel) rfl (by decide +kernel) (by rfl) (by exact trivial) (fun Z Z Z Z=>CB 0 (show(["row"]:List Str).Nodup by decide +kernel)) (fun Z Z Z Z=>YE) (fun Z Z Z Z=>oF P1 dA (aA 0)))))
theorem Z8:OC P w K mg b 1 2 "threes_along" tN:=
 vB (k:=0) (body:=VQ) T.zcO fD rfl rfl fun Z Z Z Z Z Z Z hr=>kA (IA 2 fD.nd (DF gA)) (kA (NC PassesOwn.never rfl (CF rfl T.Xp (aA 1)) (CB 3 fD.nd) (qA (FB (oB Dw (aA 3) (aA 0)) (kA (SD (DE (aA 2) (xB (cA (fA (aA 0) dA) (cA (fA (aA 0) dA) (cA (aA 3) gA)))))) (qA (SD (DE (aA 2) (xB (cA (fA (aA 0) dA) (cA (fA (aA 0) dA) (cA (aA 3) gA)))))))) MB))) (qA (HA (aA 2))))
theorem X8:OC P w K mg b 5 2 "rounded_from" uJ:=
 vB (k:=4) (body:=qN) T.zcM sB rfl rfl fun Z Z Z Z Z Z Z hr=>kA (IA 2 sB.nd (DF gA)) (kA (FB (bF (MA (K9 T b) hr (cA (aA 0) gA))) (qA (HA (xB (cA ZF (cA (aA 2) gA))))) MB) (kA (ER (Nc:=["row"]) 3 rfl sB.nd (GC (aA 0)) (by decide +kernel) rfl (by decide +kernel) (by rfl) (by exact trivial) (fun Z Z Z Z=>CB 0 (show(["row"]:List Str).Nodup by decide +kernel)) (fun Z Z Z Z=>YE) (fun Z Z Z Z=>ON rfl T.zbd (aA 0)) (by rfl)) (kA (IA 4 sB.nd (ON rfl T.zbd (aA 1))) (kA (FY PassesOwn.never (oB (BU hr.units) (aA 4) (qH gA)) (kA (IA 5 sB.nd (Qz (aA 4) dA)) (qA (NC PassesOwn.never rfl (GC (MA (Z8 T b) hr (cA (aA 5) (cA (kE rfl T.Jp (aA 0)) gA)))) (CB 6 sB.nd) (qA (FB (bF (MA (V9 T b) hr (cA (aA 3) (cA (aA 6) gA)))) (kA (IA 3 sB.nd (MA (U9 T b) hr (cA (aA 3) (cA (aA 6) gA)))) (kA (SD (DE (aA 2) (aA 6))) (kA (FB (oB (AU hr.units) (fA (fA (aA 3) (fA (aA 6) dA)) (fA (aA 6) dA)) dA) (qA (HA (xB (cA ZF (cA (aA 2) gA))))) MB) (qA (SD (DE (aA 4) (xB (cA (fA (aA 6) dA) (cA (fA (aA 6) dA) gA))))))))) MB)))))) (qA (HA (xB (cA (aA 3) (cA (aA 2) gA)))))))))
theorem C9:OC P w K mg b 4 2 "first_net" bL:=
 vB (k:=3) (body:=HR) T.zc3 vD rfl rfl fun Z Z Z Z Z Z Z hr=>kA (IA 2 vD.nd (MA (Yz T b) hr (cA (aA 0) gA))) (kA (NC PassesOwn.never rfl (GC (aA 1)) (CB 3 vD.nd) (qA (FB (oB (vC hr.units) (fA (aA 3) dA) uC) (qA (IA 2 vD.nd (MA (mN T b) hr (cA (aA 2) (cA (fA (aA 3) dA) (cA (fA (aA 3) dA) (cA (fA (aA 3) dA) gA))))))) MB))) (qA (HA (aA 2))))
theorem l9:OC P w K mg b 1 1 "lengths_in" kN:=
 vB (k:=0) (body:=gR) T.zcR A9 rfl rfl fun Z Z Z Z Z Z Z hr=>qA (HA (NF (Nc:=["fact"]) rfl (GC (aA 0)) (by decide +kernel) rfl (by decide +kernel) (by rfl) (by exact trivial) (fun Z Z Z Z=>CB 0 (show(["fact"]:List Str).Nodup by decide +kernel)) (fun Z Z Z Z=>JO (oB (vC hr.units) (fA (aA 0) dA) uC)) (fun Z Z Z Z=>xB (cA (fA (aA 0) dA) (cA (fA (aA 0) dA) (cA (fA (aA 0) dA) gA))))))
theorem D9:OC P w K mg b 1 1 "groups_in" cL:=
 vB (k:=0) (body:=IR) T.zc4 Bj rfl rfl fun Z Z Z Z Z Z Z hr=>qA (HA (NF (Nc:=["fact"]) rfl (GC (aA 0)) (by decide +kernel) rfl (by decide +kernel) (by rfl) (by exact trivial) (fun Z Z Z Z=>CB 0 (show(["fact"]:List Str).Nodup by decide +kernel)) (fun Z Z Z Z=>JO (oB (vC hr.units) (fA (aA 0) dA) uC)) (fun Z Z Z Z=>fA (aA 0) dA)))
theorem T8:OC P w K mg b 4 3 "only_member" nN:=
 vB (k:=3) (body:=rR) T.zcY JC rfl rfl fun Z Z Z Z Z Z Z hr=>kA (NC PassesOwn.never rfl (lZ rfl T.zcb (aA 1)) (EU 3 4 rfl JC.nd) (kA (IA 5 JC.nd (kP (oB (vC hr.units) (aA 3) (aA 2)) (fA (aA 4) dA) (uA mH (SJ rfl T.zbF) (Xf (fA (aA 4) dA))))) (qA (IA 0 JC.nd (MA (mN T b) hr (cA (aA 0) (cA (fA (aA 4) dA) (cA (aA 5) (cA (fA (aA 4) dA) gA))))))))) (qA (HA (aA 0)))
theorem J8:OC P w K mg b 2 1 "first_loose_pair" GK:=
 vB (k:=1) (body:=QM) T.zcB qD rfl rfl fun Z Z Z Z Z Z Z hr=>kA (NC PassesOwn.never rfl (GC (MA (oR T b) hr (cA (kE rfl T.Jp (aA 0)) gA))) (CB 1 qD.nd) (qA (FB (oB rP (kE rfl T.Jp (MA (wJ T b) hr (cA (fA (fA (aA 0) (fA (aA 1) dA)) (fA (aA 1) dA)) gA))) dA) (qA (HA (aA 1))) MB))) (qA (HA ZF))
theorem L9:OC P w K mg b 5 2 "split_of" NH:=
 vB (k:=4) (body:=ZK) T.zdb DC rfl rfl fun Z Z Z Z Z Z Z hr=>kA (FB (oB (BU hr.units) (aA 1) (qH gA)) (kA (IA 2 DC.nd (fA (aA 1) dA)) (kA (GS (Nc:=["chosen", "net", "group"]) 3 rfl DC.nd (CF rfl T.Xp (kE rfl T.Jp (aA 2))) (by decide +kernel) rfl (by decide +kernel) (by rfl) (by exact⟨⟨rfl,.inl rfl,.inl rfl,rfl⟩,⟨⟨rfl,.inl rfl,.inl rfl,rfl⟩,trivial⟩⟩) (fun Z Z Z Z=>CB 0 (show(["chosen", "net", "group"]:List Str).Nodup by decide +kernel)) (fun Z Z Z Z=>YE) (fun Z Z Z Z=>MA (T8 T b) hr (cA (aA 1) (cA (aA 2) (cA (aA 0) gA)))) (by rfl)) (qA (HA (xB (cA uC (cA (xB gA) (cA (aA 3) (cA (NF (Nc:=["member"]) rfl (GC (aA 2)) (by decide +kernel) rfl (by decide +kernel) (by rfl) (by exact trivial) (fun Z Z Z Z=>CB 0 (show(["member"]:List Str).Nodup by decide +kernel)) (fun Z Z Z Z=>YE) (fun Z Z Z Z=>xB (cA (fA (aA 0) dA) (cA (fA (aA 0) dA) gA)))) gA))))))))) MB) (kA (IA 4 DC.nd (MA (J8 T b) hr (cA (aA 0) gA))) (kA (FB (oB QL (aA 4) ZF) (qA (HA ZF)) MB) (kA (IA 5 DC.nd (fA (fA (aA 0) (fA (aA 4) dA)) (fA (aA 4) dA))) (kA (GS (Nc:=["way", "net", "pair"]) 3 rfl DC.nd (GC (MA (wJ T b) hr (cA (aA 5) gA))) (by decide +kernel) rfl (by decide +kernel) (by rfl) (by exact⟨⟨rfl,.inl rfl,.inl rfl,rfl⟩,⟨⟨rfl,.inl rfl,.inl rfl,rfl⟩,trivial⟩⟩) (fun Z Z Z Z=>CB 0 (show(["way", "net", "pair"]:List Str).Nodup by decide +kernel)) (fun Z Z Z Z=>YE) (fun Z Z Z Z=>MA (mN T b) hr (cA (aA 1) (cA (fA (aA 2) dA) (cA (uA MI dA (aA 0)) (cA (fA (aA 2) dA) gA))))) (by rfl)) (qA (HA (xB (cA uC (cA (aA 4) (cA (aA 3) (cA (qH (cA (aA 4) gA)) gA)))))))))))
theorem Mq:OC P w K mg b 1 1 "grain" vL:=
 vB (k:=0) (body:=NT) T.zdn Ww rfl rfl fun Z Z Z Z Z Z Z hr=>qA (HA (uA HC (uA xD dA (aA 0)) dA))
theorem P8:OC P w K mg b 1 2 "length_bounds" OK:=
 vB (k:=0) (body:=DQ) T.zcH bE rfl rfl fun Z Z Z Z Z Z Z hr=>kA (IA 2 bE.nd (uA xD dA (fA (aA 0) dA))) (qA (HA (DF (cA (xB (cA (aA 2) (cA (uA HC (aA 2) dA) (cA (uA xD (TJ (fA (aA 0) dA)) (aA 1)) gA)))) (cA (xB (cA (uA HC (aA 2) dA) (cA (aA 2) (cA (uA xD (fA (aA 0) dA) (aA 1)) gA)))) gA)))))
theorem jW:OC P w K mg b 1 4 "point_bounds" tI:=
 vB (k:=0) (body:=TQ) T.zcL pE rfl rfl fun Z Z Z Z Z Z Z hr=>kA (IA 4 pE.nd (DF gA)) (kA (FB (oB eK (VZ rfl rfl T.zbH (aA 3)) (aA 2)) (qA (SD (DE (aA 4) (xB (cA (aA 0) (cA (aA 1) (cA (kP (oB sP (VZ rfl rfl T.zbH (aA 3)) (aA 2)) (TJ dA) dA) gA))))))) MB) (kA (FB (oB sV (ZO rfl rfl T.zaV (aA 3)) (aA 2)) (qA (SD (DE (aA 4) (xB (cA (aA 1) (cA (aA 0) (cA (kP (oB rP (ZO rfl rfl T.zaV (aA 3)) (aA 2)) (TJ dA) dA) gA))))))) MB) (qA (HA (aA 4)))))
theorem m9:OC P w K mg b 2 3 "set_bounds" zJ:=
 vB (k:=1) (body:=iR) T.zcS XC rfl rfl fun Z Z Z Z Z Z Z hr=>kA (IA 3 XC.nd (DF gA)) (kA (NC PassesOwn.never rfl (CF rfl T.Xp dA) (CB 4 XC.nd) (kA (GS (Nc:=["way", "side"]) 5 rfl XC.nd (GC (MA (wJ T b) hr (cA (aA 1) gA))) (by decide +kernel) rfl (by decide +kernel) (by rfl) (by exact⟨⟨rfl,.inl rfl,.inl rfl,rfl⟩,trivial⟩) (fun Z Z Z Z=>CB 0 (show(["way", "side"]:List Str).Nodup by decide +kernel)) (fun Z Z Z Z=>YE) (fun Z Z Z Z=>fA (MA (Pq T b) hr (cA (aA 0) gA)) (aA 1)) (by rfl)) (kA (SD (bO (aA 3) (MA (jW T b) hr (cA (uA HC (uA xD dA (aA 0)) (aA 4)) (cA (uA xD dA (aA 2)) (cA dA (cA (aA 5) gA))))))) (qA (SD (bO (aA 3) (MA (jW T b) hr (cA (uA HC (uA xD dA (aA 0)) (aA 4)) (cA (uA HC (uA xD dA (aA 2)) dA) (cA dA (cA (aA 5) gA))))))))))) (qA (HA (aA 3))))
theorem Jj:OC P w K mg b 3 2 "bounds" gO:=
 vB (k:=2) (body:=tT) T.zdj ME rfl rfl fun Z Z Z Z Z Z Z hr=>kA (ER (Nc:=["i"]) 2 rfl ME.nd (CF rfl T.Xp (kE rfl T.Jp (aA 0))) (by decide +kernel) rfl (by decide +kernel) (by rfl) (by exact trivial) (fun Z Z Z Z=>CB 0 (show(["i"]:List Str).Nodup by decide +kernel)) (fun Z Z Z Z=>YE) (fun Z Z Z Z=>xB (cA (uA xD dA (aA 0)) (cA (uA HC (uA xD dA (aA 0)) dA) (cA (TJ dA) gA)))) (by rfl)) (kA (NC PassesOwn.never rfl (GC (aA 1)) (CB 3 ME.nd) (qA (SD (bO (aA 2) (MA (P8 T b) hr (cA (aA 3) (cA (MA (Mq T b) hr (cA (kE rfl T.Jp (aA 0)) gA)) gA))))))) (kA (NC PassesOwn.never rfl (GC (MA (oR T b) hr (cA (kE rfl T.Jp (aA 0)) gA))) (CB 4 ME.nd) (qA (SD (bO (aA 2) (MA (m9 T b) hr (cA (fA (aA 4) dA) (cA (fA (fA (aA 0) (fA (aA 4) dA)) (fA (aA 4) dA)) (cA (fA (aA 4) dA) gA)))))))) (qA (HA (aA 2)))))
theorem W8:OC P w K mg b 1 1 "least_bounds" tJ:=
 vB (k:=0) (body:=YM) T.zcK wC rfl rfl fun Z Z Z Z Z Z Z hr=>kA (IA 1 wC.nd Dy) (kA (NC PassesOwn.never rfl (GC (aA 0)) (CB 2 wC.nd) (kA (IA 3 wC.nd (jr (cA (fA (aA 2) dA) (cA (fA (aA 2) dA) gA)))) (qA (Bf hr.units (Hy rfl rfl T.zaV (Oz hr.units (aA 1) (aA 3) (fA (aA 2) dA)) (fA (aA 2) dA)) (aA 1) (aA 3))))) (qA (HA (aA 1))))
theorem Nq:OC P w K mg b 1 3 "moved" NJ:=
 vB (k:=0) (body:=OT) T.zdo yF rfl rfl fun Z Z Z Z Z Z Z hr=>kA (IA 3 yF.nd ZF) (kA (NC PassesOwn.never rfl (Ek (aA 0)) (EU 4 5 rfl yF.nd) (qA (FB (oB rP (fA (aA 1) (fA (aA 4) dA)) (uA HC (fA (aA 1) (fA (aA 4) dA)) (aA 5))) (kA (DL (uA HC (fA (aA 1) (fA (aA 4) dA)) (aA 5)) (aA 1) (fA (aA 4) dA)) (kA (DL (fA (aA 4) dA) (aA 2) (fA (aA 4) dA)) (qA (IA 3 yF.nd (fA (aA 4) dA))))) MB))) (qA (HA (aA 3))))
theorem U8:OC P w K mg b 1 2 "ring_behind" oN:=
 vB (k:=0) (body:=sR) T.zcZ KC rfl rfl fun Z Z Z Z Z Z Z hr=>kA (NC PassesOwn.never rfl (CF rfl T.Xp (kE rfl T.Jp (aA 1))) (CB 2 KC.nd) (qA (IA 0 KC.nd (fA (aA 1) (aA 0))))) (kA (IA 3 KC.nd (DF (cA (aA 0) (cA (fA (aA 1) (aA 0)) gA)))) (kA (FY PassesOwn.never (oB (UH hr.units) (fA (aA 3) (TJ dA)) (aA 0)) (qA (SD (DE (aA 3) (fA (aA 1) (fA (aA 3) (TJ dA))))))) (qA (HA (aA 3)))))
theorem Oq:OC P w K mg b 2 2 "timed" EG:=
 vB (k:=1) (body:=MJ) T.zdp BD rfl rfl fun Z Z Z Z Z Z Z hr=>kA (IA 2 BD.nd (MA (W8 T b) hr (cA (aA 1) gA))) (kA (IA 3 BD.nd (gZ dA (aA 0))) (kA (IA 4 BD.nd (gZ ZF (aA 0))) (kA (NC PassesOwn.never rfl (CF rfl T.Xp (uA HC (aA 0) dA)) (CB 5 BD.nd) (kA (IA 6 BD.nd (MA (Nq T b) hr (cA (aA 2) (cA (aA 3) (cA (aA 4) gA))))) (qA (FB (oB QL (aA 6) ZF) (kA (IA 7 BD.nd (Kh rfl rfl T.zaV (aA 3) dA)) (qA (HA (xB (cA uC (cA (NF (Nc:=["time", "first"]) rfl (GC (aA 3)) (by decide +kernel) rfl (by decide +kernel) (by rfl) (by exact⟨⟨rfl,.inl rfl,.inl rfl,rfl⟩,trivial⟩) (fun Z Z Z Z=>CB 0 (show(["time", "first"]:List Str).Nodup by decide +kernel)) (fun Z Z Z Z=>YE) (fun Z Z Z Z=>uA EF (aA 0) (aA 1))) gA)))))) MB)))) (qA (HA (xB (cA uC (cA (MA (U8 T b) hr (cA (aA 6) (cA (aA 4) gA))) gA))))))))
theorem dj:JP P w K mg b 1 3 "Search" PK:=
 by unfold PK;exact jt (k:=0) (body:=EQ) T.zdi N8 rfl rfl fun Z Z Z Z Z Z Z hr=>kA (UO T.zb7 (aA 0) (aA 1)) (kA (UO T.zb9 (aA 0) (aA 2)) (qA (UO T.zbb (aA 0) dA)))
theorem Y8:OC P w K mg b 1 1 "stretches_at" sN:=
 vB (k:=0) (body:=UQ) T.zcN i9 rfl rfl fun Z Z Z Z Z Z Z hr=>qA (HA (NF (Nc:=["start", "times"]) rfl (zx (c:=2) rfl T.Xp dA (kE rfl T.Jp (aA 0)) dA) (by decide +kernel) rfl (by decide +kernel) (by rfl) (by exact⟨⟨rfl,.inl rfl,.inl rfl,rfl⟩,trivial⟩) (fun Z Z Z Z=>CB 0 (show(["start", "times"]:List Str).Nodup by decide +kernel)) (fun Z Z Z Z=>YE) (fun Z Z Z Z=>xB (cA (fA (aA 1) (aA 0)) (cA (fA (aA 1) (uA HC (aA 0) dA)) gA)))))
theorem F8 {R:IB} {k:Nat} (hk:5<=k) (hR:wH P w K mg b k 4 "Search" "look" R):wH P w K mg b (k+1) 4 "Search" "look_at_branches" (KH R):=
 by unfold KH;exact qZ (k:=k) (body:=EK R) T.zcz bB rfl rfl fun Z Z Z Z Z Z Z hr=>kA (IA 4 bB.nd (DF gA)) (kA (NC PassesOwn.never rfl (GC (fA (aA 1) dA)) (CB 5 bB.nd) (kA (IA 6 bB.nd (bU hR hr (by omega) (aA 0) (cA (aA 5) (cA (fA (aA 1) dA) (cA (aA 3) gA))))) (kA (FB (oB (UH hr.units) (fA (aA 6) dA) uC) (qA (HA (aA 6))) MB) (qA (SD (DE (aA 4) (fA (aA 6) dA))))))) (qA (HA (xB (cA uC (cA (uA uZ (uA uZ (xB (cA (fA (aA 1) dA) (cA (aA 2) gA))) (fA (aA 1) dA)) (xB (cA (aA 4) gA))) gA))))))
theorem R8 {R:IB} {k:Nat} (hk:5<=k) (hR:wH P w K mg b k 4 "Search" "look" R):wH P w K mg b (k+2) 4 "Search" "look" (cC 4 9 (dH R)):=
 qZ (k:=k+1) (body:=dH R) T.zca TB rfl rfl fun Z Z Z Z Z Z Z hr=>kA (IA 4 TB.nd (RH (X8 T b) hr (by omega) rfl (cA (aA 1) (cA (aA 2) gA)))) (kA (IA 5 TB.nd (fA (aA 4) dA)) (kA (IA 6 TB.nd (fA (aA 4) dA)) (kA (FB (oB QL (aA 5) ZF) (qA (HA (xB (cA uC (cA (xB (cA uC (cA (aA 6) gA))) gA))))) MB) (kA (IA 7 TB.nd (RH (Oq T b) hr (by omega) rfl (cA (uA xD dA (kE rfl T.Jp (aA 5))) (cA (RH (Jj T b) hr (by omega) rfl (cA (aA 5) (cA (HL T.zb7 (aA 0)) gA))) gA)))) (kA (FB (oB (vC hr.units) (fA (aA 7) dA) uC) (qA (HA (xB (cA uC (cA (xB (cA uC (cA (aA 6) (cA (fA (aA 7) dA) gA)))) gA))))) MB) (kA (IA 8 TB.nd (RH (L9 T b) hr (by omega) rfl (cA (aA 5) (cA (aA 3) gA)))) (kA (FB (oB QL (aA 8) ZF) (qA (HA (xB (cA uC (cA (RH (Y8 T b) hr (by omega) rfl (cA (fA (aA 7) dA) gA)) gA))))) MB) (kA (FB (oB sV (HL T.zbb (aA 0)) (HL T.zb9 (aA 0))) (qA (HA (xB (cA uC (cA ZF gA))))) MB) (kA (UO T.zbb (aA 0) (uA HC (HL T.zbb (aA 0)) dA)) (qA (HA (bU (F8 T b hk hR) hr (by omega) (aA 0) (cA (aA 8) (cA (aA 6) (cA (yY (aA 3) (kU dA) Ug) gA)))))))))))))))
theorem hW:∀n:Nat,wH P w K mg b (5+2*n) 4 "Search" "look" (kG n)
 | 0=>Ht T.zca
 | n+1=>R8 T b (Nat.le_add_right _ _) (hW n)
theorem N9 {dds:List Dt} (D:oM K mg "planned" TN ["count", "facts", "most"] dds):mM P w K mg b 30 3 "planned" DG dds:=
 by unfold DG;exact Qy (k:=29) (body:=pS) D lF rfl rfl fun Z Z Z Z Z Z Z hr=>kA (IA 3 lF.nd (Fy (dj T b) hr (by decide) rfl (cA (MA (l9 T b) hr (cA (aA 1) gA)) (cA (aA 2) gA)))) (kA (IA 4 lF.nd (bU (hW T b 12) hr (by decide) (aA 3) (cA (MA (C9 T b) hr (cA (aA 0) (cA (aA 1) gA))) (cA (MA (oR T b) hr (cA (aA 0) gA)) (cA (MA (D9 T b) hr (cA (aA 1) gA)) gA))))) (qA (HA (xB (cA (fA (aA 4) dA) (cA (fA (aA 4) dA) (cA (HL T.zbb (aA 3)) gA)))))))
theorem rW:mM P w K mg b 30 3 "planned" DG []:=N9 T b T.zc5
theorem zQ:OC P w K mg b 1 2 "_law_cell_at" sJ:=
 vB (k:=0) (body:=RQ) T.zcI h9 rfl rfl fun Z Z Z Z Z Z Z hr=>kA (FB (oB sP (aA 1) (kE rfl T.Jp (aA 0))) (qA (HA (fA (aA 0) (aA 1)))) MB) (qA (HA dA))
theorem aR:OC P w K mg b 1 1 "_law_whole" yJ:=
 vB (k:=0) (body:=fR) T.zcP y9 rfl rfl fun Z Z Z Z Z Z Z hr=>qA (HA (YO (IL rfl T.zbc rfl T.zbG PyProof.Rows.boot_int (by decide) (aA 0)) (aP (Zf (IL rfl T.zbc rfl T.zdt PyProof.Rows.boot_bool (by decide) (aA 0))))))
theorem ZQ:OC P w K mg b 1 2 "_law_mixed" LH:=
 vB (k:=0) (body:=cR) T.zcU x9 rfl rfl fun Z Z Z Z Z Z Z hr=>qA (HA (uA XD (uA xD (uA HC (uA XD (aA 0) dA) dA) (aA 1)) dA))
theorem k9:OC P w K mg b 1 0 "_law_zones" jR:=
 vB (k:=0) (body:=uW) T.zcQ gF rfl rfl fun Z Z Z Z Z Z Z hr=>kA (IA 0 gF.nd (qH (cA (xB (cA dA (cA dA gA))) (cA (xB (cA dA (cA dA gA))) (cA (xB (cA dA (cA dA gA))) (cA (xB (cA dA (cA dA gA))) (cA (xB (cA dA (cA dA gA))) (cA (xB (cA dA (cA dA gA))) (cA (xB (cA dA (cA dA gA))) gA))))))))) (qA (HA (uA JZ (aA 0) (qH (cA (xB (cA dA (cA dA gA))) (cA (xB (cA dA (cA dA gA))) (cA (xB (cA dA (cA dA gA))) (cA (xB (cA dA (cA dA gA))) (cA (xB (cA dA (cA dA gA))) (cA (xB (cA dA (cA dA gA))) gA))))))))))
theorem CW:OC P w K mg b 1 2 "_law_zone" aL:=
 vB (k:=0) (body:=GR) T.zc2 Aj rfl rfl fun Z Z Z Z Z Z Z hr=>kA (FB (oB eK (aA 0) (fA (aA 1) dA)) (qA (HA (EY rfl T.zbG (oF (vC hr.units) (aA 0) (fA (aA 1) dA))))) MB) (kA (FB (oB sP (aA 0) (fA (aA 1) dA)) (qA (HA dA)) MB) (qA (HA (uA EF dA (EY rfl T.zbG (oF (vC hr.units) (aA 0) (fA (aA 1) dA)))))))
theorem nR:OC P w K mg b 2 2 "_law_way" EJ:=
 vB (k:=1) (body:=cS) T.zc7 mj rfl rfl fun Z Z Z Z Z Z Z hr=>qA (HA (Pz hr.units (Lz (k9 T b) hr (by decide) rfl) (xB (cA (MA (CW T b) hr (cA (fA (aA 0) dA) (cA (aA 1) gA))) (cA (MA (CW T b) hr (cA (fA (aA 0) dA) (cA (aA 1) gA))) gA)))))
theorem j9:OC P w K mg b 2 3 "_law_spans" UK:=
 vB (k:=1) (body:=dR) T.zcV qC rfl rfl fun Z Z Z Z Z Z Z hr=>kA (IA 3 qC.nd (DF gA)) (kA (NC PassesOwn.never rfl (CF rfl T.Xp (aA 1)) (CB 4 qC.nd) (kA (IA 5 qC.nd (MA (ZQ T b) hr (cA (MA (zQ T b) hr (cA (aA 0) (cA (uA HC (aA 4) dA) gA))) (cA (uA HC dA (uA xD (uA xD dA (aA 4)) (aA 4))) gA)))) (kA (IA 6 qC.nd (uA xD (uA XD (uA oG (aA 5) dA) dA) (aA 2))) (qA (SD (DE (aA 3) (xB (cA (aA 6) (cA (uA HC (aA 6) (uA xD (uA HC dA (uA XD (uA oG (aA 5) dA) dA)) (aA 2))) gA))))))))) (qA (HA (aA 3))))
theorem O8:OC P w K mg b 1 2 "_law_true_set" oJ:=
 vB (k:=0) (body:=NK) T.zcG lC rfl rfl fun Z Z Z Z Z Z Z hr=>kA (IA 2 lC.nd (uA EF dA (uA MI dA (uA XD (uA oG (aA 0) dA) dA)))) (kA (FB (oB (vC hr.units) (uA XD (aA 0) dA) dA) (qA (IA 2 lC.nd (uA XD (uA oG (aA 0) dA) dA))) MB) (kA (FB (oB (vC hr.units) (uA XD (aA 0) dA) dA) (qA (IA 2 lC.nd (uA MI dA (uA XD (uA oG (aA 0) dA) dA)))) MB) (qA (HA (uA IZ (aA 2) (uA MI dA (aA 1)))))))
theorem gW:OC P w K mg b 3 3 "_law_true_ways" aH:=
 vB (k:=2) (body:=cN) T.zcD pB rfl rfl fun Z Z Z Z Z Z Z hr=>kA (IA 3 pB.nd (uA XD (aA 0) (kE rfl T.Jp (aA 1)))) (kA (IA 4 pB.nd (uA XD (uA HC (uA HC (aA 3) dA) (uA XD (uA oG (aA 0) dA) (uA EF (kE rfl T.Jp (aA 1)) dA))) (kE rfl T.Jp (aA 1)))) (kA (IA 5 pB.nd (MA (nR T b) hr (cA (fA (aA 1) (aA 3)) (cA (fA (aA 1) (aA 4)) gA)))) (kA (IA 6 pB.nd (MA (O8 T b) hr (cA (uA oG (aA 0) dA) (cA (aA 5) gA)))) (kA (FB (QF (bF (aA 2))) (qA (IA 6 pB.nd (uA EF (aA 6) (uA MI dA (aA 5))))) MB) (qA (HA (xB (cA uC (cA (aA 3) (cA (aA 6) (cA (aA 4) gA)))))))))))
theorem K8:OC P w K mg b 4 2 "_law_true_group" QK:=
 vB (k:=3) (body:=FQ) T.zcF AB rfl rfl fun Z Z Z Z Z Z Z hr=>kA (IA 2 AB.nd (uA HC dA (uA XD (aA 0) dA))) (kA (IA 3 AB.nd (uA XD (uA oG (aA 0) dA) (aA 2))) (kA (IA 4 AB.nd (DF gA)) (kA (NC PassesOwn.never rfl (CF rfl T.Xp (aA 2)) (CB 5 AB.nd) (qA (SD (DE (aA 4) (MA (gW T b) hr (cA (uA XD (uA xD (aA 0) (uA HC dA (uA xD (uA xD dA (aA 5)) (aA 5)))) dA) (cA (aA 1) (cA (oF (vC hr.units) (aA 5) (aA 3)) gA)))))))) (qA (HA (xB (cA uC (cA (aA 4) gA))))))))
theorem M8:OC P w K mg b 1 3 "_law_true_long" IK:=
 vB (k:=0) (body:=wQ) T.zcC bC rfl rfl fun Z Z Z Z Z Z Z hr=>kA (IA 3 bC.nd (uA XD (aA 0) (kE rfl T.Jp (aA 1)))) (kA (IA 4 bC.nd (uA EF (fA (fA (aA 1) (aA 3)) dA) (fA (fA (aA 1) (aA 3)) dA))) (kA (IA 5 bC.nd (Gy rfl rfl T.zbH dA (uA EF (aA 4) (fA (qH (cA dA (cA dA (cA (aA 2) (cA (uA xD dA (aA 2)) gA))))) (uA XD (uA oG (aA 0) dA) dA))))) (qA (HA (xB (cA uC (cA (aA 3) (cA (aA 5) (cA (uA HC (aA 4) (fA (qH (cA dA (cA dA (cA (aA 2) (cA (uA xD (aA 0) dA) gA))))) (uA XD (uA oG (aA 0) dA) dA))) gA)))))))))
theorem pW:OC P w K mg b 5 4 "_law_facts" xJ:=
 vB (k:=4) (body:=bR) T.zcT LB rfl rfl fun Z Z Z Z Z Z Z hr=>kA (IA 4 LB.nd (DF gA)) (kA (IA 5 LB.nd dA) (kA (NC PassesOwn.never rfl (GC (yY (aA 0) (kU dA) (kU dA))) (CB 6 LB.nd) (kA (IA 7 LB.nd (MA (ZQ T b) hr (cA (aA 6) (cA dA gA)))) (kA (IA 8 LB.nd (uA XD (uA oG (MA (ZQ T b) hr (cA (aA 6) (cA dA gA))) dA) dA)) (qA (FB (WM.tm (OU (oB (vC hr.units) (aA 8) dA) (ZT (oB sP (aA 5) (aA 3))))) (kA (IA 5 LB.nd (uA HC (aA 5) dA)) (qA (SD (DE (aA 4) (MA (K8 T b) hr (cA (aA 7) (cA (aA 1) gA))))))) (qA (FB (oB (vC hr.units) (aA 8) dA) (qA (SD (DE (aA 4) (MA (M8 T b) hr (cA (aA 7) (cA (aA 1) (cA (aA 2) gA))))))) (qA (SD (DE (aA 4) (MA (gW T b) hr (cA (aA 7) (cA (aA 1) (cA SF gA)))))))))))))) (qA (HA (aA 4)))))
theorem b9 {R:IB} {k:Nat} (hk:2<=k) (hR:OC P w K mg b k 3 "_law_keeps" R):OC P w K mg b (k+1) 3 "_law_keeps" (cC 3 4 (vI R)):=
 vB (k:=k) (body:=vI R) T.zb8 fF rfl rfl fun Z Z Z Z Z Z Z hr=>kA (FB (oB (vC hr.units) (fA (aA 0) dA) uC) (qA (HA (oF (vC hr.units) (uA mH (uA MO (fA (aA 0) dA) (RH (nR T b) hr (by omega) rfl (cA (fA (aA 1) (fA (aA 0) dA)) (cA (fA (aA 1) (fA (aA 0) dA)) gA)))) dA) dA))) MB) (kA (FB (oB (vC hr.units) (fA (aA 0) dA) uC) (kA (IA 3 fF.nd (uA EF (fA (fA (aA 1) (fA (aA 0) dA)) dA) (fA (fA (aA 1) (fA (aA 0) dA)) dA))) (qA (HA (YO (oF eK (uA xD (fA (aA 0) dA) (aA 2)) (aA 3)) (aP (oF eK (aA 3) (uA xD (fA (aA 0) dA) (aA 2)))))))) MB) (qA (HA (oF (vC hr.units) (wz (NF (Nc:=["_law_one", "_law_spans_here", "_law_unit"]) rfl (GC (fA (aA 0) dA)) (by decide +kernel) rfl (by decide +kernel) (by rfl) (by exact⟨⟨rfl,.inl rfl,.inl rfl,rfl⟩,⟨⟨rfl,.inl rfl,.inl rfl,rfl⟩,trivial⟩⟩) (fun Z Z Z Z=>CB 0 (show(["_law_one", "_law_spans_here", "_law_unit"]:List Str).Nodup by decide +kernel)) (fun Z Z Z Z=>YE) (fun Z Z Z Z=>RH hR hr (by omega) rfl (cA (aA 0) (cA (aA 1) (cA (aA 2) gA))))) SF) dA))))
theorem qW:∀n:Nat,OC P w K mg b (2+n) 3 "_law_keeps" (wI n)
 | 0=>Jf T.zb8
 | n+1=>b9 T b (Nat.le_add_right _ _) (qW n)
theorem AW:OC P w K mg b 2 2 "_law_plan" vJ:=
 vB (k:=1) (body:=FR) T.zc0 xF rfl rfl fun Z Z Z Z Z Z Z hr=>kA (FB (WM.tm (KG (QF (bF (IL rfl T.zbc rfl T.zbd PyProof.Rows.boot_list (by decide) (aA 0)))) (NL (oB (UH hr.units) (kE rfl T.Jp (aA 0)) (aA 1))))) (qA (HA SF)) MB) (kA (NC PassesOwn.never rfl (GC (aA 0)) (CB 2 xF.nd) (kA (FB (WM.tm (KG (QF (bF (IL rfl T.zbc rfl T.zcc PyProof.Rows.boot_tuple (by decide) (aA 2)))) (KG (oB (UH hr.units) (kE rfl T.Jp (aA 2)) dA) (KG (QF (bF (MA (aR T b) hr (cA (fA (aA 2) dA) gA)))) (NL (QF (bF (MA (aR T b) hr (cA (fA (aA 2) dA) gA))))))))) (qA (HA SF)) MB) (qA (FB (oB sV (fA (aA 2) dA) (fA (aA 2) dA)) (qA (HA SF)) MB)))) (qA (HA (oF (vC hr.units) (ZO rfl rfl T.zaV (NF (Nc:=["_law_one"]) rfl (GC (aA 0)) (by decide +kernel) rfl (by decide +kernel) (by rfl) (by exact trivial) (fun Z Z Z Z=>CB 0 (show(["_law_one"]:List Str).Nodup by decide +kernel)) (fun Z Z Z Z=>YE) (fun Z Z Z Z=>fA (aA 0) dA))) dA))))
theorem BW:OC P w K mg b 2 2 "_law_told" bH:=
 vB (k:=1) (body:=wN) T.zc1 zj rfl rfl fun Z Z Z Z Z Z Z hr=>kA (FB (WM.tm (KG (QF (bF (IL rfl T.zbc rfl T.zcc PyProof.Rows.boot_tuple (by decide) (aA 0)))) (KG (oB (UH hr.units) (kE rfl T.Jp (aA 0)) dA) (NL (QF (bF (MA (aR T b) hr (cA (fA (aA 0) dA) gA)))))))) (qA (HA SF)) MB) (kA (FB (oB (vC hr.units) (fA (aA 0) dA) uC) (qA (HA (YO (oF QL (fA (aA 0) dA) ZF) (aP (oF (vC hr.units) (fA (aA 0) dA) (aA 1)))))) MB) (qA (HA (YO (oF P1 (fA (aA 0) dA) (xB (cA uC (cA uC gA)))) (aP (Mz eK eK dA (fA (aA 0) dA) (aA 1)))))))
theorem S8:OC P w K mg b 1 1 "_law_turned" vN:=
 vB (k:=0) (body:=qR) T.zcX IC rfl rfl fun Z Z Z Z Z Z Z hr=>kA (IA 1 IC.nd dA) (kA (NC PassesOwn.never rfl (CF rfl T.Xp dA) (CB 2 IC.nd) (qA (FB (oB (vC hr.units) (uA mH (uA MO (aA 0) (aA 2)) dA) dA) (qA (IA 1 IC.nd (uA HC (aA 1) (uA MI dA (uA EF dA (aA 2)))))) MB))) (qA (HA (aA 1))))
theorem mW:OC P w K mg b 1 1 "_law_of_two" RK:=
 vB (k:=0) (body:=pR) T.zcW AD rfl rfl fun Z Z Z Z Z Z Z hr=>kA (IA 1 AD.nd (DF gA)) (kA (NC PassesOwn.never rfl (GC (aA 0)) (CB 2 AD.nd) (kA (FB (WM.tm (OU (oB (vC hr.units) (fA (aA 2) dA) uC) (ZT (oB (vC hr.units) (uA HC (fA (aA 2) dA) (fA (aA 2) dA)) dA)))) (qA (SD (DE (aA 1) (aA 2)))) MB) (qA (FB (WM.tm (OU (oB (vC hr.units) (fA (aA 2) dA) uC) (ZT (bF (Vf rfl rfl T.zdu (NF (Nc:=["_law_one"]) rfl (GC (fA (aA 2) dA)) (by decide +kernel) rfl (by decide +kernel) (by rfl) (by exact trivial) (fun Z Z Z Z=>CB 0 (show(["_law_one"]:List Str).Nodup by decide +kernel)) (fun Z Z Z Z=>YE) (fun Z Z Z Z=>oF (vC hr.units) (uA HC (fA (aA 0) dA) (fA (aA 0) dA)) dA))))))) (qA (SD (DE (aA 1) (xB (cA uC (cA (ON rfl T.zbd (fA (aA 2) dA)) gA)))))) MB)))) (qA (HA (aA 1))))
theorem mR:OC P w K mg b 2 1 "_law_set" zI:=
 vB (k:=1) (body:=BN) T.zc6 kj rfl rfl fun Z Z Z Z Z Z Z hr=>kA (FB (oB (vC hr.units) (fA (aA 0) dA) dA) (qA (HA (fA (aA 0) dA))) MB) (qA (HA (MA (S8 T b) hr (cA (fA (aA 0) dA) gA))))
theorem L8:OC P w K mg b 3 1 "_law_first_way" fN:=
 vB (k:=2) (body:=vQ) T.zcE EA rfl rfl fun Z Z Z Z Z Z Z hr=>kA (IA 1 EA.nd (DF (cA dA gA))) (kA (NC PassesOwn.never rfl (GC (aA 0)) (CB 2 EA.nd) (qA (FB (oB (vC hr.units) (fA (aA 2) dA) uC) (qA (DL (uA mH (fA (aA 1) dA) (MA (mR T b) hr (cA (aA 2) gA))) (aA 1) dA)) MB))) (kA (NC PassesOwn.never rfl (GC (aA 0)) (CB 2 EA.nd) (qA (FB (oB (vC hr.units) (fA (aA 2) dA) uC) (kA (IA 3 EA.nd (DF gA)) (kA (NC PassesOwn.never rfl (GC (aA 1)) (CB 4 EA.nd) (qA (NC PassesOwn.never rfl (CF rfl T.Xp (kE rfl T.Jp (fA (aA 2) dA))) (CB 5 EA.nd) (kA (IA 6 EA.nd (aA 4)) (kA (NC PassesOwn.never rfl (lZ rfl T.zcb (fA (aA 2) dA)) (EU 7 8 rfl EA.nd) (qA (IA 6 EA.nd (uA mH (aA 6) (kP (oB (vC hr.units) (aA 7) (aA 5)) (MA (mR T b) hr (cA (aA 8) gA)) (uA EF dA (MA (mR T b) hr (cA (aA 8) gA)))))))) (qA (FB (oB rP (aA 6) dA) (qA (SD (DE (aA 3) (aA 6)))) MB))))))) (qA (IA 1 EA.nd (aA 3))))) MB))) (qA (HA (ZO rfl rfl T.zaV (NF (Nc:=["_law_way_here", "_law_left"]) rfl (CF rfl T.Xp dA) (by decide +kernel) rfl (by decide +kernel) (by rfl) (by exact⟨⟨rfl,.inl rfl,.inl rfl,rfl⟩,trivial⟩) (fun Z Z Z Z=>CB 0 (show(["_law_way_here", "_law_left"]:List Str).Nodup by decide +kernel)) (fun Z Z Z Z=>JO (oB (vC hr.units) (uA mH (uA MO (fA (aA 1) dA) (aA 0)) dA) dA)) (fun Z Z Z Z=>aA 0)))))))
theorem G8:OC P w K mg b 31 1 "_law_least_first" RM:=
 vB (k:=30) (body:=pQ) T.zcA pD rfl rfl fun Z Z Z Z Z Z Z hr=>kA (IA 1 pD.nd (xY (rW T b) hr (by decide) rfl (cA dA (cA (MA (mW T b) hr (cA (aA 0) gA)) (cA dA gA))))) (kA (FB (WM.tm (KG (QF (bF (MA (BW T b) hr (cA (aA 1) (cA dA gA))))) (KG (oB (UH hr.units) (fA (aA 1) dA) uC) (NL (QF (bF (MA (AW T b) hr (cA (fA (aA 1) dA) (cA dA gA))))))))) (qA (HA SF)) MB) (qA (HA (oF (vC hr.units) (MA (nR T b) hr (cA (fA (fA (aA 1) dA) dA) (cA (fA (fA (aA 1) dA) dA) gA))) (MA (L8 T b) hr (cA (MA (mW T b) hr (cA (aA 0) gA)) gA))))))
theorem Er {f:Addr} {fd:FuncData} (F:Fun K "law" "law" wV f fd):Xl P w K mg b cG 32 f fd ["_law_script"] (dJ K 1 UI):=by unfold UI;exact Hr (k:=31) (body:=TL) F iE rfl rfl fun cdv A outer s H E hr=>by(unfold TL xO;exact kA (IA 1 iE.nd (uA HC dA (uA XD (MA (zQ T b) hr (cA (aA 0) (cA dA gA))) dA))) (kA (IA 2 iE.nd (uA HC dA (uA XD (MA (zQ T b) hr (cA (aA 0) (cA dA gA))) (uA Tt dA dA)))) (kA (IA 3 iE.nd (MA (j9 T b) hr (cA (aA 0) (cA (aA 1) (cA (aA 2) gA))))) (kA (IA 4 iE.nd (MA (pW T b) hr (cA (aA 0) (cA (aA 3) (cA (aA 2) (cA dA gA)))))) (kA (IA 5 iE.nd (MA (pW T b) hr (cA (aA 0) (cA (aA 3) (cA (aA 2) (cA dA gA)))))) (kA (IA 6 iE.nd (fA (qH (cA dA (cA dA (cA dA gA)))) (uA EF (aA 1) dA))) (kA (IA 7 iE.nd (xY (rW T b) hr (by decide) rfl (cA (aA 1) (cA (aA 5) (cA (aA 6) gA))))) (kA (FB (WM.tm (KG (oB (BU hr.units) (aA 5) (aA 4)) (KG (QF (bF (MA (BW T b) hr (cA (aA 7) (cA (aA 6) gA))))) (NL (oB (AU hr.units) (fA (aA 7) dA) uC))))) (qA (HA SF)) MB) (kA (FB (QF (bF (MA (G8 T b) hr (cA (aA 4) gA)))) (qA (HA SF)) MB) (kA (FB (oB (AU hr.units) (fA (aA 7) dA) uC) (qA (HA SF)) MB) (kA (FB (QF (bF (MA (AW T b) hr (cA (fA (aA 7) dA) (cA (aA 1) gA))))) (qA (HA SF)) MB) (kA (NC PassesOwn.never rfl (GC (aA 4)) (CB 8 iE.nd) (qA (FB (QF (bF (MA (qW T b 3) hr (cA (aA 8) (cA (fA (aA 7) dA) (cA (uA HC (uA xD dA (aA 1)) dA) gA)))))) (qA (HA SF)) MB))) (qA (HA SF))))))))))))))
end
end G
namespace BF
noncomputable def put{α:Type}(f:Nat->α)(i:Nat)(a:α):Nat->α:=fun j=>if j=i then a else f j
theorem mG{α:Type}(f:Nat->α)(i:Nat)(a:α):put f i a i=a:=if_pos rfl
theorem pF{α:Type}(f:Nat->α){i j:Nat}(a:α)(h:j≠i):put f i a j=f j:=if_neg h
noncomputable abbrev Bd:=Nat×Nat×Int
structure QG where
 t:Nat->Int
 c:Nat->Option Nat
 l:Option Nat
def step(s:QG)(e:Bd):QG:=if s.t e.1>s.t e.2.1+e.2.2 then⟨put s.t e.1 (s.t e.2.1+e.2.2),put s.c e.1 (some e.2.1),some e.1⟩else s
def turn(E:List Bd)(s:QG):QG:=E.foldl step ⟨s.t,s.c,none⟩
noncomputable def uF(t:Nat->Int)(e:Bd):Prop:=t e.1<=t e.2.1+e.2.2
structure AV(n:Nat)(E:List Bd):Prop where
 lt:∀e∈E,e.1<n/\e.2.1<n/\e.1≠e.2.1
 un:∀e∈E,∀e'∈E,e.1=e'.1->e.2.1=e'.2.1->e.2.2=e'.2.2
noncomputable def M3(w:Nat->Nat->Int)(c:Nat->Option Nat):Prop:=
 ∀C:List Nat,C ≠ []->C.Nodup->(C.map c).Perm (C.map some)->(C.map fun x=>w x ((c x).getD 0)).sum<0
structure Ok(n:Nat)(E:List Bd)(w:Nat->Nat->Int)(r:Nat)(D:List Bd)(u:Nat->Nat)(s:QG):Prop where
 cau:∀x y,s.c x=some y->(x,y,w x y)∈E/\s.t y+w x y<=s.t x/\1<=u x/\u x<=u y+1
 top:∀x,u x<=r+1
 has:∀x,1<=u x->∃y,s.c x=some y
 old:∀e∈E,r<=u e.2.1\/uF s.t e
 new:∀e∈D,r+1<=u e.2.1\/uF s.t e
 neg:M3 w s.c
 lst:∀x,s.l=some x->u x=r+1
theorem UJ{f g:Nat->Int}:∀(D:List Nat),(∀x∈D,f x<=g x)->(D.map f).sum<=(D.map g).sum
 | [],_=>Int.le_refl _
 | x::D,h=>by
  simp only[zfJ,sum_cons];have h1:=h x mem_cons_self;have h2:=UJ D fun y hy=>h y (mem_cons_of_mem _ hy)
  omega
theorem bZ{f g:Nat->Int}:∀(D:List Nat),(D.map fun x=>f x-g x).sum=(D.map f).sum-(D.map g).sum
 | []=>rfl
 | x::D=>by simp only[zfJ,sum_cons];have:=bZ (f:=f) (g:=g) D;omega
theorem eY{l l':List Int}(h:l.Perm l'):l.sum=l'.sum:=by
 induction h with
 | nil=>rfl
 | cons x _ ih=>simp only[sum_cons,ih]
 | swap x y l=>simp only[sum_cons];omega
 | trans _ _ h1 h2=>exact h1.trans h2
theorem map_none{C:List Nat}{c:Nat->Option Nat}(h:(C.map c).Perm (C.map some)):∀x∈C,∃y,c x=some y:=by intro x hx;have:c x∈C.map some:=h.subset (mem_map_of_mem hx);obtain⟨y,Z,e⟩:=mem_map.mp this;exact⟨y,e.symm⟩
theorem lL{α β:Type}{f g:α->β}{C:List α}(h:∀x∈C,f x=g x):C.map f=C.map g:=map_congr_left h
theorem Nt{w:Nat->Nat->Int}{c:Nat->Option Nat}{t:Nat->Int}{p q:Nat}(hn:M3 w c)(hc:∀x y,c x=some y->t y+w x y<=t x)(hm:t p>t q+w p q):M3 w (put c p (some q)):=by
 intro C h0 hd hp;by_cases hin:p∈C
 · obtain⟨D1,D2,rfl⟩:=append_of_mem hin;have pp:(D1++p::D2).Perm (p::(D1++D2)):=perm_middle;have nd:(p::(D1++D2)).Nodup:=pp.nodup_iff.mp hd;have np:p∉D1++D2:=(nodup_cons.mp nd).1;generalize D1++D2=D at pp np;have ec:D.map (put c p (some q))=D.map c:=lL fun x hx=>pF c _ (fun z=>np (z ▸ hx))
   have h1:((p::D).map (put c p (some q))).Perm ((p::D).map some):=((pp.map _).symm.trans hp).trans (pp.map _);rw[zfJ,mG,ec]at h1;have hall:∀x∈D,∃y,c x=some y:=fun x hx=>by have:c x∈(p::D).map some:=h1.subset (mem_cons_of_mem _ (mem_map_of_mem hx));obtain⟨y,Z,e⟩:=mem_map.mp this;exact⟨y,e.symm⟩
   have h2:=eY (h1.map fun o=>t (o.getD 0));simp only[zfJ,map_map,sum_cons,Function.comp_def,Option.getD_some]at h2
   change t q+_=t p+(D.map t).sum at h2
   have h3:((D1++p::D2).map fun x=>w x ((put c p (some q) x).getD 0)).sum=w p q+(D.map fun x=>w x ((c x).getD 0)).sum:=by
    have:=eY (pp.map fun x=>w x ((put c p (some q) x).getD 0));rw[this,zfJ,sum_cons,mG]
    congr 1
    rw[lL (f:=fun x=>w x ((put c p (some q) x).getD 0)) (g:=fun x=>w x ((c x).getD 0)) fun x hx=>by rw[pF c _ (fun z:x=p=>np (z ▸ hx))]]
   have h4:(D.map fun x=>w x ((c x).getD 0)).sum<=(D.map fun x=>t x-t ((c x).getD 0)).sum:=UJ D fun x hx=>by obtain⟨y,ey⟩:=hall x hx;have:=hc x y ey;rw[ey];simp only[Option.getD_some];omega
   rw[bZ]at h4;rw[h3];omega
 · have ec:C.map (put c p (some q))=C.map c:=lL fun x hx=>pF c _ (fun z=>hin (z ▸ hx))
   rw[ec]at hp;have:=hn C h0 hd hp;rw[lL (f:=fun x=>w x ((put c p (some q) x).getD 0)) (g:=fun x=>w x ((c x).getD 0)) fun x hx=>by rw[pF c _ (fun z:x=p=>hin (z ▸ hx))]];exact this
theorem Sg{n:Nat}{E:List Bd}{w:Nat->Nat->Int}{r:Nat}{D:List Bd}{u:Nat->Nat}{s:QG}(T:AV n E)(hw:∀e∈E,w e.1 e.2.1=e.2.2)(I:Ok n E w r D u s){e:Bd}(he:e∈E) :
 ∃u',Ok n E w r (e::D) u' (step s e):=by
 obtain⟨p,q,m⟩:=e;obtain⟨Z,Z,hne⟩:=T.lt _ he;have ew:w p q=m:=hw _ he;have hne':q≠p:=fun z=>hne z.symm
 by_cases hm:s.t p>s.t q+m
 · have es:step s (p,q,m)=⟨put s.t p (s.t q+m),put s.c p (some q),some p⟩:=if_pos hm;rw[es];have uq:r<=u q:=by
    rcases I.old _ he with z | z
    · exact z
    · exact absurd z (by simp only[uF];omega)
   have up:u p<=r+1:=I.top p;have dec:∀x,put s.t p (s.t q+m) x<=s.t x:=fun x=>by
    by_cases hx:x=p
    · rw[hx,mG];omega
    · rw[pF _ _ hx];exact Int.le_refl _
   have grow:∀x,u x<=put u p (r+1) x:=fun x=>by
    by_cases hx:x=p
    · rw[hx,mG];exact up
    · rw[pF _ _ hx];exact zfU _
   have keep:∀k,∀e:Bd,k<=r+1->(k<=u e.2.1\/uF s.t e)->(k<=put u p (r+1) e.2.1\/uF (put s.t p (s.t q+m)) e):=fun k e hk h=>by
    by_cases hx:e.2.1=p
    · exact .inl (by rw[hx,mG];exact hk)
    · rcases h with h | h
      · exact .inl (zxA h (grow _))
      · refine .inr ?_;simp only[uF]at h ⊢;rw[pF _ _ hx];exact Int.le_trans (dec _) h
   refine⟨put u p (r+1),⟨fun x y h=>?_,fun x=>?_,fun x h=>?_,fun e h=>keep r e (Nat.le_succ r) (I.old e h),fun e h=>?_,Nt I.neg (fun x y h=>(I.cau x y h).2.1) (by rw[ew];exact hm),fun x h=>?_⟩⟩
   · by_cases hx:x=p
     · subst hx;simp only[mG]at h ⊢;cases h;rw[pF _ _ hne',pF _ _ hne',ew];exact⟨he,Int.le_refl _,by omega,by omega⟩
     · simp only[pF _ _ hx]at h ⊢;obtain⟨h1,h2,h3,h4⟩:=I.cau x y h;exact⟨h1,Int.le_trans (Int.add_le_add_right (dec y) _) h2,h3,zxA h4 (Nat.add_le_add_right (grow y) 1)⟩
   · by_cases hx:x=p
     · rw[hx,mG];exact zfU _
     · rw[pF _ _ hx];exact I.top x
   · by_cases hx:x=p
     · subst hx;exact⟨q,mG _ _ _⟩
     · rw[pF _ _ hx]at h;obtain⟨y,hy⟩:=I.has x h;exact⟨y,by simp only[pF _ _ hx];exact hy⟩
   · rcases mem_cons.mp h with z | z
     · subst z;refine .inr ?_;simp only[uF,mG,pF _ _ hne'];exact Int.le_refl _
     · exact keep (r+1) e (zfU _) (I.new e z)
   · cases h;exact mG _ _ _
 · have es:step s (p,q,m)=s:=if_neg hm;rw[es];refine⟨u,⟨I.cau,I.top,I.has,I.old,fun e h=>?_,I.neg,I.lst⟩⟩;rcases mem_cons.mp h with z | z
   · subst z;exact .inr (by simp only[uF];omega)
   · exact I.new e z
theorem jU{n:Nat}{E:List Bd}{w:Nat->Nat->Int}{r:Nat}(T:AV n E)(hw:∀e∈E,w e.1 e.2.1=e.2.2):∀(L D:List Bd)(u:Nat->Nat)(s:QG),(∀e∈L,e∈E)->Ok n E w r D u s->∃u' D',Ok n E w r D' u' (L.foldl step s)/\(∀e∈L,e∈D')/\∀e∈D,e∈D'
 | [],D,u,s,_,I=>⟨u,D,I,(fun Z h=>nomatch h),fun Z h=>h⟩
 | e::L,D,u,s,hs,I=>by
  obtain⟨u1,I1⟩:=Sg T hw I (hs e mem_cons_self);obtain⟨u2,D2,I2,h1,h2⟩:=jU T hw L (e::D) u1 (step s e) (fun x hx=>hs x (mem_cons_of_mem _ hx)) I1;refine⟨u2,D2,I2,fun x hx=>?_,fun x hx=>h2 x (mem_cons_of_mem _ hx)⟩;rcases mem_cons.mp hx with z | z
  · rw[z];exact h2 e mem_cons_self
  · exact h1 x z
def eE(E:List Bd):Nat->QG->QG
 | 0,s=>s
 | r+1,s=>turn E (eE E r s)
noncomputable def s0:QG:=⟨fun Z=>0,fun Z=>none,none⟩
theorem cT{n:Nat}{E:List Bd}{w:Nat->Nat->Int}(T:AV n E)(hw:∀e∈E,w e.1 e.2.1=e.2.2):∀r,∃u D,Ok n E w r D u (eE E (r+1) s0)/\∀e∈E,e∈D
 | 0=>by
  have I:Ok n E w 0 [] (fun Z=>0) ⟨s0.t,s0.c,none⟩:=by
   refine⟨fun x y h=>(by cases h),fun x=>zxB _,fun x h=>(by omega),fun e h=>.inl (zxB _),(fun e h=>nomatch h),fun C h0 hd hp=>?_,fun x h=>(by cases h)⟩;cases C with
   | nil=>exact absurd rfl h0
   | cons x C=>obtain⟨y,e⟩:=map_none hp x mem_cons_self;cases e
  obtain⟨u,D,I',h1,Z⟩:=jU T hw E [] _ _ (fun Z h=>h) I;exact⟨u,D,I',h1⟩
 | r+1=>by
  obtain⟨u,D,I,hD⟩:=cT T hw r;have I1:Ok n E w (r+1) [] u ⟨(eE E (r+1) s0).t,(eE E (r+1) s0).c,none⟩:=
   ⟨I.cau,fun x=>Nat.le_succ_of_le (I.top x),I.has,fun e h=>I.new e (hD e h),(fun e h=>nomatch h),I.neg,fun x h=>(by cases h)⟩
  obtain⟨u2,D2,I2,h1,Z⟩:=jU T hw E [] _ _ (fun Z h=>h) I1;exact⟨u2,D2,I2,h1⟩
theorem GX:∀(L:List Bd)(s:QG),(L.foldl step s).l=none->s.l=none/\L.foldl step s=s/\∀e∈L,uF s.t e
 | [],s,h=>⟨h,rfl,(fun Z h=>nomatch h)⟩
 | e::L,s,h=>by
  obtain⟨h1,h2,h3⟩:=GX L (step s e) h;by_cases hm:s.t e.1>s.t e.2.1+e.2.2
  · have es:step s e=⟨put s.t e.1 (s.t e.2.1+e.2.2),put s.c e.1 (some e.2.1),some e.1⟩:=if_pos hm;rw[es]at h1;cases h1
  · have es:step s e=s:=if_neg hm;rw[es]at h1 h2 h3;refine⟨h1,by rw[foldl_cons,es];exact h2,fun x hx=>?_⟩;rcases mem_cons.mp hx with z | z
    · subst z;simp only[uF];omega
    · exact h3 x z
noncomputable def WB(f:Nat->Nat):Nat->Nat->Nat
 | 0,x=>x
 | k+1,x=>f (WB f k x)
theorem FG(f:Nat->Nat)(x:Nat)(b:Nat):∀a,WB f (a+b) x=WB f a (WB f b x)
 | 0=>by rw[zxI];rfl
 | a+1=>by rw[Nat.add_right_comm];show f (WB f (a+b) x)=f (WB f a (WB f b x));rw[FG f x b a]
theorem Td:∀(n:Nat)(g:Nat->Nat),(∀k,k<=n->g k<n)->∃i j,i<j/\j<=n/\g i=g j
 | 0,g,h=>absurd (h 0 (zfU _)) (Nat.not_lt_zero _)
 | n+1,g,h=>by
  by_cases hx:∃k,k<=n/\g k=g (n+1)
  · obtain⟨k,h1,h2⟩:=hx;exact⟨k,n+1,by omega,zfU _,h2⟩
  · have ne:∀k,k<=n->g k≠g (n+1):=fun k hk e=>hx ⟨k,hk,e⟩
    have hl:=h (n+1) (zfU _);obtain⟨i,j,h1,h2,h3⟩:=Td n (fun k=>if g k>g (n+1)then g k-1 else g k) fun k hk=>by have h1:=h k (by omega);have h2:=ne k hk;show(if g k>g (n+1)then g k-1 else g k)<n;split<;>omega
    refine⟨i,j,h1,by omega,?_⟩;have a1:=ne i (by omega);have a2:=ne j h2;have b1:(if g i>g (n+1)then g i-1 else g i)=(if g j>g (n+1)then g j-1 else g j):=h3;split at b1<;>split at b1<;>omega
theorem Jx{Q:Nat->Prop}:∀d,1<=d->Q d->∃k,1<=k/\k<=d/\Q k/\∀i,1<=i->i<k->¬Q i:=by
 intro d
 induction d using Nat.strongRecOn with
 | ind d ih=>
  intro h1 hq;by_cases hx:∃i,1<=i/\i<d/\Q i
  · obtain⟨i,a,b,c⟩:=hx;obtain⟨k,k1,k2,k3,k4⟩:=ih i b a c;exact⟨k,k1,by omega,k3,k4⟩
  · exact⟨d,h1,zfU _,hq,fun i a b c=>hx ⟨i,a,b,c⟩⟩
noncomputable def nxt(c:Nat->Option Nat)(x:Nat):Nat:=(c x).getD 0
structure gI(n:Nat)(E:List Bd)(w:Nat->Nat->Int)(c:Nat->Option Nat)(P k:Nat):Prop where
 pos:1<=k
 le:k<=n
 back:WB (nxt c) k P=P
 first:∀i,1<=i->i<k->WB (nxt c) i P≠P
 edge:∀i,i<=k->(WB (nxt c) i P,WB (nxt c) (i+1) P,w (WB (nxt c) i P) (WB (nxt c) (i+1) P))∈E/\c (WB (nxt c) i P)=some (WB (nxt c) (i+1) P)
 sum:((range k).map fun i=>w (WB (nxt c) i P) (WB (nxt c) (i+1) P)).sum<0
theorem apart{f:Nat->Nat}{P k:Nat}(hb:WB f k P=P)(hf:∀i,1<=i->i<k->WB f i P≠P){i j:Nat}(hij:i<j)(hj:j<=k)(h0:i=0->j<k):WB f i P≠WB f j P:=by
 intro e;have e2:WB f ((k-j)+i) P=WB f ((k-j)+j) P:=by rw[FG,FG,e]
 rw[Nat.sub_add_cancel hj,hb]at e2;refine hf (k-j+i) ?_ ?_ e2
 · by_cases h:i=0
   · have:=h0 h;omega
   · omega
 · omega
theorem q9{α:Type}{g:Nat->α}(k:Nat)(h:∀i j,i<j->j<k->g i≠g j):((range k).map g).Nodup:=by rw[nodup_iff_pairwise_ne,pairwise_map];refine List.Pairwise.imp_of_mem ?_ (pairwise_lt_range (n:=k));intro a b ha hb hab;exact h a b hab (mem_range.mp hb)
theorem DZ{n:Nat}{E:List Bd}{w:Nat->Nat->Int}{D:List Bd}{u:Nat->Nat}{s:QG}{x:Nat}(T:AV n E)(I:Ok n E w n D u s)(hx:s.l=some x):∃k,gI n E w s.c (WB (nxt s.c) n x) k/\
 ∀i,i<=n->s.c (WB (nxt s.c) i x)=some (WB (nxt s.c) (i+1) x)/\WB (nxt s.c) i x<n:=by
 have ux:=I.lst x hx;have zcf:∀y,1<=u y->s.c y=some (nxt s.c y):=fun y hy=>by obtain⟨z,e⟩:=I.has y hy;unfold nxt;rw[e];rfl
 have ch:∀i,i<=n->n+1<=u (WB (nxt s.c) i x)+i:=by
  intro i
  induction i with
  | zero=>intro Z;show n+1<=u x+0;omega
  | succ i ih=>intro hi;have h1:=ih (by omega);have h2:=zcf (WB (nxt s.c) i x) (by omega);have h3:=(I.cau _ _ h2).2.2.2;show n+1<=u (nxt s.c (WB (nxt s.c) i x))+(i+1);omega
 have cd:∀i,i<=n->s.c (WB (nxt s.c) i x)=some (WB (nxt s.c) (i+1) x):=fun i hi=>zcf _ (by have:=ch i hi;omega)
 have lt:∀i,i<=n->WB (nxt s.c) i x<n:=fun i hi=>(T.lt _ (I.cau _ _ (cd i hi)).1).1
 obtain⟨i,j,hij,hj,e⟩:=Td n (fun i=>WB (nxt s.c) i x) lt;have per:WB (nxt s.c) (j-i) (WB (nxt s.c) n x)=WB (nxt s.c) n x:=by
  rw[<- FG];have a1:j-i+n=(n-i)+j:=by omega
  rw[a1,FG,<- e,<- FG]
  congr 1
  omega
 obtain⟨k,k1,k2,k3,k4⟩:=Jx (Q:=fun d=>WB (nxt s.c) d (WB (nxt s.c) n x)=WB (nxt s.c) n x) (j-i) (by omega) per;have shf:∀m,WB (nxt s.c) (j+m) x=WB (nxt s.c) (i+m) x:=fun m=>by rw[Nat.add_comm j m,Nat.add_comm i m,FG,FG,e]
 have ed:∀m,m<=k->s.c (WB (nxt s.c) m (WB (nxt s.c) n x))=some (WB (nxt s.c) (m+1) (WB (nxt s.c) n x)):=fun m hm=>by
  rw[<- FG,<- FG];by_cases h:m+n<=n
  · have:m=0:=by omega
    subst this;rw[zxI,Nat.add_comm];exact cd n (zfU _)
  · have a1:m+n=j+(m+n-j):=by omega
    have a2:m+1+n=j+(m+n-j+1):=by omega
    rw[a1,a2,shf,shf];exact cd _ (by omega)
 refine⟨k,⟨k1,by omega,k3,k4,fun m hm=>⟨(I.cau _ _ (ed m hm)).1,ed m hm⟩,?_⟩,fun i hi=>⟨cd i hi,lt i hi⟩⟩;generalize WB (nxt s.c) n x=P at *;have hn:=I.neg ((range k).map fun m=>WB (nxt s.c) m P) (by
  intro z;have:=congrArg List.length z;simp at this;omega) (q9 k fun a b hab hb=>apart k3 k4 hab (by omega) (fun Z=>hb)) (by
  rw[map_map,map_map];have e1:(range k).map (s.c ∘ fun m=>WB (nxt s.c) m P)=(range k).map (fun m=>some (WB (nxt s.c) (m+1) P)):=lL fun m hm=>ed m (Nat.le_of_lt (mem_range.mp hm))
  rw[e1];obtain⟨k',rfl⟩:∃k',k=k'+1:=⟨k-1,by omega⟩
  rw[range_succ,map_append];have e2:(range k'++[k']).map (some ∘ fun m=>WB (nxt s.c) m P)=some P::(range k').map (fun m=>some (WB (nxt s.c) (m+1) P)):=by rw[<- range_succ,range_succ_eq_map,zfJ,map_map];rfl
  rw[e2];have e3:[k'].map (fun m=>some (WB (nxt s.c) (m+1) P))=[some P]:=by rw[zfJ,zfK,k3]
  rw[e3];exact perm_append_singleton _ _)
 rw[map_map]at hn;have e4:(range k).map ((fun y=>w y ((s.c y).getD 0)) ∘ fun m=>WB (nxt s.c) m P)=(range k).map fun i=>w (WB (nxt s.c) i P) (WB (nxt s.c) (i+1) P):=rfl
 rw[e4]at hn;exact hn
end BF
namespace SM
section
variable{l:LI}{h:HI}{f g fo fy fx fe fa fd:RE}
@[simp] theorem Vb:hV l h=some (.ref h.length,h++[.dt []]):=by rfl
def cQ:List Dt×HI->Option (Dt×HI):=fun r=>if r.1.length<=sizeLine then(HE r.1).map fun is=>(.Ip is,r.2)else none
@[simp] theorem X1(r:RA):VP r l h=jB (r l h) cQ:=by rfl
theorem rY(i j:Int):cQ ([.int i,.int j],h)=some (.Ip [i,j],h):=by unfold cQ;rw[if_pos (show([Dt.int i,Dt.int j]:List Dt).length<=sizeLine by simp)];rfl
def V3(n:Nat)(k:List Int):Dt×HI->Option (Dt×HI):=fun x=>match x.2[n]? with
 | some (.dt kvs)=>some ((bJ kvs k).getD x.1,x.2)
 | _=>none
theorem RZ{n:Nat}{k:List Int}{d:Dt}{kvs:List (List Int×Dt)}(e:h[n]?=some (.dt kvs)):V3 n k (d,h)=some ((bJ kvs k).getD d,h):=by simp only[V3,e]
theorem AZ{n:Nat}{k:List Int}{kvs:List (List Int×Dt)}(e1:fo l h=some (.ref n,h))(e2:h[n]?=some (.dt kvs))(e3:fy l h=some (.Ip k,h)):XH fo fy fx l h=jB (fx l h) (V3 n k):=by simp only[XH,e1,e2,e3,zfO];rfl
theorem C0{n:Nat}{k:List Int}{kvs:List (List Int×Dt)}{d:Dt}(e0:fe l h=some (d,h))(e1:fo l h=some (.ref n,h))(e2:h[n]?=some (.dt kvs))(e3:fy l h=some (.Ip k,h))(c:kvs.length<sizeLine) :
 yP fe fo fy l h=some (.nx l (h.set n (.dt (hJ kvs k d)))):=by
 simp only[yP,e0,e1,e2,e3,zfO,if_pos c]
theorem Fx{n:Nat}{kvs:List (List Int×Dt)}(e1:f l h=some (.ref n,h))(e2:h[n]?=some (.dt kvs)):II f l h=some (.it n,h.set n (.df kvs)):=by simp only[II,e1,e2,zfO]
theorem Bx{n:Nat}{kvs:List (List Int×Dt)}(e1:f l h=some (.ref n,h))(e2:h[n]?=some (.df kvs)):II f l h=some (.it n,h):=by simp only[II,e1,e2,zfO]
def oV(fd:RE)(l:LI):Dt×HI->Option (Dt×HI):=fun r=>jB (fd l r.2) fun q=>(OB q.2 r.1).bind fun xs=>(HE xs).bind fun ns=>if ns ≠ []then some (.int (fC ns),q.2)else none
@[simp] theorem Xb:iV fa fd l h=jB (fa l h) (oV fd l):=by rfl
end
theorem Wh{β:Type}{i j n:Nat}{body:RS}{kvs:List (List Int×Dt)}(S:β->LI->HI->Prop)(F:β->List Int×Dt->β)(hS:∀b l h,S b l h->h[n]?=some (.df kvs))
 (H:∀x∈kvs,∀b l h,S b l h->∃r,body ((l.set i (some (.tup (x.1.map Dt.int)))).set j (some x.2)) h=some r/\Pass (S (F b x)) r) :
 ∀(m k:Nat)(b:β)(l:LI)(h:HI),m=(kvs.length-k)+1->k<=kvs.length->S b l h->∃l' h',kC (dF i j) body (.it n) m k l h=some (.nx l' h')/\S ((kvs.drop k).foldl F b) l' h':=by
 intro m
 induction m with
 | zero=>intro k b l h hm;omega
 | succ m ih=>
  intro k b l h hm hk s;have e:=hS b l h s;by_cases hlt:k<kvs.length
  · have ek:kvs[k]?=some kvs[k]:=getElem?_eq_getElem hlt;obtain⟨r,e1,p⟩:=H kvs[k] (getElem_mem hlt) b l h s;have ed:(kvs.drop k).foldl F b=(kvs.drop (k+1)).foldl F (F b kvs[k]):=by rw[drop_eq_getElem_cons hlt,foldl_cons]
    rw[ed];have eu:kC (dF i j) body (.it n) (m+1) k l h=jB (body ((l.set i (some (.tup (kvs[k].1.map Dt.int)))).set j (some kvs[k].2)) h) (DP (kC (dF i j) body (.it n) m (k+1))):=by
     simp only[kC,Src.at,e,ek,zfN,BZ,zfO];cases body ((l.set i (some (.tup (kvs[k].1.map Dt.int)))).set j (some kvs[k].2)) h with
     | none=>rfl
     | some r=>cases r<;>rfl
    rw[eu,e1,iA];cases r with
    | nx l2 h2=>exact ih (k+1) _ l2 h2 (by omega) hlt p
    | ct l2 h2=>exact ih (k+1) _ l2 h2 (by omega) hlt p
    | bk l2 h2=>exact p.elim
    | rt d h2=>exact p.elim
  · have ek:kvs[k]?=none:=getElem?_eq_none (by omega);refine⟨l,h,by simp only[kC,Src.at,e,ek,Option.map_none],?_⟩;rw[drop_eq_nil_of_le (by omega)];exact s
theorem Mh{β:Type}{i j n:Nat}{body:RS}{kvs:List (List Int×Dt)}{l:LI}{h:HI}(S:β->LI->HI->Prop)(F:β->List Int×Dt->β)(hS:∀b l h,S b l h->h[n]?=some (.df kvs))
 (H:∀x∈kvs,∀b l h,S b l h->∃r,body ((l.set i (some (.tup (x.1.map Dt.int)))).set j (some x.2)) h=some r/\Pass (S (F b x)) r) (b:β) (s:S b l h) :
 ∃l' h',yE (dF i j) body l (.it n,h)=some (.nx l' h')/\S (kvs.foldl F b) l' h':=by
 have e:=hS b l h s;have:=Wh (i:=i) (j:=j) S F hS H (kvs.length+1) 0 b l h (by omega) (zxB _) s;rw[drop_zero]at this;obtain⟨l',h',e1,e2⟩:=this;refine⟨l',h',?_,e2⟩;show kC (dF i j) body (.it n) (Src.fuel (.it n) h) 0 l h=_;have ef:Src.fuel (.it n) h=kvs.length+1:=by simp only[Src.fuel,e]
 rw[ef];exact e1
end SM
namespace G
noncomputable def qB(e:Bd):List Int×Dt:=([(e.1:Int),(e.2.1:Int)],.int e.2.2)
noncomputable def lA(e:Bd):Dt:=.tup [.int (e.1:Nat),.int (e.2.1:Nat),.int e.2.2]
noncomputable def zD(p q:Nat)(x:Bd):Bool:=decide (x.1=p)&&decide (x.2.1=q)
def dI(E:List Bd)(p q:Nat):Option Int:=(E.find? (zD p q)).map (·.2.2)
def nJ(E:List Bd)(p q:Nat)(v:Int):List Bd:=if E.any (zD p q)=true then E.map (fun x=>if zD p q x=true then(x.1,x.2.1,v)else x)else E++[(p,q,v)]
def cD(E:List Bd)(e:Bd):List Bd:=nJ E e.1 e.2.1 (min ((dI E e.1 e.2.1).getD e.2.2) e.2.2)
theorem HU(p q:Nat)(x:Bd):decide ((qB x).1=[(p:Int),(q:Int)])=zD p q x:=by unfold qB zD;by_cases h1:x.1=p<;>by_cases h2:x.2.1=q<;>simp[h1,h2]<;>omega
theorem MU(p q:Nat):∀E:List Bd,bJ (E.map qB) [(p:Int),(q:Int)]=(dI E p q).map Dt.int
 | []=>rfl
 | x::E=>by
  have ih:=MU p q E;unfold bJ dI at ih ⊢;rw[zfJ,find?_cons,find?_cons,HU];cases zD p q x with
  | true=>rfl
  | false=>exact ih
theorem Hf(p q:Nat)(E:List Bd):((E.map qB).any fun y=>decide (y.1=[(p:Int),(q:Int)]))=E.any (zD p q):=by
 rw[any_map]
 congr 1
 funext x
 exact HU p q x
theorem AY(p q:Nat)(v:Int)(E:List Bd):hJ (E.map qB) [(p:Int),(q:Int)] (.int v)=(nJ E p q v).map qB:=by
 unfold hJ nJ;rw[Hf];split
 · rw[map_map,map_map];refine map_congr_left fun x Z=>?_
   have k:=HU p q x;simp only[Function.comp_def];cases c:zD p q x with
   | true=>rw[c]at k;rw[if_pos (of_decide_eq_true k),if_pos rfl];rfl
   | false=>rw[c]at k;rw[if_neg (of_decide_eq_false k),if_neg zfT]
 · rw[map_append];rfl
structure WJ(told E:List Bd):Prop where
 mem:∀x∈E,x∈told
 low:∀e∈told,∃x∈E,x.1=e.1/\x.2.1=e.2.1/\x.2.2<=e.2.2
 un:∀x∈E,∀y∈E,x.1=y.1->x.2.1=y.2.1->x.2.2=y.2.2
 len:E.length<=told.length
theorem Cp{p q:Nat}{x:Bd}:zD p q x=true↔x.1=p/\x.2.1=q:=by simp[zD]
theorem uf:WJ [] []:=⟨fun Z h=>h,fun Z h=>(nomatch h),fun Z h=>(nomatch h),zfU _⟩
theorem jf{told E:List Bd}(I:WJ told E)(e:Bd):WJ (told++[e]) (cD E e):=by
 obtain⟨p,q,m⟩:=e;unfold cD nJ;cases ha:dI E p q with
 | none=>
  have nk:∀x∈E,zD p q x=false:=by unfold dI at ha;simpa using ha
  have na:E.any (zD p q)=false:=by rw[any_eq_false];intro x hx;rw[nk x hx];exact zfT
  simp only[na,zfX,if_false,ha,Option.getD_none,Int.min_self];refine⟨fun x hx=>?_,fun e' he=>?_,fun x hx y hy h1 h2=>?_,by simp;exact I.len⟩
  · rcases mem_append.mp hx with hx | hx
    · exact mem_append_left _ (I.mem x hx)
    · exact mem_append_right _ hx
  · rcases mem_append.mp he with he | he
    · obtain⟨x,hx,r⟩:=I.low e' he;exact⟨x,mem_append_left _ hx,r⟩
    · rw[mem_singleton.mp he];exact⟨_,mem_append_right _ (mem_singleton.mpr rfl),rfl,rfl,Int.le_refl _⟩
  · rcases mem_append.mp hx with hx | hx<;>rcases mem_append.mp hy with hy | hy
    · exact I.un x hx y hy h1 h2
    · have:=nk x hx;rw[mem_singleton.mp hy]at h1 h2;rw[Cp.mpr ⟨h1,h2⟩]at this;cases this
    · have:=nk y hy;rw[mem_singleton.mp hx]at h1 h2;rw[Cp.mpr ⟨h1.symm,h2.symm⟩]at this;cases this
    · rw[mem_singleton.mp hx,mem_singleton.mp hy]
 | some v0=>
  obtain⟨x0,hf,rfl⟩:∃x0,E.find? (zD p q)=some x0/\x0.2.2=v0:=by unfold dI at ha;simpa using ha
  have k0:=find?_some hf;have m0:=mem_of_find?_eq_some hf;have na:E.any (zD p q)=true:=any_eq_true.mpr ⟨x0,m0,k0⟩;obtain⟨k1,k2⟩:=Cp.mp k0;have un0:∀x∈E,zD p q x=true->x.2.2=x0.2.2:=fun x hx h=>by obtain⟨h1,h2⟩:=Cp.mp h;exact I.un x hx x0 m0 (h1.trans k1.symm) (h2.trans k2.symm)
  simp only[na,if_true,Option.getD_some];have vm:((p,q,min x0.2.2 m):Bd)∈told++[(p,q,m)]:=by
   by_cases h:x0.2.2<=m
   · rw[Int.min_eq_left h];refine mem_append_left _ ?_;have:=I.mem x0 m0;rw[<- k1,<- k2];exact this
   · rw[Int.min_eq_right (by omega)];exact mem_append_right _ (mem_singleton.mpr rfl)
  refine⟨fun x hx=>?_,fun e' he=>?_,fun x hx y hy h1 h2=>?_,by simp;have:=I.len;omega⟩
  · obtain⟨y,hy,rfl⟩:=mem_map.mp hx;split
    · rename_i h;obtain⟨h1,h2⟩:=Cp.mp h;rw[h1,h2];exact vm
    · exact mem_append_left _ (I.mem y hy)
  · have new:∀x∈E,(if zD p q x=true then(x.1,x.2.1,min x0.2.2 m)else x)∈E.map (fun x=>if zD p q x=true then(x.1,x.2.1,min x0.2.2 m)else x):=fun x hx=>mem_map_of_mem hx
    rcases mem_append.mp he with he | he
    · obtain⟨x,hx,r1,r2,r3⟩:=I.low e' he;refine⟨_,new x hx,?_⟩;split
      · rename_i h;refine⟨r1,r2,?_⟩;have:=un0 x hx h;show min x0.2.2 m<=e'.2.2;have:=Int.min_le_left x0.2.2 m;omega
      · exact⟨r1,r2,r3⟩
    · rw[mem_singleton.mp he];refine⟨_,new x0 m0,?_⟩;rw[if_pos k0];exact⟨k1,k2,Int.min_le_right _ _⟩
  · obtain⟨x',hx',rfl⟩:=mem_map.mp hx;obtain⟨y',hy',rfl⟩:=mem_map.mp hy;have fst:∀z:Bd,(if zD p q z=true then((z.1,z.2.1,min x0.2.2 m):Bd)else z).1=z.1/\(if zD p q z=true then((z.1,z.2.1,min x0.2.2 m):Bd)else z).2.1=z.2.1:=fun z=>by split<;>exact⟨rfl,rfl⟩
    rw[(fst x').1,(fst y').1]at h1;rw[(fst x').2,(fst y').2]at h2;have kk:zD p q x'=zD p q y':=by unfold zD;rw[h1,h2]
    rw[kk];split
    · rfl
    · exact I.un x' hx' y' hy' h1 h2
theorem VY:∀(L told E:List Bd),WJ told E->WJ (told++L) (L.foldl cD E)
 | [],told,E,I=>by rw[zfW];exact I
 | e::L,told,E,I=>by have:=VY L (told++[e]) (cD E e) (jf I e);rw[append_assoc]at this;exact this
def rC(told:List Bd):List Bd:=told.foldl cD []
theorem VJ(told:List Bd):WJ told (rC told):=by have:=VY told [] [] uf;rwa[zfP]at this
theorem lY(E:List Bd)(p q:Nat)(v:Int):(nJ E p q v).length<=E.length+1:=by
 unfold nJ;split
 · simp
 · simp
theorem VX{α β:Type}(f:β->α->β)(b:β){xs:List α}{k:Nat}{x:α}(hx:xs[k]?=some x):(xs.take (k+1)).foldl f b=f ((xs.take k).foldl f b) x:=by rw[take_add_one,hx,foldl_append];rfl
theorem f9(told:List Bd)(hl:told.length<=1000)(h:HI):tJ [.lst (told.map lA)] h=some (.ref h.length,h++[.dt ((rC told).map qB)]):=by
 obtain⟨l',h',e,⟨y2,y3,rfl⟩,rfl,Z⟩:=PJ (i:=2) (body:=LK) lA (fun k l h'=>(∃y2 y3,l=[some (.lst (told.map lA)),some (.ref h.length),y2,y3])/\h'=h++[.dt (((told.take k).foldl cD []).map qB)]/\((told.take k).foldl cD []).length<=k) told 0 (by
  rintro k x hx l h' ⟨⟨y2,y3,rfl⟩,rfl,hk⟩;rw[zxI]at hk ⊢;have kl:k<told.length:=(zfR hx).1;rw[VX cD [] hx];generalize (told.take k).foldl cD []=E at hk;have ed:(h++[Ob.dt (E.map qB)])[h.length]?=some (.dt (E.map qB)):=by simp
  have LL:([some (Dt.lst (told.map lA)),some (.ref h.length),y2,y3]:LI).set 2 (some (lA x))=[some (Dt.lst (told.map lA)),some (.ref h.length),some (lA x),y3]:=rfl;rw[LL];refine⟨.nx [some (.lst (told.map lA)),some (.ref h.length),some (lA x),some (.Ip [(x.1:Int),(x.2.1:Int)])] (h++[.dt ((cD E x).map qB)]),?_,⟨_,_,rfl⟩,rfl,?_⟩
  · have g1:XH (eV 1) (eV 3) (e2 rA (eV 2) (eC (.int 2))) [some (.lst (told.map lA)),some (.ref h.length),some (lA x),some (.Ip [(x.1:Int),(x.2.1:Int)])] (h++[.dt (E.map qB)])=some (.int ((dI E x.1 x.2.1).getD x.2.2),h++[.dt (E.map qB)]):=by rw[AZ (n:=h.length) (k:=[(x.1:Int),(x.2.1:Int)]) (kvs:=E.map qB) (by simp) ed (by simp)];simp only[yA,oA,xA,zfF,zfG,pA,iA,lA,QB,VI,zfN];rw[RZ ed,MU];cases dI E x.1 x.2.1<;>rfl
    have g2:=C0 (l:=[some (.lst (told.map lA)),some (.ref h.length),some (lA x),some (.Ip [(x.1:Int),(x.2.1:Int)])]) (h:=h++[.dt (E.map qB)]) (fe:=UP ZJ (XH (eV 1) (eV 3) (e2 rA (eV 2) (eC (.int 2)))) (e2 rA (eV 2) (eC (.int 2)))) (fo:=eV 1) (fy:=eV 3) (n:=h.length) (k:=[(x.1:Int),(x.2.1:Int)]) (kvs:=E.map qB)
     (d:=.int (min ((dI E x.1 x.2.1).getD x.2.2) x.2.2)) (by
      rw[gQ,g1,iA];simp[lA]) (by simp) ed (by simp) (by simp;omega)
    rw[AY]at g2;have es:(h++[Ob.dt (E.map qB)]).set h.length (.dt ((cD E x).map qB))=h++[.dt ((cD E x).map qB)]:=by simp
    simp only[LK,OA,YA,X1,UA,KA,yA,oA,xA,zfF,zfG,pA,iA,lA,QB,YB,ID,zfN,rY,zfM,zfL,QA];have g3:=g2;simp only[lA]at g3;rw[g3];show some (Rs.nx _ ((h++[Ob.dt (E.map qB)]).set h.length (.dt ((cD E x).map qB))))=_;rw[es]
  · have:=lY E x.1 x.2.1 (min ((dI E x.1 x.2.1).getD x.2.2) x.2.2);show(cD E x).length<=k+1;unfold cD;omega) [some (.lst (told.map lA)),some (.ref h.length),none,none] (h++[.dt []]) ⟨⟨_,_,rfl⟩,by simp,by simp⟩
 rw[zxI,take_length]at e;simp[tJ,YM,e];rfl
noncomputable def XE:Option Nat->Dt
 | none=>.non
 | some q=>.int (q:Nat)
noncomputable def BC(n:Nat)(t:Nat->Int):List Dt:=(range n).map fun i=>.int (t i)
def mE(n:Nat)(c:Nat->Option Nat):List Dt:=(range n).map fun i=>XE (c i)
theorem HS(n:Nat)(t:Nat->Int):(BC n t).length=n:=by simp[BC]
theorem JW(n:Nat)(c:Nat->Option Nat):(mE n c).length=n:=by simp[mE]
theorem sO{n p:Nat}(t:Nat->Int)(hp:p<n):(BC n t)[p]?=some (.int (t p)):=by simp[BC,hp]
theorem tS{n p:Nat}(c:Nat->Option Nat)(hp:p<n):(mE n c)[p]?=some (XE (c p)):=by simp[mE,hp]
theorem HX{α β:Type}(n p:Nat)(f:Nat->α)(D:α->β)(v:α):((range n).map fun i=>D (f i)).set p (D v)=(range n).map fun i=>D (put f p v i):=by
 apply ext_getElem?;intro i;rw[getElem?_set];simp only[getElem?_map,length_map,length_range];by_cases h:p=i
 · subst h;by_cases hp:p<n
   · simp[hp,mG]
   · simp[hp,getElem?_eq_none]
 · have h':i≠p:=fun z=>h z.symm
   rw[if_neg h];by_cases hi:i<n
   · simp[hi,pF _ _ h']
   · simp[getElem?_eq_none,hi]
theorem Zv(n p:Nat)(t:Nat->Int)(v:Int):(BC n t).set p (.int v)=BC n (put t p v):=HX n p t Dt.int v
theorem Nj(n p q:Nat)(c:Nat->Option Nat):(mE n c).set p (.int (q:Nat))=mE n (put c p (some q)):=HX n p c XE (some q)
structure fI(h0:HI)(a b c n:Nat)(E:List Bd)(s:QG)(h:HI):Prop where
 len:h.length=h0.length
 da:h[a]?=some (.df (E.map qB))
 db:h[b]?=some (.lst (BC n s.t))
 dc:h[c]?=some (.lst (mE n s.c))
 els:∀m,m≠a->m≠b->m≠c->h[m]?=h0[m]?
noncomputable def NM(x:List Int×Dt):Bd:=match x with
 | ([p,q],.int m)=>(p.toNat,q.toNat,m)
 | _=>(0,0,0)
theorem Q0(e:Bd):NM (qB e)=e:=by simp[NM,qB]
theorem Jt{h0:HI}{a b c n:Nat}(ab:a≠b)(ac:a≠c)(bc:b≠c){E:List Bd}{e:Bd}(he:e.1<n/\e.2.1<n){s:QG}{h:HI}(M:fI h0 a b c n E s h) :
 ∃h',yI [some (.ref a),some (.ref b),some (.ref c),some (XE s.l),some (.tup [.int (e.1:Nat),.int (e.2.1:Nat)]),some (.int e.2.2)] h=some (.nx [some (.ref a),some (.ref b),some (.ref c),some (XE (step s e).l),some (.tup [.int (e.1:Nat),.int (e.2.1:Nat)]),some (.int e.2.2)] h')/\fI h0 a b c n E (step s e) h':=by
 obtain⟨p,q,m⟩:=e;obtain⟨hp,hq⟩:=he;have xb:=fun i=>oE M.db i
 have tp:=sO s.t hp;have tq:=sO s.t hq;have blt:b<h.length:=(zfR M.db).1;have clt:c<h.length:=(zfR M.dc).1;by_cases hm:s.t p>s.t q+m
 · have es:step s (p,q,m)=⟨put s.t p (s.t q+m),put s.c p (some q),some p⟩:=if_pos hm;rw[es];have hm':decide (s.t q+m<s.t p)=true:=decide_eq_true hm;have g1:=AL (l:=[some (.ref a),some (.ref b),some (.ref c),some (XE s.l),some (.tup [.int (p:Nat),.int (q:Nat)]),some (.int m)]) (v:=.int (s.t q+m)) (k:=p) M.db (by rw[HS];exact hp);rw[Zv]at g1;have c2:(h.set b (.lst (BC n (put s.t p (s.t q+m)))))[c]?=some (.lst (mE n s.c)):=by rw[getElem?_set_ne bc];exact M.dc
   have g2:=AL (l:=[some (.ref a),some (.ref b),some (.ref c),some (XE s.l),some (.tup [.int (p:Nat),.int (q:Nat)]),some (.int m)]) (v:=.int (q:Nat)) (k:=p) c2 (by rw[JW];exact hp);rw[Nj]at g2;refine⟨(h.set b (.lst (BC n (put s.t p (s.t q+m))))).set c (.lst (mE n (put s.c p (some q)))),?_,?_⟩
   · simp only[yI,dB,NA,yA,oA,xA,zfF,zfG,pA,iA,QB,YB,ID,zfN,xb,SM.ZC,tp,tq,nE,zK,VA,hm',if_true,OA,sU,g1,QA,g2,YA,zfM,zfL];rfl
   · refine⟨by simp[M.len],?_,?_,?_,fun k h1 h2 h3=>?_⟩
     · rw[getElem?_set_ne (Ne.symm ac),getElem?_set_ne (Ne.symm ab)];exact M.da
     · rw[getElem?_set_ne (Ne.symm bc),getElem?_set_self blt]
     · rw[getElem?_set_self (by simp;exact clt)]
     · rw[getElem?_set_ne (Ne.symm h3),getElem?_set_ne (Ne.symm h2)];exact M.els k h1 h2 h3
 · have es:step s (p,q,m)=s:=if_neg hm;rw[es];have hm':decide (s.t q+m<s.t p)=false:=decide_eq_false hm;refine⟨h,?_,M⟩;simp only[yI,dB,NA,yA,oA,xA,zfF,zfG,pA,iA,QB,YB,ID,zfN,xb,SM.ZC,tp,tq,nE,zK,VA,hm',zfX,if_false,dC]
theorem Mt{h0:HI}{a b c n:Nat}(ab:a≠b)(ac:a≠c)(bc:b≠c){E:List Bd}(hE:∀e∈E,e.1<n/\e.2.1<n){s:QG}{h:HI}(M:fI h0 a b c n E s h)(x4 x5:Option Dt) :
 ∃x4' x5' h',yE (dF 4 5) yI [some (.ref a),some (.ref b),some (.ref c),some (XE s.l),x4,x5] (.it a,h)=some (.nx [some (.ref a),some (.ref b),some (.ref c),some (XE (E.foldl step s).l),x4',x5'] h')/\fI h0 a b c n E (E.foldl step s) h':=by
 obtain⟨l',h',e,⟨y4,y5,rfl⟩,M'⟩:=Mh (i:=4) (j:=5) (n:=a) (body:=yI) (kvs:=E.map qB) (fun(s:QG) l h=>(∃y4 y5,l=[some (.ref a),some (.ref b),some (.ref c),some (XE s.l),y4,y5])/\fI h0 a b c n E s h) (fun s x=>step s (NM x)) (fun s l h ⟨Z,M⟩=>M.da) (by
  rintro x hx s l h ⟨⟨y4,y5,rfl⟩,M⟩;obtain⟨e,he,rfl⟩:=mem_map.mp hx;obtain⟨h',e1,M'⟩:=Jt ab ac bc (hE e he) M;rw[Q0];exact⟨_,e1,⟨_,_,rfl⟩,M'⟩) s ⟨⟨x4,x5,rfl⟩,M⟩
 have ef:(E.map qB).foldl (fun s x=>step s (NM x)) s=E.foldl step s:=by simp only[foldl_map,Q0]
 rw[ef]at e M';exact⟨y4,y5,h',e,M'⟩
theorem sy{a b c n:Nat}(ab:a≠b)(ac:a≠c)(bc:b≠c){E:List Bd}(hE:∀e∈E,e.1<n/\e.2.1<n){s:QG}{h:HI}(da:h[a]?=some (.dt (E.map qB))\/h[a]?=some (.df (E.map qB)))(db:h[b]?=some (.lst (BC n s.t)))(dc:h[c]?=some (.lst (mE n s.c))) :
 ∃h',NJ [.ref a,.ref b,.ref c] h=some (XE (turn E s).l,h')/\fI h a b c n E (turn E s) h':=by
 have alt:a<h.length:=by rcases da with da | da<;>exact(zfR da).1
 obtain⟨h1,ei,M⟩:∃h1,II (eV 0) [some (.ref a),some (.ref b),some (.ref c),some .non,none,none] h=some (.it a,h1)/\fI h a b c n E ⟨s.t,s.c,none⟩ h1:=by
  rcases da with da | da
  · refine⟨_,Fx (by simp) da,⟨by simp,getElem?_set_self alt,?_,?_,fun m h1 Z Z=>getElem?_set_ne (Ne.symm h1)⟩⟩
    · rw[getElem?_set_ne ab];exact db
    · rw[getElem?_set_ne ac];exact dc
  · exact⟨_,Bx (by simp) da,⟨rfl,da,db,dc,fun Z Z Z Z=>rfl⟩⟩
 obtain⟨y4,y5,h',e,M'⟩:=Mt ab ac bc hE M none none;refine⟨h',?_,M'⟩;have e':yE (dF 4 5) yI [some (.ref a),some (.ref b),some (.ref c),some .non,none,none] (.it a,h1)=_:=e;simp only[NJ,OT,rB,zfH,zfI,if_true,zfJ,zfK,replicate,zfQ,zfP,OA,YA,xA,iA,zfM,zfL,QA,ND];simp[ei,e'];rfl
theorem Bw(l:LI)(h:HI)(b:Dt)(h':HI)(e:pL l h=some (b,h')):h'=h:=by
 simp only[pL,yA,oA]at e;rcases h0:l[0]? with _ | _ | d0
 · rw[h0]at e;cases e
 · rw[h0]at e;cases e
 · rcases h1:l[1]? with _ | _ | d1
   · rw[h0,h1]at e;cases e
   · rw[h0,h1]at e;cases e
   · rw[h0,h1]at e;simp only[pA,iA]at e;cases d0<;>cases d1<;>simp[AE,yK]at e;exact e.2.symm
theorem VW(n:Nat)(t:Nat->Int):BC n t=((range n).map t).map Dt.int:=by unfold BC;rw[map_map];rfl
structure iI(h0:HI)(n:Nat)(E:List Bd)(s:QG)(h:HI):Prop where
 len:h.length=h0.length+3
 da:h[h0.length]?=some (.dt (E.map qB))\/h[h0.length]?=some (.df (E.map qB))
 db:h[h0.length+1]?=some (.lst (BC n s.t))
 dc:h[h0.length+2]?=some (.lst (mE n s.c))
 els:∀m,m<h0.length->h[m]?=h0[m]?
def eB(n:Nat)(t:Nat->Int):Nat->Int:=fun i=>t i-fC ((range n).map t)
theorem vf{h0:HI}{n:Nat}(hn:1<=n)(hn2:n<=1000){E:List Bd}(hE:∀e∈E,e.1<n/\e.2.1<n){s:QG}{h:HI}(M:iI h0 n E s h)(x0 x1 x5 x6 x7:Option Dt) :
 ∃h',iI h0 n E (turn E s) h'/\AJ [x0,x1,some (.ref h0.length),some (.ref (h0.length+1)),some (.ref (h0.length+2)),x5,x6,x7] h =
  (match(turn E s).l with
  | none=>some (.rt (.tup [.str "times", .lst (BC n (eB n (turn E s).t))]) h')
  | some p=>some (.nx [x0,x1,some (.ref h0.length),some (.ref (h0.length+1)),some (.ref (h0.length+2)),x5,some (.int (p:Nat)),x7] h')):=by
 obtain⟨h',e,M'⟩:=sy (a:=h0.length) (b:=h0.length+1) (c:=h0.length+2) (by omega) (by omega) (by omega) hE M.da M.db M.dc;refine⟨h',⟨by rw[M'.len,M.len],.inr M'.da,M'.db,M'.dc,fun m hm=>(M'.els m (by omega) (by omega) (by omega)).trans (M.els m hm)⟩,?_⟩;cases q:(turn E s).l with
 | some p=>rw[q]at e;have e':NJ [.ref h0.length,.ref (h0.length+1),.ref (h0.length+2)] h=some (.int (p:Nat),h'):=e;simp[AJ,e',JG]
 | none=>
  rw[q]at e;have e':NJ [.ref h0.length,.ref (h0.length+1),.ref (h0.length+2)] h=some (.non,h'):=e;have hne:(range n).map (turn E s).t ≠ []:=by intro z;have:=congrArg List.length z;simp at this;omega
  have em:oV (eC (.int 0)) [x0,x1,some (.ref h0.length),some (.ref (h0.length+1)),some (.ref (h0.length+2)),x5,some .non,x7] (.ref (h0.length+1),h')=some (.int (fC ((range n).map (turn E s).t)),h'):=by unfold oV;rw[xA,iA,iw M'.db,VW];simp only[zfO,SM.Ik];rw[if_pos hne]
  have ec:tF (DA 0) VB pL [none,some (.int (fC ((range n).map (turn E s).t)))] (.rf (h0.length+1),h')=some (BC n (eB n (turn E s).t),h'):=by
   rw[AT M'.db (by rw[HS];simp;omega) (fun l h b h' e q=>by simp at e;rw[<- e.2];exact q) (fun l h b h' e q=>by rw[Bw l h b h' e];exact q)];rw[VW,PH Dt.int (fun x=>Dt.int (x-fC ((range n).map (turn E s).t))) h' _ _ (by
    intro x hx;exact⟨by simp,by simp[pL]⟩)]
   unfold BC eB;rw[map_map];rfl
  simp[AJ,e',JG,em,jE M'.db,ec]
theorem XT{h0:HI}{n:Nat}(hn:1<=n)(hn2:n<=1000){E:List Bd}(hE:∀e∈E,e.1<n/\e.2.1<n)(x0 x1:Option Dt):∀(xs:List Dt)(k:Nat)(x5 x6 x7:Option Dt)(h:HI),iI h0 n E (eE E k s0) h->(1<=k->∃p:Nat,(eE E k s0).l=some p/\x6=some (.int (p:Nat)))->
 (∃s h',s.l=none/\(∀e∈E,uF s.t e)/\iI h0 n E s h'/\zC (DA 5) AJ xs [x0,x1,some (.ref h0.length),some (.ref (h0.length+1)),some (.ref (h0.length+2)),x5,x6,x7] h=some (.rt (.tup [.str "times", .lst (BC n (eB n s.t))]) h'))\/
 (∃y5 y6 h',iI h0 n E (eE E (k+xs.length) s0) h'/\(1<=k+xs.length->∃p:Nat,(eE E (k+xs.length) s0).l=some p/\y6=some (.int (p:Nat)))/\
  zC (DA 5) AJ xs [x0,x1,some (.ref h0.length),some (.ref (h0.length+1)),some (.ref (h0.length+2)),x5,x6,x7] h=some (.nx [x0,x1,some (.ref h0.length),some (.ref (h0.length+1)),some (.ref (h0.length+2)),y5,y6,x7] h'))
 | [],k,x5,x6,x7,h,M,q=>.inr ⟨x5,x6,h,M,q,rfl⟩
 | x::xs,k,x5,x6,x7,h,M,q=>by
  obtain⟨h1,M1,e1⟩:=vf hn hn2 hE M x0 x1 (some x) x6 x7;cases ql:(turn E (eE E k s0)).l with
  | none=>
   rw[ql]at e1;obtain⟨Z,p2,p3⟩:=GX E _ ql;refine .inl ⟨turn E (eE E k s0),h1,ql,?_,M1,by simp[zC,e1]⟩;show ∀e∈E,uF (E.foldl step _).t e
   rw[p2];exact p3
  | some p=>
   rw[ql]at e1;have:=XT hn hn2 hE x0 x1 xs (k+1) (some x) (some (.int (p:Nat))) x7 h1 M1 (fun Z=>⟨p,ql,rfl⟩);rw[show k+(x::xs).length=k+1+xs.length by simp;omega];rcases this with⟨s,h',a1,a2,a3,a4⟩ | ⟨y5,y6,h',a1,a2,a3⟩
   · exact .inl ⟨s,h',a1,a2,a3,by simp[zC,e1,a4]⟩
   · exact .inr ⟨y5,y6,h',a1,a2,by simp[zC,e1,a3]⟩
def aD(c:Nat->Option Nat)(P i:Nat):List Dt:=(range (i+1)).map fun m=>.int ((WB (nxt c) m P:Nat):Int)
theorem Uv(c:Nat->Option Nat)(P i:Nat):Kp (aD c P i) (-1)=some (.int ((WB (nxt c) i P:Nat):Int)):=by
 unfold aD Kp cJ;have h1:(1:Int)<=(i:Int)+1:=by omega
 have h2:(-1+((i:Int)+1)).toNat=i:=by omega
 simp[h1,h2]
theorem DW{n a k x:Nat}(hn:1<=n)(hn2:n<=90){E:List Bd}{w:Nat->Nat->Int}{c:Nat->Option Nat}{h:HI}(dc:h[a]?=some (.lst (mE n c)))(T:AV n E)
 (R:gI n E w c (WB (nxt c) n x) k) (cd:∀i,i<=n->c (WB (nxt c) i x)=some (WB (nxt c) (i+1) x)/\WB (nxt c) i x<n) :
 oN [.int (x:Nat),.ref a] h=some (.ref h.length,h++[.lst (aD c (WB (nxt c) n x) k)]):=by
 have xc:=fun i=>oE dc i
 have er:=OF (h:=h) (show(-(2^62):Int)<=(n:Int) by omega) (show(n:Int)<2^62 by omega);simp only[zxE]at er;obtain⟨l',h',e,⟨y,rfl⟩,hh⟩:=GJ (i:=2) (body:=tQ) (fun(k:Nat)=>Dt.int (k:Int)) (fun i l h'=>(∃y,l=[some (.int ((WB (nxt c) i x:Nat):Int)),some (.ref a),y,none])/\h'=h) n (by
  rintro i hi l h' ⟨⟨y,rfl⟩,rfl⟩;obtain⟨c1,c2⟩:=cd i (by omega);have ca:=tS c c2;rw[c1]at ca;refine⟨.nx [some (.int ((WB (nxt c) (i+1) x:Nat):Int)),some (.ref a),some (.int (i:Nat)),none] h',?_,⟨_,rfl⟩,rfl⟩;simp only[tQ,YA,yA,oA,zfM,zfL,zfF,zfG,pA,iA,xc,SM.ZC,ca,zfN,XE]) [some (.int (x:Nat)),some (.ref a),none,none] h ⟨⟨_,rfl⟩,rfl⟩
 rw[hh]at e;clear hh;obtain⟨c1,c2⟩:=cd n (zfU _);generalize hP:WB (nxt c) n x=P at R e c1 c2;have c1':c P=some (WB (nxt c) (n+1) x):=c1;have caP:=tS c c2;have f1:WB (nxt c) (n+1) x=nxt c P:=by show nxt c (WB (nxt c) n x)=_;rw[hP]
 rw[c1',f1]at caP;obtain⟨r,ew,Rr⟩:=bY (t:=sQ) (body:=uQ) (fun m l h'=>∃i,1<=i/\i<=k/\m=k-i/\l=[some (.int (P:Nat)),some (.ref a),y,some (.ref h.length)]/\h'=h++[.lst (aD c P i)])
  (fun l h'=>l=[some (.int (P:Nat)),some (.ref a),y,some (.ref h.length)]/\h'=h++[.lst (aD c P k)]) (fun Z Z=>False) (by
  rintro m l h' ⟨i,i1,i2,rfl,rfl,rfl⟩;have dr:(h++[Ob.lst (aD c P i)])[h.length]?=some (.lst (aD c P i)):=by simp
  have dc':(h++[Ob.lst (aD c P i)])[a]?=some (.lst (mE n c)):=by rw[zfS (zfR dc).1];exact dc
  have xr:=fun j=>oE dr j
  have xc':=fun j=>oE dc' j
  have rl:=Uv c P i;refine⟨!decide (((WB (nxt c) i P:Nat):Int)=(P:Int)),h++[.lst (aD c P i)],?_,?_⟩
  · simp only[sQ,NA,yA,oA,W1,xA,oY,zfF,zfG,pA,iA,xr,rl,zfN,kJ,VA]
  · by_cases hk:i=k
    · subst hk;rw[R.back];simp
    · have ne:=R.first i i1 (by omega);have ne':¬(((WB (nxt c) i P:Nat):Int)=(P:Int)):=fun z=>ne (by omega)
      rw[decide_eq_false ne'];obtain⟨g1,g2⟩:=R.edge i i2;have glt:=(T.lt _ g1).1;have ca:=tS c glt;rw[g2]at ca;have ea:e2 rA (eV 1) (e2 rA (eV 3) (mF (eC (.int 1)))) [some (.int (P:Nat)),some (.ref a),y,some (.ref h.length)] (h++[.lst (aD c P i)])=some (.int ((WB (nxt c) (i+1) P:Nat):Int),h++[.lst (aD c P i)]):=by simp only[yA,oA,W1,xA,oY,zfF,zfG,pA,iA,xr,rl,zfN,xc',SM.ZC,ca,XE]
      have ap:=SE (l:=[some (.int (P:Nat)),some (.ref a),y,some (.ref h.length)]) (g:=e2 rA (eV 1) (e2 rA (eV 3) (mF (eC (.int 1))))) dr ea dr (by have:=R.le;simp[aD];omega);have en:aD c P i++[.int ((WB (nxt c) (i+1) P:Nat):Int)]=aD c P (i+1):=by unfold aD;rw[range_succ (n:=i+1),map_append];rfl
      rw[en]at ap;have es:(h++[Ob.lst (aD c P i)]).set h.length (.lst (aD c P (i+1)))=h++[.lst (aD c P (i+1))]:=by simp
      rw[es]at ap;refine⟨.nx [some (.int (P:Nat)),some (.ref a),y,some (.ref h.length)] (h++[.lst (aD c P (i+1))]),?_,k-(i+1),by omega,i+1,by omega,by omega,rfl,rfl,rfl⟩;simp only[uQ,RD,BE,oA,zfF,zfG,pA,iA,ap]) 100 (k-1) [some (.int (P:Nat)),some (.ref a),y,some (.ref h.length)] (h++[.lst (aD c P 1)]) ⟨1,zfU _,R.pos,rfl,rfl,rfl⟩ (by have:=R.le;omega)
 cases r with
 | nx l2 h2=>obtain⟨rfl,rfl⟩:=Rr;have e1:aD c P 1=[.int (P:Nat),.int ((nxt c P:Nat):Int)]:=rfl;rw[e1]at ew;simp[oN,sR,rH dc,JW,er,e,xc,caP,XE,ew]
 | rt d h2=>exact Rr.elim
 | bk l2 h2=>exact Rr.elim
 | ct l2 h2=>exact Rr.elim
def HP(told:List Bd)(p q:Nat):Int:=(dI (rC told) p q).getD 0
theorem dW{told:List Bd}{e:Bd}(he:e∈rC told):HP told e.1 e.2.1=e.2.2:=by
 unfold HP dI;cases q:(rC told).find? (zD e.1 e.2.1)with
 | none=>have:=find?_eq_none.mp q e he;exact absurd (Cp.mpr ⟨rfl,rfl⟩) this
 | some x=>obtain⟨h1,h2⟩:=Cp.mp (find?_some q);exact(VJ told).un x (mem_of_find?_eq_some q) e he h1 h2
theorem cZ{n:Nat}{told:List Bd}(hT:∀e∈told,e.1<n/\e.2.1<n/\e.1≠e.2.1):AV n (rC told):=⟨fun e he=>hT e ((VJ told).mem e he),(VJ told).un⟩
theorem Fb{n:Nat}(hn:1<=n)(hn2:n<=16)(told:List Bd)(hT:∀e∈told,e.1<n/\e.2.1<n/\e.1≠e.2.1)(hl:told.length<=1000)(h:HI) :
 (∃t h',(∀e∈told,uF t e)/\(∀m,m<h.length->h'[m]?=h[m]?)/\EG [.int (n:Nat),.lst (told.map lA)] h=some (.tup [.str "times", .lst (BC n (eB n t))],h'))\/
 (∃c P k r h',gI n (rC told) (HP told) c P k/\(∀m,m<h.length->h'[m]?=h[m]?)/\h'[r]?=some (.lst (aD c P k))/\EG [.int (n:Nat),.lst (told.map lA)] h=some (.tup [.str "ring", .ref r],h')):=by
 have T:=cZ hT;have hE:∀e∈rC told,e.1<n/\e.2.1<n:=fun e he=>⟨(T.lt e he).1,(T.lt e he).2.1⟩
 have eb:=f9 told hl h;have r1:=SN (h:=h++[.dt ((rC told).map qB)]) (Dt.int 0) (show n<=1000000 by omega);have r2:=SN (h:=h++[.dt ((rC told).map qB)]++[.lst (replicate n (Dt.int 0))]) Dt.non (show n<=1000000 by omega);have t0:replicate n (Dt.int 0)=BC n s0.t:=by unfold BC;rw[show(fun i=>Dt.int (s0.t i))=fun Z=>Dt.int 0 from rfl,map_const',length_range]
 have c0:replicate n Dt.non=mE n s0.c:=by unfold mE;rw[show(fun i=>XE (s0.c i))=fun Z=>Dt.non from rfl,map_const',length_range]
 rw[t0]at r1 r2;rw[c0]at r2;simp only[append_assoc,zfQ,zfP,length_append,zfH,zfI,zxI]at r1 r2;have er:=fun h=>OF (h:=h) (show(-(2^62):Int)<=(n:Int)+1 by omega) (show(n:Int)+1<2^62 by omega)
 have en:((n:Int)+1).toNat=n+1:=by omega
 rw[en]at er;have M:iI h n (rC told) (eE (rC told) 0 s0) (h++[.dt ((rC told).map qB),.lst (BC n s0.t),.lst (mE n s0.c)]):=by
  refine⟨by simp,.inl ?_,?_,?_,fun m hm=>zfS hm⟩
  · rw[zfV (zfU _),Nat.sub_self];rfl
  · rw[zfV (by omega),Nat.add_sub_cancel_left];rfl
  · rw[zfV (by omega),Nat.add_sub_cancel_left];rfl
 rcases XT hn (by omega) hE (some (.int (n:Nat))) (some (.lst (told.map lA))) ((range (n+1)).map fun(k:Nat)=>Dt.int (k:Int)) 0 none none none _ M (fun h=>absurd h (by omega))with⟨s,h',a1,a2,a3,a4⟩ | ⟨y5,y6,h',a1,a2,a3⟩
 · refine .inl ⟨s.t,h',fun e he=>?_,a3.els,?_⟩
   · obtain⟨x,hx,x1,x2,x3⟩:=(VJ told).low e he;have:=a2 x hx;simp only[uF]at this ⊢;rw[x1,x2]at this;omega
   · simp[EG,MJ,eb,r1,r2,er,a4]
 · rw[length_map,length_range,zxI]at a1 a2;obtain⟨p,ql,rfl⟩:=a2 (by omega);obtain⟨u,D,I,Z⟩:=cT T (fun e he=>dW he) n;obtain⟨k,R,cd⟩:=DZ T I ql;have g:=DW hn (by omega) a1.dc T R cd;refine .inr ⟨(eE (rC told) (n+1) s0).c,WB (nxt (eE (rC told) (n+1) s0).c) n p,k,h'.length,h'++[.lst (aD (eE (rC told) (n+1) s0).c (WB (nxt (eE (rC told) (n+1) s0).c) n p) k)],R,fun m hm=>?_,?_,?_⟩
   · rw[zfS (by rw[a1.len];omega)];exact a1.els m hm
   · rw[zfV (zfU _),Nat.sub_self];rfl
   · simp[EG,MJ,eb,r1,r2,er,a3,g]
theorem n9(told:List Bd)(hl:told.length<=1000)(h:HI){a:Nat}(da:h[a]?=some (.lst (told.map lA))):tJ [.ref a] h=some (.ref h.length,h++[.dt ((rC told).map qB)]):=by
 obtain⟨l',h',e,⟨y2,y3,rfl⟩,rfl,Z⟩:=xP (i:=2) (n:=a) (body:=LK) lA (fun k l h'=>(∃y2 y3,l=[some (.ref a),some (.ref h.length),y2,y3])/\h'=h++[.dt (((told.take k).foldl cD []).map qB)]/\((told.take k).foldl cD []).length<=k) told (by
  rintro k l h' ⟨_,rfl,_⟩;rw[zfS (zfR da).1];exact da) (by
  rintro k x hx l h' ⟨⟨y2,y3,rfl⟩,rfl,hk⟩;have kl:k<told.length:=(zfR hx).1;rw[VX cD [] hx];generalize (told.take k).foldl cD []=E at hk;have ed:(h++[Ob.dt (E.map qB)])[h.length]?=some (.dt (E.map qB)):=by simp
  have LL:([some (Dt.ref a),some (.ref h.length),y2,y3]:LI).set 2 (some (lA x))=[some (Dt.ref a),some (.ref h.length),some (lA x),y3]:=rfl;rw[LL];refine⟨.nx [some (.ref a),some (.ref h.length),some (lA x),some (.Ip [(x.1:Int),(x.2.1:Int)])] (h++[.dt ((cD E x).map qB)]),?_,⟨_,_,rfl⟩,rfl,?_⟩
  · have g1:XH (eV 1) (eV 3) (e2 rA (eV 2) (eC (.int 2))) [some (.ref a),some (.ref h.length),some (lA x),some (.Ip [(x.1:Int),(x.2.1:Int)])] (h++[.dt (E.map qB)])=some (.int ((dI E x.1 x.2.1).getD x.2.2),h++[.dt (E.map qB)]):=by rw[AZ (n:=h.length) (k:=[(x.1:Int),(x.2.1:Int)]) (kvs:=E.map qB) (by simp) ed (by simp)];simp only[yA,oA,xA,zfF,zfG,pA,iA,lA,QB,VI,zfN];rw[RZ ed,MU];cases dI E x.1 x.2.1<;>rfl
    have g2:=C0 (l:=[some (.ref a),some (.ref h.length),some (lA x),some (.Ip [(x.1:Int),(x.2.1:Int)])]) (h:=h++[.dt (E.map qB)]) (fe:=UP ZJ (XH (eV 1) (eV 3) (e2 rA (eV 2) (eC (.int 2)))) (e2 rA (eV 2) (eC (.int 2)))) (fo:=eV 1) (fy:=eV 3) (n:=h.length) (k:=[(x.1:Int),(x.2.1:Int)]) (kvs:=E.map qB)
     (d:=.int (min ((dI E x.1 x.2.1).getD x.2.2) x.2.2)) (by
      rw[gQ,g1,iA];simp[lA]) (by simp) ed (by simp) (by simp;omega)
    rw[AY]at g2;have es:(h++[Ob.dt (E.map qB)]).set h.length (.dt ((cD E x).map qB))=h++[.dt ((cD E x).map qB)]:=by simp
    simp only[LK,OA,YA,X1,UA,KA,yA,oA,xA,zfF,zfG,pA,iA,lA,QB,YB,ID,zfN,rY,zfM,zfL,QA];have g3:=g2;simp only[lA]at g3;rw[g3];show some (Rs.nx _ ((h++[Ob.dt (E.map qB)]).set h.length (.dt ((cD E x).map qB))))=_;rw[es]
  · have:=lY E x.1 x.2.1 (min ((dI E x.1 x.2.1).getD x.2.2) x.2.2);show(cD E x).length<=k+1;unfold cD;omega) [some (.ref a),some (.ref h.length),none,none] (h++[.dt []]) ⟨⟨_,_,rfl⟩,by simp,by simp⟩
 have da':(h++[Ob.dt []])[a]?=some (.lst (told.map lA)):=by rw[zfS (zfR da).1];exact da
 rw[take_length]at e;simp[tJ,YM,jE da',e];rfl
theorem vY{n a:Nat}(hn:1<=n)(hn2:n<=16)(told:List Bd)(hT:∀e∈told,e.1<n/\e.2.1<n/\e.1≠e.2.1)(hl:told.length<=1000)(h:HI)(da:h[a]?=some (.lst (told.map lA))) :
 (∃t h',(∀e∈told,uF t e)/\(∀m,m<h.length->h'[m]?=h[m]?)/\EG [.int (n:Nat),.ref a] h=some (.tup [.str "times", .lst (BC n (eB n t))],h'))\/
 (∃c P k r h',gI n (rC told) (HP told) c P k/\(∀m,m<h.length->h'[m]?=h[m]?)/\h'[r]?=some (.lst (aD c P k))/\EG [.int (n:Nat),.ref a] h=some (.tup [.str "ring", .ref r],h')/\h.length<=r):=by
 have T:=cZ hT;have hE:∀e∈rC told,e.1<n/\e.2.1<n:=fun e he=>⟨(T.lt e he).1,(T.lt e he).2.1⟩
 have eb:=n9 told hl h da;have r1:=SN (h:=h++[.dt ((rC told).map qB)]) (Dt.int 0) (show n<=1000000 by omega);have r2:=SN (h:=h++[.dt ((rC told).map qB)]++[.lst (replicate n (Dt.int 0))]) Dt.non (show n<=1000000 by omega);have t0:replicate n (Dt.int 0)=BC n s0.t:=by unfold BC;rw[show(fun i=>Dt.int (s0.t i))=fun Z=>Dt.int 0 from rfl,map_const',length_range]
 have c0:replicate n Dt.non=mE n s0.c:=by unfold mE;rw[show(fun i=>XE (s0.c i))=fun Z=>Dt.non from rfl,map_const',length_range]
 rw[t0]at r1 r2;rw[c0]at r2;simp only[append_assoc,zfQ,zfP,length_append,zfH,zfI,zxI]at r1 r2;have er:=fun h=>OF (h:=h) (show(-(2^62):Int)<=(n:Int)+1 by omega) (show(n:Int)+1<2^62 by omega)
 have en:((n:Int)+1).toNat=n+1:=by omega
 rw[en]at er;have M:iI h n (rC told) (eE (rC told) 0 s0) (h++[.dt ((rC told).map qB),.lst (BC n s0.t),.lst (mE n s0.c)]):=by
  refine⟨by simp,.inl ?_,?_,?_,fun m hm=>zfS hm⟩
  · rw[zfV (zfU _),Nat.sub_self];rfl
  · rw[zfV (by omega),Nat.add_sub_cancel_left];rfl
  · rw[zfV (by omega),Nat.add_sub_cancel_left];rfl
 rcases XT hn (by omega) hE (some (.int (n:Nat))) (some (.ref a)) ((range (n+1)).map fun(k:Nat)=>Dt.int (k:Int)) 0 none none none _ M (fun h=>absurd h (by omega))with⟨s,h',a1,a2,a3,a4⟩ | ⟨y5,y6,h',a1,a2,a3⟩
 · refine .inl ⟨s.t,h',fun e he=>?_,a3.els,?_⟩
   · obtain⟨x,hx,x1,x2,x3⟩:=(VJ told).low e he;have:=a2 x hx;simp only[uF]at this ⊢;rw[x1,x2]at this;omega
   · simp[EG,MJ,eb,r1,r2,er,a4]
 · rw[length_map,length_range,zxI]at a1 a2;obtain⟨p,ql,rfl⟩:=a2 (by omega);obtain⟨u,D,I,Z⟩:=cT T (fun e he=>dW he) n;obtain⟨k,R,cd⟩:=DZ T I ql;have g:=DW hn (by omega) a1.dc T R cd;refine .inr ⟨(eE (rC told) (n+1) s0).c,WB (nxt (eE (rC told) (n+1) s0).c) n p,k,h'.length,h'++[.lst (aD (eE (rC told) (n+1) s0).c (WB (nxt (eE (rC told) (n+1) s0).c) n p) k)],R,fun m hm=>?_,?_,?_,by rw[a1.len];omega⟩
   · rw[zfS (by rw[a1.len];omega)];exact a1.els m hm
   · rw[zfV (zfU _),Nat.sub_self];rfl
   · simp[EG,MJ,eb,r1,r2,er,a3,g]
theorem sZ{n:Nat}{told:List Bd}{b:Nat->Int}{c:Nat->Option Nat}{P k:Nat}(hb:∀e∈told,b e.1-b e.2.1<=e.2.2)(R:gI n (rC told) (HP told) c P k):False:=by
 have h1:∀i,i<=k->b P-b (WB (nxt c) i P)<=((range i).map fun m=>HP told (WB (nxt c) m P) (WB (nxt c) (m+1) P)).sum:=by
  intro i
  induction i with
  | zero=>intro Z;show b P-b P<=0;omega
  | succ i ih=>intro hi;have h2:=ih (by omega);have h3:=hb _ ((VJ told).mem _ (R.edge i (by omega)).1);rw[range_succ,map_append,sum_append];simp only[zfJ,zfK,sum_cons,sum_nil,Int.add_zero]at h3 ⊢;omega
 have h2:=h1 k (zfU _);rw[R.back]at h2;have:=R.sum;omega
theorem Ib{α:Type}{bd:RG}{n:Nat}{body:RS}(D:α->Dt)(I:LI->HI->Prop)(xs:List α)(hI:∀l h,I l h->h[n]?=some (.lst (xs.map D)))
 (H:∀x∈xs,∀l h,I l h->∃l1 r,bd (D x) l=some l1/\body l1 h=some r/\Pass I r):∀l h,I l h->∃l' h',yE bd body l (.rf n,h)=some (.nx l' h')/\I l' h':=by
 have go:∀(f k:Nat)(l:LI)(h:HI),I l h->f=xs.length-k+1->k<=xs.length->∃l' h',kC bd body (.rf n) f k l h=some (.nx l' h')/\I l' h':=by
  intro f
  induction f with
  | zero=>intro k l h Z e;omega
  | succ f ih=>
   intro k l h i hf hk;have e:=hI l h i;by_cases hlt:k<xs.length
   · obtain⟨l1,r,e1,e2,p⟩:=H xs[k] (getElem_mem hlt) l h i;have ek:(xs.map D)[k]?=some (D xs[k]):=by rw[getElem?_map,getElem?_eq_getElem hlt];rfl
     have eu:kC bd body (.rf n) (f+1) k l h=jB (body l1 h) (DP (kC bd body (.rf n) f (k+1))):=by
      simp only[kC,Src.at,e,ek,e1,zfO];cases body l1 h with
      | none=>rfl
      | some r=>cases r<;>rfl
     rw[eu,e2,iA];cases r with
     | nx l2 h2=>exact ih (k+1) l2 h2 p (by omega) hlt
     | ct l2 h2=>exact ih (k+1) l2 h2 p (by omega) hlt
     | bk l2 h2=>exact p.elim
     | rt d h2=>exact p.elim
   · have ek:(xs.map D)[k]?=none:=getElem?_eq_none (by rw[length_map];omega);exact⟨l,h,by simp only[kC,Src.at,e,ek],i⟩
 intro l h i;have e:=hI l h i;obtain⟨l',h',e1,e2⟩:=go (xs.length+1) 0 l h i (by omega) (zxB _);refine⟨l',h',?_,e2⟩;show kC bd body (.rf n) (Src.fuel (.rf n) h) 0 l h=_;have ef:Src.fuel (.rf n) h=xs.length+1:=by simp only[Src.fuel,e,length_map]
 rw[ef];exact e1
theorem Rx{n:Nat}(hn:1<=n)(t:Nat->Int):(range n).map (eB n t) ≠ []/\fC ((range n).map (eB n t))=0:=by
 have ne:∀g:Nat->Int,(range n).map g ≠ []:=fun g z=>by have:=congrArg List.length z;simp at this;omega
 refine⟨ne _,?_⟩;obtain⟨a1,a2⟩:=fH _ (ne t);obtain⟨b1,b2⟩:=fH _ (ne (eB n t));obtain⟨i,hi,e⟩:=mem_map.mp a1;obtain⟨j,hj,e'⟩:=mem_map.mp b1;have c1:=b2 (eB n t i) (mem_map_of_mem hi);have c2:=a2 (t j) (mem_map_of_mem hj);have d1:eB n t i=0:=by unfold eB;rw[e];omega
 have d2:eB n t j=t j-fC ((range n).map t):=rfl;omega
noncomputable def CC(t a b:Int):Nat:=if t<a then 0 else if t=a then 1 else if t<b then 2 else if t=b then 3 else 4
noncomputable def Ml:List (Nat×Nat):=[(0,0),(0,1),(0,2),(0,3),(0,4),(1,2),(1,3),(1,4),(2,2),(2,3),(2,4),(3,4),(4,4)]
theorem RN{a b c d:Int}(h1:a<b)(h2:c<d):(CC a c d,CC b c d)∈Ml:=by
 unfold CC
 repeat' split
 all_goals first | (exfalso;omega) | decide
noncomputable def pr(p:Nat×Nat):Dt:=.tup [.int (p.1:Int),.int (p.2:Int)]
noncomputable def rF(s:Int×Int):Dt:=.tup [.int s.1,.int s.2]
def RB(s o:Int×Int):Nat:=Ml.idxOf (CC s.1 o.1 o.2,CC s.2 o.1 o.2)
noncomputable def dD(s:Int×Int):Prop:=s.1<s.2
theorem LF{s o:Int×Int}(h1:dD s)(h2:dD o):RB s o<13:=idxOf_lt_length_of_mem (RN h1 h2)
theorem Hz:∀p∈Ml,YI (Ml.map pr) (pr p)=true/\VF (Ml.map pr) (pr p)=some (Ml.idxOf p):=by intro p hp;simp only[Ml,mem_cons,not_mem_nil,or_false]at hp;rcases hp with rfl | rfl | rfl | rfl | rfl | rfl | rfl | rfl | rfl | rfl | rfl | rfl | rfl<;>exact⟨rfl,rfl⟩
noncomputable def vK(n:Nat)(p:Nat->Bool):Nat:=match n with
 | 0=>0
 | n+1=>vK n p+(if p n=true then 2^n else 0)
theorem KU(p:Nat->Bool):∀n,vK n p<2^n
 | 0=>by simp[vK]
 | n+1=>by have:=KU p n;simp only[vK];rw[Nat.pow_succ];split<;>omega
theorem rZ(p:Nat->Bool):∀n k,(vK n p).testBit k=(decide (k<n)&&p k)
 | 0,k=>by simp[vK]
 | n+1,k=>by
  have ih:=rZ p n k;have lt:=KU p n;simp only[vK];by_cases hp:p n=true
  · rw[if_pos hp,Nat.add_comm];rcases Nat.lt_trichotomy k n with h | h | h
    · rw[Nat.testBit_two_pow_add_gt h,ih];simp[h,Nat.lt_succ_of_lt h]
    · subst h;rw[Nat.testBit_two_pow_add_eq,ih];simp[hp]
    · have:2^n+vK n p<2^k:=zxC (show 2^n+vK n p<2^(n+1) by rw[Nat.pow_succ];omega) (Nat.pow_le_pow_right (by decide) h);rw[Nat.testBit_lt_two_pow this];have:¬k<n+1:=by omega
      simp[this]
  · rw[if_neg hp,Nat.add_zero,ih];by_cases h:k=n
    · subst h;simp[hp]
    · have:(k<n+1)=(k<n):=by apply propext;omega
      simp[this]
theorem lH{a b:Nat}(ha:a<8192)(hb:b<8192)(h:∀k<13,a.testBit k=b.testBit k):a=b:=by
 apply Nat.eq_of_testBit_eq;intro k;by_cases hk:k<13
 · exact h k hk
 · have hp:8192<=2^k:=by have:=Nat.pow_le_pow_right (show 1<=2 by decide) (show 13<=k by omega);exact this
   rw[Nat.testBit_lt_two_pow (by omega),Nat.testBit_lt_two_pow (by omega)]
def mk(p:Nat->Bool):Nat:=vK 13 p
theorem W7(p:Nat->Bool):mk p<8192:=KU p 13
theorem Xr(p:Nat->Bool){k:Nat}(hk:k<13):(mk p).testBit k=p k:=by unfold mk;rw[rZ];simp[hk]
noncomputable def JA(m:Nat):List Nat:=(range 13).filter m.testBit
theorem Um{m k:Nat}:k∈JA m↔k<13/\m.testBit k=true:=by simp[JA]
theorem Aq(g:Nat->Int)(p:Nat->Bool)(xs:List Nat):((xs.filter p).map g).sum=(xs.map fun k=>if p k=true then g k else 0).sum:=by
 induction xs with
 | nil=>rfl
 | cons x xs ih=>by_cases h:p x=true<;>simp[h,ih]
theorem UY(p:Nat->Bool):((((range 13).filter p).map fun k=>(2:Int)^(12-k))).sum=(mk (fun j=>p (12-j)):Int):=by
 rw[Aq];simp only[mk,vK,range,range.loop,zfJ,zfK,sum_cons,sum_nil,Nat.reduceSub];generalize p 0=a0;generalize p 1=a1;generalize p 2=a2;generalize p 3=a3;generalize p 4=a4;generalize p 5=a5;generalize p 6=a6;generalize p 7=a7;generalize p 8=a8;generalize p 9=a9;generalize p 10=a10;generalize p 11=a11;generalize p 12=a12;have f:∀(b:Bool)(k:Nat),(if b=true then(2:Int)^k else 0)=((if b=true then 2^k else 0:Nat):Int):=by intro b k;cases b<;>simp
 simp only[f];omega
def Dl(m:Nat):Nat:=mk fun j=>m.testBit (12-j)
theorem oH(m:Nat):Dl m<8192:=W7 _
theorem UE(m:Nat){k:Nat}(hk:k<13):(Dl m).testBit k=m.testBit (12-k):=Xr _ hk
theorem XN{m:Nat}(hm:m<8192):Dl (Dl m)=m:=lH (oH _) hm fun k hk=>by
 rw[UE _ hk,UE _ (by omega)]
 congr 1
 omega
theorem KJ(a b:Nat):Builtin.bitAnd (a:Int) (b:Int)=((a&&&b:Nat):Int):=by unfold Builtin.bitAnd;simp
theorem yO(a b:Nat):Builtin.bitOr (a:Int) (b:Int)=((a|||b:Nat):Int):=by
 unfold Builtin.bitOr Builtin.bitAnd Builtin.bitNot;have h1:decide (0<=-(a:Int)-1)=false:=by simp;omega
 have h2:decide (0<=-(b:Int)-1)=false:=by simp;omega
 have e:∀x:Int,-(-x-1)-1=x:=by intro x;omega
 simp only[h1,h2,e];simp
theorem GO(m k:Nat):decide (Builtin.bitAnd ((m:Int)/2^k) 1=1)=m.testBit k:=by
 have e:((m:Int)/2^k)=((m/2^k:Nat):Int):=by simp
 rw[e];have:=KJ (m/2^k) 1;simp only[Int.cast_ofNat_Int]at this;rw[this,Nat.testBit_eq_decide_div_mod_eq];have e2:(m/2^k&&&1)=m/2^k%2:=Nat.and_one_is_mod _;rw[e2]
 congr 1
 apply propext;omega
theorem fJ{k:Nat}(hk:k<13):vH 1 (k:Int):=⟨by omega,by omega,by decide⟩
theorem N4(h:HI):v3 (.int 13,h)=some (.vals ((range 13).map fun(k:Nat)=>Dt.int (k:Int)),h):=OF (by decide) (by decide)
theorem Kd{α:Type}(f:Nat->α):((range 13).map f).length<sizeLine:=by rw[length_map,length_range];decide
theorem C4{i:Nat}(h:i<13):i=0\/i=1\/i=2\/i=3\/i=4\/i=5\/i=6\/i=7\/i=8\/i=9\/i=10\/i=11\/i=12:=by revert i;decide
theorem uL(m:Nat):(JA m).length<=13:=by unfold JA;exact zxA (length_filter_le _ _) (by simp)
theorem iL(m:Nat)(h:HI):iH [.int m] h=some (.lst ((JA m).map fun(k:Nat)=>Dt.int (k:Int)),h):=by
 have ec:=mO (te:=JR) (tc:=KR) (i:=0) (fun(k:Nat)=>Dt.int (k:Int)) m.testBit (fun(k:Nat)=>Dt.int (k:Int)) h (range 13) [none,some (.int m)] fun k Z=>⟨by
  simp[KR,qP,GO],fun Z=>by simp[JR]⟩
 simp[iH,qS,N4,YF _ _ _ (Kd _),ec,JA]
theorem Iz(ks:List Nat)(hk:∀k∈ks,k<13)(hl:ks.length<=13)(h:HI):iO [.lst (ks.map fun(k:Nat)=>Dt.int (k:Int))] h=some (.int ((ks.map fun k=>(2:Int)^k).sum),h):=by
 have ec:=PH (te:=jS) (tc:=VB) (i:=0) (fun(k:Nat)=>Dt.int (k:Int)) (fun(k:Nat)=>Dt.int ((2:Int)^k)) h ks [none] fun k hm=>⟨rfl,by
  simp[jS,cK (fJ (hk k hm))]⟩
 have hs:((ks.map fun(k:Nat)=>Dt.int (k:Int))).length<sizeLine:=by rw[length_map];exact zxF hl (by decide)
 have es:=F5 (h:=h) (ks.map fun k=>(2:Int)^k);rw[map_map]at es;have:(Dt.int ∘ fun k=>(2:Int)^k)=fun(k:Nat)=>Dt.int ((2:Int)^k):=rfl
 rw[this]at es;simp[iO,uT,YF _ _ _ hs,ec,es]
theorem Kz(m:Nat)(h:HI):jO [.int m] h=some (.int (Dl m),h):=by
 have ec:=PH (te:=XR) (tc:=VB) (i:=0) (fun(k:Nat)=>Dt.int (k:Int)) (fun(k:Nat)=>Dt.int (((12-k:Nat):Nat):Int)) h (JA m) [none] fun k hm=>⟨rfl,by
  have:=(Um.mp hm).1;simp[XR];omega⟩
 have hs:((JA m).map fun(k:Nat)=>Dt.int (k:Int)).length<sizeLine:=by rw[length_map];exact zxF (uL m) (by decide)
 have es:=Iz ((JA m).map fun k=>12-k) (by intro k hk;obtain⟨j,Z,rfl⟩:=mem_map.mp hk;omega) (by rw[length_map];exact uL m) h;rw[map_map,map_map]at es;have e1:((fun(k:Nat)=>Dt.int (k:Int)) ∘ fun k=>12-k)=fun(k:Nat)=>Dt.int (((12-k:Nat):Nat):Int):=rfl
 have e2:((fun(k:Nat)=>(2:Int)^k) ∘ fun k=>12-k)=fun(k:Nat)=>(2:Int)^(12-k):=rfl
 have e3:((JA m).map fun k=>(2:Int)^(12-k)).sum=(Dl m:Int):=UY _;rw[e1,e2,e3]at es;simp[jO,vT,iL,YF _ _ _ hs,ec,es]
theorem Jq(t a b:Int)(hab:a<b):(t<a/\CC t a b=0)\/(t=a/\CC t a b=1)\/(a<t/\t<b/\CC t a b=2)\/(t=b/\CC t a b=3)\/(b<t/\CC t a b=4):=by
 unfold CC
 rcases Int.lt_trichotomy t a with h|h|h
 · exact .inl ⟨h,if_pos h⟩
 · exact .inr (.inl ⟨h,by rw[h,if_neg (Int.lt_irrefl _),if_pos rfl]⟩)
 · rw[if_neg (Int.lt_asymm h),if_neg (Int.ne_of_gt h)]
   rcases Int.lt_trichotomy t b with g|g|g
   · exact .inr (.inr (.inl ⟨h,g,if_pos g⟩))
   · exact .inr (.inr (.inr (.inl ⟨g,by rw[g,if_neg (Int.lt_irrefl _),if_pos rfl]⟩)))
   · exact .inr (.inr (.inr (.inr ⟨g,by rw[if_neg (Int.lt_asymm g),if_neg (Int.ne_of_gt g)]⟩)))
theorem vg{w:Nat}(hw:w<13):Dl (2^w)=2^(12-w):=by
 have h1:2^(12-w)<8192:=zxF (Nat.pow_le_pow_right (by decide) (show 12-w<=12 by omega)) (by decide);refine lH (oH _) h1 fun k hk=>?_
 rw[UE _ hk,zxH,zxH]
 congr 1
 apply propext;omega
noncomputable def L1(ns:List Int):List Nat:=0::8191::ns.map fun c=>(c%8192).toNat
theorem Tn{ns:List Int}{m:Nat}(h:m∈L1 ns):m<8192:=by
 simp only[L1,mem_cons,mem_map]at h;rcases h with rfl | rfl | ⟨c,_,rfl⟩
 · decide
 · decide
 · have:=Int.emod_lt_of_pos c (show(0:Int)<8192 by decide);have:=Int.emod_nonneg c (show(8192:Int)≠0 by decide);omega
def CH(i j:Nat):Nat:=match jl[i]? with
 | some (.tup r)=>(match r[j]? with
  | some (.int n)=>n.toNat
  | _=>0)
 | _=>0
noncomputable def F4:Dt->Nat
 | .int n=>n.toNat
 | _=>0
def JM:Dt->List Nat
 | .tup r=>r.map F4
 | _=>[]
theorem Ef:jl=(jl.map JM).map fun r=>.tup (r.map fun n:Nat=>.int (n:Int)):=by rfl
theorem u6:(jl.map JM).length=13/\∀r∈jl.map JM,r.length=13:=by decide +kernel
theorem w6{i j:Nat}(hi:i<13)(hj:j<13):∃r,jl[i]?=some (.tup r)/\r[j]?=some (.int (CH i j)):=by
 obtain⟨N,hN⟩:∃N,jl.map JM=N:=⟨_,rfl⟩
 have T:=Ef;have T2:=u6;rw[hN]at T T2;have hi':i<N.length:=by rw[T2.1];exact hi
 have e1:jl[i]?=some (.tup (N[i].map fun n:Nat=>.int (n:Int))):=by rw[T,getElem?_map,getElem?_eq_getElem hi'];rfl
 have hj':j<N[i].length:=by rw[T2.2 _ (getElem_mem hi')];exact hj
 have e2:(N[i].map fun n:Nat=>Dt.int (n:Int))[j]?=some (.int (N[i][j]:Int)):=by rw[getElem?_map,getElem?_eq_getElem hj'];rfl
 refine⟨_,e1,?_⟩;rw[e2];unfold CH;rw[e1];dsimp only;rw[e2];rfl
theorem Df:∀i<13,∀j<13,1<=CH i j/\CH i j<8192:=by decide +kernel
theorem HY:∀i<13,∀j<13,∀k<13,(CH (12-j) (12-i)).testBit (12-k)=(CH i j).testBit k:=by decide +kernel
noncomputable def rk(l:List Int)(x:Int):Nat:=match l with
 | []=>0
 | z::l=>(if z<x then 1 else 0)+rk l x
theorem Z1{x y:Int}(h:x<=y):∀l,rk l x<=rk l y
 | []=>zfU _
 | z::l=>by have:=Z1 h l;unfold rk;split<;>split<;>omega
theorem bI{x y:Int}(h:x<y):∀l,x∈l->rk l x<rk l y
 | z::l,m=>by
  unfold rk;rcases mem_cons.mp m with rfl | m
  · have:=Z1 (Int.le_of_lt h) l;rw[if_neg (Int.lt_irrefl _),if_pos h];omega
  · have:=bI h l m;split<;>split<;>omega
theorem QO{x:Int}:∀l,x∈l->rk l x<l.length
 | z::l,m=>by
  have q:∀l,rk l x<=l.length:=by
   intro l;induction l with
   | nil=>exact zfU _
   | cons z l ih=>unfold rk;rw[zfH];split<;>omega
  unfold rk;rw[zfH];rcases mem_cons.mp m with rfl | m
  · have:=q l;rw[if_neg (Int.lt_irrefl _)];omega
  · have:=QO l m;split<;>omega
theorem LX{l:List Int}{x y:Int}(hx:x∈l)(hy:y∈l):(x<y)=((rk l x:Int)<(rk l y:Int)):=by
 apply propext;constructor
 · intro h;have:=bI h l hx;omega
 · intro h;rcases Int.lt_trichotomy x y with g | g | g
   · exact g
   · subst g;omega
   · have:=bI g l hy;omega
theorem JX{l:List Int}{x y:Int}(hx:x∈l)(hy:y∈l):(x=y)=((rk l x:Int)=(rk l y:Int)):=by
 apply propext;constructor
 · intro h;rw[h]
 · intro h;rcases Int.lt_trichotomy x y with g | g | g
   · have:=bI g l hx;omega
   · exact g
   · have:=bI g l hy;omega
theorem QJ{l:List Int}{t a b:Int}(ht:t∈l)(ha:a∈l)(hb:b∈l):CC t a b=CC (rk l t) (rk l a) (rk l b):=by unfold CC;simp only[LX ht ha,JX ht ha,LX ht hb,JX ht hb]
noncomputable def cI(t a b:Nat):Nat:=if t<a then 0 else if t=a then 1 else if t<b then 2 else if t=b then 3 else 4
theorem n6(t a b:Nat):CC t a b=cI t a b:=by unfold CC cI;simp only[Int.ofNat_lt,Int.ofNat_inj]
noncomputable def DK(z y:Nat):Nat:=[0,3,6,7,8].getD z 0+y
theorem Q7:∀z<5,∀y<5,(z,y)∈Ml->Ml.idxOf (z,y)=DK z y:=by decide +kernel
theorem Tz:∀b<6,∀a<b,∀d<6,∀c<d,∀q<6,∀p<q,
 (CH (DK (cI a c d) (cI b c d)) (DK (cI c p q) (cI d p q))).testBit (DK (cI a p q) (cI b p q))=true:=by decide +kernel
theorem W0(t a b:Int):CC t a b<5:=by
 unfold CC
 repeat' split
 all_goals decide
theorem BX{s o t:Int×Int}(h1:dD s)(h2:dD o)(h3:dD t):(CH (RB s o) (RB o t)).testBit (RB s t)=true:=by
 obtain⟨a,b⟩:=s;obtain⟨c,d⟩:=o;obtain⟨p,q⟩:=t;unfold dD at h1 h2 h3;simp only at h1 h2 h3;have W:∀{a b c d:Int},a<b->c<d->RB (a,b) (c,d)=DK (CC a c d) (CC b c d):=fun g1 g2=>Q7 _ (W0 _ _ _) _ (W0 _ _ _) (RN g1 g2)
 rw[W h1 h2,W h2 h3,W h1 h3];have ma:a ∈ [a,b,c,d,p,q]:=by simp
 have mb:b ∈ [a,b,c,d,p,q]:=by simp
 have mc:c ∈ [a,b,c,d,p,q]:=by simp
 have md:d ∈ [a,b,c,d,p,q]:=by simp
 have mp:p ∈ [a,b,c,d,p,q]:=by simp
 have mq:q ∈ [a,b,c,d,p,q]:=by simp
 have k1:=bI h1 _ ma;have k2:=bI h2 _ mc;have k3:=bI h3 _ mp;have t1:=QO _ mb;have t2:=QO _ md;have t3:=QO _ mq;rw[QJ ma mc md,QJ mb mc md,QJ mc mp mq,QJ md mp mq,QJ ma mp mq,QJ mb mp mq];generalize rk [a,b,c,d,p,q] a=a' at *;generalize rk [a,b,c,d,p,q] b=b' at *;generalize rk [a,b,c,d,p,q] c=c' at *;generalize rk [a,b,c,d,p,q] d=d' at *;generalize rk [a,b,c,d,p,q] p=p' at *;generalize rk [a,b,c,d,p,q] q=q' at *;simp only[n6];exact Tz _ t1 _ k1 _ t2 _ k2 _ t3 _ k3
theorem Jy:∀i<13,∀j<13,(CH i j).testBit 6=true->j=12-i:=by decide +kernel
theorem yg{s:Int×Int}(h:dD s):RB s s=6:=by obtain⟨a,b⟩:=s;have h:a<b:=h;unfold RB CC;simp[h,Int.ne_of_gt h,show ¬b<a by omega];rfl
theorem zN{s o:Int×Int}(h1:dD s)(h2:dD o):RB o s=12-RB s o:=by have:=BX h1 h2 h1;rw[yg h1]at this;exact Jy _ (LF h1 h2) _ (LF h2 h1) this
noncomputable def eM(f:Nat->Nat)(xs:List Nat)(a:Nat):Nat:=xs.foldl (fun acc x=>acc|||f x) a
theorem xZ(f:Nat->Nat)(k:Nat):∀(xs:List Nat)(a:Nat),(eM f xs a).testBit k=(a.testBit k || xs.any fun x=>(f x).testBit k)
 | [],a=>by simp[eM]
 | x::xs,a=>by have:=xZ f k xs (a|||f x);unfold eM at this ⊢;rw[foldl_cons,this];simp[Nat.testBit_or,Bool.or_assoc]
theorem MZ(f:Nat->Nat):∀(xs:List Nat)(a:Nat),a<8192->(∀x∈xs,f x<8192)->eM f xs a<8192
 | [],a,ha,_=>ha
 | x::xs,a,ha,h=>by unfold eM;rw[foldl_cons];exact MZ f xs (a|||f x) (Nat.or_lt_two_pow (n:=13) ha (h x (by simp))) fun y hy=>h y (by simp[hy])
def mK(a b:Nat):Nat:=(JA a).foldl (fun acc i=>eM (CH i) (JA b) acc) 0
theorem KW(b k:Nat):∀(xs:List Nat)(a:Nat),(xs.foldl (fun acc i=>eM (CH i) (JA b) acc) a).testBit k=(a.testBit k || xs.any fun i=>(JA b).any fun j=>(CH i j).testBit k)
 | [],a=>by simp
 | x::xs,a=>by rw[foldl_cons,KW b k xs,xZ];simp[Bool.or_assoc]
theorem EL(a b k:Nat):(mK a b).testBit k=true↔∃i j,i<13/\a.testBit i=true/\j<13/\b.testBit j=true/\(CH i j).testBit k=true:=by
 unfold mK;rw[KW];simp only[Nat.zero_testBit,Bool.false_or,any_eq_true,Um];constructor
 · rintro⟨i,⟨h1,h2⟩,j,⟨h3,h4⟩,h5⟩;exact⟨i,j,h1,h2,h3,h4,h5⟩
 · rintro⟨i,j,h1,h2,h3,h4,h5⟩;exact⟨i,⟨h1,h2⟩,j,⟨h3,h4⟩,h5⟩
theorem qX(b:Nat):∀(xs:List Nat)(a:Nat),a<8192->(∀i∈xs,i<13)->xs.foldl (fun acc i=>eM (CH i) (JA b) acc) a<8192
 | [],a,ha,_=>ha
 | x::xs,a,ha,h=>by rw[foldl_cons];exact qX b xs _ (MZ _ _ _ ha fun j hj=>(Df x (h x (by simp)) j (Um.mp hj).1).2) fun y hy=>h y (by simp[hy])
theorem Lf(a b:Nat):mK a b<8192:=qX b _ 0 (by decide) fun i hi=>(Um.mp hi).1
theorem Wz{a b:Bool}(h:a=true↔b=true):a=b:=by cases a<;>cases b<;>simp_all
theorem Lg{a b:Nat}(ha:a<8192)(hb:b<8192)(h:∀k<13,a.testBit k=true↔b.testBit k=true):a=b:=lH ha hb fun k hk=>Wz (h k hk)
theorem Bv(a b:Nat):mK (Dl b) (Dl a)=Dl (mK a b):=by
 refine Lg (Lf _ _) (oH _) fun k hk=>?_
 rw[UE _ hk,EL,EL];constructor
 · rintro⟨i,j,h1,h2,h3,h4,h5⟩;rw[UE _ h1]at h2;rw[UE _ h3]at h4;refine⟨12-j,12-i,by omega,h4,by omega,h2,?_⟩;have:=HY i h1 j h3 k hk;rw[this];exact h5
 · rintro⟨i,j,h1,h2,h3,h4,h5⟩;refine⟨12-j,12-i,by omega,?_,by omega,?_,?_⟩
   · rw[UE _ (by omega),show 12-(12-j)=j by omega];exact h4
   · rw[UE _ (by omega),show 12-(12-i)=i by omega];exact h2
   · have:=HY i h1 j h3 (12-k) (by omega);rw[show 12-(12-k)=k by omega]at this;rw[this];exact h5
theorem Yy{i:Nat}(hi:i<13)(b acc:Nat)(x y z:Option Dt)(h:HI):∃z',gN [x,y,some (.lst ((JA b).map fun(k:Nat)=>Dt.int (k:Int))),some (.int acc),some (.int i),z] h=some (.nx [x,y,some (.lst ((JA b).map fun(k:Nat)=>Dt.int (k:Int))),some (.int (eM (CH i) (JA b) acc)),some (.int i),z'] h):=by
 obtain⟨l',h',e,⟨z',rfl⟩,rfl⟩:=IS (i:=5) (body:=xQ) (fun(k:Nat)=>Dt.int (k:Int)) (fun(a:Nat) l h'=>(∃z',l=[x,y,some (.lst ((JA b).map fun(k:Nat)=>Dt.int (k:Int))),some (.int a),some (.int i),z'])/\h'=h) (fun a j=>a|||CH i j) (JA b) (by
  rintro j hj a l h ⟨⟨z',rfl⟩,rfl⟩;obtain⟨r,e1,e2⟩:=w6 hi (Um.mp hj).1;refine⟨.nx [x,y,some (.lst ((JA b).map fun(k:Nat)=>Dt.int (k:Int))),some (.int ((a|||CH i j:Nat):Int)),some (.int i),some (.int j)] h,?_,⟨_,rfl⟩,rfl⟩;simp[xQ,e1,e2,yO]) acc [x,y,some (.lst ((JA b).map fun(k:Nat)=>Dt.int (k:Int))),some (.int acc),some (.int i),z] h ⟨⟨z,rfl⟩,rfl⟩
 refine⟨z',?_⟩;simp[gN,e];rfl
theorem e9(a b:Nat)(h:HI):rN [.int a,.int b] h=some (.int (mK a b),h):=by
 obtain⟨l',h',e,⟨z,w,rfl⟩,rfl⟩:=IS (i:=4) (body:=gN) (fun(k:Nat)=>Dt.int (k:Int)) (fun(c:Nat) l h'=>(∃z w,l=[some (.int a),some (.int b),some (.lst ((JA b).map fun(k:Nat)=>Dt.int (k:Int))),some (.int c),z,w])/\h'=h) (fun acc i=>eM (CH i) (JA b) acc) (JA a) (by
  rintro i hi c l h ⟨⟨z,w,rfl⟩,rfl⟩;obtain⟨z',e⟩:=Yy (Um.mp hi).1 b c (some (.int a)) (some (.int b)) w h;exact⟨_,e,⟨_,_,rfl⟩,rfl⟩) 0 [some (.int a),some (.int b),some (.lst ((JA b).map fun(k:Nat)=>Dt.int (k:Int))),some (.int 0),none,none] h ⟨⟨none,none,rfl⟩,rfl⟩
 simp[rN,SQ,iL,e];rfl
noncomputable def eD(c:Nat)(g:Nat->Nat):List Dt:=(range c).map fun(j:Nat)=>Dt.int (g j:Nat)
noncomputable def XF(b c:Nat):List Dt:=(range c).map fun(k:Nat)=>Dt.ref (b+k)
structure Bm(h:HI)(b c:Nat)(f:Nat->Nat->Nat):Prop where
 row:∀i<c,h[b+i]?=some (.lst (eD c (f i)))
 top:h[b+c]?=some (.lst (XF b c))
def MD(b c:Nat)(f:Nat->Nat->Nat):HI:=((range c).map fun i=>Ob.lst (eD c (f i)))++[.lst (XF b c)]
theorem Bm.lt{h:HI}{b c:Nat}{f:Nat->Nat->Nat}(N:Bm h b c f):b+c<h.length:=(zfR N.top).1
theorem Bm.grow{h:HI}{b c:Nat}{f:Nat->Nat->Nat}(N:Bm h b c f)(e:HI):Bm (h++e) b c f:=by have:=N.lt;exact⟨fun i hi=>by rw[zfS (by omega)];exact N.row i hi,by rw[zfS (by omega)];exact N.top⟩
theorem gH(h:HI)(c:Nat)(f:Nat->Nat->Nat):Bm (h++MD h.length c f) h.length c f:=by
 constructor
 · intro i hi;rw[zfV (by omega)];unfold MD;rw[zfS (by simp;omega)];simp[hi]
 · rw[zfV (by omega)];unfold MD;rw[zfV (by simp)];simp
theorem fO(c:Nat)(g:Nat->Nat):(eD c g).length=c:=by simp[eD]
theorem uO(b c:Nat):(XF b c).length=c:=by simp[XF]
theorem zL{c j:Nat}(hj:j<c)(g:Nat->Nat):(eD c g)[j]?=some (.int (g j:Nat)):=by simp[eD,hj]
theorem tO{b c j:Nat}(hj:j<c):(XF b c)[j]?=some (.ref (b+j)):=by simp[XF,hj]
theorem Uq{c:Nat}{g g':Nat->Nat}(e:∀j<c,g j=g' j):eD c g=eD c g':=map_congr_left fun j hj=>by rw[e j (mem_range.mp hj)]
theorem Uw{c j:Nat}(g:Nat->Nat)(v:Nat):(eD c g).set j (.int (v:Nat))=eD c (fun x=>if x=j then v else g x):=by
 apply ext_getElem?;intro k;rw[getElem?_set];simp only[eD,length_map,length_range,getElem?_map];by_cases hk:k<c
 · rw[getElem?_range hk];by_cases hj:j=k
   · subst hj;simp[hk]
   · have:¬k=j:=fun z=>hj z.symm
     simp[hj,this]
 · rw[getElem?_eq_none (by simpa using hk)];split
   · have:¬j<c:=by omega
     simp[this]
   · rfl
theorem Bm.congr{h:HI}{b c:Nat}{f g:Nat->Nat->Nat}(N:Bm h b c f)(e:∀i<c,∀j<c,f i j=g i j):Bm h b c g:=
 ⟨fun i hi=>by rw[<- Uq (e i hi)];exact N.row i hi,N.top⟩
noncomputable def NB(f:Nat->Nat->Nat)(i j v:Nat):Nat->Nat->Nat:=fun a b=>if a=i then(if b=j then v else f a b)else f a b
theorem Bm.other{h:HI}{b c:Nat}{f:Nat->Nat->Nat}(N:Bm h b c f){n:Nat}(hn:n<b\/b+c<n)(o:Ob):Bm (h.set n o) b c f:=
 ⟨fun i hi=>by rw[getElem?_set_ne (by omega)];exact N.row i hi,by rw[getElem?_set_ne (by omega)];exact N.top⟩
theorem Bm.ix{h:HI}{b c:Nat}{f:Nat->Nat->Nat}(N:Bm h b c f){i:Nat}(hi:i<c):rA (.ref (b+c)) (.int (i:Nat)) h=some (.ref (b+i),h):=by rw[oE N.top,SM.ZC,tO hi];rfl
theorem Bm.ix2{h:HI}{b c:Nat}{f:Nat->Nat->Nat}(N:Bm h b c f){i j:Nat}(hi:i<c)(hj:j<c):rA (.ref (b+i)) (.int (j:Nat)) h=some (.int (f i j:Nat),h):=by rw[oE (N.row i hi),SM.ZC,zL hj];rfl
theorem Bm.len{h:HI}{b c:Nat}{f:Nat->Nat->Nat}(N:Bm h b c f):EC (.ref (b+c)) h=some (.int (c:Nat),h):=by rw[rH N.top,uO]
theorem Bm.seq{h:HI}{b c:Nat}{f:Nat->Nat->Nat}(N:Bm h b c f):YG (.ref (b+c),h)=some (.rf (b+c),h):=jE N.top
theorem Bm.len1{h:HI}{b c:Nat}{f:Nat->Nat->Nat}(N:Bm h b c f){i:Nat}(hi:i<c):EC (.ref (b+i)) h=some (.int (c:Nat),h):=by rw[rH (N.row i hi),fO]
theorem jq{i n:Nat}{xs:List Dt}:∀(l:LI)(h:HI)(b:Dt)(h':HI),UC ZE (eV i) l h=some (b,h')->h[n]?=some (.lst xs)->h'[n]?=some (.lst xs):=by
 intro l h b h' e q;have hn:=(zfR q).1;rw[RC,oA]at e;cases z:l[i]? with
 | none=>rw[z]at e;simp[nI]at e
 | some o=>
  rw[z]at e;cases o with
  | none=>simp[nI]at e
  | some d=>
   simp only[pA,iA,ZE]at e;cases y:QD h d with
   | none=>rw[y]at e;cases e
   | some ys=>rw[y]at e;simp only[zfN,Option.some.injEq,Prod.mk.injEq]at e;obtain⟨Z,rfl⟩:=e;rw[zfS hn];exact q
theorem WX{n:Nat}{xs:List Dt}:∀(l:LI)(h:HI)(b:Bool)(h':HI),VB l h=some (b,h')->h[n]?=some (.lst xs)->h'[n]?=some (.lst xs):=by intro l h b h' e q;simp only[DO,Option.some.injEq,Prod.mk.injEq]at e;rw[<- e.2];exact q
theorem sX{te:RE}(ht:te=UC ZE (eV 0)){h:HI}{b c:Nat}{f:Nat->Nat->Nat}(N:Bm h b c f)(hc:c<=1000)(l:LI)(hl:0<l.length):tF (DA 0) VB te l (.rf (b+c),h)=some (XF h.length c,h++(range c).map fun i=>Ob.lst (eD c (f i))):=by
 subst ht;rw[AT N.top (by rw[uO];simp;omega) WX jq];have:=xS (te:=UC ZE (eV 0)) (i:=0) (fun(k:Nat)=>Dt.ref (b+k)) (fun i=>Ob.lst (eD c (f i))) h (range c) l [] (by
  intro k hk e;have hk:=mem_range.mp hk;have q:=(N.grow e).row k hk;rw[RC,oA,getElem?_set_self hl,pA,iA];simp only[ZE,QD,OB,q,zfN])
 rw[zfW,length_range]at this;exact this
theorem yT{α:Type}{F:Dt->Option Dt}(D E:α->Dt):∀(xs:List α),(∀x∈xs,F (D x)=some (E x))->QC F (xs.map D)=some (xs.map E)
 | [],_=>rfl
 | x::xs,H=>by simp only[zfJ,QC,H x (by simp),zfO,yT D E xs fun y hy=>H y (by simp[hy]),zfN]
noncomputable def hC(i j:Nat):Nat:=if i=j then 64 else 8191
theorem aX(b c:Nat)(f:Nat->Nat->Nat):(MD b c f).length=c+1:=by simp[MD]
theorem bX(h:HI){c i:Nat}(hi:i<c)(f:Nat->Nat->Nat)(j v:Nat):(h++MD h.length c f).set (h.length+i) (.lst ((eD c (f i)).set j (.int (v:Nat))))=h++MD h.length c (NB f i j v):=by
 rw[set_append_right _ _ (by omega),Nat.add_sub_cancel_left]
 congr 1
 unfold MD;rw[set_append_left _ _ (by simpa using hi)]
 congr 1
 apply ext_getElem?;intro k;rw[getElem?_set];simp only[length_map,length_range,getElem?_map];by_cases hk:k<c
 · rw[getElem?_range hk];by_cases e:i=k
   · subst e;have:(fun x=>if x=j then v else f i x)=NB f i j v i:=by funext x;simp[NB]
     simp[hi,Uw,this]
   · have:¬k=i:=by omega
     have q:NB f i j v k=f k:=by funext x;simp[NB,this]
     simp[e,q]
 · rw[getElem?_eq_none (by simpa using hk)];have:¬i=k:=by omega
   simp[this]
theorem Jh(f:Nat->Nat->Nat)(i j v:Nat):NB f i j v i j=v:=by simp[NB]
def KB(f:Nat->Nat->Nat)(i m j:Nat):Nat->Nat->Nat:=NB (NB f i j (f i j&&&m)) j i (Dl (f i j&&&m))
theorem JN{h:HI}{b c:Nat}{f:Nat->Nat->Nat}(N:Bm h b c f)(hc:c<=1000){i j:Nat}(hi:i<c)(hj:j<c)(m:Nat) :
 AI [.ref (b+c),.int (i:Nat),.int (m:Nat),.int (j:Nat)] h=some (.ref (h.length+c),h++MD h.length c (KB f i m j)):=by
 have e1:=sX (te:=wW) rfl N hc [none] (by simp);have N1:=N.grow (MD h.length c f);have M1:=gH h c f;have M2:=gH h c (NB f i j (f i j&&&m));have p1:=bX h hi f j (f i j&&&m);have p2:=bX h hj (NB f i j (f i j&&&m)) i (Dl (f i j&&&m));have t1:=Kz (f i j&&&m) (h++MD h.length c (NB f i j (f i j&&&m)));have r1:=fun(l:LI)=>AL (l:=l) (v:=.int ((f i j&&&m:Nat):Nat)) (M1.row i hi) (show j<(eD c (f i)).length by rw[fO];exact hj)
 have r2:=fun(l:LI)=>AL (l:=l) (v:=.int ((Dl (f i j&&&m):Nat):Nat)) (M2.row j hj) (show i<(eD c (NB f i j (f i j&&&m) j)).length by rw[fO];exact hi)
 have x2:=M2.ix2 hi hj;rw[Jh]at x2;have en:(h++(range c).map fun i=>Ob.lst (eD c (f i)))++[Ob.lst (XF h.length c)]=h++MD h.length c f:=by rw[append_assoc];rfl
 have el:(h++(range c).map fun i=>Ob.lst (eD c (f i))).length=h.length+c:=by simp
 simp only[AI,eS,rB,OA,YA,fT,CD,oA,zfJ,zfK,zfQ,zfP,zfH,zfI,zfF,zfG,pA,iA,N.seq,KF,MF,e1,en,el,QA,if_true,Nat.reduceSub,Nat.reduceAdd,replicate,zfM,zfL,sU,yA,N1.ix hi,N1.ix2 hi hj,M1.ix hi,sH,KJ,r1,p1,gB,UA,KA,M2.ix hi,x2,zfW,t1,M2.ix hj,r2,p2,yB,BB];rfl
theorem Kr(c:Nat)(g:Nat->Nat)(z:Nat){h:HI}{n:Nat}(e:h[n]?=some (.lst (eD c g))):GH false (.int (z:Nat)) (.ref n) h=some (.bl ((range c).any fun j=>g j==z),h):=by
 have f1:∀xs:List Nat,cF (xs.map fun(j:Nat)=>Dt.int (g j:Nat))=some (xs.map fun(j:Nat)=>V.int (g j:Nat)):=by
  intro xs
  induction xs with
  | nil=>rfl
  | cons x xs ih=>simp[cF,aE,ih]
 have f2:dM (V.int (z:Nat)) ((range c).map fun(j:Nat)=>V.int (g j:Nat))=(range c).any fun j=>g j==z:=by
  unfold dM;rw[any_map]
  congr 1
  funext j
  simp only[Function.comp];unfold oK;by_cases q:g j=z
  · simp[q]
  · have:(g j:Int)≠(z:Int):=by omega
    show((g j:Int)==(z:Int))=(g j==z);rw[beq_eq_false_iff_ne.mpr this,beq_eq_false_iff_ne.mpr q]
 simp only[GH,aE,QD,OB,e,zfO,eD,f1,f2];simp
noncomputable def iC(c:Nat)(f:Nat->Nat->Nat):Bool:=(range c).any fun i=>(range c).any fun j=>f i j==0
theorem Vh{n:Nat}{xs:List Dt}(a:Dt)(i:Nat):∀(l:LI)(h:HI)(b:Dt)(h':HI),e2 (GH false) (eC a) (eV i) l h=some (b,h')->h[n]?=some (.lst xs)->h'[n]?=some (.lst xs):=by
 intro l h b h' e q;rw[yA,xA,iA,oA]at e;cases z:l[i]? with
 | none=>rw[z]at e;simp[nI]at e
 | some o=>
  rw[z]at e;cases o with
  | none=>simp[nI]at e
  | some d=>
   simp only[pA,iA,GH]at e;cases z1:aE a with
   | none=>rw[z1]at e;cases e
   | some a1=>
    rw[z1]at e;cases z2:QD h d with
    | none=>rw[z2]at e;cases e
    | some a2=>
     rw[z2]at e;cases z3:cF a2 with
     | none=>simp[z3]at e
     | some a3=>simp only[zfO,z3,Option.some.injEq,Prod.mk.injEq]at e;rw[<- e.2];exact q
theorem Fv{te:RE}(ht:te=e2 (GH false) (eC (.int 0)) (eV 0)){h:HI}{b c:Nat}{f:Nat->Nat->Nat}(N:Bm h b c f)(hc:c<=1000):tF (DA 0) VB te [none] (.rf (b+c),h)=some (((range c).map fun i=>(range c).any fun j=>f i j==0).map Dt.bl,h):=by
 subst ht;rw[AT N.top (by rw[uO];simp;omega) WX (Vh _ _)];have:=PH (te:=e2 (GH false) (eC (.int 0)) (eV 0)) (tc:=VB) (i:=0) (fun(k:Nat)=>Dt.ref (b+k)) (fun i=>Dt.bl ((range c).any fun j=>f i j==0)) h (range c) [none] (by
  intro k hk;have:=Kr c (f k) 0 (N.row k (mem_range.mp hk));simp only[Int.ofNat_eq_natCast,Int.cast_ofNat_Int]at this;exact⟨rfl,by simp[this]⟩)
 rw[XF,this];simp[map_map]
theorem Rj{h:HI}{b c:Nat}{f:Nat->Nat->Nat}(N:Bm h b c f)(hc:c<=1000):DN [.ref (b+c)] h=some (.bl (iC c f),h):=by have e:=Fv (te:=vW) rfl N hc;have a:=B5 (h:=h) ((range c).map fun i=>(range c).any fun j=>f i j==0);simp only[DN,dS,rB,yB,RC,rG,CD,oA,zfJ,zfK,zfQ,zfP,zfH,zfI,zfF,pA,iA,N.seq,KF,MF,e,a,if_true,BB,Nat.reduceAdd];simp[iC,any_map]
noncomputable def wA(p:Nat×Nat):Dt:=.tup [.int (p.1:Nat),.int (p.2:Nat)]
noncomputable def iD(c:Nat)(n:Nat):List (Nat×Nat):=(range n).flatMap fun i=>(range (c-i-1)).map fun k=>(i,i+1+k)
def LA(c:Nat):List (Nat×Nat):=iD c c
theorem Bl{c:Nat}{p:Nat×Nat}:p∈LA c↔p.1<p.2/\p.2<c:=by
 obtain⟨i,j⟩:=p;unfold LA iD;simp only[mem_flatMap,mem_range,mem_map,Prod.mk.injEq];constructor
 · rintro⟨a,ha,k,hk,rfl,rfl⟩;omega
 · rintro⟨h1,h2⟩;exact⟨i,by omega,j-i-1,by omega,rfl,by omega⟩
theorem nL(c n:Nat):(iD c n).length<=n*c:=by
 induction n with
 | zero=>simp[iD]
 | succ n ih=>
  have:iD c (n+1)=iD c n++(range (c-n-1)).map fun k=>(n,n+1+k):=by unfold iD;rw[range_succ,flatMap_append];simp
  rw[this,length_append,length_map,length_range,Nat.succ_mul];omega
theorem ZR{c:Nat}(hc:c<=1000)(h:HI):BI [.int (c:Nat)] h=some (.ref h.length,h++[.lst ((LA c).map wA)]):=by
 have er:=OF (h:=h++[.lst []]) (show(-(2^62):Int)<=(c:Int) by omega) (show(c:Int)<2^62 by omega);simp only[zxE]at er;have hcc:c*c<=1000*1000:=Nat.mul_le_mul hc hc;obtain⟨l',h',e,⟨y,z,rfl⟩,rfl⟩:=GJ (i:=2) (body:=lR) (fun(k:Nat)=>Dt.int (k:Int)) (fun(n:Nat) l h'=>(∃y z,l=[some (.int (c:Nat)),some (.ref h.length),y,z])/\h'=h++[.lst ((iD c n).map wA)]) c (by
  rintro n hn l h1 ⟨⟨y,z,rfl⟩,rfl⟩;have hl:=nL c n;have hnc:n*c<=c*c:=Nat.mul_le_mul_right _ (by omega);obtain⟨l',h',e,⟨y,rfl⟩,rfl⟩:=GJ (i:=3) (body:=kR) (fun(k:Nat)=>Dt.int ((n:Int)+1+(k:Int))) (fun(m:Nat) l h'=>(∃y,l=[some (.int (c:Nat)),some (.ref h.length),some (.int (n:Nat)),y])/\h'=h++[.lst ((iD c n++(range m).map fun k=>(n,n+1+k)).map wA)]) (c-n-1) (by
   rintro m hm l h1 ⟨⟨y,rfl⟩,rfl⟩;refine⟨.nx [some (.int (c:Nat)),some (.ref h.length),some (.int (n:Nat)),some (.int ((n:Int)+1+(m:Int)))] (h++[.lst ((iD c n++(range (m+1)).map fun k=>(n,n+1+k)).map wA)]),?_,⟨_,rfl⟩,rfl⟩;have ea:=fun(l:LI) (g:RE) (d:Dt) (eg:g l (h++[.lst ((iD c n++(range m).map fun k=>(n,n+1+k)).map wA)])=some (d,h++[.lst ((iD c n++(range m).map fun k=>(n,n+1+k)).map wA)]))=>SE (h:=h++[.lst ((iD c n++(range m).map fun k=>(n,n+1+k)).map wA)]) (l:=l) (n:=h.length) (ys:=(iD c n++(range m).map fun k=>(n,n+1+k)).map wA) (xs:=(iD c n++(range m).map fun k=>(n,n+1+k)).map wA) (by simp) eg (by simp) (by simp;omega)
   simp only[kR,RD,BE,oA,zfL,zfM,zfF,zfG,pA,iA];rw[ea _ _ (wA (n,n+1+m))]
   · simp only[iA];rw[show ∀(o o':Ob),(h++[o]).set h.length o'=h++[o'] by simp];simp[range_succ]
   · simp[wA]) [some (.int (c:Nat)),some (.ref h.length),some (.int (n:Nat)),z] (h++[.lst ((iD c n).map wA)]) ⟨⟨z,rfl⟩,by simp⟩
  have er:=Hg (h:=h++[.lst ((iD c n).map wA)]) (i:=(n:Int)+1) (j:=(c:Int)) (by omega) (by omega) (by omega) (by omega);rw[show((c:Int)-((n:Int)+1)).toNat=c-n-1 by omega]at er;have ep:iD c (n+1)=iD c n++(range (c-n-1)).map fun k=>(n,n+1+k):=by unfold iD;rw[range_succ,flatMap_append];simp
  refine⟨.nx [some (.int (c:Nat)),some (.ref h.length),some (.int (n:Nat)),y] (h++[.lst ((iD c (n+1)).map wA)]),?_,⟨_,_,rfl⟩,rfl⟩
  · simp only[lR,ND,A8,yA,oA,xA,zfL,zfM,zfF,zfG,pA,iA,nE,er,lG];rw[e,ep]) [some (.int (c:Nat)),some (.ref h.length),none,none] (h++[.lst []]) ⟨⟨none,none,rfl⟩,by simp[iD]⟩
 simp only[BI,fS,rB,OA,YA,aG,KA,zfJ,zfK,zfQ,zfP,zfH,zfI,if_true,iA,QA,Nat.reduceAdd,Nat.reduceSub,replicate,zfL,zfM,ND,OI,oA,zfF,zfG,pA,er,lG,FI,zxB,e,yB,BB];rfl
structure WA(c:Nat)(f:Nat->Nat->Nat):Prop where
 lt:∀i<c,∀j<c,f i j<8192
 tn:∀i<c,∀j<c,f j i=Dl (f i j)
theorem GL(c:Nat):WA c hC:=by
 constructor
 · intro i Z j Z;unfold hC;split<;>decide
 · intro i Z j Z;unfold hC;by_cases h:i=j
   · subst h;rw[if_pos rfl];decide +kernel
   · have:¬j=i:=fun z=>h z.symm
     rw[if_neg h,if_neg this];decide +kernel
theorem nG{c:Nat}{f:Nat->Nat->Nat}(o:WA c f){i j:Nat}(hi:i<c)(hj:j<c)(hij:i≠j)(m:Nat):WA c (KB f i m j):=by
 have hv:f i j&&&m<8192:=zxF Nat.and_le_left (o.lt i hi j hj);have hji:¬j=i:=fun z=>hij z.symm
 constructor
 · intro a ha b hb;unfold KB NB
   repeat' split
   all_goals first | exact oH _ | exact hv | exact o.lt a ha b hb
 · intro a ha b hb;unfold KB NB;by_cases h1:a=i
   · subst h1;by_cases h2:b=j
     · subst h2;simp[hij,hji]
     · by_cases h3:b=a
       · subst h3;simp[hij,h2];exact o.tn _ ha _ hb
       · simp[h2,h3,hij];exact o.tn _ ha _ hb
   · by_cases h2:a=j
     · subst h2;by_cases h3:b=i
       · subst h3;simp[hij,hji,XN hv]
       · simp[h1,h3];exact o.tn _ ha _ hb
     · simp[h1,h2];exact o.tn _ ha _ hb
noncomputable def YD(i k j:Nat):Dt:=.tup [.int (i:Nat),.int (k:Nat),.int (j:Nat)]
def Om(f:Nat->Nat->Nat)(i k j:Nat):Nat:=f i j&&&mK (f i k) (f k j)
theorem vX{h:HI}{b c:Nat}{f:Nat->Nat->Nat}(N:Bm h b c f){i k j:Nat}(hi:i<c)(hk:k<c)(hj:j<c):qL [.ref (b+c),YD i k j] h=some (.int (Om f i k j:Nat),h):=by simp only[qL,lS,YD,rB,OA,YA,yA,oA,xA,zfJ,zfK,zfQ,zfP,zfH,zfI,if_true,Nat.reduceAdd,Nat.reduceSub,replicate,zfF,zfG,pA,iA,QB,YB,ID,VI,zfN,N.ix hi,N.ix2 hi hk,N.ix hk,N.ix2 hk hj,N.ix2 hi hj,QA,zfL,zfM,yB,gB,UA,KA,zfW,e9,sH,KJ,BB];rfl
theorem mz{h:HI}{b c:Nat}{f:Nat->Nat->Nat}(N:Bm h b c f)(hc:c<=1000){i k j:Nat}(hi:i<c)(hk:k<c)(hj:j<c):YN [.ref (b+c),YD i k j] h=some (.ref (h.length+c),h++MD h.length c (KB f i (Om f i k j) j)):=by have e1:=vX N hi hk hj;have e2:=JN N hc hi hj (Om f i k j);unfold YD at e1 ⊢;simp only[YN,mS,rB,yA,oA,xA,zfJ,zfK,zfQ,zfP,zfH,zfI,if_true,Nat.reduceAdd,Nat.reduceSub,replicate,zfF,zfG,pA,iA,QB,YB,ID,VI,zfN,yB,gB,UA,KA,zfW,e1,e2,BB]
theorem kY(f:Nat->Nat->Nat)(i k j:Nat):f i j&&&Om f i k j=Om f i k j:=by unfold Om;rw[<- Nat.and_assoc,Nat.and_self]
def SC(f:Nat->Nat->Nat)(i k j:Nat):Nat->Nat->Nat:=KB f i (Om f i k j) j
theorem nH(f:Nat->Nat->Nat){i k j:Nat}(hij:i≠j):SC f i k j i j=Om f i k j:=by unfold SC KB NB;simp[hij,kY]
theorem oT(f:Nat->Nat->Nat)(i k j:Nat):SC f i k j j i=Dl (Om f i k j):=by unfold SC KB NB;simp[kY]
theorem jH(f:Nat->Nat->Nat){i k j a b:Nat}(h1:¬(a=i/\b=j))(h2:¬(a=j/\b=i)):SC f i k j a b=f a b:=by
 unfold SC KB NB;by_cases q1:a=j
 · subst q1;have:¬b=i:=fun z=>h2 ⟨rfl,z⟩
   by_cases q2:a=i
   · subst q2;simp[this]
   · simp[this,q2]
 · by_cases q2:a=i
   · subst q2;have:¬b=j:=fun z=>h1 ⟨rfl,z⟩
     simp[q1,this]
   · simp[q1,q2]
noncomputable def Zm(a b:Nat):Prop:=a&&&b=a
theorem Vm{a b:Nat}:Zm a b↔∀k,a.testBit k=true->b.testBit k=true:=by
 unfold Zm;constructor
 · intro h k hk;rw[<- h,zxG,Bool.and_eq_true]at hk;exact hk.2
 · intro h;apply Nat.eq_of_testBit_eq;intro k;rw[zxG];cases q:a.testBit k with
   | false=>rfl
   | true=>rw[h k q];rfl
theorem Zm.refl(a:Nat):Zm a a:=Nat.and_self a
theorem Zm.trans{a b c:Nat}(h1:Zm a b)(h2:Zm b c):Zm a c:=Vm.mpr fun k hk=>Vm.mp h2 k (Vm.mp h1 k hk)
theorem TK(a b:Nat):Zm (a&&&b) a:=Vm.mpr fun k hk=>by rw[zxG,Bool.and_eq_true]at hk;exact hk.1
theorem Aw{a b c:Nat}(h1:Zm a b)(h2:Zm a c):Zm a (b&&&c):=Vm.mpr fun k hk=>by rw[zxG,Vm.mp h1 k hk,Vm.mp h2 k hk];rfl
theorem Av{a b a' b':Nat}(h1:Zm a a')(h2:Zm b b'):Zm (mK a b) (mK a' b'):=Vm.mpr fun k hk=>by obtain⟨i,j,q1,q2,q3,q4,q5⟩:=(EL a b k).mp hk;exact(EL a' b' k).mpr ⟨i,j,q1,Vm.mp h1 i q2,q3,Vm.mp h2 j q4,q5⟩
theorem qT(a b:Nat):Dl (a&&&b)=Dl a&&&Dl b:=by
 refine lH (oH _) (zxF Nat.and_le_left (oH a)) fun k hk=>?_
 rw[UE _ hk,zxG,zxG,UE _ hk,UE _ hk]
theorem Cw{a b:Nat}(ha:a<8192)(hb:b<8192)(h:Dl a=Dl b):a=b:=by rw[<- XN ha,h,XN hb]
theorem za9:Dl 0=0:=by decide +kernel
theorem UX{a b:Nat}(h:Zm a b):Zm (Dl a) (Dl b):=by unfold Zm at h ⊢;rw[<- qT,h]
theorem pZ{c:Nat}{f:Nat->Nat->Nat}(o:WA c f){i k j:Nat}(hi:i<c)(hj:j<c):Om f i k j<8192:=zxF Nat.and_le_left (o.lt i hi j hj)
theorem Xk{c:Nat}{f:Nat->Nat->Nat}(o:WA c f){i k j:Nat}(hi:i<c)(hk:k<c)(hj:j<c):Om f j k i=Dl (Om f i k j):=by unfold Om;rw[o.tn i hi j hj,o.tn k hk j hj,o.tn i hi k hk,Bv,qT]
theorem iU{c:Nat}{f:Nat->Nat->Nat}(o:WA c f){i k j:Nat}(hi:i<c)(hk:k<c)(hj:j<c)(h:Om f j k i≠f j i):Om f i k j≠f i j:=by intro e;apply h;rw[Xk o hi hk hj,e,<- o.tn i hi j hj]
theorem aZ{c:Nat}{f:Nat->Nat->Nat}(o:WA c f){i k j:Nat}(hi:i<c)(hj:j<c)(hij:i≠j):WA c (SC f i k j):=nG o hi hj hij _
noncomputable def UD(W:List (Nat×Nat))(i k j:Nat):Prop:=(i,k)∈W\/(k,i)∈W\/(k,j)∈W\/(j,k)∈W
noncomputable def OG(i k j:Nat):Prop:=i≠k/\k≠j/\i≠j
def HD(c:Nat)(f:Nat->Nat->Nat)(W:List (Nat×Nat))(R:List (Nat×Nat×Nat)):Prop:=
 ∀i<c,∀k<c,∀j<c,OG i k j->Om f i k j≠f i j->UD W i k j\/(i,k,j)∈R\/(j,k,i)∈R
noncomputable def sG(a b c:Nat):List (Nat×Nat×Nat):=(range c).flatMap fun o=>if o=a\/o=b then []else [(a,b,o),(b,a,o)]
theorem Dp{a b c:Nat}{t:Nat×Nat×Nat}:t∈sG a b c↔∃o,o<c/\o≠a/\o≠b/\(t=(a,b,o)\/t=(b,a,o)):=by
 unfold sG;simp only[mem_flatMap,mem_range];constructor
 · rintro⟨o,ho,h⟩;by_cases q:o=a\/o=b
   · rw[if_pos q]at h;cases h
   · rw[if_neg q]at h;simp only[mem_cons,not_mem_nil,or_false]at h;exact⟨o,ho,fun z=>q (.inl z),fun z=>q (.inr z),h⟩
 · rintro⟨o,ho,h1,h2,h⟩;refine⟨o,ho,?_⟩;rw[if_neg (by rintro(z | z);exact h1 z;exact h2 z)];simpa using h
theorem Rz{c:Nat}{f:Nat->Nat->Nat}{a b:Nat}{W:List (Nat×Nat)}(h:HD c f ((a,b)::W) []):HD c f W (sG a b c):=by
 intro i hi k hk j hj d n;obtain⟨d1,d2,d3⟩:=d;rcases h i hi k hk j hj ⟨d1,d2,d3⟩ n with h | h | h
 · unfold UD at h ⊢;simp only[mem_cons,Prod.mk.injEq]at h;rcases h with(⟨rfl,rfl⟩ | h) | (⟨rfl,rfl⟩ | h) | (⟨rfl,rfl⟩ | h) | (⟨rfl,rfl⟩ | h)
   · exact .inr (.inl (Dp.mpr ⟨j,hj,Ne.symm d3,Ne.symm d2,.inl rfl⟩))
   · exact .inl (.inl h)
   · exact .inr (.inl (Dp.mpr ⟨j,hj,Ne.symm d2,Ne.symm d3,.inr rfl⟩))
   · exact .inl (.inr (.inl h))
   · exact .inr (.inr (Dp.mpr ⟨i,hi,d1,d3,.inr rfl⟩))
   · exact .inl (.inr (.inr (.inl h)))
   · exact .inr (.inr (Dp.mpr ⟨i,hi,d3,d1,.inl rfl⟩))
   · exact .inl (.inr (.inr (.inr h)))
 · cases h
 · cases h
theorem Gq{c:Nat}{f:Nat->Nat->Nat}(o:WA c f){x y z:Nat}(hx:x<c)(hy:y<c)(hz:z<c){W:List (Nat×Nat)}{R:List (Nat×Nat×Nat)}(h:HD c f W ((x,y,z)::R))(n:Om f x y z=f x z):HD c f W R:=by
 intro i hi k hk j hj d m;rcases h i hi k hk j hj d m with h | h | h
 · exact .inl h
 · rcases mem_cons.mp h with h | h
   · cases h;exact absurd n m
   · exact .inr (.inl h)
 · rcases mem_cons.mp h with h | h
   · cases h;exact absurd n (iU o hx hy hz m)
   · exact .inr (.inr h)
theorem DX{a b e:Nat}(h:Zm a b)(q:b&&&e=b):a&&&e=a:=Zm.trans h q
theorem Hq{c:Nat}{f:Nat->Nat->Nat}(o:WA c f){x y z:Nat}(hx:x<c)(hy:y<c)(hz:z<c)(dd:OG x y z){W:List (Nat×Nat)}{R:List (Nat×Nat×Nat)}(h:HD c f W ((x,y,z)::R)):HD c (SC f x y z) (W++[(x,z)]) R:=by
 obtain⟨d1,d2,d3⟩:=dd;have o':=aZ (k:=y) o hx hz d3;have main:∀i<c,∀k<c,∀j<c,OG i k j->¬(i=z/\j=x)->Om (SC f x y z) i k j≠SC f x y z i j->UD (W++[(x,z)]) i k j\/(i,k,j)∈R\/(j,k,i)∈R:=by
  intro i hi k hk j hj d nz m;obtain⟨e1,e2,e3⟩:=d;have grow:∀{i k j},UD W i k j->UD (W++[(x,z)]) i k j:=by
   intro i k j q;unfold UD at q ⊢;simp only[mem_append];rcases q with q | q | q | q
   · exact .inl (.inl q)
   · exact .inr (.inl (.inl q))
   · exact .inr (.inr (.inl (.inl q)))
   · exact .inr (.inr (.inr (.inl q)))
  by_cases ht:i=x/\j=z
  · obtain⟨rfl,rfl⟩:=ht;have l1:SC f i y j i k=f i k:=jH f (fun q=>e2 q.2) (fun q=>e1 q.2.symm);have l2:SC f i y j k j=f k j:=jH f (fun q=>e1 q.1.symm) (fun q=>e2 q.1);have lf:Om (SC f i y j) i k j=Om f i y j&&&mK (f i k) (f k j):=by unfold Om;rw[l1,l2,nH f e3];rfl
    by_cases ky:k=y
    · subst ky;exfalso;apply m;rw[lf,nH f e3];unfold Om;rw[Nat.and_assoc,Nat.and_self]
    · have n:Om f i k j≠f i j:=by intro q;apply m;rw[lf,nH f e3];exact DX (TK (f i j) _) q
      rcases h i hi k hk j hj ⟨e1,e2,e3⟩ n with q | q | q
      · exact .inl (grow q)
      · rcases mem_cons.mp q with q | q
        · cases q;exact absurd rfl ky
        · exact .inr (.inl q)
      · rcases mem_cons.mp q with q | q
        · simp only[Prod.mk.injEq]at q;exact absurd q.1.symm e3
        · exact .inr (.inr q)
  · by_cases leg:UD [(x,z)] i k j
    · refine .inl ?_;unfold UD at leg ⊢;simp only[mem_append];rcases leg with q | q | q | q
      · exact .inl (.inr q)
      · exact .inr (.inl (.inr q))
      · exact .inr (.inr (.inl (.inr q)))
      · exact .inr (.inr (.inr (.inr q)))
    · unfold UD at leg;simp only[mem_cons,not_mem_nil,or_false,Prod.mk.injEq,not_or]at leg;obtain⟨g1,g2,g3,g4⟩:=leg;have l0:SC f x y z i j=f i j:=jH f (fun q=>ht q) (fun q=>nz q);have l1:SC f x y z i k=f i k:=jH f (fun q=>g1 q) (fun q=>g2 ⟨q.2,q.1⟩);have l2:SC f x y z k j=f k j:=jH f (fun q=>g3 q) (fun q=>g4 ⟨q.2,q.1⟩);have n:Om f i k j≠f i j:=by unfold Om at m ⊢;rw[l0,l1,l2]at m;exact m
      rcases h i hi k hk j hj ⟨e1,e2,e3⟩ n with q | q | q
      · exact .inl (grow q)
      · rcases mem_cons.mp q with q | q
        · simp only[Prod.mk.injEq]at q;exact absurd ⟨q.1,q.2.2⟩ ht
        · exact .inr (.inl q)
      · rcases mem_cons.mp q with q | q
        · simp only[Prod.mk.injEq]at q;exact absurd ⟨q.2.2,q.1⟩ nz
        · exact .inr (.inr q)
 intro i hi k hk j hj d m;by_cases nz:i=z/\j=x
 · obtain⟨e1,e2,e3⟩:=d;have m':=iU o' hj hk hi m;rcases main j hj k hk i hi ⟨Ne.symm e2,Ne.symm e1,Ne.symm e3⟩ (fun q=>e3 (by omega)) m' with q | q | q
   · refine .inl ?_;unfold UD at q ⊢;rcases q with q | q | q | q
     · exact .inr (.inr (.inr q))
     · exact .inr (.inr (.inl q))
     · exact .inr (.inl q)
     · exact .inl q
   · exact .inr (.inr q)
   · exact .inr (.inl q)
 · exact main i hi k hk j hj d nz m
def qG(c:Nat)(f:Nat->Nat->Nat):Prop:=∀i<c,∀k<c,∀j<c,OG i k j->Om f i k j=f i j
theorem Ej{c:Nat}{f:Nat->Nat->Nat}(h:HD c f [] []):qG c f:=by
 intro i hi k hk j hj d;apply Classical.byContradiction;intro n;rcases h i hi k hk j hj d n with q | q | q
 · unfold UD at q;simp at q
 · cases q
 · cases q
theorem YX(c:Nat)(f:Nat->Nat->Nat):HD c f (LA c) []:=by
 intro i hi k hk j hj d Z;refine .inl ?_;unfold UD;obtain⟨d1,Z,Z⟩:=d;rcases Nat.lt_or_gt_of_ne d1 with h | h
 · exact .inl (Bl.mpr ⟨h,hk⟩)
 · exact .inr (.inl (Bl.mpr ⟨h,hi⟩))
def sI(m:Nat):Nat:=(JA m).length
theorem JS{α:Type}{p q:α->Bool}:∀(xs:List α),(∀x∈xs,p x=true->q x=true)->(xs.filter p).length<=(xs.filter q).length
 | [],_=>by simp
 | x::xs,H=>by
  have ih:=JS xs fun y hy=>H y (by simp[hy])
  have hx:=H x (by simp);by_cases h1:p x=true
  · simp[h1,hx h1];exact ih
  · by_cases h2:q x=true
    · simp[h1,h2];omega
    · simp[h1,h2];exact ih
theorem KS{α:Type}{p q:α->Bool}:∀(xs:List α),(∀x∈xs,p x=true->q x=true)->(∃x∈xs,p x=false/\q x=true)->(xs.filter p).length<(xs.filter q).length
 | [],_,h=>by obtain⟨x,h,Z⟩:=h;cases h
 | x::xs,H,h=>by
  have hx:=H x (by simp);have ihl:=JS xs fun y hy=>H y (by simp[hy])
  by_cases h1:p x=true
  · obtain⟨y,hy,g1,g2⟩:=h;rcases mem_cons.mp hy with rfl | hy
    · rw[h1]at g1;cases g1
    · have:=KS xs (fun y hy=>H y (by simp[hy])) ⟨y,hy,g1,g2⟩;simp[h1,hx h1];exact this
  · by_cases h2:q x=true
    · simp[h1,h2];omega
    · obtain⟨y,hy,g1,g2⟩:=h;rcases mem_cons.mp hy with rfl | hy
      · rw[g2]at h2;exact absurd rfl h2
      · have:=KS xs (fun y hy=>H y (by simp[hy])) ⟨y,hy,g1,g2⟩;simp[h1,h2];exact this
theorem eZ{a b:Nat}(h:Zm a b):sI a<=sI b:=JS _ fun k Z hk=>Vm.mp h k hk
theorem Af{a b:Nat}(h:Zm a b)(ha:a<8192)(hb:b<8192)(n:a≠b):sI a<sI b:=by
 refine KS _ (fun k Z hk=>Vm.mp h k hk) ?_;apply Classical.byContradiction;intro hno;apply n;refine lH ha hb fun k hk=>?_
 cases q:b.testBit k with
 | true=>
  cases q2:a.testBit k with
  | true=>rfl
  | false=>exact absurd ⟨k,mem_range.mpr hk,q2,q⟩ hno
 | false=>
  cases q2:a.testBit k with
  | false=>rfl
  | true=>rw[Vm.mp h k q2]at q;cases q
theorem UJ{α:Type}{u v:α->Nat}:∀(xs:List α),(∀x∈xs,u x<=v x)->(xs.map u).sum<=(xs.map v).sum
 | [],_=>by simp
 | x::xs,H=>by
  have:=UJ xs fun y hy=>H y (by simp[hy])
  have:=H x (by simp);simp only[zfJ,sum_cons];omega
theorem TU{α:Type}{u v:α->Nat}:∀(xs:List α),(∀x∈xs,u x<=v x)->(∃x∈xs,u x<v x)->(xs.map u).sum<(xs.map v).sum
 | [],_,h=>by obtain⟨x,h,Z⟩:=h;cases h
 | x::xs,H,h=>by
  have h0:=UJ xs fun y hy=>H y (by simp[hy])
  have h1:=H x (by simp);simp only[zfJ,sum_cons];obtain⟨y,hy,g⟩:=h;rcases mem_cons.mp hy with rfl | hy
  · omega
  · have:=TU xs (fun y hy=>H y (by simp[hy])) ⟨y,hy,g⟩;omega
def eF(c:Nat)(f:Nat->Nat->Nat):Nat:=((range c).map fun i=>((range c).map fun j=>sI (f i j)).sum).sum
theorem WR{α:Type}{u:α->Nat}{m:Nat}:∀(xs:List α),(∀x∈xs,u x<=m)->(xs.map u).sum<=xs.length*m
 | [],_=>by simp
 | x::xs,H=>by
  have:=WR xs fun y hy=>H y (by simp[hy])
  have:=H x (by simp);simp only[zfJ,sum_cons,zfH,Nat.succ_mul];omega
theorem XY(c:Nat)(f:Nat->Nat->Nat):eF c f<=c*(c*13):=by
 have:=WR (u:=fun i=>((range c).map fun j=>sI (f i j)).sum) (m:=c*13) (range c) fun i Z=>by
  have:=WR (u:=fun j=>sI (f i j)) (m:=13) (range c) fun j Z=>uL _
  simpa using this
 simpa[eF]using this
theorem pT{c:Nat}{f:Nat->Nat->Nat}(o:WA c f){i k j:Nat}(hi:i<c)(hj:j<c)(hij:i≠j)(a b:Nat):Zm (SC f i k j a b) (f a b):=by
 by_cases h1:a=i/\b=j
 · obtain⟨rfl,rfl⟩:=h1;rw[nH f hij];exact TK _ _
 · by_cases h2:a=j/\b=i
   · obtain⟨rfl,rfl⟩:=h2;rw[oT,o.tn b hi a hj];exact UX (TK _ _)
   · rw[jH f h1 h2];exact Zm.refl _
theorem Bq{c:Nat}{f:Nat->Nat->Nat}(o:WA c f){i k j:Nat}(hi:i<c)(hj:j<c)(hij:i≠j)(n:Om f i k j≠f i j):eF c (SC f i k j)<eF c f:=by refine TU _ (fun a Z=>UJ _ fun b Z=>eZ (pT o hi hj hij a b)) ⟨i,mem_range.mpr hi,TU _ (fun b Z=>eZ (pT o hi hj hij i b)) ⟨j,mem_range.mpr hj,?_⟩⟩;rw[nH f hij];exact Af (TK _ _) (pZ o hi hj) (o.lt i hi j hj) n
inductive Steps(c:Nat)(f:Nat->Nat->Nat):List (Nat×Nat×Nat)->(Nat->Nat->Nat)->Prop where
 | nil:Steps c f [] f
 | snoc {st:List (Nat×Nat×Nat)} {g:Nat->Nat->Nat} {i k j:Nat} (h:Steps c f st g) (hi:i<c) (hk:k<c) (hj:j<c) (d:OG i k j) (ne:iC c g=false) (n:Om g i k j≠g i j):Steps c f (st++[(i,k,j)]) (SC g i k j)
theorem Steps.ok{c:Nat}{f g:Nat->Nat->Nat}{st:List (Nat×Nat×Nat)}(h:Steps c f st g)(o:WA c f):WA c g:=by
 induction h with
 | nil=>exact o
 | snoc h hi hk hj d ne n ih=>exact aZ ih hi hj d.2.2
theorem Ul{c:Nat}{f:Nat->Nat->Nat}:iC c f=true↔∃i<c,∃j<c,f i j=0:=by unfold iC;simp only[any_eq_true,mem_range,beq_iff_eq]
theorem Kl{c:Nat}{f:Nat->Nat->Nat}(h:iC c f=false){i j:Nat}(hi:i<c)(hj:j<c):f i j≠0:=fun e=>by have:=Ul.mpr ⟨i,hi,j,hj,e⟩;rw[h]at this;cases this
theorem dZ{a:Nat}(ha:a<8192)(h:a≠0):Dl a≠0:=fun e=>h (Cw ha (by decide) (e.trans za9.symm))
theorem yq{c:Nat}{f:Nat->Nat->Nat}(o:WA c f){i k j:Nat}(hi:i<c)(hj:j<c)(hij:i≠j)(ne:iC c f=false):iC c (SC f i k j)=decide (Om f i k j=0):=by
 by_cases h:Om f i k j=0
 · rw[decide_eq_true h];exact Ul.mpr ⟨i,hi,j,hj,by rw[nH f hij];exact h⟩
 · rw[decide_eq_false h];cases q:iC c (SC f i k j)with
   | false=>rfl
   | true=>
    obtain⟨a,ha,b,hb,e⟩:=Ul.mp q;exfalso;by_cases h1:a=i/\b=j
    · obtain⟨rfl,rfl⟩:=h1;rw[nH f hij]at e;exact h e
    · by_cases h2:a=j/\b=i
      · obtain⟨rfl,rfl⟩:=h2;rw[oT]at e;exact dZ (pZ o hi hj) h e
      · rw[jH f h1 h2]at e;exact Kl ne ha hb e
def cE(t:Nat×Nat×Nat):Dt:=YD t.1 t.2.1 t.2.2
theorem qz{h:HI}{b c:Nat}{f:Nat->Nat->Nat}(N:Bm h b c f){i k j:Nat}(hi:i<c)(hk:k<c)(hj:j<c):ZN [.ref (b+c),YD i k j] h=some (.bl (!decide (Om f i k j=f i j)),h):=by
 have e1:=vX N hi hk hj;have q:decide (((Om f i k j:Nat):Int)=((f i j:Nat):Int))=decide (Om f i k j=f i j):=by
  congr 1
  apply propext;omega
 unfold YD at e1 ⊢;simp only[ZN,oS,rB,yA,oA,xA,zfJ,zfK,zfQ,zfP,zfH,zfI,if_true,Nat.reduceAdd,Nat.reduceSub,replicate,zfF,zfG,pA,iA,QB,YB,VI,zfN,yB,gB,UA,KA,zfW,e1,N.ix hi,N.ix2 hi hj,kJ,q,BB]
theorem Uh(o a b:Nat)(h:HI):GH true (.int (o:Nat)) (wA (a,b)) h=some (.bl (!(decide (o=a) || decide (o=b))),h):=by
 have f2:dM (V.int (o:Nat)) [V.int (a:Nat),V.int (b:Nat)]=(decide (o=a) || decide (o=b)):=by
  unfold dM;simp only[any_cons,any_nil,Bool.or_false];show(((a:Nat):Int)==((o:Nat):Int) || ((b:Nat):Int)==((o:Nat):Int))=_;have e1:(((a:Nat):Int)==((o:Nat):Int))=decide (o=a):=by
   by_cases q:o=a
   · subst q;simp
   · have:((a:Nat):Int)≠((o:Nat):Int):=by omega
     simp[q,this]
  have e2:(((b:Nat):Int)==((o:Nat):Int))=decide (o=b):=by
   by_cases q:o=b
   · subst q;simp
   · have:((b:Nat):Int)≠((o:Nat):Int):=by omega
     simp[q,this]
  rw[e1,e2]
 have f1:cF [Dt.int (a:Nat),Dt.int (b:Nat)]=some [V.int (a:Nat),V.int (b:Nat)]:=rfl;simp only[GH,aE,QD,wA,zfO,f1,f2];rfl
noncomputable def ED(a b n:Nat):List (Nat×Nat×Nat):=(range n).flatMap fun o=>if o=a\/o=b then []else [(a,b,o),(b,a,o)]
theorem Dj(a b n:Nat):(ED a b n).length<=2*n:=by
 induction n with
 | zero=>simp[ED]
 | succ n ih=>
  have:ED a b (n+1)=ED a b n++(if n=a\/n=b then []else [(a,b,n),(b,a,n)]):=by unfold ED;rw[range_succ,flatMap_append];simp
  rw[this,length_append];split<;>simp<;>omega
theorem Jz{a b c:Nat}(hc:c<=1000)(h:HI):tN [wA (a,b),.int (c:Nat)] h=some (.ref h.length,h++[.lst ((sG a b c).map cE)]):=by
 have er:=OF (h:=h++[.lst []]) (show(-(2^62):Int)<=(c:Int) by omega) (show(c:Int)<2^62 by omega);simp only[zxE]at er;have zcv:∀(o o':Ob),(h++[o]).set h.length o'=h++[o']:=by simp
 obtain⟨l',h',e,⟨y,rfl⟩,rfl⟩:=GJ (i:=3) (body:=yQ) (fun(k:Nat)=>Dt.int (k:Int)) (fun(n:Nat) l h'=>(∃y,l=[some (wA (a,b)),some (.int (c:Nat)),some (.ref h.length),y])/\h'=h++[.lst ((ED a b n).map cE)]) c (by
  rintro n hn l h1 ⟨⟨y,rfl⟩,rfl⟩;have hl:=Dj a b n;have ep:ED a b (n+1)=ED a b n++(if n=a\/n=b then []else [(a,b,n),(b,a,n)]):=by unfold ED;rw[range_succ,flatMap_append];simp
  refine⟨.nx [some (wA (a,b)),some (.int (c:Nat)),some (.ref h.length),some (.int (n:Nat))] (h++[.lst ((ED a b (n+1)).map cE)]),?_,⟨_,rfl⟩,rfl⟩;have ip:=Uh n a b (h++[.lst ((ED a b n).map cE)]);have ea1:=fun(l:LI) (g:RE) (eg:g l (h++[.lst ((ED a b n).map cE)])=some (cE (a,b,n),h++[.lst ((ED a b n).map cE)]))=>SE (h:=h++[.lst ((ED a b n).map cE)]) (l:=l) (n:=h.length) (ys:=(ED a b n).map cE) (xs:=(ED a b n).map cE) (by simp) eg (by simp) (by simp;omega)
  have ea2:=fun(l:LI) (g:RE) (eg:g l (h++[.lst ((ED a b n).map cE++[cE (a,b,n)])])=some (cE (b,a,n),h++[.lst ((ED a b n).map cE++[cE (a,b,n)])]))=>SE (h:=h++[.lst ((ED a b n).map cE++[cE (a,b,n)])]) (l:=l) (n:=h.length) (ys:=(ED a b n).map cE++[cE (a,b,n)]) (xs:=(ED a b n).map cE++[cE (a,b,n)]) (by simp) eg (by simp) (by simp;omega)
  simp only[yQ,dB,NA,yA,oA,zfL,zfM,zfF,zfG,pA,iA,ip,VA,OA,RD,BE,dC];by_cases q:n=a\/n=b
  · have:(decide (n=a) || decide (n=b))=true:=by simpa using q
    rw[this,ep,if_pos q];simp
  · have:(decide (n=a) || decide (n=b))=false:=by simpa using q
    rw[this,ep,if_neg q];simp only[Bool.not_false,if_true];rw[ea1 _ _ (by simp[wA,cE,YD])];simp only[iA,QA,zcv,RD,BE,oA,zfF,zfG,pA];rw[ea2 _ _ (by simp[wA,cE,YD])];simp only[iA,zcv];simp) [some (wA (a,b)),some (.int (c:Nat)),some (.ref h.length),none] (h++[.lst []]) ⟨⟨_,rfl⟩,by simp[ED]⟩
 simp only[tN,VQ,rB,OA,YA,aG,KA,zfJ,zfK,zfQ,zfP,zfH,zfI,if_true,iA,QA,Nat.reduceAdd,Nat.reduceSub,replicate,zfL,zfM,ND,OI,oA,zfF,zfG,pA,er,lG,FI,zxB,e,yB,BB];rfl
structure Rst(h0:HI)(c:Nat)(f:Nat->Nat->Nat)(s w b:Nat)(st:List (Nat×Nat×Nat))(W:List (Nat×Nat))(g:Nat->Nat->Nat)(h:HI):Prop where
 low:∀n,n<h0.length->h[n]?=h0[n]?
 len:h0.length<=h.length
 hs:h[s]?=some (.lst (st.map cE))
 hw:h[w]?=some (.lst (W.map wA))
 net:Bm h b c g
 s0:h0.length<=s
 w0:h0.length<=w
 b0:h0.length<=b
 sw:s≠w
 sb:s<b\/b+c<s
 wb:w<b\/b+c<w
 run:Steps c f st g
 ne:iC c g=false
 sm:st.length+eF c g<=eF c f
 wc:∀p∈W,p.1<c/\p.2<c/\p.1≠p.2
theorem Rst.grow{h0:HI}{c:Nat}{f:Nat->Nat->Nat}{s w b:Nat}{st:List (Nat×Nat×Nat)}{W:List (Nat×Nat)}{g:Nat->Nat->Nat}{h:HI}(R:Rst h0 c f s w b st W g h)(e:HI):Rst h0 c f s w b st W g (h++e):=by
 have l1:=(zfR R.hs).1;have l2:=(zfR R.hw).1;exact { R with
  low:=fun n hn=>by rw[zfS (by have:=R.len;omega)];exact R.low n hn
  len:=by have:=R.len;rw[length_append];omega
  hs:=by rw[zfS l1];exact R.hs
  hw:=by rw[zfS l2];exact R.hw
  net:=R.net.grow e }
def lK(h0:HI)(c:Nat)(f:Nat->Nat->Nat)(d:Dt)(h:HI):Prop:=
 ∃x s st g,d=.tup [x,.ref s]/\h0.length<=s/\h0.length<=h.length/\(∀n,n<h0.length->h[n]?=h0[n]?)/\h[s]?=some (.lst (st.map cE))/\Steps c f st g/\st.length<=eF c f/\
  ((x=.non/\iC c g=true)\/∃b,x=.ref (b+c)/\h0.length<=b/\Bm h b c g/\qG c g/\iC c g=false/\(s<b\/b+c<s))
theorem Ay{h0:HI}{c:Nat}(hc:c<=100){f:Nat->Nat->Nat}(of:WA c f){s w b:Nat}{st:List (Nat×Nat×Nat)}{W:List (Nat×Nat)}{g:Nat->Nat->Nat}{h:HI}(R:Rst h0 c f s w b st W g h){x y z:Nat}(hx:x<c)(hy:y<c)(hz:z<c)(d:OG x y z)(lW:W.length<=2000000)(x0 x1 x5:Option Dt) :
 ∃r,pJ [x0,x1,some (.ref s),some (.ref (b+c)),some (.ref w),x5,some (YD x y z)] h=some r/\
  SI (fun l' h'=>∃b' st' W' g',l'=[x0,x1,some (.ref s),some (.ref (b'+c)),some (.ref w),x5,some (YD x y z)]/\Rst h0 c f s w b' st' W' g' h'/\(∀n,n<h.length->n≠s->n≠w->h'[n]?=h[n]?)/\h.length<=h'.length/\
   ((Om g x y z=g x z/\b'=b/\st'=st/\W'=W/\g'=g/\h'=h)\/(W'=W++[(x,z)]/\g'=SC g x y z/\eF c g'<eF c g))) (lK h0 c f) r:=by
 have og:=R.run.ok of;have tl:=XY c f;have hcc:c*(c*13)<=100*(100*13):=Nat.mul_le_mul hc (Nat.mul_le_mul_right 13 hc);have en:=qz R.net hx hy hz;by_cases q:Om g x y z=g x z
 · refine⟨.nx [x0,x1,some (.ref s),some (.ref (b+c)),some (.ref w),x5,some (YD x y z)] h,?_,b,st,W,g,rfl,R,fun Z Z Z Z=>rfl,zfU _,.inl ⟨q,rfl,rfl,rfl,rfl,rfl⟩⟩;simp only[pJ,dB,NA,gB,UA,KA,oA,zfF,zfG,pA,iA,zfW,en,VA,q,decide_true,Bool.not_true,zfX,if_false,dC]
 · have em:=mz R.net (show c<=1000 by omega) hx hy hz;obtain⟨h1,hh1⟩:∃h1,h1=h++MD h.length c (SC g x y z):=⟨_,rfl⟩
   rw[show KB g x (Om g x y z) z=SC g x y z from rfl,<- hh1]at em;have len1:h1.length=h.length+(c+1):=by rw[hh1,length_append,aX]
   have M1:Bm h1 h.length c (SC g x y z):=hh1 ▸ gH h c _;have ls:=(zfR R.hs).1;have lw:=(zfR R.hw).1;have hs1:h1[s]?=some (.lst (st.map cE)):=by rw[hh1,zfS ls];exact R.hs
   have hw1:h1[w]?=some (.lst (W.map wA)):=by rw[hh1,zfS lw];exact R.hw
   have sm:=R.sm;have ts:=Bq og hx hz d.2.2 q;obtain⟨h2,hh2⟩:∃h2,h2=h1.set s (.lst (st.map cE++[YD x y z])):=⟨_,rfl⟩
   have ea:=SE (h:=h1) (l:=[x0,x1,some (.ref s),some (.ref (h.length+c)),some (.ref w),x5,some (YD x y z)]) (g:=eV 6) (n:=s) (ys:=st.map cE) (xs:=st.map cE) (d:=YD x y z) (h':=h1) hs1 (by simp) hs1 (by simp;omega);rw[<- hh2]at ea;have M2:Bm h2 h.length c (SC g x y z):=hh2 ▸ M1.other (.inl ls) _;have hs2:h2[s]?=some (.lst ((st++[(x,y,z)]).map cE)):=by rw[hh2,getElem?_set_self (by omega)];simp[cE]
   have hw2:h2[w]?=some (.lst (W.map wA)):=by rw[hh2,getElem?_set_ne R.sw];exact hw1
   have zcu:=R.run.snoc hx hy hz d R.ne q;have zco:∀n,n<h0.length->h2[n]?=h0[n]?:=fun n hn=>by have:=R.len;have:=R.s0;rw[hh2,getElem?_set_ne (by omega),hh1,zfS (by omega)];exact R.low n hn
   have rD:h2.length=h.length+(c+1):=by rw[hh2,length_set];exact len1
   have ix1:=M2.ix hx;have ix2:=M2.ix2 hx hz;rw[nH g d.2.2]at ix2;have se:=yq (k:=y) og hx hz d.2.2 R.ne;have zi:(decide (((Om g x y z:Nat):Int)=0))=decide (Om g x y z=0):=by
    congr 1
    apply propext;omega
   by_cases q0:Om g x y z=0
   · refine⟨.rt (.tup [.non,.ref s]) h2,?_,.non,s,st++[(x,y,z)],SC g x y z,rfl,R.s0,by have:=R.len;omega,zco,hs2,zcu,by simp;omega,.inl ⟨rfl,by rw[se];simp[q0]⟩⟩;simp only[pJ,dB,NA,gB,UA,KA,oA,zfF,zfG,pA,iA,zfW,en,VA,q,decide_false,Bool.not_false,if_true,OA,YA,em,zfL,zfM,QA,RD,BE,ea];simp only[YD,dB,NA,yA,oA,xA,zfF,zfG,pA,iA,QB,YB,VI,zfN,ix1,ix2,eW,zi,q0,decide_true,VA,if_true,yB,IE,UA,KA,aF];simp
   · have ea2:=SE (h:=h2) (l:=[x0,x1,some (.ref s),some (.ref (h.length+c)),some (.ref w),x5,some (YD x y z)]) (g:=aB (bA (e2 rA (eV 6) (eC (.int 0))) (bA (e2 rA (eV 6) (eC (.int 2))) eA))) (n:=w) (ys:=W.map wA) (xs:=W.map wA) (d:=wA (x,z)) (h':=h2) hw2 (by simp[YD,wA]) hw2 (by simp;omega);have iG:∀o,(h2.set w o).length=h.length+(c+1):=fun o=>by rw[length_set];exact rD
     have hlw:w<h2.length:=(zfR hw2).1;have hw0:=R.w0;have hl0:=R.len;refine⟨.nx [x0,x1,some (.ref s),some (.ref (h.length+c)),some (.ref w),x5,some (YD x y z)] (h2.set w (.lst (W.map wA++[wA (x,z)]))),?_,h.length,st++[(x,y,z)],W++[(x,z)],SC g x y z,rfl,?_,?_,by rw[iG];omega,.inr ⟨rfl,rfl,ts⟩⟩
     · simp only[pJ,dB,NA,gB,UA,KA,oA,zfF,zfG,pA,iA,zfW,en,VA,q,decide_false,Bool.not_false,if_true,OA,YA,em,zfL,zfM,QA,RD,BE,ea];have tst:Wm (e2 jG (e2 rA (e2 rA (eV 3) (e2 rA (eV 6) (eC (.int 0)))) (e2 rA (eV 6) (eC (.int 2)))) (eC (.int 0))) [x0,x1,some (.ref s),some (.ref (h.length+c)),some (.ref w),x5,some (YD x y z)] h2=some (false,h2):=by simp only[YD,NA,yA,oA,xA,zfF,zfG,pA,iA,QB,YB,VI,zfN,ix1,ix2,eW,zi,q0,decide_false,VA]
       simp only[NA]at tst;simp only[tst,iA,zfX,if_false,dC,QA,RD,BE,oA,zfF,zfG,pA,ea2]
     · exact {
        low:=fun n hn=>by rw[getElem?_set_ne (by omega)];exact zco n hn
        len:=by rw[iG];omega
        hs:=by rw[getElem?_set_ne (Ne.symm R.sw)];exact hs2
        hw:=by rw[getElem?_set_self hlw];simp
        net:=M2.other (.inl lw) _
        s0:=R.s0
        w0:=R.w0
        b0:=hl0
        sw:=R.sw
        sb:=.inl ls
        wb:=.inl lw
        run:=zcu
        ne:=by rw[se];simp[q0]
        sm:=by simp;omega
        wc:=fun p hp=>by
         rcases mem_append.mp hp with hp | hp
         · exact R.wc p hp
         · rw[mem_singleton.mp hp];exact⟨hx,hz,d.2.2⟩ }
     · intro n hn h1' h2';rw[getElem?_set_ne (Ne.symm h2'),hh2,getElem?_set_ne (Ne.symm h1'),hh1,zfS hn]
theorem jx(W:List (Nat×Nat)):MC (W.map wA)=true:=by
 induction W with
 | nil=>rfl
 | cons p W ih=>simp only[zfJ,MC,wA,EB,ih,Bool.and_self]
theorem Ew(W:List (Nat×Nat)):JD (W.map wA)<=2:=by
 induction W with
 | nil=>simp[JD]
 | cons p W ih=>simp only[zfJ,JD,yG,wA];omega
theorem Tv{h:HI}{w:Nat}{W:List (Nat×Nat)}(e:h[w]?=some (.lst (W.map wA)))(k:Nat):nB h (k+3) (.ref w)=some (.lst (W.map wA)):=by
 have:QC (nB h (k+2)) (W.map wA)=some (W.map wA):=yT _ _ _ fun x Z=>by unfold wA;simp[nB,QC]
 rw[nB];simp only[e,this,zfN]
theorem Rt{h:HI}{w:Nat}{W:List (Nat×Nat)}(e:h[w]?=some (.lst (W.map wA))):WG (.ref w) (.lst []) h=some (.bl (!W.isEmpty),h):=by
 have r2:nB h 8 (.lst [])=some (.lst []):=by simp[nB,QC]
 have d:=Ew W;have ok:FF (W.map wA) []=true:=by unfold FF;rw[jx];simp[MC];omega
 rw[mV (Tv e 5) r2 ok];cases W with
 | nil=>rfl
 | cons p W=>rfl
theorem Xy{h0:HI}{c:Nat}(hc:c<=100){f:Nat->Nat->Nat}(of:WA c f){bn:Nat}{f0:Nat->Nat->Nat}(N0:Bm h0 bn c f0){s w b:Nat}{st:List (Nat×Nat×Nat)}{W:List (Nat×Nat)}{g:Nat->Nat->Nat}{h:HI}{u v:Nat}(R:Rst h0 c f s w b st ((u,v)::W) g h)
 (wt:HD c g ((u,v)::W) []) (x1 x5 x6:Option Dt) (lM:2*eF c g+(W.length+1)<=1000000) :
 ∃r,MK [some (.ref (bn+c)),x1,some (.ref s),some (.ref (b+c)),some (.ref w),x5,x6] h=some r/\
  SI (fun l' h'=>∃b' st' W' g' x5 x6,l'=[some (.ref (bn+c)),x1,some (.ref s),some (.ref (b'+c)),some (.ref w),x5,x6]/\Rst h0 c f s w b' st' W' g' h'/\HD c g' W' []/\2*eF c g'+W'.length<2*eF c g+(W.length+1)) (lK h0 c f) r:=by
 have hu:=R.wc (u,v) (by simp);simp only at hu;have pk:=Qw (fa:=eC (Dt.int 0)) (l:=[some (.ref (bn+c)),x1,some (.ref s),some (.ref (b+c)),some (.ref w),x5,x6]) (show h[w]?=some (.lst (wA (u,v)::W.map wA))from R.hw) rfl;obtain⟨h1,hh1⟩:∃h1,h1=h.set w (.lst (W.map wA)):=⟨_,rfl⟩
 rw[<- hh1]at pk;have lw:=(zfR R.hw).1;have len1:h1.length=h.length:=by rw[hh1,length_set]
 have R1:Rst h0 c f s w b st W g h1:={ R with
  low:=fun n hn=>by have:=R.w0;rw[hh1,getElem?_set_ne (by omega)];exact R.low n hn
  len:=by rw[len1];exact R.len
  hs:=by rw[hh1,getElem?_set_ne (Ne.symm R.sw)];exact R.hs
  hw:=by rw[hh1,getElem?_set_self lw]
  net:=hh1 ▸ R.net.other (by have:=R.wb;omega) _
  wc:=fun p hp=>R.wc p (by simp[hp]) }
 have N1:EC (.ref (bn+c)) h1=some (.int (c:Nat),h1):=by have:=N0.lt;rw[rH (xs:=XF bn c) (by rw[R1.low _ this];exact N0.top),uO]
 have et:=Jz (a:=u) (b:=v) (show c<=1000 by omega) h1;obtain⟨h2,hh2⟩:∃h2,h2=h1++[.lst ((sG u v c).map cE)]:=⟨_,rfl⟩
 rw[<- hh2]at et;have R2:Rst h0 c f s w b st W g h2:=hh2 ▸ R1.grow _;have q2:h2[h1.length]?=some (.lst ((sG u v c).map cE)):=by rw[hh2];simp
 have sk:=jE q2;have ls:=(zfR R1.hs).1;have lw1:=(zfR R1.hw).1;obtain⟨r,e,er⟩:=F0 (i:=6) (n:=h1.length) (body:=pJ) cE (fun k l' h'=>∃b' st' W' g' x6,l'=[some (.ref (bn+c)),x1,some (.ref s),some (.ref (b'+c)),some (.ref w),some (wA (u,v)),x6]/\Rst h0 c f s w b' st' W' g' h'/\HD c g' W' ((sG u v c).drop k)/\h'[h1.length]?=some (.lst ((sG u v c).map cE))/\h1.length<h'.length/\2*eF c g'+W'.length<=2*eF c g+W.length) (lK h0 c f) (sG u v c) (by
  rintro k l' h' ⟨b',st',W',g',x6,rfl,R',wt',q',lq,mm⟩;exact q') (by
  rintro k t ht l' h' ⟨b',st',W',g',x6,rfl,R',wt',q',lq,mm⟩;have hk:=(zfR ht).1;have dk:(sG u v c).drop k=t::(sG u v c).drop (k+1):=by rw[drop_eq_getElem_cons hk,(zfR ht).2]
  obtain⟨o,ho,hou,hov,hto⟩:=Dp.mp (mem_of_getElem? ht);obtain⟨x,y,z⟩:=t;have dd:x<c/\y<c/\z<c/\OG x y z:=by
   rcases hto with hto | hto<;>(simp only[Prod.mk.injEq]at hto;obtain⟨rfl,rfl,rfl⟩:=hto)
   · exact⟨hu.1,hu.2.1,ho,hu.2.2,Ne.symm hov,Ne.symm hou⟩
   · exact⟨hu.2.1,hu.1,ho,Ne.symm hu.2.2,Ne.symm hou,Ne.symm hov⟩
  obtain⟨hx,hy,hz,dist⟩:=dd;rw[dk]at wt';have og:=R'.run.ok of;obtain⟨r,e,er⟩:=Ay hc of R' hx hy hz dist (by omega) (some (.ref (bn+c))) x1 (some (wA (u,v)));refine⟨r,e,?_⟩;cases r with
  | nx l2 h2=>
   obtain⟨b2,st2,W2,g2,rfl,R2',kp,ll,q⟩:=er;have ne1:h1.length≠s:=by omega
   have ne2:h1.length≠w:=by omega
   refine⟨b2,st2,W2,g2,_,rfl,R2',?_,by rw[kp _ lq ne1 ne2];exact q',by omega,?_⟩
   · rcases q with⟨n,rfl,rfl,rfl,rfl,rfl⟩ | ⟨rfl,rfl,tt⟩
     · exact Gq og hx hy hz wt' n
     · exact Hq og hx hy hz dist wt'
   · rcases q with⟨n,rfl,rfl,rfl,rfl,rfl⟩ | ⟨rfl,rfl,tt⟩
     · exact mm
     · simp only[length_append,zfH,zfI];omega
  | rt d h2=>exact er
  | bk l2 h2=>exact er.elim
  | ct l2 h2=>exact er.elim) [some (.ref (bn+c)),x1,some (.ref s),some (.ref (b+c)),some (.ref w),some (wA (u,v)),x6] h2 ⟨b,st,W,g,x6,rfl,R2,Rz wt,q2,by rw[hh2];simp,zfU _⟩
 refine⟨r,?_,?_⟩
 · simp only[MK,OA,YA,Fg,oA,zfF,zfG,pA,iA,pk,QA,zfL,zfM,ND,CD,gB,UA,KA,RC,N1,zfW,et,sk];exact e
 · cases r with
   | nx l' h'=>obtain⟨b',st',W',g',x6,rfl,R',wt',q',lq,mm⟩:=er;rw[drop_length]at wt';exact⟨b',st',W',g',_,_,rfl,R',wt',by omega⟩
   | rt d h2=>exact er
   | bk l2 h2=>exact er.elim
   | ct l2 h2=>exact er.elim
theorem oW{h:HI}{c:Nat}(hc:c<=100){f:Nat->Nat->Nat}(of:WA c f){bn:Nat}{pd:Dt}(N:Bm h bn c f){P:List (Nat×Nat)}(hp:∀e:HI,QD (h++e) pd=some (P.map wA))(pc:∀p∈P,p.1<c/\p.2<c/\p.1≠p.2)(wt:HD c f P [])(lP:P.length<=100000) :
 ∃d h',uJ [.ref (bn+c),pd] h=some (d,h')/\lK h c f d h':=by
 have tl:=XY c f;have hcc:c*(c*13)<=100*(100*13):=Nat.mul_le_mul hc (Nat.mul_le_mul_right 13 hc);have lN:=N.lt;have N1:=N.grow [.lst []];have em:=Rj N1 (show c<=1000 by omega);by_cases ne:iC c f=true
 · refine⟨.tup [.non,.ref h.length],h++[.lst []],?_,.non,h.length,[],f,rfl,zfU _,by simp,fun n hn=>by rw[zfS hn],by simp,.nil,by simp,.inl ⟨rfl,ne⟩⟩;rw[ne]at em;simp only[uJ,qN,rB,OA,YA,aG,KA,zfJ,zfK,zfQ,zfP,zfH,zfI,if_true,iA,QA,Nat.reduceAdd,Nat.reduceSub,replicate,zfL,zfM,FI,zxB,dB,NA,gB,UA,oA,zfF,zfG,pA,zfW,em,VA,yB,IE,xA,aF];simp
 · have ne':iC c f=false:=by simpa using ne
   rw[ne']at em;obtain⟨h1,hh1⟩:∃h1:HI,h1=h++[.lst []]:=⟨_,rfl⟩
   rw[<- hh1]at em N1;have len1:h1.length=h.length+1:=by rw[hh1];simp
   have cp:=sX (te:=iW) rfl N1 (show c<=1000 by omega) [none] (by simp);have en:(h1++(range c).map fun i=>Ob.lst (eD c (f i)))++[Ob.lst (XF h1.length c)]=h1++MD h1.length c f:=by rw[append_assoc];rfl
   have el:(h1++(range c).map fun i=>Ob.lst (eD c (f i))).length=h1.length+c:=by simp
   obtain⟨h2,hh2⟩:∃h2:HI,h2=h1++MD h1.length c f:=⟨_,rfl⟩
   have rD:h2.length=h1.length+(c+1):=by rw[hh2,length_append,aX]
   have C2:Bm h2 h1.length c f:=hh2 ▸ gH h1 c f;have hp2:QD h2 pd=some (P.map wA):=by rw[hh2,hh1,append_assoc];exact hp _
   have fl:ZE pd h2=some (.ref h2.length,h2++[.lst (P.map wA)]):=by simp only[ZE,hp2,zfN]
   obtain⟨h3,hh3⟩:∃h3:HI,h3=h2++[.lst (P.map wA)]:=⟨_,rfl⟩
   rw[<- hh3]at fl;have R:Rst h c f h.length h2.length h1.length [] P f h3:={
    low:=fun n hn=>by rw[hh3,zfS (by omega),hh2,zfS (by omega),hh1,zfS hn]
    len:=by rw[hh3];simp;omega
    hs:=by rw[hh3,zfS (by omega),hh2,zfS (by omega),hh1];simp
    hw:=by rw[hh3];simp
    net:=hh3 ▸ C2.grow _
    s0:=zfU _
    w0:=by omega
    b0:=by omega
    sw:=by omega
    sb:=.inl (by omega)
    wb:=.inr (by omega)
    run:=.nil
    ne:=ne'
    sm:=by simp
    wc:=pc }
   obtain⟨r,e,er⟩:=bY (t:=JK) (body:=MK) (fun m l' h'=>∃b' st' W' g' x5 x6,l'=[some (.ref (bn+c)),some pd,some (.ref h.length),some (.ref (b'+c)),some (.ref h2.length),x5,x6]/\Rst h c f h.length h2.length b' st' W' g' h'/\HD c g' W' []/\m=2*eF c g'+W'.length/\m<=1000000)
    (fun l' h'=>∃b' st' g' x5 x6,l'=[some (.ref (bn+c)),some pd,some (.ref h.length),some (.ref (b'+c)),some (.ref h2.length),x5,x6]/\Rst h c f h.length h2.length b' st' [] g' h'/\qG c g') (lK h c f) (by
    rintro m l' h' ⟨b',st',W',g',x5,x6,rfl,R',wt',rfl,lm⟩;have nn:=Rt R'.hw;cases W' with
    | nil=>
     refine⟨false,h',?_,?_⟩
     · simp only[JK,NA,yA,oA,VH,KA,zfF,zfG,pA,iA,zfI,FI,zxB,if_true,nn,VA];rfl
     · rw[if_neg zfT];exact⟨b',st',g',x5,x6,rfl,R',Ej wt'⟩
    | cons p W'=>
     obtain⟨u,v⟩:=p;refine⟨true,h',?_,?_⟩
     · simp only[JK,NA,yA,oA,VH,KA,zfF,zfG,pA,iA,zfI,FI,zxB,if_true,nn,VA];rfl
     · rw[if_pos rfl];obtain⟨r,e,er⟩:=Xy hc of N R' wt' (some pd) x5 x6 lm;refine⟨r,e,?_⟩;cases r with
       | nx l2 h2=>obtain⟨b2,st2,W2,g2,y5,y6,rfl,R2,wt2,mm⟩:=er;exact⟨_,mm,b2,st2,W2,g2,y5,y6,rfl,R2,wt2,rfl,by simp only[zfH]at lm;omega⟩
       | rt d h2=>exact er
       | bk l2 h2=>exact er.elim
       | ct l2 h2=>exact er.elim) 1000000 (2*eF c f+P.length) [some (.ref (bn+c)),some pd,some (.ref h.length),some (.ref (h1.length+c)),some (.ref h2.length),none,none] h3 ⟨h1.length,[],P,f,none,none,rfl,R,wt,rfl,by omega⟩ (by omega)
   have go:∀(k:Rs->Option Rs),uJ [.ref (bn+c),pd] h=zH (jB (RF JK MK 1000000 [some (.ref (bn+c)),some pd,some (.ref h.length),some (.ref (h1.length+c)),some (.ref h2.length),none,none] h3) (A3 (FA (aB (bA (eV 3) (bA (eV 2) eA)))))):=by intro Z;simp only[uJ,qN,rB,OA,YA,aG,KA,zfJ,zfK,zfQ,zfP,zfH,zfI,if_true,iA,QA,Nat.reduceAdd,Nat.reduceSub,replicate,zfL,zfM,FI,zxB,dB,NA,gB,UA,oA,zfF,zfG,pA,zfW];rw[<- hh1];simp only[em,iA,VA,zfX,if_false,dC,QA,OA,YA,fT,CD,oA,zfF,zfG,pA,N1.seq,KF,MF,cp,en,el,zfL,zfM,RC];rw[<- hh2];simp only[fl,iA,QA,OA,Gg,zfL,zfM]
   rw[go some,e,iA];cases r with
   | nx l' h'=>obtain⟨b',st',g',x5,x6,rfl,R',cl⟩:=er;refine⟨.tup [.ref (b'+c),.ref h.length],h',?_,.ref (b'+c),h.length,st',g',rfl,R'.s0,R'.len,R'.low,R'.hs,R'.run,by have:=R'.sm;omega,.inr ⟨b',rfl,R'.b0,R'.net,cl,R'.ne,R'.sb⟩⟩;simp
   | rt d h'=>exact⟨d,h',by simp,er⟩
   | bk l2 h2=>exact er.elim
   | ct l2 h2=>exact er.elim
def pM(c:Nat)(m f:Nat->Nat->Nat):Prop:=∀i<c,∀j<c,Zm (m i j) (f i j)
theorem Zm.antisymm{a b:Nat}(h1:Zm a b)(h2:Zm b a):a=b:=by unfold Zm at h1 h2;rw[Nat.and_comm]at h2;exact h1.symm.trans h2
theorem Steps.sub{c:Nat}{f g:Nat->Nat->Nat}{st:List (Nat×Nat×Nat)}(h:Steps c f st g)(o:WA c f):pM c g f:=by
 induction h with
 | nil=>exact fun i Z j Z=>Zm.refl _
 | snoc h hi hk hj d ne n ih=>exact fun a ha b hb=>(pT (h.ok o) hi hj d.2.2 a b).trans (ih a ha b hb)
theorem Steps.keeps{c:Nat}{f g m:Nat->Nat->Nat}{st:List (Nat×Nat×Nat)}(h:Steps c f st g)(om:WA c m)(cm:qG c m)(s:pM c m f):pM c m g:=by
 induction h with
 | nil=>exact s
 | @snoc st g i k j h hi hk hj d ne n ih=>
  have l:Zm (m i j) (Om g i k j):=by have:=cm i hi k hk j hj d;unfold Om at this ⊢;exact Aw (ih i hi j hj) ((show Zm (m i j) (mK (m i k) (m k j))from this).trans (Av (ih i hi k hk) (ih k hk j hj)))
  intro a ha b hb;by_cases h1:a=i/\b=j
  · obtain⟨rfl,rfl⟩:=h1;rw[nH g d.2.2];exact l
  · by_cases h2:a=j/\b=i
    · obtain⟨rfl,rfl⟩:=h2;rw[oT,om.tn b hi a hj];exact UX l
    · rw[jH g h1 h2];exact ih a ha b hb
theorem Steps.diag{c:Nat}{f g:Nat->Nat->Nat}{st:List (Nat×Nat×Nat)}(h:Steps c f st g)(d0:∀i<c,f i i=64):∀i<c,g i i=64:=by
 induction h with
 | nil=>exact d0
 | snoc h hi hk hj d ne n ih=>intro a ha;rw[jH _ (fun q=>d.2.2 (q.1.symm.trans q.2)) (fun q=>d.2.2 (q.2.symm.trans q.1))];exact ih a ha
structure zaO(c:Nat)(p q:Nat->Nat):Prop where
 pl:∀i<c,p i<c
 ql:∀i<c,q i<c
 qp:∀i<c,q (p i)=i
 pq:∀i<c,p (q i)=i
theorem zaO.symm{c:Nat}{p q:Nat->Nat}(P:zaO c p q):zaO c q p:=⟨P.ql,P.pl,P.pq,P.qp⟩
noncomputable def Up(h h':HI):Prop:=h.length<=h'.length/\∀n,n<h.length->h'[n]?=h[n]?
theorem Up.refl(h:HI):Up h h:=⟨zfU _,fun Z Z=>rfl⟩
theorem Up.trans{h h1 h2:HI}(a:Up h h1)(b:Up h1 h2):Up h h2:=⟨zxA a.1 b.1,fun n hn=>by rw[b.2 n (by have:=a.1;omega),a.2 n hn]⟩
theorem Up.app(h e:HI):Up h (h++e):=⟨by simp,fun n hn=>zfS hn⟩
theorem Up.net{h h':HI}(u:Up h h'){b c:Nat}{f:Nat->Nat->Nat}(N:Bm h b c f):Bm h' b c f:=by have:=N.lt;exact⟨fun i hi=>by rw[u.2 _ (by omega)];exact N.row i hi,by rw[u.2 _ this];exact N.top⟩
theorem Up.get{h h':HI}(u:Up h h'){n:Nat}{o:Ob}(e:h[n]?=some o):h'[n]?=some o:=by rw[u.2 n (zfR e).1];exact e
noncomputable def LG(p q:Nat)(a mx mn:Int):List Bd:=(if mx<=a then [(p,q,if mx<a then -1 else 0)]else [])++(if a<=mn then [(q,p,if a<mn then -1 else 0)]else [])
theorem sW(p q:Nat)(a:Int){seen:List Int}(hs:seen ≠ [])(h:HI):tI [.int (p:Nat),.int (q:Nat),.int a,.lst (seen.map Dt.int)] h=some (.ref h.length,h++[.lst ((LG p q a (sD seen) (fC seen)).map lA)]):=by
 have e1:=fun h=>D5 (h:=h) hs
 have em:=fun h=>XU (h:=h) hs
 generalize sD seen=mx at e1;generalize fC seen=mn at em;have ap:=fun(l:LI) (xs:List Bd) (g:RE) (d:Bd) (c:xs.length<5) (eg:g l (h++[.lst (xs.map lA)])=some (lA d,h++[.lst (xs.map lA)]))=>SE (h:=h++[.lst (xs.map lA)]) (l:=l) (n:=h.length) (ys:=xs.map lA) (xs:=xs.map lA) (d:=lA d) (by simp) eg (by simp) (by simp;omega)
 have es:∀(xs:List Bd)(d:Bd),(h++[Ob.lst (xs.map lA)]).set h.length (.lst (xs.map lA++[lA d]))=h++[.lst ((xs++[d]).map lA)]:=fun xs d=>by simp
 have first:∀l2:LI,l2=[some (.int (p:Nat)),some (.int (q:Nat)),some (.int a),some (.lst (seen.map Dt.int)),some (.ref h.length)]->uD (Wm (e2 zM (UC yH (eV 3)) (eV 2))) (mD (GD (eV 4) (aB (bA (eV 0) (bA (eV 1) (bA (kM (Wm (e2 BM (UC yH (eV 3)) (eV 2))) (mF (eC (.int 1))) (eC (.int 0))) (eA))))))) (zB) l2 (h++[.lst []]) =
  some (.nx l2 (h++[.lst ((if mx<=a then [((p,q,if mx<a then -1 else 0):Bd)]else []).map lA)])):=fun l2 hl2=>by
  subst hl2;by_cases c1:mx<=a
  · have g:=ap [some (.int (p:Nat)),some (.int (q:Nat)),some (.int a),some (.lst (seen.map Dt.int)),some (.ref h.length)] [] (aB (bA (eV 0) (bA (eV 1) (bA (kM (Wm (e2 BM (UC yH (eV 3)) (eV 2))) (mF (eC (.int 1))) (eC (.int 0))) (eA))))) (p,q,if mx<a then -1 else 0) (by simp) (by
     by_cases c2:mx<a<;>simp[e1,c2,lA])
    rw[es]at g;simp only[zfK,zfP]at g;simp only[dB,NA,yA,RC,oA,zfF,zfG,pA,iA,e1,eQ,VA,c1,decide_true,if_true,RD,BE,g]
  · simp[e1,c1]
 have second:∀(xs:List Bd),xs.length<5->uD (Wm (e2 DV (UC gG (eV 3)) (eV 2))) (mD (GD (eV 4) (aB (bA (eV 1) (bA (eV 0) (bA (kM (Wm (e2 CP (UC gG (eV 3)) (eV 2))) (mF (eC (.int 1))) (eC (.int 0))) (eA))))))) (zB) [some (.int (p:Nat)),some (.int (q:Nat)),some (.int a),some (.lst (seen.map Dt.int)),some (.ref h.length)] (h++[.lst (xs.map lA)]) =
  some (.nx [some (.int (p:Nat)),some (.int (q:Nat)),some (.int a),some (.lst (seen.map Dt.int)),some (.ref h.length)] (h++[.lst ((xs++if a<=mn then [((q,p,if a<mn then -1 else 0):Bd)]else []).map lA)])):=fun xs hx=>by
  by_cases c1:a<=mn
  · have g:=ap [some (.int (p:Nat)),some (.int (q:Nat)),some (.int a),some (.lst (seen.map Dt.int)),some (.ref h.length)] xs (aB (bA (eV 1) (bA (eV 0) (bA (kM (Wm (e2 CP (UC gG (eV 3)) (eV 2))) (mF (eC (.int 1))) (eC (.int 0))) (eA))))) (q,p,if a<mn then -1 else 0) hx (by
     by_cases c2:a<mn<;>simp[em,c2,lA])
    rw[es]at g;simp only[dB,NA,yA,RC,oA,zfF,zfG,pA,iA,em,DM,VA,c1,decide_true,if_true,RD,BE,g]
  · simp[em,c1]
 have f1:=first _ rfl
 have f2:=second (if mx<=a then [((p,q,if mx<a then -1 else 0):Bd)]else []) (by split<;>simp);unfold LG;simp only[tI,TQ,rB,zfH,zfI,if_true,zfJ,zfK,Nat.reduceAdd,Nat.reduceSub,replicate,zfQ,zfP,OA,YA,aG,KA,iA,zxB,FI,zfM,zfL,QA,f1,f2,yB,oA,zfF,zfG,pA,BB]
def pz(w:Nat):Nat×Nat:=Ml.getD w (0,0)
theorem Cy{w:Nat}(hw:w<13)(h:HI):ST [.int w] h=some (pr (pz w),h):=by rcases C4 hw with rfl | rfl | rfl | rfl | rfl | rfl | rfl | rfl | rfl | rfl | rfl | rfl | rfl<;>kernel_rfl
def zs(side w:Nat):Int:=if side=0 then((pz w).1:Int)else((pz w).2:Int)
def aC(side m:Nat):List Int:=(JA m).map (zs side)
theorem EZ{side m:Nat}(hm:JA m ≠ []):aC side m ≠ []:=by unfold aC;intro z;exact hm (map_eq_nil_iff.mp z)
def qF(i j side m:Nat):List Bd:=LG (2*i+side) (2*j) 1 (sD (aC side m)) (fC (aC side m))++LG (2*i+side) (2*j+1) 3 (sD (aC side m)) (fC (aC side m))
theorem vZ{c:Prop}[Decidable c](x:Bd):(if c then [x]else []).length<=1:=by split<;>simp
theorem mU(p q:Nat)(a mx mn:Int):(LG p q a mx mn).length<=2:=by unfold LG;rw[length_append];exact Nat.add_le_add (vZ _) (vZ _)
theorem ZZ{h:HI}{F G:List Bd}{rest:List Ob}{l:LI}{g:RE}(c:F.length+G.length<=100000)(eg:g l (h++.lst (F.map lA)::rest)=some (.ref (h++.lst (F.map lA)::rest).length,(h++.lst (F.map lA)::rest)++[.lst (G.map lA)])) :
 pK g l (.ref h.length,h++.lst (F.map lA)::rest)=some (.non,h++.lst ((F++G).map lA)::(rest++[.lst (G.map lA)])):=by
 have e0:(h++Ob.lst (F.map lA)::rest)[h.length]?=some (.lst (F.map lA)):=by simp
 have e1:((h++Ob.lst (F.map lA)::rest)++[Ob.lst (G.map lA)])[h.length]?=some (.lst (F.map lA)):=by rw[zfS (by simp)];exact e0
 have e2:((h++Ob.lst (F.map lA)::rest)++[Ob.lst (G.map lA)])[(h++Ob.lst (F.map lA)::rest).length]?=some (.lst (G.map lA)):=by rw[zfV (zfU _),Nat.sub_self];rfl
 rw[zY e0 eg e1 e2 (by simp;omega)];simp
theorem PX(i j m side:Nat)(hs:side=0\/side=1)(hi:i<=1000)(hj:j<=1000)(hm:JA m ≠ [])(h:HI)(F:List Bd)(hF:F.length<=1000)(rest:List Ob)(y5:Option Dt):∃y rest',YK [some (.int (i:Nat)),some (.int (m:Nat)),some (.int (j:Nat)),some (.ref h.length),some (.int (side:Nat)),y5] (h++.lst (F.map lA)::rest) =
 some (.nx [some (.int (i:Nat)),some (.int (m:Nat)),some (.int (j:Nat)),some (.ref h.length),some (.int (side:Nat)),y] (h++.lst ((F++qF i j side m).map lA)::rest')):=by
 have ew:=fun h=>iL m h
 have wl:∀k∈JA m,k<13:=fun k hk=>mem_range.mp (mem_filter.mp hk).1
 have ln:((JA m).map fun(k:Nat)=>Dt.int (k:Int)).length<sizeLine:=by have:(JA m).length<=13:=zxA (length_filter_le _ _) (by simp);simp;omega
 have ec:=PH (te:=WK) (tc:=VB) (i:=0) (fun(k:Nat)=>Dt.int (k:Int)) (fun k=>Dt.int (zs side k)) (h++.lst (F.map lA)::rest) (JA m) [none,some (.int (side:Nat))] (by
  intro k hk;have ez:=Cy (wl k hk) (h++.lst (F.map lA)::rest);refine⟨by simp,?_⟩;rcases hs with rfl | rfl
  · simp[WK,ez,pr,zs]
  · simp[WK,ez,pr,zs])
 have ek:=YF (l:=[none,some (.int (side:Nat))]) (h:=h++.lst (F.map lA)::rest) (DA 0) VB WK ln;rw[ec]at ek;have sl:(JA m).map (fun k=>Dt.int (zs side k))=(aC side m).map Dt.int:=by unfold aC;rw[map_map];rfl
 rw[sl]at ek;have hp:=fun h=>sW (2*i+side) (2*j) 1 (EZ (side:=side) hm) h
 have hq:=fun h=>sW (2*i+side) (2*j+1) 3 (EZ (side:=side) hm) h
 have pl:∀p q a mx mn,(LG p q a mx mn).length<=2:=mU
 have u:=fun(i:Int) (h:HI)=>xE (h:=h) (i:=2) (j:=i) (Or.inl ⟨by decide,by decide⟩)
 have ca:(2:Int)*(i:Int)+(side:Int)=((2*i+side:Nat):Int):=by omega
 have cb:(2:Int)*(j:Int)=((2*j:Nat):Int):=by omega
 have cc:((2*j:Nat):Int)+1=((2*j+1:Nat):Int):=by omega
 have x1:=ZZ (h:=h) (F:=F) (G:=LG (2*i+side) (2*j) 1 (sD (aC side m)) (fC (aC side m))) (rest:=rest) (l:=[some (.int (i:Nat)),some (.int (m:Nat)),some (.int (j:Nat)),some (.ref h.length),some (.int (side:Nat)),some (.lst ((aC side m).map Dt.int))])
  (g:=zA tI [] (bA (e2 XB (e2 gC (eC (.int 2)) (eV 0)) (eV 4)) (bA (e2 gC (eC (.int 2)) (eV 2)) (bA (eC (.int 1)) (bA (eV 5) (eA)))))) (by have:=pl (2*i+side) (2*j) 1 (sD (aC side m)) (fC (aC side m));omega) (by
   simp only[gB,UA,KA,yA,xA,oA,zfF,zfG,pA,iA,u,nE,ca,cb,zfW];exact hp _)
 have x2:=ZZ (h:=h) (F:=F++LG (2*i+side) (2*j) 1 (sD (aC side m)) (fC (aC side m))) (G:=LG (2*i+side) (2*j+1) 3 (sD (aC side m)) (fC (aC side m))) (rest:=rest++[.lst ((LG (2*i+side) (2*j) 1 (sD (aC side m)) (fC (aC side m))).map lA)]) (l:=[some (.int (i:Nat)),some (.int (m:Nat)),some (.int (j:Nat)),some (.ref h.length),some (.int (side:Nat)),some (.lst ((aC side m).map Dt.int))])
  (g:=zA tI [] (bA (e2 XB (e2 gC (eC (.int 2)) (eV 0)) (eV 4)) (bA (e2 XB (e2 gC (eC (.int 2)) (eV 2)) (eC (.int 1))) (bA (eC (.int 3)) (bA (eV 5) (eA)))))) (by have:=pl (2*i+side) (2*j) 1 (sD (aC side m)) (fC (aC side m));have:=pl (2*i+side) (2*j+1) 3 (sD (aC side m)) (fC (aC side m));simp;omega) (by
   simp only[gB,UA,KA,yA,xA,oA,zfF,zfG,pA,iA,u,nE,ca,cb,cc,zfW];exact hq _)
 refine⟨some (.lst ((aC side m).map Dt.int)),rest++[.lst ((LG (2*i+side) (2*j) 1 (sD (aC side m)) (fC (aC side m))).map lA)]++[.lst ((LG (2*i+side) (2*j+1) 3 (sD (aC side m)) (fC (aC side m))).map lA)],?_⟩;unfold qF;rw[<- append_assoc];simp only[YK,OA,YA,rG,CD,gB,UA,KA,oA,zfF,zfG,pA,iA,zfW,ew,OH,KF,LJ,MF,Option.join,zfO,id,ek,zfM,zfL,QA,RD,eO,x1,x2]
theorem xI(i j side m:Nat):(qF i j side m).length<=4:=by unfold qF;rw[length_append];have h1:=mU (2*i+side) (2*j) 1 (sD (aC side m)) (fC (aC side m));have h2:=mU (2*i+side) (2*j+1) 3 (sD (aC side m)) (fC (aC side m));omega
def LC(i m j:Nat):List Bd:=qF i j 0 m++qF i j 1 m
theorem tW(i m j:Nat)(hi:i<=1000)(hj:j<=1000)(hm:JA m ≠ [])(h:HI):∃rest,zJ [.int (i:Nat),.int (m:Nat),.int (j:Nat)] h=some (.ref h.length,h++.lst ((LC i m j).map lA)::rest):=by
 obtain⟨y1,r1,e1⟩:=PX i j m 0 (.inl rfl) hi hj hm h [] (by simp) [] none;obtain⟨y2,r2,e2⟩:=PX i j m 1 (.inr rfl) hi hj hm h (qF i j 0 m) (by have:=xI i j 0 m;omega) r1 y1;have er:v3 (.int 2,h++[.lst []])=some (.vals [.int 0,.int 1],h++[.lst []]):=by rw[OF (by decide) (by decide)];rfl
 refine⟨r2,?_⟩;have e1':YK [some (.int (i:Nat)),some (.int (m:Nat)),some (.int (j:Nat)),some (.ref h.length),some (.int 0),none] (h++[.lst []])=some (.nx [some (.int (i:Nat)),some (.int (m:Nat)),some (.int (j:Nat)),some (.ref h.length),some (.int 0),y1] (h++.lst ((qF i j 0 m).map lA)::r1)):=e1;have e2':YK [some (.int (i:Nat)),some (.int (m:Nat)),some (.int (j:Nat)),some (.ref h.length),some (.int 1),y1] (h++.lst ((qF i j 0 m).map lA)::r1)=some (.nx [some (.int (i:Nat)),some (.int (m:Nat)),some (.int (j:Nat)),some (.ref h.length),some (.int 1),y2] (h++.lst ((LC i m j).map lA)::r2)):=e2;simp[zJ,iR,er,zC,e1',e2']
theorem o9(i:Nat)(lo hi:Int){g:Nat}(hg:g<=1000)(h:HI):OK [.tup [.int (i:Nat),.int lo,.int hi],.int (g:Nat)] h=some (.ref h.length,h++[.lst (([(2*i,2*i+1,-lo*g),(2*i+1,2*i,hi*g)]:List Bd).map lA)]):=by
 have u:=fun(h:HI)=>xE (h:=h) (i:=2) (j:=(i:Int)) (Or.inl ⟨by decide,by decide⟩)
 have v:=fun(x:Int) (h:HI)=>xE (h:=h) (i:=x) (j:=(g:Int)) (Or.inr ⟨by omega,by omega⟩)
 simp[OK,DQ,u,v,lA]
noncomputable abbrev Ln:=Nat×Int×Int
noncomputable def xC(x:Ln):Dt:=.tup [.int (x.1:Nat),.int x.2.1,.int x.2.2]
noncomputable def VC(g:Nat)(x:Ln):List Bd:=[(2*x.1,2*x.1+1,-x.2.1*g),(2*x.1+1,2*x.1,x.2.2*g)]
noncomputable def EH(c:Nat)(N:Nat->Nat->Nat):List Dt:=(range c).map fun i=>.lst ((range c).map fun j=>.int ((N i j:Nat):Int))
noncomputable def tD(c:Nat):List Bd:=(range c).map fun i=>(2*i,2*i+1,-1)
def lD(c:Nat)(N:Nat->Nat->Nat)(ls:List Ln):List Bd:=tD c++ls.flatMap (VC (2*c+1))++(LA c).flatMap fun p=>LC p.1 (N p.1 p.2) p.2
theorem cU{h:HI}{F G:List Bd}{rest zaw:List Ob}{l:LI}{g:RE}(c:F.length+G.length<=100000)(eg:g l (h++.lst (F.map lA)::rest)=some (.ref (h++.lst (F.map lA)::rest).length,(h++.lst (F.map lA)::rest)++.lst (G.map lA)::zaw)) :
 pK g l (.ref h.length,h++.lst (F.map lA)::rest)=some (.non,h++.lst ((F++G).map lA)::(rest++.lst (G.map lA)::zaw)):=by
 have e0:(h++Ob.lst (F.map lA)::rest)[h.length]?=some (.lst (F.map lA)):=by simp
 have e1:((h++Ob.lst (F.map lA)::rest)++Ob.lst (G.map lA)::zaw)[h.length]?=some (.lst (F.map lA)):=by rw[zfS (by simp)];exact e0
 have e2:((h++Ob.lst (F.map lA)::rest)++Ob.lst (G.map lA)::zaw)[(h++Ob.lst (F.map lA)::rest).length]?=some (.lst (G.map lA)):=by rw[zfV (zfU _),Nat.sub_self];rfl
 rw[zY e0 eg e1 e2 (by simp;omega)];simp
theorem BJ{α β:Type}(f:α->List β){xs:List α}{k:Nat}{x:α}(hx:xs[k]?=some x):(xs.take (k+1)).flatMap f=(xs.take k).flatMap f++f x:=by rw[take_add_one,hx,flatMap_append];simp
theorem cg(c:Nat)(h:HI):vL [.int (c:Nat)] h=some (.int ((2*c+1:Nat):Int),h):=by
 have u:=fun(h:HI)=>xE (h:=h) (i:=2) (j:=(c:Int)) (Or.inl ⟨by decide,by decide⟩)
 simp[vL,NT,u]
theorem Wn{c b:Nat}(hc:c<=100){N:Nat->Nat->Nat}(hN:∀i j,JA (N i j) ≠ []){h:HI}{F:List Bd}(hF:F.length<=3000){r0:List Ob}(db:∀G:List Bd,∀r2:List Ob,(h++.lst (G.map lA)::(r0++r2))[b]?=some (.lst ((LA c).map wA)))(x1 y3:Option Dt)(pl:(LA c).length<=10000)(pin:∀p∈LA c,p.1<c/\p.2<c) :
 ∃y rest,yE (DA 4) CI [some (.lst (EH c N)),x1,some (.ref h.length),y3,none] (.rf b,h++.lst (F.map lA)::r0) =
 some (.nx [some (.lst (EH c N)),x1,some (.ref h.length),y3,y] (h++.lst ((F++(LA c).flatMap fun p=>LC p.1 (N p.1 p.2) p.2).map lA)::rest)):=by
 obtain⟨l',h',e,⟨y,rfl⟩,r2,rfl,Z⟩:=xP (i:=4) (n:=b) (body:=CI) wA (fun k l h'=>(∃y,l=[some (.lst (EH c N)),x1,some (.ref h.length),y3,y])/\∃r2,h'=h++.lst ((F++((LA c).take k).flatMap fun p=>LC p.1 (N p.1 p.2) p.2).map lA)::(r0++r2)/\(((LA c).take k).flatMap fun p=>LC p.1 (N p.1 p.2) p.2).length<=8*k) (LA c) (by
  rintro k l h' ⟨_,r2,rfl,_⟩;exact db _ r2) (by
  rintro k x hx l h' ⟨⟨y,rfl⟩,r2,rfl,hk⟩;have kl:k<(LA c).length:=(zfR hx).1;obtain⟨p1,p2⟩:=pin x (mem_of_getElem? hx);have l8:(LC x.1 (N x.1 x.2) x.2).length<=8:=by unfold LC;rw[length_append];have:=xI x.1 x.2 0 (N x.1 x.2);have:=xI x.1 x.2 1 (N x.1 x.2);omega
  obtain⟨rs,eb⟩:=tW x.1 (N x.1 x.2) x.2 (by omega) (by omega) (hN _ _) (h++.lst ((F++((LA c).take k).flatMap fun p=>LC p.1 (N p.1 p.2) p.2).map lA)::(r0++r2));have n1:(EH c N)[x.1]?=some (.lst ((range c).map fun j=>.int ((N x.1 j:Nat):Int))):=by simp[EH,p1]
  have n2:((range c).map fun j=>Dt.int ((N x.1 j:Nat):Int))[x.2]?=some (.int ((N x.1 x.2:Nat):Int)):=by simp[p2]
  have xx:=cU (h:=h) (F:=F++((LA c).take k).flatMap fun p=>LC p.1 (N p.1 p.2) p.2) (G:=LC x.1 (N x.1 x.2) x.2) (rest:=r0++r2) (zaw:=rs) (l:=[some (.lst (EH c N)),x1,some (.ref h.length),y3,some (wA x)]) (g:=zA zJ [] (bA (e2 rA (eV 4) (eC (.int 0))) (bA (e2 rA (e2 rA (eV 0) (e2 rA (eV 4) (eC (.int 0)))) (e2 rA (eV 4) (eC (.int 1)))) (bA (e2 rA (eV 4) (eC (.int 1))) (eA))))) (by rw[length_append];omega) (by
   simp only[gB,UA,KA,yA,xA,oA,zfF,zfG,pA,iA,wA,QB,YB,ID,zfN,bK,SM.ZC,n1,n2,zfW];exact eb)
  refine⟨.nx [some (.lst (EH c N)),x1,some (.ref h.length),y3,some (wA x)] (h++.lst ((F++((LA c).take (k+1)).flatMap fun p=>LC p.1 (N p.1 p.2) p.2).map lA)::(r0++(r2++.lst ((LC x.1 (N x.1 x.2) x.2).map lA)::rs))),?_,⟨_,rfl⟩,_,rfl,?_⟩
  · rw[BJ _ hx,<- append_assoc,<- append_assoc];simp only[CI,RD,eO,oA,zfM,zfL,zfF,zfG,pA,iA,xx]
  · rw[BJ _ hx,length_append];omega) [some (.lst (EH c N)),x1,some (.ref h.length),y3,none] (h++.lst (F.map lA)::r0) ⟨⟨_,rfl⟩,[],by simp,by simp⟩
 rw[take_length]at e;exact⟨y,_,e⟩
theorem eT{c:Nat}{p:Nat×Nat}(h:p∈LA c):p.1<c/\p.2<c:=by unfold LA iD at h;obtain⟨i,hi,h⟩:=mem_flatMap.mp h;obtain⟨k,hk,rfl⟩:=mem_map.mp h;have:=mem_range.mp hi;have:=mem_range.mp hk;exact⟨by omega,by show i+1+k<c;omega⟩
theorem yj{c i:Nat}(hi:i<c):replicate i (Dt.int 8191)++[Dt.int 64]++replicate (c-i-1) (Dt.int 8191)=eD c (hC i):=by
 apply ext_getElem?;intro k;by_cases hk:k<c
 · rw[zL hk];rcases Nat.lt_trichotomy k i with h | h | h
   · rw[append_assoc,zfS (by simpa using h)];have:¬i=k:=by omega
     simp[h,hC,this]
   · subst h;rw[append_assoc,zfV (by simp)];simp[hC]
   · rw[zfV (by simp;omega)];have:¬i=k:=by omega
     have q:k-(i+1)<c-i-1:=by omega
     simp[hC,this,getElem?_replicate,q]
 · rw[getElem?_eq_none (by simp;omega),getElem?_eq_none (by rw[fO];omega)]
theorem Fj{c i:Nat}(hi:i<c)(hc:c<=1000)(h:HI):HN [.int (c:Nat),.int (i:Nat)] h=some (.ref h.length,h++[.lst (eD c (hC i))]):=by
 have e1:=QY (h:=h) (Dt.int 8191) (show i<=1000000 by omega);have e2:=QY (h:=h) (Dt.int 8191) (show c-i-1<=1000000 by omega);have ec:(c:Int)-(i:Int)-1=((c-i-1:Nat):Int):=by omega
 have e3:=X7 (h:=h) (xs:=replicate i (Dt.int 8191)) (ys:=[Dt.int 64]) (by simp;omega);have e4:pP (.lst (replicate i (Dt.int 8191)++[Dt.int 64])) (.lst (replicate (c-i-1) (Dt.int 8191))) h=some (.ref h.length,h++[.lst (replicate i (Dt.int 8191)++[Dt.int 64]++replicate (c-i-1) (Dt.int 8191))]):=by simp only[pP,OB,zfO];rw[if_pos (by simp;omega)]
 rw[yj hi]at e4;simp[HN,iS,e1,ec,e2,e3,e4]
theorem Tf{c:Nat}(hc:c<=1000)(h:HI):LO [.int (c:Nat)] h=some (.ref (h.length+c),h++MD h.length c hC):=by
 have er:=OF (h:=h) (show(-(2^62):Int)<=(c:Int) by omega) (show(c:Int)<2^62 by omega);simp only[zxE]at er;have hn:=xS (te:=xT) (i:=0) (fun(k:Nat)=>Dt.int (k:Int)) (fun i=>Ob.lst (eD c (hC i))) h (range c) [none,some (.int (c:Nat))] [] (by
  intro k hk e;have:=Fj (mem_range.mp hk) hc (h++e);simp[xT,this])
 rw[zfW,length_range]at hn;have hs:((range c).map fun(k:Nat)=>Dt.int (k:Int)).length<sizeLine:=by simp;omega
 simp[LO,zU,er,YF _ _ _ hs,hn,MD,XF]
noncomputable def Np(h h':HI):Prop:=h.length<=h'.length/\∀(n:Nat)(xs:List Dt),h[n]?=some (.lst xs)->h'[n]?=some (.lst xs)
theorem Np.refl(h:HI):Np h h:=⟨zfU _,fun Z Z e=>e⟩
theorem Np.trans{h h1 h2:HI}(a:Np h h1)(b:Np h1 h2):Np h h2:=⟨zxA a.1 b.1,fun n xs e=>b.2 n xs (a.2 n xs e)⟩
theorem Up.l{h h':HI}(u:Up h h'):Np h h':=⟨u.1,fun Z Z e=>u.get e⟩
theorem Np.app(h e:HI):Np h (h++e):=(Up.app h e).l
theorem Np.net{h h':HI}(u:Np h h'){b c:Nat}{f:Nat->Nat->Nat}(N:Bm h b c f):Bm h' b c f:=⟨fun i hi=>u.2 _ _ (N.row i hi),u.2 _ _ N.top⟩
theorem Np.set{h:HI}{n:Nat}{x:Str}{fs fs':List (Str×Dt)}(e:h[n]?=some (.ins x fs)):Np h (h.set n (.ins x fs')):=by
 refine⟨by simp,fun k xs q=>?_⟩;rw[getElem?_set];by_cases z:n=k
 · subst z;rw[e]at q;cases q
 · rw[if_neg z];exact q
noncomputable abbrev JB:=Nat×Nat×Nat
noncomputable def AA (m:JB):Dt:=.tup [.str "ways", .int (m.1:Nat),.int (m.2.1:Nat),.int (m.2.2:Nat)]
noncomputable def kD(c:Nat)(m:JB):Prop:=m.1<c/\m.2.2<c/\m.1≠m.2.2/\m.2.1<8192
def zaJ(h:HI)(d:Dt)(g:List JB):Prop:=∃n,d=.ref n/\h[n]?=some (.lst (g.map AA))
theorem zaJ.up{h h':HI}{d:Dt}{g:List JB}(q:zaJ h d g)(u:Np h h'):zaJ h' d g:=by obtain⟨n,e,q⟩:=q;exact⟨n,e,u.2 _ _ q⟩
noncomputable def jC(c:Nat)(g:Nat->Nat->Nat):Nat->Nat->Nat:=fun i j=>if i<c/\j<c then g i j else 0
theorem FE{c:Nat}(g:Nat->Nat->Nat){i j:Nat}(hi:i<c)(hj:j<c):jC c g i j=g i j:=if_pos ⟨hi,hj⟩
theorem nq{c:Nat}{g g':Nat->Nat->Nat}(e:∀i<c,∀j<c,g i j=g' i j):jC c g=jC c g':=by
 funext i j
 unfold jC;split
 · rename_i q;exact e i q.1 j q.2
 · rfl
theorem Uy{h:HI}{b c:Nat}{g:Nat->Nat->Nat}(N:Bm h b c g):Bm h b c (jC c g):=N.congr fun Z hi Z hj=>(FE g hi hj).symm
theorem KO{c:Nat}{g:Nat->Nat->Nat}(o:WA c g):WA c (jC c g):=⟨fun i hi j hj=>by rw[FE g hi hj];exact o.lt i hi j hj,fun i hi j hj=>by rw[FE g hi hj,FE g hj hi];exact o.tn i hi j hj⟩
theorem Iv{c:Nat}{g:Nat->Nat->Nat}{i k j:Nat}(hi:i<c)(hk:k<c)(hj:j<c):Om (jC c g) i k j=Om g i k j:=by unfold Om;rw[FE g hi hj,FE g hi hk,FE g hk hj]
theorem Qj{c:Nat}{g:Nat->Nat->Nat}(o:qG c g):qG c (jC c g):=fun i hi k hk j hj d=>by rw[Iv hi hk hj,FE g hi hj];exact o i hi k hk j hj d
theorem sS{α:Type}{p q:α->Bool}:∀{xs:List α},(∀x∈xs,p x=q x)->xs.any p=xs.any q
 | [],_=>rfl
 | x::xs,h=>by rw[any_cons,any_cons,h x (by simp),sS fun y hy=>h y (by simp[hy])]
theorem cj{c:Nat}{g g':Nat->Nat->Nat}(e:∀i<c,∀j<c,g i j=g' i j):iC c g=iC c g':=by unfold iC;exact sS fun i hi=>sS fun j hj=>by rw[e i (mem_range.mp hi) j (mem_range.mp hj)]
theorem tX(c:Nat)(g:Nat->Nat->Nat):iC c (jC c g)=iC c g:=cj fun Z hi Z hj=>FE g hi hj
def zay(c:Nat)(f:Nat->Nat->Nat)(st:List (Nat×Nat×Nat))(g:Nat->Nat->Nat):Prop:=∃g0,Steps c f st g0/\qG c g0/\iC c g0=false/\g=jC c g0
theorem zay.ok{c:Nat}{f g:Nat->Nat->Nat}{st:List (Nat×Nat×Nat)}(e:zay c f st g)(o:WA c f):WA c g/\qG c g/\iC c g=false:=by obtain⟨g0,s,cl,ne,rfl⟩:=e;exact⟨KO (s.ok o),Qj cl,by rw[tX];exact ne⟩
theorem zay.unique{c:Nat}{f g g':Nat->Nat->Nat}{st st':List (Nat×Nat×Nat)}(o:WA c f)(e:zay c f st g)(e':zay c f st' g'):g=g':=by
 obtain⟨g0,s,cl,ne,rfl⟩:=e;obtain⟨g1,s',cl',ne',rfl⟩:=e';refine nq fun i hi j hj=>?_
 have a1:=s.keeps (s'.ok o) cl' (s'.sub o) i hi j hj;have a2:=s'.keeps (s.ok o) cl (s.sub o) i hi j hj;exact Zm.antisymm a2 a1
theorem zay.Kl{c:Nat}{f g g':Nat->Nat->Nat}{st st':List (Nat×Nat×Nat)}(o:WA c f)(e:zay c f st g)(s':Steps c f st' g'):iC c g'=false:=by
 obtain⟨g0,s,cl,ne,rfl⟩:=e;have a1:=s'.keeps (s.ok o) cl (s.sub o);cases z:iC c g' with
 | false=>rfl
 | true=>
  obtain⟨i,hi,j,hj,e⟩:=Ul.mp z;have:=a1 i hi j hj;rw[e]at this;have h0:g0 i j=0:=by unfold Zm at this;rw[Nat.and_zero]at this;exact this.symm
  exact absurd h0 (G.Kl ne hi hj)
noncomputable def notM(m:Nat):Nat:=8191-m
theorem tZ(m:Nat):notM m<8192:=by unfold notM;omega
def lE(f:Nat->Nat->Nat)(k:Nat):List JB->Nat->(Nat->Nat->Nat)
 | [],_=>f
 | m::ms,p=>lE (KB f m.1 (if p=k then m.2.1 else notM m.2.1) m.2.2) k ms (p+1)
def aI(f:Nat->Nat->Nat)(g:List JB)(k:Nat):Nat->Nat->Nat:=lE f k g 0
theorem RW(k:Nat)(m:JB):∀(ms:List JB)(f:Nat->Nat->Nat)(p:Nat),lE f k (ms++[m]) p=KB (lE f k ms p) m.1 (if p+ms.length=k then m.2.1 else notM m.2.1) m.2.2
 | [],f,p=>by simp[lE]
 | x::ms,f,p=>by show lE (KB f x.1 (if p=k then x.2.1 else notM x.2.1) x.2.2) k (ms++[m]) (p+1)=_;rw[RW k m ms _ (p+1),zfH,show p+(ms.length+1)=p+1+ms.length by omega];rfl
theorem US{c k:Nat}:∀(ms:List JB)(_:∀m∈ms,kD c m)(f:Nat->Nat->Nat)(p:Nat),WA c f->WA c (lE f k ms p)
 | [],_,f,p,o=>o
 | m::ms,h,f,p,o=>by obtain⟨a,b,d,Z⟩:=h m (by simp);exact US ms (fun x hx=>h x (by simp[hx])) _ _ (nG o a b d _)
def WD(c:Nat)(g:Nat->Nat->Nat):Option (Nat×Nat):=(LA c).find? fun p=>decide (1<(JA (g p.1 p.2)).length)
theorem Og{m:Nat}(h:m<8192):Builtin.bitAnd 8191 (Builtin.bitNot ((m:Nat):Int))=((notM m:Nat):Int):=by
 have h1:Builtin.bitNot (Builtin.bitNot ((m:Nat):Int))=(m:Int):=by unfold Builtin.bitNot;omega
 have h2:¬(0<=Builtin.bitNot ((m:Nat):Int)):=by unfold Builtin.bitNot;omega
 have h3:(8191:Nat)&&&m=m:=by rw[Nat.and_comm,show(8191:Nat)=2^13-1 from rfl,Nat.and_two_pow_sub_one_eq_mod];exact Nat.mod_eq_of_lt h
 unfold Builtin.bitAnd;have d1:decide ((8191:Int) >=0)=true:=by decide
 have d2:decide (Builtin.bitNot ((m:Nat):Int) >=0)=false:=decide_eq_false h2;simp only[d1,d2,h1];show(8191:Int)-(((8191:Int).toNat&&&(m:Int).toNat:Nat):Int)=_;rw[show(8191:Int).toNat=8191 from rfl,zxE,h3];unfold notM;omega
theorem WY{α:Type}{xs:List α}{k:Nat}(h:k<=xs.length):(xs.take k).length=k:=by rw[length_take];omega
theorem DJ{α:Type}{xs:List α}{k:Nat}{x:α}(h:xs[k]?=some x):xs.take (k+1)=xs.take k++[x]:=by rw[take_add_one,h];rfl
theorem v9{h:HI}{b c:Nat}{f:Nat->Nat->Nat}(N:Bm h b c f)(hc:c<=1000){n:Nat}{g:List JB}(hg:h[n]?=some (.lst (g.map AA)))(ok:∀m∈g,kD c m)(k:Nat) :
 ∃b' h',nN [.ref (b+c),.ref n,.int (k:Nat)] h=some (.ref (b'+c),h')/\Bm h' b' c (aI f g k)/\Up h h':=by
 obtain⟨l',h',e,b',y3,y4,y5,rfl,N',U⟩:=C1 (i:=3) (j:=4) (n:=n) (body:=bN) AA (fun k' l h'=>∃b' y3 y4 y5,l=[some (.ref (b'+c)),some (.ref n),some (.int (k:Nat)),y3,y4,y5]/\Bm h' b' c (lE f k (g.take k') 0)/\Up h h') g (by
  rintro k' l h' ⟨b',y3,y4,y5,rfl,N',U⟩;exact U.get hg) (by
  rintro k' x hx l h' ⟨b',y3,y4,y5,rfl,N',U⟩;obtain⟨a1,a2,a3,a4⟩:=ok x (mem_of_getElem? hx);have kl:k'<g.length:=(zfR hx).1;have eq:lE f k (g.take (k'+1)) 0=KB (lE f k (g.take k') 0) x.1 (if k'=k then x.2.1 else notM x.2.1) x.2.2:=by rw[DJ hx,RW,WY (by omega),zxI]
  have en:=JN N' hc a1 a2 (if k'=k then x.2.1 else notM x.2.1);rw[<- eq]at en;have M:=gH h' c (lE f k (g.take (k'+1)) 0);refine⟨.nx [some (.ref (h'.length+c)),some (.ref n),some (.int (k:Nat)),some (.int (k':Nat)),some (AA x),some (.int ((if k'=k then x.2.1 else notM x.2.1:Nat):Int))] (h'++MD h'.length c (lE f k (g.take (k'+1)) 0)),?_,h'.length,_,_,_,rfl,M,U.trans (Up.app _ _)⟩;have m2:Kp [Dt.str "ways",Dt.int (x.1:Nat),Dt.int (x.2.1:Nat),Dt.int (x.2.2:Nat)] 2=some (.int (x.2.1:Nat)):=rfl;have m1:Kp [Dt.str "ways",Dt.int (x.1:Nat),Dt.int (x.2.1:Nat),Dt.int (x.2.2:Nat)] 1=some (.int (x.1:Nat)):=rfl;have m3:Kp [Dt.str "ways",Dt.int (x.1:Nat),Dt.int (x.2.1:Nat),Dt.int (x.2.2:Nat)] 3=some (.int (x.2.2:Nat)):=rfl;by_cases z:k'=k
  · subst z;rw[if_pos rfl]at en ⊢;have dd:decide ((k':Int)=(k':Int))=true:=decide_eq_true rfl;simp only[bN,OA,YA,vP,NA,yA,oA,xA,zfM,zfL,zfF,zfG,pA,iA,PD,decide_true,VA,if_true,AA,QB,m1,m2,m3,zfN,QA,gB,UA,KA,zfW,en]
  · rw[if_neg z]at en ⊢;have dd:decide ((k':Int)=(k:Int))=false:=decide_eq_false (by omega);simp only[bN,OA,YA,vP,NA,yA,oA,xA,zfM,zfL,zfF,zfG,pA,iA,PD,dd,VA,zfX,if_false,AA,QB,m1,m2,m3,zfN,C8,Jk,sH,Og a4,QA,gB,UA,KA,zfW,en]) [some (.ref (b+c)),some (.ref n),some (.int (k:Nat)),none,none,none] h ⟨b,_,_,_,rfl,N,Up.refl h⟩
 rw[take_length]at N';refine⟨b',h',?_,N',U⟩;simp only[nN,rR,rB,zfH,zfI,if_true,zfJ,zfK,Nat.reduceAdd,Nat.reduceSub,replicate,zfQ,zfP,OA,ND,qU,oA,zfF,zfG,pA,iA,kS hg,e,QA,yB,BB]
theorem E9{h:HI}{b c:Nat}{g:Nat->Nat->Nat}(N:Bm h b c g)(hc:c<=1000) :
 ∃h',GK [.ref (b+c)] h=some ((match WD c g with | none=>.non | some p=>wA p),h')/\Up h h':=by
 have ep:=ZR hc h;have U:Up h (h++[.lst ((LA c).map wA)]):=Up.app _ _;have N1:Bm (h++[.lst ((LA c).map wA)]) b c g:=U.net N;have hl:(h++[Ob.lst ((LA c).map wA)])[h.length]?=some (.lst ((LA c).map wA)):=by simp
 refine⟨h++[.lst ((LA c).map wA)],?_,U⟩;have body:∀p∈LA c,∀y,XM [some (.ref (b+c)),some (wA p)] (h++[.lst ((LA c).map wA)])=some (if decide (1<(JA (g p.1 p.2)).length)=true then .rt (wA p) (h++[.lst ((LA c).map wA)])else .nx [some (.ref (b+c)),some (wA p)] (h++[.lst ((LA c).map wA)]))\/y:=by
  intro p hp y;obtain⟨p1,p2⟩:=eT hp
  left
  have i1:=oE N1.top (p.1:Int);rw[SM.ZC,tO p1,zfN]at i1;have i2:=oE (N1.row _ p1) (p.2:Int);rw[SM.ZC,zL p2,zfN]at i2;have dd:decide ((1:Int)<(((JA (g p.1 p.2)).map fun(k:Nat)=>Dt.int (k:Int)).length:Nat))=decide (1<(JA (g p.1 p.2)).length):=by
   rw[length_map];by_cases z:1<(JA (g p.1 p.2)).length
   · rw[decide_eq_true z,decide_eq_true (by omega)]
   · rw[decide_eq_false z,decide_eq_false (by omega)]
  simp only[XM,dB,NA,yA,RC,gB,UA,KA,oA,xA,zfF,zfG,pA,iA,wA,QB,YB,ID,zfN,i1,i2,zfW,iL,CU,zK,dd,VA,yB,dC];split<;>rfl
 obtain⟨r,e,er⟩:=F0 (i:=1) (n:=h.length) (body:=XM) wA (fun k l h'=>(∃y,l=[some (.ref (b+c)),y])/\h'=h++[.lst ((LA c).map wA)]/\((LA c).take k).find? (fun p=>decide (1<(JA (g p.1 p.2)).length))=none) (fun d h'=>h'=h++[.lst ((LA c).map wA)]/\∃p,WD c g=some p/\d=wA p) (LA c) (by
  rintro k l h' ⟨_,rfl,_⟩;exact hl) (by
  rintro k x hx l h' ⟨⟨y,rfl⟩,rfl,nf⟩;rcases body x (mem_of_getElem? hx) False with bb | bb
  · refine⟨_,bb,?_⟩;by_cases z:decide (1<(JA (g x.1 x.2)).length)=true
    · rw[if_pos z];refine⟨rfl,x,?_,rfl⟩;unfold WD;rw[<- take_append_drop k (LA c),find?_append,nf,Option.none_or];have:(LA c).drop k=x::(LA c).drop (k+1):=by obtain⟨q1,q2⟩:=zfR hx;rw[<- q2];exact drop_eq_getElem_cons q1
      rw[this,find?_cons,z]
    · rw[if_neg z];refine⟨⟨_,rfl⟩,rfl,?_⟩;rw[DJ hx,find?_append,nf,Option.none_or,find?_cons];simp only[show decide (1<(JA (g x.1 x.2)).length)=false by simpa using z];rfl
  · exact bb.elim) [some (.ref (b+c)),none] (h++[.lst ((LA c).map wA)]) ⟨⟨_,rfl⟩,rfl,rfl⟩
 have fl:=N.len;cases r with
 | nx l' h'=>obtain⟨Z,rfl,nf⟩:=er;rw[take_length]at nf;have:WD c g=none:=nf;rw[this];simp only[GK,QM,rB,zfH,zfI,if_true,zfJ,zfK,Nat.reduceAdd,Nat.reduceSub,replicate,zfQ,zfP,OA,ND,CD,gB,UA,KA,RC,oA,zfF,pA,iA,fl,zfW,ep,jE hl,e,QA,yB,xA,BB]
 | rt d h'=>obtain⟨rfl,p,e1,rfl⟩:=er;rw[e1];simp only[GK,QM,rB,zfH,zfI,if_true,zfJ,zfK,Nat.reduceAdd,Nat.reduceSub,replicate,zfQ,zfP,OA,ND,CD,gB,UA,KA,RC,oA,zfF,pA,iA,fl,zfW,ep,jE hl,e,aF,BB]
 | bk l' h'=>exact er.elim
 | ct l' h'=>exact er.elim
inductive Fact where
 | ways (m:JB)
 | long (x:Ln)
 | one (g:List JB)
def El(h:HI)(d:Dt):Fact->Prop
 | .ways m=>d=AA m
 | .long x=>d=.tup [.str "long", .int (x.1:Nat),.int x.2.1,.int x.2.2]
 | .one g=>∃gd,d=.tup [.str "one",gd]/\zaJ h gd g
theorem El.up{h h':HI}{d:Dt}{f:Fact}(q:El h d f)(u:Np h h'):El h' d f:=by
 cases f with
 | ways m=>exact q
 | long x=>exact q
 | one g=>obtain⟨gd,e,q⟩:=q;exact⟨gd,e,q.up u⟩
def nF(c:Nat):Fact->Prop
 | .ways m=>kD c m
 | .long x=>x.1<c
 | .one g=>∀m∈g,kD c m
inductive Gm(h:HI):List Dt->List Fact->Prop where
 | nil:Gm h [] []
 | cons {d:Dt} {f:Fact} {ds:List Dt} {fs:List Fact} (a:El h d f) (r:Gm h ds fs):Gm h (d::ds) (f::fs)
theorem Gm.up{h h':HI}{ds:List Dt}{fs:List Fact}(q:Gm h ds fs)(u:Np h h'):Gm h' ds fs:=by
 induction q with
 | nil=>exact .nil
 | cons a r ih=>exact .cons (a.up u) ih
theorem Gm.len{h:HI}{ds:List Dt}{fs:List Fact}(q:Gm h ds fs):ds.length=fs.length:=by
 induction q with
 | nil=>rfl
 | cons a r ih=>simp[ih]
theorem Gm.get{h:HI}{ds:List Dt}{fs:List Fact}(q:Gm h ds fs):∀{k:Nat}{d:Dt},ds[k]?=some d->∃f,fs[k]?=some f/\El h d f:=by
 induction q with
 | nil=>intro k d e;simp at e
 | cons a r ih=>
  intro k d e;cases k with
  | zero=>simp at e;subst e;exact⟨_,by simp,a⟩
  | succ k=>exact(by obtain⟨f,e1,e2⟩:=ih (k:=k) (by simpa using e);exact⟨f,by simpa using e1,e2⟩)
theorem Gm.snoc{h:HI}{ds:List Dt}{fs:List Fact}(q:Gm h ds fs){d:Dt}{f:Fact}(a:El h d f):Gm h (ds++[d]) (fs++[f]):=by
 induction q with
 | nil=>exact .cons a .nil
 | cons b r ih=>exact .cons b ih
noncomputable def aQ:Fact->Bool
 | .ways _=>true
 | _=>false
noncomputable def vM:Fact->Bool
 | .long _=>true
 | _=>false
noncomputable def wM:Fact->Bool
 | .one _=>true
 | _=>false
theorem Ld:decide ((("long" :Str))=(("ways" :Str)))=false:=by decide +kernel
theorem Sd:decide ((("one" :Str))=(("ways" :Str)))=false:=by decide +kernel
theorem Wc:decide ((("ways" :Str))=(("long" :Str)))=false:=by decide +kernel
theorem Qd:decide ((("one" :Str))=(("long" :Str)))=false:=by decide +kernel
theorem Xc:decide ((("ways" :Str))=(("one" :Str)))=false:=by decide +kernel
theorem yc:decide ((("long" :Str))=(("one" :Str)))=false:=by decide +kernel
theorem O7 {h:HI} {d:Dt} {f:Fact} (q:El h d f) (l:LI) (k:HI) (i:Nat) (hi:l[i]?=some (some d)):e2 lB (e2 rA (eV i) (eC (.int 0))) (eC (.str "ways")) l k=some (.bl (aQ f),k):=by
 cases f with
 | ways m=>rw[show d=AA m from q]at hi;simp only[yA,oA,hi,pA,iA,xA,AA,QB,YB,zfF,zfN,vE,decide_true,aQ]
 | long x=>rw[show d=_ from q]at hi;simp only[yA,oA,hi,pA,iA,xA,QB,YB,zfF,zfN,vE,Ld,aQ]
 | one g=>obtain⟨gd,rfl,Z⟩:=q;simp only[yA,oA,hi,pA,iA,xA,QB,YB,zfF,zfN,vE,Sd,aQ]
theorem M7 {h:HI} {d:Dt} {f:Fact} (q:El h d f) (l:LI) (k:HI) (i:Nat) (hi:l[i]?=some (some d)):e2 lB (e2 rA (eV i) (eC (.int 0))) (eC (.str "long")) l k=some (.bl (vM f),k):=by
 cases f with
 | ways m=>rw[show d=AA m from q]at hi;simp only[yA,oA,hi,pA,iA,xA,AA,QB,YB,zfF,zfN,vE,Wc,vM]
 | long x=>rw[show d=_ from q]at hi;simp only[yA,oA,hi,pA,iA,xA,QB,YB,zfF,zfN,vE,decide_true,vM]
 | one g=>obtain⟨gd,rfl,Z⟩:=q;simp only[yA,oA,hi,pA,iA,xA,QB,YB,zfF,zfN,vE,Qd,vM]
theorem N7 {h:HI} {d:Dt} {f:Fact} (q:El h d f) (l:LI) (k:HI) (i:Nat) (hi:l[i]?=some (some d)):e2 lB (e2 rA (eV i) (eC (.int 0))) (eC (.str "one")) l k=some (.bl (wM f),k):=by
 cases f with
 | ways m=>rw[show d=AA m from q]at hi;simp only[yA,oA,hi,pA,iA,xA,AA,QB,YB,zfF,zfN,vE,Xc,wM]
 | long x=>rw[show d=_ from q]at hi;simp only[yA,oA,hi,pA,iA,xA,QB,YB,zfF,zfN,vE,yc,wM]
 | one g=>obtain⟨gd,rfl,Z⟩:=q;simp only[yA,oA,hi,pA,iA,xA,QB,YB,zfF,zfN,vE,decide_true,wM]
def gD(f:Nat->Nat->Nat):List Fact->(Nat->Nat->Nat)
 | []=>f
 | .ways m::fs=>gD (KB f m.1 m.2.1 m.2.2) fs
 | _::fs=>gD f fs
theorem xN(x:Fact):∀(fs:List Fact)(f:Nat->Nat->Nat),gD f (fs++[x])=gD (gD f fs) [x]
 | [],f=>rfl
 | .ways m::fs,f=>xN x fs _
 | .long m::fs,f=>xN x fs _
 | .one m::fs,f=>xN x fs _
theorem FJ{c:Nat}:∀(fs:List Fact)(_:∀x∈fs,nF c x)(f:Nat->Nat->Nat),WA c f->WA c (gD f fs)
 | [],_,f,o=>o
 | .ways m::fs,h,f,o=>by obtain⟨a,b,d,Z⟩:=h (.ways m) (by simp);exact FJ fs (fun x hx=>h x (by simp[hx])) _ (nG o a b d _)
 | .long m::fs,h,f,o=>FJ fs (fun x hx=>h x (by simp[hx])) _ o
 | .one m::fs,h,f,o=>FJ fs (fun x hx=>h x (by simp[hx])) _ o
theorem X9{h:HI}{a c:Nat}(hc:c<=1000){ds:List Dt}(ha:h[a]?=some (.lst ds)){fs:List Fact}(F:Gm h ds fs)(ok:∀x∈fs,nF c x) :
 ∃b h',bL [.int (c:Nat),.ref a] h=some (.ref (b+c),h')/\Bm h' b c (gD hC fs)/\Up h h':=by
 have ew:=Tf hc h;have U0:Up h (h++MD h.length c hC):=Up.app _ _;have M0:=gH h c hC;have mp:ds=ds.map id:=by simp
 obtain⟨l',h',e,b',y,rfl,N',U⟩:=xP (i:=3) (n:=a) (body:=SK) id (fun k l h'=>∃b' y,l=[some (.int (c:Nat)),some (.ref a),some (.ref (b'+c)),y]/\Bm h' b' c (gD hC (fs.take k))/\Up h h') ds (by
  rintro k l h' ⟨b',y,rfl,N',U⟩;rw[<- mp];exact U.get ha) (by
  rintro k d hd l h' ⟨b',y,rfl,N',U⟩;obtain⟨x,hx,q⟩:=F.get hd;have tw:=O7 q [some (.int (c:Nat)),some (.ref a),some (.ref (b'+c)),some d] h' 3 rfl;have okx:=ok x (mem_of_getElem? hx);have eq:gD hC (fs.take (k+1))=gD (gD hC (fs.take k)) [x]:=by rw[DJ hx,xN]
  have LL:([some (.int (c:Nat)),some (.ref a),some (.ref (b'+c)),y]:LI).set 3 (some (id d))=[some (.int (c:Nat)),some (.ref a),some (.ref (b'+c)),some d]:=rfl;rw[LL];cases x with
  | ways m=>obtain⟨a1,a2,a3,a4⟩:=okx;have qd:d=AA m:=q;have en:=JN N' hc a1 a2 m.2.1;have M:=gH h' c (KB (gD hC (fs.take k)) m.1 m.2.1 m.2.2);refine⟨.nx [some (.int (c:Nat)),some (.ref a),some (.ref (h'.length+c)),some d] (h'++MD h'.length c (KB (gD hC (fs.take k)) m.1 m.2.1 m.2.2)),?_,h'.length,_,rfl,by rw[eq];exact M,U.trans (Up.app _ _)⟩;have m2:Kp [Dt.str "ways",Dt.int (m.1:Nat),Dt.int (m.2.1:Nat),Dt.int (m.2.2:Nat)] 2=some (.int (m.2.1:Nat)):=rfl;have m1:Kp [Dt.str "ways",Dt.int (m.1:Nat),Dt.int (m.2.1:Nat),Dt.int (m.2.2:Nat)] 1=some (.int (m.1:Nat)):=rfl;have m3:Kp [Dt.str "ways",Dt.int (m.1:Nat),Dt.int (m.2.1:Nat),Dt.int (m.2.2:Nat)] 3=some (.int (m.2.2:Nat)):=rfl;unfold SK;rw[dB,NA,tw];rw[qd];simp only[aQ,iA,VA,if_true,YA,gB,UA,KA,yA,oA,xA,zfF,zfG,pA,AA,QB,m1,m2,m3,zfN,zfW,en,zfM,zfL]
  | long m=>refine⟨.nx [some (.int (c:Nat)),some (.ref a),some (.ref (b'+c)),some d] h',?_,b',_,rfl,by rw[eq];exact N',U⟩;unfold SK;rw[dB,NA,tw];simp only[aQ,iA,VA,zfX,if_false,dC]
  | one m=>
   refine⟨.nx [some (.int (c:Nat)),some (.ref a),some (.ref (b'+c)),some d] h',?_,b',_,rfl,by rw[eq];exact N',U⟩;unfold SK;rw[dB,NA,tw];simp only[aQ,iA,VA,zfX,if_false,dC]) [some (.int (c:Nat)),some (.ref a),some (.ref (h.length+c)),none] (h++MD h.length c hC) ⟨h.length,_,rfl,M0,U0⟩
 rw[F.len,take_length]at N';refine⟨b',h',?_,N',U⟩;simp only[bL,HR,rB,zfH,zfI,if_true,zfJ,zfK,Nat.reduceAdd,Nat.reduceSub,replicate,zfQ,zfP,OA,YA,gB,UA,KA,oA,zfF,zfG,pA,iA,zfW,ew,QA,zfM,zfL,ND,CD,jE (U0.get ha),e,yB,BB]
theorem rX{te:RE}{tc:RT}{n:Nat}(p:Fact->Bool)(Fd:Dt->Fact->Dt){ds:List Dt}{fs:List Fact}(l:LI)(h:HI)(F:Gm h ds fs)(e:h[n]?=some (.lst ds))(hx:ds.length<sizeLine)
 (H:∀d f,El h d f->f∈fs->tc (l.set 0 (some d)) h=some (p f,h)/\(p f=true->te (l.set 0 (some d)) h=some (Fd d f,h))) :
 tF (DA 0) tc te l (.rf n,h)=some (((ds.zip fs).filter fun x=>p x.2).map fun x=>Fd x.1 x.2,h):=by
 have go:∀(m k:Nat)(l':LI),(∀d,l'.set 0 d=l.set 0 d)->m=ds.length-k+1->k<=ds.length->∀ys:List Dt,ys.length<=k->ys=((((ds.zip fs).take k).filter fun x=>p x.2).map fun x=>Fd x.1 x.2)->tE (DA 0) tc te (.rf n) m k l' h ys=some (((ds.zip fs).filter fun x=>p x.2).map fun x=>Fd x.1 x.2,h):=by
  intro m
  induction m with
  | zero=>intro k l' Z e;omega
  | succ m ih=>
   intro k l' hl' hm hk ys yl yy;unfold tE;simp only[Src.at,e];by_cases hlt:k<ds.length
   · obtain⟨f,hf,q⟩:=F.get (getElem?_eq_getElem hlt);have hz:(ds.zip fs)[k]?=some (ds[k],f):=by rw[getElem?_zip_eq_some];exact⟨getElem?_eq_getElem hlt,hf⟩
     obtain⟨t1,t2⟩:=H ds[k] f q (mem_of_getElem? hf);rw[getElem?_eq_getElem hlt];simp only[pG,zfO,hl',t1];by_cases z:p f=true
     · rw[if_pos z];simp only[t2 z,zfO];rw[if_pos (by omega)];refine ih (k+1) _ (fun d=>by rw[set_set]) (by omega) (by omega) _ (by simp;omega) ?_;rw[DJ hz,filter_append,map_append,<- yy];simp[z]
     · rw[if_neg z];refine ih (k+1) _ (fun d=>by rw[set_set]) (by omega) (by omega) _ (by omega) ?_;rw[DJ hz,filter_append,map_append,<- yy];simp[z]
   · rw[getElem?_eq_none (by omega)];have lz:(ds.zip fs).length=ds.length:=by rw[length_zip,F.len];omega
     rw[take_of_length_le (by omega)]at yy;rw[yy]
 have hf:Src.fuel (.rf n) h=ds.length-0+1:=by simp only[Src.fuel,e];omega
 unfold tF;simp only[hf];exact go _ 0 l (fun Z=>rfl) rfl (zxB _) [] (by simp) (by simp)
def DD:List Fact->List Ln
 | []=>[]
 | .long x::fs=>x::DD fs
 | _::fs=>DD fs
def XA:List Fact->List (List JB)
 | []=>[]
 | .one g::fs=>g::XA fs
 | _::fs=>XA fs
def Od:Fact->Dt
 | .long x=>xC x
 | _=>.non
noncomputable def Jd:Dt->Dt
 | .tup [_,x]=>x
 | _=>.non
theorem S9{h:HI}{a:Nat}{ds:List Dt}(ha:h[a]?=some (.lst ds))(hz:ds.length<sizeLine){fs:List Fact}(F:Gm h ds fs):kN [.ref a] h=some (.lst ((DD fs).map xC),h):=by
 have ck:=rX (te:=kW) (tc:=XQ) vM (fun Z f=>Od f) [none] h F ha hz (by
  intro d f q Z;refine⟨?_,fun z=>?_⟩
  · unfold XQ;rw[NA,M7 q _ _ 0 rfl];rfl
  · cases f with
    | long x=>rw[show d=_ from q];rfl
    | ways m=>cases z
    | one g=>cases z)
 have eq:∀(ds:List Dt)(fs:List Fact),Gm h ds fs->((ds.zip fs).filter fun x=>vM x.2).map (fun x=>Od x.2)=(DD fs).map xC:=by
  intro ds fs F
  induction F with
  | nil=>rfl
  | @cons d f ds fs a r ih=>
   rw[zip_cons_cons,filter_cons];cases f with
   | long x=>rw[if_pos (show vM (Fact.long x)=true from rfl),zfJ,ih];rfl
   | ways m=>rw[if_neg (show ¬vM (Fact.ways m)=true from zfT),ih];rfl
   | one g=>rw[if_neg (show ¬vM (Fact.one g)=true from zfT),ih];rfl
 rw[eq _ _ F]at ck;simp only[kN,gR,rB,zfH,zfI,if_true,zfJ,zfK,Nat.reduceAdd,Nat.reduceSub,replicate,zfQ,zfP,zfW,yB,rG,CD,oA,zfF,pA,iA,jE ha,KF,MF,ck,BB]
inductive Il(h:HI):List Dt->List (List JB)->Prop where
 | nil:Il h [] []
 | cons {d:Dt} {g:List JB} {ds:List Dt} {gs:List (List JB)} (a:zaJ h d g) (r:Il h ds gs):Il h (d::ds) (g::gs)
theorem Il.up{h h':HI}{ds:List Dt}{gs:List (List JB)}(q:Il h ds gs)(u:Np h h'):Il h' ds gs:=by
 induction q with
 | nil=>exact .nil
 | cons a r ih=>exact .cons (a.up u) ih
theorem Z9{h:HI}{a:Nat}{ds:List Dt}(ha:h[a]?=some (.lst ds))(hz:ds.length<sizeLine){fs:List Fact}(F:Gm h ds fs):∃Tp,Il h Tp (XA fs)/\cL [.ref a] h=some (.lst Tp,h):=by
 have ck:=rX (te:=zW) (tc:=tR) wM (fun d Z=>Jd d) [none] h F ha hz (by
  intro d f q Z;refine⟨?_,fun z=>?_⟩
  · unfold tR;rw[NA,N7 q _ _ 0 rfl];rfl
  · cases f with
    | one g=>obtain⟨gd,rfl,Z⟩:=q;rfl
    | ways m=>cases z
    | long x=>cases z)
 refine⟨((ds.zip fs).filter fun x=>wM x.2).map fun x=>Jd x.1,?_,?_⟩
 rotate_left
 · simp only[cL,IR,rB,zfH,zfI,if_true,zfJ,zfK,Nat.reduceAdd,Nat.reduceSub,replicate,zfQ,zfP,zfW,yB,rG,CD,oA,zfF,pA,iA,jE ha,KF,MF,ck,BB]
 · clear ck ha hz
   induction F with
   | nil=>exact .nil
   | @cons d f ds fs a r ih=>
    rw[zip_cons_cons,filter_cons];cases f with
    | one g=>obtain⟨gd,rfl,q⟩:=a;rw[if_pos (show wM (Fact.one g)=true from rfl),zfJ];exact .cons q ih
    | ways m=>rw[if_neg (show ¬wM (Fact.ways m)=true from zfT)];exact ih
    | long x=>rw[if_neg (show ¬wM (Fact.long x)=true from zfT)];exact ih
theorem vS{α:Type}{te:RE}{i n:Nat}(D F:α->Dt)(xs:List α)(l:LI)(h:HI)(e:h[n]?=some (.lst (xs.map D)))(hx:xs.length<sizeLine)(H:∀x∈xs,te (l.set i (some (D x))) h=some (F x,h)) :
 tF (DA i) VB te l (.rf n,h)=some (xs.map F,h):=by
 have go:∀(m k:Nat)(l':LI),(∀d,l'.set i d=l.set i d)->m=xs.length-k+1->k<=xs.length->tE (DA i) VB te (.rf n) m k l' h ((xs.take k).map F)=some (xs.map F,h):=by
  intro m
  induction m with
  | zero=>intro k l' Z e;omega
  | succ m ih=>
   intro k l' hl' hm hk;unfold tE;simp only[Src.at,e,getElem?_map];by_cases hlt:k<xs.length
   · rw[getElem?_eq_getElem hlt];have hx':=H xs[k] (getElem_mem hlt);have ln:((xs.take k).map F).length<sizeLine:=by rw[length_map,length_take];omega
     simp only[zfN,pG,zfO,DO,if_true,hl',hx',if_pos ln];have:=ih (k+1) (l.set i (some (D xs[k]))) (fun d=>by rw[set_set]) (by omega) (by omega);rw[take_add_one,getElem?_eq_getElem hlt,map_append]at this;exact this
   · rw[getElem?_eq_none (by omega)];have:k=xs.length:=by omega
     subst this;simp only[Option.map_none,take_length]
 have hf:Src.fuel (.rf n) h=xs.length-0+1:=by simp only[Src.fuel,e,length_map];omega
 unfold tF;have:=go (xs.length-0+1) 0 l (fun Z=>rfl) rfl (zxB _);simp only[hf];exact this
inductive zad{α β:Type}(R:α->β->Prop):List α->List β->Prop where
 | nil:zad R [] []
 | cons {a:α} {b:β} {as:List α} {bs:List β} (h:R a b) (r:zad R as bs):zad R (a::as) (b::bs)
theorem zad.imp{α β:Type}{R S:α->β->Prop}(i:∀a b,R a b->S a b){as:List α}{bs:List β}(h:zad R as bs):zad S as bs:=by
 induction h with
 | nil=>exact .nil
 | cons a r ih=>exact .cons (i _ _ a) ih
theorem zad.zav{α β γ:Type}{R:γ->β->Prop}{f:α->γ}:∀{as:List α}{bs:List β},zad (fun a b=>R (f a) b) as bs->zad R (as.map f) bs
 | _,_,.nil=>.nil
 | _,_,.cons h r=>.cons h (zad.zav r)
theorem YR{α:Type}{te:RE}(D:α->Dt)(P:HI->α->Dt->Prop)(up:∀h h' x d,Up h h'->P h x d->P h' x d):∀(xs:List α)(l:LI)(h:HI),(∀x∈xs,∀h',Up h h'->∃d h2,te (l.set 0 (some (D x))) h'=some (d,h2)/\Up h' h2/\P h2 x d)->
 ∃ds h',uE (DA 0) VB te (xs.map D) l h=some (ds,h')/\Up h h'/\zad (P h') xs ds
 | [],l,h,_=>⟨[],h,rfl,Up.refl h,.nil⟩
 | x::xs,l,h,H=>by
  obtain⟨d,h1,e1,u1,p1⟩:=H x (by simp) h (Up.refl h);obtain⟨ds,h2,e2,u2,p2⟩:=YR D P up xs (l.set 0 (some (D x))) h1 (fun y hy h' u=>by
   rw[set_set];exact H y (by simp[hy]) h' (u1.trans u))
  refine⟨d::ds,h2,?_,u1.trans u2,.cons (up _ _ _ _ u2 p1) p2⟩;simp only[zfJ,uE,pG,zfO,DO,if_true,e1,e2]
noncomputable def zaD(h:HI)(c:Nat)(f:Nat->Nat->Nat)(d:Dt):Prop:=∃b,d=.ref (b+c)/\Bm h b c f
theorem zaD.up{h h':HI}{c:Nat}{f:Nat->Nat->Nat}{d:Dt}(n:zaD h c f d)(u:Np h h'):zaD h' c f d:=by obtain⟨b,e,N⟩:=n;exact⟨b,e,u.net N⟩
def WC(c:Nat)(g:Nat->Nat->Nat):List (List JB)->Option (Option (Nat×Nat)×List (Nat->Nat->Nat)×List (Nat×Nat))
 | grp::_=>some (none,(range grp.length).map (aI g grp),grp.map fun m=>(m.1,m.2.2))
 | []=>match WD c g with
  | none=>none
  | some p=>some (some p,(JA (g p.1 p.2)).map fun w=>KB g p.1 (2^w) p.2,[p])
def rE(tag:Option (Nat×Nat))(Qp:List Dt)(ps:List (Nat×Nat)):Dt:=match tag with
 | none=>.tup [.str "one", .tup [],.lst Qp,.lst (ps.map wA)]
 | some p=>.tup [.str "split",wA p,.lst Qp,.lst (ps.map wA)]
theorem QS:∀g:List JB,MC (g.map AA)=true
 | []=>rfl
 | m::g=>by rw[zfJ];simp only[MC,AA,EB,Bool.true_and];exact QS g
theorem bT:∀g:List JB,JD (g.map AA)<=1
 | []=>zxB _
 | m::g=>by rw[zfJ];have:=bT g;have e1:yG (AA m)=1:=rfl;simp only[JD,e1];omega
theorem mY(h:HI):∀g:List JB,QC (nB h 6) (g.map AA)=some (g.map AA)
 | []=>rfl
 | m::g=>by rw[zfJ];have ih:=mY h g;have e1:nB h 6 (AA m)=some (AA m):=rfl;simp only[QC,e1,ih,zfO,zfN]
theorem Ck{h:HI}{ds:List Dt}{gs:List (List JB)}(q:Il h ds gs):QC (nB h 7) ds=some (gs.map fun g=>.lst (g.map AA)):=by
 induction q with
 | nil=>rfl
 | @cons d g ds gs a r ih=>
  obtain⟨n,rfl,e⟩:=a;have e1:nB h 7 (.ref n)=some (.lst (g.map AA)):=by show(match h[n]? with | some (.lst xs)=>(QC (nB h 6) xs).map Dt.lst | _=>none)=_;rw[e];simp only[mY,zfN]
  simp only[QC,e1,ih,zfO,zfN,zfJ]
theorem eX:∀gs:List (List JB),MC (gs.map fun g=>.lst (g.map AA))=true
 | []=>rfl
 | g::gs=>by rw[zfJ];simp only[MC,EB,QS,Bool.true_and];exact eX gs
theorem jY:∀gs:List (List JB),JD (gs.map fun g=>.lst (g.map AA))<=2
 | []=>zxB _
 | g::gs=>by rw[zfJ];have:=jY gs;have h1:=bT g;simp only[JD,yG];omega
theorem Qh{h:HI}{ds:List Dt}{gs:List (List JB)}(q:Il h ds gs):WG (.lst ds) (.lst []) h=some (.bl (!gs.isEmpty),h):=by
 have r1:nB h 8 (.lst ds)=some (.lst (gs.map fun g=>.lst (g.map AA))):=by show(QC (nB h 7) ds).map Dt.lst=_;rw[Ck q];rfl
 have r2:nB h 8 (.lst [])=some (.lst []):=by simp[nB,QC]
 have ok:FF (gs.map fun g=>Dt.lst (g.map AA)) []=true:=by unfold FF;rw[eX];have:=jY gs;simp[MC];omega
 rw[mV r1 r2 ok];cases gs with
 | nil=>rfl
 | cons p W=>rfl
theorem Tj{h:HI}{b c:Nat}{g:Nat->Nat->Nat}(N:Bm h b c g)(og:WA c g)(hc:c<=100){Tp:List Dt}{gs:List (List JB)}(Q:Il h Tp gs)(ok:∀x∈gs,∀m∈x,kD c m)(sm:∀x∈gs,x.length<=1000) :
 ∃h',Up h h'/\match WC c g gs with
  | none=>NH [.ref (b+c),.lst Tp] h=some (.non,h')
  | some (tag,bs,ps)=>∃Qp,zad (zaD h' c) bs Qp/\NH [.ref (b+c),.lst Tp] h=some (rE tag Qp ps,h'):=by
 have ne:=Qh Q;cases Q with
 | @cons d grp ds gs' a r=>
  obtain⟨n,rfl,en⟩:=a;have gl:=sm grp (by simp);have gok:=ok grp (by simp);have er:=fun h=>OF (h:=h) (show(-(2^62):Int)<=(grp.length:Int) by omega) (show(grp.length:Int)<2^62 by omega)
  simp only[zxE]at er;obtain⟨Qp,h',e,U,A⟩:=YR (te:=iN) (fun(k:Nat)=>Dt.int (k:Int)) (fun h k d=>zaD h c (aI g grp k) d) (fun h h' k d u q=>q.up u.l) (range grp.length) [none,some (.ref (b+c)),some (.ref n)] h (by
   intro k Z h' u;obtain⟨b',h2,e,N',U'⟩:=v9 (u.net N) (by omega) (u.get en) gok k;refine⟨_,h2,?_,U',b',rfl,N'⟩;simp only[iN,gB,UA,KA,oA,zfL,zfF,zfG,pA,iA,zfW,e])
  have ck:=YF (l:=[none,some (.ref (b+c)),some (.ref n)]) (h:=h) (DA 0) VB iN (xs:=(range grp.length).map fun(k:Nat)=>Dt.int (k:Int)) (by simp[sizeLine];omega);rw[e]at ck;have ck2:=vS (te:=xW) (i:=0) AA (fun m:JB=>wA (m.1,m.2.2)) grp [none] h' (U.get en) (by simp[sizeLine];omega) (by
   intro m Z;rfl)
  have fl:=rH en;rw[length_map]at fl;refine⟨h',U,?_⟩;show ∃Qp,zad (zaD h' c) ((range grp.length).map (aI g grp)) Qp/\NH [.ref (b+c),.lst (.ref n::ds)] h=some (rE none Qp (grp.map fun m=>(m.1,m.2.2)),h')
  refine⟨Qp,A.zav,?_⟩;have pm:grp.map (fun m:JB=>wA (m.1,m.2.2))=(grp.map fun m=>(m.1,m.2.2)).map wA:=by rw[map_map];rfl
  rw[pm]at ck2;have sk:=jE (U.get en);simp only[NH,ZK,rB,zfH,zfI,if_true,zfJ,zfK,Nat.reduceAdd,Nat.reduceSub,replicate,zfQ,zfP,OA,dB,NA,yA,oA,xA,VH,KA,zfF,zfG,pA,iA,zxB,ne,isEmpty_cons,Bool.not_false,VA,YA,bK,YB,zfN,zfM,zfL,QA,rG,OI,RC,fl,er,KF,LJ,MF,Option.join_some,ck,yB,IE,UA,CD,sk,ck2,aF,BB];rfl
 | nil=>
  obtain⟨h1,e1,U1⟩:=E9 N (show c<=1000 by omega);have cn:∀k:HI->Option Rs,True:=fun Z=>trivial
  cases lp:WD c g with
  | none=>
   rw[lp]at e1;refine⟨h1,U1,?_⟩;have sp:WC c g []=none:=by simp only[WC,lp]
   rw[sp];simp only[NH,ZK,rB,zfH,zfI,if_true,zfJ,zfK,Nat.reduceAdd,Nat.reduceSub,replicate,zfQ,zfP,OA,dB,NA,yA,oA,xA,VH,KA,zfF,zfG,pA,iA,zxB,ne,isEmpty_nil,Bool.not_true,VA,zfX,if_false,dC,QA,YA,gB,UA,zfW,e1,zfM,zfL,YH,JG,yB,aF,BB]
  | some p=>
   rw[lp]at e1;have sp:WC c g []=some (some p,(JA (g p.1 p.2)).map (fun w=>KB g p.1 (2^w) p.2),[p]):=by simp only[WC,lp]
   rw[sp];have hp:p∈LA c:=mem_of_find?_eq_some lp;obtain⟨p1,p2⟩:=eT hp;have N1:=U1.net N;obtain⟨Qp,h',e,U,A⟩:=YR (te:=jN) (fun(w:Nat)=>Dt.int (w:Int)) (fun h w d=>zaD h c (KB g p.1 (2^w) p.2) d) (fun h h' k d u q=>q.up u.l) (JA (g p.1 p.2)) [none,some (.ref (b+c)),some (wA p)] h1 (by
    intro w hw h' u;have wl:=(Um.mp hw).1;have en:=JN (u.net N1) (show c<=1000 by omega) p1 p2 (2^w);refine⟨_,_,?_,Up.app _ _,h'.length,rfl,gH h' c _⟩;have sh:=cK (h:=h') (fJ wl);have pw:(1:Int)*2^w=((2^w:Nat):Int):=by simp
    simp only[jN,gB,UA,KA,yA,xA,oA,zfL,zfF,zfG,pA,iA,wA,QB,YB,ID,zfN,sh,zxE,pw,zfW,en])
   have wl:=uL (g p.1 p.2);have ck:=YF (l:=[none,some (.ref (b+c)),some (wA p)]) (h:=h1) (DA 0) VB jN (xs:=(JA (g p.1 p.2)).map fun(w:Nat)=>Dt.int (w:Int)) (by simp[sizeLine];omega);rw[e]at ck;have i1:=oE N1.top (p.1:Int);rw[SM.ZC,tO p1,zfN]at i1;have i2:=oE (N1.row _ p1) (p.2:Int);rw[SM.ZC,zL p2,zfN]at i2;refine⟨h',U1.trans U,Qp,A.zav,?_⟩;have np:JG (wA p)=false:=rfl;have x0:rA (wA p) (.int 0) h1=some (.int (p.1:Nat),h1):=rfl;have x1:rA (wA p) (.int 1) h1=some (.int (p.2:Nat),h1):=rfl;simp only[NH,ZK,rB,zfH,zfI,if_true,zfJ,zfK,Nat.reduceAdd,Nat.reduceSub,replicate,zfQ,zfP,OA,dB,NA,yA,oA,xA,VH,KA,zfF,zfG,pA,iA,zxB,ne,isEmpty_nil,Bool.not_true,VA,zfX,if_false,dC,QA,YA,gB,UA,zfW,e1,zfM,zfL,YH,np,x0,x1,i1,i2,rG,CD,iL,OH,KF,LJ,MF,Option.join_some,ck,yB,IE,BB];rfl
theorem Lx{c nb:Nat}(hc:c<=100){N:Nat->Nat->Nat}{ls:List Ln}(hl:ls.length<=1000){h:HI}(NN:Bm h nb c N)(x1 x4:Option Dt):∃y rest,zC (DA 3) IN (ls.map xC) [some (.ref (nb+c)),x1,some (.ref h.length),none,x4] (h++[.lst ((tD c).map lA)]) =
 some (.nx [some (.ref (nb+c)),x1,some (.ref h.length),y,x4] (h++.lst ((tD c++ls.flatMap (VC (2*c+1))).map lA)::rest)):=by
 have ol:(tD c).length=c:=by simp[tD]
 obtain⟨l',h',e,⟨y,rfl⟩,rest,rfl,Z⟩:=PJ (i:=3) (body:=IN) xC (fun k l h'=>(∃y,l=[some (.ref (nb+c)),x1,some (.ref h.length),y,x4])/\∃rest,h'=h++.lst ((tD c++(ls.take k).flatMap (VC (2*c+1))).map lA)::rest/\((ls.take k).flatMap (VC (2*c+1))).length<=2*k) ls 0 (by
  rintro k x hx l h' ⟨⟨y,rfl⟩,rest,rfl,hk⟩;rw[zxI]at hk ⊢;have kl:k<ls.length:=(zfR hx).1;have l2:(VC (2*c+1) x).length=2:=rfl;have nl:=(NN.grow (.lst ((tD c++(ls.take k).flatMap (VC (2*c+1))).map lA)::rest)).len;have eb:=o9 x.1 x.2.1 x.2.2 (g:=2*c+1) (by omega) (h++.lst ((tD c++(ls.take k).flatMap (VC (2*c+1))).map lA)::rest);have x1:=cU (h:=h) (F:=tD c++(ls.take k).flatMap (VC (2*c+1))) (G:=VC (2*c+1) x) (rest:=rest) (zaw:=[]) (l:=[some (.ref (nb+c)),x1,some (.ref h.length),some (xC x),x4]) (g:=zA OK [] (bA (eV 3) (bA (zA vL [] (bA (UC EC (eV 0)) (eA))) (eA)))) (by rw[length_append,ol,l2];omega) (by
   simp only[gB,UA,KA,RC,oA,zfF,zfG,pA,iA,nl,cg,zfW,xC];exact eb)
  refine⟨.nx [some (.ref (nb+c)),_,some (.ref h.length),some (xC x),x4] (h++.lst ((tD c++(ls.take (k+1)).flatMap (VC (2*c+1))).map lA)::(rest++[.lst ((VC (2*c+1) x).map lA)])),?_,⟨some (xC x),rfl⟩,rest++[.lst ((VC (2*c+1) x).map lA)],rfl,?_⟩
  · rw[BJ _ hx,<- append_assoc];simp only[IN,RD,eO,oA,zfM,zfL,zfF,zfG,pA,iA,x1]
  · rw[BJ _ hx,length_append,l2];omega) [some (.ref (nb+c)),x1,some (.ref h.length),none,x4] (h++[.lst ((tD c).map lA)]) ⟨⟨_,rfl⟩,[],by simp,by simp⟩
 rw[zxI,take_length]at *;exact⟨y,rest,e⟩
theorem Yv{c nb b:Nat}(hc:c<=100){N:Nat->Nat->Nat}(hN:∀i j,i<c->j<c->JA (N i j) ≠ []){h:HI}(NN:Bm h nb c N){F:List Bd}(hF:F.length<=3000){r0:List Ob}(db:∀G:List Bd,∀r2:List Ob,(h++.lst (G.map lA)::(r0++r2))[b]?=some (.lst ((LA c).map wA)))(x1 y3:Option Dt)(pl:(LA c).length<=10000)(pin:∀p∈LA c,p.1<c/\p.2<c) :
 ∃y rest,yE (DA 4) CI [some (.ref (nb+c)),x1,some (.ref h.length),y3,none] (.rf b,h++.lst (F.map lA)::r0) =
 some (.nx [some (.ref (nb+c)),x1,some (.ref h.length),y3,y] (h++.lst ((F++(LA c).flatMap fun p=>LC p.1 (N p.1 p.2) p.2).map lA)::rest)):=by
 obtain⟨l',h',e,⟨y,rfl⟩,r2,rfl,Z⟩:=xP (i:=4) (n:=b) (body:=CI) wA (fun k l h'=>(∃y,l=[some (.ref (nb+c)),x1,some (.ref h.length),y3,y])/\∃r2,h'=h++.lst ((F++((LA c).take k).flatMap fun p=>LC p.1 (N p.1 p.2) p.2).map lA)::(r0++r2)/\(((LA c).take k).flatMap fun p=>LC p.1 (N p.1 p.2) p.2).length<=8*k) (LA c) (by
  rintro k l h' ⟨_,r2,rfl,_⟩;exact db _ r2) (by
  rintro k x hx l h' ⟨⟨y,rfl⟩,r2,rfl,hk⟩;have kl:k<(LA c).length:=(zfR hx).1;obtain⟨p1,p2⟩:=pin x (mem_of_getElem? hx);have l8:(LC x.1 (N x.1 x.2) x.2).length<=8:=by unfold LC;rw[length_append];have:=xI x.1 x.2 0 (N x.1 x.2);have:=xI x.1 x.2 1 (N x.1 x.2);omega
  have NG:=NN.grow (.lst ((F++((LA c).take k).flatMap fun p=>LC p.1 (N p.1 p.2) p.2).map lA)::(r0++r2));obtain⟨rs,eb⟩:=tW x.1 (N x.1 x.2) x.2 (by omega) (by omega) (hN _ _ p1 p2) (h++.lst ((F++((LA c).take k).flatMap fun p=>LC p.1 (N p.1 p.2) p.2).map lA)::(r0++r2));have i1:=oE NG.top (x.1:Int);rw[SM.ZC,tO p1,zfN]at i1;have i2:=oE (NG.row _ p1) (x.2:Int);rw[SM.ZC,zL p2,zfN]at i2;have xx:=cU (h:=h) (F:=F++((LA c).take k).flatMap fun p=>LC p.1 (N p.1 p.2) p.2) (G:=LC x.1 (N x.1 x.2) x.2) (rest:=r0++r2) (zaw:=rs) (l:=[some (.ref (nb+c)),x1,some (.ref h.length),y3,some (wA x)]) (g:=zA zJ [] (bA (e2 rA (eV 4) (eC (.int 0))) (bA (e2 rA (e2 rA (eV 0) (e2 rA (eV 4) (eC (.int 0)))) (e2 rA (eV 4) (eC (.int 1)))) (bA (e2 rA (eV 4) (eC (.int 1))) (eA))))) (by rw[length_append];omega) (by
   simp only[gB,UA,KA,yA,xA,oA,zfF,zfG,pA,iA,wA,QB,YB,ID,zfN,i1,i2,zfW];exact eb)
  refine⟨.nx [some (.ref (nb+c)),x1,some (.ref h.length),y3,some (wA x)] (h++.lst ((F++((LA c).take (k+1)).flatMap fun p=>LC p.1 (N p.1 p.2) p.2).map lA)::(r0++(r2++.lst ((LC x.1 (N x.1 x.2) x.2).map lA)::rs))),?_,⟨_,rfl⟩,_,rfl,?_⟩
  · rw[BJ _ hx,<- append_assoc,<- append_assoc];simp only[CI,RD,eO,oA,zfM,zfL,zfF,zfG,pA,iA,xx]
  · rw[BJ _ hx,length_append];omega) [some (.ref (nb+c)),x1,some (.ref h.length),y3,none] (h++.lst (F.map lA)::r0) ⟨⟨_,rfl⟩,[],by simp,by simp⟩
 rw[take_length]at e;exact⟨y,_,e⟩
theorem iz{c nb:Nat}(hc:c<=100){N:Nat->Nat->Nat}(hN:∀i j,i<c->j<c->JA (N i j) ≠ []){ls:List Ln}(hl:ls.length<=1000){h:HI}(NN:Bm h nb c N) :
 ∃rest,gO [.ref (nb+c),.lst (ls.map xC)] h=some (.ref h.length,h++.lst ((lD c N ls).map lA)::rest):=by
 have nl:=NN.len;have er:=OF (h:=h) (show(-(2^62):Int)<=(c:Int) by omega) (show(c:Int)<2^62 by omega);simp only[zxE]at er;have u:=fun(i:Int) (h:HI)=>xE (h:=h) (i:=2) (j:=i) (Or.inl ⟨by decide,by decide⟩)
 have ec:=PH (te:=CN) (tc:=VB) (i:=0) (fun(k:Nat)=>Dt.int (k:Int)) (fun k=>lA (2*k,2*k+1,-1)) h (range c) [none] (by
  intro k Z;exact⟨by simp,by simp[CN,u,lA]⟩)
 have ek:=YF (l:=[none]) (h:=h) (DA 0) VB CN (xs:=(range c).map fun(k:Nat)=>Dt.int (k:Int)) (by simp;omega);rw[ec]at ek;have eo:(range c).map (fun k=>lA (2*k,2*k+1,-1))=(tD c).map lA:=by unfold tD;rw[map_map];rfl
 rw[eo]at ek;obtain⟨y,r0,e1⟩:=Lx hc hl NN (some (.lst (ls.map xC))) none;have nl2:=(NN.grow (.lst ((tD c++ls.flatMap (VC (2*c+1))).map lA)::r0)).len;have ep:=ZR (c:=c) (by omega) (h++.lst ((tD c++ls.flatMap (VC (2*c+1))).map lA)::r0);have fl:(ls.flatMap (VC (2*c+1))).length<=2*ls.length:=by
  clear e1 ep ek nl2
  induction ls with
  | nil=>simp
  | cons x ls ih=>rw[flatMap_cons,length_append,zfH];have:(VC (2*c+1) x).length=2:=rfl;have:=ih (by simp at hl;omega);omega
 have pl:(LA c).length<=10000:=by have:=nL c c;have h2:c*c<=100*100:=Nat.mul_le_mul hc hc;unfold LA;omega
 obtain⟨y4,rest,e2⟩:=Yv (b:=(h++Ob.lst ((tD c++ls.flatMap (VC (2*c+1))).map lA)::r0).length) hc hN NN (F:=tD c++ls.flatMap (VC (2*c+1))) (by simp[tD]at fl ⊢;omega) (r0:=r0++[.lst ((LA c).map wA)]) (fun G r2=>by
  have:h++Ob.lst (G.map lA)::(r0++[Ob.lst ((LA c).map wA)]++r2)=(h++Ob.lst (G.map lA)::r0)++Ob.lst ((LA c).map wA)::r2:=by simp
  rw[this,zfV (by simp)];simp) (some (.lst (ls.map xC))) y pl (fun p hp=>eT hp)
 refine⟨rest,?_⟩;have es:(h++Ob.lst ((tD c++ls.flatMap (VC (2*c+1))).map lA)::r0)++[Ob.lst ((LA c).map wA)]=h++Ob.lst ((tD c++ls.flatMap (VC (2*c+1))).map lA)::(r0++[Ob.lst ((LA c).map wA)]):=by simp
 rw[es]at ep;have sk:=jE (h:=h++Ob.lst ((tD c++ls.flatMap (VC (2*c+1))).map lA)::(r0++[Ob.lst ((LA c).map wA)])) (n:=(h++Ob.lst ((tD c++ls.flatMap (VC (2*c+1))).map lA)::r0).length) (xs:=(LA c).map wA) (by
  rw[<- es,zfV (zfU _),Nat.sub_self];rfl)
 unfold lD;simp only[gO,tT,rB,zfH,zfI,if_true,zfJ,zfK,Nat.reduceAdd,Nat.reduceSub,replicate,zfQ,zfP,OA,YA,fT,OI,RC,oA,zfF,zfG,pA,iA,nl,nl2,er,KF,MF,ek,zfM,zfL,QA,ND,CD,OH,lG,e1,gB,UA,KA,zfW,ep,sk,e2,yB,BB]
theorem OL(f:Nat->Nat->Nat){i j:Nat}(m:Nat)(hij:i≠j):KB f i m j i j=f i j&&&m:=by unfold KB NB;have:¬i=j:=hij;simp[this]
theorem PZ(f:Nat->Nat->Nat)(i m j:Nat):KB f i m j j i=Dl (f i j&&&m):=by unfold KB NB;simp
theorem QH(f:Nat->Nat->Nat){i m j a b:Nat}(h1:¬(a=i/\b=j))(h2:¬(a=j/\b=i)):KB f i m j a b=f a b:=by
 unfold KB NB;by_cases e1:a=j
 · by_cases e2:b=i
   · exact absurd ⟨e1,e2⟩ h2
   · rw[if_pos e1,if_neg e2];by_cases e3:a=i
     · by_cases e4:b=j
       · exact absurd ⟨e3,e4⟩ h1
       · rw[if_pos e3,if_neg e4]
     · rw[if_neg e3]
 · rw[if_neg e1];by_cases e3:a=i
   · by_cases e4:b=j
     · exact absurd ⟨e3,e4⟩ h1
     · rw[if_pos e3,if_neg e4]
   · rw[if_neg e3]
theorem yW{c:Nat}{f:Nat->Nat->Nat}(h:qG c f):HD c f [] []:=fun i hi k hk j hj d n=>absurd (h i hi k hk j hj d) n
theorem ZX{c:Nat}{f:Nat->Nat->Nat}(o:WA c f){x z:Nat}(hx:x<c)(hz:z<c)(d3:x≠z)(mm:Nat){W:List (Nat×Nat)}(h:HD c f W []):HD c (KB f x mm z) (W++[(x,z)]) []:=by
 have o':=nG o hx hz d3 mm;have main:∀i<c,∀k<c,∀j<c,OG i k j->¬(i=z/\j=x)->Om (KB f x mm z) i k j≠KB f x mm z i j->UD (W++[(x,z)]) i k j:=by
  intro i hi k hk j hj d nz m;obtain⟨e1,e2,e3⟩:=d;have grow:∀{i k j},UD W i k j->UD (W++[(x,z)]) i k j:=by
   intro i k j q;unfold UD at q ⊢;simp only[mem_append];rcases q with q | q | q | q
   · exact .inl (.inl q)
   · exact .inr (.inl (.inl q))
   · exact .inr (.inr (.inl (.inl q)))
   · exact .inr (.inr (.inr (.inl q)))
  have un:∀{i k j},Om f i k j≠f i j->i<c->k<c->j<c->OG i k j->UD W i k j:=by
   intro i k j n hi hk hj d;rcases h i hi k hk j hj d n with q | q | q
   · exact q
   · cases q
   · cases q
  by_cases ht:i=x/\j=z
  · obtain⟨rfl,rfl⟩:=ht;have l1:KB f i mm j i k=f i k:=QH f (fun q=>e2 q.2) (fun q=>e1 q.2.symm);have l2:KB f i mm j k j=f k j:=QH f (fun q=>e1 q.1.symm) (fun q=>e2 q.1);have n:Om f i k j≠f i j:=by intro q;apply m;unfold Om;rw[l1,l2,OL f mm e3];exact DX (TK (f i j) _) q
    exact grow (un n hi hk hj ⟨e1,e2,e3⟩)
  · by_cases leg:UD [(x,z)] i k j
    · unfold UD at leg ⊢;simp only[mem_append];rcases leg with q | q | q | q
      · exact .inl (.inr q)
      · exact .inr (.inl (.inr q))
      · exact .inr (.inr (.inl (.inr q)))
      · exact .inr (.inr (.inr (.inr q)))
    · unfold UD at leg;simp only[mem_cons,not_mem_nil,or_false,Prod.mk.injEq,not_or]at leg;obtain⟨g1,g2,g3,g4⟩:=leg;have l0:KB f x mm z i j=f i j:=QH f (fun q=>ht q) (fun q=>nz q);have l1:KB f x mm z i k=f i k:=QH f (fun q=>g1 q) (fun q=>g2 ⟨q.2,q.1⟩);have l2:KB f x mm z k j=f k j:=QH f (fun q=>g3 q) (fun q=>g4 ⟨q.2,q.1⟩);have n:Om f i k j≠f i j:=by unfold Om at m ⊢;rw[l0,l1,l2]at m;exact m
      exact grow (un n hi hk hj ⟨e1,e2,e3⟩)
 intro i hi k hk j hj d m
 left
 by_cases nz:i=z/\j=x
 · obtain⟨e1,e2,e3⟩:=d;have m':=iU o' hj hk hi m;have q:=main j hj k hk i hi ⟨Ne.symm e2,Ne.symm e1,Ne.symm e3⟩ (fun q=>e3 (by omega)) m';unfold UD at q ⊢;rcases q with q | q | q | q
   · exact .inr (.inr (.inr q))
   · exact .inr (.inr (.inl q))
   · exact .inr (.inl q)
   · exact .inl q
 · exact main i hi k hk j hj d nz m
theorem WW{c k:Nat}:∀(ms:List JB)(_:∀m∈ms,kD c m)(f:Nat->Nat->Nat)(p:Nat)(W:List (Nat×Nat)),WA c f->HD c f W []->HD c (lE f k ms p) (W++ms.map fun m=>(m.1,m.2.2)) []
 | [],_,f,p,W,o,h=>by simpa[lE]using h
 | m::ms,hm,f,p,W,o,h=>by obtain⟨a,b,d,Z⟩:=hm m (by simp);have:=WW (k:=k) ms (fun x hx=>hm x (by simp[hx])) _ (p+1) _ (nG o a b d (if p=k then m.2.1 else notM m.2.1)) (ZX o a b d (if p=k then m.2.1 else notM m.2.1) h);rw[append_assoc]at this;exact this
inductive Tr where
 | zaf (st:List (Nat×Nat×Nat))
 | ring (st:List (Nat×Nat×Nat)) (cs:Nat->Option Nat) (P k:Nat)
 | one (st:List (Nat×Nat×Nat)) (bs:List Tr)
 | split (st:List (Nat×Nat×Nat)) (p:Nat×Nat) (bs:List Tr)
inductive Ans where
 | opn
 | laid (t:Nat->Int)
 | clash (tr:Tr)
inductive Wd where | opn | laid | clash
noncomputable def Ans.wd:Ans->Wd
 | .opn=>.opn
 | .laid _=>.laid
 | .clash _=>.clash
noncomputable def PV(tag:Option (Nat×Nat))(st:List (Nat×Nat×Nat))(bs:List Tr):Tr:=match tag with
 | none=>.one st bs
 | some p=>.split st p bs
noncomputable abbrev cB:=Nat->Nat->Nat
def qE(L:cB->List (List JB)->Nat->Ans->Nat->Prop)(tag:Option (Nat×Nat))(st:List (Nat×Nat×Nat))(gs:List (List JB)):List cB->Nat->List Tr->Ans->Nat->Prop
 | [],made,acc,a,zac=>a=.clash (PV tag st acc)/\zac=made
 | b::bs,made,acc,a,zac=>(∃tr zbK,L b gs made (.clash tr) zbK/\qE L tag st gs bs zbK (acc++[tr]) a zac)\/(a.wd≠.clash/\L b gs made a zac)
def yC(c m:Nat)(ls:List Ln):Nat->cB->List (List JB)->Nat->Ans->Nat->Prop
 | 0,_,_,_,_,_=>False
 | n+1,f,gs,made,a,zac=>
  (∃st g,Steps c f st g/\iC c g=true/\a=.clash (.zaf st)/\zac=made)\/
  ∃st g,zay c f st g/\
   ((∃cs P k,gI (2*c) (rC (lD c g ls)) (HP (lD c g ls)) cs P k/\a=.clash (.ring st cs P k)/\zac=made)\/
    (∃t,(∀e∈lD c g ls,uF t e)/\
     ((WC c g gs=none/\a=.laid t/\zac=made)\/
      (∃tag bs ps,WC c g gs=some (tag,bs,ps)/\
       ((m<=made/\a=.opn/\zac=made)\/(made<m/\qE (yC c m ls n) tag st gs.tail bs (made+1) [] a zac))))))
def Fl(c:Nat)(gs:List (List JB)):Prop:=∀x∈gs,∀m∈x,kD c m
theorem Fl.tail{c:Nat}{gs:List (List JB)}(h:Fl c gs):Fl c gs.tail:=fun x hx=>h x (mem_of_mem_tail hx)
theorem IJ{c:Nat}{g:cB}(o:WA c g){gs:List (List JB)}(ok:Fl c gs){tag:Option (Nat×Nat)}{bs:List cB}{ps:List (Nat×Nat)}(h:WC c g gs=some (tag,bs,ps)):∀b∈bs,WA c b:=by
 cases gs with
 | cons grp gs=>simp only[WC,Option.some.injEq,Prod.mk.injEq]at h;obtain⟨Z,rfl,Z⟩:=h;intro b hb;obtain⟨k,Z,rfl⟩:=mem_map.mp hb;exact US grp (ok grp (by simp)) g 0 o
 | nil=>
  simp only[WC]at h;cases lp:WD c g with
  | none=>rw[lp]at h;cases h
  | some p=>rw[lp]at h;simp only[Option.some.injEq,Prod.mk.injEq]at h;obtain⟨Z,rfl,Z⟩:=h;intro b hb;obtain⟨w,Z,rfl⟩:=mem_map.mp hb;have hp:p∈LA c:=mem_of_find?_eq_some lp;obtain⟨q1,q2⟩:=Bl.mp hp;exact nG o (by omega) (by omega) (by omega) _
theorem iT{c:Nat}{g:cB}{ls:List Ln}{cs:Nat->Option Nat}{P k:Nat}(R:gI (2*c) (rC (lD c g ls)) (HP (lD c g ls)) cs P k){t:Nat->Int}(ht:∀e∈lD c g ls,uF t e):False:=
 sZ (b:=t) (fun e he=>by have:=ht e he;unfold uF at this;omega) R
theorem CG{c m:Nat}{ls:List Ln}:∀(n:Nat)(f:cB)(gs:List (List JB))(made:Nat)(a a':Ans)(s s':Nat),WA c f->Fl c gs->yC c m ls n f gs made a s->yC c m ls n f gs made a' s'->a.wd=a'.wd/\s=s'
 | 0,_,_,_,_,_,_,_,_,_,h,_=>h.elim
 | n+1,f,gs,made,a,a',s,s',of,og,h,h'=>by
  rcases h with⟨st,g,h1,h2,rfl,rfl⟩ | ⟨st,g,h1,h⟩
  · rcases h' with⟨st',g',k1,k2,rfl,rfl⟩ | ⟨st',g',k1,h'⟩
    · exact⟨rfl,rfl⟩
    · have:=k1.Kl of h1;rw[h2]at this;cases this
  · rcases h' with⟨st',g',k1,k2,rfl,rfl⟩ | ⟨st',g',k1,h'⟩
    · have:=h1.Kl of k1;rw[k2]at this;cases this
    · have eg:=h1.unique of k1;subst eg;have okg:=(h1.ok of).1;rcases h with⟨cs,P,k,R,rfl,rfl⟩ | ⟨t,ht,h⟩
      · rcases h' with⟨cs',P',k',R',rfl,rfl⟩ | ⟨t',ht',h'⟩
        · exact⟨rfl,rfl⟩
        · exact(iT R ht').elim
      · rcases h' with⟨cs',P',k',R',rfl,rfl⟩ | ⟨t',ht',h'⟩
        · exact(iT R' ht).elim
        · rcases h with⟨sp,rfl,rfl⟩ | ⟨tag,bs,ps,sp,h⟩
          · rcases h' with⟨sp',rfl,rfl⟩ | ⟨tag',bs',ps',sp',h'⟩
            · exact⟨rfl,rfl⟩
            · rw[sp]at sp';cases sp'
          · rcases h' with⟨sp',rfl,rfl⟩ | ⟨tag',bs',ps',sp',h'⟩
            · rw[sp]at sp';cases sp'
            · rw[sp]at sp';cases sp';rcases h with⟨lm,rfl,rfl⟩ | ⟨lm,h⟩
              · rcases h' with⟨lm',rfl,rfl⟩ | ⟨lm',h'⟩
                · exact⟨rfl,rfl⟩
                · omega
              · rcases h' with⟨lm',rfl,rfl⟩ | ⟨lm',h'⟩
                · omega
                · have bok:=IJ okg og sp;have go:∀(bs:List cB),(∀b∈bs,WA c b)->∀(md:Nat)(acc acc':List Tr)(a a':Ans)(s s':Nat),qE (yC c m ls n) tag st gs.tail bs md acc a s->qE (yC c m ls n) tag st' gs.tail bs md acc' a' s'->a.wd=a'.wd/\s=s':=by
                   intro bs
                   induction bs with
                   | nil=>rintro _ md acc acc' a a' s s' ⟨rfl,rfl⟩ ⟨rfl,rfl⟩;exact⟨rfl,rfl⟩
                   | cons b bs ih=>
                    intro hb md acc acc' a a' s s' q q';have hb0:=hb b (by simp);have hb1:∀x∈bs,WA c x:=fun x hx=>hb x (by simp[hx])
                    rcases q with⟨tr,m1,q1,q2⟩ | ⟨q1,q2⟩
                    · rcases q' with⟨tr',m1',q1',q2'⟩ | ⟨q1',q2'⟩
                      · obtain⟨Z,rfl⟩:=CG n b _ md _ _ _ _ hb0 og.tail q1 q1';exact ih hb1 _ _ _ _ _ _ _ q2 q2'
                      · obtain⟨z,Z⟩:=CG n b _ md _ _ _ _ hb0 og.tail q1 q2';exact absurd z.symm q1'
                    · rcases q' with⟨tr',m1',q1',q2'⟩ | ⟨q1',q2'⟩
                      · obtain⟨z,Z⟩:=CG n b _ md _ _ _ _ hb0 og.tail q2 q1';exact absurd z q1
                      · exact CG n b _ md _ _ _ _ hb0 og.tail q2 q2'
                  exact go bs bok _ _ _ _ _ _ _ h h'
theorem FL{c m:Nat}{ls:List Ln}:∀(n:Nat)(f:cB)(gs:List (List JB))(made:Nat)(a:Ans)(s:Nat),yC c m ls n f gs made a s->made<=s/\(made<=m->s<=m)/\(made<=m->a.wd=.opn->s=m)
 | 0,_,_,_,_,_,h=>h.elim
 | n+1,f,gs,made,a,s,h=>by
  rcases h with⟨st,g,h1,h2,rfl,rfl⟩ | ⟨st,g,h1,h⟩
  · exact⟨zfU _,id,fun Z z=>by cases z⟩
  · rcases h with⟨cs,P,k,R,rfl,rfl⟩ | ⟨t,ht,h⟩
    · exact⟨zfU _,id,fun Z z=>by cases z⟩
    · rcases h with⟨sp,rfl,rfl⟩ | ⟨tag,bs,ps,sp,h⟩
      · exact⟨zfU _,id,fun Z z=>by cases z⟩
      · rcases h with⟨lm,rfl,rfl⟩ | ⟨lm,h⟩
        · exact⟨zfU _,id,fun Z Z=>by omega⟩
        · have go:∀(bs:List cB)(md:Nat)(acc:List Tr)(a:Ans)(s:Nat),qE (yC c m ls n) tag st gs.tail bs md acc a s->md<=s/\(md<=m->s<=m)/\(md<=m->a.wd=.opn->s=m):=by
           intro bs
           induction bs with
           | nil=>rintro md acc a s ⟨rfl,rfl⟩;refine⟨zfU _,id,fun Z z=>by cases z⟩
           | cons b bs ih=>
            intro md acc a s q;rcases q with⟨tr,m1,q1,q2⟩ | ⟨q1,q2⟩
            · obtain⟨a1,a2,Z⟩:=FL n b _ md _ _ q1;obtain⟨b1,b2,b3⟩:=ih _ _ _ _ q2;exact⟨by omega,fun z=>b2 (a2 z),fun z=>b3 (a2 z)⟩
            · exact FL n b _ md _ _ q2
          obtain⟨a1,a2,a3⟩:=go bs _ _ _ _ h;exact⟨by omega,fun Z=>a2 (by omega),fun Z=>a3 (by omega)⟩
mutual
noncomputable def Gp(lo:Nat)(h:HI):Tr->Dt->Prop
 | .zaf st,d=>∃s,d=.tup [.str "threes", .ref s]/\lo<=s/\h[s]?=some (.lst (st.map cE))
 | .ring st cs P k,d=>∃s r,d=.tup [.str "ring", .ref s,.ref r]/\lo<=s/\lo<=r/\h[s]?=some (.lst (st.map cE))/\h[r]?=some (.lst (aD cs P k))
 | .one st bs,d=>∃s r ds,d=.tup [.str "one", .ref s,.ref r]/\lo<=s/\lo<=r/\h[s]?=some (.lst (st.map cE))/\h[r]?=some (.lst ds)/\Xm lo h bs ds
 | .split st p bs,d=>∃s r ds,d=.tup [.str "split", .ref s,.int (p.1:Nat),.int (p.2:Nat),.ref r]/\lo<=s/\lo<=r/\h[s]?=some (.lst (st.map cE))/\h[r]?=some (.lst ds)/\Xm lo h bs ds
noncomputable def Xm(lo:Nat)(h:HI):List Tr->List Dt->Prop
 | [],ds=>ds=[]
 | t::ts,ds=>∃d r,ds=d::r/\Gp lo h t d/\Xm lo h ts r
end
noncomputable def CV(lo:Nat)(h h':HI):Prop:=∀(n:Nat)(xs:List Dt),lo<=n->h[n]?=some (.lst xs)->h'[n]?=some (.lst xs)
mutual
theorem Gp.up{lo lo':Nat}(hl:lo'<=lo){h h':HI}(u:CV lo h h'):∀(t:Tr){d:Dt},Gp lo h t d->Gp lo' h' t d
 | .zaf st,d,q=>by simp only[Gp]at q ⊢;obtain⟨s,e,l,q⟩:=q;exact⟨s,e,by omega,u _ _ l q⟩
 | .ring st cs P k,d,q=>by simp only[Gp]at q ⊢;obtain⟨s,r,e,l1,l2,q1,q2⟩:=q;exact⟨s,r,e,by omega,by omega,u _ _ l1 q1,u _ _ l2 q2⟩
 | .one st bs,d,q=>by simp only[Gp]at q ⊢;obtain⟨s,r,ds,e,l1,l2,q1,q2,q3⟩:=q;exact⟨s,r,ds,e,by omega,by omega,u _ _ l1 q1,u _ _ l2 q2,Xm.up hl u bs q3⟩
 | .split st p bs,d,q=>by simp only[Gp]at q ⊢;obtain⟨s,r,ds,e,l1,l2,q1,q2,q3⟩:=q;exact⟨s,r,ds,e,by omega,by omega,u _ _ l1 q1,u _ _ l2 q2,Xm.up hl u bs q3⟩
theorem Xm.up{lo lo':Nat}(hl:lo'<=lo){h h':HI}(u:CV lo h h'):∀(ts:List Tr){ds:List Dt},Xm lo h ts ds->Xm lo' h' ts ds
 | [],ds,q=>by simp only[Xm]at q ⊢;exact q
 | t::ts,ds,q=>by simp only[Xm]at q ⊢;obtain⟨d,r,e,q1,q2⟩:=q;exact⟨d,r,e,Gp.up hl u t q1,Xm.up hl u ts q2⟩
end
theorem Xm.snoc{lo:Nat}{h:HI}{t:Tr}{d:Dt}(a:Gp lo h t d):∀(ts:List Tr){ds:List Dt},Xm lo h ts ds->Xm lo h (ts++[t]) (ds++[d])
 | [],ds,q=>by simp only[Xm]at q;subst q;simp only[zfP,Xm];exact⟨d,[],rfl,a,rfl⟩
 | t'::ts,ds,q=>by simp only[Xm]at q;obtain⟨d',r,rfl,q1,q2⟩:=q;simp only[zfQ,Xm];exact⟨d',r++[d],rfl,q1,Xm.snoc a ts q2⟩
noncomputable def UB(c:Nat)(u:Nat->Int):List Dt:=(range c).map fun k=>.tup [.int (u (2*k)),.int (u (2*k+1))]
def zao(lo:Nat)(h:HI)(c:Nat):Ans->Dt->Prop
 | .opn,d=>d=.tup [.str "open", .non]
 | .laid t,d=>d=.tup [.str "laid", .lst (UB c (eB (2*c) t))]
 | .clash tr,d=>∃x,d=.tup [.str "clash",x]/\Gp lo h tr x
theorem zao.up{lo lo':Nat}(hl:lo'<=lo){h h':HI}(u:CV lo h h'){c:Nat}{a:Ans}{d:Dt}(q:zao lo h c a d):zao lo' h' c a d:=by
 cases a with
 | opn=>exact q
 | laid t=>exact q
 | clash tr=>obtain⟨x,e,q⟩:=q;exact⟨x,e,Gp.up hl u tr q⟩
theorem g9{c:Nat}(hc:c<=100)(u:Nat->Int)(h:HI):sN [.lst (BC (2*c) u)] h=some (.lst (UB c u),h):=by
 have er:P4 2 (.int 0) (.int ((2*c:Nat):Int),h)=some (.vals ((range c).map fun(k:Nat)=>Dt.int (0+(k:Int)*(2:Nat))),h):=by
  have e1:((((2*c:Nat):Int)-0+((2:Nat):Int)-1)/((2:Nat):Int)).toNat=c:=by omega
  have cc:(0:Int)<=0/\(0:Int)<2^61/\0<=((2*c:Nat):Int)/\((2*c:Nat):Int)<2^61/\0<2/\2<1000:=by omega
  simp only[P4,if_pos cc,e1]
 have ec:=PH (te:=dN) (tc:=VB) (i:=0) (fun(k:Nat)=>Dt.int (0+(k:Int)*(2:Nat))) (fun k=>Dt.tup [.int (u (2*k)),.int (u (2*k+1))]) h (range c) [none,some (.lst (BC (2*c) u))] (by
  intro k hk;have hk:=mem_range.mp hk;refine⟨by simp,?_⟩;have g1:(0:Int)+(k:Int)*((2:Nat):Int)=((2*k:Nat):Int):=by omega
  have g2:((2*k:Nat):Int)+1=((2*k+1:Nat):Int):=by omega
  have t1:=sO u (show 2*k<2*c by omega);have t2:=sO u (show 2*k+1<2*c by omega);rw[g1];simp only[dN,IE,UA,KA,yA,xA,oA,zfL,zfF,zfG,pA,iA,nE,g2,bK,SM.ZC,t1,t2,zfN];rfl)
 have ck:=YF (l:=[none,some (.lst (BC (2*c) u))]) (h:=h) (DA 0) VB dN (xs:=(range c).map fun(k:Nat)=>Dt.int (0+(k:Int)*(2:Nat))) (by simp[sizeLine];omega);rw[ec]at ck;have tl:=HS (2*c) u;simp only[sN,UQ,rB,zfH,zfI,if_true,zfJ,zfK,Nat.reduceAdd,Nat.reduceSub,replicate,zfW,yB,rG,B8,xA,RC,oA,zfF,pA,iA,CU,tl,er,KF,LJ,MF,Option.join_some,ck,BB];rfl
def zbO(h:HI)(d:Dt)(P:List (Nat×Nat)):Prop:=d=.lst (P.map wA)\/∃n,d=.ref n/\h[n]?=some (.lst (P.map wA))
theorem zbO.seq{h:HI}{d:Dt}{P:List (Nat×Nat)}(q:zbO h d P)(e:HI):QD (h++e) d=some (P.map wA):=by
 rcases q with rfl | ⟨n,rfl,q⟩
 · rfl
 · have:=(Up.app h e).get q;simp only[QD,OB,this]
def Mp (h:HI) (o:Nat) (ls:List Ln) (m made:Nat):Prop:=h[o]?=some (.ins "Search" [("lengths", .lst (ls.map xC)),("most", .int (m:Nat)),("made", .int (made:Nat))])
theorem Mp.up{h h':HI}(u:Up h h'){o m made:Nat}{ls:List Ln}(s:Mp h o ls m made):Mp h' o ls m made:=u.get s
theorem YT{m:Nat}(hm:m<8192)(h:m≠0):JA m ≠ []:=by
 intro e;apply h;refine lH hm (by decide) fun k hk=>?_
 cases z:m.testBit k with
 | false=>simp
 | true=>have:k∈JA m:=Um.mpr ⟨hk,z⟩;rw[e]at this;cases this
theorem jy{c:Nat}{g:cB}(o:WA c g)(ne:iC c g=false):∀i j,i<c->j<c->JA (g i j) ≠ []:=fun i j hi hj=>YT (o.lt i hi j hj) (Kl ne hi hj)
theorem cY{c:Nat}{p:Nat×Nat}(h:p∈LA c):p.1<p.2/\p.2<c:=by unfold LA iD at h;obtain⟨i,hi,h⟩:=mem_flatMap.mp h;obtain⟨k,hk,rfl⟩:=mem_map.mp h;have:=mem_range.mp hi;have:=mem_range.mp hk;exact⟨by show i<i+1+k;omega,by show i+1+k<c;omega⟩
theorem qx{c i j:Nat}(h1:i<j)(h2:j<c):(i,j)∈LA c:=by unfold LA iD;refine mem_flatMap.mpr ⟨i,mem_range.mpr (by omega),mem_map.mpr ⟨j-i-1,mem_range.mpr (by omega),?_⟩⟩;rw[show i+1+(j-i-1)=j by omega]
theorem u0{p q:Nat}{a mx mn:Int}{e:Bd}(h:e∈LG p q a mx mn):(e.1=p/\e.2.1=q)\/(e.1=q/\e.2.1=p):=by
 unfold LG at h;rcases mem_append.mp h with h | h
 · split at h
   · rw[mem_singleton.mp h];exact .inl ⟨rfl,rfl⟩
   · exact nomatch h
 · split at h
   · rw[mem_singleton.mp h];exact .inr ⟨rfl,rfl⟩
   · exact nomatch h
theorem GZ{i j side m:Nat}{e:Bd}(h:e∈qF i j side m):∃z:Nat,z<2/\((e.1=2*i+side/\e.2.1=2*j+z)\/(e.1=2*j+z/\e.2.1=2*i+side)):=by
 unfold qF at h;rcases mem_append.mp h with h | h
 · exact⟨0,by omega,u0 h⟩
 · exact⟨1,by omega,u0 h⟩
theorem MY{c:Nat}(N:Nat->Nat->Nat){ls:List Ln}(hl:∀x∈ls,x.1<c):∀e∈lD c N ls,e.1<2*c/\e.2.1<2*c/\e.1≠e.2.1:=by
 intro e he;unfold lD at he;rcases mem_append.mp he with he | he
 · rcases mem_append.mp he with he | he
   · obtain⟨i,hi,rfl⟩:=mem_map.mp he;have:=mem_range.mp hi;refine⟨?_,?_,?_⟩<;>simp only<;>omega
   · obtain⟨x,hx,he⟩:=mem_flatMap.mp he;have:=hl x hx;unfold VC at he;simp only[mem_cons,not_mem_nil,or_false]at he;rcases he with rfl | rfl
     · refine⟨?_,?_,?_⟩<;>simp only<;>omega
     · refine⟨?_,?_,?_⟩<;>simp only<;>omega
 · obtain⟨p,hp,he⟩:=mem_flatMap.mp he;obtain⟨h1,h2⟩:=cY hp;unfold LC at he;rcases mem_append.mp he with he | he
   · obtain⟨z,hz,⟨a,b⟩ | ⟨a,b⟩⟩:=GZ he
     · rw[a,b];omega
     · rw[a,b];omega
   · obtain⟨z,hz,⟨a,b⟩ | ⟨a,b⟩⟩:=GZ he
     · rw[a,b];omega
     · rw[a,b];omega
theorem DT{α β:Type}(f:α->List β)(n:Nat):∀(xs:List α)(_:∀x∈xs,(f x).length<=n),(xs.flatMap f).length<=n*xs.length
 | [],_=>by simp
 | x::xs,h=>by have:=DT f n xs (fun y hy=>h y (by simp[hy]));have:=h x (by simp);rw[flatMap_cons,length_append,zfH,Nat.mul_succ];omega
theorem sY{c:Nat}(hc:c<=8)(N:Nat->Nat->Nat){ls:List Ln}(hl:ls.length<=100):(lD c N ls).length<=1000:=by
 unfold lD;rw[length_append,length_append];have a1:(tD c).length=c:=by simp[tD]
 have a2:=DT (VC (2*c+1)) 2 ls (fun x Z=>zfU _);have a3:=DT (fun p:Nat×Nat=>LC p.1 (N p.1 p.2) p.2) 8 (LA c) (fun x Z=>by
  unfold LC;rw[length_append];have:=xI x.1 x.2 0 (N x.1 x.2);have:=xI x.1 x.2 1 (N x.1 x.2);omega)
 have a4:=nL c c;have h2:c*c<=8*8:=Nat.mul_le_mul hc hc;have a5:(LA c).length<=64:=by unfold LA;omega
 omega
theorem R0{h h':HI}(f:∀m,m<h.length->h'[m]?=h[m]?):Up h h':=by refine⟨?_,f⟩;apply Classical.byContradiction;intro n;have e:=f h'.length (by omega);rw[getElem?_eq_none (zfU _),getElem?_eq_getElem (by omega)]at e;cases e
theorem Rh{h:HI}{ds:List Dt}{gs:List (List JB)}(q:Il h ds gs):Il h (ds.drop 1) gs.tail:=by
 cases q with
 | nil=>exact .nil
 | cons a r=>exact r
theorem C5 {x y z:Dt}:LD "lengths" [("lengths",x),("most",y),("made",z)]=some x:=by rfl
theorem Cr {x y z:Dt}:LD "most" [("lengths",x),("most",y),("made",z)]=some y:=by
 have:¬((("most" :Str))=(("lengths" :Str))):=by decide +kernel
 simp only[LD,if_neg this,if_true]
theorem j0 {x y z:Dt}:LD "made" [("lengths",x),("most",y),("made",z)]=some z:=by
 have h1:¬((("made" :Str))=(("lengths" :Str))):=by decide +kernel
 have h2:¬((("made" :Str))=(("most" :Str))):=by decide +kernel
 simp only[LD,if_neg h1,if_neg h2,if_true]
theorem iZ {x y z:Dt}:LD "look" [("lengths",x),("most",y),("made",z)]=none:=by
 have h1:¬((("look" :Str))=(("lengths" :Str))):=by decide +kernel
 have h2:¬((("look" :Str))=(("most" :Str))):=by decide +kernel
 have h3:¬((("look" :Str))=(("made" :Str))):=by decide +kernel
 simp only[LD,if_neg h1,if_neg h2,if_neg h3]
theorem Dr {x y z:Dt}:LD "look_at_branches" [("lengths",x),("most",y),("made",z)]=none:=by
 have h1:¬((("look_at_branches" :Str))=(("lengths" :Str))):=by decide +kernel
 have h2:¬((("look_at_branches" :Str))=(("most" :Str))):=by decide +kernel
 have h3:¬((("look_at_branches" :Str))=(("made" :Str))):=by decide +kernel
 simp only[LD,if_neg h1,if_neg h2,if_neg h3]
theorem K6 {x y z v:Dt}:jF "made" v [("lengths",x),("most",y),("made",z)]=([("lengths",x),("most",y),("made",v)]:List (Str×Dt)):=by
 have h1:¬((("lengths" :Str))=(("made" :Str))):=by decide +kernel
 have h2:¬((("most" :Str))=(("made" :Str))):=by decide +kernel
 simp only[jF,if_neg h1,if_neg h2,if_true]
theorem Ac:decide ((("open" :Str))=(("clash" :Str)))=false:=by decide +kernel
theorem B4:decide ((("laid" :Str))=(("clash" :Str)))=false:=by decide +kernel
theorem t5:decide ((("times" :Str))=(("ring" :Str)))=false:=by decide +kernel
def Ky(c m:Nat)(ls:List Ln)(n:Nat)(f:cB)(gs:List (List JB))(made o:Nat)(h:HI)(r:Option (Dt×HI)):Prop:=
 ∃d h' a s,r=some (d,h')/\yC c m ls n f gs made a s/\zao h.length h' c a d/\Np h h'/\Mp h' o ls m s
structure o6(c m:Nat)(ls:List Ln)(n:Nat)(f:cB)(gs:List (List JB))(Tp:List Dt)(made b o:Nat)(pd:Dt)(P:List (Nat×Nat))(h:HI):Prop where
 ex:∃a s,yC c m ls n f gs made a s
 of:WA c f
 og:Fl c gs
 sg:∀x∈gs,x.length<=1000
 net:Bm h b c f
 grp:Il h Tp gs
 prs:zbO h pd P
 pc:∀p∈P,p.1<c/\p.2<c/\p.1≠p.2
 wt:HD c f P []
 lp:P.length<=1000
 ob:Mp h o ls m made
def yU(c m:Nat)(ls:List Ln)(n:Nat):Prop:=∀(f:cB)(gs:List (List JB))(Tp:List Dt)(made b o:Nat)(pd:Dt)(P:List (Nat×Nat))(h:HI),o6 c m ls n f gs Tp made b o pd P h->Ky c m ls n f gs made o h (kG n [.ref o,.ref (b+c),pd,.lst Tp] h)
theorem u7(tag:Option (Nat×Nat))(Qp:List Dt)(ps:List (Nat×Nat))(k:HI):rA (rE tag Qp ps) (.int 2) k=some (.lst Qp,k):=by cases tag<;>rfl
theorem v7(tag:Option (Nat×Nat))(Qp:List Dt)(ps:List (Nat×Nat))(k:HI):rA (rE tag Qp ps) (.int 3) k=some (.lst (ps.map wA),k):=by cases tag<;>rfl
theorem Xz{c m n:Nat}{ls:List Ln}(IH:yU c m ls n){tag:Option (Nat×Nat)}{st st0:List (Nat×Nat×Nat)}{gs:List (List JB)}{Tp:List Dt}{ps:List (Nat×Nat)}{za6:List Dt}{hB:HI}{o sr:Nat}(og:Fl c gs)(sg:∀x∈gs,x.length<=1000)(G0:Il hB Tp gs)(pc:∀p∈ps,p.1<c/\p.2<c/\p.1≠p.2)(lp:ps.length<=1000) :
 ∀(bs:List cB)(Qp:List Dt)(made:Nat)(acc acc0:List Tr)(Ep:List Dt)(h:HI)(y5 y6:Option Dt)(a0:Ans)(s0:Nat),qE (yC c m ls n) tag st0 gs bs made acc0 a0 s0->(∀b∈bs,WA c b)->(∀b∈bs,HD c b ps [])->zad (zaD hB c) bs Qp->Np hB h->h[hB.length]?=some (.lst Ep)->Xm (hB.length+1) h acc Ep->Ep.length+bs.length<=5000->Mp h o ls m made->
  ∃r,zC (DA 5) (FK (kG n)) Qp [some (.ref o),some (rE tag za6 ps),some (.ref sr),some (.lst Tp),some (.ref hB.length),y5,y6] h=some r/\
   ((∃y5' y6' h' acc' zaF s',r=.nx [some (.ref o),some (rE tag za6 ps),some (.ref sr),some (.lst Tp),some (.ref hB.length),y5',y6'] h'/\Np hB h'/\h'[hB.length]?=some (.lst zaF)/\Xm (hB.length+1) h' acc' zaF/\Mp h' o ls m s'/\qE (yC c m ls n) tag st gs bs made acc (.clash (PV tag st acc')) s')\/
    (∃d h' a s',r=.rt d h'/\Np hB h'/\zao (hB.length+1) h' c a d/\Mp h' o ls m s'/\a.wd≠.clash/\qE (yC c m ls n) tag st gs bs made acc a s')):=by
 intro bs
 induction bs with
 | nil=>intro Qp made acc acc0 Ep h y5 y6 a0 s0 q Z Z A U hb T Z O;cases A;exact⟨_,rfl,.inl ⟨y5,y6,h,acc,Ep,made,rfl,U,hb,T,O,rfl,rfl⟩⟩
 | cons b bs ih=>
  intro Qp made acc acc0 Ep h y5 y6 a0 s0 q okb wtb A U hb T sz O;cases A with
  | @cons _ nd _ zd1 nd1 A=>
  have hbl:hB.length+1<=h.length:=(zfR hb).1;obtain⟨b1,rfl,N1⟩:=nd1;have exb:∃a s,yC c m ls n b gs made a s:=by
   rcases q with⟨tr,m1,q1,_⟩ | ⟨_,q2⟩
   · exact⟨_,_,q1⟩
   · exact⟨_,_,q2⟩
  obtain⟨d,h1,a,s,e,L,AN,U1,O1⟩:=IH b gs Tp made b1 o (.lst (ps.map wA)) ps h ⟨exb,okb b (by simp),og,sg,U.net N1,G0.up U,.inl rfl,pc,wtb b (by simp),lp,O⟩;have mt:=SS (x := "Search") (m := "look") (F:=kG n) (ga:=bA (eV 5) (bA (e2 rA (eV 1) (eC (.int 3))) (bA (eV 3) eA))) (l:=[some (.ref o),some (rE tag za6 ps),some (.ref sr),some (.lst Tp),some (.ref hB.length),some (.ref (b1+c)),y6]) O iZ;have ev:WI "Search" "look" (kG n) (eV 0) (bA (eV 5) (bA (e2 rA (eV 1) (eC (.int 3))) (bA (eV 3) eA))) [some (.ref o),some (rE tag za6 ps),some (.ref sr),some (.lst Tp),some (.ref hB.length),some (.ref (b1+c)),y6] h=some (d,h1):=by simp only[PU,oA,zfF,pA,iA,mt,UA,KA,yA,xA,zfG,v7,e]
  cases a with
  | opn=>have dd:d=.tup [.str "open", .non]:=AN;refine⟨.rt d h1,?_,.inr ⟨d,h1,.opn,s,rfl,U.trans U1,AN,O1,(fun z=>by cases z),.inr ⟨(fun z=>by cases z),L⟩⟩⟩;subst dd;simp only[zfJ,zC,pG,zfO,zfM,zfL,FK,OA,YA,ev,iA,QA,dB,NA,yA,oA,xA,zfF,zfG,pA,QB,YB,zfN,rV,Ac,Bool.not_false,VA,if_true,yB,aF,J0]
  | laid t=>have dd:d=.tup [.str "laid", .lst (UB c (eB (2*c) t))]:=AN;refine⟨.rt d h1,?_,.inr ⟨d,h1,.laid t,s,rfl,U.trans U1,AN,O1,(fun z=>by cases z),.inr ⟨(fun z=>by cases z),L⟩⟩⟩;subst dd;simp only[zfJ,zC,pG,zfO,zfM,zfL,FK,OA,YA,ev,iA,QA,dB,NA,yA,oA,xA,zfF,zfG,pA,QB,YB,zfN,rV,B4,Bool.not_false,VA,if_true,yB,aF,J0]
  | clash tr=>
   obtain⟨x,rfl,TA⟩:=AN;have hb1:=U1.2 _ _ hb;obtain⟨h2,hh2⟩:∃h2:HI,h2=h1.set hB.length (.lst (Ep++[x])):=⟨_,rfl⟩
   have l1:hB.length<h1.length:=(zfR hb1).1;have g2:∀k,k≠hB.length->h2[k]?=h1[k]?:=fun k hk=>by rw[hh2,getElem?_set_ne (Ne.symm hk)]
   have U2:Np hB h2:=⟨by rw[hh2,length_set];exact zxA U.1 U1.1,fun k xs hk=>by
    have kl:=(zfR hk).1;rw[g2 k (by omega)];exact U1.2 _ _ (U.2 _ _ hk)⟩
   have F2:CV (hB.length+1) h1 h2:=fun k xs hk hx=>by rw[g2 k (by omega)];exact hx
   have hb2:h2[hB.length]?=some (.lst (Ep++[x])):=by rw[hh2,getElem?_set_self l1]
   have O2:Mp h2 o ls m s:=by
    have:o≠hB.length:=by intro z;unfold Mp at O1;rw[z,hb1]at O1;cases O1
    unfold Mp;rw[g2 o this];exact O1
   have T2:Xm (hB.length+1) h2 (acc++[tr]) (Ep++[x]):=Xm.snoc (Gp.up hbl (fun k xs hk hx=>F2 k xs (by omega) hx) tr TA) acc (Xm.up (zfU _) (fun k xs hk hx=>F2 k xs hk (U1.2 _ _ hx)) acc T);have ap:=SE (l:=[some (.ref o),some (rE tag za6 ps),some (.ref sr),some (.lst Tp),some (.ref hB.length),some (.ref (b1+c)),some (.tup [.str "clash",x])]) (h:=h1) (g:=e2 rA (eV 6) (eC (.int 1))) (d:=x) hb1 (by simp) hb1 (by simp at sz;simp[sizeLine];omega);rw[<- hh2]at ap;obtain⟨a1,s1,zbP,q3⟩:∃a1 s1 zbP,qE (yC c m ls n) tag st0 gs bs s zbP a1 s1:=by
    rcases q with⟨tr',m1,q1,q2⟩ | ⟨q1,q2⟩
    · obtain⟨Z,z⟩:=CG n b gs made _ _ _ _ (okb b (by simp)) og q1 L;subst z;exact⟨_,_,_,q2⟩
    · obtain⟨z,Z⟩:=CG n b gs made _ _ _ _ (okb b (by simp)) og q2 L;exact absurd z q1
   obtain⟨r,e3,er⟩:=ih zd1 s (acc++[tr]) zbP (Ep++[x]) h2 (some (.ref (b1+c))) (some (.tup [.str "clash",x])) a1 s1 q3 (fun y hy=>okb y (by simp[hy])) (fun y hy=>wtb y (by simp[hy])) A U2 hb2 T2 (by simp at sz ⊢;omega) O2;refine⟨r,?_,?_⟩
   · simp only[zfJ,zC,pG,zfO,zfM,zfL,FK,OA,YA,ev,iA,QA,dB,NA,yA,oA,xA,zfF,zfG,pA,QB,YB,zfN,rV,decide_true,Bool.not_true,VA,zfX,if_false,dC,RD,BE,ap,I0];exact e3
   · rcases er with⟨y5',y6',h',acc',zaF,s',z1,z2,z3,z4,z5,z6⟩ | ⟨d,h',a,s',z1,z2,z3,z4,z5,z6⟩
     · exact .inl ⟨y5',y6',h',acc',zaF,s',z1,z2,z3,z4,z5,.inl ⟨tr,s,L,z6⟩⟩
     · exact .inr ⟨d,h',a,s',z1,z2,z3,z4,z5,.inl ⟨tr,s,L,z6⟩⟩
theorem Xd:1<=sizeLine:=by decide
theorem FP:2<=sizeLine:=by decide
theorem B3:3<=sizeLine:=by decide
theorem jJ:JG Dt.non=true:=rfl
theorem wK(k:Nat):JG (Dt.ref k)=false:=rfl
theorem w5{c m n:Nat}{ls:List Ln}(IH:yU c m ls n){tag:Option (Nat×Nat)}{st st0:List (Nat×Nat×Nat)}{gs:List (List JB)}{Tp:List Dt}{ps:List (Nat×Nat)}{bs:List cB}{Qp:List Dt}{hB:HI}{o sr lo made:Nat}{a0:Ans}{s0:Nat}(og:Fl c gs)(sg:∀x∈gs,x.length<=1000)(G0:Il hB Tp gs)(pc:∀p∈ps,p.1<c/\p.2<c/\p.1≠p.2)(lp:ps.length<=1000)
 (q:qE (yC c m ls n) tag st0 gs bs made [] a0 s0) (okb:∀b∈bs,WA c b) (wtb:∀b∈bs,HD c b ps []) (A:zad (zaD hB c) bs Qp) (lb:bs.length<=4000) (O:Mp hB o ls m made) (hs:hB[sr]?=some (.lst (st.map cE))) (l1:lo<=sr) (l2:lo<=hB.length) :
 ∃d h' a s,KH (kG n) [.ref o,rE tag Qp ps,.ref sr,.lst Tp] hB=some (d,h')/\qE (yC c m ls n) tag st gs bs made [] a s/\zao lo h' c a d/\Np hB h'/\Mp h' o ls m s:=by
 have U0:Np hB (hB++[.lst []]):=Np.app _ _;obtain⟨r,e,er⟩:=Xz IH (tag:=tag) (st:=st) (st0:=st0) (za6:=Qp) (sr:=sr) og sg G0 pc lp bs Qp made [] [] [] (hB++[.lst []]) none none a0 s0 q okb wtb A U0 (by simp) (by simp only[Xm]) (by simp;omega) (Mp.up (Up.app hB [.lst []]) O);have s2:=fun k=>u7 tag Qp ps k
 rcases er with⟨y5,y6,h',acc,Ep,s,rfl,U,hb,T,O',B⟩ | ⟨d,h',a,s,rfl,U,AN,O',na,B⟩
 · have hs':=U.2 _ _ hs;have T':Xm lo h' acc Ep:=Xm.up (by omega) (fun k xs hk hx=>hx) acc T;cases tag with
   | none=>
    refine⟨.tup [.str "clash", .tup [.str "one", .ref sr,.ref hB.length]],h',_,s,?_,B,⟨_,rfl,?_⟩,U,O'⟩
    · have c1:∀k:HI,NI (.tup [.str "one", .ref sr]) (.tup []) k=some (.tup [.str "one", .ref sr],k):=fun Z=>rfl
      have c2:∀k:HI,NI (.tup [.str "one", .ref sr]) (.tup [.ref hB.length]) k=some (.tup [.str "one", .ref sr,.ref hB.length],k):=fun Z=>rfl
      have t2:∀x y:Dt,[x,y].length<=sizeLine:=fun Z Z=>by simp[sizeLine]
      have t1:∀x:Dt,[x].length<=sizeLine:=fun Z=>by simp[sizeLine]
      have x0:∀k:HI,rA (rE none Qp ps) (.int 0) k=some (.str "one",k):=fun Z=>rfl
      have x1:∀k:HI,rA (rE none Qp ps) (.int 1) k=some (.tup [],k):=fun Z=>rfl
      simp only[KH,EK,rB,zfH,zfI,if_true,zfJ,zfK,Nat.reduceAdd,Nat.reduceSub,replicate,zfQ,zfP,OA,YA,aG,KA,iA,zxB,zfM,zfL,QA,ND,CD,yA,oA,xA,zfF,zfG,pA,s2,OH,lG,e,yB,IE,UA,x0,x1,Xd,FP,c1,c2,BB]
    · show Gp lo h' (.one st acc) _;simp only[Gp];exact⟨sr,hB.length,Ep,rfl,l1,l2,hs',hb,T'⟩
   | some p=>
    refine⟨.tup [.str "clash", .tup [.str "split", .ref sr,.int (p.1:Nat),.int (p.2:Nat),.ref hB.length]],h',_,s,?_,B,⟨_,rfl,?_⟩,U,O'⟩
    · have c1:∀k:HI,NI (.tup [.str "split", .ref sr]) (wA p) k=some (.tup [.str "split", .ref sr,.int (p.1:Nat),.int (p.2:Nat)],k):=fun Z=>rfl
      have c2:∀k:HI,NI (.tup [.str "split", .ref sr,.int (p.1:Nat),.int (p.2:Nat)]) (.tup [.ref hB.length]) k=some (.tup [.str "split", .ref sr,.int (p.1:Nat),.int (p.2:Nat),.ref hB.length],k):=fun Z=>rfl
      have t2:∀x y:Dt,[x,y].length<=sizeLine:=fun Z Z=>by simp[sizeLine]
      have t1:∀x:Dt,[x].length<=sizeLine:=fun Z=>by simp[sizeLine]
      have x0:∀k:HI,rA (rE (some p) Qp ps) (.int 0) k=some (.str "split",k):=fun Z=>rfl
      have x1:∀k:HI,rA (rE (some p) Qp ps) (.int 1) k=some (wA p,k):=fun Z=>rfl
      simp only[KH,EK,rB,zfH,zfI,if_true,zfJ,zfK,Nat.reduceAdd,Nat.reduceSub,replicate,zfQ,zfP,OA,YA,aG,KA,iA,zxB,zfM,zfL,QA,ND,CD,yA,oA,xA,zfF,zfG,pA,s2,OH,lG,e,yB,IE,UA,x0,x1,Xd,FP,c1,c2,BB]
    · show Gp lo h' (.split st p acc) _;simp only[Gp];exact⟨sr,hB.length,Ep,rfl,l1,l2,hs',hb,T'⟩
 · refine⟨d,h',a,s,?_,B,AN.up (by omega) (fun k xs hk hx=>hx),U,O'⟩;simp only[KH,EK,rB,zfH,zfI,if_true,zfJ,zfK,Nat.reduceAdd,Nat.reduceSub,replicate,zfQ,zfP,OA,YA,aG,KA,iA,zxB,zfM,zfL,QA,ND,CD,yA,oA,xA,zfF,zfG,pA,s2,OH,lG,e,aF,BB]
theorem yw{c:Nat}{g:cB}(o:WA c g)(cl:qG c g){gs:List (List JB)}(ok:Fl c gs)(sg:∀x∈gs,x.length<=1000){tag:Option (Nat×Nat)}{bs:List cB}{ps:List (Nat×Nat)}(h:WC c g gs=some (tag,bs,ps)):(∀p∈ps,p.1<c/\p.2<c/\p.1≠p.2)/\ps.length<=1000/\(∀b∈bs,HD c b ps [])/\bs.length<=1000:=by
 cases gs with
 | cons grp gs=>
  simp only[WC,Option.some.injEq,Prod.mk.injEq]at h;obtain⟨Z,rfl,rfl⟩:=h;have gk:=ok grp (by simp);refine⟨fun p hp=>?_,by simp;exact sg grp (by simp),fun b hb=>?_,by simp;exact sg grp (by simp)⟩
  · obtain⟨x,hx,rfl⟩:=mem_map.mp hp;obtain⟨a,b,d,Z⟩:=gk x hx;exact⟨a,b,d⟩
  · obtain⟨k,Z,rfl⟩:=mem_map.mp hb;have:=WW (k:=k) grp gk g 0 [] o (yW cl);rw[zfP]at this;exact this
 | nil=>
  simp only[WC]at h;cases lp:WD c g with
  | none=>rw[lp]at h;cases h
  | some p=>
   rw[lp]at h;simp only[Option.some.injEq,Prod.mk.injEq]at h;obtain⟨Z,rfl,rfl⟩:=h;have hp:p∈LA c:=mem_of_find?_eq_some lp;obtain⟨q1,q2⟩:=Bl.mp hp;refine⟨fun x hx=>?_,by simp,fun b hb=>?_,by have:=uL (g p.1 p.2);simp;omega⟩
   · rw[mem_singleton.mp hx];omega
   · obtain⟨w,Z,rfl⟩:=mem_map.mp hb;have:=ZX o (show p.1<c by omega) (show p.2<c by omega) (by omega) (2^w) (yW cl);rw[zfP]at this;exact this
theorem dL(n:Nat):kG (n+1)=cC 4 9 (dH (kG n)):=rfl
theorem Rf{c m:Nat}{ls:List Ln}(hc1:1<=c)(hc:c<=8)(hl:ls.length<=100)(lok:∀x∈ls,x.1<c):∀n,yU c m ls n:=by
 intro n
 induction n with
 | zero=>intro f gs Tp made b o pd P h K;obtain⟨a,s,q⟩:=K.ex;exact q.elim
 | succ n IH=>
  intro f gs Tp made b o pd P h K;obtain⟨a0,s0,q0⟩:=K.ex;obtain⟨d,h1,e1,x,sr,st,g,rfl,r1,r2,r3,r4,r5,r6,r7⟩:=oW (show c<=100 by omega) K.of K.net (pd:=pd) (P:=P) (fun e=>K.prs.seq e) K.pc K.wt (by have:=K.lp;omega);have U1:Up h h1:=⟨r2,r3⟩;have O1:Mp h1 o ls m made:=K.ob.up U1;rcases r7 with⟨rfl,em⟩ | ⟨bg,rfl,bl,Ng,cl,ne,_⟩
  · refine⟨.tup [.str "clash", .tup [.str "threes", .ref sr]],h1,.clash (.zaf st),made,?_,.inl ⟨st,g,r5,em,rfl,rfl⟩,⟨_,rfl,?_⟩,U1.l,O1⟩
    · rw[dL];have t2:∀x y:Dt,[x,y].length<=sizeLine:=fun Z Z=>by simp[sizeLine]
      simp only[dH,rB,zfH,zfI,if_true,zfJ,zfK,Nat.reduceAdd,Nat.reduceSub,replicate,zfQ,zfP,OA,YA,gB,UA,KA,oA,zfF,zfG,pA,iA,zfW,e1,zfM,zfL,QA,yA,xA,QB,YB,ID,zfN,dB,NA,YH,jJ,wK,VA,yB,IE,FP,aF,BB]
    · show Gp h.length h1 (.zaf st) _;simp only[Gp];exact⟨sr,rfl,r1,r4⟩
  · have EN:zay c f st (jC c g):=⟨g,r5,cl,ne,rfl⟩;obtain⟨okg,clg,neg⟩:=EN.ok K.of;have Ng':=Uy Ng;generalize jC c g=g' at EN okg clg neg Ng';obtain⟨rest,eb⟩:=iz (show c<=100 by omega) (jy okg neg) (show ls.length<=1000 by omega) Ng';obtain⟨h2,hh2⟩:∃h2:HI,h2=h1++.lst ((lD c g' ls).map lA)::rest:=⟨_,rfl⟩
    rw[<- hh2]at eb;have U2:Up h1 h2:=hh2 ▸ Up.app _ _;have hb2:h2[h1.length]?=some (.lst ((lD c g' ls).map lA)):=by rw[hh2];simp
    have O2:=O1.up U2;have nl:=Ng'.len;have u1:=fun(h:HI)=>xE (h:=h) (i:=2) (j:=(c:Int)) (Or.inl ⟨by decide,by decide⟩)
    have g2:(2:Int)*(c:Int)=((2*c:Nat):Int):=by omega
    have fL:=fun(d:Dt)=>nO (x := "Search") (k := "lengths") O1 (C5)
    have t2:∀x y:Dt,[x,y].length<=sizeLine:=fun Z Z=>by simp[sizeLine]
    have t3:∀x y z:Dt,[x,y,z].length<=sizeLine:=fun Z Z Z=>by simp[sizeLine]
    have fl1:=fL .non;rcases vY (n:=2*c) (a:=h1.length) (by omega) (by omega) (lD c g' ls) (MY g' lok) (sY hc g' hl) h2 hb2 with⟨t,h3,sat,fr,et⟩ | ⟨cs,PP,k,r,h3,R,fr,hr,et,rl⟩
    · have U3:Up h2 h3:=R0 fr;have O3:=O2.up U3;obtain⟨h4,U4,es⟩:=Tj ((U2.trans U3).net Ng') okg (show c<=100 by omega) (K.grp.up (U1.trans (U2.trans U3)).l) K.og K.sg;have O4:=O3.up U4;have UU:Up h h4:=U1.trans (U2.trans (U3.trans U4));cases sp:WC c g' gs with
      | none=>rw[sp]at es;have esa:=g9 (c:=c) (by omega) (eB (2*c) t) h4;refine⟨.tup [.str "laid", .lst (UB c (eB (2*c) t))],h4,.laid t,made,?_,.inr ⟨st,g',EN,.inr ⟨t,sat,.inl ⟨sp,rfl,rfl⟩⟩⟩,rfl,UU.l,O4⟩;rw[dL];simp only[dH,rB,zfH,zfI,if_true,zfJ,zfK,Nat.reduceAdd,Nat.reduceSub,replicate,zfQ,zfP,OA,YA,gB,UA,KA,oA,zfF,zfG,pA,iA,zfW,e1,zfM,zfL,QA,yA,xA,QB,YB,ID,zfN,dB,NA,YH,jJ,wK,VA,zfX,if_false,dC,RC,nl,u1,g2,aM,fl1,eb,et,vE,t5,es,yB,IE,esa,FP,aF,BB]
      | some v=>
       obtain⟨tag,bs,ps⟩:=v;rw[sp]at es;obtain⟨Qp,A,es⟩:=es;have fm:=nO (x := "Search") (k := "made") O4 (j0);have fM:=nO (x := "Search") (k := "most") O4 (Cr);have nn:JG (rE tag Qp ps)=false:=by cases tag<;>rfl
       by_cases lm:m<=made
       · refine⟨.tup [.str "open", .non],h4,.opn,made,?_,.inr ⟨st,g',EN,.inr ⟨t,sat,.inr ⟨tag,bs,ps,sp,.inl ⟨lm,rfl,rfl⟩⟩⟩⟩,rfl,UU.l,O4⟩;have dg:decide (((m:Nat):Int)<=((made:Nat):Int))=true:=decide_eq_true (by omega);rw[dL];simp only[dH,rB,zfH,zfI,if_true,zfJ,zfK,Nat.reduceAdd,Nat.reduceSub,replicate,zfQ,zfP,OA,YA,gB,UA,KA,oA,zfF,zfG,pA,iA,zfW,e1,zfM,zfL,QA,yA,xA,QB,YB,ID,zfN,dB,NA,YH,jJ,wK,VA,zfX,if_false,dC,RC,nl,u1,g2,aM,fl1,eb,et,vE,t5,es,nn,fm,fM,DM,dg,yB,IE,FP,aF,BB]
       · have dg:decide (((m:Nat):Int)<=((made:Nat):Int))=false:=decide_eq_false (by omega);have bok:=IJ okg K.og sp;obtain⟨pc,pl,wb,lb⟩:=yw okg clg K.og K.sg sp;obtain⟨h5,hh5⟩:∃h5:HI,h5=h4.set o (.ins "Search" [("lengths", .lst (ls.map xC)),("most", .int (m:Nat)),("made", .int ((made+1:Nat):Int))]):=⟨_,rfl⟩
         have ol:=(zfR O4).1;have O5:Mp h5 o ls m (made+1):=by unfold Mp;rw[hh5,getElem?_set_self ol]
         have U5:Np h4 h5:=hh5 ▸ Np.set O4;have l5:h5.length=h4.length:=by rw[hh5,length_set]
         have sf:=UN (x := "Search") (k := "made") (v:=.int ((made+1:Nat):Int)) (l:=[some (.ref o),some (.ref (b+c)),some pd,some (.lst Tp),some (.tup [.ref (bg+c),.ref sr]),some (.ref (bg+c)),some (.ref sr),some (.tup [.str "times", .lst (BC (2*c) (eB (2*c) t))]),some (rE tag Qp ps)]) O4 (by simp);rw[K6,<- hh5]at sf;have m1:((made:Nat):Int)+1=((made+1:Nat):Int):=by omega
         have hs5:h5[sr]?=some (.lst (st.map cE)):=U5.2 _ _ ((U2.trans (U3.trans U4)).get r4);have qb:∃st0,qE (yC c m ls n) tag st0 gs.tail bs (made+1) [] a0 s0:=by
          rcases q0 with⟨st',g1,k1,k2,_,_⟩ | ⟨st',g1,k1,k⟩
          · have:=EN.Kl K.of k1;rw[k2]at this;cases this
          · have eg:=EN.unique K.of k1;subst eg;rcases k with⟨cs',P',k',R',_,_⟩ | ⟨t',ht',k⟩
            · exact(iT R' sat).elim
            · rcases k with⟨sp',_,_⟩ | ⟨tag',bs',ps',sp',k⟩
              · rw[sp]at sp';cases sp'
              · rw[sp]at sp';cases sp';rcases k with⟨lm',_,_⟩ | ⟨lm',k⟩
                · omega
                · exact⟨_,k⟩
         obtain⟨st0,qb⟩:=qb;obtain⟨d,h',a,s,e6,B,AN,U6,O6⟩:=w5 IH (tag:=tag) (st:=st) (Tp:=Tp.drop 1) (sr:=sr) (lo:=h.length) (hB:=h5) K.og.tail (fun x hx=>K.sg x (mem_of_mem_tail hx)) (Rh (K.grp.up (UU.l.trans U5))) pc pl qb bok wb (A.imp fun Z Z z=>z.up U5) (by omega) O5 hs5 r1 (by have:=UU.1;omega);refine⟨d,h',a,s,?_,.inr ⟨st,g',EN,.inr ⟨t,sat,.inr ⟨tag,bs,ps,sp,.inr ⟨by omega,B⟩⟩⟩⟩,AN,UU.l.trans (U5.trans U6),O6⟩;have mt:=SS (x := "Search") (m := "look_at_branches") (F:=KH (kG n)) (ga:=bA (eV 8) (bA (eV 6) (bA (WP (eV 3) (jM (eC (.int 1))) TV) eA))) (l:=[some (.ref o),some (.ref (b+c)),some pd,some (.lst Tp),some (.tup [.ref (bg+c),.ref sr]),some (.ref (bg+c)),some (.ref sr),some (.tup [.str "times", .lst (BC (2*c) (eB (2*c) t))]),some (rE tag Qp ps)]) O5 Dr;have cf:SG Tp (some 1) none=Tp.drop 1:=Gv Tp 1;have esl:WP (eV 3) (jM (eC (.int 1))) TV [some (.ref o),some (.ref (b+c)),some pd,some (.lst Tp),some (.tup [.ref (bg+c),.ref sr]),some (.ref (bg+c)),some (.ref sr),some (.tup [.str "times", .lst (BC (2*c) (eB (2*c) t))]),some (rE tag Qp ps)] h5=some (.lst (Tp.drop 1),h5):=by simp[cf,OB]
         rw[dL];simp only[dH,rB,zfH,zfI,if_true,zfJ,zfK,Nat.reduceAdd,Nat.reduceSub,replicate,zfQ,zfP,OA,YA,gB,UA,KA,oA,zfF,zfG,pA,iA,zfW,e1,zfM,zfL,QA,yA,xA,QB,YB,ID,zfN,dB,NA,YH,jJ,wK,VA,zfX,if_false,dC,RC,nl,u1,g2,aM,fl1,eb,et,vE,t5,es,nn,fm,fM,DM,dg,D0,nE,m1,sf,yB,PU,mt,esl,e6,BB]
    · have U3:Up h2 h3:=R0 fr;have UU:Up h h3:=U1.trans (U2.trans U3);refine⟨.tup [.str "clash", .tup [.str "ring", .ref sr,.ref r]],h3,.clash (.ring st cs PP k),made,?_,.inr ⟨st,g',EN,.inl ⟨cs,PP,k,R,rfl,rfl⟩⟩,⟨_,rfl,?_⟩,UU.l,O2.up U3⟩
      · rw[dL];simp only[dH,rB,zfH,zfI,if_true,zfJ,zfK,Nat.reduceAdd,Nat.reduceSub,replicate,zfQ,zfP,OA,YA,gB,UA,KA,oA,zfF,zfG,pA,iA,zfW,e1,zfM,zfL,QA,yA,xA,QB,YB,ID,zfN,dB,NA,YH,jJ,wK,VA,zfX,if_false,dC,RC,nl,u1,g2,aM,fl1,eb,et,vE,decide_true,yB,IE,FP,B3,aF,BB]
      · show Gp h.length h3 (.ring st cs PP k) _;simp only[Gp];refine⟨sr,r,rfl,r1,?_,(U2.trans U3).get r4,hr⟩;have:=(U1.trans U2).1;omega
theorem Az{c:Nat}(hc:c<=8){f:cB}(of:WA c f):∃st,(∃g,Steps c f st g/\iC c g=true)\/(∃g,zay c f st g):=by
 have N:=gH [] c f;have hl:=nL c c;have hcc:c*c<=8*8:=Nat.mul_le_mul hc hc;obtain⟨d,h1,e1,x,sr,st,g,rfl,r1,r2,r3,r4,r5,r6,r7⟩:=oW (show c<=100 by omega) of N (pd:=.lst ((LA c).map wA)) (P:=LA c) (fun e=>rfl) (fun p hp=>by
  obtain⟨q1,q2⟩:=Bl.mp hp;omega) (YX c f) (by unfold LA;omega)
 rcases r7 with⟨rfl,em⟩ | ⟨bg,rfl,bl,Ng,cl,ne,_⟩
 · exact⟨st,.inl ⟨g,r5,em⟩⟩
 · exact⟨st,.inr ⟨_,g,r5,cl,ne,rfl⟩⟩
theorem Hj{c m:Nat}{ls:List Ln}(hc1:1<=c)(hc:c<=8)(hl:ls.length<=100)(lok:∀x∈ls,x.1<c):∀(n:Nat)(f:cB)(gs:List (List JB))(made:Nat),WA c f->Fl c gs->made<=m->m+1<=made+n->∃a s,yC c m ls n f gs made a s:=by
 intro n
 induction n with
 | zero=>intro f gs made Z Z h1 h2;omega
 | succ n ih=>
  intro f gs made of og h1 h2;obtain⟨st,⟨g,s,em⟩ | ⟨g,EN⟩⟩:=Az hc of
  · exact⟨_,_,.inl ⟨st,g,s,em,rfl,rfl⟩⟩
  · obtain⟨okg,clg,neg⟩:=EN.ok of;rcases vY (n:=2*c) (a:=0) (by omega) (by omega) (lD c g ls) (MY g lok) (sY hc g hl) [.lst ((lD c g ls).map lA)] rfl with⟨t,h3,sat,fr,et⟩ | ⟨cs,PP,k,r,h3,R,fr,hr,et,rl⟩
    · cases sp:WC c g gs with
      | none=>exact⟨_,_,.inr ⟨st,g,EN,.inr ⟨t,sat,.inl ⟨sp,rfl,rfl⟩⟩⟩⟩
      | some v=>
       obtain⟨tag,bs,ps⟩:=v;by_cases lm:m<=made
       · exact⟨_,_,.inr ⟨st,g,EN,.inr ⟨t,sat,.inr ⟨tag,bs,ps,sp,.inl ⟨lm,rfl,rfl⟩⟩⟩⟩⟩
       · have bok:=IJ okg og sp;have go:∀(bs:List cB),(∀b∈bs,WA c b)->∀(md:Nat)(acc:List Tr),md<=m->m+1<=md+n->∃a s,qE (yC c m ls n) tag st gs.tail bs md acc a s:=by
          intro bs
          induction bs with
          | nil=>intro Z md acc Z Z;exact⟨_,_,rfl,rfl⟩
          | cons b bs ih2=>
           intro hb md acc m1 m2;obtain⟨a,s,q⟩:=ih b gs.tail md (hb b (by simp)) og.tail m1 m2;obtain⟨z1,z2,Z⟩:=FL n b _ md _ _ q;have z3:=z2 m1;cases a with
           | clash tr=>obtain⟨a',s',q'⟩:=ih2 (fun x hx=>hb x (by simp[hx])) s (acc++[tr]) z3 (by omega);exact⟨a',s',.inl ⟨tr,s,q,q'⟩⟩
           | opn=>exact⟨_,_,.inr ⟨(fun z=>by cases z),q⟩⟩
           | laid t=>exact⟨_,_,.inr ⟨(fun z=>by cases z),q⟩⟩
         obtain⟨a,s,q⟩:=go bs bok (made+1) [] (by omega) (by omega);exact⟨a,s,.inr ⟨st,g,EN,.inr ⟨t,sat,.inr ⟨tag,bs,ps,sp,.inr ⟨by omega,q⟩⟩⟩⟩⟩
    · exact⟨_,_,.inr ⟨st,g,EN,.inl ⟨cs,PP,k,R,rfl,rfl⟩⟩⟩
noncomputable def JH:Wd->Dt
 | .opn=>.str "open"
 | .laid=>.str "laid"
 | .clash=>.str "clash"
structure aV(c:Nat)(h:HI)(a:Nat)(fs:List Fact):Prop where
 ds:∃ds,h[a]?=some (.lst ds)/\Gm h ds fs
 ok:∀x∈fs,nF c x
 sg:∀x∈XA fs,x.length<=1000
 len:fs.length<=100
theorem jL:∀fs:List Fact,(DD fs).length<=fs.length
 | []=>zfU _
 | .long x::fs=>by have:=jL fs;simp only[DD,zfH];omega
 | .ways x::fs=>by have:=jL fs;simp only[DD,zfH];omega
 | .one x::fs=>by have:=jL fs;simp only[DD,zfH];omega
theorem tL{c:Nat}:∀fs:List Fact,(∀x∈fs,nF c x)->∀x∈DD fs,x.1<c
 | [],_,x,hx=>nomatch hx
 | .long y::fs,h,x,hx=>by
  simp only[DD,mem_cons]at hx;rcases hx with rfl | hx
  · exact h (.long x) (by simp)
  · exact tL fs (fun z hz=>h z (by simp[hz])) x hx
 | .ways y::fs,h,x,hx=>tL fs (fun z hz=>h z (by simp[hz])) x hx
 | .one y::fs,h,x,hx=>tL fs (fun z hz=>h z (by simp[hz])) x hx
theorem OJ{c:Nat}:∀fs:List Fact,(∀x∈fs,nF c x)->Fl c (XA fs)
 | [],_,x,hx=>nomatch hx
 | .one y::fs,h,x,hx=>by
  simp only[XA,mem_cons]at hx;rcases hx with rfl | hx
  · exact h (.one x) (by simp)
  · exact OJ fs (fun z hz=>h z (by simp[hz])) x hx
 | .ways y::fs,h,x,hx=>OJ fs (fun z hz=>h z (by simp[hz])) x hx
 | .long y::fs,h,x,hx=>OJ fs (fun z hz=>h z (by simp[hz])) x hx
def gP(c m:Nat)(fs:List Fact)(n:Nat)(a:Ans)(s:Nat):Prop:=yC c m (DD fs) n (gD hC fs) (XA fs) 0 a s
theorem Qf {h:HI} (ls:List Ln) (m:Nat):PK [.ref h.length,.lst (ls.map xC),.int (m:Nat)] (h++[.ins "Search" []])=some (.non,h++[.ins "Search" [("lengths", .lst (ls.map xC)),("most", .int (m:Nat)),("made", .int ((0:Nat):Int))]]):=by
 have n1:¬((("lengths" :Str))=(("most" :Str))):=by decide +kernel
 have n2:¬((("lengths" :Str))=(("made" :Str))):=by decide +kernel
 have n3:¬((("most" :Str))=(("made" :Str))):=by decide +kernel
 have p1:jF "lengths" (.lst (ls.map xC)) []=([("lengths", .lst (ls.map xC))]:List (Str×Dt)):=rfl;have p2:jF "most" (.int (m:Nat)) [("lengths", .lst (ls.map xC))]=([("lengths", .lst (ls.map xC)),("most", .int (m:Nat))]:List (Str×Dt)):=by simp only[jF,if_neg n1]
 have p3:jF "made" (.int 0) [("lengths", .lst (ls.map xC)),("most", .int (m:Nat))]=([("lengths", .lst (ls.map xC)),("most", .int (m:Nat)),("made", .int 0)]:List (Str×Dt)):=by simp only[jF,if_neg n2,if_neg n3]
 have s1:=UN (h:=h++[.ins "Search" []]) (n:=h.length) (x := "Search") (k := "lengths") (v:=.lst (ls.map xC)) (l:=[some (.ref h.length),some (.lst (ls.map xC)),some (.int (m:Nat))]) (fs:=[]) (by simp) (by simp);have s2:=UN (h:=h++[.ins "Search" [("lengths", .lst (ls.map xC))]]) (n:=h.length) (x := "Search") (k := "most") (v:=.int (m:Nat)) (l:=[some (.ref h.length),some (.lst (ls.map xC)),some (.int (m:Nat))]) (fs:=[("lengths", .lst (ls.map xC))]) (by simp) (by simp);have s3:=UN (h:=h++[.ins "Search" [("lengths", .lst (ls.map xC)),("most", .int (m:Nat))]]) (n:=h.length) (x := "Search") (k := "made") (v:=.int 0) (l:=[some (.ref h.length),some (.lst (ls.map xC)),some (.int (m:Nat))]) (fs:=[("lengths", .lst (ls.map xC)),("most", .int (m:Nat))]) (by simp) (by simp);rw[p1]at s1;rw[p2]at s2;rw[p3]at s3;have hs:∀x y:Ob,(h++[x]).set h.length y=h++[y]:=fun x y=>by simp
 rw[hs]at s1 s2 s3;simp only[PK,EQ,rB,zfH,zfI,if_true,zfJ,zfK,Nat.reduceAdd,Nat.reduceSub,replicate,zfW,OA,D0,oA,xA,zfF,zfG,pA,iA,s1,QA,s2,s3,Lh];rfl
theorem wX{c m:Nat}(hc1:1<=c)(hc:c<=8){h:HI}{a:Nat}{fs:List Fact}(F:aV c h a fs)(ex:∃A s,gP c m fs 12 A s) :
 ∃A s x h',gP c m fs 12 A s/\DG [.int (c:Nat),.ref a,.int (m:Nat)] h=some (.tup [JH A.wd,x,.int (s:Nat)],h')/\zao h.length h' c A (.tup [JH A.wd,x])/\Np h h':=by
 obtain⟨ds,ha,D⟩:=F.ds;have dl:=D.len;have fl:=F.len;have hz:ds.length<sizeLine:=by rw[dl];simp[sizeLine];omega
 have eL:=S9 ha hz D;obtain⟨h1,hh1⟩:∃h1:HI,h1=h++[.ins "Search" [("lengths", .lst ((DD fs).map xC)),("most", .int (m:Nat)),("made", .int ((0:Nat):Int))]]:=⟨_,rfl⟩
 have ei:=Qf (h:=h) (DD fs) m;rw[<- hh1]at ei;have U1:Up h h1:=hh1 ▸ Up.app _ _;have O1:Mp h1 h.length (DD fs) m 0:=by unfold Mp;rw[hh1];simp
 obtain⟨b,h2,eN,N2,U2⟩:=X9 (show c<=1000 by omega) (U1.get ha) (D.up U1.l) F.ok;have eP:=ZR (show c<=1000 by omega) h2;obtain⟨h3,hh3⟩:∃h3:HI,h3=h2++[.lst ((LA c).map wA)]:=⟨_,rfl⟩
 rw[<- hh3]at eP;have U3:Up h2 h3:=hh3 ▸ Up.app _ _;have UU:Up h h3:=U1.trans (U2.trans U3);obtain⟨Tp,GA,eG⟩:=Z9 (UU.get ha) hz (D.up UU.l);have pl:=nL c c;have hcc:c*c<=8*8:=Nat.mul_le_mul hc hc;obtain⟨d,h',A,s,e,L,AN,U4,O4⟩:=Rf (m:=m) hc1 hc (show(DD fs).length<=100 by have:=jL fs;omega) (tL fs F.ok) 12 (gD hC fs) (XA fs) Tp 0 b h.length (.ref h2.length) (LA c) h3
  ⟨ex,FJ fs F.ok _ (GL c),OJ fs F.ok,F.sg,U3.net N2,GA,.inr ⟨h2.length,rfl,by rw[hh3];simp⟩,(fun p hp=>by obtain⟨q1,q2⟩:=Bl.mp hp;omega),YX c _,by unfold LA;omega,(O1.up U2).up U3⟩
 have lo:h.length<=h3.length:=UU.1;have fm:=nO (x := "Search") (k := "made") O4 (j0);have mt:=SS (h:=h1) (x := "Search") (m := "look") (F:=kG 12) (ga:=bA (zA bL [] (bA (eV 0) (bA (eV 1) eA))) (bA (zA BI [] (bA (eV 0) eA)) (bA (zA cL [] (bA (eV 1) eA)) eA))) (l:=[some (.int (c:Nat)),some (.ref a),some (.int (m:Nat)),some (.ref h.length),none]) O1 iZ;obtain⟨x,hx⟩:∃x,d=.tup [JH A.wd,x]:=by
  cases A with
  | opn=>exact⟨_,AN⟩
  | laid t=>exact⟨_,AN⟩
  | clash tr=>obtain⟨x,e,Z⟩:=AN;exact⟨x,e⟩
 subst hx;refine⟨A,s,x,h',L,?_,AN.up lo (fun k xs hk hx=>hx),(UU.l).trans U4⟩;simp only[DG,pS,rB,zfH,zfI,if_true,zfJ,zfK,Nat.reduceAdd,Nat.reduceSub,replicate,zfQ,zfP,OA,YA,P5,gB,UA,KA,oA,zfF,zfG,pA,iA,zfW,eL,ei,Px,zfM,zfL,QA,PU,mt,eN,eP,eG,e,yB,IE,yA,xA,QB,YB,ID,zfN,aM,fm,B3,BB]
def Yl(c:Nat)(f:cB)(s:Nat->Int×Int):Prop:=∀i<c,∀j<c,i≠j->(f i j).testBit (RB (s i) (s j))=true
theorem Yl.nar{c:Nat}{f:cB}{s:Nat->Int×Int}(ok:∀i,i<c->dD (s i))(h:Yl c f s){i j:Nat}(hi:i<c)(hj:j<c)(hij:i≠j){m:Nat}(hm:m.testBit (RB (s i) (s j))=true):Yl c (KB f i m j) s:=by
 have hw:=LF (ok i hi) (ok j hj);have hb:(f i j&&&m).testBit (RB (s i) (s j))=true:=by rw[zxG,h i hi j hj hij,hm];rfl
 intro a ha b hb' hab;by_cases e1:a=i/\b=j
 · obtain⟨rfl,rfl⟩:=e1;rw[OL f m hij];exact hb
 · by_cases e2:a=j/\b=i
   · obtain⟨rfl,rfl⟩:=e2;rw[PZ,zN (ok b hb') (ok a ha),UE _ (by omega),show 12-(12-RB (s b) (s a))=RB (s b) (s a) by omega];exact hb
   · rw[QH f e1 e2];exact h a ha b hb' hab
theorem Yl.zaR{c:Nat}{f:cB}{s:Nat->Int×Int}(ok:∀i,i<c->dD (s i)){i j m:Nat}(hi:i<c)(hj:j<c)(hij:i≠j)(o:WA c f)(h:Yl c (KB f i m j) s):Yl c f s/\m.testBit (RB (s i) (s j))=true:=by
 have h1:=h i hi j hj hij;rw[OL f m hij,zxG,Bool.and_eq_true]at h1;refine⟨fun a ha b hb hab=>?_,h1.2⟩;by_cases e1:a=i/\b=j
 · obtain⟨rfl,rfl⟩:=e1;exact h1.1
 · by_cases e2:a=j/\b=i
   · obtain⟨rfl,rfl⟩:=e2;have hw:=LF (ok b hb) (ok a ha);rw[o.tn b hb a ha,zN (ok b hb) (ok a ha),UE _ (by omega),show 12-(12-RB (s b) (s a))=RB (s b) (s a) by omega];exact h1.1
   · have:=h a ha b hb hab;rw[QH f e1 e2]at this;exact this
theorem Yl.sub{c:Nat}{f g:cB}{s:Nat->Int×Int}(h:Yl c g s)(q:pM c g f):Yl c f s:=fun i hi j hj hij=>Vm.mp (q i hi j hj) _ (h i hi j hj hij)
theorem Yl.steps{c:Nat}{f g:cB}{st:List (Nat×Nat×Nat)}{s:Nat->Int×Int}(ok:∀i,i<c->dD (s i))(h:Steps c f st g)(q:Yl c f s):Yl c g s:=by
 induction h with
 | nil=>exact q
 | @snoc st g i k j h hi hk hj d ne n ih=>refine Yl.nar ok ih hi hj d.2.2 ?_;unfold Om;rw[zxG,ih i hi j hj d.2.2,Bool.true_and];exact(EL _ _ _).mpr ⟨_,_,LF (ok i hi) (ok k hk),ih i hi k hk d.1,LF (ok k hk) (ok j hj),ih k hk j hj d.2.1,BX (ok i hi) (ok k hk) (ok j hj)⟩
theorem Yl.cut{c:Nat}{f:cB}{s:Nat->Int×Int}(h:Yl c f s):Yl c (jC c f) s:=fun i hi j hj hij=>by rw[FE f hi hj];exact h i hi j hj hij
theorem Yl.zb4{c:Nat}{f:cB}{s:Nat->Int×Int}(h:Yl c (jC c f) s):Yl c f s:=fun i hi j hj hij=>by have:=h i hi j hj hij;rw[FE f hi hj]at this;exact this
theorem Bg(k:Nat):(0:Nat).testBit k=false:=by simp
theorem Yl.ne{c:Nat}{f:cB}{s:Nat->Int×Int}(h:Yl c f s)(d:∀i<c,f i i=64):iC c f=false:=by
 cases z:iC c f with
 | false=>rfl
 | true=>
  obtain⟨i,hi,j,hj,e⟩:=Ul.mp z;by_cases hij:i=j
  · subst hij;rw[d i hi]at e;cases e
  · have:=h i hi j hj hij;rw[e,Bg]at this;cases this
theorem qO{c:Nat}{f:cB}(d:∀i<c,f i i=64){i j:Nat}(hij:i≠j)(m:Nat):∀k<c,KB f i m j k k=64:=fun k hk=>by rw[QH f (fun q=>hij (q.1.symm.trans q.2)) (fun q=>hij (q.2.symm.trans q.1))];exact d k hk
theorem VS{c k:Nat}:∀(ms:List JB)(_:∀m∈ms,kD c m)(f:cB)(p:Nat),(∀i<c,f i i=64)->∀i<c,lE f k ms p i i=64
 | [],_,f,p,d=>d
 | m::ms,h,f,p,d=>VS ms (fun x hx=>h x (by simp[hx])) _ _ (qO d (h m (by simp)).2.2.1 _)
theorem rO{m k:Nat}(hm:m<8192)(hk:k<13):(notM m).testBit k=!m.testBit k:=by
 have:notM m=2^13-(m+1):=by unfold notM;omega
 rw[this,Nat.testBit_two_pow_sub_succ hm];simp[hk]
def dE(s:Nat->Int×Int)(m:JB):Bool:=m.2.1.testBit (RB (s m.1) (s m.2.2))
theorem Yl.only{c k:Nat}{s:Nat->Int×Int}(ok:∀i,i<c->dD (s i)):∀(ms:List JB)(_:∀m∈ms,kD c m)(f:cB)(p:Nat),Yl c f s->(∀(i:Nat) m,ms[i]?=some m->dE s m=decide (p+i=k))->Yl c (lE f k ms p) s
 | [],_,f,p,q,_=>q
 | m::ms,h,f,p,q,H=>by
  obtain⟨a,b,d,e⟩:=h m (by simp);have h0:=H 0 m rfl;refine Yl.only ok ms (fun x hx=>h x (by simp[hx])) _ _ (q.nar ok a b d ?_) (fun i x hx=>?_)
  · unfold dE at h0;by_cases z:p=k
    · rw[if_pos z];rw[decide_eq_true (show p+0=k by omega)]at h0;exact h0
    · rw[if_neg z,rO e (LF (ok _ a) (ok _ b)),h0,decide_eq_false (show ¬p+0=k by omega)];rfl
  · rw[H (i+1) x (by simpa using hx)]
    congr 1
    rw[show p+(i+1)=p+1+i by omega]
theorem Yl.zaY{c k:Nat}{s:Nat->Int×Int}(ok:∀i,i<c->dD (s i)):∀(ms:List JB)(_:∀m∈ms,kD c m)(f:cB)(p:Nat),WA c f->Yl c (lE f k ms p) s->Yl c f s/\∀(i:Nat) m,ms[i]?=some m->dE s m=decide (p+i=k)
 | [],_,f,p,o,q=>⟨q,fun i m h=>by simp at h⟩
 | m::ms,h,f,p,o,q=>by
  obtain⟨a,b,d,e⟩:=h m (by simp);obtain⟨q1,H⟩:=Yl.zaY ok ms (fun x hx=>h x (by simp[hx])) _ _ (nG o a b d _) q;obtain⟨q2,z⟩:=Yl.zaR ok a b d o q1;refine⟨q2,fun i x hx=>?_⟩;cases i with
  | zero=>
   simp at hx;subst hx;unfold dE;by_cases y:p=k
   · rw[if_pos y]at z;rw[z,decide_eq_true (show p+0=k by omega)]
   · rw[if_neg y,rO e (LF (ok _ a) (ok _ b))]at z;rw[decide_eq_false (show ¬p+0=k by omega)];simpa using z
  | succ i=>
   rw[H i x (by simpa using hx)]
   congr 1
   rw[show p+(i+1)=p+1+i by omega]
def WL(s:Nat->Int×Int)(g:List JB):Prop:=∃k,k<g.length/\∀(i:Nat) m,g[i]?=some m->dE s m=decide (i=k)
noncomputable def mJ(s:Nat->Int×Int)(p:Nat):Int:=if p%2=0 then(s (p/2)).1 else(s (p/2)).2
theorem AK(s:Nat->Int×Int)(i:Nat):mJ s (2*i)=(s i).1:=by unfold mJ;rw[if_pos (by omega),show 2*i/2=i by omega]
theorem BK(s:Nat->Int×Int)(i:Nat):mJ s (2*i+1)=(s i).2:=by unfold mJ;rw[if_neg (by omega),show(2*i+1)/2=i by omega]
noncomputable def Alike(T t:Nat->Int)(p q:Nat):Prop:=(T p<T q->t p<t q)/\(T p=T q->t p=t q)/\(T q<T p->t q<t p)
theorem Alike.symm{T t:Nat->Int}{p q:Nat}(h:Alike T t p q):Alike T t q p:=⟨h.2.2,fun e=>(h.2.1 e.symm).symm,h.1⟩
noncomputable def fP(c:Nat)(s:Nat->Int×Int)(x:Ln):Prop:=x.1<c/\x.2.1<=(s x.1).2-(s x.1).1/\(s x.1).2-(s x.1).1<=x.2.2
theorem eU{g x y:Int}(hg:1<=g)(h:x<y):g*x-g*y<=-1:=by rw[<- Int.mul_sub];have h1:g*(x-y)<=g*(-1):=Int.mul_le_mul_of_nonneg_left (by omega) (by omega);omega
theorem kZ{g x y:Int}(hg:1<=g)(h:x<=y):g*x-g*y<=0:=by rw[<- Int.mul_sub];have h1:g*(x-y)<=g*0:=Int.mul_le_mul_of_nonneg_left (by omega) (by omega);omega
theorem dY{g:Int}(hg:1<=g){T:Nat->Int}{p q:Nat}{a mx mn z:Int}(z1:z<=mx)(z2:mn<=z)(lt:z<a->T p<T q)(eq:z=a->T p=T q)(gt:a<z->T q<T p):∀e∈LG p q a mx mn,g*T e.1-g*T e.2.1<=e.2.2:=by
 intro e he;unfold LG at he;rcases mem_append.mp he with he | he
 · by_cases c1:mx<=a
   · rw[if_pos c1]at he;rw[mem_singleton.mp he];by_cases c2:mx<a
     · rw[if_pos c2];exact eU hg (lt (by omega))
     · rw[if_neg c2];refine kZ hg (x:=T p) (y:=T q) ?_;rcases Int.lt_trichotomy z a with y | y | y
       · have:=lt y;omega
       · have:=eq y;omega
       · omega
   · rw[if_neg c1]at he;exact nomatch he
 · by_cases c1:a<=mn
   · rw[if_pos c1]at he;rw[mem_singleton.mp he];by_cases c2:a<mn
     · rw[if_pos c2];exact eU hg (gt (by omega))
     · rw[if_neg c2];refine kZ hg (x:=T q) (y:=T p) ?_;rcases Int.lt_trichotomy z a with y | y | y
       · omega
       · have:=eq y;omega
       · have:=gt y;omega
   · rw[if_neg c1]at he;exact nomatch he
theorem k7:∀p∈Ml,pz (Ml.idxOf p)=p:=by decide +kernel
theorem l7{s o:Int×Int}(h1:dD s)(h2:dD o):pz (RB s o)=(CC s.1 o.1 o.2,CC s.2 o.1 o.2):=k7 _ (RN h1 h2)
theorem Yw{s o:Int×Int}(h1:dD s)(h2:dD o){m:Nat}(hm:m.testBit (RB s o)=true)(side:Nat)(hs:side<2):((CC (if side=0 then s.1 else s.2) o.1 o.2:Nat):Int)∈aC side m:=by unfold aC;refine mem_map.mpr ⟨RB s o,Um.mpr ⟨LF h1 h2,hm⟩,?_⟩;unfold zs;rw[l7 h1 h2];rcases(show side=0\/side=1 by omega)with rfl | rfl<;>rfl
theorem QX{c:Nat}{g:cB}{s:Nat->Int×Int}(ok:∀i,i<c->dD (s i))(q:Yl c g s){G:Int}(hG:1<=G){i j side:Nat}(hi:i<c)(hj:j<c)(hij:i≠j)(hs:side<2):∀e∈qF i j side (g i j),G*mJ s e.1-G*mJ s e.2.1<=e.2.2:=by
 have mem:=Yw (ok i hi) (ok j hj) (q i hi j hj hij) side hs;have ne:aC side (g i j) ≠ []:=fun z=>by rw[z]at mem;cases mem
 have mx:=(OS _ ne).2 _ mem;have mn:=(fH _ ne).2 _ mem;have pt:mJ s (2*i+side)=(if side=0 then(s i).1 else(s i).2):=by
  rcases(show side=0\/side=1 by omega)with rfl | rfl
  · rw[Nat.add_zero,AK];rfl
  · rw[BK];rfl
 have okj:(s j).1<(s j).2:=ok j hj;intro e he;unfold qF at he;have zc:=Jq (if side=0 then(s i).1 else(s i).2) (s j).1 (s j).2 okj;rcases mem_append.mp he with he | he
 · refine dY hG mx mn ?_ ?_ ?_ e he<;>rw[pt,AK]<;>intro z<;>rcases zc with⟨y,w⟩ | ⟨y,w⟩ | ⟨y,y',w⟩ | ⟨y,w⟩ | ⟨y,w⟩<;>rw[w]at z<;>omega
 · refine dY hG mx mn ?_ ?_ ?_ e he<;>rw[pt,BK]<;>intro z<;>rcases zc with⟨y,w⟩ | ⟨y,w⟩ | ⟨y,y',w⟩ | ⟨y,w⟩ | ⟨y,w⟩<;>rw[w]at z<;>omega
theorem mZ{c:Nat}{g:cB}{s:Nat->Int×Int}(ok:∀i,i<c->dD (s i))(q:Yl c g s){ls:List Ln}(hl:∀x∈ls,fP c s x):∀e∈lD c g ls,((2*c+1:Nat):Int)*mJ s e.1-((2*c+1:Nat):Int)*mJ s e.2.1<=e.2.2:=by
 intro e he;unfold lD at he;have hg:(1:Int)<=((2*c+1:Nat):Int):=by omega
 generalize 2*c+1=G at he hg;rcases mem_append.mp he with he | he
 · rcases mem_append.mp he with he | he
   · obtain⟨i,hi,rfl⟩:=mem_map.mp he;simp only[AK,BK];exact eU hg (ok i (mem_range.mp hi))
   · obtain⟨x,hx,he⟩:=mem_flatMap.mp he;obtain⟨h1,h2,h3⟩:=hl x hx;unfold VC at he;have a1:(G:Int)*((s x.1).1-(s x.1).2)<=G*(-x.2.1):=Int.mul_le_mul_of_nonneg_left (by omega) (by omega);have a2:(G:Int)*((s x.1).2-(s x.1).1)<=G*x.2.2:=Int.mul_le_mul_of_nonneg_left (by omega) (by omega);simp only[mem_cons,not_mem_nil,or_false]at he;rcases he with rfl | rfl
     · simp only[AK,BK];rw[<- Int.mul_sub,Int.mul_comm (-x.2.1)];exact a1
     · simp only[AK,BK];rw[<- Int.mul_sub,Int.mul_comm x.2.2];exact a2
 · obtain⟨p,hp,he⟩:=mem_flatMap.mp he;obtain⟨p1,p2⟩:=cY hp;unfold LC at he;rcases mem_append.mp he with he | he
   · exact QX ok q hg (by omega) p2 (by omega) (by omega) e he
   · exact QX ok q hg (by omega) p2 (by omega) (by omega) e he
theorem NS{c m:Nat}{ls:List Ln}{s:Nat->Int×Int}(ok:∀i,i<c->dD (s i))(hl:∀x∈ls,fP c s x):∀(n:Nat)(f:cB)(gs:List (List JB))(made:Nat)(a:Ans)(sp:Nat),yC c m ls n f gs made a sp->WA c f->Fl c gs->(∀i<c,f i i=64)->Yl c f s->(∀g∈gs,WL s g)->a.wd≠.clash
 | 0,_,_,_,_,_,h,_,_,_,_,_=>h.elim
 | n+1,f,gs,made,a,sp,h,of,og,dg,q,hg=>by
  rcases h with⟨st,g,h1,h2,rfl,rfl⟩ | ⟨st,g,EN,h⟩
  · have:=(q.steps ok h1).ne (h1.diag dg);rw[h2]at this;cases this
  · obtain⟨okg,clg,neg⟩:=EN.ok of;obtain⟨g0,s0,Z,Z,rfl⟩:=EN;have qg:Yl c (jC c g0) s:=(q.steps ok s0).cut;have dg':∀i<c,jC c g0 i i=64:=fun i hi=>by rw[FE g0 hi hi];exact s0.diag dg i hi
    generalize jC c g0=g at okg clg neg qg dg' h;rcases h with⟨cs,P,k,R,rfl,rfl⟩ | ⟨t,ht,h⟩
    · exact(sZ (b:=fun p=>((2*c+1:Nat):Int)*mJ s p) (mZ ok qg hl) R).elim
    · rcases h with⟨_,rfl,rfl⟩ | ⟨tag,bs,ps,hs,h⟩
      · intro z;cases z
      · rcases h with⟨_,rfl,rfl⟩ | ⟨_,h⟩
        · intro z;cases z
        · have bok:=IJ okg og hs;have ex:∃b∈bs,Yl c b s:=by
           cases gs with
           | cons grp gs=>simp only[WC,Option.some.injEq,Prod.mk.injEq]at hs;obtain⟨Z,rfl,Z⟩:=hs;obtain⟨k,kl,H⟩:=hg grp (by simp);exact⟨_,mem_map.mpr ⟨k,mem_range.mpr kl,rfl⟩,Yl.only ok grp (og grp (by simp)) g 0 qg (fun i x hx=>by rw[H i x hx,zxI])⟩
           | nil=>
            simp only[WC]at hs;cases lp:WD c g with
            | none=>rw[lp]at hs;cases hs
            | some p=>
             rw[lp]at hs;simp only[Option.some.injEq,Prod.mk.injEq]at hs;obtain⟨Z,rfl,Z⟩:=hs;obtain⟨q1,q2⟩:=Bl.mp (mem_of_find?_eq_some lp);have p1:p.1<c:=by omega
             have p2:p.2<c:=by omega
             have hb:=qg p.1 p1 p.2 p2 (by omega);have wl:=LF (ok _ p1) (ok _ p2);exact⟨_,mem_map.mpr ⟨_,Um.mpr ⟨wl,hb⟩,rfl⟩,qg.nar ok p1 p2 (by omega) (by rw[zxH];simp)⟩
          have dgb:∀b∈bs,∀i<c,b i i=64:=by
           cases gs with
           | cons grp gs=>simp only[WC,Option.some.injEq,Prod.mk.injEq]at hs;obtain⟨Z,rfl,Z⟩:=hs;intro b hb;obtain⟨k,Z,rfl⟩:=mem_map.mp hb;exact VS grp (og grp (by simp)) g 0 dg'
           | nil=>
            simp only[WC]at hs;cases lp:WD c g with
            | none=>rw[lp]at hs;cases hs
            | some p=>rw[lp]at hs;simp only[Option.some.injEq,Prod.mk.injEq]at hs;obtain⟨Z,rfl,Z⟩:=hs;obtain⟨q1,q2⟩:=Bl.mp (mem_of_find?_eq_some lp);intro b hb;obtain⟨w,Z,rfl⟩:=mem_map.mp hb;exact qO dg' (by omega) _
          have go:∀(bs:List cB),(∀b∈bs,WA c b)->(∀b∈bs,∀i<c,b i i=64)->(∃b∈bs,Yl c b s)->∀(md:Nat)(acc:List Tr)(a:Ans)(sp:Nat),qE (yC c m ls n) tag st gs.tail bs md acc a sp->a.wd≠.clash:=by
           intro bs
           induction bs with
           | nil=>rintro _ _ ⟨b,hb,_⟩;cases hb
           | cons b bs ih=>
            rintro h1 h2 ⟨b',hb',qb⟩ md acc a sp q;rcases q with⟨tr,m1,q1,q2⟩ | ⟨q1,q2⟩
            · rcases mem_cons.mp hb' with rfl | hb'
              · exact absurd rfl (NS ok hl n b' _ md _ _ q1 (h1 b' (by simp)) og.tail (h2 b' (by simp)) qb (fun x hx=>hg x (mem_of_mem_tail hx)))
              · exact ih (fun x hx=>h1 x (by simp[hx])) (fun x hx=>h2 x (by simp[hx])) ⟨b',hb',qb⟩ _ _ _ _ q2
            · exact q1
          exact go bs bok dgb ex _ _ _ _ h
def UV(p j:Nat)(z:Int):List Bd:=LG p (2*j) 1 z z++LG p (2*j+1) 3 z z
theorem zZ{t:Nat->Int}{p j z:Nat}(hz:z<5)(hj:t (2*j)<t (2*j+1))(h:∀e∈UV p j (z:Int),uF t e):CC (t p) (t (2*j)) (t (2*j+1))=z:=by
 rcases(show z=0\/z=1\/z=2\/z=3\/z=4 by omega)with rfl | rfl | rfl | rfl | rfl<;>simp[UV,LG,uF]at h<;>unfold CC
 · rw[if_pos (by omega)]
 · rw[if_neg (by omega),if_pos (by omega)]
 · rw[if_neg (by omega),if_neg (by omega),if_pos (by omega)]
 · rw[if_neg (by omega),if_neg (by omega),if_neg (by omega),if_pos (by omega)]
 · rw[if_neg (by omega),if_neg (by omega),if_neg (by omega),if_neg (by omega)]
theorem x8:∀w<13,(pz w).1<5/\(pz w).2<5/\Ml.idxOf (pz w)=w:=by decide +kernel
theorem sT:∀w:Nat,w<13->JA (2^w)=[w]:=by decide +kernel
theorem uw{i j side w:Nat}(hw:w<13)(hs:side<2):qF i j side (2^w)=UV (2*i+side) j ((if side=0 then(pz w).1 else(pz w).2:Nat):Int):=by unfold qF UV aC;rw[sT w hw];rcases(show side=0\/side=1 by omega)with rfl | rfl<;>rfl
theorem lU{m:Nat}(hm:m<8192)(h0:m≠0)(h1:¬1<(JA m).length):∃w,w<13/\m=2^w:=by
 have ne:=YT hm h0;obtain⟨w,hw⟩:∃w,JA m=[w]:=by
  cases e:JA m with
  | nil=>exact absurd e ne
  | cons w r=>
   cases r with
   | nil=>exact⟨w,rfl⟩
   | cons x r=>rw[e]at h1;simp at h1
 have wm:w∈JA m:=by rw[hw];simp
 obtain⟨w13,wb⟩:=Um.mp wm;refine⟨w,w13,lH hm (zd8 w13) fun k hk=>?_⟩;rw[zxH];by_cases z:w=k
 · subst z;rw[wb];simp
 · rw[decide_eq_false z];cases b:m.testBit k with
   | false=>rfl
   | true=>have:k∈JA m:=Um.mpr ⟨hk,b⟩;rw[hw]at this;exact absurd (mem_singleton.mp this).symm z
where zd8 {w:Nat} (h:w<13):2^w<8192:=Nat.pow_lt_pow_right (by decide) h (m:=w) (n:=13)
noncomputable def mB(t:Nat->Int)(k:Nat):Int×Int:=(t (2*k),t (2*k+1))
theorem pU{c:Nat}{g:cB}{ls:List Ln}{t:Nat->Int}(ht:∀e∈lD c g ls,uF t e):∀i,i<c->dD (mB t i):=by intro i hi;have h:=ht (2*i,2*i+1,-1) (mem_append.mpr (.inl (mem_append.mpr (.inl (mem_map.mpr ⟨i,mem_range.mpr hi,rfl⟩)))));simp only[uF]at h;show t (2*i)<t (2*i+1);omega
theorem CO{c:Nat}{g:cB}(og:WA c g)(ne:iC c g=false)(lp:WD c g=none){ls:List Ln}{t:Nat->Int}(ht:∀e∈lD c g ls,uF t e):Yl c g (mB t):=by
 have ok:=pU ht;have up:∀i j,i<j->j<c->g i j=2^RB (mB t i) (mB t j):=by
  intro i j hij hj;have hi:i<c:=by omega
  have hp:=qx hij hj;have nl:¬1<(JA (g i j)).length:=by have:=find?_eq_none.mp lp (i,j) hp;simpa using this
  obtain⟨w,hw,e⟩:=lU (og.lt i hi j hj) (Kl ne hi hj) nl;obtain⟨z1,z2,zi⟩:=x8 w hw;have sd:∀side,side<2->∀x∈UV (2*i+side) j ((if side=0 then(pz w).1 else(pz w).2:Nat):Int),uF t x:=by
   intro side hs x hx;rw[<- uw (i:=i) hw hs,<- e]at hx;refine ht x (mem_append.mpr (.inr (mem_flatMap.mpr ⟨(i,j),hp,?_⟩)));unfold LC;rcases(show side=0\/side=1 by omega)with rfl | rfl
   · exact mem_append.mpr (.inl hx)
   · exact mem_append.mpr (.inr hx)
  have a1:=zZ (p:=2*i) z1 (ok j hj) (sd 0 (by omega));have a2:=zZ (p:=2*i+1) z2 (ok j hj) (sd 1 (by omega));have:RB (mB t i) (mB t j)=w:=by unfold RB mB;simp only;rw[a1,a2];exact zi
  rw[this];exact e
 intro i hi j hj hij;rcases Nat.lt_or_gt_of_ne hij with z | z
 · rw[up i j z hj,zxH];simp
 · have hw:=LF (ok j hj) (ok i hi);rw[og.tn j hj i hi,up j i z hi,zN (ok j hj) (ok i hi),vg hw,zxH];simp
theorem Et{c:Nat}{g:cB}{ls:List Ln}{t:Nat->Int}(ht:∀e∈lD c g ls,uF t e){x:Ln}(hx:x∈ls):x.2.1*((2*c+1:Nat):Int)<=t (2*x.1+1)-t (2*x.1)/\t (2*x.1+1)-t (2*x.1)<=x.2.2*((2*c+1:Nat):Int):=by have h1:=ht (2*x.1,2*x.1+1,-x.2.1*((2*c+1:Nat):Int)) (mem_append.mpr (.inl (mem_append.mpr (.inr (mem_flatMap.mpr ⟨x,hx,by simp[VC]⟩)))));have h2:=ht (2*x.1+1,2*x.1,x.2.2*((2*c+1:Nat):Int)) (mem_append.mpr (.inl (mem_append.mpr (.inr (mem_flatMap.mpr ⟨x,hx,by simp[VC]⟩)))));simp only[uF,Int.neg_mul]at h1 h2;omega
structure KP(c:Nat)(ls:List Ln)(f:cB)(gs:List (List JB))(t:Nat->Int):Prop where
 ok:∀i,i<c->dD (mB t i)
 net:Yl c f (mB t)
 one:∀g∈gs,WL (mB t) g
 len:∀x∈ls,x.2.1*((2*c+1:Nat):Int)<=t (2*x.1+1)-t (2*x.1)/\t (2*x.1+1)-t (2*x.1)<=x.2.2*((2*c+1:Nat):Int)
theorem iX{c m:Nat}{ls:List Ln}:∀(n:Nat)(f:cB)(gs:List (List JB))(made:Nat)(t:Nat->Int)(sp:Nat),yC c m ls n f gs made (.laid t) sp->WA c f->Fl c gs->KP c ls f gs t
 | 0,_,_,_,_,_,h,_,_=>h.elim
 | n+1,f,gs,made,t,sp,h,of,og=>by
  rcases h with⟨st,g,h1,h2,h3,_⟩ | ⟨st,g,EN,h⟩
  · cases h3
  · obtain⟨okg,clg,neg⟩:=EN.ok of;obtain⟨g0,s0,Z,Z,rfl⟩:=EN;have sub:∀{s:Nat->Int×Int},Yl c (jC c g0) s->Yl c f s:=fun q=>q.zb4.sub (s0.sub of)
    generalize jC c g0=g at okg clg neg sub h;rcases h with⟨cs,P,k,R,h3,_⟩ | ⟨t',ht,h⟩
    · cases h3
    · rcases h with⟨hs,h3,_⟩ | ⟨tag,bs,ps,hs,h⟩
      · cases h3;cases gs with
        | cons grp gs=>simp only[WC]at hs;cases hs
        | nil=>
         have lp:WD c g=none:=by
          simp only[WC]at hs;cases lp:WD c g with
          | none=>rfl
          | some p=>rw[lp]at hs;cases hs
         exact⟨pU ht,sub (CO okg neg lp ht),(fun g hg=>nomatch hg),fun x hx=>Et ht hx⟩
      · rcases h with⟨_,h3,_⟩ | ⟨_,h⟩
        · cases h3
        · have bok:=IJ okg og hs;have go:∀(bs:List cB),(∀b∈bs,WA c b)->∀(md:Nat)(acc:List Tr)(sp:Nat),qE (yC c m ls n) tag st gs.tail bs md acc (.laid t) sp->∃b∈bs,KP c ls b gs.tail t:=by
           intro bs
           induction bs with
           | nil=>rintro _ md acc sp ⟨q,_⟩;cases q
           | cons b bs ih=>
            intro h1 md acc sp q;rcases q with⟨tr,m1,q1,q2⟩ | ⟨q1,q2⟩
            · obtain⟨b',hb',k⟩:=ih (fun x hx=>h1 x (by simp[hx])) _ _ _ q2;exact⟨b',by simp[hb'],k⟩
            · exact⟨b,by simp,iX n b _ md _ _ q2 (h1 b (by simp)) og.tail⟩
          obtain⟨b,hb,K⟩:=go bs bok _ _ _ h;cases gs with
          | cons grp gs=>
           simp only[WC,Option.some.injEq,Prod.mk.injEq]at hs;obtain⟨Z,rfl,Z⟩:=hs;obtain⟨k,kl,rfl⟩:=mem_map.mp hb;obtain⟨q1,H⟩:=Yl.zaY K.ok grp (og grp (by simp)) g 0 okg K.net;refine⟨K.ok,sub q1,fun x hx=>?_,K.len⟩;rcases mem_cons.mp hx with rfl | hx
           · exact⟨k,mem_range.mp kl,fun i m hm=>by rw[H i m hm,zxI]⟩
           · exact K.one x hx
          | nil=>
           simp only[WC]at hs;cases lp:WD c g with
           | none=>rw[lp]at hs;cases hs
           | some p=>rw[lp]at hs;simp only[Option.some.injEq,Prod.mk.injEq]at hs;obtain⟨Z,rfl,Z⟩:=hs;obtain⟨w,Z,rfl⟩:=mem_map.mp hb;obtain⟨q1,q2⟩:=Bl.mp (mem_of_find?_eq_some lp);obtain⟨q3,Z⟩:=Yl.zaR K.ok (by omega) (by omega) (by omega) okg K.net;exact⟨K.ok,sub q3,(fun g hg=>nomatch hg),K.len⟩
def sM(m:JB):Nat:=if m.1=0 then m.2.1 else Dl m.2.1
def mC(M k:Nat):List JB->Nat->Nat
 | [],_=>M
 | m::ms,p=>mC (M&&&(if p=k then sM m else notM (sM m))) k ms (p+1)
theorem ug{m:Nat}(hm:m<8192):Dl (notM m)=notM (Dl m):=by
 refine lH (oH _) (tZ _) fun k hk=>?_
 rw[UE _ hk,rO hm (by omega),rO (oH _) hk,UE _ hk]
noncomputable def BV(m:JB):Prop:=(m.1=0/\m.2.2=1)\/(m.1=1/\m.2.2=0)
theorem QV{f:cB}(o:WA 2 f){m:JB}(h:BV m)(hm:kD 2 m)(x:Nat)(hx:x<8192):KB f m.1 x m.2.2 0 1=f 0 1&&&(if m.1=0 then x else Dl x):=by
 rcases h with⟨a,b⟩ | ⟨a,b⟩
 · rw[a,b,OL f x (by decide),if_pos rfl]
 · rw[a,b,PZ,qT,if_neg (by decide)];rw[o.tn 0 (by decide) 1 (by decide),XN (o.lt 0 (by decide) 1 (by decide))]
theorem Q1{k:Nat}:∀(ms:List JB)(_:∀m∈ms,kD 2 m)(_:∀m∈ms,BV m)(f:cB)(p:Nat),WA 2 f->lE f k ms p 0 1=mC (f 0 1) k ms p
 | [],_,_,f,p,_=>rfl
 | m::ms,h,ht,f,p,o=>by
  obtain⟨a,b,d,e⟩:=h m (by simp);show lE (KB f m.1 (if p=k then m.2.1 else notM m.2.1) m.2.2) k ms (p+1) 0 1=mC (f 0 1&&&(if p=k then sM m else notM (sM m))) k ms (p+1);rw[Q1 ms (fun x hx=>h x (by simp[hx])) (fun x hx=>ht x (by simp[hx])) _ _ (nG o a b d _)]
  congr 1
  rw[QV o (ht m (by simp)) (h m (by simp)) _ (by split;exact e;exact tZ _)]
  congr 1
  unfold sM;by_cases z:p=k
  · rw[if_pos z,if_pos z]
  · rw[if_neg z,if_neg z];by_cases y:m.1=0
    · rw[if_pos y,if_pos y]
    · rw[if_neg y,if_neg y,ug e]
def bG:List (List JB)->Nat->Option Nat
 | [],M=>if M=0 then none else some M
 | grp::gs,M=>if M=0 then none else(range grp.length).findSome? fun k=>bG gs (mC M k grp 0)
noncomputable def dG:List (List JB)->Nat
 | []=>1
 | grp::gs=>1+grp.length*dG gs
theorem ET(f:cB):qG 2 f:=fun i hi k hk j hj d=>((by decide:∀i<2,∀k<2,∀j<2,¬(i≠k/\k≠j/\i≠j)) i hi k hk j hj d).elim
theorem JL{f:cB}(o:WA 2 f)(d:∀i<2,f i i=64):iC 2 f=decide (f 0 1=0):=by
 by_cases z:f 0 1=0
 · rw[decide_eq_true z];exact Ul.mpr ⟨0,by decide,1,by decide,z⟩
 · rw[decide_eq_false z];cases y:iC 2 f with
   | false=>rfl
   | true=>
    obtain⟨i,hi,j,hj,e⟩:=Ul.mp y;exfalso;have d0:=d 0 (by decide);have d1:=d 1 (by decide);rcases(show i=0\/i=1 by omega)with rfl | rfl<;>rcases(show j=0\/j=1 by omega)with rfl | rfl
    · rw[d0]at e;cases e
    · exact z e
    · rw[o.tn 0 (by decide) 1 (by decide)]at e;exact dZ (o.lt 0 (by decide) 1 (by decide)) z e
    · rw[d1]at e;cases e
def bM(w:Nat):Int×Int:=([0,10,15,30,40].getD (pz w).1 0,[5,10,20,30,45].getD (pz w).2 0)
theorem qw:∀w<13,dD (bM w)/\RB (bM w) (10,30)=w:=by unfold dD;decide +kernel
theorem VU{f:cB}(o:WA 2 f)(h0:f 0 1≠0):∃t,∀e∈lD 2 f [],uF t e:=by
 obtain⟨w,hw⟩:∃w,w∈JA (f 0 1):=exists_mem_of_ne_nil _ (YT (o.lt 0 (by decide) 1 (by decide)) h0)
 obtain⟨w13,wb⟩:=Um.mp hw;obtain⟨s1,s2⟩:=qw w w13
 let s:Nat->Int×Int:=fun k=>if k=0 then bM w else(10,30)
 have ok:∀i,i<2->dD (s i):=fun i hi=>by
  rcases(show i=0\/i=1 by omega)with rfl | rfl
  · exact s1
  · show(10:Int)<30;decide
 have q:Yl 2 f s:=by
  intro i hi j hj hij;rcases(show i=0\/i=1 by omega)with rfl | rfl<;>rcases(show j=0\/j=1 by omega)with rfl | rfl
  · exact absurd rfl hij
  · show(f 0 1).testBit (RB (bM w) (10,30))=true;rw[s2];exact wb
  · show(f 1 0).testBit (RB (10,30) (bM w))=true;rw[zN s1 (show dD (10,30)from by show(10:Int)<30;decide),s2,o.tn 0 (by decide) 1 (by decide),UE _ (by omega),show 12-(12-w)=w by omega];exact wb
  · exact absurd rfl hij
 exact⟨fun p=>((2*2+1:Nat):Int)*mJ s p,fun e he=>by
  have:=mZ ok q (ls:=[]) (fun Z h=>nomatch h) e he;show((2*2+1:Nat):Int)*mJ s e.1<=((2*2+1:Nat):Int)*mJ s e.2.1+e.2.2;omega⟩
theorem IU(g:cB):WD 2 g=if 1<(JA (g 0 1)).length then some (0,1)else none:=by
 unfold WD;have:LA 2=[(0,1)]:=by decide
 rw[this];by_cases z:1<(JA (g 0 1)).length
 · simp[z]
 · simp[z]
theorem V7(m:Nat):∀(gs:List (List JB))(_:Fl 2 gs)(_:∀g∈gs,∀x∈g,BV x)(n:Nat)(f:cB)(made:Nat),gs.length+2<=n->WA 2 f->(∀i<2,f i i=64)->made+dG gs<=m->
 ∃a s,yC 2 m [] n f gs made a s/\s<=made+dG gs/\((a.wd=.clash/\bG gs (f 0 1)=none)\/∃t L w,a=.laid t/\bG gs (f 0 1)=some L/\(JA L).head?=some w/\RB (mB t 0) (mB t 1)=w):=by
 have leaf:∀(n:Nat)(f:cB)(made w:Nat),1<=n->WA 2 f->(∀i<2,f i i=64)->w<13->f 0 1=2^w->∃t,yC 2 m [] n f [] made (.laid t) made/\RB (mB t 0) (mB t 1)=w:=by
  intro n f made w hn o d hw e;obtain⟨n,rfl⟩:∃k,n=k+1:=⟨n-1,by omega⟩
  have h0:f 0 1≠0:=by rw[e];exact Nat.ne_of_gt (Nat.two_pow_pos w)
  have ne:iC 2 f=false:=by rw[JL o d,decide_eq_false h0]
  have oc:=KO o;have e':jC 2 f 0 1=2^w:=by rw[FE f (by decide) (by decide)];exact e
  obtain⟨t,ht⟩:=VU oc (by rw[e',<- e];exact h0);have lp:WD 2 (jC 2 f)=none:=by rw[IU,e',sT w hw];rfl
  refine⟨t,.inr ⟨[],jC 2 f,⟨f,.nil,ET f,ne,rfl⟩,.inr ⟨t,ht,.inl ⟨by simp only[WC,lp],rfl,rfl⟩⟩⟩,?_⟩;have q:=CO oc (by rw[tX];exact ne) lp ht 0 (by decide) 1 (by decide) (by decide);rw[e',zxH]at q;exact(of_decide_eq_true q).symm
 intro gs
 induction gs with
 | nil=>
  intro Z Z n f made hn o d hm;simp only[dG]at hm ⊢;obtain⟨n,rfl⟩:∃k,n=k+1:=⟨n-1,by simp at hn;omega⟩
  by_cases h0:f 0 1=0
  · refine⟨.clash (.zaf []),made,.inl ⟨[],f,.nil,by rw[JL o d,decide_eq_true h0],rfl,rfl⟩,by omega,.inl ⟨rfl,by simp[bG,h0]⟩⟩
  · have ne:iC 2 f=false:=by rw[JL o d,decide_eq_false h0]
    have dd:bG [] (f 0 1)=some (f 0 1):=by simp[bG,h0]
    have lt:=o.lt 0 (by decide) 1 (by decide);by_cases z:1<(JA (f 0 1)).length
    · have oc:=KO o;have e':jC 2 f 0 1=f 0 1:=FE f (by decide) (by decide);have dc:∀i<2,jC 2 f i i=64:=fun i hi=>by rw[FE f hi hi];exact d i hi
      obtain⟨t0,ht0⟩:=VU oc (by rw[e'];exact h0);have lp:WD 2 (jC 2 f)=some (0,1):=by rw[IU,e',if_pos z]
      obtain⟨w,ws,ew⟩:∃w ws,JA (f 0 1)=w::ws:=by
       cases q:JA (f 0 1)with
       | nil=>rw[q]at z;simp at z
       | cons w ws=>exact⟨w,ws,rfl⟩
      have wm:w∈JA (f 0 1):=by rw[ew];simp
      obtain⟨w13,wb⟩:=Um.mp wm;have nv:KB (jC 2 f) 0 (2^w) 1 0 1=2^w:=by
       rw[OL _ _ (by decide),e'];refine lH (zxF Nat.and_le_left lt) (Nat.pow_lt_pow_right (by decide) w13 (m:=w) (n:=13)) fun k hk=>?_
       rw[zxG,zxH];by_cases y:w=k
       · subst y;rw[wb];rfl
       · rw[decide_eq_false y,Bool.and_false]
      obtain⟨t,L,ht⟩:=leaf n (KB (jC 2 f) 0 (2^w) 1) (made+1) w (by simp at hn;omega) (nG oc (by decide) (by decide) (by decide) _) (qO dc (by decide) _) w13 nv;refine⟨.laid t,made+1,.inr ⟨[],jC 2 f,⟨f,.nil,ET f,ne,rfl⟩,.inr ⟨t0,ht0,.inr ⟨some (0,1),_,_,by simp only[WC,lp];rfl,.inr ⟨by omega,?_⟩⟩⟩⟩,by omega,.inr ⟨t,f 0 1,w,rfl,dd,by rw[ew];rfl,ht⟩⟩;rw[e',ew];exact .inr ⟨(fun y=>by cases y),L⟩
    · obtain⟨w,hw,e⟩:=lU lt h0 z;obtain⟨t,L,ht⟩:=leaf (n+1) f made w (by omega) o d hw e;exact⟨.laid t,made,L,by omega,.inr ⟨t,f 0 1,w,rfl,dd,by rw[e,sT w hw];rfl,ht⟩⟩
 | cons grp gs ih=>
  intro og ht n f made hn o d hm;obtain⟨n,rfl⟩:∃k,n=k+1:=⟨n-1,by simp at hn;omega⟩
  simp only[zfH]at hn;have gok:=og grp (by simp);have gtw:=ht grp (by simp);by_cases h0:f 0 1=0
  · refine⟨.clash (.zaf []),made,.inl ⟨[],f,.nil,by rw[JL o d,decide_eq_true h0],rfl,rfl⟩,by omega,.inl ⟨rfl,by simp[bG,h0]⟩⟩
  · have ne:iC 2 f=false:=by rw[JL o d,decide_eq_false h0]
    have oc:=KO o;have e':jC 2 f 0 1=f 0 1:=FE f (by decide) (by decide);have dc:∀i<2,jC 2 f i i=64:=fun i hi=>by rw[FE f hi hi];exact d i hi
    obtain⟨t0,ht0⟩:=VU oc (by rw[e'];exact h0);simp only[dG]at hm ⊢;have go:∀(ks:List Nat)(md:Nat)(acc:List Tr),md+ks.length*dG gs<=m->∃a s,qE (yC 2 m [] n) none [] gs (ks.map (aI (jC 2 f) grp)) md acc a s/\s<=md+ks.length*dG gs/\((a.wd=.clash/\ks.findSome? (fun k=>bG gs (mC (f 0 1) k grp 0))=none)\/∃t L w,a=.laid t/\ks.findSome? (fun k=>bG gs (mC (f 0 1) k grp 0))=some L/\(JA L).head?=some w/\RB (mB t 0) (mB t 1)=w):=by
     intro ks
     induction ks with
     | nil=>intro md acc Z;exact⟨_,md,⟨rfl,rfl⟩,by simp,.inl ⟨rfl,rfl⟩⟩
     | cons k ks ih2=>
      intro md acc hmd;rw[zfH,Nat.succ_mul]at hmd;have v:aI (jC 2 f) grp k 0 1=mC (f 0 1) k grp 0:=by unfold aI;rw[Q1 grp gok gtw _ 0 oc,e']
      obtain⟨a,s,L,sl,R⟩:=ih og.tail (fun g hg=>ht g (by simp[hg])) n (aI (jC 2 f) grp k) md (by omega) (US grp gok _ 0 oc) (VS grp gok _ 0 dc) (by omega);rw[v]at R;rw[zfH,Nat.succ_mul];rcases R with⟨wa,dn⟩ | ⟨t,LL,w,rfl,ds,hw,hwy⟩
      · obtain⟨tr,rfl⟩:∃tr,a=.clash tr:=by
         cases a with
         | opn=>cases wa
         | laid t=>cases wa
         | clash tr=>exact⟨tr,rfl⟩
        obtain⟨a',s',B,sl',R'⟩:=ih2 s (acc++[tr]) (by omega);refine⟨a',s',.inl ⟨tr,s,L,B⟩,by omega,?_⟩;rw[findSome?_cons,dn];exact R'
      · refine⟨.laid t,s,.inr ⟨(fun y=>by cases y),L⟩,by omega,.inr ⟨t,LL,w,rfl,?_,hw,hwy⟩⟩;rw[findSome?_cons,ds]
    obtain⟨a,s,B,sl,R⟩:=go (range grp.length) (made+1) [] (by rw[length_range];omega);rw[length_range]at sl;refine⟨a,s,.inr ⟨[],jC 2 f,⟨f,.nil,ET f,ne,rfl⟩,.inr ⟨t0,ht0,.inr ⟨none,_,_,rfl,.inr ⟨by omega,B⟩⟩⟩⟩,by omega,?_⟩;simp only[bG,if_neg h0];exact R
theorem MT(x f:Int)(h:HI):LH [.int x,.int f] h=some (.int ((x%2147483647+11)*f%2147483629),h):=by
 have c:zaI (x%2147483647+11) f:=Or.inl ⟨by omega,by omega⟩;have d1:=fun(i:Int) (h:HI)=>KE (h:=h) (i:=i) (show(0:Int)<2147483647 by decide)
 have d2:=fun(i:Int) (h:HI)=>KE (h:=h) (i:=i) (show(0:Int)<2147483629 by decide)
 have d3:=fun(h:HI)=>xE (h:=h) c
 simp only[LH,cR,rB,zfH,zfI,if_true,zfJ,zfK,replicate,zfQ,zfP,yB,yA,oA,xA,zfF,zfG,pA,iA,d1,d2,d3,nE,BB]
theorem Hv(ns:List Int)(lo hi:Option Int):∃ms:List Int,SG (ns.map Dt.int) lo hi=ms.map Dt.int/\ms.length<=ns.length:=by unfold SM.SG;rw[<- map_drop,<- map_take];exact⟨_,rfl,((take_sublist _ _).trans (drop_sublist _ _)).length_le⟩
theorem NU(ns:List Int)(k:Nat)(h:HI):sJ [.lst (ns.map Dt.int),.int (k:Int)] h=some (.int (ns[k]?.getD 0),h):=by
 simp[sJ,RQ];by_cases hk:k<ns.length
 · simp[hk]
 · simp[hk]
theorem aU(i:Int)(h:HI):yJ [.int i] h=some (.bl true,h):=by simp[yJ,fR]
theorem jg(t:Int){a b:Int}(hab:a<b)(h:HI):aL [.int t,.tup [.int a,.int b]] h=some (.int (CC t a b),h):=by
 simp[aL,GR];unfold CC
 repeat' split
 all_goals first | rfl | (exfalso;omega)
theorem uy(h:HI):jR [] h=some (.lst (Ml.map pr),h):=by rfl
theorem XO{s o:Int×Int}(h1:dD s)(h2:dD o)(h:HI):EJ [rF s,rF o] h=some (.int (RB s o),h):=by have hp:=Hz _ (RN h1 h2);simp only[pr]at hp;simp[EJ,cS,rF,jg _ h2,uy,hp.1,hp.2];rfl
def Lp(lo:Nat)(h:HI)(d:Dt):Fact->Prop
 | .one g=>∃n,d=.tup [.str "one", .ref n]/\lo<=n/\h[n]?=some (.lst (g.map AA))/\g.length<=6
 | f=>El h d f
theorem Lp.at{lo:Nat}{h:HI}{d:Dt}{f:Fact}(q:Lp lo h d f):El h d f:=by
 cases f with
 | one g=>obtain⟨n,e,Z,q,Z⟩:=q;exact⟨_,e,n,rfl,q⟩
 | ways m=>exact q
 | long x=>exact q
theorem Lp.up{lo lo':Nat}(hl:lo'<=lo){h h':HI}(u:CV lo h h'){d:Dt}{f:Fact}(q:Lp lo h d f):Lp lo' h' d f:=by
 cases f with
 | one g=>obtain⟨n,e,l,q,s⟩:=q;exact⟨n,e,by omega,u _ _ l q,s⟩
 | ways m=>exact q
 | long x=>exact q
inductive Qm(lo:Nat)(h:HI):List Dt->List Fact->Prop where
 | nil:Qm lo h [] []
 | cons {d:Dt} {f:Fact} {ds:List Dt} {fs:List Fact} (a:Lp lo h d f) (r:Qm lo h ds fs):Qm lo h (d::ds) (f::fs)
theorem Qm.up{lo lo':Nat}(hl:lo'<=lo){h h':HI}(u:CV lo h h'){ds:List Dt}{fs:List Fact}(q:Qm lo h ds fs):Qm lo' h' ds fs:=by
 induction q with
 | nil=>exact .nil
 | cons a r ih=>exact .cons (a.up hl u) ih
theorem Qm.at{lo:Nat}{h:HI}{ds:List Dt}{fs:List Fact}(q:Qm lo h ds fs):Gm h ds fs:=by
 induction q with
 | nil=>exact .nil
 | cons a r ih=>exact .cons a.at ih
theorem Qm.snoc{lo:Nat}{h:HI}{ds:List Dt}{fs:List Fact}(q:Qm lo h ds fs){d:Dt}{f:Fact}(a:Lp lo h d f):Qm lo h (ds++[d]) (fs++[f]):=by
 induction q with
 | nil=>exact .cons a .nil
 | cons b r ih=>exact .cons b ih
noncomputable def VG(ns:List Int)(k:Nat):Int:=(ns[k+1]?.getD 0%2147483647+11)*(48271+2*(k:Int)*(k:Int))%2147483629
def ZG(ns:List Int)(sc:Int)(k:Nat):Int×Int:=(VG ns k/7%6*sc,VG ns k/7%6*sc+(1+VG ns k/42%4)*sc)
theorem T5(ns:List Int){sc:Int}(h:1<=sc)(k:Nat):dD (ZG ns sc k):=by unfold dD ZG;have:0<(1+VG ns k/42%4)*sc:=Int.mul_pos (by omega) (by omega);simp only;omega
def FC(s:Nat->Int×Int)(c:Nat):List Dt:=(range c).map fun k=>rF (s k)
theorem BL{s:Nat->Int×Int}{c k:Nat}(hk:k<c):(FC s c)[k]?=some (rF (s k)):=by simp[FC,hk]
theorem zy(ns:List Int){c:Nat}(hc:c<=8)(sc:Int)(h:HI):UK [.lst (ns.map Dt.int),.int (c:Nat),.int sc] h=some (.ref h.length,h++[.lst (FC (ZG ns sc) c)]):=by
 have er:=fun h=>OF (h:=h) (show(-(2^62):Int)<=(c:Int) by omega) (show(c:Int)<2^62 by omega)
 simp only[zxE]at er;have m6:=fun(i:Int) (h:HI)=>KE (h:=h) (i:=i) (show(0:Int)<6 by decide)
 have m4:=fun(i:Int) (h:HI)=>KE (h:=h) (i:=i) (show(0:Int)<4 by decide)
 have d1:=fun(i:Int) (h:HI)=>tH (h:=h) (i:=i) (j:=7) ⟨by decide,by decide⟩
 have d2:=fun(i:Int) (h:HI)=>tH (h:=h) (i:=i) (j:=42) ⟨by decide,by decide⟩
 obtain⟨l',h',e,⟨y4,y5,y6,rfl⟩,rfl⟩:=GJ (i:=4) (body:=YQ) (fun(k:Nat)=>Dt.int (k:Int)) (fun k l h'=>(∃y4 y5 y6,l=[some (.lst (ns.map Dt.int)),some (.int (c:Nat)),some (.int sc),some (.ref h.length),y4,y5,y6])/\h'=h++[.lst (FC (ZG ns sc) k)]) c (by
  rintro k hk l h' ⟨⟨y4,y5,y6,rfl⟩,rfl⟩;have cc:=fun h=>NU ns (k+1) h
  have ca:(k:Int)+1=((k+1:Nat):Int):=by omega
  have u1:=fun(h:HI)=>xE (h:=h) (i:=2) (j:=(k:Int)) (Or.inl ⟨by decide,by decide⟩)
  have u2:=fun(h:HI)=>xE (h:=h) (i:=2*(k:Int)) (j:=(k:Int)) (Or.inl ⟨by omega,by omega⟩)
  have u3:=fun(i:Int) (h:HI)=>xE (h:=h) (i:=i%6) (j:=sc) (Or.inl ⟨by omega,by omega⟩)
  have u4:=fun(i:Int) (h:HI)=>xE (h:=h) (i:=1+i%4) (j:=sc) (Or.inl ⟨by omega,by omega⟩)
  have en:(ns[k+1]?.getD 0%2147483647+11)*(48271+2*(k:Int)*(k:Int))%2147483629=VG ns k:=rfl;have dh:(h++[Ob.lst (FC (ZG ns sc) k)])[h.length]?=some (.lst (FC (ZG ns sc) k)):=by simp
  refine⟨.nx [some (.lst (ns.map Dt.int)),some (.int (c:Nat)),some (.int sc),some (.ref h.length),some (.int (k:Nat)),some (.int (VG ns k)),some (.int (VG ns k/7%6*sc))] (h++[.lst (FC (ZG ns sc) (k+1))]),?_,⟨_,_,_,rfl⟩,rfl⟩;have ap:=SE (l:=[some (.lst (ns.map Dt.int)),some (.int (c:Nat)),some (.int sc),some (.ref h.length),some (.int (k:Nat)),some (.int (VG ns k)),some (.int (VG ns k/7%6*sc))]) (h:=h++[Ob.lst (FC (ZG ns sc) k)]) (g:=aB (bA (eV 6) (bA (e2 XB (eV 6) (e2 gC (e2 XB (eC (.int 1)) (e2 YC (e2 iF (eV 5) (eC (.int 42))) (eC (.int 4)))) (eV 2))) (eA)))) (d:=rF (ZG ns sc k)) dh (by simp[ZG,rF,d2,m4,u4]) dh (by simp[FC];omega);have es:(h++[Ob.lst (FC (ZG ns sc) k)]).set h.length (.lst (FC (ZG ns sc) k++[rF (ZG ns sc k)]))=h++[.lst (FC (ZG ns sc) (k+1))]:=by
   have:FC (ZG ns sc) (k+1)=FC (ZG ns sc) k++[rF (ZG ns sc k)]:=by unfold FC;rw[range_succ,map_append];rfl
   rw[this];simp
  rw[es]at ap;simp only[YQ,OA,YA,gB,UA,KA,yA,oA,xA,zfM,zfL,zfF,zfG,pA,iA,nE,ca,cc,u1,u2,zfW,MT,en,QA,d1,m6,u3,RD,BE,ap]) [some (.lst (ns.map Dt.int)),some (.int (c:Nat)),some (.int sc),some (.ref h.length),none,none,none] (h++[.lst []]) ⟨⟨_,_,_,rfl⟩,by simp[FC]⟩
 simp[UK,dR,er,e]
theorem V1(i:Int)(a b c d:Int)(ha:0<=a)(hb:0<=b)(hc:0<=c)(hd:0<=d):∃z,0<=z/\Kp [Dt.int a,Dt.int b,Dt.int c,Dt.int d] (i%4)=some (.int z):=by
 rcases(show i%4=0\/i%4=1\/i%4=2\/i%4=3 by omega)with h | h | h | h<;>rw[h]
 · exact⟨a,ha,rfl⟩
 · exact⟨b,hb,rfl⟩
 · exact⟨c,hc,rfl⟩
 · exact⟨d,hd,rfl⟩
theorem Y5{c:Nat}(hc2:2<=c)(n k:Nat):∃i j:Nat,i<c/\j<c/\i≠j/\((n:Int)%(c:Int))=(i:Int)/\((i:Int)+1+(n:Int)/(k:Int)%((c:Int)-1))%(c:Int)=(j:Int):=by
 refine⟨n%c,(n%c+1+n/k%(c-1))%c,Nat.mod_lt _ (by omega),Nat.mod_lt _ (by omega),?_,by simp,?_⟩
 · have t:n/k%(c-1)<c-1:=Nat.mod_lt _ (by omega);have hi:n%c<c:=Nat.mod_lt _ (by omega);generalize n/k%(c-1)=q at t;generalize n%c=i at hi;by_cases w:i+1+q<c
   · rw[Nat.mod_eq_of_lt w];omega
   · rw[Nat.mod_eq_sub_mod (by omega),Nat.mod_eq_of_lt (by omega)];omega
 · rw[show(c:Int)-1=((c-1:Nat):Int) by omega];simp
theorem tV{a b:Nat}(ha:a<8192)(hb:b<8192):a|||b<8192:=Nat.or_lt_two_pow (n:=13) ha hb
theorem ZL{k:Nat}(h:k<13):2^k<8192:=Nat.pow_lt_pow_right (by decide) h (m:=k) (n:=13)
theorem Uj(N:Nat){w:Nat}(hw:w<13):∃m,m<8192/\m.testBit w=true/\∀h,oJ [.int (N:Nat),.int (w:Nat)] h=some (.int (m:Nat),h):=by
 have d8:=fun(i:Int) (h:HI)=>tH (h:=h) (i:=i) (j:=8) ⟨by decide,by decide⟩
 have m13:=fun(x:Int) (h:HI)=>KE (h:=h) (i:=x) (show(0:Int)<13 by decide)
 have m8:=fun(x:Int) (h:HI)=>KE (h:=h) (i:=x) (show(0:Int)<8192 by decide)
 have m3:=fun(x:Int) (h:HI)=>KE (h:=h) (i:=x) (show(0:Int)<3 by decide)
 have k1:(N:Int)/8%13=((N/8%13:Nat):Int):=by omega
 have k2:(N:Int)/8%8192=((N/8%8192:Nat):Int):=by omega
 have b1:N/8%13<13:=Nat.mod_lt _ (by decide);have b2:N/8%8192<8192:=Nat.mod_lt _ (by decide);generalize N/8%13=u at k1 b1;generalize N/8%8192=v at k2 b2;have s1:=fun h=>cK (h:=h) (fJ b1)
 have s2:=fun h=>cK (h:=h) (fJ hw)
 have pw:∀w:Nat,(1:Int)*2^w=((2^w:Nat):Int):=fun w=>by simp
 have sb:(8191:Int)-((2^u:Nat):Int)=((8191-2^u:Nat):Int):=by have:=ZL b1;omega
 have fin:∀x:Nat,(x|||2^w).testBit w=true:=fun x=>by rw[Nat.testBit_or,Nat.testBit_two_pow_self,Bool.or_true]
 rcases(show(N:Int)%3=0\/(N:Int)%3=1\/(N:Int)%3=2 by omega)with z | z | z
 · refine⟨(8191-2^u)|||2^w,tV (zxF (Nat.sub_le _ _) (by decide)) (ZL hw),fin _,fun h=>?_⟩;simp only[oJ,NK,rB,zfH,zfI,if_true,zfJ,zfK,Nat.reduceAdd,Nat.reduceSub,replicate,zfQ,zfP,OA,YA,yA,oA,xA,zfF,zfG,pA,iA,d8,m13,k1,s1,zxE,pw,wG,sb,zfM,zfL,QA,dB,NA,m3,z,PD,show decide ((0:Int)=1)=false from rfl,show decide ((0:Int)=2)=false from rfl,VA,zfX,if_false,dC,yB,s2,qV,yO,BB]
 · refine⟨v|||2^w,tV b2 (ZL hw),fin _,fun h=>?_⟩;simp only[oJ,NK,rB,zfH,zfI,if_true,zfJ,zfK,Nat.reduceAdd,Nat.reduceSub,replicate,zfQ,zfP,OA,YA,yA,oA,xA,zfF,zfG,pA,iA,d8,m13,k1,s1,zxE,pw,wG,sb,zfM,zfL,QA,dB,NA,m3,z,PD,decide_true,if_true,show decide ((1:Int)=2)=false from rfl,VA,m8,k2,zfX,if_false,dC,yB,s2,qV,yO,BB]
 · refine⟨2^u|||2^w,tV (ZL b1) (ZL hw),fin _,fun h=>?_⟩;simp only[oJ,NK,rB,zfH,zfI,if_true,zfJ,zfK,Nat.reduceAdd,Nat.reduceSub,replicate,zfQ,zfP,OA,YA,yA,oA,xA,zfF,zfG,pA,iA,d8,m13,k1,s1,zxE,pw,wG,sb,zfM,zfL,QA,dB,NA,m3,z,PD,show decide ((2:Int)=1)=false from rfl,decide_true,if_true,VA,zfX,if_false,dC,yB,s2,qV,yO,BB]
theorem Zr{m w:Nat}(hm:m<8192)(hw:w<13)(hb:m.testBit w=true):∃x:Nat,(m:Int)-((2^w:Nat):Int)=(x:Int)/\x<8192/\x.testBit w=false:=by
 have e:m=2^w+(m-2^w):=by have:=Nat.ge_two_pow_of_testBit hb;omega
 have le:=Nat.ge_two_pow_of_testBit hb;refine⟨m-2^w,by omega,zxF (Nat.sub_le _ _) hm,?_⟩;cases z:(m-2^w).testBit w with
 | false=>rfl
 | true=>
  have h1:m.testBit w=!(m-2^w).testBit w:=by have:=Nat.testBit_two_pow_add_eq (m-2^w) w;rw[<- e]at this;exact this
  rw[hb,z]at h1;cases h1
theorem GW{s:Nat->Int×Int}{c:Nat}(ok:∀i,dD (s i))(hc2:2<=c)(hc:c<=100)(N:Nat)(so:Bool):∃m,kD c m/\dE s m=so/\∀h a,h[a]?=some (.lst (FC s c))->aH [.int (N:Nat),.ref a,.bl so] h=some (AA m,h):=by
 obtain⟨i,j,hi,hj,hij,e1,e2'⟩:=Y5 hc2 N 8;simp only[Int.cast_ofNat_Int]at e2';have mc:=fun(x:Int) (h:HI)=>KE (h:=h) (i:=x) (show(0:Int)<(c:Int) by omega)
 have mc1:=fun(x:Int) (h:HI)=>KE (h:=h) (i:=x) (show(0:Int)<(c:Int)-1 by omega)
 have d8:=fun(i:Int) (h:HI)=>tH (h:=h) (i:=i) (j:=8) ⟨by decide,by decide⟩
 have d64:=fun(i:Int) (h:HI)=>tH (h:=h) (i:=i) (j:=64) ⟨by decide,by decide⟩
 have eR:(N:Int)/64=((N/64:Nat):Int):=by omega
 have hw:=LF (ok i) (ok j);obtain⟨m,m1,m2,em⟩:=Uj (N/64) hw;have sh:=fun h=>cK (h:=h) (fJ hw)
 have pw:(1:Int)*2^RB (s i) (s j)=((2^RB (s i) (s j):Nat):Int):=by simp
 have sl:(FC s c).length=c:=by simp[FC]
 have sz4:4<=sizeLine:=by decide
 cases so with
 | true=>refine⟨(i,m,j),⟨hi,hj,hij,m1⟩,m2,fun h a da=>?_⟩;have i1:=oE da (i:Int);rw[SM.ZC,BL hi,zfN]at i1;have i2:=oE da (j:Int);rw[SM.ZC,BL hj,zfN]at i2;have fl:=rH da;rw[sl]at fl;simp only[aH,cN,rB,zfH,zfI,if_true,zfJ,zfK,Nat.reduceAdd,Nat.reduceSub,replicate,zfQ,zfP,OA,YA,yA,oA,xA,RC,zfF,zfG,pA,iA,fl,mc,e1,zfM,zfL,QA,nE,wG,d8,mc1,e2',gB,UA,KA,i1,i2,zfW,XO (ok i) (ok j),d64,eR,em,dB,GG,NA,VA,Bool.not_true,zfX,if_false,dC,yB,IE,sz4,BB];rfl
 | false=>obtain⟨x,x1,x2,x3⟩:=Zr m1 hw m2;refine⟨(i,x,j),⟨hi,hj,hij,x2⟩,x3,fun h a da=>?_⟩;have i1:=oE da (i:Int);rw[SM.ZC,BL hi,zfN]at i1;have i2:=oE da (j:Int);rw[SM.ZC,BL hj,zfN]at i2;have fl:=rH da;rw[sl]at fl;simp only[aH,cN,rB,zfH,zfI,if_true,zfJ,zfK,Nat.reduceAdd,Nat.reduceSub,replicate,zfQ,zfP,OA,YA,yA,oA,xA,RC,zfF,zfG,pA,iA,fl,mc,e1,zfM,zfL,QA,nE,wG,d8,mc1,e2',gB,UA,KA,i1,i2,zfW,XO (ok i) (ok j),d64,eR,em,dB,GG,NA,VA,Bool.not_false,sh,zxE,pw,x1,yB,IE,sz4,BB];rfl
theorem T9 {s:Nat->Int×Int} {c:Nat} (ok:∀i,dD (s i)) (hc2:2<=c) (hc:c<=100) {N:Nat} (hN:N<2147483629):∃g,(∀m∈g,kD c m)/\WL s g/\g.length<=6/\∀h a,h[a]?=some (.lst (FC s c))->QK [.int (N:Nat),.ref a] h=some (.tup [.str "one", .ref h.length],h++[.lst (g.map AA)]):=by
 obtain⟨t,ht⟩:∃t:Nat,1+(N:Int)%6=(t:Int):=⟨(1+(N:Int)%6).toNat,by omega⟩
 have t1:1<=t:=by omega
 have t6:t<=6:=by omega
 obtain⟨ch,hch⟩:∃ch:Nat,(N:Int)/6%(t:Int)=(ch:Int):=⟨((N:Int)/6%(t:Int)).toNat,by have:=Int.emod_nonneg ((N:Int)/6) (show(t:Int)≠0 by omega);omega⟩
 have cl:ch<t:=by have:=Int.emod_lt_of_pos ((N:Int)/6) (show(0:Int)<(t:Int) by omega);omega
 have v:∀k:Nat,∃v:Nat,(N:Int)*(69621+2*(k:Int)*(k:Int))%2147483587=(v:Int):=fun k=>Int.eq_ofNat_of_zero_le (Int.emod_nonneg _ (by decide))
 have mem:∀k:Nat,∃m,kD c m/\dE s m=decide (k=ch)/\∃v:Nat,(N:Int)*(69621+2*(k:Int)*(k:Int))%2147483587=(v:Int)/\∀h a,h[a]?=some (.lst (FC s c))->aH [.int (v:Nat),.ref a,.bl (decide (k=ch))] h=some (AA m,h):=fun k=>by obtain⟨v,hv⟩:=v k;obtain⟨m,a,b,e⟩:=GW ok hc2 hc v (decide (k=ch));exact⟨m,a,b,v,hv,e⟩
 obtain⟨M,hM⟩:=Classical.axiomOfChoice mem;refine⟨(range t).map M,fun m hm=>?_,⟨ch,by simpa using cl,fun i m hm=>?_⟩,by simpa using t6,fun h a da=>?_⟩
 · obtain⟨k,Z,rfl⟩:=mem_map.mp hm;exact(hM k).1
 · rw[getElem?_map]at hm;by_cases z:i<t
   · rw[getElem?_range z]at hm;simp at hm;subst hm;exact(hM i).2.1
   · rw[getElem?_eq_none (by simpa using z)]at hm;cases hm
 · have alt:=(zfR da).1;have er:=fun h=>OF (h:=h) (show(-(2^62):Int)<=(t:Int) by omega) (show(t:Int)<2^62 by omega)
   simp only[zxE]at er;have m6:=fun(x:Int) (h:HI)=>KE (h:=h) (i:=x) (show(0:Int)<6 by decide)
   have mt:=fun(x:Int) (h:HI)=>KE (h:=h) (i:=x) (show(0:Int)<(t:Int) by omega)
   have d6:=fun(i:Int) (h:HI)=>tH (h:=h) (i:=i) (j:=6) ⟨by decide,by decide⟩
   have mq:=fun(x:Int) (h:HI)=>KE (h:=h) (i:=x) (show(0:Int)<2147483587 by decide)
   obtain⟨l',h',e,⟨y,rfl⟩,rfl⟩:=GJ (i:=5) (body:=oQ) (fun(k:Nat)=>Dt.int (k:Int)) (fun k l h'=>(∃y,l=[some (.int (N:Nat)),some (.ref a),some (.int (t:Nat)),some (.int (ch:Nat)),some (.ref h.length),y])/\h'=h++[.lst (((range k).map M).map AA)]) t (by
    rintro k hkt l h' ⟨⟨y,rfl⟩,rfl⟩;obtain⟨Z,Z,v,hv,ew⟩:=hM k;have u1:=fun(h:HI)=>xE (h:=h) (i:=2) (j:=(k:Int)) (Or.inl ⟨by decide,by decide⟩)
    have u2:=fun(h:HI)=>xE (h:=h) (i:=2*(k:Int)) (j:=(k:Int)) (Or.inl ⟨by omega,by omega⟩)
    have u3:=fun(x:Int) (h:HI)=>xE (h:=h) (i:=(N:Int)) (j:=x) (Or.inl ⟨by omega,by omega⟩)
    have dq:decide (((k:Nat):Int)=(ch:Int))=decide (k=ch):=by
     by_cases z:k=ch
     · rw[decide_eq_true z,decide_eq_true (by omega)]
     · rw[decide_eq_false z,decide_eq_false (by omega)]
    have ew':=ew (h++[.lst (((range k).map M).map AA)]) a (by rw[zfS alt];exact da);have dh:(h++[Ob.lst (((range k).map M).map AA)])[h.length]?=some (.lst (((range k).map M).map AA)):=by simp
    have ap:=SE (l:=[some (.int (N:Nat)),some (.ref a),some (.int (t:Nat)),some (.int (ch:Nat)),some (.ref h.length),some (.int (k:Nat))]) (h:=h++[.lst (((range k).map M).map AA)]) (g:=zA aH [] (bA (e2 YC (e2 gC (eV 0) (e2 XB (eC (.int 69621)) (e2 gC (e2 gC (eC (.int 2)) (eV 5)) (eV 5)))) (eC (.int 2147483587))) (bA (eV 1) (bA (e2 lB (eV 5) (eV 3)) (eA))))) (d:=AA (M k)) dh (by
     simp only[gB,UA,KA,yA,xA,oA,zfF,zfG,pA,iA,u1,u2,nE,u3,mq,hv,PD,dq,zfW,ew']) dh (by simp[sizeLine];omega)
    have es:(h++[Ob.lst (((range k).map M).map AA)]).set h.length (.lst (((range k).map M).map AA++[AA (M k)]))=h++[.lst (((range (k+1)).map M).map AA)]:=by rw[range_succ,map_append,map_append];simp
    rw[es]at ap;refine⟨.nx [some (.int (N:Nat)),some (.ref a),some (.int (t:Nat)),some (.int (ch:Nat)),some (.ref h.length),some (.int (k:Nat))] (h++[.lst (((range (k+1)).map M).map AA)]),?_,⟨_,rfl⟩,rfl⟩;simp only[oQ,RD,BE,oA,zfM,zfL,zfF,zfG,pA,iA,ap]) [some (.int (N:Nat)),some (.ref a),some (.int (t:Nat)),some (.int (ch:Nat)),some (.ref h.length),none] (h++[.lst []]) ⟨⟨_,rfl⟩,rfl⟩
   simp only[QK,FQ,rB,zfH,zfI,if_true,zfJ,zfK,Nat.reduceAdd,Nat.reduceSub,replicate,zfQ,zfP,OA,YA,yA,oA,xA,KA,UA,zfF,zfG,pA,iA,m6,nE,ht,zfM,zfL,QA,d6,mt,hch,aG,zxB,ND,OI,er,lG,e,yB,IE,FP,BB]
theorem aj {s:Nat->Int×Int} {c:Nat} (ok:∀i,dD (s i)) (hc1:1<=c) {sc:Int} (hsc:1<=sc) (N:Nat):∃x:Ln,fP c s x/\∀h a,h[a]?=some (.lst (FC s c))->IK [.int (N:Nat),.ref a,.int sc] h=some (.tup [.str "long", .int (x.1:Nat),.int x.2.1,.int x.2.2],h):=by
 have hi:N%c<c:=Nat.mod_lt _ (by omega);have ei:(N:Int)%(c:Int)=((N%c:Nat):Int):=by simp
 generalize N%c=i at hi ei;obtain⟨z1,z1p,z1e⟩:=V1 ((N:Int)/8) 0 1 sc (9*sc) (by omega) (by omega) (by omega) (by omega);obtain⟨z2,z2p,z2e⟩:=V1 ((N:Int)/32) 0 1 sc ((N:Int)*1000000) (by omega) (by omega) (by omega) (by omega);have sz:=ok i;unfold dD at sz;refine⟨(i,max 0 ((s i).2-(s i).1-z1),(s i).2-(s i).1+z2),⟨hi,by simp only;omega,by simp only;omega⟩,fun h a da=>?_⟩;have mc:=fun(x:Int) (h:HI)=>KE (h:=h) (i:=x) (show(0:Int)<(c:Int) by omega)
 have m4:=fun(i:Int) (h:HI)=>KE (h:=h) (i:=i) (show(0:Int)<4 by decide)
 have d1:=fun(i:Int) (h:HI)=>tH (h:=h) (i:=i) (j:=8) ⟨by decide,by decide⟩
 have d2:=fun(i:Int) (h:HI)=>tH (h:=h) (i:=i) (j:=32) ⟨by decide,by decide⟩
 have u9:=fun(h:HI)=>xE (h:=h) (i:=9) (j:=sc) (Or.inl ⟨by decide,by decide⟩)
 have um:=fun(x:Int) (h:HI)=>xE (h:=h) (i:=x) (j:=1000000) (Or.inr ⟨by decide,by decide⟩)
 have sl:(FC s c).length=c:=by simp[FC]
 have i1:=oE da (i:Int);rw[SM.ZC,BL hi,zfN]at i1;have fl:=rH da;rw[sl]at fl;have sz4:4<=sizeLine:=by decide
 simp only[IK,wQ,rB,zfH,zfI,if_true,zfJ,zfK,Nat.reduceAdd,Nat.reduceSub,replicate,zfQ,zfP,OA,YA,yA,oA,xA,RC,gQ,VH,UA,KA,zfF,zfG,pA,iA,fl,mc,ei,zfM,zfL,QA,i1,rF,QB,YB,ID,zfN,wG,u9,sz4,d1,m4,bK,z1e,Br,um,d2,z2e,nE,yB,IE,BB]
def tG(c:Nat)(s:Nat->Int×Int):Fact->Prop
 | .ways m=>kD c m/\dE s m=true
 | .long x=>fP c s x
 | .one g=>(∀m∈g,kD c m)/\WL s g/\g.length<=6
theorem Cz{s:Nat->Int×Int}{c:Nat}(ok:∀i,dD (s i))(hc2:2<=c)(hc:c<=100){sc:Int}(hsc:1<=sc)(x:Int)(gr:Nat):∃f,∃gr':Nat,tG c s f/\((XA [f]).length+gr=gr'/\(gr<=2->gr'<=2))/\∀(h:HI)(a r:Nat)(ds:List Dt)(x0 y7 y8:Option Dt),h[a]?=some (.lst (FC s c))->h[r]?=some (.lst ds)->ds.length<=1000->
 ∃d e y7' y8',uI [x0,some (.ref a),some (.int sc),some (.int 2),some (.ref r),some (.int (gr:Nat)),some (.int x),y7,y8] h=some (.nx [x0,some (.ref a),some (.int sc),some (.int 2),some (.ref r),some (.int (gr':Nat)),some (.int x),y7',y8'] ((h++e).set r (.lst (ds++[d]))))/\Lp h.length (h++e) d f:=by
 obtain⟨N,hN⟩:=Int.eq_ofNat_of_zero_le (Int.emod_nonneg ((x%2147483647+11)*16807) (show(2147483629:Int)≠0 by decide));have N2:(N:Int)<2147483629:=by rw[<- hN];exact Int.emod_lt_of_pos _ (by decide)
 have em:∀h,LH [.int x,.int 16807] h=some (.int (N:Nat),h):=fun h=>by rw[MT,hN]
 obtain⟨M,hM⟩:∃M:Int,(x%2147483647+11)*69621%2147483629=M:=⟨_,rfl⟩
 have em2:∀h,LH [.int x,.int 69621] h=some (.int M,h):=fun h=>by rw[MT,hM]
 have d16:=fun(i:Int) (h:HI)=>tH (h:=h) (i:=i) (j:=16) ⟨by decide,by decide⟩
 have m8:=fun(x:Int) (h:HI)=>KE (h:=h) (i:=x) (show(0:Int)<8 by decide)
 generalize hk:M/16%8=kd;have szl:∀ds:List Dt,ds.length<=1000->ds.length<sizeLine:=fun ds h=>by simp[sizeLine];omega
 by_cases z0:kd=0/\gr<2
 · obtain⟨g,g1,g2,g3,eg⟩:=T9 ok hc2 hc (N:=N) (by omega);refine⟨.one g,gr+1,⟨g1,g2,g3⟩,⟨by simp[XA];omega,fun Z=>z0.2⟩,fun h a r ds x0 y7 y8 da dr dl=>⟨.tup [.str "one", .ref h.length],[.lst (g.map AA)],some (.int (N:Nat)),some (.int kd),?_,h.length,rfl,zfU _,by simp,g3⟩⟩;have q0:decide (kd=0)=true:=decide_eq_true z0.1;have q1:decide (((gr:Nat):Int)<2)=true:=decide_eq_true (by have:=z0.2;omega);have gp:((gr:Nat):Int)+1=((gr+1:Nat):Int):=by omega
   have rl:=(zfR dr).1;have ap:=SE (l:=[x0,some (.ref a),some (.int sc),some (.int 2),some (.ref r),some (.int ((gr+1:Nat):Int)),some (.int x),some (.int (N:Nat)),some (.int kd)]) (h:=h) (h':=h++[.lst (g.map AA)]) (g:=zA QK [] (bA (eV 7) (bA (eV 1) (eA)))) (d:=.tup [.str "one", .ref h.length]) dr (by
    simp only[gB,UA,KA,oA,zfF,zfG,pA,iA,zfW,eg h a da]) (by rw[zfS rl];exact dr) (szl ds dl)
   simp only[uI,OA,YA,gB,UA,KA,yA,oA,xA,zfM,zfL,zfF,zfG,pA,iA,zfW,em,em2,QA,d16,m8,hk,dB,OO,NA,PD,q0,SV,q1,VA,if_true,nE,gp,RD,BE,ap]
 · have first:∀(k:Bool×HI->Option Rs)(l:LI)(h:HI),l[8]?=some (some (.int kd))->l[5]?=some (some (.int (gr:Nat)))->l[3]?=some (some (.int 2))->jB (fK (Wm (e2 lB (eV 8) (eC (.int 0)))) (Wm (e2 BM (eV 5) (eV 3))) l h) k=k (false,h):=by
    intro k l h h8 h5 h3;by_cases q:kd=0
    · have q1:decide (((gr:Nat):Int)<2)=false:=decide_eq_false (fun z=>z0 ⟨q,by omega⟩);have q0:decide (kd=0)=true:=decide_eq_true q;simp only[OO,NA,yA,oA,h8,h5,h3,pA,iA,xA,PD,q0,VA,if_true,SV,q1]
    · have q0:decide (kd=0)=false:=decide_eq_false q;simp only[OO,NA,yA,oA,h8,h5,h3,pA,iA,xA,PD,q0,VA,zfX,if_false]
   by_cases z1:kd=1
   · obtain⟨y,y1,ey⟩:=aj ok (show 1<=c by omega) hsc N;refine⟨.long y,gr,y1,⟨by simp[XA],fun q=>q⟩,fun h a r ds x0 y7 y8 da dr dl=>⟨.tup [.str "long", .int (y.1:Nat),.int y.2.1,.int y.2.2],[],some (.int (N:Nat)),some (.int kd),?_,rfl⟩⟩;have q1:decide (kd=1)=true:=decide_eq_true z1;have ap:=SE (l:=[x0,some (.ref a),some (.int sc),some (.int 2),some (.ref r),some (.int (gr:Nat)),some (.int x),some (.int (N:Nat)),some (.int kd)]) (h:=h) (h':=h) (g:=zA IK [] (bA (eV 7) (bA (eV 1) (bA (eV 2) (eA))))) (d:=.tup [.str "long", .int (y.1:Nat),.int y.2.1,.int y.2.2]) dr (by
      simp only[gB,UA,KA,oA,zfF,zfG,pA,iA,zfW,ey h a da]) dr (szl ds dl)
     simp only[uI,OA,YA,gB,UA,KA,yA,oA,xA,zfM,zfL,zfF,zfG,pA,iA,zfW,em,em2,QA,d16,m8,hk];rw[dB,first _ _ _ rfl rfl rfl];simp only[zfX,if_false,dB,NA,yA,oA,xA,zfF,zfG,pA,iA,PD,q1,VA,if_true,RD,BE,ap]
   · obtain⟨mm,m1,m2,ew⟩:=GW ok hc2 hc N true;refine⟨.ways mm,gr,⟨m1,m2⟩,⟨by simp[XA],fun q=>q⟩,fun h a r ds x0 y7 y8 da dr dl=>⟨AA mm,[],some (.int (N:Nat)),some (.int kd),?_,rfl⟩⟩;have q1:decide (kd=1)=false:=decide_eq_false z1;have ap:=SE (l:=[x0,some (.ref a),some (.int sc),some (.int 2),some (.ref r),some (.int (gr:Nat)),some (.int x),some (.int (N:Nat)),some (.int kd)]) (h:=h) (h':=h) (g:=zA aH [] (bA (eV 7) (bA (eV 1) (bA (eC (.bl true)) (eA))))) (d:=AA mm) dr (by
      simp only[gB,UA,KA,xA,oA,zfF,zfG,pA,iA,zfW,ew h a da]) dr (szl ds dl)
     simp only[uI,OA,YA,gB,UA,KA,yA,oA,xA,zfM,zfL,zfF,zfG,pA,iA,zfW,em,em2,QA,d16,m8,hk];rw[dB,first _ _ _ rfl rfl rfl];simp only[zfX,if_false,dB,NA,yA,oA,xA,zfF,zfG,pA,iA,PD,q1,VA,RD,BE,ap]
noncomputable def JV(r:Nat)(h h':HI):Prop:=h.length<=h'.length/\∀(n:Nat)(xs:List Dt),n≠r->h[n]?=some (.lst xs)->h'[n]?=some (.lst xs)
theorem XW{s:Nat->Int×Int}{c:Nat}(ok:∀i,dD (s i))(hc2:2<=c)(hc:c<=100){sc:Int}(hsc:1<=sc):∀(ms:List Int)(gr:Nat),∃fs,(∀f∈fs,tG c s f)/\(fs.length=ms.length/\(gr<=2->(XA fs).length+gr<=2))/\∀(h:HI)(a r:Nat)(ds:List Dt)(fs0:List Fact)(x0 y6 y7 y8:Option Dt),h[a]?=some (.lst (FC s c))->h[r]?=some (.lst ds)->a≠r->ds.length+ms.length<=1000->Qm (r+1) h ds fs0->
 ∃gr' y6' y7' y8' h' ds',zC (DA 6) uI (ms.map Dt.int) [x0,some (.ref a),some (.int sc),some (.int 2),some (.ref r),some (.int (gr:Nat)),y6,y7,y8] h=some (.nx [x0,some (.ref a),some (.int sc),some (.int 2),some (.ref r),some (.int gr'),y6',y7',y8'] h')/\h'[r]?=some (.lst ds')/\Qm (r+1) h' ds' (fs0++fs)/\JV r h h'
 | [],gr=>⟨[],(fun Z h=>nomatch h),⟨rfl,fun q=>by simpa[XA]using q⟩,fun h a r ds fs0 x0 y6 y7 y8 da dr ar dl F=>⟨_,_,_,_,h,ds,rfl,dr,by rw[zfW];exact F,zfU _,fun Z Z Z e=>e⟩⟩
 | x::ms,gr=>by
  obtain⟨f,gr1,kf,⟨g1,g2⟩,bd⟩:=Cz ok hc2 hc hsc x gr;obtain⟨fs,kfs,⟨fl,fo⟩,lp⟩:=XW ok hc2 hc hsc ms gr1;refine⟨f::fs,fun y hy=>?_,⟨by simp[fl],fun q=>by have a1:=fo (g2 q);cases f<;>simp[XA]at g1 ⊢ <;>omega⟩,fun h a r ds fs0 x0 y6 y7 y8 da dr ar dl F=>?_⟩
  · rcases mem_cons.mp hy with rfl | hy
    · exact kf
    · exact kfs y hy
  · rw[zfH]at dl;obtain⟨d,e,y7',y8',eb,FN⟩:=bd h a r ds x0 y7 y8 da dr (by omega);have rl:=(zfR dr).1;have rl2:r<(h++e).length:=by rw[length_append];omega
    have g3:∀k,k≠r->((h++e).set r (.lst (ds++[d])))[k]?=(h++e)[k]?:=fun k hk=>by rw[getElem?_set_ne (Ne.symm hk)]
    have U1:JV r h ((h++e).set r (.lst (ds++[d]))):=⟨by simp,fun n xs hn q=>by rw[g3 n hn];exact(Up.app h e).get q⟩;obtain⟨gr',z6,z7,z8,h',ds',ew,dr',F',U2⟩:=lp ((h++e).set r (.lst (ds++[d]))) a r (ds++[d]) (fs0++[f]) x0 (some (.int x)) y7' y8' (U1.2 _ _ ar da) (by rw[getElem?_set_self rl2]) ar (by simp;omega) (by
     refine Qm.snoc (F.up (zfU _) (fun k xs hk q=>?_)) (FN.up (by omega) (fun k xs hk q=>?_))
     · exact U1.2 _ _ (by omega) q
     · rw[g3 k (by omega)];exact q)
    rw[append_assoc]at F';refine⟨gr',z6,z7,z8,h',ds',?_,dr',F',zxA U1.1 U2.1,fun n xs hn q=>U2.2 _ _ hn (U1.2 _ _ hn q)⟩;simp only[zfJ,zC,pG,zfO,zfM,zfL,eb,I0,ew]
theorem Zy(ns:List Int)(hl:ns.length<=63){s:Nat->Int×Int}{c:Nat}(ok:∀i,dD (s i))(hc2:2<=c)(hc:c<=100){sc:Int}(hsc:1<=sc):∃fs,(∀f∈fs,tG c s f)/\(fs.length<=63/\(XA fs).length<=2)/\∀(h:HI)(a:Nat),h[a]?=some (.lst (FC s c))->
 ∃ds h',xJ [.lst (ns.map Dt.int),.ref a,.int sc,.int 2] h=some (.ref h.length,h')/\h'[h.length]?=some (.lst ds)/\Qm (h.length+1) h' ds fs/\Np h h':=by
 obtain⟨ms,ec,hm⟩:=Hv ns (some 6) (some 66);obtain⟨fs,kf,⟨fl,fo⟩,lp⟩:=XW ok hc2 hc hsc ms 0;refine⟨fs,kf,⟨by omega,by have:=fo (by omega);omega⟩,fun h a da=>?_⟩;have alt:=(zfR da).1;obtain⟨gr',z6,z7,z8,h',ds',ew,dr',F',U2⟩:=lp (h++[.lst []]) a h.length [] [] (some (.lst (ns.map Dt.int))) none none none (by rw[zfS alt];exact da) (by simp) (by omega) (by simp;omega) .nil;refine⟨ds',h',?_,dr',F',by have:=U2.1;simp at this;omega,fun n xs q=>?_⟩
 · have esl:WP (eV 0) (jM (eC (.int 6))) (jM (eC (.int 66))) [some (.lst (ns.map Dt.int)),some (.ref a),some (.int sc),some (.int 2),some (.ref h.length),some (.int 0),none,none,none] (h++[.lst []])=some (.lst (ms.map Dt.int),h++[.lst []]):=by simp[ec]
   have ew':zC (DA 6) uI (ms.map Dt.int) [some (.lst (ns.map Dt.int)),some (.ref a),some (.int sc),some (.int 2),some (.ref h.length),some (.int 0),none,none,none] (h++[.lst []])=some (.nx [some (.lst (ns.map Dt.int)),some (.ref a),some (.int sc),some (.int 2),some (.ref h.length),some (.int gr'),z6,z7,z8] h'):=ew;simp only[xJ,bR,rB,zfH,zfI,if_true,zfJ,zfK,Nat.reduceAdd,Nat.reduceSub,replicate,zfQ,zfP,OA,YA,aG,KA,xA,iA,zxB,zfM,zfL,QA,ND,CD,esl,OH,lG,ew',yB,oA,zfF,zfG,pA,BB]
 · have nl:=(zfR q).1;exact U2.2 n xs (by omega) ((Up.app h _).get q)
theorem M4:decide ((("open" :Str))=(("open" :Str)))=true:=decide_eq_true rfl
theorem A4:decide ((("laid" :Str))=(("open" :Str)))=false:=by decide +kernel
theorem T3:decide ((("clash" :Str))=(("open" :Str)))=false:=by decide +kernel
theorem K4:decide ((("open" :Str))=(("laid" :Str)))=false:=by decide +kernel
theorem Q3:decide ((("clash" :Str))=(("laid" :Str)))=false:=by decide +kernel
theorem p4:decide ((("laid" :Str))=(("clash" :Str)))=false:=by decide +kernel
theorem J4:decide ((("open" :Str))=(("clash" :Str)))=false:=by decide +kernel
noncomputable def xV:Wd->Wd->Bool
 | .opn,.opn=>true
 | .laid,.laid=>true
 | .clash,.clash=>true
 | _,_=>false
theorem R7(w v:Wd)(h:HI):lB (JH w) (JH v) h=some (.bl (xV w v),h):=by cases w<;>cases v<;>simp only[JH,vE,M4,A4,T3,K4,Q3,p4,J4,decide_true,xV]
theorem U7 {w:Wd} (hw:w≠.opn) (h:HI):GH false (JH w) (.tup [.str "laid", .str "clash"]) h=some (.bl true,h):=by
 have n1:¬((("laid" :Str))=(("clash" :Str))):=by decide +kernel
 cases w with
 | opn=>exact absurd rfl hw
 | laid=>simp[GH,JH,aE,cF,QD,OB,dM,oK]
 | clash=>simp[GH,JH,aE,cF,QD,OB,dM,oK]
theorem UZ{A:Ans}{lo c:Nat}{k:HI}{x:Dt}(q:zao lo k c A (.tup [JH A.wd,x])){s m:Nat}(hs:s<=m)(ho:A.wd=.opn->s=m)(h:HI):bH [.tup [JH A.wd,x,.int (s:Nat)],.int (m:Nat)] h=some (.bl true,h):=by
 have t1:∀xs,MG h (.tup xs)=some "tuple" :=fun Z=>rfl
 have t3:xM "tuple" "tuple" =true:=by decide
 have d3:decide ((3:Int)=3)=true:=rfl;have x2:∀a b:Dt,Kp [a,b,.int (s:Nat)] 2=some (.int (s:Nat)):=fun Z Z=>rfl
 have w0:(WdO:Dt)->True:=fun Z=>trivial
 by_cases z:A.wd=.opn
 · cases A with
   | opn=>
    have hx:x=.non:=by
     have q':Dt.tup [JH (Ans.opn).wd,x]=.tup [.str "open", .non]:=q;injection q' with q1
     injection q1 with _ q2
     injection q2
    have e:s=m:=ho rfl;subst hx e;have dm:decide (((s:Nat):Int)=(s:Int))=true:=decide_eq_true rfl;simp only[bH,wN,rB,zfH,zfI,if_true,zfJ,zfK,Nat.reduceAdd,Nat.reduceSub,replicate,zfW,OA,dB,QI,GG,NA,uP,oA,xA,yA,RC,zfF,zfG,pA,iA,t1,t3,zfN,VA,Bool.not_true,zfX,if_false,DU,Int.cast_ofNat_Int,kJ,decide_true,gB,UA,KA,QB,x2,aU,dC,QA,YB,ID,Ans.wd,JH,vE,yB,QU,YH,jJ,rT,PD,aF,BB]
   | laid t=>cases z
   | clash tr=>cases z
 · have il:=U7 z h;have we:=R7 A.wd .opn h;have ws:xV A.wd .opn=false:=by
    cases A with
    | opn=>exact absurd rfl z
    | laid t=>rfl
    | clash tr=>rfl
   rw[ws]at we;generalize JH A.wd=W at il we q;have we':lB W (.str "open") h=some (.bl false,h):=we;have c1:decide ((0:Int)<=((s:Nat):Int))=true:=decide_eq_true (by omega);have c2:decide (((s:Nat):Int)<=((m:Nat):Int))=true:=decide_eq_true (by omega);simp only[bH,wN,rB,zfH,zfI,if_true,zfJ,zfK,Nat.reduceAdd,Nat.reduceSub,replicate,zfW,OA,dB,QI,GG,NA,uP,oA,xA,yA,RC,zfF,zfG,pA,iA,t1,t3,zfN,VA,Bool.not_true,zfX,if_false,DU,Int.cast_ofNat_Int,kJ,decide_true,gB,UA,KA,QB,x2,aU,dC,QA,YB,ID,we',yB,QU,IE,FP,il,rT,Dg,eQ,c1,c2,Kf,BB]
theorem oU{c k:Nat}(u:Nat->Int)(hk:k<c):(UB c u)[k]?=some (rF (mB u k)):=by simp[UB,hk,rF,mB]
theorem lX{s:Nat->Int×Int}:∀(g:List JB)(k0 k:Nat),(∀(i:Nat) m,g[i]?=some m->dE s m=decide (k0+i=k))->(g.map (dE s)).countP (· ==true)=if k0<=k/\k<k0+g.length then 1 else 0
 | [],k0,k,_=>by rw[if_neg (show ¬(k0<=k/\k<k0+([]:List JB).length) by simp)];rfl
 | m::g,k0,k,H=>by
  have h0:=H 0 m rfl;have ih:=lX g (k0+1) k (fun i x hx=>by rw[H (i+1) x (by simpa using hx)];congr 1;rw[show k0+(i+1)=k0+1+i by omega]);rw[zfJ,countP_cons,ih,h0,zfH];by_cases z:k0=k
  · have A:¬(k0+1<=k/\k<k0+1+g.length):=by omega
    have B:k0<=k/\k<k0+(g.length+1):=by omega
    have C:decide (k0+0=k)=true:=decide_eq_true (by omega);rw[if_neg A,if_pos B,C];rfl
  · have C:decide (k0+0=k)=false:=decide_eq_false (by omega);by_cases y:k0+1<=k/\k<k0+1+g.length
    · have B:k0<=k/\k<k0+(g.length+1):=by omega
      rw[if_pos y,if_pos B,C];rfl
    · have B:¬(k0<=k/\k<k0+(g.length+1)):=by omega
      rw[if_neg y,if_neg B,C];rfl
theorem bS(n:Nat):wI (n+1)=cC 3 4 (vI (wI n)):=rfl
theorem FW{c:Nat}{u:Nat->Int}(ok:∀i,i<c->dD (mB u i)){m:JB}(hm:kD c m)(n:Nat)(G:Int)(h:HI):wI (n+1) [AA m,.lst (UB c u),.int G] h=some (.bl (dE (mB u) m),h):=by
 obtain⟨a,b,d,e⟩:=hm;have p1:=oU u a;have p2:=oU u b;have ew:=fun h=>XO (ok _ a) (ok _ b) h
 have bt:=GO m.2.1 (RB (mB u m.1) (mB u m.2.2));have m0:∀k:HI,rA (AA m) (.int 0) k=some (.str "ways",k):=fun Z=>rfl
 have m1:∀k:HI,rA (AA m) (.int 1) k=some (.int (m.1:Nat),k):=fun Z=>rfl
 have m2:∀k:HI,rA (AA m) (.int 2) k=some (.int (m.2.1:Nat),k):=fun Z=>rfl
 have m3:∀k:HI,rA (AA m) (.int 3) k=some (.int (m.2.2:Nat),k):=fun Z=>rfl
 have sr:=fun(h:HI)=>qP (h:=h) (i:=(m.2.1:Int)) (show(0:Int)<=((RB (mB u m.1) (mB u m.2.2):Nat):Int) by omega)
 rw[bS];simp only[vI,rB,zfH,zfI,if_true,zfJ,zfK,Nat.reduceAdd,Nat.reduceSub,replicate,zfQ,zfP,OA,dB,NA,yA,oA,xA,zfF,zfG,pA,iA,m0,vE,decide_true,VA,yB,m2,gB,UA,KA,m1,m3,bK,SM.ZC,p1,p2,zfN,zfW,ew,sr,zxE,sH,PD,bt,aF,BB];rfl
def Y0(c:Nat)(u:Nat->Int):Fact->Prop
 | .ways m=>kD c m/\dE (mB u) m=true
 | .long x=>x.1<c/\x.2.1*((2*c+1:Nat):Int)<=u (2*x.1+1)-u (2*x.1)/\u (2*x.1+1)-u (2*x.1)<=x.2.2*((2*c+1:Nat):Int)
 | .one g=>(∀m∈g,kD c m)/\WL (mB u) g/\g.length<=6
theorem ig{c:Nat}(hc:c<=100){u:Nat->Int}(ok:∀i,i<c->dD (mB u i)){f:Fact}{d:Dt}{h:HI}(q:El h d f)(k:Y0 c u f):wI 3 [d,.lst (UB c u),.int ((2*c+1:Nat):Int)] h=some (.bl true,h):=by
 cases f with
 | ways m=>rw[show d=AA m from q,FW ok k.1 2,k.2]
 | long x=>
  obtain⟨k1,k2,k3⟩:=k;have qd:d=.tup [.str "long", .int (x.1:Nat),.int x.2.1,.int x.2.2]:=q;subst qd;have p1:=oU u k1;have m2:∀a b c d:Dt,Kp [a,b,c,d] 2=some c:=fun Z Z Z Z=>rfl
  have m3:∀a b c d:Dt,Kp [a,b,c,d] 3=some d:=fun Z Z Z Z=>rfl
  have um:=fun(i:Int) (h:HI)=>xE (h:=h) (i:=i) (j:=((2*c+1:Nat):Int)) (Or.inr ⟨by omega,by omega⟩)
  have c1:decide (x.2.1*((2*c+1:Nat):Int)<=u (2*x.1+1)-u (2*x.1))=true:=decide_eq_true k2;have c2:decide (u (2*x.1+1)-u (2*x.1)<=x.2.2*((2*c+1:Nat):Int))=true:=decide_eq_true k3;rw[bS];simp only[vI,rB,zfH,zfI,if_true,zfJ,zfK,Nat.reduceAdd,Nat.reduceSub,replicate,zfQ,zfP,OA,YA,dB,NA,yA,oA,xA,zfF,zfG,pA,iA,QB,YB,ID,zfN,vE,Ld,decide_true,VA,zfX,if_false,dC,QA,bK,SM.ZC,p1,rF,mB,wG,zfM,zfL,yB,QU,m2,m3,um,eQ,c1,rT,c2,aF,BB]
 | one g=>
  obtain⟨gd,rfl,n,rfl,hn⟩:=q;obtain⟨g1,⟨k,kl,H⟩,g3⟩:=k;have ck:=vS (te:=WQ (wI 2)) (i:=0) AA (fun m=>Dt.bl (dE (mB u) m)) g [none,some (.lst (UB c u)),some (.int ((2*c+1:Nat):Int))] h hn (by simp[sizeLine];omega) (by
   intro m hm;simp only[WQ,gB,UA,KA,oA,zfL,zfF,zfG,pA,iA,zfW,FW ok (g1 m hm) 1])
  have eb:g.map (fun m=>Dt.bl (dE (mB u) m))=(g.map (dE (mB u))).map Dt.bl:=by rw[map_map];rfl
  rw[eb]at ck;have cn:=lX g 0 k (fun i m hm=>by rw[H i m hm,zxI]);rw[if_pos (by omega)]at cn;have cb:=fun(l:LI)=>Cv (l:=l) (h:=h) (fb:=eC (.bl true)) (bs:=g.map (dE (mB u))) (b:=true) rfl
  rw[cn]at cb;have d1:decide (((1:Nat):Int)=1)=true:=rfl;rw[bS];simp only[vI,rB,zfH,zfI,if_true,zfJ,zfK,Nat.reduceAdd,Nat.reduceSub,replicate,zfQ,zfP,OA,YA,dB,NA,yA,oA,xA,zfF,zfG,pA,iA,QB,YB,ID,zfN,vE,Sd,Qd,VA,zfX,if_false,dC,QA,yB,Tw,rG,CD,jE hn,KF,LJ,MF,Option.join_some,ck,cb,PD,d1,BB]
theorem xq{c:Nat}(hc:1<=c){t:Nat->Int}(ok:∀i,i<c->dD (mB t i)):(range c).map (fun k=>eB (2*c) t (2*k)) ≠ []/\fC ((range c).map fun k=>eB (2*c) t (2*k))=0:=by
 obtain⟨m1,m2⟩:=Rx (n:=2*c) (by omega) t;have ne:(range c).map (fun k=>eB (2*c) t (2*k)) ≠ []:=fun z=>by have:=congrArg List.length z;simp at this;omega
 refine⟨ne,?_⟩;obtain⟨a1,a2⟩:=fH _ m1;obtain⟨b1,b2⟩:=fH _ ne;rw[m2]at a1 a2;obtain⟨p,hp,ep⟩:=mem_map.mp a1;obtain⟨k,hk,ek⟩:=mem_map.mp b1;have hp:=mem_range.mp hp;have hk:=mem_range.mp hk;have c1:=a2 (eB (2*c) t (2*k)) (mem_map_of_mem (mem_range.mpr (by omega)));have c2:=b2 (eB (2*c) t (2*(p/2))) (mem_map.mpr ⟨p/2,mem_range.mpr (by omega),rfl⟩);have c3:eB (2*c) t (2*(p/2))<=eB (2*c) t p:=by
  rcases(show p=2*(p/2)\/p=2*(p/2)+1 by omega)with z | z
  · rw[<- z];exact Int.le_refl _
  · have o:=ok (p/2) (by omega);have o':t (2*(p/2))<t (2*(p/2)+1):=o;rw[<- z]at o';unfold eB;omega
 omega
theorem nT{c:Nat}{t:Nat->Int}(n:Nat)(ok:∀i,i<c->dD (mB t i)):∀i,i<c->dD (mB (eB n t) i):=fun i hi=>by have:t (2*i)<t (2*i+1):=ok i hi;show eB n t (2*i)<eB n t (2*i+1);unfold eB;omega
theorem TZ{c:Nat}(hc1:1<=c)(hc:c<=100){t:Nat->Int}(ok:∀i,i<c->dD (mB t i))(h:HI):vJ [.lst (UB c (eB (2*c) t)),.int (c:Nat)] h=some (.bl true,h):=by
 have oks:=nT (2*c) ok;obtain⟨s1,s2⟩:=xq hc1 ok;generalize eB (2*c) t=u at oks s1 s2;have pl:(UB c u).length=c:=by simp[UB]
 obtain⟨l',h',e,⟨y,rfl⟩,hh⟩:=xg (i:=2) (body:=pN) (fun k:Nat=>Dt.tup [.int (u (2*k)),.int (u (2*k+1))]) (fun l h'=>(∃y,l=[some (.lst (UB c u)),some (.int (c:Nat)),y])/\h'=h) (range c) (by
  rintro k hk l h' ⟨⟨y,rfl⟩,rfl⟩;have o:u (2*k)<u (2*k+1):=oks k (mem_range.mp hk);have d2:decide (((2:Nat):Int)=2)=true:=rfl;have dg:decide (u (2*k+1)<=u (2*k))=false:=decide_eq_false (by omega);have t1:∀xs,MG h' (.tup xs)=some "tuple" :=fun Z=>rfl
  have t3:xM "tuple" "tuple" =true:=by decide
  refine⟨.nx [some (.lst (UB c u)),some (.int (c:Nat)),some (.tup [.int (u (2*k)),.int (u (2*k+1))])] h',?_,⟨_,rfl⟩,rfl⟩;simp only[pN,OA,dB,QI,GG,NA,uP,yA,oA,xA,RC,zfM,zfL,zfF,zfG,pA,iA,t1,t3,zfN,VA,Bool.not_true,zfX,if_false,DU,zfH,zfI,Nat.reduceAdd,Int.cast_ofNat_Int,kJ,decide_true,gB,UA,KA,QB,YB,ID,zfW,aU,dC,QA,DM,dg]) [some (.lst (UB c u)),some (.int (c:Nat)),none] h ⟨⟨_,rfl⟩,rfl⟩
 rw[hh]at e;have e':zC (DA 2) pN (UB c u) [some (.lst (UB c u)),some (.int (c:Nat)),none] h=some (.nx [some (.lst (UB c u)),some (.int (c:Nat)),y] h):=e;have ca:=PH (te:=uN) (i:=0) (tc:=VB) (fun k:Nat=>Dt.tup [.int (u (2*k)),.int (u (2*k+1))]) (fun k=>Dt.int (u (2*k))) h (range c) [none] (by
  intro k Z;exact⟨by simp,rfl⟩)
 have ck:=YF (l:=[none]) (h:=h) (DA 0) VB uN (xs:=UB c u) (by rw[pl];simp[sizeLine];omega);have ca':uE (DA 0) VB uN (UB c u) [none] h=some (((range c).map fun k=>u (2*k)).map Dt.int,h):=by rw[map_map];exact ca
 rw[ca']at ck;have fm:=XU (h:=h) s1;rw[s2]at fm;have t2:∀xs,MG h (.lst xs)=some "list" :=fun Z=>rfl
 have t4:xM "list" "list" =true:=by decide
 simp only[vJ,FR,rB,zfH,zfI,if_true,zfJ,zfK,Nat.reduceAdd,Nat.reduceSub,replicate,zfQ,zfP,OA,dB,QI,GG,NA,uP,yA,oA,xA,RC,zfF,zfG,pA,iA,t2,t4,zfN,VA,Bool.not_true,zfX,if_false,CU,pl,kJ,decide_true,dC,QA,ND,CD,OH,lG,e',yB,rG,KF,MF,ck,fm,PD,BB]
theorem OZ(m:Nat):∀(xs:List Nat)(a:Nat),((xs.foldl (fun a x=>if m.testBit x=true then a+2^(12-x)else a) a:Nat):Int)=a+((xs.filter fun x=>m.testBit x).map fun k=>(2:Int)^(12-k)).sum
 | [],a=>by simp
 | x::xs,a=>by
  rw[foldl_cons,OZ m xs,filter_cons];by_cases q:m.testBit x=true
  · rw[if_pos q,if_pos q,zfJ,sum_cons];have:((a+2^(12-x):Nat):Int)=a+(2:Int)^(12-x):=by simp
    omega
  · rw[if_neg q,if_neg q]
theorem Ft(m:Nat):(range 13).foldl (fun a x=>if m.testBit x=true then a+2^(12-x)else a) 0=Dl m:=by have:=OZ m (range 13) 0;rw[UY]at this;have e:mk (fun j=>m.testBit (12-j))=Dl m:=rfl;rw[e]at this;omega
theorem jz(m:Nat)(h:HI):vN [.int m] h=some (.int (Dl m),h):=by
 obtain⟨l',h',e,⟨z,rfl⟩,rfl⟩:=IS (i:=2) (body:=aN) (fun(k:Nat)=>Dt.int (k:Int)) (fun(a:Nat) l h'=>(∃z,l=[some (.int m),some (.int a),z])/\h'=h) (fun a x=>if m.testBit x=true then a+2^(12-x)else a) (range 13) (by
  rintro k hk a l h ⟨⟨z,rfl⟩,rfl⟩;have hk:=mem_range.mp hk;have ep:(12-(k:Int))=((12-k:Nat):Int):=by omega
  have s1:=cK (h:=h) (fJ (show 12-k<13 by omega));simp only[zxE]at s1;have b:=GO m k;refine⟨.nx [some (.int m),some (.int ((if m.testBit k=true then a+2^(12-k)else a:Nat):Nat)),some (.int k)] h,?_,⟨_,rfl⟩,rfl⟩;simp only[aN,dB,NA,yA,oA,xA,zfL,zfM,zfF,zfG,pA,iA,qP (show(0:Int)<=(k:Int) by omega),zxE,sH,PD,VA,b,ep,wG,s1,YA,nE,Int.one_mul,dC];by_cases hb:m.testBit k=true<;>simp[hb]) 0 [some (.int m),some (.int 0),none] h ⟨⟨none,rfl⟩,rfl⟩
 rw[Ft]at e;have e':zC (DA 2) aN (List.map (fun(k:Nat)=>Dt.int (k:Int)) (range 13)) [some (.int m),some (.int 0),none] h'=some (.nx [some (.int m),some (.int (Dl m)),z] h'):=e;simp[vN,qR,N4,e']
theorem SZ(m:JB)(h:HI):zI [AA m] h=some (.int (sM m:Nat),h):=by
 have t:=jz m.2.1 h;by_cases z:m.1=0
 · simp[zI,BN,AA,sM,z]
 · simp[zI,BN,AA,sM,z,t]
noncomputable def GF:Fact->Bool
 | .ways m=>decide (m.1+m.2.2=1)
 | .long _=>false
 | .one g=>g.all fun m=>decide (m.1+m.2.2=1)
theorem cO:∀{fs:List Fact}{g:List JB},Fact.one g∈fs->g∈XA fs
 | f::fs,g,h=>by
  rcases mem_cons.mp h with rfl | h
  · simp[XA]
  · have:=cO h;cases f<;>simp[XA,this]
theorem SL{bd:RG}{n:Nat}{body:RS}(ds:List Dt)(I:Nat->LI->HI->Prop)(hI:∀k l h,I k l h->h[n]?=some (.lst ds))
 (H:∀k d,ds[k]?=some d->∀l h,I k l h->∃l1 l2 h2,bd d l=some l1/\body l1 h=some (.nx l2 h2)/\I (k+1) l2 h2):∀l h,I 0 l h->∃l' h',yE bd body l (.rf n,h)=some (.nx l' h')/\I ds.length l' h':=by
 have go:∀(f k:Nat)(l:LI)(h:HI),I k l h->f=ds.length-k+1->k<=ds.length->∃l' h',kC bd body (.rf n) f k l h=some (.nx l' h')/\I ds.length l' h':=by
  intro f
  induction f with
  | zero=>intro k l h Z e;omega
  | succ f ih=>
   intro k l h i hf hk;have e:=hI k l h i;by_cases hlt:k<ds.length
   · have ek:ds[k]?=some ds[k]:=getElem?_eq_getElem hlt;obtain⟨l1,l2,h2,e1,e2,p⟩:=H k ds[k] ek l h i;have eu:kC bd body (.rf n) (f+1) k l h=jB (body l1 h) (DP (kC bd body (.rf n) f (k+1))):=by
      simp only[kC,Src.at,e,ek,e1,zfO];cases body l1 h with
      | none=>rfl
      | some r=>cases r<;>rfl
     rw[eu,e2,iA];exact ih (k+1) l2 h2 p (by omega) hlt
   · obtain rfl:k=ds.length:=by omega
     have ek:ds[ds.length]?=none:=getElem?_eq_none (zfU _);exact⟨l,h,by simp only[kC,Src.at,e,ek],i⟩
 intro l h i;obtain⟨l',h',e1,e2⟩:=go (ds.length+1) 0 l h i (by omega) (zxB _);refine⟨l',h',?_,e2⟩;show kC bd body (.rf n) (Src.fuel (.rf n) h) 0 l h=_;have ef:Src.fuel (.rf n) h=ds.length+1:=by simp only[Src.fuel,hI 0 l h i]
 rw[ef];exact e1
theorem wg{h:HI}{a b:Nat}{d:Dt}{f:Fact}{acc:List Dt}(y:Option Dt)(F:El h d f)(hs:∀g,f=.one g->g.length<=6)(hb:h[b]?=some (.lst acc))(hn:acc.length<=1000) :
 ∃h',MH [some (.ref a),some (.ref b),some d] h=some (.nx [some (.ref a),some (.ref b),some d] h')/\JV b h h'/\
  ((GF f=false/\h'=h)\/(GF f=true/\∃d',h'[b]?=some (.lst (acc++[d']))/\Lp h.length h' d' f)):=by
 have bl:=(zfR hb).1;have szl:acc.length<sizeLine:=by simp[sizeLine];omega
 have n1:¬(("long" :Str) = "ways"):=by decide
 have n2:¬(("long" :Str) = "one"):=by decide
 have n3:¬(("ways" :Str) = "one"):=by decide
 have n4:¬(("one" :Str) = "ways"):=by decide
 cases f with
 | long x=>cases F;exact⟨h,by simp[MH,n1,n2],⟨zfU _,fun Z Z Z q=>q⟩,.inl ⟨rfl,rfl⟩⟩
 | ways m=>
  cases F;have dq:decide (((m.1:Nat):Int)+((m.2.2:Nat):Int)=1)=decide (m.1+m.2.2=1):=by
   by_cases z:m.1+m.2.2=1
   · rw[decide_eq_true z,decide_eq_true (by omega)]
   · rw[decide_eq_false z,decide_eq_false (by omega)]
  by_cases z:m.1+m.2.2=1
  · have q:=decide_eq_true z;rw[q]at dq;refine⟨h.set b (.lst (acc++[AA m])),?_,⟨by simp,fun n xs hn q=>by rw[getElem?_set_ne (Ne.symm hn)];exact q⟩,.inr ⟨q,AA m,by rw[getElem?_set_self bl],rfl⟩⟩;have ap:=SE (l:=[some (.ref a),some (.ref b),some (AA m)]) (h:=h) (h':=h) (g:=eV 2) (d:=AA m) hb rfl hb szl;have c1:rA (AA m) (.int 0) h=some (.str "ways",h):=rfl;have c2:rA (AA m) (.int 1) h=some (.int (m.1:Nat),h):=rfl;have c3:rA (AA m) (.int 3) h=some (.int (m.2.2:Nat),h):=rfl;have c1':∀h,rA (AA m) (.int 0) h=some (.str "ways",h):=fun Z=>rfl
    simp[MH,c1,c2,c3,c1',dq,ap,n3]
  · have q:=decide_eq_false z;rw[q]at dq;refine⟨h,?_,⟨zfU _,fun Z Z Z q=>q⟩,.inl ⟨q,rfl⟩⟩;have c1:rA (AA m) (.int 0) h=some (.str "ways",h):=rfl;have c2:rA (AA m) (.int 1) h=some (.int (m.1:Nat),h):=rfl;have c3:rA (AA m) (.int 3) h=some (.int (m.2.2:Nat),h):=rfl;simp[MH,c1,c2,c3,dq,n3]
 | one g=>
  obtain⟨gd,rfl,n,rfl,hg⟩:=F;have gl:=hs g rfl;have gz:g.length<sizeLine:=by simp[sizeLine];omega
  have ec:=vS (te:=rQ) (i:=0) (n:=n) AA (fun m=>.bl (decide (m.1+m.2.2=1))) g [none] h hg gz (by
   intro m Z;have dq:decide (((m.1:Nat):Int)+((m.2.2:Nat):Int)=1)=decide (m.1+m.2.2=1):=by
    by_cases z:m.1+m.2.2=1
    · rw[decide_eq_true z,decide_eq_true (by omega)]
    · rw[decide_eq_false z,decide_eq_false (by omega)]
   have c2:rA (AA m) (.int 1) h=some (.int (m.1:Nat),h):=rfl;have c3:rA (AA m) (.int 3) h=some (.int (m.2.2:Nat),h):=rfl;simp[rQ,c2,c3,dq])
  have fa:=A5 (h:=h) (g.map fun m=>decide (m.1+m.2.2=1));rw[map_map,all_map]at fa;have fa':qK (.lst (g.map fun m=>Dt.bl (decide (m.1+m.2.2=1)))) h=some (.bl (GF (.one g)),h):=fa;by_cases z:GF (.one g)=true
  · rw[z]at fa';refine⟨(h++[Ob.lst (g.map AA)]).set b (Ob.lst (acc++[Dt.tup [.str "one", .ref h.length]])),?_,⟨by simp,fun k xs hk q=>by rw[getElem?_set_ne (Ne.symm hk)];exact(Up.app h _).get q⟩,.inr ⟨z,_,by rw[getElem?_set_self (by simp;omega)],h.length,rfl,zfU _,by rw[getElem?_set_ne (by omega)];simp,gl⟩⟩;have fl:ZE (.ref n) h=some (.ref h.length,h++[.lst (g.map AA)]):=by simp only[ZE,QD,OB,hg,zfN]
    have ap:=SE (l:=[some (.ref a),some (.ref b),some (.tup [.str "one", .ref n])]) (h:=h) (h':=h++[.lst (g.map AA)]) (g:=aB (bA (eC (.str "one")) (bA (UC ZE (e2 rA (eV 2) (eC (.int 1)))) (eA)))) (d:=.tup [.str "one", .ref h.length]) hb (by simp[fl]) (by rw[zfS bl];exact hb) szl;have t1:lB (.str "one") (.str "ways") h=some (.bl false,h):=rfl;have t2:lB (.str "one") (.str "one") h=some (.bl true,h):=rfl;have c1:rA (.tup [.str "one", .ref n]) (.int 0) h=some (.str "one",h):=rfl;have c2:rA (.tup [.str "one", .ref n]) (.int 1) h=some (.ref n,h):=rfl;simp only[MH,OA,dB,OO,NA,yA,oA,xA,zfF,zfG,pA,iA,c1,t1,VA,zfX,if_false,dC,QA,t2,if_true,RC,rG,wF,zfJ,zfK,CD,c2,jE hg,ec,fa',RD,BE,ap]
  · have z:GF (.one g)=false:=by simpa using z
    rw[z]at fa';refine⟨h,?_,⟨zfU _,fun Z Z Z q=>q⟩,.inl ⟨z,rfl⟩⟩;simp[MH,jE hg,ec,fa',n4]
theorem uY{h:HI}{a:Nat}{ds:List Dt}{fs:List Fact}(ha:h[a]?=some (.lst ds))(D:Gm h ds fs)(hs:∀g∈XA fs,g.length<=6)(hl:fs.length<=1000) :
 ∃ds' h',RK [.ref a] h=some (.ref h.length,h')/\h'[h.length]?=some (.lst ds')/\Qm (h.length+1) h' ds' (fs.filter GF)/\Np h h':=by
 have al:=(zfR ha).1;have zd7:∀(k:Nat) g,fs[k]?=some (.one g)->g.length<=6:=fun k g hk=>hs g (cO (mem_of_getElem? hk))
 obtain⟨l',h',e,⟨y,acc,rfl,hb,F,U⟩⟩:=SL (bd:=DA 2) (n:=a) (body:=MH) ds (fun k l h'=>∃y acc,l=[some (.ref a),some (.ref h.length),y]/\h'[h.length]?=some (.lst acc)/\Qm (h.length+1) h' acc ((fs.take k).filter GF)/\JV h.length h h') (by
  rintro k l h' ⟨y,acc,rfl,hb,F,U⟩;exact U.2 _ _ (by omega) ha) (by
  rintro k d hd l h1 ⟨y,acc,rfl,hb,F,U⟩;obtain⟨f,hf,fa⟩:=D.get hd;have kl:=(zfR hf).1;have ul:Np h h1:=⟨U.1,fun n xs q=>U.2 n xs (by have:=(zfR q).1;omega) q⟩;have an:acc.length<=1000:=by have:=F.at.len;have:=length_filter_le GF (fs.take k);have:=length_take_le k fs;omega
  obtain⟨h2,eb,u2,ch⟩:=wg (a:=a) y (fa.up ul) (fun g hg=>zd7 k g (by rw[hf,hg])) hb an;have tk:fs.take (k+1)=fs.take k++[f]:=by rw[take_add_one,hf];rfl
  have ut:JV h.length h h2:=⟨zxA U.1 u2.1,fun n xs hn q=>u2.2 n xs hn (U.2 n xs hn q)⟩;refine⟨_,_,h2,rfl,eb,?_⟩;rcases ch with⟨z,rfl⟩ | ⟨z,d',hb',fl⟩
  · refine⟨_,acc,rfl,hb,?_,ut⟩;rw[tk,filter_append,filter_cons,z];simpa using F
  · refine⟨_,acc++[d'],rfl,hb',?_,ut⟩;rw[tk,filter_append,filter_cons,z];exact(F.up (zfU _) (fun n xs hn q=>u2.2 n xs (by omega) q)).snoc (fl.up (by have:=(zfR hb).1;omega) (fun n xs hn q=>q))) [some (.ref a),some (.ref h.length),none] (h++[.lst []]) ⟨none,[],rfl,by simp,by simpa using Qm.nil,by simp,fun n xs hn q=>(Up.app h _).get q⟩
 refine⟨acc,h',?_,hb,?_,U.1,fun n xs q=>U.2 n xs (by have:=(zfR q).1;omega) q⟩
 · have sk:YG (.ref a,h++[.lst []])=some (.rf a,h++[.lst []]):=jE (by rw[zfS al];exact ha);simp[RK,pR,sk,e]
 · rw[D.len,take_length]at F;exact F
def gE(g:List JB)(M:Nat):List Nat:=((range g.length).map fun k=>mC M k g 0).filter fun x=>decide (0<x)
def uH:List (List JB)->List Nat->List Nat
 | [],L=>L
 | g::gs,L=>uH gs (L.flatMap (gE g))
theorem LS{gs:List (List JB)}(f:Nat->Nat):∀xs:List Nat,((xs.map f).filter fun x=>decide (0<x)).findSome? (bG gs)=xs.findSome? fun k=>bG gs (f k)
 | []=>rfl
 | x::xs=>by
  rw[zfJ,filter_cons,findSome?_cons];by_cases z:0<f x
  · rw[if_pos (decide_eq_true z),findSome?_cons,LS f xs]
  · have e:f x=0:=by omega
    have d0:bG gs (f x)=none:=by rw[e];cases gs<;>simp[bG]
    rw[if_neg (by simp[z]),d0,LS f xs]
theorem zX{g:List JB}{gs:List (List JB)}:∀L:List Nat,(∀M∈L,M≠0)->(L.flatMap (gE g)).findSome? (bG gs)=L.findSome? (bG (g::gs))
 | [],_=>rfl
 | M::L,h=>by
  rw[flatMap_cons,findSome?_append,findSome?_cons,zX L fun x hx=>h x (by simp[hx])];have e:bG (g::gs) M=(gE g M).findSome? (bG gs):=by rw[gE,LS,bG,if_neg (h M (by simp))]
  rw[e];cases (gE g M).findSome? (bG gs)<;>rfl
theorem qt{g:List JB}{M x:Nat}(h:x∈gE g M):x≠0:=by have:=(mem_filter.mp h).2;simp at this;omega
theorem KY:∀(gs:List (List JB))(L:List Nat),(∀M∈L,M≠0)->(uH gs L).head?=L.findSome? (bG gs)
 | [],[],_=>rfl
 | [],M::L,h=>by have:=h M (by simp);simp[uH,bG,this]
 | g::gs,L,h=>by rw[uH,KY gs _ (fun M hM=>by obtain⟨x,Z,hx⟩:=mem_flatMap.mp hM;exact qt hx),zX L h]
def TC(M:Nat):List Fact->Nat
 | []=>M
 | .ways m::fs=>TC (M&&&sM m) fs
 | _::fs=>TC M fs
theorem SW:∀(fs:List Fact)(M:Nat)(f:Fact),TC M (fs++[f])=(match f with | .ways m=>TC M fs&&&sM m | _=>TC M fs)
 | [],M,f=>by cases f<;>rfl
 | x::fs,M,f=>by cases x<;>exact SW fs _ f
theorem gL:∀(fs:List Fact)(f:Fact),XA (fs++[f])=(match f with | .one g=>XA fs++[g] | _=>XA fs)
 | [],f=>by cases f<;>rfl
 | x::fs,f=>by have:=gL fs f;cases x<;>cases f<;>simp_all[XA]
theorem EX:∀(gs:List (List JB))(g:List JB)(L:List Nat),uH (gs++[g]) L=(uH gs L).flatMap (gE g)
 | [],g,L=>rfl
 | x::gs,g,L=>EX gs g _
theorem p7{m:JB}(h:m.2.1<8192):sM m<8192:=by
 unfold sM;split
 · exact h
 · exact oH _
theorem ZW(k:Nat):∀(ms:List JB)(m:JB)(p M:Nat),mC M k (ms++[m]) p=mC M k ms p&&&(if p+ms.length=k then sM m else notM (sM m))
 | [],m,p,M=>by simp[mC]
 | x::ms,m,p,M=>by show mC _ k (ms++[m]) (p+1)=mC _ k ms (p+1)&&&_;rw[ZW k ms m (p+1),zfH,show p+1+ms.length=p+(ms.length+1) by omega]
theorem Pg{x:Nat}(h:x<8192):(8191:Int)-(x:Nat)=((notM x:Nat):Int):=by unfold notM;omega
theorem Ak{h:HI}{n:Nat}{g:List JB}(hg:h[n]?=some (.lst (g.map AA)))(ok:∀m∈g,m.2.1<8192)(M c:Nat)(x0 x1 x2 x3 x4 y7 y8:Option Dt) :
 ∃y7' y8',yE (dF 7 8) HK [x0,x1,x2,x3,x4,some (.int (c:Nat)),some (.int (M:Nat)),y7,y8] (.en n,h)=some (.nx [x0,x1,x2,x3,x4,some (.int (c:Nat)),some (.int (mC M c g 0:Nat)),y7',y8'] h):=by
 obtain⟨l',h',e,⟨y7',y8',rfl⟩,rfl⟩:=C1 (i:=7) (j:=8) (n:=n) (body:=HK) AA (fun k l h'=>(∃y7 y8,l=[x0,x1,x2,x3,x4,some (.int (c:Nat)),some (.int (mC M c (g.take k) 0:Nat)),y7,y8])/\h'=h) g (by rintro k l h' ⟨_,rfl⟩;exact hg) (by
  rintro k m hm l h' ⟨⟨y7,y8,rfl⟩,rfl⟩;have kl:k<g.length:=(zfR hm).1;have lt:=ok m (mem_of_getElem? hm);have eq:mC M c (g.take (k+1)) 0=mC M c (g.take k) 0&&&(if k=c then sM m else notM (sM m)):=by rw[DJ hm,ZW,WY (by omega),zxI]
  have es:=fun h=>SZ m h
  refine⟨.nx [x0,x1,x2,x3,x4,some (.int (c:Nat)),some (.int (mC M c (g.take (k+1)) 0:Nat)),some (.int (k:Nat)),some (AA m)] h',?_,⟨_,_,rfl⟩,rfl⟩;rw[eq];by_cases z:k=c
  · have dd:decide (((k:Nat):Int)=((c:Nat):Int))=true:=decide_eq_true (by omega);simp only[HK,YA,vP,NA,yA,oA,xA,zfM,zfL,zfF,zfG,pA,iA,PD,dd,VA,if_true,gB,UA,KA,zfW,es,sH,KJ,if_pos z]
  · have dd:decide (((k:Nat):Int)=((c:Nat):Int))=false:=decide_eq_false (by omega);simp only[HK,YA,vP,NA,yA,oA,xA,zfM,zfL,zfF,zfG,pA,iA,PD,dd,VA,zfX,if_false,gB,UA,KA,zfW,es,wG,Pg (p7 lt),sH,KJ,if_neg z]) [x0,x1,x2,x3,x4,some (.int (c:Nat)),some (.int (M:Nat)),y7,y8] h ⟨⟨_,_,rfl⟩,rfl⟩
 rw[take_length]at e;exact⟨y7',y8',e⟩
theorem FZ(h:HI)(o o':Ob):(h++[o]).set h.length o'=h++[o']:=by simp
theorem mT{h:HI}{r:Nat}{o:Ob}(hr:h[r]?=some o):h.set r o=h:=by
 apply ext_getElem?;intro k;by_cases z:r=k
 · subst z;rw[getElem?_set_self (zfR hr).1,hr]
 · rw[getElem?_set_ne z]
theorem Jr{h:HI}{n r:Nat}{g:List JB}(nr:n≠r)(hg:h[n]?=some (.lst (g.map AA)))(ok:∀m∈g,m.2.1<8192)(M:Nat)(x0 x1 y5 y6 y7 y8:Option Dt)(acc:List Nat)(hr:h[r]?=some (.lst (acc.map fun(k:Nat)=>Dt.int (k:Int))))(hs:acc.length+g.length<=1000) :
 ∃y5' y6' y7' y8',VM [x0,x1,some (.tup [.str "one", .ref n]),some (.ref r),some (.int (M:Nat)),y5,y6,y7,y8] h=some (.nx [x0,x1,some (.tup [.str "one", .ref n]),some (.ref r),some (.int (M:Nat)),y5',y6',y7',y8'] (h.set r (.lst ((acc++gE g M).map fun(k:Nat)=>Dt.int (k:Int))))):=by
 have rl:=(zfR hr).1;have part:∀k,(((range g.length).take k).map fun c=>mC M c g 0).length<=g.length:=fun k=>by rw[length_map];exact zxA (length_take_le' k _) (by simp)
 obtain⟨l',h',e,⟨y5',y6',y7',y8',rfl⟩,rfl⟩:=PJ (i:=5) (body:=UM) (fun(k:Nat)=>Dt.int (k:Int)) (fun k l h'=>(∃y5 y6 y7 y8,l=[x0,x1,some (.tup [.str "one", .ref n]),some (.ref r),some (.int (M:Nat)),y5,y6,y7,y8])/\h'=h.set r (.lst ((acc++(((range g.length).take k).map fun c=>mC M c g 0).filter fun x=>decide (0<x)).map fun(k:Nat)=>Dt.int (k:Int)))) (range g.length) 0 (by
  rintro k c hc l h' ⟨⟨y5,y6,y7,y8,rfl⟩,rfl⟩;rw[zxI];have kl:k<(range g.length).length:=(zfR hc).1;have ec:c=k:=by have:=(zfR hc).2;simpa using this.symm
  subst ec;have tk:(range g.length).take (c+1)=(range g.length).take c++[c]:=by rw[take_add_one,hc];rfl
  have pl:=part c;generalize hA:(acc++(((range g.length).take c).map fun c=>mC M c g 0).filter fun x=>decide (0<x))=A;have Al:A.length<=1000:=by rw[<- hA,length_append];have:=length_filter_le (fun x=>decide (0<x)) (((range g.length).take c).map fun c=>mC M c g 0);omega
  have hg1:(h.set r (.lst (A.map fun(k:Nat)=>Dt.int (k:Int))))[n]?=some (.lst (g.map AA)):=by rw[getElem?_set_ne (Ne.symm nr)];exact hg
  have hr1:(h.set r (.lst (A.map fun(k:Nat)=>Dt.int (k:Int))))[r]?=some (.lst (A.map fun(k:Nat)=>Dt.int (k:Int))):=by rw[getElem?_set_self rl]
  obtain⟨z7,z8,ei⟩:=Ak hg1 ok M c x0 x1 (some (.tup [.str "one", .ref n])) (some (.ref r)) (some (.int (M:Nat))) y7 y8;have c2:∀h,rA (.tup [.str "one", .ref n]) (.int 1) h=some (.ref n,h):=fun Z=>rfl
  have nA:(acc++(((range g.length).take (c+1)).map fun c=>mC M c g 0).filter fun x=>decide (0<x))=if 0<mC M c g 0 then A++[mC M c g 0]else A:=by
   rw[tk,map_append,filter_append,<- append_assoc,hA,zfJ,zfK,filter_cons];by_cases z:0<mC M c g 0
   · rw[if_pos (decide_eq_true z),if_pos z];rfl
   · rw[if_neg (by simp[z]),if_neg z];simp
  rw[nA];by_cases z:0<mC M c g 0
  · have dd:decide ((0:Int)<((mC M c g 0:Nat):Int))=true:=decide_eq_true (by omega);have ap:=SE (l:=[x0,x1,some (.tup [.str "one", .ref n]),some (.ref r),some (.int (M:Nat)),some (.int (c:Nat)),some (.int (mC M c g 0:Nat)),z7,z8]) (g:=eV 6) (d:=.int (mC M c g 0:Nat)) hr1 rfl hr1 (by simp[sizeLine];omega);refine⟨.nx [x0,x1,some (.tup [.str "one", .ref n]),some (.ref r),some (.int (M:Nat)),some (.int (c:Nat)),some (.int (mC M c g 0:Nat)),z7,z8] (h.set r (.lst ((A++[mC M c g 0]).map fun(k:Nat)=>Dt.int (k:Int)))),?_,⟨_,_,_,_,rfl⟩,by rw[if_pos z]⟩;rw[set_set]at ap;simp only[UM,OA,YA,oA,zfM,zfL,zfF,zfG,pA,iA,QA,ND,qU,yA,xA,c2,kS hg1,ei,dB,NA,zK,dd,VA,if_true,RD,BE,ap,map_append,zfJ,zfK]
  · have dd:decide ((0:Int)<((mC M c g 0:Nat):Int))=false:=decide_eq_false (by omega);refine⟨.nx [x0,x1,some (.tup [.str "one", .ref n]),some (.ref r),some (.int (M:Nat)),some (.int (c:Nat)),some (.int (mC M c g 0:Nat)),z7,z8] (h.set r (.lst (A.map fun(k:Nat)=>Dt.int (k:Int)))),?_,⟨_,_,_,_,rfl⟩,by rw[if_neg z]⟩;simp only[UM,OA,YA,oA,zfM,zfL,zfF,zfG,pA,iA,QA,ND,qU,yA,xA,c2,kS hg1,ei,dB,NA,zK,dd,VA,zfX,if_false,dC]) [x0,x1,some (.tup [.str "one", .ref n]),some (.ref r),some (.int (M:Nat)),y5,y6,y7,y8] h ⟨⟨_,_,_,_,rfl⟩,by
    rw[take_zero,zfK,filter_nil,zfW];exact(mT hr).symm⟩
 refine⟨y5',y6',y7',y8',?_⟩;rw[zxI,take_length]at e;have c2:∀h,rA (.tup [.str "one", .ref n]) (.int 1) h=some (.ref n,h):=fun Z=>rfl
 have fl:EC (.ref n) h=some (.int (g.length:Nat),h):=by rw[rH hg,length_map]
 have er:=OF (h:=h) (show(-(2^62):Int)<=(g.length:Int) by omega) (show(g.length:Int)<2^62 by omega);simp only[zxE]at er;simp only[VM,ND,OI,RC,yA,oA,xA,zfF,zfG,pA,iA,c2,fl,er,lG,e,gE]
theorem wk{h:HI}{n q:Nat}{g:List JB}(hg:h[n]?=some (.lst (g.map AA)))(ok:∀m∈g,m.2.1<8192)(L:List Nat)(hq:h[q]?=some (.lst (L.map fun(k:Nat)=>Dt.int (k:Int))))(hs:L.length*g.length<=1000)(gl:g.length<=6)(x0 y3 y4 y5 y6 y7 y8:Option Dt) :
 ∃y4' y5' y6' y7' y8',rJ [x0,some (.ref q),some (.tup [.str "one", .ref n]),y3,y4,y5,y6,y7,y8] h=some (.nx [x0,some (.ref h.length),some (.tup [.str "one", .ref n]),some (.ref h.length),y4',y5',y6',y7',y8'] (h++[.lst ((L.flatMap (gE g)).map fun(k:Nat)=>Dt.int (k:Int))])):=by
 have nl:=(zfR hg).1;have ql:=(zfR hq).1;have kl:∀M,(gE g M).length<=g.length:=fun M=>zxA (length_filter_le _ _) (by simp)
 have fl:∀L:List Nat,(L.flatMap (gE g)).length<=L.length*g.length:=by
  intro L
  induction L with
  | nil=>simp
  | cons M L ih=>rw[flatMap_cons,length_append,zfH,Nat.succ_mul];have:=kl M;omega
 have hq1:∀o:Ob,(h++[o])[q]?=some (.lst (L.map fun(k:Nat)=>Dt.int (k:Int))):=fun o=>by rw[zfS ql];exact hq
 have hg1:∀o:Ob,(h++[o])[n]?=some (.lst (g.map AA)):=fun o=>by rw[zfS nl];exact hg
 obtain⟨l',h',e,⟨y4',y5',y6',y7',y8',rfl⟩,rfl⟩:=SL (bd:=DA 4) (n:=q) (body:=VM) (L.map fun(k:Nat)=>Dt.int (k:Int)) (fun k l h'=>(∃y4 y5 y6 y7 y8,l=[x0,some (.ref q),some (.tup [.str "one", .ref n]),some (.ref h.length),y4,y5,y6,y7,y8])/\h'=h++[.lst (((L.take k).flatMap (gE g)).map fun(k:Nat)=>Dt.int (k:Int))]) (by rintro k l h' ⟨_,rfl⟩;exact hq1 _) (by
  rintro k d hd l h' ⟨⟨y4,y5,y6,y7,y8,rfl⟩,rfl⟩;rw[getElem?_map]at hd;obtain⟨M,hM,rfl⟩:=Option.map_eq_some_iff.mp hd;have tk:L.take (k+1)=L.take k++[M]:=by rw[take_add_one,hM];rfl
  have kL:k<L.length:=(zfR hM).1;have bd:((L.take k).flatMap (gE g)).length+g.length<=1000:=by have a:=fl (L.take (k+1));have b:=fl (L.take k);rw[length_take_of_le (by omega)]at b;have c:(k+1)*g.length<=L.length*g.length:=Nat.mul_le_mul_right _ kL;rw[Nat.succ_mul]at c;omega
  obtain⟨z5,z6,z7,z8,em⟩:=Jr (r:=h.length) (by omega) (hg1 (.lst (((L.take k).flatMap (gE g)).map fun(k:Nat)=>Dt.int (k:Int)))) ok M x0 (some (.ref q)) y5 y6 y7 y8 ((L.take k).flatMap (gE g)) (by simp) bd;rw[FZ]at em;refine⟨_,_,_,rfl,em,⟨_,_,_,_,_,rfl⟩,?_⟩;rw[tk,flatMap_append,flatMap_cons,flatMap_nil,zfW]) [x0,some (.ref q),some (.tup [.str "one", .ref n]),some (.ref h.length),y4,y5,y6,y7,y8] (h++[.lst []]) ⟨⟨_,_,_,_,_,rfl⟩,rfl⟩
 rw[length_map,take_length]at e;refine⟨y4',y5',y6',y7',y8',?_⟩;have t2:∀h,lB (.str "one") (.str "one") h=some (.bl true,h):=fun Z=>rfl
 have c1:∀h,rA (.tup [.str "one", .ref n]) (.int 0) h=some (.str "one",h):=fun Z=>rfl
 simp only[rJ,dB,NA,yA,oA,xA,zfF,zfG,pA,iA,c1,t2,VA,if_true,OA,YA,aG,KA,zxB,zfI,zfM,zfL,QA,ND,CD,jE (hq1 _),e]
theorem OY:∀(n s:Nat),(List.range' s n).Pairwise (· < ·)
 | 0,s=>by simp
 | n+1,s=>by rw[range'_succ,pairwise_cons];exact⟨fun x hx=>by have:=mem_range'_1.mp hx;omega,OY n (s+1)⟩
theorem Ag{m w:Nat}(h:(JA m).head?=some w):(JA m).map (fun(k:Nat)=>(k:Int)) ≠ []/\fC ((JA m).map fun(k:Nat)=>(k:Int))=(w:Int):=by
 have sorted:(JA m).Pairwise (· < ·):=by unfold JA;rw[range_eq_range'];exact(OY 13 0).filter _
 cases e:JA m with
 | nil=>rw[e]at h;cases h
 | cons a r=>
  rw[e]at h sorted;cases h;have ne:((w::r).map fun(k:Nat)=>(k:Int)) ≠ []:=by simp
  obtain⟨m1,m2⟩:=fH _ ne;refine⟨ne,?_⟩;have a1:=m2 (w:Int) (by simp);obtain⟨x,hx,ex⟩:=mem_map.mp m1;rcases mem_cons.mp hx with rfl | hx
  · exact ex.symm
  · have:=(pairwise_cons.mp sorted).1 x hx;omega
theorem LY:∀(gs:List (List JB))(L:List Nat),(∀g∈gs,g.length<=6)->(uH gs L).length<=L.length*6^gs.length
 | [],L,_=>by simp[uH]
 | g::gs,L,h=>by
  have kl:∀M,(gE g M).length<=6:=fun M=>zxA (zxA (length_filter_le _ _) (by simp)) (h g (by simp))
  have fl:∀L:List Nat,(L.flatMap (gE g)).length<=L.length*6:=by
   intro L
   induction L with
   | nil=>simp
   | cons M L ih=>rw[flatMap_cons,length_append,zfH,Nat.succ_mul];have:=kl M;omega
  have:=LY gs (L.flatMap (gE g)) fun x hx=>h x (by simp[hx])
  rw[uH,zfH,Nat.pow_succ];refine zxA this (zxA (Nat.mul_le_mul_right _ (fl L)) ?_);rw[Nat.mul_assoc,Nat.mul_comm 6];exact zfU _
theorem FX:∀(fs:List Fact)(k:Nat),∃r,XA fs=XA (fs.take k)++r
 | fs,0=>⟨XA fs,rfl⟩
 | [],k+1=>⟨[],rfl⟩
 | f::fs,k+1=>by obtain⟨r,e⟩:=FX fs k;refine⟨r,?_⟩;cases f<;>simp[XA,e]
theorem Oh{h:HI}{b:Nat}{d:Dt}{f:Fact}(F:El h d f)(M:Nat)(hb:h[b]?=some (.lst [.int (M:Nat)]))(x0 y3 y4 y5 y6 y7 y8:Option Dt) :
 qJ [x0,some (.ref b),some d,y3,y4,y5,y6,y7,y8] h=some (.nx [x0,some (.ref b),some d,y3,y4,y5,y6,y7,y8] (h.set b (.lst [.int (TC M [f]:Nat)]))):=by
 cases f with
 | ways m=>
  cases F;have c1:∀h,rA (AA m) (.int 0) h=some (.str "ways",h):=fun Z=>rfl
  have t1:∀h,lB (.str "ways") (.str "ways") h=some (.bl true,h):=fun Z=>rfl
  have r1:rA (.ref b) (.int 0) h=some (.int (M:Nat),h):=by rw[oE hb];rfl
  have s6:=AL (l:=[x0,some (.ref b),some (AA m),y3,y4,y5,y6,y7,y8]) (k:=0) (v:=.int ((M&&&sM m:Nat):Int)) hb (by simp);have s7:LM [x0,some (.ref b),some (AA m),y3,y4,y5,y6,y7,y8] (.int ((M&&&sM m:Nat):Int)) (.ref b) (.int 0,h)=some (.nx [x0,some (.ref b),some (AA m),y3,y4,y5,y6,y7,y8] (h.set b (.lst [.int ((M&&&sM m:Nat):Int)]))):=s6;simp only[qJ,dB,NA,yA,oA,xA,zfF,zfG,pA,iA,c1,t1,VA,if_true,sU,r1,gB,UA,KA,zfW,SZ,sH,KJ,s7,TC]
 | long x=>
  cases F;have c1:∀h,rA (.tup [.str "long", .int (x.1:Nat),.int x.2.1,.int x.2.2]) (.int 0) h=some (.str "long",h):=fun Z=>rfl
  have t1:∀h,lB (.str "long") (.str "ways") h=some (.bl false,h):=fun Z=>rfl
  simp only[qJ,dB,NA,yA,oA,xA,zfF,zfG,pA,iA,c1,t1,VA,zfX,if_false,dC,TC,mT hb]
 | one g=>
  obtain⟨gd,rfl,n,rfl,hg⟩:=F;have c1:∀h,rA (.tup [.str "one", .ref n]) (.int 0) h=some (.str "one",h):=fun Z=>rfl
  have t1:∀h,lB (.str "one") (.str "ways") h=some (.bl false,h):=fun Z=>rfl
  simp only[qJ,dB,NA,yA,oA,xA,zfF,zfG,pA,iA,c1,t1,VA,zfX,if_false,dC,TC,mT hb]
theorem Y9{h:HI}{a:Nat}{ds:List Dt}{fs:List Fact}(ha:h[a]?=some (.lst ds))(D:Gm h ds fs)(ok:∀g∈XA fs,∀m∈g,m.2.1<8192)(hs:∀g∈XA fs,g.length<=6)(h2:(XA fs).length<=2){L0 w:Nat}(hd:(uH (XA fs) [TC 8191 fs]).head?=some L0)(hw:(JA L0).head?=some w) :
 ∃h',fN [.ref a] h=some (.int (w:Nat),h')/\Np h h':=by
 have al:=(zfR ha).1;obtain⟨l1,h1,e1,⟨y,rfl⟩,rfl⟩:=SL (bd:=DA 2) (n:=a) (body:=qJ) ds (fun k l h'=>(∃y,l=[some (.ref a),some (.ref h.length),y,none,none,none,none,none,none])/\h'=h++[.lst [.int (TC 8191 (fs.take k):Nat)]]) (by
  rintro k l h' ⟨_,rfl⟩;rw[zfS al];exact ha) (by
  rintro k d hd l h' ⟨⟨y,rfl⟩,rfl⟩;obtain⟨f,hf,fa⟩:=D.get hd;have tk:fs.take (k+1)=fs.take k++[f]:=by rw[take_add_one,hf];rfl
  have ul:∀o:Ob,Np h (h++[o]):=fun o=>⟨by simp,fun n xs q=>(Up.app h _).get q⟩
  have e:=Oh (fa.up (ul (.lst [.int (TC 8191 (fs.take k):Nat)]))) (TC 8191 (fs.take k)) (b:=h.length) (by simp) (some (.ref a)) none none none none none none;rw[FZ]at e;refine⟨_,_,_,rfl,e,⟨_,rfl⟩,?_⟩;rw[tk,SW];cases f<;>rfl) [some (.ref a),some (.ref h.length),none,none,none,none,none,none,none] (h++[.lst [.int 8191]]) ⟨⟨_,rfl⟩,rfl⟩
 rw[D.len,take_length]at e1;obtain⟨l2,h2',e2,⟨q,y2,y3,y4,y5,y6,y7,y8,rfl,hq,U⟩⟩:=SL (bd:=DA 2) (n:=a) (body:=rJ) ds (fun k l h'=>∃q y2 y3 y4 y5 y6 y7 y8,l=[some (.ref a),some (.ref q),y2,y3,y4,y5,y6,y7,y8]/\h'[q]?=some (.lst ((uH (XA (fs.take k)) [TC 8191 fs]).map fun(k:Nat)=>Dt.int (k:Int)))/\Np h h') (by
  rintro k l h' ⟨q,y2,y3,y4,y5,y6,y7,y8,rfl,hq,U⟩;exact U.2 _ _ ha) (by
  rintro k d hd l h1 ⟨q,y2,y3,y4,y5,y6,y7,y8,rfl,hq,U⟩;obtain⟨f,hf,fa⟩:=D.get hd;have fa:=fa.up U;have tk:fs.take (k+1)=fs.take k++[f]:=by rw[take_add_one,hf];rfl
  have fm:=mem_of_getElem? hf;cases f with
  | ways m=>
   cases fa;have c1:∀h,rA (AA m) (.int 0) h=some (.str "ways",h):=fun Z=>rfl
   have t1:∀h,lB (.str "ways") (.str "one") h=some (.bl false,h):=fun Z=>rfl
   refine⟨_,[some (.ref a),some (.ref q),some (AA m),y3,y4,y5,y6,y7,y8],h1,rfl,?_,q,_,_,_,_,_,_,_,rfl,?_,U⟩
   · simp only[zfM,zfL,rJ,dB,NA,yA,oA,xA,zfF,zfG,pA,iA,c1,t1,VA,zfX,if_false,dC]
   · rw[tk,gL];exact hq
  | long x=>
   cases fa;have c1:∀h,rA (.tup [.str "long", .int (x.1:Nat),.int x.2.1,.int x.2.2]) (.int 0) h=some (.str "long",h):=fun Z=>rfl
   have t1:∀h,lB (.str "long") (.str "one") h=some (.bl false,h):=fun Z=>rfl
   refine⟨_,[some (.ref a),some (.ref q),some (.tup [.str "long", .int (x.1:Nat),.int x.2.1,.int x.2.2]),y3,y4,y5,y6,y7,y8],h1,rfl,?_,q,_,_,_,_,_,_,_,rfl,?_,U⟩
   · simp only[zfM,zfL,rJ,dB,NA,yA,oA,xA,zfF,zfG,pA,iA,c1,t1,VA,zfX,if_false,dC]
   · rw[tk,gL];exact hq
  | one g=>
   obtain⟨gd,rfl,n,rfl,hg⟩:=fa;have gm:=cO fm;have g6:=hs g gm;obtain⟨r,er⟩:=FX fs (k+1);rw[tk,gL]at er;have er:XA fs=XA (fs.take k)++[g]++r:=er;have ol:(XA (fs.take k)).length<=1:=by rw[er,length_append,length_append,length_singleton]at h2;omega
   have bl:=LY (XA (fs.take k)) [TC 8191 fs] (fun x hx=>hs x (by rw[er];simp[hx]));have p6:6^(XA (fs.take k)).length<=6^1:=Nat.pow_le_pow_right (by decide) ol;have bl6:(uH (XA (fs.take k)) [TC 8191 fs]).length<=6:=by rw[length_singleton,Nat.one_mul]at bl;omega
   have prod:(uH (XA (fs.take k)) [TC 8191 fs]).length*g.length<=6*6:=Nat.mul_le_mul bl6 g6;obtain⟨z4,z5,z6,z7,z8,eg⟩:=wk hg (ok g gm) _ hq (by omega) g6 (some (.ref a)) y3 y4 y5 y6 y7 y8;refine⟨_,_,_,rfl,eg,h1.length,_,_,_,_,_,_,_,rfl,?_,by have:=U.1;simp;omega,fun n xs q=>(Up.app h1 _).get (U.2 n xs q)⟩;rw[tk,gL];show _=some (Ob.lst ((uH (XA (fs.take k)++[g]) [TC 8191 fs]).map fun(k:Nat)=>Dt.int (k:Int)));rw[EX];simp) [some (.ref a),some (.ref h.length),y,none,none,none,none,none,none] (h++[.lst [.int (TC 8191 fs:Nat)]]) ⟨h.length,_,_,_,_,_,_,_,rfl,by simp[XA,uH],by simp,fun n xs q=>(Up.app h _).get q⟩
 rw[D.len,take_length]at hq;obtain⟨R,eR⟩:∃R,uH (XA fs) [TC 8191 fs]=L0::R:=by
  cases e:uH (XA fs) [TC 8191 fs]with
  | nil=>rw[e]at hd;cases hd
  | cons x R=>rw[e]at hd;cases hd;exact⟨R,rfl⟩
 rw[eR]at hq;refine⟨h2',?_,U⟩;have r1:rA (.ref q) (.int 0) h2'=some (.int (L0:Nat),h2'):=by rw[oE hq];have e0:Kp ((L0::R).map fun(k:Nat)=>Dt.int (k:Int)) 0=some (.int (L0:Nat)):=SM.ZC ((L0::R).map fun(k:Nat)=>Dt.int (k:Int)) 0;rw[e0];rfl
 have ec:=mO (te:=fW) (tc:=qQ) (i:=0) (fun(k:Nat)=>Dt.int (k:Int)) (fun k=>L0.testBit k) (fun(k:Nat)=>Dt.int (k:Int)) h2' (range 13) [none,some (.ref q)] (by
  intro k Z;refine⟨?_,fun Z=>rfl⟩;have b:=GO L0 k;simp only[qQ,NA,yA,oA,xA,zfL,zfF,zfG,pA,iA,r1,qP (show(0:Int)<=(k:Int) by omega),zxE,sH,PD,VA,b])
 obtain⟨m1,m2⟩:=Ag hw;have fm:=XU (h:=h2') m1;rw[m2,map_map]at fm;have fm':gG (.lst (((range 13).filter fun k=>L0.testBit k).map fun(k:Nat)=>Dt.int (k:Int))) h2'=some (.int (w:Nat),h2'):=fm;have sk:YG (.ref a,h++[.lst [.int 8191]])=some (.rf a,h++[.lst [.int 8191]]):=jE (by rw[zfS al];exact ha);have sk2:YG (.ref a,h++[.lst [.int (TC 8191 fs:Nat)]])=some (.rf a,h++[.lst [.int (TC 8191 fs:Nat)]]):=jE (by rw[zfS al];exact ha);have z1:1<=sizeLine:=by decide
 simp only[fN,vQ,rB,if_pos z1,Option.join_some,  zfH,zfI,if_true,zfJ,zfK,Nat.reduceAdd,Nat.reduceSub,replicate,zfQ,zfP,OA,YA,aG,UA,KA,xA,iA,zfW,zfM,zfL,QA,ND,CD,oA,zfF,zfG,pA,sk,e1,sk2,e2,yB,RC,rG,OI,N4,KF,LJ,MF,YF _ _ _ (Kd _),ec,fm',BB]
def bV(c:Nat)(ls:List Ln)(a a':Ans):Prop:=∀t t',a=.laid t->a'=.laid t'->∃g:cB,WA c g/\iC c g=false/\WD c g=none/\(∀e∈lD c g ls,uF t e)/\∀e∈lD c g ls,uF t' e
theorem jX{c m:Nat}{ls:List Ln}:∀(n:Nat)(f:cB)(gs:List (List JB))(made:Nat)(a a':Ans)(s s':Nat),WA c f->Fl c gs->yC c m ls n f gs made a s->yC c m ls n f gs made a' s'->bV c ls a a'
 | 0,_,_,_,_,_,_,_,_,_,h,_=>h.elim
 | n+1,f,gs,made,a,a',s,s',of,og,h,h'=>by
  rcases h with⟨st,g,h1,h2,rfl,rfl⟩ | ⟨st,g,h1,h⟩
  · exact fun t t' e Z=>by cases e
  · rcases h' with⟨st',g',k1,k2,rfl,rfl⟩ | ⟨st',g',k1,h'⟩
    · exact fun t t' Z e=>by cases e
    · have eg:=h1.unique of k1;subst eg;obtain⟨okg,Z,neg⟩:=h1.ok of;rcases h with⟨cs,P,k,R,rfl,rfl⟩ | ⟨t,ht,h⟩
      · exact fun t t' e Z=>by cases e
      · rcases h' with⟨cs',P',k',R',rfl,rfl⟩ | ⟨t',ht',h'⟩
        · exact fun t t' Z e=>by cases e
        · rcases h with⟨sp,rfl,rfl⟩ | ⟨tag,bs,ps,sp,h⟩
          · rcases h' with⟨sp',rfl,rfl⟩ | ⟨tag',bs',ps',sp',h'⟩
            · intro u u' e e';cases e;cases e';have lp:WD c g=none:=by
               cases gs with
               | cons x y=>simp only[WC]at sp;cases sp
               | nil=>
                cases q:WD c g with
                | none=>rfl
                | some p=>simp only[WC,q]at sp;cases sp
              exact⟨g,okg,neg,lp,ht,ht'⟩
            · rw[sp]at sp';cases sp'
          · rcases h' with⟨sp',rfl,rfl⟩ | ⟨tag',bs',ps',sp',h'⟩
            · rw[sp]at sp';cases sp'
            · rw[sp]at sp';cases sp';rcases h with⟨lm,rfl,rfl⟩ | ⟨lm,h⟩
              · exact fun t t' e Z=>by cases e
              · rcases h' with⟨lm',rfl,rfl⟩ | ⟨lm',h'⟩
                · exact fun t t' Z e=>by cases e
                · have bok:=IJ okg og sp;have go:∀(bs:List cB),(∀b∈bs,WA c b)->∀(md:Nat)(acc acc':List Tr)(a a':Ans)(s s':Nat),qE (yC c m ls n) tag st gs.tail bs md acc a s->qE (yC c m ls n) tag st' gs.tail bs md acc' a' s'->bV c ls a a':=by
                   intro bs
                   induction bs with
                   | nil=>rintro _ md acc acc' a a' s s' ⟨rfl,rfl⟩ _;exact fun t t' e Z=>by cases e
                   | cons b bs ih=>
                    intro hb md acc acc' a a' s s' q q';have hb0:=hb b (by simp);rcases q with⟨tr,m1,q1,q2⟩ | ⟨q1,q2⟩
                    · rcases q' with⟨tr',m1',q1',q2'⟩ | ⟨q1',q2'⟩
                      · obtain⟨Z,rfl⟩:=CG n b _ md _ _ _ _ hb0 og.tail q1 q1';exact ih (fun x hx=>hb x (by simp[hx])) _ _ _ _ _ _ _ q2 q2'
                      · exact absurd (CG n b _ md _ _ _ _ hb0 og.tail q1 q2').1.symm q1'
                    · rcases q' with⟨tr',m1',q1',q2'⟩ | ⟨q1',q2'⟩
                      · exact absurd (CG n b _ md _ _ _ _ hb0 og.tail q2 q1').1 q1
                      · exact jX n b _ md _ _ _ _ hb0 og.tail q2 q2'
                  exact go bs bok _ _ _ _ _ _ _ h h'
theorem t7{ls:List Ln}{t t':Nat->Int}(h:bV 2 ls (.laid t) (.laid t')):RB (mB t 0) (mB t 1)=RB (mB t' 0) (mB t' 1):=by
 obtain⟨g,og,ne,lp,ht,ht'⟩:=h t t' rfl rfl;have a:=CO og ne lp ht 0 (by decide) 1 (by decide) (by decide);have b:=CO og ne lp ht' 0 (by decide) 1 (by decide) (by decide);have lt:=og.lt 0 (by decide) 1 (by decide);rw[IU]at lp;have nl:¬1<(JA (g 0 1)).length:=by intro z;rw[if_pos z]at lp;cases lp
 have h0:g 0 1≠0:=fun z=>by rw[z,Nat.zero_testBit]at a;cases a
 obtain⟨w,hw,e⟩:=lU lt h0 nl;rw[e,zxH]at a b;exact(of_decide_eq_true a).symm.trans (of_decide_eq_true b)
theorem bP:∀(ts:List Fact)(_:∀x∈ts,nF 2 x)(_:∀x∈ts,GF x=true)(f:cB),WA 2 f->gD f ts 0 1=TC (f 0 1) ts
 | [],_,_,f,_=>rfl
 | x::ts,h,ht,f,o=>by
  have h':∀y∈ts,nF 2 y:=fun y hy=>h y (by simp[hy])
  have ht':∀y∈ts,GF y=true:=fun y hy=>ht y (by simp[hy])
  cases x with
  | ways m=>have mo:kD 2 m:=h (.ways m) (by simp);have tw:m.1+m.2.2=1:=of_decide_eq_true (ht (.ways m) (by simp));obtain⟨a,b,d,e⟩:=mo;show gD (KB f m.1 m.2.1 m.2.2) ts 0 1=TC (f 0 1&&&sM m) ts;rw[bP ts h' ht' _ (nG o a b d _),QV o (by unfold BV;omega) ⟨a,b,d,e⟩ _ e];rfl
  | long y=>exact bP ts h' ht' f o
  | one g=>exact bP ts h' ht' f o
theorem hU{c:Nat}{s:Nat->Int×Int}{f:Fact}(h:tG c s f):nF c f:=by
 cases f with
 | ways m=>exact h.1
 | long x=>exact h.1
 | one g=>exact h.1
theorem O0{c:Nat}{m:JB}(h:kD c m)(t:m.1+m.2.2=1):kD 2 m:=⟨by omega,by omega,h.2.2.1,h.2.2.2⟩
theorem Rk{c:Nat}{s:Nat->Int×Int}{f:Fact}(h:tG c s f)(t:GF f=true):tG 2 s f:=by
 cases f with
 | ways m=>exact⟨O0 h.1 (of_decide_eq_true t),h.2⟩
 | long x=>cases t
 | one g=>exact⟨fun m hm=>O0 (h.1 m hm) (of_decide_eq_true (all_eq_true.mp t m hm)),h.2⟩
theorem sL{c:Nat}{s:Nat->Int×Int}(ok:∀i,i<c->dD (s i)):∀(fs:List Fact)(f:cB),(∀x∈fs,tG c s x)->Yl c f s->Yl c (gD f fs) s
 | [],f,_,q=>q
 | x::fs,f,h,q=>by
  have h':∀y∈fs,tG c s y:=fun y hy=>h y (by simp[hy])
  cases x with
  | ways m=>obtain⟨⟨a,b,d,e⟩,k⟩:=h (.ways m) (by simp);exact sL ok fs _ h' (q.nar ok a b d k)
  | long y=>exact sL ok fs _ h' q
  | one g=>exact sL ok fs _ h' q
theorem rL{c:Nat}:∀(fs:List Fact)(f:cB),(∀x∈fs,nF c x)->(∀i<c,f i i=64)->∀i<c,gD f fs i i=64
 | [],f,_,q=>q
 | x::fs,f,h,q=>by
  have h':∀y∈fs,nF c y:=fun y hy=>h y (by simp[hy])
  cases x with
  | ways m=>obtain⟨a,b,d,e⟩:kD c m:=h (.ways m) (by simp);exact rL fs _ h' (qO q d _)
  | long y=>exact rL fs _ h' q
  | one g=>exact rL fs _ h' q
theorem kH:∀{fs:List Fact}{g:List JB},g∈XA fs->Fact.one g∈fs
 | [],g,h=>by cases h
 | f::fs,g,h=>by
  cases f with
  | one x=>
   rcases mem_cons.mp h with rfl | h
   · simp
   · simp[kH h]
  | ways m=>exact mem_cons_of_mem _ (kH h)
  | long m=>exact mem_cons_of_mem _ (kH h)
theorem mL:∀{fs:List Fact}{x:Ln},x∈DD fs->Fact.long x∈fs
 | [],g,h=>by cases h
 | f::fs,g,h=>by
  cases f with
  | long x=>
   rcases mem_cons.mp h with rfl | h
   · simp
   · simp[mL h]
  | ways m=>exact mem_cons_of_mem _ (mL h)
  | one m=>exact mem_cons_of_mem _ (mL h)
theorem fZ{c:Nat}{s:Nat->Int×Int}(ok:∀i,i<c->dD (s i)):Yl c hC s:=fun i hi j hj hij=>by
 have w:=LF (ok i hi) (ok j hj);have t:∀k<13,(8191:Nat).testBit k=true:=by decide
 unfold hC;rw[if_neg hij];exact t _ w
theorem QW:∀fs:List Fact,(XA (fs.filter GF)).length<=(XA fs).length
 | []=>zfU _
 | f::fs=>by have:=QW fs;rw[filter_cons];cases f<;>split<;>simp_all[XA]<;>omega
theorem Sy:∀(gs:List (List JB)),(∀g∈gs,g.length<=6)->gs.length<=2->dG gs<=43
 | [],_,_=>by simp[dG]
 | [g],h,_=>by have:=h g (by simp);simp[dG];omega
 | [g,k],h,_=>by have a:=h g (by simp);have b:=h k (by simp);have:g.length*(1+k.length*1)<=6*7:=Nat.mul_le_mul a (by omega);simp only[dG];omega
 | _::_::_::_,_,h=>by simp at h
theorem Kq(x a b d:Int):CC (x-d) (a-d) (b-d)=CC x a b:=by have a1:(x-d<a-d)=(x<a):=propext ⟨fun h=>by omega,fun h=>by omega⟩;have a2:(x-d=a-d)=(x=a):=propext ⟨fun h=>by omega,fun h=>by omega⟩;have a3:(x-d<b-d)=(x<b):=propext ⟨fun h=>by omega,fun h=>by omega⟩;have a4:(x-d=b-d)=(x=b):=propext ⟨fun h=>by omega,fun h=>by omega⟩;unfold CC;simp only[a1,a2,a3,a4]
theorem aY(t:Nat->Int)(n i j:Nat):RB (mB (eB n t) i) (mB (eB n t) j)=RB (mB t i) (mB t j):=by unfold RB mB eB;simp only[Kq]
theorem F9{c:Nat}{s:Nat->Int×Int}(hc2:2<=c)(ok:∀i,i<c->dD (s i)){h:HI}{a:Nat}{ds:List Dt}{fs:List Fact}(ha:h[a]?=some (.lst ds))(D:Gm h ds fs)(kf:∀f∈fs,tG c s f)(hl:fs.length<=63)(ho:(XA fs).length<=2) :
 ∃h',RM [.ref a] h=some (.bl true,h')/\Np h h':=by
 have s6:∀g∈XA fs,g.length<=6:=fun g hg=>(kf _ (kH hg)).2.2
 obtain⟨ds1,h1,e1,hd1,F1,U1⟩:=uY ha D s6 (by omega);generalize hts:fs.filter GF=ts at F1;have tt:∀x∈ts,GF x=true:=fun x hx=>by rw[<- hts]at hx;exact(mem_filter.mp hx).2
 have kt:∀x∈ts,tG 2 s x:=fun x hx=>by have:=tt x hx;rw[<- hts]at hx;exact Rk (kf x (mem_filter.mp hx).1) this
 have kt':∀x∈ts,nF 2 x:=fun x hx=>hU (kt x hx)
 have t6:∀g∈XA ts,g.length<=6:=fun g hg=>(kt _ (kH hg)).2.2
 have to2:(XA ts).length<=2:=by rw[<- hts];exact zxA (QW fs) ho
 have tl:ts.length<=63:=by rw[<- hts];exact zxA (length_filter_le _ _) hl
 have ok2:∀i,i<2->dD (s i):=fun i hi=>ok i (by omega)
 have ln:DD ts=[]:=by
  cases e:DD ts with
  | nil=>rfl
  | cons x r=>have:=tt _ (mL (x:=x) (by rw[e];simp));cases this
 have gok:Fl 2 (XA ts):=OJ ts kt';have gtw:∀g∈XA ts,∀x∈g,BV x:=fun g hg x hx=>by have:=of_decide_eq_true (all_eq_true.mp (tt _ (kH hg)) x hx);unfold BV;omega
 have fok:=FJ ts kt' hC (GL 2);have fdg:=rL (c:=2) ts hC kt' (fun i Z=>by unfold hC;rw[if_pos rfl]);have f01:gD hC ts 0 1=TC 8191 ts:=bP ts kt' tt hC (GL 2);obtain⟨A0,s0,L0,sl,R⟩:=V7 60 (XA ts) gok gtw 12 (gD hC ts) 0 (by omega) fok fdg (by have:=Sy _ t6 to2;omega);have nc:=NS ok2 (fun x hx=>by cases hx) 12 _ _ 0 A0 s0 L0 fok gok fdg (sL ok2 ts _ kt (fZ ok2)) (fun g hg=>(kt _ (kH hg)).2.1);obtain⟨t,L,w,rfl,hdf,hw,wy⟩:∃t L w,A0=.laid t/\bG (XA ts) (gD hC ts 0 1)=some L/\(JA L).head?=some w/\RB (mB t 0) (mB t 1)=w:=by
  rcases R with⟨z,_⟩ | R
  · exact absurd z nc
  · exact R
 have PP0:gP 2 60 ts 12 (.laid t) s0:=by unfold gP;rw[ln];exact L0
 have FT:aV 2 h1 h.length ts:=⟨⟨ds1,hd1,F1.at⟩,kt',fun x hx=>zxA (t6 x hx) (by decide),by omega⟩;obtain⟨A,sA,x,h2,PP,ep,An,U2⟩:=wX (c:=2) (m:=60) (by decide) (by decide) FT ⟨_,_,PP0⟩;have dt:=CG 12 _ _ 0 _ _ _ _ fok gok PP0 PP;obtain⟨t',rfl⟩:∃t',A=.laid t':=by
  cases A with
  | opn=>cases dt.1
  | clash tr=>cases dt.1
  | laid t'=>exact⟨t',rfl⟩
 have sm:=jX 12 _ _ 0 _ _ _ _ fok gok PP0 PP;have w2:=t7 sm;obtain⟨g,Z,Z,Z,Z,ht'⟩:=sm t t' rfl rfl;have pok:=pU ht';have le:=FL 12 _ _ 0 _ _ PP;have ax:Dt.tup [JH .laid,x]=.tup [.str "laid", .lst (UB 2 (eB (2*2) t'))]:=An;obtain rfl:x=.lst (UB 2 (eB (2*2) t')):=by injection ax with ax;injection ax with _ ax;injection ax with ax _
 have told:=fun hh=>UZ An (s:=sA) (m:=60) (le.2.1 (by decide)) (fun z=>by cases z) hh
 have pl:=fun hh=>TZ (c:=2) (by decide) (by decide) pok hh
 have oks:=nT (2*2) pok;have lw:=fun hh=>XO (oks 0 (by decide)) (oks 1 (by decide)) hh
 have U12:Np h h2:=⟨zxA U1.1 U2.1,fun n xs q=>U2.2 n xs (U1.2 n xs q)⟩;obtain⟨ds3,h3,e3,hd3,F3,U3⟩:=uY (U12.2 _ _ ha) (D.up U12) s6 (by omega);rw[hts]at F3;rw[f01]at hdf;have M0:TC 8191 ts≠0:=fun z=>by rw[z]at hdf;cases q:XA ts<;>rw[q]at hdf<;>simp[bG]at hdf
 have hb:(uH (XA ts) [TC 8191 ts]).head?=some L:=by rw[KY _ _ (fun M hM=>by rw[mem_singleton.mp hM];exact M0),findSome?_cons,hdf]
 obtain⟨h4,e4,U4⟩:=Y9 hd3 F3.at (fun g hg m hm=>(gok g hg m hm).2.2.2) t6 to2 hb hw;refine⟨h4,?_,?_⟩
 · have ep':DG [.int 2,.ref h.length,.int 60] h1=some (.tup [.str "laid", .lst (UB 2 (eB (2*2) t')),.int (sA:Nat)],h2):=ep;have zcx:∀hh,bH [.tup [.str "laid", .lst (UB 2 (eB (2*2) t')),.int (sA:Nat)],.int 60] hh=some (.bl true,hh):=told
   have pl':∀hh,vJ [.lst (UB 2 (eB (2*2) t')),.int 2] hh=some (.bl true,hh):=pl
   have c0:∀hh,rA (.tup [.str "laid", .lst (UB 2 (eB (2*2) t')),.int (sA:Nat)]) (.int 0) hh=some (.str "laid",hh):=fun Z=>rfl
   have c1:∀hh,rA (.tup [.str "laid", .lst (UB 2 (eB (2*2) t')),.int (sA:Nat)]) (.int 1) hh=some (.lst (UB 2 (eB (2*2) t')),hh):=fun Z=>rfl
   have p0:∀hh,rA (.lst (UB 2 (eB (2*2) t'))) (.int 0) hh=some (rF (mB (eB (2*2) t') 0),hh):=fun Z=>rfl
   have p1:∀hh,rA (.lst (UB 2 (eB (2*2) t'))) (.int 1) hh=some (rF (mB (eB (2*2) t') 1),hh):=fun Z=>rfl
   have n0:∀hh,zE (.str "laid") (.str "laid") hh=some (.bl false,hh):=fun Z=>rfl
   have we:decide (((RB (mB (eB (2*2) t') 0) (mB (eB (2*2) t') 1):Nat):Int)=((w:Nat):Int))=true:=decide_eq_true (by rw[aY,<- w2,wy]);simp only[RM,pQ,rB,zfH,zfI,if_true,zfJ,zfK,Nat.reduceAdd,Nat.reduceSub,replicate,zfQ,zfP,OA,YA,gB,UA,KA,xA,oA,zfF,zfG,pA,iA,zfW,e1,ep',zfM,zfL,QA,dB,QI,GG,NA,zcx,VA,Bool.not_true,zfX,if_false,yA,c0,n0,c1,pl',dC,yB,p0,p1,lw,e3,e4,PD,we,BB]
 · exact⟨zxA U12.1 (zxA U3.1 U4.1),fun n xs q=>U4.2 n xs (U3.2 n xs (U12.2 n xs q))⟩
def uG:Fact->Dt
 | .ways m=>AA m
 | .long x=>.tup [.str "long", .int (x.1:Nat),.int x.2.1,.int x.2.2]
 | .one g=>.tup [.str "one", .lst (g.map AA)]
theorem Qx(h:HI)(g:List JB):QC (nB h 5) (g.map AA)=some (g.map AA):=yT AA AA g fun Z Z=>rfl
theorem ak{h:HI}{d:Dt}{f:Fact}(q:El h d f):nB h 7 d=some (uG f):=by
 cases f with
 | ways m=>cases q;rfl
 | long x=>cases q;rfl
 | one g=>
  obtain⟨gd,rfl,n,rfl,hg⟩:=q;have e:nB h 6 (.ref n)=some (.lst (g.map AA)):=by rw[nB,hg];show(QC (nB h 5) (g.map AA)).map Dt.lst=_;rw[Qx];rfl
  have e2:nB h 6 (.str "one")=some (.str "one"):=rfl;show(QC (nB h 6) [.str "one", .ref n]).map Dt.tup=_;simp only[QC,e,e2,zfO,zfN];rfl
theorem Ez{h:HI}{ds:List Dt}{fs:List Fact}(q:Gm h ds fs):QC (nB h 7) ds=some (fs.map uG):=by
 induction q with
 | nil=>rfl
 | cons a r ih=>simp only[QC,ak a,ih,zfO,zfN,zfJ]
theorem Dz(f:Fact):EB (uG f)=true:=by
 cases f with
 | ways m=>rfl
 | long x=>rfl
 | one g=>have:=QS g;simp only[uG,EB,MC,this,Bool.and_self]
theorem Zw(f:Fact):yG (uG f)<=6:=by
 cases f with
 | ways m=>exact(show(1:Nat)<=6 by decide)
 | long x=>exact(show(1:Nat)<=6 by decide)
 | one g=>have:=bT g;simp only[uG,yG,JD];omega
theorem aS:∀fs:List Fact,MC (fs.map uG)=true
 | []=>rfl
 | f::fs=>by simp only[zfJ,MC,Dz f,aS fs,Bool.and_self]
theorem yX:∀fs:List Fact,JD (fs.map uG)<=10
 | []=>by simp[JD]
 | f::fs=>by have:=yX fs;have:=Zw f;simp only[zfJ,JD];omega
theorem jk{h:HI}{a b:Nat}{ds es:List Dt}{fs:List Fact}(ha:h[a]?=some (.lst ds))(hb:h[b]?=some (.lst es))(D:Gm h ds fs)(E:Gm h es fs):WG (.ref a) (.ref b) h=some (.bl false,h):=by
 have r:∀{n:Nat}{ds:List Dt},h[n]?=some (.lst ds)->Gm h ds fs->nB h 8 (.ref n)=some (.lst (fs.map uG)):=fun hn q=>by rw[nB,hn];show(QC (nB h 7) _).map Dt.lst=_;rw[Ez q];rfl
 have ok:FF (fs.map uG) (fs.map uG)=true:=by unfold FF;rw[aS];have:=yX fs;simp;omega
 rw[mV (r ha D) (r hb E) ok,PN _ (aS fs)];rfl
theorem oO{c:Nat}{s:Nat->Int×Int}(ok:∀i,i<c->dD (s i)):∀(fs:List Fact)(_:∀x∈fs,nF c x)(f:cB),WA c f->Yl c (gD f fs) s->Yl c f s/\∀m,Fact.ways m∈fs->dE s m=true
 | [],_,f,_,q=>⟨q,fun m hm=>by cases hm⟩
 | x::fs,h,f,o,q=>by
  have h':∀y∈fs,nF c y:=fun y hy=>h y (by simp[hy])
  cases x with
  | ways m=>
   obtain⟨a,b,d,e⟩:kD c m:=h (.ways m) (by simp);obtain⟨q1,H⟩:=oO ok fs h' (KB f m.1 m.2.1 m.2.2) (nG o a b d _) q;obtain⟨q2,hb⟩:=q1.zaR ok a b d o;refine⟨q2,fun y hy=>?_⟩;rcases mem_cons.mp hy with z | z
   · cases z;exact hb
   · exact H y z
  | long y=>obtain⟨q1,H⟩:=oO ok fs h' f o q;exact⟨q1,fun y hy=>(mem_cons.mp hy).elim (fun z=>by cases z) (H y)⟩
  | one g=>obtain⟨q1,H⟩:=oO ok fs h' f o q;exact⟨q1,fun y hy=>(mem_cons.mp hy).elim (fun z=>by cases z) (H y)⟩
theorem OX(t:Nat->Int)(n:Nat)(m:JB):dE (mB (eB n t)) m=dE (mB t) m:=by unfold dE;rw[aY]
theorem Qv{c:Nat}{s:Nat->Int×Int}{fs:List Fact}(kf:∀f∈fs,tG c s f){t:Nat->Int}(K:KP c (DD fs) (gD hC fs) (XA fs) t):∀f∈fs,Y0 c (eB (2*c) t) f:=by
 have fo:∀x∈fs,nF c x:=fun x hx=>hU (kf x hx)
 obtain⟨Z,H⟩:=oO K.ok fs fo hC (GL c) K.net;intro f hf;cases f with
 | ways m=>exact⟨fo _ hf,by rw[OX];exact H m hf⟩
 | long x=>
  have q:=K.len x (zaC hf);refine⟨fo _ hf,?_⟩;unfold eB;constructor
  · have:=q.1;omega
  · have:=q.2;omega
 | one g=>obtain⟨k,kl,H1⟩:=K.one g (cO hf);exact⟨fo _ hf,⟨k,kl,fun i m hm=>by rw[OX];exact H1 i m hm⟩,(kf _ hf).2.2⟩
where
 zaC:∀{fs:List Fact}{x:Ln},Fact.long x∈fs->x∈DD fs
 | f::fs,x,h=>by
  rcases mem_cons.mp h with rfl | h
  · simp[DD]
  · have:=zaC h;cases f<;>simp[DD,this]
noncomputable def aW:Dt->Dt
 | .tup [_,y]=>y
 | _=>.non
theorem law_true(ns:List Int)(hl:ns.length<=63):∃h',UI [.lst (ns.map Dt.int)] []=some (.bl true,h'):=by
 have c0:=fun h=>NU ns 0 h
 have c5:=fun h=>NU ns 5 h
 simp only[Int.cast_ofNat_Int]at c0 c5;have m3:=fun(x:Int) (h:HI)=>KE (h:=h) (i:=x) (show(0:Int)<3 by decide)
 have m14:=fun(x:Int) (h:HI)=>KE (h:=h) (i:=x) (show(0:Int)<100000000000000 by decide)
 obtain⟨c,hcc,hc2,hc4⟩:∃c:Nat,2+ns[0]?.getD (0:Int)%3=(c:Int)/\2<=c/\c<=4:=⟨(2+ns[0]?.getD (0:Int)%3).toNat,by omega,by omega,by omega⟩
 obtain⟨sc,hsc,sc1⟩:∃sc:Int,1+ns[5]?.getD (0:Int)%100000000000000=sc/\1<=sc:=⟨_,rfl,by have:=Int.emod_nonneg (ns[5]?.getD (0:Int)) (show(100000000000000:Int)≠0 by decide);omega⟩
 obtain⟨m,hm,m6⟩:∃m:Nat,(∀h:HI,rA (.lst [.int 6,.int 6,.int 2]) (.int ((c:Int)-2)) h=some (.int (m:Nat),h))/\m<=6:=by
  rcases(show c=2\/c=3\/c=4 by omega)with rfl | rfl | rfl
  · exact⟨6,fun Z=>rfl,by omega⟩
  · exact⟨6,fun Z=>rfl,by omega⟩
  · exact⟨2,fun Z=>rfl,by omega⟩
 have sok:∀i,dD (ZG ns sc i):=fun i=>T5 ns sc1 i
 have es:=fun h=>zy ns (show c<=8 by omega) sc h
 obtain⟨fs,kf,⟨fl,fo2⟩,ef⟩:=Zy ns hl sok hc2 (show c<=100 by omega) sc1;generalize hs:ZG ns sc=s at sok es kf ef;obtain⟨ds,h1,ef1,hd1,F1,U1⟩:=ef [.lst (FC s c)] 0 rfl;obtain⟨es2,h2,ef2,hd2,F2,U2⟩:=ef h1 0 (U1.2 _ _ rfl);have fok:∀x∈fs,nF c x:=fun x hx=>hU (kf x hx)
 have s6:∀g∈XA fs,g.length<=6:=fun g hg=>(kf _ (kH hg)).2.2
 have FT:aV c h2 h1.length fs:=⟨⟨es2,hd2,F2.at⟩,fok,fun x hx=>zxA (s6 x hx) (by decide),by omega⟩;have nok:=FJ fs fok _ (GL c);have gok:=OJ fs fok;have ok':∀i,i<c->dD (s i):=fun i Z=>sok i
 have ex:=Hj (m:=m) (show 1<=c by omega) (show c<=8 by omega) (show(DD fs).length<=100 by have:=jL fs;omega) (tL fs fok) 12 (gD hC fs) (XA fs) 0 nok gok (by omega) (by omega);obtain⟨A,sp,x,h3,L,ep,AN,U3⟩:=wX (show 1<=c by omega) (show c<=8 by omega) FT ex;obtain⟨Z,l2,l3⟩:=FL 12 _ _ 0 _ _ L;have l2:=l2 (by omega);have l3:=l3 (by omega);have et:=UZ AN l2 l3;have nc:=NS ok' (fun x hx=>kf _ (mL hx)) 12 _ _ 0 A sp L nok gok (rL fs hC fok (fun i Z=>by unfold hC;rw[if_pos rfl])) (sL ok' fs _ kf (fZ ok')) (fun g hg=>(kf _ (kH hg)).2.1);have U23:Np h1 h3:=⟨zxA U2.1 U3.1,fun n xs q=>U3.2 n xs (U2.2 n xs q)⟩;have hd1':h3[1]?=some (.lst ds):=U23.2 _ _ hd1;have D1:=F1.at.up U23;have ne:=jk (U3.2 _ _ hd2) hd1' (F2.at.up U3) D1;obtain⟨h4,el,U4⟩:=F9 hc2 ok' hd1' D1 kf fl fo2;have pw:∀h:HI,dQ (.int 10) (.int 14) h=some (.int 100000000000000,h):=fun Z=>rfl
 have es0:=es [];have zcg:xJ [.lst (ns.map Dt.int),.ref 0,.int sc,.int 2] [.lst (FC s c)]=some (.ref 1,h1):=ef1;have es1:UK [.lst (ns.map Dt.int),.int (c:Nat),.int sc] []=some (.ref 0,[.lst (FC s c)]):=es0;have l6:(3:Nat)<=sizeLine:=by decide
 cases A with
 | clash tr=>exact absurd rfl nc
 | opn=>
  have ax:Dt.tup [JH .opn,x]=.tup [.str "open", .non]:=AN;obtain rfl:x=.non:=congrArg aW ax;have et':∀hh,bH [.tup [.str "open", .non,.int (sp:Nat)],.int (m:Nat)] hh=some (.bl true,hh):=et
  have ep':DG [.int (c:Nat),.ref h1.length,.int (m:Nat)] h2=some (.tup [.str "open", .non,.int (sp:Nat)],h3):=ep;have i0:∀hh,rA (.tup [.str "open", .non,.int (sp:Nat)]) (.int 0) hh=some (.str "open",hh):=fun Z=>rfl
  have q1:∀hh,jG (.str "open") (.str "clash") hh=some (.bl false,hh):=fun Z=>rfl
  have q2:∀hh,jG (.str "open") (.str "open") hh=some (.bl true,hh):=fun Z=>rfl
  refine⟨h4,?_⟩;simp only[UI,TL,rB,zfH,zfI,if_true,zfJ,zfK,Nat.reduceAdd,Nat.reduceSub,replicate,zfQ,zfP,OA,YA,gB,UA,KA,yA,xA,oA,zfF,zfG,pA,iA,zfW,c0,m3,nE,hcc,zfM,zfL,QA,pw,c5,m14,hsc,es1,zcg,ef2,VH,if_pos l6,wG,hm,ep',dB,QI,GG,NA,ne,VA,zfX,if_false,et',Bool.not_true,i0,q1,el,dC,q2,yB,aF,BB]
 | laid t=>
  have K:=iX 12 _ _ 0 t sp L nok gok;have kp:=Qv kf K;have oks:=nT (2*c) K.ok;have ax:Dt.tup [JH .laid,x]=.tup [.str "laid", .lst (UB c (eB (2*c) t))]:=AN;obtain rfl:x=.lst (UB c (eB (2*c) t)):=congrArg aW ax;have pl:=fun hh=>TZ (show 1<=c by omega) (show c<=100 by omega) K.ok hh
  generalize hu:eB (2*c) t=u at kp oks et ep pl;have et':∀hh,bH [.tup [.str "laid", .lst (UB c u),.int (sp:Nat)],.int (m:Nat)] hh=some (.bl true,hh):=et
  have ep':DG [.int (c:Nat),.ref h1.length,.int (m:Nat)] h2=some (.tup [.str "laid", .lst (UB c u),.int (sp:Nat)],h3):=ep;have i0:∀hh,rA (.tup [.str "laid", .lst (UB c u),.int (sp:Nat)]) (.int 0) hh=some (.str "laid",hh):=fun Z=>rfl
  have i1:∀hh,rA (.tup [.str "laid", .lst (UB c u),.int (sp:Nat)]) (.int 1) hh=some (.lst (UB c u),hh):=fun Z=>rfl
  have q1:∀hh,jG (.str "laid") (.str "clash") hh=some (.bl false,hh):=fun Z=>rfl
  have q2:∀hh,jG (.str "laid") (.str "open") hh=some (.bl false,hh):=fun Z=>rfl
  have mu:=fun(hh:HI)=>xE (h:=hh) (i:=2) (j:=((c:Nat):Int)) (Or.inr ⟨by omega,by omega⟩)
  have cu:(2:Int)*((c:Nat):Int)+1=((2*c+1:Nat):Int):=by omega
  have D4:=D1.up U4;have hd4:=U4.2 _ _ hd1';obtain⟨l',h5,e5,⟨y,rfl⟩,rfl⟩:=SL (bd:=DA 8) (n:=1) (body:=xO) ds (fun k l h'=>(∃y,l=[some (.lst (ns.map Dt.int)),some (.int (c:Nat)),some (.int sc),some (.ref 0),some (.ref 1),some (.ref h1.length),some (.int (m:Nat)),some (.tup [.str "laid", .lst (UB c u),.int (sp:Nat)]),y])/\h'=h4) (by rintro k l h' ⟨_,rfl⟩;exact hd4) (by
   rintro k d hd l h' ⟨⟨y,rfl⟩,rfl⟩;obtain⟨f,hf,fa⟩:=D4.get hd;have ek:=ig (show c<=100 by omega) oks fa (kp f (mem_of_getElem? hf));refine⟨_,[some (.lst (ns.map Dt.int)),some (.int (c:Nat)),some (.int sc),some (.ref 0),some (.ref 1),some (.ref h1.length),some (.int (m:Nat)),some (.tup [.str "laid", .lst (UB c u),.int (sp:Nat)]),some d],h',rfl,?_,⟨_,rfl⟩,rfl⟩;simp only[xO,zfM,zfL,dB,GG,NA,gB,UA,KA,oA,yA,xA,zfF,zfG,pA,iA,i1,mu,nE,cu,zfW,ek,VA,Bool.not_true,zfX,if_false,dC]) [some (.lst (ns.map Dt.int)),some (.int (c:Nat)),some (.int sc),some (.ref 0),some (.ref 1),some (.ref h1.length),some (.int (m:Nat)),some (.tup [.str "laid", .lst (UB c u),.int (sp:Nat)]),none] h4 ⟨⟨_,rfl⟩,rfl⟩
  refine⟨h5,?_⟩;simp only[UI,TL,rB,zfH,zfI,if_true,zfJ,zfK,Nat.reduceAdd,Nat.reduceSub,replicate,zfQ,zfP,OA,YA,gB,UA,KA,yA,xA,oA,zfF,zfG,pA,iA,zfW,c0,m3,nE,hcc,zfM,zfL,QA,pw,c5,m14,hsc,es1,zcg,ef2,VH,if_pos l6,wG,hm,ep',dB,QI,GG,NA,ne,VA,zfX,if_false,et',Bool.not_true,i0,i1,q1,el,dC,q2,pl,ND,CD,jE hd4,e5,yB,BB]
set_option maxHeartbeats 0 in
theorem Gf {l:PySem.W.OpenLaw} {w:World} {K:Frag} {h:Heap} {mg:Str->Option Value} {fa:Addr} (X:K.In h) (G:h.Ns mainGlobals mg) (hfa:mg "law" =some (.ref fa))
 {yp:Addr} {zbN:Value} {zaX:Addr} {zaA:Addr} {zbs:Value}
 (yq0:nM K "Search" yp) (yq1:findIn K (.ref yp) "lengths" =some none) (yq2:findIn K (.ref yp) "most" =some none) (yq3:findIn K (.ref yp) "made" =some none) (yq4:kB K "zones" WT) (yq5:kB K "ways_in" ZS) (yq6:kB K "set_of" kT) (yq7:kB K "turned" lT) (yq8:kB K "chained_sets" JQ) (yq9:kB K "wide_row" ES) (yq10:kB K "wide" SU) (yq11:kB K "pairs_of" CS) (yq12:kB K "narrowed" BS) (yq13:kB K "left_by" WS) (yq14:kB K "narrows" YS) (yq15:kB K "made_of" XS) (yq16:kB K "is_empty" AS) (yq17:kB K "threes_along" OQ) (yq18:kB K "rounded_from" MQ) (yq19:kB K "first_net" BR) (yq20:kB K "lengths_in" UR) (yq21:kB K "groups_in" DR) (yq22:kB K "only_member" xR) (yq23:kB K "first_loose_pair" nQ) (yq24:kB K "split_of" DS) (yq25:kB K "grain" uU) (yq26:kB K "length_bounds" QQ) (yq27:kB K "point_bounds" LQ) (yq28:kB K "set_bounds" VR) (yq29:kB K "bounds" jT) (yq30:kB K "least_bounds" KQ) (yq31:kB K "moved" vU) (yq32:kB K "ring_behind" yR) (yq33:kB K "timed" VT) (yq34:VL K yp "__init__" "Search.__init__" GQ) (yq35:VL K yp "look" "Search.look" uR) (yq36:VL K yp "look_at_branches" "Search.look_at_branches" lQ) (yq37:kB K "stretches_at" NQ) (yq38:X0 K "planned" TN 200) (yq39:kB K "_law_cell_at" IQ) (yq40:kB K "_law_whole" SR) (yq41:kB K "_law_mixed" PR) (yq42:kB K "_law_zones" TR) (yq43:kB K "_law_zone" AR) (yq44:kB K "_law_way" zS) (yq45:kB K "_law_spans" QR) (yq46:kB K "_law_true_set" PQ) (yq47:kB K "_law_true_ways" CQ) (yq48:kB K "_law_true_group" HQ) (yq49:kB K "_law_true_long" BQ) (yq50:kB K "_law_facts" MR) (yq51:kB K "_law_keeps" NR) (yq52:kB K "_law_plan" LR) (yq53:kB K "_law_told" zR) (yq54:kB K "_law_turned" wR) (yq55:kB K "_law_of_two" vR) (yq56:kB K "_law_set" yS) (yq57:kB K "_law_first_way" AQ) (yq58:kB K "_law_least_first" mQ) (yq59:kB K "law" wV) (yq60:nsIn K mainGlobals "all" =some none) (yq61:nsIn K mainGlobals "any" =some none) (yq62:nsIn K mainGlobals "bool" =some none) (yq63:nsIn K mainGlobals "enumerate" =some none) (yq64:nsIn K mainGlobals "int" =some none) (yq65:nsIn K mainGlobals "isinstance" =some none) (yq66:nsIn K mainGlobals "len" =some none) (yq67:nsIn K mainGlobals "list" =some none) (yq68:nsIn K mainGlobals "max" =some none) (yq69:nsIn K mainGlobals "min" =some none) (yq70:nsIn K mainGlobals "range" =some none) (yq71:nsIn K mainGlobals "sum" =some none) (yq72:nsIn K mainGlobals "tuple" =some none) (yq73:nsIn K mainGlobals "ALL" =some (some zbN)) (yq74:VD K 6 zbN=some UL) (yq75:nsIn K mainGlobals "ZONES" =some (some (.ref zaX))) (yq76:VD K 6 (.ref zaX)=some QT) (yq77:nsIn K mainGlobals "CHAINED" =some (some (.ref zaA))) (yq78:VD K 6 (.ref zaA)=some rS) (yq79:nsIn K mainGlobals "SAME" =some (some zbs)) (yq80:VD K 6 zbs=some wU)
 :∃fd:FuncData,(∀(s:Shared) (v:Value),BindsTo s fd ⟨[v],[]⟩ [("_law_script",v)])/\∀base:Heap,K.In base->base.Ns mainGlobals mg->Xl l.prog w K mg base cG 32 fa fd ["_law_script"] (dJ K 1 UI):=by
 have T:Ad K mg:={
  zdq:=uB X G yq4 fun Z Z Z Z Z Z=>len1 (fun Z=>rfl)
  zdh:=uB X G yq5 fun Z Z Z Z Z Z=>len1 (fun Z=>rfl)
  zdk:=uB X G yq6 fun Z Z Z Z Z Z=>len1 (fun Z=>rfl)
  zdl:=uB X G yq7 fun Z Z Z Z Z Z=>len1 (fun Z=>rfl)
  zcJ:=uB X G yq8 fun Z Z Z Z Z Z=>rD (fun Z Z=>rfl)
  zdc:=uB X G yq9 fun Z Z Z Z Z Z=>rD (fun Z Z=>rfl)
  zds:=uB X G yq10 fun Z Z Z Z Z Z=>len1 (fun Z=>rfl)
  zda:=uB X G yq11 fun Z Z Z Z Z Z=>len1 (fun Z=>rfl)
  zc9:=uB X G yq12 fun Z Z Z Z Z Z=>uK (fun Z Z Z Z=>rfl)
  zde:=uB X G yq13 fun Z Z Z Z Z Z=>rD (fun Z Z=>rfl)
  zdg:=uB X G yq14 fun Z Z Z Z Z Z=>rD (fun Z Z=>rfl)
  zdf:=uB X G yq15 fun Z Z Z Z Z Z=>rD (fun Z Z=>rfl)
  zc8:=uB X G yq16 fun Z Z Z Z Z Z=>len1 (fun Z=>rfl)
  zcO:=uB X G yq17 fun Z Z Z Z Z Z=>rD (fun Z Z=>rfl)
  zcM:=uB X G yq18 fun Z Z Z Z Z Z=>rD (fun Z Z=>rfl)
  zc3:=uB X G yq19 fun Z Z Z Z Z Z=>rD (fun Z Z=>rfl)
  zcR:=uB X G yq20 fun Z Z Z Z Z Z=>len1 (fun Z=>rfl)
  zc4:=uB X G yq21 fun Z Z Z Z Z Z=>len1 (fun Z=>rfl)
  zcY:=uB X G yq22 fun Z Z Z Z Z Z=>iG (fun Z Z Z=>rfl)
  zcB:=uB X G yq23 fun Z Z Z Z Z Z=>len1 (fun Z=>rfl)
  zdb:=uB X G yq24 fun Z Z Z Z Z Z=>rD (fun Z Z=>rfl)
  zdn:=uB X G yq25 fun Z Z Z Z Z Z=>len1 (fun Z=>rfl)
  zcH:=uB X G yq26 fun Z Z Z Z Z Z=>rD (fun Z Z=>rfl)
  zcL:=uB X G yq27 fun Z Z Z Z Z Z=>uK (fun Z Z Z Z=>rfl)
  zcS:=uB X G yq28 fun Z Z Z Z Z Z=>iG (fun Z Z Z=>rfl)
  zdj:=uB X G yq29 fun Z Z Z Z Z Z=>rD (fun Z Z=>rfl)
  zcK:=uB X G yq30 fun Z Z Z Z Z Z=>len1 (fun Z=>rfl)
  zdo:=uB X G yq31 fun Z Z Z Z Z Z=>iG (fun Z Z Z=>rfl)
  zcZ:=uB X G yq32 fun Z Z Z Z Z Z=>rD (fun Z Z=>rfl)
  zdp:=uB X G yq33 fun Z Z Z Z Z Z=>rD (fun Z Z=>rfl)
  zdi:=Gk X G yq0 yq34 fun Z Z Z Z Z Z=>iG (fun Z Z Z=>rfl)
  zca:=nY yq0 yq35 fun Z Z Z Z Z Z=>uK (fun Z Z Z Z=>rfl)
  zcz:=nY yq0 yq36 fun Z Z Z Z Z Z=>uK (fun Z Z Z Z=>rfl)
  zcN:=uB X G yq37 fun Z Z Z Z Z Z=>len1 (fun Z=>rfl)
  zc5:=Wy X G yq38 fun Z Z Z Z Z Z Z Z Z Z Z us hl h1 h2=>match us,hl with | [_,_,_],_=>BindsTo.of_defaults rfl h1 h2 rfl rfl
  zcI:=uB X G yq39 fun Z Z Z Z Z Z=>rD (fun Z Z=>rfl)
  zcP:=uB X G yq40 fun Z Z Z Z Z Z=>len1 (fun Z=>rfl)
  zcU:=uB X G yq41 fun Z Z Z Z Z Z=>rD (fun Z Z=>rfl)
  zcQ:=uB X G yq42 fun Z Z Z Z Z Z=>tK rfl
  zc2:=uB X G yq43 fun Z Z Z Z Z Z=>rD (fun Z Z=>rfl)
  zc7:=uB X G yq44 fun Z Z Z Z Z Z=>rD (fun Z Z=>rfl)
  zcV:=uB X G yq45 fun Z Z Z Z Z Z=>iG (fun Z Z Z=>rfl)
  zcG:=uB X G yq46 fun Z Z Z Z Z Z=>rD (fun Z Z=>rfl)
  zcD:=uB X G yq47 fun Z Z Z Z Z Z=>iG (fun Z Z Z=>rfl)
  zcF:=uB X G yq48 fun Z Z Z Z Z Z=>rD (fun Z Z=>rfl)
  zcC:=uB X G yq49 fun Z Z Z Z Z Z=>iG (fun Z Z Z=>rfl)
  zcT:=uB X G yq50 fun Z Z Z Z Z Z=>uK (fun Z Z Z Z=>rfl)
  zb8:=uB X G yq51 fun Z Z Z Z Z Z=>iG (fun Z Z Z=>rfl)
  zc0:=uB X G yq52 fun Z Z Z Z Z Z=>rD (fun Z Z=>rfl)
  zc1:=uB X G yq53 fun Z Z Z Z Z Z=>rD (fun Z Z=>rfl)
  zcX:=uB X G yq54 fun Z Z Z Z Z Z=>len1 (fun Z=>rfl)
  zcW:=uB X G yq55 fun Z Z Z Z Z Z=>len1 (fun Z=>rfl)
  zc6:=uB X G yq56 fun Z Z Z Z Z Z=>len1 (fun Z=>rfl)
  zcE:=uB X G yq57 fun Z Z Z Z Z Z=>len1 (fun Z=>rfl)
  zcA:=uB X G yq58 fun Z Z Z Z Z Z=>len1 (fun Z=>rfl)
  zb7:=dU yq0 yq1
  zb9:=dU yq0 yq2
  zbb:=dU yq0 yq3
  zdu:=mg_none_of X G yq60
  zdv:=mg_none_of X G yq61
  zdt:=mg_none_of X G yq62
  zcb:=mg_none_of X G yq63
  zbG:=mg_none_of X G yq64
  zbc:=mg_none_of X G yq65
  Jp:=mg_none_of X G yq66
  zbd:=mg_none_of X G yq67
  zbH:=mg_none_of X G yq68
  zaV:=mg_none_of X G yq69
  Xp:=mg_none_of X G yq70
  zdw:=mg_none_of X G yq71
  zcc:=mg_none_of X G yq72
  zbF:=⟨⟨_,6,PySem.W.mg_of X G yq73,yq74⟩⟩
  zdm:=⟨⟨_,6,PySem.W.mg_of X G yq75,yq76⟩⟩
  zdd:=⟨⟨_,6,PySem.W.mg_of X G yq77,yq78⟩⟩
  zdr:=⟨⟨_,6,PySem.W.mg_of X G yq79,yq80⟩⟩
 }
 obtain⟨f,oc,od,kV,dc,pm,an,cd,ct,sl,a,l1,c1,k1⟩:=yq59;have e:=hfa.symm.trans (PySem.W.mg_of X G a);cases e;exact⟨_,fun s v=>.of_eq rfl,fun base Z Z=>Er T base (cP l1 c1 k1)⟩
end G
open PySem.W
set_option maxRecDepth 100000 in
set_option maxHeartbeats 0 in
theorem PySem.Challenge.cw_spanways_k16_what_drawn_stretches_keep_holds : PySem.Challenge.rw_spanways_k16_what_drawn_stretches_keep.Holds := by
 refine HD.top ?_
 k_fill
 refine SM.Vk (l:=PySem.Challenge.rw_spanways_k16_what_drawn_stretches_keep) (F:=G.UI) (k:=32) (x := "_law_script") rfl rfl ⟨rfl,by decide,by decide⟩ (fun w h Y=>PySem.W.kIn_of Y) ?F G.law_true
 case F=>
  intro w mg fa h KX GN hmg
  refine' G.Gf KX GN hmg ?yq0 ?yq1 ?yq2 ?yq3 ?yq4 ?yq5 ?yq6 ?yq7 ?yq8 ?yq9 ?yq10 ?yq11 ?yq12 ?yq13 ?yq14 ?yq15 ?yq16 ?yq17 ?yq18 ?yq19 ?yq20 ?yq21 ?yq22 ?yq23 ?yq24 ?yq25 ?yq26 ?yq27 ?yq28 ?yq29 ?yq30 ?yq31 ?yq32 ?yq33 ?yq34 ?yq35 ?yq36 ?yq37 ?yq38 ?yq39 ?yq40 ?yq41 ?yq42 ?yq43 ?yq44 ?yq45 ?yq46 ?yq47 ?yq48 ?yq49 ?yq50 ?yq51 ?yq52 ?yq53 ?yq54 ?yq55 ?yq56 ?yq57 ?yq58 ?yq59 ?yq60 ?yq61 ?yq62 ?yq63 ?yq64 ?yq65 ?yq66 ?yq67 ?yq68 ?yq69 ?yq70 ?yq71 ?yq72 ?yq73 ?yq74 ?yq75 ?yq76 ?yq77 ?yq78 ?yq79 ?yq80
  (case yq0=>exact⟨by k_is,by k_is,by k_is,by k_is,by k_is,by k_is,by k_is⟩)
  (case yq1 | yq2 | yq3=>k_is)
  (case yq4 | yq5 | yq6 | yq7 | yq8 | yq9 | yq10 | yq11 | yq12 | yq13 | yq14 | yq15 | yq16 | yq17 | yq18 | yq19 | yq20 | yq21 | yq22 | yq23 | yq24 | yq25 | yq26 | yq27 | yq28 | yq29 | yq30 | yq31 | yq32 | yq33=>exact⟨_,_,_,_,_,_,_,_,_,_,by k_is,by k_is,by k_is,by k_is⟩)
  (case yq34 | yq35 | yq36=>exact⟨_,_,_,_,_,_,_,_,_,_,by k_is,by k_is,by k_is,by k_is,by k_is⟩)
  (case yq37=>exact⟨_,_,_,_,_,_,_,_,_,_,by k_is,by k_is,by k_is,by k_is⟩)
  (case yq38=>exact⟨_,_,_,_,_,_,_,_,_,_,_,_,_,_,by k_is,by k_is,by k_is,by k_is,by k_is,by rfl⟩)
  (case yq39 | yq40 | yq41 | yq42 | yq43 | yq44 | yq45 | yq46 | yq47 | yq48 | yq49 | yq50 | yq51 | yq52 | yq53 | yq54 | yq55 | yq56 | yq57 | yq58 | yq59=>exact⟨_,_,_,_,_,_,_,_,_,_,by k_is,by k_is,by k_is,by k_is⟩)
  (case yq60 | yq61 | yq62 | yq63 | yq64 | yq65 | yq66 | yq67 | yq68 | yq69 | yq70 | yq71 | yq72 | yq73=>k_is)
  (case yq74=>kernel_rfl)
  (case yq75=>k_is)
  (case yq76=>kernel_rfl)
  (case yq77=>k_is)
  (case yq78=>kernel_rfl)
  (case yq79=>k_is)
  (case yq80=>kernel_rfl)
end
