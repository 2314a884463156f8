import PyProof.Rows.All
import Wide.All
import OpenK.AllK
import Wide.FinOn
import Lean
import PyProof.EqAt
import PyProof.EqKinds
import PyProof.TupleCall
import PySem.Challenge.RW_spanways_k24_whole_tame_facts_need_no_tr
set_option Elab.async false
set_option linter.all false
set_option maxRecDepth 100000
set_option bootstrap.genMatcherCode false
noncomputable section
section
open PySem PySem.W PyProof.Rows
namespace HD
noncomputable abbrev rw:=PySem.Challenge.rw_spanways_k24_whole_tame_facts_need_no_tr.row.toRowW
noncomputable def vw:Program:={rw.prog with main:={rw.prog.main with body:=[1,2,3,4,5,6,8,9,11,12,13,14,15,16,17,18,19,20,21,22,24,25,26,27,28,29,31,32,33,34,35,36,37,38,39,41,42,45,46,47,49,50,51,52,53,54,55,56,57,58].filterMap (rw.prog.main.body[·]?)}}
noncomputable abbrev xt:Shared->Bool:=fun s=>xlAt HD.vw [] s && recOk (RowW.records HD.rw) s
theorem jn {p q:Program}{l:List Str}{X:Shared->Bool}{α:Type}{Y:Shared->α}{Z:World->α}{N:Nat}(a:∀ w,(openEnds treeTable p w N).map (fun s=>(openSeen q l (importedModules p.main.body) X true s).1)=some (openGood q l).1)(b:∀ w,(openEnds treeTable p w N).map (fun s=>(openSeen q l (importedModules p.main.body) X true s).2)=some (openGood q l).2)(c:∀ w,(openEnds treeTable p w N).map Y=some (Z w)):LeftO p q l X Y Z N:=fun w=>by
  obtain ⟨s,e,d⟩:=Option.map_eq_some_iff.mp (a w)
  have f:=b w
  have g:=c w
  rw [e] at f g
  show (openEnds treeTable p w N).map _=_
  rw [e]
  exact congrArg some (Prod.ext (Prod.ext d (Option.some.inj f)) (Option.some.inj g))
set_option maxHeartbeats 0
theorem a1:∀ w,(openEnds treeTable rw.prog w 4174).map (fun s=>(openSeen vw ["planned"] (importedModules rw.prog.main.body) xt true s).1)=some (openGood vw ["planned"]).1:=by intro w; kernel_rfl
theorem a2:∀ w,(openEnds treeTable rw.prog w 4174).map (fun s=>(openSeen vw ["planned"] (importedModules rw.prog.main.body) xt true s).2)=some (openGood vw ["planned"]).2:=by intro w; kernel_rfl
local macro_rules | `(tactic|o_head $H)=>do
  let hw:=Lean.mkIdent `hw
  `(tactic|(refine holds_open (q:=HD.vw) (loose:=["planned"]) (Xt:=HD.xt) (XP:=XL HD.vw []) (Yf:=Hook.obs $H) (Ya:=Hook.val $H) (YP:=Hook.says $H) (N:=4174) ?_ (Hook.of $H) (Hook.keeps $H) (fun s e=>xl_of s (Bool.and_eq_true_iff.mp e).1) XL.keeps (by rfl) (by rfl) (by rfl) (fun s e=>recFacts_of (Bool.and_eq_true_iff.mp e).2) (by rfl) (by first | assumption | decide +kernel) (by decide +kernel) ⟨rfl,rfl,rfl,rfl,rfl,by decide +kernel⟩ ?$hw ?_; focus (refine HD.jn HD.a1 HD.a2 ?_; intro w; kernel_rfl)))
open_top top for PySem.Challenge.rw_spanways_k24_whole_tame_facts_need_no_tr
end HD
end
namespace L2
end L2
namespace SM
end SM
namespace BF
end BF
namespace G
end G
open PySem PySem.Spec PyProof.Rows L2 SM BF G List
theorem zdD{α:Type _}{a:α}{l:List α}:(a::l)[0]?=some a:=rfl
theorem zdE{α:Type _}{a:α}{l:List α}{i:Nat}:(a::l)[i+1]?=l[i]?:=rfl
theorem zdF{α:Type _}{a:α}{l:List α}:(a::l).length=l.length+1:=rfl
theorem zdG{α:Type _}:([]:List α).length=0:=rfl
theorem zdH{α β:Type _}{f:α->β}{a:α}{l:List α}:(a::l).map f=f a::l.map f:=rfl
theorem zdI{α β:Type _}{f:α->β}:[].map f=[]:=rfl
theorem zdJ{α:Type _}{a b:α}{l:List α}:(a::l).set 0 b=b::l:=rfl
theorem zdK{α:Type _}{a b:α}{l:List α}{i:Nat}:(a::l).set (i+1) b=a::l.set i b:=rfl
theorem zdL{α β:Type _}{f:α->β}{a:α}:(some a).map f=some (f a):=rfl
theorem zdM{α β:Type _}{a:α}{f:α->Option β}:(some a).bind f=f a:=rfl
theorem zdN{α:Type _}{l:List α}:[]++l=l:=rfl
theorem zdO{α:Type _}{a:α}{l k:List α}:a::l++k=a::(l++k):=rfl
theorem zdP{α:Type _}{l:List α}{i:Nat}{a:α}:l[i]?=some a->∃h:i<l.length,l[i]=a:=List.getElem?_eq_some_iff.mp
theorem zdQ{α:Type _}{l k:List α}{i:Nat}(h:i<l.length):(l++k)[i]?=l[i]?:=List.getElem?_append_left h
theorem zdR:false≠true:=Bool.false_ne_true
theorem zdS(n:Nat):n<=n:=Nat.le_refl n
theorem zdT{α:Type _}{l k:List α}{i:Nat}(h:l.length<=i):(l++k)[i]?=k[i-l.length]?:=List.getElem?_append_right h
theorem zdU{α:Type _}(l:List α):l++[]=l:=List.append_nil l
theorem zdV:(false=true)=False:=Bool.false_eq_true
open PySem.W (Frag nsIn findIn keepIn fnOf mg_none_of)
namespace L2
noncomputable abbrev WB:=Sum Int Str
noncomputable def GJ:WB->Value->Bool
 | .inl k,v=>Value.isInt k v
 | .inr x,v=>Value.isStrOf x v
noncomputable def ZZ(w:World):WB->Int
 | .inl k=>hashInt k
 | .inr x=>hashStr w x
theorem DG:∀{k:WB}{v:Value},GJ k v=true->(∃i t,k=Sum.inl i/\v=Value.int i t)\/(∃x t,k=Sum.inr x/\v=Value.str x t)
 | .inl i,v,h=>by obtain⟨t,e⟩:=Value.isInt_shape (k:=i) (v:=v) h;exact .inl ⟨i,t,rfl,e⟩
 | .inr x,v,h=>by obtain⟨t,e⟩:=Value.isStrOf_shape (x:=x) (v:=v) h;exact .inr ⟨x,t,rfl,e⟩
theorem J8(i:Int)(t:Tok):GJ (.inl i) (.int i t)=true:=by simp[GJ,Value.isInt]
theorem K8(x:Str)(t:Tok):GJ (.inr x) (.str x t)=true:=by simp[GJ,Value.isStrOf]
theorem zy(a b:Int):decide ((Sum.inl a:WB)=Sum.inl b)=(a==b):=by
 by_cases e:a=b
 · subst e;simp
 · have h:¬(Sum.inl a:WB)=Sum.inl b:=fun q=>e (Sum.inl.inj q)
   rw[decide_eq_false h];exact(beq_eq_false_iff_ne.mpr e).symm
theorem Dy(a b:Str):decide ((Sum.inr a:WB)=Sum.inr b)=decide (a=b):=by
 by_cases e:a=b
 · subst e;simp
 · have h:¬(Sum.inr a:WB)=Sum.inr b:=fun q=>e (Sum.inr.inj q)
   rw[decide_eq_false h,decide_eq_false e]
theorem Ay(a:Int)(b:Str):decide ((Sum.inl a:WB)=Sum.inr b)=false:=decide_eq_false (fun q=>nomatch q)
theorem Cy(a:Str)(b:Int):decide ((Sum.inr a:WB)=Sum.inl b)=false:=decide_eq_false (fun q=>nomatch q)
def VD(prog:Program)(w:World):PySem.KeyKind prog w WB where
 is:=GJ
 hash:=ZZ w
 inj:=fun v a b ha hb=>by
  rcases DG ha with⟨i,t,rfl,rfl⟩ | ⟨x,t,rfl,rfl⟩
  · rcases DG hb with⟨j,u,rfl,e⟩ | ⟨y,u,rfl,e⟩
    · injection e with e1 _;rw[e1]
    · exact nomatch e
  · rcases DG hb with⟨j,u,rfl,e⟩ | ⟨y,u,rfl,e⟩
    · exact nomatch e
    · injection e with e1 _;rw[e1]
 byValue:=fun k v h=>by rcases DG h with⟨i,t,rfl,rfl⟩ | ⟨x,t,rfl,rfl⟩<;>rfl
 pyHash:=fun hv h=>by
  rcases DG hv with⟨i,t,rfl,rfl⟩ | ⟨x,t,rfl,rfl⟩
  · exact wpAny_pyHash_int h
  · exact wpAny_pyHash_str h
 eqBool:=fun hu hv h=>by
  rcases DG hu with⟨i,t,rfl,rfl⟩ | ⟨x,t,rfl,rfl⟩
  · rcases DG hv with⟨j,u,rfl,rfl⟩ | ⟨y,u,rfl,rfl⟩
    · rw[zy]at h;exact wpAny_eqBool_int h
    · rw[Ay]at h;exact SeqAt.EqAt.int_str i t y u _ _ _ _ h
  · rcases DG hv with⟨j,u,rfl,rfl⟩ | ⟨y,u,rfl,rfl⟩
    · rw[Cy]at h;exact SeqAt.EqAt.str_int x t j u _ _ _ _ h
    · rw[Dy]at h;exact wpAny_eqBool_str h
 «strs»:=fun k x t v h=>by
  rcases DG h with⟨i,u,rfl,e⟩ | ⟨y,u,rfl,e⟩
  · exact nomatch e
  · injection e with e1 _
    subst e1;cases v<;>rfl
theorem g6(prog:Program)(w:World)(i:Int)(t:Tok):(VD prog w).is (.inl i) (.int i t)=true:=J8 i t
theorem i6(prog:Program)(w:World)(x:Str)(t:Tok):(VD prog w).is (.inr x) (.str x t)=true:=K8 x t
inductive V where
 | non | bl (b:Bool) | int (i:Int) | str (x:Str) | Um (b:Array UInt8) | flt (b:UInt64) | ref (a:Addr) | ty (n:String)
 deriving DecidableEq
noncomputable def RelV:V->Value->Prop
 | .non,u=>u=Value.none
 | .bl b,u=>u=Value.bool b
 | .int i,u=>∃t,u=Value.int i t
 | .str x,u=>∃t,u=Value.str x t
 | .Um b,u=>∃t,u=Value.bytes b t
 | .flt b,u=>∃t,u=Value.float b t
 | .ref a,u=>u=Value.ref a
 | .ty n,u=>u=Value.type n
abbrev Vals:List V->List Value->Prop:=Paired RelV
theorem Vals.length{xs:List V}{us:List Value}(r:Vals xs us):xs.length=us.length:=Paired.length r
theorem Vals.get:∀{xs:List V}{us:List Value}{i:Nat}{x:V},Vals xs us->xs[i]?=some x->∃u,us[i]?=some u/\RelV x u
 | _,_,_,_,.nil,e=>by simp at e
 | _,_,0,_,.cons r _,e=>by simp at e;subst e;exact⟨_,rfl,r⟩
 | _,_,i+1,x,.cons _ t,e=>by obtain⟨u,h1,h2⟩:=Vals.get (i:=i) (x:=x) t (by simpa using e);exact⟨u,by simpa using h1,h2⟩
theorem Vals.set{x:V}{u:Value}(r:RelV x u):∀{xs:List V}{us:List Value}(i:Nat),Vals xs us->Vals (xs.set i x) (us.set i u)
 | _,_,_,.nil=>.nil
 | _,_,0,.cons _ t=>.cons r t
 | _,_,i+1,.cons q t=>.cons q (Vals.set r i t)
theorem Vals.append:∀{xs ys:List V}{us ws:List Value},Vals xs us->Vals ys ws->Vals (xs++ys) (us++ws)
 | _,_,_,_,.nil,s=>s
 | _,_,_,_,.cons r t,s=>.cons r (Vals.append t s)
theorem Vals.take:∀{xs:List V}{us:List Value}(n:Nat),Vals xs us->Vals (xs.take n) (us.take n)
 | _,_,0,_=>.nil
 | _,_,_+1,.nil=>.nil
 | _,_,n+1,.cons r t=>.cons r (Vals.take n t)
theorem Vals.drop:∀{xs:List V}{us:List Value}(n:Nat),Vals xs us->Vals (xs.drop n) (us.drop n)
 | _,_,0,r=>r
 | _,_,_+1,.nil=>.nil
 | _,_,n+1,.cons _ t=>Vals.drop n t
theorem Vals.none_of:∀{xs:List V}{us:List Value}{i:Nat},Vals xs us->xs[i]?=none->us[i]?=none:=fun {xs us i} r e=>by have h1:=r.length;have h2:xs.length<=i:=getElem?_eq_none_iff.mp e;exact getElem?_eq_none_iff.mpr (by omega)
def Qc:Option V->Option Value->Prop
 | some v,some u=>RelV v u
 | none,none=>True
 | _,_=>False
def KV{κ:Type}:List (κ×V)->List (κ×Value)->Prop:=Paired fun(p:κ×V) (q:κ×Value)=>p.1=q.1/\RelV p.2 q.2
noncomputable def kV:WB->V
 | .inl i=>.int i
 | .inr x=>.str x
inductive HO where
 | lst (xs:List V)
 | tup (xs:List V)
 | dK (kvs:List (WB×V)) | dT (kvs:List (List WB×V))
 | set (S:Int->Bool) (n:Nat)
 | ins (C dx:Addr) (fs:List (Str×V))
 | own (x:Addr)
 | xd (fs:List (Str×V))
 | met (f x:Addr)
 | rng (lo hi:Int)
 | Jb (o:Obj) (u:HO)
 | tbl (ps:Array Value)
 | ext (φ:Heap->Prop)
noncomputable abbrev Hp:=Addr->Option HO
noncomputable def yB(H:Hp)(a:Addr)(o:HO):Hp:=fun b=>if b=a then some o else H b
theorem LC{H:Hp}{a:Addr}{o:HO}:yB H a o a=some o:=by unfold yB;rw[if_pos rfl]
theorem NA{H:Hp}{a b:Addr}{o:HO}(h:b≠a):yB H a o b=H b:=by unfold yB;rw[if_neg h]
theorem JT{H:Hp}{a b:Addr}{o u:HO}(h:H a=some o)(h':H b=some u)(d:o≠u):a≠b:=by intro e;subst e;rw[h]at h';exact d (Option.some.inj h')
theorem XC{H:Hp}{a b:Addr}{o:HO}(h:H a=some o)(h':H b=none):a≠b:=by intro e;subst e;rw[h]at h';cases h'
section
variable(P:Program)(w:World)
def Nf(H:Hp)(h:Heap)(a:Addr):HO->Prop
 | .lst xs=>xs.length<=sizeLine/\∃(its:List Value) (n:Nat),Vals xs its/\h.get? a=some { cls:=.type "list",data:=.seq its.toArray n }
 | .tup xs=>xs.length<=sizeLine/\∃its:List Value,Vals xs its/\IsTup h a its.toArray
 | .dK kvs=>kvs.length<=sizeLine/\(a==sysModules)=false/\∃vs,KV kvs vs/\h.DictOf (VD P w) a vs
 | .dT kvs=>kvs.length<=sizeLine/\(a==sysModules)=false/\∃xs:List (List WB×Addr×Value),
  Paired (fun(p:List WB×V) (q:List WB×Addr×Value)=>p.1=q.1/\H q.2.1=some (.tup (p.1.map kV))/\RelV p.2 q.2.2) kvs xs/\
  ∃o es ep,h.get? a=some o/\o.ExactDict/\o.data=.dict es ep/\es.toList=xs.map (entryOfKey (tupleKind (VD P w)))/\(xs.map (·.1)).Nodup
 | .set S n=>h.SetOf (intKind P w) a S n
 | .ins C dx fs=>H dx=some (.own a)/\fs.length<=1000/\dx≠a/\h.get? a=some (PySem.W.instObj C dx)/\
  ∃mA,h.Ns1 dx mA/\(∀f,Qc (fs.lookup f) (mA f))/\PySem.Within mA (fs.map (·.1))
 | .own _=>∃o,h.get? a=some o
 | .xd fs=>∃mA,h.Ns1 a mA/\∀f,Qc (fs.lookup f) (mA f)
 | .rng lo hi=>∃t u v,h.get? a=some { cls:=.type "range",data:=.fields #[.int lo t,.int hi u,.int 1 v] }
 | .Jb o u=>h.get? a=some o/\Nf H h a u
 | .tbl ps=>h.get? a=some { cls:=.none,data:=.fields ps }
 | .met f x=>h.get? a=some (PySem.W.methodObj (.ref f) (.ref x))
 | .ext φ=>φ h/\(∃o,h.get? a=some o)/\∀h1 h2:Heap,φ h1->(∀o,h1.get? a=some o->h2.get? a=some o)->φ h2
def Zc(H:Hp)(h:Heap):Prop:=∀a o,H a=some o->Nf P w H h a o
end
section
variable{P:Program}{w:World}{H H':Hp}{h h':Heap}{a:Addr}{o:HO}
theorem Nf.lt(x:Nf P w H h a o):a<h.objs.size:=by
 cases o with
 | lst xs=>obtain⟨_,_,_,_,e⟩:=x;exact Heap.lt_size e
 | tup xs=>obtain⟨_,_,_,p⟩:=x;exact p.lt
 | dK kvs=>obtain⟨_,_,_,_,o,_,_,e,_⟩:=x;exact Heap.lt_size e
 | dT kvs=>obtain⟨_,_,_,_,o,_,_,e,_⟩:=x;exact Heap.lt_size e
 | set S n=>obtain⟨o,_,_,_,e,_⟩:=x;exact Heap.lt_size e
 | ins C dx fs=>obtain⟨_,_,_,e,_⟩:=x;exact Heap.lt_size e
 | own y=>obtain⟨_,e⟩:=x;exact Heap.lt_size e
 | xd fs=>obtain⟨_,⟨_,_,_,e,_⟩,_⟩:=x;exact Heap.lt_size e
 | rng lo hi=>obtain⟨_,_,_,e⟩:=x;exact Heap.lt_size e
 | Jb ob u=>obtain⟨e,_⟩:=x;exact Heap.lt_size e
 | tbl ps=>exact Heap.lt_size (show h.get? a=some _ from x)
 | met f y=>exact Heap.lt_size (show h.get? a=some _ from x)
 | ext φ=>obtain⟨_,⟨_,e⟩,_⟩:=x;exact Heap.lt_size e
theorem Paired.zat{α β:Type}{F G:α->β->Prop}:∀{l₁:List α}{l₂:List β},Paired F l₁ l₂->(∀a b,F a b->G a b)->Paired G l₁ l₂
 | _,_,.nil,_=>.nil
 | _,_,.cons r t,f=>.cons (f _ _ r) (Paired.zat t f)
theorem Nf.stay(x:Nf P w H h a o)(k:∀b u,(b=a\/H b=some (.own a))->h.get? b=some u->h'.get? b=some u)
 (ho:∀b,H b=some (.own a)->H' b=some (.own a)) (ht:∀b xs,H b=some (.tup xs)->H' b=some (.tup xs)):Nf P w H' h' a o:=by
 induction o with
 | lst xs=>obtain⟨z,its,n,r,e⟩:=x;exact⟨z,its,n,r,k _ _ (.inl rfl) e⟩
 | tup xs=>obtain⟨z,its,r,ob,e,c⟩:=x;exact⟨z,its,r,ob,k _ _ (.inl rfl) e,c⟩
 | dK kvs=>obtain⟨z,y,vs,r,ob,es,ep,e,c⟩:=x;exact⟨z,y,vs,r,ob,es,ep,k _ _ (.inl rfl) e,c⟩
 | dT kvs=>obtain⟨z,y,xs,r,ob,es,ep,e,c⟩:=x;exact⟨z,y,xs,Paired.zat r fun p q z=>⟨z.1,ht _ _ z.2.1,z.2.2⟩,ob,es,ep,k _ _ (.inl rfl) e,c⟩
 | set S n=>obtain⟨ob,es,ep,t,e,c⟩:=x;exact⟨ob,es,ep,t,k _ _ (.inl rfl) e,c⟩
 | ins C dx fs=>obtain⟨d,z,ne,e,mA,⟨od,es,ep,e2,c⟩,r⟩:=x;exact⟨ho _ d,z,ne,k _ _ (.inl rfl) e,mA,⟨od,es,ep,k _ _ (.inr d) e2,c⟩,r⟩
 | own y=>obtain⟨ob,e⟩:=x;exact⟨ob,k _ _ (.inl rfl) e⟩
 | xd fs=>obtain⟨mA,⟨od,es,ep,e,c⟩,r⟩:=x;exact⟨mA,⟨od,es,ep,k _ _ (.inl rfl) e,c⟩,r⟩
 | rng lo hi=>obtain⟨t,u,v,e⟩:=x;exact⟨t,u,v,k _ _ (.inl rfl) e⟩
 | Jb ob u ih=>obtain⟨e,q⟩:=x;exact⟨k _ _ (.inl rfl) e,ih q⟩
 | tbl ps=>have e:h.get? a=some { cls:=.none,data:=.fields ps }:=x;show h'.get? a=some { cls:=.none,data:=.fields ps };exact k a _ (.inl rfl) e
 | met f y=>have e:h.get? a=some (PySem.W.methodObj (.ref f) (.ref y)):=x;show h'.get? a=some (PySem.W.methodObj (.ref f) (.ref y));exact k a _ (.inl rfl) e
 | ext φ=>obtain⟨p,⟨o,e⟩,st⟩:=x;exact⟨st _ _ p fun o q=>k _ _ (.inl rfl) q,⟨o,k _ _ (.inl rfl) e⟩,st⟩
theorem Zc.lt(x:Zc P w H h)(e:H a=some o):a<h.objs.size:=(x a o e).lt
theorem Zc.fresh(x:Zc P w H h)(e:h.objs.size<=a):H a=none:=by
 cases q:H a with
 | none=>rfl
 | some u=>exact absurd (Nat.lt_of_lt_of_le (x.lt q) e) (Nat.lt_irrefl _)
theorem Zc.kept(x:Zc P w H h)(k:∀b u,h.get? b=some u->h'.get? b=some u):Zc P w H h':=fun a o e=>(x a o e).stay (fun b u _ q=>k b u q) (fun _ q=>q) fun _ _ q=>q
theorem Zc.laid(x:Zc P w H h)(k:∀b u,h.get? b=some u->h'.get? b=some u)(hp:h.objs.size<=a)(new:Nf P w (yB H a o) h' a o):Zc P w (yB H a o) h':=fun b u e=>by
 have hn:=x.fresh hp;by_cases hb:b=a
 · subst hb;rw[LC]at e;cases e;exact new
 · rw[NA hb]at e;exact(x b u e).stay (fun c v _ q=>k c v q) (fun c q=>by rw[NA (XC q hn)];exact q) fun c xs q=>by rw[NA (XC q hn)];exact q
end
noncomputable def Rd(H:Hp)(a:Addr)(u:HO):Prop:=H a=some u\/∃o,H a=some (.Jb o u)
theorem Rd.ok{P:Program}{w:World}{H:Hp}{h:Heap}{a:Addr}{u:HO}(r:Rd H a u)(x:Zc P w H h):Nf P w H h a u:=by
 rcases r with r | ⟨o,r⟩
 · exact x a u r
 · obtain⟨_,q⟩:=x a _ r;exact q
noncomputable def nU:Option HO->Prop
 | some (.lst _)=>True
 | some (.dK _)=>True
 | some (.dT _)=>True
 | some (.set _ _)=>True
 | some (.ins _ _ _)=>True
 | some (.ext _)=>True
 | _=>False
section
variable{P:Program}{w:World}{H:Hp}{h h':Heap}{x e:Addr}{o':HO}
theorem Zc.write(ok:Zc P w H h)(mu:nU (H x))(he:e=x\/H e=some (.own x))(k:∀b u,b≠e->h.get? b=some u->h'.get? b=some u)(heo:∃u,h'.get? e=some u)
 (new:Nf P w (yB H x o') h' x o'):Zc P w (yB H x o') h':=fun b u q=>by
 have zaV:∀c y,H c=some (.own y)->c≠x:=fun c y r z=>by subst z;rw[r]at mu;exact mu
 have zcj:∀c xs,H c=some (.tup xs)->c≠x:=fun c xs r z=>by subst z;rw[r]at mu;exact mu
 by_cases hb:b=x
 · subst hb;rw[LC]at q;cases q;exact new
 · rw[NA hb]at q;by_cases hbe:b=e
   · have q':H b=some (.own x):=by
      rcases he with z | z
      · exact absurd (hbe.trans z) hb
      · rw[hbe];exact z
     rw[q]at q';cases q';obtain⟨v,hv⟩:=heo;exact⟨v,by rw[hbe];exact hv⟩
   · refine(ok b u q).stay (fun c v hc r=>k c v ?_ r) (fun c r=>by rw[NA (zaV c b r)];exact r) fun c xs r=>by rw[NA (zcj c xs r)];exact r
     rcases hc with rfl | hc
     · exact hbe
     · rintro rfl;rcases he with z | z
       · exact zaV c b hc z
       · rw[hc]at z;cases z;exact hb rfl
end
structure Un(fs ex:List Addr)(H H':Hp)(h h':Heap):Prop where
 keep:∀b o,h.get? b=some o->H b=none->b∉fs->b∉ex->h'.get? b=some o
 slot:∀b o,h.get? b=some o->H b=none->b∈fs->b∉ex->∃sl,h'.get? b=some { o with slots:=sl }
 free:∀b o,h.get? b=some o->H b=none->b∉ex->H' b=none
 there:∀b o,h.get? b=some o->b∉ex->∃o',h'.get? b=some o'
 tups:∀b xs,H b=some (.tup xs)->H' b=some (.tup xs)
 Fb:∀b o u,H b=some (.Jb o u)->H' b=some (.Jb o u)
 Rb:∀b ps,H b=some (.tbl ps)->∃more,H' b=some (.tbl (ps++more))
section
variable{fs fs' ex ex':List Addr}{H H1 H2:Hp}{h h1 h2 h':Heap}{a x e:Addr}{o:HO}
theorem Un.any(u:Un fs ex H H1 h h1){b:Addr}{ob:Obj}(q:h.get? b=some ob)(n:H b=none)(hx:b∉ex):∃sl,h1.get? b=some { ob with slots:=sl }:=by
 by_cases hb:b∈fs
 · exact u.slot b ob q n hb hx
 · exact⟨ob.slots,u.keep b ob q n hb hx⟩
theorem Un.trans(a:Un fs ex H H1 h h1)(b:Un fs ex H1 H2 h1 h2):Un fs ex H H2 h h2 where
 keep:=fun c ob q n hc hx=>b.keep c ob (a.keep c ob q n hc hx) (a.free c ob q n hx) hc hx
 slot:=fun c ob q n hc hx=>by obtain⟨sl,e1⟩:=a.slot c ob q n hc hx;obtain⟨sl',e2⟩:=b.slot c _ e1 (a.free c ob q n hx) hc hx;exact⟨sl',e2⟩
 free:=fun c ob q n hx=>by obtain⟨o',e1⟩:=a.there c ob q hx;exact b.free c o' e1 (a.free c ob q n hx) hx
 there:=fun c ob q hx=>by obtain⟨o',e1⟩:=a.there c ob q hx;exact b.there c o' e1 hx
 tups:=fun c xs q=>b.tups c xs (a.tups c xs q)
 Fb:=fun c ob xs q=>b.Fb c ob xs (a.Fb c ob xs q)
 Rb:=fun c ps q=>by obtain⟨m1,e1⟩:=a.Rb c ps q;obtain⟨m2,e2⟩:=b.Rb c _ e1;exact⟨m1++m2,by rw[e2,Array.append_assoc]⟩
theorem Un.kept(k:∀b u,h.get? b=some u->h'.get? b=some u):Un fs ex H H h h':=
 ⟨fun b ob q _ _ _=>k b ob q,fun b ob q _ _ _=>⟨ob.slots,k b ob q⟩,fun _ _ _ n _=>n,fun b ob q _=>⟨ob,k b ob q⟩,fun _ _ q=>q,fun _ _ _ q=>q,fun _ ps q=>⟨#[],by rw[q];simp⟩⟩
theorem Un.refl:Un fs ex H H h h:=Un.kept fun _ _ q=>q
theorem Un.laid(k:∀b u,h.get? b=some u->h'.get? b=some u)(hp:h.objs.size<=a)(hn:H a=none):Un fs ex H (yB H a o) h h' where
 keep:=fun b u q _ _ _=>k b u q
 slot:=fun b u q _ _ _=>⟨u.slots,k b u q⟩
 free:=fun b u q n _=>by rw[NA (Nat.ne_of_lt (Nat.lt_of_lt_of_le (Heap.lt_size q) hp))];exact n
 there:=fun b u q _=>⟨u,k b u q⟩
 tups:=fun b xs q=>by rw[NA (XC q hn)];exact q
 Fb:=fun b u xs q=>by rw[NA (XC q hn)];exact q
 Rb:=fun b ps q=>⟨#[],by rw[NA (XC q hn),q];simp⟩
theorem Un.write(mu:nU (H x))(he:e=x\/H e=some (.own x))(k:∀b u,b≠e->h.get? b=some u->h'.get? b=some u)(heo:∃u,h'.get? e=some u):Un fs ex H (yB H x o) h h':=by
 have hx:∀b,H b=none->b≠x:=fun b n z=>by subst z;rw[n]at mu;exact mu
 have hb:∀b,H b=none->b≠e:=fun b n z=>by
  subst z;rcases he with r | r
  · exact hx b n r
  · rw[n]at r;cases r
 have hm:∀b u,H b=some u->¬nU (some u)->b≠x:=fun b u q nm z=>by subst z;rw[q]at mu;exact nm mu
 refine⟨fun b u q n _ _=>k b u (hb b n) q,fun b u q n _ _=>⟨u.slots,k b u (hb b n) q⟩,fun b u q n _=>by rw[NA (hx b n)];exact n,fun b u q _=>?_,
  fun b xs q=>by rw[NA (hm b _ q fun z=>z)];exact q,fun b u xs q=>by rw[NA (hm b _ q fun z=>z)];exact q,fun b ps q=>⟨#[],by rw[NA (hm b _ q fun z=>z),q];simp⟩⟩
 by_cases hbe:b=e
 · subst hbe;exact heo
 · exact⟨u,k b u hbe q⟩
theorem Un.mono(u:Un fs ex H H1 h h1)(hs:∀b∈fs,b∈fs')(hx:∀b∈ex,b∈ex'):Un fs' ex' H H1 h h1:=
 ⟨fun b ob q n hb he=>u.keep b ob q n (fun z=>hb (hs b z)) fun z=>he (hx b z),fun _ _ q n _ he=>u.any q n fun z=>he (hx _ z),fun b ob q n he=>u.free b ob q n fun z=>he (hx b z),fun b ob q he=>u.there b ob q fun z=>he (hx b z),u.tups,u.Fb,u.Rb⟩
end
noncomputable def LZ(h:Heap)(H:Hp):List Addr:=(List.range h.objs.size).filter fun a=>(H a).isSome
def wG(h:Heap)(H:Hp):Heap:=PySem.W.hideAll h (LZ h H)
theorem B8(h:Heap)(H:Hp):(wG h H).objs.size=h.objs.size:=PySem.W.hideAll_size _ _
theorem D9{h:Heap}{H:Hp}{b:Addr}{o:Obj}(e:h.get? b=some o)(n:H b=none):(wG h H).get? b=some o:=
 PySem.W.hideAll_get _ e fun hm=>by have q:(H b).isSome=true:=(mem_filter.mp hm).2;rw[n]at q;simp at q
theorem Bq{h:Heap}{H:Hp}{b:Addr}{o:Obj}(e:(wG h H).get? b=some o):h.get? b=some o/\H b=none:=by
 have e':h.get? b=some o:=PySem.W.of_hideAll (LZ h H) e;refine⟨e',?_⟩;cases q:H b with
 | none=>rfl
 | some x=>have hm:b∈LZ h H:=mem_filter.mpr ⟨mem_range.mpr (Heap.lt_size e'),by simp[q]⟩;have z:(wG h H).get? b=none:=PySem.W.hideAll_none (LZ h H) hm;rw[z]at e;cases e
noncomputable def Ox(g h:Heap)(L:Addr):List (Addr×Obj):=(List.range h.objs.size).filterMap fun a=>if a=L\/(g.get? a).isSome=true then none else(h.get? a).map fun o=>(a,o)
def rest(g h:Heap)(L d:Addr):List (Addr×Obj):=(Ox g h L).filter fun p=>decide (p.1≠d)
structure Mod(K:Frag)(mg:Str->Option Value)(base:Heap):Prop where
 kin:K.In base
 glob:base.Ns mainGlobals mg
 blt:∃mb,base.Ns builtinsNs mb/\∀x:Str,x ≠ "__name__" ->mb x=bootBuiltins x
 nolimit:base.NoLimit
structure Cx where
 prog:Program
 w:World
 K:Frag
 mg:Str->Option Value
 base:Heap
 A:Around
 N:List Str
 s₀:Shared
 H₀:Hp
 env:Env
 outer:List Env
 stack:List Env
 ex:List Addr
 fn:Str->Bool
 calm:Bool
 pn:List (Addr×Obj)
 xe:Value->Shared->Prop
noncomputable def QJ(l:List Env):List Addr:=l.filterMap (·.frame)
abbrev Cx.fs(X:Cx):List Addr:=QJ X.outer
noncomputable def CZ(sc:Scope)(x:Str):Prop:=sc.names.lookup x=some .local\/sc.names.lookup x=some .cell\/sc.names.lookup x=some .free
noncomputable def FO(sc:Scope)(x:Str):Prop:=sc.names.lookup x=some .local\/sc.names.lookup x=some .cell
noncomputable def NZ(env:Env)(h:Heap)(m:Str->Option Value)(x:Str)(u:Value):Prop:=
 (env.kindOf x=some .local/\m x=some u)\/((env.kindOf x=some .cell\/env.kindOf x=some .free)/\∃c,env.cells.lookup x=some c/\h.IsCell c (some u))
structure Cx.Ok(X:Cx):Prop where
 mod:Mod X.K X.mg X.base
 kind:X.env.scope.kind=.function
 glob:X.env.globals=mainGlobals
 blt:X.env.builtins=builtinsNs
 above:X.s₀.heap.objs.size<=X.env.locals
 inj:∀x y c,X.env.cells.lookup x=some c->X.env.cells.lookup y=some c->x=y
 has:∀x,(X.env.kindOf x=some .cell\/X.env.kindOf x=some .free)->∃c,X.env.cells.lookup x=some c
 cab:∀x c,X.fn x=true->X.env.cells.lookup x=some c->X.s₀.heap.objs.size<=c
 hd:X.calm=true->X.A.handled=none
 frames:X.A.frames=some X.stack
 stk:X.stack=X.outer\/(X.stack=X.env::X.outer/\X.env.frame=some X.env.locals)
 exf:∀b∈X.ex,b≠X.env.locals/\∀x c,X.env.cells.lookup x=some c->c≠b
 bs:∀b o,X.base.get? b=some o->X.s₀.heap.get? b=some o/\X.H₀ b=none
 Vp:X.base.objs.size<=X.s₀.heap.objs.size
 Ul:∀b o,X.base.get? b=some o->b∉X.ex
 Jl:∀b∈X.ex,b∉X.fs
 Nb:X.s₀.heap.FunFrames X.base X.outer
 frf:∀b∈X.fs,X.H₀ b=none
structure Inv(X:Cx)(pins:List (Addr×Obj))(σ:List (Option V))(H:Hp)(s:Shared):Prop where
 ok:X.Ok
 os:s.os=X.s₀.os
 bare:AllBare s.gens
 base:Un X.fs X.ex X.H₀ H X.s₀.heap s.heap
 loc:∃m,s.heap.Ns X.env.locals m/\∀(i:Nat)(x:Str)(v:V),X.N[i]?=some x->σ[i]?=some (some v)->CZ X.env.scope x->∃u,RelV v u/\NZ X.env s.heap m x u
 cell:∀x c,X.env.cells.lookup x=some c->∃v,s.heap.IsCell c v
 free:H X.env.locals=none
 Rc:∀x c,X.env.cells.lookup x=some c->H c=none
 pin:∀p∈X.pn++pins,s.heap.get? p.1=some p.2/\H p.1=none/\p.1≠X.env.locals/\p.1∉X.fs/\∀v,p.2.data≠.cell v
 hok:Zc X.prog X.w H s.heap
 len:σ.length=X.N.length
section
variable{X:Cx}{pins:List (Addr×Obj)}{σ:List (Option V)}{H H':Hp}{s:Shared}{h':Heap}
theorem Cx.Ok.zch(ok:X.Ok){b:Addr}{o:Obj}(e:X.base.get? b=some o):b∉X.fs:=fun hb=>by have:=(ok.Nb.mem hb).1;rw[e]at this;cases this
theorem Inv.bs(I:Inv X pins σ H s):∀b o,X.base.get? b=some o->s.heap.get? b=some o/\H b=none:=fun b o e=>⟨I.base.keep b o (I.ok.bs b o e).1 (I.ok.bs b o e).2 (I.ok.zch e) (I.ok.Ul b o e),I.base.free b o (I.ok.bs b o e).1 (I.ok.bs b o e).2 (I.ok.Ul b o e)⟩
theorem Inv.bk(I:Inv X pins σ H s):∀b o,X.base.get? b=some o->s.heap.get? b=some o:=fun b o e=>(I.bs b o e).1
theorem Inv.mod(I:Inv X pins σ H s):Mod X.K X.mg X.base:=I.ok.mod
theorem Inv.Tn(I:Inv X pins σ H s):X.K.In s.heap:=I.ok.mod.kin.keeps I.bk
theorem Inv.nolimit(I:Inv X pins σ H s):s.heap.NoLimit:=I.ok.mod.nolimit.keeps I.bk
theorem Inv.lt(I:Inv X pins σ H s):X.env.locals<s.heap.objs.size:=let ⟨_,hn,_⟩:=I.loc;hn.lt
theorem Inv.sz(I:Inv X pins σ H s):X.s₀.heap.objs.size<=s.heap.objs.size:=Nat.le_trans I.ok.above (Nat.le_of_lt I.lt)
theorem Inv.zci(I:Inv X pins σ H s){a:Addr}(h:s.heap.objs.size<=a):a∉X.fs:=fun hb=>by obtain⟨_,o,ho,_⟩:=I.ok.Nb.mem hb;exact absurd (Nat.lt_of_lt_of_le (Heap.lt_size ho) (Nat.le_trans I.sz h)) (Nat.lt_irrefl _)
theorem Inv.cne(I:Inv X pins σ H s):∀x c,X.env.cells.lookup x=some c->c≠X.env.locals:=fun x c e z=>by obtain⟨v,o,ho,hd⟩:=I.cell x c e;obtain⟨m,⟨o',es,ep,ho',hd',_⟩,_⟩:=I.loc;rw[z,ho']at ho;cases ho;rw[hd']at hd;cases hd
theorem Inv.Nb(I:Inv X pins σ H s):s.heap.FunFrames X.base X.outer:=by
 have all:∀(l:List Env),(∀b∈QJ l,b∈X.fs)->X.s₀.heap.FunFrames X.base l->s.heap.FunFrames X.base l:=by
  intro l
  induction l with
  | nil=>intro _ _;trivial
  | cons env r ih=>
   intro hs hl;obtain⟨hk,⟨L,o,hf,hn,ho,hd⟩,hr⟩:=hl;have hL:L∈X.fs:=hs L (by unfold QJ;rw[filterMap_cons,hf];exact mem_cons_self);obtain⟨sl,e⟩:=I.base.slot L o ho (I.ok.frf L hL) hL fun z=>I.ok.Jl L z hL
   exact⟨hk,⟨L,_,hf,hn,e,hd⟩,ih (fun b hb=>hs b (by unfold QJ;rw[filterMap_cons,hf];exact mem_cons_of_mem _ hb)) hr⟩
 exact all X.outer (fun _ hb=>hb) I.ok.Nb
theorem Inv.stack(I:Inv X pins σ H s):s.heap.FunFrames X.base X.stack:=by
 rcases I.ok.stk with e | ⟨e,hf⟩
 · rw[e];exact I.Nb
 · rw[e];obtain⟨m,hn,_⟩:=I.loc;refine .cons (by rw[I.ok.kind];decide) hf hn ?_ I.Nb;exact Heap.get?_none_of_le (Nat.le_trans I.ok.Vp I.ok.above)
theorem Inv.Gm(I:Inv X pins σ H s):∀b∈QJ X.stack,b∈X.env.locals::X.fs:=fun b hb=>by
 rcases I.ok.stk with e | ⟨e,hf⟩
 · rw[e]at hb;exact mem_cons_of_mem _ hb
 · rw[e]at hb;unfold QJ at hb;rw[filterMap_cons,hf]at hb;exact hb
theorem Inv.Qm(I:Inv X pins σ H s):∀b∈QJ X.stack,H b=none:=fun b hb=>by
 rcases mem_cons.mp (I.Gm b hb)with e | hb
 · rw[e];exact I.free
 · obtain⟨_,o,ho,_⟩:=I.ok.Nb.mem hb;exact I.base.free b o ho (I.ok.frf b hb) fun z=>I.ok.Jl b z hb
theorem Inv.step{g':Array GenState}{t':Nat}{d':Drawn}{ch:List Addr}(I:Inv X pins σ H s)
 (hch:∀b∈ch,(b∈X.ex\/X.s₀.heap.objs.size<=b)/\b≠X.env.locals/\(∀x c,X.env.cells.lookup x=some c->c≠b)/\∀p∈X.pn++pins,p.1≠b)
 (keep:∀b o,b≠X.env.locals->b∉X.fs->b∉ch->s.heap.get? b=some o->H b=none->h'.get? b=some o)
 (slot:∀b o,b≠X.env.locals->b∈X.fs->b∉ch->s.heap.get? b=some o->H b=none->∃sl,h'.get? b=some { o with slots:=sl }) (free:∀b o,b∉ch->s.heap.get? b=some o->H b=none->H' b=none)
 (there:∀b o,b∉ch->s.heap.get? b=some o->∃o',h'.get? b=some o')
 (tups:∀b xs,H b=some (.tup xs)->H' b=some (.tup xs)) (Fb:∀b o u,H b=some (.Jb o u)->H' b=some (.Jb o u)) (Rb:∀b ps,H b=some (.tbl ps)->∃more,H' b=some (.tbl (ps++more)))
 (ns:∀m,s.heap.Ns X.env.locals m->h'.Ns X.env.locals m) (hok:Zc X.prog X.w H' h') (hg:AllBare g') :
 Inv X pins σ H' { s with heap:=h',gens:=g',drawn:=d',toks:=t' }:=by
 have neL:∀b o,X.s₀.heap.get? b=some o->b≠X.env.locals:=fun b o e=>Nat.ne_of_lt (Nat.lt_of_lt_of_le (Heap.lt_size e) I.ok.above)
 have neC:∀b o,X.s₀.heap.get? b=some o->b∉X.ex->b∉ch:=fun b o e hx hb=>by
  rcases(hch b hb).1 with z | z
  · exact hx z
  · exact absurd (Nat.lt_of_lt_of_le (Heap.lt_size e) z) (Nat.lt_irrefl _)
 have cellK:∀x c,X.env.cells.lookup x=some c->∀v,s.heap.IsCell c v->h'.IsCell c v:=fun x c e v zz=>by
  obtain⟨o,ho,hd⟩:=zz;have nch:c∉ch:=fun z=>(hch c z).2.2.1 x c e rfl
  by_cases hc:c∈X.fs
  · obtain⟨sl,q⟩:=slot c o (I.cne x c e) hc nch ho (I.Rc x c e);exact⟨_,q,hd⟩
  · exact⟨o,keep c o (I.cne x c e) hc nch ho (I.Rc x c e),hd⟩
 refine⟨I.ok,I.os,hg,⟨fun b o e n hb hx=>?_,fun b o e n hb hx=>?_,fun b o e n hx=>?_,fun b o e hx=>?_,fun b xs e=>tups b xs (I.base.tups b xs e),fun b o xs e=>Fb b o xs (I.base.Fb b o xs e),fun b ps e=>?_⟩,?_,fun x c e=>?_,?_,fun x c e=>?_,fun p hp=>?_,hok,I.len⟩
 · exact keep b o (neL b o e) hb (neC b o e hx) (I.base.keep b o e n hb hx) (I.base.free b o e n hx)
 · obtain⟨sl,e1⟩:=I.base.slot b o e n hb hx;obtain⟨sl',e2⟩:=slot b _ (neL b o e) hb (neC b o e hx) e1 (I.base.free b o e n hx);exact⟨sl',e2⟩
 · obtain⟨o',e1⟩:=I.base.there b o e hx;exact free b o' (neC b o e hx) e1 (I.base.free b o e n hx)
 · obtain⟨o',e1⟩:=I.base.there b o e hx;exact there b o' (neC b o e hx) e1
 · obtain⟨m1,e1⟩:=I.base.Rb b ps e;obtain⟨m2,e2⟩:=Rb b _ e1;exact⟨m1++m2,by rw[e2,Array.append_assoc]⟩
 · obtain⟨m,hn,hl⟩:=I.loc;refine⟨m,ns m hn,fun i x v e1 e2 e3=>?_⟩;obtain⟨u,r,l⟩:=hl i x v e1 e2 e3;refine⟨u,r,?_⟩;rcases l with l | ⟨k,c,e,z⟩
   · exact .inl l
   · exact .inr ⟨k,c,e,cellK x c e _ z⟩
 · obtain⟨v,z⟩:=I.cell x c e;exact⟨v,cellK x c e v z⟩
 · obtain⟨m,⟨o,_,_,ho,_⟩,_⟩:=I.loc;exact free _ o (fun z=>(hch _ z).2.1 rfl) ho I.free
 · obtain⟨v,o,ho,hd⟩:=I.cell x c e;exact free c o (fun z=>(hch c z).2.2.1 x c e rfl) ho (I.Rc x c e)
 · obtain⟨e,n,ne,nf,d⟩:=I.pin p hp;have nch:p.1∉ch:=fun z=>(hch p.1 z).2.2.2 p hp rfl
   exact⟨keep p.1 p.2 ne nf nch e n,free p.1 p.2 nch e n,ne,nf,d⟩
theorem Inv.un{t':Nat}(I:Inv X pins σ H s)(u:Un X.fs [] H H' s.heap h')(hok:Zc X.prog X.w H' h'):Inv X pins σ H' { s with heap:=h',toks:=t' }:=by
 obtain⟨m,⟨o,es,ep,ho,r⟩,_⟩:=id I.loc;obtain⟨sl,hL⟩:=u.any ho I.free (by simp);exact I.step (g':=s.gens) (d':=s.drawn) (ch:=[]) (fun _ z=>nomatch z) (fun b o _ hb _ e n=>u.keep b o e n hb (by simp)) (fun b o _ hb _ e n=>u.slot b o e n hb (by simp)) (fun b o _ e n=>u.free b o e n (by simp)) (fun b o _ e=>u.there b o e (by simp)) u.tups u.Fb u.Rb (fun m' hm=>by
  obtain⟨o',es',ep',ho',r'⟩:=hm;rw[ho]at ho';cases ho';exact⟨_,es',ep',hL,r'⟩) hok I.bare
theorem Inv.call{g':Array GenState}{t':Nat}{d':Drawn}{ch:List Addr}(I:Inv X pins σ H s)(u:Un (QJ X.stack) ch H H' s.heap h')(hok:Zc X.prog X.w H' h')(hg:AllBare g')
 (hch:∀b∈ch,(b∈X.ex\/X.s₀.heap.objs.size<=b)/\b≠X.env.locals/\(∀x c,X.env.cells.lookup x=some c->c≠b)/\∀p∈X.pn++pins,p.1≠b) :
 Inv X pins σ H' { s with heap:=h',gens:=g',drawn:=d',toks:=t' }:=by
 obtain⟨m,⟨o,es,ep,ho,r⟩,_⟩:=id I.loc;obtain⟨sl,hL⟩:=u.any ho I.free fun z=>(hch _ z).2.1 rfl
 exact I.step (ch:=ch) hch (fun b o hL hb hc e n=>u.keep b o e n (fun z=>(mem_cons.mp (I.Gm b z)).elim hL hb) hc) (fun b o _ _ hc e n=>u.any e n hc) (fun b o hc e n=>u.free b o e n hc) (fun b o hc e=>u.there b o e hc) u.tups u.Fb u.Rb (fun m' hm=>by
  obtain⟨o',es',ep',ho',r'⟩:=hm;rw[ho]at ho';cases ho';exact⟨_,es',ep',hL,r'⟩) hok hg
theorem Inv.turned{t':Nat}{it:Addr}(I:Inv X pins σ H s)(k:∀b o,b≠it->s.heap.get? b=some o->h'.get? b=some o)(hn:H it=none)(hL:it≠X.env.locals)
 (h1:it∈X.ex\/X.s₀.heap.objs.size<=it) (h2:∀x c,X.env.cells.lookup x=some c->c≠it) (h3:∀p∈X.pn++pins,p.1≠it):Inv X pins σ H { s with heap:=h',toks:=t' }:=by
 have nit:∀b u,H b=some u->b≠it:=fun b u e z=>by rw[z,hn]at e;cases e
 refine I.step (g':=s.gens) (d':=s.drawn) (ch:=[it]) (fun b hb=>?_) (fun b o _ _ hc e _=>k b o (fun z=>hc (by simp[z])) e) (fun b o _ _ hc e _=>⟨o.slots,k b o (fun z=>hc (by simp[z])) e⟩) (fun _ _ _ _ n=>n)
  (fun b o hc e=>⟨o,k b o (fun z=>hc (by simp[z])) e⟩) (fun _ _ e=>e) (fun _ _ _ e=>e) (fun b ps e=>⟨#[],by rw[e];simp⟩) (fun m hm=>?_) (fun b u e=>?_) I.bare
 · have e:b=it:=by simpa using hb
   subst e;exact⟨h1,hL,h2,h3⟩
 · obtain⟨o,es,ep,ho,r⟩:=hm;exact⟨o,es,ep,k _ o (Ne.symm hL) ho,r⟩
 · refine(I.hok b u e).stay (fun c v hc q=>k c v ?_ q) (fun _ q=>q) fun _ _ q=>q
   rcases hc with z | z
   · rw[z];exact nit b u e
   · exact nit c _ z
theorem Inv.tok(I:Inv X pins σ H s)(t:Nat):Inv X pins σ H { s with toks:=t }:=I.un (h':=s.heap) (t':=t) Un.refl I.hok
theorem Inv.kept{t':Nat}(I:Inv X pins σ H s)(k:∀b u,s.heap.get? b=some u->h'.get? b=some u):Inv X pins σ H { s with heap:=h',toks:=t' }:=I.un (Un.kept k) (I.hok.kept k)
theorem Inv.laid{a:Addr}{o:HO}{t':Nat}(I:Inv X pins σ H s)(k:∀b u,s.heap.get? b=some u->h'.get? b=some u)(hp:s.heap.objs.size<=a)(new:Nf X.prog X.w (yB H a o) h' a o) :
 Inv X pins σ (yB H a o) { s with heap:=h',toks:=t' }:=I.un (Un.laid k hp (I.hok.fresh hp)) (I.hok.laid k hp new)
theorem Inv.write{x e:Addr}{o:HO}{t':Nat}(I:Inv X pins σ H s)(mu:nU (H x))(he:e=x\/H e=some (.own x))(k:∀b u,b≠e->s.heap.get? b=some u->h'.get? b=some u)(heo:∃u,h'.get? e=some u)
 (new:Nf X.prog X.w (yB H x o) h' x o):Inv X pins σ (yB H x o) { s with heap:=h',toks:=t' }:=I.un (Un.write mu he k heo) (I.hok.write mu he k heo new)
theorem Inv.Om{zac:List (Addr×Obj)}(I:Inv X pins σ H s)(h:∀p∈zac,s.heap.get? p.1=some p.2/\H p.1=none/\p.1≠X.env.locals/\p.1∉X.fs/\∀v,p.2.data≠.cell v):Inv X zac σ H s:=
 ⟨I.ok,I.os,I.bare,I.base,I.loc,I.cell,I.free,I.Rc,fun p hp=>(mem_append.mp hp).elim (fun z=>I.pin p (mem_append_left _ z)) (h p),I.hok,I.len⟩
theorem oX{N:List Str}(hN:N.Nodup){i j:Nat}{x:Str}(a:N[i]?=some x)(b:N[j]?=some x):i=j:=by obtain⟨h1,e1⟩:=zdP a;obtain⟨h2,e2⟩:=zdP b;exact(getElem_inj hN).mp (e1.trans e2.symm)
theorem TV{M:Model}{A:Around}{E:Value->Shared->Prop}{i:Nat}{x:Str}{v:V}{u:Value}{Q:Unit->Shared->Prop}(I:Inv X pins σ H s)(hN:X.N.Nodup)(hi:X.N[i]?=some x)(hx:FO X.env.scope x)(r:RelV v u)
 (h:∀s',Inv X pins (σ.set i (some v)) H s'->(∃a,Heap.SameBut a s.heap s'.heap/\(a=X.env.locals\/X.env.cells.lookup x=some a))->Q () s') (hf:X.fn x=true\/X.env.scope.names.lookup x=some .local:=by first | exact .inl rfl | exact .inr rfl | assumption):wpAny M A (storeName X.env x u) Q E s:=by
 obtain⟨m,hn,hl⟩:=id I.loc;have hcls:(X.env.scope.kind==.class || (X.env.scope.kind==.module&&X.env.locals !=X.env.globals))=false:=by rw[I.ok.kind];rfl
 have hiσ:i<σ.length:=by rw[I.len];exact(zdP hi).1
 have cne:=I.cne;have tracked:∀{a:Addr}{h':Heap},(∃o,s.heap.get? a=some o/\H a=none)->Heap.SameBut a s.heap h'->Zc X.prog X.w H h':=fun {a h'} ha hs b ob e=>by
  obtain⟨_,_,hfree⟩:=ha;refine(I.hok b ob e).stay (fun c w' hc q=>(hs.2 c ?_).trans q) (fun _ q=>q) fun _ _ q=>q
  rintro rfl;rcases hc with rfl | hc
  · rw[hfree]at e;cases e
  · rw[hfree]at hc;cases hc
 rcases hx with hk | hk
 · refine wpAny_storeName_local hk hn (fun h' hn' hs=>?_) hcls;obtain⟨oL,_,_,hoL,_⟩:=id hn;refine h _ ⟨I.ok,I.os,I.bare,⟨fun b o e n hb hx=>?_,fun b o e n hb hx=>?_,I.base.free,fun b o e hx=>?_,I.base.tups,I.base.Fb,I.base.Rb⟩,⟨_,hn',fun j y v' e1 e2 e3=>?_⟩,fun y c e=>?_,I.free,I.Rc,fun p hp=>?_,tracked ⟨oL,hoL,I.free⟩ hs,by simpa using I.len⟩ ⟨_,hs,.inl rfl⟩
   · exact(hs.2 b (Nat.ne_of_lt (Nat.lt_of_lt_of_le (Heap.lt_size e) I.ok.above))).trans (I.base.keep b o e n hb hx)
   · obtain⟨sl,e1⟩:=I.base.slot b o e n hb hx;exact⟨sl,(hs.2 b (Nat.ne_of_lt (Nat.lt_of_lt_of_le (Heap.lt_size e) I.ok.above))).trans e1⟩
   · obtain⟨o',e1⟩:=I.base.there b o e hx;exact⟨o',(hs.2 b (Nat.ne_of_lt (Nat.lt_of_lt_of_le (Heap.lt_size e) I.ok.above))).trans e1⟩
   · by_cases hj:j=i
     · subst hj;rw[hi]at e1;cases e1;rw[getElem?_set_self hiσ]at e2;cases e2;exact⟨u,r,.inl ⟨hk,by simp⟩⟩
     · rw[getElem?_set_ne (Ne.symm hj)]at e2;obtain⟨u',r',q⟩:=hl j y v' e1 e2 e3;refine⟨u',r',?_⟩;rcases q with⟨k,e⟩ | ⟨k,c,e,z⟩
       · refine .inl ⟨k,?_⟩;have:y≠x:=fun e=>hj (oX hN e1 (e ▸ hi))
         simp[this,e]
       · exact .inr ⟨k,c,e,z.sameBut hs (cne y c e)⟩
   · obtain⟨w',z⟩:=I.cell y c e;exact⟨w',z.sameBut hs (cne y c e)⟩
   · obtain⟨e,n,ne,nf,d⟩:=I.pin p hp;exact⟨(hs.2 p.1 ne).trans e,n,ne,nf,d⟩
 · have hfn:X.fn x=true:=by
    rcases hf with z | z
    · exact z
    · rw[z]at hk;cases hk
   obtain⟨c,hc⟩:=I.ok.has x (.inl hk);obtain⟨w',z⟩:=I.cell x c hc;refine wpAny_storeName_cell I.ok.kind hk hc z (fun h' hc' hs=>?_);obtain⟨oc,hoc,zce⟩:=id z;refine h { s with heap:=h' } ⟨I.ok,I.os,I.bare,⟨fun b o e n hb hx=>?_,fun b o e n hb hx=>?_,I.base.free,fun b o e hx=>?_,I.base.tups,I.base.Fb,I.base.Rb⟩,⟨m,hn.sameBut hs (Ne.symm (cne x c hc)),fun j y v' e1 e2 e3=>?_⟩,fun y c' e=>?_,I.free,I.Rc,fun p hp=>?_,tracked ⟨oc,hoc,I.Rc x c hc⟩ hs,by simpa using I.len⟩ ⟨c,hs,.inr hc⟩
   · exact(hs.2 b (Nat.ne_of_lt (Nat.lt_of_lt_of_le (Heap.lt_size e) (I.ok.cab x c hfn hc)))).trans (I.base.keep b o e n hb hx)
   · obtain⟨sl,e1⟩:=I.base.slot b o e n hb hx;exact⟨sl,(hs.2 b (Nat.ne_of_lt (Nat.lt_of_lt_of_le (Heap.lt_size e) (I.ok.cab x c hfn hc)))).trans e1⟩
   · obtain⟨o',e1⟩:=I.base.there b o e hx;exact⟨o',(hs.2 b (Nat.ne_of_lt (Nat.lt_of_lt_of_le (Heap.lt_size e) (I.ok.cab x c hfn hc)))).trans e1⟩
   · by_cases hj:j=i
     · subst hj;rw[hi]at e1;cases e1;rw[getElem?_set_self hiσ]at e2;cases e2;exact⟨u,r,.inr ⟨.inl hk,c,hc,hc'⟩⟩
     · rw[getElem?_set_ne (Ne.symm hj)]at e2;obtain⟨u',r',q⟩:=hl j y v' e1 e2 e3;refine⟨u',r',?_⟩;rcases q with q | ⟨k,c',e,z'⟩
       · exact .inl q
       · refine .inr ⟨k,c',e,z'.sameBut hs ?_⟩;rintro rfl;exact hj (oX hN e1 (I.ok.inj _ _ _ e hc ▸ hi))
   · by_cases hcc:c'=c
     · subst hcc;exact⟨_,hc'⟩
     · obtain⟨w2,z2⟩:=I.cell y c' e;exact⟨w2,z2.sameBut hs hcc⟩
   · obtain⟨e,n,ne,nf,d⟩:=I.pin p hp;refine⟨(hs.2 p.1 ?_).trans e,n,ne,nf,d⟩;intro q;rw[q,hoc]at e;have q':oc=p.2:=Option.some.inj e;exact d w' (by rw[<- q'];exact zce)
theorem eX{M:Model}{A:Around}{E:Value->Shared->Prop}{i:Nat}{x:Str}{v:V}{u:Value}{Q:Unit->Shared->Prop}(I:Inv X pins σ H s)(hN:X.N.Nodup)(hi:X.N[i]?=some x)(hx:FO X.env.scope x)(r:RelV v u)
 (h:∀s',Inv X pins (σ.set i (some v)) H s'->Q () s') (hf:X.fn x=true\/X.env.scope.names.lookup x=some .local:=by first | exact .inl rfl | exact .inr rfl | assumption):wpAny M A (storeName X.env x u) Q E s:=
 TV I hN hi hx r (fun s' I' _=>h s' I') hf
theorem Inv.call'{s':Shared}{ch:List Addr}(I:Inv X pins σ H s)(ho:s'.os=s.os)(u:Un (QJ X.stack) ch H H' s.heap s'.heap)(hok:Zc X.prog X.w H' s'.heap)(hg:AllBare s'.gens)
 (hch:∀b∈ch,(b∈X.ex\/X.s₀.heap.objs.size<=b)/\b≠X.env.locals/\(∀x c,X.env.cells.lookup x=some c->c≠b)/\∀p∈X.pn++pins,p.1≠b):Inv X pins σ H' s':=by
 obtain⟨h',g',d',t',o'⟩:=s';have e:o'=s.os:=ho;subst e;exact I.call (g':=g') (t':=t') (d':=d') u hok hg hch
end
abbrev XK:=Value->Option Addr->Hp->Prop
noncomputable abbrev St:=List (Option V)
abbrev VK:=V->Hp->Prop
abbrev TE:=St->Hp->VK->Prop
abbrev TT:=St->Hp->(Bool->Hp->Prop)->Prop
abbrev TA:=St->Hp->(List V->Hp->Prop)->Prop
structure wH where
 nx:St->Hp->Prop
 rt:VK
 bk:St->Hp->Prop:=fun _ _=>False
 ct:St->Hp->Prop:=fun _ _=>False
abbrev TS:=wH->St->Hp->Prop
def EP(X:Cx)(pins:List (Addr×Obj))(σ:St)(Q:VK)(u:Value)(s':Shared):Prop:=∃v H',Inv X pins σ H' s'/\RelV v u/\Q v H'
noncomputable def TP(X:Cx)(pins:List (Addr×Obj))(σ:St)(Q:Bool->Hp->Prop)(b:Bool)(s':Shared):Prop:=∃H',Inv X pins σ H' s'/\Q b H'
def AP(X:Cx)(pins:List (Addr×Obj))(σ:St)(Q:List V->Hp->Prop)(us:List Value)(s':Shared):Prop:=∃vs H',Inv X pins σ H' s'/\Vals vs us/\Q vs H'
def SP(X:Cx)(pins:List (Addr×Obj))(D:wH)(f:Flow)(s':Shared):Prop:=
 match f with
 | .next=>∃σ' H',Inv X pins σ' H' s'/\D.nx σ' H'
 | .brk=>∃σ' H',Inv X pins σ' H' s'/\D.bk σ' H'
 | .cont=>∃σ' H',Inv X pins σ' H' s'/\D.ct σ' H'
 | .ret u=>∃v σ' H',Inv X pins σ' H' s'/\RelV v u/\D.rt v H'
def PE(X:Cx)(e:Expr)(t:TE):Prop:=
 ∀(pins:List (Addr×Obj))(s:Shared)(σ:St)(H:Hp)(Q:VK),Inv X pins σ H s->t σ H Q->wpAny (model X.prog X.w) X.A (eval e X.env) (EP X pins σ Q) X.xe s
def PT(X:Cx)(e:Expr)(t:TT):Prop:=
 ∀(pins:List (Addr×Obj))(s:Shared)(σ:St)(H:Hp)(Q:Bool->Hp->Prop),Inv X pins σ H s->t σ H Q->wpAny (model X.prog X.w) X.A (isTrue e X.env (eval e X.env)) (TP X pins σ Q) X.xe s
def PW(X:Cx)(e:Expr)(t:TT):Prop:=
 ∀(whole:Sem Value)(pins:List (Addr×Obj))(s:Shared)(σ:St)(H:Hp)(Q:Bool->Hp->Prop),Inv X pins σ H s->t σ H Q->wpAny (model X.prog X.w) X.A (isTrue e X.env whole) (TP X pins σ Q) X.xe s
theorem PW.pt{X:Cx}{e:Expr}{t:TT}(h:PW X e t):PT X e t:=h _
def PA(X:Cx)(es:List Expr)(t:TA):Prop:=
 ∀(pos:Pos)(pins:List (Addr×Obj))(s:Shared)(σ:St)(H:Hp)(Q:List V->Hp->Prop),Inv X pins σ H s->t σ H Q->wpAny (model X.prog X.w) X.A (spliced (backTo pos (starEach es X.env))) (AP X pins σ Q) X.xe s
def PS(X:Cx)(st:Stmt)(t:TS):Prop:=
 ∀(pins:List (Addr×Obj))(s:Shared)(σ:St)(H:Hp)(D:wH),Inv X pins σ H s->t D σ H->wpAny (model X.prog X.w) X.A (exec st X.env) (SP X pins D) X.xe s
def Qn(X:Cx)(st:List Stmt)(t:TS):Prop:=
 ∀(pins:List (Addr×Obj))(s:Shared)(σ:St)(H:Hp)(D:wH),Inv X pins σ H s->t D σ H->wpAny (model X.prog X.w) X.A (execs st X.env) (SP X pins D) X.xe s
theorem gB{α:Type}{t:Sem α}{Q Q':α->Shared->Prop}{M:Model}{A:Around}{E:Value->Shared->Prop}{s:Shared}(h:wpAny M A t Q E s)(hQ:∀a s,Q a s->Q' a s):wpAny M A t Q' E s:=wpAny_mono h hQ fun _ _ x=>x
section
variable{X:Cx}
theorem Vr{a b:Expr}{ta tb:TE}(ha:PE X a ta)(hb:PE X b tb){pins:List (Addr×Obj)}{s:Shared}{σ:St}{H:Hp}{R:V->V->Hp->Prop}(I:Inv X pins σ H s)(h:ta σ H fun x H1=>tb σ H1 fun y H2=>R x y H2)
 {α:Type} {Q:α->Shared->Prop} {f:Value->Value->Sem α}
 (hf:∀v u s2 x y H2,Inv X pins σ H2 s2->RelV x v->RelV y u->R x y H2->wpAny (model X.prog X.w) X.A (f v u) Q X.xe s2) :
 wpAny (model X.prog X.w) X.A (eval a X.env) (fun v s₁=>wpAny (model X.prog X.w) X.A (eval b X.env) (fun u s₂=>wpAny (model X.prog X.w) X.A (f v u) Q X.xe s₂) X.xe s₁) X.xe s:=by
 refine gB (ha pins s σ H _ I h) fun v s1 zz=>?_
 obtain⟨x,H1,I1,r1,q1⟩:=zz;refine gB (hb pins s1 σ H1 _ I1 q1) fun u s2 zz=>?_
 obtain⟨y,H2,I2,r2,q2⟩:=zz;exact hf v u s2 x y H2 I2 r1 r2 q2
noncomputable def V0(i:Nat):TE:=fun σ H Q=>∃v,σ[i]?=some (some v)/\Q v H
noncomputable def tC(v:V):TE:=fun _ H Q=>Q v H
theorem Ik {i:Nat} {x:Str} {pos:Pos} (hN:X.N[i]?=some x) (hv:CZ X.env.scope x) (hd:(x==("__debug__" :Str))=false:=by decide) (hcd:(x==("__classdict__" :Str))=false:=by decide):PE X (.Name x pos) (V0 i):=by
 intro pins s σ H Q I h;obtain⟨v,e,h⟩:=h;obtain⟨m,hn,hl⟩:=I.loc;obtain⟨u,r,l⟩:=hl i x v hN e hv;have fin:EP X pins σ Q u s:=⟨v,H,I,r,h⟩;rcases l with⟨hk,hm⟩ | ⟨hk,c,hc,hcell⟩
 · exact wpAny_Name (wpAny_loadName_local I.ok.kind hk hn hm fin) hd
 · rcases hk with hk | hk
   · exact wpAny_Name (wpAny_loadName_cell I.ok.kind hk hc hcell fin) hd
   · exact wpAny_Name (wpAny_loadName_free I.ok.kind hk hc hcell fin hcd) hd
theorem Bk{i j pos}:PE X (.Constant (.int i) j pos) (tC (.int i)):=fun _ _ _ H _ I h=>wpAny_Constant_int ⟨.int i,H,I.tok _,⟨_,rfl⟩,h⟩
theorem Ry{b j pos}:PE X (.Constant (.bool b) j pos) (tC (.bl b)):=fun _ _ _ H _ I h=>Constant_bool ⟨.bl b,H,I,rfl,h⟩
theorem Ck{j pos}:PE X (.Constant .none j pos) (tC .non):=fun _ _ _ H _ I h=>Constant_none ⟨.non,H,I,rfl,h⟩
theorem Gk{x j pos}:PE X (.Constant (.str x) j pos) (tC (.str x)):=fun _ _ _ H _ I h=>Calls.Constant_str ⟨.str x,H,I.tok _,⟨_,rfl⟩,h⟩
noncomputable def Gl(X:Cx)(x:Str):Prop:=X.env.kindOf x=some .globalImplicit
theorem yS{E:Value->Shared->Prop}{pins:List (Addr×Obj)}{s:Shared}{σ:St}{H:Hp}{x:Str}{u:Value}{pos:Pos}{Q:Value->Shared->Prop}(I:Inv X pins σ H s)(hg:Gl X x)(hm:X.mg x=some u)(h:Q u s)
 (hd:(x==("__debug__" :Str))=false:=by decide):wpAny (model X.prog X.w) X.A (eval (.Name x pos) X.env) Q E s:=
 Calls.Name_function_global I.ok.kind hg (Calls.loadGlobal_global (by rw[I.ok.glob];exact I.mod.glob.keeps I.bk) hm h) hd
theorem nH{E:Value->Shared->Prop}{pins:List (Addr×Obj)}{s:Shared}{σ:St}{H:Hp}{x:Str}{u:Value}{pos:Pos}{Q:Value->Shared->Prop}(I:Inv X pins σ H s)(hg:Gl X x)(hm:X.mg x=none)(hv:bootBuiltins x=some u)(h:Q u s)
 (hn:x ≠ "__name__" :=by decide) (hd:(x==("__debug__" :Str))=false:=by decide):wpAny (model X.prog X.w) X.A (eval (.Name x pos) X.env) Q E s:=by
 obtain⟨mb,h1,h2⟩:=I.mod.blt;exact Calls.Name_function_global I.ok.kind hg (Calls.loadGlobal_builtin (by rw[I.ok.glob];exact I.mod.glob.keeps I.bk) hm (by rw[I.ok.blt];exact h1.keeps I.bk) ((h2 x hn).trans hv) h) hd
theorem Qv {x:Str} {v:V} {u:Value} {pos:Pos} (hg:Gl X x) (hm:X.mg x=some u) (r:RelV v u) (hd:(x==("__debug__" :Str))=false:=by decide):PE X (.Name x pos) (tC v):=
 fun _ _ _ H _ I h=>yS I hg hm ⟨v,H,I,r,h⟩ hd
theorem Mv {x:Str} {v:V} {u:Value} {pos:Pos} (hg:Gl X x) (hm:X.mg x=none) (hv:bootBuiltins x=some u) (r:RelV v u) (hn:x ≠ "__name__" :=by decide) (hd:(x==("__debug__" :Str))=false:=by decide):PE X (.Name x pos) (tC v):=
 fun _ _ _ H _ I h=>nH I hg hm hv ⟨v,H,I,r,h⟩ hn hd
variable{a b:Expr}{ta tb:TE}{pos:Pos}
def PC(X:Cx)(op:CmpOp)(a b:Expr)(t:TE):Prop:=
 ∀(pins:List (Addr×Obj))(s:Shared)(σ:St)(H:Hp)(Q:VK),Inv X pins σ H s->t σ H Q->
  wpAny (model X.prog X.w) X.A (eval a X.env) (fun v s₁=>wpAny (model X.prog X.w) X.A (eval b X.env) (fun u s₂=>wpAny (model X.prog X.w) X.A (compareOp op v u) (EP X pins σ Q) X.xe s₂) X.xe s₁) X.xe s
theorem h9(b:Expr){op:CmpOp}(h:op≠.In)(h2:op≠.NotIn):behindInMarks op b=false:=by
 have e1:(op==CmpOp.In)=false:=by cases op<;>first | rfl | exact absurd rfl h
 have e2:(op==CmpOp.NotIn)=false:=by cases op<;>first | rfl | exact absurd rfl h2
 cases b<;>simp[behindInMarks,e1,e2]
noncomputable def tB(t:TE):TT:=fun σ H Q=>t σ H fun x H1=>∃c,x=.bl c/\Q c H1
theorem Cr{op:CmpOp}{t:TE}(h:PC X op a b t)(h1:behindInMarks op b=false:=by first | exact h9 _ (by decide) (by decide) | rfl):PT X (.Compare a [op] [b] pos) (tB t):=by intro pins s σ H Q I hw;refine wpAny_isTrue_Compare1 (gB (h pins s σ H _ I hw) fun v s1 h1=>gB h1 fun u s2 h2=>gB h2 fun c s3 zz=>?_) h1;obtain⟨x,H1,I1,r1,q1⟩:=zz;obtain⟨d,rfl,q⟩:=q1;cases r1;exact wpAny_truthy_bool ⟨H1,I1,q⟩
theorem Iw{e:Expr}{t:TE}(h:PE X e t)(he:∀whole,isTrue e X.env whole=(do let v <- whole;standAt e.pos;holding [v] (truthy v)):=by intro _;rfl):PT X e (tB t):=by intro pins s σ H Q I hw;refine isTrue_plain (gB (h pins s σ H _ I hw) fun v s1 zz=>?_) (he _);obtain⟨x,H1,I1,r1,q1⟩:=zz;obtain⟨d,rfl,q⟩:=q1;cases r1;exact wpAny_truthy_bool ⟨H1,I1,q⟩
variable{tA Wf:TT}{rest:List Expr}
noncomputable def J0(t u:TT):TT:=fun σ H Q=>t σ H fun c H1=>if c=true then u σ H1 Q else Q false H1
noncomputable def Ft(t u:TT):TT:=fun σ H Q=>t σ H fun c H1=>if c=true then Q true H1 else u σ H1 Q
noncomputable def P0(t:TT):TT:=fun σ H Q=>t σ H fun c H1=>Q (!c) H1
theorem uw(ha:PT X a tA):PW X (.BoolOp .And [a] pos) tA:=by
 intro wh pins s σ H Q I h;refine isTrue_and (gB (ha pins s σ H Q I h) fun c s1 e=>?_);cases c with
 | true=>exact isTrue_and_nil e
 | false=>exact e
theorem Lg(ha:PT X a tA):PW X (.BoolOp .Or [a] pos) tA:=by
 intro wh pins s σ H Q I h;refine isTrue_or (gB (ha pins s σ H Q I h) fun c s1 e=>?_);cases c with
 | false=>exact isTrue_or_nil e
 | true=>exact e
theorem Jw(ha:PT X a tA)(hb:PW X (.BoolOp .And (b::rest) pos) Wf):PW X (.BoolOp .And (a::b::rest) pos) (J0 tA Wf):=by
 intro wh pins s σ H Q I h;refine isTrue_and (gB (ha pins s σ H _ I h) fun c s1 zz=>?_);obtain⟨H1,I1,q1⟩:=zz;cases c with
 | true=>exact hb wh pins s1 σ H1 Q I1 q1
 | false=>exact⟨H1,I1,q1⟩
theorem B1(ha:PT X a tA)(hb:PW X (.BoolOp .Or (b::rest) pos) Wf):PW X (.BoolOp .Or (a::b::rest) pos) (Ft tA Wf):=by
 intro wh pins s σ H Q I h;refine isTrue_or (gB (ha pins s σ H _ I h) fun c s1 zz=>?_);obtain⟨H1,I1,q1⟩:=zz;cases c with
 | true=>exact⟨H1,I1,q1⟩
 | false=>exact hb wh pins s1 σ H1 Q I1 q1
theorem Hw(ha:PT X a tA):PT X (.UnaryOp .Not a pos) (P0 tA):=by intro pins s σ H Q I h;exact isTrue_not (ha pins s σ H (fun c H1=>Q (!c) H1) I h)
noncomputable def X1(ta tb:TE):TE:=fun σ H Q=>ta σ H fun x H1=>∃c,x=.bl c/\if c=true then tb σ H1 Q else Q (.bl false) H1
noncomputable def K2(ta:TE):TE:=fun σ H Q=>ta σ H fun x H1=>∃c,x=.bl c/\Q (.bl (!c)) H1
theorem Ek{op}{t:TE}(h:PE X a t):PE X (.BoolOp op [a] pos) t:=fun pins s σ H Q I hw=>BoolOp_one (h pins s σ H Q I hw)
theorem wk(ha:PE X a ta)(hb:PE X (.BoolOp .And (b::rest) pos) tb):PE X (.BoolOp .And (a::b::rest) pos) (X1 ta tb):=by
 intro pins s σ H Q I h;refine BoolOp_and (gB (ha pins s σ H _ I h) fun v s1 zz=>?_);obtain⟨x,H1,I1,r1,q1⟩:=zz;obtain⟨c,rfl,q1⟩:=q1;cases r1;refine wpAny_truthy_bool ?_;cases c with
 | true=>exact hb pins s1 σ H1 Q I1 q1
 | false=>exact⟨.bl false,H1,I1,rfl,q1⟩
theorem Dk(ha:PE X a ta):PE X (.UnaryOp .Not a pos) (K2 ta):=by intro pins s σ H Q I h;refine UnaryOp_ (gB (ha pins s σ H _ I h) fun v s1 zz=>?_);obtain⟨x,H1,I1,r1,q1⟩:=zz;obtain⟨c,rfl,q1⟩:=q1;cases r1;exact not_of (wpAny_truthy_bool ⟨.bl (!c),H1,I1,rfl,q1⟩)
noncomputable def yt(t:TT)(ta tb:TE):TE:=fun σ H Q=>t σ H fun c H1=>if c=true then ta σ H1 Q else tb σ H1 Q
theorem Lj{c:Expr}(hc:PT X c tA)(ha:PE X a ta)(hb:PE X b tb):PE X (.IfExp c a b pos) (yt tA ta tb):=by
 intro pins s σ H Q I h;refine wpAny_IfExp (gB (hc pins s σ H _ I h) fun d s1 zz=>?_);obtain⟨H1,I1,q1⟩:=zz;cases d with
 | true=>exact ha pins s1 σ H1 Q I1 q1
 | false=>exact hb pins s1 σ H1 Q I1 q1
end
def Td(K:Frag)(H:Hp)(a:Addr)(xs:List V):Prop:=
 Rd H a (.lst xs)\/
  ∃(o:Obj) (its:Array Value) (n:Nat),K.lookup a=some o/\o.cls=.type "list" /\ o.dict=none/\o.data=.seq its n/\its.size<=sizeLine/\Vals xs its.toList
def BI(K:Frag)(H:Hp)(a:Addr)(xs:List V):Prop:=
 Rd H a (.tup xs)\/
  ∃(o:Obj) (its:Array Value) (n:Nat),K.lookup a=some o/\o.cls=.type "tuple" /\ o.data=.seq its n/\its.size<=sizeLine/\Vals xs its.toList
noncomputable def RZ:Value->Option V
 | .none=>some .non
 | .bool b=>some (.bl b)
 | .int i _=>some (.int i)
 | .str x _=>some (.str x)
 | .bytes b _=>some (.Um b)
 | .float b _=>some (.flt b)
 | .ref a=>some (.ref a)
 | .type n=>some (.ty n)
 | _=>none
theorem RelV.abs{x:V}{u:Value}(r:RelV x u):RZ u=some x:=by
 cases x with
 | non=>cases r;rfl
 | bl _=>cases r;rfl
 | int _=>obtain⟨t,rfl⟩:=r;rfl
 | str _=>obtain⟨t,rfl⟩:=r;rfl
 | Um _=>obtain⟨t,rfl⟩:=r;rfl
 | flt _=>obtain⟨t,rfl⟩:=r;rfl
 | ref _=>cases r;rfl
 | ty _=>cases r;rfl
theorem RelV.inj{x y:V}{u:Value}(r:RelV x u)(q:RelV y u):x=y:=Option.some.inj (r.abs.symm.trans q.abs)
theorem Vals.inj:∀{xs ys:List V}{us:List Value},Vals xs us->Vals ys us->xs=ys
 | _,_,_,.nil,.nil=>rfl
 | _,_,_,.cons r t,.cons r' t'=>by rw[r.inj r',Vals.inj t t']
section
variable{X:Cx}{pins:List (Addr×Obj)}{σ:St}{H:Hp}{s:Shared}{a:Addr}{xs ys:List V}
theorem Td.of{K:Frag}(h:H a=some (.lst xs)):Td K H a xs:=.inl (.inl h)
theorem Inv.list(I:Inv X pins σ H s)(h:Td X.K H a xs):∃its:List Value,Vals xs its/\PlainL s.heap a its.toArray/\xs.length<=sizeLine:=by
 rcases h with h | ⟨o,its,n,hk,hc,hd,hs,hz,r⟩
 · obtain⟨z,its,n,r,e⟩:=h.ok I.hok;exact⟨its,r,⟨_,n,e,rfl,rfl,rfl⟩,z⟩
 · refine⟨its.toList,r,⟨o,n,I.Tn a o hk,hc,hd,by simpa using hs⟩,?_⟩;have e:=r.length;simp only[Array.length_toList]at e;omega
theorem Inv.tuple(I:Inv X pins σ H s)(h:BI X.K H a xs):∃its:List Value,Vals xs its/\IsTup s.heap a its.toArray/\xs.length<=sizeLine:=by
 rcases h with h | ⟨o,its,n,hk,hc,hs,hz,r⟩
 · obtain⟨z,its,r,p⟩:=h.ok I.hok;exact⟨its,r,p,z⟩
 · refine⟨its.toList,r,⟨o,I.Tn a o hk,hc,n,by simpa using hs⟩,?_⟩;have e:=r.length;simp only[Array.length_toList]at e;omega
theorem Inv.Wb(I:Inv X pins σ H s)(h:Td X.K H a xs)(h':Td X.K H a ys):xs=ys:=by
 obtain⟨its,r,⟨o,n,e,_,_,d⟩,_⟩:=I.list h;obtain⟨its',r',⟨o',n',e',_,_,d'⟩,_⟩:=I.list h';rw[e]at e';cases e';rw[d]at d';injection d' with d1 _
 have:its=its':=by simpa using congrArg Array.toList d1
 subst this;exact r.inj r'
theorem Inv.Ym(I:Inv X pins σ H s)(h:BI X.K H a xs)(h':BI X.K H a ys):xs=ys:=by
 obtain⟨its,r,⟨o,e,_,n,d⟩,_⟩:=I.tuple h;obtain⟨its',r',⟨o',e',_,n',d'⟩,_⟩:=I.tuple h';rw[e]at e';cases e';rw[d]at d';injection d' with d1 _
 have:its=its':=by simpa using congrArg Array.toList d1
 subst this;exact r.inj r'
end
noncomputable abbrev Cx.wish(X:Cx)(E:Value->Shared->Prop):Cx:={ X with xe:=E }
abbrev Cx.Bl(X:Cx):Cx:=X.wish fun _ _=>False
theorem Cx.Ok.wish{X:Cx}(ok:X.Ok)(E:Value->Shared->Prop):(X.wish E).Ok:=
 ⟨ok.mod,ok.kind,ok.glob,ok.blt,ok.above,ok.inj,ok.has,ok.cab,ok.hd,ok.frames,ok.stk,ok.exf,ok.bs,ok.Vp,ok.Ul,ok.Jl,ok.Nb,ok.frf⟩
theorem Cx.Ok.Ec{X:Cx}{E:Value->Shared->Prop}(ok:(X.wish E).Ok):X.Ok:=
 ⟨ok.mod,ok.kind,ok.glob,ok.blt,ok.above,ok.inj,ok.has,ok.cab,ok.hd,ok.frames,ok.stk,ok.exf,ok.bs,ok.Vp,ok.Ul,ok.Jl,ok.Nb,ok.frf⟩
section
variable{X:Cx}{pins:List (Addr×Obj)}{σ:St}{H:Hp}{s:Shared}{E:Value->Shared->Prop}
theorem Inv.wish(I:Inv X pins σ H s)(E:Value->Shared->Prop):Inv (X.wish E) pins σ H s:=⟨I.ok.wish E,I.os,I.bare,I.base,I.loc,I.cell,I.free,I.Rc,I.pin,I.hok,I.len⟩
theorem Inv.Ec(I:Inv (X.wish E) pins σ H s):Inv X pins σ H s:=⟨I.ok.Ec,I.os,I.bare,I.base,I.loc,I.cell,I.free,I.Rc,I.pin,I.hok,I.len⟩
theorem SP.Ec{D:wH}{f:Flow}{s':Shared}(h:SP (X.wish E) pins D f s'):SP X pins D f s':=by
 cases f with
 | next=>obtain⟨σ',H',I,q⟩:=h;exact⟨σ',H',I.Ec,q⟩
 | brk=>obtain⟨σ',H',I,q⟩:=h;exact⟨σ',H',I.Ec,q⟩
 | cont=>obtain⟨σ',H',I,q⟩:=h;exact⟨σ',H',I.Ec,q⟩
 | ret u=>obtain⟨v,σ',H',I,r,q⟩:=h;exact⟨v,σ',H',I.Ec,r,q⟩
theorem Qn.Bl{st:List Stmt}{t:TS}(h:Qn X.Bl st t):Qn X st t:=fun pins s σ H D I hw=>wpAny_mono (h pins s σ H D (I.wish _) hw) (fun _ _ q=>q.Ec) fun _ _ z=>False.elim z
end
section
variable{X:Cx}{st:Stmt}{rest:List Stmt}{t u:TS}{e:Expr}{te:TE}{pos:Pos}
noncomputable def J2:TS:=fun D σ H=>D.nx σ H
noncomputable def R0(t u:TS):TS:=fun D σ H=>t { D with nx:=u D } σ H
theorem gw:Qn X [] J2:=fun _ _ σ H _ I h=>wpAny_execs_nil ⟨σ,H,I,h⟩
theorem Tj(h1:PS X st t)(h2:Qn X rest u):Qn X (st::rest) (R0 t u):=by
 intro pins s σ H D I h;refine wpAny_execs_cons (gB (h1 pins s σ H { D with nx:=u D } I h) fun f s1 q=>?_);cases f with
 | next=>obtain⟨σ',H',I',q⟩:=q;exact h2 pins s1 σ' H' D I' q
 | ret v=>exact q
 | brk=>exact q
 | cont=>exact q
theorem iw(h1:PS X st t):Qn X [st] t:=by
 intro pins s σ H D I h;refine wpAny_execs_cons (gB (h1 pins s σ H D I h) fun f s1 q=>?_);cases f with
 | next=>exact wpAny_execs_nil q
 | ret v=>exact q
 | brk=>exact q
 | cont=>exact q
theorem Inv.quiet{pins:List (Addr×Obj)}{σ:St}{H:Hp}{s:Shared}(I:Inv X pins σ H s):interactive X.env=false:=by simp[interactive,I.ok.kind]
noncomputable def Z1(te:TE):TS:=fun D σ H=>te σ H fun _ H1=>D.nx σ H1
theorem dw(he:PE X e te)(hs:swapsWith e none pos.line X.env=pure false:=by rfl):PS X (.Expr e pos) (Z1 te):=by intro pins s σ H D I h;exact wpAny_Expr_any (gB (he pins s σ H _ I h) fun v s1 ⟨x,H1,I1,r1,q1⟩=>⟨σ,H1,I1,q1⟩) I.quiet hs
noncomputable def Q0(te:TE):TS:=fun D σ H=>te σ H D.rt
theorem Fw(he:PE X e te):PS X (.Return (some e) pos) (Q0 te):=by intro pins s σ H D I h;exact wpAny_Return_some (gB (he pins s σ H _ I h) fun v s1 ⟨x,H1,I1,r1,q1⟩=>⟨x,σ,H1,I1,r1,q1⟩)
noncomputable def O0(c:TT)(t u:TS):TS:=fun D σ H=>c σ H fun b H1=>if b=true then t D σ H1 else u D σ H1
theorem Z0{c:Expr}{a b:List Stmt}{tc:TT}(hc:PT X c tc)(ha:Qn X a t)(hb:Qn X b u):PS X (.If c a b pos) (O0 tc t u):=by
 intro pins s σ H D I h;refine wpAny_If (gB (hc pins s σ H _ I h) fun d s1 zz=>?_);obtain⟨H1,I1,q1⟩:=zz;cases d with
 | true=>exact ha pins s1 σ H1 D I1 q1
 | false=>exact hb pins s1 σ H1 D I1 q1
end
abbrev TG:=V->St->Hp->(St->Hp->Prop)->Prop
abbrev UO:=List V->St->Hp->(St->Hp->Prop)->Prop
def PG(X:Cx)(target:Expr)(t:TG):Prop:=
 ∀(pins:List (Addr×Obj))(s:Shared)(σ:St)(H:Hp)(v:V)(u:Value)(Q:St->Hp->Prop),Inv X pins σ H s->RelV v u->t v σ H Q->
  wpAny (model X.prog X.w) X.A (assign target X.env u) (fun _ s'=>∃σ' H',Inv X pins σ' H' s'/\Q σ' H') X.xe s
def zZ(X:Cx)(ts:List Expr)(t:UO):Prop:=
 ∀(pins:List (Addr×Obj))(s:Shared)(σ:St)(H:Hp)(vs:List V)(us:List Value)(Q:St->Hp->Prop),Inv X pins σ H s->Vals vs us->t vs σ H Q->
  wpAny (model X.prog X.w) X.A (assignInOrder ((assignEach ts X.env).map (·.2)) us) (fun _ s'=>∃σ' H',Inv X pins σ' H' s'/\Q σ' H') X.xe s
abbrev VO:=V->V->V->Hp->(Hp->Prop)->Prop
def oU(X:Cx)(t:VO):Prop:=
 ∀(pins:List (Addr×Obj))(s:Shared)(σ:St)(H:Hp)(o i v:V)(ov iv u:Value)(Q:Hp->Prop),Inv X pins σ H s->RelV o ov->RelV i iv->RelV v u->t o i v H Q->
  wpAny (model X.prog X.w) X.A (setItem ov iv u) (fun _ s'=>∃H',Inv X pins σ H' s'/\Q H') X.xe s
section
variable{X:Cx}{pos:Pos}
noncomputable def rO(i:Nat):TG:=fun v σ H Q=>Q (σ.set i (some v)) H
theorem ES{i:Nat}{x:Str}(hN:X.N.Nodup)(hi:X.N[i]?=some x)(hx:FO X.env.scope x)(hf:X.fn x=true\/X.env.scope.names.lookup x=some .local:=by first | exact .inl rfl | exact .inr rfl | assumption):PG X (.Name x pos) (rO i):=by intro pins s σ H v u Q I r h;exact wpAny_assign_Name (eX I hN hi hx r (fun s' I'=>⟨_,H,I',h⟩) hf)
noncomputable def UZ:UO:=fun vs σ H Q=>vs=[]/\Q σ H
noncomputable def xg(t:TG)(u:UO):UO:=fun vs σ H Q=>∃v r,vs=v::r/\t v σ H fun σ' H'=>u r σ' H' Q
theorem Uv:zZ X [] UZ:=by intro pins s σ H vs us Q I r h;obtain⟨e,h⟩:=h;subst e;cases r;exact assignInOrder_nil ⟨σ,H,I,h⟩
theorem WW{e:Expr}{es:List Expr}{t:TG}{u:UO}(h1:PG X e t)(h2:zZ X es u)
 (hs:(assignEach (e::es) X.env).map (·.2)=assign e X.env::(assignEach es X.env).map (·.2):=by rfl):zZ X (e::es) (xg t u):=by
 intro pins s σ H vs us Q I r h;obtain⟨v,vr,e1,h⟩:=h;subst e1;cases r with
 | cons r rr=>rw[hs];refine assignInOrder_cons (gB (h1 pins s σ H _ _ _ I r h) fun _ s1 zz=>?_);obtain⟨σ1,H1,I1,q1⟩:=zz;exact h2 pins s1 σ1 H1 _ _ Q I1 rr q1
def WZ(K:Frag)(n:Nat)(t:UO):TG:=fun v σ H Q=>∃a xs,v=.ref a/\BI K H a xs/\xs.length=n/\t xs σ H Q
theorem Bw{es:List Expr}{k:Nat}{t:UO}{n:Nat}(hc:X.calm=true)(h:zZ X es t)
 (hn:(assignEach es X.env).length=n:=by rfl) (hst:(assignEach es X.env).findIdx? (·.1)=none:=by rfl):PG X (.Tuple es k pos) (WZ X.K n t):=by
 intro pins s σ H v u Q I r hw;obtain⟨a,xs,e1,hq,hl,hw⟩:=hw;subst e1;cases r;obtain⟨its,rv,ht,hz⟩:=I.tuple hq;refine assign_Tuple_tuple (I.ok.hd hc) ht (by simp[hn,<- hl,rv.length]) hst fun h' hx=>?_
 have I1:Inv X pins σ H { s with heap:=h' }:=I.kept (t':=s.toks) fun b o e=>hx b o (Nat.ne_of_lt (Heap.lt_size e)) e
 exact h pins _ σ H xs _ Q I1 (by simpa using rv) hw
noncomputable def VZ(to ti:TE)(t:VO):TG:=fun v σ H Q=>to σ H fun o H1=>ti σ H1 fun i H2=>t o i v H2 fun H3=>Q σ H3
theorem Aw{o i:Expr}{to ti:TE}{t:VO}(ho:PE X o to)(hi:PE X i ti)(hs:oU X t)
 (ha:∀v,assign (.Subscript o i pos) X.env v=(do
  let ov <- holding [v] (eval o X.env)
  let iv <- holding [v,ov] (eval i X.env)
  standAt pos
  holding [v,ov,iv] (setItem ov iv v)
  release [v,ov,iv] []):=by intro _;rfl):PG X (.Subscript o i pos) (VZ to ti t):=by
 intro pins s σ H v u Q I r h;rw[ha];refine wpAny_bind (wpAny_holding (gB (ho pins s σ H _ I h) fun ov s1 zz=>?_));obtain⟨x,H1,I1,r1,q1⟩:=zz;refine wpAny_bind (wpAny_holding (gB (hi pins s1 σ H1 _ I1 q1) fun iv s2 zz=>?_));obtain⟨y,H2,I2,r2,q2⟩:=zz;refine wpAny_bind (wpAny_standAt (wpAny_bind (wpAny_holding (gB (hs pins s2 σ H2 x y v ov iv u _ I2 r1 r2 r q2) fun _ s3 zz=>?_))));obtain⟨H3,I3,q3⟩:=zz;exact wpAny_release ⟨σ,H3,I3,q3⟩
noncomputable def nP(te:TE)(g:TG):TS:=fun D σ H=>te σ H fun x H1=>g x σ H1 D.nx
theorem Cw{tg e:Expr}{te:TE}{g:TG}(he:PE X e te)(hg:PG X tg g)(hs:swapsWithSole [tg] e pos.line X.env=pure false:=by rfl)(hw:swappedStores [tg] e X.env=pure none:=by rfl)
 (h1:(assignEach [tg] X.env).map (·.2)=[assign tg X.env]:=by rfl):PS X (.Assign [tg] e pos) (nP te g):=by
 intro pins s σ H D I h;refine wpAny_Assign_stores (gB (he pins s σ H _ I h) fun v s1 zz=>?_) hs hw;obtain⟨x,H1,I1,r1,q1⟩:=zz;rw[h1];exact gB (hg pins s1 σ H1 x v _ I1 r1 q1) fun _ s2 q=>q
theorem Gw{i:Nat}{x:Str}{e:Expr}{te:TE}{pos':Pos}(hN:X.N.Nodup)(hi:X.N[i]?=some x)(hx:FO X.env.scope x)(he:PE X e te)(hs:swapsWith e (some (.Name x pos')) pos.line X.env=pure false:=by rfl)(hf:X.fn x=true\/X.env.scope.names.lookup x=some .local:=by first | exact .inl rfl | exact .inr rfl | assumption) :
 PS X (.Assign [.Name x pos'] e pos) (nP te (rO i)):=by
 intro pins s σ H D I h;refine wpAny_Assign_Name (gB (he pins s σ H _ I h) fun v s1 zz=>?_) hs;obtain⟨y,H1,I1,r1,q1⟩:=zz;exact eX I1 hN hi hx r1 (fun s2 I2=>⟨_,H1,I2,q1⟩) hf
def Xg(c:TT)(tb:TS):TS:=fun D σ H=>∃W:Nat->St->Hp->Prop,(∃m,W m σ H)/\∀m σ H,W m σ H->
 c σ H fun b H1=>if b=true then ∃N:St->Hp->Prop,(∀σ' H',N σ' H'->∃m',m'<m/\W m' σ' H')/\tb { D with nx:=N,ct:=N,bk:=D.nx } σ H1 else D.nx σ H1
theorem Rj{c:Expr}{body:List Stmt}{tc:TT}{tb:TS}(hp:PassesOwn (model X.prog X.w) X.A X.env X.xe)(hc:PT X c tc)(hb:Qn X body tb):PS X (.While c body [] pos) (Xg tc tb):=by
 intro pins s σ H D I h;obtain⟨W,⟨m0,w0⟩,turn⟩:=h;refine wpAny_While (codeAny_whileLoop (fun n s'=>∃σ' H',Inv X pins σ' H' s'/\W n σ' H') ?_ m0 ⟨σ,H,I,w0⟩);rintro n s1 ⟨σ1,H1,I1,w1⟩;refine wpAny_passesOwn hp (gB (hc pins s1 σ1 H1 _ I1 (turn n σ1 H1 w1)) fun b s2 zz=>?_);obtain⟨H2,I2,q2⟩:=zz;cases b with
 | true=>
  obtain⟨N,hN,q2⟩:=q2;rw[if_pos rfl];refine wpAny_passesOwn hp (gB (hb pins s2 σ1 H2 _ I2 q2) fun f s3 q3=>?_);cases f with
  | next=>obtain⟨σ3,H3,I3,n3⟩:=q3;obtain⟨m',hm,w3⟩:=hN σ3 H3 n3;exact⟨m',hm,σ3,H3,I3,w3⟩
  | cont=>obtain⟨σ3,H3,I3,n3⟩:=q3;obtain⟨m',hm,w3⟩:=hN σ3 H3 n3;exact⟨m',hm,σ3,H3,I3,w3⟩
  | brk=>exact q3
  | ret v=>exact q3
 | false=>rw[if_neg zdR];exact wpAny_execs_nil ⟨σ1,H2,I2,q2⟩
end
structure It where
 go:Nat->Hp->Prop
 yld:Nat->Hp->V->Hp->Prop
 stop:Nat->Hp->Prop
def QE(X:Cx)(pins:List (Addr×Obj))(H:Hp)(b:Addr):Prop:=
 H b=none/\b≠X.env.locals/\b∉X.fs/\(b∈X.ex\/X.s₀.heap.objs.size<=b)/\(∀x c,X.env.cells.lookup x=some c->c≠b)/\∀p∈X.pn++pins,p.1≠b
theorem Inv.Vm{X:Cx}{pins:List (Addr×Obj)}{σ:St}{H H':Hp}{s:Shared}{b:Addr}(I:Inv X pins σ H s)(hb:s.heap.objs.size<=b)(hn:H' b=none):QE X pins H' b:=by
 refine⟨hn,Nat.ne_of_gt (Nat.lt_of_lt_of_le I.lt hb),I.zci hb,.inr (Nat.le_trans I.sz hb),fun x c e z=>?_,fun p hp z=>?_⟩
 · obtain⟨v,q⟩:=I.cell x c e;exact absurd (Nat.lt_of_lt_of_le q.lt (by rw[z];exact hb)) (Nat.lt_irrefl _)
 · exact absurd (Nat.lt_of_lt_of_le (Heap.lt_size (I.pin p hp).1) (by rw[z];exact hb)) (Nat.lt_irrefl _)
structure BH(P:Program)(w:World)(K:Frag)(tg:Expr)(J:It)(fp:List Addr)(it:Addr)(tn:Nat->Heap->Prop):Prop where
 mem:it∈fp
 obj:∀i h,tn i h->∀b∈fp,∃o,h.get? b=some o/\∀v,o.data≠.cell v
 keep:∀i h h',tn i h->(∀b∈fp,∀o,h.get? b=some o->h'.get? b=some o)->tn i h'
 item:∀(X:Cx),X.prog=P->X.w=w->X.K=K->X.calm=true->∀(i:Nat)(pins:List (Addr×Obj))(s:Shared)(σ:St)(H:Hp)(E:Value->Shared->Prop),Inv X pins σ H s->(∀b∈fp,QE X pins H b)->tn i s.heap->J.go i H->
  wpAny (model P w) X.A (pyNext (.ref it)) (fun r s1=>∃u,r=some u/\
   wpAny (model P w) X.A (letOwnedTupleGo tg (.ref it) u) (fun _ s2=>∃x H',Inv X pins σ H' s2/\RelV x u/\J.yld i H x H'/\tn (i+1) s2.heap/\∀b∈fp,H' b=none) E s1) E s
 done:∀(X:Cx),X.prog=P->X.w=w->X.K=K->X.calm=true->∀(i:Nat)(pins:List (Addr×Obj))(s:Shared)(σ:St)(H:Hp)(E:Value->Shared->Prop),Inv X pins σ H s->(∀b∈fp,QE X pins H b)->tn i s.heap->J.stop i H->
  wpAny (model P w) X.A (pyNext (.ref it)) (fun r s1=>r=none/\Inv X pins σ H s1) E s
 self:∀(A:Around)(i:Nat)(s:Shared)(Q:Value->Shared->Prop)(E:Value->Shared->Prop),tn i s.heap->Q (.ref it) s->wpAny (model P w) A (pyIter (.ref it)) Q E s
abbrev TI:=St->Hp->(It->Hp->Prop)->Prop
def QZ(X:Cx)(pins:List (Addr×Obj))(σ:St)(tg:Expr)(R:It->Hp->Prop)(itv:Value)(s2:Shared):Prop:=
 ∃(it:Addr)(fp:List Addr)(tn:Nat->Heap->Prop)(J:It)(H':Hp),itv=.ref it/\Inv X pins σ H' s2/\BH X.prog X.w X.K tg J fp it tn/\tn 0 s2.heap/\(∀b∈fp,QE X pins H' b)/\R J H'
def PI(X:Cx)(tg iter:Expr)(wi:TI):Prop:=
 ∀(pins:List (Addr×Obj))(s:Shared)(σ:St)(H:Hp)(R:It->Hp->Prop),Inv X pins σ H s->wi σ H R->
  wpAny (model X.prog X.w) X.A (eval iter X.env) (fun v s1=>wpAny (model X.prog X.w) X.A (pyIter v) (QZ X pins σ tg R) X.xe s1) X.xe s
theorem CT{M:Model}{A:Around}{E:Value->Shared->Prop}{s:Shared}{tg:Expr}{it:Addr}{u:Value}{o:Obj}{n:String}{vs:Array Value}{Q:Unit->Shared->Prop}(ho:s.heap.get? it=some o)(hc:o.cls=.type n)(hd:o.data=.fields vs)
 (hn:["enumerate", "zip", "dict_itemiterator", "dict_reverseitemiterator", "odict_iterator", "itertools.zip_longest", "itertools.pairwise"].contains n=false) (hQ:Q () s):wpAny M A (letOwnedTupleGo tg (.ref it) u) Q E s:=by
 unfold letOwnedTupleGo;cases tg<;>first
  | exact wpAny_pure hQ
  | (cases u<;>first
   | exact wpAny_pure hQ
   | (refine wpAny_bind (wpAny_load ho ?_);rw[hc,hd];show wpAny M A (if(["enumerate", "zip", "dict_itemiterator", "dict_reverseitemiterator", "odict_iterator", "itertools.zip_longest", "itertools.pairwise"].contains n&&vs[0]?==some (rawInt _))=true then _ else _) Q E s;rw[if_neg (by intro h;rw[hn,Bool.false_and]at h;cases h)];exact wpAny_pure hQ))
def uh(K:Frag)(a:Addr):It:=
 ⟨fun i H=>∃xs x,Td K H a xs/\xs[i]?=some x,fun i H x H'=>H'=H/\∀xs,Td K H a xs->xs[i]?=some x,fun i H=>∃xs,Td K H a xs/\xs.length<=i⟩
noncomputable def xZ(lo:Int)(n:Nat):It:=⟨fun i _=>i<n,fun i H x H'=>H'=H/\x=.int (lo+i),fun i _=>n<=i⟩
theorem R9{P:Program}{w:World}{K:Frag}{tg:Expr}(a it:Addr):BH P w K tg (uh K a) [it] it (fun i h=>h.IsListIter it a i) where
 mem:=by simp
 obj:=fun i h st b hb=>by
  have e:b=it:=by simpa using hb
  subst e;obtain⟨o,e,c,d⟩:=st;exact⟨o,e,fun v z=>by rw[d]at z;cases z⟩
 keep:=fun i h h' st k=>st.at fun o e=>k it (by simp) o e
 item:=by
  intro X hP hw hK hc i pins s σ H E I hf st hg;subst hP hw hK;obtain⟨xs,x,hq,hx⟩:=hg;obtain⟨its,rv,p,hz⟩:=I.list hq;obtain⟨u,hu,ru⟩:=rv.get hx;obtain⟨f0,f1,f2,f3,f4,f5⟩:=hf it (by simp);refine wpAny_pyNext_list_item st p.isList (x:=u) (by simpa using hu) fun h' st' sb=>?_
  have I1:Inv X pins σ H { s with heap:=h' }:=I.turned (t':=s.toks) (fun b o hb e=>(sb.2 b hb).trans e) f0 f1 f3 f4 f5;obtain⟨o,e,c,d⟩:=id st';exact⟨u,rfl,CT (s:={ s with heap:=h' }) e c d (by decide) ⟨x,H,I1,ru,⟨rfl,fun ys hy=>by rw[I.Wb hy hq];exact hx⟩,st',fun b hb=>(hf b hb).1⟩⟩
 done:=by intro X hP hw hK hc i pins s σ H E I hf st hg;subst hP hw hK;obtain⟨xs,hq,hx⟩:=hg;obtain⟨its,rv,p,hz⟩:=I.list hq;obtain⟨f0,f1,f2,f3,f4,f5⟩:=hf it (by simp);have hl:=rv.length;exact wpAny_pyNext_list_end (I.ok.hd hc) st p.isList (by simp;omega) fun h' eb=>⟨rfl,I.turned (t':=s.toks) (fun b o hb e=>eb b o hb e) f0 f1 f3 f4 f5⟩
 self:=fun _ _ _ _ _ st h=>wpAny_pyIter_listiter st h
theorem R7{P:Program}{w:World}{K:Frag}{tg:Expr}(it:Addr)(lo:Int)(n:Nat):BH P w K tg (xZ lo n) [it] it (fun i h=>IsRangeIter h it (lo+(i:Nat)*1) ((n:Int)-(i:Nat)) 1) where
 mem:=by simp
 obj:=fun i h st b hb=>by
  have e:b=it:=by simpa using hb
  subst e;exact⟨_,st,fun v z=>by
   have z':Data.fields _=Data.cell v:=z;cases z'⟩
 keep:=fun i h h' st k=>k it (by simp) _ st
 item:=by
  intro X hP hw hK hc i pins s σ H E I hf st hg;subst hP hw hK;obtain⟨f0,f1,f2,f3,f4,f5⟩:=hf it (by simp);have W:=Walks.range (prog:=X.prog) (w:=X.w) (I.ok.hd hc) it lo 1 n;refine W.item i s _ _ hg st fun v h' tk hv st' kk=>?_
  obtain⟨t,rfl⟩:=hv;have I1:Inv X pins σ H { s with heap:=h',toks:=tk }:=I.turned (fun b o hb e=>kk b o (by simpa using hb) e) f0 f1 f3 f4 f5;refine⟨_,rfl,CT (s:={ s with heap:=h',toks:=tk }) (n := "range_iterator") st' rfl rfl (by decide) ⟨.int (lo+i),H,I1,⟨t,?_⟩,⟨rfl,rfl⟩,st',fun b hb=>(hf b hb).1⟩⟩;rw[Int.mul_one]
 done:=by intro X hP hw hK hc i pins s σ H E I hf st hg;subst hP hw hK;obtain⟨f0,f1,f2,f3,f4,f5⟩:=hf it (by simp);exact wpAny_pyNext_range_end (I.ok.hd hc) st (by have:n<=i:=hg;omega) fun h' eb=>⟨rfl,I.turned (t':=s.toks) (fun b o hb e=>eb b o hb e) f0 f1 f3 f4 f5⟩
 self:=fun _ _ _ _ _ st h=>wpAny_pyIter_rangeiter st h
section
variable{X:Cx}{tg:Expr}
def yg(K:Frag)(tl:TE):TI:=fun σ H R=>tl σ H fun x H1=>∃a,x=.ref a/\(∃xs,Td K H1 a xs)/\R (uh K a) H1
theorem Wv{l:Expr}{tl:TE}(hl:PE X l tl):PI X tg l (yg X.K tl):=by
 intro pins s σ H R I h;refine gB (hl pins s σ H _ I h) fun v s1 zz=>?_
 obtain⟨x,H1,I1,r1,q1⟩:=zz;obtain⟨a,e,⟨xs,hq⟩,q⟩:=q1;subst e;cases r1;obtain⟨its,rv,p,hz⟩:=I1.list hq;refine wpAny_pyIter_list p.isList ?_;refine⟨s1.heap.objs.size,[s1.heap.objs.size],_,_,H1,rfl,I1.kept (t':=s1.toks) fun b o e=>Heap.get?_push_of_some _ e,R9 a _,⟨_,Heap.get?_push_size _ rfl,rfl,rfl⟩,fun b hb=>?_,q⟩;have e:b=s1.heap.objs.size:=by simpa using hb
 subst e;exact I1.Vm (zdS _) (I1.hok.fresh (zdS _))
theorem XW{pins:List (Addr×Obj)}{σ:St}{H:Hp}{s:Shared}{R:It->Hp->Prop}{E:Value->Shared->Prop}{lo hi:Int}{t u v:Tok}{tk:Nat}(I:Inv X pins σ H s)(h1:-(2^62)<=lo)(h2:lo<2^62)(h3:-(2^62)<=hi)(h4:hi<2^62)
 (q:R (xZ lo (hi-lo).toNat) H):wpAny (model X.prog X.w) X.A (pyIter (.ref s.heap.objs.size)) (QZ X pins σ tg R) E { s with heap:=s.heap.push { cls:=.type "range",data:=.fields #[.int lo t,.int hi u,.int 1 v] },toks:=tk }:=by
 refine wpAny_pyIter_range (IsRange.new ..) (small_one h1 h2 h3 h4) ?_;have I1:Inv X pins σ H { s with heap:=s.heap.push { cls:=.type "range",data:=.fields #[.int lo t,.int hi u,.int 1 v] },toks:=tk }:=I.kept fun b o e=>Heap.get?_push_of_some _ e
 refine⟨(s.heap.push { cls:=.type "range",data:=.fields #[.int lo t,.int hi u,.int 1 v] }).objs.size,[(s.heap.push { cls:=.type "range",data:=.fields #[.int lo t,.int hi u,.int 1 v] }).objs.size],_,_,H,rfl,
  I1.kept (t':=tk) fun b o e=>Heap.get?_push_of_some _ e,R7 _ lo (hi-lo).toNat,?_,fun b hb=>?_,q⟩
 · have e1:lo+((0:Nat):Int)*1=lo:=by simp
   have e2:(((hi-lo).toNat:Nat):Int)-((0:Nat):Int)=Builtin.Range.rangeSize lo hi 1:=by rw[rangeSize_one];split<;>omega
   show IsRangeIter _ _ (lo+((0:Nat):Int)*1) ((((hi-lo).toNat:Nat):Int)-((0:Nat):Int)) 1;rw[e1,e2];exact Heap.get?_push_size _ rfl
 · have e:b=(s.heap.push { cls:=.type "range",data:=.fields #[.int lo t,.int hi u,.int 1 v] }).objs.size:=by simpa using hb
   subst e;exact I1.Vm (zdS _) (I1.hok.fresh (zdS _))
def Ag(ta:TA):TI:=fun σ H R=>ta σ H fun vs H1=>∃j:Int,vs=[.int j]/\-(2^62)<=j/\j<2^62/\R (xZ 0 j.toNat) H1
def Bg(ta:TA):TI:=fun σ H R=>ta σ H fun vs H1=>∃i j:Int,vs=[.int i,.int j]/\(-(2^62)<=i/\i<2^62/\-(2^62)<=j/\j<2^62)/\R (xZ i (j-i).toNat) H1
theorem v8 {a:Expr} {ta:TA} {p pos:Pos} (hg:Gl X "range") (hm:X.mg "range" =none) (ha:PA X [a] ta) (hs:starEach [a] X.env=[(false,eval a X.env)]:=by rfl):PI X tg (.Call (.Name "range" p) [a] [] pos) (Ag ta):=by
 intro pins s σ H R I h;refine Call_ (nH I hg hm boot_range (PyProof.Rows.callWith_type1 (gB (ha pos pins s σ H _ I h) fun us s1 zz=>?_) hs rfl));obtain⟨vs,H1,I1,r1,q1⟩:=zz;obtain⟨j,e,q1,q2,q⟩:=q1;subst e;cases r1 with
 | cons r rr=>cases rr;obtain⟨t,rfl⟩:=r;exact call_range_1 (XW I1 (by omega) (by omega) q1 q2 (by simpa using q))
theorem w8 {a b:Expr} {ta:TA} {p pos:Pos} (hg:Gl X "range") (hm:X.mg "range" =none) (ha:PA X [a,b] ta) (hs:starEach [a,b] X.env=[(false,eval a X.env),(false,eval b X.env)]:=by rfl) (hs2:starEach [b] X.env=[(false,eval b X.env)]:=by rfl) :
 PI X tg (.Call (.Name "range" p) [a,b] [] pos) (Bg ta):=by
 intro pins s σ H R I h;refine Call_ (nH I hg hm boot_range (PyProof.Rows.callWith_type1 (gB (ha pos pins s σ H _ I h) fun us s1 zz=>?_) (by rw[hs,hs2]) (by rw[hs2];rfl)));obtain⟨vs,H1,I1,r1,q1⟩:=zz;obtain⟨i,j,e,⟨q1,q2,q3,q4⟩,q⟩:=q1;subst e;cases r1 with
 | cons r rr=>
  cases rr with
  | cons r' rr=>cases rr;obtain⟨t,rfl⟩:=r;obtain⟨t',rfl⟩:=r';exact call_range_2 (XW I1 q1 q2 q3 q4 q)
def L0(wi:TI)(g:TG)(tb:TS):TS:=fun D σ H=>wi σ H fun J H1=>∃W:Nat->Nat->St->Hp->Prop,(∃m,W 0 m σ H1)/\∀i m σ H,W i m σ H->
 (J.stop i H/\D.nx σ H)\/(J.go i H/\∃N:St->Hp->Prop,(∀σ' H',N σ' H'->∃m',m'<m/\W (i+1) m' σ' H')/\∀x H',J.yld i H x H'->g x σ H' fun σ2 H2=>tb { D with nx:=N,ct:=N,bk:=D.nx } σ2 H2)
noncomputable def UK(fp:List Addr)(h:Heap):List (Addr×Obj):=fp.filterMap fun b=>(h.get? b).map fun o=>(b,o)
theorem KM{fp:List Addr}{h:Heap}{b:Addr}{o:Obj}(hb:b∈fp)(e:h.get? b=some o):(b,o)∈UK fp h:=mem_filterMap.mpr ⟨b,hb,by rw[e];rfl⟩
theorem j8{fp:List Addr}{h:Heap}{p:Addr×Obj}(hp:p∈UK fp h):p.1∈fp/\h.get? p.1=some p.2:=by
 obtain⟨b,hb,e⟩:=mem_filterMap.mp hp;cases q:h.get? b with
 | none=>rw[q]at e;cases e
 | some o=>rw[q]at e;have e':(b,o)=p:=Option.some.inj e;subst e';exact⟨hb,q⟩
theorem Inv.pinned{pins:List (Addr×Obj)}{σ:St}{H:Hp}{s:Shared}{fp:List Addr}(I:Inv X pins σ H s)(hf:∀b∈fp,QE X pins H b)(ho:∀b∈fp,∃o,s.heap.get? b=some o/\∀v,o.data≠.cell v):Inv X (pins++UK fp s.heap) σ H s:=
 I.Om fun p hp=>(mem_append.mp hp).elim (fun z=>I.pin p (mem_append_right _ z)) fun z=>by obtain⟨hb,e⟩:=j8 z;obtain⟨f0,f1,f2,_⟩:=hf p.1 hb;obtain⟨o,e',d⟩:=ho p.1 hb;rw[e]at e';cases e';exact⟨e,f0,f1,f2,d⟩
theorem Inv.Bb{pins pl:List (Addr×Obj)}{σ:St}{H:Hp}{s:Shared}(I:Inv X (pins++pl) σ H s):Inv X pins σ H s:=I.Om fun p hp=>I.pin p (mem_append_right _ (mem_append_left _ hp))
theorem Ew{iter:Expr}{body:List Stmt}{wi:TI}{g:TG}{tb:TS}{pos:Pos}(hp:PassesOwn (model X.prog X.w) X.A X.env X.xe)(hc:X.calm=true)(hi:PI X tg iter wi)(hg:PG X tg g)(hb:Qn X body tb)
 (hs:∀x,foldedSetIterable iter X.env x=pure x:=by intro _;rfl):PS X (.For tg iter body [] pos) (L0 wi g tb):=by
 intro pins s σ H D I h;refine wpAny_For (gB (hi pins s σ H _ I h) fun v s1 h1=>gB h1 fun itv s2 h2=>?_) hs;obtain⟨it,fp,tn,J,H2,e,I2,T,st2,f2,W,⟨m0,w0⟩,turn⟩:=h2;subst e;have stat:∀{H':Hp},(∀b∈fp,H' b=none)->∀b∈fp,QE X pins H' b:=fun hn b hb=>⟨hn b hb,(f2 b hb).2⟩
 refine codeAny_forLoop_any (fun n s'=>∃i σ' H',Inv X pins σ' H' s'/\tn i s'.heap/\(∀b∈fp,H' b=none)/\W i n σ' H') ?_ m0 ⟨0,σ,H2,I2,st2,fun b hb=>(f2 b hb).1,w0⟩;rintro n s3 ⟨i,σ3,H3,I3,st3,fr3,w3⟩;rcases turn i n σ3 H3 w3 with⟨stop,qn⟩ | ⟨go,N,hN,step⟩
 · refine wpAny_passesOwn hp (gB (T.done X rfl rfl rfl hc i pins s3 σ3 H3 X.xe I3 (stat fr3) st3 stop) fun r s4 zz=>?_);obtain⟨hr,I4⟩:=zz;subst hr;exact wpAny_execs_nil ⟨σ3,H3,I4,qn⟩
 · refine wpAny_passesOwn hp (gB (T.item X rfl rfl rfl hc i pins s3 σ3 H3 X.xe I3 (stat fr3) st3 go) fun r s4 zz=>?_);obtain⟨u,hr,h4⟩:=zz;subst hr;refine wpAny_passesOwn hp (gB h4 fun _ s5 zz=>?_);obtain⟨x,H5,I5,r5,y5,st5,fr5⟩:=zz;have I5':=I5.pinned (stat fr5) (T.obj _ _ st5);refine wpAny_passesOwn hp (gB (hg _ s5 σ3 H5 x u _ I5' r5 (step x H5 y5)) fun _ s6 zz=>?_);obtain⟨σ6,H6,I6,q6⟩:=zz;refine wpAny_passesOwn hp (gB (hb _ s6 σ6 H6 _ I6 q6) fun f s7 q7=>?_);have again:∀{σ7:St}{H7:Hp},Inv X (pins++UK fp s5.heap) σ7 H7 s7->N σ7 H7->∃m,m<n/\∃i σ' H',Inv X pins σ' H' s7/\tn i s7.heap/\(∀b∈fp,H' b=none)/\W i m σ' H':=fun {σ7 H7} I7 n7=>by obtain⟨m',hm,w7⟩:=hN σ7 H7 n7;refine⟨m',hm,i+1,σ7,H7,I7.Bb,T.keep _ _ _ st5 fun b hb o e=>(I7.pin (b,o) (mem_append_right _ (mem_append_right _ (KM hb e)))).1,fun b hb=>?_,w7⟩;obtain⟨o,e,d⟩:=T.obj _ _ st5 b hb;exact(I7.pin (b,o) (mem_append_right _ (mem_append_right _ (KM hb e)))).2.1
   cases f with
   | next=>obtain⟨σ7,H7,I7,n7⟩:=q7;exact again I7 n7
   | cont=>obtain⟨σ7,H7,I7,n7⟩:=q7;exact again I7 n7
   | brk=>obtain⟨σ7,H7,I7,q7⟩:=q7;exact⟨σ7,H7,I7.Bb,q7⟩
   | ret v=>obtain⟨x7,σ7,H7,I7,r7,q7⟩:=q7;exact⟨x7,σ7,H7,I7.Bb,r7,q7⟩
end
abbrev R2:=V->V->Hp->VK->Prop
def Gd(X:Cx)(f:Value->Value->Sem Value)(r:R2):Prop:=
 ∀(pins:List (Addr×Obj))(s:Shared)(σ:St)(H:Hp)(x y:V)(v u:Value)(Q:VK),Inv X pins σ H s->RelV x v->RelV y u->r x y H Q->
  wpAny (model X.prog X.w) X.A (f v u) (EP X pins σ Q) X.xe s
def AZ(X:Cx)(f:Value->Sem Value)(r:V->Hp->VK->Prop):Prop:=
 ∀(pins:List (Addr×Obj))(s:Shared)(σ:St)(H:Hp)(x:V)(v:Value)(Q:VK),Inv X pins σ H s->RelV x v->r x H Q->
  wpAny (model X.prog X.w) X.A (f v) (EP X pins σ Q) X.xe s
def jd(X:Cx)(f:Value)(r:List V->Hp->VK->Prop):Prop:=
 ∀(pins:List (Addr×Obj))(s:Shared)(σ:St)(H:Hp)(xs:List V)(us:List Value)(Q:VK),Inv X pins σ H s->Vals xs us->r xs H Q->
  wpAny (model X.prog X.w) X.A (call f us) (EP X pins σ Q) X.xe s
noncomputable def HU(r:R2)(ta tb:TE):TE:=fun σ H Q=>ta σ H fun x H1=>tb σ H1 fun y H2=>r x y H2 Q
noncomputable def Jt(r:V->Hp->VK->Prop)(ta:TE):TE:=fun σ H Q=>ta σ H fun x H1=>r x H1 Q
noncomputable def rI(C:Int->Int->Prop)(g:Int->Int->V):R2:=fun x y H Q=>∃i j,x=.int i/\y=.int j/\C i j/\Q (g i j) H
noncomputable def ZJ(g:Int->Int->V):R2:=fun x y H Q=>∃i j,x=.int i/\y=.int j/\Q (g i j) H
noncomputable def rU(g:Int->V):V->Hp->VK->Prop:=fun x H Q=>∃i,x=.int i/\Q (g i) H
section
variable{X:Cx}{a b c:Expr}{ta tb tc:TE}{pos:Pos}
theorem XO(ha:PE X a ta)(hb:PE X b tb){pins:List (Addr×Obj)}{s:Shared}{σ:St}{H:Hp}{R:V->V->Hp->Prop}(I:Inv X pins σ H s)
 (h:ta σ H fun x H1=>tb σ H1 fun y H2=>R x y H2) {Q:Value->Shared->Prop} {f:Value->Value->Sem Value}
 (hf:∀v u s2 x y H2,Inv X pins σ H2 s2->RelV x v->RelV y u->R x y H2->wpAny (model X.prog X.w) X.A (f v u) Q X.xe s2) :
 wpAny (model X.prog X.w) X.A (eval a X.env) (fun v s₁=>wpAny (model X.prog X.w) X.A (eval b X.env) (fun u s₂=>wpAny (model X.prog X.w) X.A (f v u) Q X.xe s₂) X.xe s₁) X.xe s:=by
 refine gB (ha pins s σ H _ I h) fun v s1 zz=>?_
 obtain⟨x,H1,I1,r1,q1⟩:=zz;refine gB (hb pins s1 σ H1 _ I1 q1) fun u s2 zz=>?_
 obtain⟨y,H2,I2,r2,q2⟩:=zz;exact hf v u s2 x y H2 I2 r1 r2 q2
theorem sT{op:Operator}{r:R2}(ho:Gd X (binaryOp op) r)(ha:PE X a ta)(hb:PE X b tb):PE X (.BinOp a op b pos) (HU r ta tb):=by intro pins s σ H Q I h;exact wpAny_BinOp (XO ha hb I h fun v u s2 x y H2 I2 rx ry q=>ho pins s2 σ H2 x y v u Q I2 rx ry q)
theorem rZ{op:UnaryOp}{r:V->Hp->VK->Prop}(ho:AZ X (unaryOp op) r)(ha:PE X a ta):PE X (.UnaryOp op a pos) (Jt r ta):=by intro pins s σ H Q I h;exact UnaryOp_ (gB (ha pins s σ H _ I h) fun v s1 ⟨x,H1,I1,r1,q1⟩=>ho pins s1 σ H1 x v Q I1 r1 q1)
theorem hU{f:Value->Value->Sem Value}{C:Int->Int->Prop}{g:Int->Int->Int}
 (rule:∀(i j:Int)(t u:Tok)(s:Shared)(Q:Value->Shared->Prop)(E:Value->Shared->Prop),C i j->Q (.int (g i j) s.toks) { s with toks:=s.toks+1 }->wpAny (model X.prog X.w) X.A (f (.int i t) (.int j u)) Q E s) :
 Gd X f (rI C fun i j=>.int (g i j)):=by
 intro pins s σ H x y v u Q I rx ry h;obtain⟨i,j,rfl,rfl,hc,q⟩:=h;obtain⟨t,rfl⟩:=rx;obtain⟨t',rfl⟩:=ry;exact rule i j t t' s _ _ hc ⟨.int (g i j),H,I.tok _,⟨_,rfl⟩,q⟩
theorem NL{f:Value->Value->Sem Value}{g:Int->Int->Int}
 (rule:∀(i j:Int)(t u:Tok)(s:Shared)(Q:Value->Shared->Prop)(E:Value->Shared->Prop),Q (.int (g i j) s.toks) { s with toks:=s.toks+1 }->wpAny (model X.prog X.w) X.A (f (.int i t) (.int j u)) Q E s) :
 Gd X f (ZJ fun i j=>.int (g i j)):=by
 intro pins s σ H x y v u Q I rx ry h;obtain⟨i,j,rfl,rfl,q⟩:=h;obtain⟨t,rfl⟩:=rx;obtain⟨t',rfl⟩:=ry;exact rule i j t t' s _ _ ⟨.int (g i j),H,I.tok _,⟨_,rfl⟩,q⟩
theorem ML{f:Value->Value->Sem Value}{g:Int->Int->Bool}
 (rule:∀(i j:Int)(t u:Tok)(s:Shared)(Q:Value->Shared->Prop)(E:Value->Shared->Prop),Q (.bool (g i j)) s->wpAny (model X.prog X.w) X.A (f (.int i t) (.int j u)) Q E s) :
 Gd X f (ZJ fun i j=>.bl (g i j)):=by
 intro pins s σ H x y v u Q I rx ry h;obtain⟨i,j,rfl,rfl,q⟩:=h;obtain⟨t,rfl⟩:=rx;obtain⟨t',rfl⟩:=ry;exact rule i j t t' s _ _ ⟨.bl (g i j),H,I,rfl,q⟩
noncomputable def KJ(i j:Int):Prop:=0<j/\j<1073741824
noncomputable def sG(i j:Int):Prop:=0<=j/\j<=1000000/\i.natAbs<2^64
noncomputable def Yn(i j:Int):Prop:=(-(2^64)<i/\i<2^64)\/(-(2^64)<j/\j<2^64)
theorem Yn.ok{i j:Int}(h:Yn i j):IntMulOk i j:=by
 rcases h with⟨h1,h2⟩ | ⟨h1,h2⟩
 · exact .of_left (intBits_le_64 h1 h2)
 · exact .of_right (intBits_le_64 h1 h2)
theorem S7(k:Nat):(0:Int)<=2^k:=by rw[two_pow_cast];exact Int.natCast_nonneg _
theorem Rw:Gd X (binaryOp .Add) (ZJ fun i j=>.int (i+j)):=NL fun _ _ _ _ _ _ _ q=>add_int q
theorem Zw:Gd X (binaryOp .Sub) (ZJ fun i j=>.int (i-j)):=NL fun _ _ _ _ _ _ _ q=>sub_int q
theorem Vw:Gd X (binaryOp .Mult) (rI Yn fun i j=>.int (i*j)):=hU fun _ _ _ _ _ _ _ hc q=>mul_int q hc.ok
theorem Jv:Gd X (binaryOp .FloorDiv) (rI KJ fun i j=>.int (i/j)):=hU fun i j _ _ _ _ _ hc q=>by have h1:(0:Int)<j:=hc.1;have h2:j<1073741824:=hc.2;exact floordiv_int (by omega) (by rw[Int.fdiv_eq_ediv_of_nonneg i (by omega)];exact q) (.inl (PyProof.noPylong_small (by omega)))
theorem Uw:Gd X (binaryOp .Mod) (rI (fun _ j=>0<j) fun i j=>.int (i%j)):=hU fun i j _ _ _ _ _ hc q=>by have h1:(0:Int)<j:=hc;exact mod_int' (by omega) (by rw[Int.fmod_eq_emod_of_nonneg i (by omega)];exact q)
theorem Ww:Gd X (binaryOp .Pow) (rI sG fun i j=>.int (i^j.toNat)):=hU fun _ _ _ _ _ _ _ hc q=>pow_int_small hc.1 hc.2.1 hc.2.2 q
theorem Xw:Gd X (binaryOp .LShift) (rI sG fun i j=>.int (i*2^j.toNat)):=hU fun _ _ _ _ _ _ _ hc q=>lshift_int_small hc.1 hc.2.1 hc.2.2 q
theorem Yw:Gd X (binaryOp .RShift) (rI (fun _ j=>0<=j) fun i j=>.int (i/2^j.toNat)):=hU fun i j _ _ _ _ _ hc q=>rshift_int hc (by rw[Int.fdiv_eq_ediv_of_nonneg i (S7 _)];exact q)
theorem Sw:Gd X (binaryOp .BitAnd) (ZJ fun i j=>.int (Builtin.bitAnd i j)):=NL fun _ _ _ _ _ _ _ q=>and_int q
theorem Qy:Gd X (binaryOp .BitOr) (ZJ fun i j=>.int (Builtin.bitOr i j)):=NL fun _ _ _ _ _ _ _ q=>or_int q
theorem Qh{f:Value->Sem Value}{g:Int->Int}
 (rule:∀(i:Int)(t:Tok)(s:Shared)(Q:Value->Shared->Prop)(E:Value->Shared->Prop),Q (.int (g i) s.toks) { s with toks:=s.toks+1 }->wpAny (model X.prog X.w) X.A (f (.int i t)) Q E s) :
 AZ X f (rU fun i=>.int (g i)):=by
 intro pins s σ H x v Q I rx h;obtain⟨i,rfl,q⟩:=h;obtain⟨t,rfl⟩:=rx;exact rule i t s _ _ ⟨.int (g i),H,I.tok _,⟨_,rfl⟩,q⟩
theorem kh:AZ X (unaryOp .USub) (rU fun i=>.int (-i)):=Qh fun _ _ _ _ _ q=>neg_int q
theorem jh:AZ X (unaryOp .Invert) (rU fun i=>.int (Builtin.bitNot i)):=Qh fun _ _ _ _ _ q=>invert_int q
end
noncomputable def PL:V->V->Bool
 | .non,.non=>true | .non,.int _=>true | .int _,.non=>true | .non,.bl _=>true | .bl _,.non=>true | .non,.str _=>true | .str _,.non=>true
 | .int _,.int _=>true | .bl _,.bl _=>true | .str _,.str _=>true | .Um _,.Um _=>true
 | .int _,.str _=>true | .str _,.int _=>true | .bl _,.str _=>true | .str _,.bl _=>true
 | _,_=>false
def Zh:R2:=fun x y H Q=>PL x y=true/\Q (.bl (decide (x=y))) H
def jt:R2:=fun x y H Q=>PL x y=true/\Q (.bl (!decide (x=y))) H
theorem FX{i j:Int}:decide (V.int i=V.int j)=(i==j):=by rw[Bool.eq_iff_iff];simp
theorem wY{i j:Bool}:decide (V.bl i=V.bl j)=(i==j):=by rw[Bool.eq_iff_iff];simp
theorem GX{i j:Str}:decide (V.str i=V.str j)=(i==j):=by rw[Bool.eq_iff_iff];simp
theorem EX{i j:Array UInt8}:decide (V.Um i=V.Um j)=(i.toList==j.toList):=by rw[Bool.eq_iff_iff];cases i;cases j;simp
section
variable{X:Cx}{a b c:Expr}{ta tb tc:TE}{pos:Pos}
theorem cC{pins:List (Addr×Obj)}{σ:St}{H:Hp}{s:Shared}{Q:VK}{k k':Bool}(I:Inv X pins σ H s)(q:Q (.bl k) H)(e:k=k'):EP X pins σ Q (.bool k') s:=by subst e;exact⟨.bl k,H,I,rfl,q⟩
theorem Hy:Gd X (compareOp .Eq) Zh:=by
 intro pins s σ H x y v u Q I rx ry h;obtain⟨hs,q⟩:=h;cases x with
 | non=>
  cases rx;cases y with
  | non=>cases ry;exact PySem.EqNone.eq_none_none (cC I q (by simp))
  | bl j=>cases ry;exact PySem.EqNone.eq_none_bool (cC I q (by simp))
  | int j=>obtain⟨t',rfl⟩:=ry;exact PySem.EqNone.eq_none_int (cC I q (by simp))
  | str j=>obtain⟨t',rfl⟩:=ry;exact PySem.EqNone.eq_none_str (cC I q (by simp))
  | _=>exact absurd (show false=true from hs) zdR
 | bl i=>
  cases rx;cases y with
  | non=>cases ry;exact PySem.EqNone.eq_bool_none (cC I q (by simp))
  | bl j=>cases ry;exact eq_bool (cC I q wY)
  | str j=>obtain⟨t',rfl⟩:=ry;exact PySem.EqMixed.eq_bool_str (cC I q (by simp))
  | _=>exact absurd (show false=true from hs) zdR
 | int i=>
  obtain⟨t,rfl⟩:=rx;cases y with
  | non=>cases ry;exact PySem.EqNone.eq_int_none (cC I q (by simp))
  | int j=>obtain⟨t',rfl⟩:=ry;exact eq_int (cC I q FX)
  | str j=>obtain⟨t',rfl⟩:=ry;exact PySem.EqMixed.eq_int_str (cC I q (by simp))
  | _=>exact absurd (show false=true from hs) zdR
 | str i=>
  obtain⟨t,rfl⟩:=rx;cases y with
  | non=>cases ry;exact PySem.EqNone.eq_str_none (cC I q (by simp))
  | bl j=>cases ry;exact PySem.EqMixed.eq_str_bool (cC I q (by simp))
  | int j=>obtain⟨t',rfl⟩:=ry;exact PySem.EqMixed.eq_str_int (cC I q (by simp))
  | str j=>obtain⟨t',rfl⟩:=ry;exact eq_str (cC I q GX)
  | _=>exact absurd (show false=true from hs) zdR
 | Um i=>
  obtain⟨t,rfl⟩:=rx;cases y with
  | Um j=>obtain⟨t',rfl⟩:=ry;exact PySem.W.eq_bytes (cC I q EX)
  | _=>exact absurd (show false=true from hs) zdR
 | _=>cases y<;>exact absurd (show false=true from hs) zdR
theorem Py:Gd X (compareOp .NotEq) jt:=by
 intro pins s σ H x y v u Q I rx ry h;obtain⟨hs,q⟩:=h;cases x with
 | non=>
  cases rx;cases y with
  | non=>cases ry;exact PySem.EqNone.ne_none_none (cC I q (by simp))
  | bl j=>cases ry;exact PySem.EqNone.ne_none_bool (cC I q (by simp))
  | int j=>obtain⟨t',rfl⟩:=ry;exact PySem.EqNone.ne_none_int (cC I q (by simp))
  | str j=>obtain⟨t',rfl⟩:=ry;exact PySem.EqNone.ne_none_str (cC I q (by simp))
  | _=>exact absurd (show false=true from hs) zdR
 | bl i=>
  cases rx;cases y with
  | non=>cases ry;exact PySem.EqNone.ne_bool_none (cC I q (by simp))
  | bl j=>cases ry;exact ne_bool (cC I q (congrArg not wY))
  | str j=>obtain⟨t',rfl⟩:=ry;exact PySem.EqMixed.ne_bool_str (cC I q (by simp))
  | _=>exact absurd (show false=true from hs) zdR
 | int i=>
  obtain⟨t,rfl⟩:=rx;cases y with
  | non=>cases ry;exact PySem.EqNone.ne_int_none (cC I q (by simp))
  | int j=>obtain⟨t',rfl⟩:=ry;exact ne_int (cC I q (congrArg not FX))
  | str j=>obtain⟨t',rfl⟩:=ry;exact PySem.EqMixed.ne_int_str (cC I q (by simp))
  | _=>exact absurd (show false=true from hs) zdR
 | str i=>
  obtain⟨t,rfl⟩:=rx;cases y with
  | non=>cases ry;exact PySem.EqNone.ne_str_none (cC I q (by simp))
  | bl j=>cases ry;exact PySem.EqMixed.ne_str_bool (cC I q (by simp))
  | int j=>obtain⟨t',rfl⟩:=ry;exact PySem.EqMixed.ne_str_int (cC I q (by simp))
  | str j=>obtain⟨t',rfl⟩:=ry;exact ne_str (cC I q (congrArg not GX))
  | _=>exact absurd (show false=true from hs) zdR
 | Um i=>
  obtain⟨t,rfl⟩:=rx;cases y with
  | Um j=>obtain⟨t',rfl⟩:=ry;exact PySem.W.ne_bytes (cC I q (congrArg not EX))
  | _=>exact absurd (show false=true from hs) zdR
 | _=>cases y<;>exact absurd (show false=true from hs) zdR
theorem Ny:Gd X (compareOp .Lt) (ZJ fun i j=>.bl (decide (i<j))):=ML fun _ _ _ _ _ _ _ q=>lt_int q
theorem Ly:Gd X (compareOp .LtE) (ZJ fun i j=>.bl (decide (i<=j))):=ML fun _ _ _ _ _ _ _ q=>le_int q
theorem Ky:Gd X (compareOp .Gt) (ZJ fun i j=>.bl (decide (j<i))):=ML fun _ _ _ _ _ _ _ q=>gt_int q
theorem Jy:Gd X (compareOp .GtE) (ZJ fun i j=>.bl (decide (j<=i))):=ML fun _ _ _ _ _ _ _ q=>ge_int q
theorem Tw:Gd X (compareOp .Is) (fun x y H Q=>y=.non/\Q (.bl (decide (x=.non))) H):=by
 intro pins s σ H x y v u Q I rx ry h;obtain⟨rfl,q⟩:=h;cases ry;refine is_none_gen (cC I q ?_);cases x<;>first
  | (cases rx;rfl)
  | (obtain⟨t,rfl⟩:=rx;rfl)
theorem DY(b:Expr){op:CmpOp}(h:op≠.In:=by decide)(h2:op≠.NotIn:=by decide):behindInMarks op b=false:=by
 have e1:(op==CmpOp.In)=false:=by cases op<;>first | rfl | exact absurd rfl h
 have e2:(op==CmpOp.NotIn)=false:=by cases op<;>first | rfl | exact absurd rfl h2
 cases b<;>simp[behindInMarks,e1,e2]
theorem Ov{op:CmpOp}{r:R2}(ho:Gd X (compareOp op) r)(ha:PE X a ta)(hb:PE X b tb)(hm:behindInMarks op b=false):PE X (.Compare a [op] [b] pos) (HU r ta tb):=by intro pins s σ H Q I h;exact wpAny_Compare1 (XO ha hb I h fun v u s2 x y H2 I2 rx ry q=>ho pins s2 σ H2 x y v u Q I2 rx ry q) hm
noncomputable def dZ(t:TE):TT:=fun σ H Q=>t σ H fun x H'=>∃k,x=.bl k/\Q k H'
theorem jw{op:CmpOp}{r:R2}(ho:Gd X (compareOp op) r)(ha:PE X a ta)(hb:PE X b tb)(hm:behindInMarks op b=false):PT X (.Compare a [op] [b] pos) (dZ (HU r ta tb)):=by
 intro pins s σ H Q I h;refine wpAny_isTrue_Compare1 (gB (ha pins s σ H _ I h) fun v s1 ⟨x,H1,I1,r1,q1⟩=>gB (hb pins s1 σ H1 _ I1 q1) fun u s2 ⟨y,H2,I2,r2,q2⟩=>
  gB (ho pins s2 σ H2 x y v u _ I2 r1 r2 q2) fun c s3 ⟨z,H3,I3,r3,k,e,q3⟩=>?_) hm
 subst e;cases r3;exact wpAny_truthy_bool ⟨H3,I3,q3⟩
noncomputable def fT(r r':R2)(ta tb tc:TE):TE:=fun σ H Q=>ta σ H fun x H1=>tb σ H1 fun y H2=>r x y H2 fun z H3=>∃k,z=.bl k/\
 (if k=true then tc σ H3 fun w' H4=>r' y w' H4 Q else Q (.bl false) H3)
theorem Hj{op op':CmpOp}{r r':R2}(ho:Gd X (compareOp op) r)(ho':Gd X (compareOp op') r')(ha:PE X a ta)(hb:PE X b tb)(hc:PE X c tc)
 (hm:lastMarks [op,op'] [b,c]=false:=by with_unfolding_all rfl):PE X (.Compare a [op,op'] [b,c] pos) (fT r r' ta tb tc):=by
 intro pins s σ H Q I h;refine Compare_chain (gB (ha pins s σ H _ I h) fun v s1 ⟨x,H1,I1,r1,q1⟩=>chain_link (gB (hb pins s1 σ H1 _ I1 q1) fun u s2 ⟨y,H2,I2,r2,q2⟩=>
  gB (ho pins s2 σ H2 x y v u _ I2 r1 r2 q2) fun d s3 ⟨z,H3,I3,r3,k,e,q3⟩=>?_)) hm
 subst e;cases r3;refine wpAny_truthy_bool ?_;cases k with
 | false=>exact ite_ff ⟨.bl false,H3,I3,rfl,q3⟩
 | true=>exact ite_tt (chain_last (gB (hc pins s3 σ H3 _ I3 q3) fun w' s4 ⟨z',H4,I4,r4,q4⟩=>ho' pins s4 σ H4 y z' u w' Q I4 r2 r4 q4))
theorem Uj{op op':CmpOp}{r r':R2}(ho:Gd X (compareOp op) r)(ho':Gd X (compareOp op') r')(ha:PE X a ta)(hb:PE X b tb)(hc:PE X c tc)
 (hm:lastMarks [op,op'] [b,c]=false:=by with_unfolding_all rfl):PT X (.Compare a [op,op'] [b,c] pos) (dZ (fT r r' ta tb tc)):=by
 intro pins s σ H Q I h;refine isTrue_chain (gB (ha pins s σ H _ I h) fun v s1 ⟨x,H1,I1,r1,q1⟩=>test_link (gB (hb pins s1 σ H1 _ I1 q1) fun u s2 ⟨y,H2,I2,r2,q2⟩=>
  gB (ho pins s2 σ H2 x y v u _ I2 r1 r2 q2) fun d s3 ⟨z,H3,I3,r3,k,e,q3⟩=>?_)) hm
 subst e;cases r3;refine wpAny_truthy_bool ?_;cases k with
 | false=>obtain⟨k',e',q'⟩:=q3;cases e';exact ite_ff ⟨H3,I3,q'⟩
 | true=>refine ite_tt (test_last (gB (hc pins s3 σ H3 _ I3 q3) fun w' s4 ⟨z',H4,I4,r4,q4⟩=>gB (ho' pins s4 σ H4 y z' u w' _ I4 r2 r4 q4) fun d' s5 zz=>?_));obtain⟨z2,H5,I5,r5,k2,e2,q5⟩:=zz;subst e2;cases r5;exact wpAny_truthy_bool ⟨H5,I5,q5⟩
theorem yJ:(sizeLine:Nat)<2^63:=by rw[sizeLine_eq];decide
theorem pG{x:V}{us:List Value}(r:Vals [x] us):∃u,us=[u]/\RelV x u:=by
 cases r with
 | cons r1 r2=>cases r2;exact⟨_,rfl,r1⟩
theorem dU{x y:V}{us:List Value}(r:Vals [x,y] us):∃u w',us=[u,w']/\RelV x u/\RelV y w':=by
 cases r with
 | cons r1 r2=>
  cases r2 with
  | cons r3 r4=>cases r4;exact⟨_,_,rfl,r1,r3⟩
theorem m7 (hc:X.calm=true):jd X (.builtin "max") (fun xs H Q=>∃i j,xs=[.int i,.int j]/\Q (.int (if j>i then j else i)) H):=by
 intro pins s σ H xs us Q I r h;obtain⟨i,j,rfl,q⟩:=h;obtain⟨u,w',rfl,⟨t,rfl⟩,⟨t',rfl⟩⟩:=dU r;refine max_two_ints (I.ok.hd hc) fun h' tk k=>⟨_,H,I.kept k,?_,q⟩
 by_cases hj:j>i
 · rw[if_pos hj,if_pos hj];exact⟨_,rfl⟩
 · rw[if_neg hj,if_neg hj];exact⟨_,rfl⟩
theorem p7 (hc:X.calm=true):jd X (.builtin "min") (fun xs H Q=>∃i j,xs=[.int i,.int j]/\Q (.int (if j<i then j else i)) H):=by
 intro pins s σ H xs us Q I r h;obtain⟨i,j,rfl,q⟩:=h;obtain⟨u,w',rfl,⟨t,rfl⟩,⟨t',rfl⟩⟩:=dU r;refine min_two_ints (I.ok.hd hc) fun h' tk k=>⟨_,H,I.kept k,?_,q⟩
 by_cases hj:j<i
 · rw[if_pos hj,if_pos hj];exact⟨_,rfl⟩
 · rw[if_neg hj,if_neg hj];exact⟨_,rfl⟩
theorem l7:jd X (.type "int") (fun xs H Q=>(∃i,xs=[.int i]/\Q (.int i) H)\/∃k,xs=[.bl k]/\Q (.int (if k then 1 else 0)) H):=by
 intro pins s σ H xs us Q I r h;rcases h with⟨i,rfl,q⟩ | ⟨k,rfl,q⟩
 · obtain⟨u,rfl,t,rfl⟩:=pG r;exact call_int_int ⟨.int i,H,I,⟨_,rfl⟩,q⟩
 · obtain⟨u,rfl,r1⟩:=pG r;cases r1;exact call_int_bool ⟨.int (if k then 1 else 0),H,I.tok _,⟨_,rfl⟩,q⟩
end
structure Am(h:Heap)(x dx C:Addr)(mA:Str->Option Value):Prop where
 obj:h.get? x=some (PySem.W.instObj C dx)
 ns:h.Ns1 dx mA
 ne:dx≠x
theorem P8{h:Heap}{dx:Addr}{mA:Str->Option Value}(n:h.Ns1 dx mA):∃od,h.get? dx=some od/\∀name,PySem.W.lookIn name od=some (mA name):=by
 obtain⟨o,es,ep,ho,hd,hk,_,hm⟩:=n;refine⟨o,ho,fun name=>?_⟩;have e:=hm name;unfold nsFind findBy at e;rw[<- Array.find?_toList]at e;unfold PySem.W.lookIn;rw[hd];dsimp only;split
 · rename_i y q;rw[q]at e;exact congrArg some e
 · rename_i q;rw[q]at e;have a:es.toList.any (·.refKey)=false:=by rw[any_eq_false];intro y hy;obtain⟨z,t,hkey⟩:=hk y (Array.mem_toList_iff.mp hy);simp[DictEntry.refKey,hkey]
   have a':¬es.toList.any (·.refKey)=true:=by rw[a];exact zdR
   rw[if_neg a'];exact congrArg some e
theorem Am.look{h:Heap}{x dx C:Addr}{mA:Str->Option Value}(I:Am h x dx C mA):∃od,PySem.W.InstAt h x (PySem.W.instObj C dx) C (some od)/\∀name,PySem.W.lookIn name od=some (mA name):=
 let ⟨od,ho,hl⟩:=P8 I.ns
 ⟨od,⟨I.obj,rfl,rfl,ho⟩,hl⟩
section
variable{prog:Program}{w:World}{A:Around}{E:Value->Shared->Prop}{s:Shared}{K:Frag}{x dx C f:Addr}{mA:Str->Option Value}{name:Str}{v:Value}
theorem Rq{expr:Bool}{Q:Value->Shared->Prop}(X:K.In s.heap)(I:Am s.heap x dx C mA)(hg:PySem.W.plainGet K C name=true)(hh:PySem.W.hasDictIn K C=true)
 (ha:findIn K (.ref C) name=some none) (hv:mA name=some v) (hv':PySem.W.handedIn v=true) (h:Q v { s with toks:=s.toks+1 }) :
 wpAny (model prog w) A (getAttr (.ref x) name expr) Q E s:=by
 obtain⟨od,J,hl⟩:=I.look;exact PySem.W.get_value X J (PySem.W.plainGet_of hg).1 (PySem.W.findObj_own hh ha rfl (by rw[hl,hv])) hv' h
theorem B9{pl:Sem Bool}{Q:Value×List Value->Shared->Prop}(X:K.In s.heap)(I:Am s.heap x dx C mA)(hg:PySem.W.plainGet K C name=true)
 (hf:findIn K (.ref C) name=some (some (.ref f))) (ht:PySem.W.isFn K (.ref f)=true) (hv:mA name=none) (h:Q (.ref f,[.ref x]) s) :
 wpAny (model prog w) A (getMethod (.ref x) name pl) Q E s:=by
 obtain⟨od,J,hl⟩:=I.look;exact PySem.W.method_fn X J (PySem.W.plainGet_of hg).1 (PySem.W.plainGet_of hg).2 hf (beq_iff_eq.mp ht) (by show(PySem.W.lookIn name od).map (·.isSome)=some false;rw[hl,hv];rfl) h
theorem Pz{ns:List Str}{Q:Unit->Shared->Prop}(X:K.In s.heap)(I:Am s.heap x dx C mA)
 (hs:findIn K (.ref C) "__setattr__" =some (some (.builtin "object.__setattr__"))) (hp:PySem.W.plainOver K C=true) (ht:PySem.W.takerIn K C name=some none) (hh:PySem.W.hasDictIn K C=true)
 (hw:PySem.Within mA ns) (hsz:ns.length<=sizeLine)
 (h:∀h',Am h' x dx C (fun y=>if y=name then some v else mA y)->Heap.SameBut dx s.heap h'->Q () { s with heap:=h',toks:=s.toks+2 }) :
 wpAny (model prog w) A (setAttr (.ref x) name v) Q E s:=by
 obtain⟨od,J,hl⟩:=I.look;refine PySem.W.set_plain X J hs (PySem.W.osa_open (s:={ s with toks:=s.toks+1 }) (r:=none) X J hp ht fun b=>?_);obtain⟨cd,hc,hd'⟩:=PySem.W.any_some hh;have hx:s.heap.get? x=some ⟨.ref C,some dx,.plain,#[]⟩:=I.obj;refine wpAny_bind (wpAny_pure (wpAny_bind (wpAny_bind (wpAny_loadPart hx (wpAny_bind (PySem.W.Looks.here (s:={ s with toks:=s.toks+1 }) (PySem.W.looks_clsIn X hc) ?_))))));rw[hd'];refine wpAny_pure (a:=some dx) (wpAny_bind (wpAny_pure (wpAny_bind ?_)));refine wpAny_nsSet1 (s:={ s with toks:=s.toks+1 }) I.ns fun h' hn2 hs2=>?_
 obtain⟨oD,esD,epD,hoD,hdD,hcD⟩:=hn2.count (PySem.Within.cons name v hw);refine wpAny_bind (wpAny_lookBehind hoD (by rw[hdD];exact pastItsLine_dict (Nat.le_trans hcD (by rw[zdF];omega))) ?_);exact wpAny_pure (h _ ⟨(hs2.2 _ (Ne.symm I.ne)).trans I.obj,hn2,I.ne⟩ hs2)
theorem b9{R:Result->Shared->Prop}{vs:List Value}{kw:List (Str×Value)}(X:K.In s.heap)(hm:PySem.W.makesIn K C=true)
 (hi:findIn K (.ref C) "__init__" =some (some (.ref f))) (hf:PySem.W.typeIn K (.ref f)=some (.type "function"))
 (h:codeAny (model prog w) (A.under (.builtin "type.__call__" ⟨.ref C::vs,kw⟩)) (.call (.ref f) ⟨.ref (s.heap.objs.size+1)::vs,kw⟩) (PySem.W.InitBack (s.heap.objs.size+1) R)
  { s with heap:=(s.heap.push PySem.W.emptyDict).push (PySem.W.instObj C s.heap.objs.size) }) :
 codeAny (model prog w) A (.call (.ref C) ⟨vs,kw⟩) R s:=by
 obtain⟨hh,g,d,t,os⟩:=s;exact PySem.W.make_core (PySem.W.makes_of X hm) (PySem.W.looks_findIn X hi) (fun self=>PySem.W.bind_fn X self hf) (.inl rfl) h
end
noncomputable def wB(f:Str)(v:V):List (Str×V)->List (Str×V)
 | []=>[(f,v)]
 | (g,x)::r=>if g=f then(g,v)::r else(g,x)::wB f v r
theorem iV(f g:Str)(v:V):∀fs:List (Str×V),(wB f v fs).lookup g=if g=f then some v else fs.lookup g
 | []=>by
  show List.lookup g [(f,v)]=_;by_cases h:g=f
  · have hb:(g==f)=true:=beq_iff_eq.mpr h;simp only[List.lookup,hb,if_pos h]
  · have hb:(g==f)=false:=beq_eq_false_iff_ne.mpr h;simp only[List.lookup,hb,if_neg h]
 | (k,x)::r=>by
  have ih:=iV f g v r;rw[show wB f v ((k,x)::r)=(if k=f then(k,v)::r else(k,x)::wB f v r)from rfl];by_cases hk:k=f
  · rw[if_pos hk];by_cases h:g=k
    · have hb:(g==k)=true:=beq_iff_eq.mpr h;simp only[List.lookup,hb,if_pos (h.trans hk)]
    · have hb:(g==k)=false:=beq_eq_false_iff_ne.mpr h;simp only[List.lookup,hb,if_neg (fun e:g=f=>h (e.trans hk.symm))]
  · rw[if_neg hk];by_cases h:g=k
    · have hb:(g==k)=true:=beq_iff_eq.mpr h;simp only[List.lookup,hb,if_neg (fun e:g=f=>hk (h.symm.trans e))]
    · have hb:(g==k)=false:=beq_eq_false_iff_ne.mpr h;simp only[List.lookup,hb];exact ih
theorem lR(f:Str)(v:V):∀fs:List (Str×V),f∈(wB f v fs).map (·.1)/\∀g,g∈fs.map (·.1)->g∈(wB f v fs).map (·.1)
 | []=>⟨by simp[wB],fun g h=>by simp at h⟩
 | (k,x)::r=>by
  obtain⟨i1,i2⟩:=lR f v r;rw[show wB f v ((k,x)::r)=(if k=f then(k,v)::r else(k,x)::wB f v r)from rfl];by_cases hk:k=f
  · rw[if_pos hk];subst hk;exact⟨by simp,fun g h=>by simpa using h⟩
  · rw[if_neg hk];refine⟨?_,fun g h=>?_⟩
    · rw[zdH];exact mem_cons_of_mem _ i1
    · rw[zdH]at h ⊢;rcases mem_cons.mp h with e | e
      · exact mem_cons.mpr (.inl e)
      · exact mem_cons_of_mem _ (i2 g e)
theorem fV(f:Str)(v:V):∀fs:List (Str×V),(wB f v fs).length<=fs.length+1
 | []=>by simp[wB]
 | (k,x)::r=>by
  have ih:=fV f v r;rw[show wB f v ((k,x)::r)=(if k=f then(k,v)::r else(k,x)::wB f v r)from rfl];by_cases hk:k=f
  · rw[if_pos hk,zdF,zdF];omega
  · rw[if_neg hk,zdF,zdF];omega
theorem Qc.some_of{v:V}{o:Option Value}(r:Qc (some v) o):∃u,o=some u/\RelV v u:=by
 cases o with
 | none=>exact(show False from r).elim
 | some u=>exact⟨u,rfl,r⟩
theorem Qc.none_of{o:Option Value}(r:Qc none o):o=none:=by
 cases o with
 | none=>rfl
 | some u=>exact(show False from r).elim
theorem A8{v:V}{u:Value}(r:RelV v u):PySem.W.handedIn u=true:=by
 cases v with
 | non=>cases (show u=Value.none from r);rfl
 | bl b=>cases (show u=Value.bool b from r);rfl
 | int i=>obtain⟨t,e⟩:=(show ∃t,u=Value.int i t from r);cases e;rfl
 | str x=>obtain⟨t,e⟩:=(show ∃t,u=Value.str x t from r);cases e;rfl
 | Um b=>obtain⟨t,e⟩:=(show ∃t,u=Value.bytes b t from r);cases e;rfl
 | flt b=>obtain⟨t,e⟩:=(show ∃t,u=Value.float b t from r);cases e;rfl
 | ref a=>cases (show u=Value.ref a from r);rfl
 | ty n=>cases (show u=Value.type n from r);rfl
section
variable{P:Program}{w:World}{H H':Hp}{h h':Heap}{a C dx:Addr}{fs fs':List (Str×V)}
theorem xS(hok:Zc P w H h)(e:H a=some (.ins C dx fs)):∃mA,Am h a dx C mA/\(∀f,Qc (fs.lookup f) (mA f))/\PySem.Within mA (fs.map (·.1))/\fs.length<=1000/\H dx=some (.own a):=by obtain⟨d,z,ne,ob,mA,n,r,q⟩:=(show Nf P w H h a (.ins C dx fs)from hok a _ e);exact⟨mA,⟨ob,n,ne⟩,r,q,z,d⟩
end
structure Cls(K:Frag)(C:Addr):Prop where
 pg:PySem.W.plainGet K C Str.empty=true
 hd:PySem.W.hasDictIn K C=true
 po:PySem.W.plainOver K C=true
 sa:findIn K (.ref C) "__setattr__" =some (some (.builtin "object.__setattr__"))
theorem Cls.get{K:Frag}{C:Addr}(c:Cls K C)(f:Str):PySem.W.plainGet K C f=true:=c.pg
noncomputable def Wc(K:Frag)(C:Addr)(f:Str):Prop:=findIn K (.ref C) f=some none
theorem Wc.taker{K:Frag}{C:Addr}{f:Str}(n:Wc K C f):PySem.W.takerIn K C f=some none:=by unfold PySem.W.takerIn;rw[show findIn K (.ref C) f=some none from n];rfl
structure MJ(K:Frag)(C:Addr)(m:Str)(f:Addr):Prop where
 at_:findIn K (.ref C) m=some (some (.ref f))
 fn:PySem.W.isFn K (.ref f)=true
 kp:keepIn K (.ref f)=true
section
variable{X:Cx}{pins:List (Addr×Obj)}{σ:St}{H:Hp}{s:Shared}{a C dx:Addr}{fs:List (Str×V)}{f:Str}{v:V}{A:Around}{E:Value->Shared->Prop}
theorem A6{b:Bool}{Q:Value->Shared->Prop}(I:Inv X pins σ H s)(e:H a=some (.ins C dx fs))(c:Cls X.K C)(n:Wc X.K C f)(l:fs.lookup f=some v)
 (h:∀u s',Inv X pins σ H s'->RelV v u->Q u s'):wpAny (model X.prog X.w) A (getAttr (.ref a) f b) Q E s:=by
 obtain⟨mA,O,r,_,_,_⟩:=xS I.hok e;obtain⟨u,hu,ru⟩:=Qc.some_of (v:=v) (o:=mA f) (by rw[<- l];exact r f);exact Rq I.Tn O (c.get f) c.hd n hu (A8 ru) (h u _ (I.tok _) ru)
theorem lV{m:Str}{g:Addr}{pl:Sem Bool}{Q:Value×List Value->Shared->Prop}(I:Inv X pins σ H s)(e:H a=some (.ins C dx fs))(c:Cls X.K C)(k:MJ X.K C m g)(l:fs.lookup m=none)
 (h:Q (.ref g,[.ref a]) s):wpAny (model X.prog X.w) A (getMethod (.ref a) m pl) Q E s:=by
 obtain⟨mA,O,r,_,_,_⟩:=xS I.hok e;have hn:mA m=none:=Qc.none_of (by rw[<- l];exact r m);exact B9 I.Tn O (c.get m) k.at_ k.fn hn h
theorem L7{y:V}{u:Value}{Q:Unit->Shared->Prop}(I:Inv X pins σ H s)(e:H a=some (.ins C dx fs))(c:Cls X.K C)(n:Wc X.K C f)(hl:fs.length<1000)(ry:RelV y u)
 (h:∀s',Inv X pins σ (yB H a (.ins C dx (wB f y fs))) s'->Q () s'):wpAny (model X.prog X.w) A (setAttr (.ref a) f u) Q E s:=by
 obtain⟨mA,O,r,wi,_,ho⟩:=xS I.hok e;have hz:(fs.map (·.1)).length<=sizeLine:=by rw[length_map,sizeLine_eq];omega
 refine Pz I.Tn O c.sa c.po n.taker c.hd wi hz fun h' O' sb=>h _ ?_
 have hd:∃o,h'.get? dx=some o:=let ⟨o,_,_,e',_⟩:=O'.ns;⟨o,e'⟩
 refine I.write (x:=a) (e:=dx) (by rw[e];exact True.intro) (.inr ho) (fun b q hb z=>(sb.2 b hb).trans z) hd ?_;refine⟨by rw[NA O.ne];exact ho,?_,O.ne,O'.obj,_,O'.ns,fun g=>?_,fun g hg=>?_⟩
 · have:=fV f y fs;omega
 · show Qc ((wB f y fs).lookup g) (if g=f then some u else mA g);rw[iV];by_cases q:g=f
   · rw[if_pos q,if_pos q];exact ry
   · rw[if_neg q,if_neg q];exact r g
 · by_cases q:g=f
   · rw[q];exact(lR f y fs).1
   · refine(lR f y fs).2 g (wi g fun z=>hg ?_);show(if g=f then some u else mA g)=none;rw[if_neg q];exact z
theorem Inv.made(I:Inv X pins σ H s):Inv X pins σ (yB (yB H s.heap.objs.size (.own (s.heap.objs.size+1))) (s.heap.objs.size+1) (.ins C s.heap.objs.size []))
 { s with heap:=(s.heap.push PySem.W.emptyDict).push (PySem.W.instObj C s.heap.objs.size) }:=by
 have e1:(s.heap.push PySem.W.emptyDict).get? s.heap.objs.size=some PySem.W.emptyDict:=Heap.get?_push_size s.heap rfl;have e2:((s.heap.push PySem.W.emptyDict).push (PySem.W.instObj C s.heap.objs.size)).get? (s.heap.objs.size+1)=some (PySem.W.instObj C s.heap.objs.size):=by have:=Heap.get?_push_size (s.heap.push PySem.W.emptyDict) (o:=PySem.W.instObj C s.heap.objs.size) rfl;rwa[Heap.size_push]at this
 have e3:(s.heap.push PySem.W.emptyDict).Ns s.heap.objs.size (fun _=>none):=⟨PySem.W.emptyDict,#[],_,e1,rfl,(fun e he=>absurd he (by simp)),fun _=>rfl⟩;have I1:=I.laid (a:=s.heap.objs.size) (o:=.own (s.heap.objs.size+1)) (h':=s.heap.push PySem.W.emptyDict) (t':=s.toks) (fun b u q=>Heap.get?_push_of_some _ q) (zdS _) ⟨_,e1⟩;refine I1.laid (a:=s.heap.objs.size+1) (o:=.ins C s.heap.objs.size []) (t':=s.toks) (fun b u q=>Heap.get?_push_of_some _ q) (Nat.le_of_eq (Heap.size_push _ _)) ?_;have ne:s.heap.objs.size≠s.heap.objs.size+1:=Nat.ne_of_lt (Nat.lt_succ_self _);refine⟨by rw[NA ne,LC],Nat.zero_le _,ne,e2,fun _=>none,(Heap.Ns1.of_empty e3).at fun o q=>Heap.get?_push_of_some _ q,fun _=>True.intro,fun y hy=>absurd rfl hy⟩
theorem Px{prog:Program}{w:World}{env:Env}{e:Expr}{f:Str}{pos:Pos}{s:Shared}{Q:Value->Shared->Prop}(hb:attributeBase e f env (eval e env)=eval e env)
 (h:wpAny (model prog w) A (eval e env) (fun o s₁=>wpAny (model prog w) A (getAttr o f true) Q E s₁) E s):wpAny (model prog w) A (eval (.Attribute e f pos) env) Q E s:=
 Attribute_any_ h (by rw[arm_eval_Attribute,hb])
end
def K0(K:Frag)(ta:TE)(f:Str):TE:=fun σ H Q=>ta σ H fun x H1=>∃a C dx fs v,x=.ref a/\H1 a=some (.ins C dx fs)/\Cls K C/\Wc K C f/\fs.lookup f=some v/\Q v H1
def I0(K:Frag)(ta tv:TE)(f:Str):TS:=fun D σ H=>tv σ H fun y H1=>ta σ H1 fun x H2=>∃a C dx fs,x=.ref a/\H2 a=some (.ins C dx fs)/\Cls K C/\Wc K C f/\fs.length<1000/\
 D.nx σ (yB H2 a (.ins C dx (wB f y fs)))
section
variable{X:Cx}{o e value:Expr}{f:Str}{pos pos' tpos:Pos}{ta tv:TE}
theorem Ak(he:PE X e ta)(hb:attributeBase e f X.env (eval e X.env)=eval e X.env):PE X (.Attribute e f pos) (K0 X.K ta f):=by intro pins s σ H Q I h;refine Px hb (gB (he pins s σ H _ I h) fun u s1 zz=>?_);obtain⟨x,H1,I1,rx,a,C,dx,fs,v,ex,ea,c,n,l,q⟩:=zz;subst ex;obtain rfl:u=Value.ref a:=rx;exact A6 I1 ea c n l fun u' s2 I2 ru=>⟨v,H1,I2,ru,q⟩
theorem Dw(ha:PE X o ta)(hv:PE X value tv)(hs:swapsWith value (some (.Attribute o f pos')) pos.line X.env=pure false):PS X (.Assign [.Attribute o f pos'] value pos) (I0 X.K ta tv f):=by intro pins s σ H D I h;refine plainObj_wpAny_Assign_Attribute (gB (hv pins s σ H _ I h) fun u s1 ⟨y,H1,I1,ry,q⟩=>gB (ha pins s1 σ H1 _ I1 q) fun ov s2 zz=>?_) hs;obtain⟨x,H2,I2,rx,a,C,dx,fs,ex,ea,c,n,l,q2⟩:=zz;subst ex;obtain rfl:ov=Value.ref a:=rx;exact L7 I2 ea c n l ry fun s3 I3=>⟨σ,_,I3,q2⟩
theorem Ur{pl:Sem Bool}{m:Str}{apos:Pos}{args:List Expr}{pins:List (Addr×Obj)}{s:Shared}{σ:St}{H:Hp}{Q:Value->Shared->Prop}{te:TE}(he:PE X e te)(I:Inv X pins σ H s)
 (h:te σ H fun x H1=>∃a C dx fs g,x=.ref a/\H1 a=some (.ins C dx fs)/\Cls X.K C/\MJ X.K C m g/\fs.lookup m=none/\
  ∀s1,Inv X pins σ H1 s1->wpAny (model X.prog X.w) X.A (callWith pos (.ref g) [.ref a] (backTo pos (starEach args X.env)) (backToKw pos (keywordEach [] X.env))) Q X.xe s1)
 (ht:eval (.Call (.Attribute e m apos) args [] pos) X.env=(do
  let ov <- eval e X.env
  standAt apos.atName
  let (f,first) <- holding [ov] (getMethod ov m pl)
  callWith pos f first (backTo pos (starEach args X.env)) (backToKw pos (keywordEach [] X.env)))) :
 wpAny (model X.prog X.w) X.A (eval (.Call (.Attribute e m apos) args [] pos) X.env) Q X.xe s:=by
 refine PySem.W.methodCall_KW (pl:=pl) (gB (he pins s σ H _ I h) fun u s1 zz=>?_) ht;obtain⟨x,H1,I1,rx,a,C,dx,fs,g,ex,ea,c,k,l,q⟩:=zz;subst ex;obtain rfl:u=Value.ref a:=rx;exact lV I1 ea c k l (q s1 I1)
end
section
variable{X:Cx}{pins:List (Addr×Obj)}{σ:St}{H:Hp}{s:Shared}{A:Around}{E:Value->Shared->Prop}{Q:Value->Shared->Prop}{c:Value}{b:Bool}
end
structure Tf(k:Nat)(A:Around):Prop where
 hd:A.handled=none
 dp:A.depth+3*k+5<recursionLimit
 un:A.units+16*k+200<cLine
theorem Tf.mono{j k:Nat}{A:Around}(r:Tf k A)(h:j<=k):Tf j A:=⟨r.hd,by have:=r.dp;omega,by have:=r.un;omega⟩
theorem Tf.deeper{k:Nat}{A:Around}(r:Tf (k+1) A)(env:Env):Tf k (A.deeper env):=
 ⟨r.hd,by have:=r.dp;show A.depth+1+3*k+5<_;omega,by have:=r.un;show A.units+3+16*k+200<_;omega⟩
theorem F6 {A:Around} {C:Addr} {us:List Value} {kw:List (Str×Value)}:(A.under (.builtin "type.__call__" ⟨.ref C::us,kw⟩)).depth=A.depth+1:=by first | rfl | simp[Around.under,Code.weight,Code.isCreation,Code.isGuard,Code.isCaller,Code.frames,Code.isFrame,guardIds]
theorem J6 {A:Around} {C:Addr} {us:List Value} {kw:List (Str×Value)}:(A.under (.builtin "type.__call__" ⟨.ref C::us,kw⟩)).units=A.units+1:=by first | rfl | simp[Around.under,Code.cUnits,Code.frames,Code.isFrame]
theorem Tf.make {k:Nat} {A:Around} (r:Tf (k+1) A) (C:Addr) (us:List Value) (kw:List (Str×Value)):Tf k (A.under (.builtin "type.__call__" ⟨.ref C::us,kw⟩)):=
 ⟨r.hd,by have:=r.dp;rw[F6];omega,by have:=r.un;rw[J6];omega⟩
theorem Tf.depth{k:Nat}{A:Around}(r:Tf k A):A.depth<recursionLimit:=by have:=r.dp;omega
theorem Tf.units{k:Nat}{A:Around}(r:Tf k A):A.units+64<cLine:=by have:=r.un;omega
noncomputable def GU:TA:=fun _ H Q=>Q [] H
noncomputable def cZ(ta:TE)(tr:TA):TA:=fun σ H Q=>ta σ H fun x H1=>tr σ H1 fun xs H2=>Q (x::xs) H2
section
variable{X:Cx}{e:Expr}{es:List Expr}{te:TE}{t:TA}{pos:Pos}
theorem oE:PA X [] GU:=fun _ _ _ _ H Q I h=>Calls.spliced_nil ⟨[],H,I,.nil,h⟩
theorem kD(ha:PE X e te)(hr:PA X es t)(hs:starEach (e::es) X.env=(false,eval e X.env)::starEach es X.env:=by rfl):PA X (e::es) (cZ te t):=by intro pos pins s σ H Q I h;rw[hs];show wpAny _ _ (spliced ((false,eval e X.env)::backTo pos (starEach es X.env))) _ _ s;refine Calls.spliced_cons (gB (ha pins s σ H _ I h) fun u s1 zz=>?_);obtain⟨x,H1,I1,r1,q1⟩:=zz;exact gB (hr pos pins s1 σ H1 _ I1 q1) fun us s2 ⟨xs,H2,I2,r2,q2⟩=>⟨x::xs,H2,I2,.cons r1 r2,q2⟩
def S0(t:TA):TE:=fun σ H Q=>t σ H fun xs H1=>xs.length<=sizeLine/\∀p,H1 p=none->Q (.ref p) (yB H1 p (.tup xs))
def FU(t:TA):TE:=fun σ H Q=>t σ H fun xs H1=>xs.length<=sizeLine/\∀p,H1 p=none->Q (.ref p) (yB H1 p (.lst xs))
theorem MY{x1}(h:PA X es t):PE X (.Tuple es x1 pos) (S0 t):=by intro pins s σ H Q I hq;refine wpAny_Tuple_spliced (gB (h pos pins s σ H _ I hq) fun us s1 ⟨xs,H1,I1,r,z,q⟩=>⟨by rw[<- r.length];exact z,?_⟩);have hf:H1 s1.heap.objs.size=none:=I1.hok.fresh (zdS _);refine⟨.ref s1.heap.objs.size,yB H1 s1.heap.objs.size (.tup xs),I1.laid (t':=s1.toks) (fun b u e=>Heap.get?_push_of_some _ e) (zdS _) ?_,rfl,q _ hf⟩;exact⟨z,us,r,⟨_,Heap.get?_push_size _ rfl,rfl,_,rfl⟩⟩
theorem jO(h:PA X es t):PE X (.List es pos) (FU t):=by intro pins s σ H Q I hq;refine wpAny_List_spliced (gB (h pos pins s σ H _ I hq) fun us s1 ⟨xs,H1,I1,r,z,q⟩=>⟨by rw[<- r.length];exact z,?_⟩);have hf:H1 s1.heap.objs.size=none:=I1.hok.fresh (zdS _);refine⟨.ref s1.heap.objs.size,yB H1 s1.heap.objs.size (.lst xs),I1.laid (t':=s1.toks) (fun b u e=>Heap.get?_push_of_some _ e) (zdS _) ?_,rfl,q _ hf⟩;exact⟨z,us,0,r,Heap.get?_push_size _ rfl⟩
end
abbrev Sp:=List V->Hp->VK->XK->Prop
abbrev IJ:=List Env->Hp->Shared->XK->Value->Shared->Prop
structure rm(P:Program)(w:World)(K:Frag)(mg:Str->Option Value)(base:Heap)(A:Around)(outer:List Env)(s:Shared)(H:Hp):Prop where
 frames:A.frames=some outer
 mod:Mod K mg base
 bs:∀b o,base.get? b=some o->s.heap.get? b=some o/\H b=none
 Vp:base.objs.size<=s.heap.objs.size
 Nb:s.heap.FunFrames base outer
 frf:∀b∈QJ outer,H b=none
 hok:Zc P w H s.heap
 bare:AllBare s.gens
def CE(outer:List Env)(P:Program)(w:World)(H:Hp)(s:Shared)(Q:VK)(u:Value)(s':Shared):Prop:=
 ∃v H',s'.os=s.os/\AllBare s'.gens/\Un (QJ outer) [] H H' s.heap s'.heap/\Zc P w H' s'.heap/\RelV v u/\Q v H'
def CR(CX:IJ)(outer:List Env)(P:Program)(w:World)(H:Hp)(s:Shared)(Q:VK)(E:XK)(r:Result)(s':Shared):Prop:=
 match r with
 | .ok (.ret u)=>CE outer P w H s Q u s'
 | .ok _=>False
 | .error e=>CX outer H s E e s'
structure Od(P:Program)(w:World)(K:Frag)(mg:Str->Option Value)(base:Heap)(CX:IJ)(k:Nat)(f:Addr)(fd:FuncData)(ps:List Str)(sp:Sp):Prop where
 len:∀vs H Q E,sp vs H Q E->vs.length=ps.length
 run:∀(A:Around)(outer:List Env)(s:Shared)(H:Hp)(args:Args)(us:List Value)(vs:List V)(Q:VK)(E:XK),Tf k A->rm P w K mg base A outer s H->BindsTo s fd args (ps.zip us)->Vals vs us->sp vs H Q E->
  codeAny (model P w) A (.call (.ref f) args) (CR CX outer P w H s Q E) s
theorem Od.mono{P:Program}{w:World}{K:Frag}{mg:Str->Option Value}{base:Heap}{CX:IJ}{j k:Nat}{f:Addr}{fd:FuncData}{ps:List Str}{sp:Sp}(F:Od P w K mg base CX j f fd ps sp)(h:j<=k) :
 Od P w K mg base CX k f fd ps sp:=⟨F.len,fun A outer s H args us vs Q E hr=>F.run A outer s H args us vs Q E (hr.mono h)⟩
theorem rm.make{P:Program}{w:World}{K:Frag}{mg:Str->Option Value}{base:Heap}{A:Around}{outer:List Env}{s:Shared}{H:Hp}(e:rm P w K mg base A outer s H)(C:Addr)(us:List Value)(kw:List (Str×Value)) :
 rm P w K mg base (A.under (.builtin "type.__call__" ⟨.ref C::us,kw⟩)) outer s H:=⟨by first | exact e.frames | (simpa[Around.under,Code.envs,Code.isFrame,pushEnvs]using e.frames),e.mod,e.bs,e.Vp,e.Nb,e.frf,e.hok,e.bare⟩
section
variable{X:Cx}{pins:List (Addr×Obj)}{σ:St}{H:Hp}{s s':Shared}
theorem Inv.env0(I:Inv X pins σ H s):rm X.prog X.w X.K X.mg X.base X.A X.stack s H:=
 ⟨I.ok.frames,I.ok.mod,I.bs,Nat.le_trans I.ok.Vp I.sz,I.stack,I.Qm,I.hok,I.bare⟩
theorem Inv.after{Q:VK}{u:Value}(I:Inv X pins σ H s)(h:CE X.stack X.prog X.w H s Q u s'):EP X pins σ Q u s':=by obtain⟨v,H',os,bare,un,hok,r,q⟩:=h;obtain⟨hh,g,d,t,os'⟩:=s';obtain rfl:os'=s.os:=os;exact⟨v,H',I.call (h':=hh) (g':=g) (d':=d) (t':=t) (ch:=[]) un hok bare (fun b z=>absurd z (by simp)),r,q⟩
end
noncomputable def Y1(sp:Sp)(Xc:List V)(E:XK)(t:TA):TE:=fun σ H Q=>t σ H fun vs H1=>sp (vs++Xc) H1 Q E
def A2(C:Addr)(m:Str)(sp:Sp)(Xc:List V)(E:XK)(ta:TE)(t:TA):TE:=fun σ H Q=>ta σ H fun x H1=>∃a dx fs,x=.ref a/\H1 a=some (.ins C dx fs)/\fs.lookup m=none/\
 t σ H1 fun vs H2=>sp (x::(vs++Xc)) H2 Q E
def o2(C:Addr)(sp:Sp)(Xc:List V)(E:XK)(t:TA):TE:=fun σ H Q=>t σ H fun vs H1=>∀x dx,H1 x=none->H1 dx=none->dx≠x->
 sp (.ref x::(vs++Xc)) (yB (yB H1 dx (.own x)) x (.ins C dx [])) (fun v H2=>v=.non/\Q (.ref x) H2) E
noncomputable def Binds(K:Frag)(fd:FuncData)(ps:List Str)(ds:List Value):Prop:=
 ∀(s:Shared)(us:List Value),K.In s.heap->(us++ds).length=ps.length->BindsTo s fd ⟨us,[]⟩ (ps.zip (us++ds))
theorem Binds.all{K:Frag}{fd:FuncData}{ps:List Str}(h:∀us:List Value,us.length=ps.length->bindArgs fd ⟨us,[]⟩=pure (ps.zip us)):Binds K fd ps []:=fun s us _ hl=>by rw[zdU]at hl ⊢;exact .of_eq (h us hl)
def tJ(CX:IJ)(X:Cx)(E:XK):Prop:=∀(pins:List (Addr×Obj))(σ:St)(H:Hp)(s:Shared)(e:Value)(s':Shared),Inv X pins σ H s->CX X.stack H s E e s'->X.xe e s'
section
variable{X:Cx}{CX:IJ}{k:Nat}{f C:Addr}{fd:FuncData}{ps:List Str}{sp:Sp}{Xc:List V}{ds:List Value}{E:XK}{x m:Str}{p pos apos:Pos}{e o:Expr}{es:List Expr}{ta:TE}{t:TA}
theorem AY{pins:List (Addr×Obj)}{σ:St}{H:Hp}{s:Shared}{Q:VK}{us:List Value}{vs:List V}(F:Od X.prog X.w X.K X.mg X.base CX k f fd ps sp)(hr:Tf k X.A)(hb:Binds X.K fd ps ds)(hd:Vals Xc ds)(hx:tJ CX X E)
 (I:Inv X pins σ H s) (r:Vals vs us) (h:sp (vs++Xc) H Q E):wpAny (model X.prog X.w) X.A (call (.ref f) us) (EP X pins σ Q) X.xe s:=by
 have r2:Vals (vs++Xc) (us++ds):=r.append hd;have hl:(us++ds).length=ps.length:=by rw[<- r2.length];exact F.len _ _ _ _ h
 refine wpAny_call (codeAny_mono (F.run X.A X.stack s H ⟨us,[]⟩ (us++ds) (vs++Xc) Q E hr I.env0 (hb s us I.Tn hl) r2 h) fun r s' hq=>?_);cases r with
 | error e=>exact hx pins σ H s e s' I hq
 | ok fl=>
  cases fl with
  | ret u=>exact I.after hq
  | next=>exact False.elim hq
  | brk=>exact False.elim hq
  | cont=>exact False.elim hq
theorem Nv(F:Od X.prog X.w X.K X.mg X.base CX k f fd ps sp)(hr:Tf k X.A)(hg:Gl X x)(hm:X.mg x=some (.ref f))(hk:keepIn X.K (.ref f)=true)(hb:Binds X.K fd ps ds)(hd:Vals Xc ds)(hx:tJ CX X E)
 (ha:PA X (e::es) t) (hdb:(x==("__debug__" :Str))=false:=by decide) (he:starEach (e::es) X.env=(false,eval e X.env)::starEach es X.env:=by rfl) (hpl:(backTo pos (starEach es X.env)).any (·.1)=false:=by rfl) :
 PE X (.Call (.Name x p) (e::es) [] pos) (Y1 sp Xc E t):=by
 intro pins s σ H Q I h;refine wpAny_Call_Name_kw (yS I hg hm ?_ hdb);refine PySem.W.callWith_K (h₀:=X.base) I.ok.mod.kin hk (gB (ha pos pins s σ H _ I h) fun us s1 ⟨vs,H1,I1,r,q⟩=>⟨I1.Tn,?_⟩) he hpl;exact AY F hr hb hd hx I1 r q
theorem Sv{pl:Sem Bool}(he:PE X o ta)(c:Cls X.K C)(hm:MJ X.K C m f)(F:Od X.prog X.w X.K X.mg X.base CX k f fd ps sp)(hr:Tf k X.A)(hb:Binds X.K fd ps ds)(hd:Vals Xc ds)(hx:tJ CX X E)(ha:PA X (e::es) t)
 (hst:starEach (e::es) X.env=(false,eval e X.env)::starEach es X.env:=by rfl) (hpl:(backTo pos (starEach es X.env)).any (·.1)=false:=by rfl)
 (ht:eval (.Call (.Attribute o m apos) (e::es) [] pos) X.env=(do
  let ov <- eval o X.env
  standAt apos.atName
  let (f,first) <- holding [ov] (getMethod ov m pl)
  callWith pos f first (backTo pos (starEach (e::es) X.env)) (backToKw pos (keywordEach [] X.env))):=by rfl) :
 PE X (.Call (.Attribute o m apos) (e::es) [] pos) (A2 C m sp Xc E ta t):=by
 intro pins s σ H Q I h;refine PySem.W.methodCall_KW (pl:=pl) (gB (he pins s σ H _ I h) fun u s1 zz=>?_) ht;obtain⟨x,H1,I1,rx,a,dx,fs,ex,ea,l,q⟩:=zz;subst ex;obtain rfl:u=Value.ref a:=rx;refine lV I1 ea c hm l ?_;refine PySem.W.callWith_K (first:=[.ref a]) (h₀:=X.base) I.ok.mod.kin hm.kp (gB (ha pos pins s1 σ H1 _ I1 q) fun us s2 ⟨vs,H2,I2,r,q2⟩=>⟨I2.Tn,?_⟩) hst hpl;exact AY (us:=.ref a::us) (vs:=.ref a::vs) F hr hb hd hx I2 (.cons rfl r) q2
structure Mk(K:Frag)(C f:Addr):Prop where
 makes:PySem.W.makesIn K C=true
 init:findIn K (.ref C) "__init__" =some (some (.ref f))
 fn:PySem.W.isFn K (.ref f)=true
 kp:keepIn K (.ref C)=true
theorem Wj{pins:List (Addr×Obj)}{σ:St}{H:Hp}{s:Shared}{Q:VK}{us:List Value}{vs:List V}(M:Mk X.K C f)(F:Od X.prog X.w X.K X.mg X.base CX k f fd ps sp)(hr:Tf (k+1) X.A)(hb:Binds X.K fd ps ds)(hd:Vals Xc ds)
 (hx:tJ CX X E) (I:Inv X pins σ H s) (r:Vals vs us)
 (h:∀x dx,H x=none->H dx=none->dx≠x->sp (.ref x::(vs++Xc)) (yB (yB H dx (.own x)) x (.ins C dx [])) (fun v H2=>v=.non/\Q (.ref x) H2) E) :
 wpAny (model X.prog X.w) X.A (call (.ref C) us) (EP X pins σ Q) X.xe s:=by
 have hq:=h (s.heap.objs.size+1) s.heap.objs.size (I.hok.fresh (Nat.le_succ _)) (I.hok.fresh (zdS _)) (Nat.ne_of_lt (Nat.lt_succ_self _));have I2:=Inv.made (C:=C) I;have r2:Vals (V.ref (s.heap.objs.size+1)::(vs++Xc)) (Value.ref (s.heap.objs.size+1)::(us++ds)):=.cons rfl (r.append hd);have hl:(Value.ref (s.heap.objs.size+1)::us++ds).length=ps.length:=by have e:=r2.length;rw[F.len _ _ _ _ hq]at e;exact e.symm
 refine wpAny_call (b9 (f:=f) I.Tn M.makes M.init (beq_iff_eq.mp M.fn) (codeAny_mono (F.run _ X.stack _ _ ⟨Value.ref (s.heap.objs.size+1)::us,[]⟩ (Value.ref (s.heap.objs.size+1)::(us++ds)) _ _ E (hr.make C us [])
  (I2.env0.make C us []) (hb _ (Value.ref (s.heap.objs.size+1)::us) I2.Tn hl) r2 hq) fun r s' hq'=>?_))
 cases r with
 | error e=>exact hx pins σ _ _ e s' I2 hq'
 | ok fl=>
  cases fl with
  | ret u=>obtain⟨v,H',I3,rv,ev,q3⟩:=I2.after hq';subst ev;exact⟨rv,⟨V.ref (s.heap.objs.size+1),H',I3,rfl,q3⟩⟩
  | next=>exact False.elim hq'
  | brk=>exact False.elim hq'
  | cont=>exact False.elim hq'
theorem Rv(M:Mk X.K C f)(F:Od X.prog X.w X.K X.mg X.base CX k f fd ps sp)(hr:Tf (k+1) X.A)(hg:Gl X x)(hm:X.mg x=some (.ref C))(hb:Binds X.K fd ps ds)(hd:Vals Xc ds)(hx:tJ CX X E)
 (ha:PA X (e::es) t) (hdb:(x==("__debug__" :Str))=false:=by decide) (he:starEach (e::es) X.env=(false,eval e X.env)::starEach es X.env:=by rfl) (hpl:(backTo pos (starEach es X.env)).any (·.1)=false:=by rfl) :
 PE X (.Call (.Name x p) (e::es) [] pos) (o2 C sp Xc E t):=by
 intro pins s σ H Q I h;refine wpAny_Call_Name_kw (yS I hg hm ?_ hdb);refine PySem.W.callWith_K (h₀:=X.base) I.ok.mod.kin M.kp (gB (ha pos pins s σ H _ I h) fun us s1 ⟨vs,H1,I1,r,q⟩=>⟨I1.Tn,?_⟩) he hpl;exact Wj M F hr hb hd hx I1 r q
end
section
variable{X:Cx}{CX:IJ}{k:Nat}{f C:Addr}{fd:FuncData}{ps ks:List Str}{sp:Sp}{E:XK}{x m:Str}{p pos apos kpos:Pos}{e o:Expr}{es:List Expr}{kws:List Keyword}{te ta:TE}{t tk:TA}{nm:Option Str}
variable{g:List Value->List Value->List Value}{gV:List V->List V->List V}
end
structure SA(N P:List Str)(sc:Scope):Prop where
 kind:sc.kind=.function
 co:sc.isCoroutine=false
 gen:sc.isGenerator=false
 nd:N.Nodup
 pre:N.take P.length=P
 par:∀x∈P,sc.names.lookup x=some .local\/sc.names.lookup x=some .cell
 zau:∀y∈sc.names,y.2≠.free
theorem dW{kindOf:Str->Option NameKind}{x:Str}:∀{binds:List (Str×Value)}{m:Str->Option Value},(∀v,(x,v)∉binds)->bindL kindOf binds m x=m x
 | [],_,_=>rfl
 | (n,v)::r,m,h=>by
  unfold bindL;rw[dW fun w hw=>h w (mem_cons_of_mem _ hw)];split
  · have:x≠n:=by rintro rfl;exact h v mem_cons_self
    simp[this]
  · rfl
theorem bW{kindOf:Str->Option NameKind}{x:Str}:∀{binds:List (Str×Value)}{m:Str->Option Value},(∀v,(x,v)∉binds)->bindC kindOf binds m x=m x
 | [],_,_=>rfl
 | (n,v)::r,m,h=>by
  unfold bindC;rw[bW fun w hw=>h w (mem_cons_of_mem _ hw)];split
  · rfl
  · have:x≠n:=by rintro rfl;exact h v mem_cons_self
    simp[this]
theorem cW{kindOf:Str->Option NameKind}{x:Str}{v:Value}:∀{P:List Str}{vs:List Value}{i:Nat}{m:Str->Option Value},P.Nodup->P[i]?=some x->vs[i]?=some v->kindOf x=some .local->
 bindL kindOf (P.zip vs) m x=some v
 | [],_,_,_,_,h,_,_=>by simp at h
 | _::_,[],_,_,_,_,h,_=>by simp at h
 | p::P,w::vs,0,m,nd,h1,h2,hk=>by simp at h1 h2;subst h1;subst h2;show bindL kindOf ((p,w)::P.zip vs) m p=_;unfold bindL;rw[dW fun v hv=>(nodup_cons.mp nd).1 (of_mem_zip hv).1,if_pos hk];simp
 | p::P,w::vs,i+1,m,nd,h1,h2,hk=>by show bindL kindOf ((p,w)::P.zip vs) m x=_;unfold bindL;exact cW (i:=i) (nodup_cons.mp nd).2 (by simpa using h1) (by simpa using h2) hk
theorem aW{kindOf:Str->Option NameKind}{x:Str}{v:Value}:∀{P:List Str}{vs:List Value}{i:Nat}{m:Str->Option Value},P.Nodup->P[i]?=some x->vs[i]?=some v->kindOf x≠some .local->
 bindC kindOf (P.zip vs) m x=some v
 | [],_,_,_,_,h,_,_=>by simp at h
 | _::_,[],_,_,_,_,h,_=>by simp at h
 | p::P,w::vs,0,m,nd,h1,h2,hk=>by simp at h1 h2;subst h1;subst h2;show bindC kindOf ((p,w)::P.zip vs) m p=_;unfold bindC;rw[bW fun v hv=>(nodup_cons.mp nd).1 (of_mem_zip hv).1,if_neg hk];simp
 | p::P,w::vs,i+1,m,nd,h1,h2,hk=>by show bindC kindOf ((p,w)::P.zip vs) m x=_;unfold bindC;exact aW (i:=i) (nodup_cons.mp nd).2 (by simpa using h1) (by simpa using h2) hk
noncomputable def QF(N:List Str)(vs:List V):St:=vs.map some++List.replicate (N.length-vs.length) none
noncomputable def dF(CX:IJ)(P:Program)(w:World)(K:Frag)(mg:Str->Option Value)(base:Heap)(N:List Str)(qual:Str)(scope:Scope)(f:Addr)(cd:Value)(A:Around)(outer:List Env)(s:Shared)(H:Hp)(E:XK):Cx where
 prog:=P
 w:=w
 K:=K
 mg:=mg
 base:=base
 A:=A.deeper (envOfC qual scope s.heap.objs.size f cd)
 N:=N
 s₀:=s
 H₀:=H
 env:=envOfC qual scope s.heap.objs.size f cd
 outer:=outer
 stack:=envOfC qual scope s.heap.objs.size f cd::outer
 ex:=[]
 calm:=true
 fn:=fun _=>true
 pn:=[]
 xe:=fun e s'=>wpAny (model P w) (A.deeper (envOfC qual scope s.heap.objs.size f cd)) (leaving (envOfC qual scope s.heap.objs.size f cd) e) (fun _ s''=>CX outer H s E e s'') (fun e' s''=>CX outer H s E e' s'') s'
theorem EW{sc:Scope}{n:Nat}{x:Str}(h:sc.names.lookup x=some .cell):∃c,(cellsFrom n sc.names []).lookup x=some c:=by have q:=PySem.W.cellsFrom_some sc.names n [] (.inl h);exact Option.isSome_iff_exists.mp q
theorem E8{CX:IJ}{P:Program}{w:World}{K:Frag}{mg:Str->Option Value}{base:Heap}{N ps:List Str}{qual:Str}{scope:Scope}{f:Addr}{cd:Value}{A:Around}{outer:List Env}{s s1:Shared}{H:Hp}{E:XK}{us:List Value}{vs:List V}
 (S:SA N ps scope) (hd:A.handled=none) (e0:rm P w K mg base A outer s H) (hl:vs.length=ps.length) (r:Vals vs us)
 (x:InCallC s s.heap.objs.size (bindL (envOfC qual scope s.heap.objs.size f cd).kindOf (ps.zip us) fun _=>none) (cellsFrom (s.heap.objs.size+1) scope.names []) (bindC (envOfC qual scope s.heap.objs.size f cd).kindOf (ps.zip us) fun _=>none) s1) :
 Inv (dF CX P w K mg base N qual scope f cd A outer s H E) [] (QF N vs) H s1:=by
 have hpl:ps.length<=N.length:=by have:=congrArg List.length S.pre;rw[length_take]at this;omega
 obtain⟨h1,tk,rfl,hk⟩:=x.done;have noA:∀b:Addr,b∉(dF CX P w K mg base N qual scope f cd A outer s H E).ex:=fun b z=>absurd (show b∈([]:List Addr)from z) (by simp)
 refine⟨⟨e0.mod,S.kind,rfl,rfl,zdS _,fun y z c h1 h2=>?_,fun y hy=>?_,fun y c _ h=>?_,fun _=>hd,Around.frames_deeper e0.frames,.inr ⟨rfl,rfl⟩,fun b z=>absurd z (noA b),e0.bs,e0.Vp,fun b _ _=>noA b,fun b z=>absurd z (noA b),e0.Nb,e0.frf⟩,
  rfl,e0.bare,Un.kept hk,⟨_,x.toInCall.ns,fun i y v h1 h2 h3=>?_⟩,fun y c h=>⟨_,x.cell y c h⟩,e0.hok.fresh (zdS _),fun y c h=>?_,fun p hp=>absurd (show p∈([]:List (Addr×Obj))from hp) (by simp),e0.hok.kept hk,?_⟩
 · exact name_of_addr x.apart (PySem.mem_of_lookup h1) (PySem.mem_of_lookup h2)
 · have hy:scope.names.lookup y=some .cell\/scope.names.lookup y=some .free:=hy;rcases hy with hy | hy
   · exact EW hy
   · exact absurd rfl (S.zau _ (PySem.mem_of_lookup hy))
 · exact Nat.le_of_lt (x.above y c (PySem.mem_of_lookup h))
 · have hi:i<vs.length:=by
    unfold QF at h2;by_cases hi:i<vs.length
    · exact hi
    · rw[zdT (by simpa using hi)]at h2;rw[getElem?_replicate]at h2;split at h2<;>cases h2
   have ha:vs[i]?=some v:=by
    unfold QF at h2;rw[zdQ (by simpa using hi),getElem?_map]at h2;cases e:vs[i]? with
    | none=>rw[e]at h2;cases h2
    | some a=>rw[e]at h2;cases h2;rfl
   obtain⟨u,hu,rv⟩:=r.get ha;have hp:ps[i]?=some y:=by rw[<- S.pre,getElem?_take_of_lt (by omega)];exact h1
   have ndP:ps.Nodup:=by rw[<- S.pre];exact S.nd.sublist (take_sublist _ _)
   refine⟨u,rv,?_⟩;rcases S.par y (mem_of_getElem? hp)with k | k
   · exact .inl ⟨k,cW ndP hp hu k⟩
   · obtain⟨c,e⟩:=EW (n:=s.heap.objs.size+1) k;refine .inr ⟨.inl k,c,e,?_⟩;have q:=x.cell y c e;rw[aW ndP hp hu (by show scope.names.lookup y≠_;rw[k];decide)]at q;exact q
 · exact e0.hok.fresh (Nat.le_of_lt (x.above y c (PySem.mem_of_lookup h)))
 · unfold QF;show _=N.length;rw[length_append,length_map,length_replicate];omega
theorem nZ{CX:IJ}{P:Program}{w:World}{K:Frag}{mg:Str->Option Value}{base:Heap}{k:Nat}{f:Addr}{name qual:Str}{params:Arguments}{body:List Stmt}{scope:Scope}{dV kV doc pm cdv ct oc:Value}{an od:Option Addr}
 {osl:Array (Option Value)} {N ps:List Str} {sp:Sp} (lk:K.lookup f=some ⟨oc,od,.func (fnOf name qual params body scope dV kV doc pm an cdv ct),osl⟩) (hcd:PySem.W.codeIn K cdv qual=true) (S:SA N ps scope)
 (len:∀vs H Q E,sp vs H Q E->vs.length=ps.length)
 (hbody:∀(A:Around)(outer:List Env)(s:Shared)(H:Hp)(vs:List V)(Q:VK)(E:XK),Tf k (A.deeper (envOfC qual scope s.heap.objs.size f cdv))->sp vs H Q E->
  ∃t,Qn (dF CX P w K mg base N qual scope f cdv A outer s H E) body t/\t { nx:=fun _ H'=>Q .non H',rt:=Q } (QF N vs) H) :
 Od P w K mg base CX (k+1) f (fnOf name qual params body scope dV kV doc pm an cdv ct) ps sp:=by
 refine⟨len,fun A outer s H args us vs Q E hr e0 hb r hsp=>?_⟩;have hl:=len _ _ _ _ hsp;have KX:K.In s.heap:=e0.mod.kin.keeps fun b o e=>(e0.bs b o e).1
 have lim:s.heap.NoLimit:=e0.mod.nolimit.keeps fun b o e=>(e0.bs b o e).1
 have hkind:∀y∈ps.zip us,scope.names.lookup y.1=some .local\/(scope.names.lookup y.1=some .cell/\((cellsFrom (s.heap.objs.size+1) scope.names []).lookup y.1).isSome=true):=fun zz hy=>by
  obtain⟨n,v⟩:=zz;rcases S.par n (of_mem_zip hy).1 with q | q
  · exact .inl q
  · exact .inr ⟨q,PySem.W.cellsFrom_some _ _ _ (.inl q)⟩
 refine codeAny_call_function hr.depth (KX _ _ lk) rfl S.co S.gen rfl (PySem.W.codeRec_of KX hcd) (hb _ _ _ _ ?_);refine wpAny_newFunctionEnv_cells S.kind hkind fun env he s1 x=>?_
 subst he;refine⟨lim.keeps x.toInCall.keep,codeAny_func ?_⟩;obtain⟨t,ht,hq⟩:=hbody A outer s H vs Q E (hr.deeper _) hsp;have I:Inv (dF CX P w K mg base N qual scope f cdv A outer s H E) [] (QF N vs) H s1:=E8 S hr.hd e0 hl r x;refine wpAny_mono (ht [] s1 (QF N vs) H _ I hq) (fun fl s' hs=>?_) fun e s' hs=>hs
 have fin:∀{σ':St}{H':Hp}{v:V}{u:Value},Inv (dF CX P w K mg base N qual scope f cdv A outer s H E) [] σ' H' s'->RelV v u->Q v H'->CE outer P w H s Q u s':=
  fun {σ' H' v u} J rv q=>⟨v,H',J.os,J.bare,J.base,J.hok,rv,q⟩
 cases fl with
 | ret u=>obtain⟨v,σ',H',J,rv,q⟩:=hs;exact fin J rv q
 | next=>obtain⟨σ',H',J,q⟩:=hs;exact fin (v:=V.non) (u:=Value.none) J rfl q
 | brk=>obtain⟨_,_,_,q⟩:=hs;exact False.elim q
 | cont=>obtain⟨_,_,_,q⟩:=hs;exact False.elim q
section
variable{X:Cx}{x:Str}{p pos:Pos}{e:Expr}{es:List Expr}{t:TA}{id T:String}{r:List V->Hp->VK->Prop}
noncomputable def Oh(r:List V->Hp->VK->Prop)(t:TA):TE:=fun σ H Q=>t σ H fun vs H1=>r vs H1 Q
theorem xN (hc:jd X (.builtin id) r) (hg:Gl X x) (hm:X.mg x=none) (hv:bootBuiltins x=some (.builtin id)) (ha:PA X (e::es) t) (hn:x ≠ "__name__" :=by decide) (hdb:(x==("__debug__" :Str))=false:=by decide)
 (he:starEach (e::es) X.env=(false,eval e X.env)::starEach es X.env:=by rfl) (hpl:(backTo pos (starEach es X.env)).any (·.1)=false:=by rfl):PE X (.Call (.Name x p) (e::es) [] pos) (Oh r t):=by
 intro pins s σ H Q I h;refine wpAny_Call_Name_kw (nH I hg hm hv ?_ hn hdb);exact PyProof.Rows.callWith_builtin1 (gB (ha pos pins s σ H _ I h) fun us s1 ⟨vs,H1,I1,r1,q1⟩=>hc pins s1 σ H1 vs us Q I1 r1 q1) he hpl
theorem t8 (hc:jd X (.type T) r) (hg:Gl X x) (hm:X.mg x=none) (hv:bootBuiltins x=some (.type T)) (ha:PA X (e::es) t) (hn:x ≠ "__name__" :=by decide) (hdb:(x==("__debug__" :Str))=false:=by decide)
 (he:starEach (e::es) X.env=(false,eval e X.env)::starEach es X.env:=by rfl) (hpl:(backTo pos (starEach es X.env)).any (·.1)=false:=by rfl):PE X (.Call (.Name x p) (e::es) [] pos) (Oh r t):=by
 intro pins s σ H Q I h;refine wpAny_Call_Name_kw (nH I hg hm hv ?_ hn hdb);exact PyProof.Rows.callWith_type1 (gB (ha pos pins s σ H _ I h) fun us s1 ⟨vs,H1,I1,r1,q1⟩=>hc pins s1 σ H1 vs us Q I1 r1 q1) he hpl
end
end L2
namespace HT
section
open PySem.SeqAt
open PySem.AutoSeq1 (wpAny_loadPart')
open PySem.MeetsSeq PySem.MeetsSeq2 PySem.MeetsSeq3
end
section
variable{prog:Program}{w:World}{A:Around}{E:Value->Shared->Prop}{s:Shared}
theorem Kp{t b:Addr}{vs ws:List Value}{Q:Value->Shared->Prop}(ht:IsTup s.heap t vs.toArray)(hb:IsTup s.heap b ws.toArray)(hv:vs ≠ [])
 (h1:ws=[]->Q (.ref t) s) (h2:ws ≠ []->Q (.ref s.heap.objs.size) { s with heap:=s.heap.push { cls:=.type "tuple",data:=.seq (vs++ws).toArray } })
 (hsz:vs.length+ws.length<=sizeLine):wpAny (model prog w) A (binaryOp .Add (.ref t) (.ref b)) Q E s:=by
 obtain⟨⟨cls,dd,data,sl⟩,ho,hc,n,hd⟩:=id ht;obtain⟨⟨cls2,dd2,data2,sl2⟩,ho2,hc2,n2,hd2⟩:=id hb;simp only at hc hd hc2 hd2;subst hc hd hc2 hd2;have e:vs.toArray++ws.toArray=(vs++ws).toArray:=by simp
 by_cases hw:ws=[]
 · exact concat_meets ⟨_,ho,rfl⟩ ⟨_,ho2,rfl⟩ noFill_tuple_add seq_tuple_add PySem.F.slot_tuple_add PySem.F.entry_tuple_add (PySem.F.args_tuple_add_2 _ _)
    (tuple_addW1 t b vs.toArray ws.toArray n n2 dd dd2 sl sl2 (by simpa using hv) (by simp[hw])) ⟨ho,ho2,h1 hw⟩
 · refine concat_meets ⟨_,ho,rfl⟩ ⟨_,ho2,rfl⟩ noFill_tuple_add seq_tuple_add PySem.F.slot_tuple_add PySem.F.entry_tuple_add (PySem.F.args_tuple_add_2 _ _)
    (tuple_addW2 t b vs.toArray ws.toArray n n2 dd dd2 sl sl2 (by simpa using hv) (by simpa using hw) (by rw[size_toArray,size_toArray];exact hsz)) ⟨ho,ho2,?_⟩
   rw[e];exact h2 hw
noncomputable def Wn(n d:Nat):Option Int->Nat
 | none=>d
 | some v=>if v<0 then(v+(n:Int)).toNat else min v.toNat n
end
end HT
namespace L2
abbrev TO:=St->Hp->(Option Int->Hp->Prop)->Prop
def PO(X:Cx)(e:Option Expr)(t:TO):Prop:=
 ∀(pins:List (Addr×Obj))(s:Shared)(σ:St)(H:Hp)(Q:Option Int->Hp->Prop),Inv X pins σ H s->t σ H Q->
  wpAny (model X.prog X.w) X.A (evalPart e X.env) (fun u s'=>∃o H',Inv X pins σ H' s'/\IsPart u o/\Q o H') X.xe s
noncomputable def Rz:TO:=fun _ H Q=>Q none H
noncomputable def P2(t:TE):TO:=fun σ H Q=>t σ H fun x H1=>∃i,x=.int i/\Q (some i) H1
theorem HM{ns:List Int}:∀{us:List Value},Vals (ns.map V.int) us->IntsAre us ns:=by
 induction ns with
 | nil=>intro us r;rw[zdI]at r;cases r;exact .nil
 | cons n ns ih=>
  intro us r;rw[zdH]at r;cases r with
  | cons r1 r2=>obtain⟨t,e⟩:=r1;subst e;exact .cons n t (ih r2)
section
variable{X:Cx}{e:Expr}{te:TE}{lo hi:Option Expr}{tl th:TO}{pos p2:Pos}
theorem Yv:PO X none Rz:=by intro pins s σ H Q I h;rw[evalPart_none];exact wpAny_pure ⟨none,H,I,.none,h⟩
theorem Zv(h:PE X e te):PO X (some e) (P2 te):=by
 intro pins s σ H Q I hw;rw[evalPart_some];refine gB (h pins s σ H _ I hw) fun u s1 zz=>?_
 obtain⟨x,H1,I1,r1,q1⟩:=zz;obtain⟨i,rfl,q⟩:=q1;obtain⟨t,rfl⟩:=r1;exact⟨some i,H1,I1,.int i t,q⟩
def yh(X:Cx)(r:V->Option Int->Option Int->Hp->VK->Prop):Prop:=
 ∀(pins:List (Addr×Obj))(s:Shared)(σ:St)(H:Hp)(x:V)(v vl vu:Value)(lo hi:Option Int)(sl:Addr)(Q:VK),Inv X pins σ H s->RelV x v->s.heap.IsSliceOf sl vl vu .none->IsPart vl lo->IsPart vu hi->r x lo hi H Q->
  ∃T id,typeLookup (.type T) "__getitem__" =pure (some (.builtin id))/\s.TypeIs v T/\wpAny (model X.prog X.w) X.A (getItem v (.ref sl)) (EP X pins σ Q) X.xe s
noncomputable def Ht(r:V->Option Int->Option Int->Hp->VK->Prop)(te:TE)(tl th:TO):TE:=fun σ H Q=>te σ H fun x H1=>tl σ H1 fun l H2=>th σ H2 fun u H3=>r x l u H3 Q
theorem Mj{r:V->Option Int->Option Int->Hp->VK->Prop}(hr:yh X r)(he:PE X e te)(hl:PO X lo tl)(hu:PO X hi th):PE X (.Subscript e (.Slice lo hi none p2) pos) (Ht r te tl th):=by
 intro pins s σ H Q I h;refine Subscript_ (gB (he pins s σ H _ I h) fun v s1 zz=>?_);obtain⟨x,H1,I1,r1,q1⟩:=zz;refine wpAny_Slice (gB (hl pins s1 σ H1 _ I1 q1) fun vl s2 ⟨l,H2,I2,pl,q2⟩=>gB (hu pins s2 σ H2 _ I2 q2) fun vu s3 zz=>?_);obtain⟨u,H3,I3,pu,q3⟩:=zz;rw[evalPart_none];refine wpAny_pure ?_;have I4:Inv X pins σ H3 { s3 with heap:=s3.heap.push { cls:=.type "slice",data:=.fields #[vl,vu,.none] } }:=I3.kept (t':=s3.toks) fun b ob q=>Heap.get?_push_of_some _ q
 obtain⟨T,id,hT,ht,hg⟩:=hr pins { s3 with heap:=s3.heap.push { cls:=.type "slice",data:=.fields #[vl,vu,.none] } } σ H3 x v vl vu l u s3.heap.objs.size Q I4 r1 (Heap.IsSliceOf.new ..) pl pu q3;show wpAny (model X.prog X.w) X.A (subscriptTail e (.Slice lo hi none p2) v (.ref s3.heap.objs.size)) (EP X pins σ Q) X.xe { s3 with heap:=s3.heap.push { cls:=.type "slice",data:=.fields #[vl,vu,.none] } };exact tail_any (ops:=[.ref s3.heap.objs.size,v]) ht hT hg (by with_unfolding_all rfl)
def DI(xs:List V)(lo hi:Option Int):List V:=(xs.drop (HT.Wn xs.length 0 lo)).take (HT.Wn xs.length xs.length hi-HT.Wn xs.length 0 lo)
theorem T5(xs:List V)(lo hi:Option Int):(DI xs lo hi).length<=xs.length:=by unfold DI;rw[length_take,length_drop];omega
def L1(K:Frag):R2:=fun x y H Q=>∃a b xs ys,x=.ref a/\y=.ref b/\BI K H a xs/\BI K H b ys/\xs ≠ []/\xs.length+ys.length<=sizeLine/\
 (ys=[]->Q (.ref a) H)/\(ys ≠ []->∀p,H p=none->Q (.ref p) (yB H p (.tup (xs++ys))))
theorem Vals.Vn{xs:List V}{us:List Value}(r:Vals xs us):us=[]↔xs=[]:=by
 cases r with
 | nil=>simp
 | cons _ _=>simp
theorem Iv:Gd X (binaryOp .Add) (L1 X.K):=by intro pins s σ H x y v u Q I rx ry h;obtain⟨a,b,xs,ys,rfl,rfl,ha,hb,hx,hz,q1,q2⟩:=h;cases rx;cases ry;obtain⟨its,r1,p1,_⟩:=I.tuple ha;obtain⟨its2,r2,p2,_⟩:=I.tuple hb;refine HT.Kp p1 p2 (fun z=>hx (r1.Vn.mp z)) (fun z=>⟨.ref a,H,I,rfl,q1 (r2.Vn.mp z)⟩) (fun z=>?_) (by rw[<- r1.length,<- r2.length];exact hz);refine⟨.ref s.heap.objs.size,_,I.laid (t':=s.toks) (o:=.tup (xs++ys)) (fun b ob q=>Heap.get?_push_of_some _ q) (zdS _) ?_,rfl,q2 (fun w=>z (r2.Vn.mpr w)) _ (I.hok.fresh (zdS _))⟩;exact⟨by rw[length_append];exact hz,_,r1.append r2,IsTup.new _ _⟩
end
noncomputable def xI(n:Nat)(i:Int):Option Nat:=if 0<=i then(if i<n then some i.toNat else none)else if -(n:Int)<=i then some (i+n).toNat else none
def Ac{α:Type}(xs:List α)(i:Int):Option α:=(xI xs.length i).bind fun j=>xs[j]?
theorem QX{n:Nat}{i:Int}{j:Nat}(h:xI n i=some j):seqIndex? i n=some j/\j<n/\-(n:Int)<=i/\i<n:=by
 unfold xI at h;by_cases h0:0<=i
 · rw[if_pos h0]at h;by_cases h1:i<n
   · rw[if_pos h1]at h;have e:i.toNat=j:=Option.some.inj h;exact⟨by rw[seqIndex_of h0 h1,e],by omega,by omega,h1⟩
   · rw[if_neg h1]at h;cases h
 · rw[if_neg h0]at h;by_cases h1:-(n:Int)<=i
   · rw[if_pos h1]at h;have e:(i+n).toNat=j:=Option.some.inj h;exact⟨by rw[seqIndex_neg (by omega) h1,e],by omega,h1,by omega⟩
   · rw[if_neg h1]at h;cases h
theorem IS{α:Type}{xs:List α}{i:Int}{v:α}(h:Ac xs i=some v):∃j,seqIndex? i xs.length=some j/\xs[j]?=some v/\j<xs.length/\-(xs.length:Int)<=i/\i<xs.length:=by
 unfold Ac at h;cases e:xI xs.length i with
 | none=>rw[e]at h;cases h
 | some j=>rw[e]at h;obtain⟨h1,h2,h3,h4⟩:=QX e;exact⟨j,h1,h,h2,h3,h4⟩
theorem OC{α:Type}{xs:List α}{j:Nat}{v:α}(h:xs[j]?=some v):Ac xs (j:Int)=some v:=by
 have hj:j<xs.length:=(zdP h).1;have e:xI xs.length (j:Int)=some j:=by unfold xI;rw[if_pos (by omega),if_pos (by omega)];simp
 unfold Ac;rw[e];exact h
noncomputable def dY(b:Expr):Prop:=∀o i,subscripted b false o i=operate [o,i] (getItem o i)
def Gp(X:Cx)(r:R2):Prop:=
 ∀(value slice:Expr)(pins:List (Addr×Obj))(s:Shared)(σ:St)(H:Hp)(x y:V)(v u:Value)(Q:VK),Inv X pins σ H s->RelV x v->RelV y u->r x y H Q->
  subscripted slice false v u=operate [v,u] (getItem v u)->wpAny (model X.prog X.w) X.A (subscriptTail value slice v u) (EP X pins σ Q) X.xe s
def Sh(X:Cx)(id:String)(r:V->List V->Hp->VK->Prop):Prop:=
 ∀(pins:List (Addr×Obj))(s:Shared)(σ:St)(H:Hp)(x:V)(xs:List V)(v:Value)(us:List Value)(Q:VK),Inv X pins σ H s->RelV x v->Vals xs us->r x xs H Q->
  wpAny (model X.prog X.w) X.A (call (.builtin id) (v::us)) (EP X pins σ Q) X.xe s
section
variable{X:Cx}{a b:Expr}{ta tb:TE}{pos:Pos}
theorem Gp.or{r r':R2}(h:Gp X r)(h':Gp X r'):Gp X (fun x y H Q=>r x y H Q\/r' x y H Q):=by
 intro value slice pins s σ H x y v u Q I rx ry q hs;rcases q with q | q
 · exact h value slice pins s σ H x y v u Q I rx ry q hs
 · exact h' value slice pins s σ H x y v u Q I rx ry q hs
theorem Sy{r:R2}(hr:Gp X r)(ha:PE X a ta)(hb:PE X b tb)(hs:dY b):PE X (.Subscript a b pos) (HU r ta tb):=by intro pins s σ H Q I h;exact Subscript_ (XO ha hb I h fun v u s2 x y H2 I2 rx ry q=>hr a b pins s2 σ H2 x y v u Q I2 rx ry q (hs _ _))
def AU(K:Frag):R2:=fun x y H Q=>∃p xs i v,x=.ref p/\y=.int i/\Td K H p xs/\Ac xs i=some v/\Q v H
def CU(K:Frag):R2:=fun x y H Q=>∃p xs i v,x=.ref p/\y=.int i/\BI K H p xs/\Ac xs i=some v/\Q v H
def BU:R2:=fun x y H Q=>∃z i c,x=.str z/\y=.int i/\z.length<=sizeLine/\Ac z.cps.toList i=some c/\Q (.str ⟨#[c]⟩) H
theorem Mp:Gp X (AU X.K):=by
 intro value slice pins s σ H x y v u Q I rx ry h hs;obtain⟨p,xs,i,z,rfl,rfl,hq,he,q⟩:=h;cases rx;obtain⟨t,rfl⟩:=ry;obtain⟨its,r,pl,hz⟩:=I.list hq;obtain⟨j,h1,h2,h3,h4,h5⟩:=IS he;obtain⟨w,ew,rw'⟩:=r.get h2;have hl:=r.length;have hn:=yJ;have fin:EP X pins σ Q w s:=⟨z,H,I,rw',q⟩;by_cases h0:0<=i
 · have hj:i.toNat=j:=by rw[seqIndex_of h0 h5]at h1;exact Option.some.inj h1
   exact item_listR pl.isList h0 (by omega) (by rw[hj];simpa using ew) fin hs
 · have hj:(i+(its.toArray.size:Int)).toNat=j:=by rw[seqIndex_neg (by omega) h4]at h1;rw[size_toArray,<- hl];exact Option.some.inj h1
   exact subscriptTail_builtinR (x:=w) pl.isList.typeIs slot_list_getitem.lookup
    (wpAny_getItem_list_neg (Q:=fun r s'=>r=w/\EP X pins σ Q r s') pl.isList (by omega) (by rw[size_toArray]<;>omega) (by omega) (by rw[hj];simpa using ew) ⟨rfl,fin⟩) hs
theorem zap:Gp X (CU X.K):=by
 intro value slice pins s σ H x y v u Q I rx ry h hs;obtain⟨p,xs,i,z,rfl,rfl,hq,he,q⟩:=h;cases rx;obtain⟨t,rfl⟩:=ry;obtain⟨its,r,pl,hz⟩:=I.tuple hq;obtain⟨j,h1,h2,h3,h4,h5⟩:=IS he;obtain⟨w,ew,rw'⟩:=r.get h2;have hl:=r.length;have hn:=yJ;have fin:EP X pins σ Q w s:=⟨z,H,I,rw',q⟩;exact subscriptTail_builtinR (x:=w) pl.typeIs slot_tuple_getitem.lookup
  (getItem_tuple (j:=j) (Q:=fun r s'=>r=w/\EP X pins σ Q r s') pl (by omega) (by omega) (by rw[size_toArray,<- hl];exact h1) (by simpa using ew) ⟨rfl,fin⟩) hs
theorem uy:Gp X BU:=by
 intro value slice pins s σ H x y v u Q I rx ry h hs;obtain⟨z,i,c,rfl,rfl,hz,he,q⟩:=h;obtain⟨t,rfl⟩:=rx;obtain⟨t',rfl⟩:=ry;obtain⟨j,h1,h2,h3,h4,h5⟩:=IS he;have hl:z.cps.toList.length=z.length:=by simp[Str.length]
 rw[hl]at h1 h4 h5;have hn:=yJ;exact tail_any (typeIs_str s z t) slot_str_getitem.lookup (getItem_str (c:=c) (by
  have e1:decide (i < -(2^63:Int))=false:=decide_eq_false (by omega);have e2:decide (i >=2^63)=false:=decide_eq_false (by omega);rw[e1,e2,Bool.or_false]) (by rw[h1];simpa using h2) ⟨.str ⟨#[c]⟩,H,I.tok _,⟨_,rfl⟩,q⟩) hs
def Mh(K:Frag):R2:=fun x y H Q=>AU K x y H Q\/CU K x y H Q\/BU x y H Q
theorem sy:Gp X (Mh X.K):=Mp.or (zap.or uy)
theorem K6 (its:List Value) (n j:Nat) (u:Value):Obj.mapSeq (·.setIfInBounds j u) { cls:=.type "list",data:=.seq its.toArray n }={ cls:=.type "list",data:=.seq (its.set j u).toArray n }:=by simp[Obj.mapSeq]
theorem Inv.lst{pins:List (Addr×Obj)}{σ:St}{H:Hp}{s:Shared}{p:Addr}{xs:List V}(I:Inv X pins σ H s)(h:H p=some (.lst xs)) :
 ∃(its:List Value) (n:Nat),Vals xs its/\s.heap.get? p=some { cls:=.type "list",data:=.seq its.toArray n }/\xs.length<=sizeLine:=by
 obtain⟨z,its,n,r,e⟩:=I.hok p _ h;exact⟨its,n,r,e,z⟩
theorem Inv.zas{pins:List (Addr×Obj)}{σ:St}{H:Hp}{s:Shared}{p:Addr}{xs ys:List V}{its its':List Value}{n n':Nat}{f:Obj->Obj}(I:Inv X pins σ H s)(h:H p=some (.lst xs))
 (ho:s.heap.get? p=some { cls:=.type "list",data:=.seq its.toArray n }) (hf:f { cls:=.type "list",data:=.seq its.toArray n }={ cls:=.type "list",data:=.seq its'.toArray n' }) (r:Vals ys its') (hz:ys.length<=sizeLine) (t:Nat) :
 Inv X pins σ (yB H p (.lst ys)) { s with heap:=s.heap.update p f,toks:=t }:=by
 have e:(s.heap.update p f).get? p=some { cls:=.type "list",data:=.seq its'.toArray n' }:=by rw[Heap.get?_update_self f ho (by rw[hf]<;>rfl),hf]
 refine I.write (x:=p) (e:=p) (by rw[h];trivial) (.inl rfl) (fun b u hb q=>(Heap.get?_update_other _ _ (Ne.symm hb)).trans q) ⟨_,e⟩ ?_;exact⟨hz,its',n',r,e⟩
def P1:V->V->V->Hp->(Hp->Prop)->Prop:=fun o i v H Q=>∃p xs k j,o=.ref p/\i=.int k/\H p=some (.lst xs)/\xI xs.length k=some j/\Q (yB H p (.lst (xs.set j v)))
theorem gq:oU X P1:=by
 intro pins s σ H o i v ov iv u Q I ro ri rv h;obtain⟨p,xs,k,j,rfl,rfl,hp,hj,q⟩:=h;cases ro;obtain⟨t,rfl⟩:=ri;obtain⟨its,n,r,ho,hz⟩:=I.lst hp;obtain⟨h1,h2,h3,h4⟩:=QX hj;have hl:=r.length;have hn:=yJ;have I':Inv X pins σ (yB H p (.lst (xs.set j v))) { s with heap:=s.heap.update p (Obj.mapSeq (·.setIfInBounds j u)) }:=
  I.zas hp ho (K6 its n j u) (r.set rv j) (by rw[length_set];exact hz) s.toks
 by_cases h0:0<=k
 · have hk:k.toNat=j:=by rw[seqIndex_of h0 h4]at h1;exact Option.some.inj h1
   exact PySem.W.ki_setAt ho h0 (by omega) (by rw[size_toArray,<- hl];exact h4) (by rw[hk];exact⟨_,I',q⟩)
 · have hk:(k+(its.toArray.size:Int)).toNat=j:=by rw[seqIndex_neg (by omega) h3]at h1;rw[size_toArray,<- hl];exact Option.some.inj h1
   exact PySem.W.ki_setBack ho (by omega) (by rw[size_toArray,<- hl];exact h3) (by omega) (by rw[hk];exact⟨_,I',q⟩)
theorem J5(lo hi:Option Int)(n:Nat):(sliceBounds lo hi none n).1=((HT.Wn n 0 lo:Nat):Int)/\(sliceBounds lo hi none n).2.1=((HT.Wn n n hi:Nat):Int)/\(sliceBounds lo hi none n).2.2=1:=by
 refine⟨?_,?_,rfl⟩
 · cases lo with
   | none=>simp[sliceBounds,HT.Wn]
   | some i=>
    simp only[sliceBounds,HT.Wn,Option.getD_none,show(1:Int)>0 by decide,if_true];by_cases h:i<0
    · simp only[h,if_true]<;>omega
    · simp only[h,if_false]<;>omega
 · cases hi with
   | none=>simp[sliceBounds,HT.Wn]
   | some i=>
    simp only[sliceBounds,HT.Wn,Option.getD_none,show(1:Int)>0 by decide,if_true];by_cases h:i<0
    · simp only[h,if_true]<;>omega
    · simp only[h,if_false]<;>omega
theorem P4(its:List Value)(lo hi:Option Int):slicePick its.toArray lo hi none=((its.drop (HT.Wn its.length 0 lo)).take (HT.Wn its.length its.length hi-HT.Wn its.length 0 lo)).toArray:=by obtain⟨h1,h2,h3⟩:=J5 lo hi its.toArray.size;unfold slicePick;rw[h1,h2,h3];simp only[sliceRange_one,pick_run,size_toArray]<;>rfl
def F0(K:Frag):V->Option Int->Option Int->Hp->VK->Prop:=fun x lo hi H Q=>∃a xs,x=.ref a/\Td K H a xs/\∀p,H p=none->Q (.ref p) (yB H p (.lst (DI xs lo hi)))
theorem Qz:yh X (F0 X.K):=by intro pins s σ H x v vl vu lo hi sl Q I rx hs pl pu h;obtain⟨a,xs,rfl,hx,q⟩:=h;cases rx;obtain⟨its,r,ht,hz⟩:=I.list hx;have hlen:=r.length;refine⟨"list",_,slot_list_getitem.lookup,ht.isList.typeIs,?_⟩;refine wpAny_getItem_list_slice ht.isList hs pl pu .none (by simp) ?_ (by rw[size_toArray]<;>omega);rw[P4,<- hlen];refine⟨.ref s.heap.objs.size,_,I.laid (t':=s.toks) (o:=.lst (DI xs lo hi)) (fun b ob q=>Heap.get?_push_of_some _ q) (zdS _) ?_,rfl,q _ (I.hok.fresh (zdS _))⟩;exact⟨Nat.le_trans (T5 xs lo hi) hz,_,0,(r.drop (HT.Wn xs.length 0 lo)).take (HT.Wn xs.length xs.length hi-HT.Wn xs.length 0 lo),Heap.get?_push_size _ rfl⟩
noncomputable def nG:V->Bool
 | .non=>true
 | .bl _=>true
 | .int _=>true
 | .str _=>true
 | _=>false
noncomputable def yL:V->V->Bool
 | .non,.non=>true
 | .bl a,.bl b=>a==b
 | .bl a,.int b=>(if a then 1 else 0)==b
 | .int a,.bl b=>a==(if b then 1 else 0)
 | .int a,.int b=>a==b
 | .str a,.str b=>a==b
 | _,_=>false
theorem Uk{A:Around}{s:Shared}{y x:V}{u v:Value}(ry:RelV y u)(rx:RelV x v)(fy:nG y=true)(fx:nG x=true):SeqAt.EqAt A s u v (yL y x):=by
 cases y with
 | non=>
  cases ry;cases x with
  | non=>cases rx;exact SeqAt.EqAt.same _
  | bl b=>cases rx;exact SeqAt.EqAt.none_bool b
  | int b=>obtain⟨t,rfl⟩:=rx;exact SeqAt.EqAt.none_int b t
  | str b=>obtain⟨t,rfl⟩:=rx;exact SeqAt.EqAt.none_str b t
  | _=>exact absurd (show false=true from fx) zdR
 | bl a=>
  cases ry;cases x with
  | non=>cases rx;exact SeqAt.EqAt.bool_none a
  | bl b=>cases rx;exact SeqAt.EqAt.bool_bool a b
  | int b=>obtain⟨t,rfl⟩:=rx;exact SeqAt.EqAt.bool_int a b t
  | str b=>obtain⟨t,rfl⟩:=rx;exact SeqAt.EqAt.bool_str a b t
  | _=>exact absurd (show false=true from fx) zdR
 | int a=>
  obtain⟨t',rfl⟩:=ry;cases x with
  | non=>cases rx;exact SeqAt.EqAt.int_none a t'
  | bl b=>cases rx;exact SeqAt.EqAt.int_bool a t' b
  | int b=>obtain⟨t,rfl⟩:=rx;exact SeqAt.EqAt.int_int a t' b t
  | str b=>obtain⟨t,rfl⟩:=rx;exact SeqAt.EqAt.int_str a t' b t
  | _=>exact absurd (show false=true from fx) zdR
 | str a=>
  obtain⟨t',rfl⟩:=ry;cases x with
  | non=>cases rx;exact SeqAt.EqAt.str_none a t'
  | bl b=>cases rx;exact SeqAt.EqAt.str_bool a t' b
  | int b=>obtain⟨t,rfl⟩:=rx;exact SeqAt.EqAt.str_int a t' b t
  | str b=>obtain⟨t,rfl⟩:=rx;exact SeqAt.EqAt.str_str a t' b t
  | _=>exact absurd (show false=true from fx) zdR
 | _=>exact absurd (show false=true from fy) zdR
def GH(x:V)(u:Value):Bool:=match u with
 | .none=>yL .non x
 | .bool b=>yL (.bl b) x
 | .int i _=>yL (.int i) x
 | .str z _=>yL (.str z) x
 | _=>false
theorem OY{x y:V}{u:Value}(r:RelV y u)(f:nG y=true):GH x u=yL y x:=by
 cases y with
 | non=>cases r;rfl
 | bl b=>cases r;rfl
 | int i=>obtain⟨t,rfl⟩:=r;rfl
 | str z=>obtain⟨t,rfl⟩:=r;rfl
 | _=>exact absurd (show false=true from f) zdR
theorem IK{x:V}:∀{xs:List V}{us:List Value},Vals xs us->xs.all nG=true->us.any (GH x)=xs.any fun y=>yL y x
 | _,_,.nil,_=>rfl
 | y::xs,u::us,.cons r t,f=>by rw[all_cons,Bool.and_eq_true]at f;rw[any_cons,any_cons,OY r f.1,IK t f.2]
theorem AK{A:Around}{s:Shared}{x:V}{v:Value}(rx:RelV x v)(fx:nG x=true):∀{xs:List V}{us:List Value},Vals xs us->xs.all nG=true->∀u∈us,SeqAt.EqAt A s u v (GH x u)
 | _,_,.nil,_=>fun u hu=>by cases hu
 | y::xs,u::us,.cons r t,f=>fun u' hu=>by
  rw[all_cons,Bool.and_eq_true]at f;rcases mem_cons.mp hu with rfl | hu
  · rw[OY r f.1];exact Uk r rx f.1 fx
  · exact AK rx fx t f.2 u' hu
def JO(x:V)(xs:List V):Bool:=xs.any fun y=>yL y x
def D0(K:Frag)(neg:Bool):R2:=fun x y H Q=>∃p xs,y=.ref p/\(Td K H p xs\/BI K H p xs)/\nG x=true/\xs.all nG=true/\Q (.bl (if neg then !JO x xs else JO x xs)) H
theorem k8:Gd X (compareOp .In) (D0 X.K false):=by
 intro pins s σ H x y v u Q I rx ry h;obtain⟨p,xs,rfl,hq,fx,fs,q⟩:=h;cases ry;rcases hq with hq | hq
 · obtain⟨its,r,pl,hz⟩:=I.list hq;refine SeqAt.in_listAt (GH x) pl.isList (fun w hw=>AK rx fx r fs w (by simpa using hw)) ⟨.bl _,H,I,rfl,?_⟩;rw[show its.toArray.any (GH x)=its.any (GH x) by simp,IK r fs];exact q
 · obtain⟨its,r,pl,hz⟩:=I.tuple hq;refine SeqAt.in_tupleAt (GH x) pl (fun w hw=>AK rx fx r fs w (by simpa using hw)) ⟨.bl _,H,I,rfl,?_⟩;rw[show its.toArray.any (GH x)=its.any (GH x) by simp,IK r fs];exact q
theorem M5:Gd X (compareOp .NotIn) (D0 X.K true):=by
 intro pins s σ H x y v u Q I rx ry h;obtain⟨p,xs,rfl,hq,fx,fs,q⟩:=h;cases ry;rcases hq with hq | hq
 · obtain⟨its,r,pl,hz⟩:=I.list hq;refine SeqAt.notIn_listAt (GH x) pl.isList (fun w hw=>AK rx fx r fs w (by simpa using hw)) ⟨.bl _,H,I,rfl,?_⟩;rw[show its.toArray.any (GH x)=its.any (GH x) by simp,IK r fs];exact q
 · obtain⟨its,r,pl,hz⟩:=I.tuple hq;refine SeqAt.notIn_tupleAt (GH x) pl (fun w hw=>AK rx fx r fs w (by simpa using hw)) ⟨.bl _,H,I,rfl,?_⟩;rw[show its.toArray.any (GH x)=its.any (GH x) by simp,IK r fs];exact q
theorem g5:jd X (.builtin "len") (fun xs H Q=>∃p ys,xs=[.ref p]/\(Td X.K H p ys\/BI X.K H p ys)/\Q (.int ys.length) H):=by
 intro pins s σ H xs us Q I r h;obtain⟨p,ys,rfl,hq,q⟩:=h;obtain⟨u,rfl,rx⟩:=pG r;cases rx;have hn:=yJ;rcases hq with hq | hq
 · obtain⟨its,r',pl,hz⟩:=I.list hq;have hlen:=r'.length;exact Calls.call_len_list pl.isList (by simp only[size_toArray]<;>omega) ⟨.int ys.length,H,I.tok _,⟨s.toks+1,by rw[size_toArray,hlen]⟩,q⟩
 · obtain⟨its,r',pl,hz⟩:=I.tuple hq;have hlen:=r'.length;exact len_tuple pl (by simp only[size_toArray]<;>omega) ⟨.int ys.length,H,I.tok _,⟨s.toks+1,by rw[size_toArray,hlen]⟩,q⟩
theorem j5:jd X (.builtin "len") (fun xs H Q=>∃z,xs=[.str z]/\z.length<=sizeLine/\Q (.int z.length) H):=by intro pins s σ H xs us Q I r h;obtain⟨z,rfl,hz,q⟩:=h;obtain⟨u,rfl,t,rfl⟩:=pG r;have hn:=yJ;exact len_str (by omega) ⟨.int z.length,H,I.tok _,⟨_,rfl⟩,q⟩
theorem jd.or{f:Value}{r r':List V->Hp->VK->Prop}(h:jd X f r)(h':jd X f r'):jd X f (fun xs H Q=>r xs H Q\/r' xs H Q):=by
 intro pins s σ H xs us Q I rs q;rcases q with q | q
 · exact h pins s σ H xs us Q I rs q
 · exact h' pins s σ H xs us Q I rs q
theorem o5:jd X (.type "list") (fun xs H Q=>∃p ys,xs=[.ref p]/\(Td X.K H p ys\/BI X.K H p ys)/\∀l,H l=none->Q (.ref l) (yB H l (.lst ys))):=by
 intro pins s σ H xs us Q I r h;obtain⟨p,ys,rfl,hq,q⟩:=h;obtain⟨u,rfl,rx⟩:=pG r;cases rx;have fin:∀(its:List Value),Vals ys its->ys.length<=sizeLine->∀(h':Heap)(c':Nat),(∀b o',s.heap.get? b=some o'->h'.get? b=some o')->
  h'.get? s.heap.objs.size=some { cls:=.type "list",dict:=none,data:=.seq its.toArray c',slots:=#[] }->EP X pins σ Q (.ref s.heap.objs.size) { s with heap:=h' }:=fun its r' hz h' c' kp e=>
  ⟨.ref s.heap.objs.size,_,I.laid (t':=s.toks) kp (zdS _) (show Nf X.prog X.w _ h' _ (.lst ys)from⟨hz,its,c',r',e⟩),rfl,q _ (I.hok.fresh (zdS _))⟩
 rcases hq with hq | hq
 · obtain⟨its,r',pl,hz⟩:=I.list hq;have hlen:=r'.length;obtain⟨o,ho,hc,n,hd⟩:=pl.isList;exact call_list_seq p (.inl rfl) ho hc hd (fun h' c' kp e=>fin its r' hz h' c' kp e) (by simp only[size_toArray]<;>omega)
 · obtain⟨its,r',pl,hz⟩:=I.tuple hq;have hlen:=r'.length;obtain⟨o,ho,hc,n,hd⟩:=pl;exact call_list_seq p (.inr rfl) ho hc hd (fun h' c' kp e=>fin its r' hz h' c' kp e) (by simp only[size_toArray]<;>omega)
def X0(K:Frag)(T:String)(x:V)(H:Hp):Prop:=match x with
 | .str _=>T = "str"
 | .int _=>T = "int"
 | .ref p=>(T = "list" /\ ∃xs,Td K H p xs)\/(T = "tuple" /\ ∃o,K.lookup p=some o/\o.cls=.type "tuple" /\ o.dict=none)\/
  (T = "dict" /\ ((∃kvs,H p=some (.dK kvs))\/∃kvs,H p=some (.dT kvs)))\/(T = "set" /\ ∃S n,H p=some (.set S n))
 | _=>False
theorem bh{pins:List (Addr×Obj)}{σ:St}{H:Hp}{s:Shared}{T:String}{x:V}{v:Value}(I:Inv X pins σ H s)(r:RelV x v)(ty:X0 X.K T x H) :
 s.TypeIs v T/\∀a,v=.ref a->∃ob,s.heap.get? a=some ob/\ob.dict=none:=by
 cases x with
 | str z=>obtain⟨t,rfl⟩:=r;cases (show T = "str" from ty);exact⟨typeIs_str s z t,fun _ e=>nomatch e⟩
 | int i=>obtain⟨t,rfl⟩:=r;cases (show T = "int" from ty);exact⟨typeIs_int s i t,fun _ e=>nomatch e⟩
 | ref p=>
  cases r;rcases ty with⟨rfl,xs,hq⟩ | ⟨rfl,o,hk,hc,hd⟩ | ⟨rfl,hk⟩ | ⟨rfl,S,n,hk⟩
  · obtain⟨its,_,pl,_⟩:=I.list hq;refine⟨pl.isList.typeIs,fun a e=>?_⟩;cases e;obtain⟨o,n,e,c,hd,_⟩:=pl;exact⟨o,e,hd⟩
  · refine⟨⟨o,I.Tn p o hk,hc⟩,fun a e=>?_⟩;cases e;exact⟨o,I.Tn _ o hk,hd⟩
  · have z:∃o,s.heap.get? p=some o/\o.ExactDict:=by
     rcases hk with⟨kvs,hk⟩ | ⟨kvs,hk⟩
     · obtain⟨_,_,_,_,o,_,_,e,ex,_⟩:=I.hok p _ hk;exact⟨o,e,ex⟩
     · obtain⟨_,_,_,_,o,_,_,e,ex,_⟩:=I.hok p _ hk;exact⟨o,e,ex⟩
    obtain⟨o,e,ex⟩:=z;refine⟨⟨o,e,ex.1⟩,fun a e2=>?_⟩;cases e2;exact⟨o,e,ex.2.1⟩
  · obtain⟨o,_,_,_,e,ex,_⟩:=I.hok p _ hk;refine⟨⟨o,e,ex.1⟩,fun a e2=>?_⟩;cases e2;exact⟨o,e,ex.2.1⟩
 | _=>exact False.elim ty
def qt(K:Frag)(T:String)(r:V->List V->Hp->VK->Prop)(to:TE)(t:TA):TE:=fun σ H Q=>to σ H fun x H1=>X0 K T x H1/\t σ H1 fun xs H2=>r x xs H2 Q
variable{o e:Expr}{es:List Expr}{to:TE}{t:TA}{name:Str}{apos cpos:Pos}{T id:String}{r:V->List V->Hp->VK->Prop}
theorem rT (pa:PlainAttrs T) (slot:Slot T name id) (hty:typeOf (.builtin id)=pure (.type "method_descriptor")) (hm:Sh X id r) (ho:PE X o to) (ha:PA X (e::es) t)
 (hbase:attributeBase o name X.env (eval o X.env)=eval o X.env:=by rfl)
 (hfew:((backTo cpos (starEach (e::es) X.env)).all (fun x=>!x.1)&&(backToKw cpos (keywordEach [] X.env)).all (fun x=>x.1.isSome)
  && decide ((e::es).length+([]:List Keyword).length+(if([]:List Keyword).isEmpty then 0 else 1)<30))=true:=by rfl)
 (hline:(apos.endLine==cpos.line)=true:=by rfl) (hs:starEach (e::es) X.env=(false,eval e X.env)::starEach es X.env:=by rfl) (hplain:(backTo cpos (starEach es X.env)).any (·.1)=false:=by rfl) :
 PE X (.Call (.Attribute o name apos) (e::es) [] cpos) (qt X.K T r to t):=by
 intro pins s σ H Q I h;refine wpAny_Call_method_late hbase hfew hline rfl (gB (ho pins s σ H _ I h) fun v s1 zz=>?_);obtain⟨x,H1,I1,r1,ty,q1⟩:=zz;obtain⟨h1,h2⟩:=bh I1 r1 ty;refine⟨T,id,pa,slot,hty,h1,h2,?_⟩;have hA:=ha cpos pins s1 σ H1 _ I1 q1;rw[hs]at hA ⊢;refine Calls.callWith_builtin (by show(false || (backTo cpos (starEach es X.env)).any (·.1))=false;rw[hplain]<;>rfl) (Calls.evalArgs_plain ?_);exact gB hA fun us s2 ⟨vs,H2,I2,r2,q2⟩=>hm pins s2 σ H2 x vs v us Q I2 r1 r2 q2
end
def OZ(X:Cx)(id:String)(r:V->List V->Hp->VK->Prop):Prop:=
 ∀(pins:List (Addr×Obj))(s:Shared)(σ:St)(H:Hp)(x:V)(xs:List V)(v:Value)(us:List Value)(Q:VK),Inv X pins σ H s->RelV x v->Vals xs us->r x xs H Q->
  wpAny (model X.prog X.w) X.A (call (.builtin id) (v::us)) (EP X pins σ Q) X.xe s
theorem Vals.one:∀{x:V}{us:List Value},Vals [x] us->∃u,us=[u]/\RelV x u
 | _,_,.cons r .nil=>⟨_,rfl,r⟩
theorem Vals.zero:∀{us:List Value},Vals [] us->us=[]
 | _,.nil=>rfl
theorem Vals.eraseIdx:∀{xs:List V}{us:List Value}(i:Nat),Vals xs us->Vals (xs.eraseIdx i) (us.eraseIdx i)
 | _,_,_,.nil=>.nil
 | _,_,0,.cons _ t=>t
 | _,_,i+1,.cons r t=>.cons r (Vals.eraseIdx i t)
theorem Vals.rep{xs:List V}{us:List Value}(h:Vals xs us):∀k:Nat,Vals (List.replicate k xs).flatten (List.replicate k us).flatten
 | 0=>.nil
 | k+1=>by rw[replicate_succ,replicate_succ,flatten_cons,flatten_cons];exact Vals.append h (Vals.rep h k)
theorem AV{α:Type}:∀(l:List α)(i:Nat),(l.eraseIdx i).length<=l.length
 | [],_=>zdS _
 | _::_,0=>Nat.le_succ _
 | _::r,i+1=>Nat.succ_le_succ (AV r i)
theorem oW(its:List Value):∀(k:Nat)(acc:List Value),
 List.foldl (fun x1 x2=>x1++x2) acc.toArray (List.replicate k its.toArray)=(acc++(List.replicate k its).flatten).toArray
 | 0,acc=>by simp
 | k+1,acc=>by
  have e:acc.toArray++its.toArray=(acc++its).toArray:=by simp
  have e2:(acc++its)++(List.replicate k its).flatten=acc++(List.replicate (k+1) its).flatten:=by rw[replicate_succ,flatten_cons,append_assoc]
  rw[<- e2,<- oW its k (acc++its),<- e,replicate_succ,foldl_cons]
section
variable{X:Cx}{pins:List (Addr×Obj)}{σ:St}{H:Hp}{s:Shared}{l b:Addr}{xs ys zs:List V}
theorem Inv.zar{its its':List Value}{n:Nat}{f:Array Value->Array Value}{t':Nat}(I:Inv X pins σ H s)(hH:H l=some (.lst xs))
 (e:s.heap.get? l=some { cls:=.type "list",data:=.seq its.toArray n }) (hf:f its.toArray=its'.toArray) (hv:Vals ys its') (hz:ys.length<=sizeLine) :
 Inv X pins σ (yB H l (.lst ys)) { s with heap:=s.heap.update l (Obj.mapSeq f),toks:=t' }:=by
 have q:=PySem.IsL.update e f;rw[hf]at q;refine I.write (x:=l) (e:=l) (by rw[hH];exact trivial) (.inl rfl) (fun b' u hb hu=>(Heap.get?_update_other s.heap (Obj.mapSeq f) (Ne.symm hb)).trans hu) ⟨_,q⟩ ?_;exact⟨hz,its',_,hv,q⟩
theorem Inv.zaq{its:List Value}{t':Nat}(I:Inv X pins σ H s)(hv:Vals ys its)(hz:ys.length<=sizeLine) :
 Inv X pins σ (yB H s.heap.objs.size (.lst ys)) { s with heap:=s.heap.push { cls:=.type "list",data:=.seq its.toArray },toks:=t' }:=
 I.laid (fun _ _ q=>Heap.get?_push_of_some _ q) (zdS _) ⟨hz,its,0,hv,Heap.get?_push_size _ rfl⟩
theorem Inv.fresh(I:Inv X pins σ H s):H s.heap.objs.size=none:=I.hok.fresh (zdS _)
theorem Inv.Ql (I:Inv X pins σ H s) (hH:H l=some (.lst xs)):xs.length<=sizeLine/\∃(its:List Value) (n:Nat),Vals xs its/\xs.length=its.length/\s.heap.get? l=some { cls:=.type "list",data:=.seq its.toArray n }:=by obtain⟨z,its,n,r,e⟩:=I.hok l _ hH;exact⟨z,its,n,r,r.length,e⟩
theorem pX{n:Nat}(h:n<=sizeLine):Builtin.List.listTooLong n=false:=by unfold Builtin.List.listTooLong;exact decide_eq_false (by omega)
end
section
variable{X:Cx}
def Kz:V->List V->Hp->VK->Prop:=fun x vs H Q=>∃l xs y,x=.ref l/\vs=[y]/\H l=some (.lst xs)/\xs.length<sizeLine/\Q .non (yB H l (.lst (xs++[y])))
theorem EV:OZ X "list.append" Kz:=by intro pins s σ H x vs v us Q I rx rv h;obtain⟨l,xs,y,rfl,rfl,hH,hz,q⟩:=h;cases rx;obtain⟨u,rfl,ru⟩:=rv.one;obtain⟨z,its,n,r,hl,e⟩:=I.Ql hH;refine call_meets F.slot_list_append ⟨_,e,rfl⟩ F.entry_list_append (F.args_list_append_2 _ _) (PySem.list_append l its.toArray n u (by rw[size_toArray];omega)) ⟨e,?_⟩;refine⟨.non,_,I.zar (its':=its++[u]) hH e (by simp) (r.append (.cons ru .nil)) ?_,rfl,q⟩;rw[length_append,length_singleton];omega
def Lz:V->List V->Hp->VK->Prop:=fun x vs H Q=>∃l b xs zs,x=.ref l/\vs=[.ref b]/\H l=some (.lst xs)/\H b=some (.lst zs)/\xs.length+zs.length<=sizeLine/\Q .non (yB H l (.lst (xs++zs)))
theorem g8:OZ X "list.extend" Lz:=by
 intro pins s σ H x vs v us Q I rx rv h;obtain⟨l,b,xs,zs,rfl,rfl,hH,hB,hz,q⟩:=h;cases rx;obtain⟨u,rfl,ru⟩:=rv.one;cases ru;obtain⟨z,its,n,r,hl,e⟩:=I.Ql hH;obtain⟨z2,its2,n2,r2,hl2,e2⟩:=I.Ql hB;have hsz:its.toArray.size+its2.toArray.size<=sizeLine:=by rw[size_toArray,size_toArray];omega
 have Kl:¬(!its.toArray.isEmpty&&Builtin.List.listTooLong (its.toArray.size+its2.toArray.size))=true:=by rw[pX hsz,Bool.and_false];exact zdR
 refine call_meets F.slot_list_extend ⟨_,e,rfl⟩ F.entry_list_extend (F.args_list_extend_2 _ _)
  (AutoSeq1.list_extend_list_list_0 l its.toArray n b its2.toArray n2 Kl (by rw[size_toArray];omega) (by omega)) ⟨e,e2,?_⟩
 refine⟨.non,_,I.zar (its':=its++its2) hH e (by simp) (r.append r2) ?_,rfl,q⟩;rw[length_append];omega
def Qg:V->List V->Hp->VK->Prop:=fun x vs H Q=>∃l xs i k y,x=.ref l/\vs=[.int i]/\H l=some (.lst xs)/\-(2^63)<=i/\i<2^63/\seqIndex? i xs.length=some k/\xs[k]?=some y/\Q y (yB H l (.lst (xs.eraseIdx k)))
theorem e9:OZ X "list.pop" Qg:=by
 intro pins s σ H x vs v us Q I rx rv h;obtain⟨l,xs,i,k,y,rfl,rfl,hH,h1,h2,hk,hy,q⟩:=h;cases rx;obtain⟨u,rfl,ru⟩:=rv.one;obtain⟨t,rfl⟩:=ru;obtain⟨z,its,n,r,hl,e⟩:=I.Ql hH;obtain⟨w,hw,rw'⟩:=r.get hy;refine call_meets F.slot_list_pop ⟨_,e,rfl⟩ F.entry_list_pop (F.args_list_pop_2 _ _)
  (MeetsSeq.list_pop_at l its.toArray n i t k w (fitsIndex_both h1 h2) (by rw[size_toArray,<- hl];exact hk) (by rw[<- Array.getElem?_toList];exact hw) (by rw[size_toArray];omega)) ⟨e,?_⟩
 refine⟨y,_,I.zar (its':=its.eraseIdx k) hH e ?_ (r.eraseIdx k) ?_,rw',q⟩
 · show its.toArray.eraseIdxIfInBounds k=(its.eraseIdx k).toArray;rw[eraseIdxIfInBounds_toArray]
 · have:=AV xs k;omega
def DU:R2:=fun x y H Q=>∃l k xs,x=.ref l/\y=.int k/\H l=some (.lst xs)/\-(2^63)<=k/\k<2^63/\xs.length*k.toNat<=sizeLine/\
 ∀p,H p=none->Q (.ref p) (yB H p (.lst (List.replicate k.toNat xs).flatten))
theorem Ax{α:Type}(xs:List α)(k:Nat):(List.replicate k xs).flatten.length=k*xs.length:=by
 induction k with
 | zero=>simp
 | succ k ih=>rw[replicate_succ,flatten_cons,length_append,ih,Nat.succ_mul,Nat.add_comm]
theorem JY:Gd X (binaryOp .Mult) DU:=by
 intro pins s σ H x y v u Q I rx ry h;obtain⟨l,k,xs,rfl,rfl,hH,h1,h2,hz,q⟩:=h;cases rx;obtain⟨t,rfl⟩:=ry;obtain⟨z,its,n,r,hl,e⟩:=I.Ql hH;have hlen:its.toArray.size*k.toNat<=sizeLine:=by rw[size_toArray,<- hl];exact hz
 have hcap:¬its.toArray.size*k.toNat>(2^63-1)/8:=by
  have:(sizeLine:Nat)<=(2^63-1)/8:=by decide
  omega
 have hfit:¬(!Builtin.List.listFitsIndex k)=true:=by rw[fitsIndex_both h1 h2];exact zdR
 have Kl:¬Builtin.List.listTooLong (its.toArray.size*k.toNat)=true:=by rw[pX hlen];exact zdR
 have hnew:List.foldl (fun x1 x2=>x1++x2) #[] (List.replicate (if its.toArray.isEmpty=true then 0 else k.toNat) its.toArray)=(List.replicate k.toNat its).flatten.toArray:=by
  have f0:∀m:Nat,List.foldl (fun x1 x2=>x1++x2) #[] (List.replicate m its.toArray)=(List.replicate m its).flatten.toArray:=fun m=>by have:=oW its m [];rw[zdN]at this;exact this
  rw[f0];cases its with
  | nil=>simp
  | cons a r'=>rw[if_neg (by simp)]
 refine wpAny_binaryOp_repeat_ref (T := "list") (U := "int") (by decide) ⟨_,e,rfl⟩ (fun s'=>typeIs_int s' k t) noFill_list_mul F.fills_int_mul F.slot_int_rmul repeat_list F.slot_int_index.lookup
  (call_meets F.slot_int_rmul (typeIs_int s k t) F.entry_int_rmul (F.args_int_rmul_2 _ _) (int___rmul___int_list k t l its.toArray n)
   ⟨e,rfl,⟨_,e,rfl⟩,call_meets F.slot_list_mul ⟨_,e,rfl⟩ F.entry_list_mul (F.args_list_mul_2 _ _) (AutoListH.list___mul___list_int_3 l its.toArray n k t hfit hcap Kl) ⟨e,?_⟩⟩)
 rw[hnew];exact⟨.ref _,_,I.zaq (t':=s.toks) (r.rep k.toNat) (by rw[Ax,Nat.mul_comm];exact hz),rfl,q _ I.fresh⟩
end
section
variable{prog:Program}{w:World}{A:Around}{E:Value->Shared->Prop}{s:Shared}
end
section
variable{X:Cx}
end
end L2
namespace Att
open PySem.W PySem.Calls
theorem M3{P:Params}{h:Heap}:∀(ns:List Int)(vs:List Value),WellAll P h vs (ns.map WData.int)->IntsAre vs ns:=by
 intro ns
 induction ns with
 | nil=>intro vs w;rw[zdI]at w;cases w;exact .nil
 | cons n ns ih=>
  intro vs w;rw[zdH]at w;cases w with
  | cons a b=>cases a;exact .cons _ _ (ih _ b)
theorem b8{l:OpenLaw}{n:Nat}(hn:l.most=some n){P:Params}{h:Heap}{args:List WData}{vals:List Value}
 (hpre:l.row.toRowW.claim.pre args=true) (hwl:WellAll P h vals args) :
 ∃a vs ns,vals=[Value.ref a]/\args=[WData.list (ns.map WData.int)]/\h.get? a=some { cls:=.type "list",data:=.seq vs.toArray }/\IntsAre vs ns/\ns.length<=n:=by
 have hsh:WShape.hasAll [] args [.list .int]=true:=(pre_splitW hpre).1;have hc:l.pre.holds [] { args:=args }=true:=(pre_splitW hpre).2;obtain⟨d,r,rfl,h1,h2⟩:=hasAllW_cons hsh;obtain rfl:=hasAllW_nil h2;obtain⟨xs,rfl,h3⟩:=hasW_list h1;obtain⟨ns,rfl⟩:=items_int h3;have hlen:ns.length<=n:=by
  unfold OpenLaw.pre at hc;have h4:(WTm.not (.lt (.lit (.int (n:Int))) (.len (.arg 0)))).holds [] { args:=[.list (ns.map .int)] }=true:=by have h4:=(holds_andW hc).1;rw[hn]at h4;exact h4
  have h5:=condW_of h4 (w_not (w_lt w_lit (w_len_list (w_arg rfl))));rw[length_map]at h5;refine Nat.le_of_not_lt fun q=>?_
  have q':(n:Int)<((ns.length:Nat):Int):=by omega
  first
   | (rw[decide_eq_true q']at h5;exact absurd h5 (by decide))
   | (simp at h5;omega)
 cases hwl with
 | cons w1 w2=>
  cases w2;cases w1 with
  | list ho hall=>exact⟨_,_,ns,rfl,rfl,ho,M3 ns _ hall,hlen⟩
theorem y8(l:OpenLaw)(args:List WData):l.row.toRowW.claim.post args (.bool true) args=true:=
 postW_of (r:=l.row.toRowW) (X:=(true==true))
  (show WShape.has [] (.bool true) .bool=true by first | rfl | decide | simp[WShape.has,WShape.arms,WShape.armsAll])
  (show(WTm.eq .res (.lit (.bool true))).value [] { args:=args,res:=some (.bool true),after:=args }=some (.bool (true==true))from w_eq_bool (w_res rfl) w_lit) rfl
theorem jm{l:OpenLaw}{n:Nat}{q:Program}{loose:List Str}{XP:(Str->Option Value)->Heap->Prop}{YP:World->Heap->Prop}{d:DefRec}
 (hn:l.most=some n) (hdf:d.params.defaults=[])
 (call:∀(w:World)(s₀ s₁:Shared)(mg mb:Str->Option Value)(fa:Addr)(o:Obj)(pm cd doc:Value)(a:Addr)(vs:List Value)(ns:List Int),
  Ground q loose [] XP w s₀ mg mb s₁.heap->YP w s₁.heap->
  s₁.heap.get? fa=some o->o.data=.func (docDef d.name d.params d.body d.scope pm cd doc)->s₁.heap.CodeRec cd d.name->mg d.name=some (.ref fa)->
  s₁.heap.get? a=some { cls:=.type "list",data:=.seq vs.toArray }->IntsAre vs ns->ns.length<=n->s₁.gens=#[]->
  codeAny (model l.prog w) callerA (.call (.ref fa) ⟨[.ref a],[]⟩) (fun r s'=>r=.ok (.ret (.bool true))/\OldK s₁.heap s'.heap/\s'.os=s₁.os/\AllBare s'.gens) s₁) :
 WalkO q loose XP YP l.row.toRowW d [] (fun f vs=>PySem.call f vs):=by
 intro w s₀ s₁ mg mb G Y fa o pm cd doc dV kV ho hd hcd hD hmg hg args vals as hpre hlay hrd hwl hlo;obtain rfl:dV=.none:=Dflts.none hD hdf;obtain rfl:kV=.none:=Dflts.noKw hD;obtain⟨a,vs,ns,rfl,rfl,hobj,hints,hlen⟩:=b8 hn hpre hwl;refine enter_call (codeAny_mono (call w s₀ s₁ mg mb fa o pm cd doc a vs ns G Y ho (fd_plain hd) hcd hmg hobj hints hlen hg) fun r s' hq=>?_);obtain⟨rfl,h2,h3,h4⟩:=hq;exact⟨.inl ⟨.bool true,.bool true,[],rfl,fun _=>rfl,.bool true,y8 l _,fun _=>⟨List.Pairwise.nil,fun _ hm=>(nomatch hm)⟩⟩,h2,h3,h4⟩
section
variable{prog:Program}{w:World}{A:Around}{E:Value->Shared->Prop}{s:Shared}{K:Frag}
end
end Att
namespace L2
theorem WV:∀{vs:List Value}{ns:List Int},IntsAre vs ns->Vals (ns.map V.int) vs
 | _,_,.nil=>.nil
 | _,_,.cons n t h=>.cons ⟨t,rfl⟩ (WV h)
noncomputable def SO(H:Hp):Prop:=∀b,H b=none\/∃o xs,H b=some (.Jb o (.lst xs))
theorem X8{P:Program}{w:World}{K:Frag}{mg mb:Str->Option Value}{CX:IJ}{k:Nat}{fa a:Addr}{fd:FuncData}{x:Str}{sp:Sp}{s₁:Shared}{vs:List Value}{ns:List Int}
 (KX:K.In s₁.heap) (hns:s₁.heap.Ns mainGlobals mg) (hb:s₁.heap.Ns builtinsNs mb) (hbb:∀x:Str,x ≠ "__name__" ->mb x=bootBuiltins x) (hlim:s₁.heap.NoLimit) (hg:s₁.gens=#[])
 (ha:s₁.heap.get? a=some { cls:=.type "list",data:=.seq vs.toArray }) (hi:IntsAre vs ns) (hl:ns.length<=sizeLine) (hr:Tf k callerA)
 (F:∀base:Heap,K.In base->base.Ns mainGlobals mg->Od P w K mg base CX k fa fd [x] sp) (hbind:∀(s:Shared)(u:Value),BindsTo s fd ⟨[u],[]⟩ [(x,u)])
 (hsp:∀H:Hp,SO H->Td K H a (ns.map V.int)->sp [.ref a] H (fun v _=>v=.bl true) fun _ _ _=>False)
 (hCX:∀H e s',CX [] H s₁ (fun _ _ _=>False) e s'->False) :
 codeAny (model P w) callerA (.call (.ref fa) ⟨[.ref a],[]⟩) (fun r s'=>r=.ok (.ret (.bool true))/\OldK s₁.heap s'.heap/\s'.os=s₁.os/\AllBare s'.gens) s₁:=by
 have rv:=WV hi;have lenV:=hi.length;have core:∀H:Hp,SO H->Td K H a (ns.map V.int)->Zc P w H s₁.heap->(∀b,H b≠none->b=a)->(H a≠none->K.lookup a=none)->
  codeAny (model P w) callerA (.call (.ref fa) ⟨[.ref a],[]⟩) (fun r s'=>r=.ok (.ret (.bool true))/\OldK s₁.heap s'.heap/\s'.os=s₁.os/\AllBare s'.gens) s₁:=by
  intro H hO hS hok hA hK;have Jm:∀{b:Addr}{o:Obj},s₁.heap.get? b=some o->H b=none->(wG s₁.heap H).get? b=some o:=fun e n=>D9 e n
  have noA:∀{b:Addr}{o:Obj}{es:Array DictEntry}{ep:Nat},s₁.heap.get? b=some o->o.data=.dict es ep->H b=none:=fun {b o es ep} e d=>by
   cases q:H b with
   | none=>rfl
   | some u=>have e':b=a:=hA b (by rw[q];simp);subst e';rw[ha]at e;cases e;have d':Data.seq vs.toArray _=Data.dict es ep:=d;cases d'
  have nsK:∀{b:Addr}{m:Str->Option Value},s₁.heap.Ns b m->(wG s₁.heap H).Ns b m:=fun {b m} ⟨o,es,ep,e,d,r⟩=>⟨o,es,ep,Jm e (noA e d),d,r⟩
  have hKb:K.In (wG s₁.heap H):=fun b o e=>Jm (KX b o e) (by
   cases q:H b with
   | none=>rfl
   | some u=>
    have e':b=a:=hA b (by rw[q];simp);subst e';rw[hK (by rw[q];simp)]at e;cases e)
  have hM:Mod K mg (wG s₁.heap H):=⟨hKb,nsK hns,⟨mb,nsK hb,hbb⟩,let ⟨mc,h1,h2⟩:=hlim;⟨mc,nsK h1,h2⟩⟩;have e0:rm P w K mg (wG s₁.heap H) callerA [] s₁ H:=⟨rfl,hM,fun b o e=>Bq e,Nat.le_of_eq (B8 _ _),trivial,fun b hb=>absurd (show b∈([]:List Addr)from hb) (by simp),hok,.of_eq hg⟩;refine codeAny_mono ((F _ hKb (nsK hns)).run callerA [] s₁ H ⟨[.ref a],[]⟩ [.ref a] [.ref a] _ _ hr e0 (hbind s₁ (.ref a)) (.cons rfl .nil) (hsp H hO hS)) fun r s' h=>?_
  cases r with
  | error e=>exact(hCX H e s' h).elim
  | ok fl=>
   cases fl with
   | next=>exact False.elim h
   | brk=>exact False.elim h
   | cont=>exact False.elim h
   | ret u=>
    obtain⟨v,H',os,bare,un,hok',r',q⟩:=h;have q':v=.bl true:=q;subst q';obtain rfl:u=Value.bool true:=r';refine⟨rfl,OldK.of_keep fun b o e=>?_,os,bare⟩;cases q:H b with
    | none=>exact un.keep b o e q (by intro z;exact absurd (show b∈([]:List Addr)from z) (by simp)) (by simp)
    | some u=>
     rcases hO b with z | ⟨ob,xs,z⟩
     · rw[q]at z;cases z
     · have z2:=un.Fb b ob _ z;obtain⟨e1,_⟩:=hok b _ z;obtain⟨e2,_⟩:=hok' b _ z2;rw[e]at e1;cases e1;exact e2
 cases hk:K.lookup a with
 | some o=>have e:=KX a o hk;rw[ha]at e;cases e;refine core (fun _=>none) (fun _=>.inl rfl) (.inr ⟨_,vs.toArray,_,hk,rfl,rfl,rfl,by rw[size_toArray,lenV];exact hl,by simpa using rv⟩) (fun b u z=>by have z':(none:Option HO)=some u:=z;cases z') (fun b z=>absurd rfl z) fun z=>absurd rfl z
 | none=>
  refine core (fun b=>if b=a then some (.Jb { cls:=.type "list",data:=.seq vs.toArray } (.lst (ns.map V.int)))else none) (fun b=>?_) (.inl (.inr ⟨{ cls:=.type "list",data:=.seq vs.toArray },if_pos rfl⟩)) (fun b u z=>?_) (fun b z=>?_) fun _=>hk
  · by_cases hb:b=a
    · exact .inr ⟨_,_,if_pos hb⟩
    · exact .inl (if_neg hb)
  · by_cases hb:b=a
    · have z':=(if_pos hb).symm.trans z;cases z';subst hb;exact⟨ha,by rw[length_map];exact hl,vs,_,rv,ha⟩
    · have z':=(if_neg hb).symm.trans z;cases z'
  · by_cases hb:b=a
    · exact hb
    · exact absurd (if_neg hb) z
theorem Xz{l:PySem.W.OpenLaw}{n k:Nat}{q:Program}{loose:List Str}{XP:(Str->Option Value)->Heap->Prop}{YP:World->Heap->Prop}{d:DefRec}{K:Params->Frag}{CX:World->IJ}{sp:World->Sp}{x:Str}
 (hn:l.most=some n) (hn2:n<=sizeLine) (hdf:d.params.defaults=[]) (hr:Tf k callerA)
 (hY:∀(w:World)(h:Heap),YP w h->(K w.params).In h)
 (F:∀(w:World)(mg:Str->Option Value)(fa:Addr)(h:Heap),(K w.params).In h->h.Ns mainGlobals mg->mg d.name=some (.ref fa)->
  ∃fd:FuncData,(∀(s:Shared)(u:Value),BindsTo s fd ⟨[u],[]⟩ [(x,u)])/\
   ∀base:Heap,(K w.params).In base->base.Ns mainGlobals mg->Od l.prog w (K w.params) mg base (CX w) k fa fd [x] (sp w))
 (hsp:∀(w:World)(H:Hp)(a:Addr)(ns:List Int),ns.length<=n->SO H->Td (K w.params) H a (ns.map V.int)->sp w [.ref a] H (fun v _=>v=.bl true) fun _ _ _=>False)
 (hCX:∀(w:World)(H:Hp)(s:Shared)(e:Value)(s':Shared),CX w [] H s (fun _ _ _=>False) e s'->False) :
 PySem.W.WalkO q loose XP YP l.row.toRowW d [] (fun f vs=>PySem.call f vs):=by
 refine Att.jm hn hdf fun w s₀ s₁ mg mb fa o pm cd doc a vs ns G Y ho hd hcd hmg hobj hints hlen hg=>?_
 have KX:=hY w _ Y;obtain⟨fd,hb,hF⟩:=F w mg fa _ KX G.T.g hmg;exact X8 KX G.T.g G.T.b G.T.builtins G.T.nolimit hg hobj hints (Nat.le_trans hlen hn2) hr hF hb (fun H hO hS=>hsp w H a ns hlen hO hS) fun H e s'=>hCX w H s₁ e s'
noncomputable def vS(s:Stmt)(j:Nat):Stmt:=match s with
 | .ClassDef _ _ _ body _ _ _ _ _ _ _=>body.getD j (.Pass ⟨0,0,0,0⟩)
 | _=>.Pass ⟨0,0,0,0⟩
noncomputable def VE(s:Stmt):Arguments:=match s with
 | .FunctionDef _ a _ _ _ _ _ _ _ _=>a
 | _=>{ posonlyargs:=[],args:=[],vararg:=none,kwonlyargs:=[],kw_defaults:=[],kwarg:=none,defaults:=[] }
noncomputable def jD(s:Stmt):List Stmt:=match s with
 | .FunctionDef _ _ b _ _ _ _ _ _ _=>b
 | _=>[]
noncomputable def xA(s:Stmt):Scope:=match s with
 | .FunctionDef _ _ _ _ _ _ sc _ _ _=>sc
 | _=>{ kind:=.function,names:=[],isGenerator:=false,isCoroutine:=false }
noncomputable abbrev RF:IJ:=fun _ _ _ _ _ _=>False
noncomputable abbrev E0:XK:=fun _ _ _=>False
theorem qT{X:Cx}:tJ RF X E0:=fun _ _ _ _ _ _ _ h=>h.elim
structure Fl(K:Frag)(x qual:Str)(st:Stmt)(f:Addr)(fd:FuncData):Prop where
 ex:∃(oc:Value)(od:Option Addr)(kV doc pm:Value)(an:Option Addr)(cdv ct:Value)(osl:Array (Option Value)),
  fd=fnOf x qual (VE st) (jD st) (xA st) .none kV doc pm an cdv ct/\K.lookup f=some ⟨oc,od,.func fd,osl⟩/\PySem.W.codeIn K cdv qual=true
 kp:keepIn K (.ref f)=true
section
variable{P:Program}{w:World}{K:Frag}{mg:Str->Option Value}{base:Heap}
theorem Fl.ok{x qual:Str}{st:Stmt}{f:Addr}{fd:FuncData}{N ps:List Str}{k:Nat}{sp:Sp}(F:Fl K x qual st f fd)(S:SA N ps (xA st))(len:∀vs H Q E,sp vs H Q E->vs.length=ps.length)
 (hbody:∀(cdv:Value)(A:Around)(outer:List Env)(s:Shared)(H:Hp)(vs:List V)(Q:VK)(E:XK),Tf k (A.deeper (envOfC qual (xA st) s.heap.objs.size f cdv))->sp vs H Q E->
  ∃t,Qn (dF RF P w K mg base N qual (xA st) f cdv A outer s H E).Bl (jD st) t/\t { nx:=fun _ H'=>Q .non H',rt:=Q } (QF N vs) H):Od P w K mg base RF (k+1) f fd ps sp:=by
 obtain⟨oc,od,kV,doc,pm,an,cdv,ct,osl,rfl,lk,hcd⟩:=F.ex;refine nZ lk hcd S len fun A outer s H vs Q E hr hsp=>?_
 obtain⟨t,h,q⟩:=hbody cdv A outer s H vs Q E hr hsp;exact⟨t,h.Bl,q⟩
theorem Fl.binds{x qual:Str}{st:Stmt}{f:Addr}{fd:FuncData}{ps:List Str}(F:Fl K x qual st f fd)
 (h:∀(kV doc pm:Value)(an:Option Addr)(cdv ct:Value)(us:List Value),us.length=ps.length->bindArgs (fnOf x qual (VE st) (jD st) (xA st) .none kV doc pm an cdv ct) ⟨us,[]⟩=pure (ps.zip us)):Binds K fd ps []:=by
 obtain⟨oc,od,kV,doc,pm,an,cdv,ct,osl,rfl,lk,hcd⟩:=F.ex;exact .all (h kV doc pm an cdv ct)
theorem UN{x qual:Str}{st:Stmt}{f:Addr}{oc:Value}{od an:Option Addr}{osl:Array (Option Value)}{kV doc pm cdv ct:Value}(l:K.lookup f=some ⟨oc,od,.func (fnOf x qual (VE st) (jD st) (xA st) .none kV doc pm an cdv ct),osl⟩)
 (c:PySem.W.codeIn K cdv qual=true) (k:keepIn K (.ref f)=true):Fl K x qual st f (fnOf x qual (VE st) (jD st) (xA st) .none kV doc pm an cdv ct):=⟨⟨oc,od,kV,doc,pm,an,cdv,ct,osl,rfl,l,c⟩,k⟩
end
section
variable{X:Cx}
end
theorem VG{A B:Prop}(h:B):if false=true then A else B:=by rw[if_neg zdR];exact h
theorem WG{A B:Prop}(h:A):if true=true then A else B:=by rw[if_pos rfl];exact h
noncomputable def Same(H H':Hp):Prop:=∀b o,H b=some o->H' b=some o
theorem Same.refl(H:Hp):Same H H:=fun _ _ h=>h
theorem Same.trans{H H1 H2:Hp}(a:Same H H1)(b:Same H1 H2):Same H H2:=fun c o h=>b c o (a c o h)
theorem Same.free{H H':Hp}(e:Same H H'){l:Addr}(h:H' l=Option.none):H l=Option.none:=by
 cases q:H l with
 | none=>rfl
 | some o=>rw[e l o q]at h;cases h
open PySem.AutoSeq1 (wpAny_loadPart')
open PySem.SeqAt PySem.MeetsSeq PySem.MeetsSeq2 PySem.MeetsSeq3
theorem N8(l b:Addr)(items items2:Array Value)(n n2:Nat)(dd dd2:Option Addr)(sl sl2:Array (Option Value))(hc0:items.size+items2.size<=sizeLine) :
 Meets (Builtin.«list.__add__» ⟨[.ref l,.ref b],[]⟩) (fun _ R s=>s.heap.get? l=some { cls:=.type "list",dict:=dd,data:=.seq items n,slots:=sl }/\s.heap.get? b=some { cls:=.type "list",dict:=dd2,data:=.seq items2 n2,slots:=sl2 }/\R (.ok (.ret (Value.ref s.heap.objs.size))) { s with heap:=s.heap.push { cls:=Value.type "list",data:=Data.seq (items++items2) },toks:=s.toks }):=
 .of_wp fun prog w A R s h=>by obtain⟨hp,g,d,tk,os⟩:=s;obtain⟨hl,hb,h⟩:=h;have f1:=AutoSeq1.idx_int;have f2:=AutoSeq1.sub_tuple_tuple;have f3:=AutoSeq1.sub_list_list;have f4:=AutoSeq1.sub_tuple_list;have f5:=AutoSeq1.sub_list_tuple;wp_walk using wpAny_loadPart' hl,wpAny_loadPart' hb;exact⟨_,rfl,h⟩
section
variable{X:Cx}
theorem XX:Gd X (binaryOp .Add) (fun x y H Q=>∃l b xs zs,x=.ref l/\y=.ref b/\Td X.K H l xs/\Td X.K H b zs/\xs.length+zs.length<=sizeLine/\∀p,H p=none->Q (.ref p) (yB H p (.lst (xs++zs)))):=by
 intro pins s σ H x y v u Q I rx ry h;obtain⟨l,b,xs,zs,rfl,rfl,hH,hB,hz,q⟩:=h;cases rx;cases ry;obtain⟨its,r,⟨⟨c1,d1,t1,sl1⟩,n,e,k1,k2,k3⟩,z⟩:=I.list hH;obtain⟨its2,r2,⟨⟨c2,d2,t2,sl2⟩,n2,e2,m1,m2,m3⟩,z2⟩:=I.list hB;simp only at k1 k2 k3 m1 m2 m3;subst k1 k2 k3 m1 m2 m3;have hl:=r.length;have hl2:=r2.length;refine concat_meets ⟨_,e,rfl⟩ ⟨_,e2,rfl⟩ noFill_list_add seq_list_add F.slot_list_add F.entry_list_add (F.args_list_add_2 _ _) (N8 l b its.toArray its2.toArray n n2 none none sl1 sl2 (by rw[size_toArray,size_toArray];omega)) ⟨e,e2,?_⟩;have ea:its.toArray++its2.toArray=(its++its2).toArray:=by simp
 rw[ea];exact⟨.ref _,_,I.zaq (t':=s.toks) (r.append r2) (by rw[length_append];omega),rfl,q _ I.fresh⟩
theorem JM{us:List Value}{ns:List Int}(h:IntsAre us ns):∃xs:Array (Int×Tok),us.toArray=intItems xs/\xs.toList.map (·.1)=ns:=by obtain⟨xs,e⟩:=h.allInts.items;refine⟨xs,e,?_⟩;have e2:=h.numsOf;rw[<- nums_intItems,<- e];exact e2
theorem u7 (hc:X.calm=true):jd X (.builtin "sum") (fun xs H Q=>∃(p:Addr) (ns:List Int),xs=[.ref p]/\Td X.K H p (ns.map V.int)/\Q (.int ns.sum) H):=by
 intro pins s σ H xs us Q I r h;obtain⟨p,ns,rfl,hq,q⟩:=h;obtain⟨u,rfl,rx⟩:=pG r;cases rx;obtain⟨its,r',pl,hz⟩:=I.list hq;obtain⟨ys,e,e2⟩:=JM (HM r');have hl:=pl.isList;rw[e]at hl;refine sum_intListG (I.ok.hd hc) hl fun h' tk t' k=>⟨.int ns.sum,H,I.kept k,⟨t',?_⟩,q⟩
 rw[preSum_eq,take_of_length_le (by simp),e2]
theorem o7 (hc:X.calm=true):jd X (.builtin "max") (fun xs H Q=>∃(p:Addr) (ns:List Int),xs=[.ref p]/\Td X.K H p (ns.map V.int)/\ns ≠ []/\∀M,M∈ns->(∀a∈ns,a<=M)->Q (.int M) H):=by
 intro pins s σ H xs us Q I r h;obtain⟨p,ns,rfl,hq,hne,q⟩:=h;obtain⟨u,rfl,rx⟩:=pG r;cases rx;obtain⟨its,r',pl,hz⟩:=I.list hq;obtain⟨ys,e,e2⟩:=JM (HM r');have hl:=pl.isList;rw[e]at hl;have hsz:0<ys.size:=by
  rcases Nat.eq_zero_or_pos ys.size with z | z
  · exfalso;apply hne;rw[<- e2];have:ys.toList=[]:=by apply eq_nil_of_length_eq_zero;simpa using z
    rw[this];rfl
  · exact z
 refine max_intList (I.ok.hd hc) hl hsz fun v h' tk hv k=>?_
 obtain⟨t,rfl⟩:=intItems_at hv;obtain⟨h1,h2⟩:=argBest_gt (numAt ys) (ys.size-1);refine⟨.int _,H,I.kept k,⟨t,rfl⟩,q _ ?_ fun a ha=>?_⟩
 · rw[numAt_eq,<- e2];exact getD_mem (by rw[length_map,Array.length_toList];omega)
 · rw[<- e2]at ha;obtain⟨j,hj,rfl⟩:=mem_getD ha;rw[length_map,Array.length_toList]at hj;rw[<- numAt_eq];exact h2 j (by omega)
theorem t7 (hc:X.calm=true):jd X (.builtin "min") (fun xs H Q=>∃(p:Addr) (ns:List Int),xs=[.ref p]/\Td X.K H p (ns.map V.int)/\ns ≠ []/\∀M,M∈ns->(∀a∈ns,M<=a)->Q (.int M) H):=by
 intro pins s σ H xs us Q I r h;obtain⟨p,ns,rfl,hq,hne,q⟩:=h;obtain⟨u,rfl,rx⟩:=pG r;cases rx;obtain⟨its,r',pl,hz⟩:=I.list hq;obtain⟨ys,e,e2⟩:=JM (HM r');have hl:=pl.isList;rw[e]at hl;have hsz:0<ys.size:=by
  rcases Nat.eq_zero_or_pos ys.size with z | z
  · exfalso;apply hne;rw[<- e2];have:ys.toList=[]:=by apply eq_nil_of_length_eq_zero;simpa using z
    rw[this];rfl
  · exact z
 refine min_intList (I.ok.hd hc) hl hsz fun v h' tk hv k=>?_
 obtain⟨t,rfl⟩:=intItems_at hv;obtain⟨h1,h2⟩:=argBest_lt (numAt ys) (ys.size-1);refine⟨.int _,H,I.kept k,⟨t,rfl⟩,q _ ?_ fun a ha=>?_⟩
 · rw[numAt_eq,<- e2];exact getD_mem (by rw[length_map,Array.length_toList];omega)
 · rw[<- e2]at ha;obtain⟨j,hj,rfl⟩:=mem_getD ha;rw[length_map,Array.length_toList]at hj;rw[<- numAt_eq];exact h2 j (by omega)
def Bh(K:Frag)(H:Hp)(x:V)(t:String):Prop:=match x with
 | .non=>t = "NoneType"
 | .bl _=>t = "bool"
 | .int _=>t = "int"
 | .str _=>t = "str"
 | .ref a=>(t = "list" /\ ∃xs,Td K H a xs)\/(t = "tuple" /\ ∃xs,BI K H a xs)
 | _=>False
theorem fj {T:String}:jd X (.builtin "isinstance") (fun xs H Q=>∃x t b,xs=[x,.ty T]/\Bh X.K H x t/\PySem.W.kitOne X.K (.type t) (.type T)=some b/\Q (.bl b) H):=by
 intro pins s σ H xs us Q I r h;obtain⟨x,t,b,rfl,ty,e,q⟩:=h;obtain⟨u,u2,rfl,rx,ry⟩:=dU r;cases ry;have fin:∀tk,EP X pins σ Q (.bool b) { s with toks:=tk }:=fun tk=>⟨.bl b,H,I.tok tk,rfl,q⟩
 cases x with
 | non=>cases (show t = "NoneType" from ty);cases rx;exact PySem.W.kia_one PySem.W.kitx_none I.Tn True.intro e (fun z=>nomatch z) fin
 | bl y=>cases (show t = "bool" from ty);cases rx;exact PySem.W.kia_one PySem.W.kitx_bool I.Tn True.intro e (fun z=>nomatch z) fin
 | int i=>cases (show t = "int" from ty);obtain⟨_,rfl⟩:=rx;exact PySem.W.kia_one PySem.W.kitx_int I.Tn True.intro e (fun z=>nomatch z) fin
 | str y=>cases (show t = "str" from ty);obtain⟨_,rfl⟩:=rx;exact PySem.W.kia_one PySem.W.kitx_str I.Tn True.intro e (fun z=>nomatch z) fin
 | ref a=>
  cases rx;rcases ty with⟨rfl,ys,sq⟩ | ⟨rfl,ys,sq⟩
  · obtain⟨its,_,⟨o,n,h1,h2,_,_⟩,_⟩:=I.list sq;exact PySem.W.kia_one PySem.W.kitx_list I.Tn ⟨o,h1,h2⟩ e (fun z=>nomatch z) fin
  · obtain⟨its,_,⟨o,h1,h2,_⟩,_⟩:=I.tuple sq;exact PySem.W.kia_one PySem.W.kitx_tuple I.Tn ⟨o,h1,h2⟩ e (fun z=>nomatch z) fin
 | Um _=>exact False.elim ty
 | flt _=>exact False.elim ty
 | ty _=>exact False.elim ty
end
open PySem.AutoSeq1 (wpAny_loadPart')
open PySem.SeqAt PySem.MeetsSeq PySem.MeetsSeq2 PySem.MeetsSeq3
theorem Q7(l b:Addr)(items items2:Array Value)(n n2:Nat)(dd dd2:Option Addr)(sl sl2:Array (Option Value))(e:Nat->Bool) :
 Meets (Builtin.«tuple.__ne__» ⟨[.ref l,.ref b],[]⟩)
  (fun A R s=>s.heap.get? l=some { cls:=.type "tuple",dict:=dd,data:=.seq items n,slots:=sl }/\s.heap.get? b=some { cls:=.type "tuple",dict:=dd2,data:=.seq items2 n2,slots:=sl2 }/\
   (∀j (h1:j<items.size) (h2:j<items2.size),EqAt A.in1 s items[j] items2[j] (e j))/\
   R (.ok (.ret (.bool (!((List.range (min items.size items2.size)).all e&&items.size==items2.size))))) s):=
 .of_wp fun prog w A R s h=>by
  obtain⟨hp,g,d,tk,os⟩:=s;obtain⟨hl,hb,he,h⟩:=h;have f2:=AutoSeq1.sub_tuple_tuple;have hZ:(items.toList.zip items2.toList).length=min items.size items2.size:=by simp
  wp_walk using wpAny_loadPart' hl,wpAny_loadPart' hb,wpAny_forIn_list _ (fun rest b s'=>b.1=none/\s'=⟨hp,g,d,tk,os⟩/\∃i,rest=(items.toList.zip items2.toList).drop i/\
   R (.ok (.ret (.bool (!(((List.range (min items.size items2.size)).drop i).all e&&items.size==items2.size))))) ⟨hp,g,d,tk,os⟩) _
  case turn=>
   rintro⟨y,x⟩ rest b s' ⟨hb',rfl,i,hz,hR⟩;have hlt:i<(items.toList.zip items2.toList).length:=by
    rcases Nat.lt_or_ge i (items.toList.zip items2.toList).length with h' | h'
    · exact h'
    · rw[drop_of_length_le h']at hz;cases hz
   have hm:i<min items.size items2.size:=hZ ▸ hlt;have h1:i<items.size:=Nat.lt_of_lt_of_le hm (Nat.min_le_left _ _);have h2:i<items2.size:=Nat.lt_of_lt_of_le hm (Nat.min_le_right _ _);rw[drop_eq_getElem_cons hlt]at hz;injection hz with hyx hrest
   have hy:y=items[i]:=by have:=congrArg Prod.fst hyx;simpa using this
   have hx:x=items2[i]:=by have:=congrArg Prod.snd hyx;simpa using this
   subst hy hx;have hd:(List.range (min items.size items2.size)).drop i=i::(List.range (min items.size items2.size)).drop (i+1):=by simp[drop_eq_getElem_cons,hm]
   rw[hd,all_cons]at hR;refine wpAny_bind (he i h1 h2 prog w _ _ ?_);cases hy:e i with
   | true=>
    rw[hy]at hR
    wp_walk
    exact⟨rfl,rfl,i+1,hrest,by simpa only[Bool.true_and]using hR⟩
   | false=>
    rw[hy]at hR
    wp_walk
    exact⟨_,rfl,by simpa only[Bool.false_and,Bool.not_false]using hR⟩
  case fin=>
   rintro⟨b1,b2⟩ s' ⟨hb',rfl,i,hz,hR⟩;simp only at hb';subst hb';have hge:min items.size items2.size<=i:=by
    rcases Nat.lt_or_ge i (items.toList.zip items2.toList).length with h' | h'
    · rw[drop_eq_getElem_cons h']at hz;cases hz
    · exact hZ ▸ h'
   rw[drop_of_length_le (by simpa using hge)]at hR
   wp_walk
   exact⟨_,rfl,by simpa[Builtin.Tuple.tupleCompareSizes,bne]using hR⟩
  case h=>exact⟨rfl,rfl,0,rfl,by simpa only[drop_zero]using h⟩
theorem h8(l b:Addr)(items items2:Array Value)(n n2:Nat)(dd dd2:Option Addr)(sl sl2:Array (Option Value))(hsz:items.size=items2.size)(e:Nat->Bool)(k:Nat) :
 ∀i:Nat,items.size-i=k->Meets (Builtin.«list.__eq__.loop» ⟨[.ref l,.ref b,rawInt i,rawInt 3],[]⟩)
  (fun A R s=>s.heap.get? l=some { cls:=.type "list",dict:=dd,data:=.seq items n,slots:=sl }/\s.heap.get? b=some { cls:=.type "list",dict:=dd2,data:=.seq items2 n2,slots:=sl2 }/\
   (∀j (h1:j<items.size) (h2:j<items2.size),EqAt A.in1 s items[j] items2[j] (e j))/\
   R (.ok (.ret (.bool (!(((List.range items.size).drop i).all e))))) s):=by
 induction k with
 | zero=>
  intro i hk prog w A R s h;obtain⟨hp,g,d,tk,os⟩:=s;obtain⟨hl,hb,he,h⟩:=h
  wp_walk using wpAny_loadPart' hl,wpAny_loadPart' hb
  have hi1:items[((i:Nat):Int).toNat]?=none:=by simp;omega
  have hi2:items2[((i:Nat):Int).toNat]?=none:=by simp;omega
  have hd:(List.range items.size).drop i=[]:=by simp;omega
  rw[hd]at h;rw[hi1,hi2]
  wp_walk using wpAny_loadPart' hl,wpAny_loadPart' hb
  show R (.ok (.ret (.bool (items.size !=items2.size)))) _;rw[hsz];simpa using h
 | succ k ih=>
  intro i hk prog w A R s h;obtain⟨hp,g,d,tk,os⟩:=s;obtain⟨hl,hb,he,h⟩:=h
  wp_walk using wpAny_loadPart' hl,wpAny_loadPart' hb
  have hlt:i<items.size:=by omega
  have hlt2:i<items2.size:=by omega
  have hi1:items[((i:Nat):Int).toNat]?=some items[i]:=by simp[hlt]
  have hi2:items2[((i:Nat):Int).toNat]?=some items2[i]:=by simp[hlt2]
  have hd:(List.range items.size).drop i=i::(List.range items.size).drop (i+1):=by simp[drop_eq_getElem_cons,hlt]
  have hc:((i:Int)+1)=((i+1:Nat):Int):=by push_cast;rfl
  rw[hd,all_cons]at h;rw[hi1,hi2];refine wpAny_bind (he i hlt hlt2 prog w _ _ ?_);cases hb':e i with
  | true=>
   rw[hb']at h
   wp_walk
   rw[hc];exact⟨plainId_quiet plain_eq_loop _,codeAny_builtin entry_eq_loop (by
    rw[Around.under_plainId plain_eq_loop _];exact ih (i+1) (by omega) prog w A R _ ⟨hl,hb,he,by simpa only[Bool.true_and]using h⟩)⟩
  | false=>
   rw[hb']at h
   wp_walk using wpAny_loadPart' hl,wpAny_loadPart' hb
   rw[hi1,hi2]
   wp_walk
   simpa using h
theorem O8(l b:Addr)(items items2:Array Value)(n n2:Nat)(dd dd2:Option Addr)(sl sl2:Array (Option Value))(hsz:items.size=items2.size)(e:Nat->Bool) :
 Meets (Builtin.«list.__ne__» ⟨[.ref l,.ref b],[]⟩)
  (fun A R s=>s.heap.get? l=some { cls:=.type "list",dict:=dd,data:=.seq items n,slots:=sl }/\s.heap.get? b=some { cls:=.type "list",dict:=dd2,data:=.seq items2 n2,slots:=sl2 }/\
   (∀j (h1:j<items.size) (h2:j<items2.size),EqAt A.in1 s items[j] items2[j] (e j))/\
   R (.ok (.ret (.bool (!((List.range items.size).all e))))) s):=by
 intro prog w A R s h;obtain⟨hp,g,d,tk,os⟩:=s;obtain⟨hl,hb,he,h⟩:=h;have f3:=AutoSeq1.sub_list_list;have hne:¬(items.size !=items2.size)=true:=by simp[hsz]
 wp_walk using wpAny_loadPart' hl,wpAny_loadPart' hb
 exact⟨plainId_quiet plain_eq_loop _,codeAny_builtin entry_eq_loop (by
  rw[Around.under_plainId plain_eq_loop _];exact h8 l b items items2 n n2 dd dd2 sl sl2 hsz e _ 0 rfl prog w A R _ ⟨hl,hb,he,by simpa only[drop_zero]using h⟩)⟩
theorem L3(l b:Addr)(items items2:Array Value)(n n2:Nat)(dd dd2:Option Addr)(sl sl2:Array (Option Value))(hc0:(items.size !=items2.size)=true) :
 Meets (Builtin.«list.__ne__» ⟨[.ref l,.ref b],[]⟩)
  (fun _ R s=>s.heap.get? l=some { cls:=.type "list",dict:=dd,data:=.seq items n,slots:=sl }/\s.heap.get? b=some { cls:=.type "list",dict:=dd2,data:=.seq items2 n2,slots:=sl2 }/\
   R (.ok (.ret (.bool true))) s):=
 .of_wp fun prog w A R s h=>by
  obtain⟨hp,g,d,tk,os⟩:=s;obtain⟨hl,hb,h⟩:=h;have f3:=AutoSeq1.sub_list_list
  wp_walk using wpAny_loadPart' hl,wpAny_loadPart' hb
  exact⟨_,rfl,h⟩
section
variable{prog:Program}{w:World}{A:Around}{E:Value->Shared->Prop}{s:Shared}{Q:Value->Shared->Prop}
theorem i8{l b:Addr}{items items2:Array Value}{e:Nat->Bool}(hl:s.heap.IsTuple l items)(hb:s.heap.IsTuple b items2)(hu:A.units<cLine)
 (he:∀j (h1:j<items.size) (h2:j<items2.size),EqAt A.in1 s items[j] items2[j] (e j)) (h:Q (.bool (!((List.range (min items.size items2.size)).all e&&items.size==items2.size))) s):wpAny (model prog w) A (compareOp .NotEq (.ref l) (.ref b)) Q E s:=by
 obtain⟨⟨cls,dd,data,sl⟩,ho,hc,n,hd⟩:=id hl;obtain⟨⟨cls2,dd2,data2,sl2⟩,ho2,hc2,n2,hd2⟩:=id hb;simp only at hc hd hc2 hd2;subst hc hd hc2 hd2;exact richCompare_meets_room (op:=.NotEq) ⟨_,ho,rfl⟩ ⟨_,ho2,rfl⟩ F.slot_tuple_ne F.entry_tuple_ne (F.args_tuple_ne_2 _ _) (Q7 l b items items2 n n2 dd dd2 sl sl2 e) ⟨ho,ho2,he,⟨(fun x=>nomatch x),h⟩⟩ hu
theorem f9{l b:Addr}{items items2:Array Value}{e:Nat->Bool}(hl:s.heap.IsList l items)(hb:s.heap.IsList b items2)(hsz:items.size=items2.size)(hu:A.units<cLine)
 (he:∀j (h1:j<items.size) (h2:j<items2.size),EqAt A.in1 s items[j] items2[j] (e j)) (h:Q (.bool (!((List.range items.size).all e))) s):wpAny (model prog w) A (compareOp .NotEq (.ref l) (.ref b)) Q E s:=by
 obtain⟨⟨cls,dd,data,sl⟩,ho,hc,n,hd⟩:=id hl;obtain⟨⟨cls2,dd2,data2,sl2⟩,ho2,hc2,n2,hd2⟩:=id hb;simp only at hc hd hc2 hd2;subst hc hd hc2 hd2;exact richCompare_meets_room (op:=.NotEq) ⟨_,ho,rfl⟩ ⟨_,ho2,rfl⟩ F.slot_list_ne F.entry_list_ne (F.args_list_ne_2 _ _) (O8 l b items items2 n n2 dd dd2 sl sl2 hsz e) ⟨ho,ho2,he,⟨(fun x=>nomatch x),h⟩⟩ hu
theorem K5{l b:Addr}{items items2:Array Value}(hl:s.heap.IsList l items)(hb:s.heap.IsList b items2)(hsz:(items.size !=items2.size)=true)(hu:A.units<cLine)
 (h:Q (.bool true) s):wpAny (model prog w) A (compareOp .NotEq (.ref l) (.ref b)) Q E s:=by
 obtain⟨⟨cls,dd,data,sl⟩,ho,hc,n,hd⟩:=id hl;obtain⟨⟨cls2,dd2,data2,sl2⟩,ho2,hc2,n2,hd2⟩:=id hb;simp only at hc hd hc2 hd2;subst hc hd hc2 hd2;exact richCompare_meets_room (op:=.NotEq) ⟨_,ho,rfl⟩ ⟨_,ho2,rfl⟩ F.slot_list_ne F.entry_list_ne (F.args_list_ne_2 _ _) (L3 l b items items2 n n2 dd dd2 sl sl2 hsz) ⟨ho,ho2,⟨(fun x=>nomatch x),h⟩⟩ hu
end
end L2
namespace SM
inductive Dt where
 | non | bl (b:Bool) | int (i:Int) | str (x:Str) | tup (xs:List Dt) | lst (xs:List Dt) | ref (n:Nat) | uc (xs:List Int)
inductive Ob where
 | lst (xs:List Dt)
 | ins (x:Str) (fs:List (Str×Dt))
 | dk (kvs:List (WB×Dt))
 | dt (kvs:List (List Int×Dt))
 | df (kvs:List (List Int×Dt))
noncomputable abbrev HI:=List Ob
noncomputable abbrev LI:=List (Option Dt)
structure Rg where
 v:List Addr
 z:List Addr
noncomputable def Rg.no(ρ:Rg)(a:Addr):Prop:=a∉ρ.v/\a∉ρ.z
noncomputable def Rg.add(ρ:Rg)(p:Addr):Rg:=⟨ρ.v++[p],ρ.z⟩
noncomputable def Rg.hide(ρ:Rg)(p:Addr):Rg:=⟨ρ.v,p::ρ.z⟩
noncomputable def Rg.nil:Rg:=⟨[],[]⟩
def TupAt(K:Frag)(H:Hp)(ρ:Rg)(a:Addr)(vs:List V):Prop:=
 (ρ.no a/\Rd H a (.tup vs))\/
  ∃(o:Obj) (its:Array Value) (n:Nat),K.lookup a=some o/\o.cls=.type "tuple" /\ o.data=.seq its n/\its.size<=sizeLine/\Vals vs its.toList
def LstAt(K:Frag)(H:Hp)(ρ:Rg)(a:Addr)(vs:List V):Prop:=
 (ρ.no a/\Rd H a (.lst vs))\/
  ∃(o:Obj) (its:Array Value) (n:Nat),K.lookup a=some o/\o.cls=.type "list" /\ o.dict=none/\o.data=.seq its n/\its.size<=sizeLine/\Vals vs its.toList
theorem TupAt.sq{K:Frag}{H:Hp}{ρ:Rg}{a:Addr}{vs:List V}(h:TupAt K H ρ a vs):BI K H a vs:=by
 rcases h with⟨_,h⟩ | h
 · exact .inl h
 · exact .inr h
theorem LstAt.sq{K:Frag}{H:Hp}{ρ:Rg}{a:Addr}{vs:List V}(h:LstAt K H ρ a vs):Td K H a vs:=by
 rcases h with⟨_,h⟩ | h
 · exact .inl h
 · exact .inr h
mutual
noncomputable def Yr(K:Frag)(H:Hp)(ρ:Rg):Dt->V->Prop
 | .non,v=>v=.non
 | .bl b,v=>v=.bl b
 | .int i,v=>v=.int i
 | .str x,v=>v=.str x
 | .tup xs,v=>∃a vs,v=.ref a/\TupAt K H ρ a vs/\Wr K H ρ xs vs
 | .lst xs,v=>∃a vs,v=.ref a/\LstAt K H ρ a vs/\Wr K H ρ xs vs
 | .ref n,v=>∃a,v=.ref a/\ρ.v[n]?=some a
 | .uc xs,v=>∃a,v=.ref a/\ρ.no a/\H a=some (.tup (xs.map V.int))
noncomputable def Wr(K:Frag)(H:Hp)(ρ:Rg):List Dt->List V->Prop
 | [],vs=>vs=[]
 | x::xs,vs=>∃v r,vs=v::r/\Yr K H ρ x v/\Wr K H ρ xs r
end
structure Ext(ρ ρ':Rg)(H H':Hp):Prop where
 pre:∃e,ρ'.v=ρ.v++e/\∀a∈e,H a=none
 hid:ρ'.z=ρ.z
 keep:∀a o,H a=some o->a∉ρ.v->H' a=some o
 live:∀a,H' a=none->H a=none
 fz:∀a o u,H a=some (.Jb o u)->H' a=some (.Jb o u)
theorem Ext.refl(ρ:Rg)(H:Hp):Ext ρ ρ H H:=⟨⟨[],by simp,by simp⟩,rfl,fun _ _ h _=>h,fun _ h=>h,fun _ _ _ h=>h⟩
theorem Ext.zaU{ρ ρ':Rg}{H H':Hp}(x:Ext ρ ρ' H H'){a:Addr}{o:HO}(h:H a=some o)(n:a∉ρ.v):a∉ρ'.v:=by
 obtain⟨e,e',hn⟩:=x.pre;rw[e'];intro hm;rcases mem_append.mp hm with hm | hm
 · exact n hm
 · have:=hn a hm;rw[h]at this;cases this
theorem Ext.Vl{ρ ρ':Rg}{H H':Hp}(x:Ext ρ ρ' H H'){a:Addr}{o:HO}(h:H a=some o)(n:ρ.no a):ρ'.no a:=⟨x.zaU h n.1,by rw[x.hid];exact n.2⟩
theorem Ext.trans{ρ ρ1 ρ2:Rg}{H H1 H2:Hp}(x:Ext ρ ρ1 H H1)(y:Ext ρ1 ρ2 H1 H2):Ext ρ ρ2 H H2:=by
 refine⟨?_,y.hid.trans x.hid,fun a o h n=>y.keep a o (x.keep a o h n) (x.zaU h n),fun a h=>x.live a (y.live a h),fun a o u h=>y.fz a o u (x.fz a o u h)⟩;obtain⟨e,q1,h1⟩:=x.pre;obtain⟨e',q2,h2⟩:=y.pre;refine⟨e++e',by rw[q2,q1,append_assoc],fun a ha=>?_⟩;rcases mem_append.mp ha with ha | ha
 · exact h1 a ha
 · exact x.live a (h2 a ha)
theorem Ext.get{ρ ρ':Rg}{H H':Hp}(x:Ext ρ ρ' H H'){n:Nat}{a:Addr}(h:ρ.v[n]?=some a):ρ'.v[n]?=some a:=by obtain⟨e,e',_⟩:=x.pre;have:=(zdP h).1;rw[e',zdQ this];exact h
theorem Ext.fresh{ρ:Rg}{H:Hp}{p:Addr}{o:HO}(h:H p=none):Ext ρ ρ H (yB H p o):=by
 refine⟨⟨[],by simp,by simp⟩,rfl,fun a u e _=>?_,fun a e=>?_,fun a o u e=>by rw[NA (XC e h)];exact e⟩
 · rw[NA (XC e h)];exact e
 · by_cases ha:a=p
   · subst ha;exact h
   · rw[NA ha]at e;exact e
theorem Ext.own{ρ:Rg}{H:Hp}{p:Addr}{o:HO}(h:H p=none):Ext ρ (ρ.add p) H (yB H p o):=by refine⟨⟨[p],rfl,fun a ha=>?_⟩,rfl,(Ext.fresh (ρ:=ρ) h).keep,(Ext.fresh (ρ:=ρ) h).live,(Ext.fresh (ρ:=ρ) h).fz⟩;rw[mem_singleton.mp ha];exact h
noncomputable def eU(H:Hp)(a:Addr):Prop:=∀o u,H a≠some (.Jb o u)
theorem YG{H:Hp}{a:Addr}{vs:List V}(h:H a=some (.lst vs)):eU H a:=fun _ _ e=>by rw[h]at e;cases e
theorem Ext.write{ρ:Rg}{H:Hp}{a:Addr}{o:HO}(ha:a∈ρ.v)(nf:eU H a):Ext ρ ρ H (yB H a o):=by
 refine⟨⟨[],by simp,by simp⟩,rfl,fun b u e n=>?_,fun b e=>?_,fun b q u e=>by rw[NA (fun z:b=a=>nf q u (by rw[<- z];exact e))];exact e⟩
 · rw[NA (fun z=>n (by rw[z];exact ha))];exact e
 · by_cases hb:b=a
   · subst hb;rw[LC]at e;cases e
   · rw[NA hb]at e;exact e
structure ud(ρ ρ':Rg)(H H':Hp):Prop where
 no:∀a u,H a=some u->ρ.no a->ρ'.no a
 eq:∀a u,H a=some u->ρ.no a->H' a=some u
 ix:∀(n:Nat) a,ρ.v[n]?=some a->ρ'.v[n]?=some a
 fz:∀a o u,H a=some (.Jb o u)->H' a=some (.Jb o u)
theorem Ext.same{ρ ρ':Rg}{H H':Hp}(x:Ext ρ ρ' H H'):ud ρ ρ' H H':=⟨fun _ _ e n=>x.Vl e n,fun _ _ e n=>x.keep _ _ e n.1,fun _ _ e=>x.get e,x.fz⟩
theorem ud.trans{ρ ρ1 ρ2:Rg}{H H1 H2:Hp}(x:ud ρ ρ1 H H1)(y:ud ρ1 ρ2 H1 H2):ud ρ ρ2 H H2:=
 ⟨fun a u e n=>y.no a u (x.eq a u e n) (x.no a u e n),fun a u e n=>y.eq a u (x.eq a u e n) (x.no a u e n),fun n a e=>y.ix n a (x.ix n a e),fun a o u e=>y.fz a o u (x.fz a o u e)⟩
theorem TupAt.same{K:Frag}{ρ ρ':Rg}{H H':Hp}(x:ud ρ ρ' H H'){a:Addr}{vs:List V}(h:TupAt K H ρ a vs):TupAt K H' ρ' a vs:=by
 rcases h with⟨n,t | ⟨y,t⟩⟩ | t
 · exact .inl ⟨x.no _ _ t n,.inl (x.eq _ _ t n)⟩
 · exact .inl ⟨x.no _ _ t n,.inr ⟨y,x.eq _ _ t n⟩⟩
 · exact .inr t
theorem LstAt.same{K:Frag}{ρ ρ':Rg}{H H':Hp}(x:ud ρ ρ' H H'){a:Addr}{vs:List V}(h:LstAt K H ρ a vs):LstAt K H' ρ' a vs:=by
 rcases h with⟨n,t | ⟨y,t⟩⟩ | t
 · exact .inl ⟨x.no _ _ t n,.inl (x.eq _ _ t n)⟩
 · exact .inl ⟨x.no _ _ t n,.inr ⟨y,x.eq _ _ t n⟩⟩
 · exact .inr t
mutual
theorem Yr.same{K:Frag}{ρ ρ':Rg}{H H':Hp}(x:ud ρ ρ' H H'):∀(d:Dt){v:V},Yr K H ρ d v->Yr K H' ρ' d v
 | .non,_,h=>by simp only[Yr]at h ⊢;exact h
 | .bl _,_,h=>by simp only[Yr]at h ⊢;exact h
 | .int _,_,h=>by simp only[Yr]at h ⊢;exact h
 | .str _,_,h=>by simp only[Yr]at h ⊢;exact h
 | .tup xs,_,h=>by simp only[Yr]at h ⊢;obtain⟨a,vs,e,t,r⟩:=h;exact⟨a,vs,e,t.same x,Wr.same x xs r⟩
 | .lst xs,_,h=>by simp only[Yr]at h ⊢;obtain⟨a,vs,e,t,r⟩:=h;exact⟨a,vs,e,t.same x,Wr.same x xs r⟩
 | .ref _,_,h=>by simp only[Yr]at h ⊢;obtain⟨a,e,t⟩:=h;exact⟨a,e,x.ix _ _ t⟩
 | .uc _,_,h=>by simp only[Yr]at h ⊢;obtain⟨a,e,n,t⟩:=h;exact⟨a,e,x.no _ _ t n,x.eq _ _ t n⟩
theorem Wr.same{K:Frag}{ρ ρ':Rg}{H H':Hp}(x:ud ρ ρ' H H'):∀(ds:List Dt){vs:List V},Wr K H ρ ds vs->Wr K H' ρ' ds vs
 | [],_,h=>by simp only[Wr]at h ⊢;exact h
 | d::ds,_,h=>by simp only[Wr]at h ⊢;obtain⟨v,r,e,h1,h2⟩:=h;exact⟨v,r,e,Yr.same x d h1,Wr.same x ds h2⟩
end
theorem Yr.ext{K:Frag}{ρ ρ':Rg}{H H':Hp}(x:Ext ρ ρ' H H')(d:Dt){v:V}(h:Yr K H ρ d v):Yr K H' ρ' d v:=Yr.same x.same d h
theorem Wr.ext{K:Frag}{ρ ρ':Rg}{H H':Hp}{ds:List Dt}{vs:List V}(h:Wr K H ρ ds vs)(x:Ext ρ ρ' H H'):Wr K H' ρ' ds vs:=Wr.same x.same ds h
section
variable{K:Frag}{H:Hp}{ρ:Rg}
theorem Wr.nil:Wr K H ρ [] []:=by simp only[Wr]
theorem Wr.cons{d:Dt}{v:V}{ds:List Dt}{vs:List V}(h:Yr K H ρ d v)(r:Wr K H ρ ds vs):Wr K H ρ (d::ds) (v::vs):=by simp only[Wr];exact⟨v,vs,rfl,h,r⟩
theorem Wr.Bf{d:Dt}{ds:List Dt}{vs:List V}(h:Wr K H ρ (d::ds) vs):∃v r,vs=v::r/\Yr K H ρ d v/\Wr K H ρ ds r:=by simpa only[Wr]using h
theorem Wr.vd{vs:List V}(h:Wr K H ρ [] vs):vs=[]:=by simpa only[Wr]using h
theorem Wr.length:∀{ds:List Dt}{vs:List V},Wr K H ρ ds vs->vs.length=ds.length
 | [],_,h=>by rw[h.vd];rfl
 | d::ds,_,h=>by obtain⟨v,r,rfl,_,h2⟩:=h.Bf;rw[zdF,zdF,Wr.length h2]
theorem Wr.get:∀{ds:List Dt}{vs:List V}{i:Nat}{d:Dt},Wr K H ρ ds vs->ds[i]?=some d->∃v,vs[i]?=some v/\Yr K H ρ d v
 | [],_,_,_,_,e=>by simp at e
 | d::ds,_,0,_,h,e=>by obtain⟨v,r,rfl,h1,_⟩:=h.Bf;simp at e;subst e;exact⟨v,rfl,h1⟩
 | d::ds,_,i+1,d',h,e=>by obtain⟨v,r,rfl,_,h2⟩:=h.Bf;obtain⟨u,q1,q2⟩:=Wr.get (i:=i) h2 (by simpa using e);exact⟨u,by simpa using q1,q2⟩
theorem Wr.append:∀{ds es:List Dt}{vs us:List V},Wr K H ρ ds vs->Wr K H ρ es us->Wr K H ρ (ds++es) (vs++us)
 | [],_,_,_,h,h'=>by rw[h.vd];exact h'
 | d::ds,_,_,_,h,h'=>by obtain⟨v,r,rfl,h1,h2⟩:=h.Bf;exact .cons h1 (Wr.append h2 h')
theorem Wr.set:∀{ds:List Dt}{vs:List V}{d:Dt}{v:V}(i:Nat),Wr K H ρ ds vs->Yr K H ρ d v->Wr K H ρ (ds.set i d) (vs.set i v)
 | [],_,_,_,_,h,_=>by rw[h.vd];exact .nil
 | d::ds,_,_,_,0,h,q=>by obtain⟨v,r,rfl,h1,h2⟩:=h.Bf;exact .cons q h2
 | d::ds,_,_,_,i+1,h,q=>by obtain⟨v,r,rfl,h1,h2⟩:=h.Bf;exact .cons h1 (Wr.set i h2 q)
theorem Wr.take:∀{ds:List Dt}{vs:List V}(n:Nat),Wr K H ρ ds vs->Wr K H ρ (ds.take n) (vs.take n)
 | [],_,n,h=>by rw[h.vd];simp;exact .nil
 | d::ds,_,0,h=>.nil
 | d::ds,_,n+1,h=>by obtain⟨v,r,rfl,h1,h2⟩:=h.Bf;exact .cons h1 (Wr.take n h2)
theorem Wr.drop:∀{ds:List Dt}{vs:List V}(n:Nat),Wr K H ρ ds vs->Wr K H ρ (ds.drop n) (vs.drop n)
 | [],_,n,h=>by rw[h.vd];simp;exact .nil
 | d::ds,_,0,h=>h
 | d::ds,_,n+1,h=>by obtain⟨v,r,rfl,h1,h2⟩:=h.Bf;exact Wr.drop n h2
theorem Wr.ints(ns:List Int):Wr K H ρ (ns.map Dt.int) (ns.map V.int):=by
 induction ns with
 | nil=>exact .nil
 | cons n ns ih=>exact .cons (by simp only[Yr]) ih
theorem Wr.Ib:∀{ns:List Int}{vs:List V},Wr K H ρ (ns.map Dt.int) vs->vs=ns.map V.int
 | [],_,h=>h.vd
 | n::ns,_,h=>by obtain⟨v,r,rfl,h1,h2⟩:=Wr.Bf h;simp only[Yr]at h1;rw[h1,Wr.Ib h2];rfl
theorem Xr{i:Int}{v:V}:Yr K H ρ (.int i) v↔v=.int i:=by simp only[Yr]
theorem Zr{i:Bool}{v:V}:Yr K H ρ (.bl i) v↔v=.bl i:=by simp only[Yr]
theorem Df{i:Str}{v:V}:Yr K H ρ (.str i) v↔v=.str i:=by simp only[Yr]
theorem Af{v:V}:Yr K H ρ .non v↔v=.non:=by simp only[Yr]
theorem vf{xs:List Dt}{v:V}:Yr K H ρ (.tup xs) v↔∃a vs,v=.ref a/\TupAt K H ρ a vs/\Wr K H ρ xs vs:=by simp only[Yr]
theorem jf{xs:List Dt}{v:V}:Yr K H ρ (.lst xs) v↔∃a vs,v=.ref a/\LstAt K H ρ a vs/\Wr K H ρ xs vs:=by simp only[Yr]
theorem Vd{xs:List Int}{v:V}:Yr K H ρ (.uc xs) v↔∃a,v=.ref a/\ρ.no a/\H a=some (.tup (xs.map V.int)):=by simp only[Yr]
theorem zf{n:Nat}{v:V}:Yr K H ρ (.ref n) v↔∃a,v=.ref a/\ρ.v[n]?=some a:=by simp only[Yr]
end
def Lb(K:Frag)(H:Hp)(ρ:Rg)(a:Addr):Ob->Prop
 | .lst xs=>∃vs,H a=some (.lst vs)/\Wr K H ρ xs vs
 | .ins x fs=>∃C dx vs,nsIn K mainGlobals x=some (some (.ref C))/\H a=some (.ins C dx vs)/\fs.map (·.1)=vs.map (·.1)/\Wr K H ρ (fs.map (·.2)) (vs.map (·.2))
 | .dk kvs=>∃vs,H a=some (.dK vs)/\kvs.map (·.1)=vs.map (·.1)/\Wr K H ρ (kvs.map (·.2)) (vs.map (·.2))
 | .dt kvs=>∃vs:List (List WB×V),H a=some (.dT vs)/\vs.map (·.1)=kvs.map (fun p=>p.1.map Sum.inl)/\Wr K H ρ (kvs.map (·.2)) (vs.map (·.2))
 | .df kvs=>∃(o:Obj)(vs:List (List WB×V)),H a=some (.Jb o (.dT vs))/\vs.map (·.1)=kvs.map (fun p=>p.1.map Sum.inl)/\Wr K H ρ (kvs.map (·.2)) (vs.map (·.2))
structure uf(K:Frag)(ρ:Rg)(h:HI)(H:Hp):Prop where
 nd:ρ.v.Nodup
 len:ρ.v.length=h.length
 ob:∀(n:Nat) a o,ρ.v[n]?=some a->h[n]?=some o->Lb K H ρ a o
 zt:∀a∈ρ.z,a∉ρ.v/\∃vs,H a=some (.lst vs)
theorem Lb.ext{K:Frag}{H H':Hp}{ρ ρ':Rg}{a:Addr}{o:Ob}(x:Ext ρ ρ' H H')(e:H' a=H a)(h:Lb K H ρ a o):Lb K H' ρ' a o:=by
 cases o with
 | lst xs=>obtain⟨vs,h1,h2⟩:=h;exact⟨vs,e.trans h1,h2.ext x⟩
 | ins y fs=>obtain⟨C,dx,vs,h0,h1,h2,h3⟩:=h;exact⟨C,dx,vs,h0,e.trans h1,h2,h3.ext x⟩
 | dk kvs=>obtain⟨vs,h1,h2,h3⟩:=h;exact⟨vs,e.trans h1,h2,h3.ext x⟩
 | dt kvs=>obtain⟨vs,h1,h2,h3⟩:=h;exact⟨vs,e.trans h1,h2,h3.ext x⟩
 | df kvs=>obtain⟨o,vs,h1,h2,h3⟩:=h;exact⟨o,vs,e.trans h1,h2,h3.ext x⟩
theorem Lb.some{K:Frag}{H:Hp}{ρ:Rg}{a:Addr}{o:Ob}(h:Lb K H ρ a o):∃u,H a=some u:=by
 cases o with
 | lst xs=>obtain⟨vs,h1,_⟩:=h;exact⟨_,h1⟩
 | ins y fs=>obtain⟨C,dx,vs,_,h1,_⟩:=h;exact⟨_,h1⟩
 | dk kvs=>obtain⟨vs,h1,_⟩:=h;exact⟨_,h1⟩
 | dt kvs=>obtain⟨vs,h1,_⟩:=h;exact⟨_,h1⟩
 | df kvs=>obtain⟨o,vs,h1,_⟩:=h;exact⟨_,h1⟩
section
variable{K:Frag}{H H':Hp}{ρ:Rg}{h:HI}
theorem uf.nil:uf K .nil [] H:=⟨nodup_nil,rfl,fun _ _ _ e=>by simp[Rg.nil]at e,fun _ h=>nomatch h⟩
theorem uf.tracked(S:uf K ρ h H){a:Addr}(ha:a∈ρ.v):∃u,H a=some u:=by
 obtain⟨n,hn⟩:=mem_iff_getElem?.mp ha;have hl:n<h.length:=by rw[<- S.len];exact(zdP hn).1
 exact(S.ob n a _ hn (getElem?_eq_getElem hl)).some
theorem uf.out(S:uf K ρ h H){p:Addr}(hp:H p=none):ρ.no p:=by
 refine⟨fun ha=>?_,fun ha=>?_⟩
 · obtain⟨u,e⟩:=S.tracked ha;rw[hp]at e;cases e
 · obtain⟨_,u,e⟩:=S.zt p ha;rw[hp]at e;cases e
theorem uf.fresh(S:uf K ρ h H){p:Addr}{o:HO}(hp:H p=none):uf K ρ h (yB H p o):=
 ⟨S.nd,S.len,fun n a u e1 e2=>(S.ob n a u e1 e2).ext (Ext.fresh hp) (NA (fun z=>(S.out hp).1 (z ▸ mem_of_getElem? e1))),fun a ha=>by
  obtain⟨n,u,e⟩:=S.zt a ha;exact⟨n,u,by rw[NA (XC e hp)];exact e⟩⟩
theorem uf.own(S:uf K ρ h H){p:Addr}{o:HO}{u:Ob}(hp:H p=none)(hu:Lb K (yB H p o) (ρ.add p) p u):uf K (ρ.add p) (h++[u]) (yB H p o):=by
 refine⟨?_,by simp only[Rg.add];rw[length_append,length_append,S.len];rfl,fun n a ob e1 e2=>?_,fun a ha=>?_⟩
 · simp only[Rg.add];rw[nodup_append];refine⟨S.nd,nodup_cons.mpr ⟨by simp,nodup_nil⟩,fun a ha b hb=>?_⟩;rw[mem_singleton.mp hb];intro z;exact(S.out hp).1 (z ▸ ha)
 · simp only[Rg.add]at e1;by_cases hn:n<h.length
   · rw[zdQ hn]at e2;rw[zdQ (by rw[S.len];exact hn)]at e1;exact(S.ob n a ob e1 e2).ext (Ext.own hp) (NA (fun z=>(S.out hp).1 (z ▸ mem_of_getElem? e1)))
   · have hn':h.length<=n:=Nat.not_lt.mp hn;rw[zdT hn']at e2;rw[zdT (by rw[S.len];exact hn'),S.len]at e1;cases hk:n-h.length with
     | zero=>rw[hk]at e1 e2;simp at e1 e2;subst e1 e2;exact hu
     | succ k=>rw[hk]at e2;simp at e2
 · obtain⟨n,u,e⟩:=S.zt a ha;refine⟨fun hm=>?_,u,by rw[NA (XC e hp)];exact e⟩;simp only[Rg.add]at hm;rcases mem_append.mp hm with hm | hm
   · exact n hm
   · rw[mem_singleton.mp hm,hp]at e;cases e
theorem uf.write(S:uf K ρ h H){n:Nat}{p:Addr}{o:HO}{u:Ob}(hn:ρ.v[n]?=some p)(nf:eU H p)(hu:Lb K (yB H p o) ρ p u):uf K ρ (h.set n u) (yB H p o):=by
 refine⟨S.nd,by rw[length_set];exact S.len,fun m a ob e1 e2=>?_,fun a ha=>?_⟩
 · by_cases hm:m=n
   · subst hm;rw[hn]at e1;cases e1;have hl:m<h.length:=by rw[<- S.len];exact(zdP hn).1
     rw[getElem?_set_self hl]at e2;cases e2;exact hu
   · rw[getElem?_set_ne (Ne.symm hm)]at e2;refine(S.ob m a ob e1 e2).ext (Ext.write (mem_of_getElem? hn) nf) (NA fun z=>hm ?_);subst z;obtain⟨h1,q1⟩:=zdP e1;obtain⟨h2,q2⟩:=zdP hn;exact(getElem_inj S.nd).mp (q1.trans q2.symm)
 · obtain⟨m,w,e⟩:=S.zt a ha;exact⟨m,w,by rw[NA (fun z=>m (by rw[z];exact mem_of_getElem? hn))];exact e⟩
theorem uf.lst(S:uf K ρ h H){n:Nat}{a:Addr}{xs:List Dt}(hn:ρ.v[n]?=some a)(e:h[n]?=some (.lst xs)):∃vs,H a=some (.lst vs)/\Wr K H ρ xs vs:=S.ob n a _ hn e
end
structure Zf(K:Frag)(H:Hp)(ρ:Rg)(l:LI)(σ:L2.St):Prop where
 len:l.length=σ.length
 val:∀(i:Nat) d,l[i]?=some (some d)->∃v,σ[i]?=some (some v)/\Yr K H ρ d v
theorem Zf.ext{K:Frag}{H H':Hp}{ρ ρ':Rg}{l:LI}{σ:L2.St}(L:Zf K H ρ l σ)(x:Ext ρ ρ' H H'):Zf K H' ρ' l σ:=
 ⟨L.len,fun i d e=>let ⟨v,e1,r⟩:=L.val i d e;⟨v,e1,Yr.ext x d r⟩⟩
theorem Zf.set{K:Frag}{H:Hp}{ρ:Rg}{l:LI}{σ:L2.St}(L:Zf K H ρ l σ){d:Dt}{v:V}(i:Nat)(r:Yr K H ρ d v):Zf K H ρ (l.set i (some d)) (σ.set i (some v)):=by
 refine⟨by rw[length_set,length_set];exact L.len,fun j d' e=>?_⟩;by_cases hj:j=i
 · subst hj;have hl:j<l.length:=by have:=(zdP e).1;rwa[length_set]at this
   rw[getElem?_set_self hl]at e;cases e;exact⟨v,getElem?_set_self (by rw[<- L.len];exact hl),r⟩
 · rw[getElem?_set_ne (Ne.symm hj)]at e;rw[getElem?_set_ne (Ne.symm hj)];exact L.val j d' e
abbrev RE:=LI->HI->Option (Dt×HI)
abbrev RT:=LI->HI->Option (Bool×HI)
abbrev RA:=LI->HI->Option (List Dt×HI)
inductive Rs where
 | nx (l:LI) (h:HI) | rt (d:Dt) (h:HI) | bk (l:LI) (h:HI) | ct (l:LI) (h:HI)
abbrev RS:=LI->HI->Option Rs
abbrev tD:=Dt->Dt->HI->Option (Dt×HI)
abbrev LB:=List Dt->HI->Option (Dt×HI)
noncomputable def sB:Expr->Bool
 | .Starred _ _=>false
 | _=>true
theorem lB{e:Expr}(h:sB e=true)(es:List Expr)(env:Env):starEach (e::es) env=(false,eval e env)::starEach es env:=by cases e<;>first | rfl | (exact absurd h zdR)
theorem iJ{pos:Pos}{env:Env}:∀{es:List Expr},es.all sB=true->(backTo pos (starEach es env)).any (·.1)=false
 | [],_=>rfl
 | e::es,h=>by rw[all_cons,Bool.and_eq_true]at h;have ih:=iJ (pos:=pos) (env:=env) h.2;rw[lB h.1];unfold backTo at ih ⊢;simp only[zdH,any_cons,Bool.false_or];exact ih
theorem aS{pos:Pos}{env:Env}{b:Expr}(h:sB b=true):((backTo pos (starEach [b] env)).all (fun x=>!x.1)&&(backToKw pos (keywordEach [] env)).all (fun x=>x.1.isSome)
 && decide ([b].length+([]:List Keyword).length+(if([]:List Keyword).isEmpty then 0 else 1)<30))=true:=by
 rw[lB h];rfl
def Out(K:Frag)(ρ:Rg)(H:Hp)(d:Dt)(h':HI)(Q:VK):Prop:=
 ∀ρ' v H',Yr K H' ρ' d v->uf K ρ' h' H'->Ext ρ ρ' H H'->Q v H'
noncomputable def Hl(K:Frag)(ρ:Rg)(H:Hp)(h':HI)(Q:Hp->Prop):Prop:=
 ∀ρ' H',uf K ρ' h' H'->Ext ρ ρ' H H'->Q H'
def tM(K:Frag)(f:RE):TE:=fun σ H Q=>∃ρ l h d h',uf K ρ h H/\Zf K H ρ l σ/\f l h=some (d,h')/\Out K ρ H d h' Q
def MO(K:Frag)(f:RT):TT:=fun σ H Q=>∃ρ l h b h',uf K ρ h H/\Zf K H ρ l σ/\f l h=some (b,h')/\Hl K ρ H h' (Q b)
def Bt(K:Frag)(f:RA):TA:=fun σ H Q=>∃ρ l h ds h',uf K ρ h H/\Zf K H ρ l σ/\f l h=some (ds,h')/\∀ρ' vs H',Wr K H' ρ' ds vs->uf K ρ' h' H'->Ext ρ ρ' H H'->Q vs H'
def rM(K:Frag)(op:tD):R2:=fun x y H Q=>∃ρ h d1 d2 d h',uf K ρ h H/\Yr K H ρ d1 x/\Yr K H ρ d2 y/\op d1 d2 h=some (d,h')/\Out K ρ H d h' Q
def Ip(K:Frag)(ρ:Rg)(H:Hp)(D:wH):Rs->Prop
 | .nx l h=>∀ρ' σ' H',uf K ρ' h H'->Zf K H' ρ' l σ'->Ext ρ ρ' H H'->D.nx σ' H'
 | .bk l h=>∀ρ' σ' H',uf K ρ' h H'->Zf K H' ρ' l σ'->Ext ρ ρ' H H'->D.bk σ' H'
 | .ct l h=>∀ρ' σ' H',uf K ρ' h H'->Zf K H' ρ' l σ'->Ext ρ ρ' H H'->D.ct σ' H'
 | .rt d h=>Out K ρ H d h D.rt
def sM(K:Frag)(f:RS):TS:=fun D σ H=>∃ρ l h r,uf K ρ h H/\Zf K H ρ l σ/\f l h=some r/\Ip K ρ H D r
theorem Out.ext{K:Frag}{ρ ρ1:Rg}{H H1:Hp}{d:Dt}{h':HI}{Q:VK}(k:Out K ρ H d h' Q)(x:Ext ρ ρ1 H H1):Out K ρ1 H1 d h' Q:=fun ρ' v H' r s e=>k ρ' v H' r s (x.trans e)
theorem Hl.ext{K:Frag}{ρ ρ1:Rg}{H H1:Hp}{h':HI}{Q:Hp->Prop}(k:Hl K ρ H h' Q)(x:Ext ρ ρ1 H H1):Hl K ρ1 H1 h' Q:=fun ρ' H' s e=>k ρ' H' s (x.trans e)
theorem Ip.ext{K:Frag}{ρ ρ1:Rg}{H H1:Hp}{D:wH}{r:Rs}(k:Ip K ρ H D r)(x:Ext ρ ρ1 H H1):Ip K ρ1 H1 D r:=by
 cases r with
 | nx l h=>exact fun ρ' σ' H' s l e=>k ρ' σ' H' s l (x.trans e)
 | bk l h=>exact fun ρ' σ' H' s l e=>k ρ' σ' H' s l (x.trans e)
 | ct l h=>exact fun ρ' σ' H' s l e=>k ρ' σ' H' s l (x.trans e)
 | rt d h=>exact Out.ext k x
@[irreducible] def EM(X:Cx)(e:Expr)(f:RE):Prop:=PE X e (tM X.K f)
@[irreducible] def TM(X:Cx)(e:Expr)(f:RT):Prop:=PT X e (MO X.K f)
@[irreducible] def WM(X:Cx)(e:Expr)(f:RT):Prop:=PW X e (MO X.K f)
@[irreducible] def AM(X:Cx)(es:List Expr)(f:RA):Prop:=PA X es (Bt X.K f)
@[irreducible] def OM(X:Cx)(f:Value->Value->Sem Value)(op:tD):Prop:=Gd X f (rM X.K op)
@[irreducible] def ZM(X:Cx)(st:Stmt)(f:RS):Prop:=PS X st (sM X.K f)
@[irreducible] def DH(X:Cx)(st:List Stmt)(f:RS):Prop:=Qn X st (sM X.K f)
theorem PE.imp{X:Cx}{e:Expr}{t t':TE}(h:PE X e t)(i:∀σ H Q,t' σ H Q->t σ H Q):PE X e t':=fun pins s σ H Q I q=>h pins s σ H Q I (i σ H Q q)
theorem PT.imp{X:Cx}{e:Expr}{t t':TT}(h:PT X e t)(i:∀σ H Q,t' σ H Q->t σ H Q):PT X e t':=fun pins s σ H Q I q=>h pins s σ H Q I (i σ H Q q)
theorem PW.imp{X:Cx}{e:Expr}{t t':TT}(h:PW X e t)(i:∀σ H Q,t' σ H Q->t σ H Q):PW X e t':=fun wh pins s σ H Q I q=>h wh pins s σ H Q I (i σ H Q q)
theorem PA.imp{X:Cx}{e:List Expr}{t t':TA}(h:PA X e t)(i:∀σ H Q,t' σ H Q->t σ H Q):PA X e t':=fun pos pins s σ H Q I q=>h pos pins s σ H Q I (i σ H Q q)
theorem PS.imp{X:Cx}{e:Stmt}{t t':TS}(h:PS X e t)(i:∀D σ H,t' D σ H->t D σ H):PS X e t':=fun pins s σ H D I q=>h pins s σ H D I (i D σ H q)
theorem Qn.imp{X:Cx}{e:List Stmt}{t t':TS}(h:Qn X e t)(i:∀D σ H,t' D σ H->t D σ H):Qn X e t':=fun pins s σ H D I q=>h pins s σ H D I (i D σ H q)
theorem Gd.imp{X:Cx}{f:Value->Value->Sem Value}{t t':R2}(h:Gd X f t)(i:∀x y H Q,t' x y H Q->t x y H Q):Gd X f t':=fun pins s σ H x y v u Q I r1 r2 q=>h pins s σ H x y v u Q I r1 r2 (i x y H Q q)
noncomputable def eC(d:Dt):RE:=fun _ h=>some (d,h)
noncomputable def eV(i:Nat):RE:=fun l h=>match l[i]? with | some (some d)=>some (d,h) | _=>none
noncomputable def e2(op:tD)(fa fb:RE):RE:=fun l h=>(fa l h).bind fun r=>(fb l r.2).bind fun q=>op r.1 q.1 q.2
noncomputable def fA:RA:=fun _ h=>some ([],h)
noncomputable def bA(f:RE)(g:RA):RA:=fun l h=>(f l h).bind fun r=>(g l r.2).bind fun q=>some (r.1::q.1,q.2)
section
variable{X:Cx}{a b c:Expr}{fa fb fc:RE}{pos:Pos}
theorem dA{i j pos}:EM X (.Constant (.int i) j pos) (eC (.int i)):=by with_unfolding_all exact PE.imp Bk fun σ H Q zz=>by obtain⟨ρ,l,h,d,h',S,L,e,k⟩:=zz;cases e;exact k ρ _ H (Xr.mpr rfl) S (Ext.refl _ _)
theorem qH{i j pos}:EM X (.Constant (.bool i) j pos) (eC (.bl i)):=by with_unfolding_all exact PE.imp Ry fun σ H Q zz=>by obtain⟨ρ,l,h,d,h',S,L,e,k⟩:=zz;cases e;exact k ρ _ H (Zr.mpr rfl) S (Ext.refl _ _)
theorem ED{i j pos}:EM X (.Constant (.str i) j pos) (eC (.str i)):=by with_unfolding_all exact PE.imp Gk fun σ H Q zz=>by obtain⟨ρ,l,h,d,h',S,L,e,k⟩:=zz;cases e;exact k ρ _ H (Df.mpr rfl) S (Ext.refl _ _)
theorem qF{j pos}:EM X (.Constant .none j pos) (eC .non):=by with_unfolding_all exact PE.imp Ck fun σ H Q zz=>by obtain⟨ρ,l,h,d,h',S,L,e,k⟩:=zz;cases e;exact k ρ _ H (Af.mpr rfl) S (Ext.refl _ _)
theorem aA (i:Nat) {x:Str} {pos:Pos} (hN:X.N[i]?=some x:=by rfl) (hv:CZ X.env.scope x:=by first | exact Or.inl rfl | exact Or.inr (Or.inl rfl) | exact Or.inr (Or.inr rfl)) (hd:(x==("__debug__" :Str))=false:=by decide)
 (hcd:(x==("__classdict__" :Str))=false:=by decide):EM X (.Name x pos) (eV i):=by
 with_unfolding_all
  exact PE.imp (Ik hN hv hd hcd) fun σ H Q zz=>by
   obtain⟨ρ,l,h,d,h',S,L,e,k⟩:=zz;unfold eV at e;split at e
   · rename_i d' q;cases e;obtain⟨v,e1,r⟩:=L.val i _ q;exact⟨v,e1,k ρ v H r S (Ext.refl _ _)⟩
   · cases e
theorem Lq {x:Str} {v:V} {u:Value} {d:Dt} {pos:Pos} (hg:Gl X x) (hm:X.mg x=some u) (r:RelV v u) (rd:∀H ρ,Yr X.K H ρ d v) (hd:(x==("__debug__" :Str))=false:=by decide):EM X (.Name x pos) (eC d):=by with_unfolding_all exact PE.imp (Qv hg hm r hd) fun σ H Q zz=>by obtain⟨ρ,l,h,d',h',S,L,e,k⟩:=zz;cases e;exact k ρ v H (rd H ρ) S (Ext.refl _ _)
theorem lA{α β:Type}{o:Option α}{f:α->Option β}{b:β}(h:o.bind f=some b):∃a,o=some a/\f a=some b:=by
 cases o with
 | none=>cases h
 | some a=>exact⟨a,rfl,h⟩
theorem vA{op:Operator}{o:tD}(ho:OM X (binaryOp op) o)(ha:EM X a fa)(hb:EM X b fb):EM X (.BinOp a op b pos) (e2 o fa fb):=by
 with_unfolding_all
  exact PE.imp (sT ho ha hb) fun σ H Q zz=>by
   obtain⟨ρ,l,h,d,h',S,L,e,k⟩:=zz;obtain⟨⟨d1,h1⟩,e1,e⟩:=lA e;obtain⟨⟨d2,h2⟩,e2,e⟩:=lA e;exact⟨ρ,l,h,d1,h1,S,L,e1,fun ρ1 x H1 R1 S1 E1=>⟨ρ1,l,h1,d2,h2,S1,L.ext E1,e2,fun ρ2 y H2 R2 S2 E2=>
    ⟨ρ2,h2,d1,d2,d,h',S2,Yr.ext E2 _ R1,R2,e,k.ext (E1.trans E2)⟩⟩⟩
theorem iG{op:CmpOp}{o:tD}(ho:OM X (compareOp op) o)(ha:EM X a fa)(hb:EM X b fb)(hm:behindInMarks op b=false:=by first | exact DY _ | with_unfolding_all rfl):EM X (.Compare a [op] [b] pos) (e2 o fa fb):=by
 with_unfolding_all
  exact PE.imp (Ov ho ha hb hm) fun σ H Q zz=>by
   obtain⟨ρ,l,h,d,h',S,L,e,k⟩:=zz;obtain⟨⟨d1,h1⟩,e1,e⟩:=lA e;obtain⟨⟨d2,h2⟩,e2,e⟩:=lA e;exact⟨ρ,l,h,d1,h1,S,L,e1,fun ρ1 x H1 R1 S1 E1=>⟨ρ1,l,h1,d2,h2,S1,L.ext E1,e2,fun ρ2 y H2 R2 S2 E2=>
    ⟨ρ2,h2,d1,d2,d,h',S2,Yr.ext E2 _ R1,R2,e,k.ext (E1.trans E2)⟩⟩⟩
noncomputable def Wf(f:RE):RT:=fun l h=>(f l h).bind fun r=>match r.1 with | .bl b=>some (b,r.2) | _=>none
theorem NB{op:CmpOp}{o:tD}(ho:OM X (compareOp op) o)(ha:EM X a fa)(hb:EM X b fb)(hm:behindInMarks op b=false:=by first | exact DY _ | with_unfolding_all rfl):TM X (.Compare a [op] [b] pos) (Wf (e2 o fa fb)):=by
 with_unfolding_all
  exact PT.imp (jw ho ha hb hm) fun σ H Q zz=>by
   obtain⟨ρ,l,h,bb,h',S,L,e,k⟩:=zz;obtain⟨⟨d,h3⟩,e0,e⟩:=lA e;obtain⟨⟨d1,h1⟩,e1,e0⟩:=lA e0;obtain⟨⟨d2,h2⟩,e2,e0⟩:=lA e0;refine⟨ρ,l,h,d1,h1,S,L,e1,fun ρ1 x H1 R1 S1 E1=>⟨ρ1,l,h1,d2,h2,S1,L.ext E1,e2,fun ρ2 y H2 R2 S2 E2=>
    ⟨ρ2,h2,d1,d2,d,h3,S2,Yr.ext E2 _ R1,R2,e0,fun ρ3 v H3 R3 S3 E3=>?_⟩⟩⟩
   cases d with
   | bl q=>cases e;exact⟨bb,Zr.mp R3,k ρ3 H3 S3 (E1.trans (E2.trans E3))⟩
   | _=>cases e
theorem MG{e:Expr}{f:RE}(h:EM X e f)(he:∀whole,isTrue e X.env whole=(do let v <- whole;standAt e.pos;holding [v] (truthy v)):=by intro _;rfl):TM X e (Wf f):=by
 with_unfolding_all
  exact PT.imp (Iw h he) fun σ H Q zz=>by
   obtain⟨ρ,l,h,bb,h',S,L,e,k⟩:=zz;obtain⟨⟨d,h3⟩,e0,e⟩:=lA e;refine⟨ρ,l,h,d,h3,S,L,e0,fun ρ3 v H3 R3 S3 E3=>?_⟩;cases d with
   | bl q=>cases e;exact⟨bb,Zr.mp R3,k ρ3 H3 S3 E3⟩
   | _=>cases e
noncomputable def LF(o o':tD)(fa fb fc:RE):RE:=fun l h=>(fa l h).bind fun r=>(fb l r.2).bind fun q=>(o r.1 q.1 q.2).bind fun z=>match z.1 with
 | .bl true=>(fc l z.2).bind fun y=>o' q.1 y.1 y.2
 | .bl false=>some (.bl false,z.2)
 | _=>none
theorem qV{r r':tD}{σ:L2.St}{H:Hp}{Q:VK}(h:tM X.K (LF r r' fa fb fc) σ H Q):fT (rM X.K r) (rM X.K r') (tM X.K fa) (tM X.K fb) (tM X.K fc) σ H Q:=by
 obtain⟨ρ,l,h,d,h',S,L,e,k⟩:=h;obtain⟨⟨d1,h1⟩,e1,e⟩:=lA e;obtain⟨⟨d2,h2⟩,e2,e⟩:=lA e;obtain⟨⟨d3,h3⟩,e3,e⟩:=lA e;refine⟨ρ,l,h,d1,h1,S,L,e1,fun ρ1 x H1 R1 S1 E1=>⟨ρ1,l,h1,d2,h2,S1,L.ext E1,e2,fun ρ2 y H2 R2 S2 E2=>
  ⟨ρ2,h2,d1,d2,d3,h3,S2,Yr.ext E2 _ R1,R2,e3,fun ρ3 v H3 R3 S3 E3=>?_⟩⟩⟩
 cases d3 with
 | bl q=>
  refine⟨q,Zr.mp R3,?_⟩;cases q with
  | true=>dsimp only at e;obtain⟨⟨d4,h4⟩,e4,e⟩:=lA e;refine WG ⟨ρ3,l,h3,d4,h4,S3,(L.ext (E1.trans (E2.trans E3))),e4,fun ρ4 u H4 R4 S4 E4=>⟨ρ4,h4,d2,d4,d,h',S4,Yr.ext (E3.trans E4) _ R2,R4,e,k.ext (E1.trans (E2.trans (E3.trans E4)))⟩⟩
  | false=>cases e;exact VG (k ρ3 _ H3 (Zr.mpr rfl) S3 (E1.trans (E2.trans E3)))
 | _=>cases e
theorem sW{op op':CmpOp}{r r':tD}(ho:OM X (compareOp op) r)(ho':OM X (compareOp op') r')(ha:EM X a fa)(hb:EM X b fb)(hc:EM X c fc)
 (hm:lastMarks [op,op'] [b,c]=false:=by with_unfolding_all rfl):EM X (.Compare a [op,op'] [b,c] pos) (LF r r' fa fb fc):=by
 with_unfolding_all exact PE.imp (Hj ho ho' ha hb hc hm) fun _ _ _ h=>qV h
theorem CN{op op':CmpOp}{r r':tD}(ho:OM X (compareOp op) r)(ho':OM X (compareOp op') r')(ha:EM X a fa)(hb:EM X b fb)(hc:EM X c fc)
 (hm:lastMarks [op,op'] [b,c]=false:=by with_unfolding_all rfl):TM X (.Compare a [op,op'] [b,c] pos) (Wf (LF r r' fa fb fc)):=by
 with_unfolding_all
  exact PT.imp (Uj ho ho' ha hb hc hm) fun σ H Q zz=>by
   obtain⟨ρ,l,h,bb,h',S,L,e,k⟩:=zz;obtain⟨⟨d,h3⟩,e0,e⟩:=lA e;refine qV ⟨ρ,l,h,d,h3,S,L,e0,fun ρ3 v H3 R3 S3 E3=>?_⟩;cases d with
   | bl q=>cases e;exact⟨bb,Zr.mp R3,k ρ3 H3 S3 E3⟩
   | _=>cases e
noncomputable def HJ(t u:RT):RT:=fun l h=>(t l h).bind fun r=>if r.1=true then u l r.2 else some (false,r.2)
noncomputable def zG(t u:RT):RT:=fun l h=>(t l h).bind fun r=>if r.1=true then some (true,r.2)else u l r.2
noncomputable def uH(t:RT):RT:=fun l h=>(t l h).bind fun r=>some (!r.1,r.2)
variable{tA tB2:RT}{rest:List Expr}
theorem WM.tm{e:Expr}{f:RT}(h:WM X e f):TM X e f:=by with_unfolding_all exact PW.pt h
theorem KS(ha:TM X a tA):WM X (.BoolOp .And [a] pos) tA:=by with_unfolding_all exact uw ha
theorem nO(ha:TM X a tA):WM X (.BoolOp .Or [a] pos) tA:=by with_unfolding_all exact Lg ha
theorem oT(ha:TM X a tA)(hb:WM X (.BoolOp .And (b::rest) pos) tB2):WM X (.BoolOp .And (a::b::rest) pos) (HJ tA tB2):=by
 with_unfolding_all
  exact PW.imp (Jw ha hb) fun σ H Q zz=>by
   obtain⟨ρ,l,h,bb,h',S,L,e,k⟩:=zz;obtain⟨⟨b1,h1⟩,e1,e⟩:=lA e;refine⟨ρ,l,h,b1,h1,S,L,e1,fun ρ1 H1 S1 E1=>?_⟩;cases b1 with
   | true=>rw[if_pos rfl]at e;exact WG ⟨ρ1,l,h1,bb,h',S1,L.ext E1,e,k.ext E1⟩
   | false=>rw[if_neg zdR]at e;cases e;exact VG (k ρ1 H1 S1 E1)
theorem vI(ha:TM X a tA)(hb:WM X (.BoolOp .Or (b::rest) pos) tB2):WM X (.BoolOp .Or (a::b::rest) pos) (zG tA tB2):=by
 with_unfolding_all
  exact PW.imp (B1 ha hb) fun σ H Q zz=>by
   obtain⟨ρ,l,h,bb,h',S,L,e,k⟩:=zz;obtain⟨⟨b1,h1⟩,e1,e⟩:=lA e;refine⟨ρ,l,h,b1,h1,S,L,e1,fun ρ1 H1 S1 E1=>?_⟩;cases b1 with
   | true=>rw[if_pos rfl]at e;cases e;exact WG (k ρ1 H1 S1 E1)
   | false=>rw[if_neg zdR]at e;exact VG ⟨ρ1,l,h1,bb,h',S1,L.ext E1,e,k.ext E1⟩
theorem CJ(ha:TM X a tA):TM X (.UnaryOp .Not a pos) (uH tA):=by with_unfolding_all exact PT.imp (Hw ha) fun σ H Q zz=>by obtain⟨ρ,l,h,bb,h',S,L,e,k⟩:=zz;obtain⟨⟨b1,h1⟩,e1,e⟩:=lA e;cases e;exact⟨ρ,l,h,b1,h1,S,L,e1,fun ρ1 H1 S1 E1=>k ρ1 H1 S1 E1⟩
noncomputable def AG(t u:RE):RE:=fun l h=>(t l h).bind fun r=>match r.1 with | .bl true=>u l r.2 | .bl false=>some (.bl false,r.2) | _=>none
noncomputable def UL(t:RE):RE:=fun l h=>(t l h).bind fun r=>match r.1 with | .bl b=>some (.bl (!b),r.2) | _=>none
theorem cO{op}(h:EM X a fa):EM X (.BoolOp op [a] pos) fa:=by with_unfolding_all exact Ek h
theorem vJ(ha:EM X a fa)(hb:EM X (.BoolOp .And (b::rest) pos) fb):EM X (.BoolOp .And (a::b::rest) pos) (AG fa fb):=by
 with_unfolding_all
  exact PE.imp (wk ha hb) fun σ H Q zz=>by
   obtain⟨ρ,l,h,d,h',S,L,e,k⟩:=zz;obtain⟨⟨d1,h1⟩,e1,e⟩:=lA e;refine⟨ρ,l,h,d1,h1,S,L,e1,fun ρ1 v H1 R1 S1 E1=>?_⟩;cases d1 with
   | bl q=>
    refine⟨q,Zr.mp R1,?_⟩;cases q with
    | true=>exact WG ⟨ρ1,l,h1,d,h',S1,L.ext E1,e,k.ext E1⟩
    | false=>cases e;exact VG (k ρ1 _ H1 (Zr.mpr rfl) S1 E1)
   | _=>cases e
theorem Nk(ha:EM X a fa):EM X (.UnaryOp .Not a pos) (UL fa):=by
 with_unfolding_all
  exact PE.imp (Dk ha) fun σ H Q zz=>by
   obtain⟨ρ,l,h,d,h',S,L,e,k⟩:=zz;obtain⟨⟨d1,h1⟩,e1,e⟩:=lA e;refine⟨ρ,l,h,d1,h1,S,L,e1,fun ρ1 v H1 R1 S1 E1=>?_⟩;cases d1 with
   | bl q=>cases e;exact⟨q,Zr.mp R1,k ρ1 _ H1 (Zr.mpr rfl) S1 E1⟩
   | _=>cases e
noncomputable def TL(t:RT)(f g:RE):RE:=fun l h=>(t l h).bind fun r=>if r.1=true then f l r.2 else g l r.2
theorem uT{c:Expr}(hc:TM X c tA)(ha:EM X a fa)(hb:EM X b fb):EM X (.IfExp c a b pos) (TL tA fa fb):=by
 with_unfolding_all
  exact PE.imp (Lj hc ha hb) fun σ H Q zz=>by
   obtain⟨ρ,l,h,d,h',S,L,e,k⟩:=zz;obtain⟨⟨b1,h1⟩,e1,e⟩:=lA e;refine⟨ρ,l,h,b1,h1,S,L,e1,fun ρ1 H1 S1 E1=>?_⟩;cases b1 with
   | true=>rw[if_pos rfl]at e;exact WG ⟨ρ1,l,h1,d,h',S1,L.ext E1,e,k.ext E1⟩
   | false=>rw[if_neg zdR]at e;exact VG ⟨ρ1,l,h1,d,h',S1,L.ext E1,e,k.ext E1⟩
theorem iA:AM X [] fA:=by with_unfolding_all exact PA.imp oE fun σ H Q zz=>by obtain⟨ρ,l,h,ds,h',S,L,e,k⟩:=zz;cases e;exact k ρ [] H .nil S (Ext.refl _ _)
theorem cA{e:Expr}{es:List Expr}{f:RE}{g:RA}(ha:EM X e f)(hr:AM X es g)(hs:sB e=true:=by rfl):AM X (e::es) (bA f g):=by with_unfolding_all exact PA.imp (kD ha hr (lB hs es X.env)) fun σ H Q zz=>by obtain⟨ρ,l,h,ds,h',S,L,e,k⟩:=zz;obtain⟨⟨d1,h1⟩,e1,e⟩:=lA e;obtain⟨⟨ds2,h2⟩,e2,e⟩:=lA e;cases e;exact⟨ρ,l,h,d1,h1,S,L,e1,fun ρ1 x H1 R1 S1 E1=>⟨ρ1,l,h1,ds2,h2,S1,L.ext E1,e2,fun ρ2 xs H2 R2 S2 E2=>k ρ2 _ H2 (.cons (Yr.ext E2 _ R1) R2) S2 (E1.trans E2)⟩⟩
noncomputable def rB(g:RA):RE:=fun l h=>(g l h).bind fun r=>if r.1.length<=sizeLine then some (.tup r.1,r.2)else none
noncomputable def SF(g:RA):RE:=fun l h=>(g l h).bind fun r=>if r.1.length<=sizeLine then some (.lst r.1,r.2)else none
noncomputable def uF(g:RA):RE:=fun l h=>(g l h).bind fun r=>if r.1.length<=sizeLine then some (.ref r.2.length,r.2++[.lst r.1])else none
theorem SK{K:Frag}{H:Hp}{ρ:Rg}{h:HI}{ds:List Dt}{vs:List V}{p:Addr}(S:uf K ρ h H)(R:Wr K H ρ ds vs)(hp:H p=none):Yr K (yB H p (.tup vs)) ρ (.tup ds) (.ref p):=
 vf.mpr ⟨p,vs,rfl,.inl ⟨S.out hp,.inl LC⟩,R.ext (Ext.fresh hp)⟩
theorem VN{K:Frag}{H:Hp}{ρ:Rg}{h:HI}{ds:List Dt}{vs:List V}{p:Addr}(S:uf K ρ h H)(R:Wr K H ρ ds vs)(hp:H p=none):Yr K (yB H p (.lst vs)) ρ (.lst ds) (.ref p):=
 jf.mpr ⟨p,vs,rfl,.inl ⟨S.out hp,.inl LC⟩,R.ext (Ext.fresh hp)⟩
theorem oH{K:Frag}{H:Hp}{ρ:Rg}{h:HI}{ds:List Dt}{vs:List V}{p:Addr}(S:uf K ρ h H)(R:Wr K H ρ ds vs)(hp:H p=none) :
 Yr K (yB H p (.lst vs)) (ρ.add p) (.ref h.length) (.ref p)/\uf K (ρ.add p) (h++[.lst ds]) (yB H p (.lst vs)):=by
 refine⟨zf.mpr ⟨p,rfl,?_⟩,S.own hp ⟨vs,LC,R.ext (Ext.own hp)⟩⟩;simp only[Rg.add];rw[<- S.len,zdT (zdS _),Nat.sub_self];rfl
theorem dE{α:Type}{c:Prop}[Decidable c]{a b:α}(h:(if c then some a else none)=some b):c/\a=b:=by
 by_cases hc:c
 · rw[if_pos hc]at h;exact⟨hc,Option.some.inj h⟩
 · rw[if_neg hc]at h;cases h
theorem UB{es:List Expr}{g:RA}{x1}(h:AM X es g):EM X (.Tuple es x1 pos) (rB g):=by with_unfolding_all exact PE.imp (MY h) fun σ H Q zz=>by obtain⟨ρ,l,h,d,h',S,L,e,k⟩:=zz;obtain⟨⟨ds,h1⟩,e1,e⟩:=lA e;obtain⟨hz,e⟩:=dE e;cases e;exact⟨ρ,l,h,ds,h1,S,L,e1,fun ρ1 vs H1 R1 S1 E1=>⟨by rw[R1.length];exact hz,fun p hp=>k ρ1 _ _ (SK S1 R1 hp) (S1.fresh hp) (E1.trans (Ext.fresh hp))⟩⟩
theorem mH{es:List Expr}{g:RA}(h:AM X es g):EM X (.List es pos) (SF g):=by with_unfolding_all exact PE.imp (jO h) fun σ H Q zz=>by obtain⟨ρ,l,h,d,h',S,L,e,k⟩:=zz;obtain⟨⟨ds,h1⟩,e1,e⟩:=lA e;obtain⟨hz,e⟩:=dE e;cases e;exact⟨ρ,l,h,ds,h1,S,L,e1,fun ρ1 vs H1 R1 S1 E1=>⟨by rw[R1.length];exact hz,fun p hp=>k ρ1 _ _ (VN S1 R1 hp) (S1.fresh hp) (E1.trans (Ext.fresh hp))⟩⟩
theorem JG{es:List Expr}{g:RA}(h:AM X es g):EM X (.List es pos) (uF g):=by with_unfolding_all exact PE.imp (jO h) fun σ H Q zz=>by obtain⟨ρ,l,h,d,h',S,L,e,k⟩:=zz;obtain⟨⟨ds,h1⟩,e1,e⟩:=lA e;obtain⟨hz,e⟩:=dE e;cases e;exact⟨ρ,l,h,ds,h1,S,L,e1,fun ρ1 vs H1 R1 S1 E1=>⟨by rw[R1.length];exact hz,fun p hp=>k _ _ _ (oH S1 R1 hp).1 (oH S1 R1 hp).2 (E1.trans (Ext.own hp))⟩⟩
end
noncomputable def oI(C:Int->Int->Prop)[∀i j,Decidable (C i j)](g:Int->Int->Dt):tD:=fun a b h=>match a,b with
 | .int i,.int j=>if C i j then some (g i j,h)else none
 | _,_=>none
noncomputable def UJ(g:Int->Int->Dt):tD:=fun a b h=>match a,b with
 | .int i,.int j=>some (g i j,h)
 | _,_=>none
instance:∀i j,Decidable (KJ i j):=fun i j=>by unfold KJ;infer_instance
instance:∀i j,Decidable (Yn i j):=fun i j=>by unfold Yn;infer_instance
instance:∀i j,Decidable (sG i j):=fun i j=>by unfold sG;infer_instance
noncomputable def QD:Dt->Option V
 | .non=>some .non
 | .bl b=>some (.bl b)
 | .int i=>some (.int i)
 | .str x=>some (.str x)
 | _=>none
theorem vW{K:Frag}{H:Hp}{ρ:Rg}{d:Dt}{v:V}(e:QD d=some v):Yr K H ρ d v:=by cases d<;>simp only[QD]at e<;>first | (cases e;simp only[Yr]) | cases e
theorem lJ{K:Frag}{H:Hp}{ρ:Rg}{d:Dt}{v u:V}(e:QD d=some v)(r:Yr K H ρ d u):u=v:=by cases d<;>simp only[QD]at e<;>first | (cases e;simpa only[Yr]using r) | cases e
section
variable{X:Cx}
theorem KI{f:Value->Value->Sem Value}{C:Int->Int->Prop}[∀i j,Decidable (C i j)]{g:Int->Int->Dt}{g':Int->Int->V}(ho:Gd X f (rI C g'))(hg:∀i j,QD (g i j)=some (g' i j)):OM X f (oI C g):=by
 with_unfolding_all
  exact Gd.imp ho fun x y H Q zz=>by
   obtain⟨ρ,h,d1,d2,d,h',S,R1,R2,e,k⟩:=zz;unfold oI at e;split at e
   · rename_i i j;obtain⟨hc,e⟩:=dE e;cases e;exact⟨i,j,Xr.mp R1,Xr.mp R2,hc,k ρ _ H (vW (hg i j)) S (Ext.refl _ _)⟩
   · cases e
theorem sH{f:Value->Value->Sem Value}{g:Int->Int->Dt}{g':Int->Int->V}(ho:Gd X f (ZJ g'))(hg:∀i j,QD (g i j)=some (g' i j)):OM X f (UJ g):=by
 with_unfolding_all
  exact Gd.imp ho fun x y H Q zz=>by
   obtain⟨ρ,h,d1,d2,d,h',S,R1,R2,e,k⟩:=zz;unfold UJ at e;split at e
   · rename_i i j;cases e;exact⟨i,j,Xr.mp R1,Xr.mp R2,k ρ _ H (vW (hg i j)) S (Ext.refl _ _)⟩
   · cases e
def YB:tD:=UJ fun i j=>.int (i+j)
def XF:tD:=UJ fun i j=>.int (i-j)
def TC:tD:=oI Yn fun i j=>.int (i*j)
def eE:tD:=oI KJ fun i j=>.int (i/j)
def iD:tD:=oI (fun _ j=>0<j) fun i j=>.int (i%j)
def IL:tD:=oI sG fun i j=>.int (i^j.toNat)
def NH:tD:=oI sG fun i j=>.int (i*2^j.toNat)
def VJ:tD:=oI (fun _ j=>0<=j) fun i j=>.int (i/2^j.toNat)
def qI:tD:=UJ fun i j=>.int (Builtin.bitAnd i j)
def FL:tD:=UJ fun i j=>.int (Builtin.bitOr i j)
def HL:tD:=UJ fun i j=>.bl (decide (i<j))
def LH:tD:=UJ fun i j=>.bl (decide (i<=j))
def rL:tD:=UJ fun i j=>.bl (decide (j<i))
def fP:tD:=UJ fun i j=>.bl (decide (j<=i))
theorem NC:OM X (binaryOp .Add) YB:=by with_unfolding_all exact sH Rw fun _ _=>rfl
theorem fI:OM X (binaryOp .Sub) XF:=by with_unfolding_all exact sH Zw fun _ _=>rfl
theorem nE:OM X (binaryOp .Mult) TC:=by with_unfolding_all exact KI Vw fun _ _=>rfl
theorem MF:OM X (binaryOp .FloorDiv) eE:=by with_unfolding_all exact KI Jv fun _ _=>rfl
theorem WD:OM X (binaryOp .Mod) iD:=by with_unfolding_all exact KI Uw fun _ _=>rfl
theorem Qw:OM X (binaryOp .Pow) IL:=by with_unfolding_all exact KI Ww fun _ _=>rfl
theorem iO:OM X (binaryOp .LShift) NH:=by with_unfolding_all exact KI Xw fun _ _=>rfl
theorem HY:OM X (binaryOp .RShift) VJ:=by with_unfolding_all exact KI Yw fun _ _=>rfl
theorem OK:OM X (binaryOp .BitAnd) qI:=by with_unfolding_all exact sH Sw fun _ _=>rfl
theorem EY:OM X (binaryOp .BitOr) FL:=by with_unfolding_all exact sH Qy fun _ _=>rfl
theorem mL:OM X (compareOp .Lt) HL:=by with_unfolding_all exact sH Ny fun _ _=>rfl
theorem tF:OM X (compareOp .LtE) LH:=by with_unfolding_all exact sH Ly fun _ _=>rfl
theorem lL:OM X (compareOp .Gt) rL:=by with_unfolding_all exact sH Ky fun _ _=>rfl
theorem wO:OM X (compareOp .GtE) fP:=by with_unfolding_all exact sH Jy fun _ _=>rfl
def GZ:tD:=fun a b h=>match QD a,QD b with
 | some x,some y=>if PL x y=true then some (.bl (decide (x=y)),h)else none
 | _,_=>none
def HZ:tD:=fun a b h=>match QD a,QD b with
 | some x,some y=>if PL x y=true then some (.bl (!decide (x=y)),h)else none
 | _,_=>none
theorem Jg:OM X (compareOp .Eq) GZ:=by
 with_unfolding_all
  exact Gd.imp Hy fun x y H Q zz=>by
   obtain⟨ρ,h,d1,d2,d,h',S,R1,R2,e,k⟩:=zz;unfold GZ at e;split at e
   · rename_i u v e1 e2;obtain⟨hc,e⟩:=dE e;cases e;rw[lJ e1 R1,lJ e2 R2];exact⟨hc,k ρ _ H (Zr.mpr rfl) S (Ext.refl _ _)⟩
   · cases e
theorem Gy:OM X (compareOp .NotEq) HZ:=by
 with_unfolding_all
  exact Gd.imp Py fun x y H Q zz=>by
   obtain⟨ρ,h,d1,d2,d,h',S,R1,R2,e,k⟩:=zz;unfold HZ at e;split at e
   · rename_i u v e1 e2;obtain⟨hc,e⟩:=dE e;cases e;rw[lJ e1 R1,lJ e2 R2];exact⟨hc,k ρ _ H (Zr.mpr rfl) S (Ext.refl _ _)⟩
   · cases e
noncomputable def NF:Dt->Bool
 | .non=>true
 | _=>false
def ZG:tD:=fun a b h=>match b with
 | .non=>some (.bl (NF a),h)
 | _=>none
theorem V7{K:Frag}{H:Hp}{ρ:Rg}{d:Dt}{v:V}(r:Yr K H ρ d v):decide (v=.non)=NF d:=by
 cases d with
 | non=>have e:=Af.mp r;subst e;rfl
 | bl b=>have e:=Zr.mp r;subst e;rfl
 | int i=>have e:=Xr.mp r;subst e;rfl
 | str x=>have e:=Df.mp r;subst e;rfl
 | tup xs=>obtain⟨a,vs,e,_⟩:=vf.mp r;subst e;rfl
 | lst xs=>obtain⟨a,vs,e,_⟩:=jf.mp r;subst e;rfl
 | ref n=>obtain⟨a,e,_⟩:=zf.mp r;subst e;rfl
 | uc n=>obtain⟨a,e,_⟩:=Vd.mp r;subst e;rfl
theorem TK:OM X (compareOp .Is) ZG:=by
 with_unfolding_all
  exact Gd.imp Tw fun x y H Q zz=>by
   obtain⟨ρ,h,d1,d2,d,h',S,R1,R2,e,k⟩:=zz;unfold ZG at e;split at e
   · cases e;exact⟨Af.mp R2,k ρ _ H (Zr.mpr (by rw[V7 R1])) S (Ext.refl _ _)⟩
   · cases e
noncomputable def FE(f:RE):RE:=fun l h=>(f l h).bind fun r=>match r.1 with | .int i=>some (.int (-i),r.2) | _=>none
theorem wJ{a:Expr}{fa:RE}{pos:Pos}(ha:EM X a fa):EM X (.UnaryOp .USub a pos) (FE fa):=by
 with_unfolding_all
  exact PE.imp (rZ kh ha) fun σ H Q zz=>by
   obtain⟨ρ,l,h,d,h',S,L,e,k⟩:=zz;obtain⟨⟨d1,h1⟩,e1,e⟩:=lA e;refine⟨ρ,l,h,d1,h1,S,L,e1,fun ρ1 x H1 R1 S1 E1=>?_⟩;cases d1 with
   | int i=>cases e;exact⟨i,Xr.mp R1,k ρ1 _ H1 (Xr.mpr rfl) S1 E1⟩
   | _=>cases e
end
noncomputable def JB(h:HI):Dt->Option (List Dt)
 | .lst xs=>some xs
 | .ref n=>match h[n]? with | some (.lst xs)=>some xs | _=>none
 | _=>none
def JD(h:HI):Dt->Option (List Dt)
 | .tup xs=>some xs
 | d=>JB h d
theorem sF{K:Frag}{H:Hp}{ρ:Rg}{h:HI}{d:Dt}{v:V}{xs:List Dt}(S:uf K ρ h H)(R:Yr K H ρ d v)(e:JB h d=some xs):∃a vs,v=.ref a/\Td K H a vs/\Wr K H ρ xs vs:=by
 cases d with
 | lst ys=>cases e;obtain⟨a,vs,e,q,r⟩:=jf.mp R;exact⟨a,vs,e,q.sq,r⟩
 | ref n=>
  simp only[JB]at e;split at e
  · rename_i ys q;cases e;obtain⟨a,rfl,ha⟩:=zf.mp R;obtain⟨vs,h1,h2⟩:=S.lst ha q;exact⟨a,vs,rfl,Td.of h1,h2⟩
  · cases e
 | _=>simp only[JB]at e<;>cases e
theorem TN{K:Frag}{H:Hp}{ρ:Rg}{h:HI}{d:Dt}{v:V}{xs:List Dt}(S:uf K ρ h H)(R:Yr K H ρ d v)(e:JD h d=some xs):∃a vs,v=.ref a/\(Td K H a vs\/BI K H a vs)/\Wr K H ρ xs vs:=by
 cases d with
 | tup ys=>cases e;obtain⟨a,vs,e,q,r⟩:=vf.mp R;exact⟨a,vs,e,.inr q.sq,r⟩
 | lst ys=>obtain⟨a,vs,e,q,r⟩:=sF S R (show JB h (.lst ys)=some xs from e);exact⟨a,vs,e,.inl q,r⟩
 | ref n=>obtain⟨a,vs,e,q,r⟩:=sF S R (show JB h (.ref n)=some xs from e);exact⟨a,vs,e,.inl q,r⟩
 | _=>cases e
theorem Wr.Ac{K:Frag}{H:Hp}{ρ:Rg}{ds:List Dt}{vs:List V}{i:Int}{d:Dt}(r:Wr K H ρ ds vs)(e:L2.Ac ds i=some d):∃v,L2.Ac vs i=some v/\Yr K H ρ d v:=by
 unfold L2.Ac at e ⊢;rw[r.length];cases q:xI ds.length i with
 | none=>rw[q]at e;cases e
 | some j=>rw[q]at e;exact r.get e
def pA:tD:=fun a b h=>match b with
 | .int i=>match a with
  | .str z=>if z.length<=sizeLine then(L2.Ac z.cps.toList i).map fun c=>(.str ⟨#[c]⟩,h)else none
  | _=>(JD h a).bind fun xs=>(L2.Ac xs i).map fun d=>(d,h)
 | _=>none
section
variable{X:Cx}{a b c:Expr}{fa fb fc:RE}{pos:Pos}
theorem jx{x y:V}{H:Hp}{Q:VK}(h:rM X.K pA x y H Q):Mh X.K x y H Q:=by
 obtain⟨ρ,h,d1,d2,d,h',S,R1,R2,e,k⟩:=h;unfold pA at e;split at e
 · rename_i i;have ei:=Xr.mp R2;split at e
   · rename_i z;split at e
     · rename_i hz;cases q:L2.Ac z.cps.toList i with
       | none=>rw[q]at e;cases e
       | some c=>rw[q]at e;cases e;exact .inr (.inr ⟨z,i,c,Df.mp R1,ei,hz,q,k ρ _ H (Df.mpr rfl) S (Ext.refl _ _)⟩)
     · cases e
   · obtain⟨xs,e1,e⟩:=lA e;cases q:L2.Ac xs i with
     | none=>rw[q]at e;cases e
     | some u=>
      rw[q]at e;cases e;obtain⟨p,vs,e2,sq,r⟩:=TN S R1 e1;obtain⟨v,q1,q2⟩:=r.Ac q;rcases sq with sq | sq
      · exact .inl ⟨p,vs,i,v,e2,ei,sq,q1,k ρ _ H q2 S (Ext.refl _ _)⟩
      · exact .inr (.inl ⟨p,vs,i,v,e2,ei,sq,q1,k ρ _ H q2 S (Ext.refl _ _)⟩)
 · cases e
theorem eA(ha:EM X a fa)(hb:EM X b fb)(hs:dY b:=by intro _ _;rfl):EM X (.Subscript a b pos) (e2 pA fa fb):=by
 with_unfolding_all
  exact PE.imp (Sy sy ha hb hs) fun σ H Q zz=>by
   obtain⟨ρ,l,h,d,h',S,L,e,k⟩:=zz;obtain⟨⟨d1,h1⟩,e1,e⟩:=lA e;obtain⟨⟨d2,h2⟩,e2,e⟩:=lA e;exact⟨ρ,l,h,d1,h1,S,L,e1,fun ρ1 x H1 R1 S1 E1=>⟨ρ1,l,h1,d2,h2,S1,L.ext E1,e2,fun ρ2 y H2 R2 S2 E2=>
    jx ⟨ρ2,h2,d1,d2,d,h',S2,Yr.ext E2 _ R1,R2,e,k.ext (E1.trans E2)⟩⟩⟩
end
noncomputable def TB:RS:=fun l h=>some (.nx l h)
noncomputable def jA(f g:RS):RS:=fun l h=>(f l h).bind fun r=>match r with | .nx l' h'=>g l' h' | r=>some r
noncomputable def yA(i:Nat)(f:RE):RS:=fun l h=>(f l h).bind fun r=>some (.nx (l.set i (some r.1)) r.2)
noncomputable def TD(f:RE):RS:=fun l h=>(f l h).bind fun r=>some (.nx l r.2)
noncomputable def HA(f:RE):RS:=fun l h=>(f l h).bind fun r=>some (.rt r.1 r.2)
noncomputable def bE(t:RT)(f g:RS):RS:=fun l h=>(t l h).bind fun r=>if r.1=true then f l r.2 else g l r.2
section
variable{X:Cx}{st:Stmt}{rest:List Stmt}{e:Expr}{f:RE}{t u:RS}{c:RT}{pos:Pos}
theorem mC:DH X [] TB:=by with_unfolding_all exact Qn.imp gw fun D σ H zz=>by obtain⟨ρ,l,h,r,S,L,e,k⟩:=zz;cases e;exact k ρ σ H S L (Ext.refl _ _)
theorem kA(h1:ZM X st t)(h2:DH X rest u):DH X (st::rest) (jA t u):=by
 with_unfolding_all
  exact Qn.imp (Tj h1 h2) fun D σ H zz=>by
   obtain⟨ρ,l,h,r,S,L,e,k⟩:=zz;obtain⟨r1,e1,e⟩:=lA e;refine⟨ρ,l,h,r1,S,L,e1,?_⟩;cases r1 with
   | nx l' h'=>exact fun ρ' σ' H' S' L' E'=>⟨ρ',l',h',r,S',L',e,k.ext E'⟩
   | rt d h'=>cases e;exact k
   | bk l' h'=>cases e;exact k
   | ct l' h'=>cases e;exact k
theorem uA(h1:ZM X st t):DH X [st] t:=by with_unfolding_all exact iw h1
theorem WE(he:EM X e f)(hs:swapsWith e none pos.line X.env=pure false:=by rfl):ZM X (.Expr e pos) (TD f):=by with_unfolding_all exact PS.imp (dw he hs) fun D σ H zz=>by obtain⟨ρ,l,h,r,S,L,e,k⟩:=zz;obtain⟨⟨d1,h1⟩,e1,e⟩:=lA e;cases e;exact⟨ρ,l,h,d1,h1,S,L,e1,fun ρ1 v H1 R1 S1 E1=>k ρ1 σ H1 S1 (L.ext E1) E1⟩
theorem LA(he:EM X e f):ZM X (.Return (some e) pos) (HA f):=by with_unfolding_all exact PS.imp (Fw he) fun D σ H zz=>by obtain⟨ρ,l,h,r,S,L,e,k⟩:=zz;obtain⟨⟨d1,h1⟩,e1,e⟩:=lA e;cases e;exact⟨ρ,l,h,d1,h1,S,L,e1,k⟩
theorem nC{b:Expr}{ss ss':List Stmt}(hc:TM X b c)(ha:DH X ss t)(hb:DH X ss' u):ZM X (.If b ss ss' pos) (bE c t u):=by
 with_unfolding_all
  exact PS.imp (Z0 hc ha hb) fun D σ H zz=>by
   obtain⟨ρ,l,h,r,S,L,e,k⟩:=zz;obtain⟨⟨b1,h1⟩,e1,e⟩:=lA e;refine⟨ρ,l,h,b1,h1,S,L,e1,fun ρ1 H1 S1 E1=>?_⟩;cases b1 with
   | true=>rw[if_pos rfl]at e;exact WG ⟨ρ1,l,h1,r,S1,L.ext E1,e,k.ext E1⟩
   | false=>rw[if_neg zdR]at e;exact VG ⟨ρ1,l,h1,r,S1,L.ext E1,e,k.ext E1⟩
theorem KA(i:Nat){x:Str}{pos':Pos}(hN:X.N.Nodup)(he:EM X e f)(hi:X.N[i]?=some x:=by rfl)(hx:FO X.env.scope x:=by first | exact Or.inl rfl | exact Or.inr rfl)
 (hs:swapsWith e (some (.Name x pos')) pos.line X.env=pure false:=by rfl) (hf:X.fn x=true\/X.env.scope.names.lookup x=some .local:=by first | exact .inl rfl | exact .inr rfl | assumption) :
 ZM X (.Assign [.Name x pos'] e pos) (yA i f):=by
 with_unfolding_all exact PS.imp (Gw hN hi hx he hs hf) fun D σ H zz=>by obtain⟨ρ,l,h,r,S,L,e,k⟩:=zz;obtain⟨⟨d1,h1⟩,e1,e⟩:=lA e;cases e;exact⟨ρ,l,h,d1,h1,S,L,e1,fun ρ1 v H1 R1 S1 E1=>k ρ1 _ H1 S1 ((L.ext E1).set i R1) E1⟩
end
inductive Src where
 | vals (xs:List Dt)
 | rf (n:Nat)
 | zp (a b:Dt)
 | it (n:Nat)
 | en (n:Nat)
def Src.at(s:Src)(h:HI)(i:Nat):Option (Option Dt):=match s with
 | .vals xs=>some xs[i]?
 | .rf n=>match h[n]? with | some (.lst xs)=>some xs[i]? | _=>none
 | .zp a b=>match JB h a,JB h b with
  | some xs,some ys=>some (match xs[i]?,ys[i]? with | some x,some y=>some (.tup [x,y]) | _,_=>none)
  | _,_=>none
 | .it n=>match h[n]? with | some (.df kvs)=>some (kvs[i]?.map fun p=>.tup [.tup (p.1.map Dt.int),p.2]) | _=>none
 | .en n=>match h[n]? with | some (.lst xs)=>some (xs[i]?.map fun x=>.tup [.int (i:Int),x]) | _=>none
def Src.fuel(s:Src)(h:HI):Nat:=match s with
 | .vals xs=>xs.length+1
 | .rf n=>match h[n]? with | some (.lst xs)=>xs.length+1 | _=>0
 | .zp a _=>match JB h a with | some xs=>xs.length+1 | _=>0
 | .it n=>match h[n]? with | some (.df kvs)=>kvs.length+1 | _=>0
 | .en n=>match h[n]? with | some (.lst xs)=>xs.length+1 | _=>0
abbrev RI:=LI->HI->Option (Src×HI)
def kZ(K:Frag)(H:Hp)(ρ:Rg)(s:Src)(J:It):Prop:=
 ∀H2 ρ2 h2,ud ρ ρ2 H H2->uf K ρ2 h2 H2->∀i:Nat,match s.at h2 i with
  | none=>True
  | some none=>J.stop i H2
  | some (some d)=>J.go i H2/\∀v H3,J.yld i H2 v H3->Yr K H3 ρ2 d v/\Ext ρ2 ρ2 H2 H3/\uf K ρ2 h2 H3
def iM(K:Frag)(g:RI):TI:=fun σ H R=>∃ρ l h s h',uf K ρ h H/\Zf K H ρ l σ/\g l h=some (s,h')/\∀ρ' J H',kZ K H' ρ' s J->uf K ρ' h' H'->Ext ρ ρ' H H'->R J H'
@[irreducible] def IM(X:Cx)(tg iter:Expr)(g:RI):Prop:=PI X tg iter (iM X.K g)
theorem PI.imp{X:Cx}{tg e:Expr}{t t':TI}(h:PI X tg e t)(i:∀σ H Q,t' σ H Q->t σ H Q):PI X tg e t':=fun pins s σ H Q I q=>h pins s σ H Q I (i σ H Q q)
abbrev RG:=Dt->LI->Option LI
def gM(K:Frag)(g:RG):TG:=fun v σ H Q=>∃ρ l h d l',uf K ρ h H/\Zf K H ρ l σ/\Yr K H ρ d v/\g d l=some l'/\∀σ',Zf K H ρ l' σ'->Q σ' H
@[irreducible] def GM(X:Cx)(tg:Expr)(g:RG):Prop:=PG X tg (gM X.K g)
theorem PG.imp{X:Cx}{e:Expr}{t t':TG}(h:PG X e t)(i:∀v σ H Q,t' v σ H Q->t v σ H Q):PG X e t':=fun pins s σ H v u Q I r q=>h pins s σ H v u Q I r (i v σ H Q q)
noncomputable def CA(i:Nat):RG:=fun d l=>some (l.set i (some d))
def uC(bd:RG)(body:RS)(s:Src):Nat->Nat->RS
 | 0,_,_,_=>none
 | k+1,i,l,h=>match s.at h i with
  | none=>none
  | some none=>some (.nx l h)
  | some (some d)=>(bd d l).bind fun l1=>(body l1 h).bind fun r=>match r with
   | .nx l' h'=>uC bd body s k (i+1) l' h'
   | .ct l' h'=>uC bd body s k (i+1) l' h'
   | .bk l' h'=>some (.nx l' h')
   | .rt d h'=>some (.rt d h')
def DC(g:RI)(bd:RG)(body:RS):RS:=fun l h=>(g l h).bind fun r=>uC bd body r.1 (r.1.fuel r.2) 0 l r.2
section
variable{X:Cx}{tg iter:Expr}{pos:Pos}
theorem FB(i:Nat){x:Str}{pos:Pos}(hN:X.N.Nodup)(hi:X.N[i]?=some x:=by rfl)(hx:FO X.env.scope x:=by first | exact Or.inl rfl | exact Or.inr rfl)
 (hf:X.fn x=true\/X.env.scope.names.lookup x=some .local:=by first | exact .inl rfl | exact .inr rfl | assumption):GM X (.Name x pos) (CA i):=by
 with_unfolding_all exact PG.imp (ES hN hi hx hf) fun v σ H Q zz=>by obtain⟨ρ,l,h,d,l',S,L,R,e,k⟩:=zz;cases e;exact k _ (L.set i R)
noncomputable def JH(f:RE):RI:=fun l h=>(f l h).bind fun r=>match r.1 with | .int j=>if -(2^62)<=j/\j<2^62 then some (.vals ((List.range j.toNat).map fun(k:Nat)=>Dt.int (k:Int)),r.2)else none | _=>none
noncomputable def DZ(f g:RE):RI:=fun l h=>(f l h).bind fun r=>(g l r.2).bind fun q=>match r.1,q.1 with
 | .int i,.int j=>if -(2^62)<=i/\i<2^62/\-(2^62)<=j/\j<2^62 then some (.vals ((List.range (j-i).toNat).map fun(k:Nat)=>Dt.int (i+(k:Int))),q.2)else none | _,_=>none
theorem oF {a:Expr} {f:RE} {p pos:Pos} (hg:Gl X "range") (hm:X.mg "range" =none) (ha:EM X a f) (hs:sB a=true:=by rfl) :
 IM X tg (.Call (.Name "range" p) [a] [] pos) (JH f):=by
 with_unfolding_all
  exact PI.imp (v8 hg hm (kD ha oE (lB hs _ _)) (lB hs _ _)) fun σ H R zz=>by
   obtain⟨ρ,l,h,s,h',S,L,e,k⟩:=zz;obtain⟨⟨d1,h1⟩,e1,e⟩:=lA e;refine⟨ρ,l,h,d1,h1,S,L,e1,fun ρ1 v H1 R1 S1 E1=>?_⟩;cases d1 with
   | int j=>
    obtain⟨⟨c1,c2⟩,e⟩:=dE e;cases e;refine⟨j,by rw[Xr.mp R1],c1,c2,k ρ1 _ H1 (fun H2 ρ2 h2 E2 S2 i=>?_) S1 E1⟩;simp only[Src.at,getElem?_map];by_cases hi:i<j.toNat
    · rw[getElem?_range hi];refine⟨hi,fun v H3 q=>?_⟩;obtain⟨rfl,rfl⟩:=q;exact⟨Xr.mpr (by simp),Ext.refl _ _,S2⟩
    · rw[getElem?_eq_none (by simpa using Nat.not_lt.mp hi)];exact Nat.not_lt.mp hi
   | _=>cases e
theorem C8 {a b:Expr} {f g:RE} {p pos:Pos} (hg:Gl X "range") (hm:X.mg "range" =none) (ha:EM X a f) (hb:EM X b g) (hs:sB a=true:=by rfl) (hs2:sB b=true:=by rfl) :
 IM X tg (.Call (.Name "range" p) [a,b] [] pos) (DZ f g):=by
 with_unfolding_all
  exact PI.imp (w8 hg hm (kD ha (kD hb oE (lB hs2 _ _)) (lB hs _ _)) (by rw[lB hs,lB hs2];rfl) (lB hs2 _ _)) fun σ H R zz=>by
   obtain⟨ρ,l,h,s,h',S,L,e,k⟩:=zz;obtain⟨⟨d1,h1⟩,e1,e⟩:=lA e;obtain⟨⟨d2,h2⟩,e2,e⟩:=lA e;refine⟨ρ,l,h,d1,h1,S,L,e1,fun ρ1 v H1 R1 S1 E1=>⟨ρ1,l,h1,d2,h2,S1,L.ext E1,e2,fun ρ2 u H2 R2 S2 E2=>?_⟩⟩;cases d1 with
   | int i=>
    cases d2 with
    | int j=>
     obtain⟨c,e⟩:=dE e;cases e;refine⟨i,j,by rw[Xr.mp R1,Xr.mp R2],c,k ρ2 _ H2 (fun H3 ρ3 h3 E3 S3 n=>?_) S2 (E1.trans E2)⟩;simp only[Src.at,getElem?_map];by_cases hi:n<(j-i).toNat
     · rw[getElem?_range hi];refine⟨hi,fun v H4 q=>?_⟩;obtain⟨rfl,rfl⟩:=q;exact⟨Xr.mpr rfl,Ext.refl _ _,S3⟩
     · rw[getElem?_eq_none (by simpa using Nat.not_lt.mp hi)];exact Nat.not_lt.mp hi
    | _=>cases e
   | _=>cases e
noncomputable def pU(f:RE):RI:=fun l h=>(f l h).bind fun r=>match r.1 with | .lst xs=>some (.vals xs,r.2) | .ref n=>some (.rf n,r.2) | _=>none
def oC(f:RE):RI:=fun l h=>(pU f l h).bind fun r=>if 0<r.1.fuel r.2 then some r else none
theorem FC{a:Expr}{f:RE}(ha:EM X a f):IM X tg a (oC f):=by
 with_unfolding_all
  exact PI.imp (Wv ha) fun σ H R zz=>by
   obtain⟨ρ,l,h,s,h',S,L,e,k⟩:=zz;obtain⟨⟨s1,h1⟩,e,ez⟩:=lA e;obtain⟨hz,ez⟩:=dE ez;cases ez;obtain⟨⟨d1,h2⟩,e1,e⟩:=lA e;refine⟨ρ,l,h,d1,h2,S,L,e1,fun ρ1 v H1 R1 S1 E1=>?_⟩;cases d1 with
   | lst xs=>
    cases e;obtain⟨a,vs,rfl,q,r⟩:=jf.mp R1;refine⟨a,rfl,⟨vs,q.sq⟩,k ρ1 _ H1 (fun H2 ρ2 h2 E2 S2 i=>?_) S1 E1⟩;have q2:=q.same E2;have r2:=Wr.same E2 _ r;simp only[Src.at];cases ei:xs[i]? with
    | none=>refine⟨vs,q2.sq,?_⟩;rw[r.length];exact getElem?_eq_none_iff.mp ei
    | some d=>obtain⟨v,g1,g2⟩:=r2.get ei;refine⟨⟨vs,v,q2.sq,g1⟩,fun u H3 y=>?_⟩;obtain⟨rfl,y⟩:=y;have y2:=y vs q2.sq;rw[g1]at y2;cases y2;exact⟨g2,Ext.refl _ _,S2⟩
   | ref n=>
    cases e;obtain⟨a,rfl,ha⟩:=zf.mp R1;simp only[Src.fuel]at hz;split at hz
    · rename_i xs q0;obtain⟨Ep,g0,_⟩:=S1.lst ha q0;refine⟨a,rfl,⟨Ep,Td.of g0⟩,k ρ1 _ H1 (fun H2 ρ2 h2 E2 S2 i=>?_) S1 E1⟩;have ha2:=E2.ix _ _ ha;simp only[Src.at];split
      · trivial
      · rename_i y;split at y
        · rename_i ys q2;obtain⟨vs,g1,r⟩:=S2.lst ha2 q2;refine⟨vs,Td.of g1,?_⟩;rw[r.length];exact getElem?_eq_none_iff.mp (Option.some.inj y)
        · cases y
      · rename_i d y;split at y
        · rename_i ys q2;obtain⟨vs,g1,r⟩:=S2.lst ha2 q2;obtain⟨v,z1,z2⟩:=r.get (Option.some.inj y);refine⟨⟨vs,v,Td.of g1,z1⟩,fun u H3 y=>?_⟩;obtain⟨rfl,y⟩:=y;have y2:=y vs (Td.of g1);rw[z1]at y2;cases y2;exact⟨z2,Ext.refl _ _,S2⟩
        · cases y
    · exact absurd hz (by omega)
   | _=>cases e
theorem mD{body:List Stmt}{g:RI}{bd:RG}{f:RS}(hp:PassesOwn (model X.prog X.w) X.A X.env X.xe)(hc:X.calm=true)(hi:IM X tg iter g)(hg:GM X tg bd)(hb:DH X body f)
 (hs:∀x,foldedSetIterable iter X.env x=pure x:=by intro _;rfl):ZM X (.For tg iter body [] pos) (DC g bd f):=by
 with_unfolding_all
  exact PS.imp (Ew hp hc hi hg hb hs) fun D σ H zz=>by
   obtain⟨ρ,l,h,r,S,L,e,k⟩:=zz;obtain⟨⟨s,h1⟩,e1,e⟩:=lA e;refine⟨ρ,l,h,s,h1,S,L,e1,fun ρ1 J H1 ok S1 E1=>?_⟩;refine⟨fun i m σ' H'=>∃ρ' l' h',uf X.K ρ' h' H'/\Zf X.K H' ρ' l' σ'/\Ext ρ1 ρ' H1 H'/\uC bd f s m i l' h'=some r,⟨_,ρ1,l,h1,S1,L.ext E1,Ext.refl _ _,e⟩,?_⟩;rintro i m σ' H' ⟨ρ',l',h',S',L',E',e'⟩;cases m with
   | zero=>simp only[uC]at e';cases e'
   | succ m=>
    simp only[uC]at e';have ok':=ok H' ρ' h' E'.same S' i;cases q:s.at h' i with
    | none=>rw[q]at e';cases e'
    | some o=>
     rw[q]at e' ok';cases o with
     | none=>cases e';exact .inl ⟨ok',k ρ' σ' H' S' L' (E1.trans E')⟩
     | some d=>
      dsimp only at e';obtain⟨l1,b1,e'⟩:=lA e';obtain⟨r1,b2,e'⟩:=lA e';refine .inr ⟨ok'.1,fun σ2 H2=>∃m',m'<m+1/\∃ρ' l' h',uf X.K ρ' h' H2/\Zf X.K H2 ρ' l' σ2/\Ext ρ1 ρ' H1 H2/\uC bd f s m' (i+1) l' h'=some r,fun σ2 H2 q=>q,fun v H3 y=>?_⟩;obtain⟨R3,E3,S3⟩:=ok'.2 v H3 y;refine⟨ρ',l',h',d,l1,S3,L'.ext E3,R3,b1,fun σ4 L4=>⟨ρ',l1,h',r1,S3,L4,b2,?_⟩⟩;cases r1 with
      | nx l2 h2=>exact fun ρ5 σ5 H5 S5 L5 E5=>⟨m,Nat.lt_succ_self _,ρ5,l2,h2,S5,L5,E'.trans (E3.trans E5),e'⟩
      | ct l2 h2=>exact fun ρ5 σ5 H5 S5 L5 E5=>⟨m,Nat.lt_succ_self _,ρ5,l2,h2,S5,L5,E'.trans (E3.trans E5),e'⟩
      | bk l2 h2=>cases e';exact fun ρ5 σ5 H5 S5 L5 E5=>k ρ5 σ5 H5 S5 L5 (E1.trans (E'.trans (E3.trans E5)))
      | rt d2 h2=>cases e';exact fun ρ5 v5 H5 R5 S5 E5=>k ρ5 v5 H5 R5 S5 (E1.trans (E'.trans (E3.trans E5)))
end
noncomputable def fC(n N:Nat)(body:RS):LB:=fun ds h=>if ds.length=n then match body (ds.map some++List.replicate (N-n) none) h with
 | some (.rt d h')=>some (d,h')
 | some (.nx _ h')=>some (.non,h')
 | _=>none
 else none
def QI(K:Frag)(n:Nat)(F:LB):Sp:=fun vs H Q _=>∃ρ ds h d h',uf K ρ h H/\Wr K H ρ ds vs/\ds.length=n/\F ds h=some (d,h')/\Out K ρ H d h' Q
section
variable{P:Program}{w:World}{K:Frag}{mg:Str->Option Value}{base:Heap}
theorem mN{H:Hp}{ρ:Rg}{N:List Str}{ds:List Dt}{vs:List V}(R:Wr K H ρ ds vs):Zf K H ρ (ds.map some++List.replicate (N.length-ds.length) none) (L2.QF N vs):=by
 have hl:=R.length;refine⟨by simp[L2.QF,hl],fun i d e=>?_⟩;by_cases hi:i<ds.length
 · rw[zdQ (by simpa using hi),getElem?_map]at e;cases q:ds[i]? with
   | none=>rw[q]at e;cases e
   | some d'=>rw[q]at e;cases e;obtain⟨v,g1,g2⟩:=R.get q;refine⟨v,?_,g2⟩;unfold L2.QF;rw[zdQ (by simpa[hl]using hi),getElem?_map,g1];rfl
 · rw[zdT (by simpa using Nat.not_lt.mp hi),getElem?_replicate]at e;split at e<;>cases e
theorem qO{x qual:Str}{st:Stmt}{f:Addr}{fd:FuncData}{N ps:List Str}{k:Nat}{body:RS}(F:Fl K x qual st f fd)(S:SA N ps (xA st))
 (hb:∀(cdv:Value)(A:Around)(outer:List Env)(s:Shared)(H:Hp)(E:XK),Tf k (A.deeper (envOfC qual (xA st) s.heap.objs.size f cdv))->
  DH (dF RF P w K mg base N qual (xA st) f cdv A outer s H E).Bl (jD st) body):Od P w K mg base RF (k+1) f fd ps (QI K ps.length (fC ps.length N.length body)):=by
 with_unfolding_all
  refine F.ok S (fun vs H Q E h=>?_) (fun cdv A outer s H vs Q E hr h=>?_)
  · obtain⟨ρ,ds,h,d,h',S,R,hl,_⟩:=h;rw[R.length,hl]
  · obtain⟨ρ,ds,h,d,h',S,R,hl,e,k⟩:=h;refine⟨_,hb cdv A outer s H E hr,?_⟩;unfold fC at e;rw[if_pos hl]at e;rw[<- hl]at e;split at e
    · rename_i d1 h1 q;cases e;exact⟨ρ,_,h,_,S,mN R,q,k⟩
    · rename_i l1 h1 q;cases e;exact⟨ρ,_,h,_,S,mN R,q,fun ρ' σ' H' S' L' E'=>k ρ' _ H' (Af.mpr rfl) S' E'⟩
    · cases e
end
noncomputable def wA(F:LB)(gn:List Dt)(g:RA):RE:=fun l h=>(g l h).bind fun r=>F (r.1++gn) r.2
section
variable{X:Cx}{k n:Nat}{f:Addr}{fd:FuncData}{ps:List Str}{F:LB}{x:Str}{p pos:Pos}{e:Expr}{es:List Expr}{g:RA}{Xc:List V}{ds:List Value}{gn:List Dt}
theorem HW(hF:Od X.prog X.w X.K X.mg X.base RF k f fd ps (QI X.K n F))(hr:Tf k X.A)(hg:Gl X x)(hm:X.mg x=some (.ref f))(hk:keepIn X.K (.ref f)=true)(hb:Binds X.K fd ps ds)(hd:Vals Xc ds)(hdd:∀H ρ,Wr X.K H ρ gn Xc)
 (ha:AM X (e::es) g) (hn:∀(F':List Dt->HI->Option (Dt×HI)),F'=F->∀ds h r,F' ds h=some r->ds.length=n) (hdb:(x==("__debug__" :Str))=false:=by decide) (he:sB e=true:=by rfl) (hpl:es.all sB=true:=by rfl) :
 EM X (.Call (.Name x p) (e::es) [] pos) (wA F gn g):=by
 with_unfolding_all exact PE.imp (Nv hF hr hg hm hk hb hd (E:=E0) qT ha hdb (lB he _ _) (iJ hpl)) fun σ H Q zz=>by obtain⟨ρ,l,h,d,h',S,L,e,k⟩:=zz;obtain⟨⟨ds1,h1⟩,e1,e⟩:=lA e;exact⟨ρ,l,h,ds1,h1,S,L,e1,fun ρ1 vs H1 R1 S1 E1=>⟨ρ1,_,h1,d,h',S1,R1.append (hdd H1 ρ1),hn F rfl _ _ _ e,e,k.ext E1⟩⟩
theorem QN{n N:Nat}{body:RS}{ds:List Dt}{h:HI}{r:Dt×HI}(e:fC n N body ds h=some r):ds.length=n:=by
 unfold fC at e;split at e
 · assumption
 · cases e
end
end SM
namespace L2
noncomputable def rE(cells:List (Str×Addr)):List (Str×NameKind)->List (Str×Addr)->Option (List (Str×Addr))
 | [],cs=>some cs
 | (n,k)::r,cs=>if k==.free then match cells.lookup n with
  | some a=>rE cells r ((n,a)::cs)
  | none=>none
  else rE cells r cs
theorem uR{env:Env}:∀{l:List (Str×NameKind)}{cs cl:List (Str×Addr)},rE env.cells l cs=some cl->
 (forIn l cs fun(x:Str×NameKind) (r:List (Str×Addr))=>if(x.2==NameKind.free)=true then(do let a <- cellOf env x.1;pure (ForInStep.yield ((x.1,a)::r)):Sem _)else pure (ForInStep.yield r))=pure cl
 | [],cs,cl,h=>by simp only[rE]at h;cases h;rfl
 | (n,k)::r,cs,cl,h=>by
  simp only[rE]at h;rw[forIn_cons];cases hk:k==NameKind.free with
  | true=>
   rw[hk,if_pos rfl]at h;cases hc:env.cells.lookup n with
   | none=>rw[hc]at h;cases h
   | some a=>
    rw[hc]at h;have ih:=uR (env:=env) h;simp only[hk,if_true];have e:cellOf env n=pure a:=by unfold cellOf;rw[hc]
    rw[e];simp only[pure_bind];exact ih
  | false=>rw[hk,if_neg (by decide)]at h;have ih:=uR (env:=env) h;simp only[hk,zdV,if_false,pure_bind];exact ih
theorem rV{scope:Scope}{env:Env}{cl:List (Str×Addr)}(h:rE env.cells scope.names []=some cl):closureFor scope env=pure cl:=by have e:=uR (env:=env) h;unfold closureFor;simp only[bind_pure];exact e
theorem eR{cells:List (Str×Addr)}:∀{l:List (Str×NameKind)}{cs cl:List (Str×Addr)},rE cells l cs=some cl->(∀x c,cs.lookup x=some c->cells.lookup x=some c)->
 (∀x c,cl.lookup x=some c->cells.lookup x=some c)/\(∀x c,cs.lookup x=some c->∃c',cl.lookup x=some c')/\∀n,(n,NameKind.free)∈l->∃c,cl.lookup n=some c
 | [],cs,cl,h,i=>by simp only[rE]at h;cases h;exact⟨i,fun x c e=>⟨c,e⟩,fun n hn=>nomatch hn⟩
 | (n,k)::r,cs,cl,h,i=>by
  simp only[rE]at h;cases hk:k==NameKind.free with
  | true=>
   rw[hk,if_pos rfl]at h;cases hc:cells.lookup n with
   | none=>rw[hc]at h;cases h
   | some a=>
    rw[hc]at h;have i':∀x c,((n,a)::cs).lookup x=some c->cells.lookup x=some c:=fun x c e=>by
     rw[lookup_cons]at e;cases hx:x==n with
     | true=>rw[hx]at e;cases e;rw[eq_of_beq hx];exact hc
     | false=>rw[hx]at e;exact i x c e
    obtain⟨h1,h2,h3⟩:=eR h i';refine⟨h1,fun x c e=>?_,fun m hm=>?_⟩
    · cases hx:x==n with
      | true=>exact h2 x a (by rw[lookup_cons,hx])
      | false=>exact h2 x c (by rw[lookup_cons,hx];exact e)
    · rcases mem_cons.mp hm with z | z
      · cases z;exact h2 _ a (by rw[lookup_cons,beq_self_eq_true])
      · exact h3 m z
  | false=>
   rw[hk,if_neg (by decide)]at h;obtain⟨h1,h2,h3⟩:=eR h i;refine⟨h1,h2,fun m hm=>?_⟩;rcases mem_cons.mp hm with z | z
   · cases z;cases hk
   · exact h3 m z
noncomputable def bC(X:Cx)(Nc:List Str)(scope:Scope)(cl:List (Str×Addr))(C:Addr)(s0:Shared)(H0:Hp)(fp:List Addr):Cx:=
 { X with N:=Nc,s₀:=s0,H₀:=H0,env:=compEnvC scope cl C X.env,outer:=X.stack,stack:=X.stack,ex:=fp,fn:=fun _=>false,pn:=[],xe:=fun _ _=>False }
theorem TU{env:Env}:∀{names:List (Str×NameKind)}{x:Str},(∀y∈names,y.2≠.cell)->
 ((names.map fun(n,k)=>if(k==NameKind.free&&env.scope.kind==.function&&env.kindOf n==some .cell)then(n,NameKind.cell)else(n,k)).lookup x=some .cell\/
  (names.map fun(n,k)=>if(k==NameKind.free&&env.scope.kind==.function&&env.kindOf n==some .cell)then(n,NameKind.cell)else(n,k)).lookup x=some .free)->(x,NameKind.free)∈names
 | [],_,_,h=>by simp at h
 | (n,k)::r,x,hc,h=>by
  have ih:=@TU env r x (fun y hy=>hc y (mem_cons_of_mem _ hy));have hk:k≠.cell:=hc (n,k) mem_cons_self;rw[zdH]at h;cases hx:x==n with
  | true=>
   have ex:=eq_of_beq hx;subst ex;by_cases hf:k=.free
   · subst hf;exact mem_cons_self
   · have hb:(k==NameKind.free)=false:=by simpa using hf
     simp only[hb,Bool.false_and,zdV,if_false,lookup_cons,beq_self_eq_true]at h;rcases h with h | h
     · exact absurd (Option.some.inj h) hk
     · exact absurd (Option.some.inj h) hf
  | false=>
   refine mem_cons_of_mem _ (ih ?_);by_cases hq:(k==NameKind.free&&env.scope.kind==.function&&env.kindOf n==some .cell)=true
   · simp only[hq,if_true,lookup_cons,hx]at h;exact h
   · rw[Bool.not_eq_true]at hq;simp only[hq,zdV,if_false,lookup_cons,hx]at h;exact h
noncomputable def Ed(X:Cx)(scope:Scope)(cl:List (Str×Addr)):List Str->List (Option Nat)->Prop
 | [],[]=>True
 | _::N,none::cs=>Ed X scope cl N cs
 | x::N,some j::cs=>(X.N[j]?=some x/\(X.env.kindOf x=some .cell\/X.env.kindOf x=some .free)/\((relabel scope X.env).names.lookup x=some .cell\/(relabel scope X.env).names.lookup x=some .free)/\
  cl.lookup x=X.env.cells.lookup x)/\Ed X scope cl N cs
 | _,_=>False
noncomputable def mG(σ:St)(cap:List (Option Nat)):St:=cap.map fun o=>match o with | some j=>(σ[j]?).join | none=>none
theorem Ed.get{X:Cx}{scope:Scope}{cl:List (Str×Addr)}:∀{N:List Str}{cs:List (Option Nat)},Ed X scope cl N cs->∀{i j:Nat}{x:Str},N[i]?=some x->cs[i]?=some (some j)->
 X.N[j]?=some x/\(X.env.kindOf x=some .cell\/X.env.kindOf x=some .free)/\((relabel scope X.env).names.lookup x=some .cell\/(relabel scope X.env).names.lookup x=some .free)/\cl.lookup x=X.env.cells.lookup x
 | [],[],_,i,j,x,h,_=>by simp at h
 | y::N,none::cs,h,0,j,x,_,e=>by simp at e
 | y::N,none::cs,h,i+1,j,x,e1,e2=>Ed.get (N:=N) (cs:=cs) h (i:=i) (by simpa using e1) (by simpa using e2)
 | y::N,some k::cs,h,0,j,x,e1,e2=>by simp at e1 e2;subst e1 e2;exact h.1
 | y::N,some k::cs,h,i+1,j,x,e1,e2=>Ed.get (N:=N) (cs:=cs) h.2 (i:=i) (by simpa using e1) (by simpa using e2)
 | [],_::_,h,_,_,_,_,_=>h.elim
 | _::_,[],h,_,_,_,_,_=>h.elim
theorem Ed.length{X:Cx}{scope:Scope}{cl:List (Str×Addr)}:∀{N:List Str}{cs:List (Option Nat)},Ed X scope cl N cs->cs.length=N.length
 | [],[],_=>rfl
 | y::N,none::cs,h=>by rw[zdF,zdF,Ed.length (N:=N) (cs:=cs) h]
 | y::N,some k::cs,h=>by rw[zdF,zdF,Ed.length (N:=N) (cs:=cs) h.2]
 | [],_::_,h=>h.elim
 | _::_,[],h=>h.elim
def AI(X:Cx)(ifs:List Expr)(t:TT):Prop:=
 ∀(pins:List (Addr×Obj))(s:Shared)(σ:St)(H:Hp)(Q:Bool->Hp->Prop),Inv X pins σ H s->t σ H Q->
  wpAny (model X.prog X.w) X.A (forIn ifs true fun c r=>if r=true then do let ok <- isTrue c X.env (eval c X.env);pure (ForInStep.yield ok)else pure (ForInStep.yield r)) (TP X pins σ Q) X.xe s
theorem Oj{X:Cx}:AI X [] (fun _ H Q=>Q true H):=fun _ _ _ H _ I q=>wpAny_tests_nil ⟨H,I,q⟩
theorem Pj{X:Cx}{c:Expr}{t:TT}(h:PT X c t):AI X [c] t:=fun pins s σ H Q I q=>wpAny_tests_one (h pins s σ H Q I q)
def cU(wi:TI)(g:TG)(tc:TT)(te:TE)(cap:List (Option Nat)):TE:=fun σ H Q=>wi σ H fun J H1=>∀D,H1 D=none->∃W:Nat->Nat->St->List V->Hp->Prop,
 (∃m,W 0 m (mG σ cap) [] (yB H1 D (.lst [])))/\∀i m σ' ys H',W i m σ' ys H'->
  (J.stop i H'/\Q (.ref D) H')\/(J.go i H'/\∀x H2,J.yld i H' x H2->g x σ' H2 fun σ2 H3=>tc σ2 H3 fun b H4=>if b=true then te σ2 H4 fun y H5=>
   H5 D=some (.lst ys)/\ys.length<sizeLine/\∃m',m'<m/\W (i+1) m' σ2 (ys++[y]) (yB H5 D (.lst (ys++[y])))else ∃m',m'<m/\W (i+1) m' σ2 ys H4)
section
variable{prog:Program}{w:World}{A:Around}{R:Result->Shared->Prop}{s:Shared}
theorem t5{elt target iter:Expr}{ifs:List Expr}{scope:Scope}{pos:Pos}{it acc:Value}{env:Env}(I:Nat->Shared->Prop)
 (turn:∀n s,I n s->wpAny (model prog w) A (pyNext it) (fun r s₁=>match r with
  | none=>R (.ok .next) s₁
  | some v=>wpAny (model prog w) A (letOwnedTupleGo target it v) (fun _ s₁'=>wpAny (model prog w) A (assign target env v) (fun _ s₂=>
   wpAny (model prog w) A (forIn ifs true fun c r=>if r=true then do let ok <- isTrue c env (eval c env);pure (ForInStep.yield ok)else pure (ForInStep.yield r)) (fun ok s₃=>
    if ok=true then wpAny (model prog w) A (eval elt env) (fun x s₄=>
     wpAny (model prog w) A (call (.builtin "list.append") [acc,x]) (fun _ s₅=>∃m,m<n/\I m s₅) (fun _ _=>False) s₄) (fun _ _=>False) s₃
    else ∃m,m<n/\I m s₃) (fun _ _=>False) s₂) (fun _ _=>False) s₁') (fun _ _=>False) s₁) (fun _ _=>False) s)
 (n:Nat) (h:I n s):codeAny (model prog w) A (.compLoop (.ListComp elt [⟨target,iter,ifs,0⟩] scope pos) 0 it acc env) R s:=by
 refine codeAny_loop rfl I (fun n s hI=>?_) n h;show wpAny _ A ((compTurn (.ListComp elt [⟨target,iter,ifs,0⟩] scope pos) 0 it acc env).onRaise (fun x=>do noteFrame x env;theTreesLotGoes x)) _ _ s;refine wpAny_noted ?_;rw[compTurn_list];refine wpAny_bind (wpAny_standAt (wpAny_bind (wpAny_mono (turn n s hI) (fun r s₁ h₁=>?_) fun _ _ h'=>h'.elim)));cases r with
 | none=>exact wpAny_pure h₁
 | some v=>
  refine wpAny_bind (wpAny_mono h₁ (fun _ s₁' h₁'=>?_) fun _ _ h'=>h'.elim);refine wpAny_bind (wpAny_mono h₁' (fun _ s₂ h₂=>wpAny_bind (wpAny_mono h₂ (fun ok s₃ h₃=>?_) fun _ _ h'=>h'.elim)) fun _ _ h'=>h'.elim);cases ok with
  | false=>exact wpAny_pure ⟨rfl,h₃⟩
  | true=>exact wpAny_bind (wpAny_bind (wpAny_mono h₃ (fun x s₄ h₄=>wpAny_bind (wpAny_mono h₄ (fun _ s₅ h₅=>wpAny_pure (wpAny_pure ⟨rfl,h₅⟩)) fun _ _ h'=>h'.elim)) fun _ _ h'=>h'.elim))
end
section
variable{X:Cx}{elt iter tg:Expr}{ifs:List Expr}{scope:Scope}{cl:List (Str×Addr)}{pos:Pos}{Nc:List Str}{wi:TI}{g:TG}{tc:TT}{te:TE}{cap:List (Option Nat)}
theorem sV{pins:List (Addr×Obj)}{σ:St}{H:Hp}{s:Shared}{it:Addr}{fp:List Addr}{tn:Nat->Heap->Prop}{J:It}{Q:VK}{RR:Value->Addr->Result->Shared->Prop}{E:Value->Shared->Prop}
 (hc:X.calm=true) (hcl:rE X.env.cells scope.names []=some cl) (hcell:∀y∈scope.names,y.2≠.cell) (hkind:scope.kind=.function) (hcap:Ed X scope cl Nc cap)
 (hg:∀C s0 H0 fp,PG (bC X Nc scope cl C s0 H0 fp) tg g) (ht:∀C s0 H0 fp,AI (bC X Nc scope cl C s0 H0 fp) ifs tc) (he:∀C s0 H0 fp,PE (bC X Nc scope cl C s0 H0 fp) elt te)
 (I:Inv X pins σ H s) (T:BH X.prog X.w X.K tg J fp it tn) (st:tn 0 s.heap) (hf:∀b∈fp,QE X pins H b)
 (read:∀D,H D=none->∃W:Nat->Nat->St->List V->Hp->Prop,
  (∃m,W 0 m (mG σ cap) [] (yB H D (.lst [])))/\∀i m σ' ys H',W i m σ' ys H'->
   (J.stop i H'/\Q (.ref D) H')\/(J.go i H'/\∀x H2,J.yld i H' x H2->g x σ' H2 fun σ2 H3=>tc σ2 H3 fun b H4=>if b=true then te σ2 H4 fun y H5=>
    H5 D=some (.lst ys)/\ys.length<sizeLine/\∃m',m'<m/\W (i+1) m' σ2 (ys++[y]) (yB H5 D (.lst (ys++[y])))else ∃m',m'<m/\W (i+1) m' σ2 ys H4))
 (hRR:∀(C D:Addr)(s':Shared)(H':Hp) m,Inv X pins σ H' s'->s'.heap.Ns C m->H' C=none->C≠X.env.locals->X.s₀.heap.objs.size<=C->(∀x c,X.env.cells.lookup x=some c->c≠C)->(∀p∈X.pn++pins,p.1≠C)->Q (.ref D) H'->RR (.ref D) C (.ok .next) s') :
 wpAny (model X.prog X.w) X.A (newList []) (fun acc s₃=>wpAny (model X.prog X.w) X.A (newFunctionEnv scope X.env.globals cl [] X.env.qual none .none (some X.env)) (fun cenv s₄=>
  codeAny (model X.prog X.w) X.A (.compStart (.ListComp elt [⟨tg,iter,ifs,0⟩] scope pos) 0 (.ref it) acc { cenv with scope:=relabel scope X.env }) (RR acc cenv.locals) s₄) E s₃) E s:=by
 obtain⟨sub,_,zcc⟩:=eR hcl (fun _ _ e=>by simp at e);refine wpAny_newObj_type (wpAny_newFunctionEnv hcell (by intro y hy;simp at hy) (fun h₁ hns₁ hsb₁=>?_) hkind);have hD:=I.fresh;have I3:Inv X pins σ (yB H s.heap.objs.size (.lst [])) { s with heap:=s.heap.push { cls:=.type "list",data:=.seq ([]:List Value).toArray } }:=I.zaq (ys:=[]) (its:=[]) (t':=s.toks) .nil (Nat.zero_le _);generalize hs3:({ s with heap:=s.heap.push { cls:=.type "list",data:=.seq ([]:List Value).toArray } }:Shared)=s3 at I3;generalize hH3:yB H s.heap.objs.size (.lst [])=H3 at I3;have hh3:s3.heap=s.heap.push { cls:=.type "list",dict:=none,data:=.seq ([]:List Value).toArray }:=by rw[<- hs3]
 dsimp only at hns₁ hsb₁ ⊢;rw[<- hh3]at hns₁ hsb₁;have hCn:H3 s3.heap.objs.size=none:=I3.fresh;have hCL:s3.heap.objs.size≠X.env.locals:=fun z=>by have:=I3.lt;rw[<- z]at this;exact Nat.lt_irrefl _ this
 have hC0:X.s₀.heap.objs.size<=s3.heap.objs.size:=I3.sz;have zak:∀x c,X.env.cells.lookup x=some c->c<s3.heap.objs.size:=fun x c e=>by obtain⟨v,o,ho,_⟩:=I3.cell x c e;exact Heap.lt_size ho
 have hCc:∀x c,X.env.cells.lookup x=some c->c≠s3.heap.objs.size:=fun x c e z=>by have:=zak x c e;rw[z]at this;exact Nat.lt_irrefl _ this
 have hCp:∀p∈X.pn++pins,p.1≠s3.heap.objs.size:=fun p hp z=>by have:=Heap.lt_size (I3.pin p hp).1;rw[z]at this;exact Nat.lt_irrefl _ this
 have zaL:∀b∈fp,b<s.heap.objs.size:=fun b hb=>by obtain⟨o,e,_⟩:=T.obj 0 _ st b hb;exact Heap.lt_size e
 have KZ:s3.heap.objs.size=s.heap.objs.size+1:=by rw[hh3,Heap.size_push]
 have old:∀b o,s3.heap.get? b=some o->h₁.get? b=some o:=fun b o e=>hsb₁.extBut b o (Nat.ne_of_lt (Heap.lt_size e)) (Heap.get?_push_of_some _ e)
 have zck:∀b o,s.heap.get? b=some o->s3.heap.get? b=some o:=fun b o e=>by rw[hh3];exact Heap.get?_push_of_some _ e
 have fpH:∀b∈fp,H3 b=none:=fun b hb=>by rw[<- hH3,NA (Nat.ne_of_lt (zaL b hb))];exact(hf b hb).1
 have okY:(bC X Nc scope cl s3.heap.objs.size s3 H3 fp).Ok:=by
  refine⟨I3.ok.mod,hkind,I3.ok.glob,I3.ok.blt,zdS _,fun x y c e1 e2=>I3.ok.inj x y c (sub x c e1) (sub y c e2),fun x hx=>?_,fun x c e _=>absurd e zdR,I3.ok.hd,I3.ok.frames,.inl rfl,fun b hb=>⟨?_,fun x c e=>?_⟩,fun b o e=>I3.bs b o e,?_,fun b o e=>?_,fun b hb=>?_,I3.stack,I3.Qm⟩
  · exact zcc x (TU hcell hx)
  · intro z;have:=zaL b hb;have z':b=s3.heap.objs.size:=z;rw[z',KZ]at this;exact absurd this (Nat.not_lt.mpr (Nat.le_succ _))
  · exact(hf b hb).2.2.2.2.1 x c (sub x c e)
  · exact Nat.le_trans I3.ok.Vp I3.sz
  · intro hb;have h1:=(hf b hb).2.2.2.1;have h2:=I3.ok.bs b o e;rcases h1 with z | z
    · exact I3.ok.Ul b o e z
    · exact absurd (Nat.lt_of_lt_of_le (Heap.lt_size h2.1) z) (Nat.lt_irrefl _)
  · intro z;rcases mem_cons.mp (I3.Gm b z)with z | z
    · exact(hf b hb).2.1 z
    · exact(hf b hb).2.2.1 z
 have IY:Inv (bC X Nc scope cl s3.heap.objs.size s3 H3 fp) [] (mG σ cap) H3 { s3 with heap:=h₁,toks:=s3.toks+([]:List (Str×Value)).length }:=by
  refine⟨okY,rfl,I3.bare,Un.kept old,⟨_,hns₁,fun i x v e1 e2 _=>?_⟩,fun x c e=>?_,hCn,fun x c e=>I3.Rc x c (sub x c e),fun p hp=>absurd hp (by simp[bC]),I3.hok.kept old,?_⟩
  · have e2':(mG σ cap)[i]?=some (some v):=e2;unfold mG at e2';rw[getElem?_map]at e2';cases q:cap[i]? with
    | none=>rw[q]at e2';cases e2'
    | some o=>
     rw[q]at e2';cases o with
     | none=>cases e2'
     | some j=>
      have e3:(σ[j]?).join=some v:=by simpa using e2'
      have e4:σ[j]?=some (some v):=by
       cases z:σ[j]? with
       | none=>rw[z]at e3;cases e3
       | some y=>rw[z]at e3;simpa using e3
      obtain⟨n1,n2,n3,n4⟩:=hcap.get e1 q;obtain⟨m,_,hl⟩:=I3.loc;have hv:CZ X.env.scope x:=.inr n2;obtain⟨u,r,lk⟩:=hl j x v n1 e4 hv;refine⟨u,r,.inr ⟨n3,?_⟩⟩;rcases lk with⟨k,_⟩ | ⟨_,c,ec,ob,z1,z2⟩
      · rcases n2 with n2 | n2<;>rw[k]at n2<;>cases n2
      · exact⟨c,n4.trans ec,ob,old c ob z1,z2⟩
  · obtain⟨v,o,z1,z2⟩:=I3.cell x c (sub x c e);exact⟨v,o,old c o z1,z2⟩
  · show(mG σ cap).length=Nc.length;unfold mG;rw[length_map];exact hcap.length
 obtain⟨W,⟨m0,w0⟩,turn⟩:=read s.heap.objs.size hD;rw[hH3]at w0;have st1:tn 0 h₁:=T.keep 0 _ _ st fun b _ o e=>old b o (zck b o e)
 have fpY:∀{H':Hp},(∀b∈fp,H' b=none)->∀b∈fp,QE (bC X Nc scope cl s3.heap.objs.size s3 H3 fp) [] H' b:=fun hn b hb=>⟨hn b hb,(okY.exf b hb).1,okY.Jl b hb,.inl hb,fun x c e=>(okY.exf b hb).2 x c e,fun p hp=>absurd hp (by simp[bC])⟩
 have loop:codeAny (model X.prog X.w) X.A (.compLoop (.ListComp elt [⟨tg,iter,ifs,0⟩] scope pos) 0 (.ref it) (.ref s.heap.objs.size) (compEnvC scope cl s3.heap.objs.size X.env)) (RR (.ref s.heap.objs.size) s3.heap.objs.size)
  { s3 with heap:=h₁,toks:=s3.toks+([]:List (Str×Value)).length }:=by
  refine t5 (fun n s'=>∃i σ' ys H',Inv (bC X Nc scope cl s3.heap.objs.size s3 H3 fp) [] σ' H' s'/\tn i s'.heap/\(∀b∈fp,H' b=none)/\W i n σ' ys H') ?_ m0 ⟨0,_,[],H3,IY,st1,fpH,w0⟩;rintro n s4 ⟨i,σ4,ys,H4,I4,st4,fr4,w4⟩;rcases turn i n σ4 ys H4 w4 with⟨stop,qn⟩ | ⟨go,step⟩
  · refine gB (T.done (bC X Nc scope cl s3.heap.objs.size s3 H3 fp) rfl rfl rfl hc i [] s4 σ4 H4 _ I4 (fpY fr4) st4 stop) fun r s5 zz=>?_
    obtain⟨hr,I5⟩:=zz;subst hr;have I6:Inv X pins σ H4 s5:=I3.call' (ch:=fp) I5.os I5.base I5.hok I5.bare fun b hb=>⟨(hf b hb).2.2.2.1,(hf b hb).2.1,(hf b hb).2.2.2.2.1,(hf b hb).2.2.2.2.2⟩
    obtain⟨m,hn,_⟩:=I5.loc;exact hRR _ _ s5 H4 m I6 hn I5.free hCL hC0 hCc hCp qn
  · refine gB (T.item (bC X Nc scope cl s3.heap.objs.size s3 H3 fp) rfl rfl rfl hc i [] s4 σ4 H4 _ I4 (fpY fr4) st4 go) fun r s5 zz=>?_
    obtain⟨u,hr,h5⟩:=zz;subst hr;refine gB h5 fun _ s6 zz=>?_
    obtain⟨x,H6,I6,r6,y6,st6,fr6⟩:=zz;have I6':=I6.pinned (fpY fr6) (T.obj _ _ st6);refine gB (hg _ _ _ _ _ s6 σ4 H6 x u _ I6' r6 (step x H6 y6)) fun _ s7 zz=>?_
    obtain⟨σ7,H7,I7,q7⟩:=zz;refine gB (ht _ _ _ _ _ s7 σ7 H7 _ I7 q7) fun b s8 zz=>?_
    obtain⟨H8,I8,q8⟩:=zz;have again:∀{σ9:St}{H9:Hp}{s9:Shared}{ys9:List V},Inv (bC X Nc scope cl s3.heap.objs.size s3 H3 fp) ([]++UK fp s6.heap) σ9 H9 s9->(∃m',m'<n/\W (i+1) m' σ9 ys9 H9)->
     ∃m',m'<n/\∃i σ' ys H',Inv (bC X Nc scope cl s3.heap.objs.size s3 H3 fp) [] σ' H' s9/\tn i s9.heap/\(∀b∈fp,H' b=none)/\W i m' σ' ys H':=fun {σ9 H9 s9 ys9} I9 ⟨m',hm,w9⟩=>by
     refine⟨m',hm,i+1,σ9,ys9,H9,I9.Bb,T.keep _ _ _ st6 fun b hb o e=>(I9.pin (b,o) (mem_append_right _ (mem_append_right _ (KM hb e)))).1,fun b hb=>?_,w9⟩;obtain⟨o,e,d⟩:=T.obj _ _ st6 b hb;exact(I9.pin (b,o) (mem_append_right _ (mem_append_right _ (KM hb e)))).2.1
    cases b with
    | false=>rw[if_neg zdR]at q8 ⊢;exact again I8 q8
    | true=>
     rw[if_pos rfl]at q8 ⊢;refine gB (he _ _ _ _ _ s8 σ7 H8 _ I8 q8) fun y s9 zz=>?_
     obtain⟨v,H9,I9,r9,d9,z9,w9⟩:=zz;refine gB (EV (X:=bC X Nc scope cl s3.heap.objs.size s3 H3 fp) _ s9 σ7 H9 (.ref s.heap.objs.size) [v] (.ref s.heap.objs.size) [y] (fun _ H'=>H'=yB H9 s.heap.objs.size (.lst (ys++[v]))) I9 rfl (.cons r9 .nil) ⟨_,ys,v,rfl,rfl,d9,z9,rfl⟩) fun _ s10 zz=>?_
     obtain⟨_,H10,I10,_,e10⟩:=zz;subst e10;exact again I10 w9
 exact codeAny_compStart_list loop (T.self X.A 0 _ _ _ st1 loop)
theorem ZX(hc:X.calm=true)(hi:PI X tg iter wi)(hcl:rE X.env.cells scope.names []=some cl)(hcell:∀y∈scope.names,y.2≠.cell)(hkind:scope.kind=.function)
 (hnames:∀y∈scope.names,y.2=.local->scope.names.lookup y.1=some .local) (hcap:Ed X scope cl Nc cap)
 (hg:∀C s0 H0 fp,PG (bC X Nc scope cl C s0 H0 fp) tg g) (ht:∀C s0 H0 fp,AI (bC X Nc scope cl C s0 H0 fp) ifs tc) (he:∀C s0 H0 fp,PE (bC X Nc scope cl C s0 H0 fp) elt te)
 (hs:∀x,foldedSetIterable iter X.env x=pure x:=by intro _;rfl):PE X (.ListComp elt [⟨tg,iter,ifs,0⟩] scope pos) (cU wi g tc te cap):=by
 intro pins s σ H Q I h;rw[eval_ListComp];refine wpAny_comprehension_free (use:=none) rfl hs (rV hcl) hkind hnames (gB (hi pins s σ H _ I h) fun v s1 h1=>gB h1 fun itv s2 h2=>?_);obtain⟨it,fp,tn,J,H2,e,I2,T,st2,f2,read⟩:=h2;subst e;refine sV hc hcl hcell hkind hcap hg ht he I2 T st2 f2 read fun C D s' H' m I' hn n1 n2 n3 n4 n5 q=>?_
 refine⟨m,hn,fun h' hs'=>⟨.ref D,H',?_,rfl,q⟩⟩;exact I'.turned (t':=s'.toks) (fun b o hb e=>hs'.extBut b o hb e) n1 n2 (.inr n3) n4 n5
theorem wV{i:Nat}{y:Str}{py spos:Pos}(hc:X.calm=true)(hN:X.N.Nodup)(hiN:X.N[i]?=some y)(hy:X.env.scope.names.lookup y=some .local)(hi:PI X tg iter wi)(hcl:rE X.env.cells scope.names []=some cl)(hcell:∀y∈scope.names,y.2≠.cell)(hkind:scope.kind=.function)
 (hnames:∀y∈scope.names,y.2=.local->scope.names.lookup y.1=some .local) (hcap:Ed X scope cl Nc cap)
 (hg:∀C s0 H0 fp,PG (bC X Nc scope cl C s0 H0 fp) tg g) (ht:∀C s0 H0 fp,AI (bC X Nc scope cl C s0 H0 fp) ifs tc) (he:∀C s0 H0 fp,PE (bC X Nc scope cl C s0 H0 fp) elt te)
 (hsw:swapsWith (.ListComp elt [⟨tg,iter,ifs,0⟩] scope pos) (some (.Name y py)) spos.line X.env=pure true)
 (hs:∀x,foldedSetIterable iter X.env x=pure x:=by intro _;rfl):PS X (.Assign [.Name y py] (.ListComp elt [⟨tg,iter,ifs,0⟩] scope pos) spos) (nP (cU wi g tc te cap) (rO i)):=by
 intro pins s σ H D I h;rw[exec_Assign_Name_used _ _ _ _ hsw];refine wpAny_bind (wpAny_standAt (wpAny_bind ?_));show wpAny _ X.A (do let _ <- comprehension (.ListComp elt [⟨tg,iter,ifs,0⟩] scope pos) scope X.env _ (newList []) false (eval iter X.env) (some (assign (.Name y py) X.env))) _ _ s;refine wpAny_bind (wpAny_mono (wpAny_comprehension_free (use:=some (assign (.Name y py) X.env)) (Q:=fun _ s'=>SP X pins D .next s') rfl hs (rV hcl) hkind hnames
  (gB (hi pins s σ H _ I h) fun v s1 h1=>gB h1 fun itv s2 h2=>?_)) (fun _ s' hq=>wpAny_pure (wpAny_pure hq)) fun _ _ e=>e)
 obtain⟨it,fp,tn,J,H2,e,I2,T,st2,f2,read⟩:=h2;subst e;refine sV (Q:=fun x H1=>rO i x σ H1 D.nx) hc hcl hcell hkind hcap hg ht he I2 T st2 f2 read fun C Dd s' H' m I' hn n1 n2 n3 n4 n5 q=>?_
 show wpAny _ X.A (assign (.Name y py) X.env (.ref Dd)) _ _ _;refine wpAny_assign_Name (TV I' hN hiN (.inl hy) (v:=.ref Dd) rfl (fun s4 I4 zz=>?_) (.inr hy));obtain⟨a,sb,ha⟩:=zz;have hCa:C≠a:=by
  rcases ha with ha | ha
  · rw[ha];exact n2
  · exact fun z=>n4 _ _ ha z.symm
 refine⟨m,hn.sameBut sb hCa,fun h' hs'=>⟨_,H',?_,q⟩⟩;exact I4.turned (t':=s4.toks) (fun b o hb e=>hs'.extBut b o hb e) n1 n2 (.inr n3) n4 n5
end
end L2
namespace SM
def SD(bd:RG)(tc:RT)(te:RE)(s:Src):Nat->Nat->LI->HI->List Dt->Option (List Dt×HI)
 | 0,_,_,_,_=>none
 | k+1,i,l,h,ys=>match s.at h i with
  | none=>none
  | some none=>some (ys,h)
  | some (some d)=>(bd d l).bind fun l1=>(tc l1 h).bind fun b=>if b.1=true then(te l1 b.2).bind fun r=>if ys.length<sizeLine then SD bd tc te s k (i+1) l1 r.2 (ys++[r.1])else none
   else SD bd tc te s k (i+1) l1 b.2 ys
noncomputable def cF(l:LI)(cap:List (Option Nat)):LI:=cap.map fun o=>match o with | some j=>(l[j]?).join | none=>none
def yD(g:RI)(bd:RG)(tc:RT)(te:RE)(cap:List (Option Nat)):RE:=fun l h=>(g l h).bind fun r=>(SD bd tc te r.1 (r.1.fuel r.2) 0 (cF l cap) r.2 []).bind fun q=>some (.lst q.1,q.2)
def IG(g:RI)(bd:RG)(tc:RT)(te:RE)(cap:List (Option Nat)):RE:=fun l h=>(g l h).bind fun r=>(SD bd tc te r.1 (r.1.fuel r.2) 0 (cF l cap) r.2 []).bind fun q=>some (.ref q.2.length,q.2++[.lst q.1])
noncomputable def DB:RT:=fun _ h=>some (true,h)
theorem Sx{K:Frag}{H:Hp}{ρ:Rg}{l:LI}{σ:L2.St}(L:Zf K H ρ l σ)(cap:List (Option Nat)):Zf K H ρ (cF l cap) (mG σ cap):=by
 refine⟨by simp[cF,mG],fun i d e=>?_⟩;unfold cF at e;unfold mG;rw[getElem?_map]at e ⊢;cases q:cap[i]? with
 | none=>rw[q]at e;cases e
 | some o=>
  rw[q]at e;cases o with
  | none=>cases e
  | some j=>
   have e3:(l[j]?).join=some d:=by simpa using e
   have e4:l[j]?=some (some d):=by
    cases z:l[j]? with
    | none=>rw[z]at e3;cases e3
    | some y=>rw[z]at e3;simpa using e3
   obtain⟨v,g1,g2⟩:=L.val j d e4;refine⟨v,?_,g2⟩;simp[g1]
section
variable{X:Cx}{elt iter tg:Expr}{ifs:List Expr}{scope:Scope}{cl:List (Str×Addr)}{pos:Pos}{Nc:List Str}{g:RI}{bd:RG}{tc:RT}{te:RE}{cap:List (Option Nat)}
@[irreducible] def CM(X:Cx)(ifs:List Expr)(f:RT):Prop:=AI X ifs (MO X.K f)
theorem jE:CM X [] DB:=by with_unfolding_all exact fun pins s σ H Q I q=>by obtain⟨ρ,l,h,b,h',S,L,e,k⟩:=q;cases e;exact Oj pins s σ H Q I (k ρ H S (Ext.refl _ _))
theorem XN{c:Expr}{f:RT}(h:TM X c f):CM X [c] f:=by with_unfolding_all exact Pj h
end
section
variable{K:Frag}{H:Hp}{ρ:Rg}{p:Addr}{o:HO}{h:HI}
theorem zq{a:Addr}{u:HO}(hp:H p=none)(e:H a=some u)(n:ρ.no a):(ρ.hide p).no a:=
 ⟨n.1,fun z=>by
  rcases mem_cons.mp z with z | z
  · rw[z,hp]at e;cases e
  · exact n.2 z⟩
theorem Ext.Bp{τ:Rg}{H':Hp}(x:Ext (ρ.hide p) τ H H'):∃ρ',τ=ρ'.hide p/\Ext ρ ρ' H H':=by
 refine⟨⟨τ.v,ρ.z⟩,?_,⟨x.pre,rfl,x.keep,x.live,x.fz⟩⟩;have e:=x.hid;cases τ with
 | mk v z=>have e':z=p::ρ.z:=e;subst e';rfl
theorem Ext.zay{ρ':Rg}{H':Hp}(x:Ext ρ ρ' H H')(hp:H p=none):Ext ρ ρ' H (yB H' p o):=
 ⟨x.pre,x.hid,fun a u e n=>by rw[NA (XC e hp)];exact x.keep a u e n,fun a e=>by
  by_cases ha:a=p
  · rw[ha];exact hp
  · rw[NA ha]at e;exact x.live a e,fun a q u e=>by rw[NA (XC e hp)];exact x.fz a q u e⟩
theorem Lb.same{ρ':Rg}{H':Hp}{a:Addr}{u:Ob}(x:ud ρ ρ' H H')(e:H' a=H a)(q:Lb K H ρ a u):Lb K H' ρ' a u:=by
 cases u with
 | lst xs=>obtain⟨vs,h1,h2⟩:=q;exact⟨vs,e.trans h1,Wr.same x _ h2⟩
 | ins y fs=>obtain⟨C,dx,vs,h0,h1,h2,h3⟩:=q;exact⟨C,dx,vs,h0,e.trans h1,h2,Wr.same x _ h3⟩
 | dk kvs=>obtain⟨vs,h1,h2,h3⟩:=q;exact⟨vs,e.trans h1,h2,Wr.same x _ h3⟩
 | dt kvs=>obtain⟨vs,h1,h2,h3⟩:=q;exact⟨vs,e.trans h1,h2,Wr.same x _ h3⟩
 | df kvs=>obtain⟨o,vs,h1,h2,h3⟩:=q;exact⟨o,vs,e.trans h1,h2,Wr.same x _ h3⟩
theorem Zf.same{ρ':Rg}{H':Hp}{l:LI}{σ:L2.St}(x:ud ρ ρ' H H')(L:Zf K H ρ l σ):Zf K H' ρ' l σ:=
 ⟨L.len,fun i d e=>let ⟨v,e1,r⟩:=L.val i d e;⟨v,e1,Yr.same x d r⟩⟩
theorem NV(hp:H p=none):ud ρ (ρ.hide p) H (yB H p o):=
 ⟨fun _ _ e n=>zq hp e n,fun a u e _=>by rw[NA (XC e hp)];exact e,fun _ _ e=>e,fun a q u e=>by rw[NA (XC e hp)];exact e⟩
theorem PQ{o:HO}(nf:eU H p):ud (ρ.hide p) (ρ.hide p) H (yB H p o):=
 ⟨fun _ _ _ n=>n,fun a u e n=>by rw[NA (fun z=>n.2 (by rw[z];exact mem_cons_self))];exact e,fun _ _ e=>e,fun a q u e=>by rw[NA (fun z:a=p=>nf q u (by rw[<- z];exact e))];exact e⟩
theorem OV:ud (ρ.hide p) ρ H H:=⟨fun _ _ _ n=>⟨n.1,fun z=>n.2 (mem_cons_of_mem _ z)⟩,fun _ _ e _=>e,fun _ _ e=>e,fun _ _ _ e=>e⟩
theorem bX:ud (ρ.hide p) (ρ.add p) H H:=
 ⟨fun a _ _ n=>⟨fun z=>(mem_append.mp z).elim n.1 fun z=>n.2 (by rw[mem_singleton.mp z];exact mem_cons_self),fun z=>n.2 (mem_cons_of_mem _ z)⟩,fun _ _ e _=>e,fun n a e=>by
  have e':ρ.v[n]?=some a:=e;have:=(zdP e').1;show(ρ.v++[p])[n]?=some a;rw[zdQ this];exact e',fun _ _ _ e=>e⟩
theorem uf.hide{xs:List V}(S:uf K ρ h H)(hp:H p=none):uf K (ρ.hide p) h (yB H p (.lst xs)):=
 ⟨S.nd,S.len,fun n a u e1 e2=>(S.ob n a u e1 e2).same (NV hp) (NA (fun z=>(S.out hp).1 (z ▸ mem_of_getElem? e1))),fun a ha=>by
  rcases mem_cons.mp ha with z | z
  · rw[z];exact⟨(S.out hp).1,xs,LC⟩
  · obtain⟨m,u,e⟩:=S.zt a z;exact⟨m,u,by rw[NA (XC e hp)];exact e⟩⟩
theorem uf.zao{xs:List V}(S:uf K (ρ.hide p) h H):uf K (ρ.hide p) h (yB H p (.lst xs)):=
 ⟨S.nd,S.len,fun n a u e1 e2=>(S.ob n a u e1 e2).same (PQ (YG (S.zt p mem_cons_self).2.choose_spec)) (NA (fun z=>(S.zt p mem_cons_self).1 (z ▸ mem_of_getElem? e1))),fun a ha=>by
  obtain⟨m,u,e⟩:=S.zt a ha;by_cases hap:a=p
  · subst hap;exact⟨m,xs,LC⟩
  · exact⟨m,u,by rw[NA hap];exact e⟩⟩
theorem uf.show(S:uf K (ρ.hide p) h H):uf K ρ h H:=
 ⟨S.nd,S.len,fun n a u e1 e2=>(S.ob n a u e1 e2).same OV rfl,fun a ha=>S.zt a (mem_cons_of_mem _ ha)⟩
theorem uf.Xl(S:uf K (ρ.hide p) h H)(hz:p∉ρ.z){ds:List Dt}{vs:List V}(e:H p=some (.lst vs))(R:Wr K H (ρ.hide p) ds vs):uf K (ρ.add p) (h++[.lst ds]) H:=by
 have nv:=(S.zt p mem_cons_self).1;refine⟨?_,by simp only[Rg.add];rw[length_append,length_append,<- S.len];rfl,fun n a ob e1 e2=>?_,fun a ha=>?_⟩
 · simp only[Rg.add];rw[nodup_append];refine⟨S.nd,nodup_cons.mpr ⟨by simp,nodup_nil⟩,fun a ha b hb=>?_⟩;rw[mem_singleton.mp hb];intro z;exact nv (z ▸ ha)
 · simp only[Rg.add]at e1;have hl:ρ.v.length=h.length:=S.len;by_cases hn:n<h.length
   · rw[zdQ hn]at e2;rw[zdQ (by rw[hl];exact hn)]at e1;exact(S.ob n a ob e1 e2).same bX rfl
   · have hn':h.length<=n:=Nat.not_lt.mp hn;rw[zdT hn']at e2;rw[zdT (by rw[hl];exact hn'),hl]at e1;cases hk:n-h.length with
     | zero=>rw[hk]at e1 e2;simp at e1 e2;subst e1 e2;exact⟨vs,e,Wr.same bX _ R⟩
     | succ k=>rw[hk]at e2;simp at e2
 · obtain⟨n,u,e'⟩:=S.zt a (mem_cons_of_mem _ ha);refine⟨fun hm=>?_,u,e'⟩;rcases mem_append.mp hm with hm | hm
   · exact n hm
   · exact hz ((mem_singleton.mp hm) ▸ ha)
end
section
variable{X:Cx}{elt iter tg:Expr}{ifs:List Expr}{scope:Scope}{cl:List (Str×Addr)}{pos:Pos}{Nc:List Str}{g:RI}{bd:RG}{tc:RT}{te:RE}{cap:List (Option Nat)}
theorem bN{σ:L2.St}{H:Hp}{Q:VK}(own:Bool){d:Dt}{h':HI}{ρ:Rg}{l:LI}{h:HI}(S:uf X.K ρ h H)(L:Zf X.K H ρ l σ)
 (e:(if own=true then IG g bd tc te cap else yD g bd tc te cap) l h=some (d,h')) (k:Out X.K ρ H d h' Q):cU (iM X.K g) (gM X.K bd) (MO X.K tc) (tM X.K te) cap σ H Q:=by
 have e0:∃s1 h1,g l h=some (s1,h1)/\∃ys h2,SD bd tc te s1 (s1.fuel h1) 0 (cF l cap) h1 []=some (ys,h2)/\h'=(if own=true then h2++[.lst ys]else h2)/\d=(if own=true then .ref h2.length else .lst ys):=by
  cases own with
  | true=>rw[if_pos rfl]at e;obtain⟨⟨s1,h1⟩,e1,e⟩:=lA e;obtain⟨⟨ys,h2⟩,e2,e⟩:=lA e;cases e;exact⟨s1,h1,e1,ys,h2,e2,rfl,rfl⟩
  | false=>rw[if_neg zdR]at e;obtain⟨⟨s1,h1⟩,e1,e⟩:=lA e;obtain⟨⟨ys,h2⟩,e2,e⟩:=lA e;cases e;exact⟨s1,h1,e1,ys,h2,e2,rfl,rfl⟩
 obtain⟨s1,h1,e1,zs,h2,e2,eh,ed⟩:=e0;refine⟨ρ,l,h,s1,h1,S,L,e1,fun ρ1 J H1 ok S1 E1 D hD=>?_⟩;have hDz:D∉ρ1.z:=(S1.out hD).2;refine⟨fun i m σ' ys H'=>∃ρ' l' h' ds,uf X.K (ρ'.hide D) h' H'/\Zf X.K H' (ρ'.hide D) l' σ'/\Ext ρ1 ρ' H1 H'/\H' D=some (.lst ys)/\Wr X.K H' (ρ'.hide D) ds ys/\SD bd tc te s1 m i l' h' ds=some (zs,h2),?_,?_⟩
 · exact⟨_,ρ1,_,h1,[],S1.hide hD,Sx (Zf.same (NV hD) (L.ext E1)) cap,Ext.fresh hD,LC,.nil,e2⟩
 · rintro i m σ' ys H' ⟨ρ',l',h3,ds,S',L',E',hD',R',e'⟩;cases m with
   | zero=>simp only[SD]at e';cases e'
   | succ m=>
    simp only[SD]at e';have sm:ud ρ1 (ρ'.hide D) H1 H':=⟨fun a u z n=>⟨(E'.Vl z n).1,fun w=>by
     rcases mem_cons.mp w with w | w
     · rw[w,hD]at z;cases z
     · exact(E'.Vl z n).2 w⟩,fun a u z n=>E'.keep a u z n.1,fun n a z=>E'.get z,E'.fz⟩
    have ok':=ok H' (ρ'.hide D) h3 sm S' i;cases q:s1.at h3 i with
    | none=>rw[q]at e';cases e'
    | some o=>
     rw[q]at e' ok';cases o with
     | none=>
      cases e';refine .inl ⟨ok',?_⟩;have nD:ρ'.no D:=⟨(S'.zt D mem_cons_self).1,by rw[E'.hid];exact hDz⟩;cases own with
      | false=>rw[if_neg zdR]at eh ed;subst eh ed;exact k ρ' _ H' (jf.mpr ⟨D,ys,rfl,.inl ⟨nD,.inl hD'⟩,Wr.same OV _ R'⟩) S'.show (E1.trans E')
      | true=>
       rw[if_pos rfl]at eh ed;subst eh ed;refine k (ρ'.add D) _ H' (zf.mpr ⟨D,rfl,?_⟩) (S'.Xl nD.2 hD' R') (E1.trans ⟨?_,E'.hid,E'.keep,E'.live,E'.fz⟩)
       · have hl:ρ'.v.length=h2.length:=S'.len;show(ρ'.v++[D])[h2.length]?=some D;rw[<- hl,zdT (zdS _),Nat.sub_self];rfl
       · obtain⟨x,q1,q2⟩:=E'.pre;refine⟨x++[D],by show ρ'.v++[D]=_;rw[q1,append_assoc],fun a ha=>?_⟩;rcases mem_append.mp ha with ha | ha
         · exact q2 a ha
         · rw[mem_singleton.mp ha];exact hD
     | some d0=>
      dsimp only at e';obtain⟨l1,b1,e'⟩:=lA e';obtain⟨⟨b,h4⟩,b2,e'⟩:=lA e';refine .inr ⟨ok'.1,fun v H3 y=>?_⟩;obtain⟨R3,E3,S3⟩:=ok'.2 v H3 y;have nDv:=(S'.zt D mem_cons_self).1;refine⟨ρ'.hide D,l',h3,d0,l1,S3,L'.ext E3,R3,b1,fun σ4 L4=>⟨ρ'.hide D,l1,h3,b,h4,S3,L4,b2,fun ρ5 H5 S5 E5=>?_⟩⟩;cases b with
      | true=>
       dsimp only at e';rw[if_pos rfl]at e';obtain⟨⟨d5,h5⟩,b3,e'⟩:=lA e';by_cases hz:ds.length<sizeLine
       · rw[if_pos hz]at e';refine WG ⟨ρ5,l1,h4,d5,h5,S5,L4.ext E5,b3,fun ρ6 v6 H6 R6 S6 E6=>⟨?_,by rw[R'.length];exact hz,m,Nat.lt_succ_self _,?_⟩⟩
         · exact(E3.trans (E5.trans E6)).keep D _ hD' nDv
         · obtain⟨ρ7,rfl,E7⟩:=(E3.trans (E5.trans E6)).Bp;refine⟨ρ7,l1,h5,ds++[d5],S6.zao,Zf.same (PQ (YG (S6.zt D mem_cons_self).2.choose_spec)) (L4.ext (E5.trans E6)),(E'.trans E7).zay hD,LC,?_,e'⟩;exact Wr.same (PQ (YG (S6.zt D mem_cons_self).2.choose_spec)) _ ((R'.ext (E3.trans (E5.trans E6))).append (.cons R6 .nil))
       · rw[if_neg hz]at e';cases e'
      | false=>dsimp only at e';rw[if_neg zdR]at e';refine VG ⟨m,Nat.lt_succ_self _,?_⟩;obtain⟨ρ7,rfl,E7⟩:=(E3.trans E5).Bp;exact⟨ρ7,l1,h4,ds,S5,L4.ext E5,E'.trans E7,(E3.trans E5).keep D _ hD' nDv,R'.ext (E3.trans E5),e'⟩
theorem dG(hc:X.calm=true)(hi:IM X tg iter g)(hcell:∀y∈scope.names,y.2≠.cell)(hkind:scope.kind=.function)
 (hnames:∀y∈scope.names,y.2=.local->scope.names.lookup y.1=some .local) (hcl:rE X.env.cells scope.names []=some cl) (hcap:Ed X scope cl Nc cap)
 (hg:∀C s0 H0 fp,GM (bC X Nc scope cl C s0 H0 fp) tg bd) (ht:∀C s0 H0 fp,CM (bC X Nc scope cl C s0 H0 fp) ifs tc) (he:∀C s0 H0 fp,EM (bC X Nc scope cl C s0 H0 fp) elt te)
 (hs:∀x,foldedSetIterable iter X.env x=pure x:=by intro _;rfl):EM X (.ListComp elt [⟨tg,iter,ifs,0⟩] scope pos) (yD g bd tc te cap):=by
 with_unfolding_all exact PE.imp (ZX (g:=gM X.K bd) (tc:=MO X.K tc) (te:=tM X.K te) hc hi hcl hcell hkind hnames hcap hg ht he hs) fun σ H Q ⟨ρ,l,h,d,h',S,L,e,k⟩=>bN (X:=X) false S L e k
theorem v9(hc:X.calm=true)(hi:IM X tg iter g)(hcell:∀y∈scope.names,y.2≠.cell)(hkind:scope.kind=.function)
 (hnames:∀y∈scope.names,y.2=.local->scope.names.lookup y.1=some .local) (hcl:rE X.env.cells scope.names []=some cl) (hcap:Ed X scope cl Nc cap)
 (hg:∀C s0 H0 fp,GM (bC X Nc scope cl C s0 H0 fp) tg bd) (ht:∀C s0 H0 fp,CM (bC X Nc scope cl C s0 H0 fp) ifs tc) (he:∀C s0 H0 fp,EM (bC X Nc scope cl C s0 H0 fp) elt te)
 (hs:∀x,foldedSetIterable iter X.env x=pure x:=by intro _;rfl):EM X (.ListComp elt [⟨tg,iter,ifs,0⟩] scope pos) (IG g bd tc te cap):=by
 with_unfolding_all exact PE.imp (ZX (g:=gM X.K bd) (tc:=MO X.K tc) (te:=tM X.K te) hc hi hcl hcell hkind hnames hcap hg ht he hs) fun σ H Q ⟨ρ,l,h,d,h',S,L,e,k⟩=>bN (X:=X) true S L e k
theorem hJ(i:Nat){y:Str}{py spos:Pos}(hc:X.calm=true)(hN:X.N.Nodup)(hi:IM X tg iter g)(hcell:∀y∈scope.names,y.2≠.cell)(hkind:scope.kind=.function)
 (hnames:∀y∈scope.names,y.2=.local->scope.names.lookup y.1=some .local) (hcl:rE X.env.cells scope.names []=some cl) (hcap:Ed X scope cl Nc cap)
 (hg:∀C s0 H0 fp,GM (bC X Nc scope cl C s0 H0 fp) tg bd) (ht:∀C s0 H0 fp,CM (bC X Nc scope cl C s0 H0 fp) ifs tc) (he:∀C s0 H0 fp,EM (bC X Nc scope cl C s0 H0 fp) elt te)
 (hsw:swapsWith (.ListComp elt [⟨tg,iter,ifs,0⟩] scope pos) (some (.Name y py)) spos.line X.env=pure true)
 (hiN:X.N[i]?=some y:=by rfl) (hy:X.env.scope.names.lookup y=some .local:=by rfl) (hs:∀x,foldedSetIterable iter X.env x=pure x:=by intro _;rfl) :
 ZM X (.Assign [.Name y py] (.ListComp elt [⟨tg,iter,ifs,0⟩] scope pos) spos) (yA i (yD g bd tc te cap)):=by
 with_unfolding_all exact PS.imp (wV (g:=gM X.K bd) (tc:=MO X.K tc) (te:=tM X.K te) hc hN hiN hy hi hcl hcell hkind hnames hcap hg ht he hsw hs) fun D σ H zz=>by obtain⟨ρ,l,h,r,S,L,e,k⟩:=zz;obtain⟨⟨d1,h1⟩,e1,e⟩:=lA e;cases e;exact bN (X:=X) false S L e1 fun ρ1 v H1 R1 S1 E1=>k ρ1 _ H1 S1 ((L.ext E1).set i R1) E1
theorem DQ(i:Nat){y:Str}{py spos:Pos}(hc:X.calm=true)(hN:X.N.Nodup)(hi:IM X tg iter g)(hcell:∀y∈scope.names,y.2≠.cell)(hkind:scope.kind=.function)
 (hnames:∀y∈scope.names,y.2=.local->scope.names.lookup y.1=some .local) (hcl:rE X.env.cells scope.names []=some cl) (hcap:Ed X scope cl Nc cap)
 (hg:∀C s0 H0 fp,GM (bC X Nc scope cl C s0 H0 fp) tg bd) (ht:∀C s0 H0 fp,CM (bC X Nc scope cl C s0 H0 fp) ifs tc) (he:∀C s0 H0 fp,EM (bC X Nc scope cl C s0 H0 fp) elt te)
 (hsw:swapsWith (.ListComp elt [⟨tg,iter,ifs,0⟩] scope pos) (some (.Name y py)) spos.line X.env=pure true)
 (hiN:X.N[i]?=some y:=by rfl) (hy:X.env.scope.names.lookup y=some .local:=by rfl) (hs:∀x,foldedSetIterable iter X.env x=pure x:=by intro _;rfl) :
 ZM X (.Assign [.Name y py] (.ListComp elt [⟨tg,iter,ifs,0⟩] scope pos) spos) (yA i (IG g bd tc te cap)):=by
 with_unfolding_all exact PS.imp (wV (g:=gM X.K bd) (tc:=MO X.K tc) (te:=tM X.K te) hc hN hiN hy hi hcl hcell hkind hnames hcap hg ht he hsw hs) fun D σ H zz=>by obtain⟨ρ,l,h,r,S,L,e,k⟩:=zz;obtain⟨⟨d1,h1⟩,e1,e⟩:=lA e;cases e;exact bN (X:=X) true S L e1 fun ρ1 v H1 R1 S1 E1=>k ρ1 _ H1 S1 ((L.ext E1).set i R1) E1
end
end SM
namespace L2
section
variable{X:Cx}{elt iter tg:Expr}{ifs:List Expr}{scope:Scope}{cl:List (Str×Addr)}{pos:Pos}{Nc:List Str}{wi:TI}{g:TG}{tc:TT}{te:TE}{cap:List (Option Nat)}{x0:Str}
end
end L2
namespace SM
section
variable{X:Cx}{elt iter tg:Expr}{ifs:List Expr}{scope:Scope}{cl:List (Str×Addr)}{pos:Pos}{Nc:List Str}{g:RI}{bd:RG}{tc:RT}{te:RE}{cap:List (Option Nat)}{x0:Str}
end
mutual
noncomputable def AB:Dt->Bool
 | .tup xs=>lD xs
 | .lst xs=>lD xs
 | .ref _=>false
 | .uc _=>false
 | _=>true
noncomputable def lD:List Dt->Bool
 | []=>true
 | x::xs=>AB x&&lD xs
end
mutual
noncomputable def EH:Dt->Nat
 | .tup xs=>YE xs+1
 | .lst xs=>YE xs+1
 | _=>0
noncomputable def YE:List Dt->Nat
 | []=>0
 | x::xs=>max (EH x) (YE xs)
end
mutual
noncomputable def bD:Dt->Dt->Bool
 | .non,.non=>true
 | .bl a,.bl b=>a==b
 | .bl a,.int b=>(if a then 1 else 0)==b
 | .int a,.bl b=>a==(if b then 1 else 0)
 | .int a,.int b=>a==b
 | .str a,.str b=>a==b
 | .tup xs,.tup ys=>HD xs ys
 | .lst xs,.lst ys=>HD xs ys
 | _,_=>false
noncomputable def HD:List Dt->List Dt->Bool
 | [],[]=>true
 | x::xs,y::ys=>bD x y&&HD xs ys
 | _,_=>false
end
mutual
theorem wR:∀d:Dt,AB d=true->bD d d=true
 | .non,_=>by simp only[bD]
 | .bl b,_=>by simp only[bD,beq_self_eq_true]
 | .int i,_=>by simp only[bD,beq_self_eq_true]
 | .str x,_=>by simp only[bD,beq_self_eq_true]
 | .tup xs,h=>by simp only[bD];exact gR xs (by simpa only[AB]using h)
 | .lst xs,h=>by simp only[bD];exact gR xs (by simpa only[AB]using h)
 | .ref _,h=>by simp[AB]at h
 | .uc _,h=>by simp[AB]at h
theorem gR:∀ds:List Dt,lD ds=true->HD ds ds=true
 | [],_=>by simp only[HD]
 | d::ds,h=>by simp only[lD,Bool.and_eq_true]at h;simp only[HD,Bool.and_eq_true];exact⟨wR d h.1,gR ds h.2⟩
end
section
variable{X:Cx}{pins:List (Addr×Obj)}{σ:L2.St}{H:Hp}{s:Shared}{ρ:Rg}
mutual
theorem eS(I:Inv X pins σ H s):∀(d d':Dt){v:V},AB d=true->AB d'=true->Yr X.K H ρ d v->Yr X.K H ρ d' v->d=d'
 | .non,d',v,_,p,r,r'=>by
  have e:=Af.mp r;subst e;cases d' with
  | non=>rfl
  | bl b=>have:=Zr.mp r';cases this
  | int b=>have:=Xr.mp r';cases this
  | str b=>have:=Df.mp r';cases this
  | tup b=>obtain⟨_,_,z,_⟩:=vf.mp r';cases z
  | lst b=>obtain⟨_,_,z,_⟩:=jf.mp r';cases z
  | ref b=>obtain⟨_,z,_⟩:=zf.mp r';cases z
  | uc b=>obtain⟨_,z,_⟩:=Vd.mp r';cases z
 | .bl i,d',v,_,p,r,r'=>by
  have e:=Zr.mp r;subst e;cases d' with
  | non=>have:=Af.mp r';cases this
  | bl b=>have:=Zr.mp r';cases this;rfl
  | int b=>have:=Xr.mp r';cases this
  | str b=>have:=Df.mp r';cases this
  | tup b=>obtain⟨_,_,z,_⟩:=vf.mp r';cases z
  | lst b=>obtain⟨_,_,z,_⟩:=jf.mp r';cases z
  | ref b=>obtain⟨_,z,_⟩:=zf.mp r';cases z
  | uc b=>obtain⟨_,z,_⟩:=Vd.mp r';cases z
 | .int i,d',v,_,p,r,r'=>by
  have e:=Xr.mp r;subst e;cases d' with
  | non=>have:=Af.mp r';cases this
  | bl b=>have:=Zr.mp r';cases this
  | int b=>have:=Xr.mp r';cases this;rfl
  | str b=>have:=Df.mp r';cases this
  | tup b=>obtain⟨_,_,z,_⟩:=vf.mp r';cases z
  | lst b=>obtain⟨_,_,z,_⟩:=jf.mp r';cases z
  | ref b=>obtain⟨_,z,_⟩:=zf.mp r';cases z
  | uc b=>obtain⟨_,z,_⟩:=Vd.mp r';cases z
 | .str i,d',v,_,p,r,r'=>by
  have e:=Df.mp r;subst e;cases d' with
  | non=>have:=Af.mp r';cases this
  | bl b=>have:=Zr.mp r';cases this
  | int b=>have:=Xr.mp r';cases this
  | str b=>have:=Df.mp r';cases this;rfl
  | tup b=>obtain⟨_,_,z,_⟩:=vf.mp r';cases z
  | lst b=>obtain⟨_,_,z,_⟩:=jf.mp r';cases z
  | ref b=>obtain⟨_,z,_⟩:=zf.mp r';cases z
  | uc b=>obtain⟨_,z,_⟩:=Vd.mp r';cases z
 | .tup xs,d',v,p0,p,r,r'=>by
  obtain⟨a,vs,e,q,rs⟩:=vf.mp r;subst e;cases d' with
  | non=>have:=Af.mp r';cases this
  | bl b=>have:=Zr.mp r';cases this
  | int b=>have:=Xr.mp r';cases this
  | str b=>have:=Df.mp r';cases this
  | tup ys=>obtain⟨b,ws,z,q',rs'⟩:=vf.mp r';cases z;have ee:=I.Ym q.sq q'.sq;subst ee;rw[VR I xs ys (by simpa only[AB]using p0) (by simpa only[AB]using p) rs rs']
  | lst ys=>
   obtain⟨b,ws,z,q',rs'⟩:=jf.mp r';cases z;obtain⟨_,_,⟨o,e1,e2,_⟩,_⟩:=I.tuple q.sq;obtain⟨_,_,⟨o',_,e1',e2',_⟩,_⟩:=I.list q'.sq;rw[e1]at e1';cases e1';rw[e2]at e2';injection e2' with e3
   exact absurd e3 (by decide)
  | ref b=>simp[AB]at p
  | uc b=>simp[AB]at p
 | .lst xs,d',v,p0,p,r,r'=>by
  obtain⟨a,vs,e,q,rs⟩:=jf.mp r;subst e;cases d' with
  | non=>have:=Af.mp r';cases this
  | bl b=>have:=Zr.mp r';cases this
  | int b=>have:=Xr.mp r';cases this
  | str b=>have:=Df.mp r';cases this
  | lst ys=>obtain⟨b,ws,z,q',rs'⟩:=jf.mp r';cases z;have ee:=I.Wb q.sq q'.sq;subst ee;rw[VR I xs ys (by simpa only[AB]using p0) (by simpa only[AB]using p) rs rs']
  | tup ys=>
   obtain⟨b,ws,z,q',rs'⟩:=vf.mp r';cases z;obtain⟨_,_,⟨o,e1,e2,_⟩,_⟩:=I.tuple q'.sq;obtain⟨_,_,⟨o',_,e1',e2',_⟩,_⟩:=I.list q.sq;rw[e1]at e1';cases e1';rw[e2]at e2';injection e2' with e3
   exact absurd e3 (by decide)
  | ref b=>simp[AB]at p
  | uc b=>simp[AB]at p
 | .ref _,_,_,p,_,_,_=>by simp[AB]at p
 | .uc _,_,_,p,_,_,_=>by simp[AB]at p
theorem VR(I:Inv X pins σ H s):∀(ds ds':List Dt){vs:List V},lD ds=true->lD ds'=true->Wr X.K H ρ ds vs->Wr X.K H ρ ds' vs->ds=ds'
 | [],[],_,_,_,_,_=>rfl
 | [],d'::ds',_,_,_,r,r'=>by rw[r.vd]at r';obtain⟨_,_,z,_⟩:=r'.Bf;cases z
 | d::ds,[],_,_,_,r,r'=>by rw[r'.vd]at r;obtain⟨_,_,z,_⟩:=r.Bf;cases z
 | d::ds,d'::ds',_,p,p',r,r'=>by simp only[lD,Bool.and_eq_true]at p p';obtain⟨v,vs,e,r1,r2⟩:=r.Bf;subst e;obtain⟨v',vs',e,r1',r2'⟩:=r'.Bf;cases e;rw[eS I d d' p.1 p'.1 r1 r1',VR I ds ds' p.2 p'.2 r2 r2']
end
def TF(xs ys:List Dt)(j:Nat):Bool:=match xs[j]?,ys[j]? with
 | some x,some y=>bD x y
 | _,_=>false
theorem VH:∀(xs ys:List Dt),xs.length=ys.length->(List.range xs.length).all (TF xs ys)=HD xs ys
 | [],[],_=>by simp[HD]
 | [],_::_,h=>by simp at h
 | _::_,[],h=>by simp at h
 | x::xs,y::ys,h=>by have ih:=VH xs ys (by simpa using h);rw[zdF,range_succ_eq_map,all_cons,all_map];simp only[HD];rw[<- ih];rfl
theorem UH:∀(xs ys:List Dt),xs.length≠ys.length->HD xs ys=false
 | [],[],h=>absurd rfl h
 | [],_::_,_=>by simp only[HD]
 | _::_,[],_=>by simp only[HD]
 | x::xs,y::ys,h=>by simp only[HD];rw[UH xs ys (fun z=>h (by simp[z])),Bool.and_false]
theorem kR(A:Around):A.in1.units<=A.units+1:=by first | exact zdS _ | simp[Around.in1]
theorem gE{h:Heap}{a:Addr}{its:Array Value}(p:IsTup h a its):h.IsTuple a its:=by obtain⟨o,h1,h2,n,h3⟩:=p;exact⟨o,h1,h2,n,h3⟩
mutual
theorem Rk(I:Inv X pins σ H s):∀(d d':Dt){v v':V}{u u':Value}(A:Around),AB d=true->AB d'=true->A.units+EH d<cLine->Yr X.K H ρ d v->Yr X.K H ρ d' v'->RelV v u->RelV v' u'->SeqAt.EqAt A s u u' (bD d d')
 | .tup xs,d',v,v',u,u',A,p,p',hu,r,r',q,q'=>by
  obtain⟨a,vs,e,t,rs⟩:=vf.mp r;subst e;cases q;simp only[EH]at hu;have hu0:A.units<cLine:=by omega
  obtain⟨its,rv,tp,_⟩:=I.tuple t.sq;cases d' with
  | non=>cases Af.mp r';cases q';simpa only[bD]using SeqAt.EqAt.tuple_none (gE tp) hu0
  | bl b=>cases Zr.mp r';cases q';simpa only[bD]using SeqAt.EqAt.tuple_bool b (gE tp) hu0
  | int b=>cases Xr.mp r';obtain⟨t',rfl⟩:=q';simpa only[bD]using SeqAt.EqAt.tuple_int b t' (gE tp) hu0
  | str b=>cases Df.mp r';obtain⟨t',rfl⟩:=q';simpa only[bD]using SeqAt.EqAt.tuple_str b t' (gE tp) hu0
  | lst ys=>obtain⟨b,ws,e,t',rs'⟩:=jf.mp r';subst e;cases q';obtain⟨its',rv',Kc,_⟩:=I.list t'.sq;simpa only[bD]using SeqAt.EqAt.tuple_list (gE tp) Kc.isList hu0
  | tup ys=>
   obtain⟨b,ws,e,t',rs'⟩:=vf.mp r';subst e;cases q';obtain⟨its',rv',Kc,_⟩:=I.tuple t'.sq;by_cases hab:a=b
   · subst hab;have e:=eS I (.tup xs) (.tup ys) p p' r r';rw[<- e,wR _ p];exact SeqAt.EqAt.same _
   · refine .of_refs hab ?_;have l1:its.length=xs.length:=by rw[<- rv.length,rs.length]
     have l2:its'.length=ys.length:=by rw[<- rv'.length,rs'.length]
     have ih:=PN I xs ys A.in1 (by simpa only[AB]using p) (by simpa only[AB]using p') (by have:=kR A;omega) rs rs' rv rv';have z:=SeqAt.RcAt.tuples (e:=TF xs ys) (gE tp) (gE Kc) hu0 fun j h1 h2=>by rw[size_toArray]at h1 h2;simpa using ih j h1 h2
     rw[size_toArray,size_toArray,l1,l2]at z;simp only[bD];by_cases hl:xs.length=ys.length
     · rw[<- hl,Nat.min_self,VH xs ys hl,beq_self_eq_true,Bool.and_true]at z;exact z
     · rw[UH xs ys hl];have hb:(xs.length==ys.length)=false:=by simpa using hl
       rw[hb,Bool.and_false]at z;exact z
  | ref b=>simp[AB]at p'
  | uc b=>simp[AB]at p'
 | .lst xs,d',v,v',u,u',A,p,p',hu,r,r',q,q'=>by
  obtain⟨a,vs,e,t,rs⟩:=jf.mp r;subst e;cases q;simp only[EH]at hu;have hu0:A.units<cLine:=by omega
  obtain⟨its,rv,tp,_⟩:=I.list t.sq;cases d' with
  | non=>cases Af.mp r';cases q';simpa only[bD]using SeqAt.EqAt.list_none tp.isList hu0
  | bl b=>cases Zr.mp r';cases q';simpa only[bD]using SeqAt.EqAt.list_bool b tp.isList hu0
  | int b=>cases Xr.mp r';obtain⟨t',rfl⟩:=q';simpa only[bD]using SeqAt.EqAt.list_int b t' tp.isList hu0
  | str b=>cases Df.mp r';obtain⟨t',rfl⟩:=q';simpa only[bD]using SeqAt.EqAt.list_str b t' tp.isList hu0
  | tup ys=>obtain⟨b,ws,e,t',rs'⟩:=vf.mp r';subst e;cases q';obtain⟨its',rv',Kc,_⟩:=I.tuple t'.sq;simpa only[bD]using SeqAt.EqAt.list_tuple tp.isList (gE Kc) hu0
  | lst ys=>
   obtain⟨b,ws,e,t',rs'⟩:=jf.mp r';subst e;cases q';obtain⟨its',rv',Kc,_⟩:=I.list t'.sq;by_cases hab:a=b
   · subst hab;have e:=eS I (.lst xs) (.lst ys) p p' r r';rw[<- e,wR _ p];exact SeqAt.EqAt.same _
   · refine .of_refs hab ?_;have l1:its.length=xs.length:=by rw[<- rv.length,rs.length]
     have l2:its'.length=ys.length:=by rw[<- rv'.length,rs'.length]
     simp only[bD];by_cases hl:xs.length=ys.length
     · have ih:=PN I xs ys A.in1 (by simpa only[AB]using p) (by simpa only[AB]using p') (by have:=kR A;omega) rs rs' rv rv';have z:=SeqAt.RcAt.lists (e:=TF xs ys) tp.isList Kc.isList (by rw[size_toArray,size_toArray,l1,l2,hl]) hu0 fun j h1 h2=>by rw[size_toArray]at h1 h2;simpa using ih j h1 h2
       rw[size_toArray,l1,VH xs ys hl]at z;exact z
     · rw[UH xs ys hl];exact SeqAt.RcAt.lists_lengths tp.isList Kc.isList (by rw[size_toArray,size_toArray,l1,l2];simpa using hl) hu0
  | ref b=>simp[AB]at p'
  | uc b=>simp[AB]at p'
 | .ref _,_,_,_,_,_,_,p,_,_,_,_,_,_=>by simp[AB]at p
 | .uc _,_,_,_,_,_,_,p,_,_,_,_,_,_=>by simp[AB]at p
 | .non,d',v,v',u,u',A,p,p',hu,r,r',q,q'=>by
  cases Af.mp r;cases q;have hu0:A.units<cLine:=by omega
  cases d' with
  | non=>cases Af.mp r';cases q';simp only[bD];exact SeqAt.EqAt.same _
  | bl b=>cases Zr.mp r';cases q';simpa only[bD]using SeqAt.EqAt.none_bool b
  | int b=>cases Xr.mp r';obtain⟨t',rfl⟩:=q';simpa only[bD]using SeqAt.EqAt.none_int b t'
  | str b=>cases Df.mp r';obtain⟨t',rfl⟩:=q';simpa only[bD]using SeqAt.EqAt.none_str b t'
  | tup ys=>obtain⟨b,ws,e,t',rs'⟩:=vf.mp r';subst e;cases q';obtain⟨its',rv',Kc,_⟩:=I.tuple t'.sq;simpa only[bD]using SeqAt.EqAt.none_tuple (gE Kc) hu0
  | lst ys=>obtain⟨b,ws,e,t',rs'⟩:=jf.mp r';subst e;cases q';obtain⟨its',rv',Kc,_⟩:=I.list t'.sq;simpa only[bD]using SeqAt.EqAt.none_list Kc.isList hu0
  | ref b=>simp[AB]at p'
  | uc b=>simp[AB]at p'
 | .bl i,d',v,v',u,u',A,p,p',hu,r,r',q,q'=>by
  cases Zr.mp r;cases q;have hu0:A.units<cLine:=by omega
  cases d' with
  | non=>cases Af.mp r';cases q';simpa only[bD]using SeqAt.EqAt.bool_none i
  | bl b=>cases Zr.mp r';cases q';simpa only[bD]using SeqAt.EqAt.bool_bool i b
  | int b=>cases Xr.mp r';obtain⟨t',rfl⟩:=q';simpa only[bD]using SeqAt.EqAt.bool_int i b t'
  | str b=>cases Df.mp r';obtain⟨t',rfl⟩:=q';simpa only[bD]using SeqAt.EqAt.bool_str i b t'
  | tup ys=>obtain⟨b,ws,e,t',rs'⟩:=vf.mp r';subst e;cases q';obtain⟨its',rv',Kc,_⟩:=I.tuple t'.sq;simpa only[bD]using SeqAt.EqAt.bool_tuple i (gE Kc) hu0
  | lst ys=>obtain⟨b,ws,e,t',rs'⟩:=jf.mp r';subst e;cases q';obtain⟨its',rv',Kc,_⟩:=I.list t'.sq;simpa only[bD]using SeqAt.EqAt.bool_list i Kc.isList hu0
  | ref b=>simp[AB]at p'
  | uc b=>simp[AB]at p'
 | .int i,d',v,v',u,u',A,p,p',hu,r,r',q,q'=>by
  cases Xr.mp r;obtain⟨ti,rfl⟩:=q;have hu0:A.units<cLine:=by omega
  cases d' with
  | non=>cases Af.mp r';cases q';simpa only[bD]using SeqAt.EqAt.int_none i ti
  | bl b=>cases Zr.mp r';cases q';simpa only[bD]using SeqAt.EqAt.int_bool i ti b
  | int b=>cases Xr.mp r';obtain⟨t',rfl⟩:=q';simpa only[bD]using SeqAt.EqAt.int_int i ti b t'
  | str b=>cases Df.mp r';obtain⟨t',rfl⟩:=q';simpa only[bD]using SeqAt.EqAt.int_str i ti b t'
  | tup ys=>obtain⟨b,ws,e,t',rs'⟩:=vf.mp r';subst e;cases q';obtain⟨its',rv',Kc,_⟩:=I.tuple t'.sq;simpa only[bD]using SeqAt.EqAt.int_tuple i ti (gE Kc) hu0
  | lst ys=>obtain⟨b,ws,e,t',rs'⟩:=jf.mp r';subst e;cases q';obtain⟨its',rv',Kc,_⟩:=I.list t'.sq;simpa only[bD]using SeqAt.EqAt.int_list i ti Kc.isList hu0
  | ref b=>simp[AB]at p'
  | uc b=>simp[AB]at p'
 | .str i,d',v,v',u,u',A,p,p',hu,r,r',q,q'=>by
  cases Df.mp r;obtain⟨ti,rfl⟩:=q;have hu0:A.units<cLine:=by omega
  cases d' with
  | non=>cases Af.mp r';cases q';simpa only[bD]using SeqAt.EqAt.str_none i ti
  | bl b=>cases Zr.mp r';cases q';simpa only[bD]using SeqAt.EqAt.str_bool i ti b
  | int b=>cases Xr.mp r';obtain⟨t',rfl⟩:=q';simpa only[bD]using SeqAt.EqAt.str_int i ti b t'
  | str b=>cases Df.mp r';obtain⟨t',rfl⟩:=q';simpa only[bD]using SeqAt.EqAt.str_str i ti b t'
  | tup ys=>obtain⟨b,ws,e,t',rs'⟩:=vf.mp r';subst e;cases q';obtain⟨its',rv',Kc,_⟩:=I.tuple t'.sq;simpa only[bD]using SeqAt.EqAt.str_tuple i ti (gE Kc) hu0
  | lst ys=>obtain⟨b,ws,e,t',rs'⟩:=jf.mp r';subst e;cases q';obtain⟨its',rv',Kc,_⟩:=I.list t'.sq;simpa only[bD]using SeqAt.EqAt.str_list i ti Kc.isList hu0
  | ref b=>simp[AB]at p'
  | uc b=>simp[AB]at p'
theorem PN(I:Inv X pins σ H s):∀(xs ys:List Dt){vs vs':List V}{us us':List Value}(A:Around),lD xs=true->lD ys=true->A.units+YE xs<cLine->Wr X.K H ρ xs vs->Wr X.K H ρ ys vs'->Vals vs us->Vals vs' us'->
 ∀(j:Nat)(h1:j<us.length)(h2:j<us'.length),SeqAt.EqAt A s us[j] us'[j] (TF xs ys j)
 | [],_,_,_,_,_,_,_,_,_,r,_,q,_,_,h1,_=>by rw[r.vd]at q;cases q;exact absurd h1 (by simp)
 | _::_,[],_,_,_,_,_,_,_,_,_,r',_,q',_,_,h2=>by rw[r'.vd]at q';cases q';exact absurd h2 (by simp)
 | x::xs,y::ys,vs,vs',us,us',A,p,p',hu,r,r',q,q',j,h1,h2=>by
  simp only[lD,Bool.and_eq_true]at p p';simp only[YE]at hu;obtain⟨v,r0,e,a1,a2⟩:=r.Bf;subst e;obtain⟨v',r0',e,b1,b2⟩:=r'.Bf;subst e;cases q with
  | cons q1 q2=>
   cases q' with
   | cons q1' q2'=>
    cases j with
    | zero=>exact Rk I x y A p.1 p'.1 (by omega) a1 b1 q1 q1'
    | succ j=>have ih:=PN I xs ys A p.2 p'.2 (by omega) a2 b2 q2 q2' j (by simpa using h1) (by simpa using h2);simpa[TF]using ih
end
end
section
variable{X:Cx}{a b c e:Expr}{es:List Expr}{fa fb fc f:RE}{g:RA}{p p2 pos:Pos}
def pF(xs ys:List Dt):Bool:=lD xs&&lD ys&&decide (YE xs<=50)
def IC:tD:=fun a b h=>match a,b with
 | .tup xs,.tup ys=>if pF xs ys=true then some (.bl (HD xs ys),h)else none
 | .lst xs,.lst ys=>if pF xs ys=true then some (.bl (HD xs ys),h)else none
 | a,b=>GZ a b h
def yE:tD:=fun a b h=>match a,b with
 | .tup xs,.tup ys=>if pF xs ys=true then some (.bl (!HD xs ys),h)else none
 | .lst xs,.lst ys=>if pF xs ys=true then some (.bl (!HD xs ys),h)else none
 | a,b=>HZ a b h
theorem UM{pins:List (Addr×Obj)}{σ:L2.St}{H:Hp}{s:Shared}{ρ:Rg}{xs ys:List Dt}{vs ws:List V}{its its':List Value}(I:Inv X pins σ H s)(hu:X.A.units+64<cLine)(ok:pF xs ys=true)(rs:Wr X.K H ρ xs vs)(rs':Wr X.K H ρ ys ws)(rv:Vals vs its)(rv':Vals ws its') :
 ∀(j:Nat)(h1:j<its.toArray.size)(h2:j<its'.toArray.size),SeqAt.EqAt X.A.in1 s its.toArray[j] its'.toArray[j] (TF xs ys j):=fun j h1 h2=>by
 simp only[pF,Bool.and_eq_true,decide_eq_true_eq]at ok;rw[size_toArray]at h1 h2;have:=PN I xs ys X.A.in1 ok.1.1 ok.1.2 (by have:=kR X.A;omega) rs rs' rv rv' j h1 h2;simpa using this
theorem mE(hu:X.A.units+64<cLine):OM X (compareOp .Eq) IC:=by
 with_unfolding_all
  intro pins s σ H x y v u Q I rx ry h;obtain⟨ρ,h,d1,d2,d,h',S,R1,R2,e,k⟩:=h;unfold IC at e;split at e
  · rename_i xs ys;obtain⟨ok,e⟩:=dE e;cases e;obtain⟨a,vs,z,t,rs⟩:=vf.mp R1;obtain⟨b,ws,z',t',rs'⟩:=vf.mp R2;subst z z';cases rx;cases ry;obtain⟨its,rv,tp,_⟩:=I.tuple t.sq;obtain⟨its',rv',Kc,_⟩:=I.tuple t'.sq;have l1:its.length=xs.length:=by rw[<- rv.length,rs.length]
    have l2:its'.length=ys.length:=by rw[<- rv'.length,rs'.length]
    refine SeqAt.eq_tupleAt (e:=TF xs ys) (gE tp) (gE Kc) (by omega) (UM I hu ok rs rs' rv rv') ?_;refine⟨.bl _,H,I,rfl,k ρ _ H (Zr.mpr (congrArg V.bl ?_)) S (Ext.refl _ _)⟩;rw[size_toArray,size_toArray,l1,l2];by_cases hl:xs.length=ys.length
    · rw[<- hl,Nat.min_self,VH xs ys hl,beq_self_eq_true,Bool.and_true]
    · have hb:(xs.length==ys.length)=false:=by simpa using hl
      rw[UH xs ys hl,hb,Bool.and_false]
  · rename_i xs ys;obtain⟨ok,e⟩:=dE e;cases e;obtain⟨a,vs,z,t,rs⟩:=jf.mp R1;obtain⟨b,ws,z',t',rs'⟩:=jf.mp R2;subst z z';cases rx;cases ry;obtain⟨its,rv,tp,_⟩:=I.list t.sq;obtain⟨its',rv',Kc,_⟩:=I.list t'.sq;have l1:its.length=xs.length:=by rw[<- rv.length,rs.length]
    have l2:its'.length=ys.length:=by rw[<- rv'.length,rs'.length]
    by_cases hl:xs.length=ys.length
    · refine SeqAt.eq_listAt (e:=TF xs ys) tp.isList Kc.isList (by rw[size_toArray,size_toArray,l1,l2,hl]) (by omega) (UM I hu ok rs rs' rv rv') ?_;refine⟨.bl _,H,I,rfl,k ρ _ H (Zr.mpr (congrArg V.bl ?_)) S (Ext.refl _ _)⟩;rw[size_toArray,l1,VH xs ys hl]
    · refine SeqAt.eq_list_lengthsAt tp.isList Kc.isList (by rw[size_toArray,size_toArray,l1,l2];simpa using hl) (by omega) ?_;exact⟨.bl _,H,I,rfl,k ρ _ H (Zr.mpr (by rw[UH xs ys hl])) S (Ext.refl _ _)⟩
  · exact Jg pins s σ H x y v u Q I rx ry ⟨ρ,h,d1,d2,d,h',S,R1,R2,e,k⟩
theorem eI(hu:X.A.units+64<cLine):OM X (compareOp .NotEq) yE:=by
 with_unfolding_all
  intro pins s σ H x y v u Q I rx ry h;obtain⟨ρ,h,d1,d2,d,h',S,R1,R2,e,k⟩:=h;unfold yE at e;split at e
  · rename_i xs ys;obtain⟨ok,e⟩:=dE e;cases e;obtain⟨a,vs,z,t,rs⟩:=vf.mp R1;obtain⟨b,ws,z',t',rs'⟩:=vf.mp R2;subst z z';cases rx;cases ry;obtain⟨its,rv,tp,_⟩:=I.tuple t.sq;obtain⟨its',rv',Kc,_⟩:=I.tuple t'.sq;have l1:its.length=xs.length:=by rw[<- rv.length,rs.length]
    have l2:its'.length=ys.length:=by rw[<- rv'.length,rs'.length]
    refine i8 (e:=TF xs ys) (gE tp) (gE Kc) (by omega) (UM I hu ok rs rs' rv rv') ?_;refine⟨.bl _,H,I,rfl,k ρ _ H (Zr.mpr (congrArg V.bl ?_)) S (Ext.refl _ _)⟩;rw[size_toArray,size_toArray,l1,l2];by_cases hl:xs.length=ys.length
    · rw[<- hl,Nat.min_self,VH xs ys hl,beq_self_eq_true,Bool.and_true]
    · have hb:(xs.length==ys.length)=false:=by simpa using hl
      rw[UH xs ys hl,hb,Bool.and_false]
  · rename_i xs ys;obtain⟨ok,e⟩:=dE e;cases e;obtain⟨a,vs,z,t,rs⟩:=jf.mp R1;obtain⟨b,ws,z',t',rs'⟩:=jf.mp R2;subst z z';cases rx;cases ry;obtain⟨its,rv,tp,_⟩:=I.list t.sq;obtain⟨its',rv',Kc,_⟩:=I.list t'.sq;have l1:its.length=xs.length:=by rw[<- rv.length,rs.length]
    have l2:its'.length=ys.length:=by rw[<- rv'.length,rs'.length]
    by_cases hl:xs.length=ys.length
    · refine f9 (e:=TF xs ys) tp.isList Kc.isList (by rw[size_toArray,size_toArray,l1,l2,hl]) (by omega) (UM I hu ok rs rs' rv rv') ?_;refine⟨.bl _,H,I,rfl,k ρ _ H (Zr.mpr (congrArg V.bl ?_)) S (Ext.refl _ _)⟩;rw[size_toArray,l1,VH xs ys hl]
    · refine K5 tp.isList Kc.isList (by rw[size_toArray,size_toArray,l1,l2];simpa using hl) (by omega) ?_;exact⟨.bl _,H,I,rfl,k ρ _ H (Zr.mpr (by rw[UH xs ys hl];rfl)) S (Ext.refl _ _)⟩
  · exact Gy pins s σ H x y v u Q I rx ry ⟨ρ,h,d1,d2,d,h',S,R1,R2,e,k⟩
def ZE:List Dt->Option (List V)
 | []=>some []
 | d::ds=>(QD d).bind fun v=>(ZE ds).map fun vs=>v::vs
theorem mW{K:Frag}{H:Hp}{ρ:Rg}:∀{ds:List Dt}{ws vs:List V},ZE ds=some ws->Wr K H ρ ds vs->vs=ws
 | [],_,_,e,r=>by simp only[ZE]at e;cases e;exact r.vd
 | d::ds,_,_,e,r=>by
  simp only[ZE]at e;obtain⟨v,e1,e⟩:=lA e;cases q:ZE ds with
  | none=>rw[q]at e;cases e
  | some vs=>rw[q]at e;cases e;obtain⟨v',r',z,r1,r2⟩:=r.Bf;subst z;rw[lJ e1 r1,mW q r2]
theorem RY{d:Dt}{v:V}(e:QD d=some v):nG v=true:=by cases d<;>simp only[QD]at e<;>first | (cases e;rfl) | cases e
theorem MX:∀{ds:List Dt}{ws:List V},ZE ds=some ws->ws.all nG=true
 | [],_,e=>by simp only[ZE]at e;cases e;rfl
 | d::ds,_,e=>by
  simp only[ZE]at e;obtain⟨v,e1,e⟩:=lA e;cases q:ZE ds with
  | none=>rw[q]at e;cases e
  | some vs=>rw[q]at e;cases e;rw[all_cons,RY e1,MX q];rfl
def II(neg:Bool):tD:=fun a b h=>(QD a).bind fun x=>(JD h b).bind fun ys=>(ZE ys).bind fun zs=>some (.bl (if neg then !JO x zs else JO x zs),h)
theorem PX{neg:Bool}{x y:V}{H:Hp}{Q:VK}(h:rM X.K (II neg) x y H Q):D0 X.K neg x y H Q:=by obtain⟨ρ,h,d1,d2,d,h',S,R1,R2,e,k⟩:=h;obtain⟨x',e1,e⟩:=lA e;obtain⟨ys,e2,e⟩:=lA e;obtain⟨zs,e3,e⟩:=lA e;cases e;obtain⟨p,vs,e4,sq,r⟩:=TN S R2 e2;have e5:=mW e3 r;subst e5;have e6:=lJ e1 R1;subst e6;exact⟨p,vs,e4,sq,RY e1,MX e3,k ρ _ H (Zr.mpr rfl) S (Ext.refl _ _)⟩
theorem Kg:OM X (compareOp .In) (II false):=by with_unfolding_all exact Gd.imp k8 fun _ _ _ _ h=>PX h
theorem Ej:OM X (compareOp .NotIn) (II true):=by with_unfolding_all exact Gd.imp M5 fun _ _ _ _ h=>PX h
def GL:tD:=fun a b h=>(JB h a).bind fun xs=>(JB h b).bind fun ys=>if xs.length+ys.length<=sizeLine then some (.lst (xs++ys),h)else none
def tO:tD:=fun a b h=>(JB h a).bind fun xs=>(JB h b).bind fun ys=>if xs.length+ys.length<=sizeLine then some (.ref h.length,h++[.lst (xs++ys)])else none
theorem Mw:OM X (binaryOp .Add) GL:=by with_unfolding_all exact Gd.imp XX fun x y H Q zz=>by obtain⟨ρ,h,d1,d2,d,h',S,R1,R2,e,k⟩:=zz;obtain⟨xs,e1,e⟩:=lA e;obtain⟨ys,e2,e⟩:=lA e;obtain⟨hz,e⟩:=dE e;cases e;obtain⟨l,vs,z1,q1,r1⟩:=sF S R1 e1;obtain⟨b,ws,z2,q2,r2⟩:=sF S R2 e2;exact⟨l,b,vs,ws,z1,z2,q1,q2,by rw[r1.length,r2.length];exact hz,fun p hp=>k ρ _ _ (VN S (r1.append r2) hp) (S.fresh hp) (Ext.fresh hp)⟩
theorem Dq:OM X (binaryOp .Add) tO:=by with_unfolding_all exact Gd.imp XX fun x y H Q zz=>by obtain⟨ρ,h,d1,d2,d,h',S,R1,R2,e,k⟩:=zz;obtain⟨xs,e1,e⟩:=lA e;obtain⟨ys,e2,e⟩:=lA e;obtain⟨hz,e⟩:=dE e;cases e;obtain⟨l,vs,z1,q1,r1⟩:=sF S R1 e1;obtain⟨b,ws,z2,q2,r2⟩:=sF S R2 e2;exact⟨l,b,vs,ws,z1,z2,q1,q2,by rw[r1.length,r2.length];exact hz,fun p hp=>k _ _ _ (oH S (r1.append r2) hp).1 (oH S (r1.append r2) hp).2 (Ext.own hp)⟩
noncomputable def GC(F:Dt->HI->Option (Dt×HI))(f:RE):RE:=fun l h=>(f l h).bind fun r=>F r.1 r.2
theorem gL{x:Str}{id:String}{r:List V->Hp->VK->Prop}{F:Dt->HI->Option (Dt×HI)}(hc:jd X (.builtin id) r)(hF:∀ρ h d v d' h' H Q,uf X.K ρ h H->Yr X.K H ρ d v->F d h=some (d',h')->Out X.K ρ H d' h' Q->r [v] H Q)
 (hg:Gl X x) (hm:X.mg x=none) (hv:bootBuiltins x=some (.builtin id)) (ha:EM X e f) (hn:x ≠ "__name__" :=by decide) (hdb:(x==("__debug__" :Str))=false:=by decide) (hs:sB e=true:=by rfl) :
 EM X (.Call (.Name x p) [e] [] pos) (GC F f):=by
 with_unfolding_all exact PE.imp (xN hc hg hm hv (kD ha oE (lB hs _ _)) hn hdb (he:=lB hs _ _)) fun σ H Q zz=>by obtain⟨ρ,l,h,d,h',S,L,e,k⟩:=zz;obtain⟨⟨d1,h1⟩,e1,e⟩:=lA e;exact⟨ρ,l,h,d1,h1,S,L,e1,fun ρ1 v H1 R1 S1 E1=>hF ρ1 h1 d1 v d h' H1 Q S1 R1 e (k.ext E1)⟩
theorem mZ{x:Str}{T:String}{r:List V->Hp->VK->Prop}{F:Dt->HI->Option (Dt×HI)}(hc:jd X (.type T) r)(hF:∀ρ h d v d' h' H Q,uf X.K ρ h H->Yr X.K H ρ d v->F d h=some (d',h')->Out X.K ρ H d' h' Q->r [v] H Q)
 (hg:Gl X x) (hm:X.mg x=none) (hv:bootBuiltins x=some (.type T)) (ha:EM X e f) (hn:x ≠ "__name__" :=by decide) (hdb:(x==("__debug__" :Str))=false:=by decide) (hs:sB e=true:=by rfl) :
 EM X (.Call (.Name x p) [e] [] pos) (GC F f):=by
 with_unfolding_all exact PE.imp (t8 hc hg hm hv (kD ha oE (lB hs _ _)) hn hdb (he:=lB hs _ _)) fun σ H Q zz=>by obtain⟨ρ,l,h,d,h',S,L,e,k⟩:=zz;obtain⟨⟨d1,h1⟩,e1,e⟩:=lA e;exact⟨ρ,l,h,d1,h1,S,L,e1,fun ρ1 v H1 R1 S1 E1=>hF ρ1 h1 d1 v d h' H1 Q S1 R1 e (k.ext E1)⟩
def BC:Dt->HI->Option (Dt×HI):=fun d h=>match d with
 | .str z=>if z.length<=sizeLine then some (.int z.length,h)else none
 | d=>(JD h d).map fun xs=>(.int xs.length,h)
theorem kE (hg:Gl X "len") (hm:X.mg "len" =none) (ha:EM X e f) (hs:sB e=true:=by rfl):EM X (.Call (.Name "len" p) [e] [] pos) (GC BC f):=by
 with_unfolding_all
  exact gL (jd.or g5 j5) (fun ρ h d v d' h' H Q S R e k=>by
   unfold BC at e;split at e
   · rename_i z;obtain⟨hz,e⟩:=dE e;cases e;exact .inr ⟨z,by rw[Df.mp R],hz,k ρ _ H (Xr.mpr rfl) S (Ext.refl _ _)⟩
   · cases q:JD h d with
     | none=>rw[q]at e;cases e
     | some xs=>
      rw[q]at e;cases e;obtain⟨a,vs,z,sq,r⟩:=TN S R q;exact .inl ⟨a,vs,by rw[z],sq,by rw[r.length];exact k ρ _ H (Xr.mpr rfl) S (Ext.refl _ _)⟩) hg hm PySem.boot_len ha (hs:=hs)
noncomputable def PJ:Dt->HI->Option (Dt×HI):=fun d h=>match d with
 | .int i=>some (.int i,h)
 | .bl b=>some (.int (if b then 1 else 0),h)
 | _=>none
theorem HX (hg:Gl X "int") (hm:X.mg "int" =none) (ha:EM X e f) (hs:sB e=true:=by rfl):EM X (.Call (.Name "int" p) [e] [] pos) (GC PJ f):=by
 with_unfolding_all
  exact mZ l7 (fun ρ h d v d' h' H Q S R e k=>by
   unfold PJ at e;split at e
   · rename_i i;cases e;exact .inl ⟨i,by rw[Xr.mp R],k ρ _ H (Xr.mpr rfl) S (Ext.refl _ _)⟩
   · rename_i b;cases e;exact .inr ⟨b,by rw[Zr.mp R],k ρ _ H (Xr.mpr rfl) S (Ext.refl _ _)⟩
   · cases e) hg hm PyProof.Rows.boot_int ha (hs:=hs)
def XE:Dt->HI->Option (Dt×HI):=fun d h=>(JD h d).map fun xs=>(.ref h.length,h++[.lst xs])
theorem dN (hg:Gl X "list") (hm:X.mg "list" =none) (ha:EM X e f) (hs:sB e=true:=by rfl):EM X (.Call (.Name "list" p) [e] [] pos) (GC XE f):=by
 with_unfolding_all
  exact mZ o5 (fun ρ h d v d' h' H Q S R e k=>by
   unfold XE at e;cases q:JD h d with
   | none=>rw[q]at e;cases e
   | some xs=>
    rw[q]at e;cases e;obtain⟨a,vs,z,sq,r⟩:=TN S R q;exact⟨a,vs,by rw[z],sq,fun l hl=>k _ _ _ (oH S r hl).1 (oH S r hl).2 (Ext.own hl)⟩) hg hm PyProof.Rows.boot_list ha (hs:=hs)
noncomputable def ZD:List Dt->Option (List Int)
 | []=>some []
 | .int i::ds=>(ZD ds).map fun ns=>i::ns
 | _::_=>none
theorem dJ:∀{ds:List Dt}{ns:List Int},ZD ds=some ns->ds=ns.map Dt.int
 | [],_,e=>by simp only[ZD]at e;cases e;rfl
 | d::ds,_,e=>by
  cases d with
  | int i=>
   simp only[ZD]at e;cases q:ZD ds with
   | none=>rw[q]at e;cases e
   | some ns=>rw[q]at e;cases e;rw[dJ q];rfl
  | _=>simp only[ZD]at e<;>cases e
def AL:Dt->HI->Option (Dt×HI):=fun d h=>(JB h d).bind fun xs=>(ZD xs).map fun ns=>(.int ns.sum,h)
theorem Qk (hc:X.calm=true) (hg:Gl X "sum") (hm:X.mg "sum" =none) (ha:EM X e f) (hs:sB e=true:=by rfl):EM X (.Call (.Name "sum" p) [e] [] pos) (GC AL f):=by
 with_unfolding_all
  exact gL (u7 hc) (fun ρ h d v d' h' H Q S R e k=>by
   obtain⟨xs,e1,e⟩:=lA e;cases q:ZD xs with
   | none=>rw[q]at e;cases e
   | some ns=>
    rw[q]at e;cases e;obtain⟨a,vs,z,sq,r⟩:=sF S R e1;rw[dJ q]at r;rw[r.Ib]at sq;exact⟨a,ns,by rw[z],sq,k ρ _ H (Xr.mpr rfl) S (Ext.refl _ _)⟩) hg hm PyProof.Rows.boot_sum ha (hs:=hs)
noncomputable def CC:List Int->Int
 | []=>0
 | [a]=>a
 | a::b::r=>max a (CC (b::r))
noncomputable def QB:List Int->Int
 | []=>0
 | [a]=>a
 | a::b::r=>min a (QB (b::r))
theorem ZQ:∀(ns:List Int),ns ≠ []->CC ns∈ns/\∀a∈ns,a<=CC ns
 | [],h=>absurd rfl h
 | [a],_=>by simp[CC]
 | a::b::r,_=>by
  obtain⟨h1,h2⟩:=ZQ (b::r) (by simp);simp only[CC];refine⟨?_,fun c hc=>?_⟩
  · rcases Int.le_total a (CC (b::r))with z | z
    · rw[Int.max_eq_right z];exact mem_cons_of_mem _ h1
    · rw[Int.max_eq_left z];exact mem_cons_self
  · rcases mem_cons.mp hc with z | z
    · rw[z];exact Int.le_max_left _ _
    · exact Int.le_trans (h2 c z) (Int.le_max_right _ _)
theorem XH:∀(ns:List Int),ns ≠ []->QB ns∈ns/\∀a∈ns,QB ns<=a
 | [],h=>absurd rfl h
 | [a],_=>by simp[QB]
 | a::b::r,_=>by
  obtain⟨h1,h2⟩:=XH (b::r) (by simp);simp only[QB];refine⟨?_,fun c hc=>?_⟩
  · rcases Int.le_total a (QB (b::r))with z | z
    · rw[Int.min_eq_left z];exact mem_cons_self
    · rw[Int.min_eq_right z];exact mem_cons_of_mem _ h1
  · rcases mem_cons.mp hc with z | z
    · rw[z];exact Int.min_le_left _ _
    · exact Int.le_trans (Int.min_le_right _ _) (h2 c z)
def UF:Dt->HI->Option (Dt×HI):=fun d h=>(JB h d).bind fun xs=>(ZD xs).bind fun ns=>if ns ≠ []then some (.int (CC ns),h)else none
def VF:Dt->HI->Option (Dt×HI):=fun d h=>(JB h d).bind fun xs=>(ZD xs).bind fun ns=>if ns ≠ []then some (.int (QB ns),h)else none
theorem aO (hc:X.calm=true) (hg:Gl X "max") (hm:X.mg "max" =none) (ha:EM X e f) (hs:sB e=true:=by rfl):EM X (.Call (.Name "max" p) [e] [] pos) (GC UF f):=by
 with_unfolding_all
  exact gL (o7 hc) (fun ρ h d v d' h' H Q S R e k=>by
   obtain⟨xs,e1,e⟩:=lA e;obtain⟨ns,q,e⟩:=lA e;obtain⟨hne,e⟩:=dE e;cases e;obtain⟨a,vs,z,sq,r⟩:=sF S R e1;rw[dJ q]at r;rw[r.Ib]at sq;obtain⟨m1,m2⟩:=ZQ ns hne;refine⟨a,ns,by rw[z],sq,hne,fun M h1 h2=>?_⟩;have:M=CC ns:=Int.le_antisymm (m2 M h1) (h2 _ m1);rw[this];exact k ρ _ H (Xr.mpr rfl) S (Ext.refl _ _)) hg hm PyProof.Rows.boot_max ha (hs:=hs)
theorem bO (hc:X.calm=true) (hg:Gl X "min") (hm:X.mg "min" =none) (ha:EM X e f) (hs:sB e=true:=by rfl):EM X (.Call (.Name "min" p) [e] [] pos) (GC VF f):=by
 with_unfolding_all
  exact gL (t7 hc) (fun ρ h d v d' h' H Q S R e k=>by
   obtain⟨xs,e1,e⟩:=lA e;obtain⟨ns,q,e⟩:=lA e;obtain⟨hne,e⟩:=dE e;cases e;obtain⟨a,vs,z,sq,r⟩:=sF S R e1;rw[dJ q]at r;rw[r.Ib]at sq;obtain⟨m1,m2⟩:=XH ns hne;refine⟨a,ns,by rw[z],sq,hne,fun M h1 h2=>?_⟩;have:M=QB ns:=Int.le_antisymm (h2 _ m1) (m2 M h1);rw[this];exact k ρ _ H (Xr.mpr rfl) S (Ext.refl _ _)) hg hm PyProof.Rows.boot_min ha (hs:=hs)
noncomputable def rG(h:HI):Dt->Option String
 | .non=>some "NoneType"
 | .bl _=>some "bool"
 | .int _=>some "int"
 | .str _=>some "str"
 | .tup _=>some "tuple"
 | .lst _=>some "list"
 | .ref n=>match h[n]? with | some (.lst _)=>some "list" | _=>none
 | .uc _=>none
noncomputable def DL (t T:String):Bool:=t==T || (t == "bool" && T == "int")
def FH(T:String)(f:RE):RE:=fun l h=>(f l h).bind fun r=>(rG r.2 r.1).map fun t=>(.bl (DL t T),r.2)
theorem yx (K:Frag):∀t ∈ ["NoneType", "bool", "int", "str", "tuple", "list"],∀T ∈ ["bool", "int", "str", "tuple", "list"],PySem.W.kitOne K (.type t) (.type T)=some (DL t T):=by intro t ht T hT;simp only[mem_cons,mem_nil_iff,or_false]at ht hT;rcases ht with rfl | rfl | rfl | rfl | rfl | rfl<;>rcases hT with rfl | rfl | rfl | rfl | rfl<;>with_unfolding_all rfl
theorem Zg {h:HI} {d:Dt} {t:String} (e:rG h d=some t):t ∈ ["NoneType", "bool", "int", "str", "tuple", "list"]:=by
 cases d with
 | ref n=>
  simp only[rG]at e;split at e
  · cases e;decide
  · cases e
 | uc n=>simp only[rG]at e;cases e
 | _=>simp only[rG]at e<;>cases e<;>decide
theorem Z2{K:Frag}{H:Hp}{ρ:Rg}{h:HI}{d:Dt}{v:V}{t:String}(S:uf K ρ h H)(R:Yr K H ρ d v)(e:rG h d=some t):Bh K H v t:=by
 cases d with
 | non=>cases Af.mp R;simp only[rG]at e;cases e;rfl
 | bl b=>cases Zr.mp R;simp only[rG]at e;cases e;rfl
 | int b=>cases Xr.mp R;simp only[rG]at e;cases e;rfl
 | str b=>cases Df.mp R;simp only[rG]at e;cases e;rfl
 | tup xs=>obtain⟨a,vs,z,t,rs⟩:=vf.mp R;subst z;simp only[rG]at e;cases e;exact .inr ⟨rfl,vs,t.sq⟩
 | lst xs=>obtain⟨a,vs,z,t,rs⟩:=jf.mp R;subst z;simp only[rG]at e;cases e;exact .inl ⟨rfl,vs,t.sq⟩
 | ref n=>
  obtain⟨a,z,ha⟩:=zf.mp R;subst z;simp only[rG]at e;split at e
  · rename_i xs q;cases e;obtain⟨vs,h1,_⟩:=S.lst ha q;exact .inl ⟨rfl,vs,Td.of h1⟩
  · cases e
 | uc n=>simp only[rG]at e;cases e
theorem bL {T:Str} {TT:String} (hg:Gl X "isinstance") (hm:X.mg "isinstance" =none) (hgT:Gl X T) (hmT:X.mg T=none) (hv:bootBuiltins T=some (.type TT)) (hT:TT ∈ ["bool", "int", "str", "tuple", "list"]) (ha:EM X e f)
 (hnT:T ≠ "__name__" :=by decide) (hdT:(T==("__debug__" :Str))=false:=by decide)
 (hs:sB e=true:=by rfl) :
 EM X (.Call (.Name "isinstance" p) [e,.Name T p2] [] pos) (FH TT f):=by
 with_unfolding_all
  exact PE.imp (xN (fj (T:=TT)) hg hm PyProof.Rows.boot_isinstance (kD ha (kD (Mv hgT hmT hv (v:=.ty TT) rfl hnT hdT) oE (lB rfl _ _)) (lB hs _ _)) (he:=lB hs _ _)) fun σ H Q zz=>by
   obtain⟨ρ,l,h,d,h',S,L,e,k⟩:=zz;obtain⟨⟨d1,h1⟩,e1,e⟩:=lA e;refine⟨ρ,l,h,d1,h1,S,L,e1,fun ρ1 v H1 R1 S1 E1=>?_⟩;cases q:rG h1 d1 with
   | none=>rw[q]at e;cases e
   | some t=>rw[q]at e;cases e;exact⟨v,t,DL t TT,rfl,Z2 S1 R1 q,yx X.K t (Zg q) TT hT,k ρ1 _ H1 (Zr.mpr rfl) S1 E1⟩
abbrev RO:=LI->HI->Option (Option Int×HI)
noncomputable def yU:RO:=fun _ h=>some (none,h)
noncomputable def LO(f:RE):RO:=fun l h=>(f l h).bind fun r=>match r.1 with | .int i=>some (some i,r.2) | _=>none
def Et(K:Frag)(f:RO):TO:=fun σ H Q=>∃ρ l h o h',uf K ρ h H/\Zf K H ρ l σ/\f l h=some (o,h')/\Hl K ρ H h' (Q o)
@[irreducible] def yZ(X:Cx)(e:Option Expr)(f:RO):Prop:=PO X e (Et X.K f)
theorem PO.imp{X:Cx}{e:Option Expr}{t t':TO}(h:PO X e t)(i:∀σ H Q,t' σ H Q->t σ H Q):PO X e t':=fun pins s σ H Q I q=>h pins s σ H Q I (i σ H Q q)
theorem Fq:yZ X none yU:=by with_unfolding_all exact PO.imp Yv fun σ H Q zz=>by obtain⟨ρ,l,h,o,h',S,L,e,k⟩:=zz;cases e;exact k ρ H S (Ext.refl _ _)
theorem CS(ha:EM X a fa):yZ X (some a) (LO fa):=by
 with_unfolding_all
  exact PO.imp (Zv ha) fun σ H Q zz=>by
   obtain⟨ρ,l,h,o,h',S,L,e,k⟩:=zz;obtain⟨⟨d1,h1⟩,e1,e⟩:=lA e;refine⟨ρ,l,h,d1,h1,S,L,e1,fun ρ1 v H1 R1 S1 E1=>?_⟩;cases d1 with
   | int i=>cases e;exact⟨i,Xr.mp R1,k ρ1 H1 S1 E1⟩
   | _=>cases e
def vG(xs:List Dt)(lo hi:Option Int):List Dt:=(xs.drop (HT.Wn xs.length 0 lo)).take (HT.Wn xs.length xs.length hi-HT.Wn xs.length 0 lo)
def gU(f:RE)(lo hi:RO):RE:=fun l h=>(f l h).bind fun r=>(lo l r.2).bind fun o=>(hi l o.2).bind fun u=>(JB u.2 r.1).map fun xs=>(.lst (vG xs o.1 u.1),u.2)
theorem Vx{K:Frag}{H:Hp}{ρ:Rg}{xs:List Dt}{vs:List V}(r:Wr K H ρ xs vs)(lo hi:Option Int):Wr K H ρ (vG xs lo hi) (DI vs lo hi):=by unfold vG DI;rw[r.length];exact(r.drop _).take _
theorem tW{lo hi:Option Expr}{fl fh:RO}(ha:EM X a fa)(hl:yZ X lo fl)(hh:yZ X hi fh):EM X (.Subscript a (.Slice lo hi none p2) pos) (gU fa fl fh):=by
 with_unfolding_all
  exact PE.imp (Mj Qz ha hl hh) fun σ H Q zz=>by
   obtain⟨ρ,l,h,d,h',S,L,e,k⟩:=zz;obtain⟨⟨d1,h1⟩,e1,e⟩:=lA e;obtain⟨⟨o,h2⟩,e2,e⟩:=lA e;obtain⟨⟨u,h3⟩,e3,e⟩:=lA e;refine⟨ρ,l,h,d1,h1,S,L,e1,fun ρ1 v H1 R1 S1 E1=>⟨ρ1,l,h1,o,h2,S1,L.ext E1,e2,fun ρ2 H2 S2 E2=>⟨ρ2,l,h2,u,h3,S2,L.ext (E1.trans E2),e3,fun ρ3 H3 S3 E3=>?_⟩⟩⟩;cases q:JB h3 d1 with
   | none=>dsimp only at e;rw[q]at e;cases e
   | some xs=>dsimp only at e;rw[q]at e;cases e;obtain⟨x,vs,z,sq,r⟩:=sF S3 (Yr.ext (E2.trans E3) _ R1) q;exact⟨x,vs,z,sq,fun p hp=>k ρ3 _ _ (VN S3 (Vx r o u) hp) (S3.fresh hp) (E1.trans (E2.trans (E3.trans (Ext.fresh hp))))⟩
noncomputable def TZ(fo fa:RE):RE:=fun l h=>(fo l h).bind fun r=>match r.1 with
 | .ref n=>(fa l r.2).bind fun q=>match q.2[n]? with
  | some (.lst xs)=>if xs.length<sizeLine then some (.non,q.2.set n (.lst (xs++[q.1])))else none
  | _=>none
 | _=>none
theorem kT {K:Frag} {H:Hp} {ρ:Rg} {h:HI} {n:Nat} {xs:List Dt} {v:V} (S:uf K ρ h H) (R:Yr K H ρ (.ref n) v) (e:h[n]?=some (.lst xs)):X0 K "list" v H:=by obtain⟨a,z,ha⟩:=zf.mp R;subst z;obtain⟨vs,h1,_⟩:=S.lst ha e;exact .inl ⟨rfl,vs,Td.of h1⟩
def IE(fa fb:RE):RE:=fun l h=>(fa l h).bind fun r=>match r.1 with
 | .ref n=>match r.2[n]? with
  | some (.lst _)=>TZ (eC (.ref n)) fb l r.2
  | _=>none
 | _=>none
theorem aG {apos cpos:Pos} (ho:EM X a fa) (hb:EM X b fb) (hbase:attributeBase a "append" X.env (eval a X.env)=eval a X.env:=by rfl)
 (hline:(apos.endLine==cpos.line)=true:=by rfl) (hs:sB b=true:=by rfl) :
 EM X (.Call (.Attribute a "append" apos) [b] [] cpos) (IE fa fb):=by
 with_unfolding_all
  exact PE.imp (rT PySem.F.plainAttrs_list PySem.F.slot_list_append PySem.F.type_list_append EV ho (kD hb oE (lB hs _ _)) hbase (aS hs) hline (lB hs _ _)) fun σ H Q zz=>by
   obtain⟨ρ,l,h,d,h',S,L,e,k⟩:=zz;obtain⟨⟨d1,h1⟩,e1,e⟩:=lA e;refine⟨ρ,l,h,d1,h1,S,L,e1,fun ρ1 v H1 R1 S1 E1=>?_⟩;cases d1 with
   | ref n=>
    dsimp only at e;split at e
    · rename_i xs0 q0;obtain⟨⟨d0,h0⟩,z0,e⟩:=lA e;cases z0;dsimp only at e;obtain⟨⟨d2,h2⟩,e2,e⟩:=lA e;refine⟨kT S1 R1 q0,ρ1,l,h1,d2,h2,S1,L.ext E1,e2,fun ρ2 y H2 R2 S2 E2=>?_⟩;dsimp only at e;split at e
      · rename_i xs q;obtain⟨hz,e⟩:=dE e;cases e;obtain⟨a,z,ha⟩:=zf.mp R1;subst z;have ha2:=E2.get ha;obtain⟨vs,g1,g2⟩:=S2.lst ha2 q;have hm:=mem_of_getElem? ha2;refine⟨a,vs,y,rfl,rfl,g1,by rw[g2.length];exact hz,k ρ2 _ _ (Af.mpr rfl) (S2.write ha2 (YG g1) ⟨_,LC,?_⟩) (E1.trans (E2.trans (Ext.write hm (YG g1))))⟩;exact(g2.append (.cons R2 .nil)).ext (Ext.write hm (YG g1))
      · cases e
    · cases e
   | _=>cases e
end
def qU:List Dt->Dt->Option Nat
 | [],_=>none
 | y::ys,x=>if bD y x=true then some 0 else(qU ys x).map (· + 1)
section
variable{X:Cx}{pins:List (Addr×Obj)}{σ:L2.St}{H:Hp}{s:Shared}{ρ:Rg}
open Classical in
end
def Dg(xs:List Dt)(d:Dt):Bool:=lD xs&&AB d&&decide (YE xs<=50)
section
variable{X:Cx}{a b:Expr}{fa fb:RE}
noncomputable def AD(K:Frag):Nat->Value->Option Dt
 | _,.none=>some .non
 | _,.bool b=>some (.bl b)
 | _,.int i _=>some (.int i)
 | _,.str x _=>some (.str x)
 | 0,_=>none
 | n+1,.ref a=>match K.lookup a with
  | some ⟨.type T,dd,.seq its _,_⟩=>if its.size<=sizeLine then
   if T = "tuple" then(its.toList.mapM (AD K n)).map .tup
   else if T = "list" then match dd with | none=>(its.toList.mapM (AD K n)).map .lst | some _=>none
   else none
   else none
  | _=>none
 | _,_=>none
noncomputable def jU:Value->V
 | .none=>.non
 | .bool b=>.bl b
 | .int i _=>.int i
 | .str x _=>.str x
 | .ref a=>.ref a
 | _=>.non
theorem QR{K:Frag}{H:Hp}{ρ:Rg}{f:Value->Option Dt}(h:∀u d,f u=some d->RelV (jU u) u/\Yr K H ρ d (jU u)):∀{us:List Value}{ds:List Dt},us.mapM f=some ds->Vals (us.map jU) us/\Wr K H ρ ds (us.map jU)
 | [],_,e=>by simp at e;subst e;exact⟨.nil,.nil⟩
 | u::us,ds,e=>by
  rw[mapM_cons]at e;cases q:f u with
  | none=>rw[q]at e;cases e
  | some d=>
   rw[q]at e;cases q2:us.mapM f with
   | none=>rw[q2]at e;cases e
   | some ds'=>rw[q2]at e;cases e;obtain⟨h1,h2⟩:=h u d q;obtain⟨h3,h4⟩:=QR h q2;exact⟨.cons h1 h3,.cons h2 h4⟩
theorem JV{K:Frag}{H:Hp}{ρ:Rg}:∀(n:Nat)(u:Value)(d:Dt),AD K n u=some d->RelV (jU u) u/\Yr K H ρ d (jU u):=by
 intro n
 induction n with
 | zero=>
  intro u d e;cases u with
  | none=>simp only[AD]at e;cases e;exact⟨rfl,Af.mpr rfl⟩
  | bool b=>simp only[AD]at e;cases e;exact⟨rfl,Zr.mpr rfl⟩
  | int i t=>simp only[AD]at e;cases e;exact⟨⟨_,rfl⟩,Xr.mpr rfl⟩
  | str x t=>simp only[AD]at e;cases e;exact⟨⟨_,rfl⟩,Df.mpr rfl⟩
  | _=>simp only[AD]at e<;>cases e
 | succ n ih=>
  intro u d e;cases u with
  | none=>simp only[AD]at e;cases e;exact⟨rfl,Af.mpr rfl⟩
  | bool b=>simp only[AD]at e;cases e;exact⟨rfl,Zr.mpr rfl⟩
  | int i t=>simp only[AD]at e;cases e;exact⟨⟨_,rfl⟩,Xr.mpr rfl⟩
  | str x t=>simp only[AD]at e;cases e;exact⟨⟨_,rfl⟩,Df.mpr rfl⟩
  | ref a=>
   simp only[AD]at e;split at e
   · rename_i T dd its m sl q;by_cases hz:its.size<=sizeLine
     · rw[if_pos hz]at e;by_cases hT:T = "tuple"
       · rw[if_pos hT]at e;cases q2:its.toList.mapM (AD K n)with
         | none=>rw[q2]at e;cases e
         | some ds=>rw[q2]at e;cases e;obtain⟨h1,h2⟩:=QR (K:=K) (H:=H) (ρ:=ρ) ih q2;subst hT;exact⟨rfl,vf.mpr ⟨a,_,rfl,.inr ⟨_,its,m,q,rfl,rfl,hz,h1⟩,h2⟩⟩
       · rw[if_neg hT]at e;by_cases hT2:T = "list"
         · rw[if_pos hT2]at e;split at e
           · cases q2:its.toList.mapM (AD K n)with
             | none=>rw[q2]at e;cases e
             | some ds=>rw[q2]at e;cases e;obtain⟨h1,h2⟩:=QR (K:=K) (H:=H) (ρ:=ρ) ih q2;subst hT2;exact⟨rfl,jf.mpr ⟨a,_,rfl,.inr ⟨_,its,m,q,rfl,rfl,rfl,hz,h1⟩,h2⟩⟩
           · cases e
         · rw[if_neg hT2]at e;cases e
     · rw[if_neg hz]at e;cases e
   · cases e
  | _=>simp only[AD]at e<;>cases e
structure LJ(K:Frag)(mg:Str->Option Value)(x:Str)(d:Dt):Prop where
 ex:∃u n,mg x=some u/\AD K n u=some d
theorem cI {x:Str} {d:Dt} {pos:Pos} (hg:Gl X x) (c:LJ X.K X.mg x d) (hd:(x==("__debug__" :Str))=false:=by decide):EM X (.Name x pos) (eC d):=by with_unfolding_all obtain⟨u,n,h1,h2⟩:=c.ex;exact Lq hg h1 (JV (H:=fun _=>none) (ρ:=.nil) n u d h2).1 (fun H ρ=>(JV n u d h2).2) hd
end
theorem Ey{K:Frag}{F:LB}{n:Nat}(h:∀ns:List Int,ns.length<=n->∃h',F [.lst (ns.map Dt.int)] []=some (.bl true,h'))(H:Hp)(a:Addr)(ns:List Int)(hl:ns.length<=n)(hS:Td K H a (ns.map V.int)) :
 QI K 1 F [.ref a] H (fun v _=>v=.bl true) fun _ _ _=>False:=by
 obtain⟨h',e⟩:=h ns hl;have R:Yr K H .nil (.lst (ns.map Dt.int)) (.ref a):=jf.mpr ⟨a,_,rfl,by
  rcases hS with hS | hS
  · exact .inl ⟨⟨by simp[Rg.nil],by simp[Rg.nil]⟩,hS⟩
  · exact .inr hS,Wr.ints ns⟩
 exact⟨.nil,[.lst (ns.map Dt.int)],[],.bl true,h',uf.nil,.cons R .nil,rfl,e,fun ρ' v H' R' S' E'=>Zr.mp R'⟩
structure aD(P:Program)(w:World)(K:Frag)(mg:Str->Option Value)(base:Heap)(k n:Nat)(x:Str)(F:LB):Prop where
 ex:∃f fd ps,Od P w K mg base RF k f fd ps (QI K n F)/\mg x=some (.ref f)/\keepIn K (.ref f)=true/\Binds K fd ps []
 len:∀ds h r,F ds h=some r->ds.length=n
structure kB(K:Frag)(mg:Str->Option Value)(x:Str)(st:Stmt)(ps:List Str):Prop where
 ex:∃f fd,Fl K x x st f fd/\mg x=some (.ref f)/\Binds K fd ps []
section
variable{P:Program}{w:World}{K:Frag}{mg:Str->Option Value}{base:Heap}
theorem iy{x qual:Str}{st:Stmt}{f:Addr}{fd:FuncData}{N ps:List Str}{k n m:Nat}{body:RS}(F:Fl K x qual st f fd)(S:SA N ps (xA st))(hn:ps.length=n)(hm:N.length=m)
 (hb:∀(cdv:Value)(A:Around)(outer:List Env)(s:Shared)(H:Hp)(E:XK),Tf k (A.deeper (envOfC qual (xA st) s.heap.objs.size f cdv))->
  DH (dF RF P w K mg base N qual (xA st) f cdv A outer s H E).Bl (jD st) body):Od P w K mg base RF (k+1) f fd ps (QI K n (fC n m body)):=by
 with_unfolding_all subst hn hm;exact qO F S hb
theorem qB{x:Str}{st:Stmt}{N ps:List Str}{k n m:Nat}{body:RS}(D:kB K mg x st ps)(S:SA N ps (xA st))(hn:ps.length=n)(hm:N.length=m)
 (hb:∀(f:Addr)(cdv:Value)(A:Around)(outer:List Env)(s:Shared)(H:Hp)(E:XK),Tf k (A.deeper (envOfC x (xA st) s.heap.objs.size f cdv))->
  DH (dF RF P w K mg base N x (xA st) f cdv A outer s H E).Bl (jD st) body):aD P w K mg base (k+1) n x (fC n m body):=by
 with_unfolding_all subst hn hm;obtain⟨f,fd,hF,hm,hB⟩:=D.ex;exact⟨⟨f,fd,ps,qO hF S fun cdv A outer s H E hr=>hb f cdv A outer s H E hr,hm,hF.kp,hB⟩,fun ds h r e=>QN e⟩
end
section
variable{X:Cx}{k k' n:Nat}{F:LB}{x:Str}{p pos:Pos}{e:Expr}{es:List Expr}{g:RA}
theorem pJ (c:aD X.prog X.w X.K X.mg X.base k n x F) (hr:Tf k' X.A) (hk:k<=k') (hg:Gl X x) (ha:AM X (e::es) g) (hdb:(x==("__debug__" :Str))=false:=by decide)
 (he:sB e=true:=by rfl) (hpl:es.all sB=true:=by rfl) :
 EM X (.Call (.Name x p) (e::es) [] pos) (wA F [] g):=by
 with_unfolding_all obtain⟨f,fd,ps,h1,h2,h3,h4⟩:=c.ex;exact HW h1 (hr.mono hk) hg h2 h3 h4 .nil (fun _ _=>.nil) ha (fun F' e ds h r q=>c.len ds h r (e ▸ q)) hdb he hpl
end
theorem Y8{l:PySem.W.OpenLaw}{q:Program}{loose:List Str}{XP:(Str->Option Value)->Heap->Prop}{YP:World->Heap->Prop}{d:DefRec}{K:Params->Frag}{F:LB}{k:Nat}{x:Str}(hn:l.most=some 63)(hdf:d.params.defaults=[])(hr:Tf k callerA)
 (hY:∀(w:World)(h:Heap),YP w h->(K w.params).In h)
 (hF:∀(w:World)(mg:Str->Option Value)(fa:Addr)(h:Heap),(K w.params).In h->h.Ns mainGlobals mg->mg d.name=some (.ref fa)->
  ∃fd:FuncData,(∀(s:Shared)(u:Value),BindsTo s fd ⟨[u],[]⟩ [(x,u)])/\∀base:Heap,(K w.params).In base->base.Ns mainGlobals mg->Od l.prog w (K w.params) mg base RF k fa fd [x] (QI (K w.params) 1 F))
 (h:∀ns:List Int,ns.length<=63->∃h',F [.lst (ns.map Dt.int)] []=some (.bl true,h')):PySem.W.WalkO q loose XP YP l.row.toRowW d [] (fun f vs=>PySem.call f vs):=
 L2.Xz (n:=63) (k:=k) (x:=x) (CX:=fun _=>RF) (sp:=fun w=>QI (K w.params) 1 F) hn (by decide) hdf hr hY hF (fun w H a ns hl _ hS=>Ey h H a ns hl hS) fun _ _ _ _ _ z=>z
end SM
namespace L2
section
variable{X:Cx}
theorem vY:∀{bs:List Bool}{us:List Value},Vals (bs.map V.bl) us->∀(i:Nat)(v:Value),us[i]?=some v->v=.bool (bs.getD i false)
 | [],us,r,i,v,e=>by cases r;simp at e
 | b::bs,us,r,i,v,e=>by
  cases r with
  | cons r rr=>
   cases i with
   | zero=>simp at e;subst e;exact r
   | succ i=>simpa using vY rr i v (by simpa using e)
end
end L2
namespace SM
noncomputable def lG:List Dt->Option (List Bool)
 | []=>some []
 | .bl b::ds=>(lG ds).map fun bs=>b::bs
 | _::_=>none
theorem BW:∀{ds:List Dt}{bs:List Bool},lG ds=some bs->ds=bs.map Dt.bl
 | [],bs,e=>by simp only[lG]at e;cases e;rfl
 | d::ds,bs,e=>by
  cases d with
  | bl b=>
   simp only[lG]at e;cases q:lG ds with
   | none=>rw[q]at e;cases e
   | some cs=>rw[q]at e;cases e;rw[BW q];rfl
  | _=>simp only[lG]at e<;>cases e
theorem Wr.zag{K:Frag}{H:Hp}{ρ:Rg}:∀{bs:List Bool}{vs:List V},Wr K H ρ (bs.map Dt.bl) vs->vs=bs.map V.bl
 | [],_,h=>h.vd
 | n::ns,_,h=>by obtain⟨v,r,rfl,h1,h2⟩:=Wr.Bf h;simp only[Yr]at h1;rw[h1,Wr.zag h2];rfl
section
variable{X:Cx}{e:Expr}{f:RE}{p pos:Pos}
end
noncomputable def pI:Nat->List Dt->List Dt
 | _,[]=>[]
 | k,x::xs=>.tup [.int (k:Int),x]::pI (k+1) xs
noncomputable def aF(i j:Nat):RG:=fun d l=>match d with
 | .tup [a,b]=>some ((l.set i (some a)).set j (some b))
 | _=>none
end SM
namespace L2
section
variable{X:Cx}{pins:List (Addr×Obj)}{σ:List (Option V)}{H:Hp}{s:Shared}{h':Heap}
theorem Inv.zam{t':Nat}{e it p:Addr}{xs:List V}(I:Inv X pins σ H s)(k:∀b o,b≠e->b≠it->s.heap.get? b=some o->h'.get? b=some o)(fe:QE X pins H e)(fi:QE X pins H it)(hp:s.heap.objs.size<=p)
 (new:Nf X.prog X.w (yB H p (.tup xs)) h' p (.tup xs)):Inv X pins σ (yB H p (.tup xs)) { s with heap:=h',toks:=t' }:=by
 obtain⟨e0,e1,e2,e3,e4,e5⟩:=fe;obtain⟨i0,i1,i2,i3,i4,i5⟩:=fi;have hn:H p=none:=I.hok.fresh hp;have ne:∀b u,H b=some u->b≠e:=fun b u q z=>by rw[z,e0]at q;cases q
 have ni:∀b u,H b=some u->b≠it:=fun b u q z=>by rw[z,i0]at q;cases q
 have nc:∀{b},b ∉ [e,it]->b≠e/\b≠it:=fun hc=>⟨fun z=>hc (by simp[z]),fun z=>hc (by simp[z])⟩
 refine I.step (g':=s.gens) (d':=s.drawn) (ch:=[e,it]) (fun b hb=>?_) (fun b o _ _ hc q _=>k b o (nc hc).1 (nc hc).2 q) (fun b o _ _ hc q _=>⟨o.slots,k b o (nc hc).1 (nc hc).2 q⟩)
  (fun b o _ q n=>by rw[NA (Nat.ne_of_lt (Nat.lt_of_lt_of_le (Heap.lt_size q) hp))];exact n)
  (fun b o hc q=>⟨o,k b o (nc hc).1 (nc hc).2 q⟩) (fun b ys q=>by rw[NA (XC q hn)];exact q) (fun b o u q=>by rw[NA (XC q hn)];exact q)
  (fun b ps q=>⟨#[],by rw[NA (XC q hn),q];simp⟩) (fun m hm=>?_) (fun b u q=>?_) I.bare
 · have z:b=e\/b=it:=by simpa using hb
   rcases z with rfl | rfl
   · exact⟨e3,e1,e4,e5⟩
   · exact⟨i3,i1,i4,i5⟩
 · obtain⟨o,es,ep,ho,r⟩:=hm;exact⟨o,es,ep,k _ o (Ne.symm e1) (Ne.symm i1) ho,r⟩
 · by_cases hb:b=p
   · subst hb;rw[LC]at q;cases q;exact new
   · rw[NA hb]at q;refine(I.hok b u q).stay (fun c v hc q'=>?_) (fun c q=>by rw[NA (XC q hn)];exact q) fun c ys q=>by rw[NA (XC q hn)];exact q
     rcases hc with z | z
     · subst z;exact k c v (ne c u q) (ni c u q) q'
     · exact k c v (ne c _ z) (ni c _ z) q'
theorem Inv.Np{t':Nat}{e it:Addr}(I:Inv X pins σ H s)(k:∀b o,b≠e->b≠it->s.heap.get? b=some o->h'.get? b=some o)(fe:QE X pins H e)(fi:QE X pins H it):Inv X pins σ H { s with heap:=h',toks:=t' }:=by
 obtain⟨e0,e1,e2,e3,e4,e5⟩:=fe;obtain⟨i0,i1,i2,i3,i4,i5⟩:=fi;have ne:∀b u,H b=some u->b≠e:=fun b u q z=>by rw[z,e0]at q;cases q
 have ni:∀b u,H b=some u->b≠it:=fun b u q z=>by rw[z,i0]at q;cases q
 have nc:∀{b},b ∉ [e,it]->b≠e/\b≠it:=fun hc=>⟨fun z=>hc (by simp[z]),fun z=>hc (by simp[z])⟩
 refine I.step (g':=s.gens) (d':=s.drawn) (ch:=[e,it]) (fun b hb=>?_) (fun b o _ _ hc q _=>k b o (nc hc).1 (nc hc).2 q) (fun b o _ _ hc q _=>⟨o.slots,k b o (nc hc).1 (nc hc).2 q⟩)
  (fun b o _ q n=>n) (fun b o hc q=>⟨o,k b o (nc hc).1 (nc hc).2 q⟩) (fun b ys q=>q) (fun b o u q=>q)
  (fun b ps q=>⟨#[],by rw[q];simp⟩) (fun m hm=>?_) (fun b u q=>?_) I.bare
 · have z:b=e\/b=it:=by simpa using hb
   rcases z with rfl | rfl
   · exact⟨e3,e1,e4,e5⟩
   · exact⟨i3,i1,i4,i5⟩
 · obtain⟨o,es,ep,ho,r⟩:=hm;exact⟨o,es,ep,k _ o (Ne.symm e1) (Ne.symm i1) ho,r⟩
 · refine(I.hok b u q).stay (fun c v hc q'=>?_) (fun c q=>q) fun c ys q=>q
   rcases hc with z | z
   · subst z;exact k c v (ne c u q) (ni c u q) q'
   · exact k c v (ne c _ z) (ni c _ z) q'
end
def oh(K:Frag)(a:Addr):It:=
 ⟨fun i H=>∃xs x,Td K H a xs/\xs[i]?=some x,fun i H x H'=>∃p y,H p=none/\x=.ref p/\(∀xs,Td K H a xs->xs[i]?=some y)/\H'=yB H p (.tup [.int (i:Nat),y]),fun i H=>∃xs,Td K H a xs/\xs.length<=i⟩
theorem Q9{P:Program}{w:World}{K:Frag}{elts:List Expr}{x1}{pos:Pos}(a e it:Addr)(hne:e≠it):BH P w K (.Tuple elts x1 pos) (oh K a) [e,it] e (fun i h=>(∃old,IsEnum h e it i old)/\h.IsListIter it a i) where
 mem:=by simp
 obj:=fun i h st b hb=>by
  obtain⟨⟨old,s1⟩,s2⟩:=st;have z:b=e\/b=it:=by simpa using hb
  rcases z with rfl | rfl
  · exact⟨_,s1,fun v z=>by cases z⟩
  · obtain⟨o,e,c,d⟩:=s2;exact⟨o,e,fun v z=>by rw[d]at z;cases z⟩
 keep:=fun i h h' st k=>by obtain⟨⟨old,s1⟩,s2⟩:=st;exact⟨⟨old,k e (by simp) _ s1⟩,s2.at fun o e=>k it (by simp) o e⟩
 item:=by
  intro X hP hw hK hc i pins s σ H E I hf st hg;subst hP hw hK;obtain⟨⟨old,s1⟩,s2⟩:=st;obtain⟨xs,x,hq,hx⟩:=hg;obtain⟨its,rv,p,hz⟩:=I.list hq;obtain⟨u,hu,ru⟩:=rv.get hx;have fe:=hf e (by simp);have fi:=hf it (by simp);refine wpAny_pyNext_enum_item s1 s2 p.isList (x:=u) (by simpa using hu) hne fun h' out it' tup sz kp=>?_
  refine⟨_,rfl,wpAny_letOwnedTupleGo_enum out fun h2 he2 sb=>?_⟩;have hpe:s.heap.objs.size≠e:=(Nat.ne_of_lt (Heap.lt_size s1)).symm;have hpi:s.heap.objs.size≠it:=by obtain⟨o,q,_⟩:=s2;exact(Nat.ne_of_lt (Heap.lt_size q)).symm
  have t2:h2.get? s.heap.objs.size=some { cls:=.type "tuple",data:=.seq #[.int i s.toks,u] }:=(sb.2 _ hpe).trans tup;refine⟨.ref s.heap.objs.size,yB H s.heap.objs.size (.tup [.int (i:Nat),x]),I.zam (fun b o h1 h3 q=>(sb.2 b h1).trans (kp b o h1 h3 q)) fe fi (zdS _) ⟨by simp only[zdF,zdG];rw[sizeLine_eq];decide,[.int i s.toks,u],.cons ⟨_,rfl⟩ (.cons ru .nil),⟨_,t2,rfl,_,rfl⟩⟩,rfl,⟨_,x,I.hok.fresh (zdS _),rfl,fun ys hy=>by rw[I.Wb hy hq];exact hx,rfl⟩,⟨⟨_,he2⟩,it'.at fun o q=>(sb.2 it (Ne.symm hne)).trans q⟩,fun b hb=>?_⟩;have z:b=e\/b=it:=by simpa using hb
  rcases z with rfl | rfl
  · rw[NA (Ne.symm hpe)];exact fe.1
  · rw[NA (Ne.symm hpi)];exact fi.1
 done:=by intro X hP hw hK hc i pins s σ H E I hf st hg;subst hP hw hK;obtain⟨⟨old,s1⟩,s2⟩:=st;obtain⟨xs,hq,hx⟩:=hg;obtain⟨its,rv,p,hz⟩:=I.list hq;have hl:=rv.length;exact wpAny_pyNext_enum_end (I.ok.hd hc) s1 s2 p.isList (by simp;omega) fun h' eb=>⟨rfl,I.Np (t':=s.toks) (fun b o _ h3 q=>eb b o h3 q) (hf e (by simp)) (hf it (by simp))⟩
 self:=fun _ _ _ _ _ st h=>by obtain⟨⟨old,s1⟩,_⟩:=st;exact wpAny_pyIter_enum s1 h
section
variable{X:Cx}
def XZ(K:Frag)(ta:TA):TI:=fun σ H R=>ta σ H fun vs H1=>∃a,vs=[.ref a]/\(∃xs,Td K H1 a xs)/\R (oh K a) H1
theorem Vv {elts:List Expr} {x1} {tp:Pos} {a:Expr} {ta:TA} {p pos:Pos} (hg:Gl X "enumerate") (hm:X.mg "enumerate" =none) (ha:PA X [a] ta) (hs:starEach [a] X.env=[(false,eval a X.env)]:=by rfl) :
 PI X (.Tuple elts x1 tp) (.Call (.Name "enumerate" p) [a] [] pos) (XZ X.K ta):=by
 intro pins s σ H R I h;refine Call_ (nH I hg hm boot_enumerate (PyProof.Rows.callWith_type1 (gB (ha pos pins s σ H _ I h) fun us s1 zz=>?_) hs rfl));obtain⟨vs,H1,I1,r1,q1⟩:=zz;obtain⟨b,e,⟨xs,hq⟩,q⟩:=q1;subst e;cases r1 with
 | cons r rr=>
  cases rr;cases r;obtain⟨its,rv,pl,hz⟩:=I1.list hq;refine call_enumerate_list pl.isList fun h' he hit hsz k=>?_
  have I2:Inv X pins σ H1 { s1 with heap:=h' }:=I1.kept (t':=s1.toks) k;refine wpAny_pyIter_enum he ?_;refine⟨s1.heap.objs.size+1,[s1.heap.objs.size+1,s1.heap.objs.size],_,_,H1,rfl,I2,Q9 b (s1.heap.objs.size+1) s1.heap.objs.size (Nat.succ_ne_self _),⟨⟨_,he⟩,hit⟩,fun c hc=>?_,q⟩;have z:c=s1.heap.objs.size+1\/c=s1.heap.objs.size:=by simpa using hc
  rcases z with rfl | rfl
  · exact I1.Vm (Nat.le_succ _) (I1.hok.fresh (Nat.le_succ _))
  · exact I1.Vm (zdS _) (I1.hok.fresh (zdS _))
end
end L2
namespace SM
theorem kW:∀(xs:List Dt)(k i:Nat),(pI k xs)[i]?=(xs[i]?).map fun x=>.tup [.int ((k+i:Nat):Int),x]
 | [],_,_=>by simp[pI]
 | x::xs,k,0=>by simp[pI]
 | x::xs,k,i+1=>by
  simp only[pI,zdE];rw[kW xs (k+1) i];have:k+1+i=k+(i+1):=by omega
  rw[this]
section
variable{X:Cx}
theorem SY(i j:Nat){x y:Str}{px py pos:Pos}{x1}(hc:X.calm=true)(hN:X.N.Nodup)(hi:X.N[i]?=some x:=by rfl)(hj:X.N[j]?=some y:=by rfl)
 (hx:FO X.env.scope x:=by first | exact Or.inl rfl | exact Or.inr rfl) (hy:FO X.env.scope y:=by first | exact Or.inl rfl | exact Or.inr rfl)
 (hf:X.fn x=true\/X.env.scope.names.lookup x=some .local:=by first | exact .inl rfl | exact .inr rfl | assumption)
 (hf':X.fn y=true\/X.env.scope.names.lookup y=some .local:=by first | exact .inl rfl | exact .inr rfl | assumption):GM X (.Tuple [.Name x px,.Name y py] x1 pos) (aF i j):=by
 with_unfolding_all
  refine PG.imp (Bw (n:=2) hc (WW (ES hN hi hx hf) (WW (ES hN hj hy hf') Uv))) fun v σ H Q zz=>?_
  obtain⟨ρ,l,h,d,l',S,L,R,e,k⟩:=zz;unfold aF at e;split at e
  · cases e;obtain⟨a,vs,rfl,q,r⟩:=vf.mp R;obtain⟨v1,r1,rfl,R1,r⟩:=r.Bf;obtain⟨v2,r2,rfl,R2,r⟩:=r.Bf;cases r.vd;exact⟨a,[v1,v2],rfl,q.sq,rfl,v1,[v2],rfl,v2,[],rfl,rfl,k _ ((L.set i R1).set j R2)⟩
  · cases e
end
def iI(fe fo fi:RE):RS:=fun l h=>(fe l h).bind fun v=>(fo l v.2).bind fun o=>(fi l o.2).bind fun i=>match o.1,i.1 with
 | .ref n,.int k=>match i.2[n]? with
  | some (.lst xs)=>(xI xs.length k).bind fun j=>some (.nx l (i.2.set n (.lst (xs.set j v.1))))
  | _=>none
 | _,_=>none
noncomputable def Lr(i j k:Nat):RG:=fun d l=>match d with
 | .tup [a,b,c]=>some (((l.set i (some a)).set j (some b)).set k (some c))
 | _=>none
noncomputable def xG(d:Dt)(k:Int):List Dt:=List.replicate k.toNat d
def FI(fa fb:RE):RE:=fun l h=>(fa l h).bind fun a=>(fb l a.2).bind fun k=>match k.1 with
 | .int i=>if -(2^62)<=i/\i<=1000000 then some (.lst (xG a.1 i),k.2)else none
 | _=>none
def EJ(fa fb:RE):RE:=fun l h=>(fa l h).bind fun a=>(fb l a.2).bind fun k=>match k.1 with
 | .int i=>if -(2^62)<=i/\i<=1000000 then some (.ref k.2.length,k.2++[.lst (xG a.1 i)])else none
 | _=>none
def zL:Dt->HI->Option (Dt×HI):=fun d h=>(JB h d).bind fun xs=>(lG xs).map fun bs=>(.bl (bs.any id),h)
noncomputable def vD(f:Dt->Option Dt):List Dt->Option (List Dt)
 | []=>some []
 | x::xs=>(f x).bind fun y=>(vD f xs).map fun ys=>y::ys
def BB(h:HI):Nat->Dt->Option Dt
 | 0,_=>none
 | n+1,.tup xs=>(vD (BB h n) xs).map .tup
 | n+1,.lst xs=>(vD (BB h n) xs).map .lst
 | n+1,.ref k=>match h[k]? with | some (.lst xs)=>(vD (BB h n) xs).map .lst | _=>none
 | _+1,.uc _=>none
 | _+1,d=>some d
def TJ:tD:=fun a b h=>(BB h 8 a).bind fun a'=>(BB h 8 b).bind fun b'=>(IC a' b' []).map fun r=>(r.1,h)
def MH:tD:=fun a b h=>(BB h 8 a).bind fun a'=>(BB h 8 b).bind fun b'=>(yE a' b' []).map fun r=>(r.1,h)
noncomputable def jF(t:RT)(body:RS):Nat->RS
 | 0,_,_=>none
 | n+1,l,h=>(t l h).bind fun c=>if c.1=true then(body l c.2).bind fun r=>match r with
  | .nx l' h'=>jF t body n l' h'
  | .ct l' h'=>jF t body n l' h'
  | .bk l' h'=>some (.nx l' h')
  | .rt d h'=>some (.rt d h')
  else some (.nx l c.2)
def mO(n:Nat)(t:RT)(body:RS):RS:=fun l h=>jF t body n l h
noncomputable def bI(fo fa:RE):RE:=fun l h=>(fo l h).bind fun r=>match r.1 with
 | .ref n=>match r.2[n]? with
  | some (.lst _)=>(fa l r.2).bind fun q=>match q.1 with
   | .ref m=>match q.2[n]?,q.2[m]? with
    | some (.lst xs),some (.lst ys)=>if xs.length+ys.length<=sizeLine then some (.non,q.2.set n (.lst (xs++ys)))else none
    | _,_=>none
   | _=>none
  | _=>none
 | _=>none
noncomputable def YN(fo fa:RE):RE:=fun l h=>(fo l h).bind fun r=>match r.1 with
 | .ref n=>match r.2[n]? with
  | some (.lst _)=>(fa l r.2).bind fun q=>match q.1 with
   | .int 0=>match q.2[n]? with
    | some (.lst (x::xs))=>some (x,q.2.set n (.lst xs))
    | _=>none
   | _=>none
  | _=>none
 | _=>none
noncomputable def qL(F:Dt->Dt->Option Dt)(fa fb:RE):RE:=fun l h=>(fa l h).bind fun r=>(fb l r.2).bind fun q=>(F r.1 q.1).map fun d=>(d,q.2)
noncomputable def iL:Dt->Dt->Option Dt:=fun a b=>match a,b with | .int i,.int j=>some (.int (if j>i then j else i)) | _,_=>none
noncomputable def rH:Dt->Dt->Option Dt:=fun a b=>match a,b with | .int i,.int j=>some (.int (if j<i then j else i)) | _,_=>none
noncomputable def QL(f:RE):RE:=fun l h=>(f l h).bind fun r=>match r.1 with | .int i=>some (.int (Builtin.bitNot i),r.2) | _=>none
end SM
namespace L2
section
variable{X:Cx}
theorem X9(bs:List Bool):(List.range bs.length).any (fun i=>bs.getD i false)=bs.any id:=by
 induction bs with
 | nil=>rfl
 | cons b bs ih=>
  rw[zdF,range_succ_eq_map,any_cons,any_map,any_cons];have:((fun i=>(b::bs).getD i false) ∘ Nat.succ)=fun i=>bs.getD i false:=by
   funext i
   simp
  rw[this,ih];simp
theorem k7 (hc:X.calm=true):jd X (.builtin "any") (fun xs H Q=>∃(p:Addr) (bs:List Bool),xs=[.ref p]/\Td X.K H p (bs.map V.bl)/\Q (.bl (bs.any id)) H):=by
 intro pins s σ H xs us Q I r h;obtain⟨p,bs,rfl,hq,q⟩:=h;obtain⟨u,rfl,rx⟩:=pG r;cases rx;obtain⟨its,r',pl,hz⟩:=I.list hq;have hlt:p<s.heap.objs.size:=by obtain⟨_,e,_⟩:=pl.isList;exact Heap.lt_size e
 refine call_any_walk (wpAny_pyIter_list pl.isList ?_);refine⟨_,_,_,_,_,_,fun i=>bs.getD i false,rfl,Walks.list (A:=X.A.in1) (I.ok.hd hc) s.heap.objs.size p (Nat.ne_of_lt hlt) its.toArray,⟨⟨_,Heap.get?_push_size _ rfl,rfl,rfl⟩,pl.isList.push _⟩,?_,fun h' tk k=>?_⟩
 · intro i v s2 Q2 E2 hv hQ;have e:=vY r' i v (by simpa using hv);subst e;exact wpAny_truthy_bool hQ
 · have hl:=r'.length;have e:(List.range its.toArray.size).any (fun i=>bs.getD i false)=bs.any id:=by rw[show its.toArray.size=bs.length by simp at hl ⊢;omega,X9]
   rw[e];exact⟨.bl (bs.any id),H,I.kept (old_kept k),rfl,q⟩
end
section
variable{X:Cx}{pins:List (Addr×Obj)}{σ:List (Option V)}{H:Hp}{s:Shared}{h':Heap}
theorem Inv.zaJ{t':Nat}{fp:List Addr}{p:Addr}{xs:List V}(I:Inv X pins σ H s)(k:∀b o,b∉fp->s.heap.get? b=some o->h'.get? b=some o)(ff:∀b∈fp,QE X pins H b)(hp:s.heap.objs.size<=p)
 (new:Nf X.prog X.w (yB H p (.tup xs)) h' p (.tup xs)):Inv X pins σ (yB H p (.tup xs)) { s with heap:=h',toks:=t' }:=by
 have hn:H p=none:=I.hok.fresh hp;have nt:∀b u,H b=some u->b∉fp:=fun b u q z=>by rw[(ff b z).1]at q;cases q
 refine I.step (g':=s.gens) (d':=s.drawn) (ch:=fp) (fun b hb=>?_) (fun b o _ _ hc q _=>k b o hc q) (fun b o _ _ hc q _=>⟨o.slots,k b o hc q⟩)
  (fun b o _ q n=>by rw[NA (Nat.ne_of_lt (Nat.lt_of_lt_of_le (Heap.lt_size q) hp))];exact n)
  (fun b o hc q=>⟨o,k b o hc q⟩) (fun b ys q=>by rw[NA (XC q hn)];exact q) (fun b o u q=>by rw[NA (XC q hn)];exact q)
  (fun b ps q=>⟨#[],by rw[NA (XC q hn),q];simp⟩) (fun m hm=>?_) (fun b u q=>?_) I.bare
 · obtain⟨e0,e1,e2,e3,e4,e5⟩:=ff b hb;exact⟨e3,e1,e4,e5⟩
 · obtain⟨o,es,ep,ho,r⟩:=hm;exact⟨o,es,ep,k _ o (fun z=>(ff _ z).2.1 rfl) ho,r⟩
 · by_cases hb:b=p
   · subst hb;rw[LC]at q;cases q;exact new
   · rw[NA hb]at q;refine(I.hok b u q).stay (fun c v hc q'=>?_) (fun c q=>by rw[NA (XC q hn)];exact q) fun c ys q=>by rw[NA (XC q hn)];exact q
     rcases hc with z | z
     · subst z;exact k c v (nt c u q) q'
     · exact k c v (nt c _ z) q'
theorem Inv.Qp{t':Nat}{fp:List Addr}(I:Inv X pins σ H s)(k:∀b o,b∉fp->s.heap.get? b=some o->h'.get? b=some o)(ff:∀b∈fp,QE X pins H b):Inv X pins σ H { s with heap:=h',toks:=t' }:=by
 have nt:∀b u,H b=some u->b∉fp:=fun b u q z=>by rw[(ff b z).1]at q;cases q
 refine I.step (g':=s.gens) (d':=s.drawn) (ch:=fp) (fun b hb=>?_) (fun b o _ _ hc q _=>k b o hc q) (fun b o _ _ hc q _=>⟨o.slots,k b o hc q⟩)
  (fun b o _ q n=>n) (fun b o hc q=>⟨o,k b o hc q⟩) (fun b ys q=>q) (fun b o u q=>q)
  (fun b ps q=>⟨#[],by rw[q];simp⟩) (fun m hm=>?_) (fun b u q=>?_) I.bare
 · obtain⟨e0,e1,e2,e3,e4,e5⟩:=ff b hb;exact⟨e3,e1,e4,e5⟩
 · obtain⟨o,es,ep,ho,r⟩:=hm;exact⟨o,es,ep,k _ o (fun z=>(ff _ z).2.1 rfl) ho,r⟩
 · refine(I.hok b u q).stay (fun c v hc q'=>?_) (fun c q=>q) fun c ys q=>q
   rcases hc with z | z
   · subst z;exact k c v (nt c u q) q'
   · exact k c v (nt c _ z) q'
end
section
variable{X:Cx}
end
end L2
namespace SM
section
variable{X:Cx}{e o i a b:Expr}{f g fe fo fi fa fb:RE}{p pos pos':Pos}
theorem Jk (hc:X.calm=true) (hg:Gl X "any") (hm:X.mg "any" =none) (ha:EM X e f) (hs:sB e=true:=by rfl):EM X (.Call (.Name "any" p) [e] [] pos) (GC zL f):=by
 with_unfolding_all
  exact gL (k7 hc) (fun ρ h d v d' h' H Q S R e k=>by
   obtain⟨xs,e1,e⟩:=lA e;cases q:lG xs with
   | none=>rw[q]at e;cases e
   | some ns=>
    rw[q]at e;cases e;obtain⟨a,vs,z,sq,r⟩:=sF S R e1;rw[BW q]at r;rw[r.zag]at sq;exact⟨a,ns,by rw[z],sq,k ρ _ H (Zr.mpr rfl) S (Ext.refl _ _)⟩) hg hm PyProof.Rows.boot_any ha (hs:=hs)
theorem KN(he:EM X e fe)(ho:EM X o fo)(hi:EM X i fi)
 (hs:swapsWithSole [.Subscript o i pos'] e pos.line X.env=pure false:=by rfl) (hw:swappedStores [.Subscript o i pos'] e X.env=pure none:=by rfl) (h1:(assignEach [.Subscript o i pos'] X.env).map (·.2)=[assign (.Subscript o i pos') X.env]:=by rfl)
 (ha:∀v,assign (.Subscript o i pos') X.env v=(do
  let ov <- holding [v] (eval o X.env)
  let iv <- holding [v,ov] (eval i X.env)
  standAt pos'
  holding [v,ov,iv] (setItem ov iv v)
  release [v,ov,iv] []):=by intro _;rfl):ZM X (.Assign [.Subscript o i pos'] e pos) (iI fe fo fi):=by
 with_unfolding_all
  exact PS.imp (Cw he (Aw ho hi gq ha) hs hw h1) fun D σ H zz=>by
   obtain⟨ρ,l,h,r,S,L,e,k⟩:=zz;obtain⟨⟨v,hv⟩,e1,e⟩:=lA e;obtain⟨⟨d,hd⟩,e2,e⟩:=lA e;obtain⟨⟨j,hj⟩,e3,e⟩:=lA e;refine⟨ρ,l,h,v,hv,S,L,e1,fun ρ1 u H1 R1 S1 E1=>⟨ρ1,l,hv,d,hd,S1,L.ext E1,e2,fun ρ2 y H2 R2 S2 E2=>⟨ρ2,l,hd,j,hj,S2,L.ext (E1.trans E2),e3,fun ρ3 z H3 R3 S3 E3=>?_⟩⟩⟩;cases d with
   | ref n=>
    cases j with
    | int kk=>
     dsimp only at e;split at e
     · rename_i xs q;obtain⟨jj,e4,e⟩:=lA e;cases e;obtain⟨aa,zz,ha⟩:=zf.mp (Yr.ext E3 _ R2);obtain⟨vs,g1,g2⟩:=S3.lst ha q;have hm:=mem_of_getElem? ha;refine⟨aa,vs,kk,jj,zz,Xr.mp R3,g1,by rw[g2.length];exact e4,?_⟩;exact k ρ3 σ _ (S3.write ha (YG g1) ⟨_,LC,(g2.set jj (Yr.ext (E2.trans E3) _ R1)).ext (Ext.write hm (YG g1))⟩) (L.ext (E1.trans (E2.trans (E3.trans (Ext.write hm (YG g1)))))) (E1.trans (E2.trans (E3.trans (Ext.write hm (YG g1)))))
     · cases e
    | _=>cases e
   | _=>cases e
theorem wW{α:Type}(v:α):∀k:Nat,(List.replicate k [v]).flatten=List.replicate k v
 | 0=>rfl
 | k+1=>by rw[replicate_succ,flatten_cons,wW v k];rfl
theorem yX{K:Frag}{H:Hp}{ρ:Rg}{d:Dt}{v:V}(r:Yr K H ρ d v):∀k:Nat,Wr K H ρ (List.replicate k d) (List.replicate k v)
 | 0=>.nil
 | k+1=>.cons r (yX r k)
theorem aX{σ:L2.St}{H:Hp}{Q:VK}(own:Bool)(h:tM X.K (if own=true then EJ fa fb else FI fa fb) σ H Q):HU DU (FU (cZ (tM X.K fa) GU)) (tM X.K fb) σ H Q:=by
 obtain⟨ρ,l,h,d,h',S,L,e,k⟩:=h;have e0:∃d1 h1 d2 h2 i,fa l h=some (d1,h1)/\fb l h1=some (d2,h2)/\d2=.int i/\(-(2^62)<=i/\i<=1000000)/\(if own=true then(Dt.ref h2.length,h2++[.lst (xG d1 i)])else(Dt.lst (xG d1 i),h2))=(d,h'):=by
  cases own with
  | true=>
   rw[if_pos rfl]at e;obtain⟨⟨d1,h1⟩,e1,e⟩:=lA e;obtain⟨⟨d2,h2⟩,e2,e⟩:=lA e;cases d2 with
   | int i=>obtain⟨c,e⟩:=dE e;exact⟨d1,h1,_,h2,i,e1,e2,rfl,c,e⟩
   | _=>cases e
  | false=>
   rw[if_neg zdR]at e;obtain⟨⟨d1,h1⟩,e1,e⟩:=lA e;obtain⟨⟨d2,h2⟩,e2,e⟩:=lA e;cases d2 with
   | int i=>obtain⟨c,e⟩:=dE e;exact⟨d1,h1,_,h2,i,e1,e2,rfl,c,e⟩
   | _=>cases e
 obtain⟨d1,h1,d2,h2,i,e1,e2,rfl,c,ed⟩:=e0;refine⟨ρ,l,h,d1,h1,S,L,e1,fun ρ1 v H1 R1 S1 E1=>⟨by simp only[zdF,zdG];rw[sizeLine_eq];decide,fun q hq=>?_⟩⟩;refine⟨ρ1,l,h1,.int i,h2,S1.fresh hq,L.ext (E1.trans (Ext.fresh hq)),e2,fun ρ2 y H2 R2 S2 E2=>?_⟩;have hk:=E2.keep q _ LC (S1.out hq).1;have hi:i.toNat<=1000000:=by omega
 refine⟨q,i,[v],rfl,Xr.mp R2,hk,by omega,by omega,by simp only[zdF,zdG];rw[sizeLine_eq];omega,fun q2 hq2=>?_⟩;rw[wW];have RR:Wr X.K H2 ρ2 (xG d1 i) (List.replicate i.toNat v):=yX (Yr.ext ((Ext.fresh hq).trans E2) _ R1) _;have EE:=E1.trans ((Ext.fresh hq).trans E2);cases own with
 | true=>rw[if_pos rfl]at ed;cases ed;exact k _ _ _ (oH S2 RR hq2).1 (oH S2 RR hq2).2 (EE.trans (Ext.own hq2))
 | false=>rw[if_neg zdR]at ed;cases ed;exact k ρ2 _ _ (VN S2 RR hq2) (S2.fresh hq2) (EE.trans (Ext.fresh hq2))
theorem sY(ha:EM X a fa)(hb:EM X b fb)(hs:sB a=true:=by rfl):EM X (.BinOp (.List [a] p) .Mult b pos) (FI fa fb):=by with_unfolding_all exact PE.imp (sT JY (jO (kD ha oE (lB hs _ _))) hb) fun σ H Q h=>aX (fa:=fa) (fb:=fb) false h
theorem JX(ha:EM X a fa)(hb:EM X b fb)(hs:sB a=true:=by rfl):EM X (.BinOp (.List [a] p) .Mult b pos) (EJ fa fb):=by with_unfolding_all exact PE.imp (sT JY (jO (kD ha oE (lB hs _ _))) hb) fun σ H Q h=>aX (fa:=fa) (fb:=fb) true h
end
section
variable{K:Frag}{H:Hp}{ρ:Rg}{h:HI}
theorem uf.bare(S:uf K ρ h H):uf K ⟨[],ρ.z⟩ [] H:=⟨nodup_nil,rfl,fun _ _ _ e=>by simp at e,fun a ha=>⟨by simp,(S.zt a ha).2⟩⟩
theorem qN{f:Dt->Option Dt}(hf:∀d d' v,f d=some d'->Yr K H ρ d v->Yr K H ⟨[],ρ.z⟩ d' v):∀(xs:List Dt){ys:List Dt}{vs:List V},vD f xs=some ys->Wr K H ρ xs vs->Wr K H ⟨[],ρ.z⟩ ys vs
 | [],ys,vs,e,r=>by cases e;rw[r.vd];exact .nil
 | x::xs,ys,vs,e,r=>by
  obtain⟨v,rr,rfl,r1,r2⟩:=r.Bf;obtain⟨y,e1,e⟩:=lA (show(f x).bind _=some ys from e);cases q:vD f xs with
  | none=>rw[q]at e;cases e
  | some zs=>rw[q]at e;cases e;exact .cons (hf _ _ _ e1 r1) (qN hf xs q r2)
theorem TupAt.bare{a:Addr}{vs:List V}(t:TupAt K H ρ a vs):TupAt K H ⟨[],ρ.z⟩ a vs:=by
 rcases t with⟨n,t⟩ | t
 · exact .inl ⟨⟨by simp,n.2⟩,t⟩
 · exact .inr t
theorem LstAt.bare{a:Addr}{vs:List V}(t:LstAt K H ρ a vs):LstAt K H ⟨[],ρ.z⟩ a vs:=by
 rcases t with⟨n,t⟩ | t
 · exact .inl ⟨⟨by simp,n.2⟩,t⟩
 · exact .inr t
theorem JK(S:uf K ρ h H):∀(n:Nat)(d d':Dt)(v:V),BB h n d=some d'->Yr K H ρ d v->Yr K H ⟨[],ρ.z⟩ d' v
 | 0,_,_,_,e,_=>by simp[BB]at e
 | n+1,.non,_,_,e,r=>by simp only[BB]at e;cases e;simp only[Yr]at r ⊢;exact r
 | n+1,.bl _,_,_,e,r=>by simp only[BB]at e;cases e;simp only[Yr]at r ⊢;exact r
 | n+1,.int _,_,_,e,r=>by simp only[BB]at e;cases e;simp only[Yr]at r ⊢;exact r
 | n+1,.str _,_,_,e,r=>by simp only[BB]at e;cases e;simp only[Yr]at r ⊢;exact r
 | n+1,.tup xs,_,_,e,r=>by
  simp only[BB]at e;cases q:vD (BB h n) xs with
  | none=>rw[q]at e;cases e
  | some ys=>rw[q]at e;cases e;obtain⟨a,vs,z,t,rr⟩:=vf.mp r;exact vf.mpr ⟨a,vs,z,t.bare,qN (fun d d' v=>JK S n d d' v) xs q rr⟩
 | n+1,.lst xs,_,_,e,r=>by
  simp only[BB]at e;cases q:vD (BB h n) xs with
  | none=>rw[q]at e;cases e
  | some ys=>rw[q]at e;cases e;obtain⟨a,vs,z,t,rr⟩:=jf.mp r;exact jf.mpr ⟨a,vs,z,t.bare,qN (fun d d' v=>JK S n d d' v) xs q rr⟩
 | n+1,.uc m,_,_,e,r=>by simp only[BB]at e;cases e
 | n+1,.ref m,_,_,e,r=>by
  simp only[BB]at e;split at e
  · rename_i xs q0;cases q:vD (BB h n) xs with
    | none=>rw[q]at e;cases e
    | some ys=>rw[q]at e;cases e;obtain⟨a,z,ha⟩:=zf.mp r;obtain⟨vs,g1,g2⟩:=S.lst ha q0;refine jf.mpr ⟨a,vs,z,.inl ⟨⟨by simp,fun hz=>(S.zt a hz).1 (mem_of_getElem? ha)⟩,.inl g1⟩,qN (fun d d' v=>JK S n d d' v) xs q g2⟩
  · cases e
theorem uf.grown{H':Hp}(S:uf K ρ h H)(g:∀a o,H a=some o->H' a=some o):uf K ρ h H':=by
 have sm:ud ρ ρ H H':=⟨fun _ _ _ n=>n,fun a u e _=>g a u e,fun _ _ e=>e,fun a q u e=>g a _ e⟩;refine⟨S.nd,S.len,fun n a o e1 e2=>?_,fun a ha=>?_⟩
 · have q:=S.ob n a o e1 e2;obtain⟨u,hu⟩:=q.some;exact Lb.same sm ((g a u hu).trans hu.symm) q
 · obtain⟨n,o,e⟩:=S.zt a ha;exact⟨n,o,g a _ e⟩
end
section
variable{X:Cx}
theorem GY{f:Value->Value->Sem Value}{op:tD}(hb:∀a b h d h',op a b h=some (d,h')->∃k,d=.bl k)(ho:OM X f op):OM X f (fun a b h=>(BB h 8 a).bind fun a'=>(BB h 8 b).bind fun b'=>(op a' b' []).map fun r=>(r.1,h)):=by
 with_unfolding_all
  exact Gd.imp ho fun x y H Q zz=>by
   obtain⟨ρ,h,d1,d2,d,h',S,R1,R2,e,k⟩:=zz;obtain⟨a',e1,e⟩:=lA e;obtain⟨b',e2,e⟩:=lA e;cases q:op a' b' []with
   | none=>rw[q]at e;cases e
   | some r=>
    obtain⟨r,hr⟩:=r;rw[q]at e;cases e;refine⟨⟨[],ρ.z⟩,[],a',b',r,hr,S.bare,JK S _ _ _ _ e1 R1,JK S _ _ _ _ e2 R2,q,fun ρ' v H' R' S' E'=>?_⟩;obtain⟨kk,rfl⟩:=hb _ _ _ _ _ q;have g:∀a o,H a=some o->H' a=some o:=fun a o ha=>E'.keep a o ha (by simp)
    exact k ρ v H' (Zr.mpr (Zr.mp R')) (S.grown g) ⟨⟨[],by simp,by simp⟩,rfl,fun a o ha _=>g a o ha,E'.live,fun a q u e=>g a _ e⟩
theorem Vk(a b:Dt)(h:HI)(d:Dt)(h':HI)(e:IC a b h=some (d,h')):∃k,d=.bl k:=by
 unfold IC at e;split at e
 · obtain⟨_,e⟩:=dE e;cases e;exact⟨_,rfl⟩
 · obtain⟨_,e⟩:=dE e;cases e;exact⟨_,rfl⟩
 · unfold GZ at e;split at e
   · obtain⟨_,e⟩:=dE e;cases e;exact⟨_,rfl⟩
   · cases e
theorem Kw(a b:Dt)(h:HI)(d:Dt)(h':HI)(e:yE a b h=some (d,h')):∃k,d=.bl k:=by
 unfold yE at e;split at e
 · obtain⟨_,e⟩:=dE e;cases e;exact⟨_,rfl⟩
 · obtain⟨_,e⟩:=dE e;cases e;exact⟨_,rfl⟩
 · unfold HZ at e;split at e
   · obtain⟨_,e⟩:=dE e;cases e;exact⟨_,rfl⟩
   · cases e
theorem Ow(hu:X.A.units+64<cLine):OM X (compareOp .Eq) TJ:=GY Vk (mE hu)
theorem FY(hu:X.A.units+64<cLine):OM X (compareOp .NotEq) MH:=GY Kw (eI hu)
end
section
variable{X:Cx}{e o i a b:Expr}{f g fe fo fi fa fb:RE}{p pos pos' apos cpos:Pos}
theorem cN (ho:EM X a fa) (hb:EM X b fb) (hbase:attributeBase a "extend" X.env (eval a X.env)=eval a X.env:=by rfl)
 (hline:(apos.endLine==cpos.line)=true:=by rfl) (hs:sB b=true:=by rfl) :
 EM X (.Call (.Attribute a "extend" apos) [b] [] cpos) (bI fa fb):=by
 with_unfolding_all
  exact PE.imp (rT PySem.F.plainAttrs_list PySem.F.slot_list_extend PySem.F.type_list_extend g8 ho (kD hb oE (lB hs _ _)) hbase (aS hs) hline (lB hs _ _)) fun σ H Q zz=>by
   obtain⟨ρ,l,h,d,h',S,L,e,k⟩:=zz;obtain⟨⟨d1,h1⟩,e1,e⟩:=lA e;refine⟨ρ,l,h,d1,h1,S,L,e1,fun ρ1 v H1 R1 S1 E1=>?_⟩;cases d1 with
   | ref n=>
    dsimp only at e;split at e
    · rename_i xs0 q0;obtain⟨⟨d2,h2⟩,e2,e⟩:=lA e;refine⟨kT S1 R1 q0,ρ1,l,h1,d2,h2,S1,L.ext E1,e2,fun ρ2 y H2 R2 S2 E2=>?_⟩;dsimp only at e;cases d2 with
      | ref m=>
       dsimp only at e;split at e
       · rename_i xs ys q1 q2;obtain⟨hz,e⟩:=dE e;cases e;obtain⟨a,z,ha⟩:=zf.mp R1;subst z;obtain⟨a2,z2,ha2'⟩:=zf.mp R2;subst z2;have ha2:=E2.get ha;obtain⟨vs,g1,g2⟩:=S2.lst ha2 q1;obtain⟨ws,g3,g4⟩:=S2.lst ha2' q2;have hm:=mem_of_getElem? ha2;refine⟨a,a2,vs,ws,rfl,rfl,g1,g3,by rw[g2.length,g4.length];exact hz,k ρ2 _ _ (Af.mpr rfl) (S2.write ha2 (YG g1) ⟨_,LC,?_⟩) (E1.trans (E2.trans (Ext.write hm (YG g1))))⟩;exact(g2.append g4).ext (Ext.write hm (YG g1))
       · cases e
      | _=>cases e
    · cases e
   | _=>cases e
theorem y9 (ho:EM X a fa) (hb:EM X b fb) (hbase:attributeBase a "pop" X.env (eval a X.env)=eval a X.env:=by rfl)
 (hline:(apos.endLine==cpos.line)=true:=by rfl) (hs:sB b=true:=by rfl) :
 EM X (.Call (.Attribute a "pop" apos) [b] [] cpos) (YN fa fb):=by
 with_unfolding_all
  exact PE.imp (rT PySem.F.plainAttrs_list PySem.F.slot_list_pop PySem.F.type_list_pop e9 ho (kD hb oE (lB hs _ _)) hbase (aS hs) hline (lB hs _ _)) fun σ H Q zz=>by
   obtain⟨ρ,l,h,d,h',S,L,e,k⟩:=zz;obtain⟨⟨d1,h1⟩,e1,e⟩:=lA e;refine⟨ρ,l,h,d1,h1,S,L,e1,fun ρ1 v H1 R1 S1 E1=>?_⟩;cases d1 with
   | ref n=>
    dsimp only at e;split at e
    · rename_i xs0 q0;obtain⟨⟨d2,h2⟩,e2,e⟩:=lA e;refine⟨kT S1 R1 q0,ρ1,l,h1,d2,h2,S1,L.ext E1,e2,fun ρ2 y H2 R2 S2 E2=>?_⟩;dsimp only at e;split at e
      · rename_i z0;split at e
        · rename_i x xs q1;cases e;obtain⟨a,z,ha⟩:=zf.mp R1;subst z;have ha2:=E2.get ha;obtain⟨vs,g1,g2⟩:=S2.lst ha2 q1;have hm:=mem_of_getElem? ha2;obtain⟨v0,vr,rfl,r0,rr⟩:=g2.Bf;have hlt:=S2.len;refine⟨a,v0::vr,0,0,v0,rfl,by rw[Xr.mp R2],g1,by decide,by decide,?_,rfl,k ρ2 _ _ (Yr.ext (Ext.write hm (YG g1)) _ r0) (S2.write ha2 (YG g1) ⟨_,LC,?_⟩) (E1.trans (E2.trans (Ext.write hm (YG g1))))⟩
          · rw[seqIndex_of (by decide) (by simp only[zdF];omega)];rfl
          · exact rr.ext (Ext.write hm (YG g1))
        · cases e
      · cases e
    · cases e
   | _=>cases e
theorem Lk(ha:EM X a fa):EM X (.UnaryOp .Invert a pos) (QL fa):=by
 with_unfolding_all
  exact PE.imp (rZ jh ha) fun σ H Q zz=>by
   obtain⟨ρ,l,h,d,h',S,L,e,k⟩:=zz;obtain⟨⟨d1,h1⟩,e1,e⟩:=lA e;refine⟨ρ,l,h,d1,h1,S,L,e1,fun ρ1 x H1 R1 S1 E1=>?_⟩;cases d1 with
   | int i=>cases e;exact⟨i,Xr.mp R1,k ρ1 _ H1 (Xr.mpr rfl) S1 E1⟩
   | _=>cases e
theorem aY{c:Expr}{body:List Stmt}{t:RT}{u:RS}{n:Nat}(hp:PassesOwn (model X.prog X.w) X.A X.env X.xe)(hc:TM X c t)(hb:DH X body u):ZM X (.While c body [] pos) (mO n t u):=by
 with_unfolding_all
  exact PS.imp (Rj hp hc hb) fun D σ H zz=>by
   obtain⟨ρ,l,h,r,S,L,e,k⟩:=zz;refine⟨fun m σ' H'=>∃ρ' l' h',uf X.K ρ' h' H'/\Zf X.K H' ρ' l' σ'/\Ext ρ ρ' H H'/\jF t u m l' h'=some r,⟨n,ρ,l,h,S,L,Ext.refl _ _,e⟩,?_⟩;rintro m σ' H' ⟨ρ',l',h',S',L',E',e'⟩;cases m with
   | zero=>simp only[jF]at e';cases e'
   | succ m=>
    simp only[jF]at e';obtain⟨⟨b,h1⟩,e1,e'⟩:=lA e';refine⟨ρ',l',h',b,h1,S',L',e1,fun ρ2 H2 S2 E2=>?_⟩;cases b with
    | true=>
     rw[if_pos rfl]at e';obtain⟨r1,e2,e'⟩:=lA e';refine WG ⟨fun σ3 H3=>∃m',m'<m+1/\∃ρ' l' h',uf X.K ρ' h' H3/\Zf X.K H3 ρ' l' σ3/\Ext ρ ρ' H H3/\jF t u m' l' h'=some r,fun σ3 H3 q=>q,ρ2,l',h1,r1,S2,L'.ext E2,e2,?_⟩;cases r1 with
     | nx l2 h2=>exact fun ρ5 σ5 H5 S5 L5 E5=>⟨m,Nat.lt_succ_self _,ρ5,l2,h2,S5,L5,E'.trans (E2.trans E5),e'⟩
     | ct l2 h2=>exact fun ρ5 σ5 H5 S5 L5 E5=>⟨m,Nat.lt_succ_self _,ρ5,l2,h2,S5,L5,E'.trans (E2.trans E5),e'⟩
     | bk l2 h2=>cases e';exact fun ρ5 σ5 H5 S5 L5 E5=>k ρ5 σ5 H5 S5 L5 (E'.trans (E2.trans E5))
     | rt d2 h2=>cases e';exact fun ρ5 v5 H5 R5 S5 E5=>k ρ5 v5 H5 R5 S5 (E'.trans (E2.trans E5))
    | false=>rw[if_neg zdR]at e';cases e';exact VG (k ρ2 σ' H2 S2 (L'.ext E2) (E'.trans E2))
theorem IX (hc:X.calm=true) (hg:Gl X "max") (hm:X.mg "max" =none) (ha:EM X a fa) (hb:EM X b fb) (hs:sB a=true:=by rfl) (hs2:sB b=true:=by rfl):EM X (.Call (.Name "max" p) [a,b] [] pos) (qL iL fa fb):=by
 with_unfolding_all
  exact PE.imp (xN (m7 hc) hg hm PyProof.Rows.boot_max (kD ha (kD hb oE (lB hs2 _ _)) (lB hs _ _)) (he:=lB hs _ _) (hpl:=iJ (by rw[all_cons,hs2];rfl))) fun σ H Q zz=>by
   obtain⟨ρ,l,h,d,h',S,L,e,k⟩:=zz;obtain⟨⟨d1,h1⟩,e1,e⟩:=lA e;obtain⟨⟨d2,h2⟩,e2,e⟩:=lA e;refine⟨ρ,l,h,d1,h1,S,L,e1,fun ρ1 v H1 R1 S1 E1=>⟨ρ1,l,h1,d2,h2,S1,L.ext E1,e2,fun ρ2 u H2 R2 S2 E2=>?_⟩⟩;cases d1 with
   | int i=>
    cases d2 with
    | int j=>cases e;exact⟨i,j,by rw[Xr.mp R1,Xr.mp R2],k ρ2 _ H2 (Xr.mpr rfl) S2 (E1.trans E2)⟩
    | _=>cases e
   | _=>cases e
theorem rS (hc:X.calm=true) (hg:Gl X "min") (hm:X.mg "min" =none) (ha:EM X a fa) (hb:EM X b fb) (hs:sB a=true:=by rfl) (hs2:sB b=true:=by rfl):EM X (.Call (.Name "min" p) [a,b] [] pos) (qL rH fa fb):=by
 with_unfolding_all
  exact PE.imp (xN (p7 hc) hg hm PyProof.Rows.boot_min (kD ha (kD hb oE (lB hs2 _ _)) (lB hs _ _)) (he:=lB hs _ _) (hpl:=iJ (by rw[all_cons,hs2];rfl))) fun σ H Q zz=>by
   obtain⟨ρ,l,h,d,h',S,L,e,k⟩:=zz;obtain⟨⟨d1,h1⟩,e1,e⟩:=lA e;obtain⟨⟨d2,h2⟩,e2,e⟩:=lA e;refine⟨ρ,l,h,d1,h1,S,L,e1,fun ρ1 v H1 R1 S1 E1=>⟨ρ1,l,h1,d2,h2,S1,L.ext E1,e2,fun ρ2 u H2 R2 S2 E2=>?_⟩⟩;cases d1 with
   | int i=>
    cases d2 with
    | int j=>cases e;exact⟨i,j,by rw[Xr.mp R1,Xr.mp R2],k ρ2 _ H2 (Xr.mpr rfl) S2 (E1.trans E2)⟩
    | _=>cases e
   | _=>cases e
end
end SM
namespace L2
section
variable{X:Cx}
end
end L2
namespace SM
section
variable{X:Cx}{e o i a b:Expr}{f g fe fo fi fa fb:RE}{p pos pos' apos cpos:Pos}
end
end SM
namespace L2
section
variable{κ:Type}[DecidableEq κ]
noncomputable def UE(kvs:List (κ×V))(k:κ):Option V:=(kvs.find? fun kv=>decide (kv.1=k)).map (·.2)
noncomputable def eF(kvs:List (κ×V))(k:κ)(v:V):List (κ×V):=
 if(kvs.any fun kv=>decide (kv.1=k))=true then kvs.map (fun kv=>if kv.1=k then(kv.1,v)else kv)else kvs++[(k,v)]
noncomputable def lZ(kvs:List (κ×V))(k:κ):List (κ×V):=kvs.filter fun kv=>decide (kv.1≠k)
theorem IN{p:κ×V}{r:List (κ×V)}{k:κ}(e:p.1=k):UE (p::r) k=some p.2:=by simp[UE,find?_cons,e]
theorem HN{p:κ×V}{r:List (κ×V)}{k:κ}(e:¬p.1=k):UE (p::r) k=UE r k:=by simp[UE,find?_cons,e]
theorem NW(k:κ):∀kvs:List (κ×V),(kvs.any fun kv=>decide (kv.1=k))=(UE kvs k).isSome
 | []=>rfl
 | p::r=>by
  rw[any_cons];by_cases e:p.1=k
  · simp only[IN e,decide_eq_true e,Bool.true_or,Option.isSome_some]
  · rw[HN e,decide_eq_false e,Bool.false_or];exact NW k r
theorem hV(kvs:List (κ×V))(k:κ)(v:V):(eF kvs k v).length<=kvs.length+1:=by
 unfold eF;split
 · rw[length_map];omega
 · rw[length_append,zdF,zdG];omega
theorem Qc.Wm{o:Option V}{u:Option Value}(r:Qc o u):o.isSome=u.isSome:=by
 cases o with
 | none=>cases u with
  | none=>rfl
  | some _=>exact(show False from r).elim
 | some _=>cases u with
  | none=>exact(show False from r).elim
  | some _=>rfl
theorem Qc.getD{o:Option V}{u:Option Value}{d:V}{d':Value}(r:Qc o u)(rd:RelV d d'):RelV (o.getD d) (u.getD d'):=by
 cases o with
 | none=>cases u with
  | none=>exact rd
  | some _=>exact(show False from r).elim
 | some _=>cases u with
  | none=>exact(show False from r).elim
  | some _=>exact r
theorem KV.val{kvs:List (κ×V)}{vs:List (κ×Value)}(r:KV kvs vs)(k:κ):Qc (UE kvs k) (valueAt vs k):=by
 unfold KV at r
 induction r with
 | nil=>exact True.intro
 | @cons p q ps qs h t ih=>
  obtain⟨h1,h2⟩:=h;by_cases e:p.1=k
  · have e':q.1=k:=h1.symm.trans e;have b:valueAt (q::qs) k=some q.2:=by simp[valueAt,find?_cons,e']
    rw[IN e,b];exact h2
  · have e':¬q.1=k:=fun z=>e (h1.trans z)
    have b:valueAt (q::qs) k=valueAt qs k:=by simp[valueAt,find?_cons,e']
    rw[HN e,b];exact ih
theorem KV.any{kvs:List (κ×V)}{vs:List (κ×Value)}(r:KV kvs vs)(k:κ):(kvs.any fun kv=>decide (kv.1=k))=vs.any fun kv=>decide (kv.1=k):=by
 unfold KV at r
 induction r with
 | nil=>rfl
 | cons h t ih=>rw[any_cons,any_cons,ih,h.1]
theorem KV.repl{kvs:List (κ×V)}{vs:List (κ×Value)}(r:KV kvs vs)(k:κ){y:V}{u:Value}(ry:RelV y u) :
 KV (kvs.map fun kv=>if kv.1=k then(kv.1,y)else kv) (vs.map fun kv=>if kv.1=k then(kv.1,u)else kv):=by
 unfold KV at r ⊢
 induction r with
 | nil=>exact .nil
 | @cons p q ps qs h t ih=>
  rw[zdH,zdH];refine .cons ?_ ih;obtain⟨h1,h2⟩:=h;by_cases e:p.1=k
  · rw[if_pos e,if_pos (h1.symm.trans e)];exact⟨h1,ry⟩
  · rw[if_neg e,if_neg (fun z=>e (h1.trans z))];exact⟨h1,h2⟩
theorem KV.put{kvs:List (κ×V)}{vs:List (κ×Value)}(r:KV kvs vs)(k:κ){y:V}{u:Value}(ry:RelV y u):KV (eF kvs k y) (stored vs k u):=by
 unfold eF stored;rw[r.any k];by_cases e:(vs.any fun kv=>decide (kv.1=k))=true
 · rw[if_pos e,if_pos e];exact r.repl k ry
 · rw[if_neg e,if_neg e];exact Paired.snoc r ⟨rfl,ry⟩
theorem KV.drop{kvs:List (κ×V)}{vs:List (κ×Value)}(r:KV kvs vs)(k:κ):KV (lZ kvs k) (without vs k):=by
 unfold KV at r ⊢;unfold lZ without
 induction r with
 | nil=>exact .nil
 | @cons p q ps qs h t ih=>
  obtain⟨h1,h2⟩:=h;rw[filter_cons,filter_cons];by_cases e:p.1=k
  · have a:¬decide (p.1≠k)=true:=by simp[e]
    have b:¬decide (q.1≠k)=true:=by simp[h1.symm.trans e]
    rw[if_neg a,if_neg b];exact ih
  · have e':¬q.1=k:=fun z=>e (h1.trans z)
    have a:decide (p.1≠k)=true:=by simp[e]
    have b:decide (q.1≠k)=true:=by simp[e']
    rw[if_pos a,if_pos b];exact .cons ⟨h1,h2⟩ ih
theorem KV.keys{kvs:List (κ×V)}{vs:List (κ×Value)}(r:KV kvs vs):kvs.map (·.1)=vs.map (·.1):=by
 unfold KV at r
 induction r with
 | nil=>rfl
 | cons h t ih=>rw[zdH,zdH,ih,h.1]
theorem KV.length{kvs:List (κ×V)}{vs:List (κ×Value)}(r:KV kvs vs):kvs.length=vs.length:=Paired.length r
end
theorem DT{P:Program}{w:World}{k:WB}{u:Value}(r:RelV (kV k) u):(VD P w).is k u=true:=by
 cases k with
 | inl i=>obtain⟨t,e⟩:=(show ∃t,u=Value.int i t from r);subst e;exact g6 P w i t
 | inr x=>obtain⟨t,e⟩:=(show ∃t,u=Value.str x t from r);subst e;exact i6 P w x t
theorem rW{P:Program}{w:World}:∀{ks:List WB}{us:List Value},Vals (ks.map kV) us->ItemsAre (VD P w) ks us
 | [],_,r=>by rw[zdI]at r;cases r;exact .nil
 | k::ks,_,r=>by
  rw[zdH]at r;cases r with
  | cons h t=>exact .cons (DT h) (rW t)
abbrev KT(H:Hp):List (List WB×V)->List (List WB×Addr×Value)->Prop:=Paired fun p q=>p.1=q.1/\H q.2.1=some (.tup (p.1.map kV))/\RelV p.2 q.2.2
theorem KT.val{H:Hp}{kvs:List (List WB×V)}{xs:List (List WB×Addr×Value)}(r:KT H kvs xs)(k:List WB):Qc (UE kvs k) ((atKey xs k).map (·.2)):=by
 induction r with
 | nil=>exact True.intro
 | @cons p q ps qs h t ih=>
  obtain⟨h1,_,h2⟩:=h;by_cases e:p.1=k
  · have e':q.1=k:=h1.symm.trans e;have b:atKey (q::qs) k=some q.2:=by simp[atKey,find?_cons,e']
    rw[IN e,b];exact h2
  · have e':¬q.1=k:=fun z=>e (h1.trans z)
    have b:atKey (q::qs) k=atKey qs k:=by simp[atKey,find?_cons,e']
    rw[HN e,b];exact ih
theorem KT.repl{H:Hp}{kvs:List (List WB×V)}{xs:List (List WB×Addr×Value)}(r:KT H kvs xs)(k:List WB){y:V}{u:Value}(ry:RelV y u) :
 KT H (kvs.map fun kv=>if kv.1=k then(kv.1,y)else kv) (xs.map (putAt k u)):=by
 induction r with
 | nil=>exact .nil
 | @cons p q ps qs h t ih=>
  rw[zdH,zdH];refine .cons ?_ ih;obtain⟨h1,h2,h3⟩:=h;unfold putAt;by_cases e:p.1=k
  · rw[if_pos e,if_pos (h1.symm.trans e)];exact⟨h1,h2,ry⟩
  · rw[if_neg e,if_neg (fun z=>e (h1.trans z))];exact⟨h1,h2,h3⟩
theorem KT.put{H:Hp}{kvs:List (List WB×V)}{xs:List (List WB×Addr×Value)}(r:KT H kvs xs)(k:List WB){b:Addr}{y:V}{u:Value}(hb:H b=some (.tup (k.map kV)))(ry:RelV y u) :
 KT H (eF kvs k y) (storedH xs k b u):=by
 have e:(kvs.any fun kv=>decide (kv.1=k))=(atKey xs k).isSome:=by rw[NW,(r.val k).Wm,Option.isSome_map]
 unfold eF storedH;rw[e];by_cases q:(atKey xs k).isSome=true
 · rw[if_pos q,if_pos q];exact r.repl k ry
 · rw[if_neg q,if_neg q];exact Paired.snoc r ⟨rfl,hb,ry⟩
theorem KT.keeps{H H':Hp}{kvs:List (List WB×V)}{xs:List (List WB×Addr×Value)}(r:KT H kvs xs)(ht:∀b ys,H b=some (.tup ys)->H' b=some (.tup ys)):KT H' kvs xs:=
 Paired.zat r fun _ _ z=>⟨z.1,ht _ _ z.2.1,z.2.2⟩
section
variable{P:Program}{w:World}{H:Hp}{h:Heap}{a:Addr}
theorem aZ{u:HO}(ok:Zc P w H h)(e:Rd H a u):Nf P w H h a u:=e.ok ok
theorem UT{kvs:List (WB×V)}(ok:Zc P w H h)(e:Rd H a (.dK kvs)):kvs.length<=sizeLine/\(a==sysModules)=false/\∃vs,KV kvs vs/\h.DictOf (VD P w) a vs:=
 show Nf P w H h a (.dK kvs)from aZ ok e
theorem Zy{kvs:List (WB×V)}(ok:Zc P w H h)(e:H a=some (.dK kvs)):kvs.length<=sizeLine/\(a==sysModules)=false/\∃vs,KV kvs vs/\h.DictOf (VD P w) a vs:=UT ok (.inl e)
theorem iT{ks:List WB}(ok:Zc P w H h)(e:H a=some (.tup (ks.map kV))):(tupleKind (VD P w)).is h ks a:=by obtain⟨_,its,r,o,h1,h2,n,h3⟩:=(show Nf P w H h a (.tup (ks.map kV))from ok a _ e);exact⟨o,its.toArray,n,h1,h2,h3,by simpa using rW r⟩
theorem VT{kvs:List (List WB×V)}(ok:Zc P w H h)(e:Rd H a (.dT kvs)):kvs.length<=sizeLine/\(a==sysModules)=false/\
 ∃xs,KT H kvs xs/\h.DictOfH (tupleKind (VD P w)) a xs:=by
 obtain⟨z,y,xs,r,o,es,ep,h1,h2,h3,h4,h5⟩:=(show Nf P w H h a (.dT kvs)from aZ ok e);refine⟨z,y,xs,r,o,es,ep,h1,h2,h3,h4,fun x hx=>?_,h5⟩;have all:∀{l:List (List WB×V)}{m:List (List WB×Addr×Value)},KT H l m->∀x∈m,(tupleKind (VD P w)).is h x.1 x.2.1:=by
  intro l m q
  induction q with
  | nil=>intro x hx;exact nomatch hx
  | @cons p q ps qs hq t ih=>
   intro x hx;rcases mem_cons.mp hx with e | hx
   · subst e;exact iT ok (by rw[<- hq.1];exact hq.2.1)
   · exact ih x hx
 exact all r x hx
theorem cg{kvs:List (List WB×V)}(ok:Zc P w H h)(e:H a=some (.dT kvs)):kvs.length<=sizeLine/\(a==sysModules)=false/\
 ∃xs,KT H kvs xs/\h.DictOfH (tupleKind (VD P w)) a xs:=VT ok (.inl e)
end
def Dl(H:Hp)(a:Addr)(y:V)(r:Option V):Prop:=
 (∃kvs k,Rd H a (.dK kvs)/\y=kV k/\r=UE kvs k)\/∃kvs k b,Rd H a (.dT kvs)/\y=.ref b/\H b=some (.tup (k.map kV))/\r=UE kvs k
def El(H:Hp)(a:Addr)(y v:V)(H':Hp):Prop:=
 (∃kvs k,H a=some (.dK kvs)/\y=kV k/\kvs.length<sizeLine/\H'=yB H a (.dK (eF kvs k v)))\/
 ∃kvs k b,H a=some (.dT kvs)/\y=.ref b/\H b=some (.tup (k.map kV))/\kvs.length<sizeLine/\H'=yB H a (.dT (eF kvs k v))
theorem Dl.t{H:Hp}{a b:Addr}{kvs:List (List WB×V)}{k:List WB}(e:H a=some (.dT kvs))(eb:H b=some (.tup (k.map kV))):Dl H a (.ref b) (UE kvs k):=.inr ⟨kvs,k,b,.inl e,rfl,eb,rfl⟩
theorem El.t{H:Hp}{a b:Addr}{kvs:List (List WB×V)}{k:List WB}{v:V}(e:H a=some (.dT kvs))(eb:H b=some (.tup (k.map kV)))(hl:kvs.length<sizeLine) :
 El H a (.ref b) v (yB H a (.dT (eF kvs k v))):=.inr ⟨kvs,k,b,e,rfl,eb,hl,rfl⟩
section
variable{X:Cx}{pins:List (Addr×Obj)}{σ:St}{H:Hp}{s:Shared}{a:Addr}{y v:V}{u r:Value}{o:Option V}{A:Around}{E:Value->Shared->Prop}
theorem Inv.big(I:Inv X pins σ H s):sysModules<s.heap.objs.size:=by have h:mainGlobals<s.heap.objs.size:=(I.mod.glob.keeps I.bk).lt;exact Nat.lt_trans (by decide) h
theorem oS{h':Heap}{t':Nat}{ob:HO}(I:Inv X pins σ H s)(mu:nU (H a))(hs:Heap.SameBut a s.heap h')(he:∃q,h'.get? a=some q)(new:Nf X.prog X.w (yB H a ob) h' a ob) :
 Inv X pins σ (yB H a ob) { s with heap:=h',toks:=t' }:=
 I.write (x:=a) (e:=a) mu (.inl rfl) (fun b q hb z=>(hs.2 b hb).trans z) he new
theorem wz{P:Program}{w:World}{H':Hp}{h':Heap}{kvs:List (WB×V)}{vs:List (WB×Value)}(z:kvs.length<=sizeLine)(hd:(a==sysModules)=false)(rel:KV kvs vs)(dd:h'.DictOf (VD P w) a vs) :
 Nf P w H' h' a (.dK kvs):=⟨z,hd,vs,rel,dd⟩
theorem C7{H':Hp}{Q:Unit->Shared->Prop}(hu:A.units+1<cLine)(I:Inv X pins σ H s)(g:El H a y v H')(ry:RelV y u)(rv:RelV v r)(h:∀s',Inv X pins σ H' s'->Q () s') :
 wpAny (model X.prog X.w) A (setItem (.ref a) u r) Q E s:=by
 rcases g with⟨kvs,k,e,ey,l,eH⟩ | ⟨kvs,k,b,e,ey,eb,l,eH⟩
 · subst ey eH;obtain⟨z,hd,vs,rel,dd⟩:=Zy I.hok e;have hz:vs.length<=sizeLine:=by rw[<- rel.length];exact z
   have hl:(eF kvs k v).length<=sizeLine:=by have:=hV kvs k v;omega
   refine wpAny_setItem_pairs (hsz:=hz) (DT ry) dd fun h' dd' hs=>h _ ?_
   have he:∃q,h'.get? a=some q:=let ⟨q,_,_,hq,_⟩:=dd';⟨q,hq⟩
   exact oS I (by rw[e];exact True.intro) hs he (wz hl hd (rel.put k rv) dd')
 · subst ey eH;cases (show u=Value.ref b from ry);obtain⟨z,hd,xs,rel,dd⟩:=cg I.hok e;have hz:xs.length<=sizeLine:=by rw[<- Paired.length rel];exact z
   have hl:(eF kvs k v).length<=sizeLine:=by have:=hV kvs k v;omega
   refine wpAny_setItem_heap (hsz:=hz) (tupleKind_room_in1 hu) (iT I.hok eb) dd fun h' dd' hs=>h _ ?_
   obtain⟨q,es,ep,hq,h2,h3,h4,_,h5⟩:=dd';refine oS I (by rw[e];exact True.intro) hs ⟨q,hq⟩ ⟨hl,hd,_,(rel.put k eb rv).keeps fun c ys ec=>?_,q,es,ep,hq,h2,h3,h4,h5⟩;rw[NA (JT ec e (fun z=>nomatch z))];exact ec
end
section
variable{X:Cx}{pins:List (Addr×Obj)}{σ:St}{H:Hp}{s:Shared}{a:Addr}{kvs:List (WB×V)}{k:WB}{u:Value}{A:Around}{E:Value->Shared->Prop}
end
def Q1(td ty tv:TE):TS:=fun D σ H=>tv σ H fun v H1=>td σ H1 fun x H2=>ty σ H2 fun y H3=>∃a H4,x=.ref a/\El H3 a y v H4/\D.nx σ H4
section
variable{X:Cx}{o i e value:Expr}{pos pos' tpos:Pos}{td ty tv:TE}
theorem bw(hu:X.A.units+1<cLine)(ho:PE X o td)(hi:PE X i ty)(hv:PE X value tv)(hs:swapsWith value (some (.Subscript o i pos')) pos.line X.env=pure false) :
 PS X (.Assign [.Subscript o i pos'] value pos) (Q1 td ty tv):=by
 intro pins s σ H D I h;refine wpAny_Assign_Subscript (gB (hv pins s σ H _ I h) fun r s1 ⟨v,H1,I1,rv,q1⟩=>gB (ho pins s1 σ H1 _ I1 q1) fun u s2 ⟨x,H2,I2,rx,q2⟩=>gB (hi pins s2 σ H2 _ I2 q2) fun iv s3 zz=>?_) hs;obtain⟨y,H3,I3,ry,a,H4,ex,g,q3⟩:=zz;subst ex;obtain rfl:u=Value.ref a:=rx;exact C7 hu I3 g ry rv fun s4 I4=>⟨σ,H4,I4,q3⟩
end
theorem p9 {P:Program} {w:World} {H:Hp} (h:Heap) (hb:sysModules<h.objs.size):Nf P w H (h.push { cls:=.type "dict",data:=.dict #[] }) h.objs.size (.dT []):=
 ⟨Nat.zero_le _,beq_eq_false_iff_ne.mpr (Ne.symm (Nat.ne_of_lt hb)),[],.nil,_,#[],0,Heap.get?_push_size _ rfl,⟨rfl,rfl,rfl⟩,rfl,rfl,nodup_nil⟩
def Wg:TE:=fun _ H Q=>∀p,H p=none->Q (.ref p) (yB H p (.dT []))
section
variable{X:Cx}{pos:Pos}
theorem Jj:PE X (.Dict [] [] pos) Wg:=fun pins s σ H Q I h=>wpAny_Dict_empty ⟨.ref s.heap.objs.size,_,I.laid (a:=s.heap.objs.size) (o:=.dT []) (t':=s.toks) (fun _ _ q=>Heap.get?_push_of_some _ q) (zdS _) (p9 s.heap I.big),rfl,h _ (I.hok.fresh (zdS _))⟩
end
structure M1(X:Cx)(o:Expr)(m:Str)(apos:Pos)(e:Expr)(cpos:Pos):Prop where
 base:attributeBase o m X.env (eval o X.env)=eval o X.env
 few:((backTo cpos (starEach [e] X.env)).all (fun x=>!x.1)&&(backToKw cpos (keywordEach [] X.env)).all (fun x=>x.1.isSome)
  && decide (([e]:List Expr).length+([]:List Keyword).length+(if([]:List Keyword).isEmpty then 0 else 1)<30))=true
 line:(apos.endLine==cpos.line)=true
 trees:backTo cpos (starEach [e] X.env)=[(false,eval e X.env)]
structure M2(X:Cx)(o:Expr)(m:Str)(apos:Pos)(e f:Expr)(cpos:Pos):Prop where
 base:attributeBase o m X.env (eval o X.env)=eval o X.env
 few:((backTo cpos (starEach [e,f] X.env)).all (fun x=>!x.1)&&(backToKw cpos (keywordEach [] X.env)).all (fun x=>x.1.isSome)
  && decide (([e,f]:List Expr).length+([]:List Keyword).length+(if([]:List Keyword).isEmpty then 0 else 1)<30))=true
 line:(apos.endLine==cpos.line)=true
 trees:backTo cpos (starEach [e,f] X.env)=[(false,eval e X.env),(false,eval f X.env)]
def MZ(H:Hp)(a:Addr):Prop:=(∃kvs,Rd H a (.dK kvs))\/∃kvs,Rd H a (.dT kvs)
theorem TY{X:Cx}{pins:List (Addr×Obj)}{σ:St}{H:Hp}{s:Shared}{a:Addr}(I:Inv X pins σ H s)(d:MZ H a) :
 s.TypeIs (.ref a) "dict" /\ (∀b,Value.ref a=.ref b->∃ob,s.heap.get? b=some ob/\ob.dict=none)/\(a==sysModules)=false:=by
 rcases d with⟨kvs,e⟩ | ⟨kvs,e⟩
 · obtain⟨_,hd,vs,_,dd⟩:=UT I.hok e;refine⟨dd.typeIs,fun b q=>?_,hd⟩;cases q;obtain⟨ob,_,_,h1,h2,_⟩:=dd;exact⟨ob,h1,h2.2.1⟩
 · obtain⟨_,hd,xs,_,dd⟩:=VT I.hok e;refine⟨dd.typeIs,fun b q=>?_,hd⟩;cases q;obtain⟨ob,_,_,h1,h2,_⟩:=dd;exact⟨ob,h1,h2.2.1⟩
section
variable{X:Cx}{pins:List (Addr×Obj)}{σ:St}{H:Hp}{s:Shared}{a:Addr}{y d:V}{u r:Value}{o:Option V}{A:Around}{E:Value->Shared->Prop}
theorem uz{Q:Value->Shared->Prop}(hu:A.units+1<cLine)(I:Inv X pins σ H s)(g:Dl H a y o)(ry:RelV y u)(rd:RelV d r)(h:∀w' s',Inv X pins σ H s'->RelV (o.getD d) w'->Q w' s') :
 wpAny (model X.prog X.w) A (call (.builtin "dict.get") [.ref a,u,r]) Q E s:=by
 rcases g with⟨kvs,k,e,ey,l⟩ | ⟨kvs,k,b,e,ey,eb,l⟩
 · subst ey;obtain⟨z,hd,vs,rel,dd⟩:=UT I.hok e;refine call_meetsIn PySem.F.slot_dict_get dd.typeIs PySem.F.entry_dict_get (PySem.F.args_dict_get_3 _ _ _) (meets_dict_get_default (VD X.prog X.w) a (DT ry) hd r) ⟨_,dd.mapOf,h _ _ (I.tok _) ?_⟩;rw[l];exact(rel.val k).getD rd
 · subst ey;cases (show u=Value.ref b from ry);obtain⟨z,hd,xs,rel,dd⟩:=VT I.hok e;refine call_meetsIn PySem.F.slot_dict_get dd.typeIs PySem.F.entry_dict_get (PySem.F.args_dict_get_3 _ _ _) (meetsH_dict_get_default (tupleKind (VD X.prog X.w)) a b hd r) ⟨tupleKind_room_in1 hu,k,xs,iT I.hok eb,dd,h _ _ (I.tok _) ?_⟩;rw[l];exact(rel.val k).getD rd
end
def Vg(td ty tx:TE):TE:=fun σ H Q=>td σ H fun x H1=>∃a,x=.ref a/\MZ H1 a/\ty σ H1 fun y H2=>tx σ H2 fun z H3=>∃o,Dl H3 a y o/\Q (o.getD z) H3
section
variable{X:Cx}{o e f:Expr}{apos cpos:Pos}{td ty tx:TE}
theorem Ij (hu:X.A.units+1<cLine) (ho:PE X o td) (he:PE X e ty) (hf:PE X f tx) (m:M2 X o "get" apos e f cpos):PE X (.Call (.Attribute o "get" apos) [e,f] [] cpos) (Vg td ty tx):=by
 intro pins s σ H Q I h;refine wpAny_Call_method m.base m.few m.line PySem.F.plainAttrs_dict PySem.F.slot_dict_get PySem.F.type_dict_get (gB (ho pins s σ H _ I h) fun u s1 zz=>?_);obtain⟨x,H1,I1,rx,a,ex,d,q1⟩:=zz;subst ex;obtain rfl:u=Value.ref a:=rx;obtain⟨t1,t2,_⟩:=TY I1 d;refine⟨t1,t2,?_⟩;rw[m.trees];refine Calls.callWith_builtin rfl (Calls.evalArgs_plain (Calls.spliced_cons (gB (he pins s1 σ H1 _ I1 q1) fun iv s2 ⟨y,H2,I2,ry,q2⟩=>
  Calls.spliced_cons (gB (hf pins s2 σ H2 _ I2 q2) fun fv s3 ⟨z,H3,I3,rz,ov,g,q3⟩=>Calls.spliced_nil ?_))))
 exact uz hu I3 g ry rz fun w' s4 I4 rw'=>⟨_,H3,I4,rw',q3⟩
end
section
variable{X:Cx}{pins:List (Addr×Obj)}{σ:St}{H:Hp}{s:Shared}{a:Addr}{kvs:List (WB×V)}{A:Around}{E:Value->Shared->Prop}
end
section
variable{X:Cx}{pins:List (Addr×Obj)}{σ:St}{H:Hp}{s:Shared}{a:Addr}{y:V}{u:Value}{A:Around}{E:Value->Shared->Prop}
end
section
variable{prog:Program}{w:World}{A:Around}{E:Value->Shared->Prop}{s:Shared}
theorem vN {it:Addr} {R:String->Shared->Prop} (tt:s.TypeIs (.ref it) "dict_itemiterator") (q:R "dict_itemiterator" s) :
 wpAny (model prog w) A (typeNameOfWhole (.ref it)) R E s:=wpAny_typeNameOfWhole_itemiter tt q
theorem W8{d:Addr}{es:Array DictEntry}{ep:Nat}{od:Obj}{v:Addr}{R:Value->Shared->Prop}(gv:s.heap.IsItemsView v d)(gd:s.heap.get? d=some od)(gt:od.data=.dict es ep)
 (q:R (.ref s.heap.objs.size) { s with heap:=s.heap.push { cls:=.type "dict_itemiterator",data:=.fields #[.none,.bool false,.ref d,.int 0 0,.int es.size 0,.int ep 0,.none,.none] } }) :
 wpAny (model prog w) A (pyIter (.ref v)) R E s:=by
 obtain⟨o1,g1,g2,g3⟩:=id gv;refine wpAny_pyIter_slot gv.typeIs F.slot_dict_items_iter (wpAny_call_entry F.slot_dict_items_iter gv.typeIs F.entry_dict_items_iter ?c1 (F.args_dict_items_iter_1 _));unfold Builtin.«dict_items.__iter__»;refine wpAny_bind (wpAny_pure (wpAny_bind ?c2));unfold Builtin.Dict_items.dictOf;refine wpAny_bind (wpAny_field g1 g3 (x:=.ref d) rfl (wpAny_pure (wpAny_bind ?c3)));unfold Builtin.Dict_items.newIterator;refine wpAny_bind (wpAny_dictEntries gd gt (wpAny_bind (wpAny_dictEpoch gd gt ?c4)));have own1:Builtin.Dict_items.ownsTuple "dict_itemiterator" =true:=by decide
 simp only[own1,if_true];refine wpAny_newObj_type (wpAny_pure ⟨_,rfl, "dict_itemiterator",_,⟨_,Heap.get?_push_size _ rfl,rfl⟩,F.slot_dict_itemiterator_next.lookup,?c5⟩) ?c6
 · simpa[rawInt,Builtin.Dict_items.ownedTupleFields]using q
 · simp only[sizeOk,Builtin.Dict_items.ownedTupleFields,size_toArray,length_append,zdF,zdG,sizeLine_eq];omega
theorem L9{it d:Addr}{i ep:Nat}{es:Array DictEntry}{od:Obj}{k0 v0:Value}{R:Option Value->Shared->Prop}
 (gi:IsItemIter s.heap it d i es.size ep k0 v0) (gd:s.heap.get? d=some od) (gt:od.data=.dict es ep) (lt:i<es.size)
 (fin:∀h',IsItemIterOut h' it d (i+1) es.size ep es[i].key es[i].val s.heap.objs.size->
  h'.get? s.heap.objs.size=some { cls:=.type "tuple",data:=.seq #[es[i].key,es[i].val] }->h'.objs.size=s.heap.objs.size+1->
  (∀b o,b≠it->s.heap.get? b=some o->h'.get? b=some o)->R (some (.ref s.heap.objs.size)) { s with heap:=h' }) :
 wpAny (model prog w) A (pyNext (.ref it)) R E s:=by
 obtain⟨G,gg,dr,tk,os⟩:=s;have tt:Shared.TypeIs ⟨G,gg,dr,tk,os⟩ (.ref it) "dict_itemiterator" :=⟨_,gi,rfl⟩;unfold pyNext;refine wpAny_bind (wpAny_attempt (wpAny_callSpecial?_slot (name:=Str.ofString "__next__") tt F.slot_dict_itemiterator_next (wpAny_call_entry F.slot_dict_itemiterator_next tt F.entry_dict_itemiterator_next ?c1 (F.args_dict_itemiterator_next_1 _))));refine wpAny_bind (wpAny_pure (wpAny_bind (wpAny_bind ?c2)))
 first | refine wpAny_bind (vN tt (wpAny_pure ?c3)) | refine wpAny_bind (wpAny_typeNameOf_itemiter tt (wpAny_pure ?c3))
 refine wpAny_bind (wpAny_fieldsOf gi rfl ?c4);have own1:Builtin.Dict_items.ownsTuple "dict_itemiterator" =true:=by decide
 simp only[own1,if_true];show wpAny _ _ (if(Value.ref d==Value.none)=true then _ else _) _ _ _;rw[if_neg (show ¬((Value.ref d==Value.none)=true)from fun z=>zdR z)];refine wpAny_bind (wpAny_pure (wpAny_bind (wpAny_dictEntries gd gt ?c5)));rw[if_neg (by simp)];refine wpAny_bind (wpAny_pure (wpAny_bind (wpAny_dictEpoch gd gt ?c6)));rw[if_neg (by simp)];refine wpAny_pure ?c7;simp only[show ¬((i:Int)<0)from by omega,if_false,Int.toNat_natCast,Array.getElem?_eq_getElem lt];refine wpAny_bind ?c8
 first | refine wpAny_bind (vN tt (wpAny_pure ?c9)) | refine wpAny_bind (wpAny_typeNameOf_itemiter tt (wpAny_pure ?c9))
 refine wpAny_bind (wpAny_isOneOf_itemiter tt ?c10);show wpAny _ _ (setField (.ref it) 3 (rawInt ((i:Int)+1)) >>=_) _ _ ⟨G,gg,dr,tk,os⟩;refine wpAny_bind (wpAny_setField_rec gi (by simp) fun G1 f1 b1=>?c11)
 replace b1:Heap.SameBut it G G1:=b1
 replace f1:IsItemIter G1 it d (i+1) es.size ep k0 v0:=by
  have z:((i+1:Nat):Int)=(i:Int)+1:=by omega
  unfold IsItemIter;rw[z];simpa[rawInt]using f1
 have tt1:Shared.TypeIs ⟨G1,gg,dr,tk,os⟩ (.ref it) "dict_itemiterator" :=⟨_,f1,rfl⟩;refine wpAny_bind (wpAny_holding (wpAny_bind (wpAny_isOneOf_itemiter tt1 (wpAny_bind (wpAny_isOneOf_itemiter tt1 ?c12)))));show wpAny _ _ (Builtin.Dict_items.pairFromOwner (.ref it) 6 es[i].key es[i].val) _ _ ⟨G1,gg,dr,tk,os⟩;unfold Builtin.Dict_items.pairFromOwner;refine wpAny_bind (wpAny_newTuple ?c13);have f2:IsItemIter (G1.push { cls:=.type "tuple",data:=.seq #[es[i].key,es[i].val] }) it d (i+1) es.size ep k0 v0:=Heap.get?_push_of_some _ f1;generalize eG:G1.push { cls:=.type "tuple",data:=.seq #[es[i].key,es[i].val] }=G2 at f2;have z1:G1.objs.size=G.objs.size:=b1.1;have il:it<G.objs.size:=Heap.lt_size gi;have t2:G2.get? G.objs.size=some { cls:=.type "tuple",data:=.seq #[es[i].key,es[i].val] }:=by rw[<- eG,<- z1];exact Heap.get?_push_size _ rfl
 have z2:G2.objs.size=G.objs.size+1:=by rw[<- eG,Heap.size_push,z1]
 have k2:∀b o,b≠it->G.get? b=some o->G2.get? b=some o:=fun b o nb e=>by rw[<- eG];exact Heap.get?_push_of_some _ (b1.extBut b o nb e)
 show wpAny _ _ (Builtin.Dict_items.ownedTupleIsFree (.ref it) >>=_) _ _ ⟨G2,gg,dr,tk,os⟩;rw[z1];clear eG f1 b1 tt1 z1 G1;refine wpAny_bind ?c14;unfold Builtin.Dict_items.ownedTupleIsFree;refine wpAny_bind (wpAny_field f2 rfl (x:=.none) rfl (wpAny_pure ?c15));simp only[if_true];refine wpAny_bind (wpAny_field f2 rfl (x:=k0) rfl (wpAny_bind (wpAny_field f2 rfl (x:=v0) rfl ?c16)));refine wpAny_bind (wpAny_setField_rec f2 (by simp) fun G3 f3 b3=>?c17)
 replace b3:Heap.SameBut it G2 G3:=b3
 replace f3:IsItemIter G3 it d (i+1) es.size ep es[i].key v0:=f3
 refine wpAny_bind (wpAny_setField_rec f3 (by simp) fun G4 f4 b4=>?c18)
 replace b4:Heap.SameBut it G3 G4:=b4
 replace f4:IsItemIter G4 it d (i+1) es.size ep es[i].key es[i].val:=f4
 refine wpAny_bind (wpAny_setField_rec f4 (by simp) fun G5 f5 b5=>?c19)
 replace b5:Heap.SameBut it G4 G5:=b5
 replace f5:IsItemIterOut G5 it d (i+1) es.size ep es[i].key es[i].val G.objs.size:=f5
 refine wpAny_bind (wpAny_setField_rec f5 (by simp) fun G6 f6 b6=>?c20)
 replace b6:Heap.SameBut it G5 G6:=b6
 replace f6:IsItemIterOut G6 it d (i+1) es.size ep es[i].key es[i].val G.objs.size:=f6
 have kk:∀b o,b≠it->G2.get? b=some o->G6.get? b=some o:=fun b o nb e=>b6.extBut b o nb (b5.extBut b o nb (b4.extBut b o nb (b3.extBut b o nb e)))
 refine wpAny_bind (wpAny_letGo (wpAny_pure (wpAny_pure ⟨_,rfl,wpAny_pure (fin G6 f6 (kk _ _ (Nat.ne_of_gt il) t2) ?c21 fun b o nb e=>kk b o nb (k2 b o nb e))⟩)));show G6.objs.size=G.objs.size+1;rw[b6.1,b5.1,b4.1,b3.1,z2]
theorem Yq{it d:Addr}{i ep:Nat}{es:Array DictEntry}{od:Obj}{k0 v0:Value}{R:Option Value->Shared->Prop}(hn:A.handled=none)
 (gi:IsItemIter s.heap it d i es.size ep k0 v0) (gd:s.heap.get? d=some od) (gt:od.data=.dict es ep) (ge:es.size<=i)
 (fin:∀h',Heap.ExtBut it s.heap h'->R none { s with heap:=h' }):wpAny (model prog w) A (pyNext (.ref it)) R E s:=by
 have tt:s.TypeIs (.ref it) "dict_itemiterator" :=⟨_,gi,rfl⟩;unfold pyNext;refine wpAny_bind (wpAny_attempt (wpAny_callSpecial?_slot (name:=Str.ofString "__next__") tt F.slot_dict_itemiterator_next (wpAny_call_entry F.slot_dict_itemiterator_next tt F.entry_dict_itemiterator_next ?c1 (F.args_dict_itemiterator_next_1 _))));refine wpAny_bind (wpAny_pure (wpAny_bind (wpAny_bind ?c2)))
 first | refine wpAny_bind (vN tt (wpAny_pure ?c3)) | refine wpAny_bind (wpAny_typeNameOf_itemiter tt (wpAny_pure ?c3))
 refine wpAny_bind (wpAny_fieldsOf gi rfl ?c4);have own1:Builtin.Dict_items.ownsTuple "dict_itemiterator" =true:=by decide
 simp only[own1,if_true];show wpAny _ _ (if(Value.ref d==Value.none)=true then _ else _) _ _ _;rw[if_neg (show ¬((Value.ref d==Value.none)=true)from fun z=>zdR z)];refine wpAny_bind (wpAny_pure (wpAny_bind (wpAny_dictEntries gd gt ?c5)));rw[if_neg (by simp)];refine wpAny_bind (wpAny_pure (wpAny_bind (wpAny_dictEpoch gd gt ?c6)));rw[if_neg (by simp)];refine wpAny_pure ?c7;simp only[show ¬((i:Int)<0)from by omega,if_false,Int.toNat_natCast,Array.getElem?_eq_none ge];refine wpAny_bind ?c8
 first | refine wpAny_bind (vN tt (wpAny_pure ?c9)) | refine wpAny_bind (wpAny_typeNameOf_itemiter tt (wpAny_pure ?c9))
 show wpAny _ _ (setField (.ref it) 2 .none >>=_) _ _ _;refine wpAny_bind (wpAny_setField gi rfl (by simp) ?c10);show wpAny _ _ (newExc (.type "StopIteration") [] >>=_) _ _ _;refine wpAny_bind ?c11;simp only[newExc,newTuple];refine wpAny_bind (wpAny_newObj_type (wpAny_bind (m:=firstArgMember _ _) (wpAny_of_eq (a:=Value.none) (by first | rfl | (simp only[firstArgMember];rfl)) ?c12)) (by size_fits));refine wpAny_newObj_type ?c13 (by size_fits);simp only[raiseNew];refine wpAny_bind (wpAny_handled ?c14);rw[show A.in1.handled=none from hn];refine wpAny_bind (wpAny_pure (wpAny_throw ?c15));refine wpAny_bind (wpAny_isInstance (T := "StopIteration") (b:=true) ⟨_,Heap.get?_push_size _ rfl,rfl⟩ isSubtype_stop (wpAny_pure ?c16));exact fin _ (((Heap.SameBut.update ..).extBut.push _).push _)
theorem K9 {d:Addr} {R:Value->Shared->Prop} (tt:s.TypeIs (.ref d) "dict") (nm:(d==sysModules)=false)
 (q:R (.ref s.heap.objs.size) { s with heap:=s.heap.push { cls:=.type "dict_items",data:=.fields #[.ref d] } }):wpAny (model prog w) A (call (.builtin "dict.items") [.ref d]) R E s:=by
 have m:MeetsIn prog w (Builtin.«dict.items» ⟨[.ref d],[]⟩) (fun _ R s=>s.TypeIs (.ref d) "dict" /\ R (.ok (.ret (.ref s.heap.objs.size))) { s with heap:=s.heap.push { cls:=.type "dict_items",data:=.fields #[.ref d] } }):=
  .of_wp fun A R s zz=>by obtain⟨t1,r1⟩:=zz;unfold Builtin.«dict.items»;refine wpAny_bind ?c1;unfold Builtin.Dict.noArgs;refine wpAny_bind (wpAny_notOrdered_dict t1 ?c2);show wpAny _ _ (pure d) _ _ s;refine wpAny_pure ?c3;show wpAny _ _ (Builtin.Dict.showsAll d >>=_) _ _ s;unfold Builtin.Dict.showsAll;rw[if_neg (by rw[nm];exact zdR)];exact wpAny_bind (wpAny_pure (wpAny_bind (wpAny_newObj_type (wpAny_pure ⟨_,rfl,r1⟩))))
 exact call_meetsIn PySem.F.slot_dict_items tt PySem.F.entry_dict_items (PySem.F.args_dict_items_1 _) m ⟨tt,q⟩
theorem Z3:entryFor table "dict_itemiterator.__iter__" =some Builtin.«dict_keyiterator.__iter__»:=entryFor_alias (id' := "dict_keyiterator.__iter__") (by kernel_rfl) rfl (by decide +kernel) (by kernel_rfl)
theorem V8{it d:Addr}{i n ep:Nat}{k0 v0:Value}{R:Value->Shared->Prop}(gi:IsItemIter s.heap it d i n ep k0 v0)(q:R (.ref it) s):wpAny (model prog w) A (pyIter (.ref it)) R E s:=by have tt:s.TypeIs (.ref it) "dict_itemiterator" :=⟨_,gi,rfl⟩;refine wpAny_pyIter_slot tt F.slot_dict_itemiterator_iter (wpAny_call_entry F.slot_dict_itemiterator_iter tt Z3 ?c1 (F.args_dict_itemiterator_iter_1 _));show wpAny _ _ (ret (.ref it)) _ _ s;exact wpAny_pure ⟨_,rfl, "dict_itemiterator",_,tt,F.slot_dict_itemiterator_next.lookup,q⟩
end
theorem Paired.Ac{α β:Type}{F:α->β->Prop}:∀{xs:List α}{ys:List β}{i:Nat}{x:α},Paired F xs ys->xs[i]?=some x->∃y,ys[i]?=some y/\F x y
 | _,_,i,x,.nil,e=>by simp at e
 | _,_,0,x,.cons r t,e=>by simp at e;subst e;exact⟨_,rfl,r⟩
 | _,_,i+1,x,.cons r t,e=>by obtain⟨y,e1,e2⟩:=Paired.Ac t (i:=i) (x:=x) (by simpa using e);exact⟨y,by simpa using e1,e2⟩
def lU(a:Addr)(o:Obj):It:=
 ⟨fun i H=>∃kvs p,H a=some (.Jb o (.dT kvs))/\kvs[i]?=some p,
  fun i H x H'=>∃q kb p,H q=none/\x=.ref q/\H kb=some (.tup (p.1.map kV))/\(∀kvs,H a=some (.Jb o (.dT kvs))->kvs[i]?=some p)/\H'=yB H q (.tup [.ref kb,p.2]),
  fun i H=>∃kvs,H a=some (.Jb o (.dT kvs))/\kvs.length<=i⟩
theorem Aj{P:Program}{w:World}{K:Frag}{elts:List Expr}{x1}{pos:Pos}(a it:Addr){o:Obj}{es:Array DictEntry}{ep:Nat}(gt:o.data=.dict es ep) :
 BH P w K (.Tuple elts x1 pos) (lU a o) [it] it (fun i h=>∃k0 v0,IsItemIter h it a i es.size ep k0 v0) where
 mem:=by simp
 obj:=fun i h zz c hc=>by obtain⟨k0,v0,st⟩:=zz;rw[mem_singleton.mp hc];exact⟨_,st,fun v z=>by cases z⟩
 keep:=fun i h h' ⟨k0,v0,st⟩ k=>⟨k0,v0,k it (by simp) _ st⟩
 item:=by
  intro X hP hw hK hc i pins s σ H E I hf st hg;subst hP hw hK;obtain⟨k0,v0,gi⟩:=st;obtain⟨kvs,p,e,hp⟩:=hg;obtain⟨go,z,y,xs,r,ob,es',ep',h1,h2,h3,h4,h5⟩:=(show Nf X.prog X.w H s.heap a (.Jb o (.dT kvs))from I.hok a _ e);rw[go]at h1;cases h1;rw[gt]at h3;cases h3;obtain⟨q,hq,f1,f2,f3⟩:=Paired.Ac r hp;have e0:es.toList[i]?=some (entryOfKey (tupleKind (VD X.prog X.w)) q):=by rw[h4,getElem?_map,hq];rfl
  have hlt:i<es.size:=by have:=(zdP e0).1;simpa using this
  have ei:es[i]=entryOfKey (tupleKind (VD X.prog X.w)) q:=by rw[Array.getElem?_toList,Array.getElem?_eq_getElem hlt]at e0;exact Option.some.inj e0
  refine L9 gi go gt hlt fun h' z1 tp sz kp=>⟨_,rfl,wpAny_letOwnedTupleGo_items z1 fun h2 he2 sb=>?_⟩
  have hne:s.heap.objs.size≠it:=Nat.ne_of_gt (Heap.lt_size gi);have t2:h2.get? s.heap.objs.size=some { cls:=.type "tuple",data:=.seq #[.ref q.2.1,q.2.2] }:=by rw[sb.2 _ hne,tp,ei];rfl
  have kk:∀c u,c ∉ [it]->s.heap.get? c=some u->h2.get? c=some u:=fun c u hc g=>by
   have hc':c≠it:=fun z=>hc (by rw[z];simp)
   exact(sb.2 c hc').trans (kp c u hc' g)
  refine⟨.ref s.heap.objs.size,yB H s.heap.objs.size (.tup [.ref q.2.1,p.2]),I.zaJ kk hf (zdS _) ⟨by simp only[zdF,zdG];rw[sizeLine_eq];decide,[.ref q.2.1,q.2.2],.cons rfl (.cons f3 .nil),⟨_,t2,rfl,_,rfl⟩⟩,rfl,
   ⟨_,q.2.1,p,I.hok.fresh (zdS _),rfl,f2,fun kvs' e'=>by rw[e]at e';cases e';exact hp,rfl⟩,⟨_,_,he2⟩,fun c hc=>?_⟩
  rw[mem_singleton.mp hc,NA (Ne.symm hne)];exact(hf it (by simp)).1
 done:=by
  intro X hP hw hK hc i pins s σ H E I hf st hg;subst hP hw hK;obtain⟨k0,v0,gi⟩:=st;obtain⟨kvs,e,hp⟩:=hg;obtain⟨go,z,y,xs,r,ob,es',ep',h1,h2,h3,h4,h5⟩:=(show Nf X.prog X.w H s.heap a (.Jb o (.dT kvs))from I.hok a _ e);rw[go]at h1;cases h1;rw[gt]at h3;cases h3;have hs:es.size=kvs.length:=by rw[<- Array.length_toList,h4,length_map,<- Paired.length r]
  refine Yq (I.ok.hd hc) gi go gt (by omega) fun h' eb=>⟨rfl,I.Qp (t':=s.toks) (fp:=[it]) (fun c u hc q=>eb c u (fun z=>hc (by rw[z];simp)) q) hf⟩
 self:=fun _ _ _ _ _ st h=>by obtain⟨k0,v0,gi⟩:=st;exact V8 gi h
section
variable{X:Cx}
theorem Inv.freeze{pins:List (Addr×Obj)}{σ:St}{H:Hp}{s:Shared}{a:Addr}{o:Obj}{kvs:List (List WB×V)}(I:Inv X pins σ H s)(e:H a=some (.dT kvs))(go:s.heap.get? a=some o) :
 Inv X pins σ (yB H a (.Jb o (.dT kvs))) s:=by
 refine oS (t':=s.toks) I (by rw[e];exact True.intro) (Heap.SameBut.refl _ _) ⟨o,go⟩ ⟨go,?_⟩;refine Nf.stay (show Nf X.prog X.w H s.heap a (.dT kvs)from I.hok a _ e) (fun _ _ _ g=>g) (fun b q=>?_) fun b ys q=>?_
 · rw[NA (JT q e (fun z=>nomatch z))];exact q
 · rw[NA (JT q e (fun z=>nomatch z))];exact q
def YZ(td:TE):TI:=fun σ H R=>td σ H fun x H1=>∃a,x=.ref a/\((∃kvs,H1 a=some (.dT kvs)/\∀o,R (lU a o) (yB H1 a (.Jb o (.dT kvs))))\/∃o kvs,H1 a=some (.Jb o (.dT kvs))/\R (lU a o) H1)
theorem Nj {elts:List Expr} {x1} {tp:Pos} {d:Expr} {td:TE} {apos cpos:Pos} (ho:PE X d td) (hbase:attributeBase d "items" X.env (eval d X.env)=eval d X.env:=by rfl) (hline:(apos.endLine==cpos.line)=true:=by rfl) :
 PI X (.Tuple elts x1 tp) (.Call (.Attribute d "items" apos) [] [] cpos) (YZ td):=by
 intro pins s σ H R I h;refine wpAny_Call_method0_late hbase hline (gB (ho pins s σ H _ I h) fun v s1 zz=>?_);obtain⟨x,H1,I1,r1,a,ex,q⟩:=zz;subst ex;obtain rfl:v=Value.ref a:=r1;have dd:MZ H1 a:=by
  rcases q with⟨kvs,e,_⟩ | ⟨o,kvs,e,_⟩
  · exact .inr ⟨kvs,.inl e⟩
  · exact .inr ⟨kvs,.inr ⟨o,e⟩⟩
 obtain⟨t1,t2,t3⟩:=TY I1 dd;have base:∀(o:Obj)(es:Array DictEntry)(ep:Nat)(H2:Hp),s1.heap.get? a=some o->o.data=.dict es ep->Inv X pins σ H2 s1->R (lU a o) H2->
  wpAny (model X.prog X.w) X.A (call (.builtin "dict.items") [.ref a]) (fun v s1=>wpAny (model X.prog X.w) X.A (pyIter v) (QZ X pins σ (.Tuple elts x1 tp) R) X.xe s1) X.xe s1:=by
  intro o es ep H2 go gt I2 q2;refine K9 t1 t3 ?_;have I3:Inv X pins σ H2 { s1 with heap:=s1.heap.push { cls:=.type "dict_items",data:=.fields #[.ref a] } }:=I2.kept (t':=s1.toks) fun b u g=>Heap.get?_push_of_some _ g
  refine W8 (od:=o) ⟨_,Heap.get?_push_size _ rfl,rfl,rfl⟩ (Heap.get?_push_of_some _ go) gt ?_;have I4:=I3.kept (t':=s1.toks) (h':=(s1.heap.push { cls:=.type "dict_items",data:=.fields #[.ref a] }).push { cls:=.type "dict_itemiterator",data:=.fields #[.none,.bool false,.ref a,.int 0 0,.int es.size 0,.int ep 0,.none,.none] }) fun b u g=>Heap.get?_push_of_some _ g
  refine⟨_,[_],_,_,H2,rfl,I4,Aj a _ gt,⟨.none,.none,Heap.get?_push_size _ rfl⟩,fun c hc=>?_,q2⟩;rw[mem_singleton.mp hc];exact I3.Vm (zdS _) (I3.hok.fresh (zdS _))
 refine⟨"dict", "dict.items",PySem.F.plainAttrs_dict,PySem.F.slot_dict_items,PySem.F.type_dict_items,t1,t2,Calls.callWith_builtin rfl (PySem.evalArgs_none ?_)⟩;rcases q with⟨kvs,e,q⟩ | ⟨o,kvs,e,q⟩
 · obtain⟨_,_,_,_,o,es,ep,h1,_,h3,_⟩:=(show Nf X.prog X.w H1 s1.heap a (.dT kvs)from I1.hok a _ e);exact base o es ep _ h1 h3 (I1.freeze e h1) (q o)
 · obtain⟨go,_,_,_,_,o',es,ep,h1,_,h3,_⟩:=(show Nf X.prog X.w H1 s1.heap a (.Jb o (.dT kvs))from I1.hok a _ e);rw[go]at h1;cases h1;exact base o es ep _ go h3 I1 q
end
end L2
namespace SM
noncomputable def wI(kvs:List (List Int×Dt))(k:List Int):Option Dt:=(kvs.find? fun p=>decide (p.1=k)).map (·.2)
noncomputable def EI(kvs:List (List Int×Dt))(k:List Int)(d:Dt):List (List Int×Dt):=
 if(kvs.any fun p=>decide (p.1=k))=true then kvs.map (fun p=>if p.1=k then(p.1,d)else p)else kvs++[(k,d)]
noncomputable def WT:RE:=fun _ h=>some (.ref h.length,h++[.dt []])
def YO(g:RA):RE:=fun l h=>(g l h).bind fun r=>if r.1.length<=sizeLine then(ZD r.1).map fun is=>(.uc is,r.2)else none
def lH(fo fy fx:RE):RE:=fun l h=>(fo l h).bind fun o=>match o.1 with
 | .ref n=>match o.2[n]? with
  | some (.dt _)=>(fy l o.2).bind fun y=>match y.1 with
   | .uc k=>(fx l y.2).bind fun x=>match x.2[n]? with
    | some (.dt kvs)=>some ((wI kvs k).getD x.1,x.2)
    | _=>none
   | _=>none
  | _=>none
 | _=>none
def CO(fe fo fy:RE):RS:=fun l h=>(fe l h).bind fun v=>(fo l v.2).bind fun o=>(fy l o.2).bind fun y=>match o.1,y.1 with
 | .ref n,.uc k=>match y.2[n]? with
  | some (.dt kvs)=>if kvs.length<sizeLine then some (.nx l (y.2.set n (.dt (EI kvs k v.1))))else none
  | _=>none
 | _,_=>none
noncomputable def dI(f:RE):RI:=fun l h=>(f l h).bind fun r=>match r.1 with
 | .ref n=>match r.2[n]? with
  | some (.dt kvs)=>some (.it n,r.2.set n (.df kvs))
  | some (.df _)=>some (.it n,r.2)
  | _=>none
 | _=>none
section
variable{K:Frag}{H:Hp}{ρ:Rg}
abbrev KD(K:Frag)(H:Hp)(ρ:Rg)(kvs:List (List Int×Dt))(vs:List (List WB×V)):Prop:=vs.map (·.1)=kvs.map (fun p=>p.1.map Sum.inl)/\Wr K H ρ (kvs.map (·.2)) (vs.map (·.2))
theorem Ab{k k':List Int}:k.map (Sum.inl:Int->WB)=k'.map Sum.inl↔k=k':=⟨fun h=>(map_inj_right (fun _ _ z=>Sum.inl.inj z)).mp h,fun h=>by rw[h]⟩
theorem gT(k:List Int):(k.map (Sum.inl:Int->WB)).map kV=k.map V.int:=by rw[map_map];rfl
theorem KD.vd{vs:List (List WB×V)}(r:KD K H ρ [] vs):vs=[]:=by have:=r.1;simpa using this
theorem KD.Bf{p:List Int×Dt}{kvs:List (List Int×Dt)}{vs:List (List WB×V)}(r:KD K H ρ (p::kvs) vs):∃v rs,vs=(p.1.map Sum.inl,v)::rs/\Yr K H ρ p.2 v/\KD K H ρ kvs rs:=by
 obtain⟨h1,h2⟩:=r;cases vs with
 | nil=>simp at h1
 | cons q rs=>simp only[zdH,List.cons.injEq]at h1;obtain⟨v,r',e,g1,g2⟩:=Wr.Bf (by simpa only[zdH]using h2);simp only[zdH,List.cons.injEq]at e;obtain⟨q1,q2⟩:=q;have h11:q1=p.1.map Sum.inl:=h1.1;have e1:q2=v:=e.1;subst e1;exact⟨q2,rs,by rw[h11],g1,h1.2,by rw[e.2];exact g2⟩
theorem KD.cons{p:List Int×Dt}{v:V}{kvs:List (List Int×Dt)}{vs:List (List WB×V)}(g:Yr K H ρ p.2 v)(r:KD K H ρ kvs vs):KD K H ρ (p::kvs) ((p.1.map Sum.inl,v)::vs):=
 ⟨by simp only[zdH];rw[r.1],.cons g r.2⟩
theorem KD.length{kvs:List (List Int×Dt)}{vs:List (List WB×V)}(r:KD K H ρ kvs vs):vs.length=kvs.length:=by have:=congrArg List.length r.1;simpa using this
theorem KD.get:∀{kvs:List (List Int×Dt)}{vs:List (List WB×V)}{i:Nat}{p:List Int×Dt},KD K H ρ kvs vs->kvs[i]?=some p->∃v,vs[i]?=some (p.1.map Sum.inl,v)/\Yr K H ρ p.2 v
 | [],_,_,_,_,e=>by simp at e
 | q::kvs,_,0,p,r,e=>by obtain⟨v,rs,rfl,g,_⟩:=r.Bf;simp at e;subst e;exact⟨v,rfl,g⟩
 | q::kvs,_,i+1,p,r,e=>by obtain⟨v,rs,rfl,_,r'⟩:=r.Bf;obtain⟨u,e1,e2⟩:=KD.get (i:=i) r' (by simpa using e);exact⟨u,by simpa using e1,e2⟩
theorem KD.val(k:List Int):∀{kvs:List (List Int×Dt)}{vs:List (List WB×V)},KD K H ρ kvs vs->(∀d,wI kvs k=some d->∃v,UE vs (k.map Sum.inl)=some v/\Yr K H ρ d v)/\(wI kvs k=none->UE vs (k.map Sum.inl)=none)
 | [],_,r=>by rw[r.vd];exact⟨fun d e=>by simp[wI]at e,fun _=>rfl⟩
 | p::kvs,_,r=>by
  obtain⟨v,rs,rfl,g,r'⟩:=r.Bf;by_cases c:p.1=k
  · have e1:wI (p::kvs) k=some p.2:=by simp[wI,find?_cons,c]
    rw[e1,IN (Ab.mpr c)];exact⟨fun d e=>by cases e;exact⟨v,rfl,g⟩,fun e=>by cases e⟩
  · have e1:wI (p::kvs) k=wI kvs k:=by simp[wI,find?_cons,c]
    rw[e1,HN (fun z=>c (Ab.mp z))];exact KD.val k r'
theorem KD.any(k:List Int):∀{kvs:List (List Int×Dt)}{vs:List (List WB×V)},KD K H ρ kvs vs->(vs.any fun p=>decide (p.1=k.map Sum.inl))=kvs.any fun p=>decide (p.1=k)
 | [],_,r=>by rw[r.vd];rfl
 | p::kvs,_,r=>by
  obtain⟨v,rs,rfl,g,r'⟩:=r.Bf;rw[any_cons,any_cons,KD.any k r']
  congr 1
  exact decide_eq_decide.mpr Ab
theorem KD.repl(k:List Int){d:Dt}{v:V}(g:Yr K H ρ d v):∀{kvs:List (List Int×Dt)}{vs:List (List WB×V)},KD K H ρ kvs vs->
 KD K H ρ (kvs.map fun p=>if p.1=k then(p.1,d)else p) (vs.map fun p=>if p.1=k.map Sum.inl then(p.1,v)else p)
 | [],_,r=>by rw[r.vd];exact⟨rfl,.nil⟩
 | p::kvs,_,r=>by
  obtain⟨u,rs,rfl,g',r'⟩:=r.Bf;rw[zdH,zdH];by_cases c:p.1=k
  · rw[if_pos c,if_pos (Ab.mpr c)];exact KD.cons (p:=(p.1,d)) g (KD.repl k g r')
  · rw[if_neg c,if_neg (fun z=>c (Ab.mp z))];exact KD.cons g' (KD.repl k g r')
theorem KD.put(k:List Int){d:Dt}{v:V}(g:Yr K H ρ d v){kvs:List (List Int×Dt)}{vs:List (List WB×V)}(r:KD K H ρ kvs vs):KD K H ρ (EI kvs k d) (eF vs (k.map Sum.inl) v):=by
 unfold EI eF;rw[r.any k];split
 · exact r.repl k g
 · refine⟨by rw[map_append,map_append,r.1];rfl,?_⟩;rw[map_append,map_append];exact r.2.append (.cons g .nil)
theorem KD.ext{ρ':Rg}{H':Hp}{kvs:List (List Int×Dt)}{vs:List (List WB×V)}(r:KD K H ρ kvs vs)(x:Ext ρ ρ' H H'):KD K H' ρ' kvs vs:=⟨r.1,r.2.ext x⟩
theorem uf.zaT{h:HI}(S:uf K ρ h H){a:Addr}{vs:List V}(e:H a=some (.tup vs)):ρ.no a:=by
 refine⟨fun ha=>?_,fun ha=>?_⟩
 · obtain⟨n,hn⟩:=mem_iff_getElem?.mp ha;have hl:n<h.length:=by rw[<- S.len];exact(zdP hn).1
   have ob:=S.ob n a _ hn (getElem?_eq_getElem hl);cases q:h[n]with
   | lst xs=>rw[q]at ob;obtain⟨_,g,_⟩:=ob;rw[e]at g;cases g
   | ins y fs=>rw[q]at ob;obtain⟨_,_,_,_,g,_⟩:=ob;rw[e]at g;cases g
   | dk kvs=>rw[q]at ob;obtain⟨_,g,_⟩:=ob;rw[e]at g;cases g
   | dt kvs=>rw[q]at ob;obtain⟨_,g,_⟩:=ob;rw[e]at g;cases g
   | df kvs=>rw[q]at ob;obtain⟨_,_,g,_⟩:=ob;rw[e]at g;cases g
 · obtain⟨_,_,g⟩:=S.zt a ha;rw[e]at g;cases g
theorem cP{a:Addr}{kvs:List (List WB×V)}(h:H a=some (.dT kvs)):eU H a:=fun _ _ e=>by rw[h]at e;cases e
end
section
variable{X:Cx}{e o i d a b f:Expr}{fe fo fi fa fb fy fx:RE}{pos pos' apos cpos:Pos}
theorem Kq:EM X (.Dict [] [] pos) WT:=by with_unfolding_all exact PE.imp Jj fun σ H Q zz=>by obtain⟨ρ,l,h,d,h',S,L,e,k⟩:=zz;cases e;intro p hp;refine k (ρ.add p) _ _ (zf.mpr ⟨p,rfl,?_⟩) (S.own hp ⟨[],LC,rfl,.nil⟩) (Ext.own hp);simp only[Rg.add];rw[<- S.len,zdT (zdS _),Nat.sub_self];rfl
theorem Pk{es:List Expr}{g:RA}{x1}(h:AM X es g):EM X (.Tuple es x1 pos) (YO g):=by
 with_unfolding_all
  exact PE.imp (MY h) fun σ H Q zz=>by
   obtain⟨ρ,l,h,d,h',S,L,e,k⟩:=zz;obtain⟨⟨ds,h1⟩,e1,e⟩:=lA e;dsimp only at e;by_cases hz:ds.length<=sizeLine
   · rw[if_pos hz]at e;cases q:ZD ds with
     | none=>rw[q]at e;cases e
     | some is=>rw[q]at e;cases e;refine⟨ρ,l,h,ds,_,S,L,e1,fun ρ1 vs H1 R1 S1 E1=>⟨by rw[R1.length];exact hz,fun p hp=>k ρ1 _ _ (Vd.mpr ⟨p,rfl,S1.out hp,?_⟩) (S1.fresh hp) (E1.trans (Ext.fresh hp))⟩⟩;rw[dJ q]at R1;rw[LC,R1.Ib]
   · rw[if_neg hz]at e;cases e
theorem x9 (hu:X.A.units+64<cLine) (ho:EM X o fo) (hy:EM X e fy) (hx:EM X f fx) (m:M2 X o "get" apos e f cpos:=by exact⟨rfl,rfl,rfl,rfl⟩) :
 EM X (.Call (.Attribute o "get" apos) [e,f] [] cpos) (lH fo fy fx):=by
 with_unfolding_all
  exact PE.imp (Ij (by omega) ho hy hx m) fun σ H Q zz=>by
   obtain⟨ρ,l,h,dd,h',S,L,e,k⟩:=zz;obtain⟨⟨d1,h1⟩,e1,e⟩:=lA e;refine⟨ρ,l,h,d1,h1,S,L,e1,fun ρ1 x H1 R1 S1 E1=>?_⟩;cases d1 with
   | ref n=>
    dsimp only at e;split at e
    · rename_i kv0 q0;obtain⟨⟨y,h2⟩,e2,e⟩:=lA e;dsimp only at e;cases y with
      | uc ks=>
       obtain⟨⟨dx,h3⟩,e3,e⟩:=lA e;dsimp only at e;split at e
       · rename_i kvs q;cases e;obtain⟨aa,z,ha⟩:=zf.mp R1;obtain⟨Ep,g0,_⟩:=S1.ob n aa _ ha q0;refine⟨aa,z,.inr ⟨Ep,.inl g0⟩,ρ1,l,h1,.uc ks,h2,S1,L.ext E1,e2,fun ρ2 y H2 R2 S2 E2=>⟨ρ2,l,h2,dx,_,S2,L.ext (E1.trans E2),e3,fun ρ3 x3 H3 R3 S3 E3=>?_⟩⟩;obtain⟨kb,zk,nk,gk⟩:=Vd.mp (Yr.ext E3 _ R2);obtain⟨vs,g1,g2⟩:=S3.ob n aa _ ((E2.trans E3).get ha) q;refine⟨UE vs (ks.map Sum.inl),by rw[zk];exact Dl.t g1 (by rw[gT];exact gk),?_⟩;obtain⟨v1,v2⟩:=KD.val (K:=X.K) ks g2;refine k ρ3 _ H3 ?_ S3 (E1.trans (E2.trans E3));cases c:wI kvs ks with
         | none=>rw[v2 c];exact R3
         | some d4=>obtain⟨v4,e4,r4⟩:=v1 d4 c;rw[e4];exact r4
       · cases e
      | _=>cases e
    · cases e
   | _=>cases e
theorem Zz(hu:X.A.units+64<cLine)(he:EM X e fe)(ho:EM X o fo)(hi:EM X i fi)(hs:swapsWith e (some (.Subscript o i pos')) pos.line X.env=pure false:=by rfl) :
 ZM X (.Assign [.Subscript o i pos'] e pos) (CO fe fo fi):=by
 with_unfolding_all
  exact PS.imp (bw (by omega) ho hi he hs) fun D σ H zz=>by
   obtain⟨ρ,l,h,r,S,L,e,k⟩:=zz;obtain⟨⟨v,hv⟩,e1,e⟩:=lA e;obtain⟨⟨d,hd⟩,e2,e⟩:=lA e;obtain⟨⟨j,hj⟩,e3,e⟩:=lA e;refine⟨ρ,l,h,v,hv,S,L,e1,fun ρ1 u H1 R1 S1 E1=>⟨ρ1,l,hv,d,hd,S1,L.ext E1,e2,fun ρ2 y H2 R2 S2 E2=>⟨ρ2,l,hd,j,hj,S2,L.ext (E1.trans E2),e3,fun ρ3 z H3 R3 S3 E3=>?_⟩⟩⟩;cases d with
   | ref n=>
    cases j with
    | uc ks=>
     dsimp only at e;split at e
     · rename_i kvs q;obtain⟨hz,e⟩:=dE e;cases e;obtain⟨aa,zz,ha⟩:=zf.mp (Yr.ext E3 _ R2);obtain⟨vs,g1,g2⟩:=S3.ob n aa _ ha q;obtain⟨kb,zk,nk,gk⟩:=Vd.mp R3;have hm:=mem_of_getElem? ha;have g3:KD X.K H3 ρ3 kvs vs:=g2;refine⟨aa,_,zz,by rw[zk];exact El.t g1 (by rw[gT];exact gk) (by rw[g3.length];exact hz),?_⟩;exact k ρ3 σ _ (S3.write ha (cP g1) ⟨_,LC,(g3.put ks (Yr.ext (E2.trans E3) _ R1)).ext (Ext.write hm (cP g1))⟩) (L.ext (E1.trans (E2.trans (E3.trans (Ext.write hm (cP g1)))))) (E1.trans (E2.trans (E3.trans (Ext.write hm (cP g1)))))
     · cases e
    | _=>cases e
   | _=>cases e
theorem RV{K:Frag}{H:Hp}{ρ:Rg}{n:Nat}{aa:Addr}{ob:Obj}{Ep:List (List WB×V)}(ha:ρ.v[n]?=some aa)(e:H aa=some (.Jb ob (.dT Ep))):kZ K H ρ (.it n) (lU aa ob):=by
 intro H2 ρ2 h2 sm S2 i;have f2:=sm.fz aa ob _ e;have ha2:=sm.ix n aa ha;simp only[Src.at];cases q:h2[n]? with
 | none=>trivial
 | some u=>
  cases u with
  | df kvs=>
   obtain⟨o',vs,g1,g2⟩:=S2.ob n aa _ ha2 q;have g3:KD K H2 ρ2 kvs vs:=g2;rw[f2]at g1;cases g1;dsimp only;cases hi:kvs[i]? with
   | none=>exact⟨Ep,f2,by rw[g3.length];exact getElem?_eq_none_iff.mp hi⟩
   | some p=>obtain⟨v,e1,r1⟩:=g3.get hi;refine⟨⟨Ep,_,f2,e1⟩,fun x H3 zz=>?_⟩;obtain⟨qq,kb,p',hn,ex,hk,hh,eH⟩:=zz;have ep:=hh Ep f2;rw[e1]at ep;cases ep;subst ex eH;rw[gT]at hk;exact⟨SK S2 (.cons (vf.mpr ⟨kb,_,rfl,.inl ⟨S2.zaT hk,.inl hk⟩,Wr.ints p.1⟩) (.cons r1 .nil)) hn,Ext.fresh hn,S2.fresh hn⟩
  | _=>trivial
theorem E9 {elts:List Expr} {x1} {tp:Pos} (ho:EM X d fa) (hbase:attributeBase d "items" X.env (eval d X.env)=eval d X.env:=by rfl) (hline:(apos.endLine==cpos.line)=true:=by rfl) :
 IM X (.Tuple elts x1 tp) (.Call (.Attribute d "items" apos) [] [] cpos) (dI fa):=by
 with_unfolding_all
  exact PI.imp (Nj ho hbase hline) fun σ H R zz=>by
   obtain⟨ρ,l,h,s,h',S,L,e,k⟩:=zz;obtain⟨⟨d1,h1⟩,e1,e⟩:=lA e;refine⟨ρ,l,h,d1,h1,S,L,e1,fun ρ1 v H1 R1 S1 E1=>?_⟩;cases d1 with
   | ref n=>
    obtain⟨aa,z,ha⟩:=zf.mp R1;have hm:=mem_of_getElem? ha;refine⟨aa,z,?_⟩;dsimp only at e;split at e
    · rename_i kvs q;cases e;obtain⟨vs,g1,g2⟩:=S1.ob n aa _ ha q;have g3:KD X.K H1 ρ1 kvs vs:=g2;refine .inl ⟨vs,g1,fun ob=>k ρ1 _ _ (RV ha LC) (S1.write ha (cP g1) ⟨ob,vs,LC,g3.ext (Ext.write hm (cP g1))⟩) (E1.trans (Ext.write hm (cP g1)))⟩
    · rename_i kvs q;cases e;obtain⟨ob,vs,g1,g2⟩:=S1.ob n aa _ ha q;exact .inr ⟨ob,vs,g1,k ρ1 _ _ (RV ha g1) S1 E1⟩
    · cases e
   | _=>cases e
end
end SM
namespace L2
section
variable{prog:Program}{w:World}{A:Around}{R:Result->Shared->Prop}{I:Addr}{fp wr:List Addr}{n:Nat}{P:Nat->Value->Prop}{St:Nat->Heap->Prop}
noncomputable abbrev GO (dv:Value):List (Str×Value):=[(Str.ofString "default",dv)]
theorem U8(dv:Value)(Wk:Walks prog w A.in1 I fp wr n P St)(bt:Nat->Nat->Bool)(cmp:CmpOf prog w A.in1 .Lt P bt)(S:Addr)(nS:S∉fp) :
 ∀(k j:Nat)(s:Shared)(vb:Value)(c:Nat),n-(j+1)=k->j+1<=n->St (j+1) s.heap->P (argBest bt j) vb->
 s.heap.get? S=some { cls:=.type "list",dict:=none,data:=.seq #[vb,vb] c,slots:=#[] }->
 (∀v h' tk,P (argBest bt (n-1)) v->(∀b o,b∉wr->b≠S->s.heap.get? b=some o->h'.get? b=some o)->R (.ok (.ret v)) { s with heap:=h',toks:=tk })->
 codeAny (model prog w) A (.builtin "min.loop" ⟨[.ref I,.none,.ref S],GO dv⟩) R s:=by
 have nW:S∉wr:=fun h=>nS (Wk.sub _ h)
 have nm:(toString "min" ++ toString ".loop" :String) = "min.loop" :=by decide
 intro k
 induction k with
 | zero=>
  intro j s vb c ek hj st Pb gS fin;have ej:j+1=n:=by omega
  refine codeAny_builtin F.entry_min_loop ?_;rw[Around.under_plainId F.plain_min_loop _];show wpAny _ A.in1 (seqItems? (.ref S) >>=_) _ _ s;refine wpAny_bind (wpAny_seqItems gS rfl ?_);show wpAny _ A.in1 (tryCatch (pyNext (.ref I)) _ >>=_) _ _ s;refine wpAny_bind (wpAny_tryCatch (Wk.done s _ _ (ej ▸ st) fun h' tk kp=>?_));have Yp:=kp S _ nW gS;show wpAny _ A.in1 (updateSeq S (fun _=>#[]) >>=_) _ _ _;refine wpAny_bind (wpAny_updateSeq Yp rfl (wpAny_bind (wpAny_letGo (wpAny_pure ?_))));exact fin vb _ tk (by rw[<- ej];exact Pb) fun b o nb ns e=>(Heap.get?_update_other _ _ (Ne.symm ns)).trans (kp b o nb e)
 | succ k ih=>
  intro j s vb c ek hj st Pb gS fin;have lt:j+1<n:=by omega
  refine codeAny_builtin F.entry_min_loop ?_;rw[Around.under_plainId F.plain_min_loop _];show wpAny _ A.in1 (seqItems? (.ref S) >>=_) _ _ s;refine wpAny_bind (wpAny_seqItems gS rfl ?_);show wpAny _ A.in1 (tryCatch (pyNext (.ref I)) _ >>=_) _ _ s;refine wpAny_bind (wpAny_tryCatch (Wk.item (j+1) s _ _ lt st fun v h' tk Pv st' kp=>?_));have Yp:=kp S _ nW gS;show wpAny _ A.in1 (tryCatch (holding [v,v] (richCompare .Lt v vb >>=_)) _ >>=_) _ _ _;refine wpAny_bind (wpAny_tryCatch (wpAny_holding (wpAny_bind (cmp (j+1) (argBest bt j) v vb _ _ _ Pv Pb ?_))));refine wpAny_bind (wpAny_holding (wpAny_truthy_bool (wpAny_bind (wpAny_letGo (wpAny_pure ?_)))));cases cb:bt (j+1) (argBest bt j)with
  | true=>
   simp only[if_true];refine wpAny_bind (wpAny_updateSeq Yp rfl (wpAny_bind (wpAny_letGo ?_)));rw[nm];refine wpAny_pure ⟨plainId_quiet F.plain_min_loop _,ih (j+1) _ v _ (by omega) lt (Wk.frame _ _ _ st' fun b hbf o e=>?_) (by simp only[argBest,cb,if_true];exact Pv) (Heap.get?_update_self _ Yp rfl) fun v' h'' tk'' Pv' kp'=>?_⟩
   · exact(Heap.get?_update_other _ _ (fun z:S=b=>nS (by rw[z];exact hbf))).trans e
   · exact fin v' h'' tk'' Pv' fun b o nb ns e=>kp' b o nb ns ((Heap.get?_update_other _ _ (Ne.symm ns)).trans (kp b o nb e))
  | false=>simp only[zdV,if_false];refine wpAny_bind (wpAny_letGo ?_);rw[nm];refine wpAny_pure ⟨plainId_quiet F.plain_min_loop _,ih (j+1) _ vb c (by omega) lt st' (by simp only[argBest,cb,zdV,if_false];exact Pb) Yp fun v' h'' tk'' Pv' kp'=>?_⟩;exact fin v' h'' tk'' Pv' fun b o nb ns e=>kp' b o nb ns (kp b o nb e)
theorem L6(dv:Value)(Wk:Walks prog w A.in1 I fp wr n P St)(bt:Nat->Nat->Bool)(cmp:CmpOf prog w A.in1 .Lt P bt)(S:Addr)(nS:S∉fp)(hn:0<n){s:Shared}{c:Nat}(st:St 0 s.heap)
 (gS:s.heap.get? S=some { cls:=.type "list",dict:=none,data:=.seq #[] c,slots:=#[] })
 (fin:∀v h' tk,P (argBest bt (n-1)) v->(∀b o,b∉wr->b≠S->s.heap.get? b=some o->h'.get? b=some o)->R (.ok (.ret v)) { s with heap:=h',toks:=tk }) :
 codeAny (model prog w) A (.builtin "min.loop" ⟨[.ref I,.none,.ref S],GO dv⟩) R s:=by
 have nW:S∉wr:=fun h=>nS (Wk.sub _ h)
 have nm:(toString "min" ++ toString ".loop" :String) = "min.loop" :=by decide
 refine codeAny_builtin F.entry_min_loop ?_;rw[Around.under_plainId F.plain_min_loop _];show wpAny _ A.in1 (seqItems? (.ref S) >>=_) _ _ s;refine wpAny_bind (wpAny_seqItems gS rfl ?_);show wpAny _ A.in1 (tryCatch (pyNext (.ref I)) _ >>=_) _ _ s;refine wpAny_bind (wpAny_tryCatch (Wk.item 0 s _ _ hn st fun v h' tk Pv st' kp=>?_));have Yp:=kp S _ nW gS;show wpAny _ A.in1 (updateSeq S (fun _=>#[v,v]) >>=_) _ _ _;refine wpAny_bind (wpAny_updateSeq Yp rfl ?_);rw[nm];refine wpAny_pure ⟨plainId_quiet F.plain_min_loop _,U8 dv Wk bt cmp S nS _ 0 _ v _ rfl hn (Wk.frame _ _ _ st' fun b hbf o e=>?_) Pv (Heap.get?_update_self _ Yp rfl) fun v' h'' tk'' Pv' kp'=>?_⟩
 · exact(Heap.get?_update_other _ _ (fun z:S=b=>nS (by rw[z];exact hbf))).trans e
 · exact fin v' h'' tk'' Pv' fun b o nb ns e=>kp' b o nb ns ((Heap.get?_update_other _ _ (Ne.symm ns)).trans (kp b o nb e))
end
section
variable{prog:Program}{w:World}{A:Around}{E:Value->Shared->Prop}{s:Shared}
theorem g7 (x d:Value):argsOk "min" ⟨[x],GO d⟩:=by unfold argsOk;kernel_rfl
theorem e8{x dv:Value}{R:Value->Shared->Prop}
 (h:wpAny (model prog w) A.in1 (pyIter x) (fun it s2=>∃I fp wr n P St bt,it=.ref I/\Walks prog w A.in1 I fp wr n P St/\St 0 s2.heap/\(∀b∈fp,b<s2.heap.objs.size)/\0<n/\CmpOf prog w A.in1 .Lt P bt/\
  ∀v h' tk,P (argBest bt (n-1)) v->(∀b o,b∉wr->s2.heap.get? b=some o->h'.get? b=some o)->R v { s2 with heap:=h',toks:=tk }) E s) :
 wpAny (model prog w) A (call (.builtin "min") [x] (GO dv)) R E s:=by
 have nm:(toString "min" ++ toString ".loop" :String) = "min.loop" :=by decide
 refine kmk_tree PySem.F.kind_min PySem.F.plain_min PySem.F.entry_min (g7 _ _) ?_;show wpAny _ A.in1 (Builtin.Builtins.bindParams "min" ["key", "default"] 0 ⟨[],GO dv⟩ >>=_) _ _ s;refine wpAny_bind (wpAny_of_eq (show Builtin.Builtins.bindParams "min" ["key", "default"] 0 ⟨[],GO dv⟩=pure [none,some dv]from rfl) (wpAny_bind (wpAny_pure ?_)));refine wpAny_bind (wpAny_mono h (fun it s2 h2=>?_) fun _ _ e=>e);obtain⟨I,fp,wr,n,P,St,bt,rfl,Wk,st,lo,hn,cmp,fin⟩:=h2;refine wpAny_bind (wpAny_newObj_type ?_);have nS:s2.heap.objs.size∉fp:=fun hm=>Nat.lt_irrefl _ (lo _ hm)
 rw[nm];refine wpAny_pure ⟨plainId_quiet F.plain_min_loop _,L6 dv Wk bt cmp s2.heap.objs.size nS hn (Wk.frame _ _ _ st fun b _ o e=>Heap.get?_push_of_some _ e) (Heap.get?_push_size _ rfl) fun v h' tk Pv kp=>?_⟩;exact fin v h' tk Pv fun b o nb e=>kp b o nb (Nat.ne_of_lt (Heap.lt_size e)) (Heap.get?_push_of_some _ e)
theorem T8{l:Addr}{xs:Array (Int×Tok)}{dv:Value}{R:Value->Shared->Prop}(hh:A.handled=none)(hl:s.heap.IsList l (intItems xs))(hne:0<xs.size)
 (h:∀v h' tk,(intItems xs)[argBest (fun i j=>decide (numAt xs i<numAt xs j)) (xs.size-1)]?=some v->(∀b o,s.heap.get? b=some o->h'.get? b=some o)->R v { s with heap:=h',toks:=tk }) :
 wpAny (model prog w) A (call (.builtin "min") [.ref l] (GO dv)) R E s:=by
 refine e8 (iter_intList hl fun s2 e st lo hlI=>?_);subst e;refine⟨_,_,_,_,_,_,_,rfl,Walks.list (A:=A.in1) hh _ l hlI (intItems xs),st,lo,by simpa[intItems]using hne,CmpOf.ints_lt (numAt xs) (fun _ _=>intItems_at),fun v h' tk Pv kp=>?_⟩;exact h v h' tk (by simpa[intItems]using Pv) (old_kept kp)
end
section
variable{X:Cx}{e d:Expr}{ta:TA}{td:TE}{p pos kp:Pos}
def B2(K:Frag)(ta:TA)(td:TE):TE:=fun σ H Q=>ta σ H fun xs H1=>td σ H1 fun _ H2=>∃(q:Addr)(ns:List Int),xs=[.ref q]/\Td K H2 q (ns.map V.int)/\ns ≠ []/\∀M,M∈ns->(∀a∈ns,M<=a)->Q (.int M) H2
theorem Tv (hc:X.calm=true) (hg:Gl X "min") (hm:X.mg "min" =none) (ha:PA X [e] ta) (hd:PE X d td) (he:starEach [e] X.env=[(false,eval e X.env)]:=by rfl) :
 PE X (.Call (.Name "min" p) [e] [⟨some "default",d,kp⟩] pos) (B2 X.K ta td):=by
 intro pins s σ H Q I h;refine wpAny_Call_Name_kw (nH I hg hm PyProof.Rows.boot_min ?_);refine callWith_kw ?z1 (by rw[he];rfl) (by rw[he];rfl) rfl rfl;refine gB (ha pos pins s σ H _ I h) fun us s1 ⟨vs,H1,I1,r1,q1⟩=>?z2
 refine kws_cons ?z3;refine gB (hd pins s1 σ H1 _ I1 q1) fun v s2 ⟨y,H2,I2,ry,q2⟩=>?z4
 refine kws_nil ?z5;show wpAny _ _ (call (.builtin "min") us (GO v)) _ _ _;obtain⟨q,ns,rfl,hq,hne,fin⟩:=q2;obtain⟨u,rfl,rx⟩:=pG r1;cases rx;obtain⟨its,r',pl,hz⟩:=I2.list hq;obtain⟨ys,e1,e2⟩:=JM (HM r');have hl:=pl.isList;rw[e1]at hl;have hsz:0<ys.size:=by
  rcases Nat.eq_zero_or_pos ys.size with z | z
  · exfalso;apply hne;rw[<- e2];have:ys.toList=[]:=eq_nil_of_length_eq_zero (by simpa using z);rw[this];rfl
  · exact z
 refine T8 (I2.ok.hd hc) hl hsz fun v h' tk hv k=>?_
 obtain⟨t,rfl⟩:=intItems_at hv;obtain⟨h1,h2⟩:=argBest_lt (numAt ys) (ys.size-1);refine⟨.int _,H2,I2.kept k,⟨t,rfl⟩,fin _ ?_ fun a ha=>?_⟩
 · rw[numAt_eq,<- e2];exact getD_mem (by rw[length_map,Array.length_toList];omega)
 · rw[<- e2]at ha;obtain⟨j,hj,rfl⟩:=mem_getD ha;rw[length_map,Array.length_toList]at hj;rw[<- numAt_eq];exact h2 j (by omega)
end
end L2
namespace SM
def XT(fa fd:RE):RE:=fun l h=>(fa l h).bind fun r=>(fd l r.2).bind fun q=>(JB q.2 r.1).bind fun xs=>(ZD xs).bind fun ns=>if ns ≠ []then some (.int (QB ns),q.2)else none
section
variable{X:Cx}{e d:Expr}{fa fd:RE}{p pos kp:Pos}
theorem Nq (hc:X.calm=true) (hg:Gl X "min") (hm:X.mg "min" =none) (ha:EM X e fa) (hd:EM X d fd) (hs:sB e=true:=by rfl):EM X (.Call (.Name "min" p) [e] [⟨some "default",d,kp⟩] pos) (XT fa fd):=by with_unfolding_all exact PE.imp (Tv hc hg hm (kD ha oE (lB hs _ _)) hd (lB hs _ _)) fun σ H Q zz=>by obtain⟨ρ,l,h,dd,h',S,L,e,k⟩:=zz;obtain⟨⟨d1,h1⟩,e1,e⟩:=lA e;obtain⟨⟨d2,h2⟩,e2,e⟩:=lA e;obtain⟨xs,e3,e⟩:=lA e;obtain⟨ns,q,e⟩:=lA e;obtain⟨hne,e⟩:=dE e;cases e;refine⟨ρ,l,h,d1,h1,S,L,e1,fun ρ1 v H1 R1 S1 E1=>⟨ρ1,l,h1,d2,_,S1,L.ext E1,e2,fun ρ2 v2 H2 R2 S2 E2=>?_⟩⟩;obtain⟨a,vs,z,sq,r⟩:=sF S2 (Yr.ext E2 _ R1) e3;rw[dJ q]at r;rw[r.Ib]at sq;obtain⟨m1,m2⟩:=XH ns hne;refine⟨a,ns,by rw[z],sq,hne,fun M g1 g2=>?_⟩;have:M=QB ns:=Int.le_antisymm (g2 _ m1) (m2 M g1);rw[this];exact k ρ2 _ H2 (Xr.mpr rfl) S2 (E1.trans E2)
end
end SM
namespace L2
section
variable{X:Cx}
end
end L2
namespace SM
section
variable{X:Cx}{e:Expr}{f:RE}{p p' pos pos':Pos}
end
end SM
namespace L2
noncomputable def vh(lo c:Int)(n:Nat):It:=⟨fun i _=>i<n,fun i H x H'=>H'=H/\x=.int (lo+(i:Int)*c),fun i _=>n<=i⟩
theorem S9{P:Program}{w:World}{K:Frag}{tg:Expr}(it:Addr)(lo c:Int)(n:Nat):BH P w K tg (vh lo c n) [it] it (fun i h=>IsRangeIter h it (lo+(i:Nat)*c) ((n:Int)-(i:Nat)) c) where
 mem:=by simp
 obj:=fun i h st b hb=>by
  have e:b=it:=by simpa using hb
  subst e;exact⟨_,st,fun v z=>by
   have z':Data.fields _=Data.cell v:=z;cases z'⟩
 keep:=fun i h h' st k=>k it (by simp) _ st
 item:=by
  intro X hP hw hK hc i pins s σ H E I hf st hg;subst hP hw hK;obtain⟨f0,f1,f2,f3,f4,f5⟩:=hf it (by simp);have W:=Walks.range (prog:=X.prog) (w:=X.w) (I.ok.hd hc) it lo c n;refine W.item i s _ _ hg st fun v h' tk hv st' kk=>?_
  obtain⟨t,rfl⟩:=hv;have I1:Inv X pins σ H { s with heap:=h',toks:=tk }:=I.turned (fun b o hb e=>kk b o (by simpa using hb) e) f0 f1 f3 f4 f5;exact⟨_,rfl,CT (s:={ s with heap:=h',toks:=tk }) (n := "range_iterator") st' rfl rfl (by decide) ⟨.int (lo+(i:Int)*c),H,I1,⟨t,rfl⟩,⟨rfl,rfl⟩,st',fun b hb=>(hf b hb).1⟩⟩
 done:=by intro X hP hw hK hc i pins s σ H E I hf st hg;subst hP hw hK;obtain⟨f0,f1,f2,f3,f4,f5⟩:=hf it (by simp);exact wpAny_pyNext_range_end (I.ok.hd hc) st (by have:n<=i:=hg;omega) fun h' eb=>⟨rfl,I.turned (t':=s.toks) (fun b o hb e=>eb b o hb e) f0 f1 f3 f4 f5⟩
 self:=fun _ _ _ _ _ st h=>wpAny_pyIter_rangeiter st h
section
variable{X:Cx}{tg:Expr}
def Cg(ta:TA):TI:=fun σ H R=>ta σ H fun vs H1=>∃(i j:Int)(c:Nat),vs=[.int i,.int j,.int (c:Int)]/\(0<=i/\i<2^61/\0<=j/\j<2^61/\0<c/\c<1000)/\R (vh i c ((j-i+(c:Int)-1)/(c:Int)).toNat) H1
theorem SV{i j:Int}{c:Nat}(hc:0<c):Builtin.Range.rangeSize i j (c:Int)=(((j-i+(c:Int)-1)/(c:Int)).toNat:Int):=by
 have c0:(c:Int)>0:=by omega
 unfold Builtin.Range.rangeSize;rw[if_pos c0];by_cases h:i<j
 · rw[if_pos h,show j-i+(c:Int)-1=(j-i-1)+1*(c:Int) by omega,Int.add_mul_ediv_right _ _ (by omega)];have:0<=(j-i-1)/(c:Int):=Int.ediv_nonneg (by omega) (by omega);omega
 · rw[if_neg h];have:(j-i+(c:Int)-1)/(c:Int)<=0:=by have h1:(j-i+(c:Int)-1)/(c:Int)<1:=Int.ediv_lt_of_lt_mul (by omega) (by omega);omega
   omega
theorem O7{i j:Int}{c:Nat}(q:0<=i/\i<2^61/\0<=j/\j<2^61/\0<c/\c<1000):Builtin.Range.small i j (c:Int)=true:=by
 obtain⟨a1,a2,a3,a4,a5,a6⟩:=q;have c0:(c:Int)>0:=by omega
 have sz:Builtin.Range.rangeSize i j (c:Int)<=2^61+1/\0<=Builtin.Range.rangeSize i j (c:Int):=by
  rw[SV a5];refine⟨?_,by omega⟩;have h1:(j-i+(c:Int)-1)/(c:Int)<2^61+1:=Int.ediv_lt_of_lt_mul (by omega) (by
   have:(2^61+1:Int)*(c:Int)=2^61*(c:Int)+(c:Int):=by rw[Int.add_mul,Int.one_mul]
   have h2:(2^61:Int)*1<=2^61*(c:Int):=Int.mul_le_mul_of_nonneg_left (by omega) (by decide);omega)
  omega
 unfold Builtin.Range.small;simp only[Builtin.Range.rangeFitsLong,Bool.and_eq_true,Bool.or_eq_true,decide_eq_true_eq,beq_iff_eq,c0,if_true];omega
theorem x8 {a b d:Expr} {ta:TA} {p pos:Pos} (hg:Gl X "range") (hm:X.mg "range" =none) (ha:PA X [a,b,d] ta) (hs:starEach [a,b,d] X.env=[(false,eval a X.env),(false,eval b X.env),(false,eval d X.env)]) (hs2:starEach [b,d] X.env=[(false,eval b X.env),(false,eval d X.env)]) :
 PI X tg (.Call (.Name "range" p) [a,b,d] [] pos) (Cg ta):=by
 intro pins s σ H R I h;refine Call_ (nH I hg hm boot_range (PyProof.Rows.callWith_type1 (gB (ha pos pins s σ H _ I h) fun us s1 zz=>?_) (by rw[hs,hs2]) (by rw[hs2];rfl)));obtain⟨vs,H1,I1,r1,q1⟩:=zz;obtain⟨i,j,c,e,qq,q⟩:=q1;subst e;cases r1 with
 | cons r rr=>
  cases rr with
  | cons r' rr=>
   cases rr with
   | cons r'' rr=>
    cases rr;obtain⟨t,rfl⟩:=r;obtain⟨t',rfl⟩:=r';obtain⟨t'',rfl⟩:=r'';have c5:=qq.2.2.2.2.1;have c6:=qq.2.2.2.2.2;refine call_range_3 (show((c:Nat):Int)≠0 by omega) ?_ (Or.inl (PyProof.noPylong_small (by omega)));refine wpAny_pyIter_range (IsRange.new ..) (O7 qq) ?_;have I2:Inv X pins σ H1 { s1 with heap:=s1.heap.push { cls:=.type "range",data:=.fields #[.int i t,.int j t',.int (c:Int) t''] },toks:=s1.toks }:=I1.kept fun b o e=>Heap.get?_push_of_some _ e
    refine⟨(s1.heap.push { cls:=.type "range",data:=.fields #[.int i t,.int j t',.int (c:Int) t''] }).objs.size,[(s1.heap.push { cls:=.type "range",data:=.fields #[.int i t,.int j t',.int (c:Int) t''] }).objs.size],_,_,H1,rfl,
     I2.kept (t':=s1.toks) fun b o e=>Heap.get?_push_of_some _ e,S9 _ i c ((j-i+(c:Int)-1)/(c:Int)).toNat,?_,fun b hb=>?_,q⟩
    · have e1:i+((0:Nat):Int)*(c:Int)=i:=by simp
      have e2:((((j-i+(c:Int)-1)/(c:Int)).toNat:Nat):Int)-((0:Nat):Int)=Builtin.Range.rangeSize i j (c:Int):=by rw[SV c5];omega
      show IsRangeIter _ _ (i+((0:Nat):Int)*(c:Int)) (((((j-i+(c:Int)-1)/(c:Int)).toNat:Nat):Int)-((0:Nat):Int)) (c:Int);rw[e1,e2];exact Heap.get?_push_size _ rfl
    · have e:b=(s1.heap.push { cls:=.type "range",data:=.fields #[.int i t,.int j t',.int (c:Int) t''] }).objs.size:=by simpa using hb
      subst e;exact I2.Vm (zdS _) (I2.hok.fresh (zdS _))
end
end L2
namespace SM
noncomputable def EZ(f g:RE)(c:Nat):RI:=fun l h=>(f l h).bind fun r=>(g l r.2).bind fun q=>match r.1,q.1 with
 | .int i,.int j=>if 0<=i/\i<2^61/\0<=j/\j<2^61/\0<c/\c<1000 then some (.vals ((List.range ((j-i+(c:Int)-1)/(c:Int)).toNat).map fun(k:Nat)=>Dt.int (i+(k:Int)*(c:Int))),q.2)else none | _,_=>none
noncomputable def sI:tD:=fun a b h=>match a,b with
 | .tup xs,.tup ys=>if xs ≠ []/\xs.length+ys.length<=sizeLine then some (.tup (xs++ys),h)else none
 | _,_=>none
noncomputable def AE(f:Str)(v:Dt):List (Str×Dt)->List (Str×Dt)
 | []=>[(f,v)]
 | (g,x)::r=>if g=f then(g,v)::r else(g,x)::AE f v r
noncomputable def sD(f:Str):List (Str×Dt)->Option Dt
 | []=>none
 | (g,x)::r=>if f=g then some x else sD f r
def SG(x f:Str)(fo:RE):RE:=fun l h=>(fo l h).bind fun r=>match r.1 with
 | .ref n=>(match r.2[n]? with
  | some (.ins y fs)=>if y=x then(sD f fs).bind fun d=>some (d,r.2)else none
  | _=>none)
 | _=>none
def jI(x f:Str)(fo fe:RE):RS:=fun l h=>(fe l h).bind fun r=>(fo l r.2).bind fun q=>match q.1 with
 | .ref n=>(match q.2[n]? with
  | some (.ins y fs)=>if y=x/\fs.length<1000 then some (.nx l (q.2.set n (.ins y (AE f r.1 fs))))else none
  | _=>none)
 | _=>none
noncomputable def pO(x:Str)(F:LB)(g:RA):RE:=fun l h=>(g l h).bind fun r=>(F (.ref r.2.length::r.1) (r.2++[.ins x []])).bind fun q=>match q.1 with
 | .non=>some (.ref r.2.length,q.2)
 | _=>none
def nI(x m:Str)(F:LB)(fo:RE)(g:RA):RE:=fun l h=>(fo l h).bind fun r=>match r.1 with
 | .ref n=>(match r.2[n]? with
  | some (.ins y fs)=>if y=x/\sD m fs=none then(g l r.2).bind fun q=>F (.ref n::q.1) q.2 else none
  | _=>none)
 | _=>none
section
variable{X:Cx}{tg:Expr}
theorem D8 {a b:Expr} {f g:RE} {c:Nat} {p pos:Pos} {d:Expr} (hg:Gl X "range") (hm:X.mg "range" =none) (ha:EM X a f) (hb:EM X b g) (hd:EM X d (eC (.int (c:Int)))) (hs:sB a=true:=by rfl) (hs2:sB b=true:=by rfl) (hs3:sB d=true:=by rfl) :
 IM X tg (.Call (.Name "range" p) [a,b,d] [] pos) (EZ f g c):=by
 with_unfolding_all
  exact PI.imp (x8 hg hm (kD ha (kD hb (kD hd oE (lB hs3 _ _)) (lB hs2 _ _)) (lB hs _ _)) (by rw[lB hs,lB hs2,lB hs3];rfl) (by rw[lB hs2,lB hs3];rfl)) fun σ H R zz=>by
   obtain⟨ρ,l,h,s,h',S,L,e,k⟩:=zz;obtain⟨⟨d1,h1⟩,e1,e⟩:=lA e;obtain⟨⟨d2,h2⟩,e2,e⟩:=lA e;refine⟨ρ,l,h,d1,h1,S,L,e1,fun ρ1 v H1 R1 S1 E1=>⟨ρ1,l,h1,d2,h2,S1,L.ext E1,e2,fun ρ2 u H2 R2 S2 E2=>⟨ρ2,l,h2,.int (c:Int),h2,S2,L.ext (E1.trans E2),rfl,fun ρ3 u3 H3 R3 S3 E3=>?_⟩⟩⟩;cases d1 with
   | int i=>
    cases d2 with
    | int j=>
     obtain⟨cc,e⟩:=dE e;cases e;refine⟨i,j,c,by rw[Xr.mp R1,Xr.mp R2,Xr.mp R3],cc,k ρ3 _ H3 (fun H4 ρ4 h4 E4 S4 n=>?_) S3 (E1.trans (E2.trans E3))⟩;simp only[Src.at,getElem?_map];by_cases hi:n<((j-i+(c:Int)-1)/(c:Int)).toNat
     · rw[getElem?_range hi];refine⟨hi,fun v H5 q=>?_⟩;obtain⟨rfl,rfl⟩:=q;exact⟨Xr.mpr rfl,Ext.refl _ _,S4⟩
     · rw[getElem?_eq_none (by simpa using Nat.not_lt.mp hi)];exact Nat.not_lt.mp hi
    | _=>cases e
   | _=>cases e
theorem VX:OM X (binaryOp .Add) sI:=by
 with_unfolding_all
  exact Gd.imp Iv fun x y H Q zz=>by
   obtain⟨ρ,h,d1,d2,d,h',S,R1,R2,e,k⟩:=zz;cases d1 with
   | tup xs=>
    cases d2 with
    | tup ys=>
     obtain⟨⟨hx,hz⟩,e⟩:=dE e;cases e;obtain⟨a,vs,z1,q1,r1⟩:=vf.mp R1;obtain⟨b,ws,z2,q2,r2⟩:=vf.mp R2;refine⟨a,b,vs,ws,z1,z2,q1.sq,q2.sq,fun z=>?_,by rw[r1.length,r2.length];exact hz,fun z=>?_,fun z p hp=>k ρ _ _ (SK S (r1.append r2) hp) (S.fresh hp) (Ext.fresh hp)⟩
     · have:=r1.length;rw[z]at this;exact hx (length_eq_zero_iff.mp this.symm)
     · have hl:=r2.length;rw[z]at hl;have hy:ys=[]:=length_eq_zero_iff.mp hl.symm;subst hy;rw[zdU]at k;exact k ρ _ _ (z1 ▸ R1) S (Ext.refl _ _)
    | _=>cases e
   | _=>cases e
end
def sO(f:RE):RI:=fun l h=>(f l h).bind fun r=>match r.1 with
 | .lst xs=>some (.vals (pI 0 xs),r.2)
 | .ref n=>(match r.2[n]? with
  | some (.lst _)=>some (.en n,r.2)
  | _=>none)
 | _=>none
theorem Uq {X:Cx} {elts:List Expr} {x1} {tp p pos:Pos} {a:Expr} {f:RE} (hg:Gl X "enumerate") (hm:X.mg "enumerate" =none) (ha:EM X a f) (hs:sB a=true:=by rfl):IM X (.Tuple elts x1 tp) (.Call (.Name "enumerate" p) [a] [] pos) (sO f):=by
 with_unfolding_all
  refine PI.imp (Vv hg hm (kD ha oE (lB hs _ _)) (lB hs _ _)) fun σ H R zz=>?_
  obtain⟨ρ,l,h,s,h',S,L,e,k⟩:=zz;obtain⟨⟨d1,h2⟩,e1,e⟩:=lA e;refine⟨ρ,l,h,d1,h2,S,L,e1,fun ρ1 v H1 R1 S1 E1=>?_⟩;cases d1 with
  | lst xs=>
   cases e;obtain⟨b,ws,rfl,q,r⟩:=jf.mp R1;refine⟨b,rfl,⟨ws,q.sq⟩,k ρ1 _ H1 (fun H2 ρ2 h2 E2 S2 i=>?_) S1 E1⟩;have q2:=q.same E2;have r2:=Wr.same E2 _ r;simp only[Src.at,kW,Nat.zero_add];cases ei:xs[i]? with
   | none=>refine⟨ws,q2.sq,?_⟩;rw[r.length];exact getElem?_eq_none_iff.mp ei
   | some d=>obtain⟨v,g1,g2⟩:=r2.get ei;refine⟨⟨ws,v,q2.sq,g1⟩,fun u H3 y=>?_⟩;obtain⟨p0,y0,hp,rfl,gy,rfl⟩:=y;have g3:=gy ws q2.sq;rw[g1]at g3;cases g3;exact⟨SK S2 (.cons (Xr.mpr rfl) (.cons g2 .nil)) hp,Ext.fresh hp,S2.fresh hp⟩
  | ref n=>
   dsimp only at e;split at e
   · rename_i xs0 q0;cases e;obtain⟨b,rfl,hb⟩:=zf.mp R1;obtain⟨Ep,g0,_⟩:=S1.lst hb q0;refine⟨b,rfl,⟨Ep,Td.of g0⟩,k ρ1 _ H1 (fun H2 ρ2 h2 E2 S2 i=>?_) S1 E1⟩;have hb2:=E2.ix _ _ hb;simp only[Src.at];cases q:h2[n]? with
     | none=>trivial
     | some o=>
      cases o with
      | lst xs=>
       obtain⟨ws,g1,r⟩:=S2.lst hb2 q;dsimp only;cases ei:xs[i]? with
       | none=>refine⟨ws,Td.of g1,?_⟩;rw[r.length];exact getElem?_eq_none_iff.mp ei
       | some d=>obtain⟨v,g2,g3⟩:=r.get ei;refine⟨⟨ws,v,Td.of g1,g2⟩,fun u H3 y=>?_⟩;obtain⟨p0,y0,hp,rfl,gy,rfl⟩:=y;have g4:=gy ws (Td.of g1);rw[g2]at g4;cases g4;exact⟨SK S2 (.cons (Xr.mpr rfl) (.cons g3 .nil)) hp,Ext.fresh hp,S2.fresh hp⟩
      | _=>trivial
   · cases e
  | _=>cases e
theorem sU{c:Prop}[Decidable c]{α:Type}{x:Option α}{b:α}(e:(if c then x else none)=some b):c/\x=some b:=by
 by_cases h:c
 · rw[if_pos h]at e;exact⟨h,e⟩
 · rw[if_neg h]at e;cases e
noncomputable def clsOf(K:Frag)(x:Str)(C:Addr):Prop:=nsIn K mainGlobals x=some (some (.ref C))
theorem clsOf.inj{K:Frag}{x:Str}{C C':Addr}(h:clsOf K x C)(h':clsOf K x C'):C=C':=by have:=h.symm.trans h';cases this;rfl
theorem dS{K:Frag}{H:Hp}{ρ:Rg}{f:Str}:∀{fs:List (Str×Dt)}{vs:List (Str×V)},fs.map (·.1)=vs.map (·.1)->Wr K H ρ (fs.map (·.2)) (vs.map (·.2))->
 (∀d,sD f fs=some d->∃v,vs.lookup f=some v/\Yr K H ρ d v)/\(sD f fs=none->vs.lookup f=none)
 | [],[],_,_=>⟨(fun _ h=>by cases h),fun _=>rfl⟩
 | [],_::_,e,_=>by cases e
 | _::_,[],e,_=>by cases e
 | (x,d)::fs,(y,v)::vs,e,r=>by
  simp only[zdH,List.cons.injEq]at e;obtain⟨e0,e⟩:=e;subst e0;obtain⟨v',rr,q,h1,h2⟩:=Wr.Bf r;cases q;obtain⟨i1,i2⟩:=dS (f:=f) e h2;by_cases z:f=x
  · have zb:(f==x)=true:=beq_iff_eq.mpr z;refine⟨fun d' h=>?_,fun h=>?_⟩
    · simp only[sD,if_pos z]at h;cases h;exact⟨v,by simp only[List.lookup,zb],h1⟩
    · simp only[sD,if_pos z]at h;cases h
  · have zb:(f==x)=false:=by rw[<- Bool.not_eq_true,beq_iff_eq];exact z
    refine⟨fun d' h=>?_,fun h=>?_⟩
    · simp only[sD,if_neg z]at h;obtain⟨w,w1,w2⟩:=i1 d' h;exact⟨w,by simp only[List.lookup,zb];exact w1,w2⟩
    · simp only[sD,if_neg z]at h;simp only[List.lookup,zb];exact i2 h
theorem YW{K:Frag}{H:Hp}{ρ:Rg}{f:Str}{d:Dt}{v:V}(rd:Yr K H ρ d v):∀{fs:List (Str×Dt)}{vs:List (Str×V)},fs.map (·.1)=vs.map (·.1)->Wr K H ρ (fs.map (·.2)) (vs.map (·.2))->
 (AE f d fs).map (·.1)=(L2.wB f v vs).map (·.1)/\Wr K H ρ ((AE f d fs).map (·.2)) ((L2.wB f v vs).map (·.2))
 | [],[],_,_=>⟨rfl,.cons rd .nil⟩
 | [],_::_,e,_=>by cases e
 | _::_,[],e,_=>by cases e
 | (x,d0)::fs,(y,v0)::vs,e,r=>by
  simp only[zdH,List.cons.injEq]at e;obtain⟨e0,e⟩:=e;subst e0;obtain⟨v',rr,q,h1,h2⟩:=Wr.Bf r;cases q;by_cases z:x=f
  · simp only[AE,L2.wB,if_pos z,zdH];exact⟨by rw[e],.cons rd h2⟩
  · obtain⟨i1,i2⟩:=YW rd (f:=f) e h2;simp only[AE,L2.wB,if_neg z,zdH];exact⟨by rw[i1],.cons h1 i2⟩
structure uJ(K:Frag)(x f:Str):Prop where
 ex:∃C,clsOf K x C/\Cls K C/\Wc K C f
structure QG(P:Program)(w:World)(K:Frag)(mg:Str->Option Value)(base:Heap)(k n:Nat)(x m:Str)(F:LB):Prop where
 ex:∃C f fd ps,clsOf K x C/\Cls K C/\MJ K C m f/\Od P w K mg base RF k f fd ps (QI K n F)/\Binds K fd ps []
 len:∀ds h r,F ds h=some r->ds.length=n
structure ZK(K:Frag)(x m qual:Str)(st:Stmt)(ps:List Str):Prop where
 ex:∃C f fd,clsOf K x C/\Cls K C/\MJ K C m f/\Fl K m qual st f fd/\Binds K fd ps []
structure QO(P:Program)(w:World)(K:Frag)(mg:Str->Option Value)(base:Heap)(k n:Nat)(x:Str)(F:LB):Prop where
 ex:∃C f fd ps,clsOf K x C/\Mk K C f/\Od P w K mg base RF k f fd ps (QI K n F)/\mg x=some (.ref C)/\Binds K fd ps []
 len:∀ds h r,F ds h=some r->ds.length=n
structure WS(K:Frag)(mg:Str->Option Value)(x qual:Str)(st:Stmt)(ps:List Str):Prop where
 ex:∃C f fd,clsOf K x C/\Mk K C f/\Fl K "__init__" qual st f fd/\mg x=some (.ref C)/\Binds K fd ps []
section
variable{P:Program}{w:World}{K:Frag}{mg:Str->Option Value}{base:Heap}
theorem TX{x m qual:Str}{st:Stmt}{N ps:List Str}{k n mm:Nat}{body:RS}(D:ZK K x m qual st ps)(S:SA N ps (xA st))(hn:ps.length=n)(hm:N.length=mm)
 (hb:∀(f:Addr)(cdv:Value)(A:Around)(outer:List Env)(s:Shared)(H:Hp)(E:XK),Tf k (A.deeper (envOfC qual (xA st) s.heap.objs.size f cdv))->
  DH (dF RF P w K mg base N qual (xA st) f cdv A outer s H E).Bl (jD st) body):QG P w K mg base (k+1) n x m (fC n mm body):=by
 with_unfolding_all subst hn hm;obtain⟨C,f,fd,c1,c2,c3,hF,hB⟩:=D.ex;exact⟨⟨C,f,fd,ps,c1,c2,c3,qO hF S fun cdv A outer s H E hr=>hb f cdv A outer s H E hr,hB⟩,fun ds h r e=>QN e⟩
theorem nq{x m qual:Str}{st:Stmt}{ps:List Str}{k n:Nat}(D:ZK K x m qual st ps):QG P w K mg base k n x m (fun _ _=>none):=by
 with_unfolding_all
  obtain⟨C,f,fd,c1,c2,c3,hF,hB⟩:=D.ex;refine⟨⟨C,f,fd,ps,c1,c2,c3,⟨fun vs H Q E h=>?_,fun A outer s H args us vs Q E hr he hb hv h=>?_⟩,hB⟩,fun ds h r e=>by cases e⟩
  · obtain⟨ρ,ds,h,d,h',_,_,_,e,_⟩:=h;cases e
  · obtain⟨ρ,ds,h,d,h',_,_,_,e,_⟩:=h;cases e
theorem qx{x qual:Str}{st:Stmt}{N ps:List Str}{k n mm:Nat}{body:RS}(D:WS K mg x qual st ps)(S:SA N ps (xA st))(hn:ps.length=n)(hm:N.length=mm)
 (hb:∀(f:Addr)(cdv:Value)(A:Around)(outer:List Env)(s:Shared)(H:Hp)(E:XK),Tf k (A.deeper (envOfC qual (xA st) s.heap.objs.size f cdv))->
  DH (dF RF P w K mg base N qual (xA st) f cdv A outer s H E).Bl (jD st) body):QO P w K mg base (k+1) n x (fC n mm body):=by
 with_unfolding_all subst hn hm;obtain⟨C,f,fd,c1,c2,hF,c3,hB⟩:=D.ex;exact⟨⟨C,f,fd,ps,c1,c2,qO hF S fun cdv A outer s H E hr=>hb f cdv A outer s H E hr,c3,hB⟩,fun ds h r e=>QN e⟩
end
theorem FZ{H:Hp}{a C dx:Addr}{vs:List (Str×V)}(h:H a=some (.ins C dx vs)):eU H a:=fun _ _ e=>by rw[h]at e;cases e
section
variable{X:Cx}{e o value:Expr}{es:List Expr}{x f m:Str}{fo fe:RE}{g:RA}{pos pos' apos p:Pos}{k k' n:Nat}{F:LB}
theorem aL(cl:uJ X.K x f)(ha:EM X e fo)(hb:attributeBase e f X.env (eval e X.env)=eval e X.env:=by rfl):EM X (.Attribute e f pos) (SG x f fo):=by
 with_unfolding_all
  exact PE.imp (Ak ha hb) fun σ H Q zz=>by
   obtain⟨ρ,l,h,d,h',S,L,e,k⟩:=zz;obtain⟨⟨d1,h1⟩,e1,e⟩:=lA e;refine⟨ρ,l,h,d1,h1,S,L,e1,fun ρ1 v H1 R1 S1 E1=>?_⟩;cases d1 with
   | ref n=>
    dsimp only at e;split at e
    · rename_i y fs q;obtain⟨hy,e3⟩:=sU e;subst hy;obtain⟨d2,q2,e4⟩:=lA e3;cases e4;obtain⟨a,z,ha⟩:=zf.mp R1;obtain⟨C,dx,vs,c1,g1,g2,g3⟩:=S1.ob n a _ ha q;obtain⟨C',c2,c3,c4⟩:=cl.ex;have cc:C'=C:=clsOf.inj c2 c1;subst cc;obtain⟨v2,w1,w2⟩:=(dS g2 g3).1 _ q2;exact⟨a,C',dx,vs,v2,z,g1,c3,c4,w1,k ρ1 _ _ w2 S1 E1⟩
    · cases e
   | _=>cases e
theorem oO(cl:uJ X.K x f)(ha:EM X o fo)(hv:EM X value fe)(hs:swapsWith value (some (.Attribute o f pos')) pos.line X.env=pure false:=by rfl):ZM X (.Assign [.Attribute o f pos'] value pos) (jI x f fo fe):=by
 with_unfolding_all
  exact PS.imp (Dw ha hv hs) fun D σ H zz=>by
   obtain⟨ρ,l,h,r,S,L,e,k⟩:=zz;obtain⟨⟨v,hv⟩,e1,e⟩:=lA e;obtain⟨⟨d,hd⟩,e2,e⟩:=lA e;refine⟨ρ,l,h,v,hv,S,L,e1,fun ρ1 u H1 R1 S1 E1=>⟨ρ1,l,hv,d,hd,S1,L.ext E1,e2,fun ρ2 y H2 R2 S2 E2=>?_⟩⟩;cases d with
   | ref n=>
    dsimp only at e;split at e
    · rename_i y fs q;obtain⟨⟨hy,hl⟩,e⟩:=dE e;cases e;subst hy;obtain⟨a,zz,ha⟩:=zf.mp R2;obtain⟨C,dx,vs,c1,g1,g2,g3⟩:=S2.ob n a _ ha q;obtain⟨C',c2,c3,c4⟩:=cl.ex;have cc:C'=C:=clsOf.inj c2 c1;subst cc;have hm:=mem_of_getElem? ha;have hlen:vs.length=fs.length:=by have:=congrArg List.length g2;simpa using this.symm
      obtain⟨p1,p2⟩:=YW (f:=f) (Yr.ext E2 _ R1) g2 g3;refine⟨a,C',dx,vs,zz,g1,c3,c4,by rw[hlen];exact hl,?_⟩;exact k ρ2 σ _ (S2.write ha (FZ g1) ⟨C',dx,_,c1,LC,p1,p2.ext (Ext.write hm (FZ g1))⟩) (L.ext (E1.trans (E2.trans (Ext.write hm (FZ g1))))) (E1.trans (E2.trans (Ext.write hm (FZ g1))))
    · cases e
   | _=>cases e
theorem Mq (c:QO X.prog X.w X.K X.mg X.base k n x F) (hr:Tf k' X.A) (hk:k+1<=k') (hg:Gl X x) (ha:AM X (e::es) g) (hdb:(x==("__debug__" :Str))=false:=by decide)
 (he:sB e=true:=by rfl) (hpl:es.all sB=true:=by rfl):EM X (.Call (.Name x p) (e::es) [] pos) (pO x F g):=by
 with_unfolding_all
  obtain⟨C,f,fd,ps,c1,c2,c3,c4,c5⟩:=c.ex;exact PE.imp (Rv c2 c3 (hr.mono hk) hg c4 c5 .nil (E:=E0) qT ha hdb (lB he _ _) (iJ hpl)) fun σ H Q zz=>by
   obtain⟨ρ,l,h,d,h',S,L,e,k⟩:=zz;obtain⟨⟨ds1,h1⟩,e1,e⟩:=lA e;obtain⟨⟨d2,h2⟩,e2,e⟩:=lA e;cases d2 with
   | non=>
    cases e;refine⟨ρ,l,h,ds1,h1,S,L,e1,fun ρ1 vs H1 R1 S1 E1 xa dx hx hdx hne=>?_⟩;have S2:uf X.K ρ1 h1 (yB H1 dx (.own xa)):=S1.fresh hdx;have hx2:yB H1 dx (.own xa) xa=none:=by rw[NA (Ne.symm hne)];exact hx
    have S3:=S2.own (p:=xa) (o:=.ins C dx []) (u:=.ins x []) hx2 ⟨C,dx,[],c1,LC,rfl,.nil⟩;have E3:Ext ρ1 (ρ1.add xa) H1 (yB (yB H1 dx (.own xa)) xa (.ins C dx [])):=(Ext.fresh hdx).trans (Ext.own hx2);have at3:(ρ1.add xa).v[h1.length]?=some xa:=by simp[Rg.add,<- S1.len]
    have R3:Wr X.K (yB (yB H1 dx (.own xa)) xa (.ins C dx [])) (ρ1.add xa) (.ref h1.length::ds1) (.ref xa::(vs++[])):=.cons (zf.mpr ⟨xa,rfl,at3⟩) (by rw[zdU];exact R1.ext E3);exact⟨ρ1.add xa,_,_,.non,h2,S3,R3,c.len _ _ _ e2,e2,fun ρ' v H' R' S' E'=>⟨Af.mp R',k ρ' _ H' (zf.mpr ⟨xa,rfl,E'.get at3⟩) S' (E1.trans (E3.trans E'))⟩⟩
   | _=>cases e
theorem qS{pl:Sem Bool}(c:QG X.prog X.w X.K X.mg X.base k n x m F)(hr:Tf k' X.A)(hk:k<=k')(ho:EM X o fo)(ha:AM X (e::es) g)
 (he:sB e=true:=by rfl) (hpl:es.all sB=true:=by rfl)
 (ht:eval (.Call (.Attribute o m apos) (e::es) [] pos) X.env=(do
  let ov <- eval o X.env
  standAt apos.atName
  let (f,first) <- holding [ov] (getMethod ov m pl)
  callWith pos f first (backTo pos (starEach (e::es) X.env)) (backToKw pos (keywordEach [] X.env))):=by rfl):EM X (.Call (.Attribute o m apos) (e::es) [] pos) (nI x m F fo g):=by
 with_unfolding_all
  obtain⟨C,f,fd,ps,c1,c2,c3,c4,c5⟩:=c.ex;exact PE.imp (Sv (pl:=pl) ho c2 c3 c4 (hr.mono hk) c5 .nil (E:=E0) qT ha (lB he _ _) (iJ hpl) ht) fun σ H Q zz=>by
   obtain⟨ρ,l,h,d,h',S,L,e,k⟩:=zz;obtain⟨⟨d1,h1⟩,e1,e⟩:=lA e;refine⟨ρ,l,h,d1,h1,S,L,e1,fun ρ1 v H1 R1 S1 E1=>?_⟩;cases d1 with
   | ref nn=>
    dsimp only at e;split at e
    · rename_i y fs q;obtain⟨⟨hy,hl⟩,e3⟩:=sU e;subst hy;obtain⟨⟨ds,h2⟩,e2,e4⟩:=lA e3;obtain⟨a,z,ha⟩:=zf.mp R1;obtain⟨C',dx,vs,c1',g1,g2,g3⟩:=S1.ob nn a _ ha q;have cc:C'=C:=clsOf.inj c1' c1;subst cc;refine⟨a,dx,vs,z,g1,(dS g2 g3).2 hl,ρ1,l,h1,ds,h2,S1,L.ext E1,e2,fun ρ2 us H2 R2 S2 E2=>?_⟩;exact⟨ρ2,_,h2,d,h',S2,.cons (Yr.ext E2 _ R1) (by rw[zdU];exact R2),c.len _ _ _ e4,e4,(k.ext E1).ext E2⟩
    · cases e
   | _=>cases e
end
structure OO(K:Frag)(x qual:Str)(st:Stmt)(dV:Value)(f:Addr)(fd:FuncData):Prop where
 ex:∃(oc:Value)(od:Option Addr)(kV doc pm:Value)(an:Option Addr)(cdv ct:Value)(osl:Array (Option Value)),
  fd=fnOf x qual (VE st) (jD st) (xA st) dV kV doc pm an cdv ct/\K.lookup f=some ⟨oc,od,.func fd,osl⟩/\PySem.W.codeIn K cdv qual=true
 kp:keepIn K (.ref f)=true
section
variable{P:Program}{w:World}{K:Frag}{mg:Str->Option Value}{base:Heap}
theorem Qq{x qual:Str}{st:Stmt}{f:Addr}{oc dV:Value}{od an:Option Addr}{osl:Array (Option Value)}{kV doc pm cdv ct:Value}(l:K.lookup f=some ⟨oc,od,.func (fnOf x qual (VE st) (jD st) (xA st) dV kV doc pm an cdv ct),osl⟩)
 (c:PySem.W.codeIn K cdv qual=true) (k:keepIn K (.ref f)=true):OO K x qual st dV f (fnOf x qual (VE st) (jD st) (xA st) dV kV doc pm an cdv ct):=⟨⟨oc,od,kV,doc,pm,an,cdv,ct,osl,rfl,l,c⟩,k⟩
theorem jy{x qual:Str}{st:Stmt}{dV:Value}{f:Addr}{fd:FuncData}{N ps:List Str}{k:Nat}{body:RS}(F:OO K x qual st dV f fd)(S:SA N ps (xA st))
 (hb:∀(cdv:Value)(A:Around)(outer:List Env)(s:Shared)(H:Hp)(E:XK),Tf k (A.deeper (envOfC qual (xA st) s.heap.objs.size f cdv))->
  DH (dF RF P w K mg base N qual (xA st) f cdv A outer s H E).Bl (jD st) body):Od P w K mg base RF (k+1) f fd ps (QI K ps.length (fC ps.length N.length body)):=by
 with_unfolding_all
  obtain⟨oc,od,kV,doc,pm,an,cdv,ct,osl,rfl,lk,hcd⟩:=F.ex;refine nZ lk hcd S (fun vs H Q E h=>?_) fun A outer s H vs Q E hr h=>?_
  · obtain⟨ρ,ds,h,d,h',S,R,hl,_⟩:=h;rw[R.length,hl]
  · obtain⟨ρ,ds,h,d,h',S,R,hl,e,k⟩:=h;refine⟨_,(hb cdv A outer s H E hr).Bl,?_⟩;unfold fC at e;rw[if_pos hl]at e;rw[<- hl]at e;split at e
    · rename_i d1 h1 q;cases e;exact⟨ρ,_,h,_,S,mN R,q,k⟩
    · rename_i l1 h1 q;cases e;exact⟨ρ,_,h,_,S,mN R,q,fun ρ' σ' H' S' L' E'=>k ρ' _ H' (Af.mpr rfl) S' E'⟩
    · cases e
structure vL(K:Frag)(mg:Str->Option Value)(x:Str)(st:Stmt)(ps:List Str)(gn:List Dt):Prop where
 ex:∃dV f fd ds Xc,OO K x x st dV f fd/\mg x=some (.ref f)/\Binds K fd ps ds/\Vals Xc ds/\∀H ρ,Wr K H ρ gn Xc
structure tL(P:Program)(w:World)(K:Frag)(mg:Str->Option Value)(base:Heap)(k n:Nat)(x:Str)(F:LB)(gn:List Dt):Prop where
 ex:∃f fd ps ds Xc,Od P w K mg base RF k f fd ps (QI K n F)/\mg x=some (.ref f)/\keepIn K (.ref f)=true/\Binds K fd ps ds/\Vals Xc ds/\∀H ρ,Wr K H ρ gn Xc
 len:∀ds h r,F ds h=some r->ds.length=n
theorem Rx{x:Str}{st:Stmt}{N ps:List Str}{k n m:Nat}{body:RS}{gn:List Dt}(D:vL K mg x st ps gn)(S:SA N ps (xA st))(hn:ps.length=n)(hm:N.length=m)
 (hb:∀(f:Addr)(cdv:Value)(A:Around)(outer:List Env)(s:Shared)(H:Hp)(E:XK),Tf k (A.deeper (envOfC x (xA st) s.heap.objs.size f cdv))->
  DH (dF RF P w K mg base N x (xA st) f cdv A outer s H E).Bl (jD st) body):tL P w K mg base (k+1) n x (fC n m body) gn:=by
 with_unfolding_all subst hn hm;obtain⟨dV,f,fd,ds,Xc,hF,h1,h2,h3,h4⟩:=D.ex;exact⟨⟨f,fd,ps,ds,Xc,jy hF S fun cdv A outer s H E hr=>hb f cdv A outer s H E hr,h1,hF.kp,h2,h3,h4⟩,fun ds h r e=>QN e⟩
end
section
variable{X:Cx}{k k' n:Nat}{F:LB}{x:Str}{p pos:Pos}{e:Expr}{es:List Expr}{g:RA}{gn:List Dt}
theorem u9 (c:tL X.prog X.w X.K X.mg X.base k n x F gn) (hr:Tf k' X.A) (hk:k<=k') (hg:Gl X x) (ha:AM X (e::es) g) (hdb:(x==("__debug__" :Str))=false:=by decide)
 (he:sB e=true:=by rfl) (hpl:es.all sB=true:=by rfl) :
 EM X (.Call (.Name x p) (e::es) [] pos) (wA F gn g):=by
 with_unfolding_all obtain⟨f,fd,ps,ds,Xc,h1,h2,h3,h4,h5,h6⟩:=c.ex;exact HW h1 (hr.mono hk) hg h2 h3 h4 h5 h6 ha (fun F' e ds h r q=>c.len ds h r (e ▸ q)) hdb he hpl
end
def iB(K:Frag)(x:Str)(st:Stmt):Prop:=∃(f:Addr)(oc:Value)(od:Option Addr)(kV dc pm:Value)(an:Option Addr)(cd ct:Value)(sl:Array (Option Value)),nsIn K mainGlobals x=some (some (.ref f))/\
 K.lookup f=some ⟨oc,od,.func (fnOf x x (VE st) (jD st) (xA st) .none kV dc pm an cd ct),sl⟩/\PySem.W.codeIn K cd x=true/\keepIn K (.ref f)=true
def fZ(K:Frag)(x:Str)(st:Stmt)(d:Int):Prop:=∃(f:Addr)(oc:Value)(od:Option Addr)(td:Addr)(kV dc pm:Value)(an:Option Addr)(cd ct:Value)(sl:Array (Option Value))(ot:Obj)(t:Tok)(nt:Nat),nsIn K mainGlobals x=some (some (.ref f))/\
 K.lookup f=some ⟨oc,od,.func (fnOf x x (VE st) (jD st) (xA st) (.ref td) kV dc pm an cd ct),sl⟩/\PySem.W.codeIn K cd x=true/\keepIn K (.ref f)=true/\K.lookup td=some ot/\ot.data=.seq #[.int d t] nt
def kL(K:Frag)(C:Addr)(m qual:Str)(st:Stmt):Prop:=∃(f:Addr)(oc:Value)(od:Option Addr)(kV dc pm:Value)(an:Option Addr)(cd ct:Value)(sl:Array (Option Value)),findIn K (.ref C) m=some (some (.ref f))/\PySem.W.isFn K (.ref f)=true/\
 K.lookup f=some ⟨oc,od,.func (fnOf m qual (VE st) (jD st) (xA st) .none kV dc pm an cd ct),sl⟩/\PySem.W.codeIn K cd qual=true/\keepIn K (.ref f)=true
structure uL(K:Frag)(x:Str)(C:Addr):Prop where
 ac:nsIn K mainGlobals x=some (some (.ref C))
 pg:PySem.W.plainGet K C Str.empty=true
 hd:PySem.W.hasDictIn K C=true
 po:PySem.W.plainOver K C=true
 sa:findIn K (.ref C) "__setattr__" =some (some (.builtin "object.__setattr__"))
 mkk:PySem.W.makesIn K C=true
 kc:keepIn K (.ref C)=true
section
variable{K:Frag}{h:Heap}{mg:Str->Option Value}{x m qual:Str}{st:Stmt}{ps:List Str}{C:Addr}{d:Int}
theorem pB(X:K.In h)(G:h.Ns mainGlobals mg)(D:iB K x st)(hb:∀(kV doc pm:Value)(an:Option Addr)(cdv ct:Value)(us:List Value),us.length=ps.length->bindArgs (fnOf x x (VE st) (jD st) (xA st) .none kV doc pm an cdv ct) ⟨us,[]⟩=pure (ps.zip us)):kB K mg x st ps:=by obtain⟨f,oc,od,kV,dc,pm,an,cd,ct,sl,a,l,c,k⟩:=D;have F:=UN l c k;exact⟨⟨f,_,F,PySem.W.mg_of X G a,F.binds hb⟩⟩
theorem Wx(X:K.In h)(G:h.Ns mainGlobals mg)(D:fZ K x st d)(hb:∀(s:Shared)(td:Addr)(ot:Obj)(t:Tok)(nt:Nat)(kV doc pm:Value)(an:Option Addr)(cdv ct:Value)(us:List Value),us.length=ps.length->s.heap.get? td=some ot->ot.data=.seq #[.int d t] nt->BindsTo s (fnOf x x (VE st) (jD st) (xA st) (.ref td) kV doc pm an cdv ct) ⟨us,[]⟩ (ps.zip (us++[]))):vL K mg x st ps []:=by obtain⟨f,oc,od,td,kV,dc,pm,an,cd,ct,sl,ot,t,nt,a,l,c,k,l2,e2⟩:=D;exact⟨⟨_,f,_,[],[],Qq l c k,PySem.W.mg_of X G a,fun s us KX hl=>hb s td ot t nt _ _ _ _ _ _ us (by simpa using hl) (KX _ _ l2) e2,.nil,fun _ _=>.nil⟩⟩
theorem mX(k:uL K x C)(D:kL K C m qual st)(hb:∀(kV doc pm:Value)(an:Option Addr)(cdv ct:Value)(us:List Value),us.length=ps.length->bindArgs (fnOf m qual (VE st) (jD st) (xA st) .none kV doc pm an cdv ct) ⟨us,[]⟩=pure (ps.zip us)):ZK K x m qual st ps:=by obtain⟨f,oc,od,kV,dc,pm,an,cd,ct,sl,a,i,l,c,k'⟩:=D;have F:=UN l c k';exact⟨⟨C,f,_,k.ac,⟨k.pg,k.hd,k.po,k.sa⟩,⟨a,i,k'⟩,F,F.binds hb⟩⟩
theorem F9 (X:K.In h) (G:h.Ns mainGlobals mg) (k:uL K x C) (D:kL K C "__init__" qual st) (hb:∀(kV doc pm:Value) (an:Option Addr) (cdv ct:Value) (us:List Value),us.length=ps.length->bindArgs (fnOf "__init__" qual (VE st) (jD st) (xA st) .none kV doc pm an cdv ct) ⟨us,[]⟩=pure (ps.zip us)):WS K mg x qual st ps:=by obtain⟨f,oc,od,kV,dc,pm,an,cd,ct,sl,a,i,l,c,k'⟩:=D;have F:=UN l c k';exact⟨⟨C,f,_,k.ac,⟨k.mkk,a,i,k.kc⟩,F,PySem.W.mg_of X G k.ac,F.binds hb⟩⟩
theorem tS{f:Str}(k:uL K x C)(n:findIn K (.ref C) f=some none):uJ K x f:=⟨⟨C,k.ac,⟨k.pg,k.hd,k.po,k.sa⟩,n⟩⟩
end
section
variable{Q:List Value->Prop}
theorem EL(h:Q []):∀us:List Value,us.length=0->Q us | [],_=>h
theorem WF{n:Nat}(h:∀a us,us.length=n->Q (a::us)):∀us:List Value,us.length=n+1->Q us | a::us,e=>h a us (Nat.succ.inj e)
theorem len1(h:∀a,Q [a]):∀us:List Value,us.length=1->Q us:=WF fun a=>EL (h a)
theorem BD(h:∀a b,Q [a,b]):∀us:List Value,us.length=2->Q us:=WF fun a=>WF fun b=>EL (h a b)
theorem wF(h:∀a b c,Q [a,b,c]):∀us:List Value,us.length=3->Q us:=WF fun a=>WF fun b=>WF fun c=>EL (h a b c)
theorem RJ(h:∀a b c d,Q [a,b,c,d]):∀us:List Value,us.length=4->Q us:=WF fun a=>WF fun b=>WF fun c=>WF fun d=>EL (h a b c d)
end
theorem dB{N P:List Str}{sc:Scope}(a:sc.kind=.function:=by exact rfl)(b:sc.isCoroutine=false:=by exact rfl)(c:sc.isGenerator=false:=by exact rfl)(d:N.Nodup:=by decide +kernel)(e:N.take P.length=P:=by exact rfl)
 (f:∀x∈P,sc.names.lookup x=some .local\/sc.names.lookup x=some .cell:=by decide +kernel) (g:∀y∈sc.names,y.2≠.free:=by decide +kernel):SA N P sc:=⟨a,b,c,d,e,f,g⟩
theorem EA {X:Cx} {k k' n:Nat} {x:Str} {F:LB} {e:Expr} {es:List Expr} {g:RA} {p pos:Pos} (c:aD X.prog X.w X.K X.mg X.base k n x F) (hr:Tf k' X.A) (ha:AM X (e::es) g) (hk:k<=k':=by decide) (hg:Gl X x:=by exact rfl) (hdb:(x==("__debug__" :Str))=false:=by decide)
 (he:sB e=true:=by rfl) (hpl:es.all sB=true:=by rfl):EM X (.Call (.Name x p) (e::es) [] pos) (wA F [] g):=pJ c hr hk hg ha hdb he hpl
end SM
namespace L2
section
variable{X:Cx}
end
end L2
namespace SM
section
variable{X:Cx}{a b:Expr}{fa fb:RE}
end
end SM
namespace L2
section
variable{X:Cx}
theorem Kv:Gd X (compareOp .IsNot) (fun x y H Q=>∃b c,x=.bl b/\y=.bl c/\Q (.bl (!(b==c))) H):=by intro pins s σ H x y v u Q I rx ry h;obtain⟨b,c,rfl,rfl,q⟩:=h;cases rx;cases ry;exact isnot_bool (cC I q rfl)
end
end L2
namespace SM
noncomputable def uO:tD:=fun a b h=>match a,b with
 | .bl d,.bl c=>some (.bl (!(d==c)),h)
 | _,_=>none
theorem Gv{X:Cx}:OM X (compareOp .IsNot) uO:=by
 with_unfolding_all
  exact Gd.imp Kv fun x y H Q zz=>by
   obtain⟨ρ,h,d1,d2,d,h',S,R1,R2,e,k⟩:=zz;unfold uO at e;split at e
   · cases e;rw[Zr]at R1 R2;exact⟨_,_,R1,R2,k ρ _ H (Zr.mpr rfl) S (Ext.refl _ _)⟩
   · cases e
noncomputable def cB{α β:Type}(o:Option α)(f:α->Option β):Option β:=o.bind f
@[simp] theorem nA{α β:Type}(a:α)(f:α->Option β):cB (some a) f=f a:=by rfl
@[simp] theorem Wt{α β:Type}(f:α->Option β):cB none f=none:=by rfl
@[simp] theorem Rt{α β:Type}{c:Prop}[Decidable c](a b:Option α)(k:α->Option β):cB (if c then a else b) k=if c then cB a k else cB b k:=by split<;>rfl
section
variable{l:LI}{h:HI}{f g fa fb fc:RE}
@[simp] theorem JA(d:Dt):eC d l h=some (d,h):=by rfl
noncomputable def HH(h:HI):Option (Option Dt)->Option (Dt×HI)
 | some (some d)=>some (d,h)
 | _=>none
@[simp] theorem sA(d:Dt):HH h (some (some d))=some (d,h):=by rfl
@[simp] theorem rA(i:Nat):eV i l h=HH h l[i]?:=by unfold eV HH;rfl
@[simp] theorem FA(op:tD):e2 op fa fb l h=cB (fa l h) fun r=>cB (fb l r.2) fun q=>op r.1 q.1 q.2:=by rfl
@[simp] theorem MA:fA l h=some ([],h):=by rfl
@[simp] theorem WA(r:RA):bA f r l h=cB (f l h) fun r'=>cB (r l r'.2) fun q=>some (r'.1::q.1,q.2):=by rfl
noncomputable def Ph:Dt×HI->Option (Bool×HI)
 | (.bl b,h)=>some (b,h)
 | _=>none
@[simp] theorem uB(b:Bool):Ph (.bl b,h)=some (b,h):=by rfl
@[simp] theorem jB:Wf f l h=cB (f l h) Ph:=by
 unfold cB;unfold Wf
 congr 1
 funext r
 obtain⟨d,h⟩:=r;cases d<;>rfl
@[simp] theorem Pg(t u:RT):HJ t u l h=cB (t l h) fun r=>if r.1=true then u l r.2 else some (false,r.2):=by rfl
@[simp] theorem zO(t u:RT):zG t u l h=cB (t l h) fun r=>if r.1=true then some (true,r.2)else u l r.2:=by rfl
@[simp] theorem kO(t:RT):uH t l h=cB (t l h) fun r=>some (!r.1,r.2):=by rfl
noncomputable def tZ(u:RE)(l:LI):Dt×HI->Option (Dt×HI)
 | (.bl true,h)=>u l h
 | (.bl false,h)=>some (.bl false,h)
 | _=>none
@[simp] theorem MW(u:RE)(b:Bool):tZ u l (.bl b,h)=if b=true then u l h else some (.bl false,h):=by cases b<;>rfl
@[simp] theorem yY(u:RE):AG f u l h=cB (f l h) (tZ u l):=by
 unfold cB;unfold AG
 congr 1
 funext r
 obtain⟨d,h⟩:=r;cases d<;>(try rfl);rename_i b;cases b<;>rfl
noncomputable def uZ:Dt×HI->Option (Dt×HI)
 | (.bl b,h)=>some (.bl (!b),h)
 | _=>none
@[simp] theorem Ot(b:Bool):uZ (.bl b,h)=some (.bl (!b),h):=by rfl
@[simp] theorem Ir:UL f l h=cB (f l h) uZ:=by
 unfold cB;unfold UL
 congr 1
 funext r
 obtain⟨d,h⟩:=r;cases d<;>rfl
@[simp] theorem ZY(t:RT):TL t f g l h=cB (t l h) fun r=>if r.1=true then f l r.2 else g l r.2:=by rfl
noncomputable def Eh(o':tD)(fc:RE)(l:LI)(q:Dt):Dt×HI->Option (Dt×HI)
 | (.bl true,h)=>(fc l h).bind fun r=>o' q r.1 r.2
 | (.bl false,h)=>some (.bl false,h)
 | _=>none
@[simp] theorem jz(o':tD)(q:Dt)(b:Bool):Eh o' fc l q (.bl b,h)=if b=true then cB (fc l h) fun r=>o' q r.1 r.2 else some (.bl false,h):=by cases b<;>rfl
@[simp] theorem yw(o o':tD):LF o o' fa fb fc l h=cB (fa l h) fun r=>cB (fb l r.2) fun q=>cB (o r.1 q.1 q.2) (Eh o' fc l q.1):=by
 unfold cB;unfold LF
 congr 1
 funext r
 congr 1
 funext q
 congr 1
 funext z
 obtain⟨d,h⟩:=z;cases d<;>(try rfl);rename_i b;cases b<;>rfl
@[simp] theorem pE(r:RA):rB r l h=cB (r l h) fun r=>if r.1.length<=sizeLine then some (.tup r.1,r.2)else none:=by rfl
@[simp] theorem gI(r:RA):SF r l h=cB (r l h) fun r=>if r.1.length<=sizeLine then some (.lst r.1,r.2)else none:=by rfl
@[simp] theorem LG(r:RA):uF r l h=cB (r l h) fun r=>if r.1.length<=sizeLine then some (.ref r.2.length,r.2++[.lst r.1])else none:=by rfl
noncomputable def wU:Dt×HI->Option (Dt×HI)
 | (.int b,h)=>some (.int (-b),h)
 | _=>none
@[simp] theorem nX(b:Int):wU (.int b,h)=some (.int (-b),h):=by rfl
@[simp] theorem WY:FE f l h=cB (f l h) wU:=by
 unfold cB;unfold FE
 congr 1
 funext r
 obtain⟨d,h⟩:=r;cases d<;>rfl
@[simp] theorem tE(i j:Int):YB (.int i) (.int j) h=some (.int (i+j),h):=by rfl
@[simp] theorem tI(i j:Int):XF (.int i) (.int j) h=some (.int (i-j),h):=by rfl
@[simp] theorem WN(i j:Int):qI (.int i) (.int j) h=some (.int (Builtin.bitAnd i j),h):=by rfl
@[simp] theorem Mr(i j:Int):FL (.int i) (.int j) h=some (.int (Builtin.bitOr i j),h):=by rfl
@[simp] theorem A0(i j:Int):HL (.int i) (.int j) h=some (.bl (decide (i<j)),h):=by rfl
@[simp] theorem xU(i j:Int):LH (.int i) (.int j) h=some (.bl (decide (i<=j)),h):=by rfl
@[simp] theorem KL(i j:Int):rL (.int i) (.int j) h=some (.bl (decide (j<i)),h):=by rfl
@[simp] theorem JL(i j:Int):fP (.int i) (.int j) h=some (.bl (decide (j<=i)),h):=by rfl
theorem PF{i j:Int}(c:Yn i j):TC (.int i) (.int j) h=some (.int (i*j),h):=by simp only[TC,oI,if_pos c]
theorem OF{i j:Int}(c:KJ i j):eE (.int i) (.int j) h=some (.int (i/j),h):=by simp only[eE,oI,if_pos c]
theorem oG{i j:Int}(c:0<j):iD (.int i) (.int j) h=some (.int (i%j),h):=by simp only[iD,oI,if_pos c]
theorem Ig{i j:Int}(c:sG i j):IL (.int i) (.int j) h=some (.int (i^j.toNat),h):=by simp only[IL,oI,if_pos c]
theorem vO{i j:Int}(c:sG i j):NH (.int i) (.int j) h=some (.int (i*2^j.toNat),h):=by simp only[NH,oI,if_pos c]
theorem qZ{i j:Int}(c:0<=j):VJ (.int i) (.int j) h=some (.int (i/2^j.toNat),h):=by simp only[VJ,oI,if_pos c]
@[simp] theorem YF(i j:Int):IC (.int i) (.int j) h=some (.bl (decide (i=j)),h):=by show some (Dt.bl (decide (V.int i=V.int j)),h)=_;simp
@[simp] theorem JI(i j:Int):yE (.int i) (.int j) h=some (.bl (!decide (i=j)),h):=by show some (Dt.bl (!decide (V.int i=V.int j)),h)=_;simp
@[simp] theorem ME(i j:Str):IC (.str i) (.str j) h=some (.bl (decide (i=j)),h):=by show some (Dt.bl (decide (V.str i=V.str j)),h)=_;simp
@[simp] theorem pT(i j:Str):yE (.str i) (.str j) h=some (.bl (!decide (i=j)),h):=by show some (Dt.bl (!decide (V.str i=V.str j)),h)=_;simp
theorem Hg{xs ys:List Dt}(c:pF xs ys=true):yE (.lst xs) (.lst ys) h=some (.bl (!HD xs ys),h):=by simp only[yE,if_pos c]
@[simp] theorem OG(d:Dt):ZG d .non h=some (.bl (NF d),h):=by rfl
@[simp] theorem OC{α:Type}(xs:List α)(k:Nat):Ac xs (k:Int)=xs[k]?:=by
 unfold Ac xI;rw[if_pos (by omega)];by_cases hk:k<xs.length
 · rw[if_pos (by omega)];simp
 · rw[if_neg (by omega)];simp;omega
@[simp] theorem RB{α:Type}(xs:List α):Ac xs 0=xs[0]?:=OC xs 0
@[simp] theorem OD{α:Type}(xs:List α):Ac xs 1=xs[1]?:=OC xs 1
@[simp] theorem mI{α:Type}(xs:List α):Ac xs 2=xs[2]?:=OC xs 2
@[simp] theorem HB(xs:List Dt)(i:Int):pA (.tup xs) (.int i) h=(Ac xs i).map fun d=>(d,h):=by rfl
@[simp] theorem dL(xs:List Dt)(i:Int):pA (.lst xs) (.int i) h=(Ac xs i).map fun d=>(d,h):=by rfl
theorem kF{n:Nat}{xs:List Dt}(e:h[n]?=some (.lst xs))(i:Int):pA (.ref n) (.int i) h=(Ac xs i).map fun d=>(d,h):=by simp only[pA,JD,JB,e,zdM]
noncomputable def JZ(g:RS):Rs->Option Rs
 | .nx l h=>g l h
 | r=>some r
@[simp] theorem YA(g:RS):JZ g (.nx l h)=g l h:=by rfl
@[simp] theorem iF(g:RS)(d:Dt):JZ g (.rt d h)=some (.rt d h):=by rfl
@[simp] theorem XA(f g:RS):jA f g l h=cB (f l h) (JZ g):=by
 unfold cB;unfold jA
 congr 1
@[simp] theorem YC:TB l h=some (.nx l h):=by rfl
@[simp] theorem mB(i:Nat):yA i f l h=cB (f l h) fun r=>some (.nx (l.set i (some r.1)) r.2):=by rfl
@[simp] theorem JE:TD f l h=cB (f l h) fun r=>some (.nx l r.2):=by rfl
@[simp] theorem EB:HA f l h=cB (f l h) fun r=>some (.rt r.1 r.2):=by rfl
@[simp] theorem OB(t:RT)(f g:RS):bE t f g l h=cB (t l h) fun r=>if r.1=true then f l r.2 else g l r.2:=by rfl
noncomputable def UG:Option Rs->Option (Dt×HI)
 | some (.rt d h')=>some (d,h')
 | some (.nx _ h')=>some (.non,h')
 | _=>none
@[simp] theorem KB(d:Dt):UG (some (.rt d h))=some (d,h):=by rfl
@[simp] theorem Oq:UG (some (.nx l h))=some (.non,h):=by rfl
@[simp] theorem Yt{c:Prop}[Decidable c](a b:Option Rs):UG (if c then a else b)=if c then UG a else UG b:=by split<;>rfl
@[simp] theorem xB(n N:Nat)(body:RS)(ds:List Dt):fC n N body ds h=if ds.length=n then UG (body (ds.map some++List.replicate (N-n) none) h)else none:=by unfold fC UG;rfl
@[simp] theorem eB(F:LB)(gn:List Dt)(g:RA):wA F gn g l h=cB (g l h) fun r=>F (r.1++gn) r.2:=by rfl
noncomputable def mP(go:LI->HI->Option Rs):Rs->Option Rs
 | .nx l h=>go l h
 | .ct l h=>go l h
 | .bk l h=>some (.nx l h)
 | .rt d h=>some (.rt d h)
@[simp] theorem Tg(go:LI->HI->Option Rs):mP go (.nx l h)=go l h:=by rfl
@[simp] theorem Jr(go:LI->HI->Option Rs):mP go (.ct l h)=go l h:=by rfl
@[simp] theorem UY(go:LI->HI->Option Rs)(d:Dt):mP go (.rt d h)=some (.rt d h):=by rfl
def wC(bd:RG)(body:RS):List Dt->LI->HI->Option Rs
 | [],l,h=>some (.nx l h)
 | x::xs,l,h=>(bd x l).bind fun l1=>(body l1 h).bind (mP (wC bd body xs))
theorem pW(bd:RG)(body:RS)(xs:List Dt):∀(n k:Nat)(l:LI)(h:HI),n=(xs.length-k)+1->k<=xs.length->uC bd body (.vals xs) n k l h=wC bd body (xs.drop k) l h:=by
 intro n
 induction n with
 | zero=>intro k l h e;omega
 | succ n ih=>
  intro k l h e hk;unfold uC;simp only[Src.at];by_cases hl:k<xs.length
  · rw[getElem?_eq_getElem hl,drop_eq_getElem_cons hl];simp only[wC]
    congr 1
    funext l1
    congr 1
    funext r
    cases r with
    | nx l' h'=>exact ih (k+1) l' h' (by omega) (by omega)
    | ct l' h'=>exact ih (k+1) l' h' (by omega) (by omega)
    | bk l' h'=>rfl
    | rt d h'=>rfl
  · rw[getElem?_eq_none (by omega),drop_eq_nil_of_le (by omega)];rfl
theorem Zt{g:RI}{xs:List Dt}{h':HI}(e:g l h=some (.vals xs,h'))(bd:RG)(body:RS):DC g bd body l h=wC bd body xs l h':=by unfold DC;rw[e];simp only[zdM,Src.fuel];exact pW bd body xs _ 0 _ _ (by omega) (by omega)
@[simp] theorem kG(i:Nat)(d:Dt):CA i d l=some (l.set i (some d)):=by rfl
def xE(bd:RG)(body:RS)(l:LI):Src×HI->Option Rs:=fun r=>uC bd body r.1 (r.1.fuel r.2) 0 l r.2
@[simp] theorem YD(g:RI)(bd:RG)(body:RS):DC g bd body l h=cB (g l h) (xE bd body l):=by rfl
@[simp] theorem EF(bd:RG)(body:RS)(xs:List Dt):xE bd body l (.vals xs,h)=wC bd body xs l h:=by unfold xE;simp only[Src.fuel];exact pW bd body xs _ 0 _ _ (by omega) (by omega)
noncomputable def IZ:Dt×HI->Option (Src×HI)
 | (.int j,h)=>if -(2^62)<=j/\j<2^62 then some (.vals ((List.range j.toNat).map fun(k:Nat)=>Dt.int (k:Int)),h)else none
 | _=>none
@[simp] theorem pL:JH f l h=cB (f l h) IZ:=by
 unfold cB;unfold JH
 congr 1
 funext r
 obtain⟨d,h⟩:=r;cases d<;>rfl
theorem FF{j:Int}(a:-(2^62)<=j)(b:j<2^62):IZ (.int j,h)=some (.vals ((List.range j.toNat).map fun(k:Nat)=>Dt.int (k:Int)),h):=if_pos ⟨a,b⟩
noncomputable def Lh:Dt->Dt×HI->Option (Src×HI)
 | .int i,(.int j,h)=>if -(2^62)<=i/\i<2^62/\-(2^62)<=j/\j<2^62 then some (.vals ((List.range (j-i).toNat).map fun(k:Nat)=>Dt.int (i+(k:Int))),h)else none
 | _,_=>none
@[simp] theorem F1:DZ f g l h=cB (f l h) fun r=>cB (g l r.2) (Lh r.1):=by
 unfold cB;unfold DZ
 congr 1
 funext r
 obtain⟨d,h⟩:=r
 congr 1
 funext q
 obtain⟨d',h'⟩:=q;cases d<;>cases d'<;>rfl
theorem Jz{i j:Int}(a:-(2^62)<=i)(a':i<2^62)(b:-(2^62)<=j)(b':j<2^62):Lh (.int i) (.int j,h)=some (.vals ((List.range (j-i).toNat).map fun(k:Nat)=>Dt.int (i+(k:Int))),h):=if_pos ⟨a,a',b,b'⟩
def OI:Dt×HI->Option (Src×HI)
 | (.lst xs,h)=>some (.vals xs,h)
 | (.ref n,h)=>if 0<Src.fuel (.rf n) h then some (.rf n,h)else none
 | _=>none
@[simp] theorem EG(xs:List Dt):OI (.lst xs,h)=some (.vals xs,h):=by rfl
@[simp] theorem LD:oC f l h=cB (f l h) OI:=by
 unfold cB;unfold oC pU;cases f l h with
 | none=>rfl
 | some r=>obtain⟨d,h⟩:=r;cases d<;>first | rfl | (simp[OI,Src.fuel];done)
noncomputable def aE(bd:RG)(tc:RT)(te:RE):List Dt->LI->HI->Option (List Dt×HI)
 | [],_,h=>some ([],h)
 | x::xs,l,h=>(bd x l).bind fun l1=>(tc l1 h).bind fun b=>if b.1=true then(te l1 b.2).bind fun r=>(aE bd tc te xs l1 r.2).bind fun q=>some (r.1::q.1,q.2)
  else aE bd tc te xs l1 b.2
theorem Q6(bd:RG)(tc:RT)(te:RE)(xs:List Dt)(hx:xs.length<sizeLine):∀(n k:Nat)(l:LI)(h:HI)(ys:List Dt),n=(xs.length-k)+1->k<=xs.length->ys.length<=k->
 SD bd tc te (.vals xs) n k l h ys=(aE bd tc te (xs.drop k) l h).bind fun q=>some (ys++q.1,q.2):=by
 intro n
 induction n with
 | zero=>intro k l h ys e;omega
 | succ n ih=>
  intro k l h ys e hk hy;unfold SD;simp only[Src.at];by_cases hl:k<xs.length
  · rw[getElem?_eq_getElem hl,drop_eq_getElem_cons hl];simp only[aE];cases bd xs[k] l with
    | none=>rfl
    | some l1=>
     simp only[zdM];cases tc l1 h with
     | none=>rfl
     | some b=>
      simp only[zdM];by_cases hb:b.1=true
      · simp only[if_pos hb];cases te l1 b.2 with
        | none=>rfl
        | some r=>
         simp only[zdM];rw[if_pos (by omega),ih (k+1) l1 r.2 _ (by omega) (by omega) (by simp;omega)];cases aE bd tc te (xs.drop (k+1)) l1 r.2 with
         | none=>rfl
         | some q=>simp
      · simp only[if_neg hb];exact ih (k+1) l1 b.2 ys (by omega) (by omega) (by omega)
  · rw[getElem?_eq_none (by omega),drop_eq_nil_of_le (by omega)];simp[aE]
def sE(bd:RG)(tc:RT)(te:RE)(l:LI):Src×HI->Option (List Dt×HI):=fun r=>SD bd tc te r.1 (r.1.fuel r.2) 0 l r.2 []
theorem fF(bd:RG)(tc:RT)(te:RE){xs:List Dt}(hx:xs.length<sizeLine):sE bd tc te l (.vals xs,h)=aE bd tc te xs l h:=by unfold sE;simp only[Src.fuel];rw[Q6 bd tc te xs hx _ 0 _ _ _ (by omega) (by omega) (by simp)];rw[drop_zero];cases aE bd tc te xs l h<;>simp
@[simp] theorem GG(g:RI)(bd:RG)(tc:RT)(te:RE)(cap:List (Option Nat)):yD g bd tc te cap l h=cB (cB (g l h) (sE bd tc te (cF l cap))) fun q=>some (.lst q.1,q.2):=by unfold cB;unfold yD sE;rw[Option.bind_assoc]
@[simp] theorem UR(g:RI)(bd:RG)(tc:RT)(te:RE)(cap:List (Option Nat)):IG g bd tc te cap l h=cB (cB (g l h) (sE bd tc te (cF l cap))) fun q=>some (.ref q.2.length,q.2++[.lst q.1]):=by unfold cB;unfold IG sE;rw[Option.bind_assoc]
@[simp] theorem SN:DB l h=some (true,h):=by rfl
@[simp] theorem rF:cF l []=[]:=by rfl
@[simp] theorem nF(cap:List (Option Nat)):cF l (none::cap)=none::cF l cap:=by rfl
@[simp] theorem jJ(j:Nat)(cap:List (Option Nat)):cF l (some j::cap)=(l[j]?).join::cF l cap:=by rfl
theorem sN{α:Type}{te:RE}{i:Nat}{tc:RT}(D:α->Dt)(p:α->Bool)(F:α->Dt)(h:HI):∀(xs:List α)(l:LI),(∀x∈xs,tc (l.set i (some (D x))) h=some (p x,h)/\(p x=true->te (l.set i (some (D x))) h=some (F x,h)))->
 aE (CA i) tc te (xs.map D) l h=some ((xs.filter p).map F,h)
 | [],_,_=>rfl
 | x::xs,l,H=>by
  have hx:=H x (by simp);have ih:=sN D p F h xs (l.set i (some (D x))) (te:=te) (tc:=tc) (i:=i) (fun y hy=>by
   rw[set_set];exact H y (by simp[hy]))
  simp only[zdH,aE,kG,zdM,hx.1];by_cases hp:p x=true
  · simp only[hp,if_true,hx.2 hp,zdM,ih];simp[hp]
  · simp only[hp];rw[if_neg (by simp),ih];simp[hp]
theorem ZF{α:Type}{te:RE}{i:Nat}{tc:RT}(D:α->Dt)(F:α->Dt)(h:HI)(xs:List α)(l:LI)(H:∀x∈xs,tc (l.set i (some (D x))) h=some (true,h)/\te (l.set i (some (D x))) h=some (F x,h)) :
 aE (CA i) tc te (xs.map D) l h=some (xs.map F,h):=by
 rw[sN D (fun _=>true) F h xs l fun x hx=>⟨(H x hx).1,fun _=>(H x hx).2⟩,filter_eq_self.mpr (by simp)]
@[simp] theorem yC(F:Dt->HI->Option (Dt×HI)):GC F f l h=cB (f l h) fun r=>F r.1 r.2:=by rfl
@[simp] theorem LS(xs:List Dt):BC (.lst xs) h=some (.int xs.length,h):=by rfl
@[simp] theorem MS(xs:List Dt):BC (.tup xs) h=some (.int xs.length,h):=by rfl
theorem xJ{n:Nat}{xs:List Dt}(e:h[n]?=some (.lst xs)):BC (.ref n) h=some (.int xs.length,h):=by simp only[BC,JD,JB,e,zdL]
@[simp] theorem yr(b:Bool):PJ (.bl b) h=some (.int (if b=true then 1 else 0),h):=by rfl
@[simp] theorem A9(xs:List Dt):XE (.lst xs) h=some (.ref h.length,h++[.lst xs]):=by rfl
@[simp] theorem G9(ns:List Int):ZD (ns.map Dt.int)=some ns:=by
 induction ns with
 | nil=>rfl
 | cons n ns ih=>simp[ZD,ih]
theorem wg(ns:List Int):AL (.lst (ns.map Dt.int)) h=some (.int ns.sum,h):=by simp[AL,JB]
theorem zT{ns:List Int}(c:ns ≠ []):UF (.lst (ns.map Dt.int)) h=some (.int (CC ns),h):=by simp[UF,JB,c]
theorem AT{ns:List Int}(c:ns ≠ []):VF (.lst (ns.map Dt.int)) h=some (.int (QB ns),h):=by simp[VF,JB,c]
@[simp] theorem yO(T:String):FH T f l h=cB (f l h) fun r=>(rG r.2 r.1).map fun t=>(.bl (DL t T),r.2):=by rfl
@[simp] theorem Kr (b:Int):rG h (.int b)=some "int" :=by rfl
@[simp] theorem Br:DL "int" "int" =true:=by decide +kernel
@[simp] theorem Ar:DL "int" "bool" =false:=by decide +kernel
@[simp] theorem Nr:yU l h=some (none,h):=by rfl
noncomputable def Dh:Dt×HI->Option (Option Int×HI)
 | (.int i,h)=>some (some i,h)
 | _=>none
@[simp] theorem eY(i:Int):Dh (.int i,h)=some (some i,h):=by rfl
@[simp] theorem YY:LO f l h=cB (f l h) Dh:=by
 unfold cB;unfold LO
 congr 1
 funext r
 obtain⟨d,h⟩:=r;cases d<;>rfl
@[simp] theorem VY(lo hi:RO):gU f lo hi l h=cB (f l h) fun r=>cB (lo l r.2) fun o=>cB (hi l o.2) fun u=>(JB u.2 r.1).map fun xs=>(.lst (vG xs o.1 u.1),u.2):=by rfl
@[simp] theorem cX(xs:List Dt):JB h (.lst xs)=some xs:=by rfl
theorem aq{n:Nat}{xs:List Dt}(e:h[n]?=some (.lst xs)):JB h (.ref n)=some xs:=by simp only[JB,e]
theorem m9(xs:List Dt)(k:Nat):vG xs (some (k:Int)) none=xs.drop k:=by
 unfold vG HT.Wn;have e:(if(k:Int)<0 then((k:Int)+(xs.length:Int)).toNat else min (k:Int).toNat xs.length)=min k xs.length:=by rw[if_neg (by omega),Int.toNat_natCast]
 simp only[e];rw[take_of_length_le (by rw[length_drop];omega)];by_cases hk:k<=xs.length
 · rw[Nat.min_eq_left hk]
 · rw[Nat.min_eq_right (by omega),drop_eq_nil_of_le (zdS _),drop_eq_nil_of_le (by omega)]
theorem Gg{xs ys:List Dt}(c:xs.length+ys.length<=sizeLine):GL (.lst xs) (.lst ys) h=some (.lst (xs++ys),h):=by simp only[GL,JB,zdM,if_pos c]
@[simp] theorem kH:sizeLine=16777216:=by rfl
noncomputable def WO(g:RE)(l:LI):Dt×HI->Option (Dt×HI)
 | (.ref n,h)=>(match h[n]? with
  | some (.lst _)=>(g l h).bind fun q=>match q.2[n]? with
   | some (.lst xs)=>if xs.length<sizeLine then some (.non,q.2.set n (.lst (xs++[q.1])))else none
   | _=>none
  | _=>none)
 | _=>none
@[simp] theorem JF:IE f g l h=cB (f l h) (WO g l):=by
 unfold cB;unfold IE
 congr 1
 funext r
 obtain⟨d,h⟩:=r;cases d<;>(try rfl)
theorem FG{n:Nat}{xs ys:List Dt}{d:Dt}{h':HI}(e:h[n]?=some (.lst ys))(eg:g l h=some (d,h'))(e':h'[n]?=some (.lst xs))(c:xs.length<sizeLine):WO g l (.ref n,h)=some (.non,h'.set n (.lst (xs++[d]))):=by simp only[WO,e,eg,zdM,e',if_pos c]
end
noncomputable def Pass(I:LI->HI->Prop):Rs->Prop
 | .nx l h=>I l h
 | .ct l h=>I l h
 | _=>False
theorem OW{α:Type}{i:Nat}{body:RS}(D:α->Dt)(I:LI->HI->Prop)(xs:List α)(H:∀x∈xs,∀l h,I l h->∃r,body (l.set i (some (D x))) h=some r/\Pass I r) :
 ∀l h,I l h->∃l' h',wC (CA i) body (xs.map D) l h=some (.nx l' h')/\I l' h':=by
 induction xs with
 | nil=>intro l h i;exact⟨l,h,rfl,i⟩
 | cons x xs ih=>
  intro l h i;obtain⟨r,e,p⟩:=H x (by simp) l h i;cases r with
  | nx l2 h2=>obtain⟨l',h',e',i'⟩:=ih (fun y hy=>H y (by simp[hy])) l2 h2 p;exact⟨l',h',by simp[wC,e,e'],i'⟩
  | ct l2 h2=>obtain⟨l',h',e',i'⟩:=ih (fun y hy=>H y (by simp[hy])) l2 h2 p;exact⟨l',h',by simp[wC,e,e'],i'⟩
  | bk l2 h2=>exact p.elim
  | rt d h2=>exact p.elim
theorem VM{α β:Type}{i:Nat}{body:RS}(D:α->Dt)(S:β->LI->HI->Prop)(f:β->α->β)(xs:List α)(H:∀x∈xs,∀b l h,S b l h->∃r,body (l.set i (some (D x))) h=some r/\Pass (S (f b x)) r) :
 ∀b l h,S b l h->∃l' h',wC (CA i) body (xs.map D) l h=some (.nx l' h')/\S (xs.foldl f b) l' h':=by
 induction xs with
 | nil=>intro b l h i;exact⟨l,h,rfl,i⟩
 | cons x xs ih=>
  intro b l h i;obtain⟨r,e,p⟩:=H x (by simp) b l h i;cases r with
  | nx l2 h2=>obtain⟨l',h',e',i'⟩:=ih (fun y hy=>H y (by simp[hy])) _ l2 h2 p;exact⟨l',h',by simp[wC,e,e'],i'⟩
  | ct l2 h2=>obtain⟨l',h',e',i'⟩:=ih (fun y hy=>H y (by simp[hy])) _ l2 h2 p;exact⟨l',h',by simp[wC,e,e'],i'⟩
  | bk l2 h2=>exact p.elim
  | rt d h2=>exact p.elim
section
variable{l:LI}{h:HI}{f g:RE}
@[simp] theorem Qt(bs:List Bool):lG (bs.map Dt.bl)=some bs:=by
 induction bs with
 | nil=>rfl
 | cons n ns ih=>simp[lG,ih]
@[simp] theorem wX(i j:Nat)(a b:Dt):aF i j (.tup [a,b]) l=some ((l.set i (some a)).set j (some b)):=by rfl
end
theorem KF{h:HI}{n:Nat}{xs:List Dt}(e:h[n]?=some (.lst xs)):OI (.ref n,h)=some (.rf n,h):=by
 have:0<Src.fuel (.rf n) h:=by simp only[Src.fuel,e];omega
 simp only[OI,if_pos this]
section
variable{l:LI}{h:HI}{f g fe fo fi fa fb:RE}
def jP(l:LI)(v o:Dt):Dt×HI->Option Rs
 | (.int k,h)=>(match o with
  | .ref n=>(match h[n]? with
   | some (.lst xs)=>(xI xs.length k).bind fun j=>some (.nx l (h.set n (.lst (xs.set j v))))
   | _=>none)
  | _=>none)
 | _=>none
@[simp] theorem xX:iI fe fo fi l h=cB (fe l h) fun v=>cB (fo l v.2) fun o=>cB (fi l o.2) (jP l v.1 o.1):=by
 unfold cB iI
 congr 1
 funext v
 congr 1
 funext o
 congr 1
 funext i
 obtain⟨d,h⟩:=o;obtain⟨k,h⟩:=i;cases k<;>cases d<;>rfl
theorem Zq{n k:Nat}(hk:k<n):xI n (k:Int)=some k:=by unfold xI;rw[if_pos (by omega),if_pos (by omega)];simp
theorem nN{n k:Nat}{xs:List Dt}{v:Dt}(e:h[n]?=some (.lst xs))(hk:k<xs.length):jP l v (.ref n) (.int (k:Int),h)=some (.nx l (h.set n (.lst (xs.set k v)))):=by simp only[jP,e,Zq hk,zdM]
def iP(a:Dt):Dt×HI->Option (Dt×HI)
 | (.int i,h)=>if -(2^62)<=i/\i<=1000000 then some (.lst (xG a i),h)else none
 | _=>none
def ZT(a:Dt):Dt×HI->Option (Dt×HI)
 | (.int i,h)=>if -(2^62)<=i/\i<=1000000 then some (.ref h.length,h++[.lst (xG a i)])else none
 | _=>none
@[simp] theorem Pr:FI fa fb l h=cB (fa l h) fun a=>cB (fb l a.2) (iP a.1):=by
 unfold cB FI
 congr 1
 funext v
 congr 1
 funext o
 obtain⟨d,h⟩:=o;cases d<;>rfl
@[simp] theorem Hr:EJ fa fb l h=cB (fa l h) fun a=>cB (fb l a.2) (ZT a.1):=by
 unfold cB EJ
 congr 1
 funext v
 congr 1
 funext o
 obtain⟨d,h⟩:=o;cases d<;>rfl
theorem ZW(a:Dt){k:Nat}(hk:k<=1000000):iP a (.int (k:Int),h)=some (.lst (List.replicate k a),h):=by unfold iP;simp only;rw[if_pos ⟨by omega,by omega⟩];simp[xG]
theorem iN(a:Dt){k:Nat}(hk:k<=1000000):ZT a (.int (k:Int),h)=some (.ref h.length,h++[.lst (List.replicate k a)]):=by unfold ZT;simp only;rw[if_pos ⟨by omega,by omega⟩];simp[xG]
theorem ug(bs:List Bool):zL (.lst (bs.map Dt.bl)) h=some (.bl (bs.any id),h):=by simp[zL,JB]
@[simp] theorem LU(i j:Int):TJ (.int i) (.int j) h=some (.bl (decide (i=j)),h):=by
 have r:∀k:Int,BB h 8 (.int k)=some (.int k):=fun _=>by simp[BB]
 simp only[TJ,r,zdM,YF,zdL]
theorem wZ{a b:Dt}{xs ys:List Dt}(e1:BB h 8 a=some (.lst xs))(e2:BB h 8 b=some (.lst ys))(c:pF xs ys=true):MH a b h=some (.bl (!HD xs ys),h):=by simp only[MH,e1,e2,zdM,Hg c,zdL]
def Rh(go:RS)(body:RS)(l:LI):Bool×HI->Option Rs:=fun c=>if c.1=true then(body l c.2).bind (mP go)else some (.nx l c.2)
theorem o6(t:RT)(body:RS)(n:Nat):jF t body (n+1) l h=cB (t l h) (Rh (jF t body n) body l):=by
 unfold cB;rw[jF]
 congr 1
noncomputable def OJ(fa:RE)(l:LI):Dt×HI->Option (Dt×HI)
 | (.ref n,h)=>(match h[n]? with
  | some (.lst _)=>(fa l h).bind fun q=>match q.1 with
   | .ref m=>(match q.2[n]?,q.2[m]? with
    | some (.lst xs),some (.lst ys)=>if xs.length+ys.length<=sizeLine then some (.non,q.2.set n (.lst (xs++ys)))else none
    | _,_=>none)
   | _=>none
  | _=>none)
 | _=>none
@[simp] theorem yN:bI fo fa l h=cB (fo l h) (OJ fa l):=by
 unfold cB bI
 congr 1
 funext r
 obtain⟨d,h⟩:=r;cases d<;>(try rfl)
theorem uW{n m:Nat}{xs ys zs:List Dt}{h':HI}(e:h[n]?=some (.lst zs))(eg:fa l h=some (.ref m,h'))(e1:h'[n]?=some (.lst xs))(e2:h'[m]?=some (.lst ys))(c:xs.length+ys.length<=sizeLine):OJ fa l (.ref n,h)=some (.non,h'.set n (.lst (xs++ys))):=by simp only[OJ,e,eg,zdM,e1,e2,if_pos c]
@[simp] theorem NI(F:Dt->Dt->Option Dt):qL F fa fb l h=cB (fa l h) fun r=>cB (fb l r.2) fun q=>(F r.1 q.1).map fun d=>(d,q.2):=by rfl
@[simp] theorem dO(i j:Int):iL (.int i) (.int j)=some (.int (max i j)):=by
 unfold iL;simp only
 congr 2
 split<;>omega
@[simp] theorem eO(i j:Int):rH (.int i) (.int j)=some (.int (min i j)):=by
 unfold rH;simp only
 congr 2
 split<;>omega
end
theorem k9{bd:RG}{tc:RT}{te:RE}{n:Nat}{xs:List Dt}(p1:∀l h b h',tc l h=some (b,h')->h[n]?=some (.lst xs)->h'[n]?=some (.lst xs))(p2:∀l h b h',te l h=some (b,h')->h[n]?=some (.lst xs)->h'[n]?=some (.lst xs)) :
 ∀(m k:Nat)(l:LI)(h:HI)(ys:List Dt),h[n]?=some (.lst xs)->SD bd tc te (.rf n) m k l h ys=SD bd tc te (.vals xs) m k l h ys:=by
 intro m
 induction m with
 | zero=>intros;rfl
 | succ m ih=>
  intro k l h ys e;unfold SD;simp only[Src.at,e];cases xs[k]? with
  | none=>rfl
  | some d=>
   simp only;cases bd d l with
   | none=>rfl
   | some l1=>
    simp only[zdM];cases q:tc l1 h with
    | none=>rfl
    | some b=>
     obtain⟨b,h1⟩:=b;have e1:=p1 _ _ _ _ q e;simp only[zdM];split
     · cases q2:te l1 h1 with
       | none=>rfl
       | some r=>
        obtain⟨r,h2⟩:=r;have e2:=p2 _ _ _ _ q2 e1;simp only[zdM];split
        · exact ih _ _ _ _ e2
        · rfl
     · exact ih _ _ _ _ e1
theorem vR{bd:RG}{tc:RT}{te:RE}{n:Nat}{xs:List Dt}{l:LI}{h:HI}(e:h[n]?=some (.lst xs))(hx:xs.length<sizeLine)(p1:∀l h b h',tc l h=some (b,h')->h[n]?=some (.lst xs)->h'[n]?=some (.lst xs))(p2:∀l h b h',te l h=some (b,h')->h[n]?=some (.lst xs)->h'[n]?=some (.lst xs)) :
 sE bd tc te l (.rf n,h)=aE bd tc te xs l h:=by
 rw[<- fF bd tc te hx];unfold sE;have e1:Src.fuel (.rf n) h=xs.length+1:=by simp only[Src.fuel,e]
 have e2:Src.fuel (.vals xs) h=xs.length+1:=by simp only[Src.fuel]
 simp only[e1,e2];exact k9 p1 p2 _ _ _ _ _ e
theorem fR{α:Type}{te:RE}{i:Nat}(D:α->Dt)(O:α->Ob)(h0:HI):∀(xs:List α)(l:LI)(e:HI),(∀x∈xs,∀e,te (l.set i (some (D x))) (h0++e)=some (.ref (h0++e).length,h0++e++[O x]))->
 aE (CA i) DB te (xs.map D) l (h0++e)=some ((List.range xs.length).map (fun(k:Nat)=>Dt.ref ((h0++e).length+k)),h0++e++xs.map O)
 | [],_,e,_=>by simp[aE]
 | x::xs,l,e,H=>by
  have hx:=H x (by simp) e;have ih:=fR D O h0 xs (l.set i (some (D x))) (e++[O x]) (te:=te) (i:=i) (fun y hy e=>by
   rw[set_set];exact H y (by simp[hy]) e)
  simp only[zdH,aE,kG,zdM,SN,hx,if_true];rw[<- append_assoc]at ih;rw[ih];simp only[zdM,zdF,range_succ_eq_map,zdH,map_map,append_assoc,zdO,zdN]
  congr 2
  rw[Nat.add_zero]
  congr 1
  refine map_congr_left fun k _=>?_
  simp;omega
theorem QK{α:Type}{i:Nat}{body:RS}(D:α->Dt)(S:Nat->LI->HI->Prop):∀(xs:List α)(k0:Nat)(_:∀(k:Nat) x,xs[k]?=some x->∀l h,S (k0+k) l h->∃r,body (l.set i (some (D x))) h=some r/\Pass (S (k0+k+1)) r)(l:LI)(h:HI),S k0 l h->
 ∃l' h',wC (CA i) body (xs.map D) l h=some (.nx l' h')/\S (k0+xs.length) l' h'
 | [],k0,_,l,h,s=>⟨l,h,rfl,s⟩
 | x::xs,k0,H,l,h,s=>by
  obtain⟨r,e,p⟩:=H 0 x rfl l h s;have H':∀(k:Nat) y,xs[k]?=some y->∀l h,S (k0+1+k) l h->∃r,body (l.set i (some (D y))) h=some r/\Pass (S (k0+1+k+1)) r:=by intro k y hy l h s;have:=H (k+1) y (by simpa using hy) l h (by rw[show k0+(k+1)=k0+1+k by omega];exact s);rw[show k0+(k+1)+1=k0+1+k+1 by omega]at this;exact this
  cases r with
  | nx l2 h2=>obtain⟨l',h',e',i'⟩:=QK D S xs (k0+1) H' l2 h2 p;exact⟨l',h',by simp[wC,e,e'],by rw[zdF,show k0+(xs.length+1)=k0+1+xs.length by omega];exact i'⟩
  | ct l2 h2=>obtain⟨l',h',e',i'⟩:=QK D S xs (k0+1) H' l2 h2 p;exact⟨l',h',by simp[wC,e,e'],by rw[zdF,show k0+(xs.length+1)=k0+1+xs.length by omega];exact i'⟩
  | bk l2 h2=>exact p.elim
  | rt d h2=>exact p.elim
theorem uK{i:Nat}{body:RS}(D:Nat->Dt)(S:Nat->LI->HI->Prop)(n:Nat)(H:∀k<n,∀l h,S k l h->∃r,body (l.set i (some (D k))) h=some r/\Pass (S (k+1)) r)(l:LI)(h:HI)(s:S 0 l h) :
 ∃l' h',wC (CA i) body ((List.range n).map D) l h=some (.nx l' h')/\S n l' h':=by
 obtain⟨l',h',e,i'⟩:=QK (i:=i) (body:=body) D S (List.range n) 0 (fun k x hx l h s=>by
  obtain⟨h1,h2⟩:=zdP hx;simp at h1 h2;subst h2;rw[Nat.zero_add]at s ⊢;exact H k h1 l h s) l h s
 exact⟨l',h',e,by simpa using i'⟩
theorem BO{α:Type}{i n:Nat}{body:RS}(D:α->Dt)(S:Nat->LI->HI->Prop)(xs:List α)(hS:∀k l h,S k l h->h[n]?=some (.lst (xs.map D)))(H:∀(k:Nat) x,xs[k]?=some x->∀l h,S k l h->∃r,body (l.set i (some (D x))) h=some r/\Pass (S (k+1)) r)
 (l:LI) (h:HI) (h0:S 0 l h):∃l' h',xE (CA i) body l (.rf n,h)=some (.nx l' h')/\S xs.length l' h':=by
 have go:∀(f k:Nat)(l:LI)(h:HI),S k l h->f=xs.length-k+1->k<=xs.length->∃l' h',uC (CA i) body (.rf n) f k l h=some (.nx l' h')/\S xs.length l' h':=by
  intro f
  induction f with
  | zero=>intro k l h _ e;omega
  | succ f ih=>
   intro k l h i0 e hk;unfold uC;simp only[Src.at,hS k l h i0,getElem?_map];by_cases hl:k<xs.length
   · rw[getElem?_eq_getElem hl];obtain⟨r,e1,p1⟩:=H k xs[k] (getElem?_eq_getElem hl) l h i0;simp only[zdL,kG,zdM,e1];cases r with
     | nx l2 h2=>exact ih (k+1) l2 h2 p1 (by omega) (by omega)
     | ct l2 h2=>exact ih (k+1) l2 h2 p1 (by omega) (by omega)
     | bk l2 h2=>exact p1.elim
     | rt d h2=>exact p1.elim
   · rw[getElem?_eq_none (by omega)];have:k=xs.length:=by omega
     subst this;exact⟨l,h,rfl,i0⟩
 have hf:Src.fuel (.rf n) h=xs.length-0+1:=by simp only[Src.fuel,hS 0 l h h0,length_map];omega
 unfold xE;exact go _ 0 l h h0 hf (Nat.zero_le _)
section
variable{l:LI}{h:HI}{fo fi fe f fa:RE}
noncomputable def gP(fa:RE)(l:LI):Dt×HI->Option (Dt×HI)
 | (.ref n,h)=>(match h[n]? with
  | some (.lst _)=>(fa l h).bind fun q=>match q.1 with
   | .int 0=>(match q.2[n]? with
    | some (.lst (x::xs))=>some (x,q.2.set n (.lst xs))
    | _=>none)
   | _=>none
  | _=>none)
 | _=>none
@[simp] theorem Hz:YN fo fa l h=cB (fo l h) (gP fa l):=by
 unfold cB YN
 congr 1
 funext r
 obtain⟨d,h⟩:=r;cases d<;>(try rfl)
theorem Qj{n:Nat}{x:Dt}{xs:List Dt}(e:h[n]?=some (.lst (x::xs)))(ea:fa l h=some (.int 0,h)):gP fa l (.ref n,h)=some (x,h.set n (.lst xs)):=by simp only[gP,e,ea,zdM]
noncomputable def tU:Dt×HI->Option (Dt×HI)
 | (.int b,h)=>some (.int (Builtin.bitNot b),h)
 | _=>none
@[simp] theorem J9(b:Int):tU (.int b,h)=some (.int (Builtin.bitNot b),h):=by rfl
@[simp] theorem K1:QL f l h=cB (f l h) tU:=by
 unfold cB QL
 congr 1
 funext r
 obtain⟨d,h⟩:=r;cases d<;>rfl
@[simp] theorem Iz(n:Nat)(t:RT)(body:RS):mO n t body l h=jF t body n l h:=by rfl
end
noncomputable def kI(I:LI->HI->Prop)(E:Dt->HI->Prop):Rs->Prop
 | .nx l h=>I l h
 | .rt d h=>E d h
 | _=>False
theorem ZV{t:RT}{body:RS}(I:Nat->LI->HI->Prop)(N:LI->HI->Prop)(E:Dt->HI->Prop)
 (H:∀m l h,I m l h->∃b h1,t l h=some (b,h1)/\if b=true then ∃r,body l h1=some r/\kI (fun l' h'=>∃m',m'<m/\I m' l' h') E r else N l h1) :
 ∀(n m:Nat)(l:LI)(h:HI),I m l h->m<n->∃r,jF t body n l h=some r/\kI N E r:=by
 intro n
 induction n with
 | zero=>intro m l h _ hn;omega
 | succ n ih=>
  intro m l h i hn;obtain⟨b,h1,e1,q⟩:=H m l h i;rw[o6,e1,nA];unfold Rh;cases b with
  | false=>rw[if_neg zdR]at q ⊢;exact⟨_,rfl,q⟩
  | true=>
   rw[if_pos rfl]at q ⊢;obtain⟨r,e2,q⟩:=q;simp only[e2,zdM];cases r with
   | nx l' h'=>obtain⟨m',hm,i'⟩:=q;exact ih m' l' h' i' (by omega)
   | rt d h'=>exact⟨_,rfl,q⟩
   | bk l' h'=>exact q.elim
   | ct l' h'=>exact q.elim
theorem zY{α:Type}{i n:Nat}{body:RS}(D:α->Dt)(S:Nat->LI->HI->Prop)(E:Dt->HI->Prop)(xs:List α)(hS:∀k l h,S k l h->h[n]?=some (.lst (xs.map D)))(H:∀(k:Nat) x,xs[k]?=some x->∀l h,S k l h->∃r,body (l.set i (some (D x))) h=some r/\kI (S (k+1)) E r)
 (l:LI) (h:HI) (h0:S 0 l h):∃r,xE (CA i) body l (.rf n,h)=some r/\kI (S xs.length) E r:=by
 have go:∀(f k:Nat)(l:LI)(h:HI),S k l h->f=xs.length-k+1->k<=xs.length->∃r,uC (CA i) body (.rf n) f k l h=some r/\kI (S xs.length) E r:=by
  intro f
  induction f with
  | zero=>intro k l h _ e;omega
  | succ f ih=>
   intro k l h i0 e hk;unfold uC;simp only[Src.at,hS k l h i0,getElem?_map];by_cases hl:k<xs.length
   · rw[getElem?_eq_getElem hl];obtain⟨r,e1,p1⟩:=H k xs[k] (getElem?_eq_getElem hl) l h i0;simp only[zdL,kG,zdM,e1];cases r with
     | nx l2 h2=>exact ih (k+1) l2 h2 p1 (by omega) (by omega)
     | rt d h2=>exact⟨_,rfl,p1⟩
     | bk l2 h2=>exact p1.elim
     | ct l2 h2=>exact p1.elim
   · rw[getElem?_eq_none (by omega)];have:k=xs.length:=by omega
     subst this;exact⟨_,rfl,i0⟩
 have hf:Src.fuel (.rf n) h=xs.length-0+1:=by simp only[Src.fuel,hS 0 l h h0,length_map];omega
 unfold xE;exact go _ 0 l h h0 hf (Nat.zero_le _)
section
variable{l:LI}{h:HI}{f g fo fe:RE}{ga:RA}
noncomputable def C0(c:Nat):Dt->Dt×HI->Option (Src×HI)
 | .int i,(.int j,h)=>if 0<=i/\i<2^61/\0<=j/\j<2^61/\0<c/\c<1000 then some (.vals ((List.range ((j-i+(c:Int)-1)/(c:Int)).toNat).map fun(k:Nat)=>Dt.int (i+(k:Int)*(c:Int))),h)else none
 | _,_=>none
@[simp] theorem J1(c:Nat):EZ f g c l h=cB (f l h) fun r=>cB (g l r.2) (C0 c r.1):=by
 unfold cB;unfold EZ
 congr 1
 funext r
 obtain⟨d,h⟩:=r
 congr 1
 funext q
 obtain⟨d',h'⟩:=q;cases d<;>cases d'<;>rfl
def aP(x f:Str):Dt×HI->Option (Dt×HI)
 | (.ref n,h)=>(match h[n]? with
  | some (.ins y fs)=>if y=x then(sD f fs).bind fun d=>some (d,h)else none
  | _=>none)
 | _=>none
@[simp] theorem nL(x k:Str):SG x k fo l h=cB (fo l h) (aP x k):=by
 unfold cB SG
 congr 1
 funext r
 obtain⟨d,h⟩:=r;cases d<;>(try rfl)
theorem tN{x k:Str}{n:Nat}{fs:List (Str×Dt)}{d:Dt}(e:h[n]?=some (.ins x fs))(ef:sD k fs=some d):aP x k (.ref n,h)=some (d,h):=by simp only[aP,e,if_true,ef,zdM]
def bU(x f:Str)(v:Dt)(l:LI):Dt×HI->Option Rs
 | (.ref n,h)=>(match h[n]? with
  | some (.ins y fs)=>if y=x/\fs.length<1000 then some (.nx l (h.set n (.ins y (AE f v fs))))else none
  | _=>none)
 | _=>none
@[simp] theorem xY(x k:Str):jI x k fo fe l h=cB (fe l h) fun r=>cB (fo l r.2) (bU x k r.1 l):=by
 unfold cB jI
 congr 1
 funext r
 congr 1
 funext q
 obtain⟨d,h⟩:=q;cases d<;>(try rfl)
theorem kN{x k:Str}{n:Nat}{fs:List (Str×Dt)}{v:Dt}(e:h[n]?=some (.ins x fs))(hl:fs.length<1000):bU x k v l (.ref n,h)=some (.nx l (h.set n (.ins x (AE k v fs)))):=by simp only[bU,e,true_and,if_pos hl]
noncomputable def oZ(n:Nat):Dt×HI->Option (Dt×HI)
 | (.non,h)=>some (.ref n,h)
 | _=>none
@[simp] theorem R8(n:Nat):oZ n (.non,h)=some (.ref n,h):=by rfl
@[simp] theorem Og(x:Str)(F:LB):pO x F ga l h=cB (ga l h) fun r=>cB (F (.ref r.2.length::r.1) (r.2++[.ins x []])) (oZ r.2.length):=by
 unfold cB pO
 congr 1
 funext r
 congr 1
 funext q
 obtain⟨d,h⟩:=q;cases d<;>(try rfl)
def ET(x m:Str)(F:LB)(ga:RA)(l:LI):Dt×HI->Option (Dt×HI)
 | (.ref n,h)=>(match h[n]? with
  | some (.ins y fs)=>if y=x/\sD m fs=none then(ga l h).bind fun q=>F (.ref n::q.1) q.2 else none
  | _=>none)
 | _=>none
@[simp] theorem ZS(x m:Str)(F:LB):nI x m F fo ga l h=cB (fo l h) (ET x m F ga l):=by
 unfold cB nI
 congr 1
 funext r
 obtain⟨d,h⟩:=r;cases d<;>(try rfl)
theorem aR{x m:Str}{F:LB}{n:Nat}{fs:List (Str×Dt)}(e:h[n]?=some (.ins x fs))(hm:sD m fs=none):ET x m F ga l (.ref n,h)=cB (ga l h) fun q=>F (.ref n::q.1) q.2:=by simp only[ET,e,true_and,if_pos hm];rfl
def xT:Dt×HI->Option (Src×HI)
 | (.lst xs,h)=>some (.vals (pI 0 xs),h)
 | (.ref n,h)=>(match h[n]? with
  | some (.lst _)=>some (.en n,h)
  | _=>none)
 | _=>none
@[simp] theorem Gz:sO f l h=cB (f l h) xT:=by
 unfold cB sO
 congr 1
 funext r
 obtain⟨d,h⟩:=r;cases d<;>(try rfl)
theorem z8{n:Nat}{xs:List Dt}(e:h[n]?=some (.lst xs)):xT (.ref n,h)=some (.en n,h):=by simp only[xT,e]
end
theorem vT{α:Type}{i j n:Nat}{body:RS}(D:α->Dt)(S:Nat->LI->HI->Prop)(xs:List α)(hS:∀k l h,S k l h->h[n]?=some (.lst (xs.map D)))(H:∀(k:Nat) x,xs[k]?=some x->∀l h,S k l h->∃r,body ((l.set i (some (.int (k:Int)))).set j (some (D x))) h=some r/\Pass (S (k+1)) r)
 (l:LI) (h:HI) (h0:S 0 l h):∃l' h',xE (aF i j) body l (.en n,h)=some (.nx l' h')/\S xs.length l' h':=by
 have go:∀(f k:Nat)(l:LI)(h:HI),S k l h->f=xs.length-k+1->k<=xs.length->∃l' h',uC (aF i j) body (.en n) f k l h=some (.nx l' h')/\S xs.length l' h':=by
  intro f
  induction f with
  | zero=>intro k l h _ e;omega
  | succ f ih=>
   intro k l h i0 e hk;unfold uC;simp only[Src.at,hS k l h i0,getElem?_map];by_cases hl:k<xs.length
   · rw[getElem?_eq_getElem hl];obtain⟨r,e1,p1⟩:=H k xs[k] (getElem?_eq_getElem hl) l h i0;simp only[zdL,wX,zdM,e1];cases r with
     | nx l2 h2=>exact ih (k+1) l2 h2 p1 (by omega) (by omega)
     | ct l2 h2=>exact ih (k+1) l2 h2 p1 (by omega) (by omega)
     | bk l2 h2=>exact p1.elim
     | rt d h2=>exact p1.elim
   · rw[getElem?_eq_none (by omega)];have:k=xs.length:=by omega
     subst this;exact⟨l,h,rfl,i0⟩
 have hf:Src.fuel (.en n) h=xs.length-0+1:=by simp only[Src.fuel,hS 0 l h h0,length_map];omega
 unfold xE;exact go _ 0 l h h0 hf (Nat.zero_le _)
end SM
namespace G
def top(i:Nat):Stmt:=PySem.Challenge.pw_spanways_k24_whole_tame_facts_need_no_tr.main.body.getD i (.Pass ⟨0,0,0,0⟩)
noncomputable abbrev uI:Dt:=(.int 8191)
noncomputable def Nx:List Dt:=[(.tup [(.int 0),(.int 0)]),(.tup [(.int 0),(.int 1)]),(.tup [(.int 0),(.int 2)]),(.tup [(.int 0),(.int 3)]),(.tup [(.int 0),(.int 4)]),(.tup [(.int 1),(.int 2)]),(.tup [(.int 1),(.int 3)]),(.tup [(.int 1),(.int 4)]),(.tup [(.int 2),(.int 2)]),(.tup [(.int 2),(.int 3)]),(.tup [(.int 2),(.int 4)]),(.tup [(.int 3),(.int 4)]),(.tup [(.int 4),(.int 4)])]
abbrev HS:Dt:=.tup Nx
noncomputable def Vf:List Dt:=[(.tup [(.int 1),(.int 1),(.int 1),(.int 1),(.int 1),(.int 1),(.int 1),(.int 1),(.int 295),(.int 295),(.int 295),(.int 295),(.int 8191)]),(.tup [(.int 1),(.int 1),(.int 1),(.int 1),(.int 1),(.int 2),(.int 2),(.int 2),(.int 292),(.int 292),(.int 292),(.int 584),(.int 7312)]),(.tup [(.int 1),(.int 1),(.int 7),(.int 7),(.int 31),(.int 4),(.int 4),(.int 28),(.int 292),(.int 292),(.int 2044),(.int 1168),(.int 7312)]),(.tup [(.int 1),(.int 2),(.int 4),(.int 8),(.int 16),(.int 4),(.int 8),(.int 16),(.int 292),(.int 584),(.int 1168),(.int 1168),(.int 7312)]),(.tup [(.int 31),(.int 28),(.int 28),(.int 16),(.int 16),(.int 28),(.int 16),(.int 16),(.int 2044),(.int 1168),(.int 1168),(.int 1168),(.int 7312)]),(.tup [(.int 1),(.int 1),(.int 7),(.int 7),(.int 31),(.int 32),(.int 32),(.int 224),(.int 256),(.int 256),(.int 1792),(.int 2048),(.int 4096)]),(.tup [(.int 1),(.int 2),(.int 4),(.int 8),(.int 16),(.int 32),(.int 64),(.int 128),(.int 256),(.int 512),(.int 1024),(.int 2048),(.int 4096)]),(.tup [(.int 31),(.int 28),(.int 28),(.int 16),(.int 16),(.int 224),(.int 128),(.int 128),(.int 1792),(.int 1024),(.int 1024),(.int 2048),(.int 4096)]),(.tup [(.int 1),(.int 1),(.int 295),(.int 295),(.int 8191),(.int 256),(.int 256),(.int 7936),(.int 256),(.int 256),(.int 7936),(.int 4096),(.int 4096)]),(.tup [(.int 1),(.int 2),(.int 292),(.int 584),(.int 7312),(.int 256),(.int 512),(.int 7168),(.int 256),(.int 512),(.int 7168),(.int 4096),(.int 4096)]),(.tup [(.int 31),(.int 28),(.int 2044),(.int 1168),(.int 7312),(.int 1792),(.int 1024),(.int 7168),(.int 1792),(.int 1024),(.int 7168),(.int 4096),(.int 4096)]),(.tup [(.int 31),(.int 224),(.int 1792),(.int 2048),(.int 4096),(.int 1792),(.int 2048),(.int 4096),(.int 1792),(.int 2048),(.int 4096),(.int 4096),(.int 4096)]),(.tup [(.int 8191),(.int 7936),(.int 7936),(.int 4096),(.int 4096),(.int 7936),(.int 4096),(.int 4096),(.int 7936),(.int 4096),(.int 4096),(.int 4096),(.int 4096)])]
abbrev tR:Dt:=.tup Vf
noncomputable abbrev VS:Dt:=(.int 64)
abbrev kS:Stmt:=top 3
def bY:RS:=HA (e2 pA (eC HS) (eV 0))
def ZH:LB:=fC 1 1 bY
abbrev HR:Stmt:=top 4
def uQ:RE:=eV 0
def vQ:RT:=Wf (e2 IC (e2 qI (e2 VJ (eV 1) (eV 0)) (eC (.int 1))) (eC (.int 1)))
def sR:RS:=HA (yD (JH (eC (.int 13))) (CA 0) vQ uQ [none,some 0])
def DF:LB:=fC 1 1 sR
abbrev YR:Stmt:=top 5
def YQ:RE:=e2 NH (eC (.int 1)) (eV 0)
def yR:RS:=HA (GC AL (yD (oC (eV 0)) (CA 0) DB YQ [none]))
def BK:LB:=fC 1 1 yR
abbrev ZR:Stmt:=top 6
def QQ:RE:=e2 XF (eC (.int 12)) (eV 0)
def zR:RS:=HA (wA BK [] (bA (yD (oC (wA DF [] (bA (eV 0) fA))) (CA 0) DB QQ [none]) fA))
def pN:LB:=fC 1 1 zR
abbrev KP:Stmt:=top 9
def tP:RS:=yA 3 (e2 FL (eV 3) (e2 pA (e2 pA (eC tR) (eV 4)) (eV 5)))
def ZL:RS:=DC (oC (eV 2)) (CA 5) tP
def CP:RS:=jA (yA 2 (wA DF [] (bA (eV 1) fA))) (jA (yA 3 (eC (.int 0))) (jA (DC (oC (wA DF [] (bA (eV 0) fA))) (CA 4) ZL) (HA (eV 3))))
def oM:LB:=fC 2 6 CP
abbrev OQ:Stmt:=top 12
def XQ:RS:=HA (e2 tO (e2 GL (FI (eC uI) (eV 1)) (SF (bA (eC VS) fA))) (FI (eC uI) (e2 XF (e2 XF (eV 0) (eV 1)) (eC (.int 1)))))
def PM:LB:=fC 2 2 XQ
abbrev cT:Stmt:=top 13
def DR:RE:=wA PM [] (bA (eV 1) (bA (eV 0) fA))
def US:RS:=HA (IG (JH (eV 0)) (CA 0) DB DR [none,some 0])
def YK:LB:=fC 1 1 US
abbrev MQ:Stmt:=top 14
def dQ:RS:=TD (IE (eV 1) (rB (bA (eV 2) (bA (eV 3) fA))))
def eQ:RS:=DC (DZ (e2 YB (eV 2) (eC (.int 1))) (eV 0)) (CA 3) dQ
def WQ:RS:=jA (yA 1 (uF fA)) (jA (DC (JH (eV 0)) (CA 2) eQ) (HA (eV 1)))
def gH:LB:=fC 1 4 WQ
abbrev LQ:Stmt:=top 15
def bV:RE:=GC XE (eV 0)
def VQ:RS:=jA (yA 4 (IG (oC (eV 0)) (CA 0) DB bV [none])) (jA (iI (e2 qI (e2 pA (e2 pA (eV 0) (eV 1)) (eV 3)) (eV 2)) (e2 pA (eV 4) (eV 1)) (eV 3)) (jA (iI (wA pN [] (bA (e2 pA (e2 pA (eV 4) (eV 1)) (eV 3)) fA)) (e2 pA (eV 4) (eV 3)) (eV 1)) (HA (eV 4))))
def fH:LB:=fC 4 5 VQ
abbrev bR:Stmt:=top 16
def nR:RS:=jA (yA 2 (e2 pA (e2 pA (eV 0) (e2 pA (eV 1) (eC (.int 0)))) (e2 pA (eV 1) (eC (.int 1))))) (jA (yA 3 (e2 pA (e2 pA (eV 0) (e2 pA (eV 1) (eC (.int 1)))) (e2 pA (eV 1) (eC (.int 2))))) (HA (e2 qI (e2 pA (e2 pA (eV 0) (e2 pA (eV 1) (eC (.int 0)))) (e2 pA (eV 1) (eC (.int 2)))) (wA oM [] (bA (eV 2) (bA (eV 3) fA))))))
def CK:LB:=fC 2 4 nR
abbrev FR:Stmt:=top 17
def pR:RS:=HA (e2 yE (wA CK [] (bA (eV 0) (bA (eV 1) fA))) (e2 pA (e2 pA (eV 0) (e2 pA (eV 1) (eC (.int 0)))) (e2 pA (eV 1) (eC (.int 2)))))
def YM:LB:=fC 2 2 pR
abbrev ER:Stmt:=top 18
def oR:RS:=HA (wA fH [] (bA (eV 0) (bA (e2 pA (eV 1) (eC (.int 0))) (bA (wA CK [] (bA (eV 0) (bA (eV 1) fA))) (bA (e2 pA (eV 1) (eC (.int 2))) fA)))))
def XM:LB:=fC 2 2 oR
abbrev KQ:Stmt:=top 19
def aV:RE:=e2 (II false) (eC (.int 0)) (eV 0)
def UQ:RS:=HA (GC zL (yD (oC (eV 0)) (CA 0) DB aV [none]))
def NM:LB:=fC 1 1 UQ
abbrev yP:Stmt:=top 20
def uP:RS:=bE (Wf (e2 (II true) (eV 3) (eV 0))) (jA (TD (IE (eV 2) (rB (bA (e2 pA (eV 0) (eC (.int 0))) (bA (e2 pA (eV 0) (eC (.int 1))) (bA (eV 3) fA)))))) (TD (IE (eV 2) (rB (bA (e2 pA (eV 0) (eC (.int 1))) (bA (e2 pA (eV 0) (eC (.int 0))) (bA (eV 3) fA))))))) TB
def GP:RS:=jA (yA 2 (uF fA)) (jA (DC (JH (eV 1)) (CA 3) uP) (HA (eV 2)))
def qM:LB:=fC 2 4 GP
abbrev NP:Stmt:=top 21
def NU:RE:=GC XE (eV 0)
def VI:RS:=bE (Wf (wA YM [] (bA (eV 3) (bA (eV 6) fA)))) (jA (yA 3 (wA XM [] (bA (eV 3) (bA (eV 6) fA)))) (jA (TD (IE (eV 2) (eV 6))) (jA (bE (Wf (e2 TJ (e2 pA (e2 pA (eV 3) (e2 pA (eV 6) (eC (.int 0)))) (e2 pA (eV 6) (eC (.int 2)))) (eC (.int 0)))) (HA (rB (bA (eC .non) (bA (eV 2) fA)))) TB) (TD (IE (eV 4) (rB (bA (e2 pA (eV 6) (eC (.int 0))) (bA (e2 pA (eV 6) (eC (.int 2))) fA)))))))) TB
def nK:RS:=jA (yA 5 (YN (eV 4) (eC (.int 0)))) (DC (oC (wA qM [] (bA (eV 5) (bA (GC BC (eV 0)) fA)))) (CA 6) VI)
def cK:RT:=Wf (e2 MH (eV 4) (SF fA))
def nM:RS:=jA (yA 2 (uF fA)) (jA (bE (Wf (wA NM [] (bA (eV 0) fA))) (HA (rB (bA (eC .non) (bA (eV 2) fA)))) TB) (jA (yA 3 (IG (oC (eV 0)) (CA 0) DB NU [none])) (jA (yA 4 (GC XE (eV 1))) (jA (mO 1000000 cK nK) (HA (rB (bA (eV 3) (bA (eV 2) fA))))))))
def QH:LB:=fC 2 7 nM
abbrev GR:Stmt:=top 22
def rR:RS:=HA (wA QH [] (bA (eV 0) (bA (wA gH [] (bA (GC BC (eV 0)) fA)) fA)))
def aN:LB:=fC 1 1 rR
abbrev AQ:Stmt:=top 24
def iK:RS:=bE (Wf (e2 IC (e2 pA (eV 3) (eC (.int 0))) (eC (.str "ways")))) (yA 2 (wA fH [] (bA (eV 2) (bA (e2 pA (eV 3) (eC (.int 1))) (bA (e2 pA (eV 3) (eC (.int 2))) (bA (e2 pA (eV 3) (eC (.int 3))) fA)))))) TB
def rQ:RS:=jA (yA 2 (wA YK [] (bA (eV 0) fA))) (jA (DC (oC (eV 1)) (CA 3) iK) (HA (eV 2)))
def pK:LB:=fC 2 4 rQ
abbrev FQ:Stmt:=top 25
def RU:RE:=rB (bA (e2 pA (eV 0) (eC (.int 1))) (bA (e2 pA (eV 0) (eC (.int 2))) (bA (e2 pA (eV 0) (eC (.int 3))) fA)))
def HP:RT:=Wf (e2 IC (e2 pA (eV 0) (eC (.int 0))) (eC (.str "long")))
def bQ:RS:=HA (yD (oC (eV 0)) (CA 0) HP RU [none])
def yM:LB:=fC 1 1 bQ
abbrev BQ:Stmt:=top 26
def YU:RE:=e2 pA (eV 0) (eC (.int 1))
def kQ:RT:=Wf (e2 IC (e2 pA (eV 0) (eC (.int 0))) (eC (.str "one")))
def sQ:RS:=HA (yD (oC (eV 0)) (CA 0) kQ YU [none])
def qK:LB:=fC 1 1 sQ
abbrev nQ:Stmt:=top 27
def kM:RS:=jA (yA 5 (TL (Wf (e2 IC (eV 3) (eV 2))) (e2 pA (eV 4) (eC (.int 2))) (e2 qI (eC uI) (QL (e2 pA (eV 4) (eC (.int 2))))))) (yA 0 (wA fH [] (bA (eV 0) (bA (e2 pA (eV 4) (eC (.int 1))) (bA (eV 5) (bA (e2 pA (eV 4) (eC (.int 3))) fA))))))
def gQ:RS:=jA (DC (sO (eV 1)) (aF 3 4) kM) (HA (eV 0))
def bM:LB:=fC 3 6 gQ
abbrev xP:Stmt:=top 28
def VL:RS:=bE (Wf (e2 rL (GC BC (wA DF [] (bA (e2 pA (e2 pA (eV 0) (e2 pA (eV 1) (eC (.int 0)))) (e2 pA (eV 1) (eC (.int 1)))) fA))) (eC (.int 1)))) (HA (eV 1)) TB
def aM:RS:=jA (DC (oC (wA gH [] (bA (GC BC (eV 0)) fA))) (CA 1) VL) (HA (eC .non))
def fK:LB:=fC 1 2 aM
abbrev NQ:Stmt:=top 29
def wM:RE:=wA bM [] (bA (eV 1) (bA (eV 2) (bA (eV 0) fA)))
def VU:RE:=rB (bA (e2 pA (eV 0) (eC (.int 1))) (bA (e2 pA (eV 0) (eC (.int 3))) fA))
def xM:RE:=wA fH [] (bA (eV 1) (bA (e2 pA (eV 2) (eC (.int 0))) (bA (e2 NH (eC (.int 1)) (eV 0)) (bA (e2 pA (eV 2) (eC (.int 1))) fA))))
def wK:RS:=jA (bE (Wf (e2 MH (eV 1) (SF fA))) (jA (yA 2 (e2 pA (eV 1) (eC (.int 0)))) (jA (yA 3 (yD (JH (GC BC (eV 2))) (CA 0) DB wM [none,some 0,some 2])) (HA (rB (bA (eC (.str "one")) (bA (rB fA) (bA (eV 3) (bA (yD (oC (eV 2)) (CA 0) DB VU [none]) fA)))))))) TB) (jA (yA 4 (wA fK [] (bA (eV 0) fA))) (jA (bE (Wf (e2 ZG (eV 4) (eC .non))) (HA (eC .non)) TB) (jA (yA 5 (e2 pA (e2 pA (eV 0) (e2 pA (eV 4) (eC (.int 0)))) (e2 pA (eV 4) (eC (.int 1))))) (jA (yA 3 (yD (oC (wA DF [] (bA (eV 5) fA))) (CA 0) DB xM [none,some 0,some 4])) (HA (rB (bA (eC (.str "split")) (bA (eV 4) (bA (eV 3) (bA (SF (bA (eV 4) fA)) fA))))))))))
def iH:LB:=fC 2 6 wK
abbrev fS:Stmt:=top 31
def FS:RS:=HA (e2 YB (e2 TC (eC (.int 2)) (eV 0)) (eC (.int 1)))
def GK:LB:=fC 1 1 FS
abbrev ZP:Stmt:=top 32
def QP:RS:=jA (yA 2 (e2 TC (eC (.int 2)) (e2 pA (eV 0) (eC (.int 0))))) (HA (uF (bA (rB (bA (eV 2) (bA (e2 YB (eV 2) (eC (.int 1))) (bA (e2 TC (FE (e2 pA (eV 0) (eC (.int 1)))) (eV 1)) fA)))) (bA (rB (bA (e2 YB (eV 2) (eC (.int 1))) (bA (eV 2) (bA (e2 TC (e2 pA (eV 0) (eC (.int 2))) (eV 1)) fA)))) fA))))
def oK:LB:=fC 2 3 QP
abbrev MP:Stmt:=top 33
def DP:RS:=jA (yA 4 (uF fA)) (jA (bE (Wf (e2 LH (GC UF (eV 3)) (eV 2))) (TD (IE (eV 4) (rB (bA (eV 0) (bA (eV 1) (bA (TL (Wf (e2 HL (GC UF (eV 3)) (eV 2))) (FE (eC (.int 1))) (eC (.int 0))) fA)))))) TB) (jA (bE (Wf (e2 fP (GC VF (eV 3)) (eV 2))) (TD (IE (eV 4) (rB (bA (eV 1) (bA (eV 0) (bA (TL (Wf (e2 rL (GC VF (eV 3)) (eV 2))) (FE (eC (.int 1))) (eC (.int 0))) fA)))))) TB) (HA (eV 4))))
def PH:LB:=fC 4 5 DP
abbrev GQ:Stmt:=top 34
def jK:RE:=e2 pA (wA ZH [] (bA (eV 0) fA)) (eV 1)
def lK:RS:=jA (yA 5 (yD (oC (wA DF [] (bA (eV 1) fA))) (CA 0) DB jK [none,some 4])) (jA (TD (bI (eV 3) (wA PH [] (bA (e2 YB (e2 TC (eC (.int 2)) (eV 0)) (eV 4)) (bA (e2 TC (eC (.int 2)) (eV 2)) (bA (eC (.int 1)) (bA (eV 5) fA))))))) (TD (bI (eV 3) (wA PH [] (bA (e2 YB (e2 TC (eC (.int 2)) (eV 0)) (eV 4)) (bA (e2 YB (e2 TC (eC (.int 2)) (eV 2)) (eC (.int 1))) (bA (eC (.int 3)) (bA (eV 5) fA))))))))
def cQ:RS:=jA (yA 3 (uF fA)) (jA (DC (JH (eC (.int 2))) (CA 4) lK) (HA (eV 3)))
def YI:LB:=fC 3 6 cQ
abbrev XR:Stmt:=top 35
def LM:RE:=rB (bA (e2 TC (eC (.int 2)) (eV 0)) (bA (e2 YB (e2 TC (eC (.int 2)) (eV 0)) (eC (.int 1))) (bA (FE (eC (.int 1))) fA)))
def QM:RS:=TD (bI (eV 2) (wA oK [] (bA (eV 3) (bA (wA GK [] (bA (GC BC (eV 0)) fA)) fA))))
def RH:RS:=TD (bI (eV 2) (wA YI [] (bA (e2 pA (eV 4) (eC (.int 0))) (bA (e2 pA (e2 pA (eV 0) (e2 pA (eV 4) (eC (.int 0)))) (e2 pA (eV 4) (eC (.int 1)))) (bA (e2 pA (eV 4) (eC (.int 1))) fA)))))
def xR:RS:=jA (yA 2 (IG (JH (GC BC (eV 0))) (CA 0) DB LM [none])) (jA (DC (oC (eV 1)) (CA 3) QM) (jA (DC (oC (wA gH [] (bA (GC BC (eV 0)) fA))) (CA 4) RH) (HA (eV 2))))
def oN:LB:=fC 2 5 xR
abbrev LP:Stmt:=top 36
def mK:RS:=jA (yA 3 (YO (bA (e2 pA (eV 2) (eC (.int 0))) (bA (e2 pA (eV 2) (eC (.int 1))) fA)))) (CO (qL rH (lH (eV 1) (eV 3) (e2 pA (eV 2) (eC (.int 2)))) (e2 pA (eV 2) (eC (.int 2)))) (eV 1) (eV 3))
def mM:RS:=jA (yA 1 WT) (jA (DC (oC (eV 0)) (CA 2) mK) (HA (eV 1)))
def UI:LB:=fC 1 4 mM
abbrev iS:Stmt:=top 37
def WH:RS:=bE (Wf (e2 rL (e2 pA (eV 1) (e2 pA (eV 4) (eC (.int 0)))) (e2 YB (e2 pA (eV 1) (e2 pA (eV 4) (eC (.int 1)))) (eV 5)))) (jA (iI (e2 YB (e2 pA (eV 1) (e2 pA (eV 4) (eC (.int 1)))) (eV 5)) (eV 1) (e2 pA (eV 4) (eC (.int 0)))) (jA (iI (e2 pA (eV 4) (eC (.int 1))) (eV 2) (e2 pA (eV 4) (eC (.int 0)))) (yA 3 (e2 pA (eV 4) (eC (.int 0)))))) TB
def GS:RS:=jA (yA 3 (eC .non)) (jA (DC (dI (eV 0)) (aF 4 5) WH) (HA (eV 3)))
def nJ:LB:=fC 3 6 GS
abbrev oQ:Stmt:=top 38
def UP:RS:=yA 0 (e2 pA (eV 1) (eV 0))
def VP:RS:=TD (IE (eV 3) (e2 pA (eV 1) (e2 pA (eV 3) (FE (eC (.int 1))))))
def RP:RT:=Wf (e2 yE (e2 pA (eV 3) (FE (eC (.int 1)))) (eV 0))
def iQ:RS:=jA (DC (JH (GC BC (eV 1))) (CA 2) UP) (jA (yA 3 (uF (bA (eV 0) (bA (e2 pA (eV 1) (eV 0)) fA)))) (jA (mO 100 RP VP) (HA (eV 3))))
def cM:LB:=fC 2 4 iQ
abbrev jS:Stmt:=top 39
def tK:RE:=e2 XF (eV 0) (eV 1)
def aJ:RS:=jA (yA 6 (wA nJ [] (bA (eV 2) (bA (eV 3) (bA (eV 4) fA))))) (bE (Wf (e2 ZG (eV 6) (eC .non))) (jA (yA 7 (XT (eV 3) (eC (.int 0)))) (HA (rB (bA (eC (.str "times")) (bA (yD (oC (eV 3)) (CA 0) DB tK [none,some 7]) fA))))) TB)
def mJ:RS:=jA (yA 2 (wA UI [] (bA (eV 1) fA))) (jA (yA 3 (EJ (eC (.int 0)) (eV 0))) (jA (yA 4 (EJ (eC .non) (eV 0))) (jA (DC (JH (e2 YB (eV 0) (eC (.int 1)))) (CA 5) aJ) (HA (rB (bA (eC (.str "ring")) (bA (wA cM [] (bA (eV 6) (bA (eV 4) fA))) fA)))))))
def cG:LB:=fC 2 8 mJ
abbrev rP:Stmt:=vS (top 41) 0
def qP:RS:=jA (jI "Search" "lengths" (eV 0) (eV 1)) (jA (jI "Search" "most" (eV 0) (eV 2)) (jI "Search" "made" (eV 0) (eC (.int 0))))
def eK:LB:=fC 3 3 qP
abbrev OP:Stmt:=top 42
def WL:RE:=rB (bA (e2 pA (eV 1) (eV 0)) (bA (e2 pA (eV 1) (e2 YB (eV 0) (eC (.int 1)))) fA))
def FP:RS:=HA (yD (EZ (eC (.int 0)) (GC BC (eV 0)) 2) (CA 0) DB WL [none,some 0])
def pM:LB:=fC 1 1 FP
abbrev oP:Stmt:=vS (top 41) 2
def aK (R:LB):RS:=jA (yA 6 (nI "Search" "look" R (eV 0) (bA (eV 5) (bA (e2 pA (eV 1) (eC (.int 3))) (bA (eV 3) fA))))) (jA (bE (Wf (e2 yE (e2 pA (eV 6) (eC (.int 0))) (eC (.str "clash")))) (HA (eV 6)) TB) (TD (IE (eV 4) (e2 pA (eV 6) (eC (.int 1))))))
def bK (R:LB):RS:=jA (yA 4 (uF fA)) (jA (DC (oC (e2 pA (eV 1) (eC (.int 2)))) (CA 5) (aK R)) (HA (rB (bA (eC (.str "clash")) (bA (e2 sI (e2 sI (rB (bA (e2 pA (eV 1) (eC (.int 0))) (bA (eV 2) fA))) (e2 pA (eV 1) (eC (.int 1)))) (rB (bA (eV 4) fA))) fA)))))
def bH(R:LB):LB:=fC 4 7 (bK R)
abbrev mQ:Stmt:=vS (top 41) 1
def BG (R:LB):RS:=jA (yA 4 (wA QH [] (bA (eV 1) (bA (eV 2) fA)))) (jA (yA 5 (e2 pA (eV 4) (eC (.int 0)))) (jA (yA 6 (e2 pA (eV 4) (eC (.int 1)))) (jA (bE (Wf (e2 ZG (eV 5) (eC .non))) (HA (rB (bA (eC (.str "clash")) (bA (rB (bA (eC (.str "threes")) (bA (eV 6) fA))) fA)))) TB) (jA (yA 7 (wA cG [] (bA (e2 TC (eC (.int 2)) (GC BC (eV 5))) (bA (wA oN [] (bA (eV 5) (bA (SG "Search" "lengths" (eV 0)) fA))) fA)))) (jA (bE (Wf (e2 IC (e2 pA (eV 7) (eC (.int 0))) (eC (.str "ring")))) (HA (rB (bA (eC (.str "clash")) (bA (rB (bA (eC (.str "ring")) (bA (eV 6) (bA (e2 pA (eV 7) (eC (.int 1))) fA)))) fA)))) TB) (jA (yA 8 (wA iH [] (bA (eV 5) (bA (eV 3) fA)))) (jA (bE (Wf (e2 ZG (eV 8) (eC .non))) (HA (rB (bA (eC (.str "laid")) (bA (wA pM [] (bA (e2 pA (eV 7) (eC (.int 1))) fA)) fA)))) TB) (jA (bE (Wf (e2 fP (SG "Search" "made" (eV 0)) (SG "Search" "most" (eV 0)))) (HA (rB (bA (eC (.str "open")) (bA (eC .non) fA)))) TB) (jA (jI "Search" "made" (eV 0) (e2 YB (SG "Search" "made" (eV 0)) (eC (.int 1)))) (HA (nI "Search" "look_at_branches" (bH R) (eV 0) (bA (eV 8) (bA (eV 6) (bA (gU (eV 3) (LO (eC (.int 1))) yU) fA))))))))))))))
def yF(n:Nat):LB:=Nat.rec (fun _ _=>none) (fun _ R=>fC 4 9 (BG R)) n
abbrev jN:Stmt:=top 43
def qR:RS:=jA (yA 3 (pO "Search" eK (bA (wA yM [] (bA (eV 1) fA)) (bA (eV 2) fA)))) (jA (yA 4 (nI "Search" "look" (yF 12) (eV 3) (bA (wA pK [] (bA (eV 0) (bA (eV 1) fA))) (bA (wA gH [] (bA (eV 0) fA)) (bA (wA qK [] (bA (eV 1) fA)) fA))))) (HA (rB (bA (e2 pA (eV 4) (eC (.int 0))) (bA (e2 pA (eV 4) (eC (.int 1))) (bA (SG "Search" "made" (eV 3)) fA))))))
def ZI:LB:=fC 3 5 qR
abbrev CQ:Stmt:=top 45
def jQ:RE:=eV 0
def lQ:RT:=HJ (Wf (LF LH LH (e2 pA (eV 1) (eC (.int 0))) (e2 pA (wA ZH [] (bA (eV 0) fA)) (eC (.int 0))) (e2 pA (eV 1) (eC (.int 1))))) (Wf (LF LH LH (e2 pA (eV 2) (eC (.int 0))) (e2 pA (wA ZH [] (bA (eV 0) fA)) (eC (.int 1))) (e2 pA (eV 2) (eC (.int 1)))))
def tQ:RS:=HA (wA BK [] (bA (yD (JH (eC (.int 13))) (CA 0) lQ jQ [none,some 0,some 1]) fA))
def vM:LB:=fC 2 2 tQ
abbrev aT:Stmt:=top 46
def AR:RE:=e2 pA (wA ZH [] (bA (eV 0) fA)) (eC (.int 0))
def BR:RE:=e2 pA (wA ZH [] (bA (eV 0) fA)) (eC (.int 1))
def QS:RS:=jA (yA 1 (yD (oC (wA DF [] (bA (eV 0) fA))) (CA 0) DB AR [none])) (jA (yA 2 (yD (oC (wA DF [] (bA (eV 0) fA))) (CA 0) DB BR [none])) (HA (wA vM [] (bA (rB (bA (GC VF (eV 1)) (bA (GC UF (eV 1)) fA))) (bA (rB (bA (GC VF (eV 2)) (bA (GC UF (eV 2)) fA))) fA)))))
def fO:LB:=fC 1 3 QS
abbrev bT:Stmt:=top 47
def SS:RS:=HA (AG (LF HL LH (eC (.int 0)) (eV 0) (eC uI)) (e2 IC (wA fO [] (bA (eV 0) fA)) (eV 0)))
def gO:LB:=fC 1 1 SS
abbrev wQ:Stmt:=top 49
def pQ:RS:=jA (bE (Wf (e2 HL (eV 1) (GC BC (eV 0)))) (HA (e2 pA (eV 0) (eV 1))) TB) (HA (eC (.int 0)))
def TH:LB:=fC 2 2 pQ
abbrev JQ:Stmt:=top 50
def TQ:RS:=HA (e2 iD (e2 TC (e2 YB (e2 iD (eV 0) (eC (.int 1000000007))) (eC (.int 1))) (eV 1)) (eV 2))
def gJ:LB:=fC 3 3 TQ
abbrev EQ:Stmt:=top 51
def aQ:RS:=HA (AG (FH "int" (eV 0)) (UL (FH "bool" (eV 0))))
def XI:LB:=fC 1 1 aQ
abbrev zQ:Stmt:=top 52
def SH:RS:=jA (bE (Wf (e2 HL (eV 0) (e2 pA (eV 1) (eC (.int 0))))) (HA (eC (.int 0))) TB) (jA (bE (Wf (e2 IC (eV 0) (e2 pA (eV 1) (eC (.int 0))))) (HA (eC (.int 1))) TB) (HA (e2 YB (e2 YB (eC (.int 2)) (GC PJ (e2 fP (eV 0) (e2 pA (eV 1) (eC (.int 1)))))) (GC PJ (e2 rL (eV 0) (e2 pA (eV 1) (eC (.int 1))))))))
def AF:LB:=fC 2 2 SH
abbrev JP:Stmt:=top 53
def BP:RS:=HA (e2 YB (e2 pA (SF (bA (eC (.int 0)) (bA (eC (.int 3)) (bA (eC (.int 6)) (bA (eC (.int 7)) (bA (eC (.int 8)) fA)))))) (wA AF [] (bA (e2 pA (eV 0) (eC (.int 0))) (bA (eV 1) fA)))) (wA AF [] (bA (e2 pA (eV 0) (eC (.int 1))) (bA (eV 1) fA))))
def kK:LB:=fC 2 2 BP
abbrev pP:Stmt:=top 54
def vP:RS:=jA (yA 6 (wA gJ [] (bA (e2 YB (wA TH [] (bA (eV 0) (bA (e2 YB (eV 1) (eV 5)) fA))) (e2 TC (eV 5) (eV 5))) (bA (eC (.int 742938285)) (bA (eC (.int 2147483647)) fA))))) (jA (yA 7 (e2 TC (e2 XF (e2 iD (eV 6) (eC (.int 8))) (eC (.int 3))) (eV 3))) (TD (IE (eV 4) (rB (bA (eV 7) (bA (e2 YB (eV 7) (e2 TC (e2 YB (eC (.int 1)) (e2 iD (e2 eE (eV 6) (eC (.int 8))) (eC (.int 5)))) (eV 3))) fA))))))
def sP:RS:=jA (yA 3 (e2 pA (SF (bA (eC (.int 1)) (bA (eC (.int 1)) (bA (eC (.int 1)) (bA (e2 YB (e2 IL (eC (.int 10)) (eC (.int 40))) (eC (.int 7))) fA))))) (e2 iD (e2 eE (wA TH [] (bA (eV 0) (bA (eC (.int 0)) fA))) (eC (.int 5))) (eC (.int 4))))) (jA (yA 4 (uF fA)) (jA (DC (JH (eV 2)) (CA 5) vP) (HA (eV 4))))
def YL:LB:=fC 3 8 sP
abbrev IQ:Stmt:=top 55
def zM:RS:=bE (HJ (Wf (LF LH LH (eV 0) (e2 pA (eV 4) (eV 7)) (eV 1))) (Wf (LF LH LH (eV 2) (e2 pA (eV 5) (eV 7)) (eV 3)))) (yA 6 (e2 FL (eV 6) (e2 NH (eC (.int 1)) (eV 7)))) TB
def SQ:RS:=jA (yA 4 (SF (bA (eC (.int 0)) (bA (eC (.int 0)) (bA (eC (.int 0)) (bA (eC (.int 0)) (bA (eC (.int 0)) (bA (eC (.int 1)) (bA (eC (.int 1)) (bA (eC (.int 1)) (bA (eC (.int 2)) (bA (eC (.int 2)) (bA (eC (.int 2)) (bA (eC (.int 3)) (bA (eC (.int 4)) fA))))))))))))))) (jA (yA 5 (SF (bA (eC (.int 0)) (bA (eC (.int 1)) (bA (eC (.int 2)) (bA (eC (.int 3)) (bA (eC (.int 4)) (bA (eC (.int 2)) (bA (eC (.int 3)) (bA (eC (.int 4)) (bA (eC (.int 2)) (bA (eC (.int 3)) (bA (eC (.int 4)) (bA (eC (.int 4)) (bA (eC (.int 4)) fA))))))))))))))) (jA (yA 6 (eC (.int 0))) (jA (DC (JH (eC (.int 13))) (CA 7) zM) (HA (eV 6)))))
def MM:LB:=fC 4 8 SQ
abbrev xQ:Stmt:=top 56
def WI:RS:=jA (yA 3 (GC BC (eV 1))) (jA (yA 4 (wA gJ [] (bA (eV 0) (bA (eC (.int 950706376)) (bA (eC (.int 2147483399)) fA))))) (jA (yA 5 (e2 iD (eV 4) (eV 3))) (jA (yA 6 (e2 iD (e2 YB (e2 YB (eV 5) (eC (.int 1))) (e2 iD (e2 eE (eV 4) (eC (.int 8))) (e2 XF (eV 3) (eC (.int 1))))) (eV 3))) (jA (yA 7 (wA AF [] (bA (e2 pA (e2 pA (eV 1) (eV 5)) (eC (.int 0))) (bA (e2 pA (eV 1) (eV 6)) fA)))) (jA (yA 8 (wA AF [] (bA (e2 pA (e2 pA (eV 1) (eV 5)) (eC (.int 1))) (bA (e2 pA (eV 1) (eV 6)) fA)))) (jA (yA 4 (wA gJ [] (bA (eV 0) (bA (eC (.int 742938285)) (bA (eC (.int 2147483647)) fA))))) (jA (bE (HJ (Wf (eV 2)) (Wf (e2 rL (e2 iD (e2 eE (eV 4) (eC (.int 625))) (eC (.int 4))) (eC (.int 0))))) (jA (yA 7 (e2 iD (e2 eE (eV 4) (eC (.int 2500))) (eC (.int 5)))) (yA 8 (e2 iD (e2 eE (eV 4) (eC (.int 12500))) (eC (.int 5))))) TB) (jA (yA 9 (qL rH (eV 7) (e2 iD (eV 4) (eC (.int 5))))) (jA (yA 10 (qL iL (eV 7) (e2 iD (e2 eE (eV 4) (eC (.int 5))) (eC (.int 5))))) (jA (yA 11 (wA MM [] (bA (eV 9) (bA (eV 10) (bA (qL rH (eV 8) (e2 iD (e2 eE (eV 4) (eC (.int 25))) (eC (.int 5)))) (bA (qL iL (eV 8) (e2 iD (e2 eE (eV 4) (eC (.int 125))) (eC (.int 5)))) fA)))))) (jA (bE (Wf (e2 IC (eV 11) (eC (.int 0)))) (yA 11 (e2 NH (eC (.int 1)) (wA kK [] (bA (e2 pA (eV 1) (eV 5)) (bA (e2 pA (eV 1) (eV 6)) fA))))) TB) (HA (rB (bA (eC (.str "ways")) (bA (eV 5) (bA (eV 11) (bA (eV 6) fA)))))))))))))))))
def zF:LB:=fC 3 12 WI
abbrev yQ:Stmt:=top 57
def gK:RS:=jA (bE (zG (uH (Wf (FH "tuple" (eV 3)))) (Wf (e2 yE (GC BC (eV 3)) (eC (.int 2))))) (HA (eC (.bl false))) TB) (bE (zG (uH (Wf (wA XI [] (bA (e2 pA (eV 3) (eC (.int 0))) fA)))) (zG (uH (Wf (wA XI [] (bA (e2 pA (eV 3) (eC (.int 1))) fA)))) (zG (Wf (e2 HL (e2 pA (eV 3) (eC (.int 0))) (eC (.int 0)))) (Wf (e2 fP (e2 pA (eV 3) (eC (.int 0))) (e2 pA (eV 3) (eC (.int 1)))))))) (HA (eC (.bl false))) TB)
def dM:RS:=bE (Wf (e2 IC (e2 qI (e2 VJ (e2 pA (eV 4) (eC (.int 2))) (wA kK [] (bA (e2 pA (eV 0) (e2 pA (eV 4) (eC (.int 1)))) (bA (e2 pA (eV 0) (e2 pA (eV 4) (eC (.int 3)))) fA)))) (eC (.int 1))) (eC (.int 0)))) (HA (eC (.bl false))) TB
def qQ:RS:=jA (bE (zG (uH (Wf (FH "list" (eV 0)))) (Wf (e2 yE (GC BC (eV 0)) (eV 2)))) (HA (eC (.bl false))) TB) (jA (DC (oC (eV 0)) (CA 3) gK) (jA (DC (oC (eV 1)) (CA 4) dM) (HA (eC (.bl true)))))
def uM:LB:=fC 3 5 qQ
abbrev aU:Stmt:=top 58
def LN:RE:=wA zF [] (bA (eV 0) (bA (eV 1) (bA (eV 2) fA)))
def HK:RS:=jA (bE (Wf (e2 uO (wA gO [] (bA (e2 pA (eV 6) (eC (.int 2))) fA)) (eC (.bl true)))) (HA (eC (.bl false))) TB) (yA 5 (wA fH [] (bA (eV 5) (bA (e2 pA (eV 6) (eC (.int 1))) (bA (e2 pA (eV 6) (eC (.int 2))) (bA (e2 pA (eV 6) (eC (.int 3))) fA))))))
def jL:RS:=jA (yA 1 (e2 YB (eC (.int 2)) (e2 iD (wA TH [] (bA (eV 0) (bA (eC (.int 0)) fA))) (eC (.int 3))))) (jA (yA 2 (wA YL [] (bA (eV 0) (bA (eC (.int 1)) (bA (eV 1) fA))))) (jA (yA 3 (e2 IC (e2 iD (e2 eE (wA TH [] (bA (eV 0) (bA (eC (.int 0)) fA))) (eC (.int 20))) (eC (.int 3))) (eC (.int 0)))) (jA (yA 4 (yD (oC (gU (eV 0) (LO (eC (.int 9))) (LO (eC (.int 29))))) (CA 0) DB LN [none,some 2,some 3])) (jA (yA 5 (wA YK [] (bA (eV 1) fA))) (jA (DC (oC (eV 4)) (CA 6) HK) (jA (yA 7 (e2 pA (wA aN [] (bA (eV 5) fA)) (eC (.int 0)))) (jA (yA 8 (e2 eE (e2 TC (eV 1) (e2 XF (eV 1) (eC (.int 1)))) (eC (.int 2)))) (jA (yA 9 (wA ZI [] (bA (eV 1) (bA (GC XE (eV 4)) (bA (eV 8) fA))))) (jA (bE (zG (uH (Wf (FH "tuple" (eV 9)))) (zG (Wf (e2 yE (GC BC (eV 9)) (eC (.int 3)))) (uH (Wf (wA XI [] (bA (e2 pA (eV 9) (eC (.int 2))) fA)))))) (HA (eC (.bl false))) TB) (jA (bE (Wf (e2 ZG (eV 7) (eC .non))) (HA (AG (e2 IC (e2 pA (eV 9) (eC (.int 0))) (eC (.str "clash"))) (AG (e2 IC (e2 pA (e2 pA (eV 9) (eC (.int 1))) (eC (.int 0))) (eC (.str "threes"))) (e2 IC (e2 pA (eV 9) (eC (.int 2))) (eC (.int 0)))))) TB) (HA (AG (e2 IC (e2 pA (eV 9) (eC (.int 0))) (eC (.str "laid"))) (AG (LF LH LH (eC (.int 0)) (e2 pA (eV 9) (eC (.int 2))) (eV 8)) (wA uM [] (bA (e2 pA (eV 9) (eC (.int 1))) (bA (eV 4) (bA (eV 1) fA)))))))))))))))))
def lI:LB:=fC 1 10 jL
structure Ah(K:Frag)(mg:Str->Option Value):Prop where
 zbI:kB K mg "zones" kS ["way"]
 zbA:kB K mg "ways_in" HR ["mask"]
 zbC:kB K mg "set_of" YR ["ways"]
 zbD:kB K mg "turned" ZR ["mask"]
 za3:kB K mg "chained_sets" KP ["one", "other"]
 zbu:kB K mg "wide_row" OQ ["count", "i"]
 zbN:kB K mg "wide" cT ["count"]
 zbs:kB K mg "pairs_of" MQ ["count"]
 zbr:kB K mg "narrowed" LQ ["net", "i", "mask", "j"]
 zbw:kB K mg "left_by" bR ["net", "three"]
 zby:kB K mg "narrows" FR ["net", "three"]
 zbx:kB K mg "made_of" ER ["net", "three"]
 zbq:kB K mg "is_empty" KQ ["net"]
 za9:kB K mg "threes_along" yP ["pair", "count"]
 za6:kB K mg "rounded_from" NP ["net", "pairs"]
 zbz:kB K mg "rounded" GR ["net"]
 zbj:kB K mg "first_net" AQ ["count", "facts"]
 zbb:kB K mg "lengths_in" FQ ["facts"]
 zbk:kB K mg "groups_in" BQ ["facts"]
 zbd:kB K mg "only_member" nQ ["net", "group", "chosen"]
 za1:kB K mg "first_loose_pair" xP ["net"]
 zbt:kB K mg "split_of" NQ ["net", "groups"]
 zbF:kB K mg "grain" fS ["count"]
 za7:kB K mg "length_bounds" ZP ["length", "one"]
 za5:kB K mg "point_bounds" MP ["p", "q", "at", "seen"]
 zbc:kB K mg "set_bounds" GQ ["i", "mask", "j"]
 zbB:kB K mg "bounds" XR ["net", "lengths"]
 za4:kB K mg "least_bounds" LP ["found"]
 zbG:kB K mg "moved" iS ["least", "times", "causes"]
 zbe:kB K mg "ring_behind" oQ ["point", "causes"]
 zbH:kB K mg "timed" jS ["points", "bounds"]
 zbE:WS K mg "Search" "Search.__init__" rP ["self", "lengths", "most"]
 zaB:ZK K "Search" "look" "Search.look" mQ ["self", "net", "pairs", "groups"]
 zaZ:ZK K "Search" "look_at_branches" "Search.look_at_branches" oP ["self", "split", "steps", "groups"]
 za8:kB K mg "stretches_at" OP ["times"]
 zbl:vL K mg "planned" jN ["count", "facts", "most"] []
 zbm:kB K mg "rectangle" CQ ["starts", "ends"]
 zbL:kB K mg "hull" aT ["mask"]
 zbM:kB K mg "tame" bT ["mask"]
 zbf:kB K mg "_law_cell" wQ ["_law_script", "_law_k"]
 zbp:kB K mg "_law_mix" JQ ["_law_cell_here", "_law_factor", "_law_prime"]
 zba:kB K mg "_law_whole" EQ ["_law_told"]
 zbi:kB K mg "_law_zone" zQ ["_law_time", "_law_one"]
 za2:kB K mg "_law_between" JP ["_law_one", "_law_other"]
 za0:kB K mg "_law_stretches" pP ["_law_script", "_law_at", "_law_count"]
 zbo:kB K mg "_law_box" IQ ["_law_a", "_law_b", "_law_c", "_law_d"]
 zbg:kB K mg "_law_fact" xQ ["_law_cell_here", "_law_stretches_here", "_law_loose"]
 zbh:kB K mg "_law_laid" yQ ["_law_thing", "_law_facts", "_law_count"]
 zaz:uJ K "Search" "lengths"
 zaA:uJ K "Search" "most"
 jl:uJ K "Search" "made"
 zbP:mg "any" =none
 zbO:mg "bool" =none
 zbn:mg "enumerate" =none
 Tp:mg "int" =none
 Zm:mg "isinstance" =none
 Jc:mg "len" =none
 Al:mg "list" =none
 Im:mg "max" =none
 Xn:mg "min" =none
 Yc:mg "range" =none
 zbQ:mg "sum" =none
 zaC:mg "tuple" =none
 Cp:LJ K mg "ALL" uI
 zbJ:LJ K mg "ZONES" HS
 zbv:LJ K mg "CHAINED" tR
 zbK:LJ K mg "SAME" VS
section
variable{P:Program}{w:World}{K:Frag}{mg:Str->Option Value}
theorem Yj:SA ["way"] ["way"] (xA kS):=dB
theorem K7:SA ["mask"] ["mask"] (xA HR):=dB
theorem Y7:SA ["ways"] ["ways"] (xA YR):=dB
theorem Z7:SA ["mask"] ["mask"] (xA ZR):=dB
theorem nB:SA ["one", "other", "seconds", "reached", "first", "second"] ["one", "other"] (xA KP):=dB
theorem n6:SA ["count", "i"] ["count", "i"] (xA OQ):=dB
theorem Nz:SA ["count"] ["count"] (xA cT):=dB
theorem uD:SA ["count", "found", "i", "j"] ["count"] (xA MQ):=dB
theorem lF:SA ["net", "i", "mask", "j", "made"] ["net", "i", "mask", "j"] (xA LQ):=dB
theorem BE:SA ["net", "three", "first", "second"] ["net", "three"] (xA bR):=dB
theorem G7:SA ["net", "three"] ["net", "three"] (xA FR):=dB
theorem F7:SA ["net", "three"] ["net", "three"] (xA ER):=dB
theorem l6:SA ["net"] ["net"] (xA KQ):=dB
theorem KC:SA ["pair", "count", "found", "other"] ["pair", "count"] (xA yP):=dB
theorem bB:SA ["net", "pairs", "steps", "end", "waiting", "pair", "three"] ["net", "pairs"] (xA NP):=dB
theorem J7:SA ["net"] ["net"] (xA GR):=dB
theorem WC:SA ["count", "facts", "net", "fact"] ["count", "facts"] (xA AQ):=dB
theorem N4:SA ["facts"] ["facts"] (xA FQ):=dB
theorem D5:SA ["facts"] ["facts"] (xA BQ):=dB
theorem pC:SA ["net", "group", "chosen", "place", "member", "mask"] ["net", "group", "chosen"] (xA nQ):=dB
theorem RC:SA ["net", "pair"] ["net"] (xA xP):=dB
theorem lC:SA ["net", "groups", "group", "nets", "pair", "mask"] ["net", "groups"] (xA NQ):=dB
theorem Xj:SA ["count"] ["count"] (xA fS):=dB
theorem CD:SA ["length", "one", "start"] ["length", "one"] (xA ZP):=dB
theorem PD:SA ["p", "q", "at", "seen", "found"] ["p", "q", "at", "seen"] (xA MP):=dB
theorem AC:SA ["i", "mask", "j", "found", "side", "seen"] ["i", "mask", "j"] (xA GQ):=dB
theorem cE:SA ["net", "lengths", "found", "length", "pair"] ["net", "lengths"] (xA XR):=dB
theorem gC:SA ["found", "least", "bound", "pair"] ["found"] (xA LP):=dB
theorem SE:SA ["least", "times", "causes", "last", "pair", "most"] ["least", "times", "causes"] (xA iS):=dB
theorem qC:SA ["point", "causes", "step", "ring"] ["point", "causes"] (xA oQ):=dB
theorem eD:SA ["points", "bounds", "least", "times", "causes", "turn", "last", "first"] ["points", "bounds"] (xA jS):=dB
theorem J3:SA ["self", "lengths", "most"] ["self", "lengths", "most"] (xA rP):=dB
theorem o4:SA ["times"] ["times"] (xA OP):=dB
theorem UA:SA ["self", "split", "steps", "groups", "branches", "net", "told"] ["self", "split", "steps", "groups"] (xA oP):=dB
theorem CB:SA ["self", "net", "pairs", "groups", "gone_round", "end", "steps", "laid", "split"] ["self", "net", "pairs", "groups"] (xA mQ):=dB
theorem DE:SA ["count", "facts", "most", "search", "told"] ["count", "facts", "most"] (xA jN):=dB
theorem F5:SA ["starts", "ends"] ["starts", "ends"] (xA CQ):=dB
theorem yG:SA ["mask", "starts", "ends"] ["mask"] (xA aT):=dB
theorem Mz:SA ["mask"] ["mask"] (xA bT):=dB
theorem B5:SA ["_law_script", "_law_k"] ["_law_script", "_law_k"] (xA wQ):=dB
theorem j6:SA ["_law_cell_here", "_law_factor", "_law_prime"] ["_law_cell_here", "_law_factor", "_law_prime"] (xA JQ):=dB
theorem M4:SA ["_law_told"] ["_law_told"] (xA EQ):=dB
theorem C5:SA ["_law_time", "_law_one"] ["_law_time", "_law_one"] (xA zQ):=dB
theorem l4:SA ["_law_one", "_law_other"] ["_law_one", "_law_other"] (xA JP):=dB
theorem ZA:SA ["_law_script", "_law_at", "_law_count", "_law_large", "_law_made", "_law_k", "_law_number", "_law_start"] ["_law_script", "_law_at", "_law_count"] (xA pP):=dB
theorem kC:SA ["_law_a", "_law_b", "_law_c", "_law_d", "_law_starts", "_law_ends", "_law_mask", "_law_way"] ["_law_a", "_law_b", "_law_c", "_law_d"] (xA IQ):=dB
theorem DA:SA ["_law_cell_here", "_law_stretches_here", "_law_loose", "_law_count", "_law_number", "_law_i", "_law_j", "_law_start", "_law_end", "_law_a", "_law_b", "_law_mask"] ["_law_cell_here", "_law_stretches_here", "_law_loose"] (xA xQ):=dB
theorem ID:SA ["_law_thing", "_law_facts", "_law_count", "_law_one", "_law_fact_here"] ["_law_thing", "_law_facts", "_law_count"] (xA yQ):=dB
theorem dD:SA ["_law_script", "_law_count", "_law_stretches_here", "_law_loose", "_law_facts", "_law_net", "_law_fact_here", "_law_end", "_law_most", "_law_told"] ["_law_script"] (xA aU):=dB
variable(T:Ah K mg)(b:Heap)
include T
theorem DK:aD P w K mg b 1 1 "zones" ZH:=
 qB (k:=0) (body:=bY) T.zbI Yj rfl rfl fun _ _ _ _ _ _ _ hr=>uA (LA (eA (cI rfl T.zbJ) (aA 0)))
theorem cH:aD P w K mg b 1 1 "ways_in" DF:=
 qB (k:=0) (body:=sR) T.zbA K7 rfl rfl fun _ _ _ _ _ _ _ hr=>uA (LA (dG (Nc:=["way", "mask"]) rfl (oF rfl T.Yc dA) (by decide +kernel) rfl (by decide +kernel) (by rfl) (by exact⟨⟨rfl,.inl rfl,.inl rfl,rfl⟩,trivial⟩) (fun _ _ _ _=>FB 0 (show(["way", "mask"]:List Str).Nodup by decide +kernel)) (fun _ _ _ _=>XN (NB (mE hr.units) (vA OK (vA HY (aA 1) (aA 0)) dA) dA)) (fun _ _ _ _=>aA 0)))
theorem vV:aD P w K mg b 1 1 "set_of" BK:=
 qB (k:=0) (body:=yR) T.zbC Y7 rfl rfl fun _ _ _ _ _ _ _ hr=>uA (LA (Qk rfl rfl T.zbQ (dG (Nc:=["way"]) rfl (FC (aA 0)) (by decide +kernel) rfl (by decide +kernel) (by rfl) (by exact trivial) (fun _ _ _ _=>FB 0 (show(["way"]:List Str).Nodup by decide +kernel)) (fun _ _ _ _=>jE) (fun _ _ _ _=>vA iO dA (aA 0)))))
theorem N6:aD P w K mg b 2 1 "turned" pN:=
 qB (k:=1) (body:=zR) T.zbD Z7 rfl rfl fun _ _ _ _ _ _ _ hr=>uA (LA (EA (vV T b) hr (cA (dG (Nc:=["way"]) rfl (FC (EA (cH T b) hr (cA (aA 0) iA))) (by decide +kernel) rfl (by decide +kernel) (by rfl) (by exact trivial) (fun _ _ _ _=>FB 0 (show(["way"]:List Str).Nodup by decide +kernel)) (fun _ _ _ _=>jE) (fun _ _ _ _=>vA fI dA (aA 0))) iA)))
theorem A3:aD P w K mg b 2 2 "chained_sets" oM:=
 qB (k:=1) (body:=CP) T.za3 nB rfl rfl fun _ _ _ _ _ _ _ hr=>kA (KA 2 nB.nd (EA (cH T b) hr (cA (aA 1) iA))) (kA (KA 3 nB.nd dA) (kA (mD PassesOwn.never rfl (FC (EA (cH T b) hr (cA (aA 0) iA))) (FB 4 nB.nd) (uA (mD PassesOwn.never rfl (FC (aA 2)) (FB 5 nB.nd) (uA (KA 3 nB.nd (vA EY (aA 3) (eA (eA (cI rfl T.zbv) (aA 4)) (aA 5)))))))) (uA (LA (aA 3)))))
theorem Y4:aD P w K mg b 1 2 "wide_row" PM:=
 qB (k:=0) (body:=XQ) T.zbu n6 rfl rfl fun _ _ _ _ _ _ _ hr=>uA (LA (vA Dq (vA Mw (sY (cI rfl T.Cp) (aA 1)) (mH (cA (cI rfl T.zbK) iA))) (sY (cI rfl T.Cp) (vA fI (vA fI (aA 0) (aA 1)) dA))))
theorem DW:aD P w K mg b 2 1 "wide" YK:=
 qB (k:=1) (body:=US) T.zbN Nz rfl rfl fun _ _ _ _ _ _ _ hr=>uA (LA (v9 (Nc:=["i", "count"]) rfl (oF rfl T.Yc (aA 0)) (by decide +kernel) rfl (by decide +kernel) (by rfl) (by exact⟨⟨rfl,.inl rfl,.inl rfl,rfl⟩,trivial⟩) (fun _ _ _ _=>FB 0 (show(["i", "count"]:List Str).Nodup by decide +kernel)) (fun _ _ _ _=>jE) (fun _ _ _ _=>EA (Y4 T b) hr (cA (aA 1) (cA (aA 0) iA)))))
theorem BM:aD P w K mg b 1 1 "pairs_of" gH:=
 qB (k:=0) (body:=WQ) T.zbs uD rfl rfl fun _ _ _ _ _ _ _ hr=>kA (KA 1 uD.nd (JG iA)) (kA (mD PassesOwn.never rfl (oF rfl T.Yc (aA 0)) (FB 2 uD.nd) (uA (mD PassesOwn.never rfl (C8 rfl T.Yc (vA NC (aA 2) dA) (aA 0)) (FB 3 uD.nd) (uA (WE (aG (aA 1) (UB (cA (aA 2) (cA (aA 3) iA))))))))) (uA (LA (aA 1))))
theorem sK:aD P w K mg b 3 4 "narrowed" fH:=
 qB (k:=2) (body:=VQ) T.zbr lF rfl rfl fun _ _ _ _ _ _ _ hr=>kA (DQ (Nc:=["row"]) 4 rfl lF.nd (FC (aA 0)) (by decide +kernel) rfl (by decide +kernel) (by rfl) (by exact trivial) (fun _ _ _ _=>FB 0 (show(["row"]:List Str).Nodup by decide +kernel)) (fun _ _ _ _=>jE) (fun _ _ _ _=>dN rfl T.Al (aA 0)) (by rfl)) (kA (KN (vA OK (eA (eA (aA 0) (aA 1)) (aA 3)) (aA 2)) (eA (aA 4) (aA 1)) (aA 3)) (kA (KN (EA (N6 T b) hr (cA (eA (eA (aA 4) (aA 1)) (aA 3)) iA)) (eA (aA 4) (aA 3)) (aA 1)) (uA (LA (aA 4)))))
theorem cV:aD P w K mg b 3 2 "left_by" CK:=
 qB (k:=2) (body:=nR) T.zbw BE rfl rfl fun _ _ _ _ _ _ _ hr=>kA (KA 2 BE.nd (eA (eA (aA 0) (eA (aA 1) dA)) (eA (aA 1) dA))) (kA (KA 3 BE.nd (eA (eA (aA 0) (eA (aA 1) dA)) (eA (aA 1) dA))) (uA (LA (vA OK (eA (eA (aA 0) (eA (aA 1) dA)) (eA (aA 1) dA)) (EA (A3 T b) hr (cA (aA 2) (cA (aA 3) iA)))))))
theorem P5:aD P w K mg b 4 2 "narrows" YM:=
 qB (k:=3) (body:=pR) T.zby G7 rfl rfl fun _ _ _ _ _ _ _ hr=>uA (LA (iG (eI hr.units) (EA (cV T b) hr (cA (aA 0) (cA (aA 1) iA))) (eA (eA (aA 0) (eA (aA 1) dA)) (eA (aA 1) dA))))
theorem N5:aD P w K mg b 4 2 "made_of" XM:=
 qB (k:=3) (body:=oR) T.zbx F7 rfl rfl fun _ _ _ _ _ _ _ hr=>uA (LA (EA (sK T b) hr (cA (aA 0) (cA (eA (aA 1) dA) (cA (EA (cV T b) hr (cA (aA 0) (cA (aA 1) iA))) (cA (eA (aA 1) dA) iA))))))
theorem W4:aD P w K mg b 1 1 "is_empty" NM:=
 qB (k:=0) (body:=UQ) T.zbq l6 rfl rfl fun _ _ _ _ _ _ _ hr=>uA (LA (Jk rfl rfl T.zbP (dG (Nc:=["row"]) rfl (FC (aA 0)) (by decide +kernel) rfl (by decide +kernel) (by rfl) (by exact trivial) (fun _ _ _ _=>FB 0 (show(["row"]:List Str).Nodup by decide +kernel)) (fun _ _ _ _=>jE) (fun _ _ _ _=>iG Kg dA (aA 0)))))
theorem D3:aD P w K mg b 1 2 "threes_along" qM:=
 qB (k:=0) (body:=GP) T.za9 KC rfl rfl fun _ _ _ _ _ _ _ hr=>kA (KA 2 KC.nd (JG iA)) (kA (mD PassesOwn.never rfl (oF rfl T.Yc (aA 1)) (FB 3 KC.nd) (uA (nC (NB Ej (aA 3) (aA 0)) (kA (WE (aG (aA 2) (UB (cA (eA (aA 0) dA) (cA (eA (aA 0) dA) (cA (aA 3) iA)))))) (uA (WE (aG (aA 2) (UB (cA (eA (aA 0) dA) (cA (eA (aA 0) dA) (cA (aA 3) iA)))))))) mC))) (uA (LA (aA 2))))
theorem QU:aD P w K mg b 5 2 "rounded_from" QH:=
 qB (k:=4) (body:=nM) T.za6 bB rfl rfl fun _ _ _ _ _ _ _ hr=>kA (KA 2 bB.nd (JG iA)) (kA (nC (MG (EA (W4 T b) hr (cA (aA 0) iA))) (uA (LA (UB (cA qF (cA (aA 2) iA))))) mC) (kA (DQ (Nc:=["row"]) 3 rfl bB.nd (FC (aA 0)) (by decide +kernel) rfl (by decide +kernel) (by rfl) (by exact trivial) (fun _ _ _ _=>FB 0 (show(["row"]:List Str).Nodup by decide +kernel)) (fun _ _ _ _=>jE) (fun _ _ _ _=>dN rfl T.Al (aA 0)) (by rfl)) (kA (KA 4 bB.nd (dN rfl T.Al (aA 1))) (kA (aY PassesOwn.never (NB (FY hr.units) (aA 4) (mH iA)) (kA (KA 5 bB.nd (y9 (aA 4) dA)) (uA (mD PassesOwn.never rfl (FC (EA (D3 T b) hr (cA (aA 5) (cA (kE rfl T.Jc (aA 0)) iA)))) (FB 6 bB.nd) (uA (nC (MG (EA (P5 T b) hr (cA (aA 3) (cA (aA 6) iA)))) (kA (KA 3 bB.nd (EA (N5 T b) hr (cA (aA 3) (cA (aA 6) iA)))) (kA (WE (aG (aA 2) (aA 6))) (kA (nC (NB (Ow hr.units) (eA (eA (aA 3) (eA (aA 6) dA)) (eA (aA 6) dA)) dA) (uA (LA (UB (cA qF (cA (aA 2) iA))))) mC) (uA (WE (aG (aA 4) (UB (cA (eA (aA 6) dA) (cA (eA (aA 6) dA) iA))))))))) mC)))))) (uA (LA (UB (cA (aA 3) (cA (aA 2) iA)))))))))
theorem Q5:aD P w K mg b 6 1 "rounded" aN:=
 qB (k:=5) (body:=rR) T.zbz J7 rfl rfl fun _ _ _ _ _ _ _ hr=>uA (LA (EA (QU T b) hr (cA (aA 0) (cA (EA (BM T b) hr (cA (kE rfl T.Jc (aA 0)) iA)) iA))))
theorem C4:aD P w K mg b 4 2 "first_net" pK:=
 qB (k:=3) (body:=rQ) T.zbj WC rfl rfl fun _ _ _ _ _ _ _ hr=>kA (KA 2 WC.nd (EA (DW T b) hr (cA (aA 0) iA))) (kA (mD PassesOwn.never rfl (FC (aA 1)) (FB 3 WC.nd) (uA (nC (NB (mE hr.units) (eA (aA 3) dA) ED) (uA (KA 2 WC.nd (EA (sK T b) hr (cA (aA 2) (cA (eA (aA 3) dA) (cA (eA (aA 3) dA) (cA (eA (aA 3) dA) iA))))))) mC))) (uA (LA (aA 2))))
theorem p4:aD P w K mg b 1 1 "lengths_in" yM:=
 qB (k:=0) (body:=bQ) T.zbb N4 rfl rfl fun _ _ _ _ _ _ _ hr=>uA (LA (dG (Nc:=["fact"]) rfl (FC (aA 0)) (by decide +kernel) rfl (by decide +kernel) (by rfl) (by exact trivial) (fun _ _ _ _=>FB 0 (show(["fact"]:List Str).Nodup by decide +kernel)) (fun _ _ _ _=>XN (NB (mE hr.units) (eA (aA 0) dA) ED)) (fun _ _ _ _=>UB (cA (eA (aA 0) dA) (cA (eA (aA 0) dA) (cA (eA (aA 0) dA) iA))))))
theorem D4:aD P w K mg b 1 1 "groups_in" qK:=
 qB (k:=0) (body:=sQ) T.zbk D5 rfl rfl fun _ _ _ _ _ _ _ hr=>uA (LA (dG (Nc:=["fact"]) rfl (FC (aA 0)) (by decide +kernel) rfl (by decide +kernel) (by rfl) (by exact trivial) (fun _ _ _ _=>FB 0 (show(["fact"]:List Str).Nodup by decide +kernel)) (fun _ _ _ _=>XN (NB (mE hr.units) (eA (aA 0) dA) ED)) (fun _ _ _ _=>eA (aA 0) dA)))
theorem T3:aD P w K mg b 4 3 "only_member" bM:=
 qB (k:=3) (body:=gQ) T.zbd pC rfl rfl fun _ _ _ _ _ _ _ hr=>kA (mD PassesOwn.never rfl (Uq rfl T.zbn (aA 1)) (SY 3 4 rfl pC.nd) (kA (KA 5 pC.nd (uT (NB (mE hr.units) (aA 3) (aA 2)) (eA (aA 4) dA) (vA OK (cI rfl T.Cp) (Lk (eA (aA 4) dA))))) (uA (KA 0 pC.nd (EA (sK T b) hr (cA (aA 0) (cA (eA (aA 4) dA) (cA (aA 5) (cA (eA (aA 4) dA) iA))))))))) (uA (LA (aA 0)))
theorem o3:aD P w K mg b 2 1 "first_loose_pair" fK:=
 qB (k:=1) (body:=aM) T.za1 RC rfl rfl fun _ _ _ _ _ _ _ hr=>kA (mD PassesOwn.never rfl (FC (EA (BM T b) hr (cA (kE rfl T.Jc (aA 0)) iA))) (FB 1 RC.nd) (uA (nC (NB lL (kE rfl T.Jc (EA (cH T b) hr (cA (eA (eA (aA 0) (eA (aA 1) dA)) (eA (aA 1) dA)) iA))) dA) (uA (LA (aA 1))) mC))) (uA (LA qF))
theorem X4:aD P w K mg b 5 2 "split_of" iH:=
 qB (k:=4) (body:=wK) T.zbt lC rfl rfl fun _ _ _ _ _ _ _ hr=>kA (nC (NB (FY hr.units) (aA 1) (mH iA)) (kA (KA 2 lC.nd (eA (aA 1) dA)) (kA (hJ (Nc:=["chosen", "net", "group"]) 3 rfl lC.nd (oF rfl T.Yc (kE rfl T.Jc (aA 2))) (by decide +kernel) rfl (by decide +kernel) (by rfl) (by exact⟨⟨rfl,.inl rfl,.inl rfl,rfl⟩,⟨⟨rfl,.inl rfl,.inl rfl,rfl⟩,trivial⟩⟩) (fun _ _ _ _=>FB 0 (show(["chosen", "net", "group"]:List Str).Nodup by decide +kernel)) (fun _ _ _ _=>jE) (fun _ _ _ _=>EA (T3 T b) hr (cA (aA 1) (cA (aA 2) (cA (aA 0) iA)))) (by rfl)) (uA (LA (UB (cA ED (cA (UB iA) (cA (aA 3) (cA (dG (Nc:=["member"]) rfl (FC (aA 2)) (by decide +kernel) rfl (by decide +kernel) (by rfl) (by exact trivial) (fun _ _ _ _=>FB 0 (show(["member"]:List Str).Nodup by decide +kernel)) (fun _ _ _ _=>jE) (fun _ _ _ _=>UB (cA (eA (aA 0) dA) (cA (eA (aA 0) dA) iA)))) iA))))))))) mC) (kA (KA 4 lC.nd (EA (o3 T b) hr (cA (aA 0) iA))) (kA (nC (NB TK (aA 4) qF) (uA (LA qF)) mC) (kA (KA 5 lC.nd (eA (eA (aA 0) (eA (aA 4) dA)) (eA (aA 4) dA))) (kA (hJ (Nc:=["way", "net", "pair"]) 3 rfl lC.nd (FC (EA (cH T b) hr (cA (aA 5) iA))) (by decide +kernel) rfl (by decide +kernel) (by rfl) (by exact⟨⟨rfl,.inl rfl,.inl rfl,rfl⟩,⟨⟨rfl,.inl rfl,.inl rfl,rfl⟩,trivial⟩⟩) (fun _ _ _ _=>FB 0 (show(["way", "net", "pair"]:List Str).Nodup by decide +kernel)) (fun _ _ _ _=>jE) (fun _ _ _ _=>EA (sK T b) hr (cA (aA 1) (cA (eA (aA 2) dA) (cA (vA iO dA (aA 0)) (cA (eA (aA 2) dA) iA))))) (by rfl)) (uA (LA (UB (cA ED (cA (aA 4) (cA (aA 3) (cA (mH (cA (aA 4) iA)) iA)))))))))))
theorem h7:aD P w K mg b 1 1 "grain" GK:=
 qB (k:=0) (body:=FS) T.zbF Xj rfl rfl fun _ _ _ _ _ _ _ hr=>uA (LA (vA NC (vA nE dA (aA 0)) dA))
theorem K3:aD P w K mg b 1 2 "length_bounds" oK:=
 qB (k:=0) (body:=QP) T.za7 CD rfl rfl fun _ _ _ _ _ _ _ hr=>kA (KA 2 CD.nd (vA nE dA (eA (aA 0) dA))) (uA (LA (JG (cA (UB (cA (aA 2) (cA (vA NC (aA 2) dA) (cA (vA nE (wJ (eA (aA 0) dA)) (aA 1)) iA)))) (cA (UB (cA (vA NC (aA 2) dA) (cA (aA 2) (cA (vA nE (eA (aA 0) dA) (aA 1)) iA)))) iA)))))
theorem PU:aD P w K mg b 1 4 "point_bounds" PH:=
 qB (k:=0) (body:=DP) T.za5 PD rfl rfl fun _ _ _ _ _ _ _ hr=>kA (KA 4 PD.nd (JG iA)) (kA (nC (NB tF (aO rfl rfl T.Im (aA 3)) (aA 2)) (uA (WE (aG (aA 4) (UB (cA (aA 0) (cA (aA 1) (cA (uT (NB mL (aO rfl rfl T.Im (aA 3)) (aA 2)) (wJ dA) dA) iA))))))) mC) (kA (nC (NB wO (bO rfl rfl T.Xn (aA 3)) (aA 2)) (uA (WE (aG (aA 4) (UB (cA (aA 1) (cA (aA 0) (cA (uT (NB lL (bO rfl rfl T.Xn (aA 3)) (aA 2)) (wJ dA) dA) iA))))))) mC) (uA (LA (aA 4)))))
theorem A4:aD P w K mg b 2 3 "set_bounds" YI:=
 qB (k:=1) (body:=cQ) T.zbc AC rfl rfl fun _ _ _ _ _ _ _ hr=>kA (KA 3 AC.nd (JG iA)) (kA (mD PassesOwn.never rfl (oF rfl T.Yc dA) (FB 4 AC.nd) (kA (hJ (Nc:=["way", "side"]) 5 rfl AC.nd (FC (EA (cH T b) hr (cA (aA 1) iA))) (by decide +kernel) rfl (by decide +kernel) (by rfl) (by exact⟨⟨rfl,.inl rfl,.inl rfl,rfl⟩,trivial⟩) (fun _ _ _ _=>FB 0 (show(["way", "side"]:List Str).Nodup by decide +kernel)) (fun _ _ _ _=>jE) (fun _ _ _ _=>eA (EA (DK T b) hr (cA (aA 0) iA)) (aA 1)) (by rfl)) (kA (WE (cN (aA 3) (EA (PU T b) hr (cA (vA NC (vA nE dA (aA 0)) (aA 4)) (cA (vA nE dA (aA 2)) (cA dA (cA (aA 5) iA))))))) (uA (WE (cN (aA 3) (EA (PU T b) hr (cA (vA NC (vA nE dA (aA 0)) (aA 4)) (cA (vA NC (vA nE dA (aA 2)) dA) (cA dA (cA (aA 5) iA))))))))))) (uA (LA (aA 3))))
theorem M6:aD P w K mg b 3 2 "bounds" oN:=
 qB (k:=2) (body:=xR) T.zbB cE rfl rfl fun _ _ _ _ _ _ _ hr=>kA (DQ (Nc:=["i"]) 2 rfl cE.nd (oF rfl T.Yc (kE rfl T.Jc (aA 0))) (by decide +kernel) rfl (by decide +kernel) (by rfl) (by exact trivial) (fun _ _ _ _=>FB 0 (show(["i"]:List Str).Nodup by decide +kernel)) (fun _ _ _ _=>jE) (fun _ _ _ _=>UB (cA (vA nE dA (aA 0)) (cA (vA NC (vA nE dA (aA 0)) dA) (cA (wJ dA) iA)))) (by rfl)) (kA (mD PassesOwn.never rfl (FC (aA 1)) (FB 3 cE.nd) (uA (WE (cN (aA 2) (EA (K3 T b) hr (cA (aA 3) (cA (EA (h7 T b) hr (cA (kE rfl T.Jc (aA 0)) iA)) iA))))))) (kA (mD PassesOwn.never rfl (FC (EA (BM T b) hr (cA (kE rfl T.Jc (aA 0)) iA))) (FB 4 cE.nd) (uA (WE (cN (aA 2) (EA (A4 T b) hr (cA (eA (aA 4) dA) (cA (eA (eA (aA 0) (eA (aA 4) dA)) (eA (aA 4) dA)) (cA (eA (aA 4) dA) iA)))))))) (uA (LA (aA 2)))))
theorem B3:aD P w K mg b 1 1 "least_bounds" UI:=
 qB (k:=0) (body:=mM) T.za4 gC rfl rfl fun _ _ _ _ _ _ _ hr=>kA (KA 1 gC.nd Kq) (kA (mD PassesOwn.never rfl (FC (aA 0)) (FB 2 gC.nd) (kA (KA 3 gC.nd (Pk (cA (eA (aA 2) dA) (cA (eA (aA 2) dA) iA)))) (uA (Zz hr.units (rS rfl rfl T.Xn (x9 hr.units (aA 1) (aA 3) (eA (aA 2) dA)) (eA (aA 2) dA)) (aA 1) (aA 3))))) (uA (LA (aA 1))))
theorem i7:aD P w K mg b 1 3 "moved" nJ:=
 qB (k:=0) (body:=GS) T.zbG SE rfl rfl fun _ _ _ _ _ _ _ hr=>kA (KA 3 SE.nd qF) (kA (mD PassesOwn.never rfl (E9 (aA 0)) (SY 4 5 rfl SE.nd) (uA (nC (NB lL (eA (aA 1) (eA (aA 4) dA)) (vA NC (eA (aA 1) (eA (aA 4) dA)) (aA 5))) (kA (KN (vA NC (eA (aA 1) (eA (aA 4) dA)) (aA 5)) (aA 1) (eA (aA 4) dA)) (kA (KN (eA (aA 4) dA) (aA 2) (eA (aA 4) dA)) (uA (KA 3 SE.nd (eA (aA 4) dA))))) mC))) (uA (LA (aA 3))))
theorem V3:aD P w K mg b 1 2 "ring_behind" cM:=
 qB (k:=0) (body:=iQ) T.zbe qC rfl rfl fun _ _ _ _ _ _ _ hr=>kA (mD PassesOwn.never rfl (oF rfl T.Yc (kE rfl T.Jc (aA 1))) (FB 2 qC.nd) (uA (KA 0 qC.nd (eA (aA 1) (aA 0))))) (kA (KA 3 qC.nd (JG (cA (aA 0) (cA (eA (aA 1) (aA 0)) iA)))) (kA (aY PassesOwn.never (NB (eI hr.units) (eA (aA 3) (wJ dA)) (aA 0)) (uA (WE (aG (aA 3) (eA (aA 1) (eA (aA 3) (wJ dA))))))) (uA (LA (aA 3)))))
theorem j7:aD P w K mg b 2 2 "timed" cG:=
 qB (k:=1) (body:=mJ) T.zbH eD rfl rfl fun _ _ _ _ _ _ _ hr=>kA (KA 2 eD.nd (EA (B3 T b) hr (cA (aA 1) iA))) (kA (KA 3 eD.nd (JX dA (aA 0))) (kA (KA 4 eD.nd (JX qF (aA 0))) (kA (mD PassesOwn.never rfl (oF rfl T.Yc (vA NC (aA 0) dA)) (FB 5 eD.nd) (kA (KA 6 eD.nd (EA (i7 T b) hr (cA (aA 2) (cA (aA 3) (cA (aA 4) iA))))) (uA (nC (NB TK (aA 6) qF) (kA (KA 7 eD.nd (Nq rfl rfl T.Xn (aA 3) dA)) (uA (LA (UB (cA ED (cA (dG (Nc:=["time", "first"]) rfl (FC (aA 3)) (by decide +kernel) rfl (by decide +kernel) (by rfl) (by exact⟨⟨rfl,.inl rfl,.inl rfl,rfl⟩,trivial⟩) (fun _ _ _ _=>FB 0 (show(["time", "first"]:List Str).Nodup by decide +kernel)) (fun _ _ _ _=>jE) (fun _ _ _ _=>vA fI (aA 0) (aA 1))) iA)))))) mC)))) (uA (LA (UB (cA ED (cA (EA (V3 T b) hr (cA (aA 6) (cA (aA 4) iA))) iA))))))))
theorem d6:QO P w K mg b 1 3 "Search" eK:=
 by unfold eK;exact qx (k:=0) (body:=qP) T.zbE J3 rfl rfl fun _ _ _ _ _ _ _ hr=>kA (oO T.zaz (aA 0) (aA 1)) (kA (oO T.zaA (aA 0) (aA 2)) (uA (oO T.jl (aA 0) dA)))
theorem C3:aD P w K mg b 1 1 "stretches_at" pM:=
 qB (k:=0) (body:=FP) T.za8 o4 rfl rfl fun _ _ _ _ _ _ _ hr=>uA (LA (dG (Nc:=["start", "times"]) rfl (D8 (c:=2) rfl T.Yc dA (kE rfl T.Jc (aA 0)) dA) (by decide +kernel) rfl (by decide +kernel) (by rfl) (by exact⟨⟨rfl,.inl rfl,.inl rfl,rfl⟩,trivial⟩) (fun _ _ _ _=>FB 0 (show(["start", "times"]:List Str).Nodup by decide +kernel)) (fun _ _ _ _=>jE) (fun _ _ _ _=>UB (cA (eA (aA 1) (aA 0)) (cA (eA (aA 1) (vA NC (aA 0) dA)) iA)))))
theorem l3 {R:LB} {k:Nat} (hk:5<=k) (hR:QG P w K mg b k 4 "Search" "look" R):QG P w K mg b (k+1) 4 "Search" "look_at_branches" (bH R):=
 by unfold bH;exact TX (k:=k) (body:=bK R) T.zaZ UA rfl rfl fun _ _ _ _ _ _ _ hr=>kA (KA 4 UA.nd (JG iA)) (kA (mD PassesOwn.never rfl (FC (eA (aA 1) dA)) (FB 5 UA.nd) (kA (KA 6 UA.nd (qS hR hr (by omega) (aA 0) (cA (aA 5) (cA (eA (aA 1) dA) (cA (aA 3) iA))))) (kA (nC (NB (eI hr.units) (eA (aA 6) dA) ED) (uA (LA (aA 6))) mC) (uA (WE (aG (aA 4) (eA (aA 6) dA))))))) (uA (LA (UB (cA ED (cA (vA VX (vA VX (UB (cA (eA (aA 1) dA) (cA (aA 2) iA))) (eA (aA 1) dA)) (UB (cA (aA 4) iA))) iA))))))
theorem F3 {R:LB} {k:Nat} (hk:5<=k) (hR:QG P w K mg b k 4 "Search" "look" R):QG P w K mg b (k+2) 4 "Search" "look" (fC 4 9 (BG R)):=
 TX (k:=k+1) (body:=BG R) T.zaB CB rfl rfl fun _ _ _ _ _ _ _ hr=>kA (KA 4 CB.nd (pJ (QU T b) hr (by omega) rfl (cA (aA 1) (cA (aA 2) iA)))) (kA (KA 5 CB.nd (eA (aA 4) dA)) (kA (KA 6 CB.nd (eA (aA 4) dA)) (kA (nC (NB TK (aA 5) qF) (uA (LA (UB (cA ED (cA (UB (cA ED (cA (aA 6) iA))) iA))))) mC) (kA (KA 7 CB.nd (pJ (j7 T b) hr (by omega) rfl (cA (vA nE dA (kE rfl T.Jc (aA 5))) (cA (pJ (M6 T b) hr (by omega) rfl (cA (aA 5) (cA (aL T.zaz (aA 0)) iA))) iA)))) (kA (nC (NB (mE hr.units) (eA (aA 7) dA) ED) (uA (LA (UB (cA ED (cA (UB (cA ED (cA (aA 6) (cA (eA (aA 7) dA) iA)))) iA))))) mC) (kA (KA 8 CB.nd (pJ (X4 T b) hr (by omega) rfl (cA (aA 5) (cA (aA 3) iA)))) (kA (nC (NB TK (aA 8) qF) (uA (LA (UB (cA ED (cA (pJ (C3 T b) hr (by omega) rfl (cA (eA (aA 7) dA) iA)) iA))))) mC) (kA (nC (NB wO (aL T.jl (aA 0)) (aL T.zaA (aA 0))) (uA (LA (UB (cA ED (cA qF iA))))) mC) (kA (oO T.jl (aA 0) (vA NC (aL T.jl (aA 0)) dA)) (uA (LA (qS (l3 T b hk hR) hr (by omega) (aA 0) (cA (aA 8) (cA (aA 6) (cA (tW (aA 3) (CS dA) Fq) iA)))))))))))))))
theorem MU:∀n:Nat,QG P w K mg b (5+2*n) 4 "Search" "look" (yF n)
 | 0=>nq T.zaB
 | n+1=>F3 T b (Nat.le_add_right _ _) (MU n)
theorem Z4 {gn:List Dt} (D:vL K mg "planned" jN ["count", "facts", "most"] gn):tL P w K mg b 30 3 "planned" ZI gn:=
 by unfold ZI;exact Rx (k:=29) (body:=qR) D DE rfl rfl fun _ _ _ _ _ _ _ hr=>kA (KA 3 DE.nd (Mq (d6 T b) hr (by decide) rfl (cA (EA (p4 T b) hr (cA (aA 1) iA)) (cA (aA 2) iA)))) (kA (KA 4 DE.nd (qS (MU T b 12) hr (by decide) (aA 3) (cA (EA (C4 T b) hr (cA (aA 0) (cA (aA 1) iA))) (cA (EA (BM T b) hr (cA (aA 0) iA)) (cA (EA (D4 T b) hr (cA (aA 1) iA)) iA))))) (uA (LA (UB (cA (eA (aA 4) dA) (cA (eA (aA 4) dA) (cA (aL T.jl (aA 3)) iA)))))))
theorem B4:tL P w K mg b 30 3 "planned" ZI []:=Z4 T b T.zbl
theorem F4:aD P w K mg b 2 2 "rectangle" vM:=
 qB (k:=1) (body:=tQ) T.zbm F5 rfl rfl fun _ _ _ _ _ _ _ hr=>uA (LA (EA (vV T b) hr (cA (dG (Nc:=["way", "starts", "ends"]) rfl (oF rfl T.Yc dA) (by decide +kernel) rfl (by decide +kernel) (by rfl) (by exact⟨⟨rfl,.inl rfl,.inl rfl,rfl⟩,⟨⟨rfl,.inl rfl,.inl rfl,rfl⟩,trivial⟩⟩) (fun _ _ _ _=>FB 0 (show(["way", "starts", "ends"]:List Str).Nodup by decide +kernel)) (fun _ _ _ _=>XN (WM.tm (oT (CN tF tF (eA (aA 1) dA) (eA (EA (DK T b) hr (cA (aA 0) iA)) dA) (eA (aA 1) dA)) (KS (CN tF tF (eA (aA 2) dA) (eA (EA (DK T b) hr (cA (aA 0) iA)) dA) (eA (aA 2) dA)))))) (fun _ _ _ _=>aA 0)) iA)))
theorem cj:aD P w K mg b 3 1 "hull" fO:=
 qB (k:=2) (body:=QS) T.zbL yG rfl rfl fun _ _ _ _ _ _ _ hr=>kA (hJ (Nc:=["way"]) 1 rfl yG.nd (FC (EA (cH T b) hr (cA (aA 0) iA))) (by decide +kernel) rfl (by decide +kernel) (by rfl) (by exact trivial) (fun _ _ _ _=>FB 0 (show(["way"]:List Str).Nodup by decide +kernel)) (fun _ _ _ _=>jE) (fun _ _ _ _=>eA (EA (DK T b) hr (cA (aA 0) iA)) dA) (by rfl)) (kA (hJ (Nc:=["way"]) 2 rfl yG.nd (FC (EA (cH T b) hr (cA (aA 0) iA))) (by decide +kernel) rfl (by decide +kernel) (by rfl) (by exact trivial) (fun _ _ _ _=>FB 0 (show(["way"]:List Str).Nodup by decide +kernel)) (fun _ _ _ _=>jE) (fun _ _ _ _=>eA (EA (DK T b) hr (cA (aA 0) iA)) dA) (by rfl)) (uA (LA (EA (F4 T b) hr (cA (UB (cA (bO rfl rfl T.Xn (aA 1)) (cA (aO rfl rfl T.Im (aA 1)) iA))) (cA (UB (cA (bO rfl rfl T.Xn (aA 2)) (cA (aO rfl rfl T.Im (aA 2)) iA))) iA))))))
theorem dj:aD P w K mg b 4 1 "tame" gO:=
 qB (k:=3) (body:=SS) T.zbM Mz rfl rfl fun _ _ _ _ _ _ _ hr=>uA (LA (vJ (sW mL tF dA (aA 0) (cI rfl T.Cp)) (cO (iG (mE hr.units) (EA (cj T b) hr (cA (aA 0) iA)) (aA 0)))))
theorem eM:aD P w K mg b 1 2 "_law_cell" TH:=
 qB (k:=0) (body:=pQ) T.zbf B5 rfl rfl fun _ _ _ _ _ _ _ hr=>kA (nC (NB mL (aA 1) (kE rfl T.Jc (aA 0))) (uA (LA (eA (aA 0) (aA 1)))) mC) (uA (LA dA))
theorem fQ:aD P w K mg b 1 3 "_law_mix" gJ:=
 qB (k:=0) (body:=TQ) T.zbp j6 rfl rfl fun _ _ _ _ _ _ _ hr=>uA (LA (vA WD (vA nE (vA NC (vA WD (aA 0) dA) dA) (aA 1)) (aA 2)))
theorem IP:aD P w K mg b 1 1 "_law_whole" XI:=
 qB (k:=0) (body:=aQ) T.zba M4 rfl rfl fun _ _ _ _ _ _ _ hr=>uA (LA (vJ (bL rfl T.Zm rfl T.Tp PyProof.Rows.boot_int (by decide) (aA 0)) (cO (Nk (bL rfl T.Zm rfl T.zbO PyProof.Rows.boot_bool (by decide) (aA 0))))))
theorem jM:aD P w K mg b 1 2 "_law_zone" AF:=
 qB (k:=0) (body:=SH) T.zbi C5 rfl rfl fun _ _ _ _ _ _ _ hr=>kA (nC (NB mL (aA 0) (eA (aA 1) dA)) (uA (LA dA)) mC) (kA (nC (NB (mE hr.units) (aA 0) (eA (aA 1) dA)) (uA (LA dA)) mC) (uA (LA (vA NC (vA NC dA (HX rfl T.Tp (iG wO (aA 0) (eA (aA 1) dA)))) (HX rfl T.Tp (iG lL (aA 0) (eA (aA 1) dA)))))))
theorem OU:aD P w K mg b 2 2 "_law_between" kK:=
 qB (k:=1) (body:=BP) T.za2 l4 rfl rfl fun _ _ _ _ _ _ _ hr=>uA (LA (vA NC (eA (mH (cA dA (cA dA (cA dA (cA dA (cA dA iA)))))) (EA (jM T b) hr (cA (eA (aA 0) dA) (cA (aA 1) iA)))) (EA (jM T b) hr (cA (eA (aA 0) dA) (cA (aA 1) iA)))))
theorem v3:aD P w K mg b 2 3 "_law_stretches" YL:=
 qB (k:=1) (body:=sP) T.za0 ZA rfl rfl fun _ _ _ _ _ _ _ hr=>kA (KA 3 ZA.nd (eA (mH (cA dA (cA dA (cA dA (cA (vA NC (vA Qw dA dA) dA) iA))))) (vA WD (vA MF (EA (eM T b) hr (cA (aA 0) (cA dA iA))) dA) dA))) (kA (KA 4 ZA.nd (JG iA)) (kA (mD PassesOwn.never rfl (oF rfl T.Yc (aA 2)) (FB 5 ZA.nd) (kA (KA 6 ZA.nd (EA (fQ T b) hr (cA (vA NC (EA (eM T b) hr (cA (aA 0) (cA (vA NC (aA 1) (aA 5)) iA))) (vA nE (aA 5) (aA 5))) (cA dA (cA dA iA))))) (kA (KA 7 ZA.nd (vA nE (vA fI (vA WD (aA 6) dA) dA) (aA 3))) (uA (WE (aG (aA 4) (UB (cA (aA 7) (cA (vA NC (aA 7) (vA nE (vA NC dA (vA WD (vA MF (aA 6) dA) dA)) (aA 3))) iA))))))))) (uA (LA (aA 4)))))
theorem V4:aD P w K mg b 1 4 "_law_box" MM:=
 qB (k:=0) (body:=SQ) T.zbo kC rfl rfl fun _ _ _ _ _ _ _ hr=>kA (KA 4 kC.nd (mH (cA dA (cA dA (cA dA (cA dA (cA dA (cA dA (cA dA (cA dA (cA dA (cA dA (cA dA (cA dA (cA dA iA))))))))))))))) (kA (KA 5 kC.nd (mH (cA dA (cA dA (cA dA (cA dA (cA dA (cA dA (cA dA (cA dA (cA dA (cA dA (cA dA (cA dA (cA dA iA))))))))))))))) (kA (KA 6 kC.nd dA) (kA (mD PassesOwn.never rfl (oF rfl T.Yc dA) (FB 7 kC.nd) (uA (nC (WM.tm (oT (CN tF tF (aA 0) (eA (aA 4) (aA 7)) (aA 1)) (KS (CN tF tF (aA 2) (eA (aA 5) (aA 7)) (aA 3))))) (uA (KA 6 kC.nd (vA EY (aA 6) (vA iO dA (aA 7))))) mC))) (uA (LA (aA 6))))))
theorem Q4:aD P w K mg b 3 3 "_law_fact" zF:=
 qB (k:=2) (body:=WI) T.zbg DA rfl rfl fun _ _ _ _ _ _ _ hr=>kA (KA 3 DA.nd (kE rfl T.Jc (aA 1))) (kA (KA 4 DA.nd (EA (fQ T b) hr (cA (aA 0) (cA dA (cA dA iA))))) (kA (KA 5 DA.nd (vA WD (aA 4) (aA 3))) (kA (KA 6 DA.nd (vA WD (vA NC (vA NC (aA 5) dA) (vA WD (vA MF (aA 4) dA) (vA fI (aA 3) dA))) (aA 3))) (kA (KA 7 DA.nd (EA (jM T b) hr (cA (eA (eA (aA 1) (aA 5)) dA) (cA (eA (aA 1) (aA 6)) iA)))) (kA (KA 8 DA.nd (EA (jM T b) hr (cA (eA (eA (aA 1) (aA 5)) dA) (cA (eA (aA 1) (aA 6)) iA)))) (kA (KA 4 DA.nd (EA (fQ T b) hr (cA (aA 0) (cA dA (cA dA iA))))) (kA (nC (WM.tm (oT (MG (aA 2)) (KS (NB lL (vA WD (vA MF (aA 4) dA) dA) dA)))) (kA (KA 7 DA.nd (vA WD (vA MF (aA 4) dA) dA)) (uA (KA 8 DA.nd (vA WD (vA MF (aA 4) dA) dA)))) mC) (kA (KA 9 DA.nd (rS rfl rfl T.Xn (aA 7) (vA WD (aA 4) dA))) (kA (KA 10 DA.nd (IX rfl rfl T.Im (aA 7) (vA WD (vA MF (aA 4) dA) dA))) (kA (KA 11 DA.nd (EA (V4 T b) hr (cA (aA 9) (cA (aA 10) (cA (rS rfl rfl T.Xn (aA 8) (vA WD (vA MF (aA 4) dA) dA)) (cA (IX rfl rfl T.Im (aA 8) (vA WD (vA MF (aA 4) dA) dA)) iA)))))) (kA (nC (NB (mE hr.units) (aA 11) dA) (uA (KA 11 DA.nd (vA iO dA (EA (OU T b) hr (cA (eA (aA 1) (aA 5)) (cA (eA (aA 1) (aA 6)) iA)))))) mC) (uA (LA (UB (cA ED (cA (aA 5) (cA (aA 11) (cA (aA 6) iA))))))))))))))))))
theorem T4:aD P w K mg b 3 3 "_law_laid" uM:=
 qB (k:=2) (body:=qQ) T.zbh ID rfl rfl fun _ _ _ _ _ _ _ hr=>kA (nC (WM.tm (vI (CJ (MG (bL rfl T.Zm rfl T.Al PyProof.Rows.boot_list (by decide) (aA 0)))) (nO (NB (eI hr.units) (kE rfl T.Jc (aA 0)) (aA 2))))) (uA (LA qH)) mC) (kA (mD PassesOwn.never rfl (FC (aA 0)) (FB 3 ID.nd) (kA (nC (WM.tm (vI (CJ (MG (bL rfl T.Zm rfl T.zaC PyProof.Rows.boot_tuple (by decide) (aA 3)))) (nO (NB (eI hr.units) (kE rfl T.Jc (aA 3)) dA)))) (uA (LA qH)) mC) (uA (nC (WM.tm (vI (CJ (MG (EA (IP T b) hr (cA (eA (aA 3) dA) iA)))) (vI (CJ (MG (EA (IP T b) hr (cA (eA (aA 3) dA) iA)))) (vI (NB mL (eA (aA 3) dA) dA) (nO (NB wO (eA (aA 3) dA) (eA (aA 3) dA))))))) (uA (LA qH)) mC)))) (kA (mD PassesOwn.never rfl (FC (aA 1)) (FB 4 ID.nd) (uA (nC (NB (mE hr.units) (vA OK (vA HY (eA (aA 4) dA) (EA (OU T b) hr (cA (eA (aA 0) (eA (aA 4) dA)) (cA (eA (aA 0) (eA (aA 4) dA)) iA)))) dA) dA) (uA (LA qH)) mC))) (uA (LA qH))))
theorem Zk {f:Addr} {fd:FuncData} (F:Fl K "law" "law" aU f fd):Od P w K mg b RF 31 f fd ["_law_script"] (QI K 1 lI):=by unfold lI;exact iy (k:=30) (body:=jL) F dD rfl rfl fun cdv A outer s H E hr=>by(unfold jL HK LN;exact kA (KA 1 dD.nd (vA NC dA (vA WD (EA (eM T b) hr (cA (aA 0) (cA dA iA))) dA))) (kA (KA 2 dD.nd (EA (v3 T b) hr (cA (aA 0) (cA dA (cA (aA 1) iA))))) (kA (KA 3 dD.nd (iG (mE hr.units) (vA WD (vA MF (EA (eM T b) hr (cA (aA 0) (cA dA iA))) dA) dA) dA)) (kA (hJ (Nc:=["_law_cell_here", "_law_stretches_here", "_law_loose"]) 4 rfl dD.nd (FC (tW (aA 0) (CS dA) (CS dA))) (by decide +kernel) rfl (by decide +kernel) (by rfl) (by exact⟨⟨rfl,.inl rfl,.inl rfl,rfl⟩,⟨⟨rfl,.inl rfl,.inl rfl,rfl⟩,trivial⟩⟩) (fun _ _ _ _=>FB 0 (show(["_law_cell_here", "_law_stretches_here", "_law_loose"]:List Str).Nodup by decide +kernel)) (fun _ _ _ _=>jE) (fun _ _ _ _=>EA (Q4 T b) hr (cA (aA 0) (cA (aA 1) (cA (aA 2) iA)))) (by rfl)) (kA (KA 5 dD.nd (EA (DW T b) hr (cA (aA 1) iA))) (kA (mD PassesOwn.never rfl (FC (aA 4)) (FB 6 dD.nd) (kA (nC (NB Gv (EA (dj T b) hr (cA (eA (aA 6) dA) iA)) qH) (uA (LA qH)) mC) (uA (KA 5 dD.nd (EA (sK T b) hr (cA (aA 5) (cA (eA (aA 6) dA) (cA (eA (aA 6) dA) (cA (eA (aA 6) dA) iA))))))))) (kA (KA 7 dD.nd (eA (EA (Q5 T b) hr (cA (aA 5) iA)) dA)) (kA (KA 8 dD.nd (vA MF (vA nE (aA 1) (vA fI (aA 1) dA)) dA)) (kA (KA 9 dD.nd (u9 (B4 T b) hr (by decide) rfl (cA (aA 1) (cA (dN rfl T.Al (aA 4)) (cA (aA 8) iA))))) (kA (nC (WM.tm (vI (CJ (MG (bL rfl T.Zm rfl T.zaC PyProof.Rows.boot_tuple (by decide) (aA 9)))) (vI (NB (eI hr.units) (kE rfl T.Jc (aA 9)) dA) (nO (CJ (MG (EA (IP T b) hr (cA (eA (aA 9) dA) iA)))))))) (uA (LA qH)) mC) (kA (nC (NB TK (aA 7) qF) (uA (LA (vJ (iG (mE hr.units) (eA (aA 9) dA) ED) (vJ (iG (mE hr.units) (eA (eA (aA 9) dA) dA) ED) (cO (iG (mE hr.units) (eA (aA 9) dA) dA)))))) mC) (uA (LA (vJ (iG (mE hr.units) (eA (aA 9) dA) ED) (vJ (sW tF tF dA (eA (aA 9) dA) (aA 8)) (cO (EA (T4 T b) hr (cA (eA (aA 9) dA) (cA (aA 4) (cA (aA 1) iA))))))))))))))))))))
end
end G
namespace BF
noncomputable def put{α:Type}(f:Nat->α)(i:Nat)(a:α):Nat->α:=fun j=>if j=i then a else f j
theorem HF{α:Type}(f:Nat->α)(i:Nat)(a:α):put f i a i=a:=if_pos rfl
theorem OE{α:Type}(f:Nat->α){i j:Nat}(a:α)(h:j≠i):put f i a j=f j:=if_neg h
noncomputable abbrev Bd:=Nat×Nat×Int
structure uG where
 t:Nat->Int
 c:Nat->Option Nat
 l:Option Nat
def step(s:uG)(e:Bd):uG:=if s.t e.1>s.t e.2.1+e.2.2 then⟨put s.t e.1 (s.t e.2.1+e.2.2),put s.c e.1 (some e.2.1),some e.1⟩else s
def turn(E:List Bd)(s:uG):uG:=E.foldl step ⟨s.t,s.c,none⟩
noncomputable def bF(t:Nat->Int)(e:Bd):Prop:=t e.1<=t e.2.1+e.2.2
structure fU(n:Nat)(E:List Bd):Prop where
 lt:∀e∈E,e.1<n/\e.2.1<n/\e.1≠e.2.1
 un:∀e∈E,∀e'∈E,e.1=e'.1->e.2.1=e'.2.1->e.2.2=e'.2.2
noncomputable def PZ(w:Nat->Nat->Int)(c:Nat->Option Nat):Prop:=
 ∀C:List Nat,C ≠ []->C.Nodup->(C.map c).Perm (C.map some)->(C.map fun x=>w x ((c x).getD 0)).sum<0
structure Ok(n:Nat)(E:List Bd)(w:Nat->Nat->Int)(r:Nat)(D:List Bd)(u:Nat->Nat)(s:uG):Prop where
 cau:∀x y,s.c x=some y->(x,y,w x y)∈E/\s.t y+w x y<=s.t x/\1<=u x/\u x<=u y+1
 top:∀x,u x<=r+1
 has:∀x,1<=u x->∃y,s.c x=some y
 old:∀e∈E,r<=u e.2.1\/bF s.t e
 new:∀e∈D,r+1<=u e.2.1\/bF s.t e
 neg:PZ w s.c
 lst:∀x,s.l=some x->u x=r+1
theorem AJ{f g:Nat->Int}:∀(D:List Nat),(∀x∈D,f x<=g x)->(D.map f).sum<=(D.map g).sum
 | [],_=>Int.le_refl _
 | x::D,h=>by
  simp only[zdH,sum_cons];have h1:=h x mem_cons_self;have h2:=AJ D fun y hy=>h y (mem_cons_of_mem _ hy)
  omega
theorem jY{f g:Nat->Int}:∀(D:List Nat),(D.map fun x=>f x-g x).sum=(D.map f).sum-(D.map g).sum
 | []=>rfl
 | x::D=>by simp only[zdH,sum_cons];have:=jY (f:=f) (g:=g) D;omega
theorem VW{l l':List Int}(h:l.Perm l'):l.sum=l'.sum:=by
 induction h with
 | nil=>rfl
 | cons x _ ih=>simp only[sum_cons,ih]
 | swap x y l=>simp only[sum_cons];omega
 | trans _ _ h1 h2=>exact h1.trans h2
theorem map_none{C:List Nat}{c:Nat->Option Nat}(h:(C.map c).Perm (C.map some)):∀x∈C,∃y,c x=some y:=by intro x hx;have:c x∈C.map some:=h.subset (mem_map_of_mem hx);obtain⟨y,_,e⟩:=mem_map.mp this;exact⟨y,e.symm⟩
theorem EK{α β:Type}{f g:α->β}{C:List α}(h:∀x∈C,f x=g x):C.map f=C.map g:=map_congr_left h
theorem yq{w:Nat->Nat->Int}{c:Nat->Option Nat}{t:Nat->Int}{p q:Nat}(hn:PZ w c)(hc:∀x y,c x=some y->t y+w x y<=t x)(hm:t p>t q+w p q):PZ w (put c p (some q)):=by
 intro C h0 hd hp;by_cases hin:p∈C
 · obtain⟨D1,D2,rfl⟩:=append_of_mem hin;have pp:(D1++p::D2).Perm (p::(D1++D2)):=perm_middle;have nd:(p::(D1++D2)).Nodup:=pp.nodup_iff.mp hd;have np:p∉D1++D2:=(nodup_cons.mp nd).1;generalize D1++D2=D at pp np;have ec:D.map (put c p (some q))=D.map c:=EK fun x hx=>OE c _ (fun z=>np (z ▸ hx))
   have h1:((p::D).map (put c p (some q))).Perm ((p::D).map some):=((pp.map _).symm.trans hp).trans (pp.map _);rw[zdH,HF,ec]at h1;have hall:∀x∈D,∃y,c x=some y:=fun x hx=>by have:c x∈(p::D).map some:=h1.subset (mem_cons_of_mem _ (mem_map_of_mem hx));obtain⟨y,_,e⟩:=mem_map.mp this;exact⟨y,e.symm⟩
   have h2:=VW (h1.map fun o=>t (o.getD 0));simp only[zdH,map_map,sum_cons,Function.comp_def,Option.getD_some]at h2
   change t q+_=t p+(D.map t).sum at h2
   have h3:((D1++p::D2).map fun x=>w x ((put c p (some q) x).getD 0)).sum=w p q+(D.map fun x=>w x ((c x).getD 0)).sum:=by
    have:=VW (pp.map fun x=>w x ((put c p (some q) x).getD 0));rw[this,zdH,sum_cons,HF]
    congr 1
    rw[EK (f:=fun x=>w x ((put c p (some q) x).getD 0)) (g:=fun x=>w x ((c x).getD 0)) fun x hx=>by rw[OE c _ (fun z:x=p=>np (z ▸ hx))]]
   have h4:(D.map fun x=>w x ((c x).getD 0)).sum<=(D.map fun x=>t x-t ((c x).getD 0)).sum:=AJ D fun x hx=>by obtain⟨y,ey⟩:=hall x hx;have:=hc x y ey;rw[ey];simp only[Option.getD_some];omega
   rw[jY]at h4;rw[h3];omega
 · have ec:C.map (put c p (some q))=C.map c:=EK fun x hx=>OE c _ (fun z=>hin (z ▸ hx))
   rw[ec]at hp;have:=hn C h0 hd hp;rw[EK (f:=fun x=>w x ((put c p (some q) x).getD 0)) (g:=fun x=>w x ((c x).getD 0)) fun x hx=>by rw[OE c _ (fun z:x=p=>hin (z ▸ hx))]];exact this
theorem Cq{n:Nat}{E:List Bd}{w:Nat->Nat->Int}{r:Nat}{D:List Bd}{u:Nat->Nat}{s:uG}(T:fU n E)(hw:∀e∈E,w e.1 e.2.1=e.2.2)(I:Ok n E w r D u s){e:Bd}(he:e∈E) :
 ∃u',Ok n E w r (e::D) u' (step s e):=by
 obtain⟨p,q,m⟩:=e;obtain⟨_,_,hne⟩:=T.lt _ he;have ew:w p q=m:=hw _ he;have hne':q≠p:=fun z=>hne z.symm
 by_cases hm:s.t p>s.t q+m
 · have es:step s (p,q,m)=⟨put s.t p (s.t q+m),put s.c p (some q),some p⟩:=if_pos hm;rw[es];have uq:r<=u q:=by
    rcases I.old _ he with z | z
    · exact z
    · exact absurd z (by simp only[bF];omega)
   have up:u p<=r+1:=I.top p;have dec:∀x,put s.t p (s.t q+m) x<=s.t x:=fun x=>by
    by_cases hx:x=p
    · rw[hx,HF];omega
    · rw[OE _ _ hx];exact Int.le_refl _
   have grow:∀x,u x<=put u p (r+1) x:=fun x=>by
    by_cases hx:x=p
    · rw[hx,HF];exact up
    · rw[OE _ _ hx];exact zdS _
   have keep:∀k,∀e:Bd,k<=r+1->(k<=u e.2.1\/bF s.t e)->(k<=put u p (r+1) e.2.1\/bF (put s.t p (s.t q+m)) e):=fun k e hk h=>by
    by_cases hx:e.2.1=p
    · exact .inl (by rw[hx,HF];exact hk)
    · rcases h with h | h
      · exact .inl (Nat.le_trans h (grow _))
      · refine .inr ?_;simp only[bF]at h ⊢;rw[OE _ _ hx];exact Int.le_trans (dec _) h
   refine⟨put u p (r+1),⟨fun x y h=>?_,fun x=>?_,fun x h=>?_,fun e h=>keep r e (Nat.le_succ r) (I.old e h),fun e h=>?_,yq I.neg (fun x y h=>(I.cau x y h).2.1) (by rw[ew];exact hm),fun x h=>?_⟩⟩
   · by_cases hx:x=p
     · subst hx;simp only[HF]at h ⊢;cases h;rw[OE _ _ hne',OE _ _ hne',ew];exact⟨he,Int.le_refl _,by omega,by omega⟩
     · simp only[OE _ _ hx]at h ⊢;obtain⟨h1,h2,h3,h4⟩:=I.cau x y h;exact⟨h1,Int.le_trans (Int.add_le_add_right (dec y) _) h2,h3,Nat.le_trans h4 (Nat.add_le_add_right (grow y) 1)⟩
   · by_cases hx:x=p
     · rw[hx,HF];exact zdS _
     · rw[OE _ _ hx];exact I.top x
   · by_cases hx:x=p
     · subst hx;exact⟨q,HF _ _ _⟩
     · rw[OE _ _ hx]at h;obtain⟨y,hy⟩:=I.has x h;exact⟨y,by simp only[OE _ _ hx];exact hy⟩
   · rcases mem_cons.mp h with z | z
     · subst z;refine .inr ?_;simp only[bF,HF,OE _ _ hne'];exact Int.le_refl _
     · exact keep (r+1) e (zdS _) (I.new e z)
   · cases h;exact HF _ _ _
 · have es:step s (p,q,m)=s:=if_neg hm;rw[es];refine⟨u,⟨I.cau,I.top,I.has,I.old,fun e h=>?_,I.neg,I.lst⟩⟩;rcases mem_cons.mp h with z | z
   · subst z;exact .inr (by simp only[bF];omega)
   · exact I.new e z
theorem BS{n:Nat}{E:List Bd}{w:Nat->Nat->Int}{r:Nat}(T:fU n E)(hw:∀e∈E,w e.1 e.2.1=e.2.2):∀(L D:List Bd)(u:Nat->Nat)(s:uG),(∀e∈L,e∈E)->Ok n E w r D u s->∃u' D',Ok n E w r D' u' (L.foldl step s)/\(∀e∈L,e∈D')/\∀e∈D,e∈D'
 | [],D,u,s,_,I=>⟨u,D,I,(fun _ h=>nomatch h),fun _ h=>h⟩
 | e::L,D,u,s,hs,I=>by
  obtain⟨u1,I1⟩:=Cq T hw I (hs e mem_cons_self);obtain⟨u2,D2,I2,h1,h2⟩:=BS T hw L (e::D) u1 (step s e) (fun x hx=>hs x (mem_cons_of_mem _ hx)) I1;refine⟨u2,D2,I2,fun x hx=>?_,fun x hx=>h2 x (mem_cons_of_mem _ hx)⟩;rcases mem_cons.mp hx with z | z
  · rw[z];exact h2 e mem_cons_self
  · exact h1 x z
def GD(E:List Bd):Nat->uG->uG
 | 0,s=>s
 | r+1,s=>turn E (GD E r s)
noncomputable def s0:uG:=⟨fun _=>0,fun _=>none,none⟩
theorem SR{n:Nat}{E:List Bd}{w:Nat->Nat->Int}(T:fU n E)(hw:∀e∈E,w e.1 e.2.1=e.2.2):∀r,∃u D,Ok n E w r D u (GD E (r+1) s0)/\∀e∈E,e∈D
 | 0=>by
  have I:Ok n E w 0 [] (fun _=>0) ⟨s0.t,s0.c,none⟩:=by
   refine⟨fun x y h=>(by cases h),fun x=>Nat.zero_le _,fun x h=>(by omega),fun e h=>.inl (Nat.zero_le _),(fun e h=>nomatch h),fun C h0 hd hp=>?_,fun x h=>(by cases h)⟩;cases C with
   | nil=>exact absurd rfl h0
   | cons x C=>obtain⟨y,e⟩:=map_none hp x mem_cons_self;cases e
  obtain⟨u,D,I',h1,_⟩:=BS T hw E [] _ _ (fun _ h=>h) I;exact⟨u,D,I',h1⟩
 | r+1=>by
  obtain⟨u,D,I,hD⟩:=SR T hw r;have I1:Ok n E w (r+1) [] u ⟨(GD E (r+1) s0).t,(GD E (r+1) s0).c,none⟩:=
   ⟨I.cau,fun x=>Nat.le_succ_of_le (I.top x),I.has,fun e h=>I.new e (hD e h),(fun e h=>nomatch h),I.neg,fun x h=>(by cases h)⟩
  obtain⟨u2,D2,I2,h1,_⟩:=BS T hw E [] _ _ (fun _ h=>h) I1;exact⟨u2,D2,I2,h1⟩
theorem HV:∀(L:List Bd)(s:uG),(L.foldl step s).l=none->s.l=none/\L.foldl step s=s/\∀e∈L,bF s.t e
 | [],s,h=>⟨h,rfl,(fun _ h=>nomatch h)⟩
 | e::L,s,h=>by
  obtain⟨h1,h2,h3⟩:=HV L (step s e) h;by_cases hm:s.t e.1>s.t e.2.1+e.2.2
  · have es:step s e=⟨put s.t e.1 (s.t e.2.1+e.2.2),put s.c e.1 (some e.2.1),some e.1⟩:=if_pos hm;rw[es]at h1;cases h1
  · have es:step s e=s:=if_neg hm;rw[es]at h1 h2 h3;refine⟨h1,by rw[foldl_cons,es];exact h2,fun x hx=>?_⟩;rcases mem_cons.mp hx with z | z
    · subst z;simp only[bF];omega
    · exact h3 x z
noncomputable def GB(f:Nat->Nat):Nat->Nat->Nat
 | 0,x=>x
 | k+1,x=>f (GB f k x)
theorem fG(f:Nat->Nat)(x:Nat)(b:Nat):∀a,GB f (a+b) x=GB f a (GB f b x)
 | 0=>by rw[Nat.zero_add];rfl
 | a+1=>by rw[Nat.add_right_comm];show f (GB f (a+b) x)=f (GB f a (GB f b x));rw[fG f x b a]
theorem Kh:∀(n:Nat)(g:Nat->Nat),(∀k,k<=n->g k<n)->∃i j,i<j/\j<=n/\g i=g j
 | 0,g,h=>absurd (h 0 (zdS _)) (Nat.not_lt_zero _)
 | n+1,g,h=>by
  by_cases hx:∃k,k<=n/\g k=g (n+1)
  · obtain⟨k,h1,h2⟩:=hx;exact⟨k,n+1,by omega,zdS _,h2⟩
  · have ne:∀k,k<=n->g k≠g (n+1):=fun k hk e=>hx ⟨k,hk,e⟩
    have hl:=h (n+1) (zdS _);obtain⟨i,j,h1,h2,h3⟩:=Kh n (fun k=>if g k>g (n+1)then g k-1 else g k) fun k hk=>by have h1:=h k (by omega);have h2:=ne k hk;show(if g k>g (n+1)then g k-1 else g k)<n;split<;>omega
    refine⟨i,j,h1,by omega,?_⟩;have a1:=ne i (by omega);have a2:=ne j h2;have b1:(if g i>g (n+1)then g i-1 else g i)=(if g j>g (n+1)then g j-1 else g j):=h3;split at b1<;>split at b1<;>omega
theorem L8{Q:Nat->Prop}:∀d,1<=d->Q d->∃k,1<=k/\k<=d/\Q k/\∀i,1<=i->i<k->¬Q i:=by
 intro d
 induction d using Nat.strongRecOn with
 | ind d ih=>
  intro h1 hq;by_cases hx:∃i,1<=i/\i<d/\Q i
  · obtain⟨i,a,b,c⟩:=hx;obtain⟨k,k1,k2,k3,k4⟩:=ih i b a c;exact⟨k,k1,by omega,k3,k4⟩
  · exact⟨d,h1,zdS _,hq,fun i a b c=>hx ⟨i,a,b,c⟩⟩
noncomputable def nxt(c:Nat->Option Nat)(x:Nat):Nat:=(c x).getD 0
structure yH(n:Nat)(E:List Bd)(w:Nat->Nat->Int)(c:Nat->Option Nat)(P k:Nat):Prop where
 pos:1<=k
 le:k<=n
 back:GB (nxt c) k P=P
 first:∀i,1<=i->i<k->GB (nxt c) i P≠P
 edge:∀i,i<=k->(GB (nxt c) i P,GB (nxt c) (i+1) P,w (GB (nxt c) i P) (GB (nxt c) (i+1) P))∈E/\c (GB (nxt c) i P)=some (GB (nxt c) (i+1) P)
 sum:((List.range k).map fun i=>w (GB (nxt c) i P) (GB (nxt c) (i+1) P)).sum<0
theorem apart{f:Nat->Nat}{P k:Nat}(hb:GB f k P=P)(hf:∀i,1<=i->i<k->GB f i P≠P){i j:Nat}(hij:i<j)(hj:j<=k)(h0:i=0->j<k):GB f i P≠GB f j P:=by
 intro e;have e2:GB f ((k-j)+i) P=GB f ((k-j)+j) P:=by rw[fG,fG,e]
 rw[Nat.sub_add_cancel hj,hb]at e2;refine hf (k-j+i) ?_ ?_ e2
 · by_cases h:i=0
   · have:=h0 h;omega
   · omega
 · omega
theorem N3{α:Type}{g:Nat->α}(k:Nat)(h:∀i j,i<j->j<k->g i≠g j):((List.range k).map g).Nodup:=by rw[nodup_iff_pairwise_ne,pairwise_map];refine List.Pairwise.imp_of_mem ?_ (pairwise_lt_range (n:=k));intro a b ha hb hab;exact h a b hab (mem_range.mp hb)
theorem zX{n:Nat}{E:List Bd}{w:Nat->Nat->Int}{D:List Bd}{u:Nat->Nat}{s:uG}{x:Nat}(T:fU n E)(I:Ok n E w n D u s)(hx:s.l=some x):∃k,yH n E w s.c (GB (nxt s.c) n x) k/\
 ∀i,i<=n->s.c (GB (nxt s.c) i x)=some (GB (nxt s.c) (i+1) x)/\GB (nxt s.c) i x<n:=by
 have ux:=I.lst x hx;have zaG:∀y,1<=u y->s.c y=some (nxt s.c y):=fun y hy=>by obtain⟨z,e⟩:=I.has y hy;unfold nxt;rw[e];rfl
 have ch:∀i,i<=n->n+1<=u (GB (nxt s.c) i x)+i:=by
  intro i
  induction i with
  | zero=>intro _;show n+1<=u x+0;omega
  | succ i ih=>intro hi;have h1:=ih (by omega);have h2:=zaG (GB (nxt s.c) i x) (by omega);have h3:=(I.cau _ _ h2).2.2.2;show n+1<=u (nxt s.c (GB (nxt s.c) i x))+(i+1);omega
 have cd:∀i,i<=n->s.c (GB (nxt s.c) i x)=some (GB (nxt s.c) (i+1) x):=fun i hi=>zaG _ (by have:=ch i hi;omega)
 have lt:∀i,i<=n->GB (nxt s.c) i x<n:=fun i hi=>(T.lt _ (I.cau _ _ (cd i hi)).1).1
 obtain⟨i,j,hij,hj,e⟩:=Kh n (fun i=>GB (nxt s.c) i x) lt;have per:GB (nxt s.c) (j-i) (GB (nxt s.c) n x)=GB (nxt s.c) n x:=by
  rw[<- fG];have a1:j-i+n=(n-i)+j:=by omega
  rw[a1,fG,<- e,<- fG]
  congr 1
  omega
 obtain⟨k,k1,k2,k3,k4⟩:=L8 (Q:=fun d=>GB (nxt s.c) d (GB (nxt s.c) n x)=GB (nxt s.c) n x) (j-i) (by omega) per;have shf:∀m,GB (nxt s.c) (j+m) x=GB (nxt s.c) (i+m) x:=fun m=>by rw[Nat.add_comm j m,Nat.add_comm i m,fG,fG,e]
 have ed:∀m,m<=k->s.c (GB (nxt s.c) m (GB (nxt s.c) n x))=some (GB (nxt s.c) (m+1) (GB (nxt s.c) n x)):=fun m hm=>by
  rw[<- fG,<- fG];by_cases h:m+n<=n
  · have:m=0:=by omega
    subst this;rw[Nat.zero_add,Nat.add_comm];exact cd n (zdS _)
  · have a1:m+n=j+(m+n-j):=by omega
    have a2:m+1+n=j+(m+n-j+1):=by omega
    rw[a1,a2,shf,shf];exact cd _ (by omega)
 refine⟨k,⟨k1,by omega,k3,k4,fun m hm=>⟨(I.cau _ _ (ed m hm)).1,ed m hm⟩,?_⟩,fun i hi=>⟨cd i hi,lt i hi⟩⟩;generalize GB (nxt s.c) n x=P at *;have hn:=I.neg ((List.range k).map fun m=>GB (nxt s.c) m P) (by
  intro z;have:=congrArg List.length z;simp at this;omega) (N3 k fun a b hab hb=>apart k3 k4 hab (by omega) (fun _=>hb)) (by
  rw[map_map,map_map];have e1:(List.range k).map (s.c ∘ fun m=>GB (nxt s.c) m P)=(List.range k).map (fun m=>some (GB (nxt s.c) (m+1) P)):=EK fun m hm=>ed m (Nat.le_of_lt (mem_range.mp hm))
  rw[e1];obtain⟨k',rfl⟩:∃k',k=k'+1:=⟨k-1,by omega⟩
  rw[range_succ,map_append];have e2:(List.range k'++[k']).map (some ∘ fun m=>GB (nxt s.c) m P)=some P::(List.range k').map (fun m=>some (GB (nxt s.c) (m+1) P)):=by rw[<- range_succ,range_succ_eq_map,zdH,map_map];rfl
  rw[e2];have e3:[k'].map (fun m=>some (GB (nxt s.c) (m+1) P))=[some P]:=by rw[zdH,zdI,k3]
  rw[e3];exact perm_append_singleton _ _)
 rw[map_map]at hn;have e4:(List.range k).map ((fun y=>w y ((s.c y).getD 0)) ∘ fun m=>GB (nxt s.c) m P)=(List.range k).map fun i=>w (GB (nxt s.c) i P) (GB (nxt s.c) (i+1) P):=rfl
 rw[e4]at hn;exact hn
end BF
namespace SM
section
variable{l:LI}{h:HI}{f g fo fy fx fe fa fd:RE}
@[simp] theorem Dr:WT l h=some (.ref h.length,h++[.dt []]):=by rfl
def dP:List Dt×HI->Option (Dt×HI):=fun r=>if r.1.length<=sizeLine then(ZD r.1).map fun is=>(.uc is,r.2)else none
@[simp] theorem XY(r:RA):YO r l h=cB (r l h) dP:=by rfl
theorem rX(i j:Int):dP ([.int i,.int j],h)=some (.uc [i,j],h):=by unfold dP;rw[if_pos (show([Dt.int i,Dt.int j]:List Dt).length<=sizeLine by simp)];rfl
def SZ(n:Nat)(k:List Int):Dt×HI->Option (Dt×HI):=fun x=>match x.2[n]? with
 | some (.dt kvs)=>some ((wI kvs k).getD x.1,x.2)
 | _=>none
theorem pY{n:Nat}{k:List Int}{d:Dt}{kvs:List (List Int×Dt)}(e:h[n]?=some (.dt kvs)):SZ n k (d,h)=some ((wI kvs k).getD d,h):=by simp only[SZ,e]
theorem vX{n:Nat}{k:List Int}{kvs:List (List Int×Dt)}(e1:fo l h=some (.ref n,h))(e2:h[n]?=some (.dt kvs))(e3:fy l h=some (.uc k,h)):lH fo fy fx l h=cB (fx l h) (SZ n k):=by simp only[lH,e1,e2,e3,zdM];rfl
theorem NY{n:Nat}{k:List Int}{kvs:List (List Int×Dt)}{d:Dt}(e0:fe l h=some (d,h))(e1:fo l h=some (.ref n,h))(e2:h[n]?=some (.dt kvs))(e3:fy l h=some (.uc k,h))(c:kvs.length<sizeLine) :
 CO fe fo fy l h=some (.nx l (h.set n (.dt (EI kvs k d)))):=by
 simp only[CO,e0,e1,e2,e3,zdM,if_pos c]
theorem G8{n:Nat}{kvs:List (List Int×Dt)}(e1:f l h=some (.ref n,h))(e2:h[n]?=some (.dt kvs)):dI f l h=some (.it n,h.set n (.df kvs)):=by simp only[dI,e1,e2,zdM]
theorem F8{n:Nat}{kvs:List (List Int×Dt)}(e1:f l h=some (.ref n,h))(e2:h[n]?=some (.df kvs)):dI f l h=some (.it n,h):=by simp only[dI,e1,e2,zdM]
def IT(fd:RE)(l:LI):Dt×HI->Option (Dt×HI):=fun r=>cB (fd l r.2) fun q=>(JB q.2 r.1).bind fun xs=>(ZD xs).bind fun ns=>if ns ≠ []then some (.int (QB ns),q.2)else none
@[simp] theorem Er:XT fa fd l h=cB (fa l h) (IT fd l):=by rfl
end
theorem Xq{β:Type}{i j n:Nat}{body:RS}{kvs:List (List Int×Dt)}(S:β->LI->HI->Prop)(F:β->List Int×Dt->β)(hS:∀b l h,S b l h->h[n]?=some (.df kvs))
 (H:∀x∈kvs,∀b l h,S b l h->∃r,body ((l.set i (some (.tup (x.1.map Dt.int)))).set j (some x.2)) h=some r/\Pass (S (F b x)) r) :
 ∀(m k:Nat)(b:β)(l:LI)(h:HI),m=(kvs.length-k)+1->k<=kvs.length->S b l h->∃l' h',uC (aF i j) body (.it n) m k l h=some (.nx l' h')/\S ((kvs.drop k).foldl F b) l' h':=by
 intro m
 induction m with
 | zero=>intro k b l h hm;omega
 | succ m ih=>
  intro k b l h hm hk s;have e:=hS b l h s;by_cases hlt:k<kvs.length
  · have ek:kvs[k]?=some kvs[k]:=getElem?_eq_getElem hlt;obtain⟨r,e1,p⟩:=H kvs[k] (getElem_mem hlt) b l h s;have ed:(kvs.drop k).foldl F b=(kvs.drop (k+1)).foldl F (F b kvs[k]):=by rw[drop_eq_getElem_cons hlt,foldl_cons]
    rw[ed];have eu:uC (aF i j) body (.it n) (m+1) k l h=cB (body ((l.set i (some (.tup (kvs[k].1.map Dt.int)))).set j (some kvs[k].2)) h) (mP (uC (aF i j) body (.it n) m (k+1))):=by
     simp only[uC,Src.at,e,ek,zdL,wX,zdM];cases body ((l.set i (some (.tup (kvs[k].1.map Dt.int)))).set j (some kvs[k].2)) h with
     | none=>rfl
     | some r=>cases r<;>rfl
    rw[eu,e1,nA];cases r with
    | nx l2 h2=>exact ih (k+1) _ l2 h2 (by omega) hlt p
    | ct l2 h2=>exact ih (k+1) _ l2 h2 (by omega) hlt p
    | bk l2 h2=>exact p.elim
    | rt d h2=>exact p.elim
  · have ek:kvs[k]?=none:=getElem?_eq_none (by omega);refine⟨l,h,by simp only[uC,Src.at,e,ek,Option.map_none],?_⟩;rw[drop_eq_nil_of_le (by omega)];exact s
theorem Pq{β:Type}{i j n:Nat}{body:RS}{kvs:List (List Int×Dt)}{l:LI}{h:HI}(S:β->LI->HI->Prop)(F:β->List Int×Dt->β)(hS:∀b l h,S b l h->h[n]?=some (.df kvs))
 (H:∀x∈kvs,∀b l h,S b l h->∃r,body ((l.set i (some (.tup (x.1.map Dt.int)))).set j (some x.2)) h=some r/\Pass (S (F b x)) r) (b:β) (s:S b l h) :
 ∃l' h',xE (aF i j) body l (.it n,h)=some (.nx l' h')/\S (kvs.foldl F b) l' h':=by
 have e:=hS b l h s;have:=Xq (i:=i) (j:=j) S F hS H (kvs.length+1) 0 b l h (by omega) (Nat.zero_le _) s;rw[drop_zero]at this;obtain⟨l',h',e1,e2⟩:=this;refine⟨l',h',?_,e2⟩;show uC (aF i j) body (.it n) (Src.fuel (.it n) h) 0 l h=_;have ef:Src.fuel (.it n) h=kvs.length+1:=by simp only[Src.fuel,e]
 rw[ef];exact e1
end SM
namespace G
noncomputable def aB(e:Bd):List Int×Dt:=([(e.1:Int),(e.2.1:Int)],.int e.2.2)
noncomputable def gA(e:Bd):Dt:=.tup [.int (e.1:Nat),.int (e.2.1:Nat),.int e.2.2]
noncomputable def cD(p q:Nat)(x:Bd):Bool:=decide (x.1=p)&&decide (x.2.1=q)
def vH(E:List Bd)(p q:Nat):Option Int:=(E.find? (cD p q)).map (·.2.2)
def MI(E:List Bd)(p q:Nat)(v:Int):List Bd:=if E.any (cD p q)=true then E.map (fun x=>if cD p q x=true then(x.1,x.2.1,v)else x)else E++[(p,q,v)]
def HC(E:List Bd)(e:Bd):List Bd:=MI E e.1 e.2.1 (min ((vH E e.1 e.2.1).getD e.2.2) e.2.2)
theorem jT(p q:Nat)(x:Bd):decide ((aB x).1=[(p:Int),(q:Int)])=cD p q x:=by unfold aB cD;by_cases h1:x.1=p<;>by_cases h2:x.2.1=q<;>simp[h1,h2]<;>omega
theorem NS(p q:Nat):∀E:List Bd,wI (E.map aB) [(p:Int),(q:Int)]=(vH E p q).map Dt.int
 | []=>rfl
 | x::E=>by
  have ih:=NS p q E;unfold wI vH at ih ⊢;rw[zdH,find?_cons,find?_cons,jT];cases cD p q x with
  | true=>rfl
  | false=>exact ih
theorem Fv(p q:Nat)(E:List Bd):((E.map aB).any fun y=>decide (y.1=[(p:Int),(q:Int)]))=E.any (cD p q):=by
 rw[any_map]
 congr 1
 funext x
 exact jT p q x
theorem DX(p q:Nat)(v:Int)(E:List Bd):EI (E.map aB) [(p:Int),(q:Int)] (.int v)=(MI E p q v).map aB:=by
 unfold EI MI;rw[Fv];split
 · rw[map_map,map_map];refine map_congr_left fun x _=>?_
   have k:=jT p q x;simp only[Function.comp_def];cases c:cD p q x with
   | true=>rw[c]at k;rw[if_pos (of_decide_eq_true k),if_pos rfl];rfl
   | false=>rw[c]at k;rw[if_neg (of_decide_eq_false k),if_neg zdR]
 · rw[map_append];rfl
structure DJ(told E:List Bd):Prop where
 mem:∀x∈E,x∈told
 low:∀e∈told,∃x∈E,x.1=e.1/\x.2.1=e.2.1/\x.2.2<=e.2.2
 un:∀x∈E,∀y∈E,x.1=y.1->x.2.1=y.2.1->x.2.2=y.2.2
 len:E.length<=told.length
theorem Qd{p q:Nat}{x:Bd}:cD p q x=true↔x.1=p/\x.2.1=q:=by simp[cD]
theorem Uz:DJ [] []:=⟨fun _ h=>h,fun _ h=>(nomatch h),fun _ h=>(nomatch h),zdS _⟩
theorem Tz{told E:List Bd}(I:DJ told E)(e:Bd):DJ (told++[e]) (HC E e):=by
 obtain⟨p,q,m⟩:=e;unfold HC MI;cases ha:vH E p q with
 | none=>
  have nk:∀x∈E,cD p q x=false:=by unfold vH at ha;simpa using ha
  have na:E.any (cD p q)=false:=by rw[any_eq_false];intro x hx;rw[nk x hx];exact zdR
  simp only[na,zdV,if_false,ha,Option.getD_none,Int.min_self];refine⟨fun x hx=>?_,fun e' he=>?_,fun x hx y hy h1 h2=>?_,by simp;exact I.len⟩
  · rcases mem_append.mp hx with hx | hx
    · exact mem_append_left _ (I.mem x hx)
    · exact mem_append_right _ hx
  · rcases mem_append.mp he with he | he
    · obtain⟨x,hx,r⟩:=I.low e' he;exact⟨x,mem_append_left _ hx,r⟩
    · rw[mem_singleton.mp he];exact⟨_,mem_append_right _ (mem_singleton.mpr rfl),rfl,rfl,Int.le_refl _⟩
  · rcases mem_append.mp hx with hx | hx<;>rcases mem_append.mp hy with hy | hy
    · exact I.un x hx y hy h1 h2
    · have:=nk x hx;rw[mem_singleton.mp hy]at h1 h2;rw[Qd.mpr ⟨h1,h2⟩]at this;cases this
    · have:=nk y hy;rw[mem_singleton.mp hx]at h1 h2;rw[Qd.mpr ⟨h1.symm,h2.symm⟩]at this;cases this
    · rw[mem_singleton.mp hx,mem_singleton.mp hy]
 | some v0=>
  obtain⟨x0,hf,rfl⟩:∃x0,E.find? (cD p q)=some x0/\x0.2.2=v0:=by unfold vH at ha;simpa using ha
  have k0:=find?_some hf;have m0:=mem_of_find?_eq_some hf;have na:E.any (cD p q)=true:=any_eq_true.mpr ⟨x0,m0,k0⟩;obtain⟨k1,k2⟩:=Qd.mp k0;have un0:∀x∈E,cD p q x=true->x.2.2=x0.2.2:=fun x hx h=>by obtain⟨h1,h2⟩:=Qd.mp h;exact I.un x hx x0 m0 (h1.trans k1.symm) (h2.trans k2.symm)
  simp only[na,if_true,Option.getD_some];have vm:((p,q,min x0.2.2 m):Bd)∈told++[(p,q,m)]:=by
   by_cases h:x0.2.2<=m
   · rw[Int.min_eq_left h];refine mem_append_left _ ?_;have:=I.mem x0 m0;rw[<- k1,<- k2];exact this
   · rw[Int.min_eq_right (by omega)];exact mem_append_right _ (mem_singleton.mpr rfl)
  refine⟨fun x hx=>?_,fun e' he=>?_,fun x hx y hy h1 h2=>?_,by simp;have:=I.len;omega⟩
  · obtain⟨y,hy,rfl⟩:=mem_map.mp hx;split
    · rename_i h;obtain⟨h1,h2⟩:=Qd.mp h;rw[h1,h2];exact vm
    · exact mem_append_left _ (I.mem y hy)
  · have new:∀x∈E,(if cD p q x=true then(x.1,x.2.1,min x0.2.2 m)else x)∈E.map (fun x=>if cD p q x=true then(x.1,x.2.1,min x0.2.2 m)else x):=fun x hx=>mem_map_of_mem hx
    rcases mem_append.mp he with he | he
    · obtain⟨x,hx,r1,r2,r3⟩:=I.low e' he;refine⟨_,new x hx,?_⟩;split
      · rename_i h;refine⟨r1,r2,?_⟩;have:=un0 x hx h;show min x0.2.2 m<=e'.2.2;have:=Int.min_le_left x0.2.2 m;omega
      · exact⟨r1,r2,r3⟩
    · rw[mem_singleton.mp he];refine⟨_,new x0 m0,?_⟩;rw[if_pos k0];exact⟨k1,k2,Int.min_le_right _ _⟩
  · obtain⟨x',hx',rfl⟩:=mem_map.mp hx;obtain⟨y',hy',rfl⟩:=mem_map.mp hy;have fst:∀z:Bd,(if cD p q z=true then((z.1,z.2.1,min x0.2.2 m):Bd)else z).1=z.1/\(if cD p q z=true then((z.1,z.2.1,min x0.2.2 m):Bd)else z).2.1=z.2.1:=fun z=>by split<;>exact⟨rfl,rfl⟩
    rw[(fst x').1,(fst y').1]at h1;rw[(fst x').2,(fst y').2]at h2;have kk:cD p q x'=cD p q y':=by unfold cD;rw[h1,h2]
    rw[kk];split
    · rfl
    · exact I.un x' hx' y' hy' h1 h2
theorem fX:∀(L told E:List Bd),DJ told E->DJ (told++L) (L.foldl HC E)
 | [],told,E,I=>by rw[zdU];exact I
 | e::L,told,E,I=>by have:=fX L (told++[e]) (HC E e) (Tz I e);rw[append_assoc]at this;exact this
def aC(told:List Bd):List Bd:=told.foldl HC []
theorem BJ(told:List Bd):DJ told (aC told):=by have:=fX told [] [] Uz;rwa[zdN]at this
theorem hX(E:List Bd)(p q:Nat)(v:Int):(MI E p q v).length<=E.length+1:=by
 unfold MI;split
 · simp
 · simp
theorem UV{α β:Type}(f:β->α->β)(b:β){xs:List α}{k:Nat}{x:α}(hx:xs[k]?=some x):(xs.take (k+1)).foldl f b=f ((xs.take k).foldl f b) x:=by rw[take_add_one,hx,foldl_append];rfl
theorem X3(told:List Bd)(hl:told.length<=1000)(h:HI):UI [.lst (told.map gA)] h=some (.ref h.length,h++[.dt ((aC told).map aB)]):=by
 obtain⟨l',h',e,⟨y2,y3,rfl⟩,rfl,_⟩:=QK (i:=2) (body:=mK) gA (fun k l h'=>(∃y2 y3,l=[some (.lst (told.map gA)),some (.ref h.length),y2,y3])/\h'=h++[.dt (((told.take k).foldl HC []).map aB)]/\((told.take k).foldl HC []).length<=k) told 0 (by
  rintro k x hx l h' ⟨⟨y2,y3,rfl⟩,rfl,hk⟩;rw[Nat.zero_add]at hk ⊢;have kl:k<told.length:=(zdP hx).1;rw[UV HC [] hx];generalize (told.take k).foldl HC []=E at hk;have ed:(h++[Ob.dt (E.map aB)])[h.length]?=some (.dt (E.map aB)):=by simp
  have LL:([some (Dt.lst (told.map gA)),some (.ref h.length),y2,y3]:LI).set 2 (some (gA x))=[some (Dt.lst (told.map gA)),some (.ref h.length),some (gA x),y3]:=rfl;rw[LL];refine⟨.nx [some (.lst (told.map gA)),some (.ref h.length),some (gA x),some (.uc [(x.1:Int),(x.2.1:Int)])] (h++[.dt ((HC E x).map aB)]),?_,⟨_,_,rfl⟩,rfl,?_⟩
  · have g1:lH (eV 1) (eV 3) (e2 pA (eV 2) (eC (.int 2))) [some (.lst (told.map gA)),some (.ref h.length),some (gA x),some (.uc [(x.1:Int),(x.2.1:Int)])] (h++[.dt (E.map aB)])=some (.int ((vH E x.1 x.2.1).getD x.2.2),h++[.dt (E.map aB)]):=by rw[vX (n:=h.length) (k:=[(x.1:Int),(x.2.1:Int)]) (kvs:=E.map aB) (by simp) ed (by simp)];simp only[FA,rA,JA,zdD,zdE,sA,nA,gA,HB,mI,zdL];rw[pY ed,NS];cases vH E x.1 x.2.1<;>rfl
    have g2:=NY (l:=[some (.lst (told.map gA)),some (.ref h.length),some (gA x),some (.uc [(x.1:Int),(x.2.1:Int)])]) (h:=h++[.dt (E.map aB)]) (fe:=qL rH (lH (eV 1) (eV 3) (e2 pA (eV 2) (eC (.int 2)))) (e2 pA (eV 2) (eC (.int 2)))) (fo:=eV 1) (fy:=eV 3) (n:=h.length) (k:=[(x.1:Int),(x.2.1:Int)]) (kvs:=E.map aB)
     (d:=.int (min ((vH E x.1 x.2.1).getD x.2.2) x.2.2)) (by
      rw[NI,g1,nA];simp[gA]) (by simp) ed (by simp) (by simp;omega)
    rw[DX]at g2;have es:(h++[Ob.dt (E.map aB)]).set h.length (.dt ((HC E x).map aB))=h++[.dt ((HC E x).map aB)]:=by simp
    simp only[mK,XA,mB,XY,WA,MA,FA,rA,JA,zdD,zdE,sA,nA,gA,HB,RB,OD,zdL,rX,zdK,zdJ,YA];have g3:=g2;simp only[gA]at g3;rw[g3];show some (Rs.nx _ ((h++[Ob.dt (E.map aB)]).set h.length (.dt ((HC E x).map aB))))=_;rw[es]
  · have:=hX E x.1 x.2.1 (min ((vH E x.1 x.2.1).getD x.2.2) x.2.2);show(HC E x).length<=k+1;unfold HC;omega) [some (.lst (told.map gA)),some (.ref h.length),none,none] (h++[.dt []]) ⟨⟨_,_,rfl⟩,by simp,by simp⟩
 rw[Nat.zero_add,take_length]at e;simp[UI,mM,e];rfl
noncomputable def iE:Option Nat->Dt
 | none=>.non
 | some q=>.int (q:Nat)
noncomputable def jC(n:Nat)(t:Nat->Int):List Dt:=(List.range n).map fun i=>.int (t i)
def MD(n:Nat)(c:Nat->Option Nat):List Dt:=(List.range n).map fun i=>iE (c i)
theorem JR(n:Nat)(t:Nat->Int):(jC n t).length=n:=by simp[jC]
theorem oV(n:Nat)(c:Nat->Option Nat):(MD n c).length=n:=by simp[MD]
theorem BN{n p:Nat}(t:Nat->Int)(hp:p<n):(jC n t)[p]?=some (.int (t p)):=by simp[jC,hp]
theorem dR{n p:Nat}(c:Nat->Option Nat)(hp:p<n):(MD n c)[p]?=some (iE (c p)):=by simp[MD,hp]
theorem IV{α β:Type}(n p:Nat)(f:Nat->α)(D:α->β)(v:α):((List.range n).map fun i=>D (f i)).set p (D v)=(List.range n).map fun i=>D (put f p v i):=by
 apply ext_getElem?;intro i;rw[getElem?_set];simp only[getElem?_map,length_map,length_range];by_cases h:p=i
 · subst h;by_cases hp:p<n
   · simp[hp,HF]
   · simp[hp,getElem?_eq_none]
 · have h':i≠p:=fun z=>h z.symm
   rw[if_neg h];by_cases hi:i<n
   · simp[hi,OE _ _ h']
   · simp[getElem?_eq_none,hi]
theorem P9(n p:Nat)(t:Nat->Int)(v:Int):(jC n t).set p (.int v)=jC n (put t p v):=IV n p t Dt.int v
theorem P6(n p q:Nat)(c:Nat->Option Nat):(MD n c).set p (.int (q:Nat))=MD n (put c p (some q)):=IV n p c iE (some q)
structure xH(h0:HI)(a b c n:Nat)(E:List Bd)(s:uG)(h:HI):Prop where
 len:h.length=h0.length
 da:h[a]?=some (.df (E.map aB))
 db:h[b]?=some (.lst (jC n s.t))
 dc:h[c]?=some (.lst (MD n s.c))
 els:∀m,m≠a->m≠b->m≠c->h[m]?=h0[m]?
noncomputable def SL(x:List Int×Dt):Bd:=match x with
 | ([p,q],.int m)=>(p.toNat,q.toNat,m)
 | _=>(0,0,0)
theorem eZ(e:Bd):SL (aB e)=e:=by simp[SL,aB]
theorem vq{h0:HI}{a b c n:Nat}(ab:a≠b)(ac:a≠c)(bc:b≠c){E:List Bd}{e:Bd}(he:e.1<n/\e.2.1<n){s:uG}{h:HI}(M:xH h0 a b c n E s h) :
 ∃h',WH [some (.ref a),some (.ref b),some (.ref c),some (iE s.l),some (.tup [.int (e.1:Nat),.int (e.2.1:Nat)]),some (.int e.2.2)] h=some (.nx [some (.ref a),some (.ref b),some (.ref c),some (iE (step s e).l),some (.tup [.int (e.1:Nat),.int (e.2.1:Nat)]),some (.int e.2.2)] h')/\xH h0 a b c n E (step s e) h':=by
 obtain⟨p,q,m⟩:=e;obtain⟨hp,hq⟩:=he;have xb:=fun i=>kF M.db i
 have tp:=BN s.t hp;have tq:=BN s.t hq;have blt:b<h.length:=(zdP M.db).1;have clt:c<h.length:=(zdP M.dc).1;by_cases hm:s.t p>s.t q+m
 · have es:step s (p,q,m)=⟨put s.t p (s.t q+m),put s.c p (some q),some p⟩:=if_pos hm;rw[es];have hm':decide (s.t q+m<s.t p)=true:=decide_eq_true hm;have g1:=nN (l:=[some (.ref a),some (.ref b),some (.ref c),some (iE s.l),some (.tup [.int (p:Nat),.int (q:Nat)]),some (.int m)]) (v:=.int (s.t q+m)) (k:=p) M.db (by rw[JR];exact hp);rw[P9]at g1;have c2:(h.set b (.lst (jC n (put s.t p (s.t q+m)))))[c]?=some (.lst (MD n s.c)):=by rw[getElem?_set_ne bc];exact M.dc
   have g2:=nN (l:=[some (.ref a),some (.ref b),some (.ref c),some (iE s.l),some (.tup [.int (p:Nat),.int (q:Nat)]),some (.int m)]) (v:=.int (q:Nat)) (k:=p) c2 (by rw[oV];exact hp);rw[P6]at g2;refine⟨(h.set b (.lst (jC n (put s.t p (s.t q+m))))).set c (.lst (MD n (put s.c p (some q)))),?_,?_⟩
   · simp only[WH,OB,jB,FA,rA,JA,zdD,zdE,sA,nA,HB,RB,OD,zdL,xb,SM.OC,tp,tq,tE,KL,uB,hm',if_true,XA,xX,g1,YA,g2,mB,zdK,zdJ];rfl
   · refine⟨by simp[M.len],?_,?_,?_,fun k h1 h2 h3=>?_⟩
     · rw[getElem?_set_ne (Ne.symm ac),getElem?_set_ne (Ne.symm ab)];exact M.da
     · rw[getElem?_set_ne (Ne.symm bc),getElem?_set_self blt]
     · rw[getElem?_set_self (by simp;exact clt)]
     · rw[getElem?_set_ne (Ne.symm h3),getElem?_set_ne (Ne.symm h2)];exact M.els k h1 h2 h3
 · have es:step s (p,q,m)=s:=if_neg hm;rw[es];have hm':decide (s.t q+m<s.t p)=false:=decide_eq_false hm;refine⟨h,?_,M⟩;simp only[WH,OB,jB,FA,rA,JA,zdD,zdE,sA,nA,HB,RB,OD,zdL,xb,SM.OC,tp,tq,tE,KL,uB,hm',zdV,if_false,YC]
theorem xq{h0:HI}{a b c n:Nat}(ab:a≠b)(ac:a≠c)(bc:b≠c){E:List Bd}(hE:∀e∈E,e.1<n/\e.2.1<n){s:uG}{h:HI}(M:xH h0 a b c n E s h)(x4 x5:Option Dt) :
 ∃x4' x5' h',xE (aF 4 5) WH [some (.ref a),some (.ref b),some (.ref c),some (iE s.l),x4,x5] (.it a,h)=some (.nx [some (.ref a),some (.ref b),some (.ref c),some (iE (E.foldl step s).l),x4',x5'] h')/\xH h0 a b c n E (E.foldl step s) h':=by
 obtain⟨l',h',e,⟨y4,y5,rfl⟩,M'⟩:=Pq (i:=4) (j:=5) (n:=a) (body:=WH) (kvs:=E.map aB) (fun(s:uG) l h=>(∃y4 y5,l=[some (.ref a),some (.ref b),some (.ref c),some (iE s.l),y4,y5])/\xH h0 a b c n E s h) (fun s x=>step s (SL x)) (fun s l h ⟨_,M⟩=>M.da) (by
  rintro x hx s l h ⟨⟨y4,y5,rfl⟩,M⟩;obtain⟨e,he,rfl⟩:=mem_map.mp hx;obtain⟨h',e1,M'⟩:=vq ab ac bc (hE e he) M;rw[eZ];exact⟨_,e1,⟨_,_,rfl⟩,M'⟩) s ⟨⟨x4,x5,rfl⟩,M⟩
 have ef:(E.map aB).foldl (fun s x=>step s (SL x)) s=E.foldl step s:=by simp only[foldl_map,eZ]
 rw[ef]at e M';exact⟨y4,y5,h',e,M'⟩
theorem Hq{a b c n:Nat}(ab:a≠b)(ac:a≠c)(bc:b≠c){E:List Bd}(hE:∀e∈E,e.1<n/\e.2.1<n){s:uG}{h:HI}(da:h[a]?=some (.dt (E.map aB))\/h[a]?=some (.df (E.map aB)))(db:h[b]?=some (.lst (jC n s.t)))(dc:h[c]?=some (.lst (MD n s.c))) :
 ∃h',nJ [.ref a,.ref b,.ref c] h=some (iE (turn E s).l,h')/\xH h a b c n E (turn E s) h':=by
 have alt:a<h.length:=by rcases da with da | da<;>exact(zdP da).1
 obtain⟨h1,ei,M⟩:∃h1,dI (eV 0) [some (.ref a),some (.ref b),some (.ref c),some .non,none,none] h=some (.it a,h1)/\xH h a b c n E ⟨s.t,s.c,none⟩ h1:=by
  rcases da with da | da
  · refine⟨_,G8 (by simp) da,⟨by simp,getElem?_set_self alt,?_,?_,fun m h1 _ _=>getElem?_set_ne (Ne.symm h1)⟩⟩
    · rw[getElem?_set_ne ab];exact db
    · rw[getElem?_set_ne ac];exact dc
  · exact⟨_,F8 (by simp) da,⟨rfl,da,db,dc,fun _ _ _ _=>rfl⟩⟩
 obtain⟨y4,y5,h',e,M'⟩:=xq ab ac bc hE M none none;refine⟨h',?_,M'⟩;have e':xE (aF 4 5) WH [some (.ref a),some (.ref b),some (.ref c),some .non,none,none] (.it a,h1)=_:=e;simp only[nJ,GS,xB,zdF,zdG,if_true,zdH,zdI,List.replicate,zdO,zdN,XA,mB,JA,nA,zdK,zdJ,YA,YD];simp[ei,e'];rfl
theorem qj(l:LI)(h:HI)(b:Dt)(h':HI)(e:tK l h=some (b,h')):h'=h:=by
 simp only[tK,FA,rA]at e;rcases h0:l[0]? with _ | _ | d0
 · rw[h0]at e;cases e
 · rw[h0]at e;cases e
 · rcases h1:l[1]? with _ | _ | d1
   · rw[h0,h1]at e;cases e
   · rw[h0,h1]at e;cases e
   · rw[h0,h1]at e;simp only[sA,nA]at e;cases d0<;>cases d1<;>simp[XF,UJ]at e;exact e.2.symm
theorem yV(n:Nat)(t:Nat->Int):jC n t=((List.range n).map t).map Dt.int:=by unfold jC;rw[map_map];rfl
structure AH(h0:HI)(n:Nat)(E:List Bd)(s:uG)(h:HI):Prop where
 len:h.length=h0.length+3
 da:h[h0.length]?=some (.dt (E.map aB))\/h[h0.length]?=some (.df (E.map aB))
 db:h[h0.length+1]?=some (.lst (jC n s.t))
 dc:h[h0.length+2]?=some (.lst (MD n s.c))
 els:∀m,m<h0.length->h[m]?=h0[m]?
def iC(n:Nat)(t:Nat->Int):Nat->Int:=fun i=>t i-QB ((List.range n).map t)
theorem Vz{h0:HI}{n:Nat}(hn:1<=n)(hn2:n<=1000){E:List Bd}(hE:∀e∈E,e.1<n/\e.2.1<n){s:uG}{h:HI}(M:AH h0 n E s h)(x0 x1 x5 x6 x7:Option Dt) :
 ∃h',AH h0 n E (turn E s) h'/\aJ [x0,x1,some (.ref h0.length),some (.ref (h0.length+1)),some (.ref (h0.length+2)),x5,x6,x7] h =
  (match(turn E s).l with
  | none=>some (.rt (.tup [.str "times", .lst (jC n (iC n (turn E s).t))]) h')
  | some p=>some (.nx [x0,x1,some (.ref h0.length),some (.ref (h0.length+1)),some (.ref (h0.length+2)),x5,some (.int (p:Nat)),x7] h')):=by
 obtain⟨h',e,M'⟩:=Hq (a:=h0.length) (b:=h0.length+1) (c:=h0.length+2) (by omega) (by omega) (by omega) hE M.da M.db M.dc;refine⟨h',⟨by rw[M'.len,M.len],.inr M'.da,M'.db,M'.dc,fun m hm=>(M'.els m (by omega) (by omega) (by omega)).trans (M.els m hm)⟩,?_⟩;cases q:(turn E s).l with
 | some p=>rw[q]at e;have e':nJ [.ref h0.length,.ref (h0.length+1),.ref (h0.length+2)] h=some (.int (p:Nat),h'):=e;simp[aJ,e',NF]
 | none=>
  rw[q]at e;have e':nJ [.ref h0.length,.ref (h0.length+1),.ref (h0.length+2)] h=some (.non,h'):=e;have hne:(List.range n).map (turn E s).t ≠ []:=by intro z;have:=congrArg List.length z;simp at this;omega
  have em:IT (eC (.int 0)) [x0,x1,some (.ref h0.length),some (.ref (h0.length+1)),some (.ref (h0.length+2)),x5,some .non,x7] (.ref (h0.length+1),h')=some (.int (QB ((List.range n).map (turn E s).t)),h'):=by unfold IT;rw[JA,nA,aq M'.db,yV];simp only[zdM,SM.G9];rw[if_pos hne]
  have ec:sE (CA 0) DB tK [none,some (.int (QB ((List.range n).map (turn E s).t)))] (.rf (h0.length+1),h')=some (jC n (iC n (turn E s).t),h'):=by
   rw[vR M'.db (by rw[JR];simp;omega) (fun l h b h' e q=>by simp at e;rw[<- e.2];exact q) (fun l h b h' e q=>by rw[qj l h b h' e];exact q)];rw[yV,ZF Dt.int (fun x=>Dt.int (x-QB ((List.range n).map (turn E s).t))) h' _ _ (by
    intro x hx;exact⟨by simp,by simp[tK]⟩)]
   unfold jC iC;rw[map_map];rfl
  simp[aJ,e',NF,em,KF M'.db,ec]
theorem mS{h0:HI}{n:Nat}(hn:1<=n)(hn2:n<=1000){E:List Bd}(hE:∀e∈E,e.1<n/\e.2.1<n)(x0 x1:Option Dt):∀(xs:List Dt)(k:Nat)(x5 x6 x7:Option Dt)(h:HI),AH h0 n E (GD E k s0) h->(1<=k->∃p:Nat,(GD E k s0).l=some p/\x6=some (.int (p:Nat)))->
 (∃s h',s.l=none/\(∀e∈E,bF s.t e)/\AH h0 n E s h'/\wC (CA 5) aJ xs [x0,x1,some (.ref h0.length),some (.ref (h0.length+1)),some (.ref (h0.length+2)),x5,x6,x7] h=some (.rt (.tup [.str "times", .lst (jC n (iC n s.t))]) h'))\/
 (∃y5 y6 h',AH h0 n E (GD E (k+xs.length) s0) h'/\(1<=k+xs.length->∃p:Nat,(GD E (k+xs.length) s0).l=some p/\y6=some (.int (p:Nat)))/\
  wC (CA 5) aJ xs [x0,x1,some (.ref h0.length),some (.ref (h0.length+1)),some (.ref (h0.length+2)),x5,x6,x7] h=some (.nx [x0,x1,some (.ref h0.length),some (.ref (h0.length+1)),some (.ref (h0.length+2)),y5,y6,x7] h'))
 | [],k,x5,x6,x7,h,M,q=>.inr ⟨x5,x6,h,M,q,rfl⟩
 | x::xs,k,x5,x6,x7,h,M,q=>by
  obtain⟨h1,M1,e1⟩:=Vz hn hn2 hE M x0 x1 (some x) x6 x7;cases ql:(turn E (GD E k s0)).l with
  | none=>
   rw[ql]at e1;obtain⟨_,p2,p3⟩:=HV E _ ql;refine .inl ⟨turn E (GD E k s0),h1,ql,?_,M1,by simp[wC,e1]⟩;show ∀e∈E,bF (E.foldl step _).t e
   rw[p2];exact p3
  | some p=>
   rw[ql]at e1;have:=mS hn hn2 hE x0 x1 xs (k+1) (some x) (some (.int (p:Nat))) x7 h1 M1 (fun _=>⟨p,ql,rfl⟩);rw[show k+(x::xs).length=k+1+xs.length by simp;omega];rcases this with⟨s,h',a1,a2,a3,a4⟩ | ⟨y5,y6,h',a1,a2,a3⟩
   · exact .inl ⟨s,h',a1,a2,a3,by simp[wC,e1,a4]⟩
   · exact .inr ⟨y5,y6,h',a1,a2,by simp[wC,e1,a3]⟩
def EC(c:Nat->Option Nat)(P i:Nat):List Dt:=(List.range (i+1)).map fun m=>.int ((GB (nxt c) m P:Nat):Int)
theorem X7(c:Nat->Option Nat)(P i:Nat):Ac (EC c P i) (-1)=some (.int ((GB (nxt c) i P:Nat):Int)):=by
 unfold EC Ac xI;have h1:(1:Int)<=(i:Int)+1:=by omega
 have h2:(-1+((i:Int)+1)).toNat=i:=by omega
 simp[h1,h2]
theorem ZU{n a k x:Nat}(hn:1<=n)(hn2:n<=90){E:List Bd}{w:Nat->Nat->Int}{c:Nat->Option Nat}{h:HI}(dc:h[a]?=some (.lst (MD n c)))(T:fU n E)
 (R:yH n E w c (GB (nxt c) n x) k) (cd:∀i,i<=n->c (GB (nxt c) i x)=some (GB (nxt c) (i+1) x)/\GB (nxt c) i x<n) :
 cM [.int (x:Nat),.ref a] h=some (.ref h.length,h++[.lst (EC c (GB (nxt c) n x) k)]):=by
 have xc:=fun i=>kF dc i
 have er:=FF (h:=h) (show(-(2^62):Int)<=(n:Int) by omega) (show(n:Int)<2^62 by omega);simp only[Int.toNat_natCast]at er;obtain⟨l',h',e,⟨y,rfl⟩,hh⟩:=uK (i:=2) (body:=UP) (fun(k:Nat)=>Dt.int (k:Int)) (fun i l h'=>(∃y,l=[some (.int ((GB (nxt c) i x:Nat):Int)),some (.ref a),y,none])/\h'=h) n (by
  rintro i hi l h' ⟨⟨y,rfl⟩,rfl⟩;obtain⟨c1,c2⟩:=cd i (by omega);have ca:=dR c c2;rw[c1]at ca;refine⟨.nx [some (.int ((GB (nxt c) (i+1) x:Nat):Int)),some (.ref a),some (.int (i:Nat)),none] h',?_,⟨_,rfl⟩,rfl⟩;simp only[UP,mB,FA,rA,zdK,zdJ,zdD,zdE,sA,nA,xc,SM.OC,ca,zdL,iE]) [some (.int (x:Nat)),some (.ref a),none,none] h ⟨⟨_,rfl⟩,rfl⟩
 rw[hh]at e;clear hh;obtain⟨c1,c2⟩:=cd n (zdS _);generalize hP:GB (nxt c) n x=P at R e c1 c2;have c1':c P=some (GB (nxt c) (n+1) x):=c1;have caP:=dR c c2;have f1:GB (nxt c) (n+1) x=nxt c P:=by show nxt c (GB (nxt c) n x)=_;rw[hP]
 rw[c1',f1]at caP;obtain⟨r,ew,Rr⟩:=ZV (t:=RP) (body:=VP) (fun m l h'=>∃i,1<=i/\i<=k/\m=k-i/\l=[some (.int (P:Nat)),some (.ref a),y,some (.ref h.length)]/\h'=h++[.lst (EC c P i)])
  (fun l h'=>l=[some (.int (P:Nat)),some (.ref a),y,some (.ref h.length)]/\h'=h++[.lst (EC c P k)]) (fun _ _=>False) (by
  rintro m l h' ⟨i,i1,i2,rfl,rfl,rfl⟩;have dr:(h++[Ob.lst (EC c P i)])[h.length]?=some (.lst (EC c P i)):=by simp
  have dc':(h++[Ob.lst (EC c P i)])[a]?=some (.lst (MD n c)):=by rw[zdQ (zdP dc).1];exact dc
  have xr:=fun j=>kF dr j
  have xc':=fun j=>kF dc' j
  have rl:=X7 c P i;refine⟨!decide (((GB (nxt c) i P:Nat):Int)=(P:Int)),h++[.lst (EC c P i)],?_,?_⟩
  · simp only[RP,jB,FA,rA,WY,JA,nX,zdD,zdE,sA,nA,xr,rl,zdL,JI,uB]
  · by_cases hk:i=k
    · subst hk;rw[R.back];simp
    · have ne:=R.first i i1 (by omega);have ne':¬(((GB (nxt c) i P:Nat):Int)=(P:Int)):=fun z=>ne (by omega)
      rw[decide_eq_false ne'];obtain⟨g1,g2⟩:=R.edge i i2;have glt:=(T.lt _ g1).1;have ca:=dR c glt;rw[g2]at ca;have ea:e2 pA (eV 1) (e2 pA (eV 3) (FE (eC (.int 1)))) [some (.int (P:Nat)),some (.ref a),y,some (.ref h.length)] (h++[.lst (EC c P i)])=some (.int ((GB (nxt c) (i+1) P:Nat):Int),h++[.lst (EC c P i)]):=by simp only[FA,rA,WY,JA,nX,zdD,zdE,sA,nA,xr,rl,zdL,xc',SM.OC,ca,iE]
      have ap:=FG (l:=[some (.int (P:Nat)),some (.ref a),y,some (.ref h.length)]) (g:=e2 pA (eV 1) (e2 pA (eV 3) (FE (eC (.int 1))))) dr ea dr (by have:=R.le;simp[EC];omega);have en:EC c P i++[.int ((GB (nxt c) (i+1) P:Nat):Int)]=EC c P (i+1):=by unfold EC;rw[range_succ (n:=i+1),map_append];rfl
      rw[en]at ap;have es:(h++[Ob.lst (EC c P i)]).set h.length (.lst (EC c P (i+1)))=h++[.lst (EC c P (i+1))]:=by simp
      rw[es]at ap;refine⟨.nx [some (.int (P:Nat)),some (.ref a),y,some (.ref h.length)] (h++[.lst (EC c P (i+1))]),?_,k-(i+1),by omega,i+1,by omega,by omega,rfl,rfl,rfl⟩;simp only[VP,JE,JF,rA,zdD,zdE,sA,nA,ap]) 100 (k-1) [some (.int (P:Nat)),some (.ref a),y,some (.ref h.length)] (h++[.lst (EC c P 1)]) ⟨1,zdS _,R.pos,rfl,rfl,rfl⟩ (by have:=R.le;omega)
 cases r with
 | nx l2 h2=>obtain⟨rfl,rfl⟩:=Rr;have e1:EC c P 1=[.int (P:Nat),.int ((nxt c P:Nat):Int)]:=rfl;rw[e1]at ew;simp[cM,iQ,xJ dc,oV,er,e,xc,caP,iE,ew]
 | rt d h2=>exact Rr.elim
 | bk l2 h2=>exact Rr.elim
 | ct l2 h2=>exact Rr.elim
def NO(told:List Bd)(p q:Nat):Int:=(vH (aC told) p q).getD 0
theorem IU{told:List Bd}{e:Bd}(he:e∈aC told):NO told e.1 e.2.1=e.2.2:=by
 unfold NO vH;cases q:(aC told).find? (cD e.1 e.2.1)with
 | none=>have:=find?_eq_none.mp q e he;exact absurd (Qd.mpr ⟨rfl,rfl⟩) this
 | some x=>obtain⟨h1,h2⟩:=Qd.mp (find?_some q);exact(BJ told).un x (mem_of_find?_eq_some q) e he h1 h2
theorem kY{n:Nat}{told:List Bd}(hT:∀e∈told,e.1<n/\e.2.1<n/\e.1≠e.2.1):fU n (aC told):=⟨fun e he=>hT e ((BJ told).mem e he),(BJ told).un⟩
theorem Tt{n:Nat}(hn:1<=n)(hn2:n<=16)(told:List Bd)(hT:∀e∈told,e.1<n/\e.2.1<n/\e.1≠e.2.1)(hl:told.length<=1000)(h:HI) :
 (∃t h',(∀e∈told,bF t e)/\(∀m,m<h.length->h'[m]?=h[m]?)/\cG [.int (n:Nat),.lst (told.map gA)] h=some (.tup [.str "times", .lst (jC n (iC n t))],h'))\/
 (∃c P k r h',yH n (aC told) (NO told) c P k/\(∀m,m<h.length->h'[m]?=h[m]?)/\h'[r]?=some (.lst (EC c P k))/\cG [.int (n:Nat),.lst (told.map gA)] h=some (.tup [.str "ring", .ref r],h')):=by
 have T:=kY hT;have hE:∀e∈aC told,e.1<n/\e.2.1<n:=fun e he=>⟨(T.lt e he).1,(T.lt e he).2.1⟩
 have eb:=X3 told hl h;have r1:=iN (h:=h++[.dt ((aC told).map aB)]) (Dt.int 0) (show n<=1000000 by omega);have r2:=iN (h:=h++[.dt ((aC told).map aB)]++[.lst (List.replicate n (Dt.int 0))]) Dt.non (show n<=1000000 by omega);have t0:List.replicate n (Dt.int 0)=jC n s0.t:=by unfold jC;rw[show(fun i=>Dt.int (s0.t i))=fun _=>Dt.int 0 from rfl,map_const',length_range]
 have c0:List.replicate n Dt.non=MD n s0.c:=by unfold MD;rw[show(fun i=>iE (s0.c i))=fun _=>Dt.non from rfl,map_const',length_range]
 rw[t0]at r1 r2;rw[c0]at r2;simp only[append_assoc,zdO,zdN,length_append,zdF,zdG,Nat.zero_add]at r1 r2;have er:=fun h=>FF (h:=h) (show(-(2^62):Int)<=(n:Int)+1 by omega) (show(n:Int)+1<2^62 by omega)
 have en:((n:Int)+1).toNat=n+1:=by omega
 rw[en]at er;have M:AH h n (aC told) (GD (aC told) 0 s0) (h++[.dt ((aC told).map aB),.lst (jC n s0.t),.lst (MD n s0.c)]):=by
  refine⟨by simp,.inl ?_,?_,?_,fun m hm=>zdQ hm⟩
  · rw[zdT (zdS _),Nat.sub_self];rfl
  · rw[zdT (by omega),Nat.add_sub_cancel_left];rfl
  · rw[zdT (by omega),Nat.add_sub_cancel_left];rfl
 rcases mS hn (by omega) hE (some (.int (n:Nat))) (some (.lst (told.map gA))) ((List.range (n+1)).map fun(k:Nat)=>Dt.int (k:Int)) 0 none none none _ M (fun h=>absurd h (by omega))with⟨s,h',a1,a2,a3,a4⟩ | ⟨y5,y6,h',a1,a2,a3⟩
 · refine .inl ⟨s.t,h',fun e he=>?_,a3.els,?_⟩
   · obtain⟨x,hx,x1,x2,x3⟩:=(BJ told).low e he;have:=a2 x hx;simp only[bF]at this ⊢;rw[x1,x2]at this;omega
   · simp[cG,mJ,eb,r1,r2,er,a4]
 · rw[length_map,length_range,Nat.zero_add]at a1 a2;obtain⟨p,ql,rfl⟩:=a2 (by omega);obtain⟨u,D,I,_⟩:=SR T (fun e he=>IU he) n;obtain⟨k,R,cd⟩:=zX T I ql;have g:=ZU hn (by omega) a1.dc T R cd;refine .inr ⟨(GD (aC told) (n+1) s0).c,GB (nxt (GD (aC told) (n+1) s0).c) n p,k,h'.length,h'++[.lst (EC (GD (aC told) (n+1) s0).c (GB (nxt (GD (aC told) (n+1) s0).c) n p) k)],R,fun m hm=>?_,?_,?_⟩
   · rw[zdQ (by rw[a1.len];omega)];exact a1.els m hm
   · rw[zdT (zdS _),Nat.sub_self];rfl
   · simp[cG,mJ,eb,r1,r2,er,a3,g]
theorem P3(told:List Bd)(hl:told.length<=1000)(h:HI){a:Nat}(da:h[a]?=some (.lst (told.map gA))):UI [.ref a] h=some (.ref h.length,h++[.dt ((aC told).map aB)]):=by
 obtain⟨l',h',e,⟨y2,y3,rfl⟩,rfl,_⟩:=BO (i:=2) (n:=a) (body:=mK) gA (fun k l h'=>(∃y2 y3,l=[some (.ref a),some (.ref h.length),y2,y3])/\h'=h++[.dt (((told.take k).foldl HC []).map aB)]/\((told.take k).foldl HC []).length<=k) told (by
  rintro k l h' ⟨_,rfl,_⟩;rw[zdQ (zdP da).1];exact da) (by
  rintro k x hx l h' ⟨⟨y2,y3,rfl⟩,rfl,hk⟩;have kl:k<told.length:=(zdP hx).1;rw[UV HC [] hx];generalize (told.take k).foldl HC []=E at hk;have ed:(h++[Ob.dt (E.map aB)])[h.length]?=some (.dt (E.map aB)):=by simp
  have LL:([some (Dt.ref a),some (.ref h.length),y2,y3]:LI).set 2 (some (gA x))=[some (Dt.ref a),some (.ref h.length),some (gA x),y3]:=rfl;rw[LL];refine⟨.nx [some (.ref a),some (.ref h.length),some (gA x),some (.uc [(x.1:Int),(x.2.1:Int)])] (h++[.dt ((HC E x).map aB)]),?_,⟨_,_,rfl⟩,rfl,?_⟩
  · have g1:lH (eV 1) (eV 3) (e2 pA (eV 2) (eC (.int 2))) [some (.ref a),some (.ref h.length),some (gA x),some (.uc [(x.1:Int),(x.2.1:Int)])] (h++[.dt (E.map aB)])=some (.int ((vH E x.1 x.2.1).getD x.2.2),h++[.dt (E.map aB)]):=by rw[vX (n:=h.length) (k:=[(x.1:Int),(x.2.1:Int)]) (kvs:=E.map aB) (by simp) ed (by simp)];simp only[FA,rA,JA,zdD,zdE,sA,nA,gA,HB,mI,zdL];rw[pY ed,NS];cases vH E x.1 x.2.1<;>rfl
    have g2:=NY (l:=[some (.ref a),some (.ref h.length),some (gA x),some (.uc [(x.1:Int),(x.2.1:Int)])]) (h:=h++[.dt (E.map aB)]) (fe:=qL rH (lH (eV 1) (eV 3) (e2 pA (eV 2) (eC (.int 2)))) (e2 pA (eV 2) (eC (.int 2)))) (fo:=eV 1) (fy:=eV 3) (n:=h.length) (k:=[(x.1:Int),(x.2.1:Int)]) (kvs:=E.map aB)
     (d:=.int (min ((vH E x.1 x.2.1).getD x.2.2) x.2.2)) (by
      rw[NI,g1,nA];simp[gA]) (by simp) ed (by simp) (by simp;omega)
    rw[DX]at g2;have es:(h++[Ob.dt (E.map aB)]).set h.length (.dt ((HC E x).map aB))=h++[.dt ((HC E x).map aB)]:=by simp
    simp only[mK,XA,mB,XY,WA,MA,FA,rA,JA,zdD,zdE,sA,nA,gA,HB,RB,OD,zdL,rX,zdK,zdJ,YA];have g3:=g2;simp only[gA]at g3;rw[g3];show some (Rs.nx _ ((h++[Ob.dt (E.map aB)]).set h.length (.dt ((HC E x).map aB))))=_;rw[es]
  · have:=hX E x.1 x.2.1 (min ((vH E x.1 x.2.1).getD x.2.2) x.2.2);show(HC E x).length<=k+1;unfold HC;omega) [some (.ref a),some (.ref h.length),none,none] (h++[.dt []]) ⟨⟨_,_,rfl⟩,by simp,by simp⟩
 have da':(h++[Ob.dt []])[a]?=some (.lst (told.map gA)):=by rw[zdQ (zdP da).1];exact da
 rw[take_length]at e;simp[UI,mM,KF da',e];rfl
theorem GW{n a:Nat}(hn:1<=n)(hn2:n<=16)(told:List Bd)(hT:∀e∈told,e.1<n/\e.2.1<n/\e.1≠e.2.1)(hl:told.length<=1000)(h:HI)(da:h[a]?=some (.lst (told.map gA))) :
 (∃t h',(∀e∈told,bF t e)/\(∀m,m<h.length->h'[m]?=h[m]?)/\cG [.int (n:Nat),.ref a] h=some (.tup [.str "times", .lst (jC n (iC n t))],h'))\/
 (∃c P k r h',yH n (aC told) (NO told) c P k/\(∀m,m<h.length->h'[m]?=h[m]?)/\h'[r]?=some (.lst (EC c P k))/\cG [.int (n:Nat),.ref a] h=some (.tup [.str "ring", .ref r],h')/\h.length<=r):=by
 have T:=kY hT;have hE:∀e∈aC told,e.1<n/\e.2.1<n:=fun e he=>⟨(T.lt e he).1,(T.lt e he).2.1⟩
 have eb:=P3 told hl h da;have r1:=iN (h:=h++[.dt ((aC told).map aB)]) (Dt.int 0) (show n<=1000000 by omega);have r2:=iN (h:=h++[.dt ((aC told).map aB)]++[.lst (List.replicate n (Dt.int 0))]) Dt.non (show n<=1000000 by omega);have t0:List.replicate n (Dt.int 0)=jC n s0.t:=by unfold jC;rw[show(fun i=>Dt.int (s0.t i))=fun _=>Dt.int 0 from rfl,map_const',length_range]
 have c0:List.replicate n Dt.non=MD n s0.c:=by unfold MD;rw[show(fun i=>iE (s0.c i))=fun _=>Dt.non from rfl,map_const',length_range]
 rw[t0]at r1 r2;rw[c0]at r2;simp only[append_assoc,zdO,zdN,length_append,zdF,zdG,Nat.zero_add]at r1 r2;have er:=fun h=>FF (h:=h) (show(-(2^62):Int)<=(n:Int)+1 by omega) (show(n:Int)+1<2^62 by omega)
 have en:((n:Int)+1).toNat=n+1:=by omega
 rw[en]at er;have M:AH h n (aC told) (GD (aC told) 0 s0) (h++[.dt ((aC told).map aB),.lst (jC n s0.t),.lst (MD n s0.c)]):=by
  refine⟨by simp,.inl ?_,?_,?_,fun m hm=>zdQ hm⟩
  · rw[zdT (zdS _),Nat.sub_self];rfl
  · rw[zdT (by omega),Nat.add_sub_cancel_left];rfl
  · rw[zdT (by omega),Nat.add_sub_cancel_left];rfl
 rcases mS hn (by omega) hE (some (.int (n:Nat))) (some (.ref a)) ((List.range (n+1)).map fun(k:Nat)=>Dt.int (k:Int)) 0 none none none _ M (fun h=>absurd h (by omega))with⟨s,h',a1,a2,a3,a4⟩ | ⟨y5,y6,h',a1,a2,a3⟩
 · refine .inl ⟨s.t,h',fun e he=>?_,a3.els,?_⟩
   · obtain⟨x,hx,x1,x2,x3⟩:=(BJ told).low e he;have:=a2 x hx;simp only[bF]at this ⊢;rw[x1,x2]at this;omega
   · simp[cG,mJ,eb,r1,r2,er,a4]
 · rw[length_map,length_range,Nat.zero_add]at a1 a2;obtain⟨p,ql,rfl⟩:=a2 (by omega);obtain⟨u,D,I,_⟩:=SR T (fun e he=>IU he) n;obtain⟨k,R,cd⟩:=zX T I ql;have g:=ZU hn (by omega) a1.dc T R cd;refine .inr ⟨(GD (aC told) (n+1) s0).c,GB (nxt (GD (aC told) (n+1) s0).c) n p,k,h'.length,h'++[.lst (EC (GD (aC told) (n+1) s0).c (GB (nxt (GD (aC told) (n+1) s0).c) n p) k)],R,fun m hm=>?_,?_,?_,by rw[a1.len];omega⟩
   · rw[zdQ (by rw[a1.len];omega)];exact a1.els m hm
   · rw[zdT (zdS _),Nat.sub_self];rfl
   · simp[cG,mJ,eb,r1,r2,er,a3,g]
theorem AS{n:Nat}{told:List Bd}{b:Nat->Int}{c:Nat->Option Nat}{P k:Nat}(hb:∀e∈told,b e.1-b e.2.1<=e.2.2)(R:yH n (aC told) (NO told) c P k):False:=by
 have h1:∀i,i<=k->b P-b (GB (nxt c) i P)<=((List.range i).map fun m=>NO told (GB (nxt c) m P) (GB (nxt c) (m+1) P)).sum:=by
  intro i
  induction i with
  | zero=>intro _;show b P-b P<=0;omega
  | succ i ih=>intro hi;have h2:=ih (by omega);have h3:=hb _ ((BJ told).mem _ (R.edge i (by omega)).1);rw[range_succ,map_append,sum_append];simp only[zdH,zdI,sum_cons,sum_nil,Int.add_zero]at h3 ⊢;omega
 have h2:=h1 k (zdS _);rw[R.back]at h2;have:=R.sum;omega
theorem Ut{α:Type}{bd:RG}{n:Nat}{body:RS}(D:α->Dt)(I:LI->HI->Prop)(xs:List α)(hI:∀l h,I l h->h[n]?=some (.lst (xs.map D)))
 (H:∀x∈xs,∀l h,I l h->∃l1 r,bd (D x) l=some l1/\body l1 h=some r/\Pass I r):∀l h,I l h->∃l' h',xE bd body l (.rf n,h)=some (.nx l' h')/\I l' h':=by
 have go:∀(f k:Nat)(l:LI)(h:HI),I l h->f=xs.length-k+1->k<=xs.length->∃l' h',uC bd body (.rf n) f k l h=some (.nx l' h')/\I l' h':=by
  intro f
  induction f with
  | zero=>intro k l h _ e;omega
  | succ f ih=>
   intro k l h i hf hk;have e:=hI l h i;by_cases hlt:k<xs.length
   · obtain⟨l1,r,e1,e2,p⟩:=H xs[k] (getElem_mem hlt) l h i;have ek:(xs.map D)[k]?=some (D xs[k]):=by rw[getElem?_map,getElem?_eq_getElem hlt];rfl
     have eu:uC bd body (.rf n) (f+1) k l h=cB (body l1 h) (mP (uC bd body (.rf n) f (k+1))):=by
      simp only[uC,Src.at,e,ek,e1,zdM];cases body l1 h with
      | none=>rfl
      | some r=>cases r<;>rfl
     rw[eu,e2,nA];cases r with
     | nx l2 h2=>exact ih (k+1) l2 h2 p (by omega) hlt
     | ct l2 h2=>exact ih (k+1) l2 h2 p (by omega) hlt
     | bk l2 h2=>exact p.elim
     | rt d h2=>exact p.elim
   · have ek:(xs.map D)[k]?=none:=getElem?_eq_none (by rw[length_map];omega);exact⟨l,h,by simp only[uC,Src.at,e,ek],i⟩
 intro l h i;have e:=hI l h i;obtain⟨l',h',e1,e2⟩:=go (xs.length+1) 0 l h i (by omega) (Nat.zero_le _);refine⟨l',h',?_,e2⟩;show uC bd body (.rf n) (Src.fuel (.rf n) h) 0 l h=_;have ef:Src.fuel (.rf n) h=xs.length+1:=by simp only[Src.fuel,e,length_map]
 rw[ef];exact e1
theorem S8{n:Nat}(hn:1<=n)(t:Nat->Int):(List.range n).map (iC n t) ≠ []/\QB ((List.range n).map (iC n t))=0:=by
 have ne:∀g:Nat->Int,(List.range n).map g ≠ []:=fun g z=>by have:=congrArg List.length z;simp at this;omega
 refine⟨ne _,?_⟩;obtain⟨a1,a2⟩:=XH _ (ne t);obtain⟨b1,b2⟩:=XH _ (ne (iC n t));obtain⟨i,hi,e⟩:=mem_map.mp a1;obtain⟨j,hj,e'⟩:=mem_map.mp b1;have c1:=b2 (iC n t i) (mem_map_of_mem hi);have c2:=a2 (t j) (mem_map_of_mem hj);have d1:iC n t i=0:=by unfold iC;rw[e];omega
 have d2:iC n t j=t j-QB ((List.range n).map t):=rfl;omega
noncomputable def vB(t a b:Int):Nat:=if t<a then 0 else if t=a then 1 else if t<b then 2 else if t=b then 3 else 4
noncomputable def Ad:List (Nat×Nat):=[(0,0),(0,1),(0,2),(0,3),(0,4),(1,2),(1,3),(1,4),(2,2),(2,3),(2,4),(3,4),(4,4)]
theorem gN{a b c d:Int}(h1:a<b)(h2:c<d):(vB a c d,vB b c d)∈Ad:=by
 unfold vB
 repeat' split
 all_goals first | (exfalso;omega) | decide
noncomputable def pr(p:Nat×Nat):Dt:=.tup [.int (p.1:Int),.int (p.2:Int)]
noncomputable def gD(s:Int×Int):Dt:=.tup [.int s.1,.int s.2]
def Gf(s o:Int×Int):Nat:=Ad.idxOf (vB s.1 o.1 o.2,vB s.2 o.1 o.2)
noncomputable def UC(s:Int×Int):Prop:=s.1<s.2
theorem HE{s o:Int×Int}(h1:UC s)(h2:UC o):Gf s o<13:=idxOf_lt_length_of_mem (gN h1 h2)
theorem Vt:∀p∈Ad,Dg (Ad.map pr) (pr p)=true/\qU (Ad.map pr) (pr p)=some (Ad.idxOf p):=by intro p hp;simp only[Ad,mem_cons,not_mem_nil,or_false]at hp;rcases hp with rfl | rfl | rfl | rfl | rfl | rfl | rfl | rfl | rfl | rfl | rfl | rfl | rfl<;>exact⟨rfl,rfl⟩
noncomputable def JJ(n:Nat)(p:Nat->Bool):Nat:=match n with
 | 0=>0
 | n+1=>JJ n p+(if p n=true then 2^n else 0)
theorem mT(p:Nat->Bool):∀n,JJ n p<2^n
 | 0=>by simp[JJ]
 | n+1=>by have:=mT p n;simp only[JJ];rw[Nat.pow_succ];split<;>omega
theorem UX(p:Nat->Bool):∀n k,(JJ n p).testBit k=(decide (k<n)&&p k)
 | 0,k=>by simp[JJ]
 | n+1,k=>by
  have ih:=UX p n k;have lt:=mT p n;simp only[JJ];by_cases hp:p n=true
  · rw[if_pos hp,Nat.add_comm];rcases Nat.lt_trichotomy k n with h | h | h
    · rw[Nat.testBit_two_pow_add_gt h,ih];simp[h,Nat.lt_succ_of_lt h]
    · subst h;rw[Nat.testBit_two_pow_add_eq,ih];simp[hp]
    · have:2^n+JJ n p<2^k:=Nat.lt_of_lt_of_le (show 2^n+JJ n p<2^(n+1) by rw[Nat.pow_succ];omega) (Nat.pow_le_pow_right (by decide) h);rw[Nat.testBit_lt_two_pow this];have:¬k<n+1:=by omega
      simp[this]
  · rw[if_neg hp,Nat.add_zero,ih];by_cases h:k=n
    · subst h;simp[hp]
    · have:(k<n+1)=(k<n):=by apply propext;omega
      simp[this]
theorem aI{a b:Nat}(ha:a<8192)(hb:b<8192)(h:∀k<13,a.testBit k=b.testBit k):a=b:=by
 apply Nat.eq_of_testBit_eq;intro k;by_cases hk:k<13
 · exact h k hk
 · have hp:8192<=2^k:=by have:=Nat.pow_le_pow_right (show 1<=2 by decide) (show 13<=k by omega);exact this
   rw[Nat.testBit_lt_two_pow (by omega),Nat.testBit_lt_two_pow (by omega)]
def mk(p:Nat->Bool):Nat:=JJ 13 p
theorem Fg(p:Nat->Bool):mk p<8192:=mT p 13
theorem BY(p:Nat->Bool){k:Nat}(hk:k<13):(mk p).testBit k=p k:=by unfold mk;rw[UX];simp[hk]
noncomputable def BA(m:Nat):List Nat:=(List.range 13).filter m.testBit
theorem Kf{m k:Nat}:k∈BA m↔k<13/\m.testBit k=true:=by simp[BA]
theorem xV(g:Nat->Int)(p:Nat->Bool)(xs:List Nat):((xs.filter p).map g).sum=(xs.map fun k=>if p k=true then g k else 0).sum:=by
 induction xs with
 | nil=>rfl
 | cons x xs ih=>by_cases h:p x=true<;>simp[h,ih]
theorem Ug(p:Nat->Bool):((((List.range 13).filter p).map fun k=>(2:Int)^k)).sum=(mk p:Int):=by
 rw[xV];simp only[mk,JJ,List.range,List.range.loop,zdH,zdI,sum_cons,sum_nil];generalize p 0=a0;generalize p 1=a1;generalize p 2=a2;generalize p 3=a3;generalize p 4=a4;generalize p 5=a5;generalize p 6=a6;generalize p 7=a7;generalize p 8=a8;generalize p 9=a9;generalize p 10=a10;generalize p 11=a11;generalize p 12=a12;have f:∀(b:Bool)(k:Nat),(if b=true then(2:Int)^k else 0)=((if b=true then 2^k else 0:Nat):Int):=by intro b k;cases b<;>simp
 simp only[f];omega
theorem wj(p:Nat->Bool):((((List.range 13).filter p).map fun k=>(2:Int)^(12-k))).sum=(mk (fun j=>p (12-j)):Int):=by
 rw[xV];simp only[mk,JJ,List.range,List.range.loop,zdH,zdI,sum_cons,sum_nil,Nat.reduceSub];generalize p 0=a0;generalize p 1=a1;generalize p 2=a2;generalize p 3=a3;generalize p 4=a4;generalize p 5=a5;generalize p 6=a6;generalize p 7=a7;generalize p 8=a8;generalize p 9=a9;generalize p 10=a10;generalize p 11=a11;generalize p 12=a12;have f:∀(b:Bool)(k:Nat),(if b=true then(2:Int)^k else 0)=((if b=true then 2^k else 0:Nat):Int):=by intro b k;cases b<;>simp
 simp only[f];omega
def Cd(m:Nat):Nat:=mk fun j=>m.testBit (12-j)
theorem rJ(m:Nat):Cd m<8192:=Fg _
theorem fE(m:Nat){k:Nat}(hk:k<13):(Cd m).testBit k=m.testBit (12-k):=BY _ hk
theorem KR{m:Nat}(hm:m<8192):Cd (Cd m)=m:=aI (rJ _) hm fun k hk=>by
 rw[fE _ hk,fE _ (by omega)]
 congr 1
 omega
theorem rN(a b:Nat):Builtin.bitAnd (a:Int) (b:Int)=((a&&&b:Nat):Int):=by unfold Builtin.bitAnd;simp
theorem fY(a b:Nat):Builtin.bitOr (a:Int) (b:Int)=((a|||b:Nat):Int):=by
 unfold Builtin.bitOr Builtin.bitAnd Builtin.bitNot;have h1:decide (0<=-(a:Int)-1)=false:=by simp;omega
 have h2:decide (0<=-(b:Int)-1)=false:=by simp;omega
 have e:∀x:Int,-(-x-1)-1=x:=by intro x;omega
 simp only[h1,h2,e];simp
theorem uY(m k:Nat):decide (Builtin.bitAnd ((m:Int)/2^k) 1=1)=m.testBit k:=by
 have e:((m:Int)/2^k)=((m/2^k:Nat):Int):=by simp
 rw[e];have:=rN (m/2^k) 1;simp only[Int.cast_ofNat_Int]at this;rw[this,Nat.testBit_eq_decide_div_mod_eq];have e2:(m/2^k&&&1)=m/2^k%2:=Nat.and_one_is_mod _;rw[e2]
 congr 1
 apply propext;omega
theorem xL{k:Nat}(hk:k<13):sG 1 (k:Int):=⟨by omega,by omega,by decide⟩
theorem B0(h:HI):IZ (.int 13,h)=some (.vals ((List.range 13).map fun(k:Nat)=>Dt.int (k:Int)),h):=FF (by decide) (by decide)
theorem Ih{α:Type}(f:Nat->α):((List.range 13).map f).length<sizeLine:=by rw[length_map,length_range];decide
theorem o0{i:Nat}(h:i<13):i=0\/i=1\/i=2\/i=3\/i=4\/i=5\/i=6\/i=7\/i=8\/i=9\/i=10\/i=11\/i=12:=by revert i;decide
theorem fJ(m:Nat):(BA m).length<=13:=by unfold BA;exact Nat.le_trans (length_filter_le _ _) (by simp)
theorem bJ(m:Nat)(h:HI):DF [.int m] h=some (.lst ((BA m).map fun(k:Nat)=>Dt.int (k:Int)),h):=by
 have ec:=sN (te:=uQ) (tc:=vQ) (i:=0) (fun(k:Nat)=>Dt.int (k:Int)) m.testBit (fun(k:Nat)=>Dt.int (k:Int)) h (List.range 13) [none,some (.int m)] fun k _=>⟨by
  simp[vQ,qZ,uY],fun _=>by simp[uQ]⟩
 simp[DF,sR,B0,fF _ _ _ (Ih _),ec,BA]
theorem FW(ks:List Nat)(hk:∀k∈ks,k<13)(hl:ks.length<=13)(h:HI):BK [.lst (ks.map fun(k:Nat)=>Dt.int (k:Int))] h=some (.int ((ks.map fun k=>(2:Int)^k).sum),h):=by
 have ec:=ZF (te:=YQ) (tc:=DB) (i:=0) (fun(k:Nat)=>Dt.int (k:Int)) (fun(k:Nat)=>Dt.int ((2:Int)^k)) h ks [none] fun k hm=>⟨rfl,by
  simp[YQ,vO (xL (hk k hm))]⟩
 have hs:((ks.map fun(k:Nat)=>Dt.int (k:Int))).length<sizeLine:=by rw[length_map];exact Nat.lt_of_le_of_lt hl (by decide)
 have es:=wg (h:=h) (ks.map fun k=>(2:Int)^k);rw[map_map]at es;have:(Dt.int ∘ fun k=>(2:Int)^k)=fun(k:Nat)=>Dt.int ((2:Int)^k):=rfl
 rw[this]at es;simp[BK,yR,fF _ _ _ hs,ec,es]
theorem t9(m:Nat)(h:HI):pN [.int m] h=some (.int (Cd m),h):=by
 have ec:=ZF (te:=QQ) (tc:=DB) (i:=0) (fun(k:Nat)=>Dt.int (k:Int)) (fun(k:Nat)=>Dt.int (((12-k:Nat):Nat):Int)) h (BA m) [none] fun k hm=>⟨rfl,by
  have:=(Kf.mp hm).1;simp[QQ];omega⟩
 have hs:((BA m).map fun(k:Nat)=>Dt.int (k:Int)).length<sizeLine:=by rw[length_map];exact Nat.lt_of_le_of_lt (fJ m) (by decide)
 have es:=FW ((BA m).map fun k=>12-k) (by intro k hk;obtain⟨j,_,rfl⟩:=mem_map.mp hk;omega) (by rw[length_map];exact fJ m) h;rw[map_map,map_map]at es;have e1:((fun(k:Nat)=>Dt.int (k:Int)) ∘ fun k=>12-k)=fun(k:Nat)=>Dt.int (((12-k:Nat):Nat):Int):=rfl
 have e2:((fun(k:Nat)=>(2:Int)^k) ∘ fun k=>12-k)=fun(k:Nat)=>(2:Int)^(12-k):=rfl
 have e3:((BA m).map fun k=>(2:Int)^(12-k)).sum=(Cd m:Int):=wj _;rw[e1,e2,e3]at es;simp[pN,zR,bJ,fF _ _ _ hs,ec,es]
theorem jH(t a b:Int)(hab:a<b):(t<a/\vB t a b=0)\/(t=a/\vB t a b=1)\/(a<t/\t<b/\vB t a b=2)\/(t=b/\vB t a b=3)\/(b<t/\vB t a b=4):=by
 unfold vB
 repeat' split
 all_goals omega
theorem Bj{w:Nat}(hw:w<13):Cd (2^w)=2^(12-w):=by
 have h1:2^(12-w)<8192:=Nat.lt_of_le_of_lt (Nat.pow_le_pow_right (by decide) (show 12-w<=12 by omega)) (by decide);refine aI (rJ _) h1 fun k hk=>?_
 rw[fE _ hk,Nat.testBit_two_pow,Nat.testBit_two_pow]
 congr 1
 apply propext;omega
noncomputable def pZ(ns:List Int):List Nat:=0::8191::ns.map fun c=>(c%8192).toNat
theorem jr{ns:List Int}{m:Nat}(h:m∈pZ ns):m<8192:=by
 simp only[pZ,mem_cons,mem_map]at h;rcases h with rfl | rfl | ⟨c,_,rfl⟩
 · decide
 · decide
 · have:=Int.emod_lt_of_pos c (show(0:Int)<8192 by decide);have:=Int.emod_nonneg c (show(8192:Int)≠0 by decide);omega
def CH(i j:Nat):Nat:=match Vf[i]? with
 | some (.tup r)=>(match r[j]? with
  | some (.int n)=>n.toNat
  | _=>0)
 | _=>0
noncomputable def u0:Dt->Nat
 | .int n=>n.toNat
 | _=>0
def OL:Dt->List Nat
 | .tup r=>r.map u0
 | _=>[]
theorem Cv:Vf=(Vf.map OL).map fun r=>.tup (r.map fun n:Nat=>.int (n:Int)):=by rfl
theorem Xy:(Vf.map OL).length=13/\∀r∈Vf.map OL,r.length=13:=by decide +kernel
theorem Yy{i j:Nat}(hi:i<13)(hj:j<13):∃r,Vf[i]?=some (.tup r)/\r[j]?=some (.int (CH i j)):=by
 obtain⟨N,hN⟩:∃N,Vf.map OL=N:=⟨_,rfl⟩
 have T:=Cv;have T2:=Xy;rw[hN]at T T2;have hi':i<N.length:=by rw[T2.1];exact hi
 have e1:Vf[i]?=some (.tup (N[i].map fun n:Nat=>.int (n:Int))):=by rw[T,getElem?_map,getElem?_eq_getElem hi'];rfl
 have hj':j<N[i].length:=by rw[T2.2 _ (getElem_mem hi')];exact hj
 have e2:(N[i].map fun n:Nat=>Dt.int (n:Int))[j]?=some (.int (N[i][j]:Int)):=by rw[getElem?_map,getElem?_eq_getElem hj'];rfl
 refine⟨_,e1,?_⟩;rw[e2];unfold CH;rw[e1];dsimp only;rw[e2];rfl
theorem Av:∀i<13,∀j<13,1<=CH i j/\CH i j<8192:=by decide +kernel
theorem cY:∀i<13,∀j<13,∀k<13,(CH (12-j) (12-i)).testBit (12-k)=(CH i j).testBit k:=by decide +kernel
noncomputable def rk(l:List Int)(x:Int):Nat:=match l with
 | []=>0
 | z::l=>(if z<x then 1 else 0)+rk l x
theorem bZ{x y:Int}(h:x<=y):∀l,rk l x<=rk l y
 | []=>zdS _
 | z::l=>by have:=bZ h l;unfold rk;split<;>split<;>omega
theorem tH{x y:Int}(h:x<y):∀l,x∈l->rk l x<rk l y
 | z::l,m=>by
  unfold rk;rcases mem_cons.mp m with rfl | m
  · have:=bZ (Int.le_of_lt h) l;rw[if_neg (Int.lt_irrefl _),if_pos h];omega
  · have:=tH h l m;split<;>split<;>omega
theorem lO{x:Int}:∀l,x∈l->rk l x<l.length
 | z::l,m=>by
  have q:∀l,rk l x<=l.length:=by
   intro l;induction l with
   | nil=>exact zdS _
   | cons z l ih=>unfold rk;rw[zdF];split<;>omega
  unfold rk;rw[zdF];rcases mem_cons.mp m with rfl | m
  · have:=q l;rw[if_neg (Int.lt_irrefl _)];omega
  · have:=lO l m;split<;>omega
theorem MV{l:List Int}{x y:Int}(hx:x∈l)(hy:y∈l):(x<y)=((rk l x:Int)<(rk l y:Int)):=by
 apply propext;constructor
 · intro h;have:=tH h l hx;omega
 · intro h;rcases Int.lt_trichotomy x y with g | g | g
   · exact g
   · subst g;omega
   · have:=tH g l hy;omega
theorem LV{l:List Int}{x y:Int}(hx:x∈l)(hy:y∈l):(x=y)=((rk l x:Int)=(rk l y:Int)):=by
 apply propext;constructor
 · intro h;rw[h]
 · intro h;rcases Int.lt_trichotomy x y with g | g | g
   · have:=tH g l hx;omega
   · exact g
   · have:=tH g l hy;omega
theorem sJ{l:List Int}{t a b:Int}(ht:t∈l)(ha:a∈l)(hb:b∈l):vB t a b=vB (rk l t) (rk l a) (rk l b):=by unfold vB;simp only[MV ht ha,LV ht ha,MV ht hb,LV ht hb]
noncomputable def pH(t a b:Nat):Nat:=if t<a then 0 else if t=a then 1 else if t<b then 2 else if t=b then 3 else 4
theorem Uy(t a b:Nat):vB t a b=pH t a b:=by unfold vB pH;simp only[Int.ofNat_lt,Int.ofNat_inj]
noncomputable def SI(z y:Nat):Nat:=[0,3,6,7,8].getD z 0+y
theorem vZ:∀z<5,∀y<5,(z,y)∈Ad->Ad.idxOf (z,y)=SI z y:=by decide +kernel
theorem W9:∀b<6,∀a<b,∀d<6,∀c<d,∀q<6,∀p<q,
 (CH (SI (pH a c d) (pH b c d)) (SI (pH c p q) (pH d p q))).testBit (SI (pH a p q) (pH b p q))=true:=by decide +kernel
theorem DO(t a b:Int):vB t a b<5:=by
 unfold vB
 repeat' split
 all_goals decide
theorem IW{s o t:Int×Int}(h1:UC s)(h2:UC o)(h3:UC t):(CH (Gf s o) (Gf o t)).testBit (Gf s t)=true:=by
 obtain⟨a,b⟩:=s;obtain⟨c,d⟩:=o;obtain⟨p,q⟩:=t;unfold UC at h1 h2 h3;simp only at h1 h2 h3;have W:∀{a b c d:Int},a<b->c<d->Gf (a,b) (c,d)=SI (vB a c d) (vB b c d):=fun g1 g2=>vZ _ (DO _ _ _) _ (DO _ _ _) (gN g1 g2)
 rw[W h1 h2,W h2 h3,W h1 h3];have ma:a ∈ [a,b,c,d,p,q]:=by simp
 have mb:b ∈ [a,b,c,d,p,q]:=by simp
 have mc:c ∈ [a,b,c,d,p,q]:=by simp
 have md:d ∈ [a,b,c,d,p,q]:=by simp
 have mp:p ∈ [a,b,c,d,p,q]:=by simp
 have mq:q ∈ [a,b,c,d,p,q]:=by simp
 have k1:=tH h1 _ ma;have k2:=tH h2 _ mc;have k3:=tH h3 _ mp;have t1:=lO _ mb;have t2:=lO _ md;have t3:=lO _ mq;rw[sJ ma mc md,sJ mb mc md,sJ mc mp mq,sJ md mp mq,sJ ma mp mq,sJ mb mp mq];generalize rk [a,b,c,d,p,q] a=a' at *;generalize rk [a,b,c,d,p,q] b=b' at *;generalize rk [a,b,c,d,p,q] c=c' at *;generalize rk [a,b,c,d,p,q] d=d' at *;generalize rk [a,b,c,d,p,q] p=p' at *;generalize rk [a,b,c,d,p,q] q=q' at *;simp only[Uy];exact W9 _ t1 _ k1 _ t2 _ k2 _ t3 _ k3
theorem Gx:∀i<13,∀j<13,(CH i j).testBit 6=true->j=12-i:=by decide +kernel
theorem QW{s:Int×Int}(h:UC s):Gf s s=6:=by obtain⟨a,b⟩:=s;have h:a<b:=h;unfold Gf vB;simp[h,Int.ne_of_gt h,show ¬b<a by omega];rfl
theorem vK{s o:Int×Int}(h1:UC s)(h2:UC o):Gf o s=12-Gf s o:=by have:=IW h1 h2 h1;rw[QW h1]at this;exact Gx _ (HE h1 h2) _ (HE h2 h1) this
noncomputable def sL(f:Nat->Nat)(xs:List Nat)(a:Nat):Nat:=xs.foldl (fun acc x=>acc|||f x) a
theorem YX(f:Nat->Nat)(k:Nat):∀(xs:List Nat)(a:Nat),(sL f xs a).testBit k=(a.testBit k || xs.any fun x=>(f x).testBit k)
 | [],a=>by simp[sL]
 | x::xs,a=>by have:=YX f k xs (a|||f x);unfold sL at this ⊢;rw[foldl_cons,this];simp[Nat.testBit_or,Bool.or_assoc]
theorem KY(f:Nat->Nat):∀(xs:List Nat)(a:Nat),a<8192->(∀x∈xs,f x<8192)->sL f xs a<8192
 | [],a,ha,_=>ha
 | x::xs,a,ha,h=>by unfold sL;rw[foldl_cons];exact KY f xs (a|||f x) (Nat.or_lt_two_pow (n:=13) ha (h x (by simp))) fun y hy=>h y (by simp[hy])
def CI(a b:Nat):Nat:=(BA a).foldl (fun acc i=>sL (CH i) (BA b) acc) 0
theorem pV(b k:Nat):∀(xs:List Nat)(a:Nat),(xs.foldl (fun acc i=>sL (CH i) (BA b) acc) a).testBit k=(a.testBit k || xs.any fun i=>(BA b).any fun j=>(CH i j).testBit k)
 | [],a=>by simp
 | x::xs,a=>by rw[foldl_cons,pV b k xs,YX];simp[Bool.or_assoc]
theorem oJ(a b k:Nat):(CI a b).testBit k=true↔∃i j,i<13/\a.testBit i=true/\j<13/\b.testBit j=true/\(CH i j).testBit k=true:=by
 unfold CI;rw[pV];simp only[Nat.zero_testBit,Bool.false_or,any_eq_true,Kf];constructor
 · rintro⟨i,⟨h1,h2⟩,j,⟨h3,h4⟩,h5⟩;exact⟨i,j,h1,h2,h3,h4,h5⟩
 · rintro⟨i,j,h1,h2,h3,h4,h5⟩;exact⟨i,⟨h1,h2⟩,j,⟨h3,h4⟩,h5⟩
theorem eW(b:Nat):∀(xs:List Nat)(a:Nat),a<8192->(∀i∈xs,i<13)->xs.foldl (fun acc i=>sL (CH i) (BA b) acc) a<8192
 | [],a,ha,_=>ha
 | x::xs,a,ha,h=>by rw[foldl_cons];exact eW b xs _ (KY _ _ _ ha fun j hj=>(Av x (h x (by simp)) j (Kf.mp hj).1).2) fun y hy=>h y (by simp[hy])
theorem mz(a b:Nat):CI a b<8192:=eW b _ 0 (by decide) fun i hi=>(Kf.mp hi).1
theorem Z9{a b:Bool}(h:a=true↔b=true):a=b:=by cases a<;>cases b<;>simp_all
theorem Oz{a b:Nat}(ha:a<8192)(hb:b<8192)(h:∀k<13,a.testBit k=true↔b.testBit k=true):a=b:=aI ha hb fun k hk=>Z9 (h k hk)
theorem j9(a b:Nat):CI (Cd b) (Cd a)=Cd (CI a b):=by
 refine Oz (mz _ _) (rJ _) fun k hk=>?_
 rw[fE _ hk,oJ,oJ];constructor
 · rintro⟨i,j,h1,h2,h3,h4,h5⟩;rw[fE _ h1]at h2;rw[fE _ h3]at h4;refine⟨12-j,12-i,by omega,h4,by omega,h2,?_⟩;have:=cY i h1 j h3 k hk;rw[this];exact h5
 · rintro⟨i,j,h1,h2,h3,h4,h5⟩;refine⟨12-j,12-i,by omega,?_,by omega,?_,?_⟩
   · rw[fE _ (by omega),show 12-(12-j)=j by omega];exact h4
   · rw[fE _ (by omega),show 12-(12-i)=i by omega];exact h2
   · have:=cY i h1 j h3 (12-k) (by omega);rw[show 12-(12-k)=k by omega]at this;rw[this];exact h5
theorem Zx{i:Nat}(hi:i<13)(b acc:Nat)(x y z:Option Dt)(h:HI):∃z',ZL [x,y,some (.lst ((BA b).map fun(k:Nat)=>Dt.int (k:Int))),some (.int acc),some (.int i),z] h=some (.nx [x,y,some (.lst ((BA b).map fun(k:Nat)=>Dt.int (k:Int))),some (.int (sL (CH i) (BA b) acc)),some (.int i),z'] h):=by
 obtain⟨l',h',e,⟨z',rfl⟩,rfl⟩:=VM (i:=5) (body:=tP) (fun(k:Nat)=>Dt.int (k:Int)) (fun(a:Nat) l h'=>(∃z',l=[x,y,some (.lst ((BA b).map fun(k:Nat)=>Dt.int (k:Int))),some (.int a),some (.int i),z'])/\h'=h) (fun a j=>a|||CH i j) (BA b) (by
  rintro j hj a l h ⟨⟨z',rfl⟩,rfl⟩;obtain⟨r,e1,e2⟩:=Yy hi (Kf.mp hj).1;refine⟨.nx [x,y,some (.lst ((BA b).map fun(k:Nat)=>Dt.int (k:Int))),some (.int ((a|||CH i j:Nat):Int)),some (.int i),some (.int j)] h,?_,⟨_,rfl⟩,rfl⟩;simp[tP,e1,e2,fY]) acc [x,y,some (.lst ((BA b).map fun(k:Nat)=>Dt.int (k:Int))),some (.int acc),some (.int i),z] h ⟨⟨z,rfl⟩,rfl⟩
 refine⟨z',?_⟩;simp[ZL,e];rfl
theorem W3(a b:Nat)(h:HI):oM [.int a,.int b] h=some (.int (CI a b),h):=by
 obtain⟨l',h',e,⟨z,w,rfl⟩,rfl⟩:=VM (i:=4) (body:=ZL) (fun(k:Nat)=>Dt.int (k:Int)) (fun(c:Nat) l h'=>(∃z w,l=[some (.int a),some (.int b),some (.lst ((BA b).map fun(k:Nat)=>Dt.int (k:Int))),some (.int c),z,w])/\h'=h) (fun acc i=>sL (CH i) (BA b) acc) (BA a) (by
  rintro i hi c l h ⟨⟨z,w,rfl⟩,rfl⟩;obtain⟨z',e⟩:=Zx (Kf.mp hi).1 b c (some (.int a)) (some (.int b)) w h;exact⟨_,e,⟨_,_,rfl⟩,rfl⟩) 0 [some (.int a),some (.int b),some (.lst ((BA b).map fun(k:Nat)=>Dt.int (k:Int))),some (.int 0),none,none] h ⟨⟨none,none,rfl⟩,rfl⟩
 simp[oM,CP,bJ,e];rfl
noncomputable def JC(c:Nat)(g:Nat->Nat):List Dt:=(List.range c).map fun(j:Nat)=>Dt.int (g j:Nat)
noncomputable def mF(b c:Nat):List Dt:=(List.range c).map fun(k:Nat)=>Dt.ref (b+k)
structure bf(h:HI)(b c:Nat)(f:Nat->Nat->Nat):Prop where
 row:∀i<c,h[b+i]?=some (.lst (JC c (f i)))
 top:h[b+c]?=some (.lst (mF b c))
def MC(b c:Nat)(f:Nat->Nat->Nat):HI:=((List.range c).map fun i=>Ob.lst (JC c (f i)))++[.lst (mF b c)]
theorem bf.lt{h:HI}{b c:Nat}{f:Nat->Nat->Nat}(N:bf h b c f):b+c<h.length:=(zdP N.top).1
theorem bf.grow{h:HI}{b c:Nat}{f:Nat->Nat->Nat}(N:bf h b c f)(e:HI):bf (h++e) b c f:=by have:=N.lt;exact⟨fun i hi=>by rw[zdQ (by omega)];exact N.row i hi,by rw[zdQ (by omega)];exact N.top⟩
theorem CF(h:HI)(c:Nat)(f:Nat->Nat->Nat):bf (h++MC h.length c f) h.length c f:=by
 constructor
 · intro i hi;rw[zdT (by omega)];unfold MC;rw[zdQ (by simp;omega)];simp[hi]
 · rw[zdT (by omega)];unfold MC;rw[zdT (by simp)];simp
theorem zN(c:Nat)(g:Nat->Nat):(JC c g).length=c:=by simp[JC]
theorem FN(b c:Nat):(mF b c).length=c:=by simp[mF]
theorem MK{c j:Nat}(hj:j<c)(g:Nat->Nat):(JC c g)[j]?=some (.int (g j:Nat)):=by simp[JC,hj]
theorem DN{b c j:Nat}(hj:j<c):(mF b c)[j]?=some (.ref (b+j)):=by simp[mF,hj]
theorem D7{c:Nat}{g g':Nat->Nat}(e:∀j<c,g j=g' j):JC c g=JC c g':=map_congr_left fun j hj=>by rw[e j (mem_range.mp hj)]
theorem Vj{c j:Nat}(g:Nat->Nat)(v:Nat):(JC c g).set j (.int (v:Nat))=JC c (fun x=>if x=j then v else g x):=by
 apply ext_getElem?;intro k;rw[getElem?_set];simp only[JC,length_map,length_range,getElem?_map];by_cases hk:k<c
 · rw[getElem?_range hk];by_cases hj:j=k
   · subst hj;simp[hk]
   · have:¬k=j:=fun z=>hj z.symm
     simp[hj,this]
 · rw[getElem?_eq_none (by simpa using hk)];split
   · have:¬j<c:=by omega
     simp[this]
   · rfl
theorem bf.congr{h:HI}{b c:Nat}{f g:Nat->Nat->Nat}(N:bf h b c f)(e:∀i<c,∀j<c,f i j=g i j):bf h b c g:=
 ⟨fun i hi=>by rw[<- D7 (e i hi)];exact N.row i hi,N.top⟩
noncomputable def wB(f:Nat->Nat->Nat)(i j v:Nat):Nat->Nat->Nat:=fun a b=>if a=i then(if b=j then v else f a b)else f a b
theorem bf.other{h:HI}{b c:Nat}{f:Nat->Nat->Nat}(N:bf h b c f){n:Nat}(hn:n<b\/b+c<n)(o:Ob):bf (h.set n o) b c f:=
 ⟨fun i hi=>by rw[getElem?_set_ne (by omega)];exact N.row i hi,by rw[getElem?_set_ne (by omega)];exact N.top⟩
theorem bf.ix{h:HI}{b c:Nat}{f:Nat->Nat->Nat}(N:bf h b c f){i:Nat}(hi:i<c):pA (.ref (b+c)) (.int (i:Nat)) h=some (.ref (b+i),h):=by rw[kF N.top,SM.OC,DN hi];rfl
theorem bf.Ml{h:HI}{b c:Nat}{f:Nat->Nat->Nat}(N:bf h b c f){i j:Nat}(hi:i<c)(hj:j<c):pA (.ref (b+i)) (.int (j:Nat)) h=some (.int (f i j:Nat),h):=by rw[kF (N.row i hi),SM.OC,MK hj];rfl
theorem bf.len{h:HI}{b c:Nat}{f:Nat->Nat->Nat}(N:bf h b c f):BC (.ref (b+c)) h=some (.int (c:Nat),h):=by rw[xJ N.top,FN]
theorem bf.seq{h:HI}{b c:Nat}{f:Nat->Nat->Nat}(N:bf h b c f):OI (.ref (b+c),h)=some (.rf (b+c),h):=KF N.top
theorem bf.len1{h:HI}{b c:Nat}{f:Nat->Nat->Nat}(N:bf h b c f){i:Nat}(hi:i<c):BC (.ref (b+i)) h=some (.int (c:Nat),h):=by rw[xJ (N.row i hi),zN]
theorem z7{i n:Nat}{xs:List Dt}:∀(l:LI)(h:HI)(b:Dt)(h':HI),GC XE (eV i) l h=some (b,h')->h[n]?=some (.lst xs)->h'[n]?=some (.lst xs):=by
 intro l h b h' e q;have hn:=(zdP q).1;rw[yC,rA]at e;cases z:l[i]? with
 | none=>rw[z]at e;simp[HH]at e
 | some o=>
  rw[z]at e;cases o with
  | none=>simp[HH]at e
  | some d=>
   simp only[sA,nA,XE]at e;cases y:JD h d with
   | none=>rw[y]at e;cases e
   | some ys=>rw[y]at e;simp only[zdL,Option.some.injEq,Prod.mk.injEq]at e;obtain⟨_,rfl⟩:=e;rw[zdQ hn];exact q
theorem VV{n:Nat}{xs:List Dt}:∀(l:LI)(h:HI)(b:Bool)(h':HI),DB l h=some (b,h')->h[n]?=some (.lst xs)->h'[n]?=some (.lst xs):=by intro l h b h' e q;simp only[SN,Option.some.injEq,Prod.mk.injEq]at e;rw[<- e.2];exact q
theorem gW{te:RE}(ht:te=GC XE (eV 0)){h:HI}{b c:Nat}{f:Nat->Nat->Nat}(N:bf h b c f)(hc:c<=1000)(l:LI)(hl:0<l.length):sE (CA 0) DB te l (.rf (b+c),h)=some (mF h.length c,h++(List.range c).map fun i=>Ob.lst (JC c (f i))):=by
 subst ht;rw[vR N.top (by rw[FN];simp;omega) VV z7];have:=fR (te:=GC XE (eV 0)) (i:=0) (fun(k:Nat)=>Dt.ref (b+k)) (fun i=>Ob.lst (JC c (f i))) h (List.range c) l [] (by
  intro k hk e;have hk:=mem_range.mp hk;have q:=(N.grow e).row k hk;rw[yC,rA,getElem?_set_self hl,sA,nA];simp only[XE,JD,JB,q,zdL])
 rw[zdU,length_range]at this;exact this
theorem yW{α:Type}{F:Dt->Option Dt}(D E:α->Dt):∀(xs:List α),(∀x∈xs,F (D x)=some (E x))->vD F (xs.map D)=some (xs.map E)
 | [],_=>rfl
 | x::xs,H=>by simp only[zdH,vD,H x (by simp),zdM,yW D E xs fun y hy=>H y (by simp[hy]),zdL]
noncomputable def PB(i j:Nat):Nat:=if i=j then 64 else 8191
theorem mV(b c:Nat)(f:Nat->Nat->Nat):(MC b c f).length=c+1:=by simp[MC]
theorem nV(h:HI){c i:Nat}(hi:i<c)(f:Nat->Nat->Nat)(j v:Nat):(h++MC h.length c f).set (h.length+i) (.lst ((JC c (f i)).set j (.int (v:Nat))))=h++MC h.length c (wB f i j v):=by
 rw[set_append_right _ _ (by omega),Nat.add_sub_cancel_left]
 congr 1
 unfold MC;rw[set_append_left _ _ (by simpa using hi)]
 congr 1
 apply ext_getElem?;intro k;rw[getElem?_set];simp only[length_map,length_range,getElem?_map];by_cases hk:k<c
 · rw[getElem?_range hk];by_cases e:i=k
   · subst e;have:(fun x=>if x=j then v else f i x)=wB f i j v i:=by funext x;simp[wB]
     simp[hi,Vj,this]
   · have:¬k=i:=by omega
     have q:wB f i j v k=f k:=by funext x;simp[wB,this]
     simp[e,q]
 · rw[getElem?_eq_none (by simpa using hk)];have:¬i=k:=by omega
   simp[this]
theorem qw(f:Nat->Nat->Nat)(i j v:Nat):wB f i j v i j=v:=by simp[wB]
def fB(f:Nat->Nat->Nat)(i m j:Nat):Nat->Nat->Nat:=wB (wB f i j (f i j&&&m)) j i (Cd (f i j&&&m))
theorem xK{h:HI}{b c:Nat}{f:Nat->Nat->Nat}(N:bf h b c f)(hc:c<=1000){i j:Nat}(hi:i<c)(hj:j<c)(m:Nat) :
 fH [.ref (b+c),.int (i:Nat),.int (m:Nat),.int (j:Nat)] h=some (.ref (h.length+c),h++MC h.length c (fB f i m j)):=by
 have e1:=gW (te:=bV) rfl N hc [none] (by simp);have N1:=N.grow (MC h.length c f);have M1:=CF h c f;have M2:=CF h c (wB f i j (f i j&&&m));have p1:=nV h hi f j (f i j&&&m);have p2:=nV h hj (wB f i j (f i j&&&m)) i (Cd (f i j&&&m));have t1:=t9 (f i j&&&m) (h++MC h.length c (wB f i j (f i j&&&m)));have r1:=fun(l:LI)=>nN (l:=l) (v:=.int ((f i j&&&m:Nat):Nat)) (M1.row i hi) (show j<(JC c (f i)).length by rw[zN];exact hj)
 have r2:=fun(l:LI)=>nN (l:=l) (v:=.int ((Cd (f i j&&&m):Nat):Nat)) (M2.row j hj) (show i<(JC c (wB f i j (f i j&&&m) j)).length by rw[zN];exact hi)
 have x2:=M2.Ml hi hj;rw[qw]at x2;have en:(h++(List.range c).map fun i=>Ob.lst (JC c (f i)))++[Ob.lst (mF h.length c)]=h++MC h.length c f:=by rw[append_assoc];rfl
 have el:(h++(List.range c).map fun i=>Ob.lst (JC c (f i))).length=h.length+c:=by simp
 simp only[fH,VQ,xB,XA,mB,UR,LD,rA,zdH,zdI,zdO,zdN,zdF,zdG,zdD,zdE,sA,nA,N.seq,nF,rF,e1,en,el,YA,if_true,Nat.reduceSub,Nat.reduceAdd,List.replicate,zdK,zdJ,xX,FA,N1.ix hi,N1.Ml hi hj,M1.ix hi,WN,rN,r1,p1,eB,WA,MA,M2.ix hi,x2,zdU,t1,M2.ix hj,r2,p2,EB,KB];rfl
theorem qy(c:Nat)(g:Nat->Nat)(z:Nat){h:HI}{n:Nat}(e:h[n]?=some (.lst (JC c g))):II false (.int (z:Nat)) (.ref n) h=some (.bl ((List.range c).any fun j=>g j==z),h):=by
 have f1:∀xs:List Nat,ZE (xs.map fun(j:Nat)=>Dt.int (g j:Nat))=some (xs.map fun(j:Nat)=>V.int (g j:Nat)):=by
  intro xs
  induction xs with
  | nil=>rfl
  | cons x xs ih=>simp[ZE,QD,ih]
 have f2:JO (V.int (z:Nat)) ((List.range c).map fun(j:Nat)=>V.int (g j:Nat))=(List.range c).any fun j=>g j==z:=by
  unfold JO;rw[any_map]
  congr 1
  funext j
  simp only[Function.comp];unfold yL;by_cases q:g j=z
  · simp[q]
  · have:(g j:Int)≠(z:Int):=by omega
    show((g j:Int)==(z:Int))=(g j==z);rw[beq_eq_false_iff_ne.mpr this,beq_eq_false_iff_ne.mpr q]
 simp only[II,QD,JD,JB,e,zdM,JC,f1,f2];simp
noncomputable def VB(c:Nat)(f:Nat->Nat->Nat):Bool:=(List.range c).any fun i=>(List.range c).any fun j=>f i j==0
theorem Wq{n:Nat}{xs:List Dt}(a:Dt)(i:Nat):∀(l:LI)(h:HI)(b:Dt)(h':HI),e2 (II false) (eC a) (eV i) l h=some (b,h')->h[n]?=some (.lst xs)->h'[n]?=some (.lst xs):=by
 intro l h b h' e q;rw[FA,JA,nA,rA]at e;cases z:l[i]? with
 | none=>rw[z]at e;simp[HH]at e
 | some o=>
  rw[z]at e;cases o with
  | none=>simp[HH]at e
  | some d=>
   simp only[sA,nA,II]at e;cases z1:QD a with
   | none=>rw[z1]at e;cases e
   | some a1=>
    rw[z1]at e;cases z2:JD h d with
    | none=>rw[z2]at e;cases e
    | some a2=>
     rw[z2]at e;cases z3:ZE a2 with
     | none=>simp[z3]at e
     | some a3=>simp only[zdM,z3,Option.some.injEq,Prod.mk.injEq]at e;rw[<- e.2];exact q
theorem l9{te:RE}(ht:te=e2 (II false) (eC (.int 0)) (eV 0)){h:HI}{b c:Nat}{f:Nat->Nat->Nat}(N:bf h b c f)(hc:c<=1000):sE (CA 0) DB te [none] (.rf (b+c),h)=some (((List.range c).map fun i=>(List.range c).any fun j=>f i j==0).map Dt.bl,h):=by
 subst ht;rw[vR N.top (by rw[FN];simp;omega) VV (Wq _ _)];have:=ZF (te:=e2 (II false) (eC (.int 0)) (eV 0)) (tc:=DB) (i:=0) (fun(k:Nat)=>Dt.ref (b+k)) (fun i=>Dt.bl ((List.range c).any fun j=>f i j==0)) h (List.range c) [none] (by
  intro k hk;have:=qy c (f k) 0 (N.row k (mem_range.mp hk));simp only[Int.ofNat_eq_natCast,Int.cast_ofNat_Int]at this;exact⟨rfl,by simp[this]⟩)
 rw[mF,this];simp[map_map]
theorem V6{h:HI}{b c:Nat}{f:Nat->Nat->Nat}(N:bf h b c f)(hc:c<=1000):NM [.ref (b+c)] h=some (.bl (VB c f),h):=by have e:=l9 (te:=aV) rfl N hc;have a:=ug (h:=h) ((List.range c).map fun i=>(List.range c).any fun j=>f i j==0);simp only[NM,UQ,xB,EB,yC,GG,LD,rA,zdH,zdI,zdO,zdN,zdF,zdG,zdD,sA,nA,N.seq,nF,rF,e,a,if_true,KB,Nat.reduceAdd];simp[VB,any_map]
noncomputable def qA(p:Nat×Nat):Dt:=.tup [.int (p.1:Nat),.int (p.2:Nat)]
noncomputable def QC(c:Nat)(n:Nat):List (Nat×Nat):=(List.range n).flatMap fun i=>(List.range (c-i-1)).map fun k=>(i,i+1+k)
def AA(c:Nat):List (Nat×Nat):=QC c c
theorem Jf{c:Nat}{p:Nat×Nat}:p∈AA c↔p.1<p.2/\p.2<c:=by
 obtain⟨i,j⟩:=p;unfold AA QC;simp only[mem_flatMap,mem_range,mem_map,Prod.mk.injEq];constructor
 · rintro⟨a,ha,k,hk,rfl,rfl⟩;omega
 · rintro⟨h1,h2⟩;exact⟨i,by omega,j-i-1,by omega,rfl,by omega⟩
theorem eJ(c n:Nat):(QC c n).length<=n*c:=by
 induction n with
 | zero=>simp[QC]
 | succ n ih=>
  have:QC c (n+1)=QC c n++(List.range (c-n-1)).map fun k=>(n,n+1+k):=by unfold QC;rw[range_succ,flatMap_append];simp
  rw[this,length_append,length_map,length_range,Nat.succ_mul];omega
theorem RM{c:Nat}(hc:c<=1000)(h:HI):gH [.int (c:Nat)] h=some (.ref h.length,h++[.lst ((AA c).map qA)]):=by
 have er:=FF (h:=h++[.lst []]) (show(-(2^62):Int)<=(c:Int) by omega) (show(c:Int)<2^62 by omega);simp only[Int.toNat_natCast]at er;have hcc:c*c<=1000*1000:=Nat.mul_le_mul hc hc;obtain⟨l',h',e,⟨y,z,rfl⟩,rfl⟩:=uK (i:=2) (body:=eQ) (fun(k:Nat)=>Dt.int (k:Int)) (fun(n:Nat) l h'=>(∃y z,l=[some (.int (c:Nat)),some (.ref h.length),y,z])/\h'=h++[.lst ((QC c n).map qA)]) c (by
  rintro n hn l h1 ⟨⟨y,z,rfl⟩,rfl⟩;have hl:=eJ c n;have hnc:n*c<=c*c:=Nat.mul_le_mul_right _ (by omega);obtain⟨l',h',e,⟨y,rfl⟩,rfl⟩:=uK (i:=3) (body:=dQ) (fun(k:Nat)=>Dt.int ((n:Int)+1+(k:Int))) (fun(m:Nat) l h'=>(∃y,l=[some (.int (c:Nat)),some (.ref h.length),some (.int (n:Nat)),y])/\h'=h++[.lst ((QC c n++(List.range m).map fun k=>(n,n+1+k)).map qA)]) (c-n-1) (by
   rintro m hm l h1 ⟨⟨y,rfl⟩,rfl⟩;refine⟨.nx [some (.int (c:Nat)),some (.ref h.length),some (.int (n:Nat)),some (.int ((n:Int)+1+(m:Int)))] (h++[.lst ((QC c n++(List.range (m+1)).map fun k=>(n,n+1+k)).map qA)]),?_,⟨_,rfl⟩,rfl⟩;have ea:=fun(l:LI) (g:RE) (d:Dt) (eg:g l (h++[.lst ((QC c n++(List.range m).map fun k=>(n,n+1+k)).map qA)])=some (d,h++[.lst ((QC c n++(List.range m).map fun k=>(n,n+1+k)).map qA)]))=>FG (h:=h++[.lst ((QC c n++(List.range m).map fun k=>(n,n+1+k)).map qA)]) (l:=l) (n:=h.length) (ys:=(QC c n++(List.range m).map fun k=>(n,n+1+k)).map qA) (xs:=(QC c n++(List.range m).map fun k=>(n,n+1+k)).map qA) (by simp) eg (by simp) (by simp;omega)
   simp only[dQ,JE,JF,rA,zdJ,zdK,zdD,zdE,sA,nA];rw[ea _ _ (qA (n,n+1+m))]
   · simp only[nA];rw[show ∀(o o':Ob),(h++[o]).set h.length o'=h++[o'] by simp];simp[range_succ]
   · simp[qA]) [some (.int (c:Nat)),some (.ref h.length),some (.int (n:Nat)),z] (h++[.lst ((QC c n).map qA)]) ⟨⟨z,rfl⟩,by simp⟩
  have er:=Jz (h:=h++[.lst ((QC c n).map qA)]) (i:=(n:Int)+1) (j:=(c:Int)) (by omega) (by omega) (by omega) (by omega);rw[show((c:Int)-((n:Int)+1)).toNat=c-n-1 by omega]at er;have ep:QC c (n+1)=QC c n++(List.range (c-n-1)).map fun k=>(n,n+1+k):=by unfold QC;rw[range_succ,flatMap_append];simp
  refine⟨.nx [some (.int (c:Nat)),some (.ref h.length),some (.int (n:Nat)),y] (h++[.lst ((QC c (n+1)).map qA)]),?_,⟨_,_,rfl⟩,rfl⟩
  · simp only[eQ,YD,F1,FA,rA,JA,zdJ,zdK,zdD,zdE,sA,nA,tE,er,EF];rw[e,ep]) [some (.int (c:Nat)),some (.ref h.length),none,none] (h++[.lst []]) ⟨⟨none,none,rfl⟩,by simp[QC]⟩
 simp only[gH,WQ,xB,XA,mB,LG,MA,zdH,zdI,zdO,zdN,zdF,zdG,if_true,nA,YA,Nat.reduceAdd,Nat.reduceSub,List.replicate,zdJ,zdK,YD,pL,rA,zdD,zdE,sA,er,EF,kH,Nat.zero_le,e,EB,KB];rfl
theorem Y9(m k:Nat):decide (Builtin.bitAnd ((m:Int)/2^k) 1=0)=!m.testBit k:=by
 have h1:=uY m k;have e:((m:Int)/2^k)=((m/2^k:Nat):Int):=by simp
 have h2:=rN (m/2^k) 1;rw[e]at h1 ⊢;simp only[Int.cast_ofNat_Int]at h2;rw[h2]at h1 ⊢;have:=Nat.and_one_is_mod (m/2^k);rw[<- h1];by_cases q:(m/2^k&&&1)=0
 · simp[q]
 · have q1:(m/2^k&&&1)=1:=by omega
   rw[q1];decide
structure VA(c:Nat)(f:Nat->Nat->Nat):Prop where
 lt:∀i<c,∀j<c,f i j<8192
 tn:∀i<c,∀j<c,f j i=Cd (f i j)
theorem JS(c:Nat):VA c PB:=by
 constructor
 · intro i _ j _;unfold PB;split<;>decide
 · intro i _ j _;unfold PB;by_cases h:i=j
   · subst h;rw[if_pos rfl];decide +kernel
   · have:¬j=i:=fun z=>h z.symm
     rw[if_neg h,if_neg this];decide +kernel
theorem KG{c:Nat}{f:Nat->Nat->Nat}(o:VA c f){i j:Nat}(hi:i<c)(hj:j<c)(hij:i≠j)(m:Nat):VA c (fB f i m j):=by
 have hv:f i j&&&m<8192:=Nat.lt_of_le_of_lt Nat.and_le_left (o.lt i hi j hj);have hji:¬j=i:=fun z=>hij z.symm
 constructor
 · intro a ha b hb;unfold fB wB
   repeat' split
   all_goals first | exact rJ _ | exact hv | exact o.lt a ha b hb
 · intro a ha b hb;unfold fB wB;by_cases h1:a=i
   · subst h1;by_cases h2:b=j
     · subst h2;simp[hij,hji]
     · by_cases h3:b=a
       · subst h3;simp[hij,h2];exact o.tn _ ha _ hb
       · simp[h2,h3,hij];exact o.tn _ ha _ hb
   · by_cases h2:a=j
     · subst h2;by_cases h3:b=i
       · subst h3;simp[hij,hji,KR hv]
       · simp[h1,h3];exact o.tn _ ha _ hb
     · simp[h1,h2];exact o.tn _ ha _ hb
noncomputable def xD(i k j:Nat):Dt:=.tup [.int (i:Nat),.int (k:Nat),.int (j:Nat)]
def Ef(f:Nat->Nat->Nat)(i k j:Nat):Nat:=f i j&&&CI (f i k) (f k j)
theorem jW{h:HI}{b c:Nat}{f:Nat->Nat->Nat}(N:bf h b c f){i k j:Nat}(hi:i<c)(hk:k<c)(hj:j<c):CK [.ref (b+c),xD i k j] h=some (.int (Ef f i k j:Nat),h):=by simp only[CK,nR,xD,xB,XA,mB,FA,rA,JA,zdH,zdI,zdO,zdN,zdF,zdG,if_true,Nat.reduceAdd,Nat.reduceSub,List.replicate,zdD,zdE,sA,nA,HB,RB,OD,mI,zdL,N.ix hi,N.Ml hi hk,N.ix hk,N.Ml hk hj,N.Ml hi hj,YA,zdJ,zdK,EB,eB,WA,MA,zdU,W3,WN,rN,KB];rfl
theorem X6{h:HI}{b c:Nat}{f:Nat->Nat->Nat}(N:bf h b c f)(hc:c<=1000){i k j:Nat}(hi:i<c)(hk:k<c)(hj:j<c):XM [.ref (b+c),xD i k j] h=some (.ref (h.length+c),h++MC h.length c (fB f i (Ef f i k j) j)):=by have e1:=jW N hi hk hj;have e2:=xK N hc hi hj (Ef f i k j);unfold xD at e1 ⊢;simp only[XM,oR,xB,FA,rA,JA,zdH,zdI,zdO,zdN,zdF,zdG,if_true,Nat.reduceAdd,Nat.reduceSub,List.replicate,zdD,zdE,sA,nA,HB,RB,OD,mI,zdL,EB,eB,WA,MA,zdU,e1,e2,KB]
theorem gX(f:Nat->Nat->Nat)(i k j:Nat):f i j&&&Ef f i k j=Ef f i k j:=by unfold Ef;rw[<- Nat.and_assoc,Nat.and_self]
def vC(f:Nat->Nat->Nat)(i k j:Nat):Nat->Nat->Nat:=fB f i (Ef f i k j) j
theorem HG(f:Nat->Nat->Nat){i k j:Nat}(hij:i≠j):vC f i k j i j=Ef f i k j:=by unfold vC fB wB;simp[hij,gX]
theorem bS(f:Nat->Nat->Nat)(i k j:Nat):vC f i k j j i=Cd (Ef f i k j):=by unfold vC fB wB;simp[gX]
theorem CG(f:Nat->Nat->Nat){i k j a b:Nat}(h1:¬(a=i/\b=j))(h2:¬(a=j/\b=i)):vC f i k j a b=f a b:=by
 unfold vC fB wB;by_cases q1:a=j
 · subst q1;have:¬b=i:=fun z=>h2 ⟨rfl,z⟩
   by_cases q2:a=i
   · subst q2;simp[this]
   · simp[this,q2]
 · by_cases q2:a=i
   · subst q2;have:¬b=j:=fun z=>h1 ⟨rfl,z⟩
     simp[q1,this]
   · simp[q1,q2]
noncomputable def Rf(a b:Nat):Prop:=a&&&b=a
theorem Lf{a b:Nat}:Rf a b↔∀k,a.testBit k=true->b.testBit k=true:=by
 unfold Rf;constructor
 · intro h k hk;rw[<- h,Nat.testBit_and,Bool.and_eq_true]at hk;exact hk.2
 · intro h;apply Nat.eq_of_testBit_eq;intro k;rw[Nat.testBit_and];cases q:a.testBit k with
   | false=>rfl
   | true=>rw[h k q];rfl
theorem Rf.refl(a:Nat):Rf a a:=Nat.and_self a
theorem Rf.trans{a b c:Nat}(h1:Rf a b)(h2:Rf b c):Rf a c:=Lf.mpr fun k hk=>Lf.mp h2 k (Lf.mp h1 k hk)
theorem dH(a b:Nat):Rf (a&&&b) a:=Lf.mpr fun k hk=>by rw[Nat.testBit_and,Bool.and_eq_true]at hk;exact hk.1
theorem nj{a b c:Nat}(h1:Rf a b)(h2:Rf a c):Rf a (b&&&c):=Lf.mpr fun k hk=>by rw[Nat.testBit_and,Lf.mp h1 k hk,Lf.mp h2 k hk];rfl
theorem i9{a b a' b':Nat}(h1:Rf a a')(h2:Rf b b'):Rf (CI a b) (CI a' b'):=Lf.mpr fun k hk=>by obtain⟨i,j,q1,q2,q3,q4,q5⟩:=(oJ a b k).mp hk;exact(oJ a' b' k).mpr ⟨i,j,q1,Lf.mp h1 i q2,q3,Lf.mp h2 j q4,q5⟩
theorem LW(a b:Nat):Cd (a&&&b)=Cd a&&&Cd b:=by
 refine aI (rJ _) (Nat.lt_of_le_of_lt Nat.and_le_left (rJ a)) fun k hk=>?_
 rw[fE _ hk,Nat.testBit_and,Nat.testBit_and,fE _ hk,fE _ hk]
theorem zj{a b:Nat}(ha:a<8192)(hb:b<8192)(h:Cd a=Cd b):a=b:=by rw[<- KR ha,h,KR hb]
theorem En:Cd 0=0:=by decide +kernel
theorem IR{a b:Nat}(h:Rf a b):Rf (Cd a) (Cd b):=by unfold Rf at h ⊢;rw[<- LW,h]
theorem SX{c:Nat}{f:Nat->Nat->Nat}(o:VA c f){i k j:Nat}(hi:i<c)(hj:j<c):Ef f i k j<8192:=Nat.lt_of_le_of_lt Nat.and_le_left (o.lt i hi j hj)
theorem Z8{c:Nat}{f:Nat->Nat->Nat}(o:VA c f){i k j:Nat}(hi:i<c)(hk:k<c)(hj:j<c):Ef f j k i=Cd (Ef f i k j):=by unfold Ef;rw[o.tn i hi j hj,o.tn k hk j hj,o.tn i hi k hk,j9,LW]
theorem zS{c:Nat}{f:Nat->Nat->Nat}(o:VA c f){i k j:Nat}(hi:i<c)(hk:k<c)(hj:j<c)(h:Ef f j k i≠f j i):Ef f i k j≠f i j:=by intro e;apply h;rw[Z8 o hi hk hj,e,<- o.tn i hi j hj]
theorem iY{c:Nat}{f:Nat->Nat->Nat}(o:VA c f){i k j:Nat}(hi:i<c)(hj:j<c)(hij:i≠j):VA c (vC f i k j):=KG o hi hj hij _
noncomputable def zD(W:List (Nat×Nat))(i k j:Nat):Prop:=(i,k)∈W\/(k,i)∈W\/(k,j)∈W\/(j,k)∈W
noncomputable def tG(i k j:Nat):Prop:=i≠k/\k≠j/\i≠j
def qD(c:Nat)(f:Nat->Nat->Nat)(W:List (Nat×Nat))(R:List (Nat×Nat×Nat)):Prop:=
 ∀i<c,∀k<c,∀j<c,tG i k j->Ef f i k j≠f i j->zD W i k j\/(i,k,j)∈R\/(j,k,i)∈R
noncomputable def GF(a b c:Nat):List (Nat×Nat×Nat):=(List.range c).flatMap fun o=>if o=a\/o=b then []else [(a,b,o),(b,a,o)]
theorem Sd{a b c:Nat}{t:Nat×Nat×Nat}:t∈GF a b c↔∃o,o<c/\o≠a/\o≠b/\(t=(a,b,o)\/t=(b,a,o)):=by
 unfold GF;simp only[mem_flatMap,mem_range];constructor
 · rintro⟨o,ho,h⟩;by_cases q:o=a\/o=b
   · rw[if_pos q]at h;cases h
   · rw[if_neg q]at h;simp only[mem_cons,not_mem_nil,or_false]at h;exact⟨o,ho,fun z=>q (.inl z),fun z=>q (.inr z),h⟩
 · rintro⟨o,ho,h1,h2,h⟩;refine⟨o,ho,?_⟩;rw[if_neg (by rintro(z | z);exact h1 z;exact h2 z)];simpa using h
theorem T9{c:Nat}{f:Nat->Nat->Nat}{a b:Nat}{W:List (Nat×Nat)}(h:qD c f ((a,b)::W) []):qD c f W (GF a b c):=by
 intro i hi k hk j hj d n;obtain⟨d1,d2,d3⟩:=d;rcases h i hi k hk j hj ⟨d1,d2,d3⟩ n with h | h | h
 · unfold zD at h ⊢;simp only[mem_cons,Prod.mk.injEq]at h;rcases h with(⟨rfl,rfl⟩ | h) | (⟨rfl,rfl⟩ | h) | (⟨rfl,rfl⟩ | h) | (⟨rfl,rfl⟩ | h)
   · exact .inr (.inl (Sd.mpr ⟨j,hj,Ne.symm d3,Ne.symm d2,.inl rfl⟩))
   · exact .inl (.inl h)
   · exact .inr (.inl (Sd.mpr ⟨j,hj,Ne.symm d2,Ne.symm d3,.inr rfl⟩))
   · exact .inl (.inr (.inl h))
   · exact .inr (.inr (Sd.mpr ⟨i,hi,d1,d3,.inr rfl⟩))
   · exact .inl (.inr (.inr (.inl h)))
   · exact .inr (.inr (Sd.mpr ⟨i,hi,d3,d1,.inl rfl⟩))
   · exact .inl (.inr (.inr (.inr h)))
 · cases h
 · cases h
theorem T7{c:Nat}{f:Nat->Nat->Nat}(o:VA c f){x y z:Nat}(hx:x<c)(hy:y<c)(hz:z<c){W:List (Nat×Nat)}{R:List (Nat×Nat×Nat)}(h:qD c f W ((x,y,z)::R))(n:Ef f x y z=f x z):qD c f W R:=by
 intro i hi k hk j hj d m;rcases h i hi k hk j hj d m with h | h | h
 · exact .inl h
 · rcases mem_cons.mp h with h | h
   · cases h;exact absurd n m
   · exact .inr (.inl h)
 · rcases mem_cons.mp h with h | h
   · cases h;exact absurd n (zS o hx hy hz m)
   · exact .inr (.inr h)
theorem AW{a b e:Nat}(h:Rf a b)(q:b&&&e=b):a&&&e=a:=Rf.trans h q
theorem U7{c:Nat}{f:Nat->Nat->Nat}(o:VA c f){x y z:Nat}(hx:x<c)(hy:y<c)(hz:z<c)(dd:tG x y z){W:List (Nat×Nat)}{R:List (Nat×Nat×Nat)}(h:qD c f W ((x,y,z)::R)):qD c (vC f x y z) (W++[(x,z)]) R:=by
 obtain⟨d1,d2,d3⟩:=dd;have o':=iY (k:=y) o hx hz d3;have main:∀i<c,∀k<c,∀j<c,tG i k j->¬(i=z/\j=x)->Ef (vC f x y z) i k j≠vC f x y z i j->zD (W++[(x,z)]) i k j\/(i,k,j)∈R\/(j,k,i)∈R:=by
  intro i hi k hk j hj d nz m;obtain⟨e1,e2,e3⟩:=d;have grow:∀{i k j},zD W i k j->zD (W++[(x,z)]) i k j:=by
   intro i k j q;unfold zD at q ⊢;simp only[mem_append];rcases q with q | q | q | q
   · exact .inl (.inl q)
   · exact .inr (.inl (.inl q))
   · exact .inr (.inr (.inl (.inl q)))
   · exact .inr (.inr (.inr (.inl q)))
  by_cases ht:i=x/\j=z
  · obtain⟨rfl,rfl⟩:=ht;have l1:vC f i y j i k=f i k:=CG f (fun q=>e2 q.2) (fun q=>e1 q.2.symm);have l2:vC f i y j k j=f k j:=CG f (fun q=>e1 q.1.symm) (fun q=>e2 q.1);have lf:Ef (vC f i y j) i k j=Ef f i y j&&&CI (f i k) (f k j):=by unfold Ef;rw[l1,l2,HG f e3];rfl
    by_cases ky:k=y
    · subst ky;exfalso;apply m;rw[lf,HG f e3];unfold Ef;rw[Nat.and_assoc,Nat.and_self]
    · have n:Ef f i k j≠f i j:=by intro q;apply m;rw[lf,HG f e3];exact AW (dH (f i j) _) q
      rcases h i hi k hk j hj ⟨e1,e2,e3⟩ n with q | q | q
      · exact .inl (grow q)
      · rcases mem_cons.mp q with q | q
        · cases q;exact absurd rfl ky
        · exact .inr (.inl q)
      · rcases mem_cons.mp q with q | q
        · simp only[Prod.mk.injEq]at q;exact absurd q.1.symm e3
        · exact .inr (.inr q)
  · by_cases Ol:zD [(x,z)] i k j
    · refine .inl ?_;unfold zD at Ol ⊢;simp only[mem_append];rcases Ol with q | q | q | q
      · exact .inl (.inr q)
      · exact .inr (.inl (.inr q))
      · exact .inr (.inr (.inl (.inr q)))
      · exact .inr (.inr (.inr (.inr q)))
    · unfold zD at Ol;simp only[mem_cons,not_mem_nil,or_false,Prod.mk.injEq,not_or]at Ol;obtain⟨g1,g2,g3,g4⟩:=Ol;have l0:vC f x y z i j=f i j:=CG f (fun q=>ht q) (fun q=>nz q);have l1:vC f x y z i k=f i k:=CG f (fun q=>g1 q) (fun q=>g2 ⟨q.2,q.1⟩);have l2:vC f x y z k j=f k j:=CG f (fun q=>g3 q) (fun q=>g4 ⟨q.2,q.1⟩);have n:Ef f i k j≠f i j:=by unfold Ef at m ⊢;rw[l0,l1,l2]at m;exact m
      rcases h i hi k hk j hj ⟨e1,e2,e3⟩ n with q | q | q
      · exact .inl (grow q)
      · rcases mem_cons.mp q with q | q
        · simp only[Prod.mk.injEq]at q;exact absurd ⟨q.1,q.2.2⟩ ht
        · exact .inr (.inl q)
      · rcases mem_cons.mp q with q | q
        · simp only[Prod.mk.injEq]at q;exact absurd ⟨q.2.2,q.1⟩ nz
        · exact .inr (.inr q)
 intro i hi k hk j hj d m;by_cases nz:i=z/\j=x
 · obtain⟨e1,e2,e3⟩:=d;have m':=zS o' hj hk hi m;rcases main j hj k hk i hi ⟨Ne.symm e2,Ne.symm e1,Ne.symm e3⟩ (fun q=>e3 (by omega)) m' with q | q | q
   · refine .inl ?_;unfold zD at q ⊢;rcases q with q | q | q | q
     · exact .inr (.inr (.inr q))
     · exact .inr (.inr (.inl q))
     · exact .inr (.inl q)
     · exact .inl q
   · exact .inr (.inr q)
   · exact .inr (.inl q)
 · exact main i hi k hk j hj d nz m
def gF(c:Nat)(f:Nat->Nat->Nat):Prop:=∀i<c,∀k<c,∀j<c,tG i k j->Ef f i k j=f i j
theorem A5{c:Nat}{f:Nat->Nat->Nat}(h:qD c f [] []):gF c f:=by
 intro i hi k hk j hj d;apply Classical.byContradiction;intro n;rcases h i hi k hk j hj d n with q | q | q
 · unfold zD at q;simp at q
 · cases q
 · cases q
theorem LR(c:Nat)(f:Nat->Nat->Nat):qD c f (AA c) []:=by
 intro i hi k hk j hj d _;refine .inl ?_;unfold zD;obtain⟨d1,_,_⟩:=d;rcases Nat.lt_or_gt_of_ne d1 with h | h
 · exact .inl (Jf.mpr ⟨h,hk⟩)
 · exact .inr (.inl (Jf.mpr ⟨h,hi⟩))
def OH(m:Nat):Nat:=(BA m).length
theorem iR{α:Type}{p q:α->Bool}:∀(xs:List α),(∀x∈xs,p x=true->q x=true)->(xs.filter p).length<=(xs.filter q).length
 | [],_=>by simp
 | x::xs,H=>by
  have ih:=iR xs fun y hy=>H y (by simp[hy])
  have hx:=H x (by simp);by_cases h1:p x=true
  · simp[h1,hx h1];exact ih
  · by_cases h2:q x=true
    · simp[h1,h2];omega
    · simp[h1,h2];exact ih
theorem jR{α:Type}{p q:α->Bool}:∀(xs:List α),(∀x∈xs,p x=true->q x=true)->(∃x∈xs,p x=false/\q x=true)->(xs.filter p).length<(xs.filter q).length
 | [],_,h=>by obtain⟨x,h,_⟩:=h;cases h
 | x::xs,H,h=>by
  have hx:=H x (by simp);have ihl:=iR xs fun y hy=>H y (by simp[hy])
  by_cases h1:p x=true
  · obtain⟨y,hy,g1,g2⟩:=h;rcases mem_cons.mp hy with rfl | hy
    · rw[h1]at g1;cases g1
    · have:=jR xs (fun y hy=>H y (by simp[hy])) ⟨y,hy,g1,g2⟩;simp[h1,hx h1];exact this
  · by_cases h2:q x=true
    · simp[h1,h2];omega
    · obtain⟨y,hy,g1,g2⟩:=h;rcases mem_cons.mp hy with rfl | hy
      · rw[g2]at h2;exact absurd rfl h2
      · have:=jR xs (fun y hy=>H y (by simp[hy])) ⟨y,hy,g1,g2⟩;simp[h1,h2];exact this
theorem nY{a b:Nat}(h:Rf a b):OH a<=OH b:=iR _ fun k _ hk=>Lf.mp h k hk
theorem Yz{a b:Nat}(h:Rf a b)(ha:a<8192)(hb:b<8192)(n:a≠b):OH a<OH b:=by
 refine jR _ (fun k _ hk=>Lf.mp h k hk) ?_;apply Classical.byContradiction;intro hno;apply n;refine aI ha hb fun k hk=>?_
 cases q:b.testBit k with
 | true=>
  cases q2:a.testBit k with
  | true=>rfl
  | false=>exact absurd ⟨k,mem_range.mpr hk,q2,q⟩ hno
 | false=>
  cases q2:a.testBit k with
  | false=>rfl
  | true=>rw[Lf.mp h k q2]at q;cases q
theorem AJ{α:Type}{u v:α->Nat}:∀(xs:List α),(∀x∈xs,u x<=v x)->(xs.map u).sum<=(xs.map v).sum
 | [],_=>by simp
 | x::xs,H=>by
  have:=AJ xs fun y hy=>H y (by simp[hy])
  have:=H x (by simp);simp only[zdH,sum_cons];omega
theorem eT{α:Type}{u v:α->Nat}:∀(xs:List α),(∀x∈xs,u x<=v x)->(∃x∈xs,u x<v x)->(xs.map u).sum<(xs.map v).sum
 | [],_,h=>by obtain⟨x,h,_⟩:=h;cases h
 | x::xs,H,h=>by
  have h0:=AJ xs fun y hy=>H y (by simp[hy])
  have h1:=H x (by simp);simp only[zdH,sum_cons];obtain⟨y,hy,g⟩:=h;rcases mem_cons.mp hy with rfl | hy
  · omega
  · have:=eT xs (fun y hy=>H y (by simp[hy])) ⟨y,hy,g⟩;omega
def uE(c:Nat)(f:Nat->Nat->Nat):Nat:=((List.range c).map fun i=>((List.range c).map fun j=>OH (f i j)).sum).sum
theorem HQ{α:Type}{u:α->Nat}{m:Nat}:∀(xs:List α),(∀x∈xs,u x<=m)->(xs.map u).sum<=xs.length*m
 | [],_=>by simp
 | x::xs,H=>by
  have:=HQ xs fun y hy=>H y (by simp[hy])
  have:=H x (by simp);simp only[zdH,sum_cons,zdF,Nat.succ_mul];omega
theorem KW(c:Nat)(f:Nat->Nat->Nat):uE c f<=c*(c*13):=by
 have:=HQ (u:=fun i=>((List.range c).map fun j=>OH (f i j)).sum) (m:=c*13) (List.range c) fun i _=>by
  have:=HQ (u:=fun j=>OH (f i j)) (m:=13) (List.range c) fun j _=>fJ _
  simpa using this
 simpa[uE]using this
theorem cS{c:Nat}{f:Nat->Nat->Nat}(o:VA c f){i k j:Nat}(hi:i<c)(hj:j<c)(hij:i≠j)(a b:Nat):Rf (vC f i k j a b) (f a b):=by
 by_cases h1:a=i/\b=j
 · obtain⟨rfl,rfl⟩:=h1;rw[HG f hij];exact dH _ _
 · by_cases h2:a=j/\b=i
   · obtain⟨rfl,rfl⟩:=h2;rw[bS,o.tn b hi a hj];exact IR (dH _ _)
   · rw[CG f h1 h2];exact Rf.refl _
theorem P7{c:Nat}{f:Nat->Nat->Nat}(o:VA c f){i k j:Nat}(hi:i<c)(hj:j<c)(hij:i≠j)(n:Ef f i k j≠f i j):uE c (vC f i k j)<uE c f:=by refine eT _ (fun a _=>AJ _ fun b _=>nY (cS o hi hj hij a b)) ⟨i,mem_range.mpr hi,eT _ (fun b _=>nY (cS o hi hj hij i b)) ⟨j,mem_range.mpr hj,?_⟩⟩;rw[HG f hij];exact Yz (dH _ _) (SX o hi hj) (o.lt i hi j hj) n
inductive Steps(c:Nat)(f:Nat->Nat->Nat):List (Nat×Nat×Nat)->(Nat->Nat->Nat)->Prop where
 | nil:Steps c f [] f
 | snoc {st:List (Nat×Nat×Nat)} {g:Nat->Nat->Nat} {i k j:Nat} (h:Steps c f st g) (hi:i<c) (hk:k<c) (hj:j<c) (d:tG i k j) (ne:VB c g=false) (n:Ef g i k j≠g i j):Steps c f (st++[(i,k,j)]) (vC g i k j)
theorem Steps.ok{c:Nat}{f g:Nat->Nat->Nat}{st:List (Nat×Nat×Nat)}(h:Steps c f st g)(o:VA c f):VA c g:=by
 induction h with
 | nil=>exact o
 | snoc h hi hk hj d ne n ih=>exact iY ih hi hj d.2.2
theorem Zd{c:Nat}{f:Nat->Nat->Nat}:VB c f=true↔∃i<c,∃j<c,f i j=0:=by unfold VB;simp only[any_eq_true,mem_range,beq_iff_eq]
theorem Mf{c:Nat}{f:Nat->Nat->Nat}(h:VB c f=false){i j:Nat}(hi:i<c)(hj:j<c):f i j≠0:=fun e=>by have:=Zd.mpr ⟨i,hi,j,hj,e⟩;rw[h]at this;cases this
theorem Wz{a:Nat}(ha:a<8192)(h:a≠0):Cd a≠0:=fun e=>h (zj ha (by decide) (e.trans En.symm))
theorem N7{c:Nat}{f:Nat->Nat->Nat}(o:VA c f){i k j:Nat}(hi:i<c)(hj:j<c)(hij:i≠j)(ne:VB c f=false):VB c (vC f i k j)=decide (Ef f i k j=0):=by
 by_cases h:Ef f i k j=0
 · rw[decide_eq_true h];exact Zd.mpr ⟨i,hi,j,hj,by rw[HG f hij];exact h⟩
 · rw[decide_eq_false h];cases q:VB c (vC f i k j)with
   | false=>rfl
   | true=>
    obtain⟨a,ha,b,hb,e⟩:=Zd.mp q;exfalso;by_cases h1:a=i/\b=j
    · obtain⟨rfl,rfl⟩:=h1;rw[HG f hij]at e;exact h e
    · by_cases h2:a=j/\b=i
      · obtain⟨rfl,rfl⟩:=h2;rw[bS]at e;exact Wz (SX o hi hj) h e
      · rw[CG f h1 h2]at e;exact Mf ne ha hb e
def DD(t:Nat×Nat×Nat):Dt:=xD t.1 t.2.1 t.2.2
theorem Y6{h:HI}{b c:Nat}{f:Nat->Nat->Nat}(N:bf h b c f){i k j:Nat}(hi:i<c)(hk:k<c)(hj:j<c):YM [.ref (b+c),xD i k j] h=some (.bl (!decide (Ef f i k j=f i j)),h):=by
 have e1:=jW N hi hk hj;have q:decide (((Ef f i k j:Nat):Int)=((f i j:Nat):Int))=decide (Ef f i k j=f i j):=by
  congr 1
  apply propext;omega
 unfold xD at e1 ⊢;simp only[YM,pR,xB,FA,rA,JA,zdH,zdI,zdO,zdN,zdF,zdG,if_true,Nat.reduceAdd,Nat.reduceSub,List.replicate,zdD,zdE,sA,nA,HB,RB,mI,zdL,EB,eB,WA,MA,zdU,e1,N.ix hi,N.Ml hi hj,JI,q,KB]
theorem Vq(o a b:Nat)(h:HI):II true (.int (o:Nat)) (qA (a,b)) h=some (.bl (!(decide (o=a) || decide (o=b))),h):=by
 have f2:JO (V.int (o:Nat)) [V.int (a:Nat),V.int (b:Nat)]=(decide (o=a) || decide (o=b)):=by
  unfold JO;simp only[any_cons,any_nil,Bool.or_false];show(((a:Nat):Int)==((o:Nat):Int) || ((b:Nat):Int)==((o:Nat):Int))=_;have e1:(((a:Nat):Int)==((o:Nat):Int))=decide (o=a):=by
   by_cases q:o=a
   · subst q;simp
   · have:((a:Nat):Int)≠((o:Nat):Int):=by omega
     simp[q,this]
  have e2:(((b:Nat):Int)==((o:Nat):Int))=decide (o=b):=by
   by_cases q:o=b
   · subst q;simp
   · have:((b:Nat):Int)≠((o:Nat):Int):=by omega
     simp[q,this]
  rw[e1,e2]
 have f1:ZE [Dt.int (a:Nat),Dt.int (b:Nat)]=some [V.int (a:Nat),V.int (b:Nat)]:=rfl;simp only[II,QD,JD,qA,zdM,f1,f2];rfl
noncomputable def pD(a b n:Nat):List (Nat×Nat×Nat):=(List.range n).flatMap fun o=>if o=a\/o=b then []else [(a,b,o),(b,a,o)]
theorem w5(a b n:Nat):(pD a b n).length<=2*n:=by
 induction n with
 | zero=>simp[pD]
 | succ n ih=>
  have:pD a b (n+1)=pD a b n++(if n=a\/n=b then []else [(a,b,n),(b,a,n)]):=by unfold pD;rw[range_succ,flatMap_append];simp
  rw[this,length_append];split<;>simp<;>omega
theorem q9{a b c:Nat}(hc:c<=1000)(h:HI):qM [qA (a,b),.int (c:Nat)] h=some (.ref h.length,h++[.lst ((GF a b c).map DD)]):=by
 have er:=FF (h:=h++[.lst []]) (show(-(2^62):Int)<=(c:Int) by omega) (show(c:Int)<2^62 by omega);simp only[Int.toNat_natCast]at er;have zaX:∀(o o':Ob),(h++[o]).set h.length o'=h++[o']:=by simp
 obtain⟨l',h',e,⟨y,rfl⟩,rfl⟩:=uK (i:=3) (body:=uP) (fun(k:Nat)=>Dt.int (k:Int)) (fun(n:Nat) l h'=>(∃y,l=[some (qA (a,b)),some (.int (c:Nat)),some (.ref h.length),y])/\h'=h++[.lst ((pD a b n).map DD)]) c (by
  rintro n hn l h1 ⟨⟨y,rfl⟩,rfl⟩;have hl:=w5 a b n;have ep:pD a b (n+1)=pD a b n++(if n=a\/n=b then []else [(a,b,n),(b,a,n)]):=by unfold pD;rw[range_succ,flatMap_append];simp
  refine⟨.nx [some (qA (a,b)),some (.int (c:Nat)),some (.ref h.length),some (.int (n:Nat))] (h++[.lst ((pD a b (n+1)).map DD)]),?_,⟨_,rfl⟩,rfl⟩;have ip:=Vq n a b (h++[.lst ((pD a b n).map DD)]);have ea1:=fun(l:LI) (g:RE) (eg:g l (h++[.lst ((pD a b n).map DD)])=some (DD (a,b,n),h++[.lst ((pD a b n).map DD)]))=>FG (h:=h++[.lst ((pD a b n).map DD)]) (l:=l) (n:=h.length) (ys:=(pD a b n).map DD) (xs:=(pD a b n).map DD) (by simp) eg (by simp) (by simp;omega)
  have ea2:=fun(l:LI) (g:RE) (eg:g l (h++[.lst ((pD a b n).map DD++[DD (a,b,n)])])=some (DD (b,a,n),h++[.lst ((pD a b n).map DD++[DD (a,b,n)])]))=>FG (h:=h++[.lst ((pD a b n).map DD++[DD (a,b,n)])]) (l:=l) (n:=h.length) (ys:=(pD a b n).map DD++[DD (a,b,n)]) (xs:=(pD a b n).map DD++[DD (a,b,n)]) (by simp) eg (by simp) (by simp;omega)
  simp only[uP,OB,jB,FA,rA,zdJ,zdK,zdD,zdE,sA,nA,ip,uB,XA,JE,JF,YC];by_cases q:n=a\/n=b
  · have:(decide (n=a) || decide (n=b))=true:=by simpa using q
    rw[this,ep,if_pos q];simp
  · have:(decide (n=a) || decide (n=b))=false:=by simpa using q
    rw[this,ep,if_neg q];simp only[Bool.not_false,if_true];rw[ea1 _ _ (by simp[qA,DD,xD])];simp only[nA,YA,zaX,JE,JF,rA,zdD,zdE,sA];rw[ea2 _ _ (by simp[qA,DD,xD])];simp only[nA,zaX];simp) [some (qA (a,b)),some (.int (c:Nat)),some (.ref h.length),none] (h++[.lst []]) ⟨⟨_,rfl⟩,by simp[pD]⟩
 simp only[qM,GP,xB,XA,mB,LG,MA,zdH,zdI,zdO,zdN,zdF,zdG,if_true,nA,YA,Nat.reduceAdd,Nat.reduceSub,List.replicate,zdJ,zdK,YD,pL,rA,zdD,zdE,sA,er,EF,kH,Nat.zero_le,e,EB,KB];rfl
structure Rm(h0:HI)(c:Nat)(f:Nat->Nat->Nat)(s w b:Nat)(st:List (Nat×Nat×Nat))(W:List (Nat×Nat))(g:Nat->Nat->Nat)(h:HI):Prop where
 low:∀n,n<h0.length->h[n]?=h0[n]?
 len:h0.length<=h.length
 hs:h[s]?=some (.lst (st.map DD))
 hw:h[w]?=some (.lst (W.map qA))
 net:bf h b c g
 s0:h0.length<=s
 w0:h0.length<=w
 b0:h0.length<=b
 sw:s≠w
 sb:s<b\/b+c<s
 wb:w<b\/b+c<w
 run:Steps c f st g
 ne:VB c g=false
 sm:st.length+uE c g<=uE c f
 wc:∀p∈W,p.1<c/\p.2<c/\p.1≠p.2
theorem Rm.grow{h0:HI}{c:Nat}{f:Nat->Nat->Nat}{s w b:Nat}{st:List (Nat×Nat×Nat)}{W:List (Nat×Nat)}{g:Nat->Nat->Nat}{h:HI}(R:Rm h0 c f s w b st W g h)(e:HI):Rm h0 c f s w b st W g (h++e):=by
 have l1:=(zdP R.hs).1;have l2:=(zdP R.hw).1;exact { R with
  low:=fun n hn=>by rw[zdQ (by have:=R.len;omega)];exact R.low n hn
  len:=by have:=R.len;rw[length_append];omega
  hs:=by rw[zdQ l1];exact R.hs
  hw:=by rw[zdQ l2];exact R.hw
  net:=R.net.grow e }
def NJ(h0:HI)(c:Nat)(f:Nat->Nat->Nat)(d:Dt)(h:HI):Prop:=
 ∃x s st g,d=.tup [x,.ref s]/\h0.length<=s/\h0.length<=h.length/\(∀n,n<h0.length->h[n]?=h0[n]?)/\h[s]?=some (.lst (st.map DD))/\Steps c f st g/\st.length<=uE c f/\
  ((x=.non/\VB c g=true)\/∃b,x=.ref (b+c)/\h0.length<=b/\bf h b c g/\gF c g/\VB c g=false/\(s<b\/b+c<s))
theorem Jq{h0:HI}{c:Nat}(hc:c<=100){f:Nat->Nat->Nat}(of:VA c f){s w b:Nat}{st:List (Nat×Nat×Nat)}{W:List (Nat×Nat)}{g:Nat->Nat->Nat}{h:HI}(R:Rm h0 c f s w b st W g h){x y z:Nat}(hx:x<c)(hy:y<c)(hz:z<c)(d:tG x y z)(lW:W.length<=2000000)(x0 x1 x5:Option Dt) :
 ∃r,VI [x0,x1,some (.ref s),some (.ref (b+c)),some (.ref w),x5,some (xD x y z)] h=some r/\
  kI (fun l' h'=>∃b' st' W' g',l'=[x0,x1,some (.ref s),some (.ref (b'+c)),some (.ref w),x5,some (xD x y z)]/\Rm h0 c f s w b' st' W' g' h'/\(∀n,n<h.length->n≠s->n≠w->h'[n]?=h[n]?)/\h.length<=h'.length/\
   ((Ef g x y z=g x z/\b'=b/\st'=st/\W'=W/\g'=g/\h'=h)\/(W'=W++[(x,z)]/\g'=vC g x y z/\uE c g'<uE c g))) (NJ h0 c f) r:=by
 have og:=R.run.ok of;have tl:=KW c f;have hcc:c*(c*13)<=100*(100*13):=Nat.mul_le_mul hc (Nat.mul_le_mul_right 13 hc);have en:=Y6 R.net hx hy hz;by_cases q:Ef g x y z=g x z
 · refine⟨.nx [x0,x1,some (.ref s),some (.ref (b+c)),some (.ref w),x5,some (xD x y z)] h,?_,b,st,W,g,rfl,R,fun _ _ _ _=>rfl,zdS _,.inl ⟨q,rfl,rfl,rfl,rfl,rfl⟩⟩;simp only[VI,OB,jB,eB,WA,MA,rA,zdD,zdE,sA,nA,zdU,en,uB,q,decide_true,Bool.not_true,zdV,if_false,YC]
 · have em:=X6 R.net (show c<=1000 by omega) hx hy hz;obtain⟨h1,hh1⟩:∃h1,h1=h++MC h.length c (vC g x y z):=⟨_,rfl⟩
   rw[show fB g x (Ef g x y z) z=vC g x y z from rfl,<- hh1]at em;have len1:h1.length=h.length+(c+1):=by rw[hh1,length_append,mV]
   have M1:bf h1 h.length c (vC g x y z):=hh1 ▸ CF h c _;have ls:=(zdP R.hs).1;have lw:=(zdP R.hw).1;have hs1:h1[s]?=some (.lst (st.map DD)):=by rw[hh1,zdQ ls];exact R.hs
   have hw1:h1[w]?=some (.lst (W.map qA)):=by rw[hh1,zdQ lw];exact R.hw
   have sm:=R.sm;have ts:=P7 og hx hz d.2.2 q;obtain⟨h2,Eb⟩:∃h2,h2=h1.set s (.lst (st.map DD++[xD x y z])):=⟨_,rfl⟩
   have ea:=FG (h:=h1) (l:=[x0,x1,some (.ref s),some (.ref (h.length+c)),some (.ref w),x5,some (xD x y z)]) (g:=eV 6) (n:=s) (ys:=st.map DD) (xs:=st.map DD) (d:=xD x y z) (h':=h1) hs1 (by simp) hs1 (by simp;omega);rw[<- Eb]at ea;have M2:bf h2 h.length c (vC g x y z):=Eb ▸ M1.other (.inl ls) _;have hs2:h2[s]?=some (.lst ((st++[(x,y,z)]).map DD)):=by rw[Eb,getElem?_set_self (by omega)];simp[DD]
   have hw2:h2[w]?=some (.lst (W.map qA)):=by rw[Eb,getElem?_set_ne R.sw];exact hw1
   have zaW:=R.run.snoc hx hy hz d R.ne q;have zaQ:∀n,n<h0.length->h2[n]?=h0[n]?:=fun n hn=>by have:=R.len;have:=R.s0;rw[Eb,getElem?_set_ne (by omega),hh1,zdQ (by omega)];exact R.low n hn
   have BD:h2.length=h.length+(c+1):=by rw[Eb,length_set];exact len1
   have ix1:=M2.ix hx;have Ml:=M2.Ml hx hz;rw[HG g d.2.2]at Ml;have se:=N7 (k:=y) og hx hz d.2.2 R.ne;have zi:(decide (((Ef g x y z:Nat):Int)=0))=decide (Ef g x y z=0):=by
    congr 1
    apply propext;omega
   by_cases q0:Ef g x y z=0
   · refine⟨.rt (.tup [.non,.ref s]) h2,?_,.non,s,st++[(x,y,z)],vC g x y z,rfl,R.s0,by have:=R.len;omega,zaQ,hs2,zaW,by simp;omega,.inl ⟨rfl,by rw[se];simp[q0]⟩⟩;simp only[VI,OB,jB,eB,WA,MA,rA,zdD,zdE,sA,nA,zdU,en,uB,q,decide_false,Bool.not_false,if_true,XA,mB,em,zdJ,zdK,YA,JE,JF,ea];simp only[xD,OB,jB,FA,rA,JA,zdD,zdE,sA,nA,HB,RB,mI,zdL,ix1,Ml,LU,zi,q0,decide_true,uB,if_true,EB,pE,WA,MA,iF];simp
   · have ea2:=FG (h:=h2) (l:=[x0,x1,some (.ref s),some (.ref (h.length+c)),some (.ref w),x5,some (xD x y z)]) (g:=rB (bA (e2 pA (eV 6) (eC (.int 0))) (bA (e2 pA (eV 6) (eC (.int 2))) fA))) (n:=w) (ys:=W.map qA) (xs:=W.map qA) (d:=qA (x,z)) (h':=h2) hw2 (by simp[xD,qA]) hw2 (by simp;omega);have wF:∀o,(h2.set w o).length=h.length+(c+1):=fun o=>by rw[length_set];exact BD
     have hlw:w<h2.length:=(zdP hw2).1;have hw0:=R.w0;have hl0:=R.len;refine⟨.nx [x0,x1,some (.ref s),some (.ref (h.length+c)),some (.ref w),x5,some (xD x y z)] (h2.set w (.lst (W.map qA++[qA (x,z)]))),?_,h.length,st++[(x,y,z)],W++[(x,z)],vC g x y z,rfl,?_,?_,by rw[wF];omega,.inr ⟨rfl,rfl,ts⟩⟩
     · simp only[VI,OB,jB,eB,WA,MA,rA,zdD,zdE,sA,nA,zdU,en,uB,q,decide_false,Bool.not_false,if_true,XA,mB,em,zdJ,zdK,YA,JE,JF,ea];have tst:Wf (e2 TJ (e2 pA (e2 pA (eV 3) (e2 pA (eV 6) (eC (.int 0)))) (e2 pA (eV 6) (eC (.int 2)))) (eC (.int 0))) [x0,x1,some (.ref s),some (.ref (h.length+c)),some (.ref w),x5,some (xD x y z)] h2=some (false,h2):=by simp only[xD,jB,FA,rA,JA,zdD,zdE,sA,nA,HB,RB,mI,zdL,ix1,Ml,LU,zi,q0,decide_false,uB]
       simp only[jB]at tst;simp only[tst,nA,zdV,if_false,YC,YA,JE,JF,rA,zdD,zdE,sA,ea2]
     · exact {
        low:=fun n hn=>by rw[getElem?_set_ne (by omega)];exact zaQ n hn
        len:=by rw[wF];omega
        hs:=by rw[getElem?_set_ne (Ne.symm R.sw)];exact hs2
        hw:=by rw[getElem?_set_self hlw];simp
        net:=M2.other (.inl lw) _
        s0:=R.s0
        w0:=R.w0
        b0:=hl0
        sw:=R.sw
        sb:=.inl ls
        wb:=.inl lw
        run:=zaW
        ne:=by rw[se];simp[q0]
        sm:=by simp;omega
        wc:=fun p hp=>by
         rcases mem_append.mp hp with hp | hp
         · exact R.wc p hp
         · rw[mem_singleton.mp hp];exact⟨hx,hz,d.2.2⟩ }
     · intro n hn h1' h2';rw[getElem?_set_ne (Ne.symm h2'),Eb,getElem?_set_ne (Ne.symm h1'),hh1,zdQ hn]
theorem n8(W:List (Nat×Nat)):lD (W.map qA)=true:=by
 induction W with
 | nil=>rfl
 | cons p W ih=>simp only[zdH,lD,qA,AB,ih,Bool.and_self]
theorem Gj(W:List (Nat×Nat)):YE (W.map qA)<=2:=by
 induction W with
 | nil=>simp[YE]
 | cons p W ih=>simp only[zdH,YE,EH,qA];omega
theorem W7{h:HI}{w:Nat}{W:List (Nat×Nat)}(e:h[w]?=some (.lst (W.map qA)))(k:Nat):BB h (k+3) (.ref w)=some (.lst (W.map qA)):=by
 have:vD (BB h (k+2)) (W.map qA)=some (W.map qA):=yW _ _ _ fun x _=>by unfold qA;simp[BB,vD]
 rw[BB];simp only[e,this,zdL]
theorem Lw{h:HI}{w:Nat}{W:List (Nat×Nat)}(e:h[w]?=some (.lst (W.map qA))):MH (.ref w) (.lst []) h=some (.bl (!W.isEmpty),h):=by
 have r2:BB h 8 (.lst [])=some (.lst []):=by simp[BB,vD]
 have d:=Gj W;have ok:pF (W.map qA) []=true:=by unfold pF;rw[n8];simp[lD];omega
 rw[wZ (W7 e 5) r2 ok];cases W with
 | nil=>rfl
 | cons p W=>rfl
theorem Xx{h0:HI}{c:Nat}(hc:c<=100){f:Nat->Nat->Nat}(of:VA c f){bn:Nat}{f0:Nat->Nat->Nat}(N0:bf h0 bn c f0){s w b:Nat}{st:List (Nat×Nat×Nat)}{W:List (Nat×Nat)}{g:Nat->Nat->Nat}{h:HI}{u v:Nat}(R:Rm h0 c f s w b st ((u,v)::W) g h)
 (wt:qD c g ((u,v)::W) []) (x1 x5 x6:Option Dt) (lM:2*uE c g+(W.length+1)<=1000000) :
 ∃r,nK [some (.ref (bn+c)),x1,some (.ref s),some (.ref (b+c)),some (.ref w),x5,x6] h=some r/\
  kI (fun l' h'=>∃b' st' W' g' x5 x6,l'=[some (.ref (bn+c)),x1,some (.ref s),some (.ref (b'+c)),some (.ref w),x5,x6]/\Rm h0 c f s w b' st' W' g' h'/\qD c g' W' []/\2*uE c g'+W'.length<2*uE c g+(W.length+1)) (NJ h0 c f) r:=by
 have hu:=R.wc (u,v) (by simp);simp only at hu;have pk:=Qj (fa:=eC (Dt.int 0)) (l:=[some (.ref (bn+c)),x1,some (.ref s),some (.ref (b+c)),some (.ref w),x5,x6]) (show h[w]?=some (.lst (qA (u,v)::W.map qA))from R.hw) rfl;obtain⟨h1,hh1⟩:∃h1,h1=h.set w (.lst (W.map qA)):=⟨_,rfl⟩
 rw[<- hh1]at pk;have lw:=(zdP R.hw).1;have len1:h1.length=h.length:=by rw[hh1,length_set]
 have R1:Rm h0 c f s w b st W g h1:={ R with
  low:=fun n hn=>by have:=R.w0;rw[hh1,getElem?_set_ne (by omega)];exact R.low n hn
  len:=by rw[len1];exact R.len
  hs:=by rw[hh1,getElem?_set_ne (Ne.symm R.sw)];exact R.hs
  hw:=by rw[hh1,getElem?_set_self lw]
  net:=hh1 ▸ R.net.other (by have:=R.wb;omega) _
  wc:=fun p hp=>R.wc p (by simp[hp]) }
 have N1:BC (.ref (bn+c)) h1=some (.int (c:Nat),h1):=by have:=N0.lt;rw[xJ (xs:=mF bn c) (by rw[R1.low _ this];exact N0.top),FN]
 have et:=q9 (a:=u) (b:=v) (show c<=1000 by omega) h1;obtain⟨h2,Eb⟩:∃h2,h2=h1++[.lst ((GF u v c).map DD)]:=⟨_,rfl⟩
 rw[<- Eb]at et;have R2:Rm h0 c f s w b st W g h2:=Eb ▸ R1.grow _;have q2:h2[h1.length]?=some (.lst ((GF u v c).map DD)):=by rw[Eb];simp
 have sk:=KF q2;have ls:=(zdP R1.hs).1;have lw1:=(zdP R1.hw).1;obtain⟨r,e,er⟩:=zY (i:=6) (n:=h1.length) (body:=VI) DD (fun k l' h'=>∃b' st' W' g' x6,l'=[some (.ref (bn+c)),x1,some (.ref s),some (.ref (b'+c)),some (.ref w),some (qA (u,v)),x6]/\Rm h0 c f s w b' st' W' g' h'/\qD c g' W' ((GF u v c).drop k)/\h'[h1.length]?=some (.lst ((GF u v c).map DD))/\h1.length<h'.length/\2*uE c g'+W'.length<=2*uE c g+W.length) (NJ h0 c f) (GF u v c) (by
  rintro k l' h' ⟨b',st',W',g',x6,rfl,R',Fp,q',lq,mm⟩;exact q') (by
  rintro k t ht l' h' ⟨b',st',W',g',x6,rfl,R',Fp,q',lq,mm⟩;have hk:=(zdP ht).1;have dk:(GF u v c).drop k=t::(GF u v c).drop (k+1):=by rw[drop_eq_getElem_cons hk,(zdP ht).2]
  obtain⟨o,ho,hou,hov,hto⟩:=Sd.mp (mem_of_getElem? ht);obtain⟨x,y,z⟩:=t;have dd:x<c/\y<c/\z<c/\tG x y z:=by
   rcases hto with hto | hto<;>(simp only[Prod.mk.injEq]at hto;obtain⟨rfl,rfl,rfl⟩:=hto)
   · exact⟨hu.1,hu.2.1,ho,hu.2.2,Ne.symm hov,Ne.symm hou⟩
   · exact⟨hu.2.1,hu.1,ho,Ne.symm hu.2.2,Ne.symm hou,Ne.symm hov⟩
  obtain⟨hx,hy,hz,dist⟩:=dd;rw[dk]at Fp;have og:=R'.run.ok of;obtain⟨r,e,er⟩:=Jq hc of R' hx hy hz dist (by omega) (some (.ref (bn+c))) x1 (some (qA (u,v)));refine⟨r,e,?_⟩;cases r with
  | nx l2 h2=>
   obtain⟨b2,st2,W2,g2,rfl,R2',kp,ll,q⟩:=er;have ne1:h1.length≠s:=by omega
   have ne2:h1.length≠w:=by omega
   refine⟨b2,st2,W2,g2,_,rfl,R2',?_,by rw[kp _ lq ne1 ne2];exact q',by omega,?_⟩
   · rcases q with⟨n,rfl,rfl,rfl,rfl,rfl⟩ | ⟨rfl,rfl,tt⟩
     · exact T7 og hx hy hz Fp n
     · exact U7 og hx hy hz dist Fp
   · rcases q with⟨n,rfl,rfl,rfl,rfl,rfl⟩ | ⟨rfl,rfl,tt⟩
     · exact mm
     · simp only[length_append,zdF,zdG];omega
  | rt d h2=>exact er
  | bk l2 h2=>exact er.elim
  | ct l2 h2=>exact er.elim) [some (.ref (bn+c)),x1,some (.ref s),some (.ref (b+c)),some (.ref w),some (qA (u,v)),x6] h2 ⟨b,st,W,g,x6,rfl,R2,T9 wt,q2,by rw[Eb];simp,zdS _⟩
 refine⟨r,?_,?_⟩
 · simp only[nK,XA,mB,Hz,rA,zdD,zdE,sA,nA,pk,YA,zdJ,zdK,YD,LD,eB,WA,MA,yC,N1,zdU,et,sk];exact e
 · cases r with
   | nx l' h'=>obtain⟨b',st',W',g',x6,rfl,R',Fp,q',lq,mm⟩:=er;rw[drop_length]at Fp;exact⟨b',st',W',g',_,_,rfl,R',Fp,by omega⟩
   | rt d h2=>exact er
   | bk l2 h2=>exact er.elim
   | ct l2 h2=>exact er.elim
theorem WP{h:HI}{c:Nat}(hc:c<=100){f:Nat->Nat->Nat}(of:VA c f){bn:Nat}{pd:Dt}(N:bf h bn c f){P:List (Nat×Nat)}(hp:∀e:HI,JD (h++e) pd=some (P.map qA))(pc:∀p∈P,p.1<c/\p.2<c/\p.1≠p.2)(wt:qD c f P [])(lP:P.length<=100000) :
 ∃d h',QH [.ref (bn+c),pd] h=some (d,h')/\NJ h c f d h':=by
 have tl:=KW c f;have hcc:c*(c*13)<=100*(100*13):=Nat.mul_le_mul hc (Nat.mul_le_mul_right 13 hc);have lN:=N.lt;have N1:=N.grow [.lst []];have em:=V6 N1 (show c<=1000 by omega);by_cases ne:VB c f=true
 · refine⟨.tup [.non,.ref h.length],h++[.lst []],?_,.non,h.length,[],f,rfl,zdS _,by simp,fun n hn=>by rw[zdQ hn],by simp,.nil,by simp,.inl ⟨rfl,ne⟩⟩;rw[ne]at em;simp only[QH,nM,xB,XA,mB,LG,MA,zdH,zdI,zdO,zdN,zdF,zdG,if_true,nA,YA,Nat.reduceAdd,Nat.reduceSub,List.replicate,zdJ,zdK,kH,Nat.zero_le,OB,jB,eB,WA,rA,zdD,zdE,sA,zdU,em,uB,EB,pE,JA,iF];simp
 · have ne':VB c f=false:=by simpa using ne
   rw[ne']at em;obtain⟨h1,hh1⟩:∃h1:HI,h1=h++[.lst []]:=⟨_,rfl⟩
   rw[<- hh1]at em N1;have len1:h1.length=h.length+1:=by rw[hh1];simp
   have cp:=gW (te:=NU) rfl N1 (show c<=1000 by omega) [none] (by simp);have en:(h1++(List.range c).map fun i=>Ob.lst (JC c (f i)))++[Ob.lst (mF h1.length c)]=h1++MC h1.length c f:=by rw[append_assoc];rfl
   have el:(h1++(List.range c).map fun i=>Ob.lst (JC c (f i))).length=h1.length+c:=by simp
   obtain⟨h2,Eb⟩:∃h2:HI,h2=h1++MC h1.length c f:=⟨_,rfl⟩
   have BD:h2.length=h1.length+(c+1):=by rw[Eb,length_append,mV]
   have C2:bf h2 h1.length c f:=Eb ▸ CF h1 c f;have hp2:JD h2 pd=some (P.map qA):=by rw[Eb,hh1,append_assoc];exact hp _
   have fl:XE pd h2=some (.ref h2.length,h2++[.lst (P.map qA)]):=by simp only[XE,hp2,zdL]
   obtain⟨h3,hh3⟩:∃h3:HI,h3=h2++[.lst (P.map qA)]:=⟨_,rfl⟩
   rw[<- hh3]at fl;have R:Rm h c f h.length h2.length h1.length [] P f h3:={
    low:=fun n hn=>by rw[hh3,zdQ (by omega),Eb,zdQ (by omega),hh1,zdQ hn]
    len:=by rw[hh3];simp;omega
    hs:=by rw[hh3,zdQ (by omega),Eb,zdQ (by omega),hh1];simp
    hw:=by rw[hh3];simp
    net:=hh3 ▸ C2.grow _
    s0:=zdS _
    w0:=by omega
    b0:=by omega
    sw:=by omega
    sb:=.inl (by omega)
    wb:=.inr (by omega)
    run:=.nil
    ne:=ne'
    sm:=by simp
    wc:=pc }
   obtain⟨r,e,er⟩:=ZV (t:=cK) (body:=nK) (fun m l' h'=>∃b' st' W' g' x5 x6,l'=[some (.ref (bn+c)),some pd,some (.ref h.length),some (.ref (b'+c)),some (.ref h2.length),x5,x6]/\Rm h c f h.length h2.length b' st' W' g' h'/\qD c g' W' []/\m=2*uE c g'+W'.length/\m<=1000000)
    (fun l' h'=>∃b' st' g' x5 x6,l'=[some (.ref (bn+c)),some pd,some (.ref h.length),some (.ref (b'+c)),some (.ref h2.length),x5,x6]/\Rm h c f h.length h2.length b' st' [] g' h'/\gF c g') (NJ h c f) (by
    rintro m l' h' ⟨b',st',W',g',x5,x6,rfl,R',Fp,rfl,lm⟩;have nn:=Lw R'.hw;cases W' with
    | nil=>
     refine⟨false,h',?_,?_⟩
     · simp only[cK,jB,FA,rA,gI,MA,zdD,zdE,sA,nA,zdG,kH,Nat.zero_le,if_true,nn,uB];rfl
     · rw[if_neg zdR];exact⟨b',st',g',x5,x6,rfl,R',A5 Fp⟩
    | cons p W'=>
     obtain⟨u,v⟩:=p;refine⟨true,h',?_,?_⟩
     · simp only[cK,jB,FA,rA,gI,MA,zdD,zdE,sA,nA,zdG,kH,Nat.zero_le,if_true,nn,uB];rfl
     · rw[if_pos rfl];obtain⟨r,e,er⟩:=Xx hc of N R' Fp (some pd) x5 x6 lm;refine⟨r,e,?_⟩;cases r with
       | nx l2 h2=>obtain⟨b2,st2,W2,g2,y5,y6,rfl,R2,wt2,mm⟩:=er;exact⟨_,mm,b2,st2,W2,g2,y5,y6,rfl,R2,wt2,rfl,by simp only[zdF]at lm;omega⟩
       | rt d h2=>exact er
       | bk l2 h2=>exact er.elim
       | ct l2 h2=>exact er.elim) 1000000 (2*uE c f+P.length) [some (.ref (bn+c)),some pd,some (.ref h.length),some (.ref (h1.length+c)),some (.ref h2.length),none,none] h3 ⟨h1.length,[],P,f,none,none,rfl,R,wt,rfl,by omega⟩ (by omega)
   have go:∀(k:Rs->Option Rs),QH [.ref (bn+c),pd] h=UG (cB (jF cK nK 1000000 [some (.ref (bn+c)),some pd,some (.ref h.length),some (.ref (h1.length+c)),some (.ref h2.length),none,none] h3) (JZ (HA (rB (bA (eV 3) (bA (eV 2) fA)))))):=by intro _;simp only[QH,nM,xB,XA,mB,LG,MA,zdH,zdI,zdO,zdN,zdF,zdG,if_true,nA,YA,Nat.reduceAdd,Nat.reduceSub,List.replicate,zdJ,zdK,kH,Nat.zero_le,OB,jB,eB,WA,rA,zdD,zdE,sA,zdU];rw[<- hh1];simp only[em,nA,uB,zdV,if_false,YC,YA,XA,mB,UR,LD,rA,zdD,zdE,sA,N1.seq,nF,rF,cp,en,el,zdJ,zdK,yC];rw[<- Eb];simp only[fl,nA,YA,XA,Iz,zdJ,zdK]
   rw[go some,e,nA];cases r with
   | nx l' h'=>obtain⟨b',st',g',x5,x6,rfl,R',cl⟩:=er;refine⟨.tup [.ref (b'+c),.ref h.length],h',?_,.ref (b'+c),h.length,st',g',rfl,R'.s0,R'.len,R'.low,R'.hs,R'.run,by have:=R'.sm;omega,.inr ⟨b',rfl,R'.b0,R'.net,cl,R'.ne,R'.sb⟩⟩;simp
   | rt d h'=>exact⟨d,h',by simp,er⟩
   | bk l2 h2=>exact er.elim
   | ct l2 h2=>exact er.elim
def zH(c:Nat)(m f:Nat->Nat->Nat):Prop:=∀i<c,∀j<c,Rf (m i j) (f i j)
theorem Rf.antisymm{a b:Nat}(h1:Rf a b)(h2:Rf b a):a=b:=by unfold Rf at h1 h2;rw[Nat.and_comm]at h2;exact h1.symm.trans h2
theorem Steps.sub{c:Nat}{f g:Nat->Nat->Nat}{st:List (Nat×Nat×Nat)}(h:Steps c f st g)(o:VA c f):zH c g f:=by
 induction h with
 | nil=>exact fun i _ j _=>Rf.refl _
 | snoc h hi hk hj d ne n ih=>exact fun a ha b hb=>(cS (h.ok o) hi hj d.2.2 a b).trans (ih a ha b hb)
theorem Steps.keeps{c:Nat}{f g m:Nat->Nat->Nat}{st:List (Nat×Nat×Nat)}(h:Steps c f st g)(om:VA c m)(cm:gF c m)(s:zH c m f):zH c m g:=by
 induction h with
 | nil=>exact s
 | @snoc st g i k j h hi hk hj d ne n ih=>
  have l:Rf (m i j) (Ef g i k j):=by have:=cm i hi k hk j hj d;unfold Ef at this ⊢;exact nj (ih i hi j hj) ((show Rf (m i j) (CI (m i k) (m k j))from this).trans (i9 (ih i hi k hk) (ih k hk j hj)))
  intro a ha b hb;by_cases h1:a=i/\b=j
  · obtain⟨rfl,rfl⟩:=h1;rw[HG g d.2.2];exact l
  · by_cases h2:a=j/\b=i
    · obtain⟨rfl,rfl⟩:=h2;rw[bS,om.tn b hi a hj];exact IR l
    · rw[CG g h1 h2];exact ih a ha b hb
theorem Steps.diag{c:Nat}{f g:Nat->Nat->Nat}{st:List (Nat×Nat×Nat)}(h:Steps c f st g)(d0:∀i<c,f i i=64):∀i<c,g i i=64:=by
 induction h with
 | nil=>exact d0
 | snoc h hi hk hj d ne n ih=>intro a ha;rw[CG _ (fun q=>d.2.2 (q.1.symm.trans q.2)) (fun q=>d.2.2 (q.2.symm.trans q.1))];exact ih a ha
structure zm(c:Nat)(p q:Nat->Nat):Prop where
 pl:∀i<c,p i<c
 ql:∀i<c,q i<c
 qp:∀i<c,q (p i)=i
 pq:∀i<c,p (q i)=i
theorem zm.symm{c:Nat}{p q:Nat->Nat}(P:zm c p q):zm c q p:=⟨P.ql,P.pl,P.pq,P.qp⟩
noncomputable def Up(h h':HI):Prop:=h.length<=h'.length/\∀n,n<h.length->h'[n]?=h[n]?
theorem Up.refl(h:HI):Up h h:=⟨zdS _,fun _ _=>rfl⟩
theorem Up.trans{h h1 h2:HI}(a:Up h h1)(b:Up h1 h2):Up h h2:=⟨Nat.le_trans a.1 b.1,fun n hn=>by rw[b.2 n (by have:=a.1;omega),a.2 n hn]⟩
theorem Up.app(h e:HI):Up h (h++e):=⟨by simp,fun n hn=>zdQ hn⟩
theorem Up.net{h h':HI}(u:Up h h'){b c:Nat}{f:Nat->Nat->Nat}(N:bf h b c f):bf h' b c f:=by have:=N.lt;exact⟨fun i hi=>by rw[u.2 _ (by omega)];exact N.row i hi,by rw[u.2 _ this];exact N.top⟩
theorem Up.get{h h':HI}(u:Up h h'){n:Nat}{o:Ob}(e:h[n]?=some o):h'[n]?=some o:=by rw[u.2 n (zdP e).1];exact e
noncomputable def qG(p q:Nat)(a mx mn:Int):List Bd:=(if mx<=a then [(p,q,if mx<a then -1 else 0)]else [])++(if a<=mn then [(q,p,if a<mn then -1 else 0)]else [])
theorem SU(p q:Nat)(a:Int){seen:List Int}(hs:seen ≠ [])(h:HI):PH [.int (p:Nat),.int (q:Nat),.int a,.lst (seen.map Dt.int)] h=some (.ref h.length,h++[.lst ((qG p q a (CC seen) (QB seen)).map gA)]):=by
 have e1:=fun h=>zT (h:=h) hs
 have em:=fun h=>AT (h:=h) hs
 generalize CC seen=mx at e1;generalize QB seen=mn at em;have ap:=fun(l:LI) (xs:List Bd) (g:RE) (d:Bd) (c:xs.length<5) (eg:g l (h++[.lst (xs.map gA)])=some (gA d,h++[.lst (xs.map gA)]))=>FG (h:=h++[.lst (xs.map gA)]) (l:=l) (n:=h.length) (ys:=xs.map gA) (xs:=xs.map gA) (d:=gA d) (by simp) eg (by simp) (by simp;omega)
 have es:∀(xs:List Bd)(d:Bd),(h++[Ob.lst (xs.map gA)]).set h.length (.lst (xs.map gA++[gA d]))=h++[.lst ((xs++[d]).map gA)]:=fun xs d=>by simp
 have first:∀l2:LI,l2=[some (.int (p:Nat)),some (.int (q:Nat)),some (.int a),some (.lst (seen.map Dt.int)),some (.ref h.length)]->bE (Wf (e2 LH (GC UF (eV 3)) (eV 2))) (TD (IE (eV 4) (rB (bA (eV 0) (bA (eV 1) (bA (TL (Wf (e2 HL (GC UF (eV 3)) (eV 2))) (FE (eC (.int 1))) (eC (.int 0))) (fA))))))) (TB) l2 (h++[.lst []]) =
  some (.nx l2 (h++[.lst ((if mx<=a then [((p,q,if mx<a then -1 else 0):Bd)]else []).map gA)])):=fun l2 hl2=>by
  subst hl2;by_cases c1:mx<=a
  · have g:=ap [some (.int (p:Nat)),some (.int (q:Nat)),some (.int a),some (.lst (seen.map Dt.int)),some (.ref h.length)] [] (rB (bA (eV 0) (bA (eV 1) (bA (TL (Wf (e2 HL (GC UF (eV 3)) (eV 2))) (FE (eC (.int 1))) (eC (.int 0))) (fA))))) (p,q,if mx<a then -1 else 0) (by simp) (by
     by_cases c2:mx<a<;>simp[e1,c2,gA])
    rw[es]at g;simp only[zdI,zdN]at g;simp only[OB,jB,FA,yC,rA,zdD,zdE,sA,nA,e1,xU,uB,c1,decide_true,if_true,JE,JF,g]
  · simp[e1,c1]
 have second:∀(xs:List Bd),xs.length<5->bE (Wf (e2 fP (GC VF (eV 3)) (eV 2))) (TD (IE (eV 4) (rB (bA (eV 1) (bA (eV 0) (bA (TL (Wf (e2 rL (GC VF (eV 3)) (eV 2))) (FE (eC (.int 1))) (eC (.int 0))) (fA))))))) (TB) [some (.int (p:Nat)),some (.int (q:Nat)),some (.int a),some (.lst (seen.map Dt.int)),some (.ref h.length)] (h++[.lst (xs.map gA)]) =
  some (.nx [some (.int (p:Nat)),some (.int (q:Nat)),some (.int a),some (.lst (seen.map Dt.int)),some (.ref h.length)] (h++[.lst ((xs++if a<=mn then [((q,p,if a<mn then -1 else 0):Bd)]else []).map gA)])):=fun xs hx=>by
  by_cases c1:a<=mn
  · have g:=ap [some (.int (p:Nat)),some (.int (q:Nat)),some (.int a),some (.lst (seen.map Dt.int)),some (.ref h.length)] xs (rB (bA (eV 1) (bA (eV 0) (bA (TL (Wf (e2 rL (GC VF (eV 3)) (eV 2))) (FE (eC (.int 1))) (eC (.int 0))) (fA))))) (q,p,if a<mn then -1 else 0) hx (by
     by_cases c2:a<mn<;>simp[em,c2,gA])
    rw[es]at g;simp only[OB,jB,FA,yC,rA,zdD,zdE,sA,nA,em,JL,uB,c1,decide_true,if_true,JE,JF,g]
  · simp[em,c1]
 have f1:=first _ rfl
 have f2:=second (if mx<=a then [((p,q,if mx<a then -1 else 0):Bd)]else []) (by split<;>simp);unfold qG;simp only[PH,DP,xB,zdF,zdG,if_true,zdH,zdI,Nat.reduceAdd,Nat.reduceSub,List.replicate,zdO,zdN,XA,mB,LG,MA,nA,Nat.zero_le,kH,zdK,zdJ,YA,f1,f2,EB,rA,zdD,zdE,sA,KB]
def pz(w:Nat):Nat×Nat:=Ad.getD w (0,0)
theorem ON{w:Nat}(hw:w<13)(h:HI):ZH [.int w] h=some (pr (pz w),h):=by rcases o0 hw with rfl | rfl | rfl | rfl | rfl | rfl | rfl | rfl | rfl | rfl | rfl | rfl | rfl<;>kernel_rfl
def zs(side w:Nat):Int:=if side=0 then((pz w).1:Int)else((pz w).2:Int)
def MB(side m:Nat):List Int:=(BA m).map (zs side)
theorem AX{side m:Nat}(hm:BA m ≠ []):MB side m ≠ []:=by unfold MB;intro z;exact hm (map_eq_nil_iff.mp z)
def KE(i j side m:Nat):List Bd:=qG (2*i+side) (2*j) 1 (CC (MB side m)) (QB (MB side m))++qG (2*i+side) (2*j+1) 3 (CC (MB side m)) (QB (MB side m))
theorem WX{c:Prop}[Decidable c](x:Bd):(if c then [x]else []).length<=1:=by split<;>simp
theorem DS(p q:Nat)(a mx mn:Int):(qG p q a mx mn).length<=2:=by unfold qG;rw[length_append];exact Nat.add_le_add (WX _) (WX _)
theorem PY{h:HI}{F G:List Bd}{rest:List Ob}{l:LI}{g:RE}(c:F.length+G.length<=100000)(eg:g l (h++.lst (F.map gA)::rest)=some (.ref (h++.lst (F.map gA)::rest).length,(h++.lst (F.map gA)::rest)++[.lst (G.map gA)])) :
 OJ g l (.ref h.length,h++.lst (F.map gA)::rest)=some (.non,h++.lst ((F++G).map gA)::(rest++[.lst (G.map gA)])):=by
 have e0:(h++Ob.lst (F.map gA)::rest)[h.length]?=some (.lst (F.map gA)):=by simp
 have e1:((h++Ob.lst (F.map gA)::rest)++[Ob.lst (G.map gA)])[h.length]?=some (.lst (F.map gA)):=by rw[zdQ (by simp)];exact e0
 have e2:((h++Ob.lst (F.map gA)::rest)++[Ob.lst (G.map gA)])[(h++Ob.lst (F.map gA)::rest).length]?=some (.lst (G.map gA)):=by rw[zdT (zdS _),Nat.sub_self];rfl
 rw[uW e0 eg e1 e2 (by simp;omega)];simp
theorem PV(i j m side:Nat)(hs:side=0\/side=1)(hi:i<=1000)(hj:j<=1000)(hm:BA m ≠ [])(h:HI)(F:List Bd)(hF:F.length<=1000)(rest:List Ob)(y5:Option Dt):∃y rest',lK [some (.int (i:Nat)),some (.int (m:Nat)),some (.int (j:Nat)),some (.ref h.length),some (.int (side:Nat)),y5] (h++.lst (F.map gA)::rest) =
 some (.nx [some (.int (i:Nat)),some (.int (m:Nat)),some (.int (j:Nat)),some (.ref h.length),some (.int (side:Nat)),y] (h++.lst ((F++KE i j side m).map gA)::rest')):=by
 have ew:=fun h=>bJ m h
 have wl:∀k∈BA m,k<13:=fun k hk=>mem_range.mp (mem_filter.mp hk).1
 have ln:((BA m).map fun(k:Nat)=>Dt.int (k:Int)).length<sizeLine:=by have:(BA m).length<=13:=Nat.le_trans (length_filter_le _ _) (by simp);simp;omega
 have ec:=ZF (te:=jK) (tc:=DB) (i:=0) (fun(k:Nat)=>Dt.int (k:Int)) (fun k=>Dt.int (zs side k)) (h++.lst (F.map gA)::rest) (BA m) [none,some (.int (side:Nat))] (by
  intro k hk;have ez:=ON (wl k hk) (h++.lst (F.map gA)::rest);refine⟨by simp,?_⟩;rcases hs with rfl | rfl
  · simp[jK,ez,pr,zs]
  · simp[jK,ez,pr,zs])
 have ek:=fF (l:=[none,some (.int (side:Nat))]) (h:=h++.lst (F.map gA)::rest) (CA 0) DB jK ln;rw[ec]at ek;have sl:(BA m).map (fun k=>Dt.int (zs side k))=(MB side m).map Dt.int:=by unfold MB;rw[map_map];rfl
 rw[sl]at ek;have hp:=fun h=>SU (2*i+side) (2*j) 1 (AX (side:=side) hm) h
 have hq:=fun h=>SU (2*i+side) (2*j+1) 3 (AX (side:=side) hm) h
 have pl:∀p q a mx mn,(qG p q a mx mn).length<=2:=DS
 have u:=fun(i:Int) (h:HI)=>PF (h:=h) (i:=2) (j:=i) (Or.inl ⟨by decide,by decide⟩)
 have ca:(2:Int)*(i:Int)+(side:Int)=((2*i+side:Nat):Int):=by omega
 have cb:(2:Int)*(j:Int)=((2*j:Nat):Int):=by omega
 have cc:((2*j:Nat):Int)+1=((2*j+1:Nat):Int):=by omega
 have x1:=PY (h:=h) (F:=F) (G:=qG (2*i+side) (2*j) 1 (CC (MB side m)) (QB (MB side m))) (rest:=rest) (l:=[some (.int (i:Nat)),some (.int (m:Nat)),some (.int (j:Nat)),some (.ref h.length),some (.int (side:Nat)),some (.lst ((MB side m).map Dt.int))])
  (g:=wA PH [] (bA (e2 YB (e2 TC (eC (.int 2)) (eV 0)) (eV 4)) (bA (e2 TC (eC (.int 2)) (eV 2)) (bA (eC (.int 1)) (bA (eV 5) (fA)))))) (by have:=pl (2*i+side) (2*j) 1 (CC (MB side m)) (QB (MB side m));omega) (by
   simp only[eB,WA,MA,FA,JA,rA,zdD,zdE,sA,nA,u,tE,ca,cb,zdU];exact hp _)
 have x2:=PY (h:=h) (F:=F++qG (2*i+side) (2*j) 1 (CC (MB side m)) (QB (MB side m))) (G:=qG (2*i+side) (2*j+1) 3 (CC (MB side m)) (QB (MB side m))) (rest:=rest++[.lst ((qG (2*i+side) (2*j) 1 (CC (MB side m)) (QB (MB side m))).map gA)]) (l:=[some (.int (i:Nat)),some (.int (m:Nat)),some (.int (j:Nat)),some (.ref h.length),some (.int (side:Nat)),some (.lst ((MB side m).map Dt.int))])
  (g:=wA PH [] (bA (e2 YB (e2 TC (eC (.int 2)) (eV 0)) (eV 4)) (bA (e2 YB (e2 TC (eC (.int 2)) (eV 2)) (eC (.int 1))) (bA (eC (.int 3)) (bA (eV 5) (fA)))))) (by have:=pl (2*i+side) (2*j) 1 (CC (MB side m)) (QB (MB side m));have:=pl (2*i+side) (2*j+1) 3 (CC (MB side m)) (QB (MB side m));simp;omega) (by
   simp only[eB,WA,MA,FA,JA,rA,zdD,zdE,sA,nA,u,tE,ca,cb,cc,zdU];exact hq _)
 refine⟨some (.lst ((MB side m).map Dt.int)),rest++[.lst ((qG (2*i+side) (2*j) 1 (CC (MB side m)) (QB (MB side m))).map gA)]++[.lst ((qG (2*i+side) (2*j+1) 3 (CC (MB side m)) (QB (MB side m))).map gA)],?_⟩;unfold KE;rw[<- append_assoc];simp only[lK,XA,mB,GG,LD,eB,WA,MA,rA,zdD,zdE,sA,nA,zdU,ew,EG,nF,jJ,rF,Option.join,zdM,id,ek,zdK,zdJ,YA,JE,yN,x1,x2]
theorem YH(i j side m:Nat):(KE i j side m).length<=4:=by unfold KE;rw[length_append];have h1:=DS (2*i+side) (2*j) 1 (CC (MB side m)) (QB (MB side m));have h2:=DS (2*i+side) (2*j+1) 3 (CC (MB side m)) (QB (MB side m));omega
def rC(i m j:Nat):List Bd:=KE i j 0 m++KE i j 1 m
theorem XU(i m j:Nat)(hi:i<=1000)(hj:j<=1000)(hm:BA m ≠ [])(h:HI):∃rest,YI [.int (i:Nat),.int (m:Nat),.int (j:Nat)] h=some (.ref h.length,h++.lst ((rC i m j).map gA)::rest):=by
 obtain⟨y1,r1,e1⟩:=PV i j m 0 (.inl rfl) hi hj hm h [] (by simp) [] none;obtain⟨y2,r2,e2⟩:=PV i j m 1 (.inr rfl) hi hj hm h (KE i j 0 m) (by have:=YH i j 0 m;omega) r1 y1;have er:IZ (.int 2,h++[.lst []])=some (.vals [.int 0,.int 1],h++[.lst []]):=by rw[FF (by decide) (by decide)];rfl
 refine⟨r2,?_⟩;have e1':lK [some (.int (i:Nat)),some (.int (m:Nat)),some (.int (j:Nat)),some (.ref h.length),some (.int 0),none] (h++[.lst []])=some (.nx [some (.int (i:Nat)),some (.int (m:Nat)),some (.int (j:Nat)),some (.ref h.length),some (.int 0),y1] (h++.lst ((KE i j 0 m).map gA)::r1)):=e1;have e2':lK [some (.int (i:Nat)),some (.int (m:Nat)),some (.int (j:Nat)),some (.ref h.length),some (.int 1),y1] (h++.lst ((KE i j 0 m).map gA)::r1)=some (.nx [some (.int (i:Nat)),some (.int (m:Nat)),some (.int (j:Nat)),some (.ref h.length),some (.int 1),y2] (h++.lst ((rC i m j).map gA)::r2)):=e2;simp[YI,cQ,er,wC,e1',e2']
theorem Q3(i:Nat)(lo hi:Int){g:Nat}(hg:g<=1000)(h:HI):oK [.tup [.int (i:Nat),.int lo,.int hi],.int (g:Nat)] h=some (.ref h.length,h++[.lst (([(2*i,2*i+1,-lo*g),(2*i+1,2*i,hi*g)]:List Bd).map gA)]):=by
 have u:=fun(h:HI)=>PF (h:=h) (i:=2) (j:=(i:Int)) (Or.inl ⟨by decide,by decide⟩)
 have v:=fun(x:Int) (h:HI)=>PF (h:=h) (i:=x) (j:=(g:Int)) (Or.inr ⟨by omega,by omega⟩)
 simp[oK,QP,u,v,gA]
noncomputable abbrev Ln:=Nat×Int×Int
noncomputable def hC(x:Ln):Dt:=.tup [.int (x.1:Nat),.int x.2.1,.int x.2.2]
noncomputable def xC(g:Nat)(x:Ln):List Bd:=[(2*x.1,2*x.1+1,-x.2.1*g),(2*x.1+1,2*x.1,x.2.2*g)]
noncomputable def XG(c:Nat)(N:Nat->Nat->Nat):List Dt:=(List.range c).map fun i=>.lst ((List.range c).map fun j=>.int ((N i j:Nat):Int))
noncomputable def VC(c:Nat):List Bd:=(List.range c).map fun i=>(2*i,2*i+1,-1)
def rD(c:Nat)(N:Nat->Nat->Nat)(ls:List Ln):List Bd:=VC c++ls.flatMap (xC (2*c+1))++(AA c).flatMap fun p=>rC p.1 (N p.1 p.2) p.2
theorem sS{h:HI}{F G:List Bd}{rest Yb:List Ob}{l:LI}{g:RE}(c:F.length+G.length<=100000)(eg:g l (h++.lst (F.map gA)::rest)=some (.ref (h++.lst (F.map gA)::rest).length,(h++.lst (F.map gA)::rest)++.lst (G.map gA)::Yb)) :
 OJ g l (.ref h.length,h++.lst (F.map gA)::rest)=some (.non,h++.lst ((F++G).map gA)::(rest++.lst (G.map gA)::Yb)):=by
 have e0:(h++Ob.lst (F.map gA)::rest)[h.length]?=some (.lst (F.map gA)):=by simp
 have e1:((h++Ob.lst (F.map gA)::rest)++Ob.lst (G.map gA)::Yb)[h.length]?=some (.lst (F.map gA)):=by rw[zdQ (by simp)];exact e0
 have e2:((h++Ob.lst (F.map gA)::rest)++Ob.lst (G.map gA)::Yb)[(h++Ob.lst (F.map gA)::rest).length]?=some (.lst (G.map gA)):=by rw[zdT (zdS _),Nat.sub_self];rfl
 rw[uW e0 eg e1 e2 (by simp;omega)];simp
theorem cJ{α β:Type}(f:α->List β){xs:List α}{k:Nat}{x:α}(hx:xs[k]?=some x):(xs.take (k+1)).flatMap f=(xs.take k).flatMap f++f x:=by rw[take_add_one,hx,flatMap_append];simp
theorem iz(c:Nat)(h:HI):GK [.int (c:Nat)] h=some (.int ((2*c+1:Nat):Int),h):=by
 have u:=fun(h:HI)=>PF (h:=h) (i:=2) (j:=(c:Int)) (Or.inl ⟨by decide,by decide⟩)
 simp[GK,FS,u]
theorem ur{c b:Nat}(hc:c<=100){N:Nat->Nat->Nat}(hN:∀i j,BA (N i j) ≠ []){h:HI}{F:List Bd}(hF:F.length<=3000){r0:List Ob}(db:∀G:List Bd,∀r2:List Ob,(h++.lst (G.map gA)::(r0++r2))[b]?=some (.lst ((AA c).map qA)))(x1 y3:Option Dt)(pl:(AA c).length<=10000)(pin:∀p∈AA c,p.1<c/\p.2<c) :
 ∃y rest,xE (CA 4) RH [some (.lst (XG c N)),x1,some (.ref h.length),y3,none] (.rf b,h++.lst (F.map gA)::r0) =
 some (.nx [some (.lst (XG c N)),x1,some (.ref h.length),y3,y] (h++.lst ((F++(AA c).flatMap fun p=>rC p.1 (N p.1 p.2) p.2).map gA)::rest)):=by
 obtain⟨l',h',e,⟨y,rfl⟩,r2,rfl,_⟩:=BO (i:=4) (n:=b) (body:=RH) qA (fun k l h'=>(∃y,l=[some (.lst (XG c N)),x1,some (.ref h.length),y3,y])/\∃r2,h'=h++.lst ((F++((AA c).take k).flatMap fun p=>rC p.1 (N p.1 p.2) p.2).map gA)::(r0++r2)/\(((AA c).take k).flatMap fun p=>rC p.1 (N p.1 p.2) p.2).length<=8*k) (AA c) (by
  rintro k l h' ⟨_,r2,rfl,_⟩;exact db _ r2) (by
  rintro k x hx l h' ⟨⟨y,rfl⟩,r2,rfl,hk⟩;have kl:k<(AA c).length:=(zdP hx).1;obtain⟨p1,p2⟩:=pin x (mem_of_getElem? hx);have l8:(rC x.1 (N x.1 x.2) x.2).length<=8:=by unfold rC;rw[length_append];have:=YH x.1 x.2 0 (N x.1 x.2);have:=YH x.1 x.2 1 (N x.1 x.2);omega
  obtain⟨rs,eb⟩:=XU x.1 (N x.1 x.2) x.2 (by omega) (by omega) (hN _ _) (h++.lst ((F++((AA c).take k).flatMap fun p=>rC p.1 (N p.1 p.2) p.2).map gA)::(r0++r2));have n1:(XG c N)[x.1]?=some (.lst ((List.range c).map fun j=>.int ((N x.1 j:Nat):Int))):=by simp[XG,p1]
  have n2:((List.range c).map fun j=>Dt.int ((N x.1 j:Nat):Int))[x.2]?=some (.int ((N x.1 x.2:Nat):Int)):=by simp[p2]
  have xx:=sS (h:=h) (F:=F++((AA c).take k).flatMap fun p=>rC p.1 (N p.1 p.2) p.2) (G:=rC x.1 (N x.1 x.2) x.2) (rest:=r0++r2) (Yb:=rs) (l:=[some (.lst (XG c N)),x1,some (.ref h.length),y3,some (qA x)]) (g:=wA YI [] (bA (e2 pA (eV 4) (eC (.int 0))) (bA (e2 pA (e2 pA (eV 0) (e2 pA (eV 4) (eC (.int 0)))) (e2 pA (eV 4) (eC (.int 1)))) (bA (e2 pA (eV 4) (eC (.int 1))) (fA))))) (by rw[length_append];omega) (by
   simp only[eB,WA,MA,FA,JA,rA,zdD,zdE,sA,nA,qA,HB,RB,OD,zdL,dL,SM.OC,n1,n2,zdU];exact eb)
  refine⟨.nx [some (.lst (XG c N)),x1,some (.ref h.length),y3,some (qA x)] (h++.lst ((F++((AA c).take (k+1)).flatMap fun p=>rC p.1 (N p.1 p.2) p.2).map gA)::(r0++(r2++.lst ((rC x.1 (N x.1 x.2) x.2).map gA)::rs))),?_,⟨_,rfl⟩,_,rfl,?_⟩
  · rw[cJ _ hx,<- append_assoc,<- append_assoc];simp only[RH,JE,yN,rA,zdK,zdJ,zdD,zdE,sA,nA,xx]
  · rw[cJ _ hx,length_append];omega) [some (.lst (XG c N)),x1,some (.ref h.length),y3,none] (h++.lst (F.map gA)::r0) ⟨⟨_,rfl⟩,[],by simp,by simp⟩
 rw[take_length]at e;exact⟨y,_,e⟩
theorem TR{c:Nat}{p:Nat×Nat}(h:p∈AA c):p.1<c/\p.2<c:=by unfold AA QC at h;obtain⟨i,hi,h⟩:=mem_flatMap.mp h;obtain⟨k,hk,rfl⟩:=mem_map.mp h;have:=mem_range.mp hi;have:=mem_range.mp hk;exact⟨by omega,by show i+1+k<c;omega⟩
theorem p6{c i:Nat}(hi:i<c):List.replicate i (Dt.int 8191)++[Dt.int 64]++List.replicate (c-i-1) (Dt.int 8191)=JC c (PB i):=by
 apply ext_getElem?;intro k;by_cases hk:k<c
 · rw[MK hk];rcases Nat.lt_trichotomy k i with h | h | h
   · rw[append_assoc,zdQ (by simpa using h)];have:¬i=k:=by omega
     simp[h,PB,this]
   · subst h;rw[append_assoc,zdT (by simp)];simp[PB]
   · rw[zdT (by simp;omega)];have:¬i=k:=by omega
     have q:k-(i+1)<c-i-1:=by omega
     simp[PB,this,getElem?_replicate,q]
 · rw[getElem?_eq_none (by simp;omega),getElem?_eq_none (by rw[zN];omega)]
theorem u6{c i:Nat}(hi:i<c)(hc:c<=1000)(h:HI):PM [.int (c:Nat),.int (i:Nat)] h=some (.ref h.length,h++[.lst (JC c (PB i))]):=by
 have e1:=ZW (h:=h) (Dt.int 8191) (show i<=1000000 by omega);have e2:=ZW (h:=h) (Dt.int 8191) (show c-i-1<=1000000 by omega);have ec:(c:Int)-(i:Int)-1=((c-i-1:Nat):Int):=by omega
 have e3:=Gg (h:=h) (xs:=List.replicate i (Dt.int 8191)) (ys:=[Dt.int 64]) (by simp;omega);have e4:tO (.lst (List.replicate i (Dt.int 8191)++[Dt.int 64])) (.lst (List.replicate (c-i-1) (Dt.int 8191))) h=some (.ref h.length,h++[.lst (List.replicate i (Dt.int 8191)++[Dt.int 64]++List.replicate (c-i-1) (Dt.int 8191))]):=by simp only[tO,JB,zdM];rw[if_pos (by simp;omega)]
 rw[p6 hi]at e4;simp[PM,XQ,e1,ec,e2,e3,e4]
theorem rY{c:Nat}(hc:c<=1000)(h:HI):YK [.int (c:Nat)] h=some (.ref (h.length+c),h++MC h.length c PB):=by
 have er:=FF (h:=h) (show(-(2^62):Int)<=(c:Int) by omega) (show(c:Int)<2^62 by omega);simp only[Int.toNat_natCast]at er;have hn:=fR (te:=DR) (i:=0) (fun(k:Nat)=>Dt.int (k:Int)) (fun i=>Ob.lst (JC c (PB i))) h (List.range c) [none,some (.int (c:Nat))] [] (by
  intro k hk e;have:=u6 (mem_range.mp hk) hc (h++e);simp[DR,this])
 rw[zdU,length_range]at hn;have hs:((List.range c).map fun(k:Nat)=>Dt.int (k:Int)).length<sizeLine:=by simp;omega
 simp[YK,US,er,fF _ _ _ hs,hn,MC,mF]
noncomputable def gb(h h':HI):Prop:=h.length<=h'.length/\∀(n:Nat)(xs:List Dt),h[n]?=some (.lst xs)->h'[n]?=some (.lst xs)
theorem gb.refl(h:HI):gb h h:=⟨zdS _,fun _ _ e=>e⟩
theorem gb.trans{h h1 h2:HI}(a:gb h h1)(b:gb h1 h2):gb h h2:=⟨Nat.le_trans a.1 b.1,fun n xs e=>b.2 n xs (a.2 n xs e)⟩
theorem Up.l{h h':HI}(u:Up h h'):gb h h':=⟨u.1,fun _ _ e=>u.get e⟩
theorem gb.app(h e:HI):gb h (h++e):=(Up.app h e).l
theorem gb.net{h h':HI}(u:gb h h'){b c:Nat}{f:Nat->Nat->Nat}(N:bf h b c f):bf h' b c f:=⟨fun i hi=>u.2 _ _ (N.row i hi),u.2 _ _ N.top⟩
theorem gb.set{h:HI}{n:Nat}{x:Str}{fs fs':List (Str×Dt)}(e:h[n]?=some (.ins x fs)):gb h (h.set n (.ins x fs')):=by
 refine⟨by simp,fun k xs q=>?_⟩;rw[getElem?_set];by_cases z:n=k
 · subst z;rw[e]at q;cases q
 · rw[if_neg z];exact q
noncomputable abbrev XB:=Nat×Nat×Nat
noncomputable def QA (m:XB):Dt:=.tup [.str "ways", .int (m.1:Nat),.int (m.2.1:Nat),.int (m.2.2:Nat)]
noncomputable def FD(c:Nat)(m:XB):Prop:=m.1<c/\m.2.2<c/\m.1≠m.2.2/\m.2.1<8192
def Zn(h:HI)(d:Dt)(g:List XB):Prop:=∃n,d=.ref n/\h[n]?=some (.lst (g.map QA))
theorem Zn.up{h h':HI}{d:Dt}{g:List XB}(q:Zn h d g)(u:gb h h'):Zn h' d g:=by obtain⟨n,e,q⟩:=q;exact⟨n,e,u.2 _ _ q⟩
noncomputable def SC(c:Nat)(g:Nat->Nat->Nat):Nat->Nat->Nat:=fun i j=>if i<c/\j<c then g i j else 0
theorem NE{c:Nat}(g:Nat->Nat->Nat){i j:Nat}(hi:i<c)(hj:j<c):SC c g i j=g i j:=if_pos ⟨hi,hj⟩
theorem A7{c:Nat}{g g':Nat->Nat->Nat}(e:∀i<c,∀j<c,g i j=g' i j):SC c g=SC c g':=by
 funext i j
 unfold SC;split
 · rename_i q;exact e i q.1 j q.2
 · rfl
theorem Ux{h:HI}{b c:Nat}{g:Nat->Nat->Nat}(N:bf h b c g):bf h b c (SC c g):=N.congr fun _ hi _ hj=>(NE g hi hj).symm
theorem qz{c:Nat}{g:Nat->Nat->Nat}(o:VA c g):VA c (SC c g):=⟨fun i hi j hj=>by rw[NE g hi hj];exact o.lt i hi j hj,fun i hi j hj=>by rw[NE g hi hj,NE g hj hi];exact o.tn i hi j hj⟩
theorem o9{c:Nat}{g:Nat->Nat->Nat}{i k j:Nat}(hi:i<c)(hk:k<c)(hj:j<c):Ef (SC c g) i k j=Ef g i k j:=by unfold Ef;rw[NE g hi hj,NE g hi hk,NE g hk hj]
theorem T6{c:Nat}{g:Nat->Nat->Nat}(o:gF c g):gF c (SC c g):=fun i hi k hk j hj d=>by rw[o9 hi hk hj,NE g hi hj];exact o i hi k hk j hj d
theorem cR{α:Type}{p q:α->Bool}:∀{xs:List α},(∀x∈xs,p x=q x)->xs.any p=xs.any q
 | [],_=>rfl
 | x::xs,h=>by rw[any_cons,any_cons,h x (by simp),cR fun y hy=>h y (by simp[hy])]
theorem Z5{c:Nat}{g g':Nat->Nat->Nat}(e:∀i<c,∀j<c,g i j=g' i j):VB c g=VB c g':=by unfold VB;exact cR fun i hi=>cR fun j hj=>by rw[e i (mem_range.mp hi) j (mem_range.mp hj)]
theorem B7(c:Nat)(g:Nat->Nat->Nat):VB c (SC c g)=VB c g:=Z5 fun _ hi _ hj=>NE g hi hj
def Zb(c:Nat)(f:Nat->Nat->Nat)(st:List (Nat×Nat×Nat))(g:Nat->Nat->Nat):Prop:=∃g0,Steps c f st g0/\gF c g0/\VB c g0=false/\g=SC c g0
theorem Zb.ok{c:Nat}{f g:Nat->Nat->Nat}{st:List (Nat×Nat×Nat)}(e:Zb c f st g)(o:VA c f):VA c g/\gF c g/\VB c g=false:=by obtain⟨g0,s,cl,ne,rfl⟩:=e;exact⟨qz (s.ok o),T6 cl,by rw[B7];exact ne⟩
theorem Zb.unique{c:Nat}{f g g':Nat->Nat->Nat}{st st':List (Nat×Nat×Nat)}(o:VA c f)(e:Zb c f st g)(e':Zb c f st' g'):g=g':=by
 obtain⟨g0,s,cl,ne,rfl⟩:=e;obtain⟨g1,s',cl',ne',rfl⟩:=e';refine A7 fun i hi j hj=>?_
 have a1:=s.keeps (s'.ok o) cl' (s'.sub o) i hi j hj;have a2:=s'.keeps (s.ok o) cl (s.sub o) i hi j hj;exact Rf.antisymm a2 a1
theorem Zb.Mf{c:Nat}{f g g':Nat->Nat->Nat}{st st':List (Nat×Nat×Nat)}(o:VA c f)(e:Zb c f st g)(s':Steps c f st' g'):VB c g'=false:=by
 obtain⟨g0,s,cl,ne,rfl⟩:=e;have a1:=s'.keeps (s.ok o) cl (s.sub o);cases z:VB c g' with
 | false=>rfl
 | true=>
  obtain⟨i,hi,j,hj,e⟩:=Zd.mp z;have:=a1 i hi j hj;rw[e]at this;have h0:g0 i j=0:=by unfold Rf at this;rw[Nat.and_zero]at this;exact this.symm
  exact absurd h0 (G.Mf ne hi hj)
noncomputable def notM(m:Nat):Nat:=8191-m
def XD(f:Nat->Nat->Nat)(k:Nat):List XB->Nat->(Nat->Nat->Nat)
 | [],_=>f
 | m::ms,p=>XD (fB f m.1 (if p=k then m.2.1 else notM m.2.1) m.2.2) k ms (p+1)
def xO(f:Nat->Nat->Nat)(g:List XB)(k:Nat):Nat->Nat->Nat:=XD f k g 0
theorem jV(k:Nat)(m:XB):∀(ms:List XB)(f:Nat->Nat->Nat)(p:Nat),XD f k (ms++[m]) p=fB (XD f k ms p) m.1 (if p+ms.length=k then m.2.1 else notM m.2.1) m.2.2
 | [],f,p=>by simp[XD]
 | x::ms,f,p=>by show XD (fB f x.1 (if p=k then x.2.1 else notM x.2.1) x.2.2) k (ms++[m]) (p+1)=_;rw[jV k m ms _ (p+1),zdF,show p+(ms.length+1)=p+1+ms.length by omega];rfl
theorem FV{c k:Nat}:∀(ms:List XB)(_:∀m∈ms,FD c m)(f:Nat->Nat->Nat)(p:Nat),VA c f->VA c (XD f k ms p)
 | [],_,f,p,o=>o
 | m::ms,h,f,p,o=>by obtain⟨a,b,d,_⟩:=h m (by simp);exact FV ms (fun x hx=>h x (by simp[hx])) _ _ (KG o a b d _)
def lE(c:Nat)(g:Nat->Nat->Nat):Option (Nat×Nat):=(AA c).find? fun p=>decide (1<(BA (g p.1 p.2)).length)
theorem Aq{m:Nat}(h:m<8192):Builtin.bitAnd 8191 (Builtin.bitNot ((m:Nat):Int))=((notM m:Nat):Int):=by
 have h1:Builtin.bitNot (Builtin.bitNot ((m:Nat):Int))=(m:Int):=by unfold Builtin.bitNot;omega
 have h2:¬(0<=Builtin.bitNot ((m:Nat):Int)):=by unfold Builtin.bitNot;omega
 have h3:(8191:Nat)&&&m=m:=by rw[Nat.and_comm,show(8191:Nat)=2^13-1 from rfl,Nat.and_two_pow_sub_one_eq_mod];exact Nat.mod_eq_of_lt h
 unfold Builtin.bitAnd;have d1:decide ((8191:Int) >=0)=true:=by decide
 have d2:decide (Builtin.bitNot ((m:Nat):Int) >=0)=false:=decide_eq_false h2;simp only[d1,d2,h1];show(8191:Int)-(((8191:Int).toNat&&&(m:Int).toNat:Nat):Int)=_;rw[show(8191:Int).toNat=8191 from rfl,Int.toNat_natCast,h3];unfold notM;omega
theorem yj{α:Type}{xs:List α}{k:Nat}(h:k<=xs.length):(xs.take k).length=k:=by rw[length_take];omega
theorem FK{α:Type}{xs:List α}{k:Nat}{x:α}(h:xs[k]?=some x):xs.take (k+1)=xs.take k++[x]:=by rw[take_add_one,h];rfl
theorem K4{h:HI}{b c:Nat}{f:Nat->Nat->Nat}(N:bf h b c f)(hc:c<=1000){n:Nat}{g:List XB}(hg:h[n]?=some (.lst (g.map QA)))(ok:∀m∈g,FD c m)(k:Nat) :
 ∃b' h',bM [.ref (b+c),.ref n,.int (k:Nat)] h=some (.ref (b'+c),h')/\bf h' b' c (xO f g k)/\Up h h':=by
 obtain⟨l',h',e,b',y3,y4,y5,rfl,N',U⟩:=vT (i:=3) (j:=4) (n:=n) (body:=kM) QA (fun k' l h'=>∃b' y3 y4 y5,l=[some (.ref (b'+c)),some (.ref n),some (.int (k:Nat)),y3,y4,y5]/\bf h' b' c (XD f k (g.take k') 0)/\Up h h') g (by
  rintro k' l h' ⟨b',y3,y4,y5,rfl,N',U⟩;exact U.get hg) (by
  rintro k' x hx l h' ⟨b',y3,y4,y5,rfl,N',U⟩;obtain⟨a1,a2,a3,a4⟩:=ok x (mem_of_getElem? hx);have kl:k'<g.length:=(zdP hx).1;have eq:XD f k (g.take (k'+1)) 0=fB (XD f k (g.take k') 0) x.1 (if k'=k then x.2.1 else notM x.2.1) x.2.2:=by rw[FK hx,jV,yj (by omega),Nat.zero_add]
  have en:=xK N' hc a1 a2 (if k'=k then x.2.1 else notM x.2.1);rw[<- eq]at en;have M:=CF h' c (XD f k (g.take (k'+1)) 0);refine⟨.nx [some (.ref (h'.length+c)),some (.ref n),some (.int (k:Nat)),some (.int (k':Nat)),some (QA x),some (.int ((if k'=k then x.2.1 else notM x.2.1:Nat):Int))] (h'++MC h'.length c (XD f k (g.take (k'+1)) 0)),?_,h'.length,_,_,_,rfl,M,U.trans (Up.app _ _)⟩;have m2:Ac [Dt.str "ways",Dt.int (x.1:Nat),Dt.int (x.2.1:Nat),Dt.int (x.2.2:Nat)] 2=some (.int (x.2.1:Nat)):=rfl;have m1:Ac [Dt.str "ways",Dt.int (x.1:Nat),Dt.int (x.2.1:Nat),Dt.int (x.2.2:Nat)] 1=some (.int (x.1:Nat)):=rfl;have m3:Ac [Dt.str "ways",Dt.int (x.1:Nat),Dt.int (x.2.1:Nat),Dt.int (x.2.2:Nat)] 3=some (.int (x.2.2:Nat)):=rfl;by_cases z:k'=k
  · subst z;rw[if_pos rfl]at en ⊢;have dd:decide ((k':Int)=(k':Int))=true:=decide_eq_true rfl;simp only[kM,XA,mB,ZY,jB,FA,rA,JA,zdK,zdJ,zdD,zdE,sA,nA,YF,decide_true,uB,if_true,QA,HB,m1,m2,m3,zdL,YA,eB,WA,MA,zdU,en]
  · rw[if_neg z]at en ⊢;have dd:decide ((k':Int)=(k:Int))=false:=decide_eq_false (by omega);simp only[kM,XA,mB,ZY,jB,FA,rA,JA,zdK,zdJ,zdD,zdE,sA,nA,YF,dd,uB,zdV,if_false,QA,HB,m1,m2,m3,zdL,K1,J9,WN,Aq a4,YA,eB,WA,MA,zdU,en]) [some (.ref (b+c)),some (.ref n),some (.int (k:Nat)),none,none,none] h ⟨b,_,_,_,rfl,N,Up.refl h⟩
 rw[take_length]at N';refine⟨b',h',?_,N',U⟩;simp only[bM,gQ,xB,zdF,zdG,if_true,zdH,zdI,Nat.reduceAdd,Nat.reduceSub,List.replicate,zdO,zdN,XA,YD,Gz,rA,zdD,zdE,sA,nA,z8 hg,e,YA,EB,KB]
theorem J4{h:HI}{b c:Nat}{g:Nat->Nat->Nat}(N:bf h b c g)(hc:c<=1000) :
 ∃h',fK [.ref (b+c)] h=some ((match lE c g with | none=>.non | some p=>qA p),h')/\Up h h':=by
 have ep:=RM hc h;have U:Up h (h++[.lst ((AA c).map qA)]):=Up.app _ _;have N1:bf (h++[.lst ((AA c).map qA)]) b c g:=U.net N;have hl:(h++[Ob.lst ((AA c).map qA)])[h.length]?=some (.lst ((AA c).map qA)):=by simp
 refine⟨h++[.lst ((AA c).map qA)],?_,U⟩;have body:∀p∈AA c,∀y,VL [some (.ref (b+c)),some (qA p)] (h++[.lst ((AA c).map qA)])=some (if decide (1<(BA (g p.1 p.2)).length)=true then .rt (qA p) (h++[.lst ((AA c).map qA)])else .nx [some (.ref (b+c)),some (qA p)] (h++[.lst ((AA c).map qA)]))\/y:=by
  intro p hp y;obtain⟨p1,p2⟩:=TR hp
  left
  have i1:=kF N1.top (p.1:Int);rw[SM.OC,DN p1,zdL]at i1;have i2:=kF (N1.row _ p1) (p.2:Int);rw[SM.OC,MK p2,zdL]at i2;have dd:decide ((1:Int)<(((BA (g p.1 p.2)).map fun(k:Nat)=>Dt.int (k:Int)).length:Nat))=decide (1<(BA (g p.1 p.2)).length):=by
   rw[length_map];by_cases z:1<(BA (g p.1 p.2)).length
   · rw[decide_eq_true z,decide_eq_true (by omega)]
   · rw[decide_eq_false z,decide_eq_false (by omega)]
  simp only[VL,OB,jB,FA,yC,eB,WA,MA,rA,JA,zdD,zdE,sA,nA,qA,HB,RB,OD,zdL,i1,i2,zdU,bJ,LS,KL,dd,uB,EB,YC];split<;>rfl
 obtain⟨r,e,er⟩:=zY (i:=1) (n:=h.length) (body:=VL) qA (fun k l h'=>(∃y,l=[some (.ref (b+c)),y])/\h'=h++[.lst ((AA c).map qA)]/\((AA c).take k).find? (fun p=>decide (1<(BA (g p.1 p.2)).length))=none) (fun d h'=>h'=h++[.lst ((AA c).map qA)]/\∃p,lE c g=some p/\d=qA p) (AA c) (by
  rintro k l h' ⟨_,rfl,_⟩;exact hl) (by
  rintro k x hx l h' ⟨⟨y,rfl⟩,rfl,nf⟩;rcases body x (mem_of_getElem? hx) False with bb | bb
  · refine⟨_,bb,?_⟩;by_cases z:decide (1<(BA (g x.1 x.2)).length)=true
    · rw[if_pos z];refine⟨rfl,x,?_,rfl⟩;unfold lE;rw[<- take_append_drop k (AA c),find?_append,nf,Option.none_or];have:(AA c).drop k=x::(AA c).drop (k+1):=by obtain⟨q1,q2⟩:=zdP hx;rw[<- q2];exact drop_eq_getElem_cons q1
      rw[this,find?_cons,z]
    · rw[if_neg z];refine⟨⟨_,rfl⟩,rfl,?_⟩;rw[FK hx,find?_append,nf,Option.none_or,find?_cons];simp only[show decide (1<(BA (g x.1 x.2)).length)=false by simpa using z];rfl
  · exact bb.elim) [some (.ref (b+c)),none] (h++[.lst ((AA c).map qA)]) ⟨⟨_,rfl⟩,rfl,rfl⟩
 have fl:=N.len;cases r with
 | nx l' h'=>obtain⟨_,rfl,nf⟩:=er;rw[take_length]at nf;have:lE c g=none:=nf;rw[this];simp only[fK,aM,xB,zdF,zdG,if_true,zdH,zdI,Nat.reduceAdd,Nat.reduceSub,List.replicate,zdO,zdN,XA,YD,LD,eB,WA,MA,yC,rA,zdD,sA,nA,fl,zdU,ep,KF hl,e,YA,EB,JA,KB]
 | rt d h'=>obtain⟨rfl,p,e1,rfl⟩:=er;rw[e1];simp only[fK,aM,xB,zdF,zdG,if_true,zdH,zdI,Nat.reduceAdd,Nat.reduceSub,List.replicate,zdO,zdN,XA,YD,LD,eB,WA,MA,yC,rA,zdD,sA,nA,fl,zdU,ep,KF hl,e,iF,KB]
 | bk l' h'=>exact er.elim
 | ct l' h'=>exact er.elim
inductive Fact where
 | ways (m:XB)
 | long (x:Ln)
 | one (g:List XB)
def Xd(h:HI)(d:Dt):Fact->Prop
 | .ways m=>d=QA m
 | .long x=>d=.tup [.str "long", .int (x.1:Nat),.int x.2.1,.int x.2.2]
 | .one g=>∃gd,d=.tup [.str "one",gd]/\Zn h gd g
theorem Xd.up{h h':HI}{d:Dt}{f:Fact}(q:Xd h d f)(u:gb h h'):Xd h' d f:=by
 cases f with
 | ways m=>exact q
 | long x=>exact q
 | one g=>obtain⟨gd,e,q⟩:=q;exact⟨gd,e,q.up u⟩
def gG(c:Nat):Fact->Prop
 | .ways m=>FD c m
 | .long x=>x.1<c
 | .one g=>∀m∈g,FD c m
inductive Hf(h:HI):List Dt->List Fact->Prop where
 | nil:Hf h [] []
 | cons {d:Dt} {f:Fact} {ds:List Dt} {fs:List Fact} (a:Xd h d f) (r:Hf h ds fs):Hf h (d::ds) (f::fs)
theorem Hf.up{h h':HI}{ds:List Dt}{fs:List Fact}(q:Hf h ds fs)(u:gb h h'):Hf h' ds fs:=by
 induction q with
 | nil=>exact .nil
 | cons a r ih=>exact .cons (a.up u) ih
theorem Hf.len{h:HI}{ds:List Dt}{fs:List Fact}(q:Hf h ds fs):ds.length=fs.length:=by
 induction q with
 | nil=>rfl
 | cons a r ih=>simp[ih]
theorem Hf.get{h:HI}{ds:List Dt}{fs:List Fact}(q:Hf h ds fs):∀{k:Nat}{d:Dt},ds[k]?=some d->∃f,fs[k]?=some f/\Xd h d f:=by
 induction q with
 | nil=>intro k d e;simp at e
 | cons a r ih=>
  intro k d e;cases k with
  | zero=>simp at e;subst e;exact⟨_,by simp,a⟩
  | succ k=>exact(by obtain⟨f,e1,e2⟩:=ih (k:=k) (by simpa using e);exact⟨f,by simpa using e1,e2⟩)
theorem Hf.snoc{h:HI}{ds:List Dt}{fs:List Fact}(q:Hf h ds fs){d:Dt}{f:Fact}(a:Xd h d f):Hf h (ds++[d]) (fs++[f]):=by
 induction q with
 | nil=>exact .cons a .nil
 | cons b r ih=>exact .cons b ih
noncomputable def bP:Fact->Bool
 | .ways _=>true
 | _=>false
noncomputable def BL:Fact->Bool
 | .long _=>true
 | _=>false
noncomputable def CL:Fact->Bool
 | .one _=>true
 | _=>false
theorem Vh:decide ((("long" :Str))=(("ways" :Str)))=false:=by decide +kernel
theorem Yh:decide ((("one" :Str))=(("ways" :Str)))=false:=by decide +kernel
theorem Mt:decide ((("ways" :Str))=(("long" :Str)))=false:=by decide +kernel
theorem Xh:decide ((("one" :Str))=(("long" :Str)))=false:=by decide +kernel
theorem Nt:decide ((("ways" :Str))=(("one" :Str)))=false:=by decide +kernel
theorem Uh:decide ((("long" :Str))=(("one" :Str)))=false:=by decide +kernel
theorem Y2 {h:HI} {d:Dt} {f:Fact} (q:Xd h d f) (l:LI) (k:HI) (i:Nat) (hi:l[i]?=some (some d)):e2 IC (e2 pA (eV i) (eC (.int 0))) (eC (.str "ways")) l k=some (.bl (bP f),k):=by
 cases f with
 | ways m=>rw[show d=QA m from q]at hi;simp only[FA,rA,hi,sA,nA,JA,QA,HB,RB,zdD,zdL,ME,decide_true,bP]
 | long x=>rw[show d=_ from q]at hi;simp only[FA,rA,hi,sA,nA,JA,HB,RB,zdD,zdL,ME,Vh,bP]
 | one g=>obtain⟨gd,rfl,_⟩:=q;simp only[FA,rA,hi,sA,nA,JA,HB,RB,zdD,zdL,ME,Yh,bP]
theorem V2 {h:HI} {d:Dt} {f:Fact} (q:Xd h d f) (l:LI) (k:HI) (i:Nat) (hi:l[i]?=some (some d)):e2 IC (e2 pA (eV i) (eC (.int 0))) (eC (.str "long")) l k=some (.bl (BL f),k):=by
 cases f with
 | ways m=>rw[show d=QA m from q]at hi;simp only[FA,rA,hi,sA,nA,JA,QA,HB,RB,zdD,zdL,ME,Mt,BL]
 | long x=>rw[show d=_ from q]at hi;simp only[FA,rA,hi,sA,nA,JA,HB,RB,zdD,zdL,ME,decide_true,BL]
 | one g=>obtain⟨gd,rfl,_⟩:=q;simp only[FA,rA,hi,sA,nA,JA,HB,RB,zdD,zdL,ME,Xh,BL]
theorem X2 {h:HI} {d:Dt} {f:Fact} (q:Xd h d f) (l:LI) (k:HI) (i:Nat) (hi:l[i]?=some (some d)):e2 IC (e2 pA (eV i) (eC (.int 0))) (eC (.str "one")) l k=some (.bl (CL f),k):=by
 cases f with
 | ways m=>rw[show d=QA m from q]at hi;simp only[FA,rA,hi,sA,nA,JA,QA,HB,RB,zdD,zdL,ME,Nt,CL]
 | long x=>rw[show d=_ from q]at hi;simp only[FA,rA,hi,sA,nA,JA,HB,RB,zdD,zdL,ME,Uh,CL]
 | one g=>obtain⟨gd,rfl,_⟩:=q;simp only[FA,rA,hi,sA,nA,JA,HB,RB,zdD,zdL,ME,decide_true,CL]
def fD(f:Nat->Nat->Nat):List Fact->(Nat->Nat->Nat)
 | []=>f
 | .ways m::fs=>fD (fB f m.1 m.2.1 m.2.2) fs
 | _::fs=>fD f fs
theorem DM(x:Fact):∀(fs:List Fact)(f:Nat->Nat->Nat),fD f (fs++[x])=fD (fD f fs) [x]
 | [],f=>rfl
 | .ways m::fs,f=>DM x fs _
 | .long m::fs,f=>DM x fs _
 | .one m::fs,f=>DM x fs _
theorem yK{c:Nat}:∀(fs:List Fact)(_:∀x∈fs,gG c x)(f:Nat->Nat->Nat),VA c f->VA c (fD f fs)
 | [],_,f,o=>o
 | .ways m::fs,h,f,o=>by obtain⟨a,b,d,_⟩:=h (.ways m) (by simp);exact yK fs (fun x hx=>h x (by simp[hx])) _ (KG o a b d _)
 | .long m::fs,h,f,o=>yK fs (fun x hx=>h x (by simp[hx])) _ o
 | .one m::fs,h,f,o=>yK fs (fun x hx=>h x (by simp[hx])) _ o
theorem V5{h:HI}{a c:Nat}(hc:c<=1000){ds:List Dt}(ha:h[a]?=some (.lst ds)){fs:List Fact}(F:Hf h ds fs)(ok:∀x∈fs,gG c x) :
 ∃b h',pK [.int (c:Nat),.ref a] h=some (.ref (b+c),h')/\bf h' b c (fD PB fs)/\Up h h':=by
 have ew:=rY hc h;have U0:Up h (h++MC h.length c PB):=Up.app _ _;have M0:=CF h c PB;have mp:ds=ds.map id:=by simp
 obtain⟨l',h',e,b',y,rfl,N',U⟩:=BO (i:=3) (n:=a) (body:=iK) id (fun k l h'=>∃b' y,l=[some (.int (c:Nat)),some (.ref a),some (.ref (b'+c)),y]/\bf h' b' c (fD PB (fs.take k))/\Up h h') ds (by
  rintro k l h' ⟨b',y,rfl,N',U⟩;rw[<- mp];exact U.get ha) (by
  rintro k d hd l h' ⟨b',y,rfl,N',U⟩;obtain⟨x,hx,q⟩:=F.get hd;have tw:=Y2 q [some (.int (c:Nat)),some (.ref a),some (.ref (b'+c)),some d] h' 3 rfl;have okx:=ok x (mem_of_getElem? hx);have eq:fD PB (fs.take (k+1))=fD (fD PB (fs.take k)) [x]:=by rw[FK hx,DM]
  have LL:([some (.int (c:Nat)),some (.ref a),some (.ref (b'+c)),y]:LI).set 3 (some (id d))=[some (.int (c:Nat)),some (.ref a),some (.ref (b'+c)),some d]:=rfl;rw[LL];cases x with
  | ways m=>obtain⟨a1,a2,a3,a4⟩:=okx;have qd:d=QA m:=q;have en:=xK N' hc a1 a2 m.2.1;have M:=CF h' c (fB (fD PB (fs.take k)) m.1 m.2.1 m.2.2);refine⟨.nx [some (.int (c:Nat)),some (.ref a),some (.ref (h'.length+c)),some d] (h'++MC h'.length c (fB (fD PB (fs.take k)) m.1 m.2.1 m.2.2)),?_,h'.length,_,rfl,by rw[eq];exact M,U.trans (Up.app _ _)⟩;have m2:Ac [Dt.str "ways",Dt.int (m.1:Nat),Dt.int (m.2.1:Nat),Dt.int (m.2.2:Nat)] 2=some (.int (m.2.1:Nat)):=rfl;have m1:Ac [Dt.str "ways",Dt.int (m.1:Nat),Dt.int (m.2.1:Nat),Dt.int (m.2.2:Nat)] 1=some (.int (m.1:Nat)):=rfl;have m3:Ac [Dt.str "ways",Dt.int (m.1:Nat),Dt.int (m.2.1:Nat),Dt.int (m.2.2:Nat)] 3=some (.int (m.2.2:Nat)):=rfl;unfold iK;rw[OB,jB,tw];rw[qd];simp only[bP,nA,uB,if_true,mB,eB,WA,MA,FA,rA,JA,zdD,zdE,sA,QA,HB,m1,m2,m3,zdL,zdU,en,zdK,zdJ]
  | long m=>refine⟨.nx [some (.int (c:Nat)),some (.ref a),some (.ref (b'+c)),some d] h',?_,b',_,rfl,by rw[eq];exact N',U⟩;unfold iK;rw[OB,jB,tw];simp only[bP,nA,uB,zdV,if_false,YC]
  | one m=>
   refine⟨.nx [some (.int (c:Nat)),some (.ref a),some (.ref (b'+c)),some d] h',?_,b',_,rfl,by rw[eq];exact N',U⟩;unfold iK;rw[OB,jB,tw];simp only[bP,nA,uB,zdV,if_false,YC]) [some (.int (c:Nat)),some (.ref a),some (.ref (h.length+c)),none] (h++MC h.length c PB) ⟨h.length,_,rfl,M0,U0⟩
 rw[F.len,take_length]at N';refine⟨b',h',?_,N',U⟩;simp only[pK,rQ,xB,zdF,zdG,if_true,zdH,zdI,Nat.reduceAdd,Nat.reduceSub,List.replicate,zdO,zdN,XA,mB,eB,WA,MA,rA,zdD,zdE,sA,nA,zdU,ew,YA,zdK,zdJ,YD,LD,KF (U0.get ha),e,EB,KB]
theorem fW{te:RE}{tc:RT}{n:Nat}(p:Fact->Bool)(Fd:Dt->Fact->Dt){ds:List Dt}{fs:List Fact}(l:LI)(h:HI)(F:Hf h ds fs)(e:h[n]?=some (.lst ds))(hx:ds.length<sizeLine)
 (H:∀d f,Xd h d f->f∈fs->tc (l.set 0 (some d)) h=some (p f,h)/\(p f=true->te (l.set 0 (some d)) h=some (Fd d f,h))) :
 sE (CA 0) tc te l (.rf n,h)=some (((ds.zip fs).filter fun x=>p x.2).map fun x=>Fd x.1 x.2,h):=by
 have go:∀(m k:Nat)(l':LI),(∀d,l'.set 0 d=l.set 0 d)->m=ds.length-k+1->k<=ds.length->∀ys:List Dt,ys.length<=k->ys=((((ds.zip fs).take k).filter fun x=>p x.2).map fun x=>Fd x.1 x.2)->SD (CA 0) tc te (.rf n) m k l' h ys=some (((ds.zip fs).filter fun x=>p x.2).map fun x=>Fd x.1 x.2,h):=by
  intro m
  induction m with
  | zero=>intro k l' _ e;omega
  | succ m ih=>
   intro k l' hl' hm hk ys yl yy;unfold SD;simp only[Src.at,e];by_cases hlt:k<ds.length
   · obtain⟨f,hf,q⟩:=F.get (getElem?_eq_getElem hlt);have hz:(ds.zip fs)[k]?=some (ds[k],f):=by rw[getElem?_zip_eq_some];exact⟨getElem?_eq_getElem hlt,hf⟩
     obtain⟨t1,t2⟩:=H ds[k] f q (mem_of_getElem? hf);rw[getElem?_eq_getElem hlt];simp only[kG,zdM,hl',t1];by_cases z:p f=true
     · rw[if_pos z];simp only[t2 z,zdM];rw[if_pos (by omega)];refine ih (k+1) _ (fun d=>by rw[set_set]) (by omega) (by omega) _ (by simp;omega) ?_;rw[FK hz,filter_append,map_append,<- yy];simp[z]
     · rw[if_neg z];refine ih (k+1) _ (fun d=>by rw[set_set]) (by omega) (by omega) _ (by omega) ?_;rw[FK hz,filter_append,map_append,<- yy];simp[z]
   · rw[getElem?_eq_none (by omega)];have lz:(ds.zip fs).length=ds.length:=by rw[length_zip,F.len];omega
     rw[take_of_length_le (by omega)]at yy;rw[yy]
 have hf:Src.fuel (.rf n) h=ds.length-0+1:=by simp only[Src.fuel,e];omega
 unfold sE;simp only[hf];exact go _ 0 l (fun _=>rfl) rfl (Nat.zero_le _) [] (by simp) (by simp)
def UD:List Fact->List Ln
 | []=>[]
 | .long x::fs=>x::UD fs
 | _::fs=>UD fs
def jG:List Fact->List (List XB)
 | []=>[]
 | .one g::fs=>g::jG fs
 | _::fs=>jG fs
def Jh:Fact->Dt
 | .long x=>hC x
 | _=>.non
noncomputable def Hh:Dt->Dt
 | .tup [_,x]=>x
 | _=>.non
theorem u5{h:HI}{a:Nat}{ds:List Dt}(ha:h[a]?=some (.lst ds))(hz:ds.length<sizeLine){fs:List Fact}(F:Hf h ds fs):yM [.ref a] h=some (.lst ((UD fs).map hC),h):=by
 have ck:=fW (te:=RU) (tc:=HP) BL (fun _ f=>Jh f) [none] h F ha hz (by
  intro d f q _;refine⟨?_,fun z=>?_⟩
  · unfold HP;rw[jB,V2 q _ _ 0 rfl];rfl
  · cases f with
    | long x=>rw[show d=_ from q];rfl
    | ways m=>cases z
    | one g=>cases z)
 have eq:∀(ds:List Dt)(fs:List Fact),Hf h ds fs->((ds.zip fs).filter fun x=>BL x.2).map (fun x=>Jh x.2)=(UD fs).map hC:=by
  intro ds fs F
  induction F with
  | nil=>rfl
  | @cons d f ds fs a r ih=>
   rw[zip_cons_cons,filter_cons];cases f with
   | long x=>rw[if_pos (show BL (Fact.long x)=true from rfl),zdH,ih];rfl
   | ways m=>rw[if_neg (show ¬BL (Fact.ways m)=true from zdR),ih];rfl
   | one g=>rw[if_neg (show ¬BL (Fact.one g)=true from zdR),ih];rfl
 rw[eq _ _ F]at ck;simp only[yM,bQ,xB,zdF,zdG,if_true,zdH,zdI,Nat.reduceAdd,Nat.reduceSub,List.replicate,zdO,zdN,zdU,EB,GG,LD,rA,zdD,sA,nA,KF ha,nF,rF,ck,KB]
inductive Xf(h:HI):List Dt->List (List XB)->Prop where
 | nil:Xf h [] []
 | cons {d:Dt} {g:List XB} {ds:List Dt} {gs:List (List XB)} (a:Zn h d g) (r:Xf h ds gs):Xf h (d::ds) (g::gs)
theorem Xf.up{h h':HI}{ds:List Dt}{gs:List (List XB)}(q:Xf h ds gs)(u:gb h h'):Xf h' ds gs:=by
 induction q with
 | nil=>exact .nil
 | cons a r ih=>exact .cons (a.up u) ih
theorem W5{h:HI}{a:Nat}{ds:List Dt}(ha:h[a]?=some (.lst ds))(hz:ds.length<sizeLine){fs:List Fact}(F:Hf h ds fs):∃Dc,Xf h Dc (jG fs)/\qK [.ref a] h=some (.lst Dc,h):=by
 have ck:=fW (te:=YU) (tc:=kQ) CL (fun d _=>Hh d) [none] h F ha hz (by
  intro d f q _;refine⟨?_,fun z=>?_⟩
  · unfold kQ;rw[jB,X2 q _ _ 0 rfl];rfl
  · cases f with
    | one g=>obtain⟨gd,rfl,_⟩:=q;rfl
    | ways m=>cases z
    | long x=>cases z)
 refine⟨((ds.zip fs).filter fun x=>CL x.2).map fun x=>Hh x.1,?_,?_⟩
 rotate_left
 · simp only[qK,sQ,xB,zdF,zdG,if_true,zdH,zdI,Nat.reduceAdd,Nat.reduceSub,List.replicate,zdO,zdN,zdU,EB,GG,LD,rA,zdD,sA,nA,KF ha,nF,rF,ck,KB]
 · clear ck ha hz
   induction F with
   | nil=>exact .nil
   | @cons d f ds fs a r ih=>
    rw[zip_cons_cons,filter_cons];cases f with
    | one g=>obtain⟨gd,rfl,q⟩:=a;rw[if_pos (show CL (Fact.one g)=true from rfl),zdH];exact .cons q ih
    | ways m=>rw[if_neg (show ¬CL (Fact.ways m)=true from zdR)];exact ih
    | long x=>rw[if_neg (show ¬CL (Fact.long x)=true from zdR)];exact ih
theorem v7{α:Type}{te:RE}{i n:Nat}(D F:α->Dt)(xs:List α)(l:LI)(h:HI)(e:h[n]?=some (.lst (xs.map D)))(hx:xs.length<sizeLine)(H:∀x∈xs,te (l.set i (some (D x))) h=some (F x,h)) :
 sE (CA i) DB te l (.rf n,h)=some (xs.map F,h):=by
 have go:∀(m k:Nat)(l':LI),(∀d,l'.set i d=l.set i d)->m=xs.length-k+1->k<=xs.length->SD (CA i) DB te (.rf n) m k l' h ((xs.take k).map F)=some (xs.map F,h):=by
  intro m
  induction m with
  | zero=>intro k l' _ e;omega
  | succ m ih=>
   intro k l' hl' hm hk;unfold SD;simp only[Src.at,e,getElem?_map];by_cases hlt:k<xs.length
   · rw[getElem?_eq_getElem hlt];have hx':=H xs[k] (getElem_mem hlt);have ln:((xs.take k).map F).length<sizeLine:=by rw[length_map,length_take];omega
     simp only[zdL,kG,zdM,SN,if_true,hl',hx',if_pos ln];have:=ih (k+1) (l.set i (some (D xs[k]))) (fun d=>by rw[set_set]) (by omega) (by omega);rw[take_add_one,getElem?_eq_getElem hlt,map_append]at this;exact this
   · rw[getElem?_eq_none (by omega)];have:k=xs.length:=by omega
     subst this;simp only[Option.map_none,take_length]
 have hf:Src.fuel (.rf n) h=xs.length-0+1:=by simp only[Src.fuel,e,length_map];omega
 unfold sE;have:=go (xs.length-0+1) 0 l (fun _=>rfl) rfl (Nat.zero_le _);simp only[hf];exact this
inductive Vc{α β:Type}(R:α->β->Prop):List α->List β->Prop where
 | nil:Vc R [] []
 | cons {a:α} {b:β} {as:List α} {bs:List β} (h:R a b) (r:Vc R as bs):Vc R (a::as) (b::bs)
theorem Vc.imp{α β:Type}{R S:α->β->Prop}(i:∀a b,R a b->S a b){as:List α}{bs:List β}(h:Vc R as bs):Vc S as bs:=by
 induction h with
 | nil=>exact .nil
 | cons a r ih=>exact .cons (i _ _ a) ih
theorem Vc.Xb{α β γ:Type}{R:γ->β->Prop}{f:α->γ}:∀{as:List α}{bs:List β},Vc (fun a b=>R (f a) b) as bs->Vc R (as.map f) bs
 | _,_,.nil=>.nil
 | _,_,.cons h r=>.cons h (Vc.Xb r)
theorem RQ{α:Type}{te:RE}(D:α->Dt)(P:HI->α->Dt->Prop)(up:∀h h' x d,Up h h'->P h x d->P h' x d):∀(xs:List α)(l:LI)(h:HI),(∀x∈xs,∀h',Up h h'->∃d h2,te (l.set 0 (some (D x))) h'=some (d,h2)/\Up h' h2/\P h2 x d)->
 ∃ds h',aE (CA 0) DB te (xs.map D) l h=some (ds,h')/\Up h h'/\Vc (P h') xs ds
 | [],l,h,_=>⟨[],h,rfl,Up.refl h,.nil⟩
 | x::xs,l,h,H=>by
  obtain⟨d,h1,e1,u1,p1⟩:=H x (by simp) h (Up.refl h);obtain⟨ds,h2,e2,u2,p2⟩:=RQ D P up xs (l.set 0 (some (D x))) h1 (fun y hy h' u=>by
   rw[set_set];exact H y (by simp[hy]) h' (u1.trans u))
  refine⟨d::ds,h2,?_,u1.trans u2,.cons (up _ _ _ _ u2 p1) p2⟩;simp only[zdH,aE,kG,zdM,SN,if_true,e1,e2]
noncomputable def Pn(h:HI)(c:Nat)(f:Nat->Nat->Nat)(d:Dt):Prop:=∃b,d=.ref (b+c)/\bf h b c f
theorem Pn.up{h h':HI}{c:Nat}{f:Nat->Nat->Nat}{d:Dt}(n:Pn h c f d)(u:gb h h'):Pn h' c f d:=by obtain⟨b,e,N⟩:=n;exact⟨b,e,u.net N⟩
def ZC(c:Nat)(g:Nat->Nat->Nat):List (List XB)->Option (Option (Nat×Nat)×List (Nat->Nat->Nat)×List (Nat×Nat))
 | grp::_=>some (none,(List.range grp.length).map (xO g grp),grp.map fun m=>(m.1,m.2.2))
 | []=>match lE c g with
  | none=>none
  | some p=>some (some p,(BA (g p.1 p.2)).map fun w=>fB g p.1 (2^w) p.2,[p])
def RD(tag:Option (Nat×Nat))(Bc:List Dt)(ps:List (Nat×Nat)):Dt:=match tag with
 | none=>.tup [.str "one", .tup [],.lst Bc,.lst (ps.map qA)]
 | some p=>.tup [.str "split",qA p,.lst Bc,.lst (ps.map qA)]
theorem DV:∀g:List XB,lD (g.map QA)=true
 | []=>rfl
 | m::g=>by rw[zdH];simp only[lD,QA,AB,Bool.true_and];exact DV g
theorem kX:∀g:List XB,YE (g.map QA)<=1
 | []=>Nat.zero_le _
 | m::g=>by rw[zdH];have:=kX g;have e1:EH (QA m)=1:=rfl;simp only[YE,e1];omega
theorem lX(h:HI):∀g:List XB,vD (BB h 6) (g.map QA)=some (g.map QA)
 | []=>rfl
 | m::g=>by rw[zdH];have ih:=lX h g;have e1:BB h 6 (QA m)=some (QA m):=rfl;simp only[vD,e1,ih,zdM,zdL]
theorem C9{h:HI}{ds:List Dt}{gs:List (List XB)}(q:Xf h ds gs):vD (BB h 7) ds=some (gs.map fun g=>.lst (g.map QA)):=by
 induction q with
 | nil=>rfl
 | @cons d g ds gs a r ih=>
  obtain⟨n,rfl,e⟩:=a;have e1:BB h 7 (.ref n)=some (.lst (g.map QA)):=by show(match h[n]? with | some (.lst xs)=>(vD (BB h 6) xs).map Dt.lst | _=>none)=_;rw[e];simp only[lX,zdL]
  simp only[vD,e1,ih,zdM,zdL,zdH]
theorem qW:∀gs:List (List XB),lD (gs.map fun g=>.lst (g.map QA))=true
 | []=>rfl
 | g::gs=>by rw[zdH];simp only[lD,AB,DV,Bool.true_and];exact qW gs
theorem xW:∀gs:List (List XB),YE (gs.map fun g=>.lst (g.map QA))<=2
 | []=>Nat.zero_le _
 | g::gs=>by rw[zdH];have:=xW gs;have h1:=kX g;simp only[YE,EH];omega
theorem Sq{h:HI}{ds:List Dt}{gs:List (List XB)}(q:Xf h ds gs):MH (.lst ds) (.lst []) h=some (.bl (!gs.isEmpty),h):=by
 have r1:BB h 8 (.lst ds)=some (.lst (gs.map fun g=>.lst (g.map QA))):=by show(vD (BB h 7) ds).map Dt.lst=_;rw[C9 q];rfl
 have r2:BB h 8 (.lst [])=some (.lst []):=by simp[BB,vD]
 have ok:pF (gs.map fun g=>Dt.lst (g.map QA)) []=true:=by unfold pF;rw[qW];have:=xW gs;simp[lD];omega
 rw[wZ r1 r2 ok];cases gs with
 | nil=>rfl
 | cons p W=>rfl
theorem t6{h:HI}{b c:Nat}{g:Nat->Nat->Nat}(N:bf h b c g)(og:VA c g)(hc:c<=100){Dc:List Dt}{gs:List (List XB)}(Q:Xf h Dc gs)(ok:∀x∈gs,∀m∈x,FD c m)(sm:∀x∈gs,x.length<=1000) :
 ∃h',Up h h'/\match ZC c g gs with
  | none=>iH [.ref (b+c),.lst Dc] h=some (.non,h')
  | some (tag,bs,ps)=>∃Bc,Vc (Pn h' c) bs Bc/\iH [.ref (b+c),.lst Dc] h=some (RD tag Bc ps,h'):=by
 have ne:=Sq Q;cases Q with
 | @cons d grp ds gs' a r=>
  obtain⟨n,rfl,en⟩:=a;have gl:=sm grp (by simp);have gok:=ok grp (by simp);have er:=fun h=>FF (h:=h) (show(-(2^62):Int)<=(grp.length:Int) by omega) (show(grp.length:Int)<2^62 by omega)
  simp only[Int.toNat_natCast]at er;obtain⟨Bc,h',e,U,A⟩:=RQ (te:=wM) (fun(k:Nat)=>Dt.int (k:Int)) (fun h k d=>Pn h c (xO g grp k) d) (fun h h' k d u q=>q.up u.l) (List.range grp.length) [none,some (.ref (b+c)),some (.ref n)] h (by
   intro k _ h' u;obtain⟨b',h2,e,N',U'⟩:=K4 (u.net N) (by omega) (u.get en) gok k;refine⟨_,h2,?_,U',b',rfl,N'⟩;simp only[wM,eB,WA,MA,rA,zdJ,zdD,zdE,sA,nA,zdU,e])
  have ck:=fF (l:=[none,some (.ref (b+c)),some (.ref n)]) (h:=h) (CA 0) DB wM (xs:=(List.range grp.length).map fun(k:Nat)=>Dt.int (k:Int)) (by simp[sizeLine];omega);rw[e]at ck;have ck2:=v7 (te:=VU) (i:=0) QA (fun m:XB=>qA (m.1,m.2.2)) grp [none] h' (U.get en) (by simp[sizeLine];omega) (by
   intro m _;rfl)
  have fl:=xJ en;rw[length_map]at fl;refine⟨h',U,?_⟩;show ∃Bc,Vc (Pn h' c) ((List.range grp.length).map (xO g grp)) Bc/\iH [.ref (b+c),.lst (.ref n::ds)] h=some (RD none Bc (grp.map fun m=>(m.1,m.2.2)),h')
  refine⟨Bc,A.Xb,?_⟩;have pm:grp.map (fun m:XB=>qA (m.1,m.2.2))=(grp.map fun m=>(m.1,m.2.2)).map qA:=by rw[map_map];rfl
  rw[pm]at ck2;have sk:=KF (U.get en);simp only[iH,wK,xB,zdF,zdG,if_true,zdH,zdI,Nat.reduceAdd,Nat.reduceSub,List.replicate,zdO,zdN,XA,OB,jB,FA,rA,JA,gI,MA,zdD,zdE,sA,nA,Nat.zero_le,ne,isEmpty_cons,Bool.not_false,uB,mB,dL,RB,zdL,zdK,zdJ,YA,GG,pL,yC,fl,er,nF,jJ,rF,Option.join_some,ck,EB,pE,WA,LD,sk,ck2,iF,KB];rfl
 | nil=>
  obtain⟨h1,e1,U1⟩:=J4 N (show c<=1000 by omega);have cn:∀k:HI->Option Rs,True:=fun _=>trivial
  cases lp:lE c g with
  | none=>
   rw[lp]at e1;refine⟨h1,U1,?_⟩;have sp:ZC c g []=none:=by simp only[ZC,lp]
   rw[sp];simp only[iH,wK,xB,zdF,zdG,if_true,zdH,zdI,Nat.reduceAdd,Nat.reduceSub,List.replicate,zdO,zdN,XA,OB,jB,FA,rA,JA,gI,MA,zdD,zdE,sA,nA,Nat.zero_le,ne,isEmpty_nil,Bool.not_true,uB,zdV,if_false,YC,YA,mB,eB,WA,zdU,e1,zdK,zdJ,OG,NF,EB,iF,KB]
  | some p=>
   rw[lp]at e1;have sp:ZC c g []=some (some p,(BA (g p.1 p.2)).map (fun w=>fB g p.1 (2^w) p.2),[p]):=by simp only[ZC,lp]
   rw[sp];have hp:p∈AA c:=mem_of_find?_eq_some lp;obtain⟨p1,p2⟩:=TR hp;have N1:=U1.net N;obtain⟨Bc,h',e,U,A⟩:=RQ (te:=xM) (fun(w:Nat)=>Dt.int (w:Int)) (fun h w d=>Pn h c (fB g p.1 (2^w) p.2) d) (fun h h' k d u q=>q.up u.l) (BA (g p.1 p.2)) [none,some (.ref (b+c)),some (qA p)] h1 (by
    intro w hw h' u;have wl:=(Kf.mp hw).1;have en:=xK (u.net N1) (show c<=1000 by omega) p1 p2 (2^w);refine⟨_,_,?_,Up.app _ _,h'.length,rfl,CF h' c _⟩;have sh:=vO (h:=h') (xL wl);have pw:(1:Int)*2^w=((2^w:Nat):Int):=by simp
    simp only[xM,eB,WA,MA,FA,JA,rA,zdJ,zdD,zdE,sA,nA,qA,HB,RB,OD,zdL,sh,Int.toNat_natCast,pw,zdU,en])
   have wl:=fJ (g p.1 p.2);have ck:=fF (l:=[none,some (.ref (b+c)),some (qA p)]) (h:=h1) (CA 0) DB xM (xs:=(BA (g p.1 p.2)).map fun(w:Nat)=>Dt.int (w:Int)) (by simp[sizeLine];omega);rw[e]at ck;have i1:=kF N1.top (p.1:Int);rw[SM.OC,DN p1,zdL]at i1;have i2:=kF (N1.row _ p1) (p.2:Int);rw[SM.OC,MK p2,zdL]at i2;refine⟨h',U1.trans U,Bc,A.Xb,?_⟩;have np:NF (qA p)=false:=rfl;have x0:pA (qA p) (.int 0) h1=some (.int (p.1:Nat),h1):=rfl;have x1:pA (qA p) (.int 1) h1=some (.int (p.2:Nat),h1):=rfl;simp only[iH,wK,xB,zdF,zdG,if_true,zdH,zdI,Nat.reduceAdd,Nat.reduceSub,List.replicate,zdO,zdN,XA,OB,jB,FA,rA,JA,gI,MA,zdD,zdE,sA,nA,Nat.zero_le,ne,isEmpty_nil,Bool.not_true,uB,zdV,if_false,YC,YA,mB,eB,WA,zdU,e1,zdK,zdJ,OG,np,x0,x1,i1,i2,GG,LD,bJ,EG,nF,jJ,rF,Option.join_some,ck,EB,pE,KB];rfl
theorem M8{c nb:Nat}(hc:c<=100){N:Nat->Nat->Nat}{ls:List Ln}(hl:ls.length<=1000){h:HI}(NN:bf h nb c N)(x1 x4:Option Dt):∃y rest,wC (CA 3) QM (ls.map hC) [some (.ref (nb+c)),x1,some (.ref h.length),none,x4] (h++[.lst ((VC c).map gA)]) =
 some (.nx [some (.ref (nb+c)),x1,some (.ref h.length),y,x4] (h++.lst ((VC c++ls.flatMap (xC (2*c+1))).map gA)::rest)):=by
 have ol:(VC c).length=c:=by simp[VC]
 obtain⟨l',h',e,⟨y,rfl⟩,rest,rfl,_⟩:=QK (i:=3) (body:=QM) hC (fun k l h'=>(∃y,l=[some (.ref (nb+c)),x1,some (.ref h.length),y,x4])/\∃rest,h'=h++.lst ((VC c++(ls.take k).flatMap (xC (2*c+1))).map gA)::rest/\((ls.take k).flatMap (xC (2*c+1))).length<=2*k) ls 0 (by
  rintro k x hx l h' ⟨⟨y,rfl⟩,rest,rfl,hk⟩;rw[Nat.zero_add]at hk ⊢;have kl:k<ls.length:=(zdP hx).1;have l2:(xC (2*c+1) x).length=2:=rfl;have nl:=(NN.grow (.lst ((VC c++(ls.take k).flatMap (xC (2*c+1))).map gA)::rest)).len;have eb:=Q3 x.1 x.2.1 x.2.2 (g:=2*c+1) (by omega) (h++.lst ((VC c++(ls.take k).flatMap (xC (2*c+1))).map gA)::rest);have x1:=sS (h:=h) (F:=VC c++(ls.take k).flatMap (xC (2*c+1))) (G:=xC (2*c+1) x) (rest:=rest) (Yb:=[]) (l:=[some (.ref (nb+c)),x1,some (.ref h.length),some (hC x),x4]) (g:=wA oK [] (bA (eV 3) (bA (wA GK [] (bA (GC BC (eV 0)) (fA))) (fA)))) (by rw[length_append,ol,l2];omega) (by
   simp only[eB,WA,MA,yC,rA,zdD,zdE,sA,nA,nl,iz,zdU,hC];exact eb)
  refine⟨.nx [some (.ref (nb+c)),_,some (.ref h.length),some (hC x),x4] (h++.lst ((VC c++(ls.take (k+1)).flatMap (xC (2*c+1))).map gA)::(rest++[.lst ((xC (2*c+1) x).map gA)])),?_,⟨some (hC x),rfl⟩,rest++[.lst ((xC (2*c+1) x).map gA)],rfl,?_⟩
  · rw[cJ _ hx,<- append_assoc];simp only[QM,JE,yN,rA,zdK,zdJ,zdD,zdE,sA,nA,x1]
  · rw[cJ _ hx,length_append,l2];omega) [some (.ref (nb+c)),x1,some (.ref h.length),none,x4] (h++[.lst ((VC c).map gA)]) ⟨⟨_,rfl⟩,[],by simp,by simp⟩
 rw[Nat.zero_add,take_length]at *;exact⟨y,rest,e⟩
theorem M9{c nb b:Nat}(hc:c<=100){N:Nat->Nat->Nat}(hN:∀i j,i<c->j<c->BA (N i j) ≠ []){h:HI}(NN:bf h nb c N){F:List Bd}(hF:F.length<=3000){r0:List Ob}(db:∀G:List Bd,∀r2:List Ob,(h++.lst (G.map gA)::(r0++r2))[b]?=some (.lst ((AA c).map qA)))(x1 y3:Option Dt)(pl:(AA c).length<=10000)(pin:∀p∈AA c,p.1<c/\p.2<c) :
 ∃y rest,xE (CA 4) RH [some (.ref (nb+c)),x1,some (.ref h.length),y3,none] (.rf b,h++.lst (F.map gA)::r0) =
 some (.nx [some (.ref (nb+c)),x1,some (.ref h.length),y3,y] (h++.lst ((F++(AA c).flatMap fun p=>rC p.1 (N p.1 p.2) p.2).map gA)::rest)):=by
 obtain⟨l',h',e,⟨y,rfl⟩,r2,rfl,_⟩:=BO (i:=4) (n:=b) (body:=RH) qA (fun k l h'=>(∃y,l=[some (.ref (nb+c)),x1,some (.ref h.length),y3,y])/\∃r2,h'=h++.lst ((F++((AA c).take k).flatMap fun p=>rC p.1 (N p.1 p.2) p.2).map gA)::(r0++r2)/\(((AA c).take k).flatMap fun p=>rC p.1 (N p.1 p.2) p.2).length<=8*k) (AA c) (by
  rintro k l h' ⟨_,r2,rfl,_⟩;exact db _ r2) (by
  rintro k x hx l h' ⟨⟨y,rfl⟩,r2,rfl,hk⟩;have kl:k<(AA c).length:=(zdP hx).1;obtain⟨p1,p2⟩:=pin x (mem_of_getElem? hx);have l8:(rC x.1 (N x.1 x.2) x.2).length<=8:=by unfold rC;rw[length_append];have:=YH x.1 x.2 0 (N x.1 x.2);have:=YH x.1 x.2 1 (N x.1 x.2);omega
  have NG:=NN.grow (.lst ((F++((AA c).take k).flatMap fun p=>rC p.1 (N p.1 p.2) p.2).map gA)::(r0++r2));obtain⟨rs,eb⟩:=XU x.1 (N x.1 x.2) x.2 (by omega) (by omega) (hN _ _ p1 p2) (h++.lst ((F++((AA c).take k).flatMap fun p=>rC p.1 (N p.1 p.2) p.2).map gA)::(r0++r2));have i1:=kF NG.top (x.1:Int);rw[SM.OC,DN p1,zdL]at i1;have i2:=kF (NG.row _ p1) (x.2:Int);rw[SM.OC,MK p2,zdL]at i2;have xx:=sS (h:=h) (F:=F++((AA c).take k).flatMap fun p=>rC p.1 (N p.1 p.2) p.2) (G:=rC x.1 (N x.1 x.2) x.2) (rest:=r0++r2) (Yb:=rs) (l:=[some (.ref (nb+c)),x1,some (.ref h.length),y3,some (qA x)]) (g:=wA YI [] (bA (e2 pA (eV 4) (eC (.int 0))) (bA (e2 pA (e2 pA (eV 0) (e2 pA (eV 4) (eC (.int 0)))) (e2 pA (eV 4) (eC (.int 1)))) (bA (e2 pA (eV 4) (eC (.int 1))) (fA))))) (by rw[length_append];omega) (by
   simp only[eB,WA,MA,FA,JA,rA,zdD,zdE,sA,nA,qA,HB,RB,OD,zdL,i1,i2,zdU];exact eb)
  refine⟨.nx [some (.ref (nb+c)),x1,some (.ref h.length),y3,some (qA x)] (h++.lst ((F++((AA c).take (k+1)).flatMap fun p=>rC p.1 (N p.1 p.2) p.2).map gA)::(r0++(r2++.lst ((rC x.1 (N x.1 x.2) x.2).map gA)::rs))),?_,⟨_,rfl⟩,_,rfl,?_⟩
  · rw[cJ _ hx,<- append_assoc,<- append_assoc];simp only[RH,JE,yN,rA,zdK,zdJ,zdD,zdE,sA,nA,xx]
  · rw[cJ _ hx,length_append];omega) [some (.ref (nb+c)),x1,some (.ref h.length),y3,none] (h++.lst (F.map gA)::r0) ⟨⟨_,rfl⟩,[],by simp,by simp⟩
 rw[take_length]at e;exact⟨y,_,e⟩
theorem W6{c nb:Nat}(hc:c<=100){N:Nat->Nat->Nat}(hN:∀i j,i<c->j<c->BA (N i j) ≠ []){ls:List Ln}(hl:ls.length<=1000){h:HI}(NN:bf h nb c N) :
 ∃rest,oN [.ref (nb+c),.lst (ls.map hC)] h=some (.ref h.length,h++.lst ((rD c N ls).map gA)::rest):=by
 have nl:=NN.len;have er:=FF (h:=h) (show(-(2^62):Int)<=(c:Int) by omega) (show(c:Int)<2^62 by omega);simp only[Int.toNat_natCast]at er;have u:=fun(i:Int) (h:HI)=>PF (h:=h) (i:=2) (j:=i) (Or.inl ⟨by decide,by decide⟩)
 have ec:=ZF (te:=LM) (tc:=DB) (i:=0) (fun(k:Nat)=>Dt.int (k:Int)) (fun k=>gA (2*k,2*k+1,-1)) h (List.range c) [none] (by
  intro k _;exact⟨by simp,by simp[LM,u,gA]⟩)
 have ek:=fF (l:=[none]) (h:=h) (CA 0) DB LM (xs:=(List.range c).map fun(k:Nat)=>Dt.int (k:Int)) (by simp;omega);rw[ec]at ek;have eo:(List.range c).map (fun k=>gA (2*k,2*k+1,-1))=(VC c).map gA:=by unfold VC;rw[map_map];rfl
 rw[eo]at ek;obtain⟨y,r0,e1⟩:=M8 hc hl NN (some (.lst (ls.map hC))) none;have nl2:=(NN.grow (.lst ((VC c++ls.flatMap (xC (2*c+1))).map gA)::r0)).len;have ep:=RM (c:=c) (by omega) (h++.lst ((VC c++ls.flatMap (xC (2*c+1))).map gA)::r0);have fl:(ls.flatMap (xC (2*c+1))).length<=2*ls.length:=by
  clear e1 ep ek nl2
  induction ls with
  | nil=>simp
  | cons x ls ih=>rw[flatMap_cons,length_append,zdF];have:(xC (2*c+1) x).length=2:=rfl;have:=ih (by simp at hl;omega);omega
 have pl:(AA c).length<=10000:=by have:=eJ c c;have h2:c*c<=100*100:=Nat.mul_le_mul hc hc;unfold AA;omega
 obtain⟨y4,rest,e2⟩:=M9 (b:=(h++Ob.lst ((VC c++ls.flatMap (xC (2*c+1))).map gA)::r0).length) hc hN NN (F:=VC c++ls.flatMap (xC (2*c+1))) (by simp[VC]at fl ⊢;omega) (r0:=r0++[.lst ((AA c).map qA)]) (fun G r2=>by
  have:h++Ob.lst (G.map gA)::(r0++[Ob.lst ((AA c).map qA)]++r2)=(h++Ob.lst (G.map gA)::r0)++Ob.lst ((AA c).map qA)::r2:=by simp
  rw[this,zdT (by simp)];simp) (some (.lst (ls.map hC))) y pl (fun p hp=>TR hp)
 refine⟨rest,?_⟩;have es:(h++Ob.lst ((VC c++ls.flatMap (xC (2*c+1))).map gA)::r0)++[Ob.lst ((AA c).map qA)]=h++Ob.lst ((VC c++ls.flatMap (xC (2*c+1))).map gA)::(r0++[Ob.lst ((AA c).map qA)]):=by simp
 rw[es]at ep;have sk:=KF (h:=h++Ob.lst ((VC c++ls.flatMap (xC (2*c+1))).map gA)::(r0++[Ob.lst ((AA c).map qA)])) (n:=(h++Ob.lst ((VC c++ls.flatMap (xC (2*c+1))).map gA)::r0).length) (xs:=(AA c).map qA) (by
  rw[<- es,zdT (zdS _),Nat.sub_self];rfl)
 unfold rD;simp only[oN,xR,xB,zdF,zdG,if_true,zdH,zdI,Nat.reduceAdd,Nat.reduceSub,List.replicate,zdO,zdN,XA,mB,UR,pL,yC,rA,zdD,zdE,sA,nA,nl,nl2,er,nF,rF,ek,zdK,zdJ,YA,YD,LD,EG,EF,e1,eB,WA,MA,zdU,ep,sk,e2,EB,KB]
theorem zJ(f:Nat->Nat->Nat){i j:Nat}(m:Nat)(hij:i≠j):fB f i m j i j=f i j&&&m:=by unfold fB wB;have:¬i=j:=hij;simp[this]
theorem nT(f:Nat->Nat->Nat)(i m j:Nat):fB f i m j j i=Cd (f i j&&&m):=by unfold fB wB;simp
theorem bG(f:Nat->Nat->Nat){i m j a b:Nat}(h1:¬(a=i/\b=j))(h2:¬(a=j/\b=i)):fB f i m j a b=f a b:=by
 unfold fB wB;by_cases e1:a=j
 · by_cases e2:b=i
   · exact absurd ⟨e1,e2⟩ h2
   · rw[if_pos e1,if_neg e2];by_cases e3:a=i
     · by_cases e4:b=j
       · exact absurd ⟨e3,e4⟩ h1
       · rw[if_pos e3,if_neg e4]
     · rw[if_neg e3]
 · rw[if_neg e1];by_cases e3:a=i
   · by_cases e4:b=j
     · exact absurd ⟨e3,e4⟩ h1
     · rw[if_pos e3,if_neg e4]
   · rw[if_neg e3]
theorem WU{c:Nat}{f:Nat->Nat->Nat}(h:gF c f):qD c f [] []:=fun i hi k hk j hj d n=>absurd (h i hi k hk j hj d) n
theorem YV{c:Nat}{f:Nat->Nat->Nat}(o:VA c f){x z:Nat}(hx:x<c)(hz:z<c)(d3:x≠z)(mm:Nat){W:List (Nat×Nat)}(h:qD c f W []):qD c (fB f x mm z) (W++[(x,z)]) []:=by
 have o':=KG o hx hz d3 mm;have main:∀i<c,∀k<c,∀j<c,tG i k j->¬(i=z/\j=x)->Ef (fB f x mm z) i k j≠fB f x mm z i j->zD (W++[(x,z)]) i k j:=by
  intro i hi k hk j hj d nz m;obtain⟨e1,e2,e3⟩:=d;have grow:∀{i k j},zD W i k j->zD (W++[(x,z)]) i k j:=by
   intro i k j q;unfold zD at q ⊢;simp only[mem_append];rcases q with q | q | q | q
   · exact .inl (.inl q)
   · exact .inr (.inl (.inl q))
   · exact .inr (.inr (.inl (.inl q)))
   · exact .inr (.inr (.inr (.inl q)))
  have un:∀{i k j},Ef f i k j≠f i j->i<c->k<c->j<c->tG i k j->zD W i k j:=by
   intro i k j n hi hk hj d;rcases h i hi k hk j hj d n with q | q | q
   · exact q
   · cases q
   · cases q
  by_cases ht:i=x/\j=z
  · obtain⟨rfl,rfl⟩:=ht;have l1:fB f i mm j i k=f i k:=bG f (fun q=>e2 q.2) (fun q=>e1 q.2.symm);have l2:fB f i mm j k j=f k j:=bG f (fun q=>e1 q.1.symm) (fun q=>e2 q.1);have n:Ef f i k j≠f i j:=by intro q;apply m;unfold Ef;rw[l1,l2,zJ f mm e3];exact AW (dH (f i j) _) q
    exact grow (un n hi hk hj ⟨e1,e2,e3⟩)
  · by_cases Ol:zD [(x,z)] i k j
    · unfold zD at Ol ⊢;simp only[mem_append];rcases Ol with q | q | q | q
      · exact .inl (.inr q)
      · exact .inr (.inl (.inr q))
      · exact .inr (.inr (.inl (.inr q)))
      · exact .inr (.inr (.inr (.inr q)))
    · unfold zD at Ol;simp only[mem_cons,not_mem_nil,or_false,Prod.mk.injEq,not_or]at Ol;obtain⟨g1,g2,g3,g4⟩:=Ol;have l0:fB f x mm z i j=f i j:=bG f (fun q=>ht q) (fun q=>nz q);have l1:fB f x mm z i k=f i k:=bG f (fun q=>g1 q) (fun q=>g2 ⟨q.2,q.1⟩);have l2:fB f x mm z k j=f k j:=bG f (fun q=>g3 q) (fun q=>g4 ⟨q.2,q.1⟩);have n:Ef f i k j≠f i j:=by unfold Ef at m ⊢;rw[l0,l1,l2]at m;exact m
      exact grow (un n hi hk hj ⟨e1,e2,e3⟩)
 intro i hi k hk j hj d m
 left
 by_cases nz:i=z/\j=x
 · obtain⟨e1,e2,e3⟩:=d;have m':=zS o' hj hk hi m;have q:=main j hj k hk i hi ⟨Ne.symm e2,Ne.symm e1,Ne.symm e3⟩ (fun q=>e3 (by omega)) m';unfold zD at q ⊢;rcases q with q | q | q | q
   · exact .inr (.inr (.inr q))
   · exact .inr (.inr (.inl q))
   · exact .inr (.inl q)
   · exact .inl q
 · exact main i hi k hk j hj d nz m
theorem zV{c k:Nat}:∀(ms:List XB)(_:∀m∈ms,FD c m)(f:Nat->Nat->Nat)(p:Nat)(W:List (Nat×Nat)),VA c f->qD c f W []->qD c (XD f k ms p) (W++ms.map fun m=>(m.1,m.2.2)) []
 | [],_,f,p,W,o,h=>by simpa[XD]using h
 | m::ms,hm,f,p,W,o,h=>by obtain⟨a,b,d,_⟩:=hm m (by simp);have:=zV (k:=k) ms (fun x hx=>hm x (by simp[hx])) _ (p+1) _ (KG o a b d (if p=k then m.2.1 else notM m.2.1)) (YV o a b d (if p=k then m.2.1 else notM m.2.1) h);rw[append_assoc]at this;exact this
inductive Tr where
 | Gb (st:List (Nat×Nat×Nat))
 | ring (st:List (Nat×Nat×Nat)) (cs:Nat->Option Nat) (P k:Nat)
 | one (st:List (Nat×Nat×Nat)) (bs:List Tr)
 | split (st:List (Nat×Nat×Nat)) (p:Nat×Nat) (bs:List Tr)
inductive Gn where
 | Dm
 | laid (t:Nat->Int)
 | clash (tr:Tr)
inductive Wd where | Dm | laid | clash
noncomputable def Gn.wd:Gn->Wd
 | .Dm=>.Dm
 | .laid _=>.laid
 | .clash _=>.clash
noncomputable def vU(tag:Option (Nat×Nat))(st:List (Nat×Nat×Nat))(bs:List Tr):Tr:=match tag with
 | none=>.one st bs
 | some p=>.split st p bs
noncomputable abbrev OA:=Nat->Nat->Nat
def vE(L:OA->List (List XB)->Nat->Gn->Nat->Prop)(tag:Option (Nat×Nat))(st:List (Nat×Nat×Nat))(gs:List (List XB)):List OA->Nat->List Tr->Gn->Nat->Prop
 | [],made,acc,a,Uc=>a=.clash (vU tag st acc)/\Uc=made
 | b::bs,made,acc,a,Uc=>(∃tr zaa,L b gs made (.clash tr) zaa/\vE L tag st gs bs zaa (acc++[tr]) a Uc)\/(a.wd≠.clash/\L b gs made a Uc)
def zC(c m:Nat)(ls:List Ln):Nat->OA->List (List XB)->Nat->Gn->Nat->Prop
 | 0,_,_,_,_,_=>False
 | n+1,f,gs,made,a,Uc=>
  (∃st g,Steps c f st g/\VB c g=true/\a=.clash (.Gb st)/\Uc=made)\/
  ∃st g,Zb c f st g/\
   ((∃cs P k,yH (2*c) (aC (rD c g ls)) (NO (rD c g ls)) cs P k/\a=.clash (.ring st cs P k)/\Uc=made)\/
    (∃t,(∀e∈rD c g ls,bF t e)/\
     ((ZC c g gs=none/\a=.laid t/\Uc=made)\/
      (∃tag bs ps,ZC c g gs=some (tag,bs,ps)/\
       ((m<=made/\a=.Dm/\Uc=made)\/(made<m/\vE (zC c m ls n) tag st gs.tail bs (made+1) [] a Uc))))))
def yd(c:Nat)(gs:List (List XB)):Prop:=∀x∈gs,∀m∈x,FD c m
theorem yd.tail{c:Nat}{gs:List (List XB)}(h:yd c gs):yd c gs.tail:=fun x hx=>h x (mem_of_mem_tail hx)
theorem NK{c:Nat}{g:OA}(o:VA c g){gs:List (List XB)}(ok:yd c gs){tag:Option (Nat×Nat)}{bs:List OA}{ps:List (Nat×Nat)}(h:ZC c g gs=some (tag,bs,ps)):∀b∈bs,VA c b:=by
 cases gs with
 | cons grp gs=>simp only[ZC,Option.some.injEq,Prod.mk.injEq]at h;obtain⟨_,rfl,_⟩:=h;intro b hb;obtain⟨k,_,rfl⟩:=mem_map.mp hb;exact FV grp (ok grp (by simp)) g 0 o
 | nil=>
  simp only[ZC]at h;cases lp:lE c g with
  | none=>rw[lp]at h;cases h
  | some p=>rw[lp]at h;simp only[Option.some.injEq,Prod.mk.injEq]at h;obtain⟨_,rfl,_⟩:=h;intro b hb;obtain⟨w,_,rfl⟩:=mem_map.mp hb;have hp:p∈AA c:=mem_of_find?_eq_some lp;obtain⟨q1,q2⟩:=Jf.mp hp;exact KG o (by omega) (by omega) (by omega) _
theorem WR{c:Nat}{g:OA}{ls:List Ln}{cs:Nat->Option Nat}{P k:Nat}(R:yH (2*c) (aC (rD c g ls)) (NO (rD c g ls)) cs P k){t:Nat->Int}(ht:∀e∈rD c g ls,bF t e):False:=
 AS (b:=t) (fun e he=>by have:=ht e he;unfold bF at this;omega) R
theorem kJ{c m:Nat}{ls:List Ln}:∀(n:Nat)(f:OA)(gs:List (List XB))(made:Nat)(a a':Gn)(s s':Nat),VA c f->yd c gs->zC c m ls n f gs made a s->zC c m ls n f gs made a' s'->a.wd=a'.wd/\s=s'
 | 0,_,_,_,_,_,_,_,_,_,h,_=>h.elim
 | n+1,f,gs,made,a,a',s,s',of,og,h,h'=>by
  rcases h with⟨st,g,h1,h2,rfl,rfl⟩ | ⟨st,g,h1,h⟩
  · rcases h' with⟨st',g',k1,k2,rfl,rfl⟩ | ⟨st',g',k1,h'⟩
    · exact⟨rfl,rfl⟩
    · have:=k1.Mf of h1;rw[h2]at this;cases this
  · rcases h' with⟨st',g',k1,k2,rfl,rfl⟩ | ⟨st',g',k1,h'⟩
    · have:=h1.Mf of k1;rw[k2]at this;cases this
    · have eg:=h1.unique of k1;subst eg;have Ub:=(h1.ok of).1;rcases h with⟨cs,P,k,R,rfl,rfl⟩ | ⟨t,ht,h⟩
      · rcases h' with⟨cs',P',k',R',rfl,rfl⟩ | ⟨t',ht',h'⟩
        · exact⟨rfl,rfl⟩
        · exact(WR R ht').elim
      · rcases h' with⟨cs',P',k',R',rfl,rfl⟩ | ⟨t',ht',h'⟩
        · exact(WR R' ht).elim
        · rcases h with⟨sp,rfl,rfl⟩ | ⟨tag,bs,ps,sp,h⟩
          · rcases h' with⟨Em,rfl,rfl⟩ | ⟨tag',bs',ps',Em,h'⟩
            · exact⟨rfl,rfl⟩
            · rw[sp]at Em;cases Em
          · rcases h' with⟨Em,rfl,rfl⟩ | ⟨tag',bs',ps',Em,h'⟩
            · rw[sp]at Em;cases Em
            · rw[sp]at Em;cases Em;rcases h with⟨lm,rfl,rfl⟩ | ⟨lm,h⟩
              · rcases h' with⟨lm',rfl,rfl⟩ | ⟨lm',h'⟩
                · exact⟨rfl,rfl⟩
                · omega
              · rcases h' with⟨lm',rfl,rfl⟩ | ⟨lm',h'⟩
                · omega
                · have Jp:=NK Ub og sp;have go:∀(bs:List OA),(∀b∈bs,VA c b)->∀(md:Nat)(acc acc':List Tr)(a a':Gn)(s s':Nat),vE (zC c m ls n) tag st gs.tail bs md acc a s->vE (zC c m ls n) tag st' gs.tail bs md acc' a' s'->a.wd=a'.wd/\s=s':=by
                   intro bs
                   induction bs with
                   | nil=>rintro _ md acc acc' a a' s s' ⟨rfl,rfl⟩ ⟨rfl,rfl⟩;exact⟨rfl,rfl⟩
                   | cons b bs ih=>
                    intro hb md acc acc' a a' s s' q q';have hb0:=hb b (by simp);have hb1:∀x∈bs,VA c x:=fun x hx=>hb x (by simp[hx])
                    rcases q with⟨tr,m1,q1,q2⟩ | ⟨q1,q2⟩
                    · rcases q' with⟨tr',m1',q1',q2'⟩ | ⟨q1',q2'⟩
                      · obtain⟨_,rfl⟩:=kJ n b _ md _ _ _ _ hb0 og.tail q1 q1';exact ih hb1 _ _ _ _ _ _ _ q2 q2'
                      · obtain⟨z,_⟩:=kJ n b _ md _ _ _ _ hb0 og.tail q1 q2';exact absurd z.symm q1'
                    · rcases q' with⟨tr',m1',q1',q2'⟩ | ⟨q1',q2'⟩
                      · obtain⟨z,_⟩:=kJ n b _ md _ _ _ _ hb0 og.tail q2 q1';exact absurd z q1
                      · exact kJ n b _ md _ _ _ _ hb0 og.tail q2 q2'
                  exact go bs Jp _ _ _ _ _ _ _ h h'
theorem RN{c m:Nat}{ls:List Ln}:∀(n:Nat)(f:OA)(gs:List (List XB))(made:Nat)(a:Gn)(s:Nat),zC c m ls n f gs made a s->made<=s/\(made<=m->s<=m)/\(made<=m->a.wd=.Dm->s=m)
 | 0,_,_,_,_,_,h=>h.elim
 | n+1,f,gs,made,a,s,h=>by
  rcases h with⟨st,g,h1,h2,rfl,rfl⟩ | ⟨st,g,h1,h⟩
  · exact⟨zdS _,id,fun _ z=>by cases z⟩
  · rcases h with⟨cs,P,k,R,rfl,rfl⟩ | ⟨t,ht,h⟩
    · exact⟨zdS _,id,fun _ z=>by cases z⟩
    · rcases h with⟨sp,rfl,rfl⟩ | ⟨tag,bs,ps,sp,h⟩
      · exact⟨zdS _,id,fun _ z=>by cases z⟩
      · rcases h with⟨lm,rfl,rfl⟩ | ⟨lm,h⟩
        · exact⟨zdS _,id,fun _ _=>by omega⟩
        · have go:∀(bs:List OA)(md:Nat)(acc:List Tr)(a:Gn)(s:Nat),vE (zC c m ls n) tag st gs.tail bs md acc a s->md<=s/\(md<=m->s<=m)/\(md<=m->a.wd=.Dm->s=m):=by
           intro bs
           induction bs with
           | nil=>rintro md acc a s ⟨rfl,rfl⟩;refine⟨zdS _,id,fun _ z=>by cases z⟩
           | cons b bs ih=>
            intro md acc a s q;rcases q with⟨tr,m1,q1,q2⟩ | ⟨q1,q2⟩
            · obtain⟨a1,a2,_⟩:=RN n b _ md _ _ q1;obtain⟨b1,b2,b3⟩:=ih _ _ _ _ q2;exact⟨by omega,fun z=>b2 (a2 z),fun z=>b3 (a2 z)⟩
            · exact RN n b _ md _ _ q2
          obtain⟨a1,a2,a3⟩:=go bs _ _ _ _ h;exact⟨by omega,fun _=>a2 (by omega),fun _=>a3 (by omega)⟩
mutual
noncomputable def Yd(lo:Nat)(h:HI):Tr->Dt->Prop
 | .Gb st,d=>∃s,d=.tup [.str "threes", .ref s]/\lo<=s/\h[s]?=some (.lst (st.map DD))
 | .ring st cs P k,d=>∃s r,d=.tup [.str "ring", .ref s,.ref r]/\lo<=s/\lo<=r/\h[s]?=some (.lst (st.map DD))/\h[r]?=some (.lst (EC cs P k))
 | .one st bs,d=>∃s r ds,d=.tup [.str "one", .ref s,.ref r]/\lo<=s/\lo<=r/\h[s]?=some (.lst (st.map DD))/\h[r]?=some (.lst ds)/\Qf lo h bs ds
 | .split st p bs,d=>∃s r ds,d=.tup [.str "split", .ref s,.int (p.1:Nat),.int (p.2:Nat),.ref r]/\lo<=s/\lo<=r/\h[s]?=some (.lst (st.map DD))/\h[r]?=some (.lst ds)/\Qf lo h bs ds
noncomputable def Qf(lo:Nat)(h:HI):List Tr->List Dt->Prop
 | [],ds=>ds=[]
 | t::ts,ds=>∃d r,ds=d::r/\Yd lo h t d/\Qf lo h ts r
end
noncomputable def BZ(lo:Nat)(h h':HI):Prop:=∀(n:Nat)(xs:List Dt),lo<=n->h[n]?=some (.lst xs)->h'[n]?=some (.lst xs)
mutual
theorem Yd.up{lo lo':Nat}(hl:lo'<=lo){h h':HI}(u:BZ lo h h'):∀(t:Tr){d:Dt},Yd lo h t d->Yd lo' h' t d
 | .Gb st,d,q=>by simp only[Yd]at q ⊢;obtain⟨s,e,l,q⟩:=q;exact⟨s,e,by omega,u _ _ l q⟩
 | .ring st cs P k,d,q=>by simp only[Yd]at q ⊢;obtain⟨s,r,e,l1,l2,q1,q2⟩:=q;exact⟨s,r,e,by omega,by omega,u _ _ l1 q1,u _ _ l2 q2⟩
 | .one st bs,d,q=>by simp only[Yd]at q ⊢;obtain⟨s,r,ds,e,l1,l2,q1,q2,q3⟩:=q;exact⟨s,r,ds,e,by omega,by omega,u _ _ l1 q1,u _ _ l2 q2,Qf.up hl u bs q3⟩
 | .split st p bs,d,q=>by simp only[Yd]at q ⊢;obtain⟨s,r,ds,e,l1,l2,q1,q2,q3⟩:=q;exact⟨s,r,ds,e,by omega,by omega,u _ _ l1 q1,u _ _ l2 q2,Qf.up hl u bs q3⟩
theorem Qf.up{lo lo':Nat}(hl:lo'<=lo){h h':HI}(u:BZ lo h h'):∀(ts:List Tr){ds:List Dt},Qf lo h ts ds->Qf lo' h' ts ds
 | [],ds,q=>by simp only[Qf]at q ⊢;exact q
 | t::ts,ds,q=>by simp only[Qf]at q ⊢;obtain⟨d,r,e,q1,q2⟩:=q;exact⟨d,r,e,Yd.up hl u t q1,Qf.up hl u ts q2⟩
end
theorem Qf.snoc{lo:Nat}{h:HI}{t:Tr}{d:Dt}(a:Yd lo h t d):∀(ts:List Tr){ds:List Dt},Qf lo h ts ds->Qf lo h (ts++[t]) (ds++[d])
 | [],ds,q=>by simp only[Qf]at q;subst q;simp only[zdN,Qf];exact⟨d,[],rfl,a,rfl⟩
 | t'::ts,ds,q=>by simp only[Qf]at q;obtain⟨d',r,rfl,q1,q2⟩:=q;simp only[zdO,Qf];exact⟨d',r++[d],rfl,q1,Qf.snoc a ts q2⟩
noncomputable def ND(c:Nat)(u:Nat->Int):List Dt:=(List.range c).map fun k=>.tup [.int (u (2*k)),.int (u (2*k+1))]
def Vb(lo:Nat)(h:HI)(c:Nat):Gn->Dt->Prop
 | .Dm,d=>d=.tup [.str "open", .non]
 | .laid t,d=>d=.tup [.str "laid", .lst (ND c (iC (2*c) t))]
 | .clash tr,d=>∃x,d=.tup [.str "clash",x]/\Yd lo h tr x
theorem Vb.up{lo lo':Nat}(hl:lo'<=lo){h h':HI}(u:BZ lo h h'){c:Nat}{a:Gn}{d:Dt}(q:Vb lo h c a d):Vb lo' h' c a d:=by
 cases a with
 | Dm=>exact q
 | laid t=>exact q
 | clash tr=>obtain⟨x,e,q⟩:=q;exact⟨x,e,Yd.up hl u tr q⟩
theorem Y3{c:Nat}(hc:c<=100)(u:Nat->Int)(h:HI):pM [.lst (jC (2*c) u)] h=some (.lst (ND c u),h):=by
 have er:C0 2 (.int 0) (.int ((2*c:Nat):Int),h)=some (.vals ((List.range c).map fun(k:Nat)=>Dt.int (0+(k:Int)*(2:Nat))),h):=by
  have e1:((((2*c:Nat):Int)-0+((2:Nat):Int)-1)/((2:Nat):Int)).toNat=c:=by omega
  have cc:(0:Int)<=0/\(0:Int)<2^61/\0<=((2*c:Nat):Int)/\((2*c:Nat):Int)<2^61/\0<2/\2<1000:=by omega
  simp only[C0,if_pos cc,e1]
 have ec:=ZF (te:=WL) (tc:=DB) (i:=0) (fun(k:Nat)=>Dt.int (0+(k:Int)*(2:Nat))) (fun k=>Dt.tup [.int (u (2*k)),.int (u (2*k+1))]) h (List.range c) [none,some (.lst (jC (2*c) u))] (by
  intro k hk;have hk:=mem_range.mp hk;refine⟨by simp,?_⟩;have g1:(0:Int)+(k:Int)*((2:Nat):Int)=((2*k:Nat):Int):=by omega
  have g2:((2*k:Nat):Int)+1=((2*k+1:Nat):Int):=by omega
  have t1:=BN u (show 2*k<2*c by omega);have t2:=BN u (show 2*k+1<2*c by omega);rw[g1];simp only[WL,pE,WA,MA,FA,JA,rA,zdJ,zdD,zdE,sA,nA,tE,g2,dL,SM.OC,t1,t2,zdL];rfl)
 have ck:=fF (l:=[none,some (.lst (jC (2*c) u))]) (h:=h) (CA 0) DB WL (xs:=(List.range c).map fun(k:Nat)=>Dt.int (0+(k:Int)*(2:Nat))) (by simp[sizeLine];omega);rw[ec]at ck;have tl:=JR (2*c) u;simp only[pM,FP,xB,zdF,zdG,if_true,zdH,zdI,Nat.reduceAdd,Nat.reduceSub,List.replicate,zdU,EB,GG,J1,JA,yC,rA,zdD,sA,nA,LS,tl,er,nF,jJ,rF,Option.join_some,ck,KB];rfl
def zah(h:HI)(d:Dt)(P:List (Nat×Nat)):Prop:=d=.lst (P.map qA)\/∃n,d=.ref n/\h[n]?=some (.lst (P.map qA))
theorem zah.seq{h:HI}{d:Dt}{P:List (Nat×Nat)}(q:zah h d P)(e:HI):JD (h++e) d=some (P.map qA):=by
 rcases q with rfl | ⟨n,rfl,q⟩
 · rfl
 · have:=(Up.app h e).get q;simp only[JD,JB,this]
def yc (h:HI) (o:Nat) (ls:List Ln) (m made:Nat):Prop:=h[o]?=some (.ins "Search" [("lengths", .lst (ls.map hC)),("most", .int (m:Nat)),("made", .int (made:Nat))])
theorem yc.up{h h':HI}(u:Up h h'){o m made:Nat}{ls:List Ln}(s:yc h o ls m made):yc h' o ls m made:=u.get s
theorem RK{m:Nat}(hm:m<8192)(h:m≠0):BA m ≠ []:=by
 intro e;apply h;refine aI hm (by decide) fun k hk=>?_
 cases z:m.testBit k with
 | false=>simp
 | true=>have:k∈BA m:=Kf.mpr ⟨hk,z⟩;rw[e]at this;cases this
theorem g9{c:Nat}{g:OA}(o:VA c g)(ne:VB c g=false):∀i j,i<c->j<c->BA (g i j) ≠ []:=fun i j hi hj=>RK (o.lt i hi j hj) (Mf ne hi hj)
theorem SW{c:Nat}{p:Nat×Nat}(h:p∈AA c):p.1<p.2/\p.2<c:=by unfold AA QC at h;obtain⟨i,hi,h⟩:=mem_flatMap.mp h;obtain⟨k,hk,rfl⟩:=mem_map.mp h;have:=mem_range.mp hi;have:=mem_range.mp hk;exact⟨by show i<i+1+k;omega,by show i+1+k<c;omega⟩
theorem p8{c i j:Nat}(h1:i<j)(h2:j<c):(i,j)∈AA c:=by unfold AA QC;refine mem_flatMap.mpr ⟨i,mem_range.mpr (by omega),mem_map.mpr ⟨j-i-1,mem_range.mpr (by omega),?_⟩⟩;rw[show i+1+(j-i-1)=j by omega]
theorem LY{p q:Nat}{a mx mn:Int}{e:Bd}(h:e∈qG p q a mx mn):(e.1=p/\e.2.1=q)\/(e.1=q/\e.2.1=p):=by
 unfold qG at h;rcases mem_append.mp h with h | h
 · split at h
   · rw[mem_singleton.mp h];exact .inl ⟨rfl,rfl⟩
   · exact nomatch h
 · split at h
   · rw[mem_singleton.mp h];exact .inr ⟨rfl,rfl⟩
   · exact nomatch h
theorem BX{i j side m:Nat}{e:Bd}(h:e∈KE i j side m):∃z:Nat,z<2/\((e.1=2*i+side/\e.2.1=2*j+z)\/(e.1=2*j+z/\e.2.1=2*i+side)):=by
 unfold KE at h;rcases mem_append.mp h with h | h
 · exact⟨0,by omega,LY h⟩
 · exact⟨1,by omega,LY h⟩
theorem gY{c:Nat}(N:Nat->Nat->Nat){ls:List Ln}(hl:∀x∈ls,x.1<c):∀e∈rD c N ls,e.1<2*c/\e.2.1<2*c/\e.1≠e.2.1:=by
 intro e he;unfold rD at he;rcases mem_append.mp he with he | he
 · rcases mem_append.mp he with he | he
   · obtain⟨i,hi,rfl⟩:=mem_map.mp he;have:=mem_range.mp hi;refine⟨?_,?_,?_⟩<;>simp only<;>omega
   · obtain⟨x,hx,he⟩:=mem_flatMap.mp he;have:=hl x hx;unfold xC at he;simp only[mem_cons,not_mem_nil,or_false]at he;rcases he with rfl | rfl
     · refine⟨?_,?_,?_⟩<;>simp only<;>omega
     · refine⟨?_,?_,?_⟩<;>simp only<;>omega
 · obtain⟨p,hp,he⟩:=mem_flatMap.mp he;obtain⟨h1,h2⟩:=SW hp;unfold rC at he;rcases mem_append.mp he with he | he
   · obtain⟨z,hz,⟨a,b⟩ | ⟨a,b⟩⟩:=BX he
     · rw[a,b];omega
     · rw[a,b];omega
   · obtain⟨z,hz,⟨a,b⟩ | ⟨a,b⟩⟩:=BX he
     · rw[a,b];omega
     · rw[a,b];omega
theorem PR{α β:Type}(f:α->List β)(n:Nat):∀(xs:List α)(_:∀x∈xs,(f x).length<=n),(xs.flatMap f).length<=n*xs.length
 | [],_=>by simp
 | x::xs,h=>by have:=PR f n xs (fun y hy=>h y (by simp[hy]));have:=h x (by simp);rw[flatMap_cons,length_append,zdF,Nat.mul_succ];omega
theorem CW{c:Nat}(hc:c<=8)(N:Nat->Nat->Nat){ls:List Ln}(hl:ls.length<=100):(rD c N ls).length<=1000:=by
 unfold rD;rw[length_append,length_append];have a1:(VC c).length=c:=by simp[VC]
 have a2:=PR (xC (2*c+1)) 2 ls (fun x _=>zdS _);have a3:=PR (fun p:Nat×Nat=>rC p.1 (N p.1 p.2) p.2) 8 (AA c) (fun x _=>by
  unfold rC;rw[length_append];have:=YH x.1 x.2 0 (N x.1 x.2);have:=YH x.1 x.2 1 (N x.1 x.2);omega)
 have a4:=eJ c c;have h2:c*c<=8*8:=Nat.mul_le_mul hc hc;have a5:(AA c).length<=64:=by unfold AA;omega
 omega
theorem sZ{h h':HI}(f:∀m,m<h.length->h'[m]?=h[m]?):Up h h':=by refine⟨?_,f⟩;apply Classical.byContradiction;intro n;have e:=f h'.length (by omega);rw[getElem?_eq_none (zdS _),getElem?_eq_getElem (by omega)]at e;cases e
theorem Tq{h:HI}{ds:List Dt}{gs:List (List XB)}(q:Xf h ds gs):Xf h (ds.drop 1) gs.tail:=by
 cases q with
 | nil=>exact .nil
 | cons a r=>exact r
theorem vg {x y z:Dt}:sD "lengths" [("lengths",x),("most",y),("made",z)]=some x:=by rfl
theorem Xk {x y z:Dt}:sD "most" [("lengths",x),("most",y),("made",z)]=some y:=by
 have:¬((("most" :Str))=(("lengths" :Str))):=by decide +kernel
 simp only[sD,if_neg this,if_true]
theorem QY {x y z:Dt}:sD "made" [("lengths",x),("most",y),("made",z)]=some z:=by
 have h1:¬((("made" :Str))=(("lengths" :Str))):=by decide +kernel
 have h2:¬((("made" :Str))=(("most" :Str))):=by decide +kernel
 simp only[sD,if_neg h1,if_neg h2,if_true]
theorem LX {x y z:Dt}:sD "look" [("lengths",x),("most",y),("made",z)]=none:=by
 have h1:¬((("look" :Str))=(("lengths" :Str))):=by decide +kernel
 have h2:¬((("look" :Str))=(("most" :Str))):=by decide +kernel
 have h3:¬((("look" :Str))=(("made" :Str))):=by decide +kernel
 simp only[sD,if_neg h1,if_neg h2,if_neg h3]
theorem Yk {x y z:Dt}:sD "look_at_branches" [("lengths",x),("most",y),("made",z)]=none:=by
 have h1:¬((("look_at_branches" :Str))=(("lengths" :Str))):=by decide +kernel
 have h2:¬((("look_at_branches" :Str))=(("most" :Str))):=by decide +kernel
 have h3:¬((("look_at_branches" :Str))=(("made" :Str))):=by decide +kernel
 simp only[sD,if_neg h1,if_neg h2,if_neg h3]
theorem ak {x y z v:Dt}:AE "made" v [("lengths",x),("most",y),("made",z)]=([("lengths",x),("most",y),("made",v)]:List (Str×Dt)):=by
 have h1:¬((("lengths" :Str))=(("made" :Str))):=by decide +kernel
 have h2:¬((("most" :Str))=(("made" :Str))):=by decide +kernel
 simp only[AE,if_neg h1,if_neg h2,if_true]
theorem Wh:decide ((("open" :Str))=(("clash" :Str)))=false:=by decide +kernel
theorem j0:decide ((("laid" :Str))=(("clash" :Str)))=false:=by decide +kernel
theorem W0:decide ((("times" :Str))=(("ring" :Str)))=false:=by decide +kernel
def Jx(c m:Nat)(ls:List Ln)(n:Nat)(f:OA)(gs:List (List XB))(made o:Nat)(h:HI)(r:Option (Dt×HI)):Prop:=
 ∃d h' a s,r=some (d,h')/\zC c m ls n f gs made a s/\Vb h.length h' c a d/\gb h h'/\yc h' o ls m s
structure Vy(c m:Nat)(ls:List Ln)(n:Nat)(f:OA)(gs:List (List XB))(Dc:List Dt)(made b o:Nat)(pd:Dt)(P:List (Nat×Nat))(h:HI):Prop where
 ex:∃a s,zC c m ls n f gs made a s
 of:VA c f
 og:yd c gs
 sg:∀x∈gs,x.length<=1000
 net:bf h b c f
 grp:Xf h Dc gs
 prs:zah h pd P
 pc:∀p∈P,p.1<c/\p.2<c/\p.1≠p.2
 wt:qD c f P []
 lp:P.length<=1000
 ob:yc h o ls m made
def XS(c m:Nat)(ls:List Ln)(n:Nat):Prop:=∀(f:OA)(gs:List (List XB))(Dc:List Dt)(made b o:Nat)(pd:Dt)(P:List (Nat×Nat))(h:HI),Vy c m ls n f gs Dc made b o pd P h->Jx c m ls n f gs made o h (yF n [.ref o,.ref (b+c),pd,.lst Dc] h)
theorem T1(tag:Option (Nat×Nat))(Bc:List Dt)(ps:List (Nat×Nat))(k:HI):pA (RD tag Bc ps) (.int 2) k=some (.lst Bc,k):=by cases tag<;>rfl
theorem V1(tag:Option (Nat×Nat))(Bc:List Dt)(ps:List (Nat×Nat))(k:HI):pA (RD tag Bc ps) (.int 3) k=some (.lst (ps.map qA),k):=by cases tag<;>rfl
theorem aj{c m n:Nat}{ls:List Ln}(IH:XS c m ls n){tag:Option (Nat×Nat)}{st st0:List (Nat×Nat×Nat)}{gs:List (List XB)}{Dc:List Dt}{ps:List (Nat×Nat)}{Xm:List Dt}{hB:HI}{o sr:Nat}(og:yd c gs)(sg:∀x∈gs,x.length<=1000)(G0:Xf hB Dc gs)(pc:∀p∈ps,p.1<c/\p.2<c/\p.1≠p.2)(lp:ps.length<=1000) :
 ∀(bs:List OA)(Bc:List Dt)(made:Nat)(acc acc0:List Tr)(Ud:List Dt)(h:HI)(y5 y6:Option Dt)(a0:Gn)(s0:Nat),vE (zC c m ls n) tag st0 gs bs made acc0 a0 s0->(∀b∈bs,VA c b)->(∀b∈bs,qD c b ps [])->Vc (Pn hB c) bs Bc->gb hB h->h[hB.length]?=some (.lst Ud)->Qf (hB.length+1) h acc Ud->Ud.length+bs.length<=5000->yc h o ls m made->
  ∃r,wC (CA 5) (aK (yF n)) Bc [some (.ref o),some (RD tag Xm ps),some (.ref sr),some (.lst Dc),some (.ref hB.length),y5,y6] h=some r/\
   ((∃y5' y6' h' acc' Rn s',r=.nx [some (.ref o),some (RD tag Xm ps),some (.ref sr),some (.lst Dc),some (.ref hB.length),y5',y6'] h'/\gb hB h'/\h'[hB.length]?=some (.lst Rn)/\Qf (hB.length+1) h' acc' Rn/\yc h' o ls m s'/\vE (zC c m ls n) tag st gs bs made acc (.clash (vU tag st acc')) s')\/
    (∃d h' a s',r=.rt d h'/\gb hB h'/\Vb (hB.length+1) h' c a d/\yc h' o ls m s'/\a.wd≠.clash/\vE (zC c m ls n) tag st gs bs made acc a s')):=by
 intro bs
 induction bs with
 | nil=>intro Bc made acc acc0 Ud h y5 y6 a0 s0 q _ _ A U hb T _ O;cases A;exact⟨_,rfl,.inl ⟨y5,y6,h,acc,Ud,made,rfl,U,hb,T,O,rfl,rfl⟩⟩
 | cons b bs ih=>
  intro Bc made acc acc0 Ud h y5 y6 a0 s0 q okb wtb A U hb T sz O;cases A with
  | @cons _ nd _ zcg nd1 A=>
  have hbl:hB.length+1<=h.length:=(zdP hb).1;obtain⟨b1,rfl,N1⟩:=nd1;have exb:∃a s,zC c m ls n b gs made a s:=by
   rcases q with⟨tr,m1,q1,_⟩ | ⟨_,q2⟩
   · exact⟨_,_,q1⟩
   · exact⟨_,_,q2⟩
  obtain⟨d,h1,a,s,e,L,AN,U1,O1⟩:=IH b gs Dc made b1 o (.lst (ps.map qA)) ps h ⟨exb,okb b (by simp),og,sg,U.net N1,G0.up U,.inl rfl,pc,wtb b (by simp),lp,O⟩;have mt:=aR (x := "Search") (m := "look") (F:=yF n) (ga:=bA (eV 5) (bA (e2 pA (eV 1) (eC (.int 3))) (bA (eV 3) fA))) (l:=[some (.ref o),some (RD tag Xm ps),some (.ref sr),some (.lst Dc),some (.ref hB.length),some (.ref (b1+c)),y6]) O LX;have ev:nI "Search" "look" (yF n) (eV 0) (bA (eV 5) (bA (e2 pA (eV 1) (eC (.int 3))) (bA (eV 3) fA))) [some (.ref o),some (RD tag Xm ps),some (.ref sr),some (.lst Dc),some (.ref hB.length),some (.ref (b1+c)),y6] h=some (d,h1):=by simp only[ZS,rA,zdD,sA,nA,mt,WA,MA,FA,JA,zdE,V1,e]
  cases a with
  | Dm=>have dd:d=.tup [.str "open", .non]:=AN;refine⟨.rt d h1,?_,.inr ⟨d,h1,.Dm,s,rfl,U.trans U1,AN,O1,(fun z=>by cases z),.inr ⟨(fun z=>by cases z),L⟩⟩⟩;subst dd;simp only[zdH,wC,kG,zdM,zdK,zdJ,aK,XA,mB,ev,nA,YA,OB,jB,FA,rA,JA,zdD,zdE,sA,HB,RB,zdL,pT,Wh,Bool.not_false,uB,if_true,EB,iF,UY]
  | laid t=>have dd:d=.tup [.str "laid", .lst (ND c (iC (2*c) t))]:=AN;refine⟨.rt d h1,?_,.inr ⟨d,h1,.laid t,s,rfl,U.trans U1,AN,O1,(fun z=>by cases z),.inr ⟨(fun z=>by cases z),L⟩⟩⟩;subst dd;simp only[zdH,wC,kG,zdM,zdK,zdJ,aK,XA,mB,ev,nA,YA,OB,jB,FA,rA,JA,zdD,zdE,sA,HB,RB,zdL,pT,j0,Bool.not_false,uB,if_true,EB,iF,UY]
  | clash tr=>
   obtain⟨x,rfl,TA⟩:=AN;have hb1:=U1.2 _ _ hb;obtain⟨h2,Eb⟩:∃h2:HI,h2=h1.set hB.length (.lst (Ud++[x])):=⟨_,rfl⟩
   have l1:hB.length<h1.length:=(zdP hb1).1;have g2:∀k,k≠hB.length->h2[k]?=h1[k]?:=fun k hk=>by rw[Eb,getElem?_set_ne (Ne.symm hk)]
   have U2:gb hB h2:=⟨by rw[Eb,length_set];exact Nat.le_trans U.1 U1.1,fun k xs hk=>by
    have kl:=(zdP hk).1;rw[g2 k (by omega)];exact U1.2 _ _ (U.2 _ _ hk)⟩
   have F2:BZ (hB.length+1) h1 h2:=fun k xs hk hx=>by rw[g2 k (by omega)];exact hx
   have hb2:h2[hB.length]?=some (.lst (Ud++[x])):=by rw[Eb,getElem?_set_self l1]
   have O2:yc h2 o ls m s:=by
    have:o≠hB.length:=by intro z;unfold yc at O1;rw[z,hb1]at O1;cases O1
    unfold yc;rw[g2 o this];exact O1
   have T2:Qf (hB.length+1) h2 (acc++[tr]) (Ud++[x]):=Qf.snoc (Yd.up hbl (fun k xs hk hx=>F2 k xs (by omega) hx) tr TA) acc (Qf.up (zdS _) (fun k xs hk hx=>F2 k xs hk (U1.2 _ _ hx)) acc T);have ap:=FG (l:=[some (.ref o),some (RD tag Xm ps),some (.ref sr),some (.lst Dc),some (.ref hB.length),some (.ref (b1+c)),some (.tup [.str "clash",x])]) (h:=h1) (g:=e2 pA (eV 6) (eC (.int 1))) (d:=x) hb1 (by simp) hb1 (by simp at sz;simp[sizeLine];omega);rw[<- Eb]at ap;obtain⟨a1,s1,zai,q3⟩:∃a1 s1 zai,vE (zC c m ls n) tag st0 gs bs s zai a1 s1:=by
    rcases q with⟨tr',m1,q1,q2⟩ | ⟨q1,q2⟩
    · obtain⟨_,z⟩:=kJ n b gs made _ _ _ _ (okb b (by simp)) og q1 L;subst z;exact⟨_,_,_,q2⟩
    · obtain⟨z,_⟩:=kJ n b gs made _ _ _ _ (okb b (by simp)) og q2 L;exact absurd z q1
   obtain⟨r,e3,er⟩:=ih zcg s (acc++[tr]) zai (Ud++[x]) h2 (some (.ref (b1+c))) (some (.tup [.str "clash",x])) a1 s1 q3 (fun y hy=>okb y (by simp[hy])) (fun y hy=>wtb y (by simp[hy])) A U2 hb2 T2 (by simp at sz ⊢;omega) O2;refine⟨r,?_,?_⟩
   · simp only[zdH,wC,kG,zdM,zdK,zdJ,aK,XA,mB,ev,nA,YA,OB,jB,FA,rA,JA,zdD,zdE,sA,HB,RB,zdL,pT,decide_true,Bool.not_true,uB,zdV,if_false,YC,JE,JF,ap,Tg];exact e3
   · rcases er with⟨y5',y6',h',acc',Rn,s',z1,z2,z3,z4,z5,z6⟩ | ⟨d,h',a,s',z1,z2,z3,z4,z5,z6⟩
     · exact .inl ⟨y5',y6',h',acc',Rn,s',z1,z2,z3,z4,z5,.inl ⟨tr,s,L,z6⟩⟩
     · exact .inr ⟨d,h',a,s',z1,z2,z3,z4,z5,.inl ⟨tr,s,L,z6⟩⟩
theorem Nh:1<=sizeLine:=by decide
theorem iU:2<=sizeLine:=by decide
theorem KZ:3<=sizeLine:=by decide
theorem GI:NF Dt.non=true:=rfl
theorem SJ(k:Nat):NF (Dt.ref k)=false:=rfl
theorem jg{c m n:Nat}{ls:List Ln}(IH:XS c m ls n){tag:Option (Nat×Nat)}{st st0:List (Nat×Nat×Nat)}{gs:List (List XB)}{Dc:List Dt}{ps:List (Nat×Nat)}{bs:List OA}{Bc:List Dt}{hB:HI}{o sr lo made:Nat}{a0:Gn}{s0:Nat}(og:yd c gs)(sg:∀x∈gs,x.length<=1000)(G0:Xf hB Dc gs)(pc:∀p∈ps,p.1<c/\p.2<c/\p.1≠p.2)(lp:ps.length<=1000)
 (q:vE (zC c m ls n) tag st0 gs bs made [] a0 s0) (okb:∀b∈bs,VA c b) (wtb:∀b∈bs,qD c b ps []) (A:Vc (Pn hB c) bs Bc) (lb:bs.length<=4000) (O:yc hB o ls m made) (hs:hB[sr]?=some (.lst (st.map DD))) (l1:lo<=sr) (l2:lo<=hB.length) :
 ∃d h' a s,bH (yF n) [.ref o,RD tag Bc ps,.ref sr,.lst Dc] hB=some (d,h')/\vE (zC c m ls n) tag st gs bs made [] a s/\Vb lo h' c a d/\gb hB h'/\yc h' o ls m s:=by
 have U0:gb hB (hB++[.lst []]):=gb.app _ _;obtain⟨r,e,er⟩:=aj IH (tag:=tag) (st:=st) (st0:=st0) (Xm:=Bc) (sr:=sr) og sg G0 pc lp bs Bc made [] [] [] (hB++[.lst []]) none none a0 s0 q okb wtb A U0 (by simp) (by simp only[Qf]) (by simp;omega) (yc.up (Up.app hB [.lst []]) O);have s2:=fun k=>T1 tag Bc ps k
 rcases er with⟨y5,y6,h',acc,Ud,s,rfl,U,hb,T,O',B⟩ | ⟨d,h',a,s,rfl,U,AN,O',na,B⟩
 · have hs':=U.2 _ _ hs;have T':Qf lo h' acc Ud:=Qf.up (by omega) (fun k xs hk hx=>hx) acc T;cases tag with
   | none=>
    refine⟨.tup [.str "clash", .tup [.str "one", .ref sr,.ref hB.length]],h',_,s,?_,B,⟨_,rfl,?_⟩,U,O'⟩
    · have c1:∀k:HI,sI (.tup [.str "one", .ref sr]) (.tup []) k=some (.tup [.str "one", .ref sr],k):=fun _=>rfl
      have c2:∀k:HI,sI (.tup [.str "one", .ref sr]) (.tup [.ref hB.length]) k=some (.tup [.str "one", .ref sr,.ref hB.length],k):=fun _=>rfl
      have t2:∀x y:Dt,[x,y].length<=sizeLine:=fun _ _=>by simp[sizeLine]
      have t1:∀x:Dt,[x].length<=sizeLine:=fun _=>by simp[sizeLine]
      have x0:∀k:HI,pA (RD none Bc ps) (.int 0) k=some (.str "one",k):=fun _=>rfl
      have x1:∀k:HI,pA (RD none Bc ps) (.int 1) k=some (.tup [],k):=fun _=>rfl
      simp only[bH,bK,xB,zdF,zdG,if_true,zdH,zdI,Nat.reduceAdd,Nat.reduceSub,List.replicate,zdO,zdN,XA,mB,LG,MA,nA,Nat.zero_le,zdK,zdJ,YA,YD,LD,FA,rA,JA,zdD,zdE,sA,s2,EG,EF,e,EB,pE,WA,x0,x1,Nh,iU,c1,c2,KB]
    · show Yd lo h' (.one st acc) _;simp only[Yd];exact⟨sr,hB.length,Ud,rfl,l1,l2,hs',hb,T'⟩
   | some p=>
    refine⟨.tup [.str "clash", .tup [.str "split", .ref sr,.int (p.1:Nat),.int (p.2:Nat),.ref hB.length]],h',_,s,?_,B,⟨_,rfl,?_⟩,U,O'⟩
    · have c1:∀k:HI,sI (.tup [.str "split", .ref sr]) (qA p) k=some (.tup [.str "split", .ref sr,.int (p.1:Nat),.int (p.2:Nat)],k):=fun _=>rfl
      have c2:∀k:HI,sI (.tup [.str "split", .ref sr,.int (p.1:Nat),.int (p.2:Nat)]) (.tup [.ref hB.length]) k=some (.tup [.str "split", .ref sr,.int (p.1:Nat),.int (p.2:Nat),.ref hB.length],k):=fun _=>rfl
      have t2:∀x y:Dt,[x,y].length<=sizeLine:=fun _ _=>by simp[sizeLine]
      have t1:∀x:Dt,[x].length<=sizeLine:=fun _=>by simp[sizeLine]
      have x0:∀k:HI,pA (RD (some p) Bc ps) (.int 0) k=some (.str "split",k):=fun _=>rfl
      have x1:∀k:HI,pA (RD (some p) Bc ps) (.int 1) k=some (qA p,k):=fun _=>rfl
      simp only[bH,bK,xB,zdF,zdG,if_true,zdH,zdI,Nat.reduceAdd,Nat.reduceSub,List.replicate,zdO,zdN,XA,mB,LG,MA,nA,Nat.zero_le,zdK,zdJ,YA,YD,LD,FA,rA,JA,zdD,zdE,sA,s2,EG,EF,e,EB,pE,WA,x0,x1,Nh,iU,c1,c2,KB]
    · show Yd lo h' (.split st p acc) _;simp only[Yd];exact⟨sr,hB.length,Ud,rfl,l1,l2,hs',hb,T'⟩
 · refine⟨d,h',a,s,?_,B,AN.up (by omega) (fun k xs hk hx=>hx),U,O'⟩;simp only[bH,bK,xB,zdF,zdG,if_true,zdH,zdI,Nat.reduceAdd,Nat.reduceSub,List.replicate,zdO,zdN,XA,mB,LG,MA,nA,Nat.zero_le,zdK,zdJ,YA,YD,LD,FA,rA,JA,zdD,zdE,sA,s2,EG,EF,e,iF,KB]
theorem mj{c:Nat}{g:OA}(o:VA c g)(cl:gF c g){gs:List (List XB)}(ok:yd c gs)(sg:∀x∈gs,x.length<=1000){tag:Option (Nat×Nat)}{bs:List OA}{ps:List (Nat×Nat)}(h:ZC c g gs=some (tag,bs,ps)):(∀p∈ps,p.1<c/\p.2<c/\p.1≠p.2)/\ps.length<=1000/\(∀b∈bs,qD c b ps [])/\bs.length<=1000:=by
 cases gs with
 | cons grp gs=>
  simp only[ZC,Option.some.injEq,Prod.mk.injEq]at h;obtain⟨_,rfl,rfl⟩:=h;have gk:=ok grp (by simp);refine⟨fun p hp=>?_,by simp;exact sg grp (by simp),fun b hb=>?_,by simp;exact sg grp (by simp)⟩
  · obtain⟨x,hx,rfl⟩:=mem_map.mp hp;obtain⟨a,b,d,_⟩:=gk x hx;exact⟨a,b,d⟩
  · obtain⟨k,_,rfl⟩:=mem_map.mp hb;have:=zV (k:=k) grp gk g 0 [] o (WU cl);rw[zdN]at this;exact this
 | nil=>
  simp only[ZC]at h;cases lp:lE c g with
  | none=>rw[lp]at h;cases h
  | some p=>
   rw[lp]at h;simp only[Option.some.injEq,Prod.mk.injEq]at h;obtain⟨_,rfl,rfl⟩:=h;have hp:p∈AA c:=mem_of_find?_eq_some lp;obtain⟨q1,q2⟩:=Jf.mp hp;refine⟨fun x hx=>?_,by simp,fun b hb=>?_,by have:=fJ (g p.1 p.2);simp;omega⟩
   · rw[mem_singleton.mp hx];omega
   · obtain⟨w,_,rfl⟩:=mem_map.mp hb;have:=YV o (show p.1<c by omega) (show p.2<c by omega) (by omega) (2^w) (WU cl);rw[zdN]at this;exact this
theorem rK(n:Nat):yF (n+1)=fC 4 9 (BG (yF n)):=rfl
theorem Ez{c m:Nat}{ls:List Ln}(hc1:1<=c)(hc:c<=8)(hl:ls.length<=100)(lok:∀x∈ls,x.1<c):∀n,XS c m ls n:=by
 intro n
 induction n with
 | zero=>intro f gs Dc made b o pd P h K;obtain⟨a,s,q⟩:=K.ex;exact q.elim
 | succ n IH=>
  intro f gs Dc made b o pd P h K;obtain⟨a0,s0,q0⟩:=K.ex;obtain⟨d,h1,e1,x,sr,st,g,rfl,r1,r2,r3,r4,r5,r6,r7⟩:=WP (show c<=100 by omega) K.of K.net (pd:=pd) (P:=P) (fun e=>K.prs.seq e) K.pc K.wt (by have:=K.lp;omega);have U1:Up h h1:=⟨r2,r3⟩;have O1:yc h1 o ls m made:=K.ob.up U1;rcases r7 with⟨rfl,em⟩ | ⟨bg,rfl,bl,Ng,cl,ne,_⟩
  · refine⟨.tup [.str "clash", .tup [.str "threes", .ref sr]],h1,.clash (.Gb st),made,?_,.inl ⟨st,g,r5,em,rfl,rfl⟩,⟨_,rfl,?_⟩,U1.l,O1⟩
    · rw[rK];have t2:∀x y:Dt,[x,y].length<=sizeLine:=fun _ _=>by simp[sizeLine]
      simp only[BG,xB,zdF,zdG,if_true,zdH,zdI,Nat.reduceAdd,Nat.reduceSub,List.replicate,zdO,zdN,XA,mB,eB,WA,MA,rA,zdD,zdE,sA,nA,zdU,e1,zdK,zdJ,YA,FA,JA,HB,RB,OD,zdL,OB,jB,OG,GI,SJ,uB,EB,pE,iU,iF,KB]
    · show Yd h.length h1 (.Gb st) _;simp only[Yd];exact⟨sr,rfl,r1,r4⟩
  · have EN:Zb c f st (SC c g):=⟨g,r5,cl,ne,rfl⟩;obtain⟨Ub,Dp,neg⟩:=EN.ok K.of;have Ng':=Ux Ng;generalize SC c g=g' at EN Ub Dp neg Ng';obtain⟨rest,eb⟩:=W6 (show c<=100 by omega) (g9 Ub neg) (show ls.length<=1000 by omega) Ng';obtain⟨h2,Eb⟩:∃h2:HI,h2=h1++.lst ((rD c g' ls).map gA)::rest:=⟨_,rfl⟩
    rw[<- Eb]at eb;have U2:Up h1 h2:=Eb ▸ Up.app _ _;have hb2:h2[h1.length]?=some (.lst ((rD c g' ls).map gA)):=by rw[Eb];simp
    have O2:=O1.up U2;have nl:=Ng'.len;have u1:=fun(h:HI)=>PF (h:=h) (i:=2) (j:=(c:Int)) (Or.inl ⟨by decide,by decide⟩)
    have g2:(2:Int)*(c:Int)=((2*c:Nat):Int):=by omega
    have fL:=fun(d:Dt)=>tN (x := "Search") (k := "lengths") O1 (vg)
    have t2:∀x y:Dt,[x,y].length<=sizeLine:=fun _ _=>by simp[sizeLine]
    have t3:∀x y z:Dt,[x,y,z].length<=sizeLine:=fun _ _ _=>by simp[sizeLine]
    have fl1:=fL .non;rcases GW (n:=2*c) (a:=h1.length) (by omega) (by omega) (rD c g' ls) (gY g' lok) (CW hc g' hl) h2 hb2 with⟨t,h3,sat,fr,et⟩ | ⟨cs,PP,k,r,h3,R,fr,hr,et,rl⟩
    · have U3:Up h2 h3:=sZ fr;have O3:=O2.up U3;obtain⟨h4,U4,es⟩:=t6 ((U2.trans U3).net Ng') Ub (show c<=100 by omega) (K.grp.up (U1.trans (U2.trans U3)).l) K.og K.sg;have O4:=O3.up U4;have UU:Up h h4:=U1.trans (U2.trans (U3.trans U4));cases sp:ZC c g' gs with
      | none=>rw[sp]at es;have esa:=Y3 (c:=c) (by omega) (iC (2*c) t) h4;refine⟨.tup [.str "laid", .lst (ND c (iC (2*c) t))],h4,.laid t,made,?_,.inr ⟨st,g',EN,.inr ⟨t,sat,.inl ⟨sp,rfl,rfl⟩⟩⟩,rfl,UU.l,O4⟩;rw[rK];simp only[BG,xB,zdF,zdG,if_true,zdH,zdI,Nat.reduceAdd,Nat.reduceSub,List.replicate,zdO,zdN,XA,mB,eB,WA,MA,rA,zdD,zdE,sA,nA,zdU,e1,zdK,zdJ,YA,FA,JA,HB,RB,OD,zdL,OB,jB,OG,GI,SJ,uB,zdV,if_false,YC,yC,nl,u1,g2,nL,fl1,eb,et,ME,W0,es,EB,pE,esa,iU,iF,KB]
      | some v=>
       obtain⟨tag,bs,ps⟩:=v;rw[sp]at es;obtain⟨Bc,A,es⟩:=es;have fm:=tN (x := "Search") (k := "made") O4 (QY);have fM:=tN (x := "Search") (k := "most") O4 (Xk);have nn:NF (RD tag Bc ps)=false:=by cases tag<;>rfl
       by_cases lm:m<=made
       · refine⟨.tup [.str "open", .non],h4,.Dm,made,?_,.inr ⟨st,g',EN,.inr ⟨t,sat,.inr ⟨tag,bs,ps,sp,.inl ⟨lm,rfl,rfl⟩⟩⟩⟩,rfl,UU.l,O4⟩;have dg:decide (((m:Nat):Int)<=((made:Nat):Int))=true:=decide_eq_true (by omega);rw[rK];simp only[BG,xB,zdF,zdG,if_true,zdH,zdI,Nat.reduceAdd,Nat.reduceSub,List.replicate,zdO,zdN,XA,mB,eB,WA,MA,rA,zdD,zdE,sA,nA,zdU,e1,zdK,zdJ,YA,FA,JA,HB,RB,OD,zdL,OB,jB,OG,GI,SJ,uB,zdV,if_false,YC,yC,nl,u1,g2,nL,fl1,eb,et,ME,W0,es,nn,fm,fM,JL,dg,EB,pE,iU,iF,KB]
       · have dg:decide (((m:Nat):Int)<=((made:Nat):Int))=false:=decide_eq_false (by omega);have Jp:=NK Ub K.og sp;obtain⟨pc,pl,wb,lb⟩:=mj Ub Dp K.og K.sg sp;obtain⟨h5,hh5⟩:∃h5:HI,h5=h4.set o (.ins "Search" [("lengths", .lst (ls.map hC)),("most", .int (m:Nat)),("made", .int ((made+1:Nat):Int))]):=⟨_,rfl⟩
         have ol:=(zdP O4).1;have O5:yc h5 o ls m (made+1):=by unfold yc;rw[hh5,getElem?_set_self ol]
         have U5:gb h4 h5:=hh5 ▸ gb.set O4;have l5:h5.length=h4.length:=by rw[hh5,length_set]
         have sf:=kN (x := "Search") (k := "made") (v:=.int ((made+1:Nat):Int)) (l:=[some (.ref o),some (.ref (b+c)),some pd,some (.lst Dc),some (.tup [.ref (bg+c),.ref sr]),some (.ref (bg+c)),some (.ref sr),some (.tup [.str "times", .lst (jC (2*c) (iC (2*c) t))]),some (RD tag Bc ps)]) O4 (by simp);rw[ak,<- hh5]at sf;have m1:((made:Nat):Int)+1=((made+1:Nat):Int):=by omega
         have hs5:h5[sr]?=some (.lst (st.map DD)):=U5.2 _ _ ((U2.trans (U3.trans U4)).get r4);have qb:∃st0,vE (zC c m ls n) tag st0 gs.tail bs (made+1) [] a0 s0:=by
          rcases q0 with⟨st',g1,k1,k2,_,_⟩ | ⟨st',g1,k1,k⟩
          · have:=EN.Mf K.of k1;rw[k2]at this;cases this
          · have eg:=EN.unique K.of k1;subst eg;rcases k with⟨cs',P',k',R',_,_⟩ | ⟨t',ht',k⟩
            · exact(WR R' sat).elim
            · rcases k with⟨Em,_,_⟩ | ⟨tag',bs',ps',Em,k⟩
              · rw[sp]at Em;cases Em
              · rw[sp]at Em;cases Em;rcases k with⟨lm',_,_⟩ | ⟨lm',k⟩
                · omega
                · exact⟨_,k⟩
         obtain⟨st0,qb⟩:=qb;obtain⟨d,h',a,s,e6,B,AN,U6,O6⟩:=jg IH (tag:=tag) (st:=st) (Dc:=Dc.drop 1) (sr:=sr) (lo:=h.length) (hB:=h5) K.og.tail (fun x hx=>K.sg x (mem_of_mem_tail hx)) (Tq (K.grp.up (UU.l.trans U5))) pc pl qb Jp wb (A.imp fun _ _ z=>z.up U5) (by omega) O5 hs5 r1 (by have:=UU.1;omega);refine⟨d,h',a,s,?_,.inr ⟨st,g',EN,.inr ⟨t,sat,.inr ⟨tag,bs,ps,sp,.inr ⟨by omega,B⟩⟩⟩⟩,AN,UU.l.trans (U5.trans U6),O6⟩;have mt:=aR (x := "Search") (m := "look_at_branches") (F:=bH (yF n)) (ga:=bA (eV 8) (bA (eV 6) (bA (gU (eV 3) (LO (eC (.int 1))) yU) fA))) (l:=[some (.ref o),some (.ref (b+c)),some pd,some (.lst Dc),some (.tup [.ref (bg+c),.ref sr]),some (.ref (bg+c)),some (.ref sr),some (.tup [.str "times", .lst (jC (2*c) (iC (2*c) t))]),some (RD tag Bc ps)]) O5 Yk;have cf:vG Dc (some 1) none=Dc.drop 1:=m9 Dc 1;have esl:gU (eV 3) (LO (eC (.int 1))) yU [some (.ref o),some (.ref (b+c)),some pd,some (.lst Dc),some (.tup [.ref (bg+c),.ref sr]),some (.ref (bg+c)),some (.ref sr),some (.tup [.str "times", .lst (jC (2*c) (iC (2*c) t))]),some (RD tag Bc ps)] h5=some (.lst (Dc.drop 1),h5):=by simp[cf,JB]
         rw[rK];simp only[BG,xB,zdF,zdG,if_true,zdH,zdI,Nat.reduceAdd,Nat.reduceSub,List.replicate,zdO,zdN,XA,mB,eB,WA,MA,rA,zdD,zdE,sA,nA,zdU,e1,zdK,zdJ,YA,FA,JA,HB,RB,OD,zdL,OB,jB,OG,GI,SJ,uB,zdV,if_false,YC,yC,nl,u1,g2,nL,fl1,eb,et,ME,W0,es,nn,fm,fM,JL,dg,xY,tE,m1,sf,EB,ZS,mt,esl,e6,KB]
    · have U3:Up h2 h3:=sZ fr;have UU:Up h h3:=U1.trans (U2.trans U3);refine⟨.tup [.str "clash", .tup [.str "ring", .ref sr,.ref r]],h3,.clash (.ring st cs PP k),made,?_,.inr ⟨st,g',EN,.inl ⟨cs,PP,k,R,rfl,rfl⟩⟩,⟨_,rfl,?_⟩,UU.l,O2.up U3⟩
      · rw[rK];simp only[BG,xB,zdF,zdG,if_true,zdH,zdI,Nat.reduceAdd,Nat.reduceSub,List.replicate,zdO,zdN,XA,mB,eB,WA,MA,rA,zdD,zdE,sA,nA,zdU,e1,zdK,zdJ,YA,FA,JA,HB,RB,OD,zdL,OB,jB,OG,GI,SJ,uB,zdV,if_false,YC,yC,nl,u1,g2,nL,fl1,eb,et,ME,decide_true,EB,pE,iU,KZ,iF,KB]
      · show Yd h.length h3 (.ring st cs PP k) _;simp only[Yd];refine⟨sr,r,rfl,r1,?_,(U2.trans U3).get r4,hr⟩;have:=(U1.trans U2).1;omega
theorem d7{c:Nat}(hc:c<=8){f:OA}(of:VA c f):∃st,(∃g,Steps c f st g/\VB c g=true)\/(∃g,Zb c f st g):=by
 have N:=CF [] c f;have hl:=eJ c c;have hcc:c*c<=8*8:=Nat.mul_le_mul hc hc;obtain⟨d,h1,e1,x,sr,st,g,rfl,r1,r2,r3,r4,r5,r6,r7⟩:=WP (show c<=100 by omega) of N (pd:=.lst ((AA c).map qA)) (P:=AA c) (fun e=>rfl) (fun p hp=>by
  obtain⟨q1,q2⟩:=Jf.mp hp;omega) (LR c f) (by unfold AA;omega)
 rcases r7 with⟨rfl,em⟩ | ⟨bg,rfl,bl,Ng,cl,ne,_⟩
 · exact⟨st,.inl ⟨g,r5,em⟩⟩
 · exact⟨st,.inr ⟨_,g,r5,cl,ne,rfl⟩⟩
theorem D6{c m:Nat}{ls:List Ln}(hc1:1<=c)(hc:c<=8)(hl:ls.length<=100)(lok:∀x∈ls,x.1<c):∀(n:Nat)(f:OA)(gs:List (List XB))(made:Nat),VA c f->yd c gs->made<=m->m+1<=made+n->∃a s,zC c m ls n f gs made a s:=by
 intro n
 induction n with
 | zero=>intro f gs made _ _ h1 h2;omega
 | succ n ih=>
  intro f gs made of og h1 h2;obtain⟨st,⟨g,s,em⟩ | ⟨g,EN⟩⟩:=d7 hc of
  · exact⟨_,_,.inl ⟨st,g,s,em,rfl,rfl⟩⟩
  · obtain⟨Ub,Dp,neg⟩:=EN.ok of;rcases GW (n:=2*c) (a:=0) (by omega) (by omega) (rD c g ls) (gY g lok) (CW hc g hl) [.lst ((rD c g ls).map gA)] rfl with⟨t,h3,sat,fr,et⟩ | ⟨cs,PP,k,r,h3,R,fr,hr,et,rl⟩
    · cases sp:ZC c g gs with
      | none=>exact⟨_,_,.inr ⟨st,g,EN,.inr ⟨t,sat,.inl ⟨sp,rfl,rfl⟩⟩⟩⟩
      | some v=>
       obtain⟨tag,bs,ps⟩:=v;by_cases lm:m<=made
       · exact⟨_,_,.inr ⟨st,g,EN,.inr ⟨t,sat,.inr ⟨tag,bs,ps,sp,.inl ⟨lm,rfl,rfl⟩⟩⟩⟩⟩
       · have Jp:=NK Ub og sp;have go:∀(bs:List OA),(∀b∈bs,VA c b)->∀(md:Nat)(acc:List Tr),md<=m->m+1<=md+n->∃a s,vE (zC c m ls n) tag st gs.tail bs md acc a s:=by
          intro bs
          induction bs with
          | nil=>intro _ md acc _ _;exact⟨_,_,rfl,rfl⟩
          | cons b bs ih2=>
           intro hb md acc m1 m2;obtain⟨a,s,q⟩:=ih b gs.tail md (hb b (by simp)) og.tail m1 m2;obtain⟨z1,z2,_⟩:=RN n b _ md _ _ q;have z3:=z2 m1;cases a with
           | clash tr=>obtain⟨a',s',q'⟩:=ih2 (fun x hx=>hb x (by simp[hx])) s (acc++[tr]) z3 (by omega);exact⟨a',s',.inl ⟨tr,s,q,q'⟩⟩
           | Dm=>exact⟨_,_,.inr ⟨(fun z=>by cases z),q⟩⟩
           | laid t=>exact⟨_,_,.inr ⟨(fun z=>by cases z),q⟩⟩
         obtain⟨a,s,q⟩:=go bs Jp (made+1) [] (by omega) (by omega);exact⟨a,s,.inr ⟨st,g,EN,.inr ⟨t,sat,.inr ⟨tag,bs,ps,sp,.inr ⟨by omega,q⟩⟩⟩⟩⟩
    · exact⟨_,_,.inr ⟨st,g,EN,.inl ⟨cs,PP,k,R,rfl,rfl⟩⟩⟩
noncomputable def KU:Wd->Dt
 | .Dm=>.str "open"
 | .laid=>.str "laid"
 | .clash=>.str "clash"
structure MT(c:Nat)(h:HI)(a:Nat)(fs:List Fact):Prop where
 ds:∃ds,h[a]?=some (.lst ds)/\Hf h ds fs
 ok:∀x∈fs,gG c x
 sg:∀x∈jG fs,x.length<=1000
 len:fs.length<=100
theorem fN:∀fs:List Fact,(UD fs).length<=fs.length
 | []=>zdS _
 | .long x::fs=>by have:=fN fs;simp only[UD,zdF];omega
 | .ways x::fs=>by have:=fN fs;simp only[UD,zdF];omega
 | .one x::fs=>by have:=fN fs;simp only[UD,zdF];omega
theorem zK{c:Nat}:∀fs:List Fact,(∀x∈fs,gG c x)->∀x∈UD fs,x.1<c
 | [],_,x,hx=>nomatch hx
 | .long y::fs,h,x,hx=>by
  simp only[UD,mem_cons]at hx;rcases hx with rfl | hx
  · exact h (.long x) (by simp)
  · exact zK fs (fun z hz=>h z (by simp[hz])) x hx
 | .ways y::fs,h,x,hx=>zK fs (fun z hz=>h z (by simp[hz])) x hx
 | .one y::fs,h,x,hx=>zK fs (fun z hz=>h z (by simp[hz])) x hx
theorem PK{c:Nat}:∀fs:List Fact,(∀x∈fs,gG c x)->yd c (jG fs)
 | [],_,x,hx=>nomatch hx
 | .one y::fs,h,x,hx=>by
  simp only[jG,mem_cons]at hx;rcases hx with rfl | hx
  · exact h (.one x) (by simp)
  · exact PK fs (fun z hz=>h z (by simp[hz])) x hx
 | .ways y::fs,h,x,hx=>PK fs (fun z hz=>h z (by simp[hz])) x hx
 | .long y::fs,h,x,hx=>PK fs (fun z hz=>h z (by simp[hz])) x hx
def NT(c m:Nat)(fs:List Fact)(n:Nat)(a:Gn)(s:Nat):Prop:=zC c m (UD fs) n (fD PB fs) (jG fs) 0 a s
theorem Cz {h:HI} (ls:List Ln) (m:Nat):eK [.ref h.length,.lst (ls.map hC),.int (m:Nat)] (h++[.ins "Search" []])=some (.non,h++[.ins "Search" [("lengths", .lst (ls.map hC)),("most", .int (m:Nat)),("made", .int ((0:Nat):Int))]]):=by
 have n1:¬((("lengths" :Str))=(("most" :Str))):=by decide +kernel
 have n2:¬((("lengths" :Str))=(("made" :Str))):=by decide +kernel
 have n3:¬((("most" :Str))=(("made" :Str))):=by decide +kernel
 have p1:AE "lengths" (.lst (ls.map hC)) []=([("lengths", .lst (ls.map hC))]:List (Str×Dt)):=rfl;have p2:AE "most" (.int (m:Nat)) [("lengths", .lst (ls.map hC))]=([("lengths", .lst (ls.map hC)),("most", .int (m:Nat))]:List (Str×Dt)):=by simp only[AE,if_neg n1]
 have p3:AE "made" (.int 0) [("lengths", .lst (ls.map hC)),("most", .int (m:Nat))]=([("lengths", .lst (ls.map hC)),("most", .int (m:Nat)),("made", .int 0)]:List (Str×Dt)):=by simp only[AE,if_neg n2,if_neg n3]
 have s1:=kN (h:=h++[.ins "Search" []]) (n:=h.length) (x := "Search") (k := "lengths") (v:=.lst (ls.map hC)) (l:=[some (.ref h.length),some (.lst (ls.map hC)),some (.int (m:Nat))]) (fs:=[]) (by simp) (by simp);have s2:=kN (h:=h++[.ins "Search" [("lengths", .lst (ls.map hC))]]) (n:=h.length) (x := "Search") (k := "most") (v:=.int (m:Nat)) (l:=[some (.ref h.length),some (.lst (ls.map hC)),some (.int (m:Nat))]) (fs:=[("lengths", .lst (ls.map hC))]) (by simp) (by simp);have s3:=kN (h:=h++[.ins "Search" [("lengths", .lst (ls.map hC)),("most", .int (m:Nat))]]) (n:=h.length) (x := "Search") (k := "made") (v:=.int 0) (l:=[some (.ref h.length),some (.lst (ls.map hC)),some (.int (m:Nat))]) (fs:=[("lengths", .lst (ls.map hC)),("most", .int (m:Nat))]) (by simp) (by simp);rw[p1]at s1;rw[p2]at s2;rw[p3]at s3;have hs:∀x y:Ob,(h++[x]).set h.length y=h++[y]:=fun x y=>by simp
 rw[hs]at s1 s2 s3;simp only[eK,qP,xB,zdF,zdG,if_true,zdH,zdI,Nat.reduceAdd,Nat.reduceSub,List.replicate,zdU,XA,xY,rA,JA,zdD,zdE,sA,nA,s1,YA,s2,s3,Oq];rfl
theorem Z6{c m:Nat}(hc1:1<=c)(hc:c<=8){h:HI}{a:Nat}{fs:List Fact}(F:MT c h a fs)(ex:∃A s,NT c m fs 12 A s) :
 ∃A s x h',NT c m fs 12 A s/\ZI [.int (c:Nat),.ref a,.int (m:Nat)] h=some (.tup [KU A.wd,x,.int (s:Nat)],h')/\Vb h.length h' c A (.tup [KU A.wd,x])/\gb h h':=by
 obtain⟨ds,ha,D⟩:=F.ds;have dl:=D.len;have fl:=F.len;have hz:ds.length<sizeLine:=by rw[dl];simp[sizeLine];omega
 have eL:=u5 ha hz D;obtain⟨h1,hh1⟩:∃h1:HI,h1=h++[.ins "Search" [("lengths", .lst ((UD fs).map hC)),("most", .int (m:Nat)),("made", .int ((0:Nat):Int))]]:=⟨_,rfl⟩
 have ei:=Cz (h:=h) (UD fs) m;rw[<- hh1]at ei;have U1:Up h h1:=hh1 ▸ Up.app _ _;have O1:yc h1 h.length (UD fs) m 0:=by unfold yc;rw[hh1];simp
 obtain⟨b,h2,eN,N2,U2⟩:=V5 (show c<=1000 by omega) (U1.get ha) (D.up U1.l) F.ok;have eP:=RM (show c<=1000 by omega) h2;obtain⟨h3,hh3⟩:∃h3:HI,h3=h2++[.lst ((AA c).map qA)]:=⟨_,rfl⟩
 rw[<- hh3]at eP;have U3:Up h2 h3:=hh3 ▸ Up.app _ _;have UU:Up h h3:=U1.trans (U2.trans U3);obtain⟨Dc,GA,eG⟩:=W5 (UU.get ha) hz (D.up UU.l);have pl:=eJ c c;have hcc:c*c<=8*8:=Nat.mul_le_mul hc hc;obtain⟨d,h',A,s,e,L,AN,U4,O4⟩:=Ez (m:=m) hc1 hc (show(UD fs).length<=100 by have:=fN fs;omega) (zK fs F.ok) 12 (fD PB fs) (jG fs) Dc 0 b h.length (.ref h2.length) (AA c) h3
  ⟨ex,yK fs F.ok _ (JS c),PK fs F.ok,F.sg,U3.net N2,GA,.inr ⟨h2.length,rfl,by rw[hh3];simp⟩,(fun p hp=>by obtain⟨q1,q2⟩:=Jf.mp hp;omega),LR c _,by unfold AA;omega,(O1.up U2).up U3⟩
 have lo:h.length<=h3.length:=UU.1;have fm:=tN (x := "Search") (k := "made") O4 (QY);have mt:=aR (h:=h1) (x := "Search") (m := "look") (F:=yF 12) (ga:=bA (wA pK [] (bA (eV 0) (bA (eV 1) fA))) (bA (wA gH [] (bA (eV 0) fA)) (bA (wA qK [] (bA (eV 1) fA)) fA))) (l:=[some (.int (c:Nat)),some (.ref a),some (.int (m:Nat)),some (.ref h.length),none]) O1 LX;obtain⟨x,hx⟩:∃x,d=.tup [KU A.wd,x]:=by
  cases A with
  | Dm=>exact⟨_,AN⟩
  | laid t=>exact⟨_,AN⟩
  | clash tr=>obtain⟨x,e,_⟩:=AN;exact⟨x,e⟩
 subst hx;refine⟨A,s,x,h',L,?_,AN.up lo (fun k xs hk hx=>hx),(UU.l).trans U4⟩;simp only[ZI,qR,xB,zdF,zdG,if_true,zdH,zdI,Nat.reduceAdd,Nat.reduceSub,List.replicate,zdO,zdN,XA,mB,Og,eB,WA,MA,rA,zdD,zdE,sA,nA,zdU,eL,ei,R8,zdK,zdJ,YA,ZS,mt,eN,eP,eG,e,EB,pE,FA,JA,HB,RB,OD,zdL,nL,fm,KZ,KB]
def Jd(c:Nat)(f:OA)(s:Nat->Int×Int):Prop:=∀i<c,∀j<c,i≠j->(f i j).testBit (Gf (s i) (s j))=true
theorem Jd.nar{c:Nat}{f:OA}{s:Nat->Int×Int}(ok:∀i,i<c->UC (s i))(h:Jd c f s){i j:Nat}(hi:i<c)(hj:j<c)(hij:i≠j){m:Nat}(hm:m.testBit (Gf (s i) (s j))=true):Jd c (fB f i m j) s:=by
 have hw:=HE (ok i hi) (ok j hj);have hb:(f i j&&&m).testBit (Gf (s i) (s j))=true:=by rw[Nat.testBit_and,h i hi j hj hij,hm];rfl
 intro a ha b hb' hab;by_cases e1:a=i/\b=j
 · obtain⟨rfl,rfl⟩:=e1;rw[zJ f m hij];exact hb
 · by_cases e2:a=j/\b=i
   · obtain⟨rfl,rfl⟩:=e2;rw[nT,vK (ok b hb') (ok a ha),fE _ (by omega),show 12-(12-Gf (s b) (s a))=Gf (s b) (s a) by omega];exact hb
   · rw[bG f e1 e2];exact h a ha b hb' hab
theorem Jd.Cm{c:Nat}{f:OA}{s:Nat->Int×Int}(ok:∀i,i<c->UC (s i)){i j m:Nat}(hi:i<c)(hj:j<c)(hij:i≠j)(o:VA c f)(h:Jd c (fB f i m j) s):Jd c f s/\m.testBit (Gf (s i) (s j))=true:=by
 have h1:=h i hi j hj hij;rw[zJ f m hij,Nat.testBit_and,Bool.and_eq_true]at h1;refine⟨fun a ha b hb hab=>?_,h1.2⟩;by_cases e1:a=i/\b=j
 · obtain⟨rfl,rfl⟩:=e1;exact h1.1
 · by_cases e2:a=j/\b=i
   · obtain⟨rfl,rfl⟩:=e2;have hw:=HE (ok b hb) (ok a ha);rw[o.tn b hb a ha,vK (ok b hb) (ok a ha),fE _ (by omega),show 12-(12-Gf (s b) (s a))=Gf (s b) (s a) by omega];exact h1.1
   · have:=h a ha b hb hab;rw[bG f e1 e2]at this;exact this
theorem Jd.sub{c:Nat}{f g:OA}{s:Nat->Int×Int}(h:Jd c g s)(q:zH c g f):Jd c f s:=fun i hi j hj hij=>Lf.mp (q i hi j hj) _ (h i hi j hj hij)
theorem Jd.steps{c:Nat}{f g:OA}{st:List (Nat×Nat×Nat)}{s:Nat->Int×Int}(ok:∀i,i<c->UC (s i))(h:Steps c f st g)(q:Jd c f s):Jd c g s:=by
 induction h with
 | nil=>exact q
 | @snoc st g i k j h hi hk hj d ne n ih=>refine Jd.nar ok ih hi hj d.2.2 ?_;unfold Ef;rw[Nat.testBit_and,ih i hi j hj d.2.2,Bool.true_and];exact(oJ _ _ _).mpr ⟨_,_,HE (ok i hi) (ok k hk),ih i hi k hk d.1,HE (ok k hk) (ok j hj),ih k hk j hj d.2.1,IW (ok i hi) (ok k hk) (ok j hj)⟩
theorem Jd.cut{c:Nat}{f:OA}{s:Nat->Int×Int}(h:Jd c f s):Jd c (SC c f) s:=fun i hi j hj hij=>by rw[NE f hi hj];exact h i hi j hj hij
theorem Jd.zav{c:Nat}{f:OA}{s:Nat->Int×Int}(h:Jd c (SC c f) s):Jd c f s:=fun i hi j hj hij=>by have:=h i hi j hj hij;rw[NE f hi hj]at this;exact this
theorem Dj(k:Nat):(0:Nat).testBit k=false:=by simp
theorem Jd.ne{c:Nat}{f:OA}{s:Nat->Int×Int}(h:Jd c f s)(d:∀i<c,f i i=64):VB c f=false:=by
 cases z:VB c f with
 | false=>rfl
 | true=>
  obtain⟨i,hi,j,hj,e⟩:=Zd.mp z;by_cases hij:i=j
  · subst hij;rw[d i hi]at e;cases e
  · have:=h i hi j hj hij;rw[e,Dj]at this;cases this
theorem wN{c:Nat}{f:OA}(d:∀i<c,f i i=64){i j:Nat}(hij:i≠j)(m:Nat):∀k<c,fB f i m j k k=64:=fun k hk=>by rw[bG f (fun q=>hij (q.1.symm.trans q.2)) (fun q=>hij (q.2.symm.trans q.1))];exact d k hk
theorem GV{c k:Nat}:∀(ms:List XB)(_:∀m∈ms,FD c m)(f:OA)(p:Nat),(∀i<c,f i i=64)->∀i<c,XD f k ms p i i=64
 | [],_,f,p,d=>d
 | m::ms,h,f,p,d=>GV ms (fun x hx=>h x (by simp[hx])) _ _ (wN d (h m (by simp)).2.2.1 _)
theorem qX{m k:Nat}(hm:m<8192)(hk:k<13):(notM m).testBit k=!m.testBit k:=by
 have:notM m=2^13-(m+1):=by unfold notM;omega
 rw[this,Nat.testBit_two_pow_sub_succ hm];simp[hk]
def qE(s:Nat->Int×Int)(m:XB):Bool:=m.2.1.testBit (Gf (s m.1) (s m.2.2))
theorem Jd.only{c k:Nat}{s:Nat->Int×Int}(ok:∀i,i<c->UC (s i)):∀(ms:List XB)(_:∀m∈ms,FD c m)(f:OA)(p:Nat),Jd c f s->(∀(i:Nat) m,ms[i]?=some m->qE s m=decide (p+i=k))->Jd c (XD f k ms p) s
 | [],_,f,p,q,_=>q
 | m::ms,h,f,p,q,H=>by
  obtain⟨a,b,d,e⟩:=h m (by simp);have h0:=H 0 m rfl;refine Jd.only ok ms (fun x hx=>h x (by simp[hx])) _ _ (q.nar ok a b d ?_) (fun i x hx=>?_)
  · unfold qE at h0;by_cases z:p=k
    · rw[if_pos z];rw[decide_eq_true (show p+0=k by omega)]at h0;exact h0
    · rw[if_neg z,qX e (HE (ok _ a) (ok _ b)),h0,decide_eq_false (show ¬p+0=k by omega)];rfl
  · rw[H (i+1) x (by simpa using hx)]
    congr 1
    rw[show p+(i+1)=p+1+i by omega]
theorem Jd.Nm{c k:Nat}{s:Nat->Int×Int}(ok:∀i,i<c->UC (s i)):∀(ms:List XB)(_:∀m∈ms,FD c m)(f:OA)(p:Nat),VA c f->Jd c (XD f k ms p) s->Jd c f s/\∀(i:Nat) m,ms[i]?=some m->qE s m=decide (p+i=k)
 | [],_,f,p,o,q=>⟨q,fun i m h=>by simp at h⟩
 | m::ms,h,f,p,o,q=>by
  obtain⟨a,b,d,e⟩:=h m (by simp);obtain⟨q1,H⟩:=Jd.Nm ok ms (fun x hx=>h x (by simp[hx])) _ _ (KG o a b d _) q;obtain⟨q2,z⟩:=Jd.Cm ok a b d o q1;refine⟨q2,fun i x hx=>?_⟩;cases i with
  | zero=>
   simp at hx;subst hx;unfold qE;by_cases y:p=k
   · rw[if_pos y]at z;rw[z,decide_eq_true (show p+0=k by omega)]
   · rw[if_neg y,qX e (HE (ok _ a) (ok _ b))]at z;rw[decide_eq_false (show ¬p+0=k by omega)];simpa using z
  | succ i=>
   rw[H i x (by simpa using hx)]
   congr 1
   rw[show p+(i+1)=p+1+i by omega]
def iZ(s:Nat->Int×Int)(g:List XB):Prop:=∃k,k<g.length/\∀(i:Nat) m,g[i]?=some m->qE s m=decide (i=k)
noncomputable def WJ(s:Nat->Int×Int)(p:Nat):Int:=if p%2=0 then(s (p/2)).1 else(s (p/2)).2
theorem XJ(s:Nat->Int×Int)(i:Nat):WJ s (2*i)=(s i).1:=by unfold WJ;rw[if_pos (by omega),show 2*i/2=i by omega]
theorem YJ(s:Nat->Int×Int)(i:Nat):WJ s (2*i+1)=(s i).2:=by unfold WJ;rw[if_neg (by omega),show(2*i+1)/2=i by omega]
noncomputable def Alike(T t:Nat->Int)(p q:Nat):Prop:=(T p<T q->t p<t q)/\(T p=T q->t p=t q)/\(T q<T p->t q<t p)
theorem Alike.symm{T t:Nat->Int}{p q:Nat}(h:Alike T t p q):Alike T t q p:=⟨h.2.2,fun e=>(h.2.1 e.symm).symm,h.1⟩
noncomputable def gZ(c:Nat)(s:Nat->Int×Int)(x:Ln):Prop:=x.1<c/\x.2.1<=(s x.1).2-(s x.1).1/\(s x.1).2-(s x.1).1<=x.2.2
theorem uS{g x y:Int}(hg:1<=g)(h:x<y):g*x-g*y<=-1:=by rw[<- Int.mul_sub];have h1:g*(x-y)<=g*(-1):=Int.mul_le_mul_of_nonneg_left (by omega) (by omega);omega
theorem NX{g x y:Int}(hg:1<=g)(h:x<=y):g*x-g*y<=0:=by rw[<- Int.mul_sub];have h1:g*(x-y)<=g*0:=Int.mul_le_mul_of_nonneg_left (by omega) (by omega);omega
theorem UW{g:Int}(hg:1<=g){T:Nat->Int}{p q:Nat}{a mx mn z:Int}(z1:z<=mx)(z2:mn<=z)(lt:z<a->T p<T q)(eq:z=a->T p=T q)(gt:a<z->T q<T p):∀e∈qG p q a mx mn,g*T e.1-g*T e.2.1<=e.2.2:=by
 intro e he;unfold qG at he;rcases mem_append.mp he with he | he
 · by_cases c1:mx<=a
   · rw[if_pos c1]at he;rw[mem_singleton.mp he];by_cases c2:mx<a
     · rw[if_pos c2];exact uS hg (lt (by omega))
     · rw[if_neg c2];refine NX hg (x:=T p) (y:=T q) ?_;rcases Int.lt_trichotomy z a with y | y | y
       · have:=lt y;omega
       · have:=eq y;omega
       · omega
   · rw[if_neg c1]at he;exact nomatch he
 · by_cases c1:a<=mn
   · rw[if_pos c1]at he;rw[mem_singleton.mp he];by_cases c2:a<mn
     · rw[if_pos c2];exact uS hg (gt (by omega))
     · rw[if_neg c2];refine NX hg (x:=T q) (y:=T p) ?_;rcases Int.lt_trichotomy z a with y | y | y
       · omega
       · have:=eq y;omega
       · have:=gt y;omega
   · rw[if_neg c1]at he;exact nomatch he
theorem Mg:∀p∈Ad,pz (Ad.idxOf p)=p:=by decide +kernel
theorem WK{s o:Int×Int}(h1:UC s)(h2:UC o):pz (Gf s o)=(vB s.1 o.1 o.2,vB s.2 o.1 o.2):=Mg _ (gN h1 h2)
theorem Zj{s o:Int×Int}(h1:UC s)(h2:UC o){m:Nat}(hm:m.testBit (Gf s o)=true)(side:Nat)(hs:side<2):((vB (if side=0 then s.1 else s.2) o.1 o.2:Nat):Int)∈MB side m:=by unfold MB;refine mem_map.mpr ⟨Gf s o,Kf.mpr ⟨HE h1 h2,hm⟩,?_⟩;unfold zs;rw[WK h1 h2];rcases(show side=0\/side=1 by omega)with rfl | rfl<;>rfl
theorem QV{c:Nat}{g:OA}{s:Nat->Int×Int}(ok:∀i,i<c->UC (s i))(q:Jd c g s){G:Int}(hG:1<=G){i j side:Nat}(hi:i<c)(hj:j<c)(hij:i≠j)(hs:side<2):∀e∈KE i j side (g i j),G*WJ s e.1-G*WJ s e.2.1<=e.2.2:=by
 have mem:=Zj (ok i hi) (ok j hj) (q i hi j hj hij) side hs;have ne:MB side (g i j) ≠ []:=fun z=>by rw[z]at mem;cases mem
 have mx:=(ZQ _ ne).2 _ mem;have mn:=(XH _ ne).2 _ mem;have pt:WJ s (2*i+side)=(if side=0 then(s i).1 else(s i).2):=by
  rcases(show side=0\/side=1 by omega)with rfl | rfl
  · rw[Nat.add_zero,XJ];rfl
  · rw[YJ];rfl
 have okj:(s j).1<(s j).2:=ok j hj;intro e he;unfold KE at he;have zc:=jH (if side=0 then(s i).1 else(s i).2) (s j).1 (s j).2 okj;rcases mem_append.mp he with he | he
 · refine UW hG mx mn ?_ ?_ ?_ e he<;>rw[pt,XJ]<;>intro z<;>rcases zc with⟨y,w⟩ | ⟨y,w⟩ | ⟨y,y',w⟩ | ⟨y,w⟩ | ⟨y,w⟩<;>rw[w]at z<;>omega
 · refine UW hG mx mn ?_ ?_ ?_ e he<;>rw[pt,YJ]<;>intro z<;>rcases zc with⟨y,w⟩ | ⟨y,w⟩ | ⟨y,y',w⟩ | ⟨y,w⟩ | ⟨y,w⟩<;>rw[w]at z<;>omega
theorem OX{c:Nat}{g:OA}{s:Nat->Int×Int}(ok:∀i,i<c->UC (s i))(q:Jd c g s){ls:List Ln}(hl:∀x∈ls,gZ c s x):∀e∈rD c g ls,((2*c+1:Nat):Int)*WJ s e.1-((2*c+1:Nat):Int)*WJ s e.2.1<=e.2.2:=by
 intro e he;unfold rD at he;have hg:(1:Int)<=((2*c+1:Nat):Int):=by omega
 generalize 2*c+1=G at he hg;rcases mem_append.mp he with he | he
 · rcases mem_append.mp he with he | he
   · obtain⟨i,hi,rfl⟩:=mem_map.mp he;simp only[XJ,YJ];exact uS hg (ok i (mem_range.mp hi))
   · obtain⟨x,hx,he⟩:=mem_flatMap.mp he;obtain⟨h1,h2,h3⟩:=hl x hx;unfold xC at he;have a1:(G:Int)*((s x.1).1-(s x.1).2)<=G*(-x.2.1):=Int.mul_le_mul_of_nonneg_left (by omega) (by omega);have a2:(G:Int)*((s x.1).2-(s x.1).1)<=G*x.2.2:=Int.mul_le_mul_of_nonneg_left (by omega) (by omega);simp only[mem_cons,not_mem_nil,or_false]at he;rcases he with rfl | rfl
     · simp only[XJ,YJ];rw[<- Int.mul_sub,Int.mul_comm (-x.2.1)];exact a1
     · simp only[XJ,YJ];rw[<- Int.mul_sub,Int.mul_comm x.2.2];exact a2
 · obtain⟨p,hp,he⟩:=mem_flatMap.mp he;obtain⟨p1,p2⟩:=SW hp;unfold rC at he;rcases mem_append.mp he with he | he
   · exact QV ok q hg (by omega) p2 (by omega) (by omega) e he
   · exact QV ok q hg (by omega) p2 (by omega) (by omega) e he
theorem Q8{c m:Nat}{ls:List Ln}{s:Nat->Int×Int}(ok:∀i,i<c->UC (s i))(hl:∀x∈ls,gZ c s x):∀(n:Nat)(f:OA)(gs:List (List XB))(made:Nat)(a:Gn)(sp:Nat),zC c m ls n f gs made a sp->VA c f->yd c gs->(∀i<c,f i i=64)->Jd c f s->(∀g∈gs,iZ s g)->a.wd≠.clash
 | 0,_,_,_,_,_,h,_,_,_,_,_=>h.elim
 | n+1,f,gs,made,a,sp,h,of,og,dg,q,hg=>by
  rcases h with⟨st,g,h1,h2,rfl,rfl⟩ | ⟨st,g,EN,h⟩
  · have:=(q.steps ok h1).ne (h1.diag dg);rw[h2]at this;cases this
  · obtain⟨Ub,Dp,neg⟩:=EN.ok of;obtain⟨g0,s0,_,_,rfl⟩:=EN;have qg:Jd c (SC c g0) s:=(q.steps ok s0).cut;have dg':∀i<c,SC c g0 i i=64:=fun i hi=>by rw[NE g0 hi hi];exact s0.diag dg i hi
    generalize SC c g0=g at Ub Dp neg qg dg' h;rcases h with⟨cs,P,k,R,rfl,rfl⟩ | ⟨t,ht,h⟩
    · exact(AS (b:=fun p=>((2*c+1:Nat):Int)*WJ s p) (OX ok qg hl) R).elim
    · rcases h with⟨_,rfl,rfl⟩ | ⟨tag,bs,ps,hs,h⟩
      · intro z;cases z
      · rcases h with⟨_,rfl,rfl⟩ | ⟨_,h⟩
        · intro z;cases z
        · have Jp:=NK Ub og hs;have ex:∃b∈bs,Jd c b s:=by
           cases gs with
           | cons grp gs=>simp only[ZC,Option.some.injEq,Prod.mk.injEq]at hs;obtain⟨_,rfl,_⟩:=hs;obtain⟨k,kl,H⟩:=hg grp (by simp);exact⟨_,mem_map.mpr ⟨k,mem_range.mpr kl,rfl⟩,Jd.only ok grp (og grp (by simp)) g 0 qg (fun i x hx=>by rw[H i x hx,Nat.zero_add])⟩
           | nil=>
            simp only[ZC]at hs;cases lp:lE c g with
            | none=>rw[lp]at hs;cases hs
            | some p=>
             rw[lp]at hs;simp only[Option.some.injEq,Prod.mk.injEq]at hs;obtain⟨_,rfl,_⟩:=hs;obtain⟨q1,q2⟩:=Jf.mp (mem_of_find?_eq_some lp);have p1:p.1<c:=by omega
             have p2:p.2<c:=by omega
             have hb:=qg p.1 p1 p.2 p2 (by omega);have wl:=HE (ok _ p1) (ok _ p2);exact⟨_,mem_map.mpr ⟨_,Kf.mpr ⟨wl,hb⟩,rfl⟩,qg.nar ok p1 p2 (by omega) (by rw[Nat.testBit_two_pow];simp)⟩
          have dgb:∀b∈bs,∀i<c,b i i=64:=by
           cases gs with
           | cons grp gs=>simp only[ZC,Option.some.injEq,Prod.mk.injEq]at hs;obtain⟨_,rfl,_⟩:=hs;intro b hb;obtain⟨k,_,rfl⟩:=mem_map.mp hb;exact GV grp (og grp (by simp)) g 0 dg'
           | nil=>
            simp only[ZC]at hs;cases lp:lE c g with
            | none=>rw[lp]at hs;cases hs
            | some p=>rw[lp]at hs;simp only[Option.some.injEq,Prod.mk.injEq]at hs;obtain⟨_,rfl,_⟩:=hs;obtain⟨q1,q2⟩:=Jf.mp (mem_of_find?_eq_some lp);intro b hb;obtain⟨w,_,rfl⟩:=mem_map.mp hb;exact wN dg' (by omega) _
          have go:∀(bs:List OA),(∀b∈bs,VA c b)->(∀b∈bs,∀i<c,b i i=64)->(∃b∈bs,Jd c b s)->∀(md:Nat)(acc:List Tr)(a:Gn)(sp:Nat),vE (zC c m ls n) tag st gs.tail bs md acc a sp->a.wd≠.clash:=by
           intro bs
           induction bs with
           | nil=>rintro _ _ ⟨b,hb,_⟩;cases hb
           | cons b bs ih=>
            rintro h1 h2 ⟨b',hb',qb⟩ md acc a sp q;rcases q with⟨tr,m1,q1,q2⟩ | ⟨q1,q2⟩
            · rcases mem_cons.mp hb' with rfl | hb'
              · exact absurd rfl (Q8 ok hl n b' _ md _ _ q1 (h1 b' (by simp)) og.tail (h2 b' (by simp)) qb (fun x hx=>hg x (mem_of_mem_tail hx)))
              · exact ih (fun x hx=>h1 x (by simp[hx])) (fun x hx=>h2 x (by simp[hx])) ⟨b',hb',qb⟩ _ _ _ _ q2
            · exact q1
          exact go bs Jp dgb ex _ _ _ _ h
def zU(p j:Nat)(z:Int):List Bd:=qG p (2*j) 1 z z++qG p (2*j+1) 3 z z
theorem uX{t:Nat->Int}{p j z:Nat}(hz:z<5)(hj:t (2*j)<t (2*j+1))(h:∀e∈zU p j (z:Int),bF t e):vB (t p) (t (2*j)) (t (2*j+1))=z:=by
 rcases(show z=0\/z=1\/z=2\/z=3\/z=4 by omega)with rfl | rfl | rfl | rfl | rfl<;>simp[zU,qG,bF]at h<;>unfold vB
 · rw[if_pos (by omega)]
 · rw[if_neg (by omega),if_pos (by omega)]
 · rw[if_neg (by omega),if_neg (by omega),if_pos (by omega)]
 · rw[if_neg (by omega),if_neg (by omega),if_neg (by omega),if_pos (by omega)]
 · rw[if_neg (by omega),if_neg (by omega),if_neg (by omega),if_neg (by omega)]
theorem C1:∀w<13,(pz w).1<5/\(pz w).2<5/\Ad.idxOf (pz w)=w:=by decide +kernel
theorem RW:∀w:Nat,w<13->BA (2^w)=[w]:=by decide +kernel
theorem kj{i j side w:Nat}(hw:w<13)(hs:side<2):KE i j side (2^w)=zU (2*i+side) j ((if side=0 then(pz w).1 else(pz w).2:Nat):Int):=by unfold KE zU MB;rw[RW w hw];rcases(show side=0\/side=1 by omega)with rfl | rfl<;>rfl
theorem Hv{m:Nat}(hm:m<8192)(h0:m≠0)(h1:¬1<(BA m).length):∃w,w<13/\m=2^w:=by
 have ne:=RK hm h0;obtain⟨w,hw⟩:∃w,BA m=[w]:=by
  cases e:BA m with
  | nil=>exact absurd e ne
  | cons w r=>
   cases r with
   | nil=>exact⟨w,rfl⟩
   | cons x r=>rw[e]at h1;simp at h1
 have wm:w∈BA m:=by rw[hw];simp
 obtain⟨w13,wb⟩:=Kf.mp wm;refine⟨w,w13,aI hm (zcl w13) fun k hk=>?_⟩;rw[Nat.testBit_two_pow];by_cases z:w=k
 · subst z;rw[wb];simp
 · rw[decide_eq_false z];cases b:m.testBit k with
   | false=>rfl
   | true=>have:k∈BA m:=Kf.mpr ⟨hk,b⟩;rw[hw]at this;exact absurd (mem_singleton.mp this).symm z
where zcl {w:Nat} (h:w<13):2^w<8192:=Nat.pow_lt_pow_right (by decide) h (m:=w) (n:=13)
noncomputable def dC(t:Nat->Int)(k:Nat):Int×Int:=(t (2*k),t (2*k+1))
theorem tX{c:Nat}{g:OA}{ls:List Ln}{t:Nat->Int}(ht:∀e∈rD c g ls,bF t e):∀i,i<c->UC (dC t i):=by intro i hi;have h:=ht (2*i,2*i+1,-1) (mem_append.mpr (.inl (mem_append.mpr (.inl (mem_map.mpr ⟨i,mem_range.mpr hi,rfl⟩)))));simp only[bF]at h;show t (2*i)<t (2*i+1);omega
theorem Xv{c:Nat}{g:OA}(og:VA c g)(ne:VB c g=false)(lp:lE c g=none){ls:List Ln}{t:Nat->Int}(ht:∀e∈rD c g ls,bF t e):Jd c g (dC t):=by
 have ok:=tX ht;have up:∀i j,i<j->j<c->g i j=2^Gf (dC t i) (dC t j):=by
  intro i j hij hj;have hi:i<c:=by omega
  have hp:=p8 hij hj;have nl:¬1<(BA (g i j)).length:=by have:=find?_eq_none.mp lp (i,j) hp;simpa using this
  obtain⟨w,hw,e⟩:=Hv (og.lt i hi j hj) (Mf ne hi hj) nl;obtain⟨z1,z2,zi⟩:=C1 w hw;have sd:∀side,side<2->∀x∈zU (2*i+side) j ((if side=0 then(pz w).1 else(pz w).2:Nat):Int),bF t x:=by
   intro side hs x hx;rw[<- kj (i:=i) hw hs,<- e]at hx;refine ht x (mem_append.mpr (.inr (mem_flatMap.mpr ⟨(i,j),hp,?_⟩)));unfold rC;rcases(show side=0\/side=1 by omega)with rfl | rfl
   · exact mem_append.mpr (.inl hx)
   · exact mem_append.mpr (.inr hx)
  have a1:=uX (p:=2*i) z1 (ok j hj) (sd 0 (by omega));have a2:=uX (p:=2*i+1) z2 (ok j hj) (sd 1 (by omega));have:Gf (dC t i) (dC t j)=w:=by unfold Gf dC;simp only;rw[a1,a2];exact zi
  rw[this];exact e
 intro i hi j hj hij;rcases Nat.lt_or_gt_of_ne hij with z | z
 · rw[up i j z hj,Nat.testBit_two_pow];simp
 · have hw:=HE (ok j hj) (ok i hi);rw[og.tn j hj i hi,up j i z hi,vK (ok j hj) (ok i hi),Bj hw,Nat.testBit_two_pow];simp
theorem Bx{c:Nat}{g:OA}{ls:List Ln}{t:Nat->Int}(ht:∀e∈rD c g ls,bF t e){x:Ln}(hx:x∈ls):x.2.1*((2*c+1:Nat):Int)<=t (2*x.1+1)-t (2*x.1)/\t (2*x.1+1)-t (2*x.1)<=x.2.2*((2*c+1:Nat):Int):=by have h1:=ht (2*x.1,2*x.1+1,-x.2.1*((2*c+1:Nat):Int)) (mem_append.mpr (.inl (mem_append.mpr (.inr (mem_flatMap.mpr ⟨x,hx,by simp[xC]⟩)))));have h2:=ht (2*x.1+1,2*x.1,x.2.2*((2*c+1:Nat):Int)) (mem_append.mpr (.inl (mem_append.mpr (.inr (mem_flatMap.mpr ⟨x,hx,by simp[xC]⟩)))));simp only[bF,Int.neg_mul]at h1 h2;omega
structure mU(c:Nat)(ls:List Ln)(f:OA)(gs:List (List XB))(t:Nat->Int):Prop where
 ok:∀i,i<c->UC (dC t i)
 net:Jd c f (dC t)
 one:∀g∈gs,iZ (dC t) g
 len:∀x∈ls,x.2.1*((2*c+1:Nat):Int)<=t (2*x.1+1)-t (2*x.1)/\t (2*x.1+1)-t (2*x.1)<=x.2.2*((2*c+1:Nat):Int)
theorem BV{c m:Nat}{ls:List Ln}:∀(n:Nat)(f:OA)(gs:List (List XB))(made:Nat)(t:Nat->Int)(sp:Nat),zC c m ls n f gs made (.laid t) sp->VA c f->yd c gs->mU c ls f gs t
 | 0,_,_,_,_,_,h,_,_=>h.elim
 | n+1,f,gs,made,t,sp,h,of,og=>by
  rcases h with⟨st,g,h1,h2,h3,_⟩ | ⟨st,g,EN,h⟩
  · cases h3
  · obtain⟨Ub,Dp,neg⟩:=EN.ok of;obtain⟨g0,s0,_,_,rfl⟩:=EN;have sub:∀{s:Nat->Int×Int},Jd c (SC c g0) s->Jd c f s:=fun q=>q.zav.sub (s0.sub of)
    generalize SC c g0=g at Ub Dp neg sub h;rcases h with⟨cs,P,k,R,h3,_⟩ | ⟨t',ht,h⟩
    · cases h3
    · rcases h with⟨hs,h3,_⟩ | ⟨tag,bs,ps,hs,h⟩
      · cases h3;cases gs with
        | cons grp gs=>simp only[ZC]at hs;cases hs
        | nil=>
         have lp:lE c g=none:=by
          simp only[ZC]at hs;cases lp:lE c g with
          | none=>rfl
          | some p=>rw[lp]at hs;cases hs
         exact⟨tX ht,sub (Xv Ub neg lp ht),(fun g hg=>nomatch hg),fun x hx=>Bx ht hx⟩
      · rcases h with⟨_,h3,_⟩ | ⟨_,h⟩
        · cases h3
        · have Jp:=NK Ub og hs;have go:∀(bs:List OA),(∀b∈bs,VA c b)->∀(md:Nat)(acc:List Tr)(sp:Nat),vE (zC c m ls n) tag st gs.tail bs md acc (.laid t) sp->∃b∈bs,mU c ls b gs.tail t:=by
           intro bs
           induction bs with
           | nil=>rintro _ md acc sp ⟨q,_⟩;cases q
           | cons b bs ih=>
            intro h1 md acc sp q;rcases q with⟨tr,m1,q1,q2⟩ | ⟨q1,q2⟩
            · obtain⟨b',hb',k⟩:=ih (fun x hx=>h1 x (by simp[hx])) _ _ _ q2;exact⟨b',by simp[hb'],k⟩
            · exact⟨b,by simp,BV n b _ md _ _ q2 (h1 b (by simp)) og.tail⟩
          obtain⟨b,hb,K⟩:=go bs Jp _ _ _ h;cases gs with
          | cons grp gs=>
           simp only[ZC,Option.some.injEq,Prod.mk.injEq]at hs;obtain⟨_,rfl,_⟩:=hs;obtain⟨k,kl,rfl⟩:=mem_map.mp hb;obtain⟨q1,H⟩:=Jd.Nm K.ok grp (og grp (by simp)) g 0 Ub K.net;refine⟨K.ok,sub q1,fun x hx=>?_,K.len⟩;rcases mem_cons.mp hx with rfl | hx
           · exact⟨k,mem_range.mp kl,fun i m hm=>by rw[H i m hm,Nat.zero_add]⟩
           · exact K.one x hx
          | nil=>
           simp only[ZC]at hs;cases lp:lE c g with
           | none=>rw[lp]at hs;cases hs
           | some p=>rw[lp]at hs;simp only[Option.some.injEq,Prod.mk.injEq]at hs;obtain⟨_,rfl,_⟩:=hs;obtain⟨w,_,rfl⟩:=mem_map.mp hb;obtain⟨q1,q2⟩:=Jf.mp (mem_of_find?_eq_some lp);obtain⟨q3,_⟩:=Jd.Cm K.ok (by omega) (by omega) (by omega) Ub K.net;exact⟨K.ok,sub q3,(fun g hg=>nomatch hg),K.len⟩
noncomputable def RL:List Nat:=[1,2,3,4,6,7,8,12,14,15,16,24,28,30,31,32,36,38,39,64,72,96,108,110,111,128,144,192,216,224,252,254,255,256,288,292,294,295,512,576,584,768,864,876,878,879,1024,1152,1168,1536,1728,1752,1792,2016,2044,2046,2047,2048,3072,3200,3216,3584,3776,3800,3840,4064,4092,4094,4095,4096,6144,7168,7296,7312,7680,7872,7896,7936,8160,8188,8190,8191]
theorem tY:∀k<13,2^k∈RL:=by decide +kernel
theorem Mx:∀m∈RL,Cd m∈RL:=by decide +kernel
theorem YS:∀m∈RL,∀n∈RL,(m&&&n)=0\/(m&&&n)∈RL:=by decide +kernel
theorem Wy:∀m∈RL,∀n∈RL,CI m n∈RL:=by decide +kernel
theorem jZ:∀m∈RL,m≠0/\m<8192:=by decide +kernel
abbrev zA(w:Nat):Nat:=(pz w).1
abbrev zE(w:Nat):Nat:=(pz w).2
def yI(f:Nat->Nat)(m:Nat):Nat:=((BA m).map f).foldl Nat.min 4
def zI(f:Nat->Nat)(m:Nat):Nat:=((BA m).map f).foldl Nat.max 0
theorem MN:∀m∈RL,(yI zA m<5/\zI zA m<5/\yI zE m<5/\zI zE m<5)/\∀w<13,m.testBit w=((decide (yI zA m<=zA w)&&decide (zA w<=zI zA m))&&(decide (yI zE m<=zE w)&&decide (zE w<=zI zE m))):=by decide +kernel
theorem OT{m w:Nat}(hm:m∈RL)(hw:w<13):m.testBit w=true↔(yI zA m<=zA w/\zA w<=zI zA m)/\(yI zE m<=zE w/\zE w<=zI zE m):=by rw[(MN m hm).2 w hw];simp only[Bool.and_eq_true,decide_eq_true_eq]
noncomputable def wD(M:Int)(z:Nat)(o:Int×Int):Int:=match z with
 | 0=>-M
 | 1=>4*o.1
 | 2=>4*o.1+1
 | 3=>4*o.2
 | _=>4*o.2+1
noncomputable def xF(M:Int)(z:Nat)(o:Int×Int):Int:=match z with
 | 0=>4*o.1-1
 | 1=>4*o.1
 | 2=>4*o.2-1
 | 3=>4*o.2
 | _=>M
structure EO(M:Int)(o:Int×Int):Prop where
 ok:o.1<o.2
 lo:-M<4*o.1-1
 up:4*o.2+1<M
theorem KH{z:Nat}(h:z<5):z=0\/z=1\/z=2\/z=3\/z=4:=by omega
theorem iX{M:Int}{o:Int×Int}(I:EO M o){z z':Nat}(h:z<=z')(h5:z'<5):wD M z o<=wD M z' o:=by obtain⟨a,b,c⟩:=I;rcases KH (show z<5 by omega)with rfl | rfl | rfl | rfl | rfl<;>rcases KH h5 with rfl | rfl | rfl | rfl | rfl<;>simp only[wD]<;>omega
theorem lY{M:Int}{o:Int×Int}(I:EO M o){z z':Nat}(h:z<=z')(h5:z'<5):xF M z o<=xF M z' o:=by obtain⟨a,b,c⟩:=I;rcases KH (show z<5 by omega)with rfl | rfl | rfl | rfl | rfl<;>rcases KH h5 with rfl | rfl | rfl | rfl | rfl<;>simp only[xF]<;>omega
theorem jX{M:Int}{o:Int×Int}(ok:o.1<o.2){z:Nat}{t:Int}(h5:z<5)(h:wD M z o<=t):z<=vB t (4*o.1) (4*o.2):=by rcases jH t (4*o.1) (4*o.2) (by omega)with⟨y,w⟩ | ⟨y,w⟩ | ⟨y,y',w⟩ | ⟨y,w⟩ | ⟨y,w⟩<;>rw[w]<;>rcases KH h5 with rfl | rfl | rfl | rfl | rfl<;>simp only[wD]at h<;>omega
theorem mY{M:Int}{o:Int×Int}(ok:o.1<o.2){z:Nat}{t:Int}(h5:z<5)(h:t<=xF M z o):vB t (4*o.1) (4*o.2)<=z:=by rcases jH t (4*o.1) (4*o.2) (by omega)with⟨y,w⟩ | ⟨y,w⟩ | ⟨y,y',w⟩ | ⟨y,w⟩ | ⟨y,w⟩<;>rw[w]<;>rcases KH h5 with rfl | rfl | rfl | rfl | rfl<;>simp only[xF]at h<;>omega
def KO(za zb w:Nat):Bool:=decide (za=0) || decide (zb=4) ||
 (let zP:=if za<=2 then zA w else zE w
  if(za=2\/za=4)\/(zb=0\/zb=2)then(if zb<=1 then decide (zP=0)else decide (zP<=2))else(if zb<=1 then decide (zP<=1)else decide (zP<=3)))
def uU(za zb w:Nat):Bool:=decide (za=0) || decide (zb=4) ||
 (let zP:=if za<=2 then zA w else zE w
  if zb<=1 then decide (zP=0)else decide (zP<=2))
theorem Hx:∀p<13,∀q<13,∀w<13,(CH p q).testBit w=true->
 (KO (zA (12-p)) (zA q) w&&KO (zE (12-p)) (zE q) w&&uU (zA (12-p)) (zE q) w)=true:=by decide +kernel
theorem JN:∀q<13,(pz q).1<5/\(pz q).2<5/\(KO (zA q) (zA q) 6&&KO (zE q) (zE q) 6&&uU (zA q) (zE q) 6)=true:=by decide +kernel
theorem RX{M:Int}{A B:Int×Int}(IA:EO M A)(IB:EO M B){za zb:Nat}(ha:za<5)(hb:zb<5)(h:KO za zb (Gf A B)=true):wD M za A<=xF M zb B:=by obtain⟨a1,a2,a3⟩:=IA;obtain⟨b1,b2,b3⟩:=IB;have pw:pz (Gf A B)=(vB A.1 B.1 B.2,vB A.2 B.1 B.2):=WK a1 b1;have c1:=jH A.1 B.1 B.2 b1;have c2:=jH A.2 B.1 B.2 b1;unfold KO at h;simp only[zA,zE,pw]at h;rcases KH ha with rfl | rfl | rfl | rfl | rfl<;>rcases KH hb with rfl | rfl | rfl | rfl | rfl<;>simp at h<;>simp only[wD,xF]<;>omega
theorem Fx{M:Int}{A B:Int×Int}(IA:EO M A)(IB:EO M B){za zb:Nat}(ha:za<5)(hb:zb<5)(h:uU za zb (Gf A B)=true):wD M za A<xF M zb B:=by obtain⟨a1,a2,a3⟩:=IA;obtain⟨b1,b2,b3⟩:=IB;have pw:pz (Gf A B)=(vB A.1 B.1 B.2,vB A.2 B.1 B.2):=WK a1 b1;have c1:=jH A.1 B.1 B.2 b1;have c2:=jH A.2 B.1 B.2 b1;unfold uU at h;simp only[zA,zE,pw]at h;rcases KH ha with rfl | rfl | rfl | rfl | rfl<;>rcases KH hb with rfl | rfl | rfl | rfl | rfl<;>simp at h<;>simp only[wD,xF]<;>omega
noncomputable def Yl:List (Int×Int):=[(0,1),(0,2),(0,3),(0,4),(0,5),(2,3),(2,4),(2,5),(3,4),(3,4),(3,5),(4,5),(5,6)]
noncomputable def vp:List (Int×Int):=[(2,4),(2,4),(2,4),(2,4),(2,4),(2,4),(2,4),(2,4),(2,5),(2,4),(2,4),(2,4),(2,4)]
theorem lS:∀w<13,(Yl.getD w (0,0)).1<(Yl.getD w (0,0)).2/\(vp.getD w (0,0)).1<(vp.getD w (0,0)).2/\Gf (Yl.getD w (0,0)) (vp.getD w (0,0))=w:=by decide +kernel
theorem Cj(w:Nat)(hw:w<13):∃A B,UC A/\UC B/\Gf A B=w:=⟨_,_,(lS w hw).1,(lS w hw).2.1,(lS w hw).2.2⟩
theorem Y0(t a b:Int):vB (4*t) (4*a) (4*b)=vB t a b:=by unfold vB;simp only[show(4*t<4*a)=(t<a)from propext (by omega),show(4*t=4*a)=(t=a)from propext (by omega),show(4*t<4*b)=(t<b)from propext (by omega),show(4*t=4*b)=(t=b)from propext (by omega)]
noncomputable def vF(o:Int×Int):Int×Int:=(4*o.1,4*o.2)
theorem JU(a b:Int×Int):Gf (vF a) (vF b)=Gf a b:=by unfold Gf vF;simp only[Y0]
theorem Gh(s:Nat->Int×Int):∀S:List Nat,(∀i∈S,UC (s i))->∃M:Int,0<M/\∀i∈S,EO M (s i)
 | [],_=>⟨1,by decide,(fun _ h=>nomatch h)⟩
 | i::S,h=>by
  obtain⟨M,hM,q⟩:=Gh s S fun j hj=>h j (by simp[hj])
  have o:(s i).1<(s i).2:=h i (by simp);refine⟨M+4*((s i).1.natAbs:Int)+4*((s i).2.natAbs:Int)+2,by omega,fun j hj=>?_⟩;rcases mem_cons.mp hj with rfl | hj
  · exact⟨o,by omega,by omega⟩
  · obtain⟨a,b,c⟩:=q j hj;exact⟨a,by omega,by omega⟩
theorem yT(f:Nat->Int)(b:Int):∀S:List Nat,∃a,(∀i∈S,f i<=a)/\b<=a/\(a=b\/∃i∈S,a=f i)
 | []=>⟨b,(fun _ h=>nomatch h),Int.le_refl _,.inl rfl⟩
 | i::S=>by
  obtain⟨a,h1,h2,h3⟩:=yT f b S;by_cases z:a<=f i
  · refine⟨f i,fun j hj=>?_,by omega,.inr ⟨i,by simp,rfl⟩⟩;rcases mem_cons.mp hj with rfl | hj
    · exact Int.le_refl _
    · have:=h1 j hj;omega
  · refine⟨a,fun j hj=>?_,h2,?_⟩
    · rcases mem_cons.mp hj with rfl | hj
      · omega
      · exact h1 j hj
    · rcases h3 with h3 | ⟨j,hj,h3⟩
      · exact .inl h3
      · exact .inr ⟨j,by simp[hj],h3⟩
theorem lg(f:Nat->Int)(b:Int)(S:List Nat):∃a,(∀i∈S,a<=f i)/\a<=b/\(a=b\/∃i∈S,a=f i):=by
 obtain⟨a,h1,h2,h3⟩:=yT (fun i=>-f i) (-b) S;refine⟨-a,fun i hi=>by have:=h1 i hi;omega,by omega,?_⟩;rcases h3 with h3 | ⟨j,hj,h3⟩
 · exact .inl (by omega)
 · exact .inr ⟨j,hj,by omega⟩
def QT(c:Nat)(g:OA):Prop:=∀i<c,∀j<c,i≠j->g i j∈RL
def kU(S:List Nat)(g:OA)(s:Nat->Int×Int):Prop:=∀i∈S,∀j∈S,i≠j->(g i j).testBit (Gf (s i) (s j))=true
theorem CY{m:Nat}(hm:m<8192)(h0:m≠0):∃q,q<13/\m.testBit q=true:=by
 cases e:BA m with
 | nil=>exact absurd e (RK hm h0)
 | cons q r=>exact⟨q,Kf.mp (by rw[e];simp)⟩
section
variable{c:Nat}{g:OA}(o:VA c g)(cl:gF c g)(tm:QT c g)
include o cl tm
theorem o8{k:Nat}(hk:k<c){S:List Nat}(hS:∀i∈S,i<c/\i≠k){s:Nat->Int×Int}{M:Int}(I:∀i∈S,EO M (s i))(q:kU S g s){i j:Nat}(hi:i∈S)(hj:j∈S) :
 wD M (yI zA (g k i)) (s i)<=xF M (zI zA (g k j)) (s j)/\wD M (yI zE (g k i)) (s i)<=xF M (zI zE (g k j)) (s j)/\wD M (yI zA (g k i)) (s i)<xF M (zI zE (g k j)) (s j):=by
 obtain⟨ic,ik⟩:=hS i hi;obtain⟨jc,jk⟩:=hS j hj;have ti:=tm k hk i ic (Ne.symm ik);have tj:=tm k hk j jc (Ne.symm jk);obtain⟨⟨i1,i2,i3,i4⟩,_⟩:=MN _ ti;obtain⟨⟨j1,j2,j3,j4⟩,_⟩:=MN _ tj;have fin:∀x y,x<13->y<13->(g k i).testBit x=true->(g k j).testBit y=true->(KO (zA x) (zA y) (Gf (s i) (s j))&&KO (zE x) (zE y) (Gf (s i) (s j))&&uU (zA x) (zE y) (Gf (s i) (s j)))=true->
  wD M (yI zA (g k i)) (s i)<=xF M (zI zA (g k j)) (s j)/\wD M (yI zE (g k i)) (s i)<=xF M (zI zE (g k j)) (s j)/\wD M (yI zA (g k i)) (s i)<xF M (zI zE (g k j)) (s j):=by
  intro x y hx hy bx hby h;simp only[Bool.and_eq_true]at h;obtain⟨⟨h1,h2⟩,h3⟩:=h;obtain⟨⟨x1,_⟩,x2,_⟩:=(OT ti hx).mp bx;obtain⟨⟨_,y1⟩,_,y2⟩:=(OT tj hy).mp hby;obtain⟨x5,x6,_⟩:=JN x hx;obtain⟨y5,y6,_⟩:=JN y hy;have a1:=RX (I i hi) (I j hj) x5 y5 h1;have a2:=RX (I i hi) (I j hj) x6 y6 h2;have a3:=Fx (I i hi) (I j hj) x5 y6 h3;have l1:=iX (I i hi) x1 x5;have l2:=iX (I i hi) x2 x6;have u1:=lY (I j hj) y1 j2;have u2:=lY (I j hj) y2 j4;exact⟨Int.le_trans l1 (Int.le_trans a1 u1),Int.le_trans l2 (Int.le_trans a2 u2),Int.lt_of_le_of_lt l1 (Int.lt_of_lt_of_le a3 u2)⟩
 by_cases e:i=j
 · subst e;obtain⟨n0,nl⟩:=jZ _ ti;obtain⟨x,hx,bx⟩:=CY nl n0;have wt:=(JN x hx).2.2;have w6:=QW (I i hi).ok;exact fin x x hx hx bx bx (by rw[w6];exact wt)
 · have cb:=Lf.mp (show Rf (g i j) (CI (g i k) (g k j))from cl i ic k hk j jc ⟨ik,Ne.symm jk,e⟩) _ (q i hi j hj e);obtain⟨p,y,hp,bp,hy,hby,hc⟩:=(oJ _ _ _).mp cb;have wl:=HE (I i hi).ok (I j hj).ok;have bx:(g k i).testBit (12-p)=true:=by rw[o.tn i ic k hk,fE _ (by omega),show 12-(12-p)=p by omega];exact bp
   exact fin (12-p) y (by omega) hy bx hby (Hx p hp y hy _ wl hc)
theorem Fj{k:Nat}(hk:k<c){S:List Nat}(hS:∀i∈S,i<c/\i≠k){s:Nat->Int×Int}(ok:∀i∈S,UC (s i))(q:kU S g s) :
 ∃s',(∀i∈k::S,UC (s' i))/\kU (k::S) g s'/\∀i∈S,s' i=vF (s i):=by
 obtain⟨M,hM,I⟩:=Gh s S ok;obtain⟨a,a1,a2,a3⟩:=yT (fun i=>wD M (yI zA (g k i)) (s i)) (-M) S;obtain⟨b,b1,b2,b3⟩:=lg (fun i=>xF M (zI zE (g k i)) (s i)) M S;have P:=fun {i j:Nat} (hi:i∈S) (hj:j∈S)=>o8 o cl tm hk hS I q hi hj
 have dn:∀i∈S,∀z,z<5->-M<=xF M z (s i)/\-M<xF M 4 (s i)/\wD M z (s i)<=M:=by
  intro i hi z hz;obtain⟨c1,c2,c3⟩:=I i hi;refine⟨?_,?_,?_⟩
  · rcases KH hz with rfl | rfl | rfl | rfl | rfl<;>simp only[xF]<;>omega
  · simp only[xF];omega
  · rcases KH hz with rfl | rfl | rfl | rfl | rfl<;>simp only[wD]<;>omega
 have R:=fun {i:Nat} (hi:i∈S)=>(MN _ (tm k hk i (hS i hi).1 (Ne.symm (hS i hi).2))).1
 have au:∀i∈S,a<=xF M (zI zA (g k i)) (s i):=by
  intro i hi;rcases a3 with rfl | ⟨j,hj,rfl⟩
  · exact(dn i hi _ (R hi).2.1).1
  · exact(P hj hi).1
 have bl:∀i∈S,wD M (yI zE (g k i)) (s i)<=b:=by
  intro i hi;rcases b3 with rfl | ⟨j,hj,rfl⟩
  · exact(dn i hi _ (R hi).2.2.1).2.2
  · exact(P hi hj).2.1
 have lo:∀i∈S,∀z,z<5->-M<xF M z (s i)/\wD M z (s i)<M:=by
  intro i hi z hz;obtain⟨c1,c2,c3⟩:=I i hi;constructor
  · rcases KH hz with rfl | rfl | rfl | rfl | rfl<;>simp only[xF]<;>omega
  · rcases KH hz with rfl | rfl | rfl | rfl | rfl<;>simp only[wD]<;>omega
 have ab:a<b:=by
  rcases a3 with rfl | ⟨j,hj,rfl⟩<;>rcases b3 with rfl | ⟨i,hi,rfl⟩
  · omega
  · exact(lo i hi _ (R hi).2.2.2).1
  · exact(lo j hj _ (R hj).1).2
  · exact(P hj hi).2.2
 obtain⟨s',e1,e2⟩:∃s':Nat->Int×Int,s' k=(a,b)/\∀i,i≠k->s' i=vF (s i):=⟨fun i=>if i=k then(a,b)else vF (s i),if_pos rfl,fun i hi=>if_neg hi⟩
 refine⟨s',fun i hi=>?_,?_,fun i hi=>e2 i (hS i hi).2⟩
 · rcases mem_cons.mp hi with rfl | hi
   · rw[e1];exact ab
   · rw[e2 i (hS i hi).2];have:(s i).1<(s i).2:=ok i hi;show 4*(s i).1<4*(s i).2;omega
 · have new:∀i∈S,(g k i).testBit (Gf (a,b) (vF (s i)))=true:=by
    intro i hi;have oi:(s i).1<(s i).2:=ok i hi;have of:UC (vF (s i)):=show 4*(s i).1<4*(s i).2 by omega
    have wl:=HE (s:=(a,b)) ab of;refine(OT (tm k hk i (hS i hi).1 (Ne.symm (hS i hi).2)) wl).mpr ?_;have pw:=WK (s:=(a,b)) ab of;simp only[zA,zE,pw];exact⟨⟨jX oi (R hi).1 (a1 i hi),mY oi (R hi).2.1 (au i hi)⟩,jX oi (R hi).2.2.1 (bl i hi),mY oi (R hi).2.2.2 (b1 i hi)⟩
   intro i hi0 j hj0 hij;rcases mem_cons.mp hi0 with hi | hi
   · subst hi;rcases mem_cons.mp hj0 with hj | hj
     · exact absurd hj.symm hij
     · rw[e1,e2 j (hS j hj).2];exact new j hj
   · rcases mem_cons.mp hj0 with hj | hj
     · rw[hj,e1,e2 i (hS i hi).2];have oi:(s i).1<(s i).2:=ok i hi;have of:UC (vF (s i)):=show 4*(s i).1<4*(s i).2 by omega
       have wl:=HE (s:=(a,b)) ab of;rw[o.tn k hk i (hS i hi).1,vK (s:=(a,b)) ab of,fE _ (by omega),show 12-(12-Gf (a,b) (vF (s i)))=Gf (a,b) (vF (s i)) by omega];exact new i hi
     · rw[e2 i (hS i hi).2,e2 j (hS j hj).2,JU];exact q i hi j hj hij
theorem zW:∀(n:Nat),n<=c->∀{S:List Nat},(∀i∈S,i<c)->∀{s:Nat->Int×Int},(∀i∈S,UC (s i))->kU S g s->
 ∃s' S',(∀i∈S,i∈S')/\(∀i<n,i∈S')/\(∀i∈S',i<c)/\(∀i∈S',UC (s' i))/\kU S' g s'/\∀i∈S,∀j∈S,Gf (s' i) (s' j)=Gf (s i) (s j)
 | 0,_,S,hS,s,ok,q=>⟨s,S,fun _ h=>h,fun _ h=>by omega,hS,ok,q,fun _ _ _ _=>rfl⟩
 | n+1,hn,S,hS,s,ok,q=>by
  obtain⟨s1,S1,b1,b2,b3,b4,b5,b6⟩:=zW n (by omega) hS ok q;by_cases z:n∈S1
  · exact⟨s1,S1,b1,fun i hi=>if e:i=n then e ▸ z else b2 i (by omega),b3,b4,b5,b6⟩
  · obtain⟨s2,c1,c2,c3⟩:=Fj o cl tm (k:=n) (by omega) (fun i hi=>⟨b3 i hi,fun e=>z (e ▸ hi)⟩) b4 b5;refine⟨s2,n::S1,fun i hi=>by simp[b1 i hi],fun i hi=>?_,fun i hi=>?_,c1,c2,fun i hi j hj=>?_⟩
    · by_cases e:i=n
      · simp[e]
      · simp[b2 i (by omega)]
    · rcases mem_cons.mp hi with rfl | hi
      · omega
      · exact b3 i hi
    · rw[c3 i (b1 i hi),c3 j (b1 j hj),JU];exact b6 i hi j hj
theorem JW{i j:Nat}(hi:i<c)(hj:j<c)(hij:i≠j){w:Nat}(hw:w<13)(hb:(g i j).testBit w=true):∃s:Nat->Int×Int,(∀i,i<c->UC (s i))/\Jd c g s/\Gf (s i) (s j)=w:=by
 obtain⟨A,B,oA,oB,e⟩:=Cj w hw;obtain⟨s,hs1,hs2⟩:∃s:Nat->Int×Int,s i=A/\s j=B:=⟨fun k=>if k=i then A else B,if_pos rfl,if_neg (Ne.symm hij)⟩
 obtain⟨s',S',b1,b2,b3,b4,b5,b6⟩:=zW o cl tm c (zdS c) (S:=[i,j]) (by simp[hi,hj]) (s:=s) (by
  intro k hk;simp only[mem_cons,not_mem_nil,or_false]at hk;rcases hk with rfl | rfl
  · rw[hs1];exact oA
  · rw[hs2];exact oB) (by
  intro k hk l hl hkl;simp only[mem_cons,not_mem_nil,or_false]at hk hl;rcases hk with rfl | rfl<;>rcases hl with rfl | rfl
  · exact absurd rfl hkl
  · rw[hs1,hs2,e];exact hb
  · rw[hs1,hs2,vK oA oB,e,o.tn _ hi _ hj,fE _ (by omega),show 12-(12-w)=w by omega];exact hb
  · exact absurd rfl hkl)
 refine⟨s',fun k hk=>b4 k (b2 k hk),fun k hk l hl hkl=>b5 k (b2 k hk) l (b2 l hl) hkl,?_⟩;rw[b6 i (by simp) j (by simp),hs1,hs2,e]
end
def Kd(c:Nat)(g:OA):Prop:=∀i<c,∀j<c,i≠j->g i j=0\/g i j∈RL
theorem Kd.nar{c:Nat}{f:OA}(h:Kd c f){i j m:Nat}(hi:i<c)(hj:j<c)(hij:i≠j)(hm:f i j∈RL->f i j&&&m=0\/f i j&&&m∈RL):Kd c (fB f i m j):=by
 have at':f i j&&&m=0\/f i j&&&m∈RL:=by
  rcases h i hi j hj hij with e | e
  · left;rw[e];simp
  · exact hm e
 intro a ha b hb hab;by_cases e1:a=i/\b=j
 · obtain⟨rfl,rfl⟩:=e1;rw[zJ f m hij];exact at'
 · by_cases e2:a=j/\b=i
   · obtain⟨rfl,rfl⟩:=e2;rw[nT];rcases at' with e | e
     · left;rw[e];exact En
     · exact .inr (Mx _ e)
   · rw[bG f e1 e2];exact h a ha b hb hab
theorem Kd.tame{c:Nat}{g:OA}(h:Kd c g)(ne:VB c g=false):QT c g:=fun i hi j hj hij=>by
 rcases h i hi j hj hij with e | e
 · exact absurd e (Mf ne hi hj)
 · exact e
theorem Kd.steps{c:Nat}{f g:OA}{st:List (Nat×Nat×Nat)}(h:Steps c f st g)(q:Kd c f):Kd c g:=by
 induction h with
 | nil=>exact q
 | @snoc st g i k j h hi hk hj d ne n ih=>
  have t:=ih.tame ne;refine ih.nar hi hj d.2.2 fun e=>?_
  unfold Ef;rw[<- Nat.and_assoc,Nat.and_self];exact YS _ e _ (Wy _ (t i hi k hk d.1) _ (t k hk j hj d.2.1))
def lc(c:Nat)(g:OA):Nat:=(AA c).countP fun p=>decide (1<(BA (g p.1 p.2)).length)
theorem MR{a b:Nat}(h:Rf a b):(BA a).length<=(BA b).length:=by unfold BA;rw[<- countP_eq_length_filter,<- countP_eq_length_filter];exact countP_mono_left fun k _ hk=>Lf.mp h k hk
theorem zx{c:Nat}{f g:OA}(h:zH c g f):lc c g<=lc c f:=countP_mono_left fun p hp hk=>by obtain⟨p1,p2⟩:=Jf.mp hp;have:=MR (h p.1 (by omega) p.2 p2);simp only[decide_eq_true_eq]at hk ⊢;omega
theorem hW{α:Type}{p q:α->Bool}{x:α}:∀{l:List α},(∀y∈l,p y=true->q y=true)->x∈l->q x=true->p x=false->l.countP p<l.countP q
 | y::l,h,hx,hq,hp=>by
  have m:=countP_mono_left (p:=p) (q:=q) (l:=l) fun z hz=>h z (by simp[hz])
  rcases mem_cons.mp hx with rfl | hx
  · rw[countP_cons_of_pos hq,countP_cons_of_neg (by rw[hp];decide)];omega
  · have ih:=hW (fun z hz=>h z (by simp[hz])) hx hq hp;by_cases e:p y=true
    · rw[countP_cons_of_pos e,countP_cons_of_pos (h y (by simp) e)];omega
    · rw[countP_cons_of_neg e];have:l.countP q<=(y::l).countP q:=by rw[countP_cons];omega
      omega
theorem Fy{c:Nat}{g:OA}(o:VA c g){p:Nat×Nat}(lp:lE c g=some p){w:Nat}(hw:w<13):lc c (fB g p.1 (2^w) p.2)<lc c g:=by
 have hp:=mem_of_find?_eq_some lp;obtain⟨p1,p2⟩:=Jf.mp hp;have sub:zH c (fB g p.1 (2^w) p.2) g:=by
  intro a ha b hb;by_cases e1:a=p.1/\b=p.2
  · obtain⟨rfl,rfl⟩:=e1;rw[zJ g _ (by omega)];exact dH _ _
  · by_cases e2:a=p.2/\b=p.1
    · obtain⟨rfl,rfl⟩:=e2;rw[nT,o.tn p.1 (by omega) p.2 p2];exact IR (dH _ _)
    · rw[bG g e1 e2];exact Rf.refl _
 have lq:(fun p:Nat×Nat=>decide (1<(BA (g p.1 p.2)).length)) p=true:=find?_some (p:=fun p:Nat×Nat=>decide (1<(BA (g p.1 p.2)).length)) (l:=AA c) lp;refine hW (x:=p) (fun q hq hk=>?_) hp lq ?_
 · obtain⟨q1,q2⟩:=Jf.mp hq;have:=MR (sub q.1 (by omega) q.2 q2);simp only[decide_eq_true_eq]at hk ⊢;omega
 · show decide (1<(BA (fB g p.1 (2^w) p.2 p.1 p.2)).length)=false;rw[zJ g _ (by omega)];have h1:Rf (g p.1 p.2&&&2^w) (2^w):=by rw[Nat.and_comm];exact dH _ _
   have:=MR h1;rw[RW w hw]at this;simp only[zdF,zdG]at this;exact decide_eq_false (by omega)
theorem CV{c m:Nat}:∀(n:Nat)(f:OA)(made:Nat)(a:Gn)(sp:Nat),zC c m [] n f [] made a sp->VA c f->(∀i<c,f i i=64)->Kd c f->(∃s:Nat->Int×Int,(∀i,i<c->UC (s i))/\Jd c f s)->made+lc c f<=m->a.wd=.laid
 | 0,_,_,_,_,h,_,_,_,_,_=>h.elim
 | n+1,f,made,a,sp,h,of,dg,tz,⟨s,ok,q⟩,hm=>by
  rcases h with⟨st,g,h1,h2,rfl,rfl⟩ | ⟨st,g,EN,h⟩
  · have:=(q.steps ok h1).ne (h1.diag dg);rw[h2]at this;cases this
  · obtain⟨Ub,Dp,neg⟩:=EN.ok of;obtain⟨g0,s0,_,ne0,rfl⟩:=EN;have qg:Jd c (SC c g0) s:=(q.steps ok s0).cut;have dg':∀i<c,SC c g0 i i=64:=fun i hi=>by rw[NE g0 hi hi];exact s0.diag dg i hi
    have t0:=(Kd.steps s0 tz).tame ne0;have tg:QT c (SC c g0):=fun i hi j hj hij=>by rw[NE g0 hi hj];exact t0 i hi j hj hij
    have sub:zH c (SC c g0) f:=fun i hi j hj=>by rw[NE g0 hi hj];exact s0.sub of i hi j hj
    have lm:=zx sub;generalize SC c g0=g at Ub Dp neg qg dg' tg lm h;rcases h with⟨cs,P,k,R,rfl,rfl⟩ | ⟨t,ht,h⟩
    · exact(AS (b:=fun p=>((2*c+1:Nat):Int)*WJ s p) (OX ok qg (fun x hx=>absurd hx (by simp))) R).elim
    · rcases h with⟨_,rfl,rfl⟩ | ⟨tag,bs,ps,hs,h⟩
      · rfl
      · simp only[ZC]at hs;cases lp:lE c g with
        | none=>rw[lp]at hs;cases hs
        | some p=>
         rw[lp]at hs;simp only[Option.some.injEq,Prod.mk.injEq]at hs;obtain⟨_,rfl,_⟩:=hs;obtain⟨q1,q2⟩:=Jf.mp (mem_of_find?_eq_some lp);cases ew:BA (g p.1 p.2)with
         | nil=>exact absurd ew (RK (Ub.lt _ (by omega) _ q2) (Mf neg (by omega) q2))
         | cons w r=>
          obtain⟨w13,wb⟩:=Kf.mp (show w∈BA (g p.1 p.2) by rw[ew];simp);have lw:=Fy Ub lp w13;rcases h with⟨hl,rfl,rfl⟩ | ⟨_,h⟩
          · omega
          · rw[ew]at h;obtain⟨s',ok',qs,e⟩:=JW Ub Dp tg (show p.1<c by omega) q2 (by omega) w13 wb;have qb:Jd c (fB g p.1 (2^w) p.2) s':=qs.nar ok' (by omega) q2 (by omega) (by rw[e,Nat.testBit_two_pow];simp);have go:∀a1 m1,zC c m [] n (fB g p.1 (2^w) p.2) [] (made+1) a1 m1->a1.wd=.laid:=fun a1 m1 L=>CV n _ _ a1 m1 L (KG Ub (by omega) q2 (by omega) _) (wN dg' (by omega) _) (Kd.nar (fun i hi j hj hij=>.inr (tg i hi j hj hij)) (by omega) q2 (by omega) (fun z=>YS _ z _ (tY _ w13))) ⟨s',ok',qb⟩ (by omega)
            rcases h with⟨tr,m1,h1,_⟩ | ⟨_,h1⟩
            · have:=go _ _ h1;cases this
            · exact go _ _ h1
theorem pS(i:Int)(h:HI):XI [.int i] h=some (.bl true,h):=by simp[XI,aQ]
theorem OS(ns:List Int)(k:Nat)(h:HI):TH [.lst (ns.map Dt.int),.int (k:Int)] h=some (.int (ns[k]?.getD 0),h):=by
 simp[TH,pQ];by_cases hk:k<ns.length
 · simp[hk]
 · simp[hk]
theorem tT(c:Int){f p:Int}(hf:0<=f)(hf':f<2^64)(hp:0<p)(h:HI):gJ [.int c,.int f,.int p] h=some (.int (((c%1000000007+1)*f%p).toNat:Nat),h):=by have c1:Yn (c%1000000007+1) f:=Or.inr ⟨by omega,hf'⟩;have nn:=Int.emod_nonneg ((c%1000000007+1)*f) (show p≠0 by omega);rw[Int.toNat_of_nonneg nn];simp[gJ,TQ,PF c1,oG hp,oG (show(0:Int)<1000000007 by decide)]
theorem ZN{o:Int×Int}(ok:UC o)(t:Int)(h:HI):AF [.int t,gD o] h=some (.int (vB t o.1 o.2:Nat),h):=by
 have okk:o.1<o.2:=ok;rcases jH t o.1 o.2 okk with⟨y,w⟩ | ⟨y,w⟩ | ⟨y,y',w⟩ | ⟨y,w⟩ | ⟨y,w⟩<;>rw[w]
 · simp[AF,SH,gD,y]
 · simp[AF,SH,gD,y]
 · have n1:¬t<o.1:=by omega
   have n2:¬t=o.1:=by omega
   have n3:¬o.2<=t:=by omega
   have n4:¬o.2<t:=by omega
   simp[AF,SH,gD,n1,n2,n3,n4]
 · have n1:¬t<o.1:=by omega
   have n2:¬t=o.1:=by omega
   have n3:o.2<=t:=by omega
   have n4:¬o.2<t:=by omega
   simp[AF,SH,gD,n1,n2,n3,n4]
 · have n1:¬t<o.1:=by omega
   have n2:¬t=o.1:=by omega
   have n3:o.2<=t:=by omega
   simp[AF,SH,gD,n1,n2,n3,y]
theorem iW{a b:Int×Int}(ha:UC a)(hb:UC b)(h:HI):kK [gD a,gD b] h=some (.int (Gf a b:Nat),h):=by
 have z1:=fun h=>ZN hb a.1 h
 have z2:=fun h=>ZN hb a.2 h
 have l1:=DO a.1 b.1 b.2;have l2:=DO a.2 b.1 b.2;have w:Gf a b=SI (vB a.1 b.1 b.2) (vB a.2 b.1 b.2):=vZ _ l1 _ l2 (gN ha hb);rw[w];have x0:∀k:HI,pA (gD a) (.int 0) k=some (.int a.1,k):=fun _=>rfl
 have x1:∀k:HI,pA (gD a) (.int 1) k=some (.int a.2,k):=fun _=>rfl
 have ix:∀z,z<5->∀k:HI,pA (.lst [.int 0,.int 3,.int 6,.int 7,.int 8]) (.int (z:Nat)) k=some (.int (([0,3,6,7,8].getD z 0:Nat):Int),k):=by intro z hz k;rcases KH hz with rfl | rfl | rfl | rfl | rfl<;>rfl
 have s5:5<=sizeLine:=by decide
 simp only[kK,BP,xB,zdF,zdG,if_true,zdH,zdI,Nat.reduceAdd,Nat.reduceSub,List.replicate,zdO,zdN,zdU,EB,FA,gI,WA,MA,JA,rA,eB,zdD,zdE,sA,nA,x0,x1,z1,z2,s5,ix _ l1,tE,KB];rfl
def sC(s:Nat->Int×Int)(c:Nat):List Dt:=(List.range c).map fun k=>gD (s k)
theorem dX{s:Nat->Int×Int}{c k:Nat}(hk:k<c):(sC s c)[k]?=some (gD (s k)):=by simp[sC,hk]
theorem M7(s:Nat->Int×Int)(k:Nat):sC s (k+1)=sC s k++[gD (s k)]:=by unfold sC;rw[range_succ,map_append];rfl
noncomputable def Bm(ns:List Int)(k:Nat):Nat:=(((ns[1+k]?.getD 0+(k:Int)*k)%1000000007+1)*742938285%2147483647).toNat
def aH(ns:List Int)(L:Int)(k:Nat):Int×Int:=(((Bm ns k:Nat)%8-3)*L,((Bm ns k:Nat)%8-3)*L+(1+(Bm ns k:Nat)/8%5)*L)
theorem Sg(ns:List Int){L:Int}(h:1<=L)(k:Nat):UC (aH ns L k):=by unfold UC aH;have:0<(1+(Bm ns k:Int)/8%5)*L:=Int.mul_pos (by omega) (by omega);simp only;omega
theorem Y5(ns:List Int){c:Nat}(hc:c<=8)(h:HI):∃L:Int,1<=L/\YL [.lst (ns.map Dt.int),.int 1,.int (c:Nat)] h=some (.ref h.length,h++[.lst (sC (aH ns L) c)]):=by
 obtain⟨L,hL,eL⟩:∃L:Int,1<=L/\Ac [Dt.int 1,.int 1,.int 1,.int (10^40+7)] (ns[0]?.getD 0/5%4)=some (.int L):=by
  rcases(show ns[0]?.getD (0:Int)/5%4=0\/ns[0]?.getD (0:Int)/5%4=1\/ns[0]?.getD (0:Int)/5%4=2\/ns[0]?.getD (0:Int)/5%4=3 by omega)with z | z | z | z<;>rw[z]
  · exact⟨1,by decide,rfl⟩
  · exact⟨1,by decide,rfl⟩
  · exact⟨1,by decide,rfl⟩
  · exact⟨10^40+7,by decide,rfl⟩
 refine⟨L,hL,?_⟩;have er:=fun h=>FF (h:=h) (show(-(2^62):Int)<=(c:Int) by omega) (show(c:Int)<2^62 by omega)
 simp only[Int.toNat_natCast]at er;have m8:=fun(i:Int) (h:HI)=>oG (h:=h) (i:=i) (show(0:Int)<8 by decide)
 have m5:=fun(i:Int) (h:HI)=>oG (h:=h) (i:=i) (show(0:Int)<5 by decide)
 have m4:=fun(i:Int) (h:HI)=>oG (h:=h) (i:=i) (show(0:Int)<4 by decide)
 have d8:=fun(i:Int) (h:HI)=>OF (h:=h) (i:=i) (j:=8) ⟨by decide,by decide⟩
 have d5:=fun(i:Int) (h:HI)=>OF (h:=h) (i:=i) (j:=5) ⟨by decide,by decide⟩
 have c0:=fun h=>OS ns 0 h
 simp only[Int.cast_ofNat_Int]at c0;have pw:=fun(h:HI)=>Ig (h:=h) (i:=10) (j:=40) ⟨by decide,by decide,by decide⟩
 simp only[show(40:Int).toNat=40 from rfl]at pw;obtain⟨l',h',e,⟨y5,y6,y7,rfl⟩,rfl⟩:=uK (i:=5) (body:=vP) (fun(k:Nat)=>Dt.int (k:Int)) (fun k l h'=>(∃y5 y6 y7,l=[some (.lst (ns.map Dt.int)),some (.int 1),some (.int (c:Nat)),some (.int L),some (.ref h.length),y5,y6,y7])/\h'=h++[.lst (sC (aH ns L) k)]) c (by
  rintro k hk l h' ⟨⟨y5,y6,y7,rfl⟩,rfl⟩;have cc:=fun h=>OS ns (1+k) h
  have ca:(1:Int)+(k:Int)=((1+k:Nat):Int):=by omega
  have u1:=fun(h:HI)=>PF (h:=h) (i:=(k:Int)) (j:=(k:Int)) (Or.inl ⟨by omega,by omega⟩)
  have em:=fun(x:Int) (h:HI)=>tT x (f:=742938285) (p:=2147483647) (by decide) (by decide) (by decide) h
  have en:(((ns[1+k]?.getD 0+(k:Int)*(k:Int))%1000000007+1)*742938285%2147483647).toNat=Bm ns k:=rfl;generalize Bm ns k=N at en;have u3:=fun(h:HI)=>PF (h:=h) (i:=(N:Int)%8-3) (j:=L) (Or.inl ⟨by omega,by omega⟩)
  have u4:=fun(h:HI)=>PF (h:=h) (i:=1+(N:Int)/8%5) (j:=L) (Or.inl ⟨by omega,by omega⟩)
  have dh:(h++[Ob.lst (sC (aH ns L) k)])[h.length]?=some (.lst (sC (aH ns L) k)):=by simp
  have eN:Bm ns k=N:=en;have sp:gD (aH ns L k)=.tup [.int (((N:Int)%8-3)*L),.int (((N:Int)%8-3)*L+(1+(N:Int)/8%5)*L)]:=by unfold gD aH;rw[eN]
  refine⟨.nx [some (.lst (ns.map Dt.int)),some (.int 1),some (.int (c:Nat)),some (.int L),some (.ref h.length),some (.int (k:Nat)),some (.int (N:Nat)),some (.int (((N:Int)%8-3)*L))] (h++[.lst (sC (aH ns L) (k+1))]),?_,⟨_,_,_,rfl⟩,rfl⟩;have ap:=FG (l:=[some (.lst (ns.map Dt.int)),some (.int 1),some (.int (c:Nat)),some (.int L),some (.ref h.length),some (.int (k:Nat)),some (.int (N:Nat)),some (.int (((N:Int)%8-3)*L))]) (h:=h++[Ob.lst (sC (aH ns L) k)]) (g:=rB (bA (eV 7) (bA (e2 YB (eV 7) (e2 TC (e2 YB (eC (.int 1)) (e2 iD (e2 eE (eV 6) (eC (.int 8))) (eC (.int 5)))) (eV 3))) (fA)))) (d:=gD (aH ns L k)) dh (by rw[sp];simp[d8,m5,u4]) dh (by simp[sC];omega);have es:(h++[Ob.lst (sC (aH ns L) k)]).set h.length (.lst (sC (aH ns L) k++[gD (aH ns L k)]))=h++[.lst (sC (aH ns L) (k+1))]:=by rw[M7];simp
  rw[es]at ap;simp only[vP,XA,mB,eB,WA,MA,FA,rA,JA,zdK,zdJ,zdD,zdE,sA,nA,tE,ca,cc,u1,zdU,em,en,YA,m8,tI,u3,JE,JF,ap]) [some (.lst (ns.map Dt.int)),some (.int 1),some (.int (c:Nat)),some (.int L),some (.ref h.length),none,none,none] (h++[.lst []]) ⟨⟨_,_,_,rfl⟩,by simp[sC]⟩
 simp only[YL,sP,xB,zdF,zdG,if_true,zdH,zdI,Nat.reduceAdd,Nat.reduceSub,List.replicate,zdO,zdN,zdU,XA,mB,FA,gI,WA,MA,JA,rA,eB,zdD,zdE,sA,nA,pw,tE,Nat.reduceLeDiff,c0,d5,m4,dL,eL,zdL,zdK,zdJ,YA,LG,kH,Nat.zero_le,YD,pL,er,EF,e,EB,KB]
def wL(a b c d w:Nat):Bool:=(decide (a<=zA w)&&decide (zA w<=b))&&(decide (c<=zE w)&&decide (zE w<=d))
def Rp(a b c d acc w:Nat):Nat:=if wL a b c d w=true then acc|||2^w else acc
def qm(a b c d:Nat):Nat:=(List.range 13).foldl (Rp a b c d) 0
set_option synthInstance.maxSize 1000 in
set_option synthInstance.maxHeartbeats 0 in
theorem Bv:∀a<5,∀b<5,∀c<5,∀d<5,qm a b c d=0\/qm a b c d∈RL:=by decide +kernel
theorem Qx:∀a<5,∀b<5,∀c<5,∀d<5,mk (wL a b c d)=qm a b c d:=by decide +kernel
def kP:List Dt:=(List.range 13).map fun w=>.int ((pz w).1:Nat)
def ZO:List Dt:=(List.range 13).map fun w=>.int ((pz w).2:Nat)
theorem W1{w:Nat}(hw:w<13):Ac kP (w:Int)=some (.int ((pz w).1:Nat)):=by rw[SM.OC];simp[kP,hw]
theorem vT{w:Nat}(hw:w<13):Ac ZO (w:Int)=some (.int ((pz w).2:Nat)):=by rw[SM.OC];simp[ZO,hw]
theorem Yx{a b c d w:Nat}(hw:w<13)(acc:Nat)(h:HI):zM [some (.int a),some (.int b),some (.int c),some (.int d),some (.lst kP),some (.lst ZO),some (.int acc),some (.int w)] h=some (.nx [some (.int a),some (.int b),some (.int c),some (.int d),some (.lst kP),some (.lst ZO),some (.int (Rp a b c d acc w:Nat)),some (.int w)] h):=by have s1:=vO (h:=h) (xL hw);simp only[Int.toNat_natCast,Int.one_mul]at s1;have b':=fY acc (2^w);simp only[Int.natCast_pow,Int.cast_ofNat_Int]at b';simp[zM,W1 hw,vT hw,s1,b',Rp,wL,zA,zE];by_cases h1:a<=(pz w).1<;>by_cases h2:(pz w).1<=b<;>by_cases h3:c<=(pz w).2<;>by_cases h4:(pz w).2<=d<;>simp[h1,h2,h3,h4,Int.ofNat_le]
theorem ig(a b c d:Nat)(h:HI):MM [.int a,.int b,.int c,.int d] h=some (.int (qm a b c d:Nat),h):=by
 obtain⟨l',h',e,⟨z,rfl⟩,rfl⟩:=VM (i:=7) (body:=zM) (fun(k:Nat)=>Dt.int (k:Int)) (fun(acc:Nat) l h'=>(∃z,l=[some (.int a),some (.int b),some (.int c),some (.int d),some (.lst kP),some (.lst ZO),some (.int acc),z])/\h'=h) (Rp a b c d) (List.range 13) (by
  rintro w hw acc l h ⟨⟨z,rfl⟩,rfl⟩;exact⟨_,Yx (mem_range.mp hw) acc _,⟨_,rfl⟩,rfl⟩) 0 [some (.int a),some (.int b),some (.int c),some (.int d),some (.lst kP),some (.lst ZO),some (.int 0),none] h ⟨⟨none,rfl⟩,rfl⟩
 change _=some (Rs.nx [_,_,_,_,_,_,some (.int (qm a b c d:Nat)),z] h')at e
 have s1:Dt.lst [.int 0,.int 0,.int 0,.int 0,.int 0,.int 1,.int 1,.int 1,.int 2,.int 2,.int 2,.int 3,.int 4]=.lst kP:=by kernel_rfl
 have s2:Dt.lst [.int 0,.int 1,.int 2,.int 3,.int 4,.int 2,.int 3,.int 4,.int 2,.int 3,.int 4,.int 4,.int 4]=.lst ZO:=by kernel_rfl
 generalize qm a b c d=r at *;simp[MM,SQ,B0,s1,s2,e]
theorem Yg{c:Nat}(hc2:2<=c)(n k:Nat):∃i j:Nat,i<c/\j<c/\i≠j/\((n:Int)%(c:Int))=(i:Int)/\((i:Int)+1+(n:Int)/(k:Int)%((c:Int)-1))%(c:Int)=(j:Int):=by
 refine⟨n%c,(n%c+1+n/k%(c-1))%c,Nat.mod_lt _ (by omega),Nat.mod_lt _ (by omega),?_,by simp,?_⟩
 · have t:n/k%(c-1)<c-1:=Nat.mod_lt _ (by omega);have hi:n%c<c:=Nat.mod_lt _ (by omega);generalize n/k%(c-1)=q at t;generalize n%c=i at hi;by_cases w:i+1+q<c
   · rw[Nat.mod_eq_of_lt w];omega
   · rw[Nat.mod_eq_sub_mod (by omega),Nat.mod_eq_of_lt (by omega)];omega
 · rw[show(c:Int)-1=((c-1:Nat):Int) by omega];simp
theorem A1{k:Nat}(h:k<13):2^k<8192:=Nat.pow_lt_pow_right (by decide) h (m:=k) (n:=13)
theorem qY{c:Nat}(hc2:2<=c)(hc:c<=100){s:Nat->Int×Int}(ok:∀i,UC (s i))(cell:Int)(lo:Bool):∃m,FD c m/\m.2.1∈RL/\(lo=false->qE s m=true)/\
 ∀(h:HI)(n:Nat),h[n]?=some (.lst (sC s c))->zF [.int cell,.ref n,.bl lo] h=some (QA m,h):=by
 have em1:=fun(h:HI)=>tT cell (f:=950706376) (p:=2147483399) (by decide) (by decide) (by decide) h
 have em2:=fun(h:HI)=>tT cell (f:=742938285) (p:=2147483647) (by decide) (by decide) (by decide) h
 generalize ((cell%1000000007+1)*950706376%2147483399).toNat=N at em1;generalize ((cell%1000000007+1)*742938285%2147483647).toNat=M at em2;obtain⟨i,j,hi,hj,hij,e1,e2'⟩:=Yg hc2 N 8;simp only[Int.cast_ofNat_Int]at e2';have mc:=fun(x:Int) (h:HI)=>oG (h:=h) (i:=x) (show(0:Int)<(c:Int) by omega)
 have mc1:=fun(x:Int) (h:HI)=>oG (h:=h) (i:=x) (show(0:Int)<(c:Int)-1 by omega)
 have m4:=fun(x:Int) (h:HI)=>oG (h:=h) (i:=x) (show(0:Int)<4 by decide)
 have m5:=fun(x:Int) (h:HI)=>oG (h:=h) (i:=x) (show(0:Int)<5 by decide)
 have d8:=fun(i:Int) (h:HI)=>OF (h:=h) (i:=i) (j:=8) ⟨by decide,by decide⟩
 have d5:=fun(i:Int) (h:HI)=>OF (h:=h) (i:=i) (j:=5) ⟨by decide,by decide⟩
 have d25:=fun(i:Int) (h:HI)=>OF (h:=h) (i:=i) (j:=25) ⟨by decide,by decide⟩
 have Lp:=fun(i:Int) (h:HI)=>OF (h:=h) (i:=i) (j:=125) ⟨by decide,by decide⟩
 have zb8:=fun(i:Int) (h:HI)=>OF (h:=h) (i:=i) (j:=625) ⟨by decide,by decide⟩
 have Xp:=fun(i:Int) (h:HI)=>OF (h:=h) (i:=i) (j:=2500) ⟨by decide,by decide⟩
 have Il:=fun(i:Int) (h:HI)=>OF (h:=h) (i:=i) (j:=12500) ⟨by decide,by decide⟩
 obtain⟨w,hw⟩:∃w,w=Gf (s i) (s j):=⟨_,rfl⟩
 have wl:w<13:=hw ▸ HE (ok i) (ok j);have pw:=WK (ok i) (ok j);rw[<- hw]at pw;have z1:=fun(h:HI)=>ZN (ok j) (s i).1 h
 have z2:=fun(h:HI)=>ZN (ok j) (s i).2 h
 have zz1:vB (s i).1 (s j).1 (s j).2=zA w:=by unfold zA;rw[pw]
 have zz2:vB (s i).2 (s j).1 (s j).2=zE w:=by unfold zE;rw[pw]
 rw[zz1]at z1;rw[zz2]at z2;obtain⟨w1,w2,_⟩:=JN w wl;have sz4:4<=sizeLine:=by decide
 obtain⟨b,hb⟩:∃b:Bool,b=(lo&&decide ((0:Int)<(M:Int)/625%4)):=⟨_,rfl⟩
 obtain⟨p,hp⟩:∃p:Nat,p=(if b=true then M/2500%5 else zA w):=⟨_,rfl⟩
 obtain⟨q,hq⟩:∃q:Nat,q=(if b=true then M/12500%5 else zE w):=⟨_,rfl⟩
 have p5:p<5:=by rw[hp];split;exact Nat.mod_lt _ (by decide);exact w1
 have q5:q<5:=by rw[hq];split;exact Nat.mod_lt _ (by decide);exact w2
 have k1:(M:Int)%5=((M%5:Nat):Int):=by omega
 have k2:(M:Int)/5%5=((M/5%5:Nat):Int):=by omega
 have k3:(M:Int)/25%5=((M/25%5:Nat):Int):=by omega
 have k4:(M:Int)/125%5=((M/125%5:Nat):Int):=by omega
 have k5:(M:Int)/2500%5=((M/2500%5:Nat):Int):=by omega
 have k6:(M:Int)/12500%5=((M/12500%5:Nat):Int):=by omega
 have r1:M%5<5:=Nat.mod_lt _ (by decide);have r2:M/5%5<5:=Nat.mod_lt _ (by decide);have r3:M/25%5<5:=Nat.mod_lt _ (by decide);have r4:M/125%5<5:=Nat.mod_lt _ (by decide);generalize M%5=t1 at k1 r1;generalize M/5%5=t2 at k2 r2;generalize M/25%5=t3 at k3 r3;generalize M/125%5=t4 at k4 r4;have mn:∀a b:Nat,min (a:Int) (b:Int)=((min a b:Nat):Int):=fun a b=>by omega
 have mx:∀a b:Nat,max (a:Int) (b:Int)=((max a b:Nat):Int):=fun a b=>by omega
 have bx:=fun(h:HI)=>ig (min p t1) (max p t2) (min q t3) (max q t4) h
 have rb:=Bv (min p t1) (by omega) (max p t2) (by omega) (min q t3) (by omega) (max q t4) (by omega);have bb:=Qx (min p t1) (by omega) (max p t2) (by omega) (min q t3) (by omega) (max q t4) (by omega);have inb:lo=false->(qm (min p t1) (max p t2) (min q t3) (max q t4)).testBit w=true:=by
  intro hl;have b0:b=false:=by rw[hb,hl];rfl
  have p0:p=zA w:=by rw[hp,b0];rfl
  have q0:q=zE w:=by rw[hq,b0];rfl
  rw[<- bb,BY _ wl];unfold wL;rw[decide_eq_true (show min p t1<=zA w by omega),decide_eq_true (show zA w<=max p t2 by omega),decide_eq_true (show min q t3<=zE w by omega),decide_eq_true (show zE w<=max q t4 by omega)];rfl
 generalize qm (min p t1) (max p t2) (min q t3) (max q t4)=B at bx rb inb;have sh:=fun(h:HI)=>vO (h:=h) (xL wl)
 have pw2:(1:Int)*2^((w:Int)).toNat=((2^w:Nat):Int):=by simp
 have eb:=fun(h:HI)=>iW (ok i) (ok j) h
 rw[<- hw]at eb;have pi:(sC s c)[i]?=some (gD (s i)):=dX hi;have pj:(sC s c)[j]?=some (gD (s j)):=dX hj;have sl:(sC s c).length=c:=by simp[sC]
 have x0:∀(o:Int×Int)(k:HI),pA (gD o) (.int 0) k=some (.int o.1,k):=fun _ _=>rfl
 have x1:∀(o:Int×Int)(k:HI),pA (gD o) (.int 1) k=some (.int o.2,k):=fun _ _=>rfl
 have run:∀(m:Nat),m=(if B=0 then 2^w else B)->∀(h:HI)(n:Nat),h[n]?=some (.lst (sC s c))->zF [.int cell,.ref n,.bl lo] h=some (QA (i,m,j),h):=by
  intro m hm h n hn;have ixn:=fun(z:Int)=>kF hn z
  have ln:=xJ hn;rw[sl]at ln;have cond:∀l:LI,l[2]?=some (some (.bl lo))->l[4]?=some (some (.int (M:Nat)))->HJ (Wf (eV 2)) (Wf (e2 rL (e2 iD (e2 eE (eV 4) (eC (.int 625))) (eC (.int 4))) (eC (.int 0)))) l h=some (b,h):=by intro l h2 h4;rw[hb];cases lo<;>simp only[Pg,jB,rA,h2,sA,nA,uB,FA,JA,h4,zb8,m4,KL,if_true,zdV,if_false,Bool.true_and,Bool.false_and]
  have zB:decide ((B:Int)=0)=decide (B=0):=by
   by_cases z:B=0
   · rw[decide_eq_true z,decide_eq_true (by omega)]
   · rw[decide_eq_false z,decide_eq_false (by omega)]
  have body:zF [.int cell,.ref n,.bl lo] h=some (.tup [.str "ways", .int (i:Nat),.int (m:Nat),.int (j:Nat)],h):=by
   by_cases bt:b=true
   · rw[if_pos bt]at hp hq;rw[<- hp]at k5;rw[<- hq]at k6;rw[bt]at cond;by_cases z:B=0
     · rw[if_pos z]at hm;subst hm;simp only[zF,WI,xB,zdF,zdG,if_true,zdH,zdI,Nat.reduceAdd,Nat.reduceSub,List.replicate,zdO,zdN,zdU,XA,mB,FA,rA,JA,yC,NI,eB,WA,MA,zdD,zdE,sA,nA,ln,zdK,zdJ,YA,em1,mc,e1,tE,tI,d8,mc1,e2',ixn,SM.OC,pi,pj,zdL,x0,x1,z1,z2,em2,OB,cond,Xp,m5,k5,Il,k6,k1,eO,mn,d5,k2,dO,mx,d25,k3,Lp,k4,bx,jB,YF,zB,decide_eq_true z,uB,eb,sh,pw2,EB,pE,sz4,KB]
     · rw[if_neg z]at hm;subst hm;simp only[zF,WI,xB,zdF,zdG,if_true,zdH,zdI,Nat.reduceAdd,Nat.reduceSub,List.replicate,zdO,zdN,zdU,XA,mB,FA,rA,JA,yC,NI,eB,WA,MA,zdD,zdE,sA,nA,ln,zdK,zdJ,YA,em1,mc,e1,tE,tI,d8,mc1,e2',ixn,SM.OC,pi,pj,zdL,x0,x1,z1,z2,em2,OB,cond,Xp,m5,k5,Il,k6,k1,eO,mn,d5,k2,dO,mx,d25,k3,Lp,k4,bx,jB,YF,zB,decide_eq_false z,uB,zdV,if_false,YC,EB,pE,sz4,KB]
   · rw[if_neg bt]at hp hq;rw[<- hp]at z1;rw[<- hq]at z2;rw[Bool.eq_false_iff.mpr bt]at cond;by_cases z:B=0
     · rw[if_pos z]at hm;subst hm;simp only[zF,WI,xB,zdF,zdG,if_true,zdH,zdI,Nat.reduceAdd,Nat.reduceSub,List.replicate,zdO,zdN,zdU,XA,mB,FA,rA,JA,yC,NI,eB,WA,MA,zdD,zdE,sA,nA,ln,zdK,zdJ,YA,em1,mc,e1,tE,tI,d8,mc1,e2',ixn,SM.OC,pi,pj,zdL,x0,x1,z1,z2,em2,OB,cond,zdV,if_false,YC,m5,k1,eO,mn,d5,k2,dO,mx,d25,k3,Lp,k4,bx,jB,YF,zB,decide_eq_true z,uB,eb,sh,pw2,EB,pE,sz4,KB]
     · rw[if_neg z]at hm;subst hm;simp only[zF,WI,xB,zdF,zdG,if_true,zdH,zdI,Nat.reduceAdd,Nat.reduceSub,List.replicate,zdO,zdN,zdU,XA,mB,FA,rA,JA,yC,NI,eB,WA,MA,zdD,zdE,sA,nA,ln,zdK,zdJ,YA,em1,mc,e1,tE,tI,d8,mc1,e2',ixn,SM.OC,pi,pj,zdL,x0,x1,z1,z2,em2,OB,cond,zdV,if_false,YC,m5,k1,eO,mn,d5,k2,dO,mx,d25,k3,Lp,k4,bx,jB,YF,zB,decide_eq_false z,uB,EB,pE,sz4,KB]
  exact body
 by_cases z:B=0
 · refine⟨(i,2^w,j),⟨hi,hj,hij,A1 wl⟩,tY w wl,fun _=>?_,run (2^w) (if_pos z).symm⟩;unfold qE;rw[<- hw,Nat.testBit_two_pow];simp
 · have hB:=rb.resolve_left z;refine⟨(i,B,j),⟨hi,hj,hij,(jZ B hB).2⟩,hB,fun hl=>?_,run B (if_neg z).symm⟩;unfold qE;rw[<- hw];exact inb hl
theorem FM{c:Nat}:∀(fs:List Fact)(f:OA),(∀x∈fs,gG c x)->(∀i<c,f i i=64)->∀i<c,fD f fs i i=64
 | [],f,_,q=>q
 | x::fs,f,h,q=>by
  have h':∀y∈fs,gG c y:=fun y hy=>h y (by simp[hy])
  cases x with
  | ways m=>obtain⟨a,b,d,e⟩:FD c m:=h (.ways m) (by simp);exact FM fs _ h' (wN q d _)
  | long y=>exact FM fs _ h' q
  | one g=>exact FM fs _ h' q
theorem f7(x a b d:Int):vB (x-d) (a-d) (b-d)=vB x a b:=by have a1:(x-d<a-d)=(x<a):=propext ⟨fun h=>by omega,fun h=>by omega⟩;have a2:(x-d=a-d)=(x=a):=propext ⟨fun h=>by omega,fun h=>by omega⟩;have a3:(x-d<b-d)=(x<b):=propext ⟨fun h=>by omega,fun h=>by omega⟩;have a4:(x-d=b-d)=(x=b):=propext ⟨fun h=>by omega,fun h=>by omega⟩;unfold vB;simp only[a1,a2,a3,a4]
theorem U9(t:Nat->Int)(n i j:Nat):Gf (dC (iC n t) i) (dC (iC n t) j)=Gf (dC t i) (dC t j):=by unfold Gf dC iC;simp only[f7]
theorem uN{c:Nat}{s:Nat->Int×Int}(ok:∀i,i<c->UC (s i)):∀(fs:List Fact)(_:∀x∈fs,gG c x)(f:OA),VA c f->Jd c (fD f fs) s->Jd c f s/\∀m,Fact.ways m∈fs->qE s m=true
 | [],_,f,_,q=>⟨q,fun m hm=>by cases hm⟩
 | x::fs,h,f,o,q=>by
  have h':∀y∈fs,gG c y:=fun y hy=>h y (by simp[hy])
  cases x with
  | ways m=>
   obtain⟨a,b,d,e⟩:FD c m:=h (.ways m) (by simp);obtain⟨q1,H⟩:=uN ok fs h' (fB f m.1 m.2.1 m.2.2) (KG o a b d _) q;obtain⟨q2,hb⟩:=q1.Cm ok a b d o;refine⟨q2,fun y hy=>?_⟩;rcases mem_cons.mp hy with z | z
   · cases z;exact hb
   · exact H y z
  | long y=>obtain⟨q1,H⟩:=uN ok fs h' f o q;exact⟨q1,fun y hy=>(mem_cons.mp hy).elim (fun z=>by cases z) (H y)⟩
  | one g=>obtain⟨q1,H⟩:=uN ok fs h' f o q;exact⟨q1,fun y hy=>(mem_cons.mp hy).elim (fun z=>by cases z) (H y)⟩
theorem N9(t:Nat->Int)(n:Nat)(m:XB):qE (dC (iC n t)) m=qE (dC t) m:=by unfold qE;rw[U9]
theorem sX{c k:Nat}(u:Nat->Int)(hk:k<c):(ND c u)[k]?=some (gD (dC u k)):=by simp[ND,hk,gD,dC]
theorem gj{c:Nat}{t:Nat->Int}(n:Nat)(ok:∀i,i<c->UC (dC t i)):∀i,i<c->UC (dC (iC n t) i):=fun i hi=>by have:t (2*i)<t (2*i+1):=ok i hi;show iC n t (2*i)<iC n t (2*i+1);unfold iC;omega
theorem C6{c:Nat}{u:Nat->Int}(ok:∀i,i<c->UC (dC u i)){m:XB}(hm:FD c m)(km:qE (dC u) m=true)(x1 x2 x3:Option Dt)(h:HI):dM [some (.lst (ND c u)),x1,x2,x3,some (QA m)] h=some (.nx [some (.lst (ND c u)),x1,x2,x3,some (QA m)] h):=by
 obtain⟨a,b,d,e⟩:=hm;have p1:=sX u a;have p2:=sX u b;have ew:=fun h=>iW (ok _ a) (ok _ b) h
 have bt:=Y9 m.2.1 (Gf (dC u m.1) (dC u m.2.2));have km':m.2.1.testBit (Gf (dC u m.1) (dC u m.2.2))=true:=km;rw[km']at bt;have m1:∀k:HI,pA (QA m) (.int 1) k=some (.int (m.1:Nat),k):=fun _=>rfl
 have m2:∀k:HI,pA (QA m) (.int 2) k=some (.int (m.2.1:Nat),k):=fun _=>rfl
 have m3:∀k:HI,pA (QA m) (.int 3) k=some (.int (m.2.2:Nat),k):=fun _=>rfl
 have sr:=fun(h:HI)=>qZ (h:=h) (i:=(m.2.1:Int)) (show(0:Int)<=((Gf (dC u m.1) (dC u m.2.2):Nat):Int) by omega)
 simp only[dM,OB,jB,FA,rA,JA,zdD,zdE,sA,nA,m2,eB,WA,MA,m1,m3,dL,SM.OC,p1,p2,zdL,zdU,ew,sr,Int.toNat_natCast,WN,YF,bt,Bool.not_true,uB,zdV,if_false,YC]
theorem B6{u:Nat->Int}{k:Nat}(o:u (2*k)<u (2*k+1))(nn:0<=u (2*k))(x0 x1 x2 x4:Option Dt)(h:HI):gK [x0,x1,x2,some (.tup [.int (u (2*k)),.int (u (2*k+1))]),x4] h=some (.nx [x0,x1,x2,some (.tup [.int (u (2*k)),.int (u (2*k+1))]),x4] h):=by
 have d2:decide (((2:Nat):Int)=2)=true:=rfl;have dg:decide (u (2*k+1)<=u (2*k))=false:=decide_eq_false (by omega);have dn:decide (u (2*k)<0)=false:=decide_eq_false (by omega);have t1:∀xs,rG h (.tup xs)=some "tuple" :=fun _=>rfl
 have t3:DL "tuple" "tuple" =true:=by decide
 simp only[gK,XA,OB,zO,kO,jB,yO,FA,rA,JA,yC,zdD,zdE,sA,nA,t1,t3,zdL,uB,Bool.not_true,zdV,if_false,MS,zdF,zdG,Nat.reduceAdd,Int.cast_ofNat_Int,JI,decide_true,eB,WA,MA,HB,RB,OD,zdU,pS,YC,YA,A0,dn,JL,dg]
theorem jq{n:Nat}(t:Nat->Int){i:Nat}(hi:i<n):0<=iC n t i:=by obtain⟨m1,m2⟩:=S8 (n:=n) (by omega) t;have:=(XH _ m1).2 (iC n t i) (mem_map_of_mem (mem_range.mpr hi));omega
theorem Gq{c:Nat}{u:Nat->Int}(ok:∀i,i<c->UC (dC u i))(nn:∀i,i<2*c->0<=u i)(fd:Dt)(h:HI):∃y,wC (CA 3) gK (ND c u) [some (.lst (ND c u)),some fd,some (.int (c:Nat)),none,none] h=some (.nx [some (.lst (ND c u)),some fd,some (.int (c:Nat)),y,none] h):=by
 obtain⟨l',h',e,⟨y,rfl⟩,hh⟩:=OW (i:=3) (body:=gK) (fun k:Nat=>Dt.tup [.int (u (2*k)),.int (u (2*k+1))]) (fun l h'=>(∃y,l=[some (.lst (ND c u)),some fd,some (.int (c:Nat)),y,none])/\h'=h) (List.range c) (by
  rintro k hk l h' ⟨⟨y,rfl⟩,rfl⟩;have hk:=mem_range.mp hk;exact⟨_,B6 (ok k hk) (nn _ (by omega)) _ _ _ _ _,⟨_,rfl⟩,rfl⟩) [some (.lst (ND c u)),some fd,some (.int (c:Nat)),none,none] h ⟨⟨_,rfl⟩,rfl⟩
 rw[hh]at e;exact⟨y,e⟩
theorem Dz{c:Nat}{u:Nat->Int}(ok:∀i,i<c->UC (dC u i))(nn:∀i,i<2*c->0<=u i){ms:List XB}(hm:∀m∈ms,FD c m/\qE (dC u) m=true)(h:HI):uM [.lst (ND c u),.lst (ms.map QA),.int (c:Nat)] h=some (.bl true,h):=by
 obtain⟨y,e0⟩:=Gq ok nn (.lst (ms.map QA)) h;obtain⟨l',h',e,⟨z,rfl⟩,hh⟩:=OW (i:=4) (body:=dM) QA (fun l h'=>(∃z,l=[some (.lst (ND c u)),some (.lst (ms.map QA)),some (.int (c:Nat)),y,z])/\h'=h) ms (by
  rintro m hmm l h' ⟨⟨z,rfl⟩,rfl⟩;exact⟨_,C6 ok (hm m hmm).1 (hm m hmm).2 _ _ _ _,⟨_,rfl⟩,rfl⟩) [some (.lst (ND c u)),some (.lst (ms.map QA)),some (.int (c:Nat)),y,none] h ⟨⟨_,rfl⟩,rfl⟩
 rw[hh]at e;have pl:(ND c u).length=c:=by simp[ND]
 have t2:∀xs,rG h (.lst xs)=some "list" :=fun _=>rfl
 have t4:DL "list" "list" =true:=by decide
 simp only[uM,qQ,xB,zdF,zdG,if_true,zdH,zdI,Nat.reduceAdd,Nat.reduceSub,List.replicate,zdO,zdN,XA,OB,zO,kO,jB,yO,FA,rA,JA,yC,zdD,zdE,sA,nA,t2,t4,zdL,uB,Bool.not_true,zdV,if_false,LS,pl,JI,decide_true,YC,YA,YD,LD,EG,EF,e0,e,EB,KB]
theorem b7{h:HI}{c:Nat}(hc:c<=100){f:Nat->Nat->Nat}(of:VA c f){bn:Nat}(N:bf h bn c f):∃x s h' st g,aN [.ref (bn+c)] h=some (.tup [x,.ref s],h')/\gb h h'/\Steps c f st g/\((x=.non/\VB c g=true)\/∃b,x=.ref (b+c)/\bf h' b c g/\gF c g/\VB c g=false):=by
 have ep:=RM (show c<=1000 by omega) h;have hl:=eJ c c;have hcc:c*c<=100*100:=Nat.mul_le_mul hc hc;obtain⟨d,h',e,x,s,st,g,rfl,r1,r2,r3,r4,r5,r6,r7⟩:=WP hc of (N.grow [.lst ((AA c).map qA)]) (pd:=.ref h.length) (P:=AA c) (fun z=>by simp[JD,JB]) (fun p hp=>by
  obtain⟨q1,q2⟩:=Jf.mp hp;omega) (LR c f) (by unfold AA;omega)
 refine⟨x,s,h',st,g,?_,⟨by simp at r2;omega,fun n xs hn=>?_⟩,r5,?_⟩
 · simp only[aN,rR,xB,EB,eB,WA,MA,yC,rA,zdH,zdI,zdO,zdN,zdF,zdG,if_true,zdD,sA,nA,N.len,zdU,ep,e,KB,Nat.reduceAdd]
 · have hn':n<h.length:=(zdP hn).1;rw[r3 n (by simp;omega),zdQ hn'];exact hn
 · rcases r7 with r7 | ⟨b,q1,q2,q3,q4,q5,q6⟩
   · exact .inl r7
   · exact .inr ⟨b,q1,q3,q4,q5⟩
theorem oY(h:HI):∀ms:List XB,Hf h (ms.map QA) (ms.map Fact.ways)
 | []=>.nil
 | m::ms=>.cons rfl (oY h ms)
theorem mR:∀ms:List XB,UD (ms.map Fact.ways)=[]
 | []=>rfl
 | _::ms=>mR ms
theorem NR:∀ms:List XB,jG (ms.map Fact.ways)=[]
 | []=>rfl
 | _::ms=>NR ms
theorem e7{c:Nat}{ms:List XB}(ok:∀m∈ms,FD c m)(hl:ms.length<=100){h:HI}{a:Nat}(ha:h[a]?=some (.lst (ms.map QA))):MT c h a (ms.map Fact.ways):=
 ⟨⟨_,ha,oY h ms⟩,(fun x hx=>by obtain⟨m,hm,rfl⟩:=mem_map.mp hx;exact ok m hm),(fun x hx=>by rw[NR]at hx;exact absurd hx (by simp)),by simpa using hl⟩
theorem V9(c:Nat):Kd c PB:=fun i _ j _ hij=>by
 have:PB i j=8191:=by simp[PB,hij]
 rw[this];exact .inr (by decide)
theorem uV{c:Nat}:∀(ms:List XB)(f:OA),Kd c f->(∀m∈ms,FD c m/\m.2.1∈RL)->Kd c (fD f (ms.map Fact.ways))
 | [],_,q,_=>q
 | m::ms,f,q,h=>by obtain⟨⟨a,b,d,_⟩,t⟩:=h m (by simp);exact uV ms _ (q.nar a b d fun z=>YS _ z _ t) fun x hx=>h x (by simp[hx])
theorem O9{c:Nat}(hc:2<=c){f g:OA}{st:List (Nat×Nat×Nat)}(of:VA c f)(tz:Kd c f)(s:Steps c f st g)(cl:gF c g)(ne:VB c g=false):∃p:Nat->Int×Int,(∀i,i<c->UC (p i))/\Jd c f p:=by have og:=s.ok of;have tg:=(Kd.steps s tz).tame ne;obtain⟨w,hw,hb⟩:=CY (og.lt 0 (by omega) 1 (by omega)) (Mf ne (by omega) (by omega));obtain⟨p,ok,q,_⟩:=JW og cl tg (by omega) (by omega) (by decide) hw hb;exact⟨p,ok,q.sub (s.sub of)⟩
def AO(a b c d:Int)(w:Nat):Bool:=(decide (a<=((pz w).1:Int))&&decide (((pz w).1:Int)<=b))&&(decide (c<=((pz w).2:Int))&&decide (((pz w).2:Int)<=d))
def YT(a b c d:Int):Nat:=mk (AO a b c d)
theorem X5(a b c d:Int)(h:HI):vM [.tup [.int a,.int b],.tup [.int c,.int d]] h=some (.int (YT a b c d),h):=by
 have ec:=sN (te:=jQ) (tc:=lQ) (i:=0) (fun(k:Nat)=>Dt.int (k:Int)) (AO a b c d) (fun(k:Nat)=>Dt.int (k:Int)) h (List.range 13) [none,some (.tup [.int a,.int b]),some (.tup [.int c,.int d])] fun k hk=>⟨by
  have ez:=ON (mem_range.mp hk) h;simp[lQ,ez,pr,AO];by_cases h1:a<=((pz k).1:Int)<;>by_cases h2:((pz k).1:Int)<=b<;>by_cases h3:c<=((pz k).2:Int)<;>simp[h1,h2,h3],fun _=>by simp[jQ]⟩
 have es:=FW ((List.range 13).filter (AO a b c d)) (fun k hk=>mem_range.mp (mem_filter.mp hk).1) (Nat.le_trans (length_filter_le _ _) (by simp)) h;rw[Ug]at es;simp[vM,tQ,B0,fF _ _ _ (Ih _),ec,es,YT]
def qJ(m:Nat):List Int:=(BA m).map fun w=>((pz w).1:Int)
def FJ(m:Nat):List Int:=(BA m).map fun w=>((pz w).2:Int)
def cL(m:Nat):Nat:=YT (QB (qJ m)) (CC (qJ m)) (QB (FJ m)) (CC (FJ m))
theorem Az{m:Nat}(hm:m<8192)(h0:m≠0)(h:HI):fO [.int m] h=some (.int (cL m),h):=by
 have hn:=RK hm h0;have hs:((BA m).map fun(k:Nat)=>Dt.int (k:Int)).length<sizeLine:=by rw[length_map];exact Nat.lt_of_le_of_lt (fJ m) (by decide)
 have e1:=ZF (te:=AR) (tc:=DB) (i:=0) (fun(k:Nat)=>Dt.int (k:Int)) (fun(k:Nat)=>Dt.int ((pz k).1:Int)) h (BA m) [none] fun k hk=>⟨rfl,by
  simp[AR,ON (Kf.mp hk).1,pr]⟩
 have e2:=ZF (te:=BR) (tc:=DB) (i:=0) (fun(k:Nat)=>Dt.int (k:Int)) (fun(k:Nat)=>Dt.int ((pz k).2:Int)) h (BA m) [none] fun k hk=>⟨rfl,by
  simp[BR,ON (Kf.mp hk).1,pr]⟩
 have s1:(BA m).map (fun(k:Nat)=>Dt.int ((pz k).1:Int))=(qJ m).map Dt.int:=by unfold qJ;rw[map_map];rfl
 have s2:(BA m).map (fun(k:Nat)=>Dt.int ((pz k).2:Int))=(FJ m).map Dt.int:=by unfold FJ;rw[map_map];rfl
 rw[s1]at e1;rw[s2]at e2;have n1:qJ m ≠ []:=by unfold qJ;simpa using hn
 have n2:FJ m ≠ []:=by unfold FJ;simpa using hn
 simp[fO,QS,bJ,fF _ _ _ hs,e1,e2,AT n1,zT n1,AT n2,zT n2,X5,cL]
theorem Fz{m:Nat}(hm:m<8192)(h:HI):gO [.int m] h=some (.bl (decide (m≠0)&&decide (cL m=m)),h):=by
 by_cases h0:m=0
 · subst h0
   kernel_rfl
 · have p:(0:Int)<(m:Int):=by omega
   have q:(m:Int)<=8191:=by omega
   simp[gO,SS,p,q,Az hm h0,uI,h0];by_cases e:cL m=m
   · simp[e,h0]
   · simp[e];omega
theorem Lx:∀m∈RL,m≠0/\m<8192/\cL m=m:=by decide +kernel
theorem n9(ns:List Int)(lo hi:Option Int):∃ms:List Int,vG (ns.map Dt.int) lo hi=ms.map Dt.int/\ms.length<=ns.length:=by unfold SM.vG;rw[<- map_drop,<- map_take];refine⟨_,rfl,?_⟩;rw[length_take,length_drop];omega
theorem tV:∀(ms:List XB)(f:OA),fD f (ms.map Fact.ways)=ms.foldl (fun f m=>fB f m.1 m.2.1 m.2.2) f
 | [],_=>rfl
 | _::ms,_=>tV ms _
theorem lT(m:XB)(k:HI):pA (QA m) (.int 1) k=some (.int (m.1:Nat),k)/\pA (QA m) (.int 2) k=some (.int (m.2.1:Nat),k)/\pA (QA m) (.int 3) k=some (.int (m.2.2:Nat),k):=⟨rfl,rfl,rfl⟩
theorem dz{c:Nat}(hc2:2<=c)(hc:c<=100){s:Nat->Int×Int}(ok:∀i,UC (s i))(lo:Bool){te:RE}{l:LI}(xs:List Int)(hx:xs.length<=63){h:HI}{n:Nat}(hte:∀x:Int,te (l.set 0 (some (.int x))) h=zF [.int x,.ref n,.bl lo] h)(hn:h[n]?=some (.lst (sC s c))) :
 ∃ms:List XB,ms.length=xs.length/\(∀m∈ms,FD c m/\m.2.1∈RL/\(lo=false->qE s m=true))/\sE (CA 0) DB te l (.vals (xs.map Dt.int),h)=some (ms.map QA,h):=by
 let fm:Int->XB:=fun x=>(qY hc2 hc ok x lo).choose
 have hf:∀x,FD c (fm x)/\(fm x).2.1∈RL/\(lo=false->qE s (fm x)=true)/\∀(h:HI)(n:Nat),h[n]?=some (.lst (sC s c))->zF [.int x,.ref n,.bl lo] h=some (QA (fm x),h):=fun x=>(qY hc2 hc ok x lo).choose_spec
 refine⟨xs.map fm,by simp,fun m hm=>?_,?_⟩
 · obtain⟨x,_,rfl⟩:=mem_map.mp hm;exact⟨(hf x).1,(hf x).2.1,(hf x).2.2.1⟩
 · have ca:=ZF (te:=te) (i:=0) (tc:=DB) Dt.int (fun x=>QA (fm x)) h xs l (by
    intro x _;exact⟨rfl,(hte x).trans ((hf x).2.2.2 h n hn)⟩)
   rw[fF _ _ _ (by simp[sizeLine];omega),ca,map_map];rfl
noncomputable def EU:Dt->Dt
 | .tup [_,y]=>y
 | _=>.non
theorem law_true(ns:List Int)(hl:ns.length<=63):∃h',lI [.lst (ns.map Dt.int)] []=some (.bl true,h'):=by
 have c0:=fun h=>OS ns 0 h
 simp only[Int.cast_ofNat_Int]at c0;have m3:=fun(x:Int) (h:HI)=>oG (h:=h) (i:=x) (show(0:Int)<3 by decide)
 have d20:=fun(i:Int) (h:HI)=>OF (h:=h) (i:=i) (j:=20) ⟨by decide,by decide⟩
 have d2:=fun(i:Int) (h:HI)=>OF (h:=h) (i:=i) (j:=2) ⟨by decide,by decide⟩
 obtain⟨c,hcc,hc2,hc4⟩:∃c:Nat,2+ns[0]?.getD (0:Int)%3=(c:Int)/\2<=c/\c<=4:=⟨(2+ns[0]?.getD (0:Int)%3).toNat,by omega,by omega,by omega⟩
 obtain⟨m,hm,mp,m6⟩:∃m:Nat,(c:Int)*((c:Int)-1)/2=(m:Int)/\(AA c).length<=m/\m<=6:=by
  rcases(show c=2\/c=3\/c=4 by omega)with rfl | rfl | rfl
  · exact⟨1,by decide,by decide,by decide⟩
  · exact⟨3,by decide,by decide,by decide⟩
  · exact⟨6,by decide,by decide,by decide⟩
 have um:=fun(h:HI)=>PF (h:=h) (i:=(c:Int)) (j:=(c:Int)-1) (Or.inl ⟨by omega,by omega⟩)
 obtain⟨L,hL,es⟩:=Y5 ns (show c<=8 by omega) [];have ok:∀i,UC (aH ns L i):=fun i=>Sg ns hL i
 generalize aH ns L=s at es ok;obtain⟨lo,hlo⟩:∃lo:Bool,decide (ns[0]?.getD (0:Int)/20%3=0)=lo:=⟨_,rfl⟩
 obtain⟨xs,cx,lx⟩:=n9 ns (some 9) (some 29);obtain⟨ms,lm,hms,eC'⟩:=dz hc2 (show c<=100 by omega) ok lo (te:=LN) (l:=[none,some (.ref 0),some (.bl lo)]) xs (by omega) (h:=[.lst (sC s c)]) (n:=0) (fun x=>by simp only[LN,eB,WA,MA,rA,zdJ,zdD,zdE,sA,nA,zdU]) rfl;have mok:∀x∈ms,FD c x:=fun x hx=>(hms x hx).1
 have fok:∀x∈ms.map Fact.ways,gG c x:=fun x hx=>by obtain⟨y,hy,rfl⟩:=mem_map.mp hx;exact mok y hy
 have ew:=rY (show c<=1000 by omega) [Ob.lst (sC s c)];obtain⟨l1,h1,e1,⟨b,y,rfl,N1⟩⟩:=VM (i:=6) (body:=HK) QA (fun(f:OA) l h=>∃b y,l=[some (.lst (ns.map Dt.int)),some (.int (c:Nat)),some (.ref 0),some (.bl lo),some (.lst (ms.map QA)),some (.ref (b+c)),y,none,none,none]/\bf h b c f) (fun f m=>fB f m.1 m.2.1 m.2.2) ms (by
  rintro x hx f l h ⟨b,y,rfl,N⟩;obtain⟨⟨a1,a2,a3,a4⟩,t,_⟩:=hms x hx;obtain⟨t1,t2,t3⟩:=Lx _ t;have et:=fun h=>Fz t2 h
  simp only[t3,decide_true,Bool.and_true,decide_eq_true (show x.2.1≠0 from t1)]at et;have en:=xK N (show c<=1000 by omega) a1 a2 x.2.1;have i1:=fun k=>(lT x k).1
  have i2:=fun k=>(lT x k).2.1
  have i3:=fun k=>(lT x k).2.2
  have nb:∀h:HI,uO (.bl true) (.bl true) h=some (.bl false,h):=fun _=>rfl
  refine⟨.nx [some (.lst (ns.map Dt.int)),some (.int (c:Nat)),some (.ref 0),some (.bl lo),some (.lst (ms.map QA)),some (.ref (h.length+c)),some (QA x),none,none,none] (h++MC h.length c (fB f x.1 x.2.1 x.2.2)),?_,h.length,_,rfl,CF h c _⟩;simp only[HK,XA,OB,jB,FA,eB,WA,MA,rA,JA,zdK,zdJ,zdD,zdE,sA,nA,i1,i2,i3,zdU,et,nb,uB,zdV,if_false,YC,YA,mB,en]) PB [some (.lst (ns.map Dt.int)),some (.int (c:Nat)),some (.ref 0),some (.bl lo),some (.lst (ms.map QA)),some (.ref (1+c)),none,none,none,none] ([.lst (sC s c)]++MC 1 c PB) ⟨1,none,rfl,CF [Ob.lst (sC s c)] c PB⟩
 rw[<- tV]at N1;have nok:=yK _ fok _ (JS c);have dg:=FM _ PB fok (fun i _=>by simp[PB]) (c:=c);have tz:=uV ms PB (V9 c) fun x hx=>⟨mok x hx,(hms x hx).2.1⟩
 obtain⟨x,sr,h2,st,g,er,U2,ST,r7⟩:=b7 (show c<=100 by omega) nok N1;have FT:MT c (h2++[.lst (ms.map QA)]) h2.length (ms.map Fact.ways):=e7 mok (by omega) (by simp);have ex:=D6 (m:=m) (show 1<=c by omega) (show c<=8 by omega) (show(UD (ms.map Fact.ways)).length<=100 by rw[mR];simp) (zK _ fok) 12 (fD PB (ms.map Fact.ways)) (jG (ms.map Fact.ways)) 0 nok (PK _ fok) (by omega) (by omega);obtain⟨A,sp,x',h3,LK,ep,AN,U3⟩:=Z6 (show 1<=c by omega) (show c<=8 by omega) FT ex;obtain⟨_,l2,_⟩:=RN 12 _ _ 0 _ _ LK;have l2:=l2 (by omega);have LK':zC c m [] 12 (fD PB (ms.map Fact.ways)) [] 0 A sp:=by have z:=LK;unfold NT at z;rw[mR,NR]at z;exact z
 have t1:∀(h:HI) xs,rG h (.tup xs)=some "tuple" :=fun _ _=>rfl
 have t3:DL "tuple" "tuple" =true:=by decide
 have x2:∀a b d:Dt,Ac [a,b,d] 2=some d:=fun _ _ _=>rfl
 have sl:=A9 (h:=h2) (ms.map QA);have lmz:(List.map QA ms).length<sizeLine:=by simp[sizeLine];omega
 have e1':wC (CA 6) HK (ms.map QA) [some (.lst (ns.map Dt.int)),some (.int (c:Nat)),some (.ref 0),some (.bl lo),some (.lst (ms.map QA)),some (.ref (1+c)),none,none,none,none] (Ob.lst (sC s c)::MC 1 c PB)=_:=e1;rcases r7 with⟨rfl,em⟩ | ⟨bg,rfl,Ng,cl,ne⟩
 · obtain⟨hA,hs0⟩:(∃st',A=.clash (.Gb st'))/\sp=0:=by
    rcases LK' with⟨st',g',_,_,rfl,rfl⟩ | ⟨st',g',EN,_⟩
    · exact⟨⟨_,rfl⟩,rfl⟩
    · have:=EN.Mf nok ST;rw[em]at this;cases this
   obtain⟨st',rfl⟩:=hA;subst hs0;obtain⟨x0,ex0,s1,hx0,_⟩:=AN;have hx:x'=x0:=congrArg EU ex0;rw[hx,hx0]at ep;have cc:decide ((("clash" :Str))=(("clash" :Str)))=true:=decide_eq_true rfl;have tt:decide ((("threes" :Str))=(("threes" :Str)))=true:=decide_eq_true rfl;have d0:decide ((0:Int)=0)=true:=rfl;refine⟨h3,?_⟩;simp only[lI,jL,xB,zdF,zdG,if_true,zdH,zdI,Nat.reduceAdd,Nat.reduceSub,List.replicate,zdO,zdN,XA,mB,FA,JA,rA,eB,WA,MA,zdK,zdJ,zdD,zdE,sA,nA,zdU,c0,m3,tE,hcc,YA,es,d20,YF,hlo,GG,LD,VY,YY,eY,cX,zdL,cx,EG,nF,jJ,rF,Option.join_some,eC',ew,YD,EF,e1',er,HB,RB,tI,um,d2,hm,yC,sl,ep,OB,zO,kO,jB,yO,t1,t3,uB,Bool.not_true,zdV,if_false,MS,Int.cast_ofNat_Int,JI,decide_true,x2,pS,YC,OG,GI,EB,yY,Gn.wd,KU,ME,cc,MW,OD,tt,d0,iF,KB]
 · obtain⟨p,pok,pin⟩:=O9 hc2 nok tz ST cl ne;have lcm:0+lc c (fD PB (ms.map Fact.ways))<=m:=by have:lc c (fD PB (ms.map Fact.ways))<=(AA c).length:=countP_le_length;omega
   have hw:=CV 12 _ 0 A sp LK' nok dg tz ⟨p,pok,pin⟩ lcm;cases A with
   | Dm=>cases hw
   | clash tr=>cases hw
   | laid t=>
    have hx:x'=.lst (ND c (iC (2*c) t)):=congrArg EU AN;rw[hx]at ep;have K:=BV 12 _ _ 0 t sp LK' nok (fun z hz=>absurd hz (by simp));obtain⟨_,H⟩:=uN K.ok _ fok PB (JS c) K.net;have el:=fun h=>Dz (gj (2*c) K.ok) (fun i hi=>jq t hi) (ms:=ms) (fun y hy=>⟨mok y hy,by rw[N9];exact H y (mem_map_of_mem hy)⟩) h
    have ll:decide ((("laid" :Str))=(("laid" :Str)))=true:=decide_eq_true rfl;have n1:NF (.ref (bg+c))=false:=rfl;have g1:decide ((0:Int)<=((sp:Nat):Int))=true:=decide_eq_true (by omega);have g2:decide (((sp:Nat):Int)<=((m:Nat):Int))=true:=decide_eq_true (by omega);refine⟨h3,?_⟩;simp only[lI,jL,xB,zdF,zdG,if_true,zdH,zdI,Nat.reduceAdd,Nat.reduceSub,List.replicate,zdO,zdN,XA,mB,FA,JA,rA,eB,WA,MA,zdK,zdJ,zdD,zdE,sA,nA,zdU,c0,m3,tE,hcc,YA,es,d20,YF,hlo,GG,LD,VY,YY,eY,cX,zdL,cx,EG,nF,jJ,rF,Option.join_some,eC',ew,YD,EF,e1',er,HB,RB,tI,um,d2,hm,yC,sl,ep,OB,zO,kO,jB,yO,t1,t3,uB,Bool.not_true,zdV,if_false,MS,Int.cast_ofNat_Int,JI,decide_true,x2,pS,YC,OG,n1,EB,yY,Gn.wd,KU,ME,ll,MW,OD,yw,xU,g1,g2,jz,el,KB]
set_option maxHeartbeats 0 in
theorem Dv {l:PySem.W.OpenLaw} {w:World} {K:Frag} {h:Heap} {mg:Str->Option Value} {fa:Addr} (X:K.In h) (G:h.Ns mainGlobals mg) (hfa:mg "law" =some (.ref fa))
 {Ld:Addr} {zaf:Value} {Km:Addr} {Dn:Addr} {yp:Value}
 (yq0:uL K "Search" Ld) (yq1:findIn K (.ref Ld) "lengths" =some none) (yq2:findIn K (.ref Ld) "most" =some none) (yq3:findIn K (.ref Ld) "made" =some none) (yq4:iB K "zones" kS) (yq5:iB K "ways_in" HR) (yq6:iB K "set_of" YR) (yq7:iB K "turned" ZR) (yq8:iB K "chained_sets" KP) (yq9:iB K "wide_row" OQ) (yq10:iB K "wide" cT) (yq11:iB K "pairs_of" MQ) (yq12:iB K "narrowed" LQ) (yq13:iB K "left_by" bR) (yq14:iB K "narrows" FR) (yq15:iB K "made_of" ER) (yq16:iB K "is_empty" KQ) (yq17:iB K "threes_along" yP) (yq18:iB K "rounded_from" NP) (yq19:iB K "rounded" GR) (yq20:iB K "first_net" AQ) (yq21:iB K "lengths_in" FQ) (yq22:iB K "groups_in" BQ) (yq23:iB K "only_member" nQ) (yq24:iB K "first_loose_pair" xP) (yq25:iB K "split_of" NQ) (yq26:iB K "grain" fS) (yq27:iB K "length_bounds" ZP) (yq28:iB K "point_bounds" MP) (yq29:iB K "set_bounds" GQ) (yq30:iB K "bounds" XR) (yq31:iB K "least_bounds" LP) (yq32:iB K "moved" iS) (yq33:iB K "ring_behind" oQ) (yq34:iB K "timed" jS) (yq35:kL K Ld "__init__" "Search.__init__" rP) (yq36:kL K Ld "look" "Search.look" mQ) (yq37:kL K Ld "look_at_branches" "Search.look_at_branches" oP) (yq38:iB K "stretches_at" OP) (yq39:fZ K "planned" jN 200) (yq40:iB K "rectangle" CQ) (yq41:iB K "hull" aT) (yq42:iB K "tame" bT) (yq43:iB K "_law_cell" wQ) (yq44:iB K "_law_mix" JQ) (yq45:iB K "_law_whole" EQ) (yq46:iB K "_law_zone" zQ) (yq47:iB K "_law_between" JP) (yq48:iB K "_law_stretches" pP) (yq49:iB K "_law_box" IQ) (yq50:iB K "_law_fact" xQ) (yq51:iB K "_law_laid" yQ) (yq52:iB K "law" aU) (yq53:nsIn K mainGlobals "any" =some none) (yq54:nsIn K mainGlobals "bool" =some none) (yq55:nsIn K mainGlobals "enumerate" =some none) (yq56:nsIn K mainGlobals "int" =some none) (yq57:nsIn K mainGlobals "isinstance" =some none) (yq58:nsIn K mainGlobals "len" =some none) (yq59:nsIn K mainGlobals "list" =some none) (yq60:nsIn K mainGlobals "max" =some none) (yq61:nsIn K mainGlobals "min" =some none) (yq62:nsIn K mainGlobals "range" =some none) (yq63:nsIn K mainGlobals "sum" =some none) (yq64:nsIn K mainGlobals "tuple" =some none) (yq65:nsIn K mainGlobals "ALL" =some (some zaf)) (yq66:AD K 6 zaf=some uI) (yq67:nsIn K mainGlobals "ZONES" =some (some (.ref Km))) (yq68:AD K 6 (.ref Km)=some HS) (yq69:nsIn K mainGlobals "CHAINED" =some (some (.ref Dn))) (yq70:AD K 6 (.ref Dn)=some tR) (yq71:nsIn K mainGlobals "SAME" =some (some yp)) (yq72:AD K 6 yp=some VS)
 :∃fd:FuncData,(∀(s:Shared) (v:Value),BindsTo s fd ⟨[v],[]⟩ [("_law_script",v)])/\∀base:Heap,K.In base->base.Ns mainGlobals mg->Od l.prog w K mg base RF 31 fa fd ["_law_script"] (QI K 1 lI):=by
 have T:Ah K mg:={
  zbI:=pB X G yq4 fun _ _ _ _ _ _=>len1 (fun _=>rfl)
  zbA:=pB X G yq5 fun _ _ _ _ _ _=>len1 (fun _=>rfl)
  zbC:=pB X G yq6 fun _ _ _ _ _ _=>len1 (fun _=>rfl)
  zbD:=pB X G yq7 fun _ _ _ _ _ _=>len1 (fun _=>rfl)
  za3:=pB X G yq8 fun _ _ _ _ _ _=>BD (fun _ _=>rfl)
  zbu:=pB X G yq9 fun _ _ _ _ _ _=>BD (fun _ _=>rfl)
  zbN:=pB X G yq10 fun _ _ _ _ _ _=>len1 (fun _=>rfl)
  zbs:=pB X G yq11 fun _ _ _ _ _ _=>len1 (fun _=>rfl)
  zbr:=pB X G yq12 fun _ _ _ _ _ _=>RJ (fun _ _ _ _=>rfl)
  zbw:=pB X G yq13 fun _ _ _ _ _ _=>BD (fun _ _=>rfl)
  zby:=pB X G yq14 fun _ _ _ _ _ _=>BD (fun _ _=>rfl)
  zbx:=pB X G yq15 fun _ _ _ _ _ _=>BD (fun _ _=>rfl)
  zbq:=pB X G yq16 fun _ _ _ _ _ _=>len1 (fun _=>rfl)
  za9:=pB X G yq17 fun _ _ _ _ _ _=>BD (fun _ _=>rfl)
  za6:=pB X G yq18 fun _ _ _ _ _ _=>BD (fun _ _=>rfl)
  zbz:=pB X G yq19 fun _ _ _ _ _ _=>len1 (fun _=>rfl)
  zbj:=pB X G yq20 fun _ _ _ _ _ _=>BD (fun _ _=>rfl)
  zbb:=pB X G yq21 fun _ _ _ _ _ _=>len1 (fun _=>rfl)
  zbk:=pB X G yq22 fun _ _ _ _ _ _=>len1 (fun _=>rfl)
  zbd:=pB X G yq23 fun _ _ _ _ _ _=>wF (fun _ _ _=>rfl)
  za1:=pB X G yq24 fun _ _ _ _ _ _=>len1 (fun _=>rfl)
  zbt:=pB X G yq25 fun _ _ _ _ _ _=>BD (fun _ _=>rfl)
  zbF:=pB X G yq26 fun _ _ _ _ _ _=>len1 (fun _=>rfl)
  za7:=pB X G yq27 fun _ _ _ _ _ _=>BD (fun _ _=>rfl)
  za5:=pB X G yq28 fun _ _ _ _ _ _=>RJ (fun _ _ _ _=>rfl)
  zbc:=pB X G yq29 fun _ _ _ _ _ _=>wF (fun _ _ _=>rfl)
  zbB:=pB X G yq30 fun _ _ _ _ _ _=>BD (fun _ _=>rfl)
  za4:=pB X G yq31 fun _ _ _ _ _ _=>len1 (fun _=>rfl)
  zbG:=pB X G yq32 fun _ _ _ _ _ _=>wF (fun _ _ _=>rfl)
  zbe:=pB X G yq33 fun _ _ _ _ _ _=>BD (fun _ _=>rfl)
  zbH:=pB X G yq34 fun _ _ _ _ _ _=>BD (fun _ _=>rfl)
  zbE:=F9 X G yq0 yq35 fun _ _ _ _ _ _=>wF (fun _ _ _=>rfl)
  zaB:=mX yq0 yq36 fun _ _ _ _ _ _=>RJ (fun _ _ _ _=>rfl)
  zaZ:=mX yq0 yq37 fun _ _ _ _ _ _=>RJ (fun _ _ _ _=>rfl)
  za8:=pB X G yq38 fun _ _ _ _ _ _=>len1 (fun _=>rfl)
  zbl:=Wx X G yq39 fun _ _ _ _ _ _ _ _ _ _ _ us hl h1 h2=>match us,hl with | [_,_,_],_=>BindsTo.of_defaults rfl h1 h2 rfl rfl
  zbm:=pB X G yq40 fun _ _ _ _ _ _=>BD (fun _ _=>rfl)
  zbL:=pB X G yq41 fun _ _ _ _ _ _=>len1 (fun _=>rfl)
  zbM:=pB X G yq42 fun _ _ _ _ _ _=>len1 (fun _=>rfl)
  zbf:=pB X G yq43 fun _ _ _ _ _ _=>BD (fun _ _=>rfl)
  zbp:=pB X G yq44 fun _ _ _ _ _ _=>wF (fun _ _ _=>rfl)
  zba:=pB X G yq45 fun _ _ _ _ _ _=>len1 (fun _=>rfl)
  zbi:=pB X G yq46 fun _ _ _ _ _ _=>BD (fun _ _=>rfl)
  za2:=pB X G yq47 fun _ _ _ _ _ _=>BD (fun _ _=>rfl)
  za0:=pB X G yq48 fun _ _ _ _ _ _=>wF (fun _ _ _=>rfl)
  zbo:=pB X G yq49 fun _ _ _ _ _ _=>RJ (fun _ _ _ _=>rfl)
  zbg:=pB X G yq50 fun _ _ _ _ _ _=>wF (fun _ _ _=>rfl)
  zbh:=pB X G yq51 fun _ _ _ _ _ _=>wF (fun _ _ _=>rfl)
  zaz:=tS yq0 yq1
  zaA:=tS yq0 yq2
  jl:=tS yq0 yq3
  zbP:=mg_none_of X G yq53
  zbO:=mg_none_of X G yq54
  zbn:=mg_none_of X G yq55
  Tp:=mg_none_of X G yq56
  Zm:=mg_none_of X G yq57
  Jc:=mg_none_of X G yq58
  Al:=mg_none_of X G yq59
  Im:=mg_none_of X G yq60
  Xn:=mg_none_of X G yq61
  Yc:=mg_none_of X G yq62
  zbQ:=mg_none_of X G yq63
  zaC:=mg_none_of X G yq64
  Cp:=⟨⟨_,6,PySem.W.mg_of X G yq65,yq66⟩⟩
  zbJ:=⟨⟨_,6,PySem.W.mg_of X G yq67,yq68⟩⟩
  zbv:=⟨⟨_,6,PySem.W.mg_of X G yq69,yq70⟩⟩
  zbK:=⟨⟨_,6,PySem.W.mg_of X G yq71,yq72⟩⟩
 }
 obtain⟨f,oc,od,kV,dc,pm,an,cd,ct,sl,a,l1,c1,k1⟩:=yq52;have e:=hfa.symm.trans (PySem.W.mg_of X G a);cases e;exact⟨_,fun s v=>.of_eq rfl,fun base _ _=>Zk T base (UN l1 c1 k1)⟩
end G
open PySem.W
set_option maxRecDepth 100000 in
set_option maxHeartbeats 0 in
theorem PySem.Challenge.cw_spanways_k24_whole_tame_facts_need_no_tr_holds : PySem.Challenge.rw_spanways_k24_whole_tame_facts_need_no_tr.Holds := by
 refine HD.top ?_
 k_fill
 refine SM.Y8 (l:=PySem.Challenge.rw_spanways_k24_whole_tame_facts_need_no_tr) (F:=G.lI) (k:=31) (x := "_law_script") rfl rfl ⟨rfl,by decide,by decide⟩ (fun w h Y=>PySem.W.kIn_of Y) ?F G.law_true
 case F=>
  intro w mg fa h KX GN hmg
  refine' G.Dv KX GN hmg ?yq0 ?yq1 ?yq2 ?yq3 ?yq4 ?yq5 ?yq6 ?yq7 ?yq8 ?yq9 ?yq10 ?yq11 ?yq12 ?yq13 ?yq14 ?yq15 ?yq16 ?yq17 ?yq18 ?yq19 ?yq20 ?yq21 ?yq22 ?yq23 ?yq24 ?yq25 ?yq26 ?yq27 ?yq28 ?yq29 ?yq30 ?yq31 ?yq32 ?yq33 ?yq34 ?yq35 ?yq36 ?yq37 ?yq38 ?yq39 ?yq40 ?yq41 ?yq42 ?yq43 ?yq44 ?yq45 ?yq46 ?yq47 ?yq48 ?yq49 ?yq50 ?yq51 ?yq52 ?yq53 ?yq54 ?yq55 ?yq56 ?yq57 ?yq58 ?yq59 ?yq60 ?yq61 ?yq62 ?yq63 ?yq64 ?yq65 ?yq66 ?yq67 ?yq68 ?yq69 ?yq70 ?yq71 ?yq72
  (case yq0=>exact⟨by k_is,by k_is,by k_is,by k_is,by k_is,by k_is,by k_is⟩)
  (case yq1 | yq2 | yq3=>k_is)
  (case yq4 | yq5 | yq6 | yq7 | yq8 | yq9 | yq10 | yq11 | yq12 | yq13 | yq14 | yq15 | yq16 | yq17 | yq18 | yq19 | yq20 | yq21 | yq22 | yq23 | yq24 | yq25 | yq26 | yq27 | yq28 | yq29 | yq30 | yq31 | yq32 | yq33 | yq34=>exact⟨_,_,_,_,_,_,_,_,_,_,by k_is,by k_is,by k_is,by k_is⟩)
  (case yq35 | yq36 | yq37=>exact⟨_,_,_,_,_,_,_,_,_,_,by k_is,by k_is,by k_is,by k_is,by k_is⟩)
  (case yq38=>exact⟨_,_,_,_,_,_,_,_,_,_,by k_is,by k_is,by k_is,by k_is⟩)
  (case yq39=>exact⟨_,_,_,_,_,_,_,_,_,_,_,_,_,_,by k_is,by k_is,by k_is,by k_is,by k_is,by rfl⟩)
  (case yq40 | yq41 | yq42 | yq43 | yq44 | yq45 | yq46 | yq47 | yq48 | yq49 | yq50 | yq51 | yq52=>exact⟨_,_,_,_,_,_,_,_,_,_,by k_is,by k_is,by k_is,by k_is⟩)
  (case yq53 | yq54 | yq55 | yq56 | yq57 | yq58 | yq59 | yq60 | yq61 | yq62 | yq63 | yq64 | yq65=>k_is)
  (case yq66=>kernel_rfl)
  (case yq67=>k_is)
  (case yq68=>kernel_rfl)
  (case yq69=>k_is)
  (case yq70=>kernel_rfl)
  (case yq71=>k_is)
  (case yq72=>kernel_rfl)
end
