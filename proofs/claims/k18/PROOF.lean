import PyProof.Rows.All
import Wide.All
import OpenK.AllK
import Wide.FinOn
import Lean
import PyProof.EqAt
import PyProof.EqKinds
import PyProof.TupleCall
import PySem.Challenge.RW_spanways_k18_as_many_splits
set_option Elab.async false
set_option linter.all false
set_option maxRecDepth 100000
set_option bootstrap.genMatcherCode false
section
open PySem PySem.W PyProof.Rows
namespace HD
noncomputable abbrev rw:=PySem.Challenge.rw_spanways_k18_as_many_splits.row.toRowW
noncomputable def vw:Program:={rw.prog with main:={rw.prog.main with body:=[1,2,3,4,5,6,8,9,11,12,13,14,15,16,17,18,19,20,21,23,24,25,26,27,28,30,31,32,33,34,35,36,37,38,40,41,44,45,46,47,48,49,50,51,52].filterMap (rw.prog.main.body[·]?)}}
local macro_rules | `(tactic|o_head $H)=>do
  let hw:=Lean.mkIdent `hw
  `(tactic|(refine holds_open (q:=HD.vw) (loose:=["planned"]) (Xt:=fun s=>xlAt HD.vw [] s && recOk (RowW.records HD.rw) s) (XP:=XL HD.vw []) (Yf:=Hook.obs $H) (Ya:=Hook.val $H) (YP:=Hook.says $H) (N:=3864) ?_ (Hook.of $H) (Hook.keeps $H) (fun s e=>xl_of s (Bool.and_eq_true_iff.mp e).1) XL.keeps (by rfl) (by rfl) (by rfl) (fun s e=>recFacts_of (Bool.and_eq_true_iff.mp e).2) (by rfl) (by first | assumption | decide +kernel) (by decide +kernel) ⟨rfl,rfl,rfl,rfl,rfl,by decide +kernel⟩ ?$hw ?_; focus (intro w; kernel_rfl)))
set_option maxHeartbeats 0 in
open_top top for PySem.Challenge.rw_spanways_k18_as_many_splits
end HD
end
namespace L2
open PySem PySem.Spec PyProof.Rows
noncomputable abbrev Key:=Sum Int Str
noncomputable def zajp:Key->Value->Bool
 | .inl k,v=>Value.isInt k v
 | .inr x,v=>Value.isStrOf x v
noncomputable def keyH (w:World):Key->Int
 | .inl k=>hashInt k
 | .inr x=>hashStr w x
theorem zacq:∀ {k:Key} {v:Value},zajp k v=true->(∃ i t,k=Sum.inl i/\v=Value.int i t)\/(∃ x t,k=Sum.inr x/\v=Value.str x t)
 | .inl i,v,h=>by
  obtain ⟨t,e⟩:=Value.isInt_shape (k:=i) (v:=v) h
  exact .inl ⟨i,t,rfl,e⟩
 | .inr x,v,h=>by
  obtain ⟨t,e⟩:=Value.isStrOf_shape (x:=x) (v:=v) h
  exact .inr ⟨x,t,rfl,e⟩
theorem zapI (i:Int) (t:Tok):zajp (.inl i) (.int i t)=true:=by simp [zajp,Value.isInt]
theorem zaqO (x:Str) (t:Tok):zajp (.inr x) (.str x t)=true:=by simp [zajp,Value.isStrOf]
theorem zauZ (a b:Int):decide ((Sum.inl a:Key)=Sum.inl b)=(a == b):=by
 by_cases e:a=b
 · subst e; simp
 · have h:¬ (Sum.inl a:Key)=Sum.inl b:=fun q=>e (Sum.inl.inj q)
   rw [decide_eq_false h]
   exact (beq_eq_false_iff_ne.mpr e).symm
theorem zauS (a b:Str):decide ((Sum.inr a:Key)=Sum.inr b)=decide (a=b):=by
 by_cases e:a=b
 · subst e; simp
 · have h:¬ (Sum.inr a:Key)=Sum.inr b:=fun q=>e (Sum.inr.inj q)
   rw [decide_eq_false h,decide_eq_false e]
theorem zavG (a:Int) (b:Str):decide ((Sum.inl a:Key)=Sum.inr b)=false:=decide_eq_false (fun q=>nomatch q)
theorem zavj (a:Str) (b:Int):decide ((Sum.inr a:Key)=Sum.inl b)=false:=decide_eq_false (fun q=>nomatch q)
noncomputable def zabV (prog:Program) (w:World):PySem.KeyKind prog w Key where
 is:=zajp
 hash:=keyH w
 inj:=fun v a b ha hb=>by
  rcases zacq ha with ⟨i,t,rfl,rfl⟩ | ⟨x,t,rfl,rfl⟩
  · rcases zacq hb with ⟨j,u,rfl,e⟩ | ⟨y,u,rfl,e⟩
    · injection e with e1 _; rw [e1]
    · exact nomatch e
  · rcases zacq hb with ⟨j,u,rfl,e⟩ | ⟨y,u,rfl,e⟩
    · exact nomatch e
    · injection e with e1 _; rw [e1]
 byValue:=fun k v h=>by
  rcases zacq h with ⟨i,t,rfl,rfl⟩ | ⟨x,t,rfl,rfl⟩ <;> rfl
 pyHash:=fun hv h=>by
  rcases zacq hv with ⟨i,t,rfl,rfl⟩ | ⟨x,t,rfl,rfl⟩
  · exact wpAny_pyHash_int h
  · exact wpAny_pyHash_str h
 eqBool:=fun hu hv h=>by
  rcases zacq hu with ⟨i,t,rfl,rfl⟩ | ⟨x,t,rfl,rfl⟩
  · rcases zacq hv with ⟨j,u,rfl,rfl⟩ | ⟨y,u,rfl,rfl⟩
    · rw [zauZ] at h; exact wpAny_eqBool_int h
    · rw [zavG] at h; exact SeqAt.EqAt.int_str i t y u _ _ _ _ h
  · rcases zacq hv with ⟨j,u,rfl,rfl⟩ | ⟨y,u,rfl,rfl⟩
    · rw [zavj] at h; exact SeqAt.EqAt.str_int x t j u _ _ _ _ h
    · rw [zauS] at h; exact wpAny_eqBool_str h
 «strs»:=fun k x t v h=>by
  rcases zacq h with ⟨i,u,rfl,e⟩ | ⟨y,u,rfl,e⟩
  · exact nomatch e
  · injection e with e1 _
    subst e1
    cases v <;> rfl
theorem zanL (prog:Program) (w:World) (i:Int) (t:Tok):(zabV prog w).is (.inl i) (.int i t)=true:=zapI i t
theorem zanM (prog:Program) (w:World) (x:Str) (t:Tok):(zabV prog w).is (.inr x) (.str x t)=true:=zaqO x t
end L2
namespace L2
open PySem PySem.Spec PyProof.Rows
inductive V where
 | non | bl (b:Bool) | int (i:Int) | str (x:Str) | byt (b:Array UInt8) | flt (b:UInt64) | ref (a:Addr) | ty (n:String)
 deriving DecidableEq
noncomputable def RelV:V->Value->Prop
 | .non,u=>u=Value.none
 | .bl b,u=>u=Value.bool b
 | .int i,u=>∃ t,u=Value.int i t
 | .str x,u=>∃ t,u=Value.str x t
 | .byt b,u=>∃ t,u=Value.bytes b t
 | .flt b,u=>∃ t,u=Value.float b t
 | .ref a,u=>u=Value.ref a
 | .ty n,u=>u=Value.type n
noncomputable abbrev Vals:List V->List Value->Prop:=Paired RelV
theorem Vals.length {xs:List V} {us:List Value} (r:Vals xs us):xs.length=us.length:=Paired.length r
theorem Vals.get:∀ {xs:List V} {us:List Value} {i:Nat} {x:V},Vals xs us->xs[i]?=some x->∃ u,us[i]?=some u/\RelV x u
 | _,_,_,_,.nil,e=>by simp at e
 | _,_,0,_,.cons r _,e=>by simp at e; subst e; exact ⟨_,rfl,r⟩
 | _,_,i + 1,x,.cons _ t,e=>by
  obtain ⟨u,h1,h2⟩:=Vals.get (i:=i) (x:=x) t (by simpa using e)
  exact ⟨u,by simpa using h1,h2⟩
theorem Vals.set {x:V} {u:Value} (r:RelV x u):∀ {xs:List V} {us:List Value} (i:Nat),Vals xs us->Vals (xs.set i x) (us.set i u)
 | _,_,_,.nil=>.nil
 | _,_,0,.cons _ t=>.cons r t
 | _,_,i + 1,.cons q t=>.cons q (Vals.set r i t)
theorem Vals.append:∀ {xs ys:List V} {us ws:List Value},Vals xs us->Vals ys ws->Vals (xs++ys) (us++ws)
 | _,_,_,_,.nil,s=>s
 | _,_,_,_,.cons r t,s=>.cons r (Vals.append t s)
theorem Vals.take:∀ {xs:List V} {us:List Value} (n:Nat),Vals xs us->Vals (xs.take n) (us.take n)
 | _,_,0,_=>.nil
 | _,_,_ + 1,.nil=>.nil
 | _,_,n + 1,.cons r t=>.cons r (Vals.take n t)
theorem Vals.drop:∀ {xs:List V} {us:List Value} (n:Nat),Vals xs us->Vals (xs.drop n) (us.drop n)
 | _,_,0,r=>r
 | _,_,_ + 1,.nil=>.nil
 | _,_,n + 1,.cons _ t=>Vals.drop n t
theorem Vals.none_of:∀ {xs:List V} {us:List Value} {i:Nat},Vals xs us->xs[i]?=none->us[i]?=none:=fun {xs us i} r e=>by
 have h1:=r.length
 have h2:xs.length<=i:=List.getElem?_eq_none_iff.mp e
 exact List.getElem?_eq_none_iff.mpr (by omega)
noncomputable def RelO:Option V->Option Value->Prop
 | some v,some u=>RelV v u
 | none,none=>True
 | _,_=>False
noncomputable def KV {κ:Type}:List (κ × V)->List (κ × Value)->Prop:=Paired fun (p:κ × V) (q:κ × Value)=>p.1=q.1/\RelV p.2 q.2
noncomputable def kV:Key->V
 | .inl i=>.int i
 | .inr x=>.str x
inductive HO where
 | lst (xs:List V)
 | tup (xs:List V)
 | dK (kvs:List (Key × V)) | dT (kvs:List (List Key × V))
 | set (S:Int->Bool) (n:Nat)
 | ins (C dx:Addr) (fs:List (Str × V))
 | own (x:Addr)
 | xd (fs:List (Str × V))
 | met (f x:Addr)
 | rng (lo hi:Int)
 | frz (o:Obj) (u:HO)
 | tbl (ps:Array Value)
 | ext (φ:Heap->Prop)
noncomputable abbrev Hp:=Addr->Option HO
noncomputable def upd (H:Hp) (a:Addr) (o:HO):Hp:=fun b=>if b=a then some o else H b
theorem zaa6 {H:Hp} {a:Addr} {o:HO}:upd H a o a=some o:=by unfold upd; rw [if_pos rfl]
theorem zaaA {H:Hp} {a b:Addr} {o:HO} (h:b ≠ a):upd H a o b=H b:=by unfold upd; rw [if_neg h]
theorem zao1 {H:Hp} {a b:Addr} {o u:HO} (h:H a=some o) (h':H b=some u) (d:o ≠ u):a ≠ b:=by
 intro e; subst e; rw [h] at h'; exact d (Option.some.inj h')
theorem zaaU {H:Hp} {a b:Addr} {o:HO} (h:H a=some o) (h':H b=none):a ≠ b:=by
 intro e; subst e; rw [h] at h'; cases h'
section
variable (P:Program) (w:World)
noncomputable def ObjOk (H:Hp) (h:Heap) (a:Addr):HO->Prop
 | .lst xs=>xs.length<=sizeLine/\∃ (its:List Value) (n:Nat),Vals xs its/\h.get? a=some { cls:=.type "list", data:=.seq its.toArray n }
 | .tup xs=>xs.length<=sizeLine/\∃ its:List Value,Vals xs its/\IsTup h a its.toArray
 | .dK kvs=>kvs.length<=sizeLine/\(a == sysModules)=false/\∃ vs,KV kvs vs/\h.DictOf (zabV P w) a vs
 | .dT kvs=>kvs.length<=sizeLine/\(a == sysModules)=false/\∃ xs:List (List Key × Addr × Value),
  Paired (fun (p:List Key × V) (q:List Key × Addr × Value)=>p.1=q.1/\H q.2.1=some (.tup (p.1.map kV))/\RelV p.2 q.2.2) kvs xs/\
  ∃ o es ep,h.get? a=some o/\o.ExactDict/\o.data=.dict es ep/\es.toList=xs.map (entryOfKey (tupleKind (zabV P w)))/\(xs.map (·.1)).Nodup
 | .set S n=>h.SetOf (intKind P w) a S n
 | .ins C dx fs=>H dx=some (.own a)/\fs.length<=1000/\dx ≠ a/\h.get? a=some (PySem.W.instObj C dx)/\
  ∃ mA,h.Ns1 dx mA/\(∀ f,RelO (fs.lookup f) (mA f))/\PySem.Within mA (fs.map (·.1))
 | .own _=>∃ o,h.get? a=some o
 | .xd fs=>∃ mA,h.Ns1 a mA/\∀ f,RelO (fs.lookup f) (mA f)
 | .rng lo hi=>∃ t u v,h.get? a=some { cls:=.type "range", data:=.fields #[.int lo t,.int hi u,.int 1 v] }
 | .frz o u=>h.get? a=some o/\ObjOk H h a u
 | .tbl ps=>h.get? a=some { cls:=.none,data:=.fields ps }
 | .met f x=>h.get? a=some (PySem.W.methodObj (.ref f) (.ref x))
 | .ext φ=>φ h/\(∃ o,h.get? a=some o)/\∀ h1 h2:Heap,φ h1->(∀ o,h1.get? a=some o->h2.get? a=some o)->φ h2
noncomputable def HOk (H:Hp) (h:Heap):Prop:=∀ a o,H a=some o->ObjOk P w H h a o
end
section
variable {P:Program} {w:World} {H H':Hp} {h h':Heap} {a:Addr} {o:HO}
theorem ObjOk.lt (x:ObjOk P w H h a o):a < h.objs.size:=by
 cases o with
 | lst xs=>obtain ⟨_,_,_,_,e⟩:=x; exact Heap.lt_size e
 | tup xs=>obtain ⟨_,_,_,p⟩:=x; exact p.lt
 | dK kvs=>obtain ⟨_,_,_,_,o,_,_,e,_⟩:=x; exact Heap.lt_size e
 | dT kvs=>obtain ⟨_,_,_,_,o,_,_,e,_⟩:=x; exact Heap.lt_size e
 | set S n=>obtain ⟨o,_,_,_,e,_⟩:=x; exact Heap.lt_size e
 | ins C dx fs=>obtain ⟨_,_,_,e,_⟩:=x; exact Heap.lt_size e
 | own y=>obtain ⟨_,e⟩:=x; exact Heap.lt_size e
 | xd fs=>obtain ⟨_,⟨_,_,_,e,_⟩,_⟩:=x; exact Heap.lt_size e
 | rng lo hi=>obtain ⟨_,_,_,e⟩:=x; exact Heap.lt_size e
 | frz ob u=>obtain ⟨e,_⟩:=x; exact Heap.lt_size e
 | tbl ps=>exact Heap.lt_size (show h.get? a=some _ from x)
 | met f y=>exact Heap.lt_size (show h.get? a=some _ from x)
 | ext φ=>obtain ⟨_,⟨_,e⟩,_⟩:=x; exact Heap.lt_size e
theorem Paired.mapP {α β:Type} {F G:α->β->Prop}:∀ {l₁:List α} {l₂:List β},Paired F l₁ l₂->(∀ a b,F a b->G a b)->Paired G l₁ l₂
 | _,_,.nil,_=>.nil
 | _,_,.cons r t,f=>.cons (f _ _ r) (Paired.mapP t f)
theorem ObjOk.stay (x:ObjOk P w H h a o) (k:∀ b u,(b=a\/H b=some (.own a))->h.get? b=some u->h'.get? b=some u)
 (ho:∀ b,H b=some (.own a)->H' b=some (.own a)) (ht:∀ b xs,H b=some (.tup xs)->H' b=some (.tup xs)):ObjOk P w H' h' a o:=by
 induction o with
 | lst xs=>obtain ⟨z,its,n,r,e⟩:=x; exact ⟨z,its,n,r,k _ _ (.inl rfl) e⟩
 | tup xs=>obtain ⟨z,its,r,ob,e,c⟩:=x; exact ⟨z,its,r,ob,k _ _ (.inl rfl) e,c⟩
 | dK kvs=>obtain ⟨z,y,vs,r,ob,es,ep,e,c⟩:=x; exact ⟨z,y,vs,r,ob,es,ep,k _ _ (.inl rfl) e,c⟩
 | dT kvs=>
  obtain ⟨z,y,xs,r,ob,es,ep,e,c⟩:=x
  exact ⟨z,y,xs,Paired.mapP r fun p q z=>⟨z.1,ht _ _ z.2.1,z.2.2⟩,ob,es,ep,k _ _ (.inl rfl) e,c⟩
 | set S n=>obtain ⟨ob,es,ep,t,e,c⟩:=x; exact ⟨ob,es,ep,t,k _ _ (.inl rfl) e,c⟩
 | ins C dx fs=>
  obtain ⟨d,z,ne,e,mA,⟨od,es,ep,e2,c⟩,r⟩:=x
  exact ⟨ho _ d,z,ne,k _ _ (.inl rfl) e,mA,⟨od,es,ep,k _ _ (.inr d) e2,c⟩,r⟩
 | own y=>obtain ⟨ob,e⟩:=x; exact ⟨ob,k _ _ (.inl rfl) e⟩
 | xd fs=>obtain ⟨mA,⟨od,es,ep,e,c⟩,r⟩:=x; exact ⟨mA,⟨od,es,ep,k _ _ (.inl rfl) e,c⟩,r⟩
 | rng lo hi=>obtain ⟨t,u,v,e⟩:=x; exact ⟨t,u,v,k _ _ (.inl rfl) e⟩
 | frz ob u ih=>obtain ⟨e,q⟩:=x; exact ⟨k _ _ (.inl rfl) e,ih q⟩
 | tbl ps=>
  have e:h.get? a=some { cls:=.none,data:=.fields ps }:=x
  show h'.get? a=some { cls:=.none,data:=.fields ps }
  exact k a _ (.inl rfl) e
 | met f y=>
  have e:h.get? a=some (PySem.W.methodObj (.ref f) (.ref y)):=x
  show h'.get? a=some (PySem.W.methodObj (.ref f) (.ref y))
  exact k a _ (.inl rfl) e
 | ext φ=>obtain ⟨p,⟨o,e⟩,st⟩:=x; exact ⟨st _ _ p fun o q=>k _ _ (.inl rfl) q,⟨o,k _ _ (.inl rfl) e⟩,st⟩
theorem HOk.lt (x:HOk P w H h) (e:H a=some o):a < h.objs.size:=(x a o e).lt
theorem HOk.fresh (x:HOk P w H h) (e:h.objs.size<=a):H a=none:=by
 cases q:H a with
 | none=>rfl
 | some u=>exact absurd (Nat.lt_of_lt_of_le (x.lt q) e) (Nat.lt_irrefl _)
theorem HOk.kept (x:HOk P w H h) (k:∀ b u,h.get? b=some u->h'.get? b=some u):HOk P w H h':=fun a o e=>
 (x a o e).stay (fun b u _ q=>k b u q) (fun _ q=>q) fun _ _ q=>q
theorem HOk.laid (x:HOk P w H h) (k:∀ b u,h.get? b=some u->h'.get? b=some u) (hp:h.objs.size<=a) (new:ObjOk P w (upd H a o) h' a o):HOk P w (upd H a o) h':=fun b u e=>by
 have hn:=x.fresh hp
 by_cases hb:b=a
 · subst hb; rw [zaa6] at e; cases e; exact new
 · rw [zaaA hb] at e
   exact (x b u e).stay (fun c v _ q=>k c v q) (fun c q=>by rw [zaaA (zaaU q hn)]; exact q) fun c xs q=>by rw [zaaA (zaaU q hn)]; exact q
end
noncomputable def Rd (H:Hp) (a:Addr) (u:HO):Prop:=H a=some u\/∃ o,H a=some (.frz o u)
theorem Rd.ok {P:Program} {w:World} {H:Hp} {h:Heap} {a:Addr} {u:HO} (r:Rd H a u) (x:HOk P w H h):ObjOk P w H h a u:=by
 rcases r with r | ⟨o,r⟩
 · exact x a u r
 · obtain ⟨_,q⟩:=x a _ r
   exact q
noncomputable def Mut:Option HO->Prop
 | some (.lst _)=>True
 | some (.dK _)=>True
 | some (.dT _)=>True
 | some (.set _ _)=>True
 | some (.ins _ _ _)=>True
 | some (.ext _)=>True
 | _=>False
section
variable {P:Program} {w:World} {H:Hp} {h h':Heap} {x e:Addr} {o':HO}
theorem HOk.write (ok:HOk P w H h) (mu:Mut (H x)) (he:e=x\/H e=some (.own x)) (k:∀ b u,b ≠ e->h.get? b=some u->h'.get? b=some u) (heo:∃ u,h'.get? e=some u)
 (new:ObjOk P w (upd H x o') h' x o'):HOk P w (upd H x o') h':=fun b u q=>by
 have nown:∀ c y,H c=some (.own y)->c ≠ x:=fun c y r z=>by subst z; rw [r] at mu; exact mu
 have ntup:∀ c xs,H c=some (.tup xs)->c ≠ x:=fun c xs r z=>by subst z; rw [r] at mu; exact mu
 by_cases hb:b=x
 · subst hb; rw [zaa6] at q; cases q; exact new
 · rw [zaaA hb] at q
   by_cases hbe:b=e
   · have q':H b=some (.own x):=by
      rcases he with z | z
      · exact absurd (hbe.trans z) hb
      · rw [hbe]; exact z
     rw [q] at q'; cases q'
     obtain ⟨v,hv⟩:=heo
     exact ⟨v,by rw [hbe]; exact hv⟩
   · refine (ok b u q).stay (fun c v hc r=>k c v ?_ r) (fun c r=>by rw [zaaA (nown c b r)]; exact r) fun c xs r=>by rw [zaaA (ntup c xs r)]; exact r
     rcases hc with rfl | hc
     · exact hbe
     · rintro rfl
       rcases he with z | z
       · exact nown c b hc z
       · rw [hc] at z; cases z; exact hb rfl
end
structure Un (fs ex:List Addr) (H H':Hp) (h h':Heap):Prop where
 keep:∀ b o,h.get? b=some o->H b=none->b ∉ fs->b ∉ ex->h'.get? b=some o
 slot:∀ b o,h.get? b=some o->H b=none->b ∈ fs->b ∉ ex->∃ sl,h'.get? b=some { o with slots:=sl }
 free:∀ b o,h.get? b=some o->H b=none->b ∉ ex->H' b=none
 there:∀ b o,h.get? b=some o->b ∉ ex->∃ o',h'.get? b=some o'
 tups:∀ b xs,H b=some (.tup xs)->H' b=some (.tup xs)
 frzs:∀ b o u,H b=some (.frz o u)->H' b=some (.frz o u)
 tbls:∀ b ps,H b=some (.tbl ps)->∃ more,H' b=some (.tbl (ps++more))
section
variable {fs fs' ex ex':List Addr} {H H1 H2:Hp} {h h1 h2 h':Heap} {a x e:Addr} {o:HO}
theorem Un.any (u:Un fs ex H H1 h h1) {b:Addr} {ob:Obj} (q:h.get? b=some ob) (n:H b=none) (hx:b ∉ ex):∃ sl,h1.get? b=some { ob with slots:=sl }:=by
 by_cases hb:b ∈ fs
 · exact u.slot b ob q n hb hx
 · exact ⟨ob.slots,u.keep b ob q n hb hx⟩
theorem Un.trans (a:Un fs ex H H1 h h1) (b:Un fs ex H1 H2 h1 h2):Un fs ex H H2 h h2 where
 keep:=fun c ob q n hc hx=>b.keep c ob (a.keep c ob q n hc hx) (a.free c ob q n hx) hc hx
 slot:=fun c ob q n hc hx=>by
  obtain ⟨sl,e1⟩:=a.slot c ob q n hc hx
  obtain ⟨sl',e2⟩:=b.slot c _ e1 (a.free c ob q n hx) hc hx
  exact ⟨sl',e2⟩
 free:=fun c ob q n hx=>by
  obtain ⟨o',e1⟩:=a.there c ob q hx
  exact b.free c o' e1 (a.free c ob q n hx) hx
 there:=fun c ob q hx=>by
  obtain ⟨o',e1⟩:=a.there c ob q hx
  exact b.there c o' e1 hx
 tups:=fun c xs q=>b.tups c xs (a.tups c xs q)
 frzs:=fun c ob xs q=>b.frzs c ob xs (a.frzs c ob xs q)
 tbls:=fun c ps q=>by
  obtain ⟨m1,e1⟩:=a.tbls c ps q
  obtain ⟨m2,e2⟩:=b.tbls c _ e1
  exact ⟨m1++m2,by rw [e2,Array.append_assoc]⟩
theorem Un.kept (k:∀ b u,h.get? b=some u->h'.get? b=some u):Un fs ex H H h h':=
 ⟨fun b ob q _ _ _=>k b ob q,fun b ob q _ _ _=>⟨ob.slots,k b ob q⟩,fun _ _ _ n _=>n,fun b ob q _=>⟨ob,k b ob q⟩,fun _ _ q=>q,fun _ _ _ q=>q,fun _ ps q=>⟨#[],by rw [q]; simp⟩⟩
theorem Un.refl:Un fs ex H H h h:=Un.kept fun _ _ q=>q
theorem Un.laid (k:∀ b u,h.get? b=some u->h'.get? b=some u) (hp:h.objs.size<=a) (hn:H a=none):Un fs ex H (upd H a o) h h' where
 keep:=fun b u q _ _ _=>k b u q
 slot:=fun b u q _ _ _=>⟨u.slots,k b u q⟩
 free:=fun b u q n _=>by rw [zaaA (Nat.ne_of_lt (Nat.lt_of_lt_of_le (Heap.lt_size q) hp))]; exact n
 there:=fun b u q _=>⟨u,k b u q⟩
 tups:=fun b xs q=>by rw [zaaA (zaaU q hn)]; exact q
 frzs:=fun b u xs q=>by rw [zaaA (zaaU q hn)]; exact q
 tbls:=fun b ps q=>⟨#[],by rw [zaaA (zaaU q hn),q]; simp⟩
theorem Un.write (mu:Mut (H x)) (he:e=x\/H e=some (.own x)) (k:∀ b u,b ≠ e->h.get? b=some u->h'.get? b=some u) (heo:∃ u,h'.get? e=some u):Un fs ex H (upd H x o) h h':=by
 have hx:∀ b,H b=none->b ≠ x:=fun b n z=>by subst z; rw [n] at mu; exact mu
 have hb:∀ b,H b=none->b ≠ e:=fun b n z=>by
  subst z
  rcases he with r | r
  · exact hx b n r
  · rw [n] at r; cases r
 have hm:∀ b u,H b=some u->¬ Mut (some u)->b ≠ x:=fun b u q nm z=>by subst z; rw [q] at mu; exact nm mu
 refine ⟨fun b u q n _ _=>k b u (hb b n) q,fun b u q n _ _=>⟨u.slots,k b u (hb b n) q⟩,fun b u q n _=>by rw [zaaA (hx b n)]; exact n,fun b u q _=>?_,
  fun b xs q=>by rw [zaaA (hm b _ q fun z=>z)]; exact q,fun b u xs q=>by rw [zaaA (hm b _ q fun z=>z)]; exact q,fun b ps q=>⟨#[],by rw [zaaA (hm b _ q fun z=>z),q]; simp⟩⟩
 by_cases hbe:b=e
 · subst hbe; exact heo
 · exact ⟨u,k b u hbe q⟩
theorem Un.mono (u:Un fs ex H H1 h h1) (hs:∀ b ∈ fs,b ∈ fs') (hx:∀ b ∈ ex,b ∈ ex'):Un fs' ex' H H1 h h1:=
 ⟨fun b ob q n hb he=>u.keep b ob q n (fun z=>hb (hs b z)) fun z=>he (hx b z),fun _ _ q n _ he=>u.any q n fun z=>he (hx _ z),fun b ob q n he=>u.free b ob q n fun z=>he (hx b z),fun b ob q he=>u.there b ob q fun z=>he (hx b z),u.tups,u.frzs,u.tbls⟩
end
noncomputable def trk (h:Heap) (H:Hp):List Addr:=(List.range h.objs.size).filter fun a=>(H a).isSome
noncomputable def hidT (h:Heap) (H:Hp):Heap:=PySem.W.hideAll h (trk h H)
theorem zaqs (h:Heap) (H:Hp):(hidT h H).objs.size=h.objs.size:=PySem.W.hideAll_size _ _
theorem zarS {h:Heap} {H:Hp} {b:Addr} {o:Obj} (e:h.get? b=some o) (n:H b=none):(hidT h H).get? b=some o:=
 PySem.W.hideAll_get _ e fun hm=>by
  have q:(H b).isSome=true:=(List.mem_filter.mp hm).2
  rw [n] at q; simp at q
theorem zatT {h:Heap} {H:Hp} {b:Addr} {o:Obj} (e:(hidT h H).get? b=some o):h.get? b=some o/\H b=none:=by
 have e':h.get? b=some o:=PySem.W.of_hideAll (trk h H) e
 refine ⟨e',?_⟩
 cases q:H b with
 | none=>rfl
 | some x=>
  have hm:b ∈ trk h H:=List.mem_filter.mpr ⟨List.mem_range.mpr (Heap.lt_size e'),by simp [q]⟩
  have z:(hidT h H).get? b=none:=PySem.W.hideAll_none (trk h H) hm
  rw [z] at e; cases e
noncomputable def zatq (g h:Heap) (L:Addr):List (Addr × Obj):=(List.range h.objs.size).filterMap fun a=>if a=L\/(g.get? a).isSome=true then none else (h.get? a).map fun o=>(a,o)
noncomputable def rest (g h:Heap) (L d:Addr):List (Addr × Obj):=(zatq g h L).filter fun p=>decide (p.1 ≠ d)
end L2
namespace L2
open PySem PySem.Spec PyProof.Rows
structure Mod (K:PySem.W.Frag) (mg:Str->Option Value) (base:Heap):Prop where
 kin:K.In base
 glob:base.Ns mainGlobals mg
 blt:∃ mb,base.Ns builtinsNs mb/\∀ x:Str,x ≠ "__name__" -> mb x=bootBuiltins x
 nolimit:base.NoLimit
structure Cx where
 prog:Program
 w:World
 K:PySem.W.Frag
 mg:Str->Option Value
 base:Heap
 A:Around
 N:List Str
 s₀:Shared
 H₀:Hp
 env:Env
 outer:List Env
 stack:List Env
 ex:List Addr
 fn:Str->Bool
 calm:Bool
 pn:List (Addr × Obj)
 xe:Value->Shared->Prop
noncomputable def frs (l:List Env):List Addr:=l.filterMap (·.frame)
noncomputable abbrev Cx.fs (X:Cx):List Addr:=frs X.outer
noncomputable def Vis (sc:Scope) (x:Str):Prop:=sc.names.lookup x=some .local\/sc.names.lookup x=some .cell\/sc.names.lookup x=some .free
noncomputable def Loc (sc:Scope) (x:Str):Prop:=sc.names.lookup x=some .local\/sc.names.lookup x=some .cell
noncomputable def Look (env:Env) (h:Heap) (m:Str->Option Value) (x:Str) (u:Value):Prop:=
 (env.kindOf x=some .local/\m x=some u)\/((env.kindOf x=some .cell\/env.kindOf x=some .free)/\∃ c,env.cells.lookup x=some c/\h.IsCell c (some u))
structure Cx.Ok (X:Cx):Prop where
 mod:Mod X.K X.mg X.base
 kind:X.env.scope.kind=.function
 glob:X.env.globals=mainGlobals
 blt:X.env.builtins=builtinsNs
 above:X.s₀.heap.objs.size<=X.env.locals
 inj:∀ x y c,X.env.cells.lookup x=some c->X.env.cells.lookup y=some c->x=y
 has:∀ x,(X.env.kindOf x=some .cell\/X.env.kindOf x=some .free)->∃ c,X.env.cells.lookup x=some c
 cab:∀ x c,X.fn x=true->X.env.cells.lookup x=some c->X.s₀.heap.objs.size<=c
 hd:X.calm=true->X.A.handled=none
 frames:X.A.frames=some X.stack
 stk:X.stack=X.outer\/(X.stack=X.env::X.outer/\X.env.frame=some X.env.locals)
 exf:∀ b ∈ X.ex,b ≠ X.env.locals/\∀ x c,X.env.cells.lookup x=some c->c ≠ b
 bs:∀ b o,X.base.get? b=some o->X.s₀.heap.get? b=some o/\X.H₀ b=none
 bsz:X.base.objs.size<=X.s₀.heap.objs.size
 noex:∀ b o,X.base.get? b=some o->b ∉ X.ex
 exfs:∀ b ∈ X.ex,b ∉ X.fs
 funs:X.s₀.heap.FunFrames X.base X.outer
 frf:∀ b ∈ X.fs,X.H₀ b=none
structure Inv (X:Cx) (pins:List (Addr × Obj)) (σ:List (Option V)) (H:Hp) (s:Shared):Prop where
 ok:X.Ok
 os:s.os=X.s₀.os
 bare:AllBare s.gens
 base:Un X.fs X.ex X.H₀ H X.s₀.heap s.heap
 loc:∃ m,s.heap.Ns X.env.locals m/\∀ (i:Nat) (x:Str) (v:V),X.N[i]?=some x->σ[i]?=some (some v)->Vis X.env.scope x->∃ u,RelV v u/\Look X.env s.heap m x u
 cell:∀ x c,X.env.cells.lookup x=some c->∃ v,s.heap.IsCell c v
 free:H X.env.locals=none
 freeC:∀ x c,X.env.cells.lookup x=some c->H c=none
 pin:∀ p ∈ X.pn++pins,s.heap.get? p.1=some p.2/\H p.1=none/\p.1 ≠ X.env.locals/\p.1 ∉ X.fs/\∀ v,p.2.data ≠ .cell v
 hok:HOk X.prog X.w H s.heap
 len:σ.length=X.N.length
section
variable {X:Cx} {pins:List (Addr × Obj)} {σ:List (Option V)} {H H':Hp} {s:Shared} {h':Heap}
theorem Cx.Ok.nofr (ok:X.Ok) {b:Addr} {o:Obj} (e:X.base.get? b=some o):b ∉ X.fs:=fun hb=>by
 have:=(ok.funs.mem hb).1
 rw [e] at this; cases this
theorem Inv.bs (I:Inv X pins σ H s):∀ b o,X.base.get? b=some o->s.heap.get? b=some o/\H b=none:=fun b o e=>
 ⟨I.base.keep b o (I.ok.bs b o e).1 (I.ok.bs b o e).2 (I.ok.nofr e) (I.ok.noex b o e),I.base.free b o (I.ok.bs b o e).1 (I.ok.bs b o e).2 (I.ok.noex b o e)⟩
theorem Inv.bk (I:Inv X pins σ H s):∀ b o,X.base.get? b=some o->s.heap.get? b=some o:=fun b o e=>(I.bs b o e).1
theorem Inv.mod (I:Inv X pins σ H s):Mod X.K X.mg X.base:=I.ok.mod
theorem Inv.kIn (I:Inv X pins σ H s):X.K.In s.heap:=I.ok.mod.kin.keeps I.bk
theorem Inv.nolimit (I:Inv X pins σ H s):s.heap.NoLimit:=I.ok.mod.nolimit.keeps I.bk
theorem Inv.lt (I:Inv X pins σ H s):X.env.locals < s.heap.objs.size:=let ⟨_,hn,_⟩:=I.loc; hn.lt
theorem Inv.sz (I:Inv X pins σ H s):X.s₀.heap.objs.size<=s.heap.objs.size:=Nat.le_trans I.ok.above (Nat.le_of_lt I.lt)
theorem Inv.nofs (I:Inv X pins σ H s) {a:Addr} (h:s.heap.objs.size<=a):a ∉ X.fs:=fun hb=>by
 obtain ⟨_,o,ho,_⟩:=I.ok.funs.mem hb
 exact absurd (Nat.lt_of_lt_of_le (Heap.lt_size ho) (Nat.le_trans I.sz h)) (Nat.lt_irrefl _)
theorem Inv.cne (I:Inv X pins σ H s):∀ x c,X.env.cells.lookup x=some c->c ≠ X.env.locals:=fun x c e z=>by
 obtain ⟨v,o,ho,hd⟩:=I.cell x c e
 obtain ⟨m,⟨o',es,ep,ho',hd',_⟩,_⟩:=I.loc
 rw [z,ho'] at ho; cases ho; rw [hd'] at hd; cases hd
theorem Inv.funs (I:Inv X pins σ H s):s.heap.FunFrames X.base X.outer:=by
 have all:∀ (l:List Env),(∀ b ∈ frs l,b ∈ X.fs)->X.s₀.heap.FunFrames X.base l->s.heap.FunFrames X.base l:=by
  intro l
  induction l with
  | nil=>intro _ _; trivial
  | cons env r ih=>
   intro hs hl
   obtain ⟨hk,⟨L,o,hf,hn,ho,hd⟩,hr⟩:=hl
   have hL:L ∈ X.fs:=hs L (by unfold frs; rw [List.filterMap_cons,hf]; exact List.mem_cons_self)
   obtain ⟨sl,e⟩:=I.base.slot L o ho (I.ok.frf L hL) hL fun z=>I.ok.exfs L z hL
   exact ⟨hk,⟨L,_,hf,hn,e,hd⟩,ih (fun b hb=>hs b (by unfold frs; rw [List.filterMap_cons,hf]; exact List.mem_cons_of_mem _ hb)) hr⟩
 exact all X.outer (fun _ hb=>hb) I.ok.funs
theorem Inv.stack (I:Inv X pins σ H s):s.heap.FunFrames X.base X.stack:=by
 rcases I.ok.stk with e | ⟨e,hf⟩
 · rw [e]; exact I.funs
 · rw [e]
   obtain ⟨m,hn,_⟩:=I.loc
   refine .cons (by rw [I.ok.kind]; decide) hf hn ?_ I.funs
   exact Heap.get?_none_of_le (Nat.le_trans I.ok.bsz I.ok.above)
theorem Inv.stkSub (I:Inv X pins σ H s):∀ b ∈ frs X.stack,b ∈ X.env.locals::X.fs:=fun b hb=>by
 rcases I.ok.stk with e | ⟨e,hf⟩
 · rw [e] at hb; exact List.mem_cons_of_mem _ hb
 · rw [e] at hb
   unfold frs at hb
   rw [List.filterMap_cons,hf] at hb
   exact hb
theorem Inv.stkFree (I:Inv X pins σ H s):∀ b ∈ frs X.stack,H b=none:=fun b hb=>by
 rcases List.mem_cons.mp (I.stkSub b hb) with e | hb
 · rw [e]; exact I.free
 · obtain ⟨_,o,ho,_⟩:=I.ok.funs.mem hb
   exact I.base.free b o ho (I.ok.frf b hb) fun z=>I.ok.exfs b z hb
theorem Inv.step {g':Array GenState} {t':Nat} {d':Drawn} {ch:List Addr} (I:Inv X pins σ H s)
 (hch:∀ b ∈ ch,(b ∈ X.ex\/X.s₀.heap.objs.size<=b)/\b ≠ X.env.locals/\(∀ x c,X.env.cells.lookup x=some c->c ≠ b)/\∀ p ∈ X.pn++pins,p.1 ≠ b)
 (keep:∀ b o,b ≠ X.env.locals->b ∉ X.fs->b ∉ ch->s.heap.get? b=some o->H b=none->h'.get? b=some o)
 (slot:∀ b o,b ≠ X.env.locals->b ∈ X.fs->b ∉ ch->s.heap.get? b=some o->H b=none->∃ sl,h'.get? b=some { o with slots:=sl }) (free:∀ b o,b ∉ ch->s.heap.get? b=some o->H b=none->H' b=none)
 (there:∀ b o,b ∉ ch->s.heap.get? b=some o->∃ o',h'.get? b=some o')
 (tups:∀ b xs,H b=some (.tup xs)->H' b=some (.tup xs)) (frzs:∀ b o u,H b=some (.frz o u)->H' b=some (.frz o u)) (tbls:∀ b ps,H b=some (.tbl ps)->∃ more,H' b=some (.tbl (ps++more)))
 (ns:∀ m,s.heap.Ns X.env.locals m->h'.Ns X.env.locals m) (hok:HOk X.prog X.w H' h') (hg:AllBare g') :
 Inv X pins σ H' { s with heap:=h',gens:=g',drawn:=d',toks:=t' }:=by
 have neL:∀ b o,X.s₀.heap.get? b=some o->b ≠ X.env.locals:=fun b o e=>Nat.ne_of_lt (Nat.lt_of_lt_of_le (Heap.lt_size e) I.ok.above)
 have neC:∀ b o,X.s₀.heap.get? b=some o->b ∉ X.ex->b ∉ ch:=fun b o e hx hb=>by
  rcases (hch b hb).1 with z | z
  · exact hx z
  · exact absurd (Nat.lt_of_lt_of_le (Heap.lt_size e) z) (Nat.lt_irrefl _)
 have cellK:∀ x c,X.env.cells.lookup x=some c->∀ v,s.heap.IsCell c v->h'.IsCell c v:=fun x c e v ⟨o,ho,hd⟩=>by
  have nch:c ∉ ch:=fun z=>(hch c z).2.2.1 x c e rfl
  by_cases hc:c ∈ X.fs
  · obtain ⟨sl,q⟩:=slot c o (I.cne x c e) hc nch ho (I.freeC x c e)
    exact ⟨_,q,hd⟩
  · exact ⟨o,keep c o (I.cne x c e) hc nch ho (I.freeC x c e),hd⟩
 refine ⟨I.ok,I.os,hg,⟨fun b o e n hb hx=>?_,fun b o e n hb hx=>?_,fun b o e n hx=>?_,fun b o e hx=>?_,fun b xs e=>tups b xs (I.base.tups b xs e),fun b o xs e=>frzs b o xs (I.base.frzs b o xs e),fun b ps e=>?_⟩,?_,fun x c e=>?_,?_,fun x c e=>?_,fun p hp=>?_,hok,I.len⟩
 · exact keep b o (neL b o e) hb (neC b o e hx) (I.base.keep b o e n hb hx) (I.base.free b o e n hx)
 · obtain ⟨sl,e1⟩:=I.base.slot b o e n hb hx
   obtain ⟨sl',e2⟩:=slot b _ (neL b o e) hb (neC b o e hx) e1 (I.base.free b o e n hx)
   exact ⟨sl',e2⟩
 · obtain ⟨o',e1⟩:=I.base.there b o e hx
   exact free b o' (neC b o e hx) e1 (I.base.free b o e n hx)
 · obtain ⟨o',e1⟩:=I.base.there b o e hx
   exact there b o' (neC b o e hx) e1
 · obtain ⟨m1,e1⟩:=I.base.tbls b ps e
   obtain ⟨m2,e2⟩:=tbls b _ e1
   exact ⟨m1++m2,by rw [e2,Array.append_assoc]⟩
 · obtain ⟨m,hn,hl⟩:=I.loc
   refine ⟨m,ns m hn,fun i x v e1 e2 e3=>?_⟩
   obtain ⟨u,r,l⟩:=hl i x v e1 e2 e3
   refine ⟨u,r,?_⟩
   rcases l with l | ⟨k,c,e,z⟩
   · exact .inl l
   · exact .inr ⟨k,c,e,cellK x c e _ z⟩
 · obtain ⟨v,z⟩:=I.cell x c e
   exact ⟨v,cellK x c e v z⟩
 · obtain ⟨m,⟨o,_,_,ho,_⟩,_⟩:=I.loc
   exact free _ o (fun z=>(hch _ z).2.1 rfl) ho I.free
 · obtain ⟨v,o,ho,hd⟩:=I.cell x c e
   exact free c o (fun z=>(hch c z).2.2.1 x c e rfl) ho (I.freeC x c e)
 · obtain ⟨e,n,ne,nf,d⟩:=I.pin p hp
   have nch:p.1 ∉ ch:=fun z=>(hch p.1 z).2.2.2 p hp rfl
   exact ⟨keep p.1 p.2 ne nf nch e n,free p.1 p.2 nch e n,ne,nf,d⟩
theorem Inv.un {t':Nat} (I:Inv X pins σ H s) (u:Un X.fs [] H H' s.heap h') (hok:HOk X.prog X.w H' h'):Inv X pins σ H' { s with heap:=h',toks:=t' }:=by
 obtain ⟨m,⟨o,es,ep,ho,r⟩,_⟩:=id I.loc
 obtain ⟨sl,hL⟩:=u.any ho I.free (by simp)
 exact I.step (g':=s.gens) (d':=s.drawn) (ch:=[]) (fun _ z=>nomatch z) (fun b o _ hb _ e n=>u.keep b o e n hb (by simp)) (fun b o _ hb _ e n=>u.slot b o e n hb (by simp)) (fun b o _ e n=>u.free b o e n (by simp)) (fun b o _ e=>u.there b o e (by simp)) u.tups u.frzs u.tbls (fun m' hm=>by
  obtain ⟨o',es',ep',ho',r'⟩:=hm
  rw [ho] at ho'; cases ho'
  exact ⟨_,es',ep',hL,r'⟩) hok I.bare
theorem Inv.call {g':Array GenState} {t':Nat} {d':Drawn} {ch:List Addr} (I:Inv X pins σ H s) (u:Un (frs X.stack) ch H H' s.heap h') (hok:HOk X.prog X.w H' h') (hg:AllBare g')
 (hch:∀ b ∈ ch,(b ∈ X.ex\/X.s₀.heap.objs.size<=b)/\b ≠ X.env.locals/\(∀ x c,X.env.cells.lookup x=some c->c ≠ b)/\∀ p ∈ X.pn++pins,p.1 ≠ b) :
 Inv X pins σ H' { s with heap:=h',gens:=g',drawn:=d',toks:=t' }:=by
 obtain ⟨m,⟨o,es,ep,ho,r⟩,_⟩:=id I.loc
 obtain ⟨sl,hL⟩:=u.any ho I.free fun z=>(hch _ z).2.1 rfl
 exact I.step (ch:=ch) hch (fun b o hL hb hc e n=>u.keep b o e n (fun z=>(List.mem_cons.mp (I.stkSub b z)).elim hL hb) hc) (fun b o _ _ hc e n=>u.any e n hc) (fun b o hc e n=>u.free b o e n hc) (fun b o hc e=>u.there b o e hc) u.tups u.frzs u.tbls (fun m' hm=>by
  obtain ⟨o',es',ep',ho',r'⟩:=hm
  rw [ho] at ho'; cases ho'
  exact ⟨_,es',ep',hL,r'⟩) hok hg
theorem Inv.turned {t':Nat} {it:Addr} (I:Inv X pins σ H s) (k:∀ b o,b ≠ it->s.heap.get? b=some o->h'.get? b=some o) (hn:H it=none) (hL:it ≠ X.env.locals)
 (h1:it ∈ X.ex\/X.s₀.heap.objs.size<=it) (h2:∀ x c,X.env.cells.lookup x=some c->c ≠ it) (h3:∀ p ∈ X.pn++pins,p.1 ≠ it):Inv X pins σ H { s with heap:=h',toks:=t' }:=by
 have nit:∀ b u,H b=some u->b ≠ it:=fun b u e z=>by rw [z,hn] at e; cases e
 refine I.step (g':=s.gens) (d':=s.drawn) (ch:=[it]) (fun b hb=>?_) (fun b o _ _ hc e _=>k b o (fun z=>hc (by simp [z])) e) (fun b o _ _ hc e _=>⟨o.slots,k b o (fun z=>hc (by simp [z])) e⟩) (fun _ _ _ _ n=>n)
  (fun b o hc e=>⟨o,k b o (fun z=>hc (by simp [z])) e⟩) (fun _ _ e=>e) (fun _ _ _ e=>e) (fun b ps e=>⟨#[],by rw [e]; simp⟩) (fun m hm=>?_) (fun b u e=>?_) I.bare
 · have e:b=it:=by simpa using hb
   subst e
   exact ⟨h1,hL,h2,h3⟩
 · obtain ⟨o,es,ep,ho,r⟩:=hm
   exact ⟨o,es,ep,k _ o (Ne.symm hL) ho,r⟩
 · refine (I.hok b u e).stay (fun c v hc q=>k c v ?_ q) (fun _ q=>q) fun _ _ q=>q
   rcases hc with z | z
   · rw [z]; exact nit b u e
   · exact nit c _ z
theorem Inv.tok (I:Inv X pins σ H s) (t:Nat):Inv X pins σ H { s with toks:=t }:=I.un (h':=s.heap) (t':=t) Un.refl I.hok
theorem Inv.kept {t':Nat} (I:Inv X pins σ H s) (k:∀ b u,s.heap.get? b=some u->h'.get? b=some u):Inv X pins σ H { s with heap:=h',toks:=t' }:=I.un (Un.kept k) (I.hok.kept k)
theorem Inv.laid {a:Addr} {o:HO} {t':Nat} (I:Inv X pins σ H s) (k:∀ b u,s.heap.get? b=some u->h'.get? b=some u) (hp:s.heap.objs.size<=a) (new:ObjOk X.prog X.w (upd H a o) h' a o) :
 Inv X pins σ (upd H a o) { s with heap:=h',toks:=t' }:=I.un (Un.laid k hp (I.hok.fresh hp)) (I.hok.laid k hp new)
theorem Inv.write {x e:Addr} {o:HO} {t':Nat} (I:Inv X pins σ H s) (mu:Mut (H x)) (he:e=x\/H e=some (.own x)) (k:∀ b u,b ≠ e->s.heap.get? b=some u->h'.get? b=some u) (heo:∃ u,h'.get? e=some u)
 (new:ObjOk X.prog X.w (upd H x o) h' x o):Inv X pins σ (upd H x o) { s with heap:=h',toks:=t' }:=I.un (Un.write mu he k heo) (I.hok.write mu he k heo new)
theorem Inv.pins_of {pins':List (Addr × Obj)} (I:Inv X pins σ H s) (h:∀ p ∈ pins',s.heap.get? p.1=some p.2/\H p.1=none/\p.1 ≠ X.env.locals/\p.1 ∉ X.fs/\∀ v,p.2.data ≠ .cell v):Inv X pins' σ H s:=
 ⟨I.ok,I.os,I.bare,I.base,I.loc,I.cell,I.free,I.freeC,fun p hp=>(List.mem_append.mp hp).elim (fun z=>I.pin p (List.mem_append_left _ z)) (h p),I.hok,I.len⟩
theorem zamx {N:List Str} (hN:N.Nodup) {i j:Nat} {x:Str} (a:N[i]?=some x) (b:N[j]?=some x):i=j:=by
 obtain ⟨h1,e1⟩:=List.getElem?_eq_some_iff.mp a
 obtain ⟨h2,e2⟩:=List.getElem?_eq_some_iff.mp b
 exact (List.getElem_inj hN).mp (e1.trans e2.symm)
theorem zalC {M:Model} {A:Around} {E:Value->Shared->Prop} {i:Nat} {x:Str} {v:V} {u:Value} {Q:Unit->Shared->Prop} (I:Inv X pins σ H s) (hN:X.N.Nodup) (hi:X.N[i]?=some x) (hx:Loc X.env.scope x) (r:RelV v u)
 (h:∀ s',Inv X pins (σ.set i (some v)) H s'->(∃ a,Heap.SameBut a s.heap s'.heap/\(a=X.env.locals\/X.env.cells.lookup x=some a))->Q () s') (hf:X.fn x=true\/X.env.scope.names.lookup x=some .local:=by first | exact .inl rfl | exact .inr rfl | assumption):wpAny M A (storeName X.env x u) Q E s:=by
 obtain ⟨m,hn,hl⟩:=id I.loc
 have hcls:(X.env.scope.kind == .class || (X.env.scope.kind == .module && X.env.locals != X.env.globals))=false:=by rw [I.ok.kind]; rfl
 have hiσ:i < σ.length:=by rw [I.len]; exact (List.getElem?_eq_some_iff.mp hi).1
 have cne:=I.cne
 have tracked:∀ {a:Addr} {h':Heap},(∃ o,s.heap.get? a=some o/\H a=none)->Heap.SameBut a s.heap h'->HOk X.prog X.w H h':=fun {a h'} ha hs b ob e=>by
  obtain ⟨_,_,hfree⟩:=ha
  refine (I.hok b ob e).stay (fun c w' hc q=>(hs.2 c ?_).trans q) (fun _ q=>q) fun _ _ q=>q
  rintro rfl
  rcases hc with rfl | hc
  · rw [hfree] at e; cases e
  · rw [hfree] at hc; cases hc
 rcases hx with hk | hk
 · refine wpAny_storeName_local hk hn (fun h' hn' hs=>?_) hcls
   obtain ⟨oL,_,_,hoL,_⟩:=id hn
   refine h _ ⟨I.ok,I.os,I.bare,⟨fun b o e n hb hx=>?_,fun b o e n hb hx=>?_,I.base.free,fun b o e hx=>?_,I.base.tups,I.base.frzs,I.base.tbls⟩,⟨_,hn',fun j y v' e1 e2 e3=>?_⟩,fun y c e=>?_,I.free,I.freeC,fun p hp=>?_,tracked ⟨oL,hoL,I.free⟩ hs,by simpa using I.len⟩ ⟨_,hs,.inl rfl⟩
   · exact (hs.2 b (Nat.ne_of_lt (Nat.lt_of_lt_of_le (Heap.lt_size e) I.ok.above))).trans (I.base.keep b o e n hb hx)
   · obtain ⟨sl,e1⟩:=I.base.slot b o e n hb hx
     exact ⟨sl,(hs.2 b (Nat.ne_of_lt (Nat.lt_of_lt_of_le (Heap.lt_size e) I.ok.above))).trans e1⟩
   · obtain ⟨o',e1⟩:=I.base.there b o e hx
     exact ⟨o',(hs.2 b (Nat.ne_of_lt (Nat.lt_of_lt_of_le (Heap.lt_size e) I.ok.above))).trans e1⟩
   · by_cases hj:j=i
     · subst hj
       rw [hi] at e1; cases e1
       rw [List.getElem?_set_self hiσ] at e2
       cases e2
       exact ⟨u,r,.inl ⟨hk,by simp⟩⟩
     · rw [List.getElem?_set_ne (Ne.symm hj)] at e2
       obtain ⟨u',r',q⟩:=hl j y v' e1 e2 e3
       refine ⟨u',r',?_⟩
       rcases q with ⟨k,e⟩ | ⟨k,c,e,z⟩
       · refine .inl ⟨k,?_⟩
         have:y ≠ x:=fun e=>hj (zamx hN e1 (e ▸ hi))
         simp [this,e]
       · exact .inr ⟨k,c,e,z.sameBut hs (cne y c e)⟩
   · obtain ⟨w',z⟩:=I.cell y c e
     exact ⟨w',z.sameBut hs (cne y c e)⟩
   · obtain ⟨e,n,ne,nf,d⟩:=I.pin p hp
     exact ⟨(hs.2 p.1 ne).trans e,n,ne,nf,d⟩
 · have hfn:X.fn x=true:=by
    rcases hf with z | z
    · exact z
    · rw [z] at hk; cases hk
   obtain ⟨c,hc⟩:=I.ok.has x (.inl hk)
   obtain ⟨w',z⟩:=I.cell x c hc
   refine wpAny_storeName_cell I.ok.kind hk hc z (fun h' hc' hs=>?_)
   obtain ⟨oc,hoc,hocd⟩:=id z
   refine h { s with heap:=h' } ⟨I.ok,I.os,I.bare,⟨fun b o e n hb hx=>?_,fun b o e n hb hx=>?_,I.base.free,fun b o e hx=>?_,I.base.tups,I.base.frzs,I.base.tbls⟩,⟨m,hn.sameBut hs (Ne.symm (cne x c hc)),fun j y v' e1 e2 e3=>?_⟩,fun y c' e=>?_,I.free,I.freeC,fun p hp=>?_,tracked ⟨oc,hoc,I.freeC x c hc⟩ hs,by simpa using I.len⟩ ⟨c,hs,.inr hc⟩
   · exact (hs.2 b (Nat.ne_of_lt (Nat.lt_of_lt_of_le (Heap.lt_size e) (I.ok.cab x c hfn hc)))).trans (I.base.keep b o e n hb hx)
   · obtain ⟨sl,e1⟩:=I.base.slot b o e n hb hx
     exact ⟨sl,(hs.2 b (Nat.ne_of_lt (Nat.lt_of_lt_of_le (Heap.lt_size e) (I.ok.cab x c hfn hc)))).trans e1⟩
   · obtain ⟨o',e1⟩:=I.base.there b o e hx
     exact ⟨o',(hs.2 b (Nat.ne_of_lt (Nat.lt_of_lt_of_le (Heap.lt_size e) (I.ok.cab x c hfn hc)))).trans e1⟩
   · by_cases hj:j=i
     · subst hj
       rw [hi] at e1; cases e1
       rw [List.getElem?_set_self hiσ] at e2
       cases e2
       exact ⟨u,r,.inr ⟨.inl hk,c,hc,hc'⟩⟩
     · rw [List.getElem?_set_ne (Ne.symm hj)] at e2
       obtain ⟨u',r',q⟩:=hl j y v' e1 e2 e3
       refine ⟨u',r',?_⟩
       rcases q with q | ⟨k,c',e,z'⟩
       · exact .inl q
       · refine .inr ⟨k,c',e,z'.sameBut hs ?_⟩
         rintro rfl
         exact hj (zamx hN e1 (I.ok.inj _ _ _ e hc ▸ hi))
   · by_cases hcc:c'=c
     · subst hcc; exact ⟨_,hc'⟩
     · obtain ⟨w2,z2⟩:=I.cell y c' e
       exact ⟨w2,z2.sameBut hs hcc⟩
   · obtain ⟨e,n,ne,nf,d⟩:=I.pin p hp
     refine ⟨(hs.2 p.1 ?_).trans e,n,ne,nf,d⟩
     intro q
     rw [q,hoc] at e
     have q':oc=p.2:=Option.some.inj e
     exact d w' (by rw [<- q']; exact hocd)
theorem zam1 {M:Model} {A:Around} {E:Value->Shared->Prop} {i:Nat} {x:Str} {v:V} {u:Value} {Q:Unit->Shared->Prop} (I:Inv X pins σ H s) (hN:X.N.Nodup) (hi:X.N[i]?=some x) (hx:Loc X.env.scope x) (r:RelV v u)
 (h:∀ s',Inv X pins (σ.set i (some v)) H s'->Q () s') (hf:X.fn x=true\/X.env.scope.names.lookup x=some .local:=by first | exact .inl rfl | exact .inr rfl | assumption):wpAny M A (storeName X.env x u) Q E s:=
 zalC I hN hi hx r (fun s' I' _=>h s' I') hf
theorem Inv.call' {s':Shared} {ch:List Addr} (I:Inv X pins σ H s) (ho:s'.os=s.os) (u:Un (frs X.stack) ch H H' s.heap s'.heap) (hok:HOk X.prog X.w H' s'.heap) (hg:AllBare s'.gens)
 (hch:∀ b ∈ ch,(b ∈ X.ex\/X.s₀.heap.objs.size<=b)/\b ≠ X.env.locals/\(∀ x c,X.env.cells.lookup x=some c->c ≠ b)/\∀ p ∈ X.pn++pins,p.1 ≠ b):Inv X pins σ H' s':=by
 obtain ⟨h',g',d',t',o'⟩:=s'
 have e:o'=s.os:=ho
 subst e
 exact I.call (g':=g') (t':=t') (d':=d') u hok hg hch
end
noncomputable abbrev XK:=Value->Option Addr->Hp->Prop
noncomputable abbrev St:=List (Option V)
noncomputable abbrev VK:=V->Hp->Prop
noncomputable abbrev TE:=St->Hp->VK->Prop
noncomputable abbrev TT:=St->Hp->(Bool->Hp->Prop)->Prop
noncomputable abbrev TA:=St->Hp->(List V->Hp->Prop)->Prop
structure Ends where
 nx:St->Hp->Prop
 rt:VK
 bk:St->Hp->Prop:=fun _ _=>False
 ct:St->Hp->Prop:=fun _ _=>False
noncomputable abbrev TS:=Ends->St->Hp->Prop
noncomputable def EP (X:Cx) (pins:List (Addr × Obj)) (σ:St) (Q:VK) (u:Value) (s':Shared):Prop:=∃ v H',Inv X pins σ H' s'/\RelV v u/\Q v H'
noncomputable def TP (X:Cx) (pins:List (Addr × Obj)) (σ:St) (Q:Bool->Hp->Prop) (b:Bool) (s':Shared):Prop:=∃ H',Inv X pins σ H' s'/\Q b H'
noncomputable def AP (X:Cx) (pins:List (Addr × Obj)) (σ:St) (Q:List V->Hp->Prop) (us:List Value) (s':Shared):Prop:=∃ vs H',Inv X pins σ H' s'/\Vals vs us/\Q vs H'
noncomputable def SP (X:Cx) (pins:List (Addr × Obj)) (D:Ends) (f:Flow) (s':Shared):Prop:=
 match f with
 | .next=>∃ σ' H',Inv X pins σ' H' s'/\D.nx σ' H'
 | .brk=>∃ σ' H',Inv X pins σ' H' s'/\D.bk σ' H'
 | .cont=>∃ σ' H',Inv X pins σ' H' s'/\D.ct σ' H'
 | .ret u=>∃ v σ' H',Inv X pins σ' H' s'/\RelV v u/\D.rt v H'
noncomputable def PE (X:Cx) (e:Expr) (t:TE):Prop:=
 ∀ (pins:List (Addr × Obj)) (s:Shared) (σ:St) (H:Hp) (Q:VK),Inv X pins σ H s->t σ H Q->wpAny (model X.prog X.w) X.A (eval e X.env) (EP X pins σ Q) X.xe s
noncomputable def PT (X:Cx) (e:Expr) (t:TT):Prop:=
 ∀ (pins:List (Addr × Obj)) (s:Shared) (σ:St) (H:Hp) (Q:Bool->Hp->Prop),Inv X pins σ H s->t σ H Q->wpAny (model X.prog X.w) X.A (isTrue e X.env (eval e X.env)) (TP X pins σ Q) X.xe s
noncomputable def PW (X:Cx) (e:Expr) (t:TT):Prop:=
 ∀ (whole:Sem Value) (pins:List (Addr × Obj)) (s:Shared) (σ:St) (H:Hp) (Q:Bool->Hp->Prop),Inv X pins σ H s->t σ H Q->wpAny (model X.prog X.w) X.A (isTrue e X.env whole) (TP X pins σ Q) X.xe s
theorem PW.pt {X:Cx} {e:Expr} {t:TT} (h:PW X e t):PT X e t:=h _
noncomputable def PA (X:Cx) (es:List Expr) (t:TA):Prop:=
 ∀ (pos:Pos) (pins:List (Addr × Obj)) (s:Shared) (σ:St) (H:Hp) (Q:List V->Hp->Prop),Inv X pins σ H s->t σ H Q->wpAny (model X.prog X.w) X.A (spliced (backTo pos (starEach es X.env))) (AP X pins σ Q) X.xe s
noncomputable def PS (X:Cx) (st:Stmt) (t:TS):Prop:=
 ∀ (pins:List (Addr × Obj)) (s:Shared) (σ:St) (H:Hp) (D:Ends),Inv X pins σ H s->t D σ H->wpAny (model X.prog X.w) X.A (exec st X.env) (SP X pins D) X.xe s
noncomputable def PSs (X:Cx) (st:List Stmt) (t:TS):Prop:=
 ∀ (pins:List (Addr × Obj)) (s:Shared) (σ:St) (H:Hp) (D:Ends),Inv X pins σ H s->t D σ H->wpAny (model X.prog X.w) X.A (execs st X.env) (SP X pins D) X.xe s
theorem thn {α:Type} {t:Sem α} {Q Q':α->Shared->Prop} {M:Model} {A:Around} {E:Value->Shared->Prop} {s:Shared} (h:wpAny M A t Q E s) (hQ:∀ a s,Q a s->Q' a s):wpAny M A t Q' E s:=wpAny_mono h hQ fun _ _ x=>x
end L2
namespace L2
open PySem PySem.Spec PyProof.Rows
section
variable {X:Cx}
theorem bin {a b:Expr} {ta tb:TE} (ha:PE X a ta) (hb:PE X b tb) {pins:List (Addr × Obj)} {s:Shared} {σ:St} {H:Hp} {R:V->V->Hp->Prop} (I:Inv X pins σ H s) (h:ta σ H fun x H1=>tb σ H1 fun y H2=>R x y H2)
 {α:Type} {Q:α->Shared->Prop} {f:Value->Value->Sem α}
 (hf:∀ v u s2 x y H2,Inv X pins σ H2 s2->RelV x v->RelV y u->R x y H2->wpAny (model X.prog X.w) X.A (f v u) Q X.xe s2) :
 wpAny (model X.prog X.w) X.A (eval a X.env) (fun v s₁=>wpAny (model X.prog X.w) X.A (eval b X.env) (fun u s₂=>wpAny (model X.prog X.w) X.A (f v u) Q X.xe s₂) X.xe s₁) X.xe s:=by
 refine thn (ha pins s σ H _ I h) fun v s1 ⟨x,H1,I1,r1,q1⟩=>?_
 refine thn (hb pins s1 σ H1 _ I1 q1) fun u s2 ⟨y,H2,I2,r2,q2⟩=>?_
 exact hf v u s2 x y H2 I2 r1 r2 q2
noncomputable def tVar (i:Nat):TE:=fun σ H Q=>∃ v,σ[i]?=some (some v)/\Q v H
noncomputable def tC (v:V):TE:=fun _ H Q=>Q v H
theorem zavh {i:Nat} {x:Str} {pos:Pos} (hN:X.N[i]?=some x) (hv:Vis X.env.scope x) (hd:(x == ("__debug__" : Str))=false:=by decide) (hcd:(x == ("__classdict__" : Str))=false:=by decide):PE X (.Name x pos) (tVar i):=by
 intro pins s σ H Q I h
 obtain ⟨v,e,h⟩:=h
 obtain ⟨m,hn,hl⟩:=I.loc
 obtain ⟨u,r,l⟩:=hl i x v hN e hv
 have fin:EP X pins σ Q u s:=⟨v,H,I,r,h⟩
 rcases l with ⟨hk,hm⟩ | ⟨hk,c,hc,hcell⟩
 · exact wpAny_Name (wpAny_loadName_local I.ok.kind hk hn hm fin) hd
 · rcases hk with hk | hk
   · exact wpAny_Name (wpAny_loadName_cell I.ok.kind hk hc hcell fin) hd
   · exact wpAny_Name (wpAny_loadName_free I.ok.kind hk hc hcell fin hcd) hd
theorem zauP {i j pos}:PE X (.Constant (.int i) j pos) (tC (.int i)):=fun _ _ _ H _ I h=>wpAny_Constant_int ⟨.int i,H,I.tok _,⟨_,rfl⟩,h⟩
theorem zavQ {b j pos}:PE X (.Constant (.bool b) j pos) (tC (.bl b)):=fun _ _ _ H _ I h=>Constant_bool ⟨.bl b,H,I,rfl,h⟩
theorem zavA {j pos}:PE X (.Constant .none j pos) (tC .non):=fun _ _ _ H _ I h=>Constant_none ⟨.non,H,I,rfl,h⟩
theorem zavw {x j pos}:PE X (.Constant (.str x) j pos) (tC (.str x)):=fun _ _ _ H _ I h=>Calls.Constant_str ⟨.str x,H,I.tok _,⟨_,rfl⟩,h⟩
noncomputable def Gl (X:Cx) (x:Str):Prop:=X.env.kindOf x=some .globalImplicit
theorem zakX {E:Value->Shared->Prop} {pins:List (Addr × Obj)} {s:Shared} {σ:St} {H:Hp} {x:Str} {u:Value} {pos:Pos} {Q:Value->Shared->Prop} (I:Inv X pins σ H s) (hg:Gl X x) (hm:X.mg x=some u) (h:Q u s)
 (hd:(x == ("__debug__" : Str))=false:=by decide):wpAny (model X.prog X.w) X.A (eval (.Name x pos) X.env) Q E s:=
 Calls.Name_function_global I.ok.kind hg (Calls.loadGlobal_global (by rw [I.ok.glob]; exact I.mod.glob.keeps I.bk) hm h) hd
theorem zagb {E:Value->Shared->Prop} {pins:List (Addr × Obj)} {s:Shared} {σ:St} {H:Hp} {x:Str} {u:Value} {pos:Pos} {Q:Value->Shared->Prop} (I:Inv X pins σ H s) (hg:Gl X x) (hm:X.mg x=none) (hv:bootBuiltins x=some u) (h:Q u s)
 (hn:x ≠ "__name__" := by decide) (hd:(x == ("__debug__" : Str))=false:=by decide):wpAny (model X.prog X.w) X.A (eval (.Name x pos) X.env) Q E s:=by
 obtain ⟨mb,h1,h2⟩:=I.mod.blt
 exact Calls.Name_function_global I.ok.kind hg (Calls.loadGlobal_builtin (by rw [I.ok.glob]; exact I.mod.glob.keeps I.bk) hm (by rw [I.ok.blt]; exact h1.keeps I.bk) ((h2 x hn).trans hv) h) hd
theorem zasP {x:Str} {v:V} {u:Value} {pos:Pos} (hg:Gl X x) (hm:X.mg x=some u) (r:RelV v u) (hd:(x == ("__debug__" : Str))=false:=by decide):PE X (.Name x pos) (tC v):=
 fun _ _ _ H _ I h=>zakX I hg hm ⟨v,H,I,r,h⟩ hd
theorem zatU {x:Str} {v:V} {u:Value} {pos:Pos} (hg:Gl X x) (hm:X.mg x=none) (hv:bootBuiltins x=some u) (r:RelV v u) (hn:x ≠ "__name__" := by decide) (hd:(x == ("__debug__" : Str))=false:=by decide):PE X (.Name x pos) (tC v):=
 fun _ _ _ H _ I h=>zagb I hg hm hv ⟨v,H,I,r,h⟩ hn hd
variable {a b:Expr} {ta tb:TE} {pos:Pos}
noncomputable def PC (X:Cx) (op:CmpOp) (a b:Expr) (t:TE):Prop:=
 ∀ (pins:List (Addr × Obj)) (s:Shared) (σ:St) (H:Hp) (Q:VK),Inv X pins σ H s->t σ H Q->
  wpAny (model X.prog X.w) X.A (eval a X.env) (fun v s₁=>wpAny (model X.prog X.w) X.A (eval b X.env) (fun u s₂=>wpAny (model X.prog X.w) X.A (compareOp op v u) (EP X pins σ Q) X.xe s₂) X.xe s₁) X.xe s
theorem zarb (b:Expr) {op:CmpOp} (h:op ≠ .In) (h2:op ≠ .NotIn):behindInMarks op b=false:=by
 have e1:(op == CmpOp.In)=false:=by cases op <;> first | rfl | exact absurd rfl h
 have e2:(op == CmpOp.NotIn)=false:=by cases op <;> first | rfl | exact absurd rfl h2
 cases b <;> simp [behindInMarks,e1,e2]
noncomputable def tB (t:TE):TT:=fun σ H Q=>t σ H fun x H1=>∃ c,x=.bl c/\Q c H1
theorem zaxp {op:CmpOp} {t:TE} (h:PC X op a b t) (h1:behindInMarks op b=false:=by first | exact zarb _ (by decide) (by decide) | rfl):PT X (.Compare a [op] [b] pos) (tB t):=by
 intro pins s σ H Q I hw
 refine wpAny_isTrue_Compare1 (thn (h pins s σ H _ I hw) fun v s1 h1=>thn h1 fun u s2 h2=>thn h2 fun c s3 ⟨x,H1,I1,r1,q1⟩=>?_) h1
 obtain ⟨d,rfl,q⟩:=q1
 cases r1
 exact wpAny_truthy_bool ⟨H1,I1,q⟩
theorem zavt {e:Expr} {t:TE} (h:PE X e t) (he:∀ whole,isTrue e X.env whole=(do let v <- whole; standAt e.pos; holding [v] (truthy v)):=by intro _; rfl):PT X e (tB t):=by
 intro pins s σ H Q I hw
 refine isTrue_plain (thn (h pins s σ H _ I hw) fun v s1 ⟨x,H1,I1,r1,q1⟩=>?_) (he _)
 obtain ⟨d,rfl,q⟩:=q1
 cases r1
 exact wpAny_truthy_bool ⟨H1,I1,q⟩
variable {tA tB':TT} {rest:List Expr}
noncomputable def tAnd (t u:TT):TT:=fun σ H Q=>t σ H fun c H1=>if c=true then u σ H1 Q else Q false H1
noncomputable def tOr (t u:TT):TT:=fun σ H Q=>t σ H fun c H1=>if c=true then Q true H1 else u σ H1 Q
noncomputable def tNot (t:TT):TT:=fun σ H Q=>t σ H fun c H1=>Q (!c) H1
theorem zat0 (ha:PT X a tA):PW X (.BoolOp .And [a] pos) tA:=by
 intro wh pins s σ H Q I h
 refine isTrue_and (thn (ha pins s σ H Q I h) fun c s1 e=>?_)
 cases c with
 | true=>exact isTrue_and_nil e
 | false=>exact e
theorem zaum (ha:PT X a tA):PW X (.BoolOp .Or [a] pos) tA:=by
 intro wh pins s σ H Q I h
 refine isTrue_or (thn (ha pins s σ H Q I h) fun c s1 e=>?_)
 cases c with
 | false=>exact isTrue_or_nil e
 | true=>exact e
theorem zau5 (ha:PT X a tA) (hb:PW X (.BoolOp .And (b::rest) pos) tB'):PW X (.BoolOp .And (a::b::rest) pos) (tAnd tA tB'):=by
 intro wh pins s σ H Q I h
 refine isTrue_and (thn (ha pins s σ H _ I h) fun c s1 ⟨H1,I1,q1⟩=>?_)
 cases c with
 | true=>exact hb wh pins s1 σ H1 Q I1 q1
 | false=>exact ⟨H1,I1,q1⟩
theorem zawB (ha:PT X a tA) (hb:PW X (.BoolOp .Or (b::rest) pos) tB'):PW X (.BoolOp .Or (a::b::rest) pos) (tOr tA tB'):=by
 intro wh pins s σ H Q I h
 refine isTrue_or (thn (ha pins s σ H _ I h) fun c s1 ⟨H1,I1,q1⟩=>?_)
 cases c with
 | true=>exact ⟨H1,I1,q1⟩
 | false=>exact hb wh pins s1 σ H1 Q I1 q1
theorem zauy (ha:PT X a tA):PT X (.UnaryOp .Not a pos) (tNot tA):=by
 intro pins s σ H Q I h
 exact isTrue_not (ha pins s σ H (fun c H1=>Q (!c) H1) I h)
noncomputable def zaww (ta tb:TE):TE:=fun σ H Q=>ta σ H fun x H1=>∃ c,x=.bl c/\if c=true then tb σ H1 Q else Q (.bl false) H1
noncomputable def zawC (ta:TE):TE:=fun σ H Q=>ta σ H fun x H1=>∃ c,x=.bl c/\Q (.bl (!c)) H1
theorem zavd {op} {t:TE} (h:PE X a t):PE X (.BoolOp op [a] pos) t:=fun pins s σ H Q I hw=>BoolOp_one (h pins s σ H Q I hw)
theorem zaup (ha:PE X a ta) (hb:PE X (.BoolOp .And (b::rest) pos) tb):PE X (.BoolOp .And (a::b::rest) pos) (zaww ta tb):=by
 intro pins s σ H Q I h
 refine BoolOp_and (thn (ha pins s σ H _ I h) fun v s1 ⟨x,H1,I1,r1,q1⟩=>?_)
 obtain ⟨c,rfl,q1⟩:=q1
 cases r1
 refine wpAny_truthy_bool ?_
 cases c with
 | true=>exact hb pins s1 σ H1 Q I1 q1
 | false=>exact ⟨.bl false,H1,I1,rfl,q1⟩
theorem zauX (ha:PE X a ta):PE X (.UnaryOp .Not a pos) (zawC ta):=by
 intro pins s σ H Q I h
 refine UnaryOp_ (thn (ha pins s σ H _ I h) fun v s1 ⟨x,H1,I1,r1,q1⟩=>?_)
 obtain ⟨c,rfl,q1⟩:=q1
 cases r1
 exact not_of (wpAny_truthy_bool ⟨.bl (!c),H1,I1,rfl,q1⟩)
noncomputable def tIf (t:TT) (ta tb:TE):TE:=fun σ H Q=>t σ H fun c H1=>if c=true then ta σ H1 Q else tb σ H1 Q
theorem zasf {c:Expr} (hc:PT X c tA) (ha:PE X a ta) (hb:PE X b tb):PE X (.IfExp c a b pos) (tIf tA ta tb):=by
 intro pins s σ H Q I h
 refine wpAny_IfExp (thn (hc pins s σ H _ I h) fun d s1 ⟨H1,I1,q1⟩=>?_)
 cases d with
 | true=>exact ha pins s1 σ H1 Q I1 q1
 | false=>exact hb pins s1 σ H1 Q I1 q1
end
end L2
namespace L2
open PySem PySem.Spec PyProof.Rows
noncomputable def SqL (K:PySem.W.Frag) (H:Hp) (a:Addr) (xs:List V):Prop:=
 Rd H a (.lst xs)\/
  ∃ (o:Obj) (its:Array Value) (n:Nat),K.lookup a=some o/\o.cls=.type "list" /\ o.dict=none/\o.data=.seq its n/\its.size<=sizeLine/\Vals xs its.toList
noncomputable def SqT (K:PySem.W.Frag) (H:Hp) (a:Addr) (xs:List V):Prop:=
 Rd H a (.tup xs)\/
  ∃ (o:Obj) (its:Array Value) (n:Nat),K.lookup a=some o/\o.cls=.type "tuple" /\ o.data=.seq its n/\its.size<=sizeLine/\Vals xs its.toList
noncomputable def absV:Value->Option V
 | .none=>some .non
 | .bool b=>some (.bl b)
 | .int i _=>some (.int i)
 | .str x _=>some (.str x)
 | .bytes b _=>some (.byt b)
 | .float b _=>some (.flt b)
 | .ref a=>some (.ref a)
 | .type n=>some (.ty n)
 | _=>none
theorem RelV.abs {x:V} {u:Value} (r:RelV x u):absV u=some x:=by
 cases x with
 | non=>cases r; rfl
 | bl _=>cases r; rfl
 | int _=>obtain ⟨t,rfl⟩:=r; rfl
 | str _=>obtain ⟨t,rfl⟩:=r; rfl
 | byt _=>obtain ⟨t,rfl⟩:=r; rfl
 | flt _=>obtain ⟨t,rfl⟩:=r; rfl
 | ref _=>cases r; rfl
 | ty _=>cases r; rfl
theorem RelV.inj {x y:V} {u:Value} (r:RelV x u) (q:RelV y u):x=y:=Option.some.inj (r.abs.symm.trans q.abs)
theorem Vals.inj:∀ {xs ys:List V} {us:List Value},Vals xs us->Vals ys us->xs=ys
 | _,_,_,.nil,.nil=>rfl
 | _,_,_,.cons r t,.cons r' t'=>by rw [r.inj r',Vals.inj t t']
section
variable {X:Cx} {pins:List (Addr × Obj)} {σ:St} {H:Hp} {s:Shared} {a:Addr} {xs ys:List V}
theorem SqL.of {K:PySem.W.Frag} (h:H a=some (.lst xs)):SqL K H a xs:=.inl (.inl h)
theorem Inv.list (I:Inv X pins σ H s) (h:SqL X.K H a xs):∃ its:List Value,Vals xs its/\PlainL s.heap a its.toArray/\xs.length<=sizeLine:=by
 rcases h with h | ⟨o,its,n,hk,hc,hd,hs,hz,r⟩
 · obtain ⟨z,its,n,r,e⟩:=h.ok I.hok
   exact ⟨its,r,⟨_,n,e,rfl,rfl,rfl⟩,z⟩
 · refine ⟨its.toList,r,⟨o,n,I.kIn a o hk,hc,hd,by simpa using hs⟩,?_⟩
   have e:=r.length
   simp only [Array.length_toList] at e
   omega
theorem Inv.tuple (I:Inv X pins σ H s) (h:SqT X.K H a xs):∃ its:List Value,Vals xs its/\IsTup s.heap a its.toArray/\xs.length<=sizeLine:=by
 rcases h with h | ⟨o,its,n,hk,hc,hs,hz,r⟩
 · obtain ⟨z,its,r,p⟩:=h.ok I.hok
   exact ⟨its,r,p,z⟩
 · refine ⟨its.toList,r,⟨o,I.kIn a o hk,hc,n,by simpa using hs⟩,?_⟩
   have e:=r.length
   simp only [Array.length_toList] at e
   omega
theorem Inv.list_inj (I:Inv X pins σ H s) (h:SqL X.K H a xs) (h':SqL X.K H a ys):xs=ys:=by
 obtain ⟨its,r,⟨o,n,e,_,_,d⟩,_⟩:=I.list h
 obtain ⟨its',r',⟨o',n',e',_,_,d'⟩,_⟩:=I.list h'
 rw [e] at e'; cases e'
 rw [d] at d'
 injection d' with d1 _
 have:its=its':=by simpa using congrArg Array.toList d1
 subst this
 exact r.inj r'
theorem Inv.tuple_inj (I:Inv X pins σ H s) (h:SqT X.K H a xs) (h':SqT X.K H a ys):xs=ys:=by
 obtain ⟨its,r,⟨o,e,_,n,d⟩,_⟩:=I.tuple h
 obtain ⟨its',r',⟨o',e',_,n',d'⟩,_⟩:=I.tuple h'
 rw [e] at e'; cases e'
 rw [d] at d'
 injection d' with d1 _
 have:its=its':=by simpa using congrArg Array.toList d1
 subst this
 exact r.inj r'
end
noncomputable abbrev Cx.wish (X:Cx) (E:Value->Shared->Prop):Cx:={ X with xe:=E }
noncomputable abbrev Cx.nox (X:Cx):Cx:=X.wish fun _ _=>False
theorem Cx.Ok.wish {X:Cx} (ok:X.Ok) (E:Value->Shared->Prop):(X.wish E).Ok:=
 ⟨ok.mod,ok.kind,ok.glob,ok.blt,ok.above,ok.inj,ok.has,ok.cab,ok.hd,ok.frames,ok.stk,ok.exf,ok.bs,ok.bsz,ok.noex,ok.exfs,ok.funs,ok.frf⟩
theorem Cx.Ok.unwish {X:Cx} {E:Value->Shared->Prop} (ok:(X.wish E).Ok):X.Ok:=
 ⟨ok.mod,ok.kind,ok.glob,ok.blt,ok.above,ok.inj,ok.has,ok.cab,ok.hd,ok.frames,ok.stk,ok.exf,ok.bs,ok.bsz,ok.noex,ok.exfs,ok.funs,ok.frf⟩
section
variable {X:Cx} {pins:List (Addr × Obj)} {σ:St} {H:Hp} {s:Shared} {E:Value->Shared->Prop}
theorem Inv.wish (I:Inv X pins σ H s) (E:Value->Shared->Prop):Inv (X.wish E) pins σ H s:=⟨I.ok.wish E,I.os,I.bare,I.base,I.loc,I.cell,I.free,I.freeC,I.pin,I.hok,I.len⟩
theorem Inv.unwish (I:Inv (X.wish E) pins σ H s):Inv X pins σ H s:=⟨I.ok.unwish,I.os,I.bare,I.base,I.loc,I.cell,I.free,I.freeC,I.pin,I.hok,I.len⟩
theorem SP.unwish {D:Ends} {f:Flow} {s':Shared} (h:SP (X.wish E) pins D f s'):SP X pins D f s':=by
 cases f with
 | next=>obtain ⟨σ',H',I,q⟩:=h; exact ⟨σ',H',I.unwish,q⟩
 | brk=>obtain ⟨σ',H',I,q⟩:=h; exact ⟨σ',H',I.unwish,q⟩
 | cont=>obtain ⟨σ',H',I,q⟩:=h; exact ⟨σ',H',I.unwish,q⟩
 | ret u=>obtain ⟨v,σ',H',I,r,q⟩:=h; exact ⟨v,σ',H',I.unwish,r,q⟩
theorem PSs.nox {st:List Stmt} {t:TS} (h:PSs X.nox st t):PSs X st t:=fun pins s σ H D I hw=>
 wpAny_mono (h pins s σ H D (I.wish _) hw) (fun _ _ q=>q.unwish) fun _ _ z=>False.elim z
end
section
variable {X:Cx} {st:Stmt} {rest:List Stmt} {t u:TS} {e:Expr} {te:TE} {pos:Pos}
noncomputable def zawq:TS:=fun D σ H=>D.nx σ H
noncomputable def tSeq (t u:TS):TS:=fun D σ H=>t { D with nx:=u D } σ H
theorem zat9:PSs X [] zawq:=fun _ _ σ H _ I h=>wpAny_execs_nil ⟨σ,H,I,h⟩
theorem zar2 (h1:PS X st t) (h2:PSs X rest u):PSs X (st::rest) (tSeq t u):=by
 intro pins s σ H D I h
 refine wpAny_execs_cons (thn (h1 pins s σ H { D with nx:=u D } I h) fun f s1 q=>?_)
 cases f with
 | next=>
  obtain ⟨σ',H',I',q⟩:=q
  exact h2 pins s1 σ' H' D I' q
 | ret v=>exact q
 | brk=>exact q
 | cont=>exact q
theorem zat2 (h1:PS X st t):PSs X [st] t:=by
 intro pins s σ H D I h
 refine wpAny_execs_cons (thn (h1 pins s σ H D I h) fun f s1 q=>?_)
 cases f with
 | next=>exact wpAny_execs_nil q
 | ret v=>exact q
 | brk=>exact q
 | cont=>exact q
theorem Inv.quiet {pins:List (Addr × Obj)} {σ:St} {H:Hp} {s:Shared} (I:Inv X pins σ H s):interactive X.env=false:=by simp [interactive,I.ok.kind]
noncomputable def zawd (te:TE):TS:=fun D σ H=>te σ H fun _ H1=>D.nx σ H1
theorem zatZ (he:PE X e te) (hs:swapsWith e none pos.line X.env=pure false:=by rfl):PS X (.Expr e pos) (zawd te):=by
 intro pins s σ H D I h
 exact wpAny_Expr_any (thn (he pins s σ H _ I h) fun v s1 ⟨x,H1,I1,r1,q1⟩=>⟨σ,H1,I1,q1⟩) I.quiet hs
noncomputable def tRet (te:TE):TS:=fun D σ H=>te σ H D.rt
theorem zavx (he:PE X e te):PS X (.Return (some e) pos) (tRet te):=by
 intro pins s σ H D I h
 exact wpAny_Return_some (thn (he pins s σ H _ I h) fun v s1 ⟨x,H1,I1,r1,q1⟩=>⟨x,σ,H1,I1,r1,q1⟩)
noncomputable def tIfS (c:TT) (t u:TS):TS:=fun D σ H=>c σ H fun b H1=>if b=true then t D σ H1 else u D σ H1
theorem zawr {c:Expr} {a b:List Stmt} {tc:TT} (hc:PT X c tc) (ha:PSs X a t) (hb:PSs X b u):PS X (.If c a b pos) (tIfS tc t u):=by
 intro pins s σ H D I h
 refine wpAny_If (thn (hc pins s σ H _ I h) fun d s1 ⟨H1,I1,q1⟩=>?_)
 cases d with
 | true=>exact ha pins s1 σ H1 D I1 q1
 | false=>exact hb pins s1 σ H1 D I1 q1
end
noncomputable abbrev TG:=V->St->Hp->(St->Hp->Prop)->Prop
noncomputable abbrev TGs:=List V->St->Hp->(St->Hp->Prop)->Prop
noncomputable def PG (X:Cx) (target:Expr) (t:TG):Prop:=
 ∀ (pins:List (Addr × Obj)) (s:Shared) (σ:St) (H:Hp) (v:V) (u:Value) (Q:St->Hp->Prop),Inv X pins σ H s->RelV v u->t v σ H Q->
  wpAny (model X.prog X.w) X.A (assign target X.env u) (fun _ s'=>∃ σ' H',Inv X pins σ' H' s'/\Q σ' H') X.xe s
noncomputable def PGs (X:Cx) (ts:List Expr) (t:TGs):Prop:=
 ∀ (pins:List (Addr × Obj)) (s:Shared) (σ:St) (H:Hp) (vs:List V) (us:List Value) (Q:St->Hp->Prop),Inv X pins σ H s->Vals vs us->t vs σ H Q->
  wpAny (model X.prog X.w) X.A (assignInOrder ((assignEach ts X.env).map (·.2)) us) (fun _ s'=>∃ σ' H',Inv X pins σ' H' s'/\Q σ' H') X.xe s
noncomputable abbrev TSet:=V->V->V->Hp->(Hp->Prop)->Prop
noncomputable def PSet (X:Cx) (t:TSet):Prop:=
 ∀ (pins:List (Addr × Obj)) (s:Shared) (σ:St) (H:Hp) (o i v:V) (ov iv u:Value) (Q:Hp->Prop),Inv X pins σ H s->RelV o ov->RelV i iv->RelV v u->t o i v H Q->
  wpAny (model X.prog X.w) X.A (setItem ov iv u) (fun _ s'=>∃ H',Inv X pins σ H' s'/\Q H') X.xe s
section
variable {X:Cx} {pos:Pos}
noncomputable def zamq (i:Nat):TG:=fun v σ H Q=>Q (σ.set i (some v)) H
theorem zalv {i:Nat} {x:Str} (hN:X.N.Nodup) (hi:X.N[i]?=some x) (hx:Loc X.env.scope x) (hf:X.fn x=true\/X.env.scope.names.lookup x=some .local:=by first | exact .inl rfl | exact .inr rfl | assumption):PG X (.Name x pos) (zamq i):=by
 intro pins s σ H v u Q I r h
 exact wpAny_assign_Name (zam1 I hN hi hx r (fun s' I'=>⟨_,H,I',h⟩) hf)
noncomputable def gNil:TGs:=fun vs σ H Q=>vs=[]/\Q σ H
noncomputable def zawA (t:TG) (u:TGs):TGs:=fun vs σ H Q=>∃ v r,vs=v::r/\t v σ H fun σ' H'=>u r σ' H' Q
theorem zasR:PGs X [] gNil:=by
 intro pins s σ H vs us Q I r h
 obtain ⟨e,h⟩:=h
 subst e
 cases r
 exact assignInOrder_nil ⟨σ,H,I,h⟩
theorem zamX {e:Expr} {es:List Expr} {t:TG} {u:TGs} (h1:PG X e t) (h2:PGs X es u)
 (hs:(assignEach (e::es) X.env).map (·.2)=assign e X.env::(assignEach es X.env).map (·.2):=by rfl):PGs X (e::es) (zawA t u):=by
 intro pins s σ H vs us Q I r h
 obtain ⟨v,vr,e1,h⟩:=h
 subst e1
 cases r with
 | cons r rr=>
  rw [hs]
  refine assignInOrder_cons (thn (h1 pins s σ H _ _ _ I r h) fun _ s1 ⟨σ1,H1,I1,q1⟩=>?_)
  exact h2 pins s1 σ1 H1 _ _ Q I1 rr q1
noncomputable def gTup (K:PySem.W.Frag) (n:Nat) (t:TGs):TG:=fun v σ H Q=>∃ a xs,v=.ref a/\SqT K H a xs/\xs.length=n/\t xs σ H Q
theorem zavp {es:List Expr} {k:Nat} {t:TGs} {n:Nat} (hc:X.calm=true) (h:PGs X es t)
 (hn:(assignEach es X.env).length=n:=by rfl) (hst:(assignEach es X.env).findIdx? (·.1)=none:=by rfl):PG X (.Tuple es k pos) (gTup X.K n t):=by
 intro pins s σ H v u Q I r hw
 obtain ⟨a,xs,e1,hq,hl,hw⟩:=hw
 subst e1
 cases r
 obtain ⟨its,rv,ht,hz⟩:=I.tuple hq
 refine assign_Tuple_tuple (I.ok.hd hc) ht (by simp [hn,<- hl,rv.length]) hst fun h' hx=>?_
 have I1:Inv X pins σ H { s with heap:=h' }:=I.kept (t':=s.toks) fun b o e=>hx b o (Nat.ne_of_lt (Heap.lt_size e)) e
 exact h pins _ σ H xs _ Q I1 (by simpa using rv) hw
noncomputable def gSub (to ti:TE) (t:TSet):TG:=fun v σ H Q=>to σ H fun o H1=>ti σ H1 fun i H2=>t o i v H2 fun H3=>Q σ H3
theorem zaui {o i:Expr} {to ti:TE} {t:TSet} (ho:PE X o to) (hi:PE X i ti) (hs:PSet X t)
 (ha:∀ v,assign (.Subscript o i pos) X.env v=(do
  let ov <- holding [v] (eval o X.env)
  let iv <- holding [v,ov] (eval i X.env)
  standAt pos
  holding [v,ov,iv] (setItem ov iv v)
  release [v,ov,iv] []):=by intro _; rfl):PG X (.Subscript o i pos) (gSub to ti t):=by
 intro pins s σ H v u Q I r h
 rw [ha]
 refine wpAny_bind (wpAny_holding (thn (ho pins s σ H _ I h) fun ov s1 ⟨x,H1,I1,r1,q1⟩=>?_))
 refine wpAny_bind (wpAny_holding (thn (hi pins s1 σ H1 _ I1 q1) fun iv s2 ⟨y,H2,I2,r2,q2⟩=>?_))
 refine wpAny_bind (wpAny_standAt (wpAny_bind (wpAny_holding (thn (hs pins s2 σ H2 x y v ov iv u _ I2 r1 r2 r q2) fun _ s3 ⟨H3,I3,q3⟩=>?_))))
 exact wpAny_release ⟨σ,H3,I3,q3⟩
noncomputable def tAsg (te:TE) (g:TG):TS:=fun D σ H=>te σ H fun x H1=>g x σ H1 D.nx
theorem zavu {tg e:Expr} {te:TE} {g:TG} (he:PE X e te) (hg:PG X tg g) (hs:swapsWithSole [tg] e pos.line X.env=pure false:=by rfl) (hw:swappedStores [tg] e X.env=pure none:=by rfl)
 (h1:(assignEach [tg] X.env).map (·.2)=[assign tg X.env]:=by rfl):PS X (.Assign [tg] e pos) (tAsg te g):=by
 intro pins s σ H D I h
 refine wpAny_Assign_stores (thn (he pins s σ H _ I h) fun v s1 ⟨x,H1,I1,r1,q1⟩=>?_) hs hw
 rw [h1]
 exact thn (hg pins s1 σ H1 x v _ I1 r1 q1) fun _ s2 q=>q
theorem zauF {i:Nat} {x:Str} {e:Expr} {te:TE} {pos':Pos} (hN:X.N.Nodup) (hi:X.N[i]?=some x) (hx:Loc X.env.scope x) (he:PE X e te) (hs:swapsWith e (some (.Name x pos')) pos.line X.env=pure false:=by rfl) (hf:X.fn x=true\/X.env.scope.names.lookup x=some .local:=by first | exact .inl rfl | exact .inr rfl | assumption) :
 PS X (.Assign [.Name x pos'] e pos) (tAsg te (zamq i)):=by
 intro pins s σ H D I h
 refine wpAny_Assign_Name (thn (he pins s σ H _ I h) fun v s1 ⟨y,H1,I1,r1,q1⟩=>?_) hs
 exact zam1 I1 hN hi hx r1 (fun s2 I2=>⟨_,H1,I2,q1⟩) hf
end
section
variable {X:Cx} {pos:Pos}
noncomputable def zavL (c:TT) (tb:TS):TS:=fun D σ H=>∃ W:Nat->St->Hp->Prop,(∃ m,W m σ H)/\∀ m σ H,W m σ H->
 c σ H fun b H1=>if b=true then ∃ N:St->Hp->Prop,(∀ σ' H',N σ' H'->∃ m',m' < m/\W m' σ' H')/\tb { D with nx:=N,ct:=N,bk:=D.nx } σ H1 else D.nx σ H1
theorem zarg {c:Expr} {body:List Stmt} {tc:TT} {tb:TS} (hp:PassesOwn (model X.prog X.w) X.A X.env X.xe) (hc:PT X c tc) (hb:PSs X body tb):PS X (.While c body [] pos) (zavL tc tb):=by
 intro pins s σ H D I h
 obtain ⟨W,⟨m0,w0⟩,turn⟩:=h
 refine wpAny_While (codeAny_whileLoop (fun n s'=>∃ σ' H',Inv X pins σ' H' s'/\W n σ' H') ?_ m0 ⟨σ,H,I,w0⟩)
 rintro n s1 ⟨σ1,H1,I1,w1⟩
 refine wpAny_passesOwn hp (thn (hc pins s1 σ1 H1 _ I1 (turn n σ1 H1 w1)) fun b s2 ⟨H2,I2,q2⟩=>?_)
 cases b with
 | true=>
  obtain ⟨N,hN,q2⟩:=q2
  rw [if_pos rfl]
  refine wpAny_passesOwn hp (thn (hb pins s2 σ1 H2 _ I2 q2) fun f s3 q3=>?_)
  cases f with
  | next=>
   obtain ⟨σ3,H3,I3,n3⟩:=q3
   obtain ⟨m',hm,w3⟩:=hN σ3 H3 n3
   exact ⟨m',hm,σ3,H3,I3,w3⟩
  | cont=>
   obtain ⟨σ3,H3,I3,n3⟩:=q3
   obtain ⟨m',hm,w3⟩:=hN σ3 H3 n3
   exact ⟨m',hm,σ3,H3,I3,w3⟩
  | brk=>exact q3
  | ret v=>exact q3
 | false=>
  rw [if_neg Bool.false_ne_true]
  exact wpAny_execs_nil ⟨σ1,H2,I2,q2⟩
end
structure It where
 go:Nat->Hp->Prop
 yld:Nat->Hp->V->Hp->Prop
 stop:Nat->Hp->Prop
noncomputable def FpOk (X:Cx) (pins:List (Addr × Obj)) (H:Hp) (b:Addr):Prop:=
 H b=none/\b ≠ X.env.locals/\b ∉ X.fs/\(b ∈ X.ex\/X.s₀.heap.objs.size<=b)/\(∀ x c,X.env.cells.lookup x=some c->c ≠ b)/\∀ p ∈ X.pn++pins,p.1 ≠ b
theorem Inv.fpOk {X:Cx} {pins:List (Addr × Obj)} {σ:St} {H H':Hp} {s:Shared} {b:Addr} (I:Inv X pins σ H s) (hb:s.heap.objs.size<=b) (hn:H' b=none):FpOk X pins H' b:=by
 refine ⟨hn,Nat.ne_of_gt (Nat.lt_of_lt_of_le I.lt hb),I.nofs hb,.inr (Nat.le_trans I.sz hb),fun x c e z=>?_,fun p hp z=>?_⟩
 · obtain ⟨v,q⟩:=I.cell x c e
   exact absurd (Nat.lt_of_lt_of_le q.lt (by rw [z]; exact hb)) (Nat.lt_irrefl _)
 · exact absurd (Nat.lt_of_lt_of_le (Heap.lt_size (I.pin p hp).1) (by rw [z]; exact hb)) (Nat.lt_irrefl _)
structure Turn (P:Program) (w:World) (K:PySem.W.Frag) (tg:Expr) (J:It) (fp:List Addr) (it:Addr) (tn:Nat->Heap->Prop):Prop where
 mem:it ∈ fp
 obj:∀ i h,tn i h->∀ b ∈ fp,∃ o,h.get? b=some o/\∀ v,o.data ≠ .cell v
 keep:∀ i h h',tn i h->(∀ b ∈ fp,∀ o,h.get? b=some o->h'.get? b=some o)->tn i h'
 item:∀ (X:Cx),X.prog=P->X.w=w->X.K=K->X.calm=true->∀ (i:Nat) (pins:List (Addr × Obj)) (s:Shared) (σ:St) (H:Hp) (E:Value->Shared->Prop),Inv X pins σ H s->(∀ b ∈ fp,FpOk X pins H b)->tn i s.heap->J.go i H->
  wpAny (model P w) X.A (pyNext (.ref it)) (fun r s1=>∃ u,r=some u/\
   wpAny (model P w) X.A (letOwnedTupleGo tg (.ref it) u) (fun _ s2=>∃ x H',Inv X pins σ H' s2/\RelV x u/\J.yld i H x H'/\tn (i + 1) s2.heap/\∀ b ∈ fp,H' b=none) E s1) E s
 done:∀ (X:Cx),X.prog=P->X.w=w->X.K=K->X.calm=true->∀ (i:Nat) (pins:List (Addr × Obj)) (s:Shared) (σ:St) (H:Hp) (E:Value->Shared->Prop),Inv X pins σ H s->(∀ b ∈ fp,FpOk X pins H b)->tn i s.heap->J.stop i H->
  wpAny (model P w) X.A (pyNext (.ref it)) (fun r s1=>r=none/\Inv X pins σ H s1) E s
 self:∀ (A:Around) (i:Nat) (s:Shared) (Q:Value->Shared->Prop) (E:Value->Shared->Prop),tn i s.heap->Q (.ref it) s->wpAny (model P w) A (pyIter (.ref it)) Q E s
noncomputable abbrev TI:=St->Hp->(It->Hp->Prop)->Prop
noncomputable def PIE (X:Cx) (pins:List (Addr × Obj)) (σ:St) (tg:Expr) (R:It->Hp->Prop) (itv:Value) (s2:Shared):Prop:=
 ∃ (it:Addr) (fp:List Addr) (tn:Nat->Heap->Prop) (J:It) (H':Hp),itv=.ref it/\Inv X pins σ H' s2/\Turn X.prog X.w X.K tg J fp it tn/\tn 0 s2.heap/\(∀ b ∈ fp,FpOk X pins H' b)/\R J H'
noncomputable def PI (X:Cx) (tg iter:Expr) (wi:TI):Prop:=
 ∀ (pins:List (Addr × Obj)) (s:Shared) (σ:St) (H:Hp) (R:It->Hp->Prop),Inv X pins σ H s->wi σ H R->
  wpAny (model X.prog X.w) X.A (eval iter X.env) (fun v s1=>wpAny (model X.prog X.w) X.A (pyIter v) (PIE X pins σ tg R) X.xe s1) X.xe s
theorem zaps {M:Model} {A:Around} {E:Value->Shared->Prop} {s:Shared} {tg:Expr} {it:Addr} {u:Value} {o:Obj} {n:String} {vs:Array Value} {Q:Unit->Shared->Prop} (ho:s.heap.get? it=some o) (hc:o.cls=.type n) (hd:o.data=.fields vs)
 (hn:["enumerate", "zip", "dict_itemiterator", "dict_reverseitemiterator", "odict_iterator", "itertools.zip_longest", "itertools.pairwise"].contains n=false) (hQ:Q () s):wpAny M A (letOwnedTupleGo tg (.ref it) u) Q E s:=by
 unfold letOwnedTupleGo
 cases tg <;> first
  | exact wpAny_pure hQ
  | (cases u <;> first
   | exact wpAny_pure hQ
   | (refine wpAny_bind (wpAny_load ho ?_); rw [hc,hd]; show wpAny M A (if (["enumerate", "zip", "dict_itemiterator", "dict_reverseitemiterator", "odict_iterator", "itertools.zip_longest", "itertools.pairwise"].contains n && vs[0]? == some (rawInt _))=true then _ else _) Q E s; rw [if_neg (by intro h; rw [hn,Bool.false_and] at h; cases h)]; exact wpAny_pure hQ))
noncomputable def Itl (K:PySem.W.Frag) (a:Addr):It:=
 ⟨fun i H=>∃ xs x,SqL K H a xs/\xs[i]?=some x,fun i H x H'=>H'=H/\∀ xs,SqL K H a xs->xs[i]?=some x,fun i H=>∃ xs,SqL K H a xs/\xs.length<=i⟩
noncomputable def Itr (lo:Int) (n:Nat):It:=⟨fun i _=>i < n,fun i H x H'=>H'=H/\x=.int (lo + i),fun i _=>n<=i⟩
theorem zap9 {P:Program} {w:World} {K:PySem.W.Frag} {tg:Expr} (a it:Addr):Turn P w K tg (Itl K a) [it] it (fun i h=>h.IsListIter it a i) where
 mem:=by simp
 obj:=fun i h st b hb=>by
  have e:b=it:=by simpa using hb
  subst e
  obtain ⟨o,e,c,d⟩:=st
  exact ⟨o,e,fun v z=>by rw [d] at z; cases z⟩
 keep:=fun i h h' st k=>st.at fun o e=>k it (by simp) o e
 item:=by
  intro X hP hw hK hc i pins s σ H E I hf st hg
  subst hP hw hK
  obtain ⟨xs,x,hq,hx⟩:=hg
  obtain ⟨its,rv,p,hz⟩:=I.list hq
  obtain ⟨u,hu,ru⟩:=rv.get hx
  obtain ⟨f0,f1,f2,f3,f4,f5⟩:=hf it (by simp)
  refine wpAny_pyNext_list_item st p.isList (x:=u) (by simpa using hu) fun h' st' sb=>?_
  have I1:Inv X pins σ H { s with heap:=h' }:=I.turned (t':=s.toks) (fun b o hb e=>(sb.2 b hb).trans e) f0 f1 f3 f4 f5
  obtain ⟨o,e,c,d⟩:=id st'
  exact ⟨u,rfl,zaps (s:={ s with heap:=h' }) e c d (by decide) ⟨x,H,I1,ru,⟨rfl,fun ys hy=>by rw [I.list_inj hy hq]; exact hx⟩,st',fun b hb=>(hf b hb).1⟩⟩
 done:=by
  intro X hP hw hK hc i pins s σ H E I hf st hg
  subst hP hw hK
  obtain ⟨xs,hq,hx⟩:=hg
  obtain ⟨its,rv,p,hz⟩:=I.list hq
  obtain ⟨f0,f1,f2,f3,f4,f5⟩:=hf it (by simp)
  have hl:=rv.length
  exact wpAny_pyNext_list_end (I.ok.hd hc) st p.isList (by simp; omega) fun h' eb=>⟨rfl,I.turned (t':=s.toks) (fun b o hb e=>eb b o hb e) f0 f1 f3 f4 f5⟩
 self:=fun _ _ _ _ _ st h=>wpAny_pyIter_listiter st h
theorem zapp {P:Program} {w:World} {K:PySem.W.Frag} {tg:Expr} (it:Addr) (lo:Int) (n:Nat):Turn P w K tg (Itr lo n) [it] it (fun i h=>IsRangeIter h it (lo + (i:Nat) * 1) ((n:Int) - (i:Nat)) 1) where
 mem:=by simp
 obj:=fun i h st b hb=>by
  have e:b=it:=by simpa using hb
  subst e
  exact ⟨_,st,fun v z=>by
   have z':Data.fields _=Data.cell v:=z
   cases z'⟩
 keep:=fun i h h' st k=>k it (by simp) _ st
 item:=by
  intro X hP hw hK hc i pins s σ H E I hf st hg
  subst hP hw hK
  obtain ⟨f0,f1,f2,f3,f4,f5⟩:=hf it (by simp)
  have W:=Walks.range (prog:=X.prog) (w:=X.w) (I.ok.hd hc) it lo 1 n
  refine W.item i s _ _ hg st fun v h' tk hv st' kk=>?_
  obtain ⟨t,rfl⟩:=hv
  have I1:Inv X pins σ H { s with heap:=h',toks:=tk }:=I.turned (fun b o hb e=>kk b o (by simpa using hb) e) f0 f1 f3 f4 f5
  refine ⟨_,rfl,zaps (s:={ s with heap:=h',toks:=tk }) (n := "range_iterator") st' rfl rfl (by decide) ⟨.int (lo + i),H,I1,⟨t,?_⟩,⟨rfl,rfl⟩,st',fun b hb=>(hf b hb).1⟩⟩
  rw [Int.mul_one]
 done:=by
  intro X hP hw hK hc i pins s σ H E I hf st hg
  subst hP hw hK
  obtain ⟨f0,f1,f2,f3,f4,f5⟩:=hf it (by simp)
  exact wpAny_pyNext_range_end (I.ok.hd hc) st (by have:n<=i:=hg; omega) fun h' eb=>⟨rfl,I.turned (t':=s.toks) (fun b o hb e=>eb b o hb e) f0 f1 f3 f4 f5⟩
 self:=fun _ _ _ _ _ st h=>wpAny_pyIter_rangeiter st h
end L2
namespace L2
open PySem PySem.Spec PyProof.Rows
section
variable {X:Cx} {tg:Expr}
noncomputable def zav5 (K:PySem.W.Frag) (tl:TE):TI:=fun σ H R=>tl σ H fun x H1=>∃ a,x=.ref a/\(∃ xs,SqL K H1 a xs)/\R (Itl K a) H1
theorem zasN {l:Expr} {tl:TE} (hl:PE X l tl):PI X tg l (zav5 X.K tl):=by
 intro pins s σ H R I h
 refine thn (hl pins s σ H _ I h) fun v s1 ⟨x,H1,I1,r1,q1⟩=>?_
 obtain ⟨a,e,⟨xs,hq⟩,q⟩:=q1
 subst e
 cases r1
 obtain ⟨its,rv,p,hz⟩:=I1.list hq
 refine wpAny_pyIter_list p.isList ?_
 refine ⟨s1.heap.objs.size,[s1.heap.objs.size],_,_,H1,rfl,I1.kept (t':=s1.toks) fun b o e=>Heap.get?_push_of_some _ e,zap9 a _,⟨_,Heap.get?_push_size _ rfl,rfl,rfl⟩,fun b hb=>?_,q⟩
 have e:b=s1.heap.objs.size:=by simpa using hb
 subst e
 exact I1.fpOk (Nat.le_refl _) (I1.hok.fresh (Nat.le_refl _))
theorem zanA {pins:List (Addr × Obj)} {σ:St} {H:Hp} {s:Shared} {R:It->Hp->Prop} {E:Value->Shared->Prop} {lo hi:Int} {t u v:Tok} {tk:Nat} (I:Inv X pins σ H s) (h1:-(2 ^ 62)<=lo) (h2:lo < 2 ^ 62) (h3:-(2 ^ 62)<=hi) (h4:hi < 2 ^ 62)
 (q:R (Itr lo (hi - lo).toNat) H):wpAny (model X.prog X.w) X.A (pyIter (.ref s.heap.objs.size)) (PIE X pins σ tg R) E { s with heap:=s.heap.push { cls:=.type "range", data:=.fields #[.int lo t,.int hi u,.int 1 v] },toks:=tk }:=by
 refine wpAny_pyIter_range (IsRange.new ..) (small_one h1 h2 h3 h4) ?_
 have I1:Inv X pins σ H { s with heap:=s.heap.push { cls:=.type "range", data:=.fields #[.int lo t,.int hi u,.int 1 v] },toks:=tk }:=I.kept fun b o e=>Heap.get?_push_of_some _ e
 refine ⟨(s.heap.push { cls:=.type "range", data:=.fields #[.int lo t,.int hi u,.int 1 v] }).objs.size,[(s.heap.push { cls:=.type "range", data:=.fields #[.int lo t,.int hi u,.int 1 v] }).objs.size],_,_,H,rfl,
  I1.kept (t':=tk) fun b o e=>Heap.get?_push_of_some _ e,zapp _ lo (hi - lo).toNat,?_,fun b hb=>?_,q⟩
 · have e1:lo + ((0:Nat):Int) * 1=lo:=by simp
   have e2:(((hi - lo).toNat:Nat):Int) - ((0:Nat):Int)=Builtin.Range.rangeSize lo hi 1:=by rw [rangeSize_one]; split <;> omega
   show IsRangeIter _ _ (lo + ((0:Nat):Int) * 1) ((((hi - lo).toNat:Nat):Int) - ((0:Nat):Int)) 1
   rw [e1,e2]
   exact Heap.get?_push_size _ rfl
 · have e:b=(s.heap.push { cls:=.type "range", data:=.fields #[.int lo t,.int hi u,.int 1 v] }).objs.size:=by simpa using hb
   subst e
   exact I1.fpOk (Nat.le_refl _) (I1.hok.fresh (Nat.le_refl _))
noncomputable def zawD (ta:TA):TI:=fun σ H R=>ta σ H fun vs H1=>∃ j:Int,vs=[.int j]/\-(2 ^ 62)<=j/\j < 2 ^ 62/\R (Itr 0 j.toNat) H1
noncomputable def zawv (ta:TA):TI:=fun σ H R=>ta σ H fun vs H1=>∃ i j:Int,vs=[.int i,.int j]/\(-(2 ^ 62)<=i/\i < 2 ^ 62/\-(2 ^ 62)<=j/\j < 2 ^ 62)/\R (Itr i (j - i).toNat) H1
theorem zaqh {a:Expr} {ta:TA} {p pos:Pos} (hg:Gl X "range") (hm:X.mg "range" = none) (ha:PA X [a] ta) (hs:starEach [a] X.env=[(false,eval a X.env)]:=by rfl):PI X tg (.Call (.Name "range" p) [a] [] pos) (zawD ta):=by
 intro pins s σ H R I h
 refine Call_ (zagb I hg hm boot_range (PyProof.Rows.callWith_type1 (thn (ha pos pins s σ H _ I h) fun us s1 ⟨vs,H1,I1,r1,q1⟩=>?_) hs rfl))
 obtain ⟨j,e,q1,q2,q⟩:=q1
 subst e
 cases r1 with
 | cons r rr=>
  cases rr
  obtain ⟨t,rfl⟩:=r
  exact call_range_1 (zanA I1 (by omega) (by omega) q1 q2 (by simpa using q))
theorem zaqv {a b:Expr} {ta:TA} {p pos:Pos} (hg:Gl X "range") (hm:X.mg "range" = none) (ha:PA X [a,b] ta) (hs:starEach [a,b] X.env=[(false,eval a X.env),(false,eval b X.env)]:=by rfl) (hs2:starEach [b] X.env=[(false,eval b X.env)]:=by rfl) :
 PI X tg (.Call (.Name "range" p) [a,b] [] pos) (zawv ta):=by
 intro pins s σ H R I h
 refine Call_ (zagb I hg hm boot_range (PyProof.Rows.callWith_type1 (thn (ha pos pins s σ H _ I h) fun us s1 ⟨vs,H1,I1,r1,q1⟩=>?_) (by rw [hs,hs2]) (by rw [hs2]; rfl)))
 obtain ⟨i,j,e,⟨q1,q2,q3,q4⟩,q⟩:=q1
 subst e
 cases r1 with
 | cons r rr=>
  cases rr with
  | cons r' rr=>
   cases rr
   obtain ⟨t,rfl⟩:=r
   obtain ⟨t',rfl⟩:=r'
   exact call_range_2 (zanA I1 q1 q2 q3 q4 q)
noncomputable def tFor (wi:TI) (g:TG) (tb:TS):TS:=fun D σ H=>wi σ H fun J H1=>∃ W:Nat->Nat->St->Hp->Prop,(∃ m,W 0 m σ H1)/\∀ i m σ H,W i m σ H->
 (J.stop i H/\D.nx σ H)\/(J.go i H/\∃ N:St->Hp->Prop,(∀ σ' H',N σ' H'->∃ m',m' < m/\W (i + 1) m' σ' H')/\∀ x H',J.yld i H x H'->g x σ H' fun σ2 H2=>tb { D with nx:=N,ct:=N,bk:=D.nx } σ2 H2)
noncomputable def zai0 (fp:List Addr) (h:Heap):List (Addr × Obj):=fp.filterMap fun b=>(h.get? b).map fun o=>(b,o)
theorem zagv {fp:List Addr} {h:Heap} {b:Addr} {o:Obj} (hb:b ∈ fp) (e:h.get? b=some o):(b,o) ∈ zai0 fp h:=List.mem_filterMap.mpr ⟨b,hb,by rw [e]; rfl⟩
theorem zapX {fp:List Addr} {h:Heap} {p:Addr × Obj} (hp:p ∈ zai0 fp h):p.1 ∈ fp/\h.get? p.1=some p.2:=by
 obtain ⟨b,hb,e⟩:=List.mem_filterMap.mp hp
 cases q:h.get? b with
 | none=>rw [q] at e; cases e
 | some o=>
  rw [q] at e
  have e':(b,o)=p:=Option.some.inj e
  subst e'
  exact ⟨hb,q⟩
theorem Inv.pinned {pins:List (Addr × Obj)} {σ:St} {H:Hp} {s:Shared} {fp:List Addr} (I:Inv X pins σ H s) (hf:∀ b ∈ fp,FpOk X pins H b) (ho:∀ b ∈ fp,∃ o,s.heap.get? b=some o/\∀ v,o.data ≠ .cell v):Inv X (pins++zai0 fp s.heap) σ H s:=
 I.pins_of fun p hp=>(List.mem_append.mp hp).elim (fun z=>I.pin p (List.mem_append_right _ z)) fun z=>by
  obtain ⟨hb,e⟩:=zapX z
  obtain ⟨f0,f1,f2,_⟩:=hf p.1 hb
  obtain ⟨o,e',d⟩:=ho p.1 hb
  rw [e] at e'; cases e'
  exact ⟨e,f0,f1,f2,d⟩
theorem Inv.unpinned {pins pl:List (Addr × Obj)} {σ:St} {H:Hp} {s:Shared} (I:Inv X (pins++pl) σ H s):Inv X pins σ H s:=I.pins_of fun p hp=>I.pin p (List.mem_append_right _ (List.mem_append_left _ hp))
theorem zau9 {iter:Expr} {body:List Stmt} {wi:TI} {g:TG} {tb:TS} {pos:Pos} (hp:PassesOwn (model X.prog X.w) X.A X.env X.xe) (hc:X.calm=true) (hi:PI X tg iter wi) (hg:PG X tg g) (hb:PSs X body tb)
 (hs:∀ x,foldedSetIterable iter X.env x=pure x:=by intro _; rfl):PS X (.For tg iter body [] pos) (tFor wi g tb):=by
 intro pins s σ H D I h
 refine wpAny_For (thn (hi pins s σ H _ I h) fun v s1 h1=>thn h1 fun itv s2 h2=>?_) hs
 obtain ⟨it,fp,tn,J,H2,e,I2,T,st2,f2,W,⟨m0,w0⟩,turn⟩:=h2
 subst e
 have stat:∀ {H':Hp},(∀ b ∈ fp,H' b=none)->∀ b ∈ fp,FpOk X pins H' b:=fun hn b hb=>⟨hn b hb,(f2 b hb).2⟩
 refine codeAny_forLoop_any (fun n s'=>∃ i σ' H',Inv X pins σ' H' s'/\tn i s'.heap/\(∀ b ∈ fp,H' b=none)/\W i n σ' H') ?_ m0 ⟨0,σ,H2,I2,st2,fun b hb=>(f2 b hb).1,w0⟩
 rintro n s3 ⟨i,σ3,H3,I3,st3,fr3,w3⟩
 rcases turn i n σ3 H3 w3 with ⟨stop,qn⟩ | ⟨go,N,hN,step⟩
 · refine wpAny_passesOwn hp (thn (T.done X rfl rfl rfl hc i pins s3 σ3 H3 X.xe I3 (stat fr3) st3 stop) fun r s4 ⟨hr,I4⟩=>?_)
   subst hr
   exact wpAny_execs_nil ⟨σ3,H3,I4,qn⟩
 · refine wpAny_passesOwn hp (thn (T.item X rfl rfl rfl hc i pins s3 σ3 H3 X.xe I3 (stat fr3) st3 go) fun r s4 ⟨u,hr,h4⟩=>?_)
   subst hr
   refine wpAny_passesOwn hp (thn h4 fun _ s5 ⟨x,H5,I5,r5,y5,st5,fr5⟩=>?_)
   have I5':=I5.pinned (stat fr5) (T.obj _ _ st5)
   refine wpAny_passesOwn hp (thn (hg _ s5 σ3 H5 x u _ I5' r5 (step x H5 y5)) fun _ s6 ⟨σ6,H6,I6,q6⟩=>?_)
   refine wpAny_passesOwn hp (thn (hb _ s6 σ6 H6 _ I6 q6) fun f s7 q7=>?_)
   have again:∀ {σ7:St} {H7:Hp},Inv X (pins++zai0 fp s5.heap) σ7 H7 s7->N σ7 H7->∃ m,m < n/\∃ i σ' H',Inv X pins σ' H' s7/\tn i s7.heap/\(∀ b ∈ fp,H' b=none)/\W i m σ' H':=fun {σ7 H7} I7 n7=>by
    obtain ⟨m',hm,w7⟩:=hN σ7 H7 n7
    refine ⟨m',hm,i + 1,σ7,H7,I7.unpinned,T.keep _ _ _ st5 fun b hb o e=>(I7.pin (b,o) (List.mem_append_right _ (List.mem_append_right _ (zagv hb e)))).1,fun b hb=>?_,w7⟩
    obtain ⟨o,e,d⟩:=T.obj _ _ st5 b hb
    exact (I7.pin (b,o) (List.mem_append_right _ (List.mem_append_right _ (zagv hb e)))).2.1
   cases f with
   | next=>obtain ⟨σ7,H7,I7,n7⟩:=q7; exact again I7 n7
   | cont=>obtain ⟨σ7,H7,I7,n7⟩:=q7; exact again I7 n7
   | brk=>obtain ⟨σ7,H7,I7,q7⟩:=q7; exact ⟨σ7,H7,I7.unpinned,q7⟩
   | ret v=>obtain ⟨x7,σ7,H7,I7,r7,q7⟩:=q7; exact ⟨x7,σ7,H7,I7.unpinned,r7,q7⟩
end
end L2
namespace L2
open PySem PySem.Spec PyProof.Rows
noncomputable abbrev R2:=V->V->Hp->VK->Prop
noncomputable def OpR (X:Cx) (f:Value->Value->Sem Value) (r:R2):Prop:=
 ∀ (pins:List (Addr × Obj)) (s:Shared) (σ:St) (H:Hp) (x y:V) (v u:Value) (Q:VK),Inv X pins σ H s->RelV x v->RelV y u->r x y H Q->
  wpAny (model X.prog X.w) X.A (f v u) (EP X pins σ Q) X.xe s
noncomputable def UnR (X:Cx) (f:Value->Sem Value) (r:V->Hp->VK->Prop):Prop:=
 ∀ (pins:List (Addr × Obj)) (s:Shared) (σ:St) (H:Hp) (x:V) (v:Value) (Q:VK),Inv X pins σ H s->RelV x v->r x H Q->
  wpAny (model X.prog X.w) X.A (f v) (EP X pins σ Q) X.xe s
noncomputable def CallR (X:Cx) (f:Value) (r:List V->Hp->VK->Prop):Prop:=
 ∀ (pins:List (Addr × Obj)) (s:Shared) (σ:St) (H:Hp) (xs:List V) (us:List Value) (Q:VK),Inv X pins σ H s->Vals xs us->r xs H Q->
  wpAny (model X.prog X.w) X.A (call f us) (EP X pins σ Q) X.xe s
noncomputable def tOp (r:R2) (ta tb:TE):TE:=fun σ H Q=>ta σ H fun x H1=>tb σ H1 fun y H2=>r x y H2 Q
noncomputable def tUn (r:V->Hp->VK->Prop) (ta:TE):TE:=fun σ H Q=>ta σ H fun x H1=>r x H1 Q
noncomputable def rI (C:Int->Int->Prop) (g:Int->Int->V):R2:=fun x y H Q=>∃ i j,x=.int i/\y=.int j/\C i j/\Q (g i j) H
noncomputable def rI0 (g:Int->Int->V):R2:=fun x y H Q=>∃ i j,x=.int i/\y=.int j/\Q (g i j) H
noncomputable def rU (g:Int->V):V->Hp->VK->Prop:=fun x H Q=>∃ i,x=.int i/\Q (g i) H
section
variable {X:Cx} {a b c:Expr} {ta tb tc:TE} {pos:Pos}
theorem binT (ha:PE X a ta) (hb:PE X b tb) {pins:List (Addr × Obj)} {s:Shared} {σ:St} {H:Hp} {R:V->V->Hp->Prop} (I:Inv X pins σ H s)
 (h:ta σ H fun x H1=>tb σ H1 fun y H2=>R x y H2) {Q:Value->Shared->Prop} {f:Value->Value->Sem Value}
 (hf:∀ v u s2 x y H2,Inv X pins σ H2 s2->RelV x v->RelV y u->R x y H2->wpAny (model X.prog X.w) X.A (f v u) Q X.xe s2) :
 wpAny (model X.prog X.w) X.A (eval a X.env) (fun v s₁=>wpAny (model X.prog X.w) X.A (eval b X.env) (fun u s₂=>wpAny (model X.prog X.w) X.A (f v u) Q X.xe s₂) X.xe s₁) X.xe s:=by
 refine thn (ha pins s σ H _ I h) fun v s1 ⟨x,H1,I1,r1,q1⟩=>?_
 refine thn (hb pins s1 σ H1 _ I1 q1) fun u s2 ⟨y,H2,I2,r2,q2⟩=>?_
 exact hf v u s2 x y H2 I2 r1 r2 q2
theorem zaph {op:Operator} {r:R2} (ho:OpR X (binaryOp op) r) (ha:PE X a ta) (hb:PE X b tb):PE X (.BinOp a op b pos) (tOp r ta tb):=by
 intro pins s σ H Q I h
 exact wpAny_BinOp (binT ha hb I h fun v u s2 x y H2 I2 rx ry q=>ho pins s2 σ H2 x y v u Q I2 rx ry q)
theorem zasr {op:UnaryOp} {r:V->Hp->VK->Prop} (ho:UnR X (unaryOp op) r) (ha:PE X a ta):PE X (.UnaryOp op a pos) (tUn r ta):=by
 intro pins s σ H Q I h
 exact UnaryOp_ (thn (ha pins s σ H _ I h) fun v s1 ⟨x,H1,I1,r1,q1⟩=>ho pins s1 σ H1 x v Q I1 r1 q1)
theorem opI {f:Value->Value->Sem Value} {C:Int->Int->Prop} {g:Int->Int->Int}
 (rule:∀ (i j:Int) (t u:Tok) (s:Shared) (Q:Value->Shared->Prop) (E:Value->Shared->Prop),C i j->Q (.int (g i j) s.toks) { s with toks:=s.toks + 1 }->wpAny (model X.prog X.w) X.A (f (.int i t) (.int j u)) Q E s) :
 OpR X f (rI C fun i j=>.int (g i j)):=by
 intro pins s σ H x y v u Q I rx ry h
 obtain ⟨i,j,rfl,rfl,hc,q⟩:=h
 obtain ⟨t,rfl⟩:=rx
 obtain ⟨t',rfl⟩:=ry
 exact rule i j t t' s _ _ hc ⟨.int (g i j),H,I.tok _,⟨_,rfl⟩,q⟩
theorem opI0 {f:Value->Value->Sem Value} {g:Int->Int->Int}
 (rule:∀ (i j:Int) (t u:Tok) (s:Shared) (Q:Value->Shared->Prop) (E:Value->Shared->Prop),Q (.int (g i j) s.toks) { s with toks:=s.toks + 1 }->wpAny (model X.prog X.w) X.A (f (.int i t) (.int j u)) Q E s) :
 OpR X f (rI0 fun i j=>.int (g i j)):=by
 intro pins s σ H x y v u Q I rx ry h
 obtain ⟨i,j,rfl,rfl,q⟩:=h
 obtain ⟨t,rfl⟩:=rx
 obtain ⟨t',rfl⟩:=ry
 exact rule i j t t' s _ _ ⟨.int (g i j),H,I.tok _,⟨_,rfl⟩,q⟩
theorem opB0 {f:Value->Value->Sem Value} {g:Int->Int->Bool}
 (rule:∀ (i j:Int) (t u:Tok) (s:Shared) (Q:Value->Shared->Prop) (E:Value->Shared->Prop),Q (.bool (g i j)) s->wpAny (model X.prog X.w) X.A (f (.int i t) (.int j u)) Q E s) :
 OpR X f (rI0 fun i j=>.bl (g i j)):=by
 intro pins s σ H x y v u Q I rx ry h
 obtain ⟨i,j,rfl,rfl,q⟩:=h
 obtain ⟨t,rfl⟩:=rx
 obtain ⟨t',rfl⟩:=ry
 exact rule i j t t' s _ _ ⟨.bl (g i j),H,I,rfl,q⟩
noncomputable def CDiv (i j:Int):Prop:=0 < j/\j < 1073741824
noncomputable def CPow (i j:Int):Prop:=0<=j/\j<=1000000/\i.natAbs < 2 ^ 64
noncomputable def CMul (i j:Int):Prop:=(-(2 ^ 64) < i/\i < 2 ^ 64)\/(-(2 ^ 64) < j/\j < 2 ^ 64)
theorem CMul.ok {i j:Int} (h:CMul i j):IntMulOk i j:=by
 rcases h with ⟨h1,h2⟩ | ⟨h1,h2⟩
 · exact .of_left (intBits_le_64 h1 h2)
 · exact .of_right (intBits_le_64 h1 h2)
theorem zaoI (k:Nat):(0:Int)<=2 ^ k:=by
 rw [two_pow_cast]
 exact Int.natCast_nonneg _
theorem zavr:OpR X (binaryOp .Add) (rI0 fun i j=>.int (i + j)):=opI0 fun _ _ _ _ _ _ _ q=>add_int q
theorem zauA:OpR X (binaryOp .Sub) (rI0 fun i j=>.int (i - j)):=opI0 fun _ _ _ _ _ _ _ q=>sub_int q
theorem zaul:OpR X (binaryOp .Mult) (rI CMul fun i j=>.int (i * j)):=opI fun _ _ _ _ _ _ _ hc q=>mul_int q hc.ok
theorem zas7:OpR X (binaryOp .FloorDiv) (rI CDiv fun i j=>.int (i / j)):=opI fun i j _ _ _ _ _ hc q=>by
 have h1:(0:Int) < j:=hc.1
 have h2:j < 1073741824:=hc.2
 exact floordiv_int (by omega) (by rw [Int.fdiv_eq_ediv_of_nonneg i (by omega)]; exact q) (.inl (PyProof.noPylong_small (by omega)))
theorem zavC:OpR X (binaryOp .Mod) (rI (fun _ j=>0 < j) fun i j=>.int (i % j)):=opI fun i j _ _ _ _ _ hc q=>by
 have h1:(0:Int) < j:=hc
 exact mod_int' (by omega) (by rw [Int.fmod_eq_emod_of_nonneg i (by omega)]; exact q)
theorem zavo:OpR X (binaryOp .LShift) (rI CPow fun i j=>.int (i * 2 ^ j.toNat)):=opI fun _ _ _ _ _ _ _ hc q=>lshift_int_small hc.1 hc.2.1 hc.2.2 q
theorem zau4:OpR X (binaryOp .RShift) (rI (fun _ j=>0<=j) fun i j=>.int (i / 2 ^ j.toNat)):=opI fun i j _ _ _ _ _ hc q=>
 rshift_int hc (by rw [Int.fdiv_eq_ediv_of_nonneg i (zaoI _)]; exact q)
theorem zau2:OpR X (binaryOp .BitAnd) (rI0 fun i j=>.int (Builtin.bitAnd i j)):=opI0 fun _ _ _ _ _ _ _ q=>and_int q
theorem zavS:OpR X (binaryOp .BitOr) (rI0 fun i j=>.int (Builtin.bitOr i j)):=opI0 fun _ _ _ _ _ _ _ q=>or_int q
theorem unI {f:Value->Sem Value} {g:Int->Int}
 (rule:∀ (i:Int) (t:Tok) (s:Shared) (Q:Value->Shared->Prop) (E:Value->Shared->Prop),Q (.int (g i) s.toks) { s with toks:=s.toks + 1 }->wpAny (model X.prog X.w) X.A (f (.int i t)) Q E s) :
 UnR X f (rU fun i=>.int (g i)):=by
 intro pins s σ H x v Q I rx h
 obtain ⟨i,rfl,q⟩:=h
 obtain ⟨t,rfl⟩:=rx
 exact rule i t s _ _ ⟨.int (g i),H,I.tok _,⟨_,rfl⟩,q⟩
theorem zauK:UnR X (unaryOp .USub) (rU fun i=>.int (-i)):=unI fun _ _ _ _ _ q=>neg_int q
theorem zau0:UnR X (unaryOp .Invert) (rU fun i=>.int (Builtin.bitNot i)):=unI fun _ _ _ _ _ q=>invert_int q
end
noncomputable def scal:V->V->Bool
 | .non,.non=>true | .non,.int _=>true | .int _,.non=>true | .non,.bl _=>true | .bl _,.non=>true | .non,.str _=>true | .str _,.non=>true
 | .int _,.int _=>true | .bl _,.bl _=>true | .str _,.str _=>true | .byt _,.byt _=>true
 | .int _,.str _=>true | .str _,.int _=>true | .bl _,.str _=>true | .str _,.bl _=>true
 | _,_=>false
noncomputable def rEq:R2:=fun x y H Q=>scal x y=true/\Q (.bl (decide (x=y))) H
noncomputable def rNe:R2:=fun x y H Q=>scal x y=true/\Q (.bl (!decide (x=y))) H
theorem zan0 {i j:Int}:decide (V.int i=V.int j)=(i == j):=by
 rw [Bool.eq_iff_iff]
 simp
theorem zaqq {i j:Bool}:decide (V.bl i=V.bl j)=(i == j):=by
 rw [Bool.eq_iff_iff]
 simp
theorem zaov {i j:Str}:decide (V.str i=V.str j)=(i == j):=by
 rw [Bool.eq_iff_iff]
 simp
theorem zaoa {i j:Array UInt8}:decide (V.byt i=V.byt j)=(i.toList == j.toList):=by
 rw [Bool.eq_iff_iff]
 cases i
 cases j
 simp
section
variable {X:Cx} {a b c:Expr} {ta tb tc:TE} {pos:Pos}
theorem zaba {pins:List (Addr × Obj)} {σ:St} {H:Hp} {s:Shared} {Q:VK} {k k':Bool} (I:Inv X pins σ H s) (q:Q (.bl k) H) (e:k=k'):EP X pins σ Q (.bool k') s:=by
 subst e
 exact ⟨.bl k,H,I,rfl,q⟩
theorem zawf:OpR X (compareOp .Eq) rEq:=by
 intro pins s σ H x y v u Q I rx ry h
 obtain ⟨hs,q⟩:=h
 cases x with
 | non=>
  cases rx
  cases y with
  | non=>cases ry; exact PySem.EqNone.eq_none_none (zaba I q (by simp))
  | bl j=>cases ry; exact PySem.EqNone.eq_none_bool (zaba I q (by simp))
  | int j=>obtain ⟨t',rfl⟩:=ry; exact PySem.EqNone.eq_none_int (zaba I q (by simp))
  | str j=>obtain ⟨t',rfl⟩:=ry; exact PySem.EqNone.eq_none_str (zaba I q (by simp))
  | _=>exact absurd (show false=true from hs) Bool.false_ne_true
 | bl i=>
  cases rx
  cases y with
  | non=>cases ry; exact PySem.EqNone.eq_bool_none (zaba I q (by simp))
  | bl j=>cases ry; exact eq_bool (zaba I q zaqq)
  | str j=>obtain ⟨t',rfl⟩:=ry; exact PySem.EqMixed.eq_bool_str (zaba I q (by simp))
  | _=>exact absurd (show false=true from hs) Bool.false_ne_true
 | int i=>
  obtain ⟨t,rfl⟩:=rx
  cases y with
  | non=>cases ry; exact PySem.EqNone.eq_int_none (zaba I q (by simp))
  | int j=>obtain ⟨t',rfl⟩:=ry; exact eq_int (zaba I q zan0)
  | str j=>obtain ⟨t',rfl⟩:=ry; exact PySem.EqMixed.eq_int_str (zaba I q (by simp))
  | _=>exact absurd (show false=true from hs) Bool.false_ne_true
 | str i=>
  obtain ⟨t,rfl⟩:=rx
  cases y with
  | non=>cases ry; exact PySem.EqNone.eq_str_none (zaba I q (by simp))
  | bl j=>cases ry; exact PySem.EqMixed.eq_str_bool (zaba I q (by simp))
  | int j=>obtain ⟨t',rfl⟩:=ry; exact PySem.EqMixed.eq_str_int (zaba I q (by simp))
  | str j=>obtain ⟨t',rfl⟩:=ry; exact eq_str (zaba I q zaov)
  | _=>exact absurd (show false=true from hs) Bool.false_ne_true
 | byt i=>
  obtain ⟨t,rfl⟩:=rx
  cases y with
  | byt j=>obtain ⟨t',rfl⟩:=ry; exact PySem.W.eq_bytes (zaba I q zaoa)
  | _=>exact absurd (show false=true from hs) Bool.false_ne_true
 | _=>cases y <;> exact absurd (show false=true from hs) Bool.false_ne_true
theorem zawu:OpR X (compareOp .NotEq) rNe:=by
 intro pins s σ H x y v u Q I rx ry h
 obtain ⟨hs,q⟩:=h
 cases x with
 | non=>
  cases rx
  cases y with
  | non=>cases ry; exact PySem.EqNone.ne_none_none (zaba I q (by simp))
  | bl j=>cases ry; exact PySem.EqNone.ne_none_bool (zaba I q (by simp))
  | int j=>obtain ⟨t',rfl⟩:=ry; exact PySem.EqNone.ne_none_int (zaba I q (by simp))
  | str j=>obtain ⟨t',rfl⟩:=ry; exact PySem.EqNone.ne_none_str (zaba I q (by simp))
  | _=>exact absurd (show false=true from hs) Bool.false_ne_true
 | bl i=>
  cases rx
  cases y with
  | non=>cases ry; exact PySem.EqNone.ne_bool_none (zaba I q (by simp))
  | bl j=>cases ry; exact ne_bool (zaba I q (congrArg not zaqq))
  | str j=>obtain ⟨t',rfl⟩:=ry; exact PySem.EqMixed.ne_bool_str (zaba I q (by simp))
  | _=>exact absurd (show false=true from hs) Bool.false_ne_true
 | int i=>
  obtain ⟨t,rfl⟩:=rx
  cases y with
  | non=>cases ry; exact PySem.EqNone.ne_int_none (zaba I q (by simp))
  | int j=>obtain ⟨t',rfl⟩:=ry; exact ne_int (zaba I q (congrArg not zan0))
  | str j=>obtain ⟨t',rfl⟩:=ry; exact PySem.EqMixed.ne_int_str (zaba I q (by simp))
  | _=>exact absurd (show false=true from hs) Bool.false_ne_true
 | str i=>
  obtain ⟨t,rfl⟩:=rx
  cases y with
  | non=>cases ry; exact PySem.EqNone.ne_str_none (zaba I q (by simp))
  | bl j=>cases ry; exact PySem.EqMixed.ne_str_bool (zaba I q (by simp))
  | int j=>obtain ⟨t',rfl⟩:=ry; exact PySem.EqMixed.ne_str_int (zaba I q (by simp))
  | str j=>obtain ⟨t',rfl⟩:=ry; exact ne_str (zaba I q (congrArg not zaov))
  | _=>exact absurd (show false=true from hs) Bool.false_ne_true
 | byt i=>
  obtain ⟨t,rfl⟩:=rx
  cases y with
  | byt j=>obtain ⟨t',rfl⟩:=ry; exact PySem.W.ne_bytes (zaba I q (congrArg not zaoa))
  | _=>exact absurd (show false=true from hs) Bool.false_ne_true
 | _=>cases y <;> exact absurd (show false=true from hs) Bool.false_ne_true
theorem zawc:OpR X (compareOp .Lt) (rI0 fun i j=>.bl (decide (i < j))):=opB0 fun _ _ _ _ _ _ _ q=>lt_int q
theorem zav6:OpR X (compareOp .LtE) (rI0 fun i j=>.bl (decide (i<=j))):=opB0 fun _ _ _ _ _ _ _ q=>le_int q
theorem zavN:OpR X (compareOp .Gt) (rI0 fun i j=>.bl (decide (j < i))):=opB0 fun _ _ _ _ _ _ _ q=>gt_int q
theorem zavT:OpR X (compareOp .GtE) (rI0 fun i j=>.bl (decide (j<=i))):=opB0 fun _ _ _ _ _ _ _ q=>ge_int q
theorem zavg:OpR X (compareOp .Is) (fun x y H Q=>y=.non/\Q (.bl (decide (x=.non))) H):=by
 intro pins s σ H x y v u Q I rx ry h
 obtain ⟨rfl,q⟩:=h
 cases ry
 refine is_none_gen (zaba I q ?_)
 cases x <;> first
  | (cases rx; rfl)
  | (obtain ⟨t,rfl⟩:=rx; rfl)
theorem zaqm (b:Expr) {op:CmpOp} (h:op ≠ .In:=by decide) (h2:op ≠ .NotIn:=by decide):behindInMarks op b=false:=by
 have e1:(op == CmpOp.In)=false:=by cases op <;> first | rfl | exact absurd rfl h
 have e2:(op == CmpOp.NotIn)=false:=by cases op <;> first | rfl | exact absurd rfl h2
 cases b <;> simp [behindInMarks,e1,e2]
theorem zatl {op:CmpOp} {r:R2} (ho:OpR X (compareOp op) r) (ha:PE X a ta) (hb:PE X b tb) (hm:behindInMarks op b=false):PE X (.Compare a [op] [b] pos) (tOp r ta tb):=by
 intro pins s σ H Q I h
 exact wpAny_Compare1 (binT ha hb I h fun v u s2 x y H2 I2 rx ry q=>ho pins s2 σ H2 x y v u Q I2 rx ry q) hm
noncomputable def zav2 (t:TE):TT:=fun σ H Q=>t σ H fun x H'=>∃ k,x=.bl k/\Q k H'
theorem zatp {op:CmpOp} {r:R2} (ho:OpR X (compareOp op) r) (ha:PE X a ta) (hb:PE X b tb) (hm:behindInMarks op b=false):PT X (.Compare a [op] [b] pos) (zav2 (tOp r ta tb)):=by
 intro pins s σ H Q I h
 refine wpAny_isTrue_Compare1 (thn (ha pins s σ H _ I h) fun v s1 ⟨x,H1,I1,r1,q1⟩=>thn (hb pins s1 σ H1 _ I1 q1) fun u s2 ⟨y,H2,I2,r2,q2⟩=>
  thn (ho pins s2 σ H2 x y v u _ I2 r1 r2 q2) fun c s3 ⟨z,H3,I3,r3,k,e,q3⟩=>?_) hm
 subst e
 cases r3
 exact wpAny_truthy_bool ⟨H3,I3,q3⟩
noncomputable def zaqg (r r':R2) (ta tb tc:TE):TE:=fun σ H Q=>ta σ H fun x H1=>tb σ H1 fun y H2=>r x y H2 fun z H3=>∃ k,z=.bl k/\
 (if k=true then tc σ H3 fun w' H4=>r' y w' H4 Q else Q (.bl false) H3)
theorem zash {op op':CmpOp} {r r':R2} (ho:OpR X (compareOp op) r) (ho':OpR X (compareOp op') r') (ha:PE X a ta) (hb:PE X b tb) (hc:PE X c tc)
 (hm:lastMarks [op,op'] [b,c]=false:=by with_unfolding_all rfl):PE X (.Compare a [op,op'] [b,c] pos) (zaqg r r' ta tb tc):=by
 intro pins s σ H Q I h
 refine Compare_chain (thn (ha pins s σ H _ I h) fun v s1 ⟨x,H1,I1,r1,q1⟩=>chain_link (thn (hb pins s1 σ H1 _ I1 q1) fun u s2 ⟨y,H2,I2,r2,q2⟩=>
  thn (ho pins s2 σ H2 x y v u _ I2 r1 r2 q2) fun d s3 ⟨z,H3,I3,r3,k,e,q3⟩=>?_)) hm
 subst e
 cases r3
 refine wpAny_truthy_bool ?_
 cases k with
 | false=>exact ite_ff ⟨.bl false,H3,I3,rfl,q3⟩
 | true=>exact ite_tt (chain_last (thn (hc pins s3 σ H3 _ I3 q3) fun w' s4 ⟨z',H4,I4,r4,q4⟩=>ho' pins s4 σ H4 y z' u w' Q I4 r2 r4 q4))
theorem zahz:(sizeLine:Nat) < 2 ^ 63:=by rw [sizeLine_eq]; decide
theorem zahf {x:V} {us:List Value} (r:Vals [x] us):∃ u,us=[u]/\RelV x u:=by
 cases r with
 | cons r1 r2=>cases r2; exact ⟨_,rfl,r1⟩
theorem zasE {x y:V} {us:List Value} (r:Vals [x,y] us):∃ u w',us=[u,w']/\RelV x u/\RelV y w':=by
 cases r with
 | cons r1 r2=>
  cases r2 with
  | cons r3 r4=>cases r4; exact ⟨_,_,rfl,r1,r3⟩
theorem zap3 (hc:X.calm=true):CallR X (.builtin "min") (fun xs H Q=>∃ i j,xs=[.int i,.int j]/\Q (.int (if j < i then j else i)) H):=by
 intro pins s σ H xs us Q I r h
 obtain ⟨i,j,rfl,q⟩:=h
 obtain ⟨u,w',rfl,⟨t,rfl⟩,⟨t',rfl⟩⟩:=zasE r
 refine min_two_ints (I.ok.hd hc) fun h' tk k=>⟨_,H,I.kept k,?_,q⟩
 by_cases hj:j < i
 · rw [if_pos hj,if_pos hj]; exact ⟨_,rfl⟩
 · rw [if_neg hj,if_neg hj]; exact ⟨_,rfl⟩
end
end L2
namespace L2
open PySem PySem.Spec PyProof.Rows
structure ObjM (h:Heap) (x dx C:Addr) (mA:Str->Option Value):Prop where
 obj:h.get? x=some (PySem.W.instObj C dx)
 ns:h.Ns1 dx mA
 ne:dx ≠ x
theorem zaqi {h:Heap} {dx:Addr} {mA:Str->Option Value} (n:h.Ns1 dx mA):∃ od,h.get? dx=some od/\∀ name,PySem.W.lookIn name od=some (mA name):=by
 obtain ⟨o,es,ep,ho,hd,hk,_,hm⟩:=n
 refine ⟨o,ho,fun name=>?_⟩
 have e:=hm name
 unfold nsFind findBy at e
 rw [<- Array.find?_toList] at e
 unfold PySem.W.lookIn
 rw [hd]
 dsimp only
 split
 · rename_i y q
   rw [q] at e
   exact congrArg some e
 · rename_i q
   rw [q] at e
   have a:es.toList.any (·.refKey)=false:=by
    rw [List.any_eq_false]
    intro y hy
    obtain ⟨z,t,hkey⟩:=hk y (Array.mem_toList_iff.mp hy)
    simp [DictEntry.refKey,hkey]
   have a':¬ es.toList.any (·.refKey)=true:=by rw [a]; exact Bool.false_ne_true
   rw [if_neg a']
   exact congrArg some e
theorem ObjM.look {h:Heap} {x dx C:Addr} {mA:Str->Option Value} (I:ObjM h x dx C mA):∃ od,PySem.W.InstAt h x (PySem.W.instObj C dx) C (some od)/\∀ name,PySem.W.lookIn name od=some (mA name):=
 let ⟨od,ho,hl⟩:=zaqi I.ns
 ⟨od,⟨I.obj,rfl,rfl,ho⟩,hl⟩
section
variable {prog:Program} {w:World} {A:Around} {E:Value->Shared->Prop} {s:Shared} {K:PySem.W.Frag} {x dx C f:Addr} {mA:Str->Option Value} {name:Str} {v:Value}
theorem zatL {expr:Bool} {Q:Value->Shared->Prop} (X:K.In s.heap) (I:ObjM s.heap x dx C mA) (hg:PySem.W.plainGet K C name=true) (hh:PySem.W.hasDictIn K C=true)
 (ha:PySem.W.findIn K (.ref C) name=some none) (hv:mA name=some v) (hv':PySem.W.handedIn v=true) (h:Q v { s with toks:=s.toks + 1 }) :
 wpAny (model prog w) A (getAttr (.ref x) name expr) Q E s:=by
 obtain ⟨od,J,hl⟩:=I.look
 exact PySem.W.get_value X J (PySem.W.plainGet_of hg).1 (PySem.W.findObj_own hh ha rfl (by rw [hl,hv])) hv' h
theorem zaru {pl:Sem Bool} {Q:Value × List Value->Shared->Prop} (X:K.In s.heap) (I:ObjM s.heap x dx C mA) (hg:PySem.W.plainGet K C name=true)
 (hf:PySem.W.findIn K (.ref C) name=some (some (.ref f))) (ht:PySem.W.isFn K (.ref f)=true) (hv:mA name=none) (h:Q (.ref f,[.ref x]) s) :
 wpAny (model prog w) A (getMethod (.ref x) name pl) Q E s:=by
 obtain ⟨od,J,hl⟩:=I.look
 exact PySem.W.method_fn X J (PySem.W.plainGet_of hg).1 (PySem.W.plainGet_of hg).2 hf (beq_iff_eq.mp ht) (by show (PySem.W.lookIn name od).map (·.isSome)=some false; rw [hl,hv]; rfl) h
theorem zatP {ns:List Str} {Q:Unit->Shared->Prop} (X:K.In s.heap) (I:ObjM s.heap x dx C mA)
 (hs:PySem.W.findIn K (.ref C) "__setattr__" = some (some (.builtin "object.__setattr__"))) (hp:PySem.W.plainOver K C=true) (ht:PySem.W.takerIn K C name=some none) (hh:PySem.W.hasDictIn K C=true)
 (hw:PySem.Within mA ns) (hsz:ns.length<=sizeLine)
 (h:∀ h',ObjM h' x dx C (fun y=>if y=name then some v else mA y)->Heap.SameBut dx s.heap h'->Q () { s with heap:=h',toks:=s.toks + 2 }) :
 wpAny (model prog w) A (setAttr (.ref x) name v) Q E s:=by
 obtain ⟨od,J,hl⟩:=I.look
 refine PySem.W.set_plain X J hs (PySem.W.osa_open (s:={ s with toks:=s.toks + 1 }) (r:=none) X J hp ht fun b=>?_)
 obtain ⟨cd,hc,hd'⟩:=PySem.W.any_some hh
 have hx:s.heap.get? x=some ⟨.ref C,some dx,.plain,#[]⟩:=I.obj
 refine wpAny_bind (wpAny_pure (wpAny_bind (wpAny_bind (wpAny_loadPart hx (wpAny_bind (PySem.W.Looks.here (s:={ s with toks:=s.toks + 1 }) (PySem.W.looks_clsIn X hc) ?_))))))
 rw [hd']
 refine wpAny_pure (a:=some dx) (wpAny_bind (wpAny_pure (wpAny_bind ?_)))
 refine wpAny_nsSet1 (s:={ s with toks:=s.toks + 1 }) I.ns fun h' hn2 hs2=>?_
 obtain ⟨oD,esD,epD,hoD,hdD,hcD⟩:=hn2.count (PySem.Within.cons name v hw)
 refine wpAny_bind (wpAny_lookBehind hoD (by rw [hdD]; exact pastItsLine_dict (Nat.le_trans hcD (by rw [List.length_cons]; omega))) ?_)
 exact wpAny_pure (h _ ⟨(hs2.2 _ (Ne.symm I.ne)).trans I.obj,hn2,I.ne⟩ hs2)
theorem zar3 {R:Result->Shared->Prop} {vs:List Value} {kw:List (Str × Value)} (X:K.In s.heap) (hm:PySem.W.makesIn K C=true)
 (hi:PySem.W.findIn K (.ref C) "__init__" = some (some (.ref f))) (hf:PySem.W.typeIn K (.ref f)=some (.type "function"))
 (h:codeAny (model prog w) (A.under (.builtin "type.__call__" ⟨.ref C::vs,kw⟩)) (.call (.ref f) ⟨.ref (s.heap.objs.size + 1)::vs,kw⟩) (PySem.W.InitBack (s.heap.objs.size + 1) R)
  { s with heap:=(s.heap.push PySem.W.emptyDict).push (PySem.W.instObj C s.heap.objs.size) }) :
 codeAny (model prog w) A (.call (.ref C) ⟨vs,kw⟩) R s:=by
 obtain ⟨hh,g,d,t,os⟩:=s
 exact PySem.W.make_core (PySem.W.makes_of X hm) (PySem.W.looks_findIn X hi) (fun self=>PySem.W.bind_fn X self hf) (.inl rfl) h
end
noncomputable def putF (f:Str) (v:V):List (Str × V)->List (Str × V)
 | []=>[(f,v)]
 | (g,x)::r=>if g=f then (g,v)::r else (g,x)::putF f v r
theorem zajz (f g:Str) (v:V):∀ fs:List (Str × V),(putF f v fs).lookup g=if g=f then some v else fs.lookup g
 | []=>by
  show List.lookup g [(f,v)]=_
  by_cases h:g=f
  · have hb:(g == f)=true:=beq_iff_eq.mpr h
    simp only [List.lookup,hb,if_pos h]
  · have hb:(g == f)=false:=beq_eq_false_iff_ne.mpr h
    simp only [List.lookup,hb,if_neg h]
 | (k,x)::r=>by
  have ih:=zajz f g v r
  rw [show putF f v ((k,x)::r)=(if k=f then (k,v)::r else (k,x)::putF f v r) from rfl]
  by_cases hk:k=f
  · rw [if_pos hk]
    by_cases h:g=k
    · have hb:(g == k)=true:=beq_iff_eq.mpr h
      simp only [List.lookup,hb,if_pos (h.trans hk)]
    · have hb:(g == k)=false:=beq_eq_false_iff_ne.mpr h
      simp only [List.lookup,hb,if_neg (fun e:g=f=>h (e.trans hk.symm))]
  · rw [if_neg hk]
    by_cases h:g=k
    · have hb:(g == k)=true:=beq_iff_eq.mpr h
      simp only [List.lookup,hb,if_neg (fun e:g=f=>hk (h.symm.trans e))]
    · have hb:(g == k)=false:=beq_eq_false_iff_ne.mpr h
      simp only [List.lookup,hb]
      exact ih
theorem zai1 (f:Str) (v:V):∀ fs:List (Str × V),f ∈ (putF f v fs).map (·.1)/\∀ g,g ∈ fs.map (·.1)->g ∈ (putF f v fs).map (·.1)
 | []=>⟨by simp [putF],fun g h=>by simp at h⟩
 | (k,x)::r=>by
  obtain ⟨i1,i2⟩:=zai1 f v r
  rw [show putF f v ((k,x)::r)=(if k=f then (k,v)::r else (k,x)::putF f v r) from rfl]
  by_cases hk:k=f
  · rw [if_pos hk]
    subst hk
    exact ⟨by simp,fun g h=>by simpa using h⟩
  · rw [if_neg hk]
    refine ⟨?_,fun g h=>?_⟩
    · rw [List.map_cons]
      exact List.mem_cons_of_mem _ i1
    · rw [List.map_cons] at h ⊢
      rcases List.mem_cons.mp h with e | e
      · exact List.mem_cons.mpr (.inl e)
      · exact List.mem_cons_of_mem _ (i2 g e)
theorem zajx (f:Str) (v:V):∀ fs:List (Str × V),(putF f v fs).length<=fs.length + 1
 | []=>by simp [putF]
 | (k,x)::r=>by
  have ih:=zajx f v r
  rw [show putF f v ((k,x)::r)=(if k=f then (k,v)::r else (k,x)::putF f v r) from rfl]
  by_cases hk:k=f
  · rw [if_pos hk,List.length_cons,List.length_cons]; omega
  · rw [if_neg hk,List.length_cons,List.length_cons]; omega
theorem RelO.some_of {v:V} {o:Option Value} (r:RelO (some v) o):∃ u,o=some u/\RelV v u:=by
 cases o with
 | none=>exact (show False from r).elim
 | some u=>exact ⟨u,rfl,r⟩
theorem RelO.none_of {o:Option Value} (r:RelO none o):o=none:=by
 cases o with
 | none=>rfl
 | some u=>exact (show False from r).elim
theorem zaqH {v:V} {u:Value} (r:RelV v u):PySem.W.handedIn u=true:=by
 cases v with
 | non=>cases (show u=Value.none from r); rfl
 | bl b=>cases (show u=Value.bool b from r); rfl
 | int i=>obtain ⟨t,e⟩:=(show ∃ t,u=Value.int i t from r); cases e; rfl
 | str x=>obtain ⟨t,e⟩:=(show ∃ t,u=Value.str x t from r); cases e; rfl
 | byt b=>obtain ⟨t,e⟩:=(show ∃ t,u=Value.bytes b t from r); cases e; rfl
 | flt b=>obtain ⟨t,e⟩:=(show ∃ t,u=Value.float b t from r); cases e; rfl
 | ref a=>cases (show u=Value.ref a from r); rfl
 | ty n=>cases (show u=Value.type n from r); rfl
section
variable {P:Program} {w:World} {H H':Hp} {h h':Heap} {a C dx:Addr} {fs fs':List (Str × V)}
theorem zalp (hok:HOk P w H h) (e:H a=some (.ins C dx fs)):∃ mA,ObjM h a dx C mA/\(∀ f,RelO (fs.lookup f) (mA f))/\PySem.Within mA (fs.map (·.1))/\fs.length<=1000/\H dx=some (.own a):=by
 obtain ⟨d,z,ne,ob,mA,n,r,q⟩:=(show ObjOk P w H h a (.ins C dx fs) from hok a _ e)
 exact ⟨mA,⟨ob,n,ne⟩,r,q,z,d⟩
end
structure Cls (K:PySem.W.Frag) (C:Addr):Prop where
 pg:PySem.W.plainGet K C Str.empty=true
 hd:PySem.W.hasDictIn K C=true
 po:PySem.W.plainOver K C=true
 sa:PySem.W.findIn K (.ref C) "__setattr__" = some (some (.builtin "object.__setattr__"))
theorem Cls.get {K:PySem.W.Frag} {C:Addr} (c:Cls K C) (f:Str):PySem.W.plainGet K C f=true:=c.pg
noncomputable def NoAttr (K:PySem.W.Frag) (C:Addr) (f:Str):Prop:=PySem.W.findIn K (.ref C) f=some none
theorem NoAttr.taker {K:PySem.W.Frag} {C:Addr} {f:Str} (n:NoAttr K C f):PySem.W.takerIn K C f=some none:=by
 unfold PySem.W.takerIn
 rw [show PySem.W.findIn K (.ref C) f=some none from n]
 rfl
structure Meth (K:PySem.W.Frag) (C:Addr) (m:Str) (f:Addr):Prop where
 at_:PySem.W.findIn K (.ref C) m=some (some (.ref f))
 fn:PySem.W.isFn K (.ref f)=true
 kp:PySem.W.keepIn K (.ref f)=true
section
variable {X:Cx} {pins:List (Addr × Obj)} {σ:St} {H:Hp} {s:Shared} {a C dx:Addr} {fs:List (Str × V)} {f:Str} {v:V} {A:Around} {E:Value->Shared->Prop}
theorem zaoB {b:Bool} {Q:Value->Shared->Prop} (I:Inv X pins σ H s) (e:H a=some (.ins C dx fs)) (c:Cls X.K C) (n:NoAttr X.K C f) (l:fs.lookup f=some v)
 (h:∀ u s',Inv X pins σ H s'->RelV v u->Q u s'):wpAny (model X.prog X.w) A (getAttr (.ref a) f b) Q E s:=by
 obtain ⟨mA,O,r,_,_,_⟩:=zalp I.hok e
 obtain ⟨u,hu,ru⟩:=RelO.some_of (v:=v) (o:=mA f) (by rw [<- l]; exact r f)
 exact zatL I.kIn O (c.get f) c.hd n hu (zaqH ru) (h u _ (I.tok _) ru)
theorem zakM {m:Str} {g:Addr} {pl:Sem Bool} {Q:Value × List Value->Shared->Prop} (I:Inv X pins σ H s) (e:H a=some (.ins C dx fs)) (c:Cls X.K C) (k:Meth X.K C m g) (l:fs.lookup m=none)
 (h:Q (.ref g,[.ref a]) s):wpAny (model X.prog X.w) A (getMethod (.ref a) m pl) Q E s:=by
 obtain ⟨mA,O,r,_,_,_⟩:=zalp I.hok e
 have hn:mA m=none:=RelO.none_of (by rw [<- l]; exact r m)
 exact zaru I.kIn O (c.get m) k.at_ k.fn hn h
theorem zapu {y:V} {u:Value} {Q:Unit->Shared->Prop} (I:Inv X pins σ H s) (e:H a=some (.ins C dx fs)) (c:Cls X.K C) (n:NoAttr X.K C f) (hl:fs.length < 1000) (ry:RelV y u)
 (h:∀ s',Inv X pins σ (upd H a (.ins C dx (putF f y fs))) s'->Q () s'):wpAny (model X.prog X.w) A (setAttr (.ref a) f u) Q E s:=by
 obtain ⟨mA,O,r,wi,_,ho⟩:=zalp I.hok e
 have hz:(fs.map (·.1)).length<=sizeLine:=by rw [List.length_map,sizeLine_eq]; omega
 refine zatP I.kIn O c.sa c.po n.taker c.hd wi hz fun h' O' sb=>h _ ?_
 have hd:∃ o,h'.get? dx=some o:=let ⟨o,_,_,e',_⟩:=O'.ns; ⟨o,e'⟩
 refine I.write (x:=a) (e:=dx) (by rw [e]; exact True.intro) (.inr ho) (fun b q hb z=>(sb.2 b hb).trans z) hd ?_
 refine ⟨by rw [zaaA O.ne]; exact ho,?_,O.ne,O'.obj,_,O'.ns,fun g=>?_,fun g hg=>?_⟩
 · have:=zajx f y fs; omega
 · show RelO ((putF f y fs).lookup g) (if g=f then some u else mA g)
   rw [zajz]
   by_cases q:g=f
   · rw [if_pos q,if_pos q]; exact ry
   · rw [if_neg q,if_neg q]; exact r g
 · by_cases q:g=f
   · rw [q]; exact (zai1 f y fs).1
   · refine (zai1 f y fs).2 g (wi g fun z=>hg ?_)
     show (if g=f then some u else mA g)=none
     rw [if_neg q]; exact z
theorem Inv.made (I:Inv X pins σ H s):Inv X pins σ (upd (upd H s.heap.objs.size (.own (s.heap.objs.size + 1))) (s.heap.objs.size + 1) (.ins C s.heap.objs.size []))
 { s with heap:=(s.heap.push PySem.W.emptyDict).push (PySem.W.instObj C s.heap.objs.size) }:=by
 have e1:(s.heap.push PySem.W.emptyDict).get? s.heap.objs.size=some PySem.W.emptyDict:=Heap.get?_push_size s.heap rfl
 have e2:((s.heap.push PySem.W.emptyDict).push (PySem.W.instObj C s.heap.objs.size)).get? (s.heap.objs.size + 1)=some (PySem.W.instObj C s.heap.objs.size):=by
  have:=Heap.get?_push_size (s.heap.push PySem.W.emptyDict) (o:=PySem.W.instObj C s.heap.objs.size) rfl
  rwa [Heap.size_push] at this
 have e3:(s.heap.push PySem.W.emptyDict).Ns s.heap.objs.size (fun _=>none):=⟨PySem.W.emptyDict,#[],_,e1,rfl,(fun e he=>absurd he (by simp)),fun _=>rfl⟩
 have I1:=I.laid (a:=s.heap.objs.size) (o:=.own (s.heap.objs.size + 1)) (h':=s.heap.push PySem.W.emptyDict) (t':=s.toks) (fun b u q=>Heap.get?_push_of_some _ q) (Nat.le_refl _) ⟨_,e1⟩
 refine I1.laid (a:=s.heap.objs.size + 1) (o:=.ins C s.heap.objs.size []) (t':=s.toks) (fun b u q=>Heap.get?_push_of_some _ q) (Nat.le_of_eq (Heap.size_push _ _)) ?_
 have ne:s.heap.objs.size ≠ s.heap.objs.size + 1:=Nat.ne_of_lt (Nat.lt_succ_self _)
 refine ⟨by rw [zaaA ne,zaa6],Nat.zero_le _,ne,e2,fun _=>none,(Heap.Ns1.of_empty e3).at fun o q=>Heap.get?_push_of_some _ q,fun _=>True.intro,fun y hy=>absurd rfl hy⟩
theorem zatY {prog:Program} {w:World} {env:Env} {e:Expr} {f:Str} {pos:Pos} {s:Shared} {Q:Value->Shared->Prop} (hb:attributeBase e f env (eval e env)=eval e env)
 (h:wpAny (model prog w) A (eval e env) (fun o s₁=>wpAny (model prog w) A (getAttr o f true) Q E s₁) E s):wpAny (model prog w) A (eval (.Attribute e f pos) env) Q E s:=
 Attribute_any_ h (by rw [arm_eval_Attribute,hb])
end
noncomputable def tFld (K:PySem.W.Frag) (ta:TE) (f:Str):TE:=fun σ H Q=>ta σ H fun x H1=>∃ a C dx fs v,x=.ref a/\H1 a=some (.ins C dx fs)/\Cls K C/\NoAttr K C f/\fs.lookup f=some v/\Q v H1
noncomputable def sFld (K:PySem.W.Frag) (ta tv:TE) (f:Str):TS:=fun D σ H=>tv σ H fun y H1=>ta σ H1 fun x H2=>∃ a C dx fs,x=.ref a/\H2 a=some (.ins C dx fs)/\Cls K C/\NoAttr K C f/\fs.length < 1000/\
 D.nx σ (upd H2 a (.ins C dx (putF f y fs)))
section
variable {X:Cx} {o e value:Expr} {f:Str} {pos pos' tpos:Pos} {ta tv:TE}
theorem zauY (he:PE X e ta) (hb:attributeBase e f X.env (eval e X.env)=eval e X.env):PE X (.Attribute e f pos) (tFld X.K ta f):=by
 intro pins s σ H Q I h
 refine zatY hb (thn (he pins s σ H _ I h) fun u s1 ⟨x,H1,I1,rx,a,C,dx,fs,v,ex,ea,c,n,l,q⟩=>?_)
 subst ex
 obtain rfl:u=Value.ref a:=rx
 exact zaoB I1 ea c n l fun u' s2 I2 ru=>⟨v,H1,I2,ru,q⟩
theorem zau7 (ha:PE X o ta) (hv:PE X value tv) (hs:swapsWith value (some (.Attribute o f pos')) pos.line X.env=pure false):PS X (.Assign [.Attribute o f pos'] value pos) (sFld X.K ta tv f):=by
 intro pins s σ H D I h
 refine plainObj_wpAny_Assign_Attribute (thn (hv pins s σ H _ I h) fun u s1 ⟨y,H1,I1,ry,q⟩=>thn (ha pins s1 σ H1 _ I1 q) fun ov s2 ⟨x,H2,I2,rx,a,C,dx,fs,ex,ea,c,n,l,q2⟩=>?_) hs
 subst ex
 obtain rfl:ov=Value.ref a:=rx
 exact zapu I2 ea c n l ry fun s3 I3=>⟨σ,_,I3,q2⟩
theorem zavM {pl:Sem Bool} {m:Str} {apos:Pos} {args:List Expr} {pins:List (Addr × Obj)} {s:Shared} {σ:St} {H:Hp} {Q:Value->Shared->Prop} {te:TE} (he:PE X e te) (I:Inv X pins σ H s)
 (h:te σ H fun x H1=>∃ a C dx fs g,x=.ref a/\H1 a=some (.ins C dx fs)/\Cls X.K C/\Meth X.K C m g/\fs.lookup m=none/\
  ∀ s1,Inv X pins σ H1 s1->wpAny (model X.prog X.w) X.A (callWith pos (.ref g) [.ref a] (backTo pos (starEach args X.env)) (backToKw pos (keywordEach [] X.env))) Q X.xe s1)
 (ht:eval (.Call (.Attribute e m apos) args [] pos) X.env=(do
  let ov <- eval e X.env
  standAt apos.atName
  let (f,first) <- holding [ov] (getMethod ov m pl)
  callWith pos f first (backTo pos (starEach args X.env)) (backToKw pos (keywordEach [] X.env)))) :
 wpAny (model X.prog X.w) X.A (eval (.Call (.Attribute e m apos) args [] pos) X.env) Q X.xe s:=by
 refine PySem.W.methodCall_KW (pl:=pl) (thn (he pins s σ H _ I h) fun u s1 ⟨x,H1,I1,rx,a,C,dx,fs,g,ex,ea,c,k,l,q⟩=>?_) ht
 subst ex
 obtain rfl:u=Value.ref a:=rx
 exact zakM I1 ea c k l (q s1 I1)
end
section
variable {X:Cx} {pins:List (Addr × Obj)} {σ:St} {H:Hp} {s:Shared} {A:Around} {E:Value->Shared->Prop} {Q:Value->Shared->Prop} {c:Value} {b:Bool}
end
end L2
namespace L2
open PySem PySem.Spec PyProof.Rows
structure Room (k:Nat) (A:Around):Prop where
 hd:A.handled=none
 dp:A.depth + 3 * k + 5 < recursionLimit
 un:A.units + 16 * k + 200 < cLine
theorem Room.mono {j k:Nat} {A:Around} (r:Room k A) (h:j<=k):Room j A:=⟨r.hd,by have:=r.dp; omega,by have:=r.un; omega⟩
theorem Room.deeper {k:Nat} {A:Around} (r:Room (k + 1) A) (env:Env):Room k (A.deeper env):=
 ⟨r.hd,by have:=r.dp; show A.depth + 1 + 3 * k + 5 < _; omega,by have:=r.un; show A.units + 3 + 16 * k + 200 < _; omega⟩
theorem zapf {A:Around} {C:Addr} {us:List Value} {kw:List (Str × Value)}:(A.under (.builtin "type.__call__" ⟨.ref C::us,kw⟩)).depth=A.depth + 1:=by
 first | rfl | simp [Around.under,Code.weight,Code.isCreation,Code.isGuard,Code.isCaller,Code.frames,Code.isFrame,guardIds]
theorem zao5 {A:Around} {C:Addr} {us:List Value} {kw:List (Str × Value)}:(A.under (.builtin "type.__call__" ⟨.ref C::us,kw⟩)).units=A.units + 1:=by
 first | rfl | simp [Around.under,Code.cUnits,Code.frames,Code.isFrame]
theorem Room.make {k:Nat} {A:Around} (r:Room (k + 1) A) (C:Addr) (us:List Value) (kw:List (Str × Value)):Room k (A.under (.builtin "type.__call__" ⟨.ref C::us,kw⟩)):=
 ⟨r.hd,by have:=r.dp; rw [zapf]; omega,by have:=r.un; rw [zao5]; omega⟩
theorem Room.depth {k:Nat} {A:Around} (r:Room k A):A.depth < recursionLimit:=by have:=r.dp; omega
theorem Room.units {k:Nat} {A:Around} (r:Room k A):A.units + 64 < cLine:=by have:=r.un; omega
noncomputable def tNil:TA:=fun _ H Q=>Q [] H
noncomputable def zasx (ta:TE) (tr:TA):TA:=fun σ H Q=>ta σ H fun x H1=>tr σ H1 fun xs H2=>Q (x::xs) H2
section
variable {X:Cx} {e:Expr} {es:List Expr} {te:TE} {t:TA} {pos:Pos}
theorem zac4:PA X [] tNil:=fun _ _ _ _ H Q I h=>Calls.spliced_nil ⟨[],H,I,.nil,h⟩
theorem zabz (ha:PE X e te) (hr:PA X es t) (hs:starEach (e::es) X.env=(false,eval e X.env)::starEach es X.env:=by rfl):PA X (e::es) (zasx te t):=by
 intro pos pins s σ H Q I h
 rw [hs]
 show wpAny _ _ (spliced ((false,eval e X.env)::backTo pos (starEach es X.env))) _ _ s
 refine Calls.spliced_cons (thn (ha pins s σ H _ I h) fun u s1 ⟨x,H1,I1,r1,q1⟩=>?_)
 exact thn (hr pos pins s1 σ H1 _ I1 q1) fun us s2 ⟨xs,H2,I2,r2,q2⟩=>⟨x::xs,H2,I2,.cons r1 r2,q2⟩
noncomputable def tTup (t:TA):TE:=fun σ H Q=>t σ H fun xs H1=>xs.length<=sizeLine/\∀ p,H1 p=none->Q (.ref p) (upd H1 p (.tup xs))
noncomputable def tLst (t:TA):TE:=fun σ H Q=>t σ H fun xs H1=>xs.length<=sizeLine/\∀ p,H1 p=none->Q (.ref p) (upd H1 p (.lst xs))
theorem zaqn {x1} (h:PA X es t):PE X (.Tuple es x1 pos) (tTup t):=by
 intro pins s σ H Q I hq
 refine wpAny_Tuple_spliced (thn (h pos pins s σ H _ I hq) fun us s1 ⟨xs,H1,I1,r,z,q⟩=>⟨by rw [<- r.length]; exact z,?_⟩)
 have hf:H1 s1.heap.objs.size=none:=I1.hok.fresh (Nat.le_refl _)
 refine ⟨.ref s1.heap.objs.size,upd H1 s1.heap.objs.size (.tup xs),I1.laid (t':=s1.toks) (fun b u e=>Heap.get?_push_of_some _ e) (Nat.le_refl _) ?_,rfl,q _ hf⟩
 exact ⟨z,us,r,⟨_,Heap.get?_push_size _ rfl,rfl,_,rfl⟩⟩
theorem zakf (h:PA X es t):PE X (.List es pos) (tLst t):=by
 intro pins s σ H Q I hq
 refine wpAny_List_spliced (thn (h pos pins s σ H _ I hq) fun us s1 ⟨xs,H1,I1,r,z,q⟩=>⟨by rw [<- r.length]; exact z,?_⟩)
 have hf:H1 s1.heap.objs.size=none:=I1.hok.fresh (Nat.le_refl _)
 refine ⟨.ref s1.heap.objs.size,upd H1 s1.heap.objs.size (.lst xs),I1.laid (t':=s1.toks) (fun b u e=>Heap.get?_push_of_some _ e) (Nat.le_refl _) ?_,rfl,q _ hf⟩
 exact ⟨z,us,0,r,Heap.get?_push_size _ rfl⟩
end
noncomputable abbrev Sp:=List V->Hp->VK->XK->Prop
noncomputable abbrev CXT:=List Env->Hp->Shared->XK->Value->Shared->Prop
structure Env0 (P:Program) (w:World) (K:PySem.W.Frag) (mg:Str->Option Value) (base:Heap) (A:Around) (outer:List Env) (s:Shared) (H:Hp):Prop where
 frames:A.frames=some outer
 mod:Mod K mg base
 bs:∀ b o,base.get? b=some o->s.heap.get? b=some o/\H b=none
 bsz:base.objs.size<=s.heap.objs.size
 funs:s.heap.FunFrames base outer
 frf:∀ b ∈ frs outer,H b=none
 hok:HOk P w H s.heap
 bare:AllBare s.gens
noncomputable def CE (outer:List Env) (P:Program) (w:World) (H:Hp) (s:Shared) (Q:VK) (u:Value) (s':Shared):Prop:=
 ∃ v H',s'.os=s.os/\AllBare s'.gens/\Un (frs outer) [] H H' s.heap s'.heap/\HOk P w H' s'.heap/\RelV v u/\Q v H'
noncomputable def CR (CX:CXT) (outer:List Env) (P:Program) (w:World) (H:Hp) (s:Shared) (Q:VK) (E:XK) (r:Result) (s':Shared):Prop:=
 match r with
 | .ok (.ret u)=>CE outer P w H s Q u s'
 | .ok _=>False
 | .error e=>CX outer H s E e s'
structure FnOk (P:Program) (w:World) (K:PySem.W.Frag) (mg:Str->Option Value) (base:Heap) (CX:CXT) (k:Nat) (f:Addr) (fd:FuncData) (ps:List Str) (sp:Sp):Prop where
 len:∀ vs H Q E,sp vs H Q E->vs.length=ps.length
 run:∀ (A:Around) (outer:List Env) (s:Shared) (H:Hp) (args:Args) (us:List Value) (vs:List V) (Q:VK) (E:XK),Room k A->Env0 P w K mg base A outer s H->BindsTo s fd args (ps.zip us)->Vals vs us->sp vs H Q E->
  codeAny (model P w) A (.call (.ref f) args) (CR CX outer P w H s Q E) s
theorem FnOk.mono {P:Program} {w:World} {K:PySem.W.Frag} {mg:Str->Option Value} {base:Heap} {CX:CXT} {j k:Nat} {f:Addr} {fd:FuncData} {ps:List Str} {sp:Sp} (F:FnOk P w K mg base CX j f fd ps sp) (h:j<=k) :
 FnOk P w K mg base CX k f fd ps sp:=⟨F.len,fun A outer s H args us vs Q E hr=>F.run A outer s H args us vs Q E (hr.mono h)⟩
theorem Env0.make {P:Program} {w:World} {K:PySem.W.Frag} {mg:Str->Option Value} {base:Heap} {A:Around} {outer:List Env} {s:Shared} {H:Hp} (e:Env0 P w K mg base A outer s H) (C:Addr) (us:List Value) (kw:List (Str × Value)) :
 Env0 P w K mg base (A.under (.builtin "type.__call__" ⟨.ref C::us,kw⟩)) outer s H:=⟨by first | exact e.frames | (simpa [Around.under,Code.envs,Code.isFrame,pushEnvs] using e.frames),e.mod,e.bs,e.bsz,e.funs,e.frf,e.hok,e.bare⟩
section
variable {X:Cx} {pins:List (Addr × Obj)} {σ:St} {H:Hp} {s s':Shared}
theorem Inv.env0 (I:Inv X pins σ H s):Env0 X.prog X.w X.K X.mg X.base X.A X.stack s H:=
 ⟨I.ok.frames,I.ok.mod,I.bs,Nat.le_trans I.ok.bsz I.sz,I.stack,I.stkFree,I.hok,I.bare⟩
theorem Inv.after {Q:VK} {u:Value} (I:Inv X pins σ H s) (h:CE X.stack X.prog X.w H s Q u s'):EP X pins σ Q u s':=by
 obtain ⟨v,H',os,bare,un,hok,r,q⟩:=h
 obtain ⟨hh,g,d,t,os'⟩:=s'
 obtain rfl:os'=s.os:=os
 exact ⟨v,H',I.call (h':=hh) (g':=g) (d':=d) (t':=t) (ch:=[]) un hok bare (fun b z=>absurd z (by simp)),r,q⟩
end
noncomputable def zav9 (sp:Sp) (dvs:List V) (E:XK) (t:TA):TE:=fun σ H Q=>t σ H fun vs H1=>sp (vs++dvs) H1 Q E
noncomputable def zawl (C:Addr) (m:Str) (sp:Sp) (dvs:List V) (E:XK) (ta:TE) (t:TA):TE:=fun σ H Q=>ta σ H fun x H1=>∃ a dx fs,x=.ref a/\H1 a=some (.ins C dx fs)/\fs.lookup m=none/\
 t σ H1 fun vs H2=>sp (x::(vs++dvs)) H2 Q E
noncomputable def zawm (C:Addr) (sp:Sp) (dvs:List V) (E:XK) (t:TA):TE:=fun σ H Q=>t σ H fun vs H1=>∀ x dx,H1 x=none->H1 dx=none->dx ≠ x->
 sp (.ref x::(vs++dvs)) (upd (upd H1 dx (.own x)) x (.ins C dx [])) (fun v H2=>v=.non/\Q (.ref x) H2) E
noncomputable def Binds (K:PySem.W.Frag) (fd:FuncData) (ps:List Str) (ds:List Value):Prop:=
 ∀ (s:Shared) (us:List Value),K.In s.heap->(us++ds).length=ps.length->BindsTo s fd ⟨us,[]⟩ (ps.zip (us++ds))
theorem Binds.all {K:PySem.W.Frag} {fd:FuncData} {ps:List Str} (h:∀ us:List Value,us.length=ps.length->bindArgs fd ⟨us,[]⟩=pure (ps.zip us)):Binds K fd ps []:=fun s us _ hl=>by
 rw [List.append_nil] at hl ⊢
 exact .of_eq (h us hl)
noncomputable def zahI (CX:CXT) (X:Cx) (E:XK):Prop:=∀ (pins:List (Addr × Obj)) (σ:St) (H:Hp) (s:Shared) (e:Value) (s':Shared),Inv X pins σ H s->CX X.stack H s E e s'->X.xe e s'
section
variable {X:Cx} {CX:CXT} {k:Nat} {f C:Addr} {fd:FuncData} {ps:List Str} {sp:Sp} {dvs:List V} {ds:List Value} {E:XK} {x m:Str} {p pos apos:Pos} {e o:Expr} {es:List Expr} {ta:TE} {t:TA}
theorem zaqt {pins:List (Addr × Obj)} {σ:St} {H:Hp} {s:Shared} {Q:VK} {us:List Value} {vs:List V} (F:FnOk X.prog X.w X.K X.mg X.base CX k f fd ps sp) (hr:Room k X.A) (hb:Binds X.K fd ps ds) (hd:Vals dvs ds) (hx:zahI CX X E)
 (I:Inv X pins σ H s) (r:Vals vs us) (h:sp (vs++dvs) H Q E):wpAny (model X.prog X.w) X.A (call (.ref f) us) (EP X pins σ Q) X.xe s:=by
 have r2:Vals (vs++dvs) (us++ds):=r.append hd
 have hl:(us++ds).length=ps.length:=by rw [<- r2.length]; exact F.len _ _ _ _ h
 refine wpAny_call (codeAny_mono (F.run X.A X.stack s H ⟨us,[]⟩ (us++ds) (vs++dvs) Q E hr I.env0 (hb s us I.kIn hl) r2 h) fun r s' hq=>?_)
 cases r with
 | error e=>exact hx pins σ H s e s' I hq
 | ok fl=>
  cases fl with
  | ret u=>exact I.after hq
  | next=>exact False.elim hq
  | brk=>exact False.elim hq
  | cont=>exact False.elim hq
theorem zasV (F:FnOk X.prog X.w X.K X.mg X.base CX k f fd ps sp) (hr:Room k X.A) (hg:Gl X x) (hm:X.mg x=some (.ref f)) (hk:PySem.W.keepIn X.K (.ref f)=true) (hb:Binds X.K fd ps ds) (hd:Vals dvs ds) (hx:zahI CX X E)
 (ha:PA X (e::es) t) (hdb:(x == ("__debug__" : Str))=false:=by decide) (he:starEach (e::es) X.env=(false,eval e X.env)::starEach es X.env:=by rfl) (hpl:(backTo pos (starEach es X.env)).any (·.1)=false:=by rfl) :
 PE X (.Call (.Name x p) (e::es) [] pos) (zav9 sp dvs E t):=by
 intro pins s σ H Q I h
 refine wpAny_Call_Name_kw (zakX I hg hm ?_ hdb)
 refine PySem.W.callWith_K (h₀:=X.base) I.ok.mod.kin hk (thn (ha pos pins s σ H _ I h) fun us s1 ⟨vs,H1,I1,r,q⟩=>⟨I1.kIn,?_⟩) he hpl
 exact zaqt F hr hb hd hx I1 r q
theorem zate {pl:Sem Bool} (he:PE X o ta) (c:Cls X.K C) (hm:Meth X.K C m f) (F:FnOk X.prog X.w X.K X.mg X.base CX k f fd ps sp) (hr:Room k X.A) (hb:Binds X.K fd ps ds) (hd:Vals dvs ds) (hx:zahI CX X E) (ha:PA X (e::es) t)
 (hst:starEach (e::es) X.env=(false,eval e X.env)::starEach es X.env:=by rfl) (hpl:(backTo pos (starEach es X.env)).any (·.1)=false:=by rfl)
 (ht:eval (.Call (.Attribute o m apos) (e::es) [] pos) X.env=(do
  let ov <- eval o X.env
  standAt apos.atName
  let (f,first) <- holding [ov] (getMethod ov m pl)
  callWith pos f first (backTo pos (starEach (e::es) X.env)) (backToKw pos (keywordEach [] X.env))):=by rfl) :
 PE X (.Call (.Attribute o m apos) (e::es) [] pos) (zawl C m sp dvs E ta t):=by
 intro pins s σ H Q I h
 refine PySem.W.methodCall_KW (pl:=pl) (thn (he pins s σ H _ I h) fun u s1 ⟨x,H1,I1,rx,a,dx,fs,ex,ea,l,q⟩=>?_) ht
 subst ex
 obtain rfl:u=Value.ref a:=rx
 refine zakM I1 ea c hm l ?_
 refine PySem.W.callWith_K (first:=[.ref a]) (h₀:=X.base) I.ok.mod.kin hm.kp (thn (ha pos pins s1 σ H1 _ I1 q) fun us s2 ⟨vs,H2,I2,r,q2⟩=>⟨I2.kIn,?_⟩) hst hpl
 exact zaqt (us:=.ref a::us) (vs:=.ref a::vs) F hr hb hd hx I2 (.cons rfl r) q2
structure Mk (K:PySem.W.Frag) (C f:Addr):Prop where
 makes:PySem.W.makesIn K C=true
 init:PySem.W.findIn K (.ref C) "__init__" = some (some (.ref f))
 fn:PySem.W.isFn K (.ref f)=true
 kp:PySem.W.keepIn K (.ref C)=true
theorem zarm {pins:List (Addr × Obj)} {σ:St} {H:Hp} {s:Shared} {Q:VK} {us:List Value} {vs:List V} (M:Mk X.K C f) (F:FnOk X.prog X.w X.K X.mg X.base CX k f fd ps sp) (hr:Room (k + 1) X.A) (hb:Binds X.K fd ps ds) (hd:Vals dvs ds)
 (hx:zahI CX X E) (I:Inv X pins σ H s) (r:Vals vs us)
 (h:∀ x dx,H x=none->H dx=none->dx ≠ x->sp (.ref x::(vs++dvs)) (upd (upd H dx (.own x)) x (.ins C dx [])) (fun v H2=>v=.non/\Q (.ref x) H2) E) :
 wpAny (model X.prog X.w) X.A (call (.ref C) us) (EP X pins σ Q) X.xe s:=by
 have hq:=h (s.heap.objs.size + 1) s.heap.objs.size (I.hok.fresh (Nat.le_succ _)) (I.hok.fresh (Nat.le_refl _)) (Nat.ne_of_lt (Nat.lt_succ_self _))
 have I2:=Inv.made (C:=C) I
 have r2:Vals (V.ref (s.heap.objs.size + 1)::(vs++dvs)) (Value.ref (s.heap.objs.size + 1)::(us++ds)):=.cons rfl (r.append hd)
 have hl:(Value.ref (s.heap.objs.size + 1)::us++ds).length=ps.length:=by
  have e:=r2.length
  rw [F.len _ _ _ _ hq] at e
  exact e.symm
 refine wpAny_call (zar3 (f:=f) I.kIn M.makes M.init (beq_iff_eq.mp M.fn) (codeAny_mono (F.run _ X.stack _ _ ⟨Value.ref (s.heap.objs.size + 1)::us,[]⟩ (Value.ref (s.heap.objs.size + 1)::(us++ds)) _ _ E (hr.make C us [])
  (I2.env0.make C us []) (hb _ (Value.ref (s.heap.objs.size + 1)::us) I2.kIn hl) r2 hq) fun r s' hq'=>?_))
 cases r with
 | error e=>exact hx pins σ _ _ e s' I2 hq'
 | ok fl=>
  cases fl with
  | ret u=>
   obtain ⟨v,H',I3,rv,ev,q3⟩:=I2.after hq'
   subst ev
   exact ⟨rv,⟨V.ref (s.heap.objs.size + 1),H',I3,rfl,q3⟩⟩
  | next=>exact False.elim hq'
  | brk=>exact False.elim hq'
  | cont=>exact False.elim hq'
theorem zas3 (M:Mk X.K C f) (F:FnOk X.prog X.w X.K X.mg X.base CX k f fd ps sp) (hr:Room (k + 1) X.A) (hg:Gl X x) (hm:X.mg x=some (.ref C)) (hb:Binds X.K fd ps ds) (hd:Vals dvs ds) (hx:zahI CX X E)
 (ha:PA X (e::es) t) (hdb:(x == ("__debug__" : Str))=false:=by decide) (he:starEach (e::es) X.env=(false,eval e X.env)::starEach es X.env:=by rfl) (hpl:(backTo pos (starEach es X.env)).any (·.1)=false:=by rfl) :
 PE X (.Call (.Name x p) (e::es) [] pos) (zawm C sp dvs E t):=by
 intro pins s σ H Q I h
 refine wpAny_Call_Name_kw (zakX I hg hm ?_ hdb)
 refine PySem.W.callWith_K (h₀:=X.base) I.ok.mod.kin M.kp (thn (ha pos pins s σ H _ I h) fun us s1 ⟨vs,H1,I1,r,q⟩=>⟨I1.kIn,?_⟩) he hpl
 exact zarm M F hr hb hd hx I1 r q
end
section
variable {X:Cx} {CX:CXT} {k:Nat} {f C:Addr} {fd:FuncData} {ps ks:List Str} {sp:Sp} {E:XK} {x m:Str} {p pos apos kpos:Pos} {e o:Expr} {es:List Expr} {kws:List Keyword} {te ta:TE} {t tk:TA} {nm:Option Str}
variable {g:List Value->List Value->List Value} {gV:List V->List V->List V}
end
structure zaay (N P:List Str) (sc:Scope):Prop where
 kind:sc.kind=.function
 co:sc.isCoroutine=false
 gen:sc.isGenerator=false
 nd:N.Nodup
 pre:N.take P.length=P
 par:∀ x ∈ P,sc.names.lookup x=some .local\/sc.names.lookup x=some .cell
 nofree:∀ y ∈ sc.names,y.2 ≠ .free
theorem zaly {kindOf:Str->Option NameKind} {x:Str}:∀ {binds:List (Str × Value)} {m:Str->Option Value},(∀ v,(x,v) ∉ binds)->bindL kindOf binds m x=m x
 | [],_,_=>rfl
 | (n,v)::r,m,h=>by
  unfold bindL
  rw [zaly fun w hw=>h w (List.mem_cons_of_mem _ hw)]
  split
  · have:x ≠ n:=by rintro rfl; exact h v List.mem_cons_self
    simp [this]
  · rfl
theorem zalK {kindOf:Str->Option NameKind} {x:Str}:∀ {binds:List (Str × Value)} {m:Str->Option Value},(∀ v,(x,v) ∉ binds)->bindC kindOf binds m x=m x
 | [],_,_=>rfl
 | (n,v)::r,m,h=>by
  unfold bindC
  rw [zalK fun w hw=>h w (List.mem_cons_of_mem _ hw)]
  split
  · rfl
  · have:x ≠ n:=by rintro rfl; exact h v List.mem_cons_self
    simp [this]
theorem zal6 {kindOf:Str->Option NameKind} {x:Str} {v:Value}:∀ {P:List Str} {vs:List Value} {i:Nat} {m:Str->Option Value},P.Nodup->P[i]?=some x->vs[i]?=some v->kindOf x=some .local->
 bindL kindOf (P.zip vs) m x=some v
 | [],_,_,_,_,h,_,_=>by simp at h
 | _::_,[],_,_,_,_,h,_=>by simp at h
 | p::P,w::vs,0,m,nd,h1,h2,hk=>by
  simp at h1 h2; subst h1; subst h2
  show bindL kindOf ((p,w)::P.zip vs) m p=_
  unfold bindL
  rw [zaly fun v hv=>(List.nodup_cons.mp nd).1 (List.of_mem_zip hv).1,if_pos hk]
  simp
 | p::P,w::vs,i + 1,m,nd,h1,h2,hk=>by
  show bindL kindOf ((p,w)::P.zip vs) m x=_
  unfold bindL
  exact zal6 (i:=i) (List.nodup_cons.mp nd).2 (by simpa using h1) (by simpa using h2) hk
theorem zalR {kindOf:Str->Option NameKind} {x:Str} {v:Value}:∀ {P:List Str} {vs:List Value} {i:Nat} {m:Str->Option Value},P.Nodup->P[i]?=some x->vs[i]?=some v->kindOf x ≠ some .local->
 bindC kindOf (P.zip vs) m x=some v
 | [],_,_,_,_,h,_,_=>by simp at h
 | _::_,[],_,_,_,_,h,_=>by simp at h
 | p::P,w::vs,0,m,nd,h1,h2,hk=>by
  simp at h1 h2; subst h1; subst h2
  show bindC kindOf ((p,w)::P.zip vs) m p=_
  unfold bindC
  rw [zalK fun v hv=>(List.nodup_cons.mp nd).1 (List.of_mem_zip hv).1,if_neg hk]
  simp
 | p::P,w::vs,i + 1,m,nd,h1,h2,hk=>by
  show bindC kindOf ((p,w)::P.zip vs) m x=_
  unfold bindC
  exact zalR (i:=i) (List.nodup_cons.mp nd).2 (by simpa using h1) (by simpa using h2) hk
noncomputable def zafc (N:List Str) (vs:List V):St:=vs.map some++List.replicate (N.length - vs.length) none
noncomputable def cxOf (CX:CXT) (P:Program) (w:World) (K:PySem.W.Frag) (mg:Str->Option Value) (base:Heap) (N:List Str) (qual:Str) (scope:Scope) (f:Addr) (cd:Value) (A:Around) (outer:List Env) (s:Shared) (H:Hp) (E:XK):Cx where
 prog:=P
 w:=w
 K:=K
 mg:=mg
 base:=base
 A:=A.deeper (envOfC qual scope s.heap.objs.size f cd)
 N:=N
 s₀:=s
 H₀:=H
 env:=envOfC qual scope s.heap.objs.size f cd
 outer:=outer
 stack:=envOfC qual scope s.heap.objs.size f cd::outer
 ex:=[]
 calm:=true
 fn:=fun _=>true
 pn:=[]
 xe:=fun e s'=>wpAny (model P w) (A.deeper (envOfC qual scope s.heap.objs.size f cd)) (leaving (envOfC qual scope s.heap.objs.size f cd) e) (fun _ s''=>CX outer H s E e s'') (fun e' s''=>CX outer H s E e' s'') s'
theorem zamC {sc:Scope} {n:Nat} {x:Str} (h:sc.names.lookup x=some .cell):∃ c,(cellsFrom n sc.names []).lookup x=some c:=by
 have q:=PySem.W.cellsFrom_some sc.names n [] (.inl h)
 exact Option.isSome_iff_exists.mp q
theorem zaqE {CX:CXT} {P:Program} {w:World} {K:PySem.W.Frag} {mg:Str->Option Value} {base:Heap} {N ps:List Str} {qual:Str} {scope:Scope} {f:Addr} {cd:Value} {A:Around} {outer:List Env} {s s1:Shared} {H:Hp} {E:XK} {us:List Value} {vs:List V}
 (S:zaay N ps scope) (hd:A.handled=none) (e0:Env0 P w K mg base A outer s H) (hl:vs.length=ps.length) (r:Vals vs us)
 (x:InCallC s s.heap.objs.size (bindL (envOfC qual scope s.heap.objs.size f cd).kindOf (ps.zip us) fun _=>none) (cellsFrom (s.heap.objs.size + 1) scope.names []) (bindC (envOfC qual scope s.heap.objs.size f cd).kindOf (ps.zip us) fun _=>none) s1) :
 Inv (cxOf CX P w K mg base N qual scope f cd A outer s H E) [] (zafc N vs) H s1:=by
 have hpl:ps.length<=N.length:=by have:=congrArg List.length S.pre; rw [List.length_take] at this; omega
 obtain ⟨h1,tk,rfl,hk⟩:=x.done
 have noA:∀ b:Addr,b ∉ (cxOf CX P w K mg base N qual scope f cd A outer s H E).ex:=fun b z=>absurd (show b ∈ ([]:List Addr) from z) (by simp)
 refine ⟨⟨e0.mod,S.kind,rfl,rfl,Nat.le_refl _,fun y z c h1 h2=>?_,fun y hy=>?_,fun y c _ h=>?_,fun _=>hd,Around.frames_deeper e0.frames,.inr ⟨rfl,rfl⟩,fun b z=>absurd z (noA b),e0.bs,e0.bsz,fun b _ _=>noA b,fun b z=>absurd z (noA b),e0.funs,e0.frf⟩,
  rfl,e0.bare,Un.kept hk,⟨_,x.toInCall.ns,fun i y v h1 h2 h3=>?_⟩,fun y c h=>⟨_,x.cell y c h⟩,e0.hok.fresh (Nat.le_refl _),fun y c h=>?_,fun p hp=>absurd (show p ∈ ([]:List (Addr × Obj)) from hp) (by simp),e0.hok.kept hk,?_⟩
 · exact name_of_addr x.apart (PySem.mem_of_lookup h1) (PySem.mem_of_lookup h2)
 · have hy:scope.names.lookup y=some .cell\/scope.names.lookup y=some .free:=hy
   rcases hy with hy | hy
   · exact zamC hy
   · exact absurd rfl (S.nofree _ (PySem.mem_of_lookup hy))
 · exact Nat.le_of_lt (x.above y c (PySem.mem_of_lookup h))
 · have hi:i < vs.length:=by
    unfold zafc at h2
    by_cases hi:i < vs.length
    · exact hi
    · rw [List.getElem?_append_right (by simpa using hi)] at h2
      rw [List.getElem?_replicate] at h2
      split at h2 <;> cases h2
   have ha:vs[i]?=some v:=by
    unfold zafc at h2
    rw [List.getElem?_append_left (by simpa using hi),List.getElem?_map] at h2
    cases e:vs[i]? with
    | none=>rw [e] at h2; cases h2
    | some a=>rw [e] at h2; cases h2; rfl
   obtain ⟨u,hu,rv⟩:=r.get ha
   have hp:ps[i]?=some y:=by
    rw [<- S.pre,List.getElem?_take_of_lt (by omega)]; exact h1
   have ndP:ps.Nodup:=by rw [<- S.pre]; exact S.nd.sublist (List.take_sublist _ _)
   refine ⟨u,rv,?_⟩
   rcases S.par y (List.mem_of_getElem? hp) with k | k
   · exact .inl ⟨k,zal6 ndP hp hu k⟩
   · obtain ⟨c,e⟩:=zamC (n:=s.heap.objs.size + 1) k
     refine .inr ⟨.inl k,c,e,?_⟩
     have q:=x.cell y c e
     rw [zalR ndP hp hu (by show scope.names.lookup y ≠ _; rw [k]; decide)] at q
     exact q
 · exact e0.hok.fresh (Nat.le_of_lt (x.above y c (PySem.mem_of_lookup h)))
 · unfold zafc
   show _=N.length
   rw [List.length_append,List.length_map,List.length_replicate]
   omega
theorem zasF {CX:CXT} {P:Program} {w:World} {K:PySem.W.Frag} {mg:Str->Option Value} {base:Heap} {k:Nat} {f:Addr} {name qual:Str} {params:Arguments} {body:List Stmt} {scope:Scope} {dV kV doc pm cdv ct oc:Value} {an od:Option Addr}
 {osl:Array (Option Value)} {N ps:List Str} {sp:Sp} (lk:K.lookup f=some ⟨oc,od,.func (PySem.W.fnOf name qual params body scope dV kV doc pm an cdv ct),osl⟩) (hcd:PySem.W.codeIn K cdv qual=true) (S:zaay N ps scope)
 (len:∀ vs H Q E,sp vs H Q E->vs.length=ps.length)
 (hbody:∀ (A:Around) (outer:List Env) (s:Shared) (H:Hp) (vs:List V) (Q:VK) (E:XK),Room k (A.deeper (envOfC qual scope s.heap.objs.size f cdv))->sp vs H Q E->
  ∃ t,PSs (cxOf CX P w K mg base N qual scope f cdv A outer s H E) body t/\t { nx:=fun _ H'=>Q .non H',rt:=Q } (zafc N vs) H) :
 FnOk P w K mg base CX (k + 1) f (PySem.W.fnOf name qual params body scope dV kV doc pm an cdv ct) ps sp:=by
 refine ⟨len,fun A outer s H args us vs Q E hr e0 hb r hsp=>?_⟩
 have hl:=len _ _ _ _ hsp
 have KX:K.In s.heap:=e0.mod.kin.keeps fun b o e=>(e0.bs b o e).1
 have lim:s.heap.NoLimit:=e0.mod.nolimit.keeps fun b o e=>(e0.bs b o e).1
 have hkind:∀ y ∈ ps.zip us,scope.names.lookup y.1=some .local\/(scope.names.lookup y.1=some .cell/\((cellsFrom (s.heap.objs.size + 1) scope.names []).lookup y.1).isSome=true):=fun ⟨n,v⟩ hy=>by
  rcases S.par n (List.of_mem_zip hy).1 with q | q
  · exact .inl q
  · exact .inr ⟨q,PySem.W.cellsFrom_some _ _ _ (.inl q)⟩
 refine codeAny_call_function hr.depth (KX _ _ lk) rfl S.co S.gen rfl (PySem.W.codeRec_of KX hcd) (hb _ _ _ _ ?_)
 refine wpAny_newFunctionEnv_cells S.kind hkind fun env he s1 x=>?_
 subst he
 refine ⟨lim.keeps x.toInCall.keep,codeAny_func ?_⟩
 obtain ⟨t,ht,hq⟩:=hbody A outer s H vs Q E (hr.deeper _) hsp
 have I:Inv (cxOf CX P w K mg base N qual scope f cdv A outer s H E) [] (zafc N vs) H s1:=zaqE S hr.hd e0 hl r x
 refine wpAny_mono (ht [] s1 (zafc N vs) H _ I hq) (fun fl s' hs=>?_) fun e s' hs=>hs
 have fin:∀ {σ':St} {H':Hp} {v:V} {u:Value},Inv (cxOf CX P w K mg base N qual scope f cdv A outer s H E) [] σ' H' s'->RelV v u->Q v H'->CE outer P w H s Q u s':=
  fun {σ' H' v u} J rv q=>⟨v,H',J.os,J.bare,J.base,J.hok,rv,q⟩
 cases fl with
 | ret u=>
  obtain ⟨v,σ',H',J,rv,q⟩:=hs
  exact fin J rv q
 | next=>
  obtain ⟨σ',H',J,q⟩:=hs
  exact fin (v:=V.non) (u:=Value.none) J rfl q
 | brk=>
  obtain ⟨_,_,_,q⟩:=hs
  exact False.elim q
 | cont=>
  obtain ⟨_,_,_,q⟩:=hs
  exact False.elim q
end L2
namespace L2
open PySem PySem.Spec PyProof.Rows
section
variable {X:Cx} {x:Str} {p pos:Pos} {e:Expr} {es:List Expr} {t:TA} {id T:String} {r:List V->Hp->VK->Prop}
noncomputable def tCB (r:List V->Hp->VK->Prop) (t:TA):TE:=fun σ H Q=>t σ H fun vs H1=>r vs H1 Q
theorem zakb (hc:CallR X (.builtin id) r) (hg:Gl X x) (hm:X.mg x=none) (hv:bootBuiltins x=some (.builtin id)) (ha:PA X (e::es) t) (hn:x ≠ "__name__" := by decide) (hdb:(x == ("__debug__" : Str))=false:=by decide)
 (he:starEach (e::es) X.env=(false,eval e X.env)::starEach es X.env:=by rfl) (hpl:(backTo pos (starEach es X.env)).any (·.1)=false:=by rfl):PE X (.Call (.Name x p) (e::es) [] pos) (tCB r t):=by
 intro pins s σ H Q I h
 refine wpAny_Call_Name_kw (zagb I hg hm hv ?_ hn hdb)
 exact PyProof.Rows.callWith_builtin1 (thn (ha pos pins s σ H _ I h) fun us s1 ⟨vs,H1,I1,r1,q1⟩=>hc pins s1 σ H1 vs us Q I1 r1 q1) he hpl
theorem zap1 (hc:CallR X (.type T) r) (hg:Gl X x) (hm:X.mg x=none) (hv:bootBuiltins x=some (.type T)) (ha:PA X (e::es) t) (hn:x ≠ "__name__" := by decide) (hdb:(x == ("__debug__" : Str))=false:=by decide)
 (he:starEach (e::es) X.env=(false,eval e X.env)::starEach es X.env:=by rfl) (hpl:(backTo pos (starEach es X.env)).any (·.1)=false:=by rfl):PE X (.Call (.Name x p) (e::es) [] pos) (tCB r t):=by
 intro pins s σ H Q I h
 refine wpAny_Call_Name_kw (zagb I hg hm hv ?_ hn hdb)
 exact PyProof.Rows.callWith_type1 (thn (ha pos pins s σ H _ I h) fun us s1 ⟨vs,H1,I1,r1,q1⟩=>hc pins s1 σ H1 vs us Q I1 r1 q1) he hpl
end
end L2
namespace HT
open PySem PyProof.Rows
section
open PySem.SeqAt
open PySem.AutoSeq1 (wpAny_loadPart')
open PySem.MeetsSeq PySem.MeetsSeq2 PySem.MeetsSeq3
end
section
variable {prog:Program} {w:World} {A:Around} {E:Value->Shared->Prop} {s:Shared}
theorem cat_tup {t b:Addr} {vs ws:List Value} {Q:Value->Shared->Prop} (ht:IsTup s.heap t vs.toArray) (hb:IsTup s.heap b ws.toArray) (hv:vs ≠ [])
 (h1:ws=[]->Q (.ref t) s) (h2:ws ≠ []->Q (.ref s.heap.objs.size) { s with heap:=s.heap.push { cls:=.type "tuple", data:=.seq (vs++ws).toArray } })
 (hsz:vs.length + ws.length<=sizeLine):wpAny (model prog w) A (binaryOp .Add (.ref t) (.ref b)) Q E s:=by
 obtain ⟨⟨cls,dd,data,sl⟩,ho,hc,n,hd⟩:=id ht
 obtain ⟨⟨cls2,dd2,data2,sl2⟩,ho2,hc2,n2,hd2⟩:=id hb
 simp only at hc hd hc2 hd2
 subst hc hd hc2 hd2
 have e:vs.toArray++ws.toArray=(vs++ws).toArray:=by simp
 by_cases hw:ws=[]
 · exact concat_meets ⟨_,ho,rfl⟩ ⟨_,ho2,rfl⟩ noFill_tuple_add seq_tuple_add PySem.F.slot_tuple_add PySem.F.entry_tuple_add (PySem.F.args_tuple_add_2 _ _)
    (tuple_addW1 t b vs.toArray ws.toArray n n2 dd dd2 sl sl2 (by simpa using hv) (by simp [hw])) ⟨ho,ho2,h1 hw⟩
 · refine concat_meets ⟨_,ho,rfl⟩ ⟨_,ho2,rfl⟩ noFill_tuple_add seq_tuple_add PySem.F.slot_tuple_add PySem.F.entry_tuple_add (PySem.F.args_tuple_add_2 _ _)
    (tuple_addW2 t b vs.toArray ws.toArray n n2 dd dd2 sl sl2 (by simpa using hv) (by simpa using hw) (by rw [List.size_toArray,List.size_toArray]; exact hsz)) ⟨ho,ho2,?_⟩
   rw [e]
   exact h2 hw
noncomputable def sIx (n d:Nat):Option Int->Nat
 | none=>d
 | some v=>if v < 0 then (v + (n:Int)).toNat else min v.toNat n
end
end HT
namespace L2
open PySem PySem.Spec PyProof.Rows
noncomputable abbrev TO:=St->Hp->(Option Int->Hp->Prop)->Prop
noncomputable def PO (X:Cx) (e:Option Expr) (t:TO):Prop:=
 ∀ (pins:List (Addr × Obj)) (s:Shared) (σ:St) (H:Hp) (Q:Option Int->Hp->Prop),Inv X pins σ H s->t σ H Q->
  wpAny (model X.prog X.w) X.A (evalPart e X.env) (fun u s'=>∃ o H',Inv X pins σ H' s'/\IsPart u o/\Q o H') X.xe s
noncomputable def zaua:TO:=fun _ H Q=>Q none H
noncomputable def zawg (t:TE):TO:=fun σ H Q=>t σ H fun x H1=>∃ i,x=.int i/\Q (some i) H1
theorem zagB {ns:List Int}:∀ {us:List Value},Vals (ns.map V.int) us->IntsAre us ns:=by
 induction ns with
 | nil=>intro us r; rw [List.map_nil] at r; cases r; exact .nil
 | cons n ns ih=>
  intro us r
  rw [List.map_cons] at r
  cases r with
  | cons r1 r2=>
   obtain ⟨t,e⟩:=r1
   subst e
   exact .cons n t (ih r2)
section
variable {X:Cx} {e:Expr} {te:TE} {lo hi:Option Expr} {tl th:TO} {pos p2:Pos}
theorem zasS:PO X none zaua:=by
 intro pins s σ H Q I h
 rw [evalPart_none]
 exact wpAny_pure ⟨none,H,I,.none,h⟩
theorem zas2 (h:PE X e te):PO X (some e) (zawg te):=by
 intro pins s σ H Q I hw
 rw [evalPart_some]
 refine thn (h pins s σ H _ I hw) fun u s1 ⟨x,H1,I1,r1,q1⟩=>?_
 obtain ⟨i,rfl,q⟩:=q1
 obtain ⟨t,rfl⟩:=r1
 exact ⟨some i,H1,I1,.int i t,q⟩
noncomputable def SlR (X:Cx) (r:V->Option Int->Option Int->Hp->VK->Prop):Prop:=
 ∀ (pins:List (Addr × Obj)) (s:Shared) (σ:St) (H:Hp) (x:V) (v vl vu:Value) (lo hi:Option Int) (sl:Addr) (Q:VK),Inv X pins σ H s->RelV x v->s.heap.IsSliceOf sl vl vu .none->IsPart vl lo->IsPart vu hi->r x lo hi H Q->
  ∃ T id,typeLookup (.type T) "__getitem__" = pure (some (.builtin id))/\s.TypeIs v T/\wpAny (model X.prog X.w) X.A (getItem v (.ref sl)) (EP X pins σ Q) X.xe s
noncomputable def tSl (r:V->Option Int->Option Int->Hp->VK->Prop) (te:TE) (tl th:TO):TE:=fun σ H Q=>te σ H fun x H1=>tl σ H1 fun l H2=>th σ H2 fun u H3=>r x l u H3 Q
theorem zarf {r:V->Option Int->Option Int->Hp->VK->Prop} (hr:SlR X r) (he:PE X e te) (hl:PO X lo tl) (hu:PO X hi th):PE X (.Subscript e (.Slice lo hi none p2) pos) (tSl r te tl th):=by
 intro pins s σ H Q I h
 refine Subscript_ (thn (he pins s σ H _ I h) fun v s1 ⟨x,H1,I1,r1,q1⟩=>?_)
 refine wpAny_Slice (thn (hl pins s1 σ H1 _ I1 q1) fun vl s2 ⟨l,H2,I2,pl,q2⟩=>thn (hu pins s2 σ H2 _ I2 q2) fun vu s3 ⟨u,H3,I3,pu,q3⟩=>?_)
 rw [evalPart_none]
 refine wpAny_pure ?_
 have I4:Inv X pins σ H3 { s3 with heap:=s3.heap.push { cls:=.type "slice", data:=.fields #[vl,vu,.none] } }:=I3.kept (t':=s3.toks) fun b ob q=>Heap.get?_push_of_some _ q
 obtain ⟨T,id,hT,ht,hg⟩:=hr pins { s3 with heap:=s3.heap.push { cls:=.type "slice", data:=.fields #[vl,vu,.none] } } σ H3 x v vl vu l u s3.heap.objs.size Q I4 r1 (Heap.IsSliceOf.new ..) pl pu q3
 show wpAny (model X.prog X.w) X.A (subscriptTail e (.Slice lo hi none p2) v (.ref s3.heap.objs.size)) (EP X pins σ Q) X.xe { s3 with heap:=s3.heap.push { cls:=.type "slice", data:=.fields #[vl,vu,.none] } }
 exact tail_any (ops:=[.ref s3.heap.objs.size,v]) ht hT hg (by with_unfolding_all rfl)
noncomputable def cutV (xs:List V) (lo hi:Option Int):List V:=(xs.drop (HT.sIx xs.length 0 lo)).take (HT.sIx xs.length xs.length hi - HT.sIx xs.length 0 lo)
theorem zanS (xs:List V) (lo hi:Option Int):(cutV xs lo hi).length<=xs.length:=by
 unfold cutV
 rw [List.length_take,List.length_drop]
 omega
noncomputable def zavR (K:PySem.W.Frag):R2:=fun x y H Q=>∃ a b xs ys,x=.ref a/\y=.ref b/\SqT K H a xs/\SqT K H b ys/\xs ≠ []/\xs.length + ys.length<=sizeLine/\
 (ys=[]->Q (.ref a) H)/\(ys ≠ []->∀ p,H p=none->Q (.ref p) (upd H p (.tup (xs++ys))))
theorem Vals.nil_iff {xs:List V} {us:List Value} (r:Vals xs us):us=[] ↔ xs=[]:=by
 cases r with
 | nil=>simp
 | cons _ _=>simp
theorem zatA:OpR X (binaryOp .Add) (zavR X.K):=by
 intro pins s σ H x y v u Q I rx ry h
 obtain ⟨a,b,xs,ys,rfl,rfl,ha,hb,hx,hz,q1,q2⟩:=h
 cases rx
 cases ry
 obtain ⟨its,r1,p1,_⟩:=I.tuple ha
 obtain ⟨its2,r2,p2,_⟩:=I.tuple hb
 refine HT.cat_tup p1 p2 (fun z=>hx (r1.nil_iff.mp z)) (fun z=>⟨.ref a,H,I,rfl,q1 (r2.nil_iff.mp z)⟩) (fun z=>?_) (by rw [<- r1.length,<- r2.length]; exact hz)
 refine ⟨.ref s.heap.objs.size,_,I.laid (t':=s.toks) (o:=.tup (xs++ys)) (fun b ob q=>Heap.get?_push_of_some _ q) (Nat.le_refl _) ?_,rfl,q2 (fun w=>z (r2.nil_iff.mpr w)) _ (I.hok.fresh (Nat.le_refl _))⟩
 exact ⟨by rw [List.length_append]; exact hz,_,r1.append r2,IsTup.new _ _⟩
end
end L2
namespace L2
open PySem PySem.Spec PyProof.Rows
noncomputable def ixN (n:Nat) (i:Int):Option Nat:=if 0<=i then (if i < n then some i.toNat else none) else if -(n:Int)<=i then some (i + n).toNat else none
noncomputable def atI {α:Type} (xs:List α) (i:Int):Option α:=(ixN xs.length i).bind fun j=>xs[j]?
theorem zan9 {n:Nat} {i:Int} {j:Nat} (h:ixN n i=some j):seqIndex? i n=some j/\j < n/\-(n:Int)<=i/\i < n:=by
 unfold ixN at h
 by_cases h0:0<=i
 · rw [if_pos h0] at h
   by_cases h1:i < n
   · rw [if_pos h1] at h
     have e:i.toNat=j:=Option.some.inj h
     exact ⟨by rw [seqIndex_of h0 h1,e],by omega,by omega,h1⟩
   · rw [if_neg h1] at h; cases h
 · rw [if_neg h0] at h
   by_cases h1:-(n:Int)<=i
   · rw [if_pos h1] at h
     have e:(i + n).toNat=j:=Option.some.inj h
     exact ⟨by rw [seqIndex_neg (by omega) h1,e],by omega,h1,by omega⟩
   · rw [if_neg h1] at h; cases h
theorem zalg {α:Type} {xs:List α} {i:Int} {v:α} (h:atI xs i=some v):∃ j,seqIndex? i xs.length=some j/\xs[j]?=some v/\j < xs.length/\-(xs.length:Int)<=i/\i < xs.length:=by
 unfold atI at h
 cases e:ixN xs.length i with
 | none=>rw [e] at h; cases h
 | some j=>
  rw [e] at h
  obtain ⟨h1,h2,h3,h4⟩:=zan9 e
  exact ⟨j,h1,h,h2,h3,h4⟩
theorem zabL {α:Type} {xs:List α} {j:Nat} {v:α} (h:xs[j]?=some v):atI xs (j:Int)=some v:=by
 have hj:j < xs.length:=(List.getElem?_eq_some_iff.mp h).1
 have e:ixN xs.length (j:Int)=some j:=by
  unfold ixN
  rw [if_pos (by omega),if_pos (by omega)]; simp
 unfold atI; rw [e]; exact h
noncomputable def zaon (b:Expr):Prop:=∀ o i,subscripted b false o i=operate [o,i] (getItem o i)
noncomputable def IxR (X:Cx) (r:R2):Prop:=
 ∀ (value slice:Expr) (pins:List (Addr × Obj)) (s:Shared) (σ:St) (H:Hp) (x y:V) (v u:Value) (Q:VK),Inv X pins σ H s->RelV x v->RelV y u->r x y H Q->
  subscripted slice false v u=operate [v,u] (getItem v u)->wpAny (model X.prog X.w) X.A (subscriptTail value slice v u) (EP X pins σ Q) X.xe s
noncomputable def MtR (X:Cx) (id:String) (r:V->List V->Hp->VK->Prop):Prop:=
 ∀ (pins:List (Addr × Obj)) (s:Shared) (σ:St) (H:Hp) (x:V) (xs:List V) (v:Value) (us:List Value) (Q:VK),Inv X pins σ H s->RelV x v->Vals xs us->r x xs H Q->
  wpAny (model X.prog X.w) X.A (call (.builtin id) (v::us)) (EP X pins σ Q) X.xe s
section
variable {X:Cx} {a b:Expr} {ta tb:TE} {pos:Pos}
theorem IxR.or {r r':R2} (h:IxR X r) (h':IxR X r'):IxR X (fun x y H Q=>r x y H Q\/r' x y H Q):=by
 intro value slice pins s σ H x y v u Q I rx ry q hs
 rcases q with q | q
 · exact h value slice pins s σ H x y v u Q I rx ry q hs
 · exact h' value slice pins s σ H x y v u Q I rx ry q hs
theorem zavV {r:R2} (hr:IxR X r) (ha:PE X a ta) (hb:PE X b tb) (hs:zaon b):PE X (.Subscript a b pos) (tOp r ta tb):=by
 intro pins s σ H Q I h
 exact Subscript_ (binT ha hb I h fun v u s2 x y H2 I2 rx ry q=>hr a b pins s2 σ H2 x y v u Q I2 rx ry q (hs _ _))
noncomputable def rIxL (K:PySem.W.Frag):R2:=fun x y H Q=>∃ p xs i v,x=.ref p/\y=.int i/\SqL K H p xs/\atI xs i=some v/\Q v H
noncomputable def rIxT (K:PySem.W.Frag):R2:=fun x y H Q=>∃ p xs i v,x=.ref p/\y=.int i/\SqT K H p xs/\atI xs i=some v/\Q v H
noncomputable def rIxS:R2:=fun x y H Q=>∃ z i c,x=.str z/\y=.int i/\z.length<=sizeLine/\atI z.cps.toList i=some c/\Q (.str ⟨#[c]⟩) H
theorem ix_list:IxR X (rIxL X.K):=by
 intro value slice pins s σ H x y v u Q I rx ry h hs
 obtain ⟨p,xs,i,z,rfl,rfl,hq,he,q⟩:=h
 cases rx
 obtain ⟨t,rfl⟩:=ry
 obtain ⟨its,r,pl,hz⟩:=I.list hq
 obtain ⟨j,h1,h2,h3,h4,h5⟩:=zalg he
 obtain ⟨w,ew,rw'⟩:=r.get h2
 have hl:=r.length
 have hn:=zahz
 have fin:EP X pins σ Q w s:=⟨z,H,I,rw',q⟩
 by_cases h0:0<=i
 · have hj:i.toNat=j:=by
    rw [seqIndex_of h0 h5] at h1
    exact Option.some.inj h1
   exact item_listR pl.isList h0 (by omega) (by rw [hj]; simpa using ew) fin hs
 · have hj:(i + (its.toArray.size:Int)).toNat=j:=by
    rw [seqIndex_neg (by omega) h4] at h1
    rw [List.size_toArray,<- hl]
    exact Option.some.inj h1
   exact subscriptTail_builtinR (x:=w) pl.isList.typeIs slot_list_getitem.lookup
    (wpAny_getItem_list_neg (Q:=fun r s'=>r=w/\EP X pins σ Q r s') pl.isList (by omega) (by rw [List.size_toArray] <;> omega) (by omega) (by rw [hj]; simpa using ew) ⟨rfl,fin⟩) hs
theorem ix_tup:IxR X (rIxT X.K):=by
 intro value slice pins s σ H x y v u Q I rx ry h hs
 obtain ⟨p,xs,i,z,rfl,rfl,hq,he,q⟩:=h
 cases rx
 obtain ⟨t,rfl⟩:=ry
 obtain ⟨its,r,pl,hz⟩:=I.tuple hq
 obtain ⟨j,h1,h2,h3,h4,h5⟩:=zalg he
 obtain ⟨w,ew,rw'⟩:=r.get h2
 have hl:=r.length
 have hn:=zahz
 have fin:EP X pins σ Q w s:=⟨z,H,I,rw',q⟩
 exact subscriptTail_builtinR (x:=w) pl.typeIs slot_tuple_getitem.lookup
  (getItem_tuple (j:=j) (Q:=fun r s'=>r=w/\EP X pins σ Q r s') pl (by omega) (by omega) (by rw [List.size_toArray,<- hl]; exact h1) (by simpa using ew) ⟨rfl,fin⟩) hs
theorem zaur:IxR X rIxS:=by
 intro value slice pins s σ H x y v u Q I rx ry h hs
 obtain ⟨z,i,c,rfl,rfl,hz,he,q⟩:=h
 obtain ⟨t,rfl⟩:=rx
 obtain ⟨t',rfl⟩:=ry
 obtain ⟨j,h1,h2,h3,h4,h5⟩:=zalg he
 have hl:z.cps.toList.length=z.length:=by simp [Str.length]
 rw [hl] at h1 h4 h5
 have hn:=zahz
 exact tail_any (typeIs_str s z t) slot_str_getitem.lookup (getItem_str (c:=c) (by
  have e1:decide (i < -(2 ^ 63:Int))=false:=decide_eq_false (by omega)
  have e2:decide (i >= 2 ^ 63)=false:=decide_eq_false (by omega)
  rw [e1,e2,Bool.or_false]) (by rw [h1]; simpa using h2) ⟨.str ⟨#[c]⟩,H,I.tok _,⟨_,rfl⟩,q⟩) hs
noncomputable def rIx (K:PySem.W.Frag):R2:=fun x y H Q=>rIxL K x y H Q\/rIxT K x y H Q\/rIxS x y H Q
theorem zauV:IxR X (rIx X.K):=ix_list.or (ix_tup.or zaur)
theorem zapz (its:List Value) (n j:Nat) (u:Value):Obj.mapSeq (·.setIfInBounds j u) { cls:=.type "list", data:=.seq its.toArray n }={ cls:=.type "list", data:=.seq (its.set j u).toArray n }:=by
 simp [Obj.mapSeq]
theorem Inv.lst {pins:List (Addr × Obj)} {σ:St} {H:Hp} {s:Shared} {p:Addr} {xs:List V} (I:Inv X pins σ H s) (h:H p=some (.lst xs)) :
 ∃ (its:List Value) (n:Nat),Vals xs its/\s.heap.get? p=some { cls:=.type "list", data:=.seq its.toArray n }/\xs.length<=sizeLine:=by
 obtain ⟨z,its,n,r,e⟩:=I.hok p _ h
 exact ⟨its,n,r,e,z⟩
theorem Inv.lstUpd {pins:List (Addr × Obj)} {σ:St} {H:Hp} {s:Shared} {p:Addr} {xs ys:List V} {its its':List Value} {n n':Nat} {f:Obj->Obj} (I:Inv X pins σ H s) (h:H p=some (.lst xs))
 (ho:s.heap.get? p=some { cls:=.type "list", data:=.seq its.toArray n }) (hf:f { cls:=.type "list", data:=.seq its.toArray n }={ cls:=.type "list", data:=.seq its'.toArray n' }) (r:Vals ys its') (hz:ys.length<=sizeLine) (t:Nat) :
 Inv X pins σ (upd H p (.lst ys)) { s with heap:=s.heap.update p f,toks:=t }:=by
 have e:(s.heap.update p f).get? p=some { cls:=.type "list", data:=.seq its'.toArray n' }:=by
  rw [Heap.get?_update_self f ho (by rw [hf] <;> rfl),hf]
 refine I.write (x:=p) (e:=p) (by rw [h]; trivial) (.inl rfl) (fun b u hb q=>(Heap.get?_update_other _ _ (Ne.symm hb)).trans q) ⟨_,e⟩ ?_
 exact ⟨hz,its',n',r,e⟩
noncomputable def zawH:V->V->V->Hp->(Hp->Prop)->Prop:=fun o i v H Q=>∃ p xs k j,o=.ref p/\i=.int k/\H p=some (.lst xs)/\ixN xs.length k=some j/\Q (upd H p (.lst (xs.set j v)))
theorem zarJ:PSet X zawH:=by
 intro pins s σ H o i v ov iv u Q I ro ri rv h
 obtain ⟨p,xs,k,j,rfl,rfl,hp,hj,q⟩:=h
 cases ro
 obtain ⟨t,rfl⟩:=ri
 obtain ⟨its,n,r,ho,hz⟩:=I.lst hp
 obtain ⟨h1,h2,h3,h4⟩:=zan9 hj
 have hl:=r.length
 have hn:=zahz
 have I':Inv X pins σ (upd H p (.lst (xs.set j v))) { s with heap:=s.heap.update p (Obj.mapSeq (·.setIfInBounds j u)) }:=
  I.lstUpd hp ho (zapz its n j u) (r.set rv j) (by rw [List.length_set]; exact hz) s.toks
 by_cases h0:0<=k
 · have hk:k.toNat=j:=by
    rw [seqIndex_of h0 h4] at h1
    exact Option.some.inj h1
   exact PySem.W.ki_setAt ho h0 (by omega) (by rw [List.size_toArray,<- hl]; exact h4) (by rw [hk]; exact ⟨_,I',q⟩)
 · have hk:(k + (its.toArray.size:Int)).toNat=j:=by
    rw [seqIndex_neg (by omega) h3] at h1
    rw [List.size_toArray,<- hl]
    exact Option.some.inj h1
   exact PySem.W.ki_setBack ho (by omega) (by rw [List.size_toArray,<- hl]; exact h3) (by omega) (by rw [hk]; exact ⟨_,I',q⟩)
theorem zanC (lo hi:Option Int) (n:Nat):(sliceBounds lo hi none n).1=((HT.sIx n 0 lo:Nat):Int)/\(sliceBounds lo hi none n).2.1=((HT.sIx n n hi:Nat):Int)/\(sliceBounds lo hi none n).2.2=1:=by
 refine ⟨?_,?_,rfl⟩
 · cases lo with
   | none=>simp [sliceBounds,HT.sIx]
   | some i=>
    simp only [sliceBounds,HT.sIx,Option.getD_none,show (1:Int) > 0 by decide,if_true]
    by_cases h:i < 0
    · simp only [h,if_true] <;> omega
    · simp only [h,if_false] <;> omega
 · cases hi with
   | none=>simp [sliceBounds,HT.sIx]
   | some i=>
    simp only [sliceBounds,HT.sIx,Option.getD_none,show (1:Int) > 0 by decide,if_true]
    by_cases h:i < 0
    · simp only [h,if_true] <;> omega
    · simp only [h,if_false] <;> omega
theorem zame (its:List Value) (lo hi:Option Int):slicePick its.toArray lo hi none=((its.drop (HT.sIx its.length 0 lo)).take (HT.sIx its.length its.length hi - HT.sIx its.length 0 lo)).toArray:=by
 obtain ⟨h1,h2,h3⟩:=zanC lo hi its.toArray.size
 unfold slicePick
 rw [h1,h2,h3]
 simp only [sliceRange_one,pick_run,List.size_toArray] <;> rfl
noncomputable def rSlL (K:PySem.W.Frag):V->Option Int->Option Int->Hp->VK->Prop:=fun x lo hi H Q=>∃ a xs,x=.ref a/\SqL K H a xs/\∀ p,H p=none->Q (.ref p) (upd H p (.lst (cutV xs lo hi)))
theorem zatf:SlR X (rSlL X.K):=by
 intro pins s σ H x v vl vu lo hi sl Q I rx hs pl pu h
 obtain ⟨a,xs,rfl,hx,q⟩:=h
 cases rx
 obtain ⟨its,r,ht,hz⟩:=I.list hx
 have hlen:=r.length
 refine ⟨"list", _,slot_list_getitem.lookup,ht.isList.typeIs,?_⟩
 refine wpAny_getItem_list_slice ht.isList hs pl pu .none (by simp) ?_ (by rw [List.size_toArray] <;> omega)
 rw [zame,<- hlen]
 refine ⟨.ref s.heap.objs.size,_,I.laid (t':=s.toks) (o:=.lst (cutV xs lo hi)) (fun b ob q=>Heap.get?_push_of_some _ q) (Nat.le_refl _) ?_,rfl,q _ (I.hok.fresh (Nat.le_refl _))⟩
 exact ⟨Nat.le_trans (zanS xs lo hi) hz,_,0,(r.drop (HT.sIx xs.length 0 lo)).take (HT.sIx xs.length xs.length hi - HT.sIx xs.length 0 lo),Heap.get?_push_size _ rfl⟩
noncomputable def zafW:V->Bool
 | .non=>true
 | .bl _=>true
 | .int _=>true
 | .str _=>true
 | _=>false
noncomputable def eqV:V->V->Bool
 | .non,.non=>true
 | .bl a,.bl b=>a == b
 | .bl a,.int b=>(if a then 1 else 0) == b
 | .int a,.bl b=>a == (if b then 1 else 0)
 | .int a,.int b=>a == b
 | .str a,.str b=>a == b
 | _,_=>false
theorem zaue {A:Around} {s:Shared} {y x:V} {u v:Value} (ry:RelV y u) (rx:RelV x v) (fy:zafW y=true) (fx:zafW x=true):SeqAt.EqAt A s u v (eqV y x):=by
 cases y with
 | non=>
  cases ry
  cases x with
  | non=>cases rx; exact SeqAt.EqAt.same _
  | bl b=>cases rx; exact SeqAt.EqAt.none_bool b
  | int b=>obtain ⟨t,rfl⟩:=rx; exact SeqAt.EqAt.none_int b t
  | str b=>obtain ⟨t,rfl⟩:=rx; exact SeqAt.EqAt.none_str b t
  | _=>exact absurd (show false=true from fx) Bool.false_ne_true
 | bl a=>
  cases ry
  cases x with
  | non=>cases rx; exact SeqAt.EqAt.bool_none a
  | bl b=>cases rx; exact SeqAt.EqAt.bool_bool a b
  | int b=>obtain ⟨t,rfl⟩:=rx; exact SeqAt.EqAt.bool_int a b t
  | str b=>obtain ⟨t,rfl⟩:=rx; exact SeqAt.EqAt.bool_str a b t
  | _=>exact absurd (show false=true from fx) Bool.false_ne_true
 | int a=>
  obtain ⟨t',rfl⟩:=ry
  cases x with
  | non=>cases rx; exact SeqAt.EqAt.int_none a t'
  | bl b=>cases rx; exact SeqAt.EqAt.int_bool a t' b
  | int b=>obtain ⟨t,rfl⟩:=rx; exact SeqAt.EqAt.int_int a t' b t
  | str b=>obtain ⟨t,rfl⟩:=rx; exact SeqAt.EqAt.int_str a t' b t
  | _=>exact absurd (show false=true from fx) Bool.false_ne_true
 | str a=>
  obtain ⟨t',rfl⟩:=ry
  cases x with
  | non=>cases rx; exact SeqAt.EqAt.str_none a t'
  | bl b=>cases rx; exact SeqAt.EqAt.str_bool a t' b
  | int b=>obtain ⟨t,rfl⟩:=rx; exact SeqAt.EqAt.str_int a t' b t
  | str b=>obtain ⟨t,rfl⟩:=rx; exact SeqAt.EqAt.str_str a t' b t
  | _=>exact absurd (show false=true from fx) Bool.false_ne_true
 | _=>exact absurd (show false=true from fy) Bool.false_ne_true
noncomputable def eqU (x:V) (u:Value):Bool:=match u with
 | .none=>eqV .non x
 | .bool b=>eqV (.bl b) x
 | .int i _=>eqV (.int i) x
 | .str z _=>eqV (.str z) x
 | _=>false
theorem zapQ {x y:V} {u:Value} (r:RelV y u) (f:zafW y=true):eqU x u=eqV y x:=by
 cases y with
 | non=>cases r; rfl
 | bl b=>cases r; rfl
 | int i=>obtain ⟨t,rfl⟩:=r; rfl
 | str z=>obtain ⟨t,rfl⟩:=r; rfl
 | _=>exact absurd (show false=true from f) Bool.false_ne_true
theorem zahy {x:V}:∀ {xs:List V} {us:List Value},Vals xs us->xs.all zafW=true->us.any (eqU x)=xs.any fun y=>eqV y x
 | _,_,.nil,_=>rfl
 | y::xs,u::us,.cons r t,f=>by
  rw [List.all_cons,Bool.and_eq_true] at f
  rw [List.any_cons,List.any_cons,zapQ r f.1,zahy t f.2]
theorem zagT {A:Around} {s:Shared} {x:V} {v:Value} (rx:RelV x v) (fx:zafW x=true):∀ {xs:List V} {us:List Value},Vals xs us->xs.all zafW=true->∀ u ∈ us,SeqAt.EqAt A s u v (eqU x u)
 | _,_,.nil,_=>fun u hu=>by cases hu
 | y::xs,u::us,.cons r t,f=>fun u' hu=>by
  rw [List.all_cons,Bool.and_eq_true] at f
  rcases List.mem_cons.mp hu with rfl | hu
  · rw [zapQ r f.1]; exact zaue r rx f.1 fx
  · exact zagT rx fx t f.2 u' hu
noncomputable def inV (x:V) (xs:List V):Bool:=xs.any fun y=>eqV y x
noncomputable def rIn (K:PySem.W.Frag) (neg:Bool):R2:=fun x y H Q=>∃ p xs,y=.ref p/\(SqL K H p xs\/SqT K H p xs)/\zafW x=true/\xs.all zafW=true/\Q (.bl (if neg then !inV x xs else inV x xs)) H
theorem zaqQ:OpR X (compareOp .In) (rIn X.K false):=by
 intro pins s σ H x y v u Q I rx ry h
 obtain ⟨p,xs,rfl,hq,fx,fs,q⟩:=h
 cases ry
 rcases hq with hq | hq
 · obtain ⟨its,r,pl,hz⟩:=I.list hq
   refine SeqAt.in_listAt (eqU x) pl.isList (fun w hw=>zagT rx fx r fs w (by simpa using hw)) ⟨.bl _,H,I,rfl,?_⟩
   rw [show its.toArray.any (eqU x)=its.any (eqU x) by simp,zahy r fs]
   exact q
 · obtain ⟨its,r,pl,hz⟩:=I.tuple hq
   refine SeqAt.in_tupleAt (eqU x) pl (fun w hw=>zagT rx fx r fs w (by simpa using hw)) ⟨.bl _,H,I,rfl,?_⟩
   rw [show its.toArray.any (eqU x)=its.any (eqU x) by simp,zahy r fs]
   exact q
theorem zanv:OpR X (compareOp .NotIn) (rIn X.K true):=by
 intro pins s σ H x y v u Q I rx ry h
 obtain ⟨p,xs,rfl,hq,fx,fs,q⟩:=h
 cases ry
 rcases hq with hq | hq
 · obtain ⟨its,r,pl,hz⟩:=I.list hq
   refine SeqAt.notIn_listAt (eqU x) pl.isList (fun w hw=>zagT rx fx r fs w (by simpa using hw)) ⟨.bl _,H,I,rfl,?_⟩
   rw [show its.toArray.any (eqU x)=its.any (eqU x) by simp,zahy r fs]
   exact q
 · obtain ⟨its,r,pl,hz⟩:=I.tuple hq
   refine SeqAt.notIn_tupleAt (eqU x) pl (fun w hw=>zagT rx fx r fs w (by simpa using hw)) ⟨.bl _,H,I,rfl,?_⟩
   rw [show its.toArray.any (eqU x)=its.any (eqU x) by simp,zahy r fs]
   exact q
theorem zamF:CallR X (.builtin "len") (fun xs H Q=>∃ p ys,xs=[.ref p]/\(SqL X.K H p ys\/SqT X.K H p ys)/\Q (.int ys.length) H):=by
 intro pins s σ H xs us Q I r h
 obtain ⟨p,ys,rfl,hq,q⟩:=h
 obtain ⟨u,rfl,rx⟩:=zahf r
 cases rx
 have hn:=zahz
 rcases hq with hq | hq
 · obtain ⟨its,r',pl,hz⟩:=I.list hq
   have hlen:=r'.length
   exact Calls.call_len_list pl.isList (by simp only [List.size_toArray] <;> omega) ⟨.int ys.length,H,I.tok _,⟨s.toks + 1,by rw [List.size_toArray,hlen]⟩,q⟩
 · obtain ⟨its,r',pl,hz⟩:=I.tuple hq
   have hlen:=r'.length
   exact len_tuple pl (by simp only [List.size_toArray] <;> omega) ⟨.int ys.length,H,I.tok _,⟨s.toks + 1,by rw [List.size_toArray,hlen]⟩,q⟩
theorem zam4:CallR X (.builtin "len") (fun xs H Q=>∃ z,xs=[.str z]/\z.length<=sizeLine/\Q (.int z.length) H):=by
 intro pins s σ H xs us Q I r h
 obtain ⟨z,rfl,hz,q⟩:=h
 obtain ⟨u,rfl,t,rfl⟩:=zahf r
 have hn:=zahz
 exact len_str (by omega) ⟨.int z.length,H,I.tok _,⟨_,rfl⟩,q⟩
theorem CallR.or {f:Value} {r r':List V->Hp->VK->Prop} (h:CallR X f r) (h':CallR X f r'):CallR X f (fun xs H Q=>r xs H Q\/r' xs H Q):=by
 intro pins s σ H xs us Q I rs q
 rcases q with q | q
 · exact h pins s σ H xs us Q I rs q
 · exact h' pins s σ H xs us Q I rs q
theorem zanb:CallR X (.type "list") (fun xs H Q=>∃ p ys,xs=[.ref p]/\(SqL X.K H p ys\/SqT X.K H p ys)/\∀ l,H l=none->Q (.ref l) (upd H l (.lst ys))):=by
 intro pins s σ H xs us Q I r h
 obtain ⟨p,ys,rfl,hq,q⟩:=h
 obtain ⟨u,rfl,rx⟩:=zahf r
 cases rx
 have fin:∀ (its:List Value),Vals ys its->ys.length<=sizeLine->∀ (h':Heap) (c':Nat),(∀ b o',s.heap.get? b=some o'->h'.get? b=some o')->
  h'.get? s.heap.objs.size=some { cls:=.type "list", dict:=none,data:=.seq its.toArray c',slots:=#[] }->EP X pins σ Q (.ref s.heap.objs.size) { s with heap:=h' }:=fun its r' hz h' c' kp e=>
  ⟨.ref s.heap.objs.size,_,I.laid (t':=s.toks) kp (Nat.le_refl _) (show ObjOk X.prog X.w _ h' _ (.lst ys) from ⟨hz,its,c',r',e⟩),rfl,q _ (I.hok.fresh (Nat.le_refl _))⟩
 rcases hq with hq | hq
 · obtain ⟨its,r',pl,hz⟩:=I.list hq
   have hlen:=r'.length
   obtain ⟨o,ho,hc,n,hd⟩:=pl.isList
   exact call_list_seq p (.inl rfl) ho hc hd (fun h' c' kp e=>fin its r' hz h' c' kp e) (by simp only [List.size_toArray] <;> omega)
 · obtain ⟨its,r',pl,hz⟩:=I.tuple hq
   have hlen:=r'.length
   obtain ⟨o,ho,hc,n,hd⟩:=pl
   exact call_list_seq p (.inr rfl) ho hc hd (fun h' c' kp e=>fin its r' hz h' c' kp e) (by simp only [List.size_toArray] <;> omega)
noncomputable def tyV (K:PySem.W.Frag) (T:String) (x:V) (H:Hp):Prop:=match x with
 | .str _=>T = "str"
 | .int _=>T = "int"
 | .ref p=>(T = "list" /\ ∃ xs,SqL K H p xs)\/(T = "tuple" /\ ∃ o,K.lookup p=some o/\o.cls=.type "tuple" /\ o.dict=none)\/
  (T = "dict" /\ ((∃ kvs,H p=some (.dK kvs))\/∃ kvs,H p=some (.dT kvs)))\/(T = "set" /\ ∃ S n,H p=some (.set S n))
 | _=>False
theorem zaun {pins:List (Addr × Obj)} {σ:St} {H:Hp} {s:Shared} {T:String} {x:V} {v:Value} (I:Inv X pins σ H s) (r:RelV x v) (ty:tyV X.K T x H) :
 s.TypeIs v T/\∀ a,v=.ref a->∃ ob,s.heap.get? a=some ob/\ob.dict=none:=by
 cases x with
 | str z=>
  obtain ⟨t,rfl⟩:=r
  cases (show T = "str" from ty)
  exact ⟨typeIs_str s z t,fun _ e=>nomatch e⟩
 | int i=>
  obtain ⟨t,rfl⟩:=r
  cases (show T = "int" from ty)
  exact ⟨typeIs_int s i t,fun _ e=>nomatch e⟩
 | ref p=>
  cases r
  rcases ty with ⟨rfl,xs,hq⟩ | ⟨rfl,o,hk,hc,hd⟩ | ⟨rfl,hk⟩ | ⟨rfl,S,n,hk⟩
  · obtain ⟨its,_,pl,_⟩:=I.list hq
    refine ⟨pl.isList.typeIs,fun a e=>?_⟩
    cases e
    obtain ⟨o,n,e,c,hd,_⟩:=pl
    exact ⟨o,e,hd⟩
  · refine ⟨⟨o,I.kIn p o hk,hc⟩,fun a e=>?_⟩
    cases e
    exact ⟨o,I.kIn _ o hk,hd⟩
  · have z:∃ o,s.heap.get? p=some o/\o.ExactDict:=by
     rcases hk with ⟨kvs,hk⟩ | ⟨kvs,hk⟩
     · obtain ⟨_,_,_,_,o,_,_,e,ex,_⟩:=I.hok p _ hk
       exact ⟨o,e,ex⟩
     · obtain ⟨_,_,_,_,o,_,_,e,ex,_⟩:=I.hok p _ hk
       exact ⟨o,e,ex⟩
    obtain ⟨o,e,ex⟩:=z
    refine ⟨⟨o,e,ex.1⟩,fun a e2=>?_⟩
    cases e2
    exact ⟨o,e,ex.2.1⟩
  · obtain ⟨o,_,_,_,e,ex,_⟩:=I.hok p _ hk
    refine ⟨⟨o,e,ex.1⟩,fun a e2=>?_⟩
    cases e2
    exact ⟨o,e,ex.2.1⟩
 | _=>exact False.elim ty
noncomputable def tBM (K:PySem.W.Frag) (T:String) (r:V->List V->Hp->VK->Prop) (to:TE) (t:TA):TE:=fun σ H Q=>to σ H fun x H1=>tyV K T x H1/\t σ H1 fun xs H2=>r x xs H2 Q
variable {o e:Expr} {es:List Expr} {to:TE} {t:TA} {name:Str} {apos cpos:Pos} {T id:String} {r:V->List V->Hp->VK->Prop}
theorem zapv (pa:PlainAttrs T) (slot:Slot T name id) (hty:typeOf (.builtin id)=pure (.type "method_descriptor")) (hm:MtR X id r) (ho:PE X o to) (ha:PA X (e::es) t)
 (hbase:attributeBase o name X.env (eval o X.env)=eval o X.env:=by rfl)
 (hfew:((backTo cpos (starEach (e::es) X.env)).all (fun x=>!x.1) && (backToKw cpos (keywordEach [] X.env)).all (fun x=>x.1.isSome)
  && decide ((e::es).length + ([]:List Keyword).length + (if ([]:List Keyword).isEmpty then 0 else 1) < 30))=true:=by rfl)
 (hline:(apos.endLine == cpos.line)=true:=by rfl) (hs:starEach (e::es) X.env=(false,eval e X.env)::starEach es X.env:=by rfl) (hplain:(backTo cpos (starEach es X.env)).any (·.1)=false:=by rfl) :
 PE X (.Call (.Attribute o name apos) (e::es) [] cpos) (tBM X.K T r to t):=by
 intro pins s σ H Q I h
 refine wpAny_Call_method_late hbase hfew hline rfl (thn (ho pins s σ H _ I h) fun v s1 ⟨x,H1,I1,r1,ty,q1⟩=>?_)
 obtain ⟨h1,h2⟩:=zaun I1 r1 ty
 refine ⟨T,id,pa,slot,hty,h1,h2,?_⟩
 have hA:=ha cpos pins s1 σ H1 _ I1 q1
 rw [hs] at hA ⊢
 refine Calls.callWith_builtin (by show (false || (backTo cpos (starEach es X.env)).any (·.1))=false; rw [hplain] <;> rfl) (Calls.evalArgs_plain ?_)
 exact thn hA fun us s2 ⟨vs,H2,I2,r2,q2⟩=>hm pins s2 σ H2 x vs v us Q I2 r1 r2 q2
end
end L2
namespace L2
open PySem PySem.Spec PyProof.Rows
noncomputable def MtM (X:Cx) (id:String) (r:V->List V->Hp->VK->Prop):Prop:=
 ∀ (pins:List (Addr × Obj)) (s:Shared) (σ:St) (H:Hp) (x:V) (xs:List V) (v:Value) (us:List Value) (Q:VK),Inv X pins σ H s->RelV x v->Vals xs us->r x xs H Q->
  wpAny (model X.prog X.w) X.A (call (.builtin id) (v::us)) (EP X pins σ Q) X.xe s
theorem Vals.one:∀ {x:V} {us:List Value},Vals [x] us->∃ u,us=[u]/\RelV x u
 | _,_,.cons r .nil=>⟨_,rfl,r⟩
theorem Vals.zero:∀ {us:List Value},Vals [] us->us=[]
 | _,.nil=>rfl
theorem Vals.eraseIdx:∀ {xs:List V} {us:List Value} (i:Nat),Vals xs us->Vals (xs.eraseIdx i) (us.eraseIdx i)
 | _,_,_,.nil=>.nil
 | _,_,0,.cons _ t=>t
 | _,_,i + 1,.cons r t=>.cons r (Vals.eraseIdx i t)
theorem Vals.rep {xs:List V} {us:List Value} (h:Vals xs us):∀ k:Nat,Vals (List.replicate k xs).flatten (List.replicate k us).flatten
 | 0=>.nil
 | k + 1=>by
  rw [List.replicate_succ,List.replicate_succ,List.flatten_cons,List.flatten_cons]
  exact Vals.append h (Vals.rep h k)
theorem zalP {α:Type}:∀ (l:List α) (i:Nat),(l.eraseIdx i).length<=l.length
 | [],_=>Nat.le_refl _
 | _::_,0=>Nat.le_succ _
 | _::r,i + 1=>Nat.succ_le_succ (zalP r i)
theorem zal3 (its:List Value):∀ (k:Nat) (acc:List Value),
 List.foldl (fun x1 x2=>x1++x2) acc.toArray (List.replicate k its.toArray)=(acc++(List.replicate k its).flatten).toArray
 | 0,acc=>by simp
 | k + 1,acc=>by
  have e:acc.toArray++its.toArray=(acc++its).toArray:=by simp
  have e2:(acc++its)++(List.replicate k its).flatten=acc++(List.replicate (k + 1) its).flatten:=by
   rw [List.replicate_succ,List.flatten_cons,List.append_assoc]
  rw [<- e2,<- zal3 its k (acc++its),<- e,List.replicate_succ,List.foldl_cons]
section
variable {X:Cx} {pins:List (Addr × Obj)} {σ:St} {H:Hp} {s:Shared} {l b:Addr} {xs ys zs:List V}
theorem Inv.lset {its its':List Value} {n:Nat} {f:Array Value->Array Value} {t':Nat} (I:Inv X pins σ H s) (hH:H l=some (.lst xs))
 (e:s.heap.get? l=some { cls:=.type "list", data:=.seq its.toArray n }) (hf:f its.toArray=its'.toArray) (hv:Vals ys its') (hz:ys.length<=sizeLine) :
 Inv X pins σ (upd H l (.lst ys)) { s with heap:=s.heap.update l (Obj.mapSeq f),toks:=t' }:=by
 have q:=PySem.IsL.update e f
 rw [hf] at q
 refine I.write (x:=l) (e:=l) (by rw [hH]; exact trivial) (.inl rfl) (fun b' u hb hu=>(Heap.get?_update_other s.heap (Obj.mapSeq f) (Ne.symm hb)).trans hu) ⟨_,q⟩ ?_
 exact ⟨hz,its',_,hv,q⟩
theorem Inv.lnew {its:List Value} {t':Nat} (I:Inv X pins σ H s) (hv:Vals ys its) (hz:ys.length<=sizeLine) :
 Inv X pins σ (upd H s.heap.objs.size (.lst ys)) { s with heap:=s.heap.push { cls:=.type "list", data:=.seq its.toArray },toks:=t' }:=
 I.laid (fun _ _ q=>Heap.get?_push_of_some _ q) (Nat.le_refl _) ⟨hz,its,0,hv,Heap.get?_push_size _ rfl⟩
theorem Inv.fresh (I:Inv X pins σ H s):H s.heap.objs.size=none:=I.hok.fresh (Nat.le_refl _)
theorem Inv.lstM (I:Inv X pins σ H s) (hH:H l=some (.lst xs)):xs.length<=sizeLine/\∃ (its:List Value) (n:Nat),Vals xs its/\xs.length=its.length/\s.heap.get? l=some { cls:=.type "list", data:=.seq its.toArray n }:=by
 obtain ⟨z,its,n,r,e⟩:=I.hok l _ hH
 exact ⟨z,its,n,r,r.length,e⟩
theorem zamy {n:Nat} (h:n<=sizeLine):Builtin.List.listTooLong n=false:=by
 unfold Builtin.List.listTooLong
 exact decide_eq_false (by omega)
end
section
variable {X:Cx}
noncomputable def zas0:V->List V->Hp->VK->Prop:=fun x vs H Q=>∃ l xs y,x=.ref l/\vs=[y]/\H l=some (.lst xs)/\xs.length < sizeLine/\Q .non (upd H l (.lst (xs++[y])))
theorem zalL:MtM X "list.append" zas0:=by
 intro pins s σ H x vs v us Q I rx rv h
 obtain ⟨l,xs,y,rfl,rfl,hH,hz,q⟩:=h
 cases rx
 obtain ⟨u,rfl,ru⟩:=rv.one
 obtain ⟨z,its,n,r,hl,e⟩:=I.lstM hH
 refine call_meets F.slot_list_append ⟨_,e,rfl⟩ F.entry_list_append (F.args_list_append_2 _ _) (PySem.list_append l its.toArray n u (by rw [List.size_toArray]; omega)) ⟨e,?_⟩
 refine ⟨.non,_,I.lset (its':=its++[u]) hH e (by simp) (r.append (.cons ru .nil)) ?_,rfl,q⟩
 rw [List.length_append,List.length_singleton]
 omega
noncomputable def zatW:V->List V->Hp->VK->Prop:=fun x vs H Q=>∃ l b xs zs,x=.ref l/\vs=[.ref b]/\H l=some (.lst xs)/\H b=some (.lst zs)/\xs.length + zs.length<=sizeLine/\Q .non (upd H l (.lst (xs++zs)))
theorem zaqD:MtM X "list.extend" zatW:=by
 intro pins s σ H x vs v us Q I rx rv h
 obtain ⟨l,b,xs,zs,rfl,rfl,hH,hB,hz,q⟩:=h
 cases rx
 obtain ⟨u,rfl,ru⟩:=rv.one
 cases ru
 obtain ⟨z,its,n,r,hl,e⟩:=I.lstM hH
 obtain ⟨z2,its2,n2,r2,hl2,e2⟩:=I.lstM hB
 have hsz:its.toArray.size + its2.toArray.size<=sizeLine:=by rw [List.size_toArray,List.size_toArray]; omega
 have hlong:¬ (!its.toArray.isEmpty && Builtin.List.listTooLong (its.toArray.size + its2.toArray.size))=true:=by
  rw [zamy hsz,Bool.and_false]
  exact Bool.false_ne_true
 refine call_meets F.slot_list_extend ⟨_,e,rfl⟩ F.entry_list_extend (F.args_list_extend_2 _ _)
  (AutoSeq1.list_extend_list_list_0 l its.toArray n b its2.toArray n2 hlong (by rw [List.size_toArray]; omega) (by omega)) ⟨e,e2,?_⟩
 refine ⟨.non,_,I.lset (its':=its++its2) hH e (by simp) (r.append r2) ?_,rfl,q⟩
 rw [List.length_append]
 omega
noncomputable def zauM:V->List V->Hp->VK->Prop:=fun x vs H Q=>∃ l xs i k y,x=.ref l/\vs=[.int i]/\H l=some (.lst xs)/\-(2 ^ 63)<=i/\i < 2 ^ 63/\seqIndex? i xs.length=some k/\xs[k]?=some y/\Q y (upd H l (.lst (xs.eraseIdx k)))
theorem zarG:MtM X "list.pop" zauM:=by
 intro pins s σ H x vs v us Q I rx rv h
 obtain ⟨l,xs,i,k,y,rfl,rfl,hH,h1,h2,hk,hy,q⟩:=h
 cases rx
 obtain ⟨u,rfl,ru⟩:=rv.one
 obtain ⟨t,rfl⟩:=ru
 obtain ⟨z,its,n,r,hl,e⟩:=I.lstM hH
 obtain ⟨w,hw,rw'⟩:=r.get hy
 refine call_meets F.slot_list_pop ⟨_,e,rfl⟩ F.entry_list_pop (F.args_list_pop_2 _ _)
  (MeetsSeq.list_pop_at l its.toArray n i t k w (fitsIndex_both h1 h2) (by rw [List.size_toArray,<- hl]; exact hk) (by rw [<- Array.getElem?_toList]; exact hw) (by rw [List.size_toArray]; omega)) ⟨e,?_⟩
 refine ⟨y,_,I.lset (its':=its.eraseIdx k) hH e ?_ (r.eraseIdx k) ?_,rw',q⟩
 · show its.toArray.eraseIdxIfInBounds k=(its.eraseIdx k).toArray
   rw [List.eraseIdxIfInBounds_toArray]
 · have:=zalP xs k
   omega
noncomputable def rRep:R2:=fun x y H Q=>∃ l k xs,x=.ref l/\y=.int k/\H l=some (.lst xs)/\-(2 ^ 63)<=k/\k < 2 ^ 63/\xs.length * k.toNat<=sizeLine/\
 ∀ p,H p=none->Q (.ref p) (upd H p (.lst (List.replicate k.toNat xs).flatten))
theorem zatn {α:Type} (xs:List α) (k:Nat):(List.replicate k xs).flatten.length=k * xs.length:=by
 induction k with
 | zero=>simp
 | succ k ih=>rw [List.replicate_succ,List.flatten_cons,List.length_append,ih,Nat.succ_mul,Nat.add_comm]
theorem zaqR:OpR X (binaryOp .Mult) rRep:=by
 intro pins s σ H x y v u Q I rx ry h
 obtain ⟨l,k,xs,rfl,rfl,hH,h1,h2,hz,q⟩:=h
 cases rx
 obtain ⟨t,rfl⟩:=ry
 obtain ⟨z,its,n,r,hl,e⟩:=I.lstM hH
 have hlen:its.toArray.size * k.toNat<=sizeLine:=by rw [List.size_toArray,<- hl]; exact hz
 have hcap:¬ its.toArray.size * k.toNat > (2 ^ 63 - 1) / 8:=by
  have:(sizeLine:Nat)<=(2 ^ 63 - 1) / 8:=by decide
  omega
 have hfit:¬ (!Builtin.List.listFitsIndex k)=true:=by
  rw [fitsIndex_both h1 h2]
  exact Bool.false_ne_true
 have hlong:¬ Builtin.List.listTooLong (its.toArray.size * k.toNat)=true:=by
  rw [zamy hlen]
  exact Bool.false_ne_true
 have hnew:List.foldl (fun x1 x2=>x1++x2) #[] (List.replicate (if its.toArray.isEmpty=true then 0 else k.toNat) its.toArray)=(List.replicate k.toNat its).flatten.toArray:=by
  have f0:∀ m:Nat,List.foldl (fun x1 x2=>x1++x2) #[] (List.replicate m its.toArray)=(List.replicate m its).flatten.toArray:=fun m=>by
   have:=zal3 its m []
   rw [List.nil_append] at this
   exact this
  rw [f0]
  cases its with
  | nil=>simp
  | cons a r'=>rw [if_neg (by simp)]
 refine wpAny_binaryOp_repeat_ref (T := "list") (U := "int") (by decide) ⟨_,e,rfl⟩ (fun s'=>typeIs_int s' k t) noFill_list_mul F.fills_int_mul F.slot_int_rmul repeat_list F.slot_int_index.lookup
  (call_meets F.slot_int_rmul (typeIs_int s k t) F.entry_int_rmul (F.args_int_rmul_2 _ _) (int___rmul___int_list k t l its.toArray n)
   ⟨e,rfl,⟨_,e,rfl⟩,call_meets F.slot_list_mul ⟨_,e,rfl⟩ F.entry_list_mul (F.args_list_mul_2 _ _) (AutoListH.list___mul___list_int_3 l its.toArray n k t hfit hcap hlong) ⟨e,?_⟩⟩)
 rw [hnew]
 exact ⟨.ref _,_,I.lnew (t':=s.toks) (r.rep k.toNat) (by rw [zatn,Nat.mul_comm]; exact hz),rfl,q _ I.fresh⟩
end
section
variable {prog:Program} {w:World} {A:Around} {E:Value->Shared->Prop} {s:Shared}
end
section
variable {X:Cx}
end
end L2
namespace Att
open PySem PySem.W PySem.Calls PyProof.Rows
theorem zakC {P:Params} {h:Heap}:∀ (ns:List Int) (vs:List Value),WellAll P h vs (ns.map WData.int)->IntsAre vs ns:=by
 intro ns
 induction ns with
 | nil=>
  intro vs w
  rw [List.map_nil] at w
  cases w
  exact .nil
 | cons n ns ih=>
  intro vs w
  rw [List.map_cons] at w
  cases w with
  | cons a b=>
   cases a
   exact .cons _ _ (ih _ b)
theorem zaqU {l:OpenLaw} {n:Nat} (hn:l.most=some n) {P:Params} {h:Heap} {args:List WData} {vals:List Value}
 (hpre:l.row.toRowW.claim.pre args=true) (hwl:WellAll P h vals args) :
 ∃ a vs ns,vals=[Value.ref a]/\args=[WData.list (ns.map WData.int)]/\h.get? a=some { cls:=.type "list", data:=.seq vs.toArray }/\IntsAre vs ns/\ns.length<=n:=by
 have hsh:WShape.hasAll [] args [.list .int]=true:=(pre_splitW hpre).1
 have hc:l.pre.holds [] { args:=args }=true:=(pre_splitW hpre).2
 obtain ⟨d,r,rfl,h1,h2⟩:=hasAllW_cons hsh
 obtain rfl:=hasAllW_nil h2
 obtain ⟨xs,rfl,h3⟩:=hasW_list h1
 obtain ⟨ns,rfl⟩:=items_int h3
 have hlen:ns.length<=n:=by
  unfold OpenLaw.pre at hc
  have h4:(WTm.not (.lt (.lit (.int (n:Int))) (.len (.arg 0)))).holds [] { args:=[.list (ns.map .int)] }=true:=by
   have h4:=(holds_andW hc).1
   rw [hn] at h4
   exact h4
  have h5:=condW_of h4 (w_not (w_lt w_lit (w_len_list (w_arg rfl))))
  rw [List.length_map] at h5
  refine Nat.le_of_not_lt fun q=>?_
  have q':(n:Int) < ((ns.length:Nat):Int):=by omega
  first
   | (rw [decide_eq_true q'] at h5; exact absurd h5 (by decide))
   | (simp at h5; omega)
 cases hwl with
 | cons w1 w2=>
  cases w2
  cases w1 with
  | list ho hall=>exact ⟨_,_,ns,rfl,rfl,ho,zakC ns _ hall,hlen⟩
theorem zaqX (l:OpenLaw) (args:List WData):l.row.toRowW.claim.post args (.bool true) args=true:=
 postW_of (r:=l.row.toRowW) (X:=(true == true))
  (show WShape.has [] (.bool true) .bool=true by first | rfl | decide | simp [WShape.has,WShape.arms,WShape.armsAll])
  (show (WTm.eq .res (.lit (.bool true))).value [] { args:=args,res:=some (.bool true),after:=args }=some (.bool (true == true)) from w_eq_bool (w_res rfl) w_lit) rfl
theorem attach_call {l:OpenLaw} {n:Nat} {q:Program} {loose:List Str} {XP:(Str->Option Value)->Heap->Prop} {YP:World->Heap->Prop} {d:DefRec}
 (hn:l.most=some n) (hdf:d.params.defaults=[])
 (call:∀ (w:World) (s₀ s₁:Shared) (mg mb:Str->Option Value) (fa:Addr) (o:Obj) (pm cd doc:Value) (a:Addr) (vs:List Value) (ns:List Int),
  Ground q loose [] XP w s₀ mg mb s₁.heap->YP w s₁.heap->
  s₁.heap.get? fa=some o->o.data=.func (docDef d.name d.params d.body d.scope pm cd doc)->s₁.heap.CodeRec cd d.name->mg d.name=some (.ref fa)->
  s₁.heap.get? a=some { cls:=.type "list", data:=.seq vs.toArray }->IntsAre vs ns->ns.length<=n->s₁.gens=#[]->
  codeAny (model l.prog w) callerA (.call (.ref fa) ⟨[.ref a],[]⟩) (fun r s'=>r=.ok (.ret (.bool true))/\OldK s₁.heap s'.heap/\s'.os=s₁.os/\AllBare s'.gens) s₁) :
 WalkO q loose XP YP l.row.toRowW d [] (fun f vs=>PySem.call f vs):=by
 intro w s₀ s₁ mg mb G Y fa o pm cd doc dV kV ho hd hcd hD hmg hg args vals as hpre hlay hrd hwl hlo
 obtain rfl:dV=.none:=Dflts.none hD hdf
 obtain rfl:kV=.none:=Dflts.noKw hD
 obtain ⟨a,vs,ns,rfl,rfl,hobj,hints,hlen⟩:=zaqU hn hpre hwl
 refine enter_call (codeAny_mono (call w s₀ s₁ mg mb fa o pm cd doc a vs ns G Y ho (fd_plain hd) hcd hmg hobj hints hlen hg) fun r s' hq=>?_)
 obtain ⟨rfl,h2,h3,h4⟩:=hq
 exact ⟨.inl ⟨.bool true,.bool true,[],rfl,fun _=>rfl,.bool true,zaqX l _,fun _=>⟨List.Pairwise.nil,fun _ hm=>(nomatch hm)⟩⟩,h2,h3,h4⟩
section
variable {prog:Program} {w:World} {A:Around} {E:Value->Shared->Prop} {s:Shared} {K:Frag}
end
end Att
namespace L2
open PySem PySem.Spec PyProof.Rows
theorem zalO:∀ {vs:List Value} {ns:List Int},IntsAre vs ns->Vals (ns.map V.int) vs
 | _,_,.nil=>.nil
 | _,_,.cons n t h=>.cons ⟨t,rfl⟩ (zalO h)
noncomputable def Only (H:Hp):Prop:=∀ b,H b=none\/∃ o xs,H b=some (.frz o (.lst xs))
theorem zaq6 {P:Program} {w:World} {K:PySem.W.Frag} {mg mb:Str->Option Value} {CX:CXT} {k:Nat} {fa a:Addr} {fd:FuncData} {x:Str} {sp:Sp} {s₁:Shared} {vs:List Value} {ns:List Int}
 (KX:K.In s₁.heap) (hns:s₁.heap.Ns mainGlobals mg) (hb:s₁.heap.Ns builtinsNs mb) (hbb:∀ x:Str,x ≠ "__name__" -> mb x=bootBuiltins x) (hlim:s₁.heap.NoLimit) (hg:s₁.gens=#[])
 (ha:s₁.heap.get? a=some { cls:=.type "list", data:=.seq vs.toArray }) (hi:IntsAre vs ns) (hl:ns.length<=sizeLine) (hr:Room k callerA)
 (F:∀ base:Heap,K.In base->base.Ns mainGlobals mg->FnOk P w K mg base CX k fa fd [x] sp) (hbind:∀ (s:Shared) (u:Value),BindsTo s fd ⟨[u],[]⟩ [(x,u)])
 (hsp:∀ H:Hp,Only H->SqL K H a (ns.map V.int)->sp [.ref a] H (fun v _=>v=.bl true) fun _ _ _=>False)
 (hCX:∀ H e s',CX [] H s₁ (fun _ _ _=>False) e s'->False) :
 codeAny (model P w) callerA (.call (.ref fa) ⟨[.ref a],[]⟩) (fun r s'=>r=.ok (.ret (.bool true))/\OldK s₁.heap s'.heap/\s'.os=s₁.os/\AllBare s'.gens) s₁:=by
 have rv:=zalO hi
 have lenV:=hi.length
 have core:∀ H:Hp,Only H->SqL K H a (ns.map V.int)->HOk P w H s₁.heap->(∀ b,H b ≠ none->b=a)->(H a ≠ none->K.lookup a=none)->
  codeAny (model P w) callerA (.call (.ref fa) ⟨[.ref a],[]⟩) (fun r s'=>r=.ok (.ret (.bool true))/\OldK s₁.heap s'.heap/\s'.os=s₁.os/\AllBare s'.gens) s₁:=by
  intro H hO hS hok hA hK
  have base_of:∀ {b:Addr} {o:Obj},s₁.heap.get? b=some o->H b=none->(hidT s₁.heap H).get? b=some o:=fun e n=>zarS e n
  have noA:∀ {b:Addr} {o:Obj} {es:Array DictEntry} {ep:Nat},s₁.heap.get? b=some o->o.data=.dict es ep->H b=none:=fun {b o es ep} e d=>by
   cases q:H b with
   | none=>rfl
   | some u=>
    have e':b=a:=hA b (by rw [q]; simp)
    subst e'
    rw [ha] at e; cases e
    have d':Data.seq vs.toArray _=Data.dict es ep:=d
    cases d'
  have nsK:∀ {b:Addr} {m:Str->Option Value},s₁.heap.Ns b m->(hidT s₁.heap H).Ns b m:=fun {b m} ⟨o,es,ep,e,d,r⟩=>⟨o,es,ep,base_of e (noA e d),d,r⟩
  have hKb:K.In (hidT s₁.heap H):=fun b o e=>base_of (KX b o e) (by
   cases q:H b with
   | none=>rfl
   | some u=>
    have e':b=a:=hA b (by rw [q]; simp)
    subst e'
    rw [hK (by rw [q]; simp)] at e; cases e)
  have hM:Mod K mg (hidT s₁.heap H):=⟨hKb,nsK hns,⟨mb,nsK hb,hbb⟩,let ⟨mc,h1,h2⟩:=hlim; ⟨mc,nsK h1,h2⟩⟩
  have e0:Env0 P w K mg (hidT s₁.heap H) callerA [] s₁ H:=⟨rfl,hM,fun b o e=>zatT e,Nat.le_of_eq (zaqs _ _),trivial,fun b hb=>absurd (show b ∈ ([]:List Addr) from hb) (by simp),hok,.of_eq hg⟩
  refine codeAny_mono ((F _ hKb (nsK hns)).run callerA [] s₁ H ⟨[.ref a],[]⟩ [.ref a] [.ref a] _ _ hr e0 (hbind s₁ (.ref a)) (.cons rfl .nil) (hsp H hO hS)) fun r s' h=>?_
  cases r with
  | error e=>exact (hCX H e s' h).elim
  | ok fl=>
   cases fl with
   | next=>exact False.elim h
   | brk=>exact False.elim h
   | cont=>exact False.elim h
   | ret u=>
    obtain ⟨v,H',os,bare,un,hok',r',q⟩:=h
    have q':v=.bl true:=q
    subst q'
    obtain rfl:u=Value.bool true:=r'
    refine ⟨rfl,OldK.of_keep fun b o e=>?_,os,bare⟩
    cases q:H b with
    | none=>exact un.keep b o e q (by intro z; exact absurd (show b ∈ ([]:List Addr) from z) (by simp)) (by simp)
    | some u=>
     rcases hO b with z | ⟨ob,xs,z⟩
     · rw [q] at z; cases z
     · have z2:=un.frzs b ob _ z
       obtain ⟨e1,_⟩:=hok b _ z
       obtain ⟨e2,_⟩:=hok' b _ z2
       rw [e] at e1; cases e1
       exact e2
 cases hk:K.lookup a with
 | some o=>
  have e:=KX a o hk
  rw [ha] at e
  cases e
  refine core (fun _=>none) (fun _=>.inl rfl) (.inr ⟨_,vs.toArray,_,hk,rfl,rfl,rfl,by rw [List.size_toArray,lenV]; exact hl,by simpa using rv⟩) (fun b u z=>by have z':(none:Option HO)=some u:=z; cases z') (fun b z=>absurd rfl z) fun z=>absurd rfl z
 | none=>
  refine core (fun b=>if b=a then some (.frz { cls:=.type "list", data:=.seq vs.toArray } (.lst (ns.map V.int))) else none) (fun b=>?_) (.inl (.inr ⟨{ cls:=.type "list", data:=.seq vs.toArray },if_pos rfl⟩)) (fun b u z=>?_) (fun b z=>?_) fun _=>hk
  · by_cases hb:b=a
    · exact .inr ⟨_,_,if_pos hb⟩
    · exact .inl (if_neg hb)
  · by_cases hb:b=a
    · have z':=(if_pos hb).symm.trans z
      cases z'
      subst hb
      exact ⟨ha,by rw [List.length_map]; exact hl,vs,_,rv,ha⟩
    · have z':=(if_neg hb).symm.trans z
      cases z'
  · by_cases hb:b=a
    · exact hb
    · exact absurd (if_neg hb) z
end L2
namespace L2
open PySem PySem.Spec PyProof.Rows
theorem zat5 {l:PySem.W.OpenLaw} {n k:Nat} {q:Program} {loose:List Str} {XP:(Str->Option Value)->Heap->Prop} {YP:World->Heap->Prop} {d:DefRec} {K:Params->PySem.W.Frag} {CX:World->CXT} {sp:World->Sp} {x:Str}
 (hn:l.most=some n) (hn2:n<=sizeLine) (hdf:d.params.defaults=[]) (hr:Room k callerA)
 (hY:∀ (w:World) (h:Heap),YP w h->(K w.params).In h)
 (F:∀ (w:World) (mg:Str->Option Value) (fa:Addr) (h:Heap),(K w.params).In h->h.Ns mainGlobals mg->mg d.name=some (.ref fa)->
  ∃ fd:FuncData,(∀ (s:Shared) (u:Value),BindsTo s fd ⟨[u],[]⟩ [(x,u)])/\
   ∀ base:Heap,(K w.params).In base->base.Ns mainGlobals mg->FnOk l.prog w (K w.params) mg base (CX w) k fa fd [x] (sp w))
 (hsp:∀ (w:World) (H:Hp) (a:Addr) (ns:List Int),ns.length<=n->Only H->SqL (K w.params) H a (ns.map V.int)->sp w [.ref a] H (fun v _=>v=.bl true) fun _ _ _=>False)
 (hCX:∀ (w:World) (H:Hp) (s:Shared) (e:Value) (s':Shared),CX w [] H s (fun _ _ _=>False) e s'->False) :
 PySem.W.WalkO q loose XP YP l.row.toRowW d [] (fun f vs=>PySem.call f vs):=by
 refine Att.attach_call hn hdf fun w s₀ s₁ mg mb fa o pm cd doc a vs ns G Y ho hd hcd hmg hobj hints hlen hg=>?_
 have KX:=hY w _ Y
 obtain ⟨fd,hb,hF⟩:=F w mg fa _ KX G.T.g hmg
 exact zaq6 KX G.T.g G.T.b G.T.builtins G.T.nolimit hg hobj hints (Nat.le_trans hlen hn2) hr hF hb (fun H hO hS=>hsp w H a ns hlen hO hS) fun H e s'=>hCX w H s₁ e s'
end L2
namespace L2
open PySem PySem.Spec PyProof.Rows
noncomputable def zalb (s:Stmt) (j:Nat):Stmt:=match s with
 | .ClassDef _ _ _ body _ _ _ _ _ _ _=>body.getD j (.Pass ⟨0,0,0,0⟩)
 | _=>.Pass ⟨0,0,0,0⟩
noncomputable def zacj (s:Stmt):Arguments:=match s with
 | .FunctionDef _ a _ _ _ _ _ _ _ _=>a
 | _=>{ posonlyargs:=[],args:=[],vararg:=none,kwonlyargs:=[],kw_defaults:=[],kwarg:=none,defaults:=[] }
noncomputable def zabm (s:Stmt):List Stmt:=match s with
 | .FunctionDef _ _ b _ _ _ _ _ _ _=>b
 | _=>[]
noncomputable def zaai (s:Stmt):Scope:=match s with
 | .FunctionDef _ _ _ _ _ _ sc _ _ _=>sc
 | _=>{ kind:=.function,names:=[],isGenerator:=false,isCoroutine:=false }
noncomputable abbrev CX0:CXT:=fun _ _ _ _ _ _=>False
noncomputable abbrev E0:XK:=fun _ _ _=>False
theorem zaoM {X:Cx}:zahI CX0 X E0:=fun _ _ _ _ _ _ _ h=>h.elim
structure Fun (K:PySem.W.Frag) (x qual:Str) (st:Stmt) (f:Addr) (fd:FuncData):Prop where
 ex:∃ (oc:Value) (od:Option Addr) (kV doc pm:Value) (an:Option Addr) (cdv ct:Value) (osl:Array (Option Value)),
  fd=PySem.W.fnOf x qual (zacj st) (zabm st) (zaai st) .none kV doc pm an cdv ct/\K.lookup f=some ⟨oc,od,.func fd,osl⟩/\PySem.W.codeIn K cdv qual=true
 kp:PySem.W.keepIn K (.ref f)=true
section
variable {P:Program} {w:World} {K:PySem.W.Frag} {mg:Str->Option Value} {base:Heap}
theorem Fun.ok {x qual:Str} {st:Stmt} {f:Addr} {fd:FuncData} {N ps:List Str} {k:Nat} {sp:Sp} (F:Fun K x qual st f fd) (S:zaay N ps (zaai st)) (len:∀ vs H Q E,sp vs H Q E->vs.length=ps.length)
 (hbody:∀ (cdv:Value) (A:Around) (outer:List Env) (s:Shared) (H:Hp) (vs:List V) (Q:VK) (E:XK),Room k (A.deeper (envOfC qual (zaai st) s.heap.objs.size f cdv))->sp vs H Q E->
  ∃ t,PSs (cxOf CX0 P w K mg base N qual (zaai st) f cdv A outer s H E).nox (zabm st) t/\t { nx:=fun _ H'=>Q .non H',rt:=Q } (zafc N vs) H):FnOk P w K mg base CX0 (k + 1) f fd ps sp:=by
 obtain ⟨oc,od,kV,doc,pm,an,cdv,ct,osl,rfl,lk,hcd⟩:=F.ex
 refine zasF lk hcd S len fun A outer s H vs Q E hr hsp=>?_
 obtain ⟨t,h,q⟩:=hbody cdv A outer s H vs Q E hr hsp
 exact ⟨t,h.nox,q⟩
theorem Fun.binds {x qual:Str} {st:Stmt} {f:Addr} {fd:FuncData} {ps:List Str} (F:Fun K x qual st f fd)
 (h:∀ (kV doc pm:Value) (an:Option Addr) (cdv ct:Value) (us:List Value),us.length=ps.length->bindArgs (PySem.W.fnOf x qual (zacj st) (zabm st) (zaai st) .none kV doc pm an cdv ct) ⟨us,[]⟩=pure (ps.zip us)):Binds K fd ps []:=by
 obtain ⟨oc,od,kV,doc,pm,an,cdv,ct,osl,rfl,lk,hcd⟩:=F.ex
 exact .all (h kV doc pm an cdv ct)
theorem zakw {x qual:Str} {st:Stmt} {f:Addr} {oc:Value} {od an:Option Addr} {osl:Array (Option Value)} {kV doc pm cdv ct:Value} (l:K.lookup f=some ⟨oc,od,.func (PySem.W.fnOf x qual (zacj st) (zabm st) (zaai st) .none kV doc pm an cdv ct),osl⟩)
 (c:PySem.W.codeIn K cdv qual=true) (k:PySem.W.keepIn K (.ref f)=true):Fun K x qual st f (PySem.W.fnOf x qual (zacj st) (zabm st) (zaai st) .none kV doc pm an cdv ct):=⟨⟨oc,od,kV,doc,pm,an,cdv,ct,osl,rfl,l,c⟩,k⟩
end
section
variable {X:Cx}
end
theorem iteF {A B:Prop} (h:B):if false=true then A else B:=by
 rw [if_neg Bool.false_ne_true]
 exact h
theorem iteT {A B:Prop} (h:A):if true=true then A else B:=by
 rw [if_pos rfl]
 exact h
noncomputable def Same (H H':Hp):Prop:=∀ b o,H b=some o->H' b=some o
theorem Same.refl (H:Hp):Same H H:=fun _ _ h=>h
theorem Same.trans {H H1 H2:Hp} (a:Same H H1) (b:Same H1 H2):Same H H2:=fun c o h=>b c o (a c o h)
theorem Same.free {H H':Hp} (e:Same H H') {l:Addr} (h:H' l=Option.none):H l=Option.none:=by
 cases q:H l with
 | none=>rfl
 | some o=>
  rw [e l o q] at h
  cases h
end L2
namespace L2
open PySem PySem.Spec PyProof.Rows
open PySem.AutoSeq1 (wpAny_loadPart')
open PySem.SeqAt PySem.MeetsSeq PySem.MeetsSeq2 PySem.MeetsSeq3
theorem zaqJ (l b:Addr) (items items2:Array Value) (n n2:Nat) (dd dd2:Option Addr) (sl sl2:Array (Option Value)) (hc0:items.size + items2.size<=sizeLine) :
 Meets (Builtin.«list.__add__» ⟨[.ref l,.ref b],[]⟩) (fun _ R s=>s.heap.get? l=some { cls:=.type "list", dict:=dd,data:=.seq items n,slots:=sl }/\s.heap.get? b=some { cls:=.type "list", dict:=dd2,data:=.seq items2 n2,slots:=sl2 }/\R (.ok (.ret (Value.ref s.heap.objs.size))) { s with heap:=s.heap.push { cls:=Value.type "list", data:=Data.seq (items++items2) },toks:=s.toks }):=
 .of_wp fun prog w A R s h=>by obtain ⟨hp,g,d,tk,os⟩:=s; obtain ⟨hl,hb,h⟩:=h; have f1:=AutoSeq1.idx_int; have f2:=AutoSeq1.sub_tuple_tuple; have f3:=AutoSeq1.sub_list_list; have f4:=AutoSeq1.sub_tuple_list; have f5:=AutoSeq1.sub_list_tuple; wp_walk using wpAny_loadPart' hl,wpAny_loadPart' hb; exact ⟨_,rfl,h⟩
section
variable {X:Cx}
theorem zaoi:OpR X (binaryOp .Add) (fun x y H Q=>∃ l b xs zs,x=.ref l/\y=.ref b/\SqL X.K H l xs/\SqL X.K H b zs/\xs.length + zs.length<=sizeLine/\∀ p,H p=none->Q (.ref p) (upd H p (.lst (xs++zs)))):=by
 intro pins s σ H x y v u Q I rx ry h
 obtain ⟨l,b,xs,zs,rfl,rfl,hH,hB,hz,q⟩:=h
 cases rx
 cases ry
 obtain ⟨its,r,⟨⟨c1,d1,t1,sl1⟩,n,e,k1,k2,k3⟩,z⟩:=I.list hH
 obtain ⟨its2,r2,⟨⟨c2,d2,t2,sl2⟩,n2,e2,m1,m2,m3⟩,z2⟩:=I.list hB
 simp only at k1 k2 k3 m1 m2 m3
 subst k1 k2 k3 m1 m2 m3
 have hl:=r.length
 have hl2:=r2.length
 refine concat_meets ⟨_,e,rfl⟩ ⟨_,e2,rfl⟩ noFill_list_add seq_list_add F.slot_list_add F.entry_list_add (F.args_list_add_2 _ _) (zaqJ l b its.toArray its2.toArray n n2 none none sl1 sl2 (by rw [List.size_toArray,List.size_toArray]; omega)) ⟨e,e2,?_⟩
 have ea:its.toArray++its2.toArray=(its++its2).toArray:=by simp
 rw [ea]
 exact ⟨.ref _,_,I.lnew (t':=s.toks) (r.append r2) (by rw [List.length_append]; omega),rfl,q _ I.fresh⟩
theorem zagq {us:List Value} {ns:List Int} (h:IntsAre us ns):∃ xs:Array (Int × Tok),us.toArray=intItems xs/\xs.toList.map (·.1)=ns:=by
 obtain ⟨xs,e⟩:=h.allInts.items
 refine ⟨xs,e,?_⟩
 have e2:=h.numsOf
 rw [<- nums_intItems,<- e]
 exact e2
theorem zaqA (hc:X.calm=true):CallR X (.builtin "sum") (fun xs H Q=>∃ (p:Addr) (ns:List Int),xs=[.ref p]/\SqL X.K H p (ns.map V.int)/\Q (.int ns.sum) H):=by
 intro pins s σ H xs us Q I r h
 obtain ⟨p,ns,rfl,hq,q⟩:=h
 obtain ⟨u,rfl,rx⟩:=zahf r
 cases rx
 obtain ⟨its,r',pl,hz⟩:=I.list hq
 obtain ⟨ys,e,e2⟩:=zagq (zagB r')
 have hl:=pl.isList
 rw [e] at hl
 refine sum_intListG (I.ok.hd hc) hl fun h' tk t' k=>⟨.int ns.sum,H,I.kept k,⟨t',?_⟩,q⟩
 rw [preSum_eq,List.take_of_length_le (by simp),e2]
theorem zapJ (hc:X.calm=true):CallR X (.builtin "max") (fun xs H Q=>∃ (p:Addr) (ns:List Int),xs=[.ref p]/\SqL X.K H p (ns.map V.int)/\ns ≠ []/\∀ M,M ∈ ns->(∀ a ∈ ns,a<=M)->Q (.int M) H):=by
 intro pins s σ H xs us Q I r h
 obtain ⟨p,ns,rfl,hq,hne,q⟩:=h
 obtain ⟨u,rfl,rx⟩:=zahf r
 cases rx
 obtain ⟨its,r',pl,hz⟩:=I.list hq
 obtain ⟨ys,e,e2⟩:=zagq (zagB r')
 have hl:=pl.isList
 rw [e] at hl
 have hsz:0 < ys.size:=by
  rcases Nat.eq_zero_or_pos ys.size with z | z
  · exfalso
    apply hne
    rw [<- e2]
    have:ys.toList=[]:=by
     apply List.eq_nil_of_length_eq_zero
     simpa using z
    rw [this]
    rfl
  · exact z
 refine max_intList (I.ok.hd hc) hl hsz fun v h' tk hv k=>?_
 obtain ⟨t,rfl⟩:=intItems_at hv
 obtain ⟨h1,h2⟩:=argBest_gt (numAt ys) (ys.size - 1)
 refine ⟨.int _,H,I.kept k,⟨t,rfl⟩,q _ ?_ fun a ha=>?_⟩
 · rw [numAt_eq,<- e2]; exact getD_mem (by rw [List.length_map,Array.length_toList]; omega)
 · rw [<- e2] at ha
   obtain ⟨j,hj,rfl⟩:=mem_getD ha
   rw [List.length_map,Array.length_toList] at hj
   rw [<- numAt_eq]; exact h2 j (by omega)
theorem zaqL (hc:X.calm=true):CallR X (.builtin "min") (fun xs H Q=>∃ (p:Addr) (ns:List Int),xs=[.ref p]/\SqL X.K H p (ns.map V.int)/\ns ≠ []/\∀ M,M ∈ ns->(∀ a ∈ ns,M<=a)->Q (.int M) H):=by
 intro pins s σ H xs us Q I r h
 obtain ⟨p,ns,rfl,hq,hne,q⟩:=h
 obtain ⟨u,rfl,rx⟩:=zahf r
 cases rx
 obtain ⟨its,r',pl,hz⟩:=I.list hq
 obtain ⟨ys,e,e2⟩:=zagq (zagB r')
 have hl:=pl.isList
 rw [e] at hl
 have hsz:0 < ys.size:=by
  rcases Nat.eq_zero_or_pos ys.size with z | z
  · exfalso
    apply hne
    rw [<- e2]
    have:ys.toList=[]:=by
     apply List.eq_nil_of_length_eq_zero
     simpa using z
    rw [this]
    rfl
  · exact z
 refine min_intList (I.ok.hd hc) hl hsz fun v h' tk hv k=>?_
 obtain ⟨t,rfl⟩:=intItems_at hv
 obtain ⟨h1,h2⟩:=argBest_lt (numAt ys) (ys.size - 1)
 refine ⟨.int _,H,I.kept k,⟨t,rfl⟩,q _ ?_ fun a ha=>?_⟩
 · rw [numAt_eq,<- e2]; exact getD_mem (by rw [List.length_map,Array.length_toList]; omega)
 · rw [<- e2] at ha
   obtain ⟨j,hj,rfl⟩:=mem_getD ha
   rw [List.length_map,Array.length_toList] at hj
   rw [<- numAt_eq]; exact h2 j (by omega)
noncomputable def TyD (K:PySem.W.Frag) (H:Hp) (x:V) (t:String):Prop:=match x with
 | .non=>t = "NoneType"
 | .bl _=>t = "bool"
 | .int _=>t = "int"
 | .str _=>t = "str"
 | .ref a=>(t = "list" /\ ∃ xs,SqL K H a xs)\/(t = "tuple" /\ ∃ xs,SqT K H a xs)
 | _=>False
theorem zasd {T:String}:CallR X (.builtin "isinstance") (fun xs H Q=>∃ x t b,xs=[x,.ty T]/\TyD X.K H x t/\PySem.W.kitOne X.K (.type t) (.type T)=some b/\Q (.bl b) H):=by
 intro pins s σ H xs us Q I r h
 obtain ⟨x,t,b,rfl,ty,e,q⟩:=h
 obtain ⟨u,u2,rfl,rx,ry⟩:=zasE r
 cases ry
 have fin:∀ tk,EP X pins σ Q (.bool b) { s with toks:=tk }:=fun tk=>⟨.bl b,H,I.tok tk,rfl,q⟩
 cases x with
 | non=>cases (show t = "NoneType" from ty); cases rx; exact PySem.W.kia_one PySem.W.kitx_none I.kIn True.intro e (fun z=>nomatch z) fin
 | bl y=>cases (show t = "bool" from ty); cases rx; exact PySem.W.kia_one PySem.W.kitx_bool I.kIn True.intro e (fun z=>nomatch z) fin
 | int i=>cases (show t = "int" from ty); obtain ⟨_,rfl⟩:=rx; exact PySem.W.kia_one PySem.W.kitx_int I.kIn True.intro e (fun z=>nomatch z) fin
 | str y=>cases (show t = "str" from ty); obtain ⟨_,rfl⟩:=rx; exact PySem.W.kia_one PySem.W.kitx_str I.kIn True.intro e (fun z=>nomatch z) fin
 | ref a=>
  cases rx
  rcases ty with ⟨rfl,ys,sq⟩ | ⟨rfl,ys,sq⟩
  · obtain ⟨its,_,⟨o,n,h1,h2,_,_⟩,_⟩:=I.list sq
    exact PySem.W.kia_one PySem.W.kitx_list I.kIn ⟨o,h1,h2⟩ e (fun z=>nomatch z) fin
  · obtain ⟨its,_,⟨o,h1,h2,_⟩,_⟩:=I.tuple sq
    exact PySem.W.kia_one PySem.W.kitx_tuple I.kIn ⟨o,h1,h2⟩ e (fun z=>nomatch z) fin
 | byt _=>exact False.elim ty
 | flt _=>exact False.elim ty
 | ty _=>exact False.elim ty
end
end L2
namespace L2
open PySem PySem.Spec PyProof.Rows
open PySem.AutoSeq1 (wpAny_loadPart')
open PySem.SeqAt PySem.MeetsSeq PySem.MeetsSeq2 PySem.MeetsSeq3
theorem zapA (l b:Addr) (items items2:Array Value) (n n2:Nat) (dd dd2:Option Addr) (sl sl2:Array (Option Value)) (e:Nat->Bool) :
 Meets (Builtin.«tuple.__ne__» ⟨[.ref l,.ref b],[]⟩)
  (fun A R s=>s.heap.get? l=some { cls:=.type "tuple", dict:=dd,data:=.seq items n,slots:=sl }/\s.heap.get? b=some { cls:=.type "tuple", dict:=dd2,data:=.seq items2 n2,slots:=sl2 }/\
   (∀ j (h1:j < items.size) (h2:j < items2.size),EqAt A.in1 s items[j] items2[j] (e j))/\
   R (.ok (.ret (.bool (!((List.range (min items.size items2.size)).all e && items.size == items2.size))))) s):=
 .of_wp fun prog w A R s h=>by
  obtain ⟨hp,g,d,tk,os⟩:=s; obtain ⟨hl,hb,he,h⟩:=h
  have f2:=AutoSeq1.sub_tuple_tuple
  have hZ:(items.toList.zip items2.toList).length=min items.size items2.size:=by simp
  wp_walk using wpAny_loadPart' hl,wpAny_loadPart' hb,wpAny_forIn_list _ (fun rest b s'=>b.1=none/\s'=⟨hp,g,d,tk,os⟩/\∃ i,rest=(items.toList.zip items2.toList).drop i/\
   R (.ok (.ret (.bool (!(((List.range (min items.size items2.size)).drop i).all e && items.size == items2.size))))) ⟨hp,g,d,tk,os⟩) _
  case turn=>
   rintro ⟨y,x⟩ rest b s' ⟨hb',rfl,i,hz,hR⟩
   have hlt:i < (items.toList.zip items2.toList).length:=by
    rcases Nat.lt_or_ge i (items.toList.zip items2.toList).length with h' | h'
    · exact h'
    · rw [List.drop_of_length_le h'] at hz; cases hz
   have hm:i < min items.size items2.size:=hZ ▸ hlt
   have h1:i < items.size:=Nat.lt_of_lt_of_le hm (Nat.min_le_left _ _)
   have h2:i < items2.size:=Nat.lt_of_lt_of_le hm (Nat.min_le_right _ _)
   rw [List.drop_eq_getElem_cons hlt] at hz
   injection hz with hyx hrest
   have hy:y=items[i]:=by have:=congrArg Prod.fst hyx; simpa using this
   have hx:x=items2[i]:=by have:=congrArg Prod.snd hyx; simpa using this
   subst hy hx
   have hd:(List.range (min items.size items2.size)).drop i=i::(List.range (min items.size items2.size)).drop (i + 1):=by simp [List.drop_eq_getElem_cons,hm]
   rw [hd,List.all_cons] at hR
   refine wpAny_bind (he i h1 h2 prog w _ _ ?_)
   cases hy:e i with
   | true=>
    rw [hy] at hR
    wp_walk
    exact ⟨rfl,rfl,i + 1,hrest,by simpa only [Bool.true_and] using hR⟩
   | false=>
    rw [hy] at hR
    wp_walk
    exact ⟨_,rfl,by simpa only [Bool.false_and,Bool.not_false] using hR⟩
  case fin=>
   rintro ⟨b1,b2⟩ s' ⟨hb',rfl,i,hz,hR⟩
   simp only at hb'
   subst hb'
   have hge:min items.size items2.size<=i:=by
    rcases Nat.lt_or_ge i (items.toList.zip items2.toList).length with h' | h'
    · rw [List.drop_eq_getElem_cons h'] at hz; cases hz
    · exact hZ ▸ h'
   rw [List.drop_of_length_le (by simpa using hge)] at hR
   wp_walk
   exact ⟨_,rfl,by simpa [Builtin.Tuple.tupleCompareSizes,bne] using hR⟩
  case h=>
   exact ⟨rfl,rfl,0,rfl,by simpa only [List.drop_zero] using h⟩
theorem zaqj (l b:Addr) (items items2:Array Value) (n n2:Nat) (dd dd2:Option Addr) (sl sl2:Array (Option Value)) (hsz:items.size=items2.size) (e:Nat->Bool) (k:Nat) :
 ∀ i:Nat,items.size - i=k->Meets (Builtin.«list.__eq__.loop» ⟨[.ref l,.ref b,rawInt i,rawInt 3],[]⟩)
  (fun A R s=>s.heap.get? l=some { cls:=.type "list", dict:=dd,data:=.seq items n,slots:=sl }/\s.heap.get? b=some { cls:=.type "list", dict:=dd2,data:=.seq items2 n2,slots:=sl2 }/\
   (∀ j (h1:j < items.size) (h2:j < items2.size),EqAt A.in1 s items[j] items2[j] (e j))/\
   R (.ok (.ret (.bool (!(((List.range items.size).drop i).all e))))) s):=by
 induction k with
 | zero=>
  intro i hk prog w A R s h
  obtain ⟨hp,g,d,tk,os⟩:=s; obtain ⟨hl,hb,he,h⟩:=h
  wp_walk using wpAny_loadPart' hl,wpAny_loadPart' hb
  have hi1:items[((i:Nat):Int).toNat]?=none:=by simp; omega
  have hi2:items2[((i:Nat):Int).toNat]?=none:=by simp; omega
  have hd:(List.range items.size).drop i=[]:=by simp; omega
  rw [hd] at h
  rw [hi1,hi2]
  wp_walk using wpAny_loadPart' hl,wpAny_loadPart' hb
  show R (.ok (.ret (.bool (items.size != items2.size)))) _
  rw [hsz]
  simpa using h
 | succ k ih=>
  intro i hk prog w A R s h
  obtain ⟨hp,g,d,tk,os⟩:=s; obtain ⟨hl,hb,he,h⟩:=h
  wp_walk using wpAny_loadPart' hl,wpAny_loadPart' hb
  have hlt:i < items.size:=by omega
  have hlt2:i < items2.size:=by omega
  have hi1:items[((i:Nat):Int).toNat]?=some items[i]:=by simp [hlt]
  have hi2:items2[((i:Nat):Int).toNat]?=some items2[i]:=by simp [hlt2]
  have hd:(List.range items.size).drop i=i::(List.range items.size).drop (i + 1):=by simp [List.drop_eq_getElem_cons,hlt]
  have hc:((i:Int) + 1)=((i + 1:Nat):Int):=by push_cast; rfl
  rw [hd,List.all_cons] at h
  rw [hi1,hi2]
  refine wpAny_bind (he i hlt hlt2 prog w _ _ ?_)
  cases hb':e i with
  | true=>
   rw [hb'] at h
   wp_walk
   rw [hc]
   exact ⟨plainId_quiet plain_eq_loop _,codeAny_builtin entry_eq_loop (by
    rw [Around.under_plainId plain_eq_loop _]
    exact ih (i + 1) (by omega) prog w A R _ ⟨hl,hb,he,by simpa only [Bool.true_and] using h⟩)⟩
  | false=>
   rw [hb'] at h
   wp_walk using wpAny_loadPart' hl,wpAny_loadPart' hb
   rw [hi1,hi2]
   wp_walk
   simpa using h
theorem zaqV (l b:Addr) (items items2:Array Value) (n n2:Nat) (dd dd2:Option Addr) (sl sl2:Array (Option Value)) (hsz:items.size=items2.size) (e:Nat->Bool) :
 Meets (Builtin.«list.__ne__» ⟨[.ref l,.ref b],[]⟩)
  (fun A R s=>s.heap.get? l=some { cls:=.type "list", dict:=dd,data:=.seq items n,slots:=sl }/\s.heap.get? b=some { cls:=.type "list", dict:=dd2,data:=.seq items2 n2,slots:=sl2 }/\
   (∀ j (h1:j < items.size) (h2:j < items2.size),EqAt A.in1 s items[j] items2[j] (e j))/\
   R (.ok (.ret (.bool (!((List.range items.size).all e))))) s):=by
 intro prog w A R s h
 obtain ⟨hp,g,d,tk,os⟩:=s; obtain ⟨hl,hb,he,h⟩:=h
 have f3:=AutoSeq1.sub_list_list
 have hne:¬ (items.size != items2.size)=true:=by simp [hsz]
 wp_walk using wpAny_loadPart' hl,wpAny_loadPart' hb
 exact ⟨plainId_quiet plain_eq_loop _,codeAny_builtin entry_eq_loop (by
  rw [Around.under_plainId plain_eq_loop _]
  exact zaqj l b items items2 n n2 dd dd2 sl sl2 hsz e _ 0 rfl prog w A R _ ⟨hl,hb,he,by simpa only [List.drop_zero] using h⟩)⟩
theorem zajv (l b:Addr) (items items2:Array Value) (n n2:Nat) (dd dd2:Option Addr) (sl sl2:Array (Option Value)) (hc0:(items.size != items2.size)=true) :
 Meets (Builtin.«list.__ne__» ⟨[.ref l,.ref b],[]⟩)
  (fun _ R s=>s.heap.get? l=some { cls:=.type "list", dict:=dd,data:=.seq items n,slots:=sl }/\s.heap.get? b=some { cls:=.type "list", dict:=dd2,data:=.seq items2 n2,slots:=sl2 }/\
   R (.ok (.ret (.bool true))) s):=
 .of_wp fun prog w A R s h=>by
  obtain ⟨hp,g,d,tk,os⟩:=s; obtain ⟨hl,hb,h⟩:=h
  have f3:=AutoSeq1.sub_list_list
  wp_walk using wpAny_loadPart' hl,wpAny_loadPart' hb
  exact ⟨_,rfl,h⟩
section
variable {prog:Program} {w:World} {A:Around} {E:Value->Shared->Prop} {s:Shared} {Q:Value->Shared->Prop}
theorem zaql {l b:Addr} {items items2:Array Value} {e:Nat->Bool} (hl:s.heap.IsTuple l items) (hb:s.heap.IsTuple b items2) (hu:A.units < cLine)
 (he:∀ j (h1:j < items.size) (h2:j < items2.size),EqAt A.in1 s items[j] items2[j] (e j)) (h:Q (.bool (!((List.range (min items.size items2.size)).all e && items.size == items2.size))) s):wpAny (model prog w) A (compareOp .NotEq (.ref l) (.ref b)) Q E s:=by
 obtain ⟨⟨cls,dd,data,sl⟩,ho,hc,n,hd⟩:=id hl
 obtain ⟨⟨cls2,dd2,data2,sl2⟩,ho2,hc2,n2,hd2⟩:=id hb
 simp only at hc hd hc2 hd2
 subst hc hd hc2 hd2
 exact richCompare_meets_room (op:=.NotEq) ⟨_,ho,rfl⟩ ⟨_,ho2,rfl⟩ F.slot_tuple_ne F.entry_tuple_ne (F.args_tuple_ne_2 _ _) (zapA l b items items2 n n2 dd dd2 sl sl2 e) ⟨ho,ho2,he,⟨(fun x=>nomatch x),h⟩⟩ hu
theorem zarw {l b:Addr} {items items2:Array Value} {e:Nat->Bool} (hl:s.heap.IsList l items) (hb:s.heap.IsList b items2) (hsz:items.size=items2.size) (hu:A.units < cLine)
 (he:∀ j (h1:j < items.size) (h2:j < items2.size),EqAt A.in1 s items[j] items2[j] (e j)) (h:Q (.bool (!((List.range items.size).all e))) s):wpAny (model prog w) A (compareOp .NotEq (.ref l) (.ref b)) Q E s:=by
 obtain ⟨⟨cls,dd,data,sl⟩,ho,hc,n,hd⟩:=id hl
 obtain ⟨⟨cls2,dd2,data2,sl2⟩,ho2,hc2,n2,hd2⟩:=id hb
 simp only at hc hd hc2 hd2
 subst hc hd hc2 hd2
 exact richCompare_meets_room (op:=.NotEq) ⟨_,ho,rfl⟩ ⟨_,ho2,rfl⟩ F.slot_list_ne F.entry_list_ne (F.args_list_ne_2 _ _) (zaqV l b items items2 n n2 dd dd2 sl sl2 hsz e) ⟨ho,ho2,he,⟨(fun x=>nomatch x),h⟩⟩ hu
theorem zang {l b:Addr} {items items2:Array Value} (hl:s.heap.IsList l items) (hb:s.heap.IsList b items2) (hsz:(items.size != items2.size)=true) (hu:A.units < cLine)
 (h:Q (.bool true) s):wpAny (model prog w) A (compareOp .NotEq (.ref l) (.ref b)) Q E s:=by
 obtain ⟨⟨cls,dd,data,sl⟩,ho,hc,n,hd⟩:=id hl
 obtain ⟨⟨cls2,dd2,data2,sl2⟩,ho2,hc2,n2,hd2⟩:=id hb
 simp only at hc hd hc2 hd2
 subst hc hd hc2 hd2
 exact richCompare_meets_room (op:=.NotEq) ⟨_,ho,rfl⟩ ⟨_,ho2,rfl⟩ F.slot_list_ne F.entry_list_ne (F.args_list_ne_2 _ _) (zajv l b items items2 n n2 dd dd2 sl sl2 hsz) ⟨ho,ho2,⟨(fun x=>nomatch x),h⟩⟩ hu
end
end L2
namespace SM
open PySem PySem.Spec PyProof.Rows L2
inductive Dt where
 | non | bl (b:Bool) | int (i:Int) | str (x:Str) | tup (xs:List Dt) | lst (xs:List Dt) | ref (n:Nat) | ntp (xs:List Int)
inductive Ob where
 | lst (xs:List Dt)
 | ins (x:Str) (fs:List (Str × Dt))
 | dk (kvs:List (Key × Dt))
 | dt (kvs:List (List Int × Dt))
 | df (kvs:List (List Int × Dt))
noncomputable abbrev HI:=List Ob
noncomputable abbrev LI:=List (Option Dt)
structure Rg where
 v:List Addr
 z:List Addr
noncomputable def Rg.no (ρ:Rg) (a:Addr):Prop:=a ∉ ρ.v/\a ∉ ρ.z
noncomputable def Rg.add (ρ:Rg) (p:Addr):Rg:=⟨ρ.v++[p],ρ.z⟩
noncomputable def Rg.hide (ρ:Rg) (p:Addr):Rg:=⟨ρ.v,p::ρ.z⟩
noncomputable def Rg.nil:Rg:=⟨[],[]⟩
noncomputable def TupAt (K:PySem.W.Frag) (H:Hp) (ρ:Rg) (a:Addr) (vs:List V):Prop:=
 (ρ.no a/\Rd H a (.tup vs))\/
  ∃ (o:Obj) (its:Array Value) (n:Nat),K.lookup a=some o/\o.cls=.type "tuple" /\ o.data=.seq its n/\its.size<=sizeLine/\Vals vs its.toList
noncomputable def LstAt (K:PySem.W.Frag) (H:Hp) (ρ:Rg) (a:Addr) (vs:List V):Prop:=
 (ρ.no a/\Rd H a (.lst vs))\/
  ∃ (o:Obj) (its:Array Value) (n:Nat),K.lookup a=some o/\o.cls=.type "list" /\ o.dict=none/\o.data=.seq its n/\its.size<=sizeLine/\Vals vs its.toList
theorem TupAt.sq {K:PySem.W.Frag} {H:Hp} {ρ:Rg} {a:Addr} {vs:List V} (h:TupAt K H ρ a vs):SqT K H a vs:=by
 rcases h with ⟨_,h⟩ | h
 · exact .inl h
 · exact .inr h
theorem LstAt.sq {K:PySem.W.Frag} {H:Hp} {ρ:Rg} {a:Addr} {vs:List V} (h:LstAt K H ρ a vs):SqL K H a vs:=by
 rcases h with ⟨_,h⟩ | h
 · exact .inl h
 · exact .inr h
mutual
noncomputable def RelD (K:PySem.W.Frag) (H:Hp) (ρ:Rg):Dt->V->Prop
 | .non,v=>v=.non
 | .bl b,v=>v=.bl b
 | .int i,v=>v=.int i
 | .str x,v=>v=.str x
 | .tup xs,v=>∃ a vs,v=.ref a/\TupAt K H ρ a vs/\RelDs K H ρ xs vs
 | .lst xs,v=>∃ a vs,v=.ref a/\LstAt K H ρ a vs/\RelDs K H ρ xs vs
 | .ref n,v=>∃ a,v=.ref a/\ρ.v[n]?=some a
 | .ntp xs,v=>∃ a,v=.ref a/\ρ.no a/\H a=some (.tup (xs.map V.int))
noncomputable def RelDs (K:PySem.W.Frag) (H:Hp) (ρ:Rg):List Dt->List V->Prop
 | [],vs=>vs=[]
 | x::xs,vs=>∃ v r,vs=v::r/\RelD K H ρ x v/\RelDs K H ρ xs r
end
structure Ext (ρ ρ':Rg) (H H':Hp):Prop where
 pre:∃ e,ρ'.v=ρ.v++e/\∀ a ∈ e,H a=none
 hid:ρ'.z=ρ.z
 keep:∀ a o,H a=some o->a ∉ ρ.v->H' a=some o
 live:∀ a,H' a=none->H a=none
 fz:∀ a o u,H a=some (.frz o u)->H' a=some (.frz o u)
theorem Ext.refl (ρ:Rg) (H:Hp):Ext ρ ρ H H:=⟨⟨[],by simp,by simp⟩,rfl,fun _ _ h _=>h,fun _ h=>h,fun _ _ _ h=>h⟩
theorem Ext.notv {ρ ρ':Rg} {H H':Hp} (x:Ext ρ ρ' H H') {a:Addr} {o:HO} (h:H a=some o) (n:a ∉ ρ.v):a ∉ ρ'.v:=by
 obtain ⟨e,e',hn⟩:=x.pre
 rw [e']
 intro hm
 rcases List.mem_append.mp hm with hm | hm
 · exact n hm
 · have:=hn a hm
   rw [h] at this
   cases this
theorem Ext.notin {ρ ρ':Rg} {H H':Hp} (x:Ext ρ ρ' H H') {a:Addr} {o:HO} (h:H a=some o) (n:ρ.no a):ρ'.no a:=⟨x.notv h n.1,by rw [x.hid]; exact n.2⟩
theorem Ext.trans {ρ ρ1 ρ2:Rg} {H H1 H2:Hp} (x:Ext ρ ρ1 H H1) (y:Ext ρ1 ρ2 H1 H2):Ext ρ ρ2 H H2:=by
 refine ⟨?_,y.hid.trans x.hid,fun a o h n=>y.keep a o (x.keep a o h n) (x.notv h n),fun a h=>x.live a (y.live a h),fun a o u h=>y.fz a o u (x.fz a o u h)⟩
 obtain ⟨e,q1,h1⟩:=x.pre
 obtain ⟨e',q2,h2⟩:=y.pre
 refine ⟨e++e',by rw [q2,q1,List.append_assoc],fun a ha=>?_⟩
 rcases List.mem_append.mp ha with ha | ha
 · exact h1 a ha
 · exact x.live a (h2 a ha)
theorem Ext.get {ρ ρ':Rg} {H H':Hp} (x:Ext ρ ρ' H H') {n:Nat} {a:Addr} (h:ρ.v[n]?=some a):ρ'.v[n]?=some a:=by
 obtain ⟨e,e',_⟩:=x.pre
 have:=(List.getElem?_eq_some_iff.mp h).1
 rw [e',List.getElem?_append_left this]
 exact h
theorem Ext.fresh {ρ:Rg} {H:Hp} {p:Addr} {o:HO} (h:H p=none):Ext ρ ρ H (upd H p o):=by
 refine ⟨⟨[],by simp,by simp⟩,rfl,fun a u e _=>?_,fun a e=>?_,fun a o u e=>by rw [zaaA (zaaU e h)]; exact e⟩
 · rw [zaaA (zaaU e h)]
   exact e
 · by_cases ha:a=p
   · subst ha
     exact h
   · rw [zaaA ha] at e
     exact e
theorem Ext.own {ρ:Rg} {H:Hp} {p:Addr} {o:HO} (h:H p=none):Ext ρ (ρ.add p) H (upd H p o):=by
 refine ⟨⟨[p],rfl,fun a ha=>?_⟩,rfl,(Ext.fresh (ρ:=ρ) h).keep,(Ext.fresh (ρ:=ρ) h).live,(Ext.fresh (ρ:=ρ) h).fz⟩
 rw [List.mem_singleton.mp ha]
 exact h
noncomputable def Nfz (H:Hp) (a:Addr):Prop:=∀ o u,H a ≠ some (.frz o u)
theorem nfz {H:Hp} {a:Addr} {vs:List V} (h:H a=some (.lst vs)):Nfz H a:=fun _ _ e=>by rw [h] at e; cases e
theorem Ext.write {ρ:Rg} {H:Hp} {a:Addr} {o:HO} (ha:a ∈ ρ.v) (nf:Nfz H a):Ext ρ ρ H (upd H a o):=by
 refine ⟨⟨[],by simp,by simp⟩,rfl,fun b u e n=>?_,fun b e=>?_,fun b q u e=>by rw [zaaA (fun z:b=a=>nf q u (by rw [<- z]; exact e))]; exact e⟩
 · rw [zaaA (fun z=>n (by rw [z]; exact ha))]
   exact e
 · by_cases hb:b=a
   · subst hb
     rw [zaa6] at e
     cases e
   · rw [zaaA hb] at e
     exact e
structure Same2 (ρ ρ':Rg) (H H':Hp):Prop where
 no:∀ a u,H a=some u->ρ.no a->ρ'.no a
 eq:∀ a u,H a=some u->ρ.no a->H' a=some u
 ix:∀ (n:Nat) a,ρ.v[n]?=some a->ρ'.v[n]?=some a
 fz:∀ a o u,H a=some (.frz o u)->H' a=some (.frz o u)
theorem Ext.same {ρ ρ':Rg} {H H':Hp} (x:Ext ρ ρ' H H'):Same2 ρ ρ' H H':=⟨fun _ _ e n=>x.notin e n,fun _ _ e n=>x.keep _ _ e n.1,fun _ _ e=>x.get e,x.fz⟩
theorem Same2.trans {ρ ρ1 ρ2:Rg} {H H1 H2:Hp} (x:Same2 ρ ρ1 H H1) (y:Same2 ρ1 ρ2 H1 H2):Same2 ρ ρ2 H H2:=
 ⟨fun a u e n=>y.no a u (x.eq a u e n) (x.no a u e n),fun a u e n=>y.eq a u (x.eq a u e n) (x.no a u e n),fun n a e=>y.ix n a (x.ix n a e),fun a o u e=>y.fz a o u (x.fz a o u e)⟩
theorem TupAt.same {K:PySem.W.Frag} {ρ ρ':Rg} {H H':Hp} (x:Same2 ρ ρ' H H') {a:Addr} {vs:List V} (h:TupAt K H ρ a vs):TupAt K H' ρ' a vs:=by
 rcases h with ⟨n,t | ⟨y,t⟩⟩ | t
 · exact .inl ⟨x.no _ _ t n,.inl (x.eq _ _ t n)⟩
 · exact .inl ⟨x.no _ _ t n,.inr ⟨y,x.eq _ _ t n⟩⟩
 · exact .inr t
theorem LstAt.same {K:PySem.W.Frag} {ρ ρ':Rg} {H H':Hp} (x:Same2 ρ ρ' H H') {a:Addr} {vs:List V} (h:LstAt K H ρ a vs):LstAt K H' ρ' a vs:=by
 rcases h with ⟨n,t | ⟨y,t⟩⟩ | t
 · exact .inl ⟨x.no _ _ t n,.inl (x.eq _ _ t n)⟩
 · exact .inl ⟨x.no _ _ t n,.inr ⟨y,x.eq _ _ t n⟩⟩
 · exact .inr t
mutual
theorem RelD.same {K:PySem.W.Frag} {ρ ρ':Rg} {H H':Hp} (x:Same2 ρ ρ' H H'):∀ (d:Dt) {v:V},RelD K H ρ d v->RelD K H' ρ' d v
 | .non,_,h=>by simp only [RelD] at h ⊢; exact h
 | .bl _,_,h=>by simp only [RelD] at h ⊢; exact h
 | .int _,_,h=>by simp only [RelD] at h ⊢; exact h
 | .str _,_,h=>by simp only [RelD] at h ⊢; exact h
 | .tup xs,_,h=>by
  simp only [RelD] at h ⊢
  obtain ⟨a,vs,e,t,r⟩:=h
  exact ⟨a,vs,e,t.same x,RelDs.same x xs r⟩
 | .lst xs,_,h=>by
  simp only [RelD] at h ⊢
  obtain ⟨a,vs,e,t,r⟩:=h
  exact ⟨a,vs,e,t.same x,RelDs.same x xs r⟩
 | .ref _,_,h=>by
  simp only [RelD] at h ⊢
  obtain ⟨a,e,t⟩:=h
  exact ⟨a,e,x.ix _ _ t⟩
 | .ntp _,_,h=>by
  simp only [RelD] at h ⊢
  obtain ⟨a,e,n,t⟩:=h
  exact ⟨a,e,x.no _ _ t n,x.eq _ _ t n⟩
theorem RelDs.same {K:PySem.W.Frag} {ρ ρ':Rg} {H H':Hp} (x:Same2 ρ ρ' H H'):∀ (ds:List Dt) {vs:List V},RelDs K H ρ ds vs->RelDs K H' ρ' ds vs
 | [],_,h=>by simp only [RelDs] at h ⊢; exact h
 | d::ds,_,h=>by
  simp only [RelDs] at h ⊢
  obtain ⟨v,r,e,h1,h2⟩:=h
  exact ⟨v,r,e,RelD.same x d h1,RelDs.same x ds h2⟩
end
theorem RelD.ext {K:PySem.W.Frag} {ρ ρ':Rg} {H H':Hp} (x:Ext ρ ρ' H H') (d:Dt) {v:V} (h:RelD K H ρ d v):RelD K H' ρ' d v:=RelD.same x.same d h
theorem RelDs.ext {K:PySem.W.Frag} {ρ ρ':Rg} {H H':Hp} {ds:List Dt} {vs:List V} (h:RelDs K H ρ ds vs) (x:Ext ρ ρ' H H'):RelDs K H' ρ' ds vs:=RelDs.same x.same ds h
section
variable {K:PySem.W.Frag} {H:Hp} {ρ:Rg}
theorem RelDs.nil:RelDs K H ρ [] []:=by simp only [RelDs]
theorem RelDs.cons {d:Dt} {v:V} {ds:List Dt} {vs:List V} (h:RelD K H ρ d v) (r:RelDs K H ρ ds vs):RelDs K H ρ (d::ds) (v::vs):=by
 simp only [RelDs]
 exact ⟨v,vs,rfl,h,r⟩
theorem RelDs.uncons {d:Dt} {ds:List Dt} {vs:List V} (h:RelDs K H ρ (d::ds) vs):∃ v r,vs=v::r/\RelD K H ρ d v/\RelDs K H ρ ds r:=by
 simpa only [RelDs] using h
theorem RelDs.unnil {vs:List V} (h:RelDs K H ρ [] vs):vs=[]:=by simpa only [RelDs] using h
theorem RelDs.length:∀ {ds:List Dt} {vs:List V},RelDs K H ρ ds vs->vs.length=ds.length
 | [],_,h=>by rw [h.unnil]; rfl
 | d::ds,_,h=>by
  obtain ⟨v,r,rfl,_,h2⟩:=h.uncons
  rw [List.length_cons,List.length_cons,RelDs.length h2]
theorem RelDs.get:∀ {ds:List Dt} {vs:List V} {i:Nat} {d:Dt},RelDs K H ρ ds vs->ds[i]?=some d->∃ v,vs[i]?=some v/\RelD K H ρ d v
 | [],_,_,_,_,e=>by simp at e
 | d::ds,_,0,_,h,e=>by
  obtain ⟨v,r,rfl,h1,_⟩:=h.uncons
  simp at e
  subst e
  exact ⟨v,rfl,h1⟩
 | d::ds,_,i + 1,d',h,e=>by
  obtain ⟨v,r,rfl,_,h2⟩:=h.uncons
  obtain ⟨u,q1,q2⟩:=RelDs.get (i:=i) h2 (by simpa using e)
  exact ⟨u,by simpa using q1,q2⟩
theorem RelDs.append:∀ {ds es:List Dt} {vs us:List V},RelDs K H ρ ds vs->RelDs K H ρ es us->RelDs K H ρ (ds++es) (vs++us)
 | [],_,_,_,h,h'=>by rw [h.unnil]; exact h'
 | d::ds,_,_,_,h,h'=>by
  obtain ⟨v,r,rfl,h1,h2⟩:=h.uncons
  exact .cons h1 (RelDs.append h2 h')
theorem RelDs.set:∀ {ds:List Dt} {vs:List V} {d:Dt} {v:V} (i:Nat),RelDs K H ρ ds vs->RelD K H ρ d v->RelDs K H ρ (ds.set i d) (vs.set i v)
 | [],_,_,_,_,h,_=>by rw [h.unnil]; exact .nil
 | d::ds,_,_,_,0,h,q=>by
  obtain ⟨v,r,rfl,h1,h2⟩:=h.uncons
  exact .cons q h2
 | d::ds,_,_,_,i + 1,h,q=>by
  obtain ⟨v,r,rfl,h1,h2⟩:=h.uncons
  exact .cons h1 (RelDs.set i h2 q)
theorem RelDs.take:∀ {ds:List Dt} {vs:List V} (n:Nat),RelDs K H ρ ds vs->RelDs K H ρ (ds.take n) (vs.take n)
 | [],_,n,h=>by rw [h.unnil]; simp; exact .nil
 | d::ds,_,0,h=>.nil
 | d::ds,_,n + 1,h=>by
  obtain ⟨v,r,rfl,h1,h2⟩:=h.uncons
  exact .cons h1 (RelDs.take n h2)
theorem RelDs.drop:∀ {ds:List Dt} {vs:List V} (n:Nat),RelDs K H ρ ds vs->RelDs K H ρ (ds.drop n) (vs.drop n)
 | [],_,n,h=>by rw [h.unnil]; simp; exact .nil
 | d::ds,_,0,h=>h
 | d::ds,_,n + 1,h=>by
  obtain ⟨v,r,rfl,h1,h2⟩:=h.uncons
  exact RelDs.drop n h2
theorem RelDs.ints (ns:List Int):RelDs K H ρ (ns.map Dt.int) (ns.map V.int):=by
 induction ns with
 | nil=>exact .nil
 | cons n ns ih=>exact .cons (by simp only [RelD]) ih
theorem RelDs.unints:∀ {ns:List Int} {vs:List V},RelDs K H ρ (ns.map Dt.int) vs->vs=ns.map V.int
 | [],_,h=>h.unnil
 | n::ns,_,h=>by
  obtain ⟨v,r,rfl,h1,h2⟩:=RelDs.uncons h
  simp only [RelD] at h1
  rw [h1,RelDs.unints h2]
  rfl
theorem rel_int {i:Int} {v:V}:RelD K H ρ (.int i) v ↔ v=.int i:=by simp only [RelD]
theorem rel_bl {i:Bool} {v:V}:RelD K H ρ (.bl i) v ↔ v=.bl i:=by simp only [RelD]
theorem rel_str {i:Str} {v:V}:RelD K H ρ (.str i) v ↔ v=.str i:=by simp only [RelD]
theorem rel_non {v:V}:RelD K H ρ .non v ↔ v=.non:=by simp only [RelD]
theorem rel_tup {xs:List Dt} {v:V}:RelD K H ρ (.tup xs) v ↔ ∃ a vs,v=.ref a/\TupAt K H ρ a vs/\RelDs K H ρ xs vs:=by simp only [RelD]
theorem rel_lst {xs:List Dt} {v:V}:RelD K H ρ (.lst xs) v ↔ ∃ a vs,v=.ref a/\LstAt K H ρ a vs/\RelDs K H ρ xs vs:=by simp only [RelD]
theorem rel_ntp {xs:List Int} {v:V}:RelD K H ρ (.ntp xs) v ↔ ∃ a,v=.ref a/\ρ.no a/\H a=some (.tup (xs.map V.int)):=by simp only [RelD]
theorem rel_ref {n:Nat} {v:V}:RelD K H ρ (.ref n) v ↔ ∃ a,v=.ref a/\ρ.v[n]?=some a:=by simp only [RelD]
end
noncomputable def ObAt (K:PySem.W.Frag) (H:Hp) (ρ:Rg) (a:Addr):Ob->Prop
 | .lst xs=>∃ vs,H a=some (.lst vs)/\RelDs K H ρ xs vs
 | .ins x fs=>∃ C dx vs,PySem.W.nsIn K mainGlobals x=some (some (.ref C))/\H a=some (.ins C dx vs)/\fs.map (·.1)=vs.map (·.1)/\RelDs K H ρ (fs.map (·.2)) (vs.map (·.2))
 | .dk kvs=>∃ vs,H a=some (.dK vs)/\kvs.map (·.1)=vs.map (·.1)/\RelDs K H ρ (kvs.map (·.2)) (vs.map (·.2))
 | .dt kvs=>∃ vs:List (List Key × V),H a=some (.dT vs)/\vs.map (·.1)=kvs.map (fun p=>p.1.map Sum.inl)/\RelDs K H ρ (kvs.map (·.2)) (vs.map (·.2))
 | .df kvs=>∃ (o:Obj) (vs:List (List Key × V)),H a=some (.frz o (.dT vs))/\vs.map (·.1)=kvs.map (fun p=>p.1.map Sum.inl)/\RelDs K H ρ (kvs.map (·.2)) (vs.map (·.2))
structure SimH (K:PySem.W.Frag) (ρ:Rg) (h:HI) (H:Hp):Prop where
 nd:ρ.v.Nodup
 len:ρ.v.length=h.length
 ob:∀ (n:Nat) a o,ρ.v[n]?=some a->h[n]?=some o->ObAt K H ρ a o
 zt:∀ a ∈ ρ.z,a ∉ ρ.v/\∃ vs,H a=some (.lst vs)
theorem ObAt.ext {K:PySem.W.Frag} {H H':Hp} {ρ ρ':Rg} {a:Addr} {o:Ob} (x:Ext ρ ρ' H H') (e:H' a=H a) (h:ObAt K H ρ a o):ObAt K H' ρ' a o:=by
 cases o with
 | lst xs=>
  obtain ⟨vs,h1,h2⟩:=h
  exact ⟨vs,e.trans h1,h2.ext x⟩
 | ins y fs=>
  obtain ⟨C,dx,vs,h0,h1,h2,h3⟩:=h
  exact ⟨C,dx,vs,h0,e.trans h1,h2,h3.ext x⟩
 | dk kvs=>
  obtain ⟨vs,h1,h2,h3⟩:=h
  exact ⟨vs,e.trans h1,h2,h3.ext x⟩
 | dt kvs=>
  obtain ⟨vs,h1,h2,h3⟩:=h
  exact ⟨vs,e.trans h1,h2,h3.ext x⟩
 | df kvs=>
  obtain ⟨o,vs,h1,h2,h3⟩:=h
  exact ⟨o,vs,e.trans h1,h2,h3.ext x⟩
theorem ObAt.some {K:PySem.W.Frag} {H:Hp} {ρ:Rg} {a:Addr} {o:Ob} (h:ObAt K H ρ a o):∃ u,H a=some u:=by
 cases o with
 | lst xs=>obtain ⟨vs,h1,_⟩:=h; exact ⟨_,h1⟩
 | ins y fs=>obtain ⟨C,dx,vs,_,h1,_⟩:=h; exact ⟨_,h1⟩
 | dk kvs=>obtain ⟨vs,h1,_⟩:=h; exact ⟨_,h1⟩
 | dt kvs=>obtain ⟨vs,h1,_⟩:=h; exact ⟨_,h1⟩
 | df kvs=>obtain ⟨o,vs,h1,_⟩:=h; exact ⟨_,h1⟩
section
variable {K:PySem.W.Frag} {H H':Hp} {ρ:Rg} {h:HI}
theorem SimH.nil:SimH K .nil [] H:=⟨List.nodup_nil,rfl,fun _ _ _ e=>by simp [Rg.nil] at e,fun _ h=>nomatch h⟩
theorem SimH.tracked (S:SimH K ρ h H) {a:Addr} (ha:a ∈ ρ.v):∃ u,H a=some u:=by
 obtain ⟨n,hn⟩:=List.mem_iff_getElem?.mp ha
 have hl:n < h.length:=by rw [<- S.len]; exact (List.getElem?_eq_some_iff.mp hn).1
 exact (S.ob n a _ hn (List.getElem?_eq_getElem hl)).some
theorem SimH.out (S:SimH K ρ h H) {p:Addr} (hp:H p=none):ρ.no p:=by
 refine ⟨fun ha=>?_,fun ha=>?_⟩
 · obtain ⟨u,e⟩:=S.tracked ha
   rw [hp] at e
   cases e
 · obtain ⟨_,u,e⟩:=S.zt p ha
   rw [hp] at e
   cases e
theorem SimH.fresh (S:SimH K ρ h H) {p:Addr} {o:HO} (hp:H p=none):SimH K ρ h (upd H p o):=
 ⟨S.nd,S.len,fun n a u e1 e2=>(S.ob n a u e1 e2).ext (Ext.fresh hp) (zaaA (fun z=>(S.out hp).1 (z ▸ List.mem_of_getElem? e1))),fun a ha=>by
  obtain ⟨n,u,e⟩:=S.zt a ha
  exact ⟨n,u,by rw [zaaA (zaaU e hp)]; exact e⟩⟩
theorem SimH.own (S:SimH K ρ h H) {p:Addr} {o:HO} {u:Ob} (hp:H p=none) (hu:ObAt K (upd H p o) (ρ.add p) p u):SimH K (ρ.add p) (h++[u]) (upd H p o):=by
 refine ⟨?_,by simp only [Rg.add]; rw [List.length_append,List.length_append,S.len]; rfl,fun n a ob e1 e2=>?_,fun a ha=>?_⟩
 · simp only [Rg.add]
   rw [List.nodup_append]
   refine ⟨S.nd,List.nodup_cons.mpr ⟨by simp,List.nodup_nil⟩,fun a ha b hb=>?_⟩
   rw [List.mem_singleton.mp hb]
   intro z
   exact (S.out hp).1 (z ▸ ha)
 · simp only [Rg.add] at e1
   by_cases hn:n < h.length
   · rw [List.getElem?_append_left hn] at e2
     rw [List.getElem?_append_left (by rw [S.len]; exact hn)] at e1
     exact (S.ob n a ob e1 e2).ext (Ext.own hp) (zaaA (fun z=>(S.out hp).1 (z ▸ List.mem_of_getElem? e1)))
   · have hn':h.length<=n:=Nat.not_lt.mp hn
     rw [List.getElem?_append_right hn'] at e2
     rw [List.getElem?_append_right (by rw [S.len]; exact hn'),S.len] at e1
     cases hk:n - h.length with
     | zero=>
      rw [hk] at e1 e2
      simp at e1 e2
      subst e1 e2
      exact hu
     | succ k=>
      rw [hk] at e2
      simp at e2
 · obtain ⟨n,u,e⟩:=S.zt a ha
   refine ⟨fun hm=>?_,u,by rw [zaaA (zaaU e hp)]; exact e⟩
   simp only [Rg.add] at hm
   rcases List.mem_append.mp hm with hm | hm
   · exact n hm
   · rw [List.mem_singleton.mp hm,hp] at e
     cases e
theorem SimH.write (S:SimH K ρ h H) {n:Nat} {p:Addr} {o:HO} {u:Ob} (hn:ρ.v[n]?=some p) (nf:Nfz H p) (hu:ObAt K (upd H p o) ρ p u):SimH K ρ (h.set n u) (upd H p o):=by
 refine ⟨S.nd,by rw [List.length_set]; exact S.len,fun m a ob e1 e2=>?_,fun a ha=>?_⟩
 · by_cases hm:m=n
   · subst hm
     rw [hn] at e1
     cases e1
     have hl:m < h.length:=by rw [<- S.len]; exact (List.getElem?_eq_some_iff.mp hn).1
     rw [List.getElem?_set_self hl] at e2
     cases e2
     exact hu
   · rw [List.getElem?_set_ne (Ne.symm hm)] at e2
     refine (S.ob m a ob e1 e2).ext (Ext.write (List.mem_of_getElem? hn) nf) (zaaA fun z=>hm ?_)
     subst z
     obtain ⟨h1,q1⟩:=List.getElem?_eq_some_iff.mp e1
     obtain ⟨h2,q2⟩:=List.getElem?_eq_some_iff.mp hn
     exact (List.getElem_inj S.nd).mp (q1.trans q2.symm)
 · obtain ⟨m,w,e⟩:=S.zt a ha
   exact ⟨m,w,by rw [zaaA (fun z=>m (by rw [z]; exact List.mem_of_getElem? hn))]; exact e⟩
theorem SimH.lst (S:SimH K ρ h H) {n:Nat} {a:Addr} {xs:List Dt} (hn:ρ.v[n]?=some a) (e:h[n]?=some (.lst xs)):∃ vs,H a=some (.lst vs)/\RelDs K H ρ xs vs:=S.ob n a _ hn e
end
structure SimL (K:PySem.W.Frag) (H:Hp) (ρ:Rg) (l:LI) (σ:L2.St):Prop where
 len:l.length=σ.length
 val:∀ (i:Nat) d,l[i]?=some (some d)->∃ v,σ[i]?=some (some v)/\RelD K H ρ d v
theorem SimL.ext {K:PySem.W.Frag} {H H':Hp} {ρ ρ':Rg} {l:LI} {σ:L2.St} (L:SimL K H ρ l σ) (x:Ext ρ ρ' H H'):SimL K H' ρ' l σ:=
 ⟨L.len,fun i d e=>let ⟨v,e1,r⟩:=L.val i d e; ⟨v,e1,RelD.ext x d r⟩⟩
theorem SimL.set {K:PySem.W.Frag} {H:Hp} {ρ:Rg} {l:LI} {σ:L2.St} (L:SimL K H ρ l σ) {d:Dt} {v:V} (i:Nat) (r:RelD K H ρ d v):SimL K H ρ (l.set i (some d)) (σ.set i (some v)):=by
 refine ⟨by rw [List.length_set,List.length_set]; exact L.len,fun j d' e=>?_⟩
 by_cases hj:j=i
 · subst hj
   have hl:j < l.length:=by
    have:=(List.getElem?_eq_some_iff.mp e).1
    rwa [List.length_set] at this
   rw [List.getElem?_set_self hl] at e
   cases e
   exact ⟨v,List.getElem?_set_self (by rw [<- L.len]; exact hl),r⟩
 · rw [List.getElem?_set_ne (Ne.symm hj)] at e
   rw [List.getElem?_set_ne (Ne.symm hj)]
   exact L.val j d' e
noncomputable abbrev RE:=LI->HI->Option (Dt × HI)
noncomputable abbrev RT:=LI->HI->Option (Bool × HI)
noncomputable abbrev RA:=LI->HI->Option (List Dt × HI)
inductive Rs where
 | nx (l:LI) (h:HI) | rt (d:Dt) (h:HI) | bk (l:LI) (h:HI) | ct (l:LI) (h:HI)
noncomputable abbrev RS:=LI->HI->Option Rs
noncomputable abbrev Op2:=Dt->Dt->HI->Option (Dt × HI)
noncomputable abbrev FnI:=List Dt->HI->Option (Dt × HI)
noncomputable def zaaP:Expr->Bool
 | .Starred _ _=>false
 | _=>true
theorem zaaG {e:Expr} (h:zaaP e=true) (es:List Expr) (env:Env):starEach (e::es) env=(false,eval e env)::starEach es env:=by
 cases e <;> first | rfl | (exact absurd h Bool.false_ne_true)
theorem zag8 {pos:Pos} {env:Env}:∀ {es:List Expr},es.all zaaP=true->(backTo pos (starEach es env)).any (·.1)=false
 | [],_=>rfl
 | e::es,h=>by
  rw [List.all_cons,Bool.and_eq_true] at h
  have ih:=zag8 (pos:=pos) (env:=env) h.2
  rw [zaaG h.1]
  unfold backTo at ih ⊢
  simp only [List.map_cons,List.any_cons,Bool.false_or]
  exact ih
theorem zaj1 {pos:Pos} {env:Env} {b:Expr} (h:zaaP b=true):((backTo pos (starEach [b] env)).all (fun x=>!x.1) && (backToKw pos (keywordEach [] env)).all (fun x=>x.1.isSome)
 && decide ([b].length + ([]:List Keyword).length + (if ([]:List Keyword).isEmpty then 0 else 1) < 30))=true:=by
 rw [zaaG h]
 rfl
noncomputable def Out (K:PySem.W.Frag) (ρ:Rg) (H:Hp) (d:Dt) (h':HI) (Q:VK):Prop:=
 ∀ ρ' v H',RelD K H' ρ' d v->SimH K ρ' h' H'->Ext ρ ρ' H H'->Q v H'
noncomputable def OutB (K:PySem.W.Frag) (ρ:Rg) (H:Hp) (h':HI) (Q:Hp->Prop):Prop:=
 ∀ ρ' H',SimH K ρ' h' H'->Ext ρ ρ' H H'->Q H'
noncomputable def tM (K:PySem.W.Frag) (f:RE):TE:=fun σ H Q=>∃ ρ l h d h',SimH K ρ h H/\SimL K H ρ l σ/\f l h=some (d,h')/\Out K ρ H d h' Q
noncomputable def tMT (K:PySem.W.Frag) (f:RT):TT:=fun σ H Q=>∃ ρ l h b h',SimH K ρ h H/\SimL K H ρ l σ/\f l h=some (b,h')/\OutB K ρ H h' (Q b)
noncomputable def tMA (K:PySem.W.Frag) (f:RA):TA:=fun σ H Q=>∃ ρ l h ds h',SimH K ρ h H/\SimL K H ρ l σ/\f l h=some (ds,h')/\∀ ρ' vs H',RelDs K H' ρ' ds vs->SimH K ρ' h' H'->Ext ρ ρ' H H'->Q vs H'
noncomputable def rM (K:PySem.W.Frag) (op:Op2):R2:=fun x y H Q=>∃ ρ h d1 d2 d h',SimH K ρ h H/\RelD K H ρ d1 x/\RelD K H ρ d2 y/\op d1 d2 h=some (d,h')/\Out K ρ H d h' Q
noncomputable def OutS (K:PySem.W.Frag) (ρ:Rg) (H:Hp) (D:Ends):Rs->Prop
 | .nx l h=>∀ ρ' σ' H',SimH K ρ' h H'->SimL K H' ρ' l σ'->Ext ρ ρ' H H'->D.nx σ' H'
 | .bk l h=>∀ ρ' σ' H',SimH K ρ' h H'->SimL K H' ρ' l σ'->Ext ρ ρ' H H'->D.bk σ' H'
 | .ct l h=>∀ ρ' σ' H',SimH K ρ' h H'->SimL K H' ρ' l σ'->Ext ρ ρ' H H'->D.ct σ' H'
 | .rt d h=>Out K ρ H d h D.rt
noncomputable def sM (K:PySem.W.Frag) (f:RS):TS:=fun D σ H=>∃ ρ l h r,SimH K ρ h H/\SimL K H ρ l σ/\f l h=some r/\OutS K ρ H D r
theorem Out.ext {K:PySem.W.Frag} {ρ ρ1:Rg} {H H1:Hp} {d:Dt} {h':HI} {Q:VK} (k:Out K ρ H d h' Q) (x:Ext ρ ρ1 H H1):Out K ρ1 H1 d h' Q:=fun ρ' v H' r s e=>k ρ' v H' r s (x.trans e)
theorem OutB.ext {K:PySem.W.Frag} {ρ ρ1:Rg} {H H1:Hp} {h':HI} {Q:Hp->Prop} (k:OutB K ρ H h' Q) (x:Ext ρ ρ1 H H1):OutB K ρ1 H1 h' Q:=fun ρ' H' s e=>k ρ' H' s (x.trans e)
theorem OutS.ext {K:PySem.W.Frag} {ρ ρ1:Rg} {H H1:Hp} {D:Ends} {r:Rs} (k:OutS K ρ H D r) (x:Ext ρ ρ1 H H1):OutS K ρ1 H1 D r:=by
 cases r with
 | nx l h=>exact fun ρ' σ' H' s l e=>k ρ' σ' H' s l (x.trans e)
 | bk l h=>exact fun ρ' σ' H' s l e=>k ρ' σ' H' s l (x.trans e)
 | ct l h=>exact fun ρ' σ' H' s l e=>k ρ' σ' H' s l (x.trans e)
 | rt d h=>exact Out.ext k x
@[irreducible] noncomputable def EM (X:Cx) (e:Expr) (f:RE):Prop:=PE X e (tM X.K f)
@[irreducible] noncomputable def TM (X:Cx) (e:Expr) (f:RT):Prop:=PT X e (tMT X.K f)
@[irreducible] noncomputable def WM (X:Cx) (e:Expr) (f:RT):Prop:=PW X e (tMT X.K f)
@[irreducible] noncomputable def AM (X:Cx) (es:List Expr) (f:RA):Prop:=PA X es (tMA X.K f)
@[irreducible] noncomputable def OM (X:Cx) (f:Value->Value->Sem Value) (op:Op2):Prop:=OpR X f (rM X.K op)
@[irreducible] noncomputable def ZM (X:Cx) (st:Stmt) (f:RS):Prop:=PS X st (sM X.K f)
@[irreducible] noncomputable def ZMs (X:Cx) (st:List Stmt) (f:RS):Prop:=PSs X st (sM X.K f)
theorem PE.imp {X:Cx} {e:Expr} {t t':TE} (h:PE X e t) (i:∀ σ H Q,t' σ H Q->t σ H Q):PE X e t':=fun pins s σ H Q I q=>h pins s σ H Q I (i σ H Q q)
theorem PT.imp {X:Cx} {e:Expr} {t t':TT} (h:PT X e t) (i:∀ σ H Q,t' σ H Q->t σ H Q):PT X e t':=fun pins s σ H Q I q=>h pins s σ H Q I (i σ H Q q)
theorem PW.imp {X:Cx} {e:Expr} {t t':TT} (h:PW X e t) (i:∀ σ H Q,t' σ H Q->t σ H Q):PW X e t':=fun wh pins s σ H Q I q=>h wh pins s σ H Q I (i σ H Q q)
theorem PA.imp {X:Cx} {e:List Expr} {t t':TA} (h:PA X e t) (i:∀ σ H Q,t' σ H Q->t σ H Q):PA X e t':=fun pos pins s σ H Q I q=>h pos pins s σ H Q I (i σ H Q q)
theorem PS.imp {X:Cx} {e:Stmt} {t t':TS} (h:PS X e t) (i:∀ D σ H,t' D σ H->t D σ H):PS X e t':=fun pins s σ H D I q=>h pins s σ H D I (i D σ H q)
theorem PSs.imp {X:Cx} {e:List Stmt} {t t':TS} (h:PSs X e t) (i:∀ D σ H,t' D σ H->t D σ H):PSs X e t':=fun pins s σ H D I q=>h pins s σ H D I (i D σ H q)
theorem OpR.imp {X:Cx} {f:Value->Value->Sem Value} {t t':R2} (h:OpR X f t) (i:∀ x y H Q,t' x y H Q->t x y H Q):OpR X f t':=fun pins s σ H x y v u Q I r1 r2 q=>h pins s σ H x y v u Q I r1 r2 (i x y H Q q)
noncomputable def eC (d:Dt):RE:=fun _ h=>some (d,h)
noncomputable def eV (i:Nat):RE:=fun l h=>match l[i]? with | some (some d)=>some (d,h) | _=>none
noncomputable def e2 (op:Op2) (fa fb:RE):RE:=fun l h=>(fa l h).bind fun r=>(fb l r.2).bind fun q=>op r.1 q.1 q.2
noncomputable def aNil:RA:=fun _ h=>some ([],h)
noncomputable def zaac (f:RE) (g:RA):RA:=fun l h=>(f l h).bind fun r=>(g l r.2).bind fun q=>some (r.1::q.1,q.2)
section
variable {X:Cx} {a b c:Expr} {fa fb fc:RE} {pos:Pos}
theorem zaad {i j pos}:EM X (.Constant (.int i) j pos) (eC (.int i)):=by
 with_unfolding_all
  exact PE.imp zauP fun σ H Q ⟨ρ,l,h,d,h',S,L,e,k⟩=>by
   cases e
   exact k ρ _ H (rel_int.mpr rfl) S (Ext.refl _ _)
theorem zamp {i j pos}:EM X (.Constant (.bool i) j pos) (eC (.bl i)):=by
 with_unfolding_all
  exact PE.imp zavQ fun σ H Q ⟨ρ,l,h,d,h',S,L,e,k⟩=>by
   cases e
   exact k ρ _ H (rel_bl.mpr rfl) S (Ext.refl _ _)
theorem zabu {i j pos}:EM X (.Constant (.str i) j pos) (eC (.str i)):=by
 with_unfolding_all
  exact PE.imp zavw fun σ H Q ⟨ρ,l,h,d,h',S,L,e,k⟩=>by
   cases e
   exact k ρ _ H (rel_str.mpr rfl) S (Ext.refl _ _)
theorem zad0 {j pos}:EM X (.Constant .none j pos) (eC .non):=by
 with_unfolding_all
  exact PE.imp zavA fun σ H Q ⟨ρ,l,h,d,h',S,L,e,k⟩=>by
   cases e
   exact k ρ _ H (rel_non.mpr rfl) S (Ext.refl _ _)
theorem zaaa (i:Nat) {x:Str} {pos:Pos} (hN:X.N[i]?=some x:=by rfl) (hv:Vis X.env.scope x:=by first | exact Or.inl rfl | exact Or.inr (Or.inl rfl) | exact Or.inr (Or.inr rfl)) (hd:(x == ("__debug__" : Str))=false:=by decide)
 (hcd:(x == ("__classdict__" : Str))=false:=by decide):EM X (.Name x pos) (eV i):=by
 with_unfolding_all
  exact PE.imp (zavh hN hv hd hcd) fun σ H Q ⟨ρ,l,h,d,h',S,L,e,k⟩=>by
   unfold eV at e
   split at e
   · rename_i d' q
     cases e
     obtain ⟨v,e1,r⟩:=L.val i _ q
     exact ⟨v,e1,k ρ v H r S (Ext.refl _ _)⟩
   · cases e
theorem zauc {x:Str} {v:V} {u:Value} {d:Dt} {pos:Pos} (hg:Gl X x) (hm:X.mg x=some u) (r:RelV v u) (rd:∀ H ρ,RelD X.K H ρ d v) (hd:(x == ("__debug__" : Str))=false:=by decide):EM X (.Name x pos) (eC d):=by
 with_unfolding_all
  exact PE.imp (zasP hg hm r hd) fun σ H Q ⟨ρ,l,h,d',h',S,L,e,k⟩=>by
   cases e
   exact k ρ v H (rd H ρ) S (Ext.refl _ _)
theorem zaal {α β:Type} {o:Option α} {f:α->Option β} {b:β} (h:o.bind f=some b):∃ a,o=some a/\f a=some b:=by
 cases o with
 | none=>cases h
 | some a=>exact ⟨a,rfl,h⟩
theorem zaap {op:Operator} {o:Op2} (ho:OM X (binaryOp op) o) (ha:EM X a fa) (hb:EM X b fb):EM X (.BinOp a op b pos) (e2 o fa fb):=by
 with_unfolding_all
  exact PE.imp (zaph ho ha hb) fun σ H Q ⟨ρ,l,h,d,h',S,L,e,k⟩=>by
   obtain ⟨⟨d1,h1⟩,e1,e⟩:=zaal e
   obtain ⟨⟨d2,h2⟩,e2,e⟩:=zaal e
   exact ⟨ρ,l,h,d1,h1,S,L,e1,fun ρ1 x H1 R1 S1 E1=>⟨ρ1,l,h1,d2,h2,S1,L.ext E1,e2,fun ρ2 y H2 R2 S2 E2=>
    ⟨ρ2,h2,d1,d2,d,h',S2,RelD.ext E2 _ R1,R2,e,k.ext (E1.trans E2)⟩⟩⟩
theorem zae9 {op:CmpOp} {o:Op2} (ho:OM X (compareOp op) o) (ha:EM X a fa) (hb:EM X b fb) (hm:behindInMarks op b=false:=by first | exact zaqm _ | with_unfolding_all rfl):EM X (.Compare a [op] [b] pos) (e2 o fa fb):=by
 with_unfolding_all
  exact PE.imp (zatl ho ha hb hm) fun σ H Q ⟨ρ,l,h,d,h',S,L,e,k⟩=>by
   obtain ⟨⟨d1,h1⟩,e1,e⟩:=zaal e
   obtain ⟨⟨d2,h2⟩,e2,e⟩:=zaal e
   exact ⟨ρ,l,h,d1,h1,S,L,e1,fun ρ1 x H1 R1 S1 E1=>⟨ρ1,l,h1,d2,h2,S1,L.ext E1,e2,fun ρ2 y H2 R2 S2 E2=>
    ⟨ρ2,h2,d1,d2,d,h',S2,RelD.ext E2 _ R1,R2,e,k.ext (E1.trans E2)⟩⟩⟩
noncomputable def tB' (f:RE):RT:=fun l h=>(f l h).bind fun r=>match r.1 with | .bl b=>some (b,r.2) | _=>none
theorem zaaY {op:CmpOp} {o:Op2} (ho:OM X (compareOp op) o) (ha:EM X a fa) (hb:EM X b fb) (hm:behindInMarks op b=false:=by first | exact zaqm _ | with_unfolding_all rfl):TM X (.Compare a [op] [b] pos) (tB' (e2 o fa fb)):=by
 with_unfolding_all
  exact PT.imp (zatp ho ha hb hm) fun σ H Q ⟨ρ,l,h,bb,h',S,L,e,k⟩=>by
   obtain ⟨⟨d,h3⟩,e0,e⟩:=zaal e
   obtain ⟨⟨d1,h1⟩,e1,e0⟩:=zaal e0
   obtain ⟨⟨d2,h2⟩,e2,e0⟩:=zaal e0
   refine ⟨ρ,l,h,d1,h1,S,L,e1,fun ρ1 x H1 R1 S1 E1=>⟨ρ1,l,h1,d2,h2,S1,L.ext E1,e2,fun ρ2 y H2 R2 S2 E2=>
    ⟨ρ2,h2,d1,d2,d,h3,S2,RelD.ext E2 _ R1,R2,e0,fun ρ3 v H3 R3 S3 E3=>?_⟩⟩⟩
   cases d with
   | bl q=>
    cases e
    exact ⟨bb,rel_bl.mp R3,k ρ3 H3 S3 (E1.trans (E2.trans E3))⟩
   | _=>cases e
theorem zagU {e:Expr} {f:RE} (h:EM X e f) (he:∀ whole,isTrue e X.env whole=(do let v <- whole; standAt e.pos; holding [v] (truthy v)):=by intro _; rfl):TM X e (tB' f):=by
 with_unfolding_all
  exact PT.imp (zavt h he) fun σ H Q ⟨ρ,l,h,bb,h',S,L,e,k⟩=>by
   obtain ⟨⟨d,h3⟩,e0,e⟩:=zaal e
   refine ⟨ρ,l,h,d,h3,S,L,e0,fun ρ3 v H3 R3 S3 E3=>?_⟩
   cases d with
   | bl q=>
    cases e
    exact ⟨bb,rel_bl.mp R3,k ρ3 H3 S3 E3⟩
   | _=>cases e
noncomputable def zai2 (o o':Op2) (fa fb fc:RE):RE:=fun l h=>(fa l h).bind fun r=>(fb l r.2).bind fun q=>(o r.1 q.1 q.2).bind fun z=>match z.1 with
 | .bl true=>(fc l z.2).bind fun y=>o' q.1 y.1 y.2
 | .bl false=>some (.bl false,z.2)
 | _=>none
theorem zao8 {r r':Op2} {σ:L2.St} {H:Hp} {Q:VK} (h:tM X.K (zai2 r r' fa fb fc) σ H Q):zaqg (rM X.K r) (rM X.K r') (tM X.K fa) (tM X.K fb) (tM X.K fc) σ H Q:=by
 obtain ⟨ρ,l,h,d,h',S,L,e,k⟩:=h
 obtain ⟨⟨d1,h1⟩,e1,e⟩:=zaal e
 obtain ⟨⟨d2,h2⟩,e2,e⟩:=zaal e
 obtain ⟨⟨d3,h3⟩,e3,e⟩:=zaal e
 refine ⟨ρ,l,h,d1,h1,S,L,e1,fun ρ1 x H1 R1 S1 E1=>⟨ρ1,l,h1,d2,h2,S1,L.ext E1,e2,fun ρ2 y H2 R2 S2 E2=>
  ⟨ρ2,h2,d1,d2,d3,h3,S2,RelD.ext E2 _ R1,R2,e3,fun ρ3 v H3 R3 S3 E3=>?_⟩⟩⟩
 cases d3 with
 | bl q=>
  refine ⟨q,rel_bl.mp R3,?_⟩
  cases q with
  | true=>
   dsimp only at e
   obtain ⟨⟨d4,h4⟩,e4,e⟩:=zaal e
   refine iteT ⟨ρ3,l,h3,d4,h4,S3,(L.ext (E1.trans (E2.trans E3))),e4,fun ρ4 u H4 R4 S4 E4=>⟨ρ4,h4,d2,d4,d,h',S4,RelD.ext (E3.trans E4) _ R2,R4,e,k.ext (E1.trans (E2.trans (E3.trans E4)))⟩⟩
  | false=>
   cases e
   exact iteF (k ρ3 _ H3 (rel_bl.mpr rfl) S3 (E1.trans (E2.trans E3)))
 | _=>cases e
theorem zarN {op op':CmpOp} {r r':Op2} (ho:OM X (compareOp op) r) (ho':OM X (compareOp op') r') (ha:EM X a fa) (hb:EM X b fb) (hc:EM X c fc)
 (hm:lastMarks [op,op'] [b,c]=false:=by with_unfolding_all rfl):EM X (.Compare a [op,op'] [b,c] pos) (zai2 r r' fa fb fc):=by
 with_unfolding_all
  exact PE.imp (zash ho ho' ha hb hc hm) fun _ _ _ h=>zao8 h
noncomputable def zajf (t u:RT):RT:=fun l h=>(t l h).bind fun r=>if r.1=true then u l r.2 else some (false,r.2)
noncomputable def tOr' (t u:RT):RT:=fun l h=>(t l h).bind fun r=>if r.1=true then some (true,r.2) else u l r.2
noncomputable def zahl (t:RT):RT:=fun l h=>(t l h).bind fun r=>some (!r.1,r.2)
variable {tA tB2:RT} {rest:List Expr}
theorem WM.tm {e:Expr} {f:RT} (h:WM X e f):TM X e f:=by
 with_unfolding_all
  exact PW.pt h
theorem zaoj (ha:TM X a tA):WM X (.BoolOp .And [a] pos) tA:=by
 with_unfolding_all
  exact zat0 ha
theorem zauo (ha:TM X a tA):WM X (.BoolOp .Or [a] pos) tA:=by
 with_unfolding_all
  exact zaum ha
theorem zaqf (ha:TM X a tA) (hb:WM X (.BoolOp .And (b::rest) pos) tB2):WM X (.BoolOp .And (a::b::rest) pos) (zajf tA tB2):=by
 with_unfolding_all
  exact PW.imp (zau5 ha hb) fun σ H Q ⟨ρ,l,h,bb,h',S,L,e,k⟩=>by
   obtain ⟨⟨b1,h1⟩,e1,e⟩:=zaal e
   refine ⟨ρ,l,h,b1,h1,S,L,e1,fun ρ1 H1 S1 E1=>?_⟩
   cases b1 with
   | true=>
    rw [if_pos rfl] at e
    exact iteT ⟨ρ1,l,h1,bb,h',S1,L.ext E1,e,k.ext E1⟩
   | false=>
    rw [if_neg Bool.false_ne_true] at e
    cases e
    exact iteF (k ρ1 H1 S1 E1)
theorem zasD (ha:TM X a tA) (hb:WM X (.BoolOp .Or (b::rest) pos) tB2):WM X (.BoolOp .Or (a::b::rest) pos) (tOr' tA tB2):=by
 with_unfolding_all
  exact PW.imp (zawB ha hb) fun σ H Q ⟨ρ,l,h,bb,h',S,L,e,k⟩=>by
   obtain ⟨⟨b1,h1⟩,e1,e⟩:=zaal e
   refine ⟨ρ,l,h,b1,h1,S,L,e1,fun ρ1 H1 S1 E1=>?_⟩
   cases b1 with
   | true=>
    rw [if_pos rfl] at e
    cases e
    exact iteT (k ρ1 H1 S1 E1)
   | false=>
    rw [if_neg Bool.false_ne_true] at e
    exact iteF ⟨ρ1,l,h1,bb,h',S1,L.ext E1,e,k.ext E1⟩
theorem zajc (ha:TM X a tA):TM X (.UnaryOp .Not a pos) (zahl tA):=by
 with_unfolding_all
  exact PT.imp (zauy ha) fun σ H Q ⟨ρ,l,h,bb,h',S,L,e,k⟩=>by
   obtain ⟨⟨b1,h1⟩,e1,e⟩:=zaal e
   cases e
   exact ⟨ρ,l,h,b1,h1,S,L,e1,fun ρ1 H1 S1 E1=>k ρ1 H1 S1 E1⟩
noncomputable def vAnd (t u:RE):RE:=fun l h=>(t l h).bind fun r=>match r.1 with | .bl true=>u l r.2 | .bl false=>some (.bl false,r.2) | _=>none
noncomputable def vNot (t:RE):RE:=fun l h=>(t l h).bind fun r=>match r.1 with | .bl b=>some (.bl (!b),r.2) | _=>none
theorem zaiO {op} (h:EM X a fa):EM X (.BoolOp op [a] pos) fa:=by
 with_unfolding_all
  exact zavd h
theorem zag7 (ha:EM X a fa) (hb:EM X (.BoolOp .And (b::rest) pos) fb):EM X (.BoolOp .And (a::b::rest) pos) (vAnd fa fb):=by
 with_unfolding_all
  exact PE.imp (zaup ha hb) fun σ H Q ⟨ρ,l,h,d,h',S,L,e,k⟩=>by
   obtain ⟨⟨d1,h1⟩,e1,e⟩:=zaal e
   refine ⟨ρ,l,h,d1,h1,S,L,e1,fun ρ1 v H1 R1 S1 E1=>?_⟩
   cases d1 with
   | bl q=>
    refine ⟨q,rel_bl.mp R1,?_⟩
    cases q with
    | true=>exact iteT ⟨ρ1,l,h1,d,h',S1,L.ext E1,e,k.ext E1⟩
    | false=>
     cases e
     exact iteF (k ρ1 _ H1 (rel_bl.mpr rfl) S1 E1)
   | _=>cases e
theorem zauE (ha:EM X a fa):EM X (.UnaryOp .Not a pos) (vNot fa):=by
 with_unfolding_all
  exact PE.imp (zauX ha) fun σ H Q ⟨ρ,l,h,d,h',S,L,e,k⟩=>by
   obtain ⟨⟨d1,h1⟩,e1,e⟩:=zaal e
   refine ⟨ρ,l,h,d1,h1,S,L,e1,fun ρ1 v H1 R1 S1 E1=>?_⟩
   cases d1 with
   | bl q=>
    cases e
    exact ⟨q,rel_bl.mp R1,k ρ1 _ H1 (rel_bl.mpr rfl) S1 E1⟩
   | _=>cases e
noncomputable def vIf (t:RT) (f g:RE):RE:=fun l h=>(t l h).bind fun r=>if r.1=true then f l r.2 else g l r.2
theorem zaoO {c:Expr} (hc:TM X c tA) (ha:EM X a fa) (hb:EM X b fb):EM X (.IfExp c a b pos) (vIf tA fa fb):=by
 with_unfolding_all
  exact PE.imp (zasf hc ha hb) fun σ H Q ⟨ρ,l,h,d,h',S,L,e,k⟩=>by
   obtain ⟨⟨b1,h1⟩,e1,e⟩:=zaal e
   refine ⟨ρ,l,h,b1,h1,S,L,e1,fun ρ1 H1 S1 E1=>?_⟩
   cases b1 with
   | true=>
    rw [if_pos rfl] at e
    exact iteT ⟨ρ1,l,h1,d,h',S1,L.ext E1,e,k.ext E1⟩
   | false=>
    rw [if_neg Bool.false_ne_true] at e
    exact iteF ⟨ρ1,l,h1,d,h',S1,L.ext E1,e,k.ext E1⟩
theorem zaah:AM X [] aNil:=by
 with_unfolding_all
  exact PA.imp zac4 fun σ H Q ⟨ρ,l,h,ds,h',S,L,e,k⟩=>by
   cases e
   exact k ρ [] H .nil S (Ext.refl _ _)
theorem zaab {e:Expr} {es:List Expr} {f:RE} {g:RA} (ha:EM X e f) (hr:AM X es g) (hs:zaaP e=true:=by rfl):AM X (e::es) (zaac f g):=by
 with_unfolding_all
  exact PA.imp (zabz ha hr (zaaG hs es X.env)) fun σ H Q ⟨ρ,l,h,ds,h',S,L,e,k⟩=>by
   obtain ⟨⟨d1,h1⟩,e1,e⟩:=zaal e
   obtain ⟨⟨ds2,h2⟩,e2,e⟩:=zaal e
   cases e
   exact ⟨ρ,l,h,d1,h1,S,L,e1,fun ρ1 x H1 R1 S1 E1=>⟨ρ1,l,h1,ds2,h2,S1,L.ext E1,e2,fun ρ2 xs H2 R2 S2 E2=>k ρ2 _ H2 (.cons (RelD.ext E2 _ R1) R2) S2 (E1.trans E2)⟩⟩
noncomputable def eTup (g:RA):RE:=fun l h=>(g l h).bind fun r=>if r.1.length<=sizeLine then some (.tup r.1,r.2) else none
noncomputable def eLst (g:RA):RE:=fun l h=>(g l h).bind fun r=>if r.1.length<=sizeLine then some (.lst r.1,r.2) else none
noncomputable def eNew (g:RA):RE:=fun l h=>(g l h).bind fun r=>if r.1.length<=sizeLine then some (.ref r.2.length,r.2++[.lst r.1]) else none
theorem zaiT {K:PySem.W.Frag} {H:Hp} {ρ:Rg} {h:HI} {ds:List Dt} {vs:List V} {p:Addr} (S:SimH K ρ h H) (R:RelDs K H ρ ds vs) (hp:H p=none):RelD K (upd H p (.tup vs)) ρ (.tup ds) (.ref p):=
 rel_tup.mpr ⟨p,vs,rfl,.inl ⟨S.out hp,.inl zaa6⟩,R.ext (Ext.fresh hp)⟩
theorem zakA {K:PySem.W.Frag} {H:Hp} {ρ:Rg} {h:HI} {ds:List Dt} {vs:List V} {p:Addr} (S:SimH K ρ h H) (R:RelDs K H ρ ds vs) (hp:H p=none):RelD K (upd H p (.lst vs)) ρ (.lst ds) (.ref p):=
 rel_lst.mpr ⟨p,vs,rfl,.inl ⟨S.out hp,.inl zaa6⟩,R.ext (Ext.fresh hp)⟩
theorem zafZ {K:PySem.W.Frag} {H:Hp} {ρ:Rg} {h:HI} {ds:List Dt} {vs:List V} {p:Addr} (S:SimH K ρ h H) (R:RelDs K H ρ ds vs) (hp:H p=none) :
 RelD K (upd H p (.lst vs)) (ρ.add p) (.ref h.length) (.ref p)/\SimH K (ρ.add p) (h++[.lst ds]) (upd H p (.lst vs)):=by
 refine ⟨rel_ref.mpr ⟨p,rfl,?_⟩,S.own hp ⟨vs,zaa6,R.ext (Ext.own hp)⟩⟩
 simp only [Rg.add]
 rw [<- S.len,List.getElem?_append_right (Nat.le_refl _),Nat.sub_self]
 rfl
theorem ifE {α:Type} {c:Prop} [Decidable c] {a b:α} (h:(if c then some a else none)=some b):c/\a=b:=by
 by_cases hc:c
 · rw [if_pos hc] at h
   exact ⟨hc,Option.some.inj h⟩
 · rw [if_neg hc] at h
   cases h
theorem zaa3 {es:List Expr} {g:RA} {x1} (h:AM X es g):EM X (.Tuple es x1 pos) (eTup g):=by
 with_unfolding_all
  exact PE.imp (zaqn h) fun σ H Q ⟨ρ,l,h,d,h',S,L,e,k⟩=>by
   obtain ⟨⟨ds,h1⟩,e1,e⟩:=zaal e
   obtain ⟨hz,e⟩:=ifE e
   cases e
   exact ⟨ρ,l,h,ds,h1,S,L,e1,fun ρ1 vs H1 R1 S1 E1=>⟨by rw [R1.length]; exact hz,fun p hp=>k ρ1 _ _ (zaiT S1 R1 hp) (S1.fresh hp) (E1.trans (Ext.fresh hp))⟩⟩
theorem zahB {es:List Expr} {g:RA} (h:AM X es g):EM X (.List es pos) (eLst g):=by
 with_unfolding_all
  exact PE.imp (zakf h) fun σ H Q ⟨ρ,l,h,d,h',S,L,e,k⟩=>by
   obtain ⟨⟨ds,h1⟩,e1,e⟩:=zaal e
   obtain ⟨hz,e⟩:=ifE e
   cases e
   exact ⟨ρ,l,h,ds,h1,S,L,e1,fun ρ1 vs H1 R1 S1 E1=>⟨by rw [R1.length]; exact hz,fun p hp=>k ρ1 _ _ (zakA S1 R1 hp) (S1.fresh hp) (E1.trans (Ext.fresh hp))⟩⟩
theorem zaeG {es:List Expr} {g:RA} (h:AM X es g):EM X (.List es pos) (eNew g):=by
 with_unfolding_all
  exact PE.imp (zakf h) fun σ H Q ⟨ρ,l,h,d,h',S,L,e,k⟩=>by
   obtain ⟨⟨ds,h1⟩,e1,e⟩:=zaal e
   obtain ⟨hz,e⟩:=ifE e
   cases e
   exact ⟨ρ,l,h,ds,h1,S,L,e1,fun ρ1 vs H1 R1 S1 E1=>⟨by rw [R1.length]; exact hz,fun p hp=>k _ _ _ (zafZ S1 R1 hp).1 (zafZ S1 R1 hp).2 (E1.trans (Ext.own hp))⟩⟩
end
end SM
namespace SM
open PySem PySem.Spec PyProof.Rows L2
noncomputable def oI (C:Int->Int->Prop) [∀ i j,Decidable (C i j)] (g:Int->Int->Dt):Op2:=fun a b h=>match a,b with
 | .int i,.int j=>if C i j then some (g i j,h) else none
 | _,_=>none
noncomputable def oI0 (g:Int->Int->Dt):Op2:=fun a b h=>match a,b with
 | .int i,.int j=>some (g i j,h)
 | _,_=>none
instance:∀ i j,Decidable (CDiv i j):=fun i j=>by unfold CDiv; infer_instance
instance:∀ i j,Decidable (CMul i j):=fun i j=>by unfold CMul; infer_instance
instance:∀ i j,Decidable (CPow i j):=fun i j=>by unfold CPow; infer_instance
noncomputable def flat:Dt->Option V
 | .non=>some .non
 | .bl b=>some (.bl b)
 | .int i=>some (.int i)
 | .str x=>some (.str x)
 | _=>none
theorem zamU {K:PySem.W.Frag} {H:Hp} {ρ:Rg} {d:Dt} {v:V} (e:flat d=some v):RelD K H ρ d v:=by
 cases d <;> simp only [flat] at e <;> first | (cases e; simp only [RelD]) | cases e
theorem zafz {K:PySem.W.Frag} {H:Hp} {ρ:Rg} {d:Dt} {v u:V} (e:flat d=some v) (r:RelD K H ρ d u):u=v:=by
 cases d <;> simp only [flat] at e <;> first | (cases e; simpa only [RelD] using r) | cases e
section
variable {X:Cx}
theorem om_I {f:Value->Value->Sem Value} {C:Int->Int->Prop} [∀ i j,Decidable (C i j)] {g:Int->Int->Dt} {g':Int->Int->V} (ho:OpR X f (rI C g')) (hg:∀ i j,flat (g i j)=some (g' i j)):OM X f (oI C g):=by
 with_unfolding_all
  exact OpR.imp ho fun x y H Q ⟨ρ,h,d1,d2,d,h',S,R1,R2,e,k⟩=>by
   unfold oI at e
   split at e
   · rename_i i j
     obtain ⟨hc,e⟩:=ifE e
     cases e
     exact ⟨i,j,rel_int.mp R1,rel_int.mp R2,hc,k ρ _ H (zamU (hg i j)) S (Ext.refl _ _)⟩
   · cases e
theorem zahb {f:Value->Value->Sem Value} {g:Int->Int->Dt} {g':Int->Int->V} (ho:OpR X f (rI0 g')) (hg:∀ i j,flat (g i j)=some (g' i j)):OM X f (oI0 g):=by
 with_unfolding_all
  exact OpR.imp ho fun x y H Q ⟨ρ,h,d1,d2,d,h',S,R1,R2,e,k⟩=>by
   unfold oI0 at e
   split at e
   · rename_i i j
     cases e
     exact ⟨i,j,rel_int.mp R1,rel_int.mp R2,k ρ _ H (zamU (hg i j)) S (Ext.refl _ _)⟩
   · cases e
noncomputable def oAdd:Op2:=oI0 fun i j=>.int (i + j)
noncomputable def oSub:Op2:=oI0 fun i j=>.int (i - j)
noncomputable def oMul:Op2:=oI CMul fun i j=>.int (i * j)
noncomputable def oDiv:Op2:=oI CDiv fun i j=>.int (i / j)
noncomputable def oMod:Op2:=oI (fun _ j=>0 < j) fun i j=>.int (i % j)
noncomputable def oShl:Op2:=oI CPow fun i j=>.int (i * 2 ^ j.toNat)
noncomputable def oShr:Op2:=oI (fun _ j=>0<=j) fun i j=>.int (i / 2 ^ j.toNat)
noncomputable def zajj:Op2:=oI0 fun i j=>.int (Builtin.bitAnd i j)
noncomputable def oBor:Op2:=oI0 fun i j=>.int (Builtin.bitOr i j)
noncomputable def oLt:Op2:=oI0 fun i j=>.bl (decide (i < j))
noncomputable def oLe:Op2:=oI0 fun i j=>.bl (decide (i<=j))
noncomputable def oGt:Op2:=oI0 fun i j=>.bl (decide (j < i))
noncomputable def oGe:Op2:=oI0 fun i j=>.bl (decide (j<=i))
theorem zabX:OM X (binaryOp .Add) oAdd:=by
 with_unfolding_all
  exact zahb zavr fun _ _=>rfl
theorem zaeo:OM X (binaryOp .Sub) oSub:=by
 with_unfolding_all
  exact zahb zauA fun _ _=>rfl
theorem zac0:OM X (binaryOp .Mult) oMul:=by
 with_unfolding_all
  exact om_I zaul fun _ _=>rfl
theorem zaft:OM X (binaryOp .FloorDiv) oDiv:=by
 with_unfolding_all
  exact om_I zas7 fun _ _=>rfl
theorem zabG:OM X (binaryOp .Mod) oMod:=by
 with_unfolding_all
  exact om_I zavC fun _ _=>rfl
theorem zahE:OM X (binaryOp .LShift) oShl:=by
 with_unfolding_all
  exact om_I zavo fun _ _=>rfl
theorem zavm:OM X (binaryOp .RShift) oShr:=by
 with_unfolding_all
  exact om_I zau4 fun _ _=>rfl
theorem zajs:OM X (binaryOp .BitAnd) zajj:=by
 with_unfolding_all
  exact zahb zau2 fun _ _=>rfl
theorem zakj:OM X (binaryOp .BitOr) oBor:=by
 with_unfolding_all
  exact zahb zavS fun _ _=>rfl
theorem zasz:OM X (compareOp .Lt) oLt:=by
 with_unfolding_all
  exact zahb zawc fun _ _=>rfl
theorem zao2:OM X (compareOp .LtE) oLe:=by
 with_unfolding_all
  exact zahb zav6 fun _ _=>rfl
theorem zakK:OM X (compareOp .Gt) oGt:=by
 with_unfolding_all
  exact zahb zavN fun _ _=>rfl
theorem zasq:OM X (compareOp .GtE) oGe:=by
 with_unfolding_all
  exact zahb zavT fun _ _=>rfl
noncomputable def oEq:Op2:=fun a b h=>match flat a,flat b with
 | some x,some y=>if scal x y=true then some (.bl (decide (x=y)),h) else none
 | _,_=>none
noncomputable def oNe:Op2:=fun a b h=>match flat a,flat b with
 | some x,some y=>if scal x y=true then some (.bl (!decide (x=y)),h) else none
 | _,_=>none
theorem zawk:OM X (compareOp .Eq) oEq:=by
 with_unfolding_all
  exact OpR.imp zawf fun x y H Q ⟨ρ,h,d1,d2,d,h',S,R1,R2,e,k⟩=>by
   unfold oEq at e
   split at e
   · rename_i u v e1 e2
     obtain ⟨hc,e⟩:=ifE e
     cases e
     rw [zafz e1 R1,zafz e2 R2]
     exact ⟨hc,k ρ _ H (rel_bl.mpr rfl) S (Ext.refl _ _)⟩
   · cases e
theorem zawp:OM X (compareOp .NotEq) oNe:=by
 with_unfolding_all
  exact OpR.imp zawu fun x y H Q ⟨ρ,h,d1,d2,d,h',S,R1,R2,e,k⟩=>by
   unfold oNe at e
   split at e
   · rename_i u v e1 e2
     obtain ⟨hc,e⟩:=ifE e
     cases e
     rw [zafz e1 R1,zafz e2 R2]
     exact ⟨hc,k ρ _ H (rel_bl.mpr rfl) S (Ext.refl _ _)⟩
   · cases e
noncomputable def zafX:Dt->Bool
 | .non=>true
 | _=>false
noncomputable def oIsN:Op2:=fun a b h=>match b with
 | .non=>some (.bl (zafX a),h)
 | _=>none
theorem zaqF {K:PySem.W.Frag} {H:Hp} {ρ:Rg} {d:Dt} {v:V} (r:RelD K H ρ d v):decide (v=.non)=zafX d:=by
 cases d with
 | non=>have e:=rel_non.mp r; subst e; rfl
 | bl b=>have e:=rel_bl.mp r; subst e; rfl
 | int i=>have e:=rel_int.mp r; subst e; rfl
 | str x=>have e:=rel_str.mp r; subst e; rfl
 | tup xs=>obtain ⟨a,vs,e,_⟩:=rel_tup.mp r; subst e; rfl
 | lst xs=>obtain ⟨a,vs,e,_⟩:=rel_lst.mp r; subst e; rfl
 | ref n=>obtain ⟨a,e,_⟩:=rel_ref.mp r; subst e; rfl
 | ntp n=>obtain ⟨a,e,_⟩:=rel_ntp.mp r; subst e; rfl
theorem zaiA:OM X (compareOp .Is) oIsN:=by
 with_unfolding_all
  exact OpR.imp zavg fun x y H Q ⟨ρ,h,d1,d2,d,h',S,R1,R2,e,k⟩=>by
   unfold oIsN at e
   split at e
   · cases e
     exact ⟨rel_non.mp R2,k ρ _ H (rel_bl.mpr (by rw [zaqF R1])) S (Ext.refl _ _)⟩
   · cases e
noncomputable def uNeg (f:RE):RE:=fun l h=>(f l h).bind fun r=>match r.1 with | .int i=>some (.int (-i),r.2) | _=>none
theorem zahD {a:Expr} {fa:RE} {pos:Pos} (ha:EM X a fa):EM X (.UnaryOp .USub a pos) (uNeg fa):=by
 with_unfolding_all
  exact PE.imp (zasr zauK ha) fun σ H Q ⟨ρ,l,h,d,h',S,L,e,k⟩=>by
   obtain ⟨⟨d1,h1⟩,e1,e⟩:=zaal e
   refine ⟨ρ,l,h,d1,h1,S,L,e1,fun ρ1 x H1 R1 S1 E1=>?_⟩
   cases d1 with
   | int i=>
    cases e
    exact ⟨i,rel_int.mp R1,k ρ1 _ H1 (rel_int.mpr rfl) S1 E1⟩
   | _=>cases e
end
noncomputable def seqL (h:HI):Dt->Option (List Dt)
 | .lst xs=>some xs
 | .ref n=>match h[n]? with | some (.lst xs)=>some xs | _=>none
 | _=>none
noncomputable def seqA (h:HI):Dt->Option (List Dt)
 | .tup xs=>some xs
 | d=>seqL h d
theorem zadd {K:PySem.W.Frag} {H:Hp} {ρ:Rg} {h:HI} {d:Dt} {v:V} {xs:List Dt} (S:SimH K ρ h H) (R:RelD K H ρ d v) (e:seqL h d=some xs):∃ a vs,v=.ref a/\SqL K H a vs/\RelDs K H ρ xs vs:=by
 cases d with
 | lst ys=>
  cases e
  obtain ⟨a,vs,e,q,r⟩:=rel_lst.mp R
  exact ⟨a,vs,e,q.sq,r⟩
 | ref n=>
  simp only [seqL] at e
  split at e
  · rename_i ys q
    cases e
    obtain ⟨a,rfl,ha⟩:=rel_ref.mp R
    obtain ⟨vs,h1,h2⟩:=S.lst ha q
    exact ⟨a,vs,rfl,SqL.of h1,h2⟩
  · cases e
 | _=>simp only [seqL] at e <;> cases e
theorem zaje {K:PySem.W.Frag} {H:Hp} {ρ:Rg} {h:HI} {d:Dt} {v:V} {xs:List Dt} (S:SimH K ρ h H) (R:RelD K H ρ d v) (e:seqA h d=some xs):∃ a vs,v=.ref a/\(SqL K H a vs\/SqT K H a vs)/\RelDs K H ρ xs vs:=by
 cases d with
 | tup ys=>
  cases e
  obtain ⟨a,vs,e,q,r⟩:=rel_tup.mp R
  exact ⟨a,vs,e,.inr q.sq,r⟩
 | lst ys=>obtain ⟨a,vs,e,q,r⟩:=zadd S R (show seqL h (.lst ys)=some xs from e); exact ⟨a,vs,e,.inl q,r⟩
 | ref n=>obtain ⟨a,vs,e,q,r⟩:=zadd S R (show seqL h (.ref n)=some xs from e); exact ⟨a,vs,e,.inl q,r⟩
 | _=>cases e
theorem RelDs.atI {K:PySem.W.Frag} {H:Hp} {ρ:Rg} {ds:List Dt} {vs:List V} {i:Int} {d:Dt} (r:RelDs K H ρ ds vs) (e:L2.atI ds i=some d):∃ v,L2.atI vs i=some v/\RelD K H ρ d v:=by
 unfold L2.atI at e ⊢
 rw [r.length]
 cases q:ixN ds.length i with
 | none=>rw [q] at e; cases e
 | some j=>
  rw [q] at e
  exact r.get e
noncomputable def oIx:Op2:=fun a b h=>match b with
 | .int i=>match a with
  | .str z=>if z.length<=sizeLine then (L2.atI z.cps.toList i).map fun c=>(.str ⟨#[c]⟩,h) else none
  | _=>(seqA h a).bind fun xs=>(L2.atI xs i).map fun d=>(d,h)
 | _=>none
section
variable {X:Cx} {a b c:Expr} {fa fb fc:RE} {pos:Pos}
theorem zatH {x y:V} {H:Hp} {Q:VK} (h:rM X.K oIx x y H Q):rIx X.K x y H Q:=by
 obtain ⟨ρ,h,d1,d2,d,h',S,R1,R2,e,k⟩:=h
 unfold oIx at e
 split at e
 · rename_i i
   have ei:=rel_int.mp R2
   split at e
   · rename_i z
     split at e
     · rename_i hz
       cases q:L2.atI z.cps.toList i with
       | none=>rw [q] at e; cases e
       | some c=>
        rw [q] at e
        cases e
        exact .inr (.inr ⟨z,i,c,rel_str.mp R1,ei,hz,q,k ρ _ H (rel_str.mpr rfl) S (Ext.refl _ _)⟩)
     · cases e
   · obtain ⟨xs,e1,e⟩:=zaal e
     cases q:L2.atI xs i with
     | none=>rw [q] at e; cases e
     | some u=>
      rw [q] at e
      cases e
      obtain ⟨p,vs,e2,sq,r⟩:=zaje S R1 e1
      obtain ⟨v,q1,q2⟩:=r.atI q
      rcases sq with sq | sq
      · exact .inl ⟨p,vs,i,v,e2,ei,sq,q1,k ρ _ H q2 S (Ext.refl _ _)⟩
      · exact .inr (.inl ⟨p,vs,i,v,e2,ei,sq,q1,k ρ _ H q2 S (Ext.refl _ _)⟩)
 · cases e
theorem zaak (ha:EM X a fa) (hb:EM X b fb) (hs:zaon b:=by intro _ _; rfl):EM X (.Subscript a b pos) (e2 oIx fa fb):=by
 with_unfolding_all
  exact PE.imp (zavV zauV ha hb hs) fun σ H Q ⟨ρ,l,h,d,h',S,L,e,k⟩=>by
   obtain ⟨⟨d1,h1⟩,e1,e⟩:=zaal e
   obtain ⟨⟨d2,h2⟩,e2,e⟩:=zaal e
   exact ⟨ρ,l,h,d1,h1,S,L,e1,fun ρ1 x H1 R1 S1 E1=>⟨ρ1,l,h1,d2,h2,S1,L.ext E1,e2,fun ρ2 y H2 R2 S2 E2=>
    zatH ⟨ρ2,h2,d1,d2,d,h',S2,RelD.ext E2 _ R1,R2,e,k.ext (E1.trans E2)⟩⟩⟩
end
noncomputable def sNil:RS:=fun l h=>some (.nx l h)
noncomputable def sSeq (f g:RS):RS:=fun l h=>(f l h).bind fun r=>match r with | .nx l' h'=>g l' h' | r=>some r
noncomputable def sSet (i:Nat) (f:RE):RS:=fun l h=>(f l h).bind fun r=>some (.nx (l.set i (some r.1)) r.2)
noncomputable def zacN (f:RE):RS:=fun l h=>(f l h).bind fun r=>some (.nx l r.2)
noncomputable def sRet (f:RE):RS:=fun l h=>(f l h).bind fun r=>some (.rt r.1 r.2)
noncomputable def sIf (t:RT) (f g:RS):RS:=fun l h=>(t l h).bind fun r=>if r.1=true then f l r.2 else g l r.2
section
variable {X:Cx} {st:Stmt} {rest:List Stmt} {e:Expr} {f:RE} {t u:RS} {c:RT} {pos:Pos}
theorem zaa4:ZMs X [] sNil:=by
 with_unfolding_all
  exact PSs.imp zat9 fun D σ H ⟨ρ,l,h,r,S,L,e,k⟩=>by
   cases e
   exact k ρ σ H S L (Ext.refl _ _)
theorem zaag (h1:ZM X st t) (h2:ZMs X rest u):ZMs X (st::rest) (sSeq t u):=by
 with_unfolding_all
  exact PSs.imp (zar2 h1 h2) fun D σ H ⟨ρ,l,h,r,S,L,e,k⟩=>by
   obtain ⟨r1,e1,e⟩:=zaal e
   refine ⟨ρ,l,h,r1,S,L,e1,?_⟩
   cases r1 with
   | nx l' h'=>exact fun ρ' σ' H' S' L' E'=>⟨ρ',l',h',r,S',L',e,k.ext E'⟩
   | rt d h'=>cases e; exact k
   | bk l' h'=>cases e; exact k
   | ct l' h'=>cases e; exact k
theorem zaaj (h1:ZM X st t):ZMs X [st] t:=by
 with_unfolding_all
  exact zat2 h1
theorem zach (he:EM X e f) (hs:swapsWith e none pos.line X.env=pure false:=by rfl):ZM X (.Expr e pos) (zacN f):=by
 with_unfolding_all
  exact PS.imp (zatZ he hs) fun D σ H ⟨ρ,l,h,r,S,L,e,k⟩=>by
   obtain ⟨⟨d1,h1⟩,e1,e⟩:=zaal e
   cases e
   exact ⟨ρ,l,h,d1,h1,S,L,e1,fun ρ1 v H1 R1 S1 E1=>k ρ1 σ H1 S1 (L.ext E1) E1⟩
theorem zaaz (he:EM X e f):ZM X (.Return (some e) pos) (sRet f):=by
 with_unfolding_all
  exact PS.imp (zavx he) fun D σ H ⟨ρ,l,h,r,S,L,e,k⟩=>by
   obtain ⟨⟨d1,h1⟩,e1,e⟩:=zaal e
   cases e
   exact ⟨ρ,l,h,d1,h1,S,L,e1,k⟩
theorem zaby {b:Expr} {ss ss':List Stmt} (hc:TM X b c) (ha:ZMs X ss t) (hb:ZMs X ss' u):ZM X (.If b ss ss' pos) (sIf c t u):=by
 with_unfolding_all
  exact PS.imp (zawr hc ha hb) fun D σ H ⟨ρ,l,h,r,S,L,e,k⟩=>by
   obtain ⟨⟨b1,h1⟩,e1,e⟩:=zaal e
   refine ⟨ρ,l,h,b1,h1,S,L,e1,fun ρ1 H1 S1 E1=>?_⟩
   cases b1 with
   | true=>
    rw [if_pos rfl] at e
    exact iteT ⟨ρ1,l,h1,r,S1,L.ext E1,e,k.ext E1⟩
   | false=>
    rw [if_neg Bool.false_ne_true] at e
    exact iteF ⟨ρ1,l,h1,r,S1,L.ext E1,e,k.ext E1⟩
theorem zaax (i:Nat) {x:Str} {pos':Pos} (hN:X.N.Nodup) (he:EM X e f) (hi:X.N[i]?=some x:=by rfl) (hx:Loc X.env.scope x:=by first | exact Or.inl rfl | exact Or.inr rfl)
 (hs:swapsWith e (some (.Name x pos')) pos.line X.env=pure false:=by rfl) (hf:X.fn x=true\/X.env.scope.names.lookup x=some .local:=by first | exact .inl rfl | exact .inr rfl | assumption) :
 ZM X (.Assign [.Name x pos'] e pos) (sSet i f):=by
 with_unfolding_all
  exact PS.imp (zauF hN hi hx he hs hf) fun D σ H ⟨ρ,l,h,r,S,L,e,k⟩=>by
   obtain ⟨⟨d1,h1⟩,e1,e⟩:=zaal e
   cases e
   exact ⟨ρ,l,h,d1,h1,S,L,e1,fun ρ1 v H1 R1 S1 E1=>k ρ1 _ H1 S1 ((L.ext E1).set i R1) E1⟩
end
inductive Src where
 | vals (xs:List Dt)
 | rf (n:Nat)
 | zp (a b:Dt)
 | it (n:Nat)
 | en (n:Nat)
noncomputable def Src.at (s:Src) (h:HI) (i:Nat):Option (Option Dt):=match s with
 | .vals xs=>some xs[i]?
 | .rf n=>match h[n]? with | some (.lst xs)=>some xs[i]? | _=>none
 | .zp a b=>match seqL h a,seqL h b with
  | some xs,some ys=>some (match xs[i]?,ys[i]? with | some x,some y=>some (.tup [x,y]) | _,_=>none)
  | _,_=>none
 | .it n=>match h[n]? with | some (.df kvs)=>some (kvs[i]?.map fun p=>.tup [.tup (p.1.map Dt.int),p.2]) | _=>none
 | .en n=>match h[n]? with | some (.lst xs)=>some (xs[i]?.map fun x=>.tup [.int (i:Int),x]) | _=>none
noncomputable def Src.fuel (s:Src) (h:HI):Nat:=match s with
 | .vals xs=>xs.length + 1
 | .rf n=>match h[n]? with | some (.lst xs)=>xs.length + 1 | _=>0
 | .zp a _=>match seqL h a with | some xs=>xs.length + 1 | _=>0
 | .it n=>match h[n]? with | some (.df kvs)=>kvs.length + 1 | _=>0
 | .en n=>match h[n]? with | some (.lst xs)=>xs.length + 1 | _=>0
noncomputable abbrev RI:=LI->HI->Option (Src × HI)
noncomputable def zass (K:PySem.W.Frag) (H:Hp) (ρ:Rg) (s:Src) (J:It):Prop:=
 ∀ H2 ρ2 h2,Same2 ρ ρ2 H H2->SimH K ρ2 h2 H2->∀ i:Nat,match s.at h2 i with
  | none=>True
  | some none=>J.stop i H2
  | some (some d)=>J.go i H2/\∀ v H3,J.yld i H2 v H3->RelD K H3 ρ2 d v/\Ext ρ2 ρ2 H2 H3/\SimH K ρ2 h2 H3
noncomputable def iM (K:PySem.W.Frag) (g:RI):TI:=fun σ H R=>∃ ρ l h s h',SimH K ρ h H/\SimL K H ρ l σ/\g l h=some (s,h')/\∀ ρ' J H',zass K H' ρ' s J->SimH K ρ' h' H'->Ext ρ ρ' H H'->R J H'
@[irreducible] noncomputable def IM (X:Cx) (tg iter:Expr) (g:RI):Prop:=PI X tg iter (iM X.K g)
theorem PI.imp {X:Cx} {tg e:Expr} {t t':TI} (h:PI X tg e t) (i:∀ σ H Q,t' σ H Q->t σ H Q):PI X tg e t':=fun pins s σ H Q I q=>h pins s σ H Q I (i σ H Q q)
noncomputable abbrev RG:=Dt->LI->Option LI
noncomputable def gM (K:PySem.W.Frag) (g:RG):TG:=fun v σ H Q=>∃ ρ l h d l',SimH K ρ h H/\SimL K H ρ l σ/\RelD K H ρ d v/\g d l=some l'/\∀ σ',SimL K H ρ l' σ'->Q σ' H
@[irreducible] noncomputable def GM (X:Cx) (tg:Expr) (g:RG):Prop:=PG X tg (gM X.K g)
theorem PG.imp {X:Cx} {e:Expr} {t t':TG} (h:PG X e t) (i:∀ v σ H Q,t' v σ H Q->t v σ H Q):PG X e t':=fun pins s σ H v u Q I r q=>h pins s σ H v u Q I r (i v σ H Q q)
noncomputable def gSet (i:Nat):RG:=fun d l=>some (l.set i (some d))
noncomputable def forL (bd:RG) (body:RS) (s:Src):Nat->Nat->RS
 | 0,_,_,_=>none
 | k + 1,i,l,h=>match s.at h i with
  | none=>none
  | some none=>some (.nx l h)
  | some (some d)=>(bd d l).bind fun l1=>(body l1 h).bind fun r=>match r with
   | .nx l' h'=>forL bd body s k (i + 1) l' h'
   | .ct l' h'=>forL bd body s k (i + 1) l' h'
   | .bk l' h'=>some (.nx l' h')
   | .rt d h'=>some (.rt d h')
noncomputable def sFor (g:RI) (bd:RG) (body:RS):RS:=fun l h=>(g l h).bind fun r=>forL bd body r.1 (r.1.fuel r.2) 0 l r.2
section
variable {X:Cx} {tg iter:Expr} {pos:Pos}
theorem zaaV (i:Nat) {x:Str} {pos:Pos} (hN:X.N.Nodup) (hi:X.N[i]?=some x:=by rfl) (hx:Loc X.env.scope x:=by first | exact Or.inl rfl | exact Or.inr rfl)
 (hf:X.fn x=true\/X.env.scope.names.lookup x=some .local:=by first | exact .inl rfl | exact .inr rfl | assumption):GM X (.Name x pos) (gSet i):=by
 with_unfolding_all
  exact PG.imp (zalv hN hi hx hf) fun v σ H Q ⟨ρ,l,h,d,l',S,L,R,e,k⟩=>by
   cases e
   exact k _ (L.set i R)
noncomputable def iR1 (f:RE):RI:=fun l h=>(f l h).bind fun r=>match r.1 with | .int j=>if -(2 ^ 62)<=j/\j < 2 ^ 62 then some (.vals ((List.range j.toNat).map fun (k:Nat)=>Dt.int (k:Int)),r.2) else none | _=>none
noncomputable def iR2 (f g:RE):RI:=fun l h=>(f l h).bind fun r=>(g l r.2).bind fun q=>match r.1,q.1 with
 | .int i,.int j=>if -(2 ^ 62)<=i/\i < 2 ^ 62/\-(2 ^ 62)<=j/\j < 2 ^ 62 then some (.vals ((List.range (j - i).toNat).map fun (k:Nat)=>Dt.int (i + (k:Int))),q.2) else none | _,_=>none
theorem zacQ {a:Expr} {f:RE} {p pos:Pos} (hg:Gl X "range") (hm:X.mg "range" = none) (ha:EM X a f) (hs:zaaP a=true:=by rfl) :
 IM X tg (.Call (.Name "range" p) [a] [] pos) (iR1 f):=by
 with_unfolding_all
  exact PI.imp (zaqh hg hm (zabz ha zac4 (zaaG hs _ _)) (zaaG hs _ _)) fun σ H R ⟨ρ,l,h,s,h',S,L,e,k⟩=>by
   obtain ⟨⟨d1,h1⟩,e1,e⟩:=zaal e
   refine ⟨ρ,l,h,d1,h1,S,L,e1,fun ρ1 v H1 R1 S1 E1=>?_⟩
   cases d1 with
   | int j=>
    obtain ⟨⟨c1,c2⟩,e⟩:=ifE e
    cases e
    refine ⟨j,by rw [rel_int.mp R1],c1,c2,k ρ1 _ H1 (fun H2 ρ2 h2 E2 S2 i=>?_) S1 E1⟩
    simp only [Src.at,List.getElem?_map]
    by_cases hi:i < j.toNat
    · rw [List.getElem?_range hi]
      refine ⟨hi,fun v H3 q=>?_⟩
      obtain ⟨rfl,rfl⟩:=q
      exact ⟨rel_int.mpr (by simp),Ext.refl _ _,S2⟩
    · rw [List.getElem?_eq_none (by simpa using Nat.not_lt.mp hi)]
      exact Nat.not_lt.mp hi
   | _=>cases e
theorem zapR {a b:Expr} {f g:RE} {p pos:Pos} (hg:Gl X "range") (hm:X.mg "range" = none) (ha:EM X a f) (hb:EM X b g) (hs:zaaP a=true:=by rfl) (hs2:zaaP b=true:=by rfl) :
 IM X tg (.Call (.Name "range" p) [a,b] [] pos) (iR2 f g):=by
 with_unfolding_all
  exact PI.imp (zaqv hg hm (zabz ha (zabz hb zac4 (zaaG hs2 _ _)) (zaaG hs _ _)) (by rw [zaaG hs,zaaG hs2]; rfl) (zaaG hs2 _ _)) fun σ H R ⟨ρ,l,h,s,h',S,L,e,k⟩=>by
   obtain ⟨⟨d1,h1⟩,e1,e⟩:=zaal e
   obtain ⟨⟨d2,h2⟩,e2,e⟩:=zaal e
   refine ⟨ρ,l,h,d1,h1,S,L,e1,fun ρ1 v H1 R1 S1 E1=>⟨ρ1,l,h1,d2,h2,S1,L.ext E1,e2,fun ρ2 u H2 R2 S2 E2=>?_⟩⟩
   cases d1 with
   | int i=>
    cases d2 with
    | int j=>
     obtain ⟨c,e⟩:=ifE e
     cases e
     refine ⟨i,j,by rw [rel_int.mp R1,rel_int.mp R2],c,k ρ2 _ H2 (fun H3 ρ3 h3 E3 S3 n=>?_) S2 (E1.trans E2)⟩
     simp only [Src.at,List.getElem?_map]
     by_cases hi:n < (j - i).toNat
     · rw [List.getElem?_range hi]
       refine ⟨hi,fun v H4 q=>?_⟩
       obtain ⟨rfl,rfl⟩:=q
       exact ⟨rel_int.mpr rfl,Ext.refl _ _,S3⟩
     · rw [List.getElem?_eq_none (by simpa using Nat.not_lt.mp hi)]
       exact Nat.not_lt.mp hi
    | _=>cases e
   | _=>cases e
noncomputable def iSeq (f:RE):RI:=fun l h=>(f l h).bind fun r=>match r.1 with | .lst xs=>some (.vals xs,r.2) | .ref n=>some (.rf n,r.2) | _=>none
noncomputable def iLst (f:RE):RI:=fun l h=>(iSeq f l h).bind fun r=>if 0 < r.1.fuel r.2 then some r else none
theorem zabv {a:Expr} {f:RE} (ha:EM X a f):IM X tg a (iLst f):=by
 with_unfolding_all
  exact PI.imp (zasN ha) fun σ H R ⟨ρ,l,h,s,h',S,L,e,k⟩=>by
   obtain ⟨⟨s1,h1⟩,e,ez⟩:=zaal e
   obtain ⟨hz,ez⟩:=ifE ez
   cases ez
   obtain ⟨⟨d1,h2⟩,e1,e⟩:=zaal e
   refine ⟨ρ,l,h,d1,h2,S,L,e1,fun ρ1 v H1 R1 S1 E1=>?_⟩
   cases d1 with
   | lst xs=>
    cases e
    obtain ⟨a,vs,rfl,q,r⟩:=rel_lst.mp R1
    refine ⟨a,rfl,⟨vs,q.sq⟩,k ρ1 _ H1 (fun H2 ρ2 h2 E2 S2 i=>?_) S1 E1⟩
    have q2:=q.same E2
    have r2:=RelDs.same E2 _ r
    simp only [Src.at]
    cases ei:xs[i]? with
    | none=>
     refine ⟨vs,q2.sq,?_⟩
     rw [r.length]
     exact List.getElem?_eq_none_iff.mp ei
    | some d=>
     obtain ⟨v,g1,g2⟩:=r2.get ei
     refine ⟨⟨vs,v,q2.sq,g1⟩,fun u H3 y=>?_⟩
     obtain ⟨rfl,y⟩:=y
     have y2:=y vs q2.sq
     rw [g1] at y2
     cases y2
     exact ⟨g2,Ext.refl _ _,S2⟩
   | ref n=>
    cases e
    obtain ⟨a,rfl,ha⟩:=rel_ref.mp R1
    simp only [Src.fuel] at hz
    split at hz
    · rename_i xs q0
      obtain ⟨vs0,g0,_⟩:=S1.lst ha q0
      refine ⟨a,rfl,⟨vs0,SqL.of g0⟩,k ρ1 _ H1 (fun H2 ρ2 h2 E2 S2 i=>?_) S1 E1⟩
      have ha2:=E2.ix _ _ ha
      simp only [Src.at]
      split
      · trivial
      · rename_i y
        split at y
        · rename_i ys q2
          obtain ⟨vs,g1,r⟩:=S2.lst ha2 q2
          refine ⟨vs,SqL.of g1,?_⟩
          rw [r.length]
          exact List.getElem?_eq_none_iff.mp (Option.some.inj y)
        · cases y
      · rename_i d y
        split at y
        · rename_i ys q2
          obtain ⟨vs,g1,r⟩:=S2.lst ha2 q2
          obtain ⟨v,z1,z2⟩:=r.get (Option.some.inj y)
          refine ⟨⟨vs,v,SqL.of g1,z1⟩,fun u H3 y=>?_⟩
          obtain ⟨rfl,y⟩:=y
          have y2:=y vs (SqL.of g1)
          rw [z1] at y2
          cases y2
          exact ⟨z2,Ext.refl _ _,S2⟩
        · cases y
    · exact absurd hz (by omega)
   | _=>cases e
theorem zab3 {body:List Stmt} {g:RI} {bd:RG} {f:RS} (hp:PassesOwn (model X.prog X.w) X.A X.env X.xe) (hc:X.calm=true) (hi:IM X tg iter g) (hg:GM X tg bd) (hb:ZMs X body f)
 (hs:∀ x,foldedSetIterable iter X.env x=pure x:=by intro _; rfl):ZM X (.For tg iter body [] pos) (sFor g bd f):=by
 with_unfolding_all
  exact PS.imp (zau9 hp hc hi hg hb hs) fun D σ H ⟨ρ,l,h,r,S,L,e,k⟩=>by
   obtain ⟨⟨s,h1⟩,e1,e⟩:=zaal e
   refine ⟨ρ,l,h,s,h1,S,L,e1,fun ρ1 J H1 ok S1 E1=>?_⟩
   refine ⟨fun i m σ' H'=>∃ ρ' l' h',SimH X.K ρ' h' H'/\SimL X.K H' ρ' l' σ'/\Ext ρ1 ρ' H1 H'/\forL bd f s m i l' h'=some r,⟨_,ρ1,l,h1,S1,L.ext E1,Ext.refl _ _,e⟩,?_⟩
   rintro i m σ' H' ⟨ρ',l',h',S',L',E',e'⟩
   cases m with
   | zero=>simp only [forL] at e'; cases e'
   | succ m=>
    simp only [forL] at e'
    have ok':=ok H' ρ' h' E'.same S' i
    cases q:s.at h' i with
    | none=>rw [q] at e'; cases e'
    | some o=>
     rw [q] at e' ok'
     cases o with
     | none=>
      cases e'
      exact .inl ⟨ok',k ρ' σ' H' S' L' (E1.trans E')⟩
     | some d=>
      dsimp only at e'
      obtain ⟨l1,b1,e'⟩:=zaal e'
      obtain ⟨r1,b2,e'⟩:=zaal e'
      refine .inr ⟨ok'.1,fun σ2 H2=>∃ m',m' < m + 1/\∃ ρ' l' h',SimH X.K ρ' h' H2/\SimL X.K H2 ρ' l' σ2/\Ext ρ1 ρ' H1 H2/\forL bd f s m' (i + 1) l' h'=some r,fun σ2 H2 q=>q,fun v H3 y=>?_⟩
      obtain ⟨R3,E3,S3⟩:=ok'.2 v H3 y
      refine ⟨ρ',l',h',d,l1,S3,L'.ext E3,R3,b1,fun σ4 L4=>⟨ρ',l1,h',r1,S3,L4,b2,?_⟩⟩
      cases r1 with
      | nx l2 h2=>exact fun ρ5 σ5 H5 S5 L5 E5=>⟨m,Nat.lt_succ_self _,ρ5,l2,h2,S5,L5,E'.trans (E3.trans E5),e'⟩
      | ct l2 h2=>exact fun ρ5 σ5 H5 S5 L5 E5=>⟨m,Nat.lt_succ_self _,ρ5,l2,h2,S5,L5,E'.trans (E3.trans E5),e'⟩
      | bk l2 h2=>
       cases e'
       exact fun ρ5 σ5 H5 S5 L5 E5=>k ρ5 σ5 H5 S5 L5 (E1.trans (E'.trans (E3.trans E5)))
      | rt d2 h2=>
       cases e'
       exact fun ρ5 v5 H5 R5 S5 E5=>k ρ5 v5 H5 R5 S5 (E1.trans (E'.trans (E3.trans E5)))
end
noncomputable def fnI (n N:Nat) (body:RS):FnI:=fun ds h=>if ds.length=n then match body (ds.map some++List.replicate (N - n) none) h with
 | some (.rt d h')=>some (d,h')
 | some (.nx _ h')=>some (.non,h')
 | _=>none
 else none
noncomputable def spM (K:PySem.W.Frag) (n:Nat) (F:FnI):Sp:=fun vs H Q _=>∃ ρ ds h d h',SimH K ρ h H/\RelDs K H ρ ds vs/\ds.length=n/\F ds h=some (d,h')/\Out K ρ H d h' Q
section
variable {P:Program} {w:World} {K:PySem.W.Frag} {mg:Str->Option Value} {base:Heap}
theorem zahh {H:Hp} {ρ:Rg} {N:List Str} {ds:List Dt} {vs:List V} (R:RelDs K H ρ ds vs):SimL K H ρ (ds.map some++List.replicate (N.length - ds.length) none) (L2.zafc N vs):=by
 have hl:=R.length
 refine ⟨by simp [L2.zafc,hl],fun i d e=>?_⟩
 by_cases hi:i < ds.length
 · rw [List.getElem?_append_left (by simpa using hi),List.getElem?_map] at e
   cases q:ds[i]? with
   | none=>rw [q] at e; cases e
   | some d'=>
    rw [q] at e
    cases e
    obtain ⟨v,g1,g2⟩:=R.get q
    refine ⟨v,?_,g2⟩
    unfold L2.zafc
    rw [List.getElem?_append_left (by simpa [hl] using hi),List.getElem?_map,g1]
    rfl
 · rw [List.getElem?_append_right (by simpa using Nat.not_lt.mp hi),List.getElem?_replicate] at e
   split at e <;> cases e
theorem zamn {x qual:Str} {st:Stmt} {f:Addr} {fd:FuncData} {N ps:List Str} {k:Nat} {body:RS} (F:Fun K x qual st f fd) (S:zaay N ps (zaai st))
 (hb:∀ (cdv:Value) (A:Around) (outer:List Env) (s:Shared) (H:Hp) (E:XK),Room k (A.deeper (envOfC qual (zaai st) s.heap.objs.size f cdv))->
  ZMs (cxOf CX0 P w K mg base N qual (zaai st) f cdv A outer s H E).nox (zabm st) body):FnOk P w K mg base CX0 (k + 1) f fd ps (spM K ps.length (fnI ps.length N.length body)):=by
 with_unfolding_all
  refine F.ok S (fun vs H Q E h=>?_) (fun cdv A outer s H vs Q E hr h=>?_)
  · obtain ⟨ρ,ds,h,d,h',S,R,hl,_⟩:=h
    rw [R.length,hl]
  · obtain ⟨ρ,ds,h,d,h',S,R,hl,e,k⟩:=h
    refine ⟨_,hb cdv A outer s H E hr,?_⟩
    unfold fnI at e
    rw [if_pos hl] at e
    rw [<- hl] at e
    split at e
    · rename_i d1 h1 q
      cases e
      exact ⟨ρ,_,h,_,S,zahh R,q,k⟩
    · rename_i l1 h1 q
      cases e
      exact ⟨ρ,_,h,_,S,zahh R,q,fun ρ' σ' H' S' L' E'=>k ρ' _ H' (rel_non.mpr rfl) S' E'⟩
    · cases e
end
noncomputable def zaav (F:FnI) (dds:List Dt) (g:RA):RE:=fun l h=>(g l h).bind fun r=>F (r.1++dds) r.2
section
variable {X:Cx} {k n:Nat} {f:Addr} {fd:FuncData} {ps:List Str} {F:FnI} {x:Str} {p pos:Pos} {e:Expr} {es:List Expr} {g:RA} {dvs:List V} {ds:List Value} {dds:List Dt}
theorem zanx (hF:FnOk X.prog X.w X.K X.mg X.base CX0 k f fd ps (spM X.K n F)) (hr:Room k X.A) (hg:Gl X x) (hm:X.mg x=some (.ref f)) (hk:PySem.W.keepIn X.K (.ref f)=true) (hb:Binds X.K fd ps ds) (hd:Vals dvs ds) (hdd:∀ H ρ,RelDs X.K H ρ dds dvs)
 (ha:AM X (e::es) g) (hn:∀ (F':List Dt->HI->Option (Dt × HI)),F'=F->∀ ds h r,F' ds h=some r->ds.length=n) (hdb:(x == ("__debug__" : Str))=false:=by decide) (he:zaaP e=true:=by rfl) (hpl:es.all zaaP=true:=by rfl) :
 EM X (.Call (.Name x p) (e::es) [] pos) (zaav F dds g):=by
 with_unfolding_all
  exact PE.imp (zasV hF hr hg hm hk hb hd (E:=E0) zaoM ha hdb (zaaG he _ _) (zag8 hpl)) fun σ H Q ⟨ρ,l,h,d,h',S,L,e,k⟩=>by
   obtain ⟨⟨ds1,h1⟩,e1,e⟩:=zaal e
   exact ⟨ρ,l,h,ds1,h1,S,L,e1,fun ρ1 vs H1 R1 S1 E1=>⟨ρ1,_,h1,d,h',S1,R1.append (hdd H1 ρ1),hn F rfl _ _ _ e,e,k.ext E1⟩⟩
theorem zajo {n N:Nat} {body:RS} {ds:List Dt} {h:HI} {r:Dt × HI} (e:fnI n N body ds h=some r):ds.length=n:=by
 unfold fnI at e
 split at e
 · assumption
 · cases e
end
end SM
namespace L2
open PySem PySem.Spec PyProof.Rows
noncomputable def zadw (cells:List (Str × Addr)):List (Str × NameKind)->List (Str × Addr)->Option (List (Str × Addr))
 | [],cs=>some cs
 | (n,k)::r,cs=>if k == .free then match cells.lookup n with
  | some a=>zadw cells r ((n,a)::cs)
  | none=>none
  else zadw cells r cs
theorem zajL {env:Env}:∀ {l:List (Str × NameKind)} {cs cl:List (Str × Addr)},zadw env.cells l cs=some cl->
 (forIn l cs fun (x:Str × NameKind) (r:List (Str × Addr))=>if (x.2 == NameKind.free)=true then (do let a <- cellOf env x.1; pure (ForInStep.yield ((x.1,a)::r)):Sem _) else pure (ForInStep.yield r))=pure cl
 | [],cs,cl,h=>by
  simp only [zadw] at h
  cases h
  rfl
 | (n,k)::r,cs,cl,h=>by
  simp only [zadw] at h
  rw [List.forIn_cons]
  cases hk:k == NameKind.free with
  | true=>
   rw [hk,if_pos rfl] at h
   cases hc:env.cells.lookup n with
   | none=>rw [hc] at h; cases h
   | some a=>
    rw [hc] at h
    have ih:=zajL (env:=env) h
    simp only [hk,if_true]
    have e:cellOf env n=pure a:=by unfold cellOf; rw [hc]
    rw [e]
    simp only [pure_bind]
    exact ih
  | false=>
   rw [hk,if_neg (by decide)] at h
   have ih:=zajL (env:=env) h
   simp only [hk,Bool.false_eq_true,if_false,pure_bind]
   exact ih
theorem zakF {scope:Scope} {env:Env} {cl:List (Str × Addr)} (h:zadw env.cells scope.names []=some cl):closureFor scope env=pure cl:=by
 have e:=zajL (env:=env) h
 unfold closureFor
 simp only [bind_pure]
 exact e
theorem zaja {cells:List (Str × Addr)}:∀ {l:List (Str × NameKind)} {cs cl:List (Str × Addr)},zadw cells l cs=some cl->(∀ x c,cs.lookup x=some c->cells.lookup x=some c)->
 (∀ x c,cl.lookup x=some c->cells.lookup x=some c)/\(∀ x c,cs.lookup x=some c->∃ c',cl.lookup x=some c')/\∀ n,(n,NameKind.free) ∈ l->∃ c,cl.lookup n=some c
 | [],cs,cl,h,i=>by
  simp only [zadw] at h
  cases h
  exact ⟨i,fun x c e=>⟨c,e⟩,fun n hn=>nomatch hn⟩
 | (n,k)::r,cs,cl,h,i=>by
  simp only [zadw] at h
  cases hk:k == NameKind.free with
  | true=>
   rw [hk,if_pos rfl] at h
   cases hc:cells.lookup n with
   | none=>rw [hc] at h; cases h
   | some a=>
    rw [hc] at h
    have i':∀ x c,((n,a)::cs).lookup x=some c->cells.lookup x=some c:=fun x c e=>by
     rw [List.lookup_cons] at e
     cases hx:x == n with
     | true=>
      rw [hx] at e
      cases e
      rw [eq_of_beq hx]
      exact hc
     | false=>
      rw [hx] at e
      exact i x c e
    obtain ⟨h1,h2,h3⟩:=zaja h i'
    refine ⟨h1,fun x c e=>?_,fun m hm=>?_⟩
    · cases hx:x == n with
      | true=>exact h2 x a (by rw [List.lookup_cons,hx])
      | false=>exact h2 x c (by rw [List.lookup_cons,hx]; exact e)
    · rcases List.mem_cons.mp hm with z | z
      · cases z
        exact h2 _ a (by rw [List.lookup_cons,beq_self_eq_true])
      · exact h3 m z
  | false=>
   rw [hk,if_neg (by decide)] at h
   obtain ⟨h1,h2,h3⟩:=zaja h i
   refine ⟨h1,h2,fun m hm=>?_⟩
   rcases List.mem_cons.mp hm with z | z
   · cases z
     cases hk
   · exact h3 m z
noncomputable def zaa8 (X:Cx) (Nc:List Str) (scope:Scope) (cl:List (Str × Addr)) (C:Addr) (s0:Shared) (H0:Hp) (fp:List Addr):Cx:=
 { X with N:=Nc,s₀:=s0,H₀:=H0,env:=compEnvC scope cl C X.env,outer:=X.stack,stack:=X.stack,ex:=fp,fn:=fun _=>false,pn:=[],xe:=fun _ _=>False }
theorem zair {env:Env}:∀ {names:List (Str × NameKind)} {x:Str},(∀ y ∈ names,y.2 ≠ .cell)->
 ((names.map fun (n,k)=>if (k == NameKind.free && env.scope.kind == .function && env.kindOf n == some .cell) then (n,NameKind.cell) else (n,k)).lookup x=some .cell\/
  (names.map fun (n,k)=>if (k == NameKind.free && env.scope.kind == .function && env.kindOf n == some .cell) then (n,NameKind.cell) else (n,k)).lookup x=some .free)->(x,NameKind.free) ∈ names
 | [],_,_,h=>by simp at h
 | (n,k)::r,x,hc,h=>by
  have ih:=@zair env r x (fun y hy=>hc y (List.mem_cons_of_mem _ hy))
  have hk:k ≠ .cell:=hc (n,k) List.mem_cons_self
  rw [List.map_cons] at h
  cases hx:x == n with
  | true=>
   have ex:=eq_of_beq hx
   subst ex
   by_cases hf:k=.free
   · subst hf
     exact List.mem_cons_self
   · have hb:(k == NameKind.free)=false:=by simpa using hf
     simp only [hb,Bool.false_and,Bool.false_eq_true,if_false,List.lookup_cons,beq_self_eq_true] at h
     rcases h with h | h
     · exact absurd (Option.some.inj h) hk
     · exact absurd (Option.some.inj h) hf
  | false=>
   refine List.mem_cons_of_mem _ (ih ?_)
   by_cases hq:(k == NameKind.free && env.scope.kind == .function && env.kindOf n == some .cell)=true
   · simp only [hq,if_true,List.lookup_cons,hx] at h
     exact h
   · rw [Bool.not_eq_true] at hq
     simp only [hq,Bool.false_eq_true,if_false,List.lookup_cons,hx] at h
     exact h
noncomputable def CapOk (X:Cx) (scope:Scope) (cl:List (Str × Addr)):List Str->List (Option Nat)->Prop
 | [],[]=>True
 | _::N,none::cs=>CapOk X scope cl N cs
 | x::N,some j::cs=>(X.N[j]?=some x/\(X.env.kindOf x=some .cell\/X.env.kindOf x=some .free)/\((relabel scope X.env).names.lookup x=some .cell\/(relabel scope X.env).names.lookup x=some .free)/\
  cl.lookup x=X.env.cells.lookup x)/\CapOk X scope cl N cs
 | _,_=>False
noncomputable def zafP (σ:St) (cap:List (Option Nat)):St:=cap.map fun o=>match o with | some j=>(σ[j]?).join | none=>none
theorem CapOk.get {X:Cx} {scope:Scope} {cl:List (Str × Addr)}:∀ {N:List Str} {cs:List (Option Nat)},CapOk X scope cl N cs->∀ {i j:Nat} {x:Str},N[i]?=some x->cs[i]?=some (some j)->
 X.N[j]?=some x/\(X.env.kindOf x=some .cell\/X.env.kindOf x=some .free)/\((relabel scope X.env).names.lookup x=some .cell\/(relabel scope X.env).names.lookup x=some .free)/\cl.lookup x=X.env.cells.lookup x
 | [],[],_,i,j,x,h,_=>by simp at h
 | y::N,none::cs,h,0,j,x,_,e=>by simp at e
 | y::N,none::cs,h,i + 1,j,x,e1,e2=>CapOk.get (N:=N) (cs:=cs) h (i:=i) (by simpa using e1) (by simpa using e2)
 | y::N,some k::cs,h,0,j,x,e1,e2=>by
  simp at e1 e2
  subst e1 e2
  exact h.1
 | y::N,some k::cs,h,i + 1,j,x,e1,e2=>CapOk.get (N:=N) (cs:=cs) h.2 (i:=i) (by simpa using e1) (by simpa using e2)
 | [],_::_,h,_,_,_,_,_=>h.elim
 | _::_,[],h,_,_,_,_,_=>h.elim
theorem CapOk.length {X:Cx} {scope:Scope} {cl:List (Str × Addr)}:∀ {N:List Str} {cs:List (Option Nat)},CapOk X scope cl N cs->cs.length=N.length
 | [],[],_=>rfl
 | y::N,none::cs,h=>by rw [List.length_cons,List.length_cons,CapOk.length (N:=N) (cs:=cs) h]
 | y::N,some k::cs,h=>by rw [List.length_cons,List.length_cons,CapOk.length (N:=N) (cs:=cs) h.2]
 | [],_::_,h=>h.elim
 | _::_,[],h=>h.elim
noncomputable def PIfs (X:Cx) (ifs:List Expr) (t:TT):Prop:=
 ∀ (pins:List (Addr × Obj)) (s:Shared) (σ:St) (H:Hp) (Q:Bool->Hp->Prop),Inv X pins σ H s->t σ H Q->
  wpAny (model X.prog X.w) X.A (forIn ifs true fun c r=>if r=true then do let ok <- isTrue c X.env (eval c X.env); pure (ForInStep.yield ok) else pure (ForInStep.yield r)) (TP X pins σ Q) X.xe s
theorem zarv {X:Cx}:PIfs X [] (fun _ H Q=>Q true H):=fun _ _ _ H _ I q=>wpAny_tests_nil ⟨H,I,q⟩
theorem zarZ {X:Cx} {c:Expr} {t:TT} (h:PT X c t):PIfs X [c] t:=fun pins s σ H Q I q=>wpAny_tests_one (h pins s σ H Q I q)
noncomputable def zapd (wi:TI) (g:TG) (tc:TT) (te:TE) (cap:List (Option Nat)):TE:=fun σ H Q=>wi σ H fun J H1=>∀ D,H1 D=none->∃ W:Nat->Nat->St->List V->Hp->Prop,
 (∃ m,W 0 m (zafP σ cap) [] (upd H1 D (.lst [])))/\∀ i m σ' ys H',W i m σ' ys H'->
  (J.stop i H'/\Q (.ref D) H')\/(J.go i H'/\∀ x H2,J.yld i H' x H2->g x σ' H2 fun σ2 H3=>tc σ2 H3 fun b H4=>if b=true then te σ2 H4 fun y H5=>
   H5 D=some (.lst ys)/\ys.length < sizeLine/\∃ m',m' < m/\W (i + 1) m' σ2 (ys++[y]) (upd H5 D (.lst (ys++[y]))) else ∃ m',m' < m/\W (i + 1) m' σ2 ys H4)
section
variable {prog:Program} {w:World} {A:Around} {R:Result->Shared->Prop} {s:Shared}
theorem zanr {elt target iter:Expr} {ifs:List Expr} {scope:Scope} {pos:Pos} {it acc:Value} {env:Env} (I:Nat->Shared->Prop)
 (turn:∀ n s,I n s->wpAny (model prog w) A (pyNext it) (fun r s₁=>match r with
  | none=>R (.ok .next) s₁
  | some v=>wpAny (model prog w) A (letOwnedTupleGo target it v) (fun _ s₁'=>wpAny (model prog w) A (assign target env v) (fun _ s₂=>
   wpAny (model prog w) A (forIn ifs true fun c r=>if r=true then do let ok <- isTrue c env (eval c env); pure (ForInStep.yield ok) else pure (ForInStep.yield r)) (fun ok s₃=>
    if ok=true then wpAny (model prog w) A (eval elt env) (fun x s₄=>
     wpAny (model prog w) A (call (.builtin "list.append") [acc,x]) (fun _ s₅=>∃ m,m < n/\I m s₅) (fun _ _=>False) s₄) (fun _ _=>False) s₃
    else ∃ m,m < n/\I m s₃) (fun _ _=>False) s₂) (fun _ _=>False) s₁') (fun _ _=>False) s₁) (fun _ _=>False) s)
 (n:Nat) (h:I n s):codeAny (model prog w) A (.compLoop (.ListComp elt [⟨target,iter,ifs,0⟩] scope pos) 0 it acc env) R s:=by
 refine codeAny_loop rfl I (fun n s hI=>?_) n h
 show wpAny _ A ((compTurn (.ListComp elt [⟨target,iter,ifs,0⟩] scope pos) 0 it acc env).onRaise (fun x=>do noteFrame x env; theTreesLotGoes x)) _ _ s
 refine wpAny_noted ?_
 rw [compTurn_list]
 refine wpAny_bind (wpAny_standAt (wpAny_bind (wpAny_mono (turn n s hI) (fun r s₁ h₁=>?_) fun _ _ h'=>h'.elim)))
 cases r with
 | none=>exact wpAny_pure h₁
 | some v=>
  refine wpAny_bind (wpAny_mono h₁ (fun _ s₁' h₁'=>?_) fun _ _ h'=>h'.elim)
  refine wpAny_bind (wpAny_mono h₁' (fun _ s₂ h₂=>wpAny_bind (wpAny_mono h₂ (fun ok s₃ h₃=>?_) fun _ _ h'=>h'.elim)) fun _ _ h'=>h'.elim)
  cases ok with
  | false=>exact wpAny_pure ⟨rfl,h₃⟩
  | true=>
   exact wpAny_bind (wpAny_bind (wpAny_mono h₃ (fun x s₄ h₄=>wpAny_bind (wpAny_mono h₄ (fun _ s₅ h₅=>wpAny_pure (wpAny_pure ⟨rfl,h₅⟩)) fun _ _ h'=>h'.elim)) fun _ _ h'=>h'.elim))
end
section
variable {X:Cx} {elt iter tg:Expr} {ifs:List Expr} {scope:Scope} {cl:List (Str × Addr)} {pos:Pos} {Nc:List Str} {wi:TI} {g:TG} {tc:TT} {te:TE} {cap:List (Option Nat)}
theorem zaky {pins:List (Addr × Obj)} {σ:St} {H:Hp} {s:Shared} {it:Addr} {fp:List Addr} {tn:Nat->Heap->Prop} {J:It} {Q:VK} {RR:Value->Addr->Result->Shared->Prop} {E:Value->Shared->Prop}
 (hc:X.calm=true) (hcl:zadw X.env.cells scope.names []=some cl) (hcell:∀ y ∈ scope.names,y.2 ≠ .cell) (hkind:scope.kind=.function) (hcap:CapOk X scope cl Nc cap)
 (hg:∀ C s0 H0 fp,PG (zaa8 X Nc scope cl C s0 H0 fp) tg g) (ht:∀ C s0 H0 fp,PIfs (zaa8 X Nc scope cl C s0 H0 fp) ifs tc) (he:∀ C s0 H0 fp,PE (zaa8 X Nc scope cl C s0 H0 fp) elt te)
 (I:Inv X pins σ H s) (T:Turn X.prog X.w X.K tg J fp it tn) (st:tn 0 s.heap) (hf:∀ b ∈ fp,FpOk X pins H b)
 (read:∀ D,H D=none->∃ W:Nat->Nat->St->List V->Hp->Prop,
  (∃ m,W 0 m (zafP σ cap) [] (upd H D (.lst [])))/\∀ i m σ' ys H',W i m σ' ys H'->
   (J.stop i H'/\Q (.ref D) H')\/(J.go i H'/\∀ x H2,J.yld i H' x H2->g x σ' H2 fun σ2 H3=>tc σ2 H3 fun b H4=>if b=true then te σ2 H4 fun y H5=>
    H5 D=some (.lst ys)/\ys.length < sizeLine/\∃ m',m' < m/\W (i + 1) m' σ2 (ys++[y]) (upd H5 D (.lst (ys++[y]))) else ∃ m',m' < m/\W (i + 1) m' σ2 ys H4))
 (hRR:∀ (C D:Addr) (s':Shared) (H':Hp) m,Inv X pins σ H' s'->s'.heap.Ns C m->H' C=none->C ≠ X.env.locals->X.s₀.heap.objs.size<=C->(∀ x c,X.env.cells.lookup x=some c->c ≠ C)->(∀ p ∈ X.pn++pins,p.1 ≠ C)->Q (.ref D) H'->RR (.ref D) C (.ok .next) s') :
 wpAny (model X.prog X.w) X.A (newList []) (fun acc s₃=>wpAny (model X.prog X.w) X.A (newFunctionEnv scope X.env.globals cl [] X.env.qual none .none (some X.env)) (fun cenv s₄=>
  codeAny (model X.prog X.w) X.A (.compStart (.ListComp elt [⟨tg,iter,ifs,0⟩] scope pos) 0 (.ref it) acc { cenv with scope:=relabel scope X.env }) (RR acc cenv.locals) s₄) E s₃) E s:=by
 obtain ⟨sub,_,hasC⟩:=zaja hcl (fun _ _ e=>by simp at e)
 refine wpAny_newObj_type (wpAny_newFunctionEnv hcell (by intro y hy; simp at hy) (fun h₁ hns₁ hsb₁=>?_) hkind)
 have hD:=I.fresh
 have I3:Inv X pins σ (upd H s.heap.objs.size (.lst [])) { s with heap:=s.heap.push { cls:=.type "list", data:=.seq ([]:List Value).toArray } }:=I.lnew (ys:=[]) (its:=[]) (t':=s.toks) .nil (Nat.zero_le _)
 generalize hs3:({ s with heap:=s.heap.push { cls:=.type "list", data:=.seq ([]:List Value).toArray } }:Shared)=s3 at I3
 generalize hH3:upd H s.heap.objs.size (.lst [])=H3 at I3
 have hh3:s3.heap=s.heap.push { cls:=.type "list", dict:=none,data:=.seq ([]:List Value).toArray }:=by rw [<- hs3]
 dsimp only at hns₁ hsb₁ ⊢
 rw [<- hh3] at hns₁ hsb₁
 have hCn:H3 s3.heap.objs.size=none:=I3.fresh
 have hCL:s3.heap.objs.size ≠ X.env.locals:=fun z=>by
  have:=I3.lt
  rw [<- z] at this
  exact Nat.lt_irrefl _ this
 have hC0:X.s₀.heap.objs.size<=s3.heap.objs.size:=I3.sz
 have cellLt:∀ x c,X.env.cells.lookup x=some c->c < s3.heap.objs.size:=fun x c e=>by
  obtain ⟨v,o,ho,_⟩:=I3.cell x c e
  exact Heap.lt_size ho
 have hCc:∀ x c,X.env.cells.lookup x=some c->c ≠ s3.heap.objs.size:=fun x c e z=>by
  have:=cellLt x c e
  rw [z] at this
  exact Nat.lt_irrefl _ this
 have hCp:∀ p ∈ X.pn++pins,p.1 ≠ s3.heap.objs.size:=fun p hp z=>by
  have:=Heap.lt_size (I3.pin p hp).1
  rw [z] at this
  exact Nat.lt_irrefl _ this
 have fpLt:∀ b ∈ fp,b < s.heap.objs.size:=fun b hb=>by
  obtain ⟨o,e,_⟩:=T.obj 0 _ st b hb
  exact Heap.lt_size e
 have sz3:s3.heap.objs.size=s.heap.objs.size + 1:=by rw [hh3,Heap.size_push]
 have old:∀ b o,s3.heap.get? b=some o->h₁.get? b=some o:=fun b o e=>hsb₁.extBut b o (Nat.ne_of_lt (Heap.lt_size e)) (Heap.get?_push_of_some _ e)
 have old0:∀ b o,s.heap.get? b=some o->s3.heap.get? b=some o:=fun b o e=>by
  rw [hh3]
  exact Heap.get?_push_of_some _ e
 have fpH:∀ b ∈ fp,H3 b=none:=fun b hb=>by
  rw [<- hH3,zaaA (Nat.ne_of_lt (fpLt b hb))]
  exact (hf b hb).1
 have okY:(zaa8 X Nc scope cl s3.heap.objs.size s3 H3 fp).Ok:=by
  refine ⟨I3.ok.mod,hkind,I3.ok.glob,I3.ok.blt,Nat.le_refl _,fun x y c e1 e2=>I3.ok.inj x y c (sub x c e1) (sub y c e2),fun x hx=>?_,fun x c e _=>absurd e Bool.false_ne_true,I3.ok.hd,I3.ok.frames,.inl rfl,fun b hb=>⟨?_,fun x c e=>?_⟩,fun b o e=>I3.bs b o e,?_,fun b o e=>?_,fun b hb=>?_,I3.stack,I3.stkFree⟩
  · exact hasC x (zair hcell hx)
  · intro z
    have:=fpLt b hb
    have z':b=s3.heap.objs.size:=z
    rw [z',sz3] at this
    exact absurd this (Nat.not_lt.mpr (Nat.le_succ _))
  · exact (hf b hb).2.2.2.2.1 x c (sub x c e)
  · exact Nat.le_trans I3.ok.bsz I3.sz
  · intro hb
    have h1:=(hf b hb).2.2.2.1
    have h2:=I3.ok.bs b o e
    rcases h1 with z | z
    · exact I3.ok.noex b o e z
    · exact absurd (Nat.lt_of_lt_of_le (Heap.lt_size h2.1) z) (Nat.lt_irrefl _)
  · intro z
    rcases List.mem_cons.mp (I3.stkSub b z) with z | z
    · exact (hf b hb).2.1 z
    · exact (hf b hb).2.2.1 z
 have IY:Inv (zaa8 X Nc scope cl s3.heap.objs.size s3 H3 fp) [] (zafP σ cap) H3 { s3 with heap:=h₁,toks:=s3.toks + ([]:List (Str × Value)).length }:=by
  refine ⟨okY,rfl,I3.bare,Un.kept old,⟨_,hns₁,fun i x v e1 e2 _=>?_⟩,fun x c e=>?_,hCn,fun x c e=>I3.freeC x c (sub x c e),fun p hp=>absurd hp (by simp [zaa8]),I3.hok.kept old,?_⟩
  · have e2':(zafP σ cap)[i]?=some (some v):=e2
    unfold zafP at e2'
    rw [List.getElem?_map] at e2'
    cases q:cap[i]? with
    | none=>rw [q] at e2'; cases e2'
    | some o=>
     rw [q] at e2'
     cases o with
     | none=>cases e2'
     | some j=>
      have e3:(σ[j]?).join=some v:=by simpa using e2'
      have e4:σ[j]?=some (some v):=by
       cases z:σ[j]? with
       | none=>rw [z] at e3; cases e3
       | some y=>rw [z] at e3; simpa using e3
      obtain ⟨n1,n2,n3,n4⟩:=hcap.get e1 q
      obtain ⟨m,_,hl⟩:=I3.loc
      have hv:Vis X.env.scope x:=.inr n2
      obtain ⟨u,r,lk⟩:=hl j x v n1 e4 hv
      refine ⟨u,r,.inr ⟨n3,?_⟩⟩
      rcases lk with ⟨k,_⟩ | ⟨_,c,ec,ob,z1,z2⟩
      · rcases n2 with n2 | n2 <;> rw [k] at n2 <;> cases n2
      · exact ⟨c,n4.trans ec,ob,old c ob z1,z2⟩
  · obtain ⟨v,o,z1,z2⟩:=I3.cell x c (sub x c e)
    exact ⟨v,o,old c o z1,z2⟩
  · show (zafP σ cap).length=Nc.length
    unfold zafP
    rw [List.length_map]
    exact hcap.length
 obtain ⟨W,⟨m0,w0⟩,turn⟩:=read s.heap.objs.size hD
 rw [hH3] at w0
 have st1:tn 0 h₁:=T.keep 0 _ _ st fun b _ o e=>old b o (old0 b o e)
 have fpY:∀ {H':Hp},(∀ b ∈ fp,H' b=none)->∀ b ∈ fp,FpOk (zaa8 X Nc scope cl s3.heap.objs.size s3 H3 fp) [] H' b:=fun hn b hb=>
  ⟨hn b hb,(okY.exf b hb).1,okY.exfs b hb,.inl hb,fun x c e=>(okY.exf b hb).2 x c e,fun p hp=>absurd hp (by simp [zaa8])⟩
 have loop:codeAny (model X.prog X.w) X.A (.compLoop (.ListComp elt [⟨tg,iter,ifs,0⟩] scope pos) 0 (.ref it) (.ref s.heap.objs.size) (compEnvC scope cl s3.heap.objs.size X.env)) (RR (.ref s.heap.objs.size) s3.heap.objs.size)
  { s3 with heap:=h₁,toks:=s3.toks + ([]:List (Str × Value)).length }:=by
  refine zanr (fun n s'=>∃ i σ' ys H',Inv (zaa8 X Nc scope cl s3.heap.objs.size s3 H3 fp) [] σ' H' s'/\tn i s'.heap/\(∀ b ∈ fp,H' b=none)/\W i n σ' ys H') ?_ m0 ⟨0,_,[],H3,IY,st1,fpH,w0⟩
  rintro n s4 ⟨i,σ4,ys,H4,I4,st4,fr4,w4⟩
  rcases turn i n σ4 ys H4 w4 with ⟨stop,qn⟩ | ⟨go,step⟩
  · refine thn (T.done (zaa8 X Nc scope cl s3.heap.objs.size s3 H3 fp) rfl rfl rfl hc i [] s4 σ4 H4 _ I4 (fpY fr4) st4 stop) fun r s5 ⟨hr,I5⟩=>?_
    subst hr
    have I6:Inv X pins σ H4 s5:=I3.call' (ch:=fp) I5.os I5.base I5.hok I5.bare fun b hb=>⟨(hf b hb).2.2.2.1,(hf b hb).2.1,(hf b hb).2.2.2.2.1,(hf b hb).2.2.2.2.2⟩
    obtain ⟨m,hn,_⟩:=I5.loc
    exact hRR _ _ s5 H4 m I6 hn I5.free hCL hC0 hCc hCp qn
  · refine thn (T.item (zaa8 X Nc scope cl s3.heap.objs.size s3 H3 fp) rfl rfl rfl hc i [] s4 σ4 H4 _ I4 (fpY fr4) st4 go) fun r s5 ⟨u,hr,h5⟩=>?_
    subst hr
    refine thn h5 fun _ s6 ⟨x,H6,I6,r6,y6,st6,fr6⟩=>?_
    have I6':=I6.pinned (fpY fr6) (T.obj _ _ st6)
    refine thn (hg _ _ _ _ _ s6 σ4 H6 x u _ I6' r6 (step x H6 y6)) fun _ s7 ⟨σ7,H7,I7,q7⟩=>?_
    refine thn (ht _ _ _ _ _ s7 σ7 H7 _ I7 q7) fun b s8 ⟨H8,I8,q8⟩=>?_
    have again:∀ {σ9:St} {H9:Hp} {s9:Shared} {ys9:List V},Inv (zaa8 X Nc scope cl s3.heap.objs.size s3 H3 fp) ([]++zai0 fp s6.heap) σ9 H9 s9->(∃ m',m' < n/\W (i + 1) m' σ9 ys9 H9)->
     ∃ m',m' < n/\∃ i σ' ys H',Inv (zaa8 X Nc scope cl s3.heap.objs.size s3 H3 fp) [] σ' H' s9/\tn i s9.heap/\(∀ b ∈ fp,H' b=none)/\W i m' σ' ys H':=fun {σ9 H9 s9 ys9} I9 ⟨m',hm,w9⟩=>by
     refine ⟨m',hm,i + 1,σ9,ys9,H9,I9.unpinned,T.keep _ _ _ st6 fun b hb o e=>(I9.pin (b,o) (List.mem_append_right _ (List.mem_append_right _ (zagv hb e)))).1,fun b hb=>?_,w9⟩
     obtain ⟨o,e,d⟩:=T.obj _ _ st6 b hb
     exact (I9.pin (b,o) (List.mem_append_right _ (List.mem_append_right _ (zagv hb e)))).2.1
    cases b with
    | false=>
     rw [if_neg Bool.false_ne_true] at q8 ⊢
     exact again I8 q8
    | true=>
     rw [if_pos rfl] at q8 ⊢
     refine thn (he _ _ _ _ _ s8 σ7 H8 _ I8 q8) fun y s9 ⟨v,H9,I9,r9,d9,z9,w9⟩=>?_
     refine thn (zalL (X:=zaa8 X Nc scope cl s3.heap.objs.size s3 H3 fp) _ s9 σ7 H9 (.ref s.heap.objs.size) [v] (.ref s.heap.objs.size) [y] (fun _ H'=>H'=upd H9 s.heap.objs.size (.lst (ys++[v]))) I9 rfl (.cons r9 .nil) ⟨_,ys,v,rfl,rfl,d9,z9,rfl⟩) fun _ s10 ⟨_,H10,I10,_,e10⟩=>?_
     subst e10
     exact again I10 w9
 exact codeAny_compStart_list loop (T.self X.A 0 _ _ _ st1 loop)
theorem zan6 (hc:X.calm=true) (hi:PI X tg iter wi) (hcl:zadw X.env.cells scope.names []=some cl) (hcell:∀ y ∈ scope.names,y.2 ≠ .cell) (hkind:scope.kind=.function)
 (hnames:∀ y ∈ scope.names,y.2=.local->scope.names.lookup y.1=some .local) (hcap:CapOk X scope cl Nc cap)
 (hg:∀ C s0 H0 fp,PG (zaa8 X Nc scope cl C s0 H0 fp) tg g) (ht:∀ C s0 H0 fp,PIfs (zaa8 X Nc scope cl C s0 H0 fp) ifs tc) (he:∀ C s0 H0 fp,PE (zaa8 X Nc scope cl C s0 H0 fp) elt te)
 (hs:∀ x,foldedSetIterable iter X.env x=pure x:=by intro _; rfl):PE X (.ListComp elt [⟨tg,iter,ifs,0⟩] scope pos) (zapd wi g tc te cap):=by
 intro pins s σ H Q I h
 rw [eval_ListComp]
 refine wpAny_comprehension_free (use:=none) rfl hs (zakF hcl) hkind hnames (thn (hi pins s σ H _ I h) fun v s1 h1=>thn h1 fun itv s2 h2=>?_)
 obtain ⟨it,fp,tn,J,H2,e,I2,T,st2,f2,read⟩:=h2
 subst e
 refine zaky hc hcl hcell hkind hcap hg ht he I2 T st2 f2 read fun C D s' H' m I' hn n1 n2 n3 n4 n5 q=>?_
 refine ⟨m,hn,fun h' hs'=>⟨.ref D,H',?_,rfl,q⟩⟩
 exact I'.turned (t':=s'.toks) (fun b o hb e=>hs'.extBut b o hb e) n1 n2 (.inr n3) n4 n5
theorem zakd {i:Nat} {y:Str} {py spos:Pos} (hc:X.calm=true) (hN:X.N.Nodup) (hiN:X.N[i]?=some y) (hy:X.env.scope.names.lookup y=some .local) (hi:PI X tg iter wi) (hcl:zadw X.env.cells scope.names []=some cl) (hcell:∀ y ∈ scope.names,y.2 ≠ .cell) (hkind:scope.kind=.function)
 (hnames:∀ y ∈ scope.names,y.2=.local->scope.names.lookup y.1=some .local) (hcap:CapOk X scope cl Nc cap)
 (hg:∀ C s0 H0 fp,PG (zaa8 X Nc scope cl C s0 H0 fp) tg g) (ht:∀ C s0 H0 fp,PIfs (zaa8 X Nc scope cl C s0 H0 fp) ifs tc) (he:∀ C s0 H0 fp,PE (zaa8 X Nc scope cl C s0 H0 fp) elt te)
 (hsw:swapsWith (.ListComp elt [⟨tg,iter,ifs,0⟩] scope pos) (some (.Name y py)) spos.line X.env=pure true)
 (hs:∀ x,foldedSetIterable iter X.env x=pure x:=by intro _; rfl):PS X (.Assign [.Name y py] (.ListComp elt [⟨tg,iter,ifs,0⟩] scope pos) spos) (tAsg (zapd wi g tc te cap) (zamq i)):=by
 intro pins s σ H D I h
 rw [exec_Assign_Name_used _ _ _ _ hsw]
 refine wpAny_bind (wpAny_standAt (wpAny_bind ?_))
 show wpAny _ X.A (do let _ <- comprehension (.ListComp elt [⟨tg,iter,ifs,0⟩] scope pos) scope X.env _ (newList []) false (eval iter X.env) (some (assign (.Name y py) X.env))) _ _ s
 refine wpAny_bind (wpAny_mono (wpAny_comprehension_free (use:=some (assign (.Name y py) X.env)) (Q:=fun _ s'=>SP X pins D .next s') rfl hs (zakF hcl) hkind hnames
  (thn (hi pins s σ H _ I h) fun v s1 h1=>thn h1 fun itv s2 h2=>?_)) (fun _ s' hq=>wpAny_pure (wpAny_pure hq)) fun _ _ e=>e)
 obtain ⟨it,fp,tn,J,H2,e,I2,T,st2,f2,read⟩:=h2
 subst e
 refine zaky (Q:=fun x H1=>zamq i x σ H1 D.nx) hc hcl hcell hkind hcap hg ht he I2 T st2 f2 read fun C Dd s' H' m I' hn n1 n2 n3 n4 n5 q=>?_
 show wpAny _ X.A (assign (.Name y py) X.env (.ref Dd)) _ _ _
 refine wpAny_assign_Name (zalC I' hN hiN (.inl hy) (v:=.ref Dd) rfl (fun s4 I4 ⟨a,sb,ha⟩=>?_) (.inr hy))
 have hCa:C ≠ a:=by
  rcases ha with ha | ha
  · rw [ha]; exact n2
  · exact fun z=>n4 _ _ ha z.symm
 refine ⟨m,hn.sameBut sb hCa,fun h' hs'=>⟨_,H',?_,q⟩⟩
 exact I4.turned (t':=s4.toks) (fun b o hb e=>hs'.extBut b o hb e) n1 n2 (.inr n3) n4 n5
end
end L2
namespace SM
open PySem PySem.Spec PyProof.Rows L2
noncomputable def zac9 (bd:RG) (tc:RT) (te:RE) (s:Src):Nat->Nat->LI->HI->List Dt->Option (List Dt × HI)
 | 0,_,_,_,_=>none
 | k + 1,i,l,h,ys=>match s.at h i with
  | none=>none
  | some none=>some (ys,h)
  | some (some d)=>(bd d l).bind fun l1=>(tc l1 h).bind fun b=>if b.1=true then (te l1 b.2).bind fun r=>if ys.length < sizeLine then zac9 bd tc te s k (i + 1) l1 r.2 (ys++[r.1]) else none
   else zac9 bd tc te s k (i + 1) l1 b.2 ys
noncomputable def capI (l:LI) (cap:List (Option Nat)):LI:=cap.map fun o=>match o with | some j=>(l[j]?).join | none=>none
noncomputable def zada (g:RI) (bd:RG) (tc:RT) (te:RE) (cap:List (Option Nat)):RE:=fun l h=>(g l h).bind fun r=>(zac9 bd tc te r.1 (r.1.fuel r.2) 0 (capI l cap) r.2 []).bind fun q=>some (.lst q.1,q.2)
noncomputable def zafb (g:RI) (bd:RG) (tc:RT) (te:RE) (cap:List (Option Nat)):RE:=fun l h=>(g l h).bind fun r=>(zac9 bd tc te r.1 (r.1.fuel r.2) 0 (capI l cap) r.2 []).bind fun q=>some (.ref q.2.length,q.2++[.lst q.1])
noncomputable def zabh:RT:=fun _ h=>some (true,h)
theorem zaty {K:PySem.W.Frag} {H:Hp} {ρ:Rg} {l:LI} {σ:L2.St} (L:SimL K H ρ l σ) (cap:List (Option Nat)):SimL K H ρ (capI l cap) (zafP σ cap):=by
 refine ⟨by simp [capI,zafP],fun i d e=>?_⟩
 unfold capI at e
 unfold zafP
 rw [List.getElem?_map] at e ⊢
 cases q:cap[i]? with
 | none=>rw [q] at e; cases e
 | some o=>
  rw [q] at e
  cases o with
  | none=>cases e
  | some j=>
   have e3:(l[j]?).join=some d:=by simpa using e
   have e4:l[j]?=some (some d):=by
    cases z:l[j]? with
    | none=>rw [z] at e3; cases e3
    | some y=>rw [z] at e3; simpa using e3
   obtain ⟨v,g1,g2⟩:=L.val j d e4
   refine ⟨v,?_,g2⟩
   simp [g1]
section
variable {X:Cx} {elt iter tg:Expr} {ifs:List Expr} {scope:Scope} {cl:List (Str × Addr)} {pos:Pos} {Nc:List Str} {g:RI} {bd:RG} {tc:RT} {te:RE} {cap:List (Option Nat)}
@[irreducible] noncomputable def CM (X:Cx) (ifs:List Expr) (f:RT):Prop:=PIfs X ifs (tMT X.K f)
theorem zadL:CM X [] zabh:=by
 with_unfolding_all
  exact fun pins s σ H Q I q=>by
   obtain ⟨ρ,l,h,b,h',S,L,e,k⟩:=q
   cases e
   exact zarv pins s σ H Q I (k ρ H S (Ext.refl _ _))
theorem zakB {c:Expr} {f:RT} (h:TM X c f):CM X [c] f:=by
 with_unfolding_all
  exact zarZ h
end
section
variable {K:PySem.W.Frag} {H:Hp} {ρ:Rg} {p:Addr} {o:HO} {h:HI}
theorem zat1 {a:Addr} {u:HO} (hp:H p=none) (e:H a=some u) (n:ρ.no a):(ρ.hide p).no a:=
 ⟨n.1,fun z=>by
  rcases List.mem_cons.mp z with z | z
  · rw [z,hp] at e
    cases e
  · exact n.2 z⟩
theorem Ext.unhide {τ:Rg} {H':Hp} (x:Ext (ρ.hide p) τ H H'):∃ ρ',τ=ρ'.hide p/\Ext ρ ρ' H H':=by
 refine ⟨⟨τ.v,ρ.z⟩,?_,⟨x.pre,rfl,x.keep,x.live,x.fz⟩⟩
 have e:=x.hid
 cases τ with
 | mk v z=>
  have e':z=p::ρ.z:=e
  subst e'
  rfl
theorem Ext.updNew {ρ':Rg} {H':Hp} (x:Ext ρ ρ' H H') (hp:H p=none):Ext ρ ρ' H (upd H' p o):=
 ⟨x.pre,x.hid,fun a u e n=>by rw [zaaA (zaaU e hp)]; exact x.keep a u e n,fun a e=>by
  by_cases ha:a=p
  · rw [ha]
    exact hp
  · rw [zaaA ha] at e
    exact x.live a e,fun a q u e=>by rw [zaaA (zaaU e hp)]; exact x.fz a q u e⟩
theorem ObAt.same {ρ':Rg} {H':Hp} {a:Addr} {u:Ob} (x:Same2 ρ ρ' H H') (e:H' a=H a) (q:ObAt K H ρ a u):ObAt K H' ρ' a u:=by
 cases u with
 | lst xs=>
  obtain ⟨vs,h1,h2⟩:=q
  exact ⟨vs,e.trans h1,RelDs.same x _ h2⟩
 | ins y fs=>
  obtain ⟨C,dx,vs,h0,h1,h2,h3⟩:=q
  exact ⟨C,dx,vs,h0,e.trans h1,h2,RelDs.same x _ h3⟩
 | dk kvs=>
  obtain ⟨vs,h1,h2,h3⟩:=q
  exact ⟨vs,e.trans h1,h2,RelDs.same x _ h3⟩
 | dt kvs=>
  obtain ⟨vs,h1,h2,h3⟩:=q
  exact ⟨vs,e.trans h1,h2,RelDs.same x _ h3⟩
 | df kvs=>
  obtain ⟨o,vs,h1,h2,h3⟩:=q
  exact ⟨o,vs,e.trans h1,h2,RelDs.same x _ h3⟩
theorem SimL.same {ρ':Rg} {H':Hp} {l:LI} {σ:L2.St} (x:Same2 ρ ρ' H H') (L:SimL K H ρ l σ):SimL K H' ρ' l σ:=
 ⟨L.len,fun i d e=>let ⟨v,e1,r⟩:=L.val i d e; ⟨v,e1,RelD.same x d r⟩⟩
theorem zal5 (hp:H p=none):Same2 ρ (ρ.hide p) H (upd H p o):=
 ⟨fun _ _ e n=>zat1 hp e n,fun a u e _=>by rw [zaaA (zaaU e hp)]; exact e,fun _ _ e=>e,fun a q u e=>by rw [zaaA (zaaU e hp)]; exact e⟩
theorem zah5 {o:HO} (nf:Nfz H p):Same2 (ρ.hide p) (ρ.hide p) H (upd H p o):=
 ⟨fun _ _ _ n=>n,fun a u e n=>by rw [zaaA (fun z=>n.2 (by rw [z]; exact List.mem_cons_self))]; exact e,fun _ _ e=>e,fun a q u e=>by rw [zaaA (fun z:a=p=>nf q u (by rw [<- z]; exact e))]; exact e⟩
theorem zalQ:Same2 (ρ.hide p) ρ H H:=⟨fun _ _ _ n=>⟨n.1,fun z=>n.2 (List.mem_cons_of_mem _ z)⟩,fun _ _ e _=>e,fun _ _ e=>e,fun _ _ _ e=>e⟩
theorem zans:Same2 (ρ.hide p) (ρ.add p) H H:=
 ⟨fun a _ _ n=>⟨fun z=>(List.mem_append.mp z).elim n.1 fun z=>n.2 (by rw [List.mem_singleton.mp z]; exact List.mem_cons_self),fun z=>n.2 (List.mem_cons_of_mem _ z)⟩,fun _ _ e _=>e,fun n a e=>by
  have e':ρ.v[n]?=some a:=e
  have:=(List.getElem?_eq_some_iff.mp e').1
  show (ρ.v++[p])[n]?=some a
  rw [List.getElem?_append_left this]
  exact e',fun _ _ _ e=>e⟩
theorem SimH.hide {xs:List V} (S:SimH K ρ h H) (hp:H p=none):SimH K (ρ.hide p) h (upd H p (.lst xs)):=
 ⟨S.nd,S.len,fun n a u e1 e2=>(S.ob n a u e1 e2).same (zal5 hp) (zaaA (fun z=>(S.out hp).1 (z ▸ List.mem_of_getElem? e1))),fun a ha=>by
  rcases List.mem_cons.mp ha with z | z
  · rw [z]
    exact ⟨(S.out hp).1,xs,zaa6⟩
  · obtain ⟨m,u,e⟩:=S.zt a z
    exact ⟨m,u,by rw [zaaA (zaaU e hp)]; exact e⟩⟩
theorem SimH.hwrite {xs:List V} (S:SimH K (ρ.hide p) h H):SimH K (ρ.hide p) h (upd H p (.lst xs)):=
 ⟨S.nd,S.len,fun n a u e1 e2=>(S.ob n a u e1 e2).same (zah5 (nfz (S.zt p List.mem_cons_self).2.choose_spec)) (zaaA (fun z=>(S.zt p List.mem_cons_self).1 (z ▸ List.mem_of_getElem? e1))),fun a ha=>by
  obtain ⟨m,u,e⟩:=S.zt a ha
  by_cases hap:a=p
  · subst hap
    exact ⟨m,xs,zaa6⟩
  · exact ⟨m,u,by rw [zaaA hap]; exact e⟩⟩
theorem SimH.show (S:SimH K (ρ.hide p) h H):SimH K ρ h H:=
 ⟨S.nd,S.len,fun n a u e1 e2=>(S.ob n a u e1 e2).same zalQ rfl,fun a ha=>S.zt a (List.mem_cons_of_mem _ ha)⟩
theorem SimH.show_own (S:SimH K (ρ.hide p) h H) (hz:p ∉ ρ.z) {ds:List Dt} {vs:List V} (e:H p=some (.lst vs)) (R:RelDs K H (ρ.hide p) ds vs):SimH K (ρ.add p) (h++[.lst ds]) H:=by
 have nv:=(S.zt p List.mem_cons_self).1
 refine ⟨?_,by simp only [Rg.add]; rw [List.length_append,List.length_append,<- S.len]; rfl,fun n a ob e1 e2=>?_,fun a ha=>?_⟩
 · simp only [Rg.add]
   rw [List.nodup_append]
   refine ⟨S.nd,List.nodup_cons.mpr ⟨by simp,List.nodup_nil⟩,fun a ha b hb=>?_⟩
   rw [List.mem_singleton.mp hb]
   intro z
   exact nv (z ▸ ha)
 · simp only [Rg.add] at e1
   have hl:ρ.v.length=h.length:=S.len
   by_cases hn:n < h.length
   · rw [List.getElem?_append_left hn] at e2
     rw [List.getElem?_append_left (by rw [hl]; exact hn)] at e1
     exact (S.ob n a ob e1 e2).same zans rfl
   · have hn':h.length<=n:=Nat.not_lt.mp hn
     rw [List.getElem?_append_right hn'] at e2
     rw [List.getElem?_append_right (by rw [hl]; exact hn'),hl] at e1
     cases hk:n - h.length with
     | zero=>
      rw [hk] at e1 e2
      simp at e1 e2
      subst e1 e2
      exact ⟨vs,e,RelDs.same zans _ R⟩
     | succ k=>
      rw [hk] at e2
      simp at e2
 · obtain ⟨n,u,e'⟩:=S.zt a (List.mem_cons_of_mem _ ha)
   refine ⟨fun hm=>?_,u,e'⟩
   rcases List.mem_append.mp hm with hm | hm
   · exact n hm
   · exact hz ((List.mem_singleton.mp hm) ▸ ha)
end
section
variable {X:Cx} {elt iter tg:Expr} {ifs:List Expr} {scope:Scope} {cl:List (Str × Addr)} {pos:Pos} {Nc:List Str} {g:RI} {bd:RG} {tc:RT} {te:RE} {cap:List (Option Nat)}
theorem zahe {σ:L2.St} {H:Hp} {Q:VK} (own:Bool) {d:Dt} {h':HI} {ρ:Rg} {l:LI} {h:HI} (S:SimH X.K ρ h H) (L:SimL X.K H ρ l σ)
 (e:(if own=true then zafb g bd tc te cap else zada g bd tc te cap) l h=some (d,h')) (k:Out X.K ρ H d h' Q):zapd (iM X.K g) (gM X.K bd) (tMT X.K tc) (tM X.K te) cap σ H Q:=by
 have e0:∃ s1 h1,g l h=some (s1,h1)/\∃ ys h2,zac9 bd tc te s1 (s1.fuel h1) 0 (capI l cap) h1 []=some (ys,h2)/\h'=(if own=true then h2++[.lst ys] else h2)/\d=(if own=true then .ref h2.length else .lst ys):=by
  cases own with
  | true=>
   rw [if_pos rfl] at e
   obtain ⟨⟨s1,h1⟩,e1,e⟩:=zaal e
   obtain ⟨⟨ys,h2⟩,e2,e⟩:=zaal e
   cases e
   exact ⟨s1,h1,e1,ys,h2,e2,rfl,rfl⟩
  | false=>
   rw [if_neg Bool.false_ne_true] at e
   obtain ⟨⟨s1,h1⟩,e1,e⟩:=zaal e
   obtain ⟨⟨ys,h2⟩,e2,e⟩:=zaal e
   cases e
   exact ⟨s1,h1,e1,ys,h2,e2,rfl,rfl⟩
 obtain ⟨s1,h1,e1,zs,h2,e2,eh,ed⟩:=e0
 refine ⟨ρ,l,h,s1,h1,S,L,e1,fun ρ1 J H1 ok S1 E1 D hD=>?_⟩
 have hDz:D ∉ ρ1.z:=(S1.out hD).2
 refine ⟨fun i m σ' ys H'=>∃ ρ' l' h' ds,SimH X.K (ρ'.hide D) h' H'/\SimL X.K H' (ρ'.hide D) l' σ'/\Ext ρ1 ρ' H1 H'/\H' D=some (.lst ys)/\RelDs X.K H' (ρ'.hide D) ds ys/\zac9 bd tc te s1 m i l' h' ds=some (zs,h2),?_,?_⟩
 · exact ⟨_,ρ1,_,h1,[],S1.hide hD,zaty (SimL.same (zal5 hD) (L.ext E1)) cap,Ext.fresh hD,zaa6,.nil,e2⟩
 · rintro i m σ' ys H' ⟨ρ',l',h3,ds,S',L',E',hD',R',e'⟩
   cases m with
   | zero=>simp only [zac9] at e'; cases e'
   | succ m=>
    simp only [zac9] at e'
    have sm:Same2 ρ1 (ρ'.hide D) H1 H':=⟨fun a u z n=>⟨(E'.notin z n).1,fun w=>by
     rcases List.mem_cons.mp w with w | w
     · rw [w,hD] at z
       cases z
     · exact (E'.notin z n).2 w⟩,fun a u z n=>E'.keep a u z n.1,fun n a z=>E'.get z,E'.fz⟩
    have ok':=ok H' (ρ'.hide D) h3 sm S' i
    cases q:s1.at h3 i with
    | none=>rw [q] at e'; cases e'
    | some o=>
     rw [q] at e' ok'
     cases o with
     | none=>
      cases e'
      refine .inl ⟨ok',?_⟩
      have nD:ρ'.no D:=⟨(S'.zt D List.mem_cons_self).1,by rw [E'.hid]; exact hDz⟩
      cases own with
      | false=>
       rw [if_neg Bool.false_ne_true] at eh ed
       subst eh ed
       exact k ρ' _ H' (rel_lst.mpr ⟨D,ys,rfl,.inl ⟨nD,.inl hD'⟩,RelDs.same zalQ _ R'⟩) S'.show (E1.trans E')
      | true=>
       rw [if_pos rfl] at eh ed
       subst eh ed
       refine k (ρ'.add D) _ H' (rel_ref.mpr ⟨D,rfl,?_⟩) (S'.show_own nD.2 hD' R') (E1.trans ⟨?_,E'.hid,E'.keep,E'.live,E'.fz⟩)
       · have hl:ρ'.v.length=h2.length:=S'.len
         show (ρ'.v++[D])[h2.length]?=some D
         rw [<- hl,List.getElem?_append_right (Nat.le_refl _),Nat.sub_self]
         rfl
       · obtain ⟨x,q1,q2⟩:=E'.pre
         refine ⟨x++[D],by show ρ'.v++[D]=_; rw [q1,List.append_assoc],fun a ha=>?_⟩
         rcases List.mem_append.mp ha with ha | ha
         · exact q2 a ha
         · rw [List.mem_singleton.mp ha]
           exact hD
     | some d0=>
      dsimp only at e'
      obtain ⟨l1,b1,e'⟩:=zaal e'
      obtain ⟨⟨b,h4⟩,b2,e'⟩:=zaal e'
      refine .inr ⟨ok'.1,fun v H3 y=>?_⟩
      obtain ⟨R3,E3,S3⟩:=ok'.2 v H3 y
      have nDv:=(S'.zt D List.mem_cons_self).1
      refine ⟨ρ'.hide D,l',h3,d0,l1,S3,L'.ext E3,R3,b1,fun σ4 L4=>⟨ρ'.hide D,l1,h3,b,h4,S3,L4,b2,fun ρ5 H5 S5 E5=>?_⟩⟩
      cases b with
      | true=>
       dsimp only at e'
       rw [if_pos rfl] at e'
       obtain ⟨⟨d5,h5⟩,b3,e'⟩:=zaal e'
       by_cases hz:ds.length < sizeLine
       · rw [if_pos hz] at e'
         refine iteT ⟨ρ5,l1,h4,d5,h5,S5,L4.ext E5,b3,fun ρ6 v6 H6 R6 S6 E6=>⟨?_,by rw [R'.length]; exact hz,m,Nat.lt_succ_self _,?_⟩⟩
         · exact (E3.trans (E5.trans E6)).keep D _ hD' nDv
         · obtain ⟨ρ7,rfl,E7⟩:=(E3.trans (E5.trans E6)).unhide
           refine ⟨ρ7,l1,h5,ds++[d5],S6.hwrite,SimL.same (zah5 (nfz (S6.zt D List.mem_cons_self).2.choose_spec)) (L4.ext (E5.trans E6)),(E'.trans E7).updNew hD,zaa6,?_,e'⟩
           exact RelDs.same (zah5 (nfz (S6.zt D List.mem_cons_self).2.choose_spec)) _ ((R'.ext (E3.trans (E5.trans E6))).append (.cons R6 .nil))
       · rw [if_neg hz] at e'
         cases e'
      | false=>
       dsimp only at e'
       rw [if_neg Bool.false_ne_true] at e'
       refine iteF ⟨m,Nat.lt_succ_self _,?_⟩
       obtain ⟨ρ7,rfl,E7⟩:=(E3.trans E5).unhide
       exact ⟨ρ7,l1,h4,ds,S5,L4.ext E5,E'.trans E7,(E3.trans E5).keep D _ hD' nDv,R'.ext (E3.trans E5),e'⟩
theorem zad6 (hc:X.calm=true) (hi:IM X tg iter g) (hcell:∀ y ∈ scope.names,y.2 ≠ .cell) (hkind:scope.kind=.function)
 (hnames:∀ y ∈ scope.names,y.2=.local->scope.names.lookup y.1=some .local) (hcl:zadw X.env.cells scope.names []=some cl) (hcap:CapOk X scope cl Nc cap)
 (hg:∀ C s0 H0 fp,GM (zaa8 X Nc scope cl C s0 H0 fp) tg bd) (ht:∀ C s0 H0 fp,CM (zaa8 X Nc scope cl C s0 H0 fp) ifs tc) (he:∀ C s0 H0 fp,EM (zaa8 X Nc scope cl C s0 H0 fp) elt te)
 (hs:∀ x,foldedSetIterable iter X.env x=pure x:=by intro _; rfl):EM X (.ListComp elt [⟨tg,iter,ifs,0⟩] scope pos) (zada g bd tc te cap):=by
 with_unfolding_all
  exact PE.imp (zan6 (g:=gM X.K bd) (tc:=tMT X.K tc) (te:=tM X.K te) hc hi hcl hcell hkind hnames hcap hg ht he hs) fun σ H Q ⟨ρ,l,h,d,h',S,L,e,k⟩=>zahe (X:=X) false S L e k
theorem zar7 (hc:X.calm=true) (hi:IM X tg iter g) (hcell:∀ y ∈ scope.names,y.2 ≠ .cell) (hkind:scope.kind=.function)
 (hnames:∀ y ∈ scope.names,y.2=.local->scope.names.lookup y.1=some .local) (hcl:zadw X.env.cells scope.names []=some cl) (hcap:CapOk X scope cl Nc cap)
 (hg:∀ C s0 H0 fp,GM (zaa8 X Nc scope cl C s0 H0 fp) tg bd) (ht:∀ C s0 H0 fp,CM (zaa8 X Nc scope cl C s0 H0 fp) ifs tc) (he:∀ C s0 H0 fp,EM (zaa8 X Nc scope cl C s0 H0 fp) elt te)
 (hs:∀ x,foldedSetIterable iter X.env x=pure x:=by intro _; rfl):EM X (.ListComp elt [⟨tg,iter,ifs,0⟩] scope pos) (zafb g bd tc te cap):=by
 with_unfolding_all
  exact PE.imp (zan6 (g:=gM X.K bd) (tc:=tMT X.K tc) (te:=tM X.K te) hc hi hcl hcell hkind hnames hcap hg ht he hs) fun σ H Q ⟨ρ,l,h,d,h',S,L,e,k⟩=>zahe (X:=X) true S L e k
theorem zaij (i:Nat) {y:Str} {py spos:Pos} (hc:X.calm=true) (hN:X.N.Nodup) (hi:IM X tg iter g) (hcell:∀ y ∈ scope.names,y.2 ≠ .cell) (hkind:scope.kind=.function)
 (hnames:∀ y ∈ scope.names,y.2=.local->scope.names.lookup y.1=some .local) (hcl:zadw X.env.cells scope.names []=some cl) (hcap:CapOk X scope cl Nc cap)
 (hg:∀ C s0 H0 fp,GM (zaa8 X Nc scope cl C s0 H0 fp) tg bd) (ht:∀ C s0 H0 fp,CM (zaa8 X Nc scope cl C s0 H0 fp) ifs tc) (he:∀ C s0 H0 fp,EM (zaa8 X Nc scope cl C s0 H0 fp) elt te)
 (hsw:swapsWith (.ListComp elt [⟨tg,iter,ifs,0⟩] scope pos) (some (.Name y py)) spos.line X.env=pure true)
 (hiN:X.N[i]?=some y:=by rfl) (hy:X.env.scope.names.lookup y=some .local:=by rfl) (hs:∀ x,foldedSetIterable iter X.env x=pure x:=by intro _; rfl) :
 ZM X (.Assign [.Name y py] (.ListComp elt [⟨tg,iter,ifs,0⟩] scope pos) spos) (sSet i (zada g bd tc te cap)):=by
 with_unfolding_all
  exact PS.imp (zakd (g:=gM X.K bd) (tc:=tMT X.K tc) (te:=tM X.K te) hc hN hiN hy hi hcl hcell hkind hnames hcap hg ht he hsw hs) fun D σ H ⟨ρ,l,h,r,S,L,e,k⟩=>by
   obtain ⟨⟨d1,h1⟩,e1,e⟩:=zaal e
   cases e
   exact zahe (X:=X) false S L e1 fun ρ1 v H1 R1 S1 E1=>k ρ1 _ H1 S1 ((L.ext E1).set i R1) E1
theorem zahs (i:Nat) {y:Str} {py spos:Pos} (hc:X.calm=true) (hN:X.N.Nodup) (hi:IM X tg iter g) (hcell:∀ y ∈ scope.names,y.2 ≠ .cell) (hkind:scope.kind=.function)
 (hnames:∀ y ∈ scope.names,y.2=.local->scope.names.lookup y.1=some .local) (hcl:zadw X.env.cells scope.names []=some cl) (hcap:CapOk X scope cl Nc cap)
 (hg:∀ C s0 H0 fp,GM (zaa8 X Nc scope cl C s0 H0 fp) tg bd) (ht:∀ C s0 H0 fp,CM (zaa8 X Nc scope cl C s0 H0 fp) ifs tc) (he:∀ C s0 H0 fp,EM (zaa8 X Nc scope cl C s0 H0 fp) elt te)
 (hsw:swapsWith (.ListComp elt [⟨tg,iter,ifs,0⟩] scope pos) (some (.Name y py)) spos.line X.env=pure true)
 (hiN:X.N[i]?=some y:=by rfl) (hy:X.env.scope.names.lookup y=some .local:=by rfl) (hs:∀ x,foldedSetIterable iter X.env x=pure x:=by intro _; rfl) :
 ZM X (.Assign [.Name y py] (.ListComp elt [⟨tg,iter,ifs,0⟩] scope pos) spos) (sSet i (zafb g bd tc te cap)):=by
 with_unfolding_all
  exact PS.imp (zakd (g:=gM X.K bd) (tc:=tMT X.K tc) (te:=tM X.K te) hc hN hiN hy hi hcl hcell hkind hnames hcap hg ht he hsw hs) fun D σ H ⟨ρ,l,h,r,S,L,e,k⟩=>by
   obtain ⟨⟨d1,h1⟩,e1,e⟩:=zaal e
   cases e
   exact zahe (X:=X) true S L e1 fun ρ1 v H1 R1 S1 E1=>k ρ1 _ H1 S1 ((L.ext E1).set i R1) E1
end
end SM
namespace L2
open PySem PySem.Spec PyProof.Rows
section
variable {X:Cx} {elt iter tg:Expr} {ifs:List Expr} {scope:Scope} {cl:List (Str × Addr)} {pos:Pos} {Nc:List Str} {wi:TI} {g:TG} {tc:TT} {te:TE} {cap:List (Option Nat)} {x0:Str}
end
end L2
namespace SM
open PySem PySem.Spec PyProof.Rows L2
section
variable {X:Cx} {elt iter tg:Expr} {ifs:List Expr} {scope:Scope} {cl:List (Str × Addr)} {pos:Pos} {Nc:List Str} {g:RI} {bd:RG} {tc:RT} {te:RE} {cap:List (Option Nat)} {x0:Str}
end
end SM
namespace SM
open PySem PySem.Spec PyProof.Rows L2
mutual
noncomputable def zaa0:Dt->Bool
 | .tup xs=>zabF xs
 | .lst xs=>zabF xs
 | .ref _=>false
 | .ntp _=>false
 | _=>true
noncomputable def zabF:List Dt->Bool
 | []=>true
 | x::xs=>zaa0 x && zabF xs
end
mutual
noncomputable def depD:Dt->Nat
 | .tup xs=>zaee xs + 1
 | .lst xs=>zaee xs + 1
 | _=>0
noncomputable def zaee:List Dt->Nat
 | []=>0
 | x::xs=>max (depD x) (zaee xs)
end
mutual
noncomputable def eqD:Dt->Dt->Bool
 | .non,.non=>true
 | .bl a,.bl b=>a == b
 | .bl a,.int b=>(if a then 1 else 0) == b
 | .int a,.bl b=>a == (if b then 1 else 0)
 | .int a,.int b=>a == b
 | .str a,.str b=>a == b
 | .tup xs,.tup ys=>eqDs xs ys
 | .lst xs,.lst ys=>eqDs xs ys
 | _,_=>false
noncomputable def eqDs:List Dt->List Dt->Bool
 | [],[]=>true
 | x::xs,y::ys=>eqD x y && eqDs xs ys
 | _,_=>false
end
mutual
theorem zajQ:∀ d:Dt,zaa0 d=true->eqD d d=true
 | .non,_=>by simp only [eqD]
 | .bl b,_=>by simp only [eqD,beq_self_eq_true]
 | .int i,_=>by simp only [eqD,beq_self_eq_true]
 | .str x,_=>by simp only [eqD,beq_self_eq_true]
 | .tup xs,h=>by simp only [eqD]; exact zaiD xs (by simpa only [zaa0] using h)
 | .lst xs,h=>by simp only [eqD]; exact zaiD xs (by simpa only [zaa0] using h)
 | .ref _,h=>by simp [zaa0] at h
 | .ntp _,h=>by simp [zaa0] at h
theorem zaiD:∀ ds:List Dt,zabF ds=true->eqDs ds ds=true
 | [],_=>by simp only [eqDs]
 | d::ds,h=>by
  simp only [zabF,Bool.and_eq_true] at h
  simp only [eqDs,Bool.and_eq_true]
  exact ⟨zajQ d h.1,zaiD ds h.2⟩
end
section
variable {X:Cx} {pins:List (Addr × Obj)} {σ:L2.St} {H:Hp} {s:Shared} {ρ:Rg}
mutual
theorem zak3 (I:Inv X pins σ H s):∀ (d d':Dt) {v:V},zaa0 d=true->zaa0 d'=true->RelD X.K H ρ d v->RelD X.K H ρ d' v->d=d'
 | .non,d',v,_,p,r,r'=>by
  have e:=rel_non.mp r
  subst e
  cases d' with
  | non=>rfl
  | bl b=>have:=rel_bl.mp r'; cases this
  | int b=>have:=rel_int.mp r'; cases this
  | str b=>have:=rel_str.mp r'; cases this
  | tup b=>obtain ⟨_,_,z,_⟩:=rel_tup.mp r'; cases z
  | lst b=>obtain ⟨_,_,z,_⟩:=rel_lst.mp r'; cases z
  | ref b=>obtain ⟨_,z,_⟩:=rel_ref.mp r'; cases z
  | ntp b=>obtain ⟨_,z,_⟩:=rel_ntp.mp r'; cases z
 | .bl i,d',v,_,p,r,r'=>by
  have e:=rel_bl.mp r
  subst e
  cases d' with
  | non=>have:=rel_non.mp r'; cases this
  | bl b=>have:=rel_bl.mp r'; cases this; rfl
  | int b=>have:=rel_int.mp r'; cases this
  | str b=>have:=rel_str.mp r'; cases this
  | tup b=>obtain ⟨_,_,z,_⟩:=rel_tup.mp r'; cases z
  | lst b=>obtain ⟨_,_,z,_⟩:=rel_lst.mp r'; cases z
  | ref b=>obtain ⟨_,z,_⟩:=rel_ref.mp r'; cases z
  | ntp b=>obtain ⟨_,z,_⟩:=rel_ntp.mp r'; cases z
 | .int i,d',v,_,p,r,r'=>by
  have e:=rel_int.mp r
  subst e
  cases d' with
  | non=>have:=rel_non.mp r'; cases this
  | bl b=>have:=rel_bl.mp r'; cases this
  | int b=>have:=rel_int.mp r'; cases this; rfl
  | str b=>have:=rel_str.mp r'; cases this
  | tup b=>obtain ⟨_,_,z,_⟩:=rel_tup.mp r'; cases z
  | lst b=>obtain ⟨_,_,z,_⟩:=rel_lst.mp r'; cases z
  | ref b=>obtain ⟨_,z,_⟩:=rel_ref.mp r'; cases z
  | ntp b=>obtain ⟨_,z,_⟩:=rel_ntp.mp r'; cases z
 | .str i,d',v,_,p,r,r'=>by
  have e:=rel_str.mp r
  subst e
  cases d' with
  | non=>have:=rel_non.mp r'; cases this
  | bl b=>have:=rel_bl.mp r'; cases this
  | int b=>have:=rel_int.mp r'; cases this
  | str b=>have:=rel_str.mp r'; cases this; rfl
  | tup b=>obtain ⟨_,_,z,_⟩:=rel_tup.mp r'; cases z
  | lst b=>obtain ⟨_,_,z,_⟩:=rel_lst.mp r'; cases z
  | ref b=>obtain ⟨_,z,_⟩:=rel_ref.mp r'; cases z
  | ntp b=>obtain ⟨_,z,_⟩:=rel_ntp.mp r'; cases z
 | .tup xs,d',v,p0,p,r,r'=>by
  obtain ⟨a,vs,e,q,rs⟩:=rel_tup.mp r
  subst e
  cases d' with
  | non=>have:=rel_non.mp r'; cases this
  | bl b=>have:=rel_bl.mp r'; cases this
  | int b=>have:=rel_int.mp r'; cases this
  | str b=>have:=rel_str.mp r'; cases this
  | tup ys=>
   obtain ⟨b,ws,z,q',rs'⟩:=rel_tup.mp r'
   cases z
   have ee:=I.tuple_inj q.sq q'.sq
   subst ee
   rw [zajI I xs ys (by simpa only [zaa0] using p0) (by simpa only [zaa0] using p) rs rs']
  | lst ys=>
   obtain ⟨b,ws,z,q',rs'⟩:=rel_lst.mp r'
   cases z
   obtain ⟨_,_,⟨o,e1,e2,_⟩,_⟩:=I.tuple q.sq
   obtain ⟨_,_,⟨o',_,e1',e2',_⟩,_⟩:=I.list q'.sq
   rw [e1] at e1'
   cases e1'
   rw [e2] at e2'
   injection e2' with e3
   exact absurd e3 (by decide)
  | ref b=>simp [zaa0] at p
  | ntp b=>simp [zaa0] at p
 | .lst xs,d',v,p0,p,r,r'=>by
  obtain ⟨a,vs,e,q,rs⟩:=rel_lst.mp r
  subst e
  cases d' with
  | non=>have:=rel_non.mp r'; cases this
  | bl b=>have:=rel_bl.mp r'; cases this
  | int b=>have:=rel_int.mp r'; cases this
  | str b=>have:=rel_str.mp r'; cases this
  | lst ys=>
   obtain ⟨b,ws,z,q',rs'⟩:=rel_lst.mp r'
   cases z
   have ee:=I.list_inj q.sq q'.sq
   subst ee
   rw [zajI I xs ys (by simpa only [zaa0] using p0) (by simpa only [zaa0] using p) rs rs']
  | tup ys=>
   obtain ⟨b,ws,z,q',rs'⟩:=rel_tup.mp r'
   cases z
   obtain ⟨_,_,⟨o,e1,e2,_⟩,_⟩:=I.tuple q'.sq
   obtain ⟨_,_,⟨o',_,e1',e2',_⟩,_⟩:=I.list q.sq
   rw [e1] at e1'
   cases e1'
   rw [e2] at e2'
   injection e2' with e3
   exact absurd e3 (by decide)
  | ref b=>simp [zaa0] at p
  | ntp b=>simp [zaa0] at p
 | .ref _,_,_,p,_,_,_=>by simp [zaa0] at p
 | .ntp _,_,_,p,_,_,_=>by simp [zaa0] at p
theorem zajI (I:Inv X pins σ H s):∀ (ds ds':List Dt) {vs:List V},zabF ds=true->zabF ds'=true->RelDs X.K H ρ ds vs->RelDs X.K H ρ ds' vs->ds=ds'
 | [],[],_,_,_,_,_=>rfl
 | [],d'::ds',_,_,_,r,r'=>by
  rw [r.unnil] at r'
  obtain ⟨_,_,z,_⟩:=r'.uncons
  cases z
 | d::ds,[],_,_,_,r,r'=>by
  rw [r'.unnil] at r
  obtain ⟨_,_,z,_⟩:=r.uncons
  cases z
 | d::ds,d'::ds',_,p,p',r,r'=>by
  simp only [zabF,Bool.and_eq_true] at p p'
  obtain ⟨v,vs,e,r1,r2⟩:=r.uncons
  subst e
  obtain ⟨v',vs',e,r1',r2'⟩:=r'.uncons
  cases e
  rw [zak3 I d d' p.1 p'.1 r1 r1',zajI I ds ds' p.2 p'.2 r2 r2']
end
noncomputable def eqIx (xs ys:List Dt) (j:Nat):Bool:=match xs[j]?,ys[j]? with
 | some x,some y=>eqD x y
 | _,_=>false
theorem zaeO:∀ (xs ys:List Dt),xs.length=ys.length->(List.range xs.length).all (eqIx xs ys)=eqDs xs ys
 | [],[],_=>by simp [eqDs]
 | [],_::_,h=>by simp at h
 | _::_,[],h=>by simp at h
 | x::xs,y::ys,h=>by
  have ih:=zaeO xs ys (by simpa using h)
  rw [List.length_cons,List.range_succ_eq_map,List.all_cons,List.all_map]
  simp only [eqDs]
  rw [<- ih]
  rfl
theorem zae1:∀ (xs ys:List Dt),xs.length ≠ ys.length->eqDs xs ys=false
 | [],[],h=>absurd rfl h
 | [],_::_,_=>by simp only [eqDs]
 | _::_,[],_=>by simp only [eqDs]
 | x::xs,y::ys,h=>by
  simp only [eqDs]
  rw [zae1 xs ys (fun z=>h (by simp [z])),Bool.and_false]
theorem zaiU (A:Around):A.in1.units<=A.units + 1:=by
 first | exact Nat.le_refl _ | simp [Around.in1]
theorem zabl {h:Heap} {a:Addr} {its:Array Value} (p:IsTup h a its):h.IsTuple a its:=by
 obtain ⟨o,h1,h2,n,h3⟩:=p
 exact ⟨o,h1,h2,n,h3⟩
mutual
theorem zava (I:Inv X pins σ H s):∀ (d d':Dt) {v v':V} {u u':Value} (A:Around),zaa0 d=true->zaa0 d'=true->A.units + depD d < cLine->RelD X.K H ρ d v->RelD X.K H ρ d' v'->RelV v u->RelV v' u'->SeqAt.EqAt A s u u' (eqD d d')
 | .tup xs,d',v,v',u,u',A,p,p',hu,r,r',q,q'=>by
  obtain ⟨a,vs,e,t,rs⟩:=rel_tup.mp r
  subst e
  cases q
  simp only [depD] at hu
  have hu0:A.units < cLine:=by omega
  obtain ⟨its,rv,tp,_⟩:=I.tuple t.sq
  cases d' with
  | non=>cases rel_non.mp r'; cases q'; simpa only [eqD] using SeqAt.EqAt.tuple_none (zabl tp) hu0
  | bl b=>cases rel_bl.mp r'; cases q'; simpa only [eqD] using SeqAt.EqAt.tuple_bool b (zabl tp) hu0
  | int b=>cases rel_int.mp r'; obtain ⟨t',rfl⟩:=q'; simpa only [eqD] using SeqAt.EqAt.tuple_int b t' (zabl tp) hu0
  | str b=>cases rel_str.mp r'; obtain ⟨t',rfl⟩:=q'; simpa only [eqD] using SeqAt.EqAt.tuple_str b t' (zabl tp) hu0
  | lst ys=>
   obtain ⟨b,ws,e,t',rs'⟩:=rel_lst.mp r'
   subst e
   cases q'
   obtain ⟨its',rv',tp',_⟩:=I.list t'.sq
   simpa only [eqD] using SeqAt.EqAt.tuple_list (zabl tp) tp'.isList hu0
  | tup ys=>
   obtain ⟨b,ws,e,t',rs'⟩:=rel_tup.mp r'
   subst e
   cases q'
   obtain ⟨its',rv',tp',_⟩:=I.tuple t'.sq
   by_cases hab:a=b
   · subst hab
     have e:=zak3 I (.tup xs) (.tup ys) p p' r r'
     rw [<- e,zajQ _ p]
     exact SeqAt.EqAt.same _
   · refine .of_refs hab ?_
     have l1:its.length=xs.length:=by rw [<- rv.length,rs.length]
     have l2:its'.length=ys.length:=by rw [<- rv'.length,rs'.length]
     have ih:=zajl I xs ys A.in1 (by simpa only [zaa0] using p) (by simpa only [zaa0] using p') (by have:=zaiU A; omega) rs rs' rv rv'
     have z:=SeqAt.RcAt.tuples (e:=eqIx xs ys) (zabl tp) (zabl tp') hu0 fun j h1 h2=>by
      rw [List.size_toArray] at h1 h2
      simpa using ih j h1 h2
     rw [List.size_toArray,List.size_toArray,l1,l2] at z
     simp only [eqD]
     by_cases hl:xs.length=ys.length
     · rw [<- hl,Nat.min_self,zaeO xs ys hl,beq_self_eq_true,Bool.and_true] at z
       exact z
     · rw [zae1 xs ys hl]
       have hb:(xs.length == ys.length)=false:=by simpa using hl
       rw [hb,Bool.and_false] at z
       exact z
  | ref b=>simp [zaa0] at p'
  | ntp b=>simp [zaa0] at p'
 | .lst xs,d',v,v',u,u',A,p,p',hu,r,r',q,q'=>by
  obtain ⟨a,vs,e,t,rs⟩:=rel_lst.mp r
  subst e
  cases q
  simp only [depD] at hu
  have hu0:A.units < cLine:=by omega
  obtain ⟨its,rv,tp,_⟩:=I.list t.sq
  cases d' with
  | non=>cases rel_non.mp r'; cases q'; simpa only [eqD] using SeqAt.EqAt.list_none tp.isList hu0
  | bl b=>cases rel_bl.mp r'; cases q'; simpa only [eqD] using SeqAt.EqAt.list_bool b tp.isList hu0
  | int b=>cases rel_int.mp r'; obtain ⟨t',rfl⟩:=q'; simpa only [eqD] using SeqAt.EqAt.list_int b t' tp.isList hu0
  | str b=>cases rel_str.mp r'; obtain ⟨t',rfl⟩:=q'; simpa only [eqD] using SeqAt.EqAt.list_str b t' tp.isList hu0
  | tup ys=>
   obtain ⟨b,ws,e,t',rs'⟩:=rel_tup.mp r'
   subst e
   cases q'
   obtain ⟨its',rv',tp',_⟩:=I.tuple t'.sq
   simpa only [eqD] using SeqAt.EqAt.list_tuple tp.isList (zabl tp') hu0
  | lst ys=>
   obtain ⟨b,ws,e,t',rs'⟩:=rel_lst.mp r'
   subst e
   cases q'
   obtain ⟨its',rv',tp',_⟩:=I.list t'.sq
   by_cases hab:a=b
   · subst hab
     have e:=zak3 I (.lst xs) (.lst ys) p p' r r'
     rw [<- e,zajQ _ p]
     exact SeqAt.EqAt.same _
   · refine .of_refs hab ?_
     have l1:its.length=xs.length:=by rw [<- rv.length,rs.length]
     have l2:its'.length=ys.length:=by rw [<- rv'.length,rs'.length]
     simp only [eqD]
     by_cases hl:xs.length=ys.length
     · have ih:=zajl I xs ys A.in1 (by simpa only [zaa0] using p) (by simpa only [zaa0] using p') (by have:=zaiU A; omega) rs rs' rv rv'
       have z:=SeqAt.RcAt.lists (e:=eqIx xs ys) tp.isList tp'.isList (by rw [List.size_toArray,List.size_toArray,l1,l2,hl]) hu0 fun j h1 h2=>by
        rw [List.size_toArray] at h1 h2
        simpa using ih j h1 h2
       rw [List.size_toArray,l1,zaeO xs ys hl] at z
       exact z
     · rw [zae1 xs ys hl]
       exact SeqAt.RcAt.lists_lengths tp.isList tp'.isList (by rw [List.size_toArray,List.size_toArray,l1,l2]; simpa using hl) hu0
  | ref b=>simp [zaa0] at p'
  | ntp b=>simp [zaa0] at p'
 | .ref _,_,_,_,_,_,_,p,_,_,_,_,_,_=>by simp [zaa0] at p
 | .ntp _,_,_,_,_,_,_,p,_,_,_,_,_,_=>by simp [zaa0] at p
 | .non,d',v,v',u,u',A,p,p',hu,r,r',q,q'=>by
  cases rel_non.mp r
  cases q
  have hu0:A.units < cLine:=by omega
  cases d' with
  | non=>cases rel_non.mp r'; cases q'; simp only [eqD]; exact SeqAt.EqAt.same _
  | bl b=>cases rel_bl.mp r'; cases q'; simpa only [eqD] using SeqAt.EqAt.none_bool b
  | int b=>cases rel_int.mp r'; obtain ⟨t',rfl⟩:=q'; simpa only [eqD] using SeqAt.EqAt.none_int b t'
  | str b=>cases rel_str.mp r'; obtain ⟨t',rfl⟩:=q'; simpa only [eqD] using SeqAt.EqAt.none_str b t'
  | tup ys=>
   obtain ⟨b,ws,e,t',rs'⟩:=rel_tup.mp r'
   subst e
   cases q'
   obtain ⟨its',rv',tp',_⟩:=I.tuple t'.sq
   simpa only [eqD] using SeqAt.EqAt.none_tuple (zabl tp') hu0
  | lst ys=>
   obtain ⟨b,ws,e,t',rs'⟩:=rel_lst.mp r'
   subst e
   cases q'
   obtain ⟨its',rv',tp',_⟩:=I.list t'.sq
   simpa only [eqD] using SeqAt.EqAt.none_list tp'.isList hu0
  | ref b=>simp [zaa0] at p'
  | ntp b=>simp [zaa0] at p'
 | .bl i,d',v,v',u,u',A,p,p',hu,r,r',q,q'=>by
  cases rel_bl.mp r
  cases q
  have hu0:A.units < cLine:=by omega
  cases d' with
  | non=>cases rel_non.mp r'; cases q'; simpa only [eqD] using SeqAt.EqAt.bool_none i
  | bl b=>cases rel_bl.mp r'; cases q'; simpa only [eqD] using SeqAt.EqAt.bool_bool i b
  | int b=>cases rel_int.mp r'; obtain ⟨t',rfl⟩:=q'; simpa only [eqD] using SeqAt.EqAt.bool_int i b t'
  | str b=>cases rel_str.mp r'; obtain ⟨t',rfl⟩:=q'; simpa only [eqD] using SeqAt.EqAt.bool_str i b t'
  | tup ys=>
   obtain ⟨b,ws,e,t',rs'⟩:=rel_tup.mp r'
   subst e
   cases q'
   obtain ⟨its',rv',tp',_⟩:=I.tuple t'.sq
   simpa only [eqD] using SeqAt.EqAt.bool_tuple i (zabl tp') hu0
  | lst ys=>
   obtain ⟨b,ws,e,t',rs'⟩:=rel_lst.mp r'
   subst e
   cases q'
   obtain ⟨its',rv',tp',_⟩:=I.list t'.sq
   simpa only [eqD] using SeqAt.EqAt.bool_list i tp'.isList hu0
  | ref b=>simp [zaa0] at p'
  | ntp b=>simp [zaa0] at p'
 | .int i,d',v,v',u,u',A,p,p',hu,r,r',q,q'=>by
  cases rel_int.mp r
  obtain ⟨ti,rfl⟩:=q
  have hu0:A.units < cLine:=by omega
  cases d' with
  | non=>cases rel_non.mp r'; cases q'; simpa only [eqD] using SeqAt.EqAt.int_none i ti
  | bl b=>cases rel_bl.mp r'; cases q'; simpa only [eqD] using SeqAt.EqAt.int_bool i ti b
  | int b=>cases rel_int.mp r'; obtain ⟨t',rfl⟩:=q'; simpa only [eqD] using SeqAt.EqAt.int_int i ti b t'
  | str b=>cases rel_str.mp r'; obtain ⟨t',rfl⟩:=q'; simpa only [eqD] using SeqAt.EqAt.int_str i ti b t'
  | tup ys=>
   obtain ⟨b,ws,e,t',rs'⟩:=rel_tup.mp r'
   subst e
   cases q'
   obtain ⟨its',rv',tp',_⟩:=I.tuple t'.sq
   simpa only [eqD] using SeqAt.EqAt.int_tuple i ti (zabl tp') hu0
  | lst ys=>
   obtain ⟨b,ws,e,t',rs'⟩:=rel_lst.mp r'
   subst e
   cases q'
   obtain ⟨its',rv',tp',_⟩:=I.list t'.sq
   simpa only [eqD] using SeqAt.EqAt.int_list i ti tp'.isList hu0
  | ref b=>simp [zaa0] at p'
  | ntp b=>simp [zaa0] at p'
 | .str i,d',v,v',u,u',A,p,p',hu,r,r',q,q'=>by
  cases rel_str.mp r
  obtain ⟨ti,rfl⟩:=q
  have hu0:A.units < cLine:=by omega
  cases d' with
  | non=>cases rel_non.mp r'; cases q'; simpa only [eqD] using SeqAt.EqAt.str_none i ti
  | bl b=>cases rel_bl.mp r'; cases q'; simpa only [eqD] using SeqAt.EqAt.str_bool i ti b
  | int b=>cases rel_int.mp r'; obtain ⟨t',rfl⟩:=q'; simpa only [eqD] using SeqAt.EqAt.str_int i ti b t'
  | str b=>cases rel_str.mp r'; obtain ⟨t',rfl⟩:=q'; simpa only [eqD] using SeqAt.EqAt.str_str i ti b t'
  | tup ys=>
   obtain ⟨b,ws,e,t',rs'⟩:=rel_tup.mp r'
   subst e
   cases q'
   obtain ⟨its',rv',tp',_⟩:=I.tuple t'.sq
   simpa only [eqD] using SeqAt.EqAt.str_tuple i ti (zabl tp') hu0
  | lst ys=>
   obtain ⟨b,ws,e,t',rs'⟩:=rel_lst.mp r'
   subst e
   cases q'
   obtain ⟨its',rv',tp',_⟩:=I.list t'.sq
   simpa only [eqD] using SeqAt.EqAt.str_list i ti tp'.isList hu0
  | ref b=>simp [zaa0] at p'
  | ntp b=>simp [zaa0] at p'
theorem zajl (I:Inv X pins σ H s):∀ (xs ys:List Dt) {vs vs':List V} {us us':List Value} (A:Around),zabF xs=true->zabF ys=true->A.units + zaee xs < cLine->RelDs X.K H ρ xs vs->RelDs X.K H ρ ys vs'->Vals vs us->Vals vs' us'->
 ∀ (j:Nat) (h1:j < us.length) (h2:j < us'.length),SeqAt.EqAt A s us[j] us'[j] (eqIx xs ys j)
 | [],_,_,_,_,_,_,_,_,_,r,_,q,_,_,h1,_=>by
  rw [r.unnil] at q
  cases q
  exact absurd h1 (by simp)
 | _::_,[],_,_,_,_,_,_,_,_,_,r',_,q',_,_,h2=>by
  rw [r'.unnil] at q'
  cases q'
  exact absurd h2 (by simp)
 | x::xs,y::ys,vs,vs',us,us',A,p,p',hu,r,r',q,q',j,h1,h2=>by
  simp only [zabF,Bool.and_eq_true] at p p'
  simp only [zaee] at hu
  obtain ⟨v,r0,e,a1,a2⟩:=r.uncons
  subst e
  obtain ⟨v',r0',e,b1,b2⟩:=r'.uncons
  subst e
  cases q with
  | cons q1 q2=>
   cases q' with
   | cons q1' q2'=>
    cases j with
    | zero=>exact zava I x y A p.1 p'.1 (by omega) a1 b1 q1 q1'
    | succ j=>
     have ih:=zajl I xs ys A p.2 p'.2 (by omega) a2 b2 q2 q2' j (by simpa using h1) (by simpa using h2)
     simpa [eqIx] using ih
end
end
end SM
namespace SM
open PySem PySem.Spec PyProof.Rows L2
section
variable {X:Cx} {a b c e:Expr} {es:List Expr} {fa fb fc f:RE} {g:RA} {p p2 pos:Pos}
noncomputable def zadX (xs ys:List Dt):Bool:=zabF xs && zabF ys && decide (zaee xs<=50)
noncomputable def oEqD:Op2:=fun a b h=>match a,b with
 | .tup xs,.tup ys=>if zadX xs ys=true then some (.bl (eqDs xs ys),h) else none
 | .lst xs,.lst ys=>if zadX xs ys=true then some (.bl (eqDs xs ys),h) else none
 | a,b=>oEq a b h
noncomputable def oNeD:Op2:=fun a b h=>match a,b with
 | .tup xs,.tup ys=>if zadX xs ys=true then some (.bl (!eqDs xs ys),h) else none
 | .lst xs,.lst ys=>if zadX xs ys=true then some (.bl (!eqDs xs ys),h) else none
 | a,b=>oNe a b h
theorem zag9 {pins:List (Addr × Obj)} {σ:L2.St} {H:Hp} {s:Shared} {ρ:Rg} {xs ys:List Dt} {vs ws:List V} {its its':List Value} (I:Inv X pins σ H s) (hu:X.A.units + 64 < cLine) (ok:zadX xs ys=true) (rs:RelDs X.K H ρ xs vs) (rs':RelDs X.K H ρ ys ws) (rv:Vals vs its) (rv':Vals ws its') :
 ∀ (j:Nat) (h1:j < its.toArray.size) (h2:j < its'.toArray.size),SeqAt.EqAt X.A.in1 s its.toArray[j] its'.toArray[j] (eqIx xs ys j):=fun j h1 h2=>by
 simp only [zadX,Bool.and_eq_true,decide_eq_true_eq] at ok
 rw [List.size_toArray] at h1 h2
 have:=zajl I xs ys X.A.in1 ok.1.1 ok.1.2 (by have:=zaiU X.A; omega) rs rs' rv rv' j h1 h2
 simpa using this
theorem zabW (hu:X.A.units + 64 < cLine):OM X (compareOp .Eq) oEqD:=by
 with_unfolding_all
  intro pins s σ H x y v u Q I rx ry h
  obtain ⟨ρ,h,d1,d2,d,h',S,R1,R2,e,k⟩:=h
  unfold oEqD at e
  split at e
  · rename_i xs ys
    obtain ⟨ok,e⟩:=ifE e
    cases e
    obtain ⟨a,vs,z,t,rs⟩:=rel_tup.mp R1
    obtain ⟨b,ws,z',t',rs'⟩:=rel_tup.mp R2
    subst z z'
    cases rx
    cases ry
    obtain ⟨its,rv,tp,_⟩:=I.tuple t.sq
    obtain ⟨its',rv',tp',_⟩:=I.tuple t'.sq
    have l1:its.length=xs.length:=by rw [<- rv.length,rs.length]
    have l2:its'.length=ys.length:=by rw [<- rv'.length,rs'.length]
    refine SeqAt.eq_tupleAt (e:=eqIx xs ys) (zabl tp) (zabl tp') (by omega) (zag9 I hu ok rs rs' rv rv') ?_
    refine ⟨.bl _,H,I,rfl,k ρ _ H (rel_bl.mpr (congrArg V.bl ?_)) S (Ext.refl _ _)⟩
    rw [List.size_toArray,List.size_toArray,l1,l2]
    by_cases hl:xs.length=ys.length
    · rw [<- hl,Nat.min_self,zaeO xs ys hl,beq_self_eq_true,Bool.and_true]
    · have hb:(xs.length == ys.length)=false:=by simpa using hl
      rw [zae1 xs ys hl,hb,Bool.and_false]
  · rename_i xs ys
    obtain ⟨ok,e⟩:=ifE e
    cases e
    obtain ⟨a,vs,z,t,rs⟩:=rel_lst.mp R1
    obtain ⟨b,ws,z',t',rs'⟩:=rel_lst.mp R2
    subst z z'
    cases rx
    cases ry
    obtain ⟨its,rv,tp,_⟩:=I.list t.sq
    obtain ⟨its',rv',tp',_⟩:=I.list t'.sq
    have l1:its.length=xs.length:=by rw [<- rv.length,rs.length]
    have l2:its'.length=ys.length:=by rw [<- rv'.length,rs'.length]
    by_cases hl:xs.length=ys.length
    · refine SeqAt.eq_listAt (e:=eqIx xs ys) tp.isList tp'.isList (by rw [List.size_toArray,List.size_toArray,l1,l2,hl]) (by omega) (zag9 I hu ok rs rs' rv rv') ?_
      refine ⟨.bl _,H,I,rfl,k ρ _ H (rel_bl.mpr (congrArg V.bl ?_)) S (Ext.refl _ _)⟩
      rw [List.size_toArray,l1,zaeO xs ys hl]
    · refine SeqAt.eq_list_lengthsAt tp.isList tp'.isList (by rw [List.size_toArray,List.size_toArray,l1,l2]; simpa using hl) (by omega) ?_
      exact ⟨.bl _,H,I,rfl,k ρ _ H (rel_bl.mpr (by rw [zae1 xs ys hl])) S (Ext.refl _ _)⟩
  · exact zawk pins s σ H x y v u Q I rx ry ⟨ρ,h,d1,d2,d,h',S,R1,R2,e,k⟩
theorem zait (hu:X.A.units + 64 < cLine):OM X (compareOp .NotEq) oNeD:=by
 with_unfolding_all
  intro pins s σ H x y v u Q I rx ry h
  obtain ⟨ρ,h,d1,d2,d,h',S,R1,R2,e,k⟩:=h
  unfold oNeD at e
  split at e
  · rename_i xs ys
    obtain ⟨ok,e⟩:=ifE e
    cases e
    obtain ⟨a,vs,z,t,rs⟩:=rel_tup.mp R1
    obtain ⟨b,ws,z',t',rs'⟩:=rel_tup.mp R2
    subst z z'
    cases rx
    cases ry
    obtain ⟨its,rv,tp,_⟩:=I.tuple t.sq
    obtain ⟨its',rv',tp',_⟩:=I.tuple t'.sq
    have l1:its.length=xs.length:=by rw [<- rv.length,rs.length]
    have l2:its'.length=ys.length:=by rw [<- rv'.length,rs'.length]
    refine zaql (e:=eqIx xs ys) (zabl tp) (zabl tp') (by omega) (zag9 I hu ok rs rs' rv rv') ?_
    refine ⟨.bl _,H,I,rfl,k ρ _ H (rel_bl.mpr (congrArg V.bl ?_)) S (Ext.refl _ _)⟩
    rw [List.size_toArray,List.size_toArray,l1,l2]
    by_cases hl:xs.length=ys.length
    · rw [<- hl,Nat.min_self,zaeO xs ys hl,beq_self_eq_true,Bool.and_true]
    · have hb:(xs.length == ys.length)=false:=by simpa using hl
      rw [zae1 xs ys hl,hb,Bool.and_false]
  · rename_i xs ys
    obtain ⟨ok,e⟩:=ifE e
    cases e
    obtain ⟨a,vs,z,t,rs⟩:=rel_lst.mp R1
    obtain ⟨b,ws,z',t',rs'⟩:=rel_lst.mp R2
    subst z z'
    cases rx
    cases ry
    obtain ⟨its,rv,tp,_⟩:=I.list t.sq
    obtain ⟨its',rv',tp',_⟩:=I.list t'.sq
    have l1:its.length=xs.length:=by rw [<- rv.length,rs.length]
    have l2:its'.length=ys.length:=by rw [<- rv'.length,rs'.length]
    by_cases hl:xs.length=ys.length
    · refine zarw (e:=eqIx xs ys) tp.isList tp'.isList (by rw [List.size_toArray,List.size_toArray,l1,l2,hl]) (by omega) (zag9 I hu ok rs rs' rv rv') ?_
      refine ⟨.bl _,H,I,rfl,k ρ _ H (rel_bl.mpr (congrArg V.bl ?_)) S (Ext.refl _ _)⟩
      rw [List.size_toArray,l1,zaeO xs ys hl]
    · refine zang tp.isList tp'.isList (by rw [List.size_toArray,List.size_toArray,l1,l2]; simpa using hl) (by omega) ?_
      exact ⟨.bl _,H,I,rfl,k ρ _ H (rel_bl.mpr (by rw [zae1 xs ys hl]; rfl)) S (Ext.refl _ _)⟩
  · exact zawp pins s σ H x y v u Q I rx ry ⟨ρ,h,d1,d2,d,h',S,R1,R2,e,k⟩
noncomputable def zadA:List Dt->Option (List V)
 | []=>some []
 | d::ds=>(flat d).bind fun v=>(zadA ds).map fun vs=>v::vs
theorem zalN {K:PySem.W.Frag} {H:Hp} {ρ:Rg}:∀ {ds:List Dt} {ws vs:List V},zadA ds=some ws->RelDs K H ρ ds vs->vs=ws
 | [],_,_,e,r=>by simp only [zadA] at e; cases e; exact r.unnil
 | d::ds,_,_,e,r=>by
  simp only [zadA] at e
  obtain ⟨v,e1,e⟩:=zaal e
  cases q:zadA ds with
  | none=>rw [q] at e; cases e
  | some vs=>
   rw [q] at e
   cases e
   obtain ⟨v',r',z,r1,r2⟩:=r.uncons
   subst z
   rw [zafz e1 r1,zalN q r2]
theorem zaqP {d:Dt} {v:V} (e:flat d=some v):zafW v=true:=by
 cases d <;> simp only [flat] at e <;> first | (cases e; rfl) | cases e
theorem zaog:∀ {ds:List Dt} {ws:List V},zadA ds=some ws->ws.all zafW=true
 | [],_,e=>by simp only [zadA] at e; cases e; rfl
 | d::ds,_,e=>by
  simp only [zadA] at e
  obtain ⟨v,e1,e⟩:=zaal e
  cases q:zadA ds with
  | none=>rw [q] at e; cases e
  | some vs=>
   rw [q] at e
   cases e
   rw [List.all_cons,zaqP e1,zaog q]
   rfl
noncomputable def oIn (neg:Bool):Op2:=fun a b h=>(flat a).bind fun x=>(seqA h b).bind fun ys=>(zadA ys).bind fun zs=>some (.bl (if neg then !inV x zs else inV x zs),h)
theorem zaor {neg:Bool} {x y:V} {H:Hp} {Q:VK} (h:rM X.K (oIn neg) x y H Q):rIn X.K neg x y H Q:=by
 obtain ⟨ρ,h,d1,d2,d,h',S,R1,R2,e,k⟩:=h
 obtain ⟨x',e1,e⟩:=zaal e
 obtain ⟨ys,e2,e⟩:=zaal e
 obtain ⟨zs,e3,e⟩:=zaal e
 cases e
 obtain ⟨p,vs,e4,sq,r⟩:=zaje S R2 e2
 have e5:=zalN e3 r
 subst e5
 have e6:=zafz e1 R1
 subst e6
 exact ⟨p,vs,e4,sq,zaqP e1,zaog e3,k ρ _ H (rel_bl.mpr rfl) S (Ext.refl _ _)⟩
theorem zasM:OM X (compareOp .In) (oIn false):=by
 with_unfolding_all
  exact OpR.imp zaqQ fun _ _ _ _ h=>zaor h
theorem zarT:OM X (compareOp .NotIn) (oIn true):=by
 with_unfolding_all
  exact OpR.imp zanv fun _ _ _ _ h=>zaor h
noncomputable def oCat:Op2:=fun a b h=>(seqL h a).bind fun xs=>(seqL h b).bind fun ys=>if xs.length + ys.length<=sizeLine then some (.lst (xs++ys),h) else none
noncomputable def zamo:Op2:=fun a b h=>(seqL h a).bind fun xs=>(seqL h b).bind fun ys=>if xs.length + ys.length<=sizeLine then some (.ref h.length,h++[.lst (xs++ys)]) else none
theorem zave:OM X (binaryOp .Add) oCat:=by
 with_unfolding_all
  exact OpR.imp zaoi fun x y H Q ⟨ρ,h,d1,d2,d,h',S,R1,R2,e,k⟩=>by
   obtain ⟨xs,e1,e⟩:=zaal e
   obtain ⟨ys,e2,e⟩:=zaal e
   obtain ⟨hz,e⟩:=ifE e
   cases e
   obtain ⟨l,vs,z1,q1,r1⟩:=zadd S R1 e1
   obtain ⟨b,ws,z2,q2,r2⟩:=zadd S R2 e2
   exact ⟨l,b,vs,ws,z1,z2,q1,q2,by rw [r1.length,r2.length]; exact hz,fun p hp=>k ρ _ _ (zakA S (r1.append r2) hp) (S.fresh hp) (Ext.fresh hp)⟩
theorem zato:OM X (binaryOp .Add) zamo:=by
 with_unfolding_all
  exact OpR.imp zaoi fun x y H Q ⟨ρ,h,d1,d2,d,h',S,R1,R2,e,k⟩=>by
   obtain ⟨xs,e1,e⟩:=zaal e
   obtain ⟨ys,e2,e⟩:=zaal e
   obtain ⟨hz,e⟩:=ifE e
   cases e
   obtain ⟨l,vs,z1,q1,r1⟩:=zadd S R1 e1
   obtain ⟨b,ws,z2,q2,r2⟩:=zadd S R2 e2
   exact ⟨l,b,vs,ws,z1,z2,q1,q2,by rw [r1.length,r2.length]; exact hz,fun p hp=>k _ _ _ (zafZ S (r1.append r2) hp).1 (zafZ S (r1.append r2) hp).2 (Ext.own hp)⟩
noncomputable def eF1 (F:Dt->HI->Option (Dt × HI)) (f:RE):RE:=fun l h=>(f l h).bind fun r=>F r.1 r.2
theorem zakE {x:Str} {id:String} {r:List V->Hp->VK->Prop} {F:Dt->HI->Option (Dt × HI)} (hc:CallR X (.builtin id) r) (hF:∀ ρ h d v d' h' H Q,SimH X.K ρ h H->RelD X.K H ρ d v->F d h=some (d',h')->Out X.K ρ H d' h' Q->r [v] H Q)
 (hg:Gl X x) (hm:X.mg x=none) (hv:bootBuiltins x=some (.builtin id)) (ha:EM X e f) (hn:x ≠ "__name__" := by decide) (hdb:(x == ("__debug__" : Str))=false:=by decide) (hs:zaaP e=true:=by rfl) :
 EM X (.Call (.Name x p) [e] [] pos) (eF1 F f):=by
 with_unfolding_all
  exact PE.imp (zakb hc hg hm hv (zabz ha zac4 (zaaG hs _ _)) hn hdb (he:=zaaG hs _ _)) fun σ H Q ⟨ρ,l,h,d,h',S,L,e,k⟩=>by
   obtain ⟨⟨d1,h1⟩,e1,e⟩:=zaal e
   exact ⟨ρ,l,h,d1,h1,S,L,e1,fun ρ1 v H1 R1 S1 E1=>hF ρ1 h1 d1 v d h' H1 Q S1 R1 e (k.ext E1)⟩
theorem zavW {x:Str} {T:String} {r:List V->Hp->VK->Prop} {F:Dt->HI->Option (Dt × HI)} (hc:CallR X (.type T) r) (hF:∀ ρ h d v d' h' H Q,SimH X.K ρ h H->RelD X.K H ρ d v->F d h=some (d',h')->Out X.K ρ H d' h' Q->r [v] H Q)
 (hg:Gl X x) (hm:X.mg x=none) (hv:bootBuiltins x=some (.type T)) (ha:EM X e f) (hn:x ≠ "__name__" := by decide) (hdb:(x == ("__debug__" : Str))=false:=by decide) (hs:zaaP e=true:=by rfl) :
 EM X (.Call (.Name x p) [e] [] pos) (eF1 F f):=by
 with_unfolding_all
  exact PE.imp (zap1 hc hg hm hv (zabz ha zac4 (zaaG hs _ _)) hn hdb (he:=zaaG hs _ _)) fun σ H Q ⟨ρ,l,h,d,h',S,L,e,k⟩=>by
   obtain ⟨⟨d1,h1⟩,e1,e⟩:=zaal e
   exact ⟨ρ,l,h,d1,h1,S,L,e1,fun ρ1 v H1 R1 S1 E1=>hF ρ1 h1 d1 v d h' H1 Q S1 R1 e (k.ext E1)⟩
noncomputable def fLen:Dt->HI->Option (Dt × HI):=fun d h=>match d with
 | .str z=>if z.length<=sizeLine then some (.int z.length,h) else none
 | d=>(seqA h d).map fun xs=>(.int xs.length,h)
theorem zadG (hg:Gl X "len") (hm:X.mg "len" = none) (ha:EM X e f) (hs:zaaP e=true:=by rfl):EM X (.Call (.Name "len" p) [e] [] pos) (eF1 fLen f):=by
 with_unfolding_all
  exact zakE (CallR.or zamF zam4) (fun ρ h d v d' h' H Q S R e k=>by
   unfold fLen at e
   split at e
   · rename_i z
     obtain ⟨hz,e⟩:=ifE e
     cases e
     exact .inr ⟨z,by rw [rel_str.mp R],hz,k ρ _ H (rel_int.mpr rfl) S (Ext.refl _ _)⟩
   · cases q:seqA h d with
     | none=>rw [q] at e; cases e
     | some xs=>
      rw [q] at e
      cases e
      obtain ⟨a,vs,z,sq,r⟩:=zaje S R q
      exact .inl ⟨a,vs,by rw [z],sq,by rw [r.length]; exact k ρ _ H (rel_int.mpr rfl) S (Ext.refl _ _)⟩) hg hm PySem.boot_len ha (hs:=hs)
noncomputable def zadZ:Dt->HI->Option (Dt × HI):=fun d h=>(seqA h d).map fun xs=>(.ref h.length,h++[.lst xs])
theorem zais (hg:Gl X "list") (hm:X.mg "list" = none) (ha:EM X e f) (hs:zaaP e=true:=by rfl):EM X (.Call (.Name "list" p) [e] [] pos) (eF1 zadZ f):=by
 with_unfolding_all
  exact zavW zanb (fun ρ h d v d' h' H Q S R e k=>by
   unfold zadZ at e
   cases q:seqA h d with
   | none=>rw [q] at e; cases e
   | some xs=>
    rw [q] at e
    cases e
    obtain ⟨a,vs,z,sq,r⟩:=zaje S R q
    exact ⟨a,vs,by rw [z],sq,fun l hl=>k _ _ _ (zafZ S r hl).1 (zafZ S r hl).2 (Ext.own hl)⟩) hg hm PyProof.Rows.boot_list ha (hs:=hs)
noncomputable def zacv:List Dt->Option (List Int)
 | []=>some []
 | .int i::ds=>(zacv ds).map fun ns=>i::ns
 | _::_=>none
theorem zae6:∀ {ds:List Dt} {ns:List Int},zacv ds=some ns->ds=ns.map Dt.int
 | [],_,e=>by simp only [zacv] at e; cases e; rfl
 | d::ds,_,e=>by
  cases d with
  | int i=>
   simp only [zacv] at e
   cases q:zacv ds with
   | none=>rw [q] at e; cases e
   | some ns=>
    rw [q] at e
    cases e
    rw [zae6 q]
    rfl
  | _=>simp only [zacv] at e <;> cases e
noncomputable def fSum:Dt->HI->Option (Dt × HI):=fun d h=>(seqL h d).bind fun xs=>(zacv xs).map fun ns=>(.int ns.sum,h)
theorem zavn (hc:X.calm=true) (hg:Gl X "sum") (hm:X.mg "sum" = none) (ha:EM X e f) (hs:zaaP e=true:=by rfl):EM X (.Call (.Name "sum" p) [e] [] pos) (eF1 fSum f):=by
 with_unfolding_all
  exact zakE (zaqA hc) (fun ρ h d v d' h' H Q S R e k=>by
   obtain ⟨xs,e1,e⟩:=zaal e
   cases q:zacv xs with
   | none=>rw [q] at e; cases e
   | some ns=>
    rw [q] at e
    cases e
    obtain ⟨a,vs,z,sq,r⟩:=zadd S R e1
    rw [zae6 q] at r
    rw [r.unints] at sq
    exact ⟨a,ns,by rw [z],sq,k ρ _ H (rel_int.mpr rfl) S (Ext.refl _ _)⟩) hg hm PyProof.Rows.boot_sum ha (hs:=hs)
noncomputable def maxL:List Int->Int
 | []=>0
 | [a]=>a
 | a::b::r=>max a (maxL (b::r))
noncomputable def minL:List Int->Int
 | []=>0
 | [a]=>a
 | a::b::r=>min a (minL (b::r))
theorem zalW:∀ (ns:List Int),ns ≠ []->maxL ns ∈ ns/\∀ a ∈ ns,a<=maxL ns
 | [],h=>absurd rfl h
 | [a],_=>by simp [maxL]
 | a::b::r,_=>by
  obtain ⟨h1,h2⟩:=zalW (b::r) (by simp)
  simp only [maxL]
  refine ⟨?_,fun c hc=>?_⟩
  · rcases Int.le_total a (maxL (b::r)) with z | z
    · rw [Int.max_eq_right z]; exact List.mem_cons_of_mem _ h1
    · rw [Int.max_eq_left z]; exact List.mem_cons_self
  · rcases List.mem_cons.mp hc with z | z
    · rw [z]; exact Int.le_max_left _ _
    · exact Int.le_trans (h2 c z) (Int.le_max_right _ _)
theorem zaiv:∀ (ns:List Int),ns ≠ []->minL ns ∈ ns/\∀ a ∈ ns,minL ns<=a
 | [],h=>absurd rfl h
 | [a],_=>by simp [minL]
 | a::b::r,_=>by
  obtain ⟨h1,h2⟩:=zaiv (b::r) (by simp)
  simp only [minL]
  refine ⟨?_,fun c hc=>?_⟩
  · rcases Int.le_total a (minL (b::r)) with z | z
    · rw [Int.min_eq_left z]; exact List.mem_cons_self
    · rw [Int.min_eq_right z]; exact List.mem_cons_of_mem _ h1
  · rcases List.mem_cons.mp hc with z | z
    · rw [z]; exact Int.min_le_left _ _
    · exact Int.le_trans (Int.min_le_right _ _) (h2 c z)
noncomputable def fMax:Dt->HI->Option (Dt × HI):=fun d h=>(seqL h d).bind fun xs=>(zacv xs).bind fun ns=>if ns ≠ [] then some (.int (maxL ns),h) else none
noncomputable def fMin:Dt->HI->Option (Dt × HI):=fun d h=>(seqL h d).bind fun xs=>(zacv xs).bind fun ns=>if ns ≠ [] then some (.int (minL ns),h) else none
theorem zaqu (hc:X.calm=true) (hg:Gl X "max") (hm:X.mg "max" = none) (ha:EM X e f) (hs:zaaP e=true:=by rfl):EM X (.Call (.Name "max" p) [e] [] pos) (eF1 fMax f):=by
 with_unfolding_all
  exact zakE (zapJ hc) (fun ρ h d v d' h' H Q S R e k=>by
   obtain ⟨xs,e1,e⟩:=zaal e
   obtain ⟨ns,q,e⟩:=zaal e
   obtain ⟨hne,e⟩:=ifE e
   cases e
   obtain ⟨a,vs,z,sq,r⟩:=zadd S R e1
   rw [zae6 q] at r
   rw [r.unints] at sq
   obtain ⟨m1,m2⟩:=zalW ns hne
   refine ⟨a,ns,by rw [z],sq,hne,fun M h1 h2=>?_⟩
   have:M=maxL ns:=Int.le_antisymm (m2 M h1) (h2 _ m1)
   rw [this]
   exact k ρ _ H (rel_int.mpr rfl) S (Ext.refl _ _)) hg hm PyProof.Rows.boot_max ha (hs:=hs)
theorem zaqe (hc:X.calm=true) (hg:Gl X "min") (hm:X.mg "min" = none) (ha:EM X e f) (hs:zaaP e=true:=by rfl):EM X (.Call (.Name "min" p) [e] [] pos) (eF1 fMin f):=by
 with_unfolding_all
  exact zakE (zaqL hc) (fun ρ h d v d' h' H Q S R e k=>by
   obtain ⟨xs,e1,e⟩:=zaal e
   obtain ⟨ns,q,e⟩:=zaal e
   obtain ⟨hne,e⟩:=ifE e
   cases e
   obtain ⟨a,vs,z,sq,r⟩:=zadd S R e1
   rw [zae6 q] at r
   rw [r.unints] at sq
   obtain ⟨m1,m2⟩:=zaiv ns hne
   refine ⟨a,ns,by rw [z],sq,hne,fun M h1 h2=>?_⟩
   have:M=minL ns:=Int.le_antisymm (h2 _ m1) (m2 M h1)
   rw [this]
   exact k ρ _ H (rel_int.mpr rfl) S (Ext.refl _ _)) hg hm PyProof.Rows.boot_min ha (hs:=hs)
noncomputable def tyN (h:HI):Dt->Option String
 | .non=>some "NoneType"
 | .bl _=>some "bool"
 | .int _=>some "int"
 | .str _=>some "str"
 | .tup _=>some "tuple"
 | .lst _=>some "list"
 | .ref n=>match h[n]? with | some (.lst _)=>some "list" | _=>none
 | .ntp _=>none
noncomputable def isT (t T:String):Bool:=t == T || (t == "bool" && T == "int")
noncomputable def eIsi (T:String) (f:RE):RE:=fun l h=>(f l h).bind fun r=>(tyN r.2 r.1).map fun t=>(.bl (isT t T),r.2)
theorem zatj (K:PySem.W.Frag):∀ t ∈ ["NoneType", "bool", "int", "str", "tuple", "list"],∀ T ∈ ["bool", "int", "str", "tuple", "list"],PySem.W.kitOne K (.type t) (.type T)=some (isT t T):=by
 intro t ht T hT
 simp only [List.mem_cons,List.mem_nil_iff,or_false] at ht hT
 rcases ht with rfl | rfl | rfl | rfl | rfl | rfl <;> rcases hT with rfl | rfl | rfl | rfl | rfl <;> with_unfolding_all rfl
theorem zavf {h:HI} {d:Dt} {t:String} (e:tyN h d=some t):t ∈ ["NoneType", "bool", "int", "str", "tuple", "list"]:=by
 cases d with
 | ref n=>
  simp only [tyN] at e
  split at e
  · cases e; decide
  · cases e
 | ntp n=>simp only [tyN] at e; cases e
 | _=>simp only [tyN] at e <;> cases e <;> decide
theorem zavZ {K:PySem.W.Frag} {H:Hp} {ρ:Rg} {h:HI} {d:Dt} {v:V} {t:String} (S:SimH K ρ h H) (R:RelD K H ρ d v) (e:tyN h d=some t):TyD K H v t:=by
 cases d with
 | non=>cases rel_non.mp R; simp only [tyN] at e; cases e; rfl
 | bl b=>cases rel_bl.mp R; simp only [tyN] at e; cases e; rfl
 | int b=>cases rel_int.mp R; simp only [tyN] at e; cases e; rfl
 | str b=>cases rel_str.mp R; simp only [tyN] at e; cases e; rfl
 | tup xs=>
  obtain ⟨a,vs,z,t,rs⟩:=rel_tup.mp R
  subst z
  simp only [tyN] at e
  cases e
  exact .inr ⟨rfl,vs,t.sq⟩
 | lst xs=>
  obtain ⟨a,vs,z,t,rs⟩:=rel_lst.mp R
  subst z
  simp only [tyN] at e
  cases e
  exact .inl ⟨rfl,vs,t.sq⟩
 | ref n=>
  obtain ⟨a,z,ha⟩:=rel_ref.mp R
  subst z
  simp only [tyN] at e
  split at e
  · rename_i xs q
    cases e
    obtain ⟨vs,h1,_⟩:=S.lst ha q
    exact .inl ⟨rfl,vs,SqL.of h1⟩
  · cases e
 | ntp n=>simp only [tyN] at e; cases e
theorem zanw {T:Str} {TT:String} (hg:Gl X "isinstance") (hm:X.mg "isinstance" = none) (hgT:Gl X T) (hmT:X.mg T=none) (hv:bootBuiltins T=some (.type TT)) (hT:TT ∈ ["bool", "int", "str", "tuple", "list"]) (ha:EM X e f)
 (hnT:T ≠ "__name__" := by decide) (hdT:(T == ("__debug__" : Str))=false:=by decide)
 (hs:zaaP e=true:=by rfl) :
 EM X (.Call (.Name "isinstance" p) [e,.Name T p2] [] pos) (eIsi TT f):=by
 with_unfolding_all
  exact PE.imp (zakb (zasd (T:=TT)) hg hm PyProof.Rows.boot_isinstance (zabz ha (zabz (zatU hgT hmT hv (v:=.ty TT) rfl hnT hdT) zac4 (zaaG rfl _ _)) (zaaG hs _ _)) (he:=zaaG hs _ _)) fun σ H Q ⟨ρ,l,h,d,h',S,L,e,k⟩=>by
   obtain ⟨⟨d1,h1⟩,e1,e⟩:=zaal e
   refine ⟨ρ,l,h,d1,h1,S,L,e1,fun ρ1 v H1 R1 S1 E1=>?_⟩
   cases q:tyN h1 d1 with
   | none=>rw [q] at e; cases e
   | some t=>
    rw [q] at e
    cases e
    exact ⟨v,t,isT t TT,rfl,zavZ S1 R1 q,zatj X.K t (zavf q) TT hT,k ρ1 _ H1 (rel_bl.mpr rfl) S1 E1⟩
noncomputable abbrev RO:=LI->HI->Option (Option Int × HI)
noncomputable def pNo:RO:=fun _ h=>some (none,h)
noncomputable def pAt (f:RE):RO:=fun l h=>(f l h).bind fun r=>match r.1 with | .int i=>some (some i,r.2) | _=>none
noncomputable def tMO (K:PySem.W.Frag) (f:RO):TO:=fun σ H Q=>∃ ρ l h o h',SimH K ρ h H/\SimL K H ρ l σ/\f l h=some (o,h')/\OutB K ρ H h' (Q o)
@[irreducible] noncomputable def OMo (X:Cx) (e:Option Expr) (f:RO):Prop:=PO X e (tMO X.K f)
theorem PO.imp {X:Cx} {e:Option Expr} {t t':TO} (h:PO X e t) (i:∀ σ H Q,t' σ H Q->t σ H Q):PO X e t':=fun pins s σ H Q I q=>h pins s σ H Q I (i σ H Q q)
theorem zasQ:OMo X none pNo:=by
 with_unfolding_all
  exact PO.imp zasS fun σ H Q ⟨ρ,l,h,o,h',S,L,e,k⟩=>by
   cases e
   exact k ρ H S (Ext.refl _ _)
theorem zakS (ha:EM X a fa):OMo X (some a) (pAt fa):=by
 with_unfolding_all
  exact PO.imp (zas2 ha) fun σ H Q ⟨ρ,l,h,o,h',S,L,e,k⟩=>by
   obtain ⟨⟨d1,h1⟩,e1,e⟩:=zaal e
   refine ⟨ρ,l,h,d1,h1,S,L,e1,fun ρ1 v H1 R1 S1 E1=>?_⟩
   cases d1 with
   | int i=>
    cases e
    exact ⟨i,rel_int.mp R1,k ρ1 H1 S1 E1⟩
   | _=>cases e
noncomputable def cutD (xs:List Dt) (lo hi:Option Int):List Dt:=(xs.drop (HT.sIx xs.length 0 lo)).take (HT.sIx xs.length xs.length hi - HT.sIx xs.length 0 lo)
noncomputable def eSl (f:RE) (lo hi:RO):RE:=fun l h=>(f l h).bind fun r=>(lo l r.2).bind fun o=>(hi l o.2).bind fun u=>(seqL u.2 r.1).map fun xs=>(.lst (cutD xs o.1 u.1),u.2)
theorem zatr {K:PySem.W.Frag} {H:Hp} {ρ:Rg} {xs:List Dt} {vs:List V} (r:RelDs K H ρ xs vs) (lo hi:Option Int):RelDs K H ρ (cutD xs lo hi) (cutV vs lo hi):=by
 unfold cutD cutV
 rw [r.length]
 exact (r.drop _).take _
theorem zank {lo hi:Option Expr} {fl fh:RO} (ha:EM X a fa) (hl:OMo X lo fl) (hh:OMo X hi fh):EM X (.Subscript a (.Slice lo hi none p2) pos) (eSl fa fl fh):=by
 with_unfolding_all
  exact PE.imp (zarf zatf ha hl hh) fun σ H Q ⟨ρ,l,h,d,h',S,L,e,k⟩=>by
   obtain ⟨⟨d1,h1⟩,e1,e⟩:=zaal e
   obtain ⟨⟨o,h2⟩,e2,e⟩:=zaal e
   obtain ⟨⟨u,h3⟩,e3,e⟩:=zaal e
   refine ⟨ρ,l,h,d1,h1,S,L,e1,fun ρ1 v H1 R1 S1 E1=>⟨ρ1,l,h1,o,h2,S1,L.ext E1,e2,fun ρ2 H2 S2 E2=>⟨ρ2,l,h2,u,h3,S2,L.ext (E1.trans E2),e3,fun ρ3 H3 S3 E3=>?_⟩⟩⟩
   cases q:seqL h3 d1 with
   | none=>dsimp only at e; rw [q] at e; cases e
   | some xs=>
    dsimp only at e
    rw [q] at e
    cases e
    obtain ⟨x,vs,z,sq,r⟩:=zadd S3 (RelD.ext (E2.trans E3) _ R1) q
    exact ⟨x,vs,z,sq,fun p hp=>k ρ3 _ _ (zakA S3 (zatr r o u) hp) (S3.fresh hp) (E1.trans (E2.trans (E3.trans (Ext.fresh hp))))⟩
noncomputable def eApp (fo fa:RE):RE:=fun l h=>(fo l h).bind fun r=>match r.1 with
 | .ref n=>(fa l r.2).bind fun q=>match q.2[n]? with
  | some (.lst xs)=>if xs.length < sizeLine then some (.non,q.2.set n (.lst (xs++[q.1]))) else none
  | _=>none
 | _=>none
theorem zamT {K:PySem.W.Frag} {H:Hp} {ρ:Rg} {h:HI} {n:Nat} {xs:List Dt} {v:V} (S:SimH K ρ h H) (R:RelD K H ρ (.ref n) v) (e:h[n]?=some (.lst xs)):tyV K "list" v H:=by
 obtain ⟨a,z,ha⟩:=rel_ref.mp R
 subst z
 obtain ⟨vs,h1,_⟩:=S.lst ha e
 exact .inl ⟨rfl,vs,SqL.of h1⟩
noncomputable def zab5 (fa fb:RE):RE:=fun l h=>(fa l h).bind fun r=>match r.1 with
 | .ref n=>match r.2[n]? with
  | some (.lst _)=>eApp (eC (.ref n)) fb l r.2
  | _=>none
 | _=>none
theorem zacw {apos cpos:Pos} (ho:EM X a fa) (hb:EM X b fb) (hbase:attributeBase a "append" X.env (eval a X.env)=eval a X.env:=by rfl)
 (hline:(apos.endLine == cpos.line)=true:=by rfl) (hs:zaaP b=true:=by rfl) :
 EM X (.Call (.Attribute a "append" apos) [b] [] cpos) (zab5 fa fb):=by
 with_unfolding_all
  exact PE.imp (zapv PySem.F.plainAttrs_list PySem.F.slot_list_append PySem.F.type_list_append zalL ho (zabz hb zac4 (zaaG hs _ _)) hbase (zaj1 hs) hline (zaaG hs _ _)) fun σ H Q ⟨ρ,l,h,d,h',S,L,e,k⟩=>by
   obtain ⟨⟨d1,h1⟩,e1,e⟩:=zaal e
   refine ⟨ρ,l,h,d1,h1,S,L,e1,fun ρ1 v H1 R1 S1 E1=>?_⟩
   cases d1 with
   | ref n=>
    dsimp only at e
    split at e
    · rename_i xs0 q0
      obtain ⟨⟨d0,h0⟩,z0,e⟩:=zaal e
      cases z0
      dsimp only at e
      obtain ⟨⟨d2,h2⟩,e2,e⟩:=zaal e
      refine ⟨zamT S1 R1 q0,ρ1,l,h1,d2,h2,S1,L.ext E1,e2,fun ρ2 y H2 R2 S2 E2=>?_⟩
      dsimp only at e
      split at e
      · rename_i xs q
        obtain ⟨hz,e⟩:=ifE e
        cases e
        obtain ⟨a,z,ha⟩:=rel_ref.mp R1
        subst z
        have ha2:=E2.get ha
        obtain ⟨vs,g1,g2⟩:=S2.lst ha2 q
        have hm:=List.mem_of_getElem? ha2
        refine ⟨a,vs,y,rfl,rfl,g1,by rw [g2.length]; exact hz,k ρ2 _ _ (rel_non.mpr rfl) (S2.write ha2 (nfz g1) ⟨_,zaa6,?_⟩) (E1.trans (E2.trans (Ext.write hm (nfz g1))))⟩
        exact (g2.append (.cons R2 .nil)).ext (Ext.write hm (nfz g1))
      · cases e
    · cases e
   | _=>cases e
end
end SM
namespace SM
open PySem PySem.Spec PyProof.Rows L2
noncomputable def idxD:List Dt->Dt->Option Nat
 | [],_=>none
 | y::ys,x=>if eqD y x=true then some 0 else (idxD ys x).map (· + 1)
section
variable {X:Cx} {pins:List (Addr × Obj)} {σ:L2.St} {H:Hp} {s:Shared} {ρ:Rg}
open Classical in
end
noncomputable def zavO (xs:List Dt) (d:Dt):Bool:=zabF xs && zaa0 d && decide (zaee xs<=50)
section
variable {X:Cx} {a b:Expr} {fa fb:RE}
noncomputable def zacn (K:PySem.W.Frag):Nat->Value->Option Dt
 | _,.none=>some .non
 | _,.bool b=>some (.bl b)
 | _,.int i _=>some (.int i)
 | _,.str x _=>some (.str x)
 | 0,_=>none
 | n + 1,.ref a=>match K.lookup a with
  | some ⟨.type T,dd,.seq its _,_⟩=>if its.size<=sizeLine then
   if T = "tuple" then (its.toList.mapM (zacn K n)).map .tup
   else if T = "list" then match dd with | none=>(its.toList.mapM (zacn K n)).map .lst | some _=>none
   else none
   else none
  | _=>none
 | _,_=>none
noncomputable def vOf:Value->V
 | .none=>.non
 | .bool b=>.bl b
 | .int i _=>.int i
 | .str x _=>.str x
 | .ref a=>.ref a
 | _=>.non
theorem zajW {K:PySem.W.Frag} {H:Hp} {ρ:Rg} {f:Value->Option Dt} (h:∀ u d,f u=some d->RelV (vOf u) u/\RelD K H ρ d (vOf u)):∀ {us:List Value} {ds:List Dt},us.mapM f=some ds->Vals (us.map vOf) us/\RelDs K H ρ ds (us.map vOf)
 | [],_,e=>by
  simp at e
  subst e
  exact ⟨.nil,.nil⟩
 | u::us,ds,e=>by
  rw [List.mapM_cons] at e
  cases q:f u with
  | none=>rw [q] at e; cases e
  | some d=>
   rw [q] at e
   cases q2:us.mapM f with
   | none=>rw [q2] at e; cases e
   | some ds'=>
    rw [q2] at e
    cases e
    obtain ⟨h1,h2⟩:=h u d q
    obtain ⟨h3,h4⟩:=zajW h q2
    exact ⟨.cons h1 h3,.cons h2 h4⟩
theorem zal2 {K:PySem.W.Frag} {H:Hp} {ρ:Rg}:∀ (n:Nat) (u:Value) (d:Dt),zacn K n u=some d->RelV (vOf u) u/\RelD K H ρ d (vOf u):=by
 intro n
 induction n with
 | zero=>
  intro u d e
  cases u with
  | none=>simp only [zacn] at e; cases e; exact ⟨rfl,rel_non.mpr rfl⟩
  | bool b=>simp only [zacn] at e; cases e; exact ⟨rfl,rel_bl.mpr rfl⟩
  | int i t=>simp only [zacn] at e; cases e; exact ⟨⟨_,rfl⟩,rel_int.mpr rfl⟩
  | str x t=>simp only [zacn] at e; cases e; exact ⟨⟨_,rfl⟩,rel_str.mpr rfl⟩
  | _=>simp only [zacn] at e <;> cases e
 | succ n ih=>
  intro u d e
  cases u with
  | none=>simp only [zacn] at e; cases e; exact ⟨rfl,rel_non.mpr rfl⟩
  | bool b=>simp only [zacn] at e; cases e; exact ⟨rfl,rel_bl.mpr rfl⟩
  | int i t=>simp only [zacn] at e; cases e; exact ⟨⟨_,rfl⟩,rel_int.mpr rfl⟩
  | str x t=>simp only [zacn] at e; cases e; exact ⟨⟨_,rfl⟩,rel_str.mpr rfl⟩
  | ref a=>
   simp only [zacn] at e
   split at e
   · rename_i T dd its m sl q
     by_cases hz:its.size<=sizeLine
     · rw [if_pos hz] at e
       by_cases hT:T = "tuple"
       · rw [if_pos hT] at e
         cases q2:its.toList.mapM (zacn K n) with
         | none=>rw [q2] at e; cases e
         | some ds=>
          rw [q2] at e
          cases e
          obtain ⟨h1,h2⟩:=zajW (K:=K) (H:=H) (ρ:=ρ) ih q2
          subst hT
          exact ⟨rfl,rel_tup.mpr ⟨a,_,rfl,.inr ⟨_,its,m,q,rfl,rfl,hz,h1⟩,h2⟩⟩
       · rw [if_neg hT] at e
         by_cases hT2:T = "list"
         · rw [if_pos hT2] at e
           split at e
           · cases q2:its.toList.mapM (zacn K n) with
             | none=>rw [q2] at e; cases e
             | some ds=>
              rw [q2] at e
              cases e
              obtain ⟨h1,h2⟩:=zajW (K:=K) (H:=H) (ρ:=ρ) ih q2
              subst hT2
              exact ⟨rfl,rel_lst.mpr ⟨a,_,rfl,.inr ⟨_,its,m,q,rfl,rfl,rfl,hz,h1⟩,h2⟩⟩
           · cases e
         · rw [if_neg hT2] at e
           cases e
     · rw [if_neg hz] at e
       cases e
   · cases e
  | _=>simp only [zacn] at e <;> cases e
structure Con1 (K:PySem.W.Frag) (mg:Str->Option Value) (x:Str) (d:Dt):Prop where
 ex:∃ u n,mg x=some u/\zacn K n u=some d
theorem zahF {x:Str} {d:Dt} {pos:Pos} (hg:Gl X x) (c:Con1 X.K X.mg x d) (hd:(x == ("__debug__" : Str))=false:=by decide):EM X (.Name x pos) (eC d):=by
 with_unfolding_all
  obtain ⟨u,n,h1,h2⟩:=c.ex
  exact zauc hg h1 (zal2 (H:=fun _=>none) (ρ:=.nil) n u d h2).1 (fun H ρ=>(zal2 n u d h2).2) hd
end
theorem zauj {K:PySem.W.Frag} {F:FnI} {n:Nat} (h:∀ ns:List Int,ns.length<=n->∃ h',F [.lst (ns.map Dt.int)] []=some (.bl true,h')) (H:Hp) (a:Addr) (ns:List Int) (hl:ns.length<=n) (hS:SqL K H a (ns.map V.int)) :
 spM K 1 F [.ref a] H (fun v _=>v=.bl true) fun _ _ _=>False:=by
 obtain ⟨h',e⟩:=h ns hl
 have R:RelD K H .nil (.lst (ns.map Dt.int)) (.ref a):=rel_lst.mpr ⟨a,_,rfl,by
  rcases hS with hS | hS
  · exact .inl ⟨⟨by simp [Rg.nil],by simp [Rg.nil]⟩,hS⟩
  · exact .inr hS,RelDs.ints ns⟩
 exact ⟨.nil,[.lst (ns.map Dt.int)],[],.bl true,h',SimH.nil,.cons R .nil,rfl,e,fun ρ' v H' R' S' E'=>rel_bl.mp R'⟩
end SM
namespace SM
open PySem PySem.Spec PyProof.Rows L2
structure Cal (P:Program) (w:World) (K:PySem.W.Frag) (mg:Str->Option Value) (base:Heap) (k n:Nat) (x:Str) (F:FnI):Prop where
 ex:∃ f fd ps,FnOk P w K mg base CX0 k f fd ps (spM K n F)/\mg x=some (.ref f)/\PySem.W.keepIn K (.ref f)=true/\Binds K fd ps []
 len:∀ ds h r,F ds h=some r->ds.length=n
structure zaa2 (K:PySem.W.Frag) (mg:Str->Option Value) (x:Str) (st:Stmt) (ps:List Str):Prop where
 ex:∃ f fd,Fun K x x st f fd/\mg x=some (.ref f)/\Binds K fd ps []
section
variable {P:Program} {w:World} {K:PySem.W.Frag} {mg:Str->Option Value} {base:Heap}
theorem zavi {x qual:Str} {st:Stmt} {f:Addr} {fd:FuncData} {N ps:List Str} {k n m:Nat} {body:RS} (F:Fun K x qual st f fd) (S:zaay N ps (zaai st)) (hn:ps.length=n) (hm:N.length=m)
 (hb:∀ (cdv:Value) (A:Around) (outer:List Env) (s:Shared) (H:Hp) (E:XK),Room k (A.deeper (envOfC qual (zaai st) s.heap.objs.size f cdv))->
  ZMs (cxOf CX0 P w K mg base N qual (zaai st) f cdv A outer s H E).nox (zabm st) body):FnOk P w K mg base CX0 (k + 1) f fd ps (spM K n (fnI n m body)):=by
 with_unfolding_all
  subst hn hm
  exact zamn F S hb
theorem zaaW {x:Str} {st:Stmt} {N ps:List Str} {k n m:Nat} {body:RS} (D:zaa2 K mg x st ps) (S:zaay N ps (zaai st)) (hn:ps.length=n) (hm:N.length=m)
 (hb:∀ (f:Addr) (cdv:Value) (A:Around) (outer:List Env) (s:Shared) (H:Hp) (E:XK),Room k (A.deeper (envOfC x (zaai st) s.heap.objs.size f cdv))->
  ZMs (cxOf CX0 P w K mg base N x (zaai st) f cdv A outer s H E).nox (zabm st) body):Cal P w K mg base (k + 1) n x (fnI n m body):=by
 with_unfolding_all
  subst hn hm
  obtain ⟨f,fd,hF,hm,hB⟩:=D.ex
  exact ⟨⟨f,fd,ps,zamn hF S fun cdv A outer s H E hr=>hb f cdv A outer s H E hr,hm,hF.kp,hB⟩,fun ds h r e=>zajo e⟩
end
section
variable {X:Cx} {k k' n:Nat} {F:FnI} {x:Str} {p pos:Pos} {e:Expr} {es:List Expr} {g:RA}
theorem zaau (c:Cal X.prog X.w X.K X.mg X.base k n x F) (hr:Room k' X.A) (hk:k<=k') (hg:Gl X x) (ha:AM X (e::es) g) (hdb:(x == ("__debug__" : Str))=false:=by decide)
 (he:zaaP e=true:=by rfl) (hpl:es.all zaaP=true:=by rfl) :
 EM X (.Call (.Name x p) (e::es) [] pos) (zaav F [] g):=by
 with_unfolding_all
  obtain ⟨f,fd,ps,h1,h2,h3,h4⟩:=c.ex
  exact zanx h1 (hr.mono hk) hg h2 h3 h4 .nil (fun _ _=>.nil) ha (fun F' e ds h r q=>c.len ds h r (e ▸ q)) hdb he hpl
end
theorem zaq7 {l:PySem.W.OpenLaw} {q:Program} {loose:List Str} {XP:(Str->Option Value)->Heap->Prop} {YP:World->Heap->Prop} {d:DefRec} {K:Params->PySem.W.Frag} {F:FnI} {k:Nat} {x:Str} (hn:l.most=some 63) (hdf:d.params.defaults=[]) (hr:Room k callerA)
 (hY:∀ (w:World) (h:Heap),YP w h->(K w.params).In h)
 (hF:∀ (w:World) (mg:Str->Option Value) (fa:Addr) (h:Heap),(K w.params).In h->h.Ns mainGlobals mg->mg d.name=some (.ref fa)->
  ∃ fd:FuncData,(∀ (s:Shared) (u:Value),BindsTo s fd ⟨[u],[]⟩ [(x,u)])/\∀ base:Heap,(K w.params).In base->base.Ns mainGlobals mg->FnOk l.prog w (K w.params) mg base CX0 k fa fd [x] (spM (K w.params) 1 F))
 (h:∀ ns:List Int,ns.length<=63->∃ h',F [.lst (ns.map Dt.int)] []=some (.bl true,h')):PySem.W.WalkO q loose XP YP l.row.toRowW d [] (fun f vs=>PySem.call f vs):=
 L2.zat5 (n:=63) (k:=k) (x:=x) (CX:=fun _=>CX0) (sp:=fun w=>spM (K w.params) 1 F) hn (by decide) hdf hr hY hF (fun w H a ns hl _ hS=>zauj h H a ns hl hS) fun _ _ _ _ _ z=>z
end SM
namespace L2
open PySem PySem.Spec PyProof.Rows
section
variable {X:Cx}
theorem zaq0:∀ {bs:List Bool} {us:List Value},Vals (bs.map V.bl) us->∀ (i:Nat) (v:Value),us[i]?=some v->v=.bool (bs.getD i false)
 | [],us,r,i,v,e=>by
  cases r
  simp at e
 | b::bs,us,r,i,v,e=>by
  cases r with
  | cons r rr=>
   cases i with
   | zero=>
    simp at e
    subst e
    exact r
   | succ i=>
    simpa using zaq0 rr i v (by simpa using e)
end
end L2
namespace SM
open PySem PySem.Spec PyProof.Rows L2
noncomputable def zafS:List Dt->Option (List Bool)
 | []=>some []
 | .bl b::ds=>(zafS ds).map fun bs=>b::bs
 | _::_=>none
theorem zant:∀ {ds:List Dt} {bs:List Bool},zafS ds=some bs->ds=bs.map Dt.bl
 | [],bs,e=>by
  simp only [zafS] at e
  cases e
  rfl
 | d::ds,bs,e=>by
  cases d with
  | bl b=>
   simp only [zafS] at e
   cases q:zafS ds with
   | none=>rw [q] at e; cases e
   | some cs=>
    rw [q] at e
    cases e
    rw [zant q]
    rfl
  | _=>simp only [zafS] at e <;> cases e
theorem RelDs.unbls {K:PySem.W.Frag} {H:Hp} {ρ:Rg}:∀ {bs:List Bool} {vs:List V},RelDs K H ρ (bs.map Dt.bl) vs->vs=bs.map V.bl
 | [],_,h=>h.unnil
 | n::ns,_,h=>by
  obtain ⟨v,r,rfl,h1,h2⟩:=RelDs.uncons h
  simp only [RelD] at h1
  rw [h1,RelDs.unbls h2]
  rfl
section
variable {X:Cx} {e:Expr} {f:RE} {p pos:Pos}
end
noncomputable def zahV:Nat->List Dt->List Dt
 | _,[]=>[]
 | k,x::xs=>.tup [.int (k:Int),x]::zahV (k + 1) xs
noncomputable def zaec (i j:Nat):RG:=fun d l=>match d with
 | .tup [a,b]=>some ((l.set i (some a)).set j (some b))
 | _=>none
end SM
namespace L2
open PySem PySem.Spec PyProof.Rows
section
variable {X:Cx} {pins:List (Addr × Obj)} {σ:List (Option V)} {H:Hp} {s:Shared} {h':Heap}
theorem Inv.enumed {t':Nat} {e it p:Addr} {xs:List V} (I:Inv X pins σ H s) (k:∀ b o,b ≠ e->b ≠ it->s.heap.get? b=some o->h'.get? b=some o) (fe:FpOk X pins H e) (fi:FpOk X pins H it) (hp:s.heap.objs.size<=p)
 (new:ObjOk X.prog X.w (upd H p (.tup xs)) h' p (.tup xs)):Inv X pins σ (upd H p (.tup xs)) { s with heap:=h',toks:=t' }:=by
 obtain ⟨e0,e1,e2,e3,e4,e5⟩:=fe
 obtain ⟨i0,i1,i2,i3,i4,i5⟩:=fi
 have hn:H p=none:=I.hok.fresh hp
 have ne:∀ b u,H b=some u->b ≠ e:=fun b u q z=>by rw [z,e0] at q; cases q
 have ni:∀ b u,H b=some u->b ≠ it:=fun b u q z=>by rw [z,i0] at q; cases q
 have nc:∀ {b},b ∉ [e,it]->b ≠ e/\b ≠ it:=fun hc=>⟨fun z=>hc (by simp [z]),fun z=>hc (by simp [z])⟩
 refine I.step (g':=s.gens) (d':=s.drawn) (ch:=[e,it]) (fun b hb=>?_) (fun b o _ _ hc q _=>k b o (nc hc).1 (nc hc).2 q) (fun b o _ _ hc q _=>⟨o.slots,k b o (nc hc).1 (nc hc).2 q⟩)
  (fun b o _ q n=>by rw [zaaA (Nat.ne_of_lt (Nat.lt_of_lt_of_le (Heap.lt_size q) hp))]; exact n)
  (fun b o hc q=>⟨o,k b o (nc hc).1 (nc hc).2 q⟩) (fun b ys q=>by rw [zaaA (zaaU q hn)]; exact q) (fun b o u q=>by rw [zaaA (zaaU q hn)]; exact q)
  (fun b ps q=>⟨#[],by rw [zaaA (zaaU q hn),q]; simp⟩) (fun m hm=>?_) (fun b u q=>?_) I.bare
 · have z:b=e\/b=it:=by simpa using hb
   rcases z with rfl | rfl
   · exact ⟨e3,e1,e4,e5⟩
   · exact ⟨i3,i1,i4,i5⟩
 · obtain ⟨o,es,ep,ho,r⟩:=hm
   exact ⟨o,es,ep,k _ o (Ne.symm e1) (Ne.symm i1) ho,r⟩
 · by_cases hb:b=p
   · subst hb
     rw [zaa6] at q
     cases q
     exact new
   · rw [zaaA hb] at q
     refine (I.hok b u q).stay (fun c v hc q'=>?_) (fun c q=>by rw [zaaA (zaaU q hn)]; exact q) fun c ys q=>by rw [zaaA (zaaU q hn)]; exact q
     rcases hc with z | z
     · subst z
       exact k c v (ne c u q) (ni c u q) q'
     · exact k c v (ne c _ z) (ni c _ z) q'
theorem Inv.turned2 {t':Nat} {e it:Addr} (I:Inv X pins σ H s) (k:∀ b o,b ≠ e->b ≠ it->s.heap.get? b=some o->h'.get? b=some o) (fe:FpOk X pins H e) (fi:FpOk X pins H it):Inv X pins σ H { s with heap:=h',toks:=t' }:=by
 obtain ⟨e0,e1,e2,e3,e4,e5⟩:=fe
 obtain ⟨i0,i1,i2,i3,i4,i5⟩:=fi
 have ne:∀ b u,H b=some u->b ≠ e:=fun b u q z=>by rw [z,e0] at q; cases q
 have ni:∀ b u,H b=some u->b ≠ it:=fun b u q z=>by rw [z,i0] at q; cases q
 have nc:∀ {b},b ∉ [e,it]->b ≠ e/\b ≠ it:=fun hc=>⟨fun z=>hc (by simp [z]),fun z=>hc (by simp [z])⟩
 refine I.step (g':=s.gens) (d':=s.drawn) (ch:=[e,it]) (fun b hb=>?_) (fun b o _ _ hc q _=>k b o (nc hc).1 (nc hc).2 q) (fun b o _ _ hc q _=>⟨o.slots,k b o (nc hc).1 (nc hc).2 q⟩)
  (fun b o _ q n=>n) (fun b o hc q=>⟨o,k b o (nc hc).1 (nc hc).2 q⟩) (fun b ys q=>q) (fun b o u q=>q)
  (fun b ps q=>⟨#[],by rw [q]; simp⟩) (fun m hm=>?_) (fun b u q=>?_) I.bare
 · have z:b=e\/b=it:=by simpa using hb
   rcases z with rfl | rfl
   · exact ⟨e3,e1,e4,e5⟩
   · exact ⟨i3,i1,i4,i5⟩
 · obtain ⟨o,es,ep,ho,r⟩:=hm
   exact ⟨o,es,ep,k _ o (Ne.symm e1) (Ne.symm i1) ho,r⟩
 · refine (I.hok b u q).stay (fun c v hc q'=>?_) (fun c q=>q) fun c ys q=>q
   rcases hc with z | z
   · subst z
     exact k c v (ne c u q) (ni c u q) q'
   · exact k c v (ne c _ z) (ni c _ z) q'
end
noncomputable def Ite (K:PySem.W.Frag) (a:Addr):It:=
 ⟨fun i H=>∃ xs x,SqL K H a xs/\xs[i]?=some x,fun i H x H'=>∃ p y,H p=none/\x=.ref p/\(∀ xs,SqL K H a xs->xs[i]?=some y)/\H'=upd H p (.tup [.int (i:Nat),y]),fun i H=>∃ xs,SqL K H a xs/\xs.length<=i⟩
theorem zaqd {P:Program} {w:World} {K:PySem.W.Frag} {elts:List Expr} {x1} {pos:Pos} (a e it:Addr) (hne:e ≠ it):Turn P w K (.Tuple elts x1 pos) (Ite K a) [e,it] e (fun i h=>(∃ old,IsEnum h e it i old)/\h.IsListIter it a i) where
 mem:=by simp
 obj:=fun i h st b hb=>by
  obtain ⟨⟨old,s1⟩,s2⟩:=st
  have z:b=e\/b=it:=by simpa using hb
  rcases z with rfl | rfl
  · exact ⟨_,s1,fun v z=>by cases z⟩
  · obtain ⟨o,e,c,d⟩:=s2
    exact ⟨o,e,fun v z=>by rw [d] at z; cases z⟩
 keep:=fun i h h' st k=>by
  obtain ⟨⟨old,s1⟩,s2⟩:=st
  exact ⟨⟨old,k e (by simp) _ s1⟩,s2.at fun o e=>k it (by simp) o e⟩
 item:=by
  intro X hP hw hK hc i pins s σ H E I hf st hg
  subst hP hw hK
  obtain ⟨⟨old,s1⟩,s2⟩:=st
  obtain ⟨xs,x,hq,hx⟩:=hg
  obtain ⟨its,rv,p,hz⟩:=I.list hq
  obtain ⟨u,hu,ru⟩:=rv.get hx
  have fe:=hf e (by simp)
  have fi:=hf it (by simp)
  refine wpAny_pyNext_enum_item s1 s2 p.isList (x:=u) (by simpa using hu) hne fun h' out it' tup sz kp=>?_
  refine ⟨_,rfl,wpAny_letOwnedTupleGo_enum out fun h2 he2 sb=>?_⟩
  have hpe:s.heap.objs.size ≠ e:=(Nat.ne_of_lt (Heap.lt_size s1)).symm
  have hpi:s.heap.objs.size ≠ it:=by
   obtain ⟨o,q,_⟩:=s2
   exact (Nat.ne_of_lt (Heap.lt_size q)).symm
  have t2:h2.get? s.heap.objs.size=some { cls:=.type "tuple", data:=.seq #[.int i s.toks,u] }:=(sb.2 _ hpe).trans tup
  refine ⟨.ref s.heap.objs.size,upd H s.heap.objs.size (.tup [.int (i:Nat),x]),I.enumed (fun b o h1 h3 q=>(sb.2 b h1).trans (kp b o h1 h3 q)) fe fi (Nat.le_refl _) ⟨by simp only [List.length_cons,List.length_nil]; rw [sizeLine_eq]; decide,[.int i s.toks,u],.cons ⟨_,rfl⟩ (.cons ru .nil),⟨_,t2,rfl,_,rfl⟩⟩,rfl,⟨_,x,I.hok.fresh (Nat.le_refl _),rfl,fun ys hy=>by rw [I.list_inj hy hq]; exact hx,rfl⟩,⟨⟨_,he2⟩,it'.at fun o q=>(sb.2 it (Ne.symm hne)).trans q⟩,fun b hb=>?_⟩
  have z:b=e\/b=it:=by simpa using hb
  rcases z with rfl | rfl
  · rw [zaaA (Ne.symm hpe)]; exact fe.1
  · rw [zaaA (Ne.symm hpi)]; exact fi.1
 done:=by
  intro X hP hw hK hc i pins s σ H E I hf st hg
  subst hP hw hK
  obtain ⟨⟨old,s1⟩,s2⟩:=st
  obtain ⟨xs,hq,hx⟩:=hg
  obtain ⟨its,rv,p,hz⟩:=I.list hq
  have hl:=rv.length
  exact wpAny_pyNext_enum_end (I.ok.hd hc) s1 s2 p.isList (by simp; omega) fun h' eb=>⟨rfl,I.turned2 (t':=s.toks) (fun b o _ h3 q=>eb b o h3 q) (hf e (by simp)) (hf it (by simp))⟩
 self:=fun _ _ _ _ _ st h=>by
  obtain ⟨⟨old,s1⟩,_⟩:=st
  exact wpAny_pyIter_enum s1 h
section
variable {X:Cx}
noncomputable def iEnu (K:PySem.W.Frag) (ta:TA):TI:=fun σ H R=>ta σ H fun vs H1=>∃ a,vs=[.ref a]/\(∃ xs,SqL K H1 a xs)/\R (Ite K a) H1
theorem zatd {elts:List Expr} {x1} {tp:Pos} {a:Expr} {ta:TA} {p pos:Pos} (hg:Gl X "enumerate") (hm:X.mg "enumerate" = none) (ha:PA X [a] ta) (hs:starEach [a] X.env=[(false,eval a X.env)]:=by rfl) :
 PI X (.Tuple elts x1 tp) (.Call (.Name "enumerate" p) [a] [] pos) (iEnu X.K ta):=by
 intro pins s σ H R I h
 refine Call_ (zagb I hg hm boot_enumerate (PyProof.Rows.callWith_type1 (thn (ha pos pins s σ H _ I h) fun us s1 ⟨vs,H1,I1,r1,q1⟩=>?_) hs rfl))
 obtain ⟨b,e,⟨xs,hq⟩,q⟩:=q1
 subst e
 cases r1 with
 | cons r rr=>
  cases rr
  cases r
  obtain ⟨its,rv,pl,hz⟩:=I1.list hq
  refine call_enumerate_list pl.isList fun h' he hit hsz k=>?_
  have I2:Inv X pins σ H1 { s1 with heap:=h' }:=I1.kept (t':=s1.toks) k
  refine wpAny_pyIter_enum he ?_
  refine ⟨s1.heap.objs.size + 1,[s1.heap.objs.size + 1,s1.heap.objs.size],_,_,H1,rfl,I2,zaqd b (s1.heap.objs.size + 1) s1.heap.objs.size (Nat.succ_ne_self _),⟨⟨_,he⟩,hit⟩,fun c hc=>?_,q⟩
  have z:c=s1.heap.objs.size + 1\/c=s1.heap.objs.size:=by simpa using hc
  rcases z with rfl | rfl
  · exact I1.fpOk (Nat.le_succ _) (I1.hok.fresh (Nat.le_succ _))
  · exact I1.fpOk (Nat.le_refl _) (I1.hok.fresh (Nat.le_refl _))
end
end L2
namespace SM
open PySem PySem.Spec PyProof.Rows L2
theorem zalX:∀ (xs:List Dt) (k i:Nat),(zahV k xs)[i]?=(xs[i]?).map fun x=>.tup [.int ((k + i:Nat):Int),x]
 | [],_,_=>by simp [zahV]
 | x::xs,k,0=>by simp [zahV]
 | x::xs,k,i + 1=>by
  simp only [zahV,List.getElem?_cons_succ]
  rw [zalX xs (k + 1) i]
  have:k + 1 + i=k + (i + 1):=by omega
  rw [this]
section
variable {X:Cx}
theorem zaqM (i j:Nat) {x y:Str} {px py pos:Pos} {x1} (hc:X.calm=true) (hN:X.N.Nodup) (hi:X.N[i]?=some x:=by rfl) (hj:X.N[j]?=some y:=by rfl)
 (hx:Loc X.env.scope x:=by first | exact Or.inl rfl | exact Or.inr rfl) (hy:Loc X.env.scope y:=by first | exact Or.inl rfl | exact Or.inr rfl)
 (hf:X.fn x=true\/X.env.scope.names.lookup x=some .local:=by first | exact .inl rfl | exact .inr rfl | assumption)
 (hf':X.fn y=true\/X.env.scope.names.lookup y=some .local:=by first | exact .inl rfl | exact .inr rfl | assumption):GM X (.Tuple [.Name x px,.Name y py] x1 pos) (zaec i j):=by
 with_unfolding_all
  refine PG.imp (zavp (n:=2) hc (zamX (zalv hN hi hx hf) (zamX (zalv hN hj hy hf') zasR))) fun v σ H Q ⟨ρ,l,h,d,l',S,L,R,e,k⟩=>?_
  unfold zaec at e
  split at e
  · cases e
    obtain ⟨a,vs,rfl,q,r⟩:=rel_tup.mp R
    obtain ⟨v1,r1,rfl,R1,r⟩:=r.uncons
    obtain ⟨v2,r2,rfl,R2,r⟩:=r.uncons
    cases r.unnil
    exact ⟨a,[v1,v2],rfl,q.sq,rfl,v1,[v2],rfl,v2,[],rfl,rfl,k _ ((L.set i R1).set j R2)⟩
  · cases e
end
end SM
namespace SM
open PySem PySem.Spec PyProof.Rows L2
noncomputable def zagK (fe fo fi:RE):RS:=fun l h=>(fe l h).bind fun v=>(fo l v.2).bind fun o=>(fi l o.2).bind fun i=>match o.1,i.1 with
 | .ref n,.int k=>match i.2[n]? with
  | some (.lst xs)=>(ixN xs.length k).bind fun j=>some (.nx l (i.2.set n (.lst (xs.set j v.1))))
  | _=>none
 | _,_=>none
noncomputable def zaxy (i j k:Nat):RG:=fun d l=>match d with
 | .tup [a,b,c]=>some (((l.set i (some a)).set j (some b)).set k (some c))
 | _=>none
noncomputable def repD (d:Dt) (k:Int):List Dt:=List.replicate k.toNat d
noncomputable def eRep (fa fb:RE):RE:=fun l h=>(fa l h).bind fun a=>(fb l a.2).bind fun k=>match k.1 with
 | .int i=>if -(2 ^ 62)<=i/\i<=1000000 then some (.lst (repD a.1 i),k.2) else none
 | _=>none
noncomputable def zaji (fa fb:RE):RE:=fun l h=>(fa l h).bind fun a=>(fb l a.2).bind fun k=>match k.1 with
 | .int i=>if -(2 ^ 62)<=i/\i<=1000000 then some (.ref k.2.length,k.2++[.lst (repD a.1 i)]) else none
 | _=>none
noncomputable def fAny:Dt->HI->Option (Dt × HI):=fun d h=>(seqL h d).bind fun xs=>(zafS xs).map fun bs=>(.bl (bs.any id),h)
noncomputable def allD (f:Dt->Option Dt):List Dt->Option (List Dt)
 | []=>some []
 | x::xs=>(f x).bind fun y=>(allD f xs).map fun ys=>y::ys
noncomputable def resD (h:HI):Nat->Dt->Option Dt
 | 0,_=>none
 | n + 1,.tup xs=>(allD (resD h n) xs).map .tup
 | n + 1,.lst xs=>(allD (resD h n) xs).map .lst
 | n + 1,.ref k=>match h[k]? with | some (.lst xs)=>(allD (resD h n) xs).map .lst | _=>none
 | _ + 1,.ntp _=>none
 | _ + 1,d=>some d
noncomputable def oEqX:Op2:=fun a b h=>(resD h 8 a).bind fun a'=>(resD h 8 b).bind fun b'=>(oEqD a' b' []).map fun r=>(r.1,h)
noncomputable def oNeX:Op2:=fun a b h=>(resD h 8 a).bind fun a'=>(resD h 8 b).bind fun b'=>(oNeD a' b' []).map fun r=>(r.1,h)
noncomputable def zadD (t:RT) (body:RS):Nat->RS
 | 0,_,_=>none
 | n + 1,l,h=>(t l h).bind fun c=>if c.1=true then (body l c.2).bind fun r=>match r with
  | .nx l' h'=>zadD t body n l' h'
  | .ct l' h'=>zadD t body n l' h'
  | .bk l' h'=>some (.nx l' h')
  | .rt d h'=>some (.rt d h')
  else some (.nx l c.2)
noncomputable def zakx (n:Nat) (t:RT) (body:RS):RS:=fun l h=>zadD t body n l h
noncomputable def zafI (fo fa:RE):RE:=fun l h=>(fo l h).bind fun r=>match r.1 with
 | .ref n=>match r.2[n]? with
  | some (.lst _)=>(fa l r.2).bind fun q=>match q.1 with
   | .ref m=>match q.2[n]?,q.2[m]? with
    | some (.lst xs),some (.lst ys)=>if xs.length + ys.length<=sizeLine then some (.non,q.2.set n (.lst (xs++ys))) else none
    | _,_=>none
   | _=>none
  | _=>none
 | _=>none
noncomputable def zakm (fo fa:RE):RE:=fun l h=>(fo l h).bind fun r=>match r.1 with
 | .ref n=>match r.2[n]? with
  | some (.lst _)=>(fa l r.2).bind fun q=>match q.1 with
   | .int 0=>match q.2[n]? with
    | some (.lst (x::xs))=>some (x,q.2.set n (.lst xs))
    | _=>none
   | _=>none
  | _=>none
 | _=>none
noncomputable def eF2 (F:Dt->Dt->Option Dt) (fa fb:RE):RE:=fun l h=>(fa l h).bind fun r=>(fb l r.2).bind fun q=>(F r.1 q.1).map fun d=>(d,q.2)
noncomputable def zaxC:Dt->Dt->Option Dt:=fun a b=>match a,b with | .int i,.int j=>some (.int (if j > i then j else i)) | _,_=>none
noncomputable def zajh:Dt->Dt->Option Dt:=fun a b=>match a,b with | .int i,.int j=>some (.int (if j < i then j else i)) | _,_=>none
noncomputable def uInv (f:RE):RE:=fun l h=>(f l h).bind fun r=>match r.1 with | .int i=>some (.int (Builtin.bitNot i),r.2) | _=>none
end SM
namespace L2
open PySem PySem.Spec PyProof.Rows
section
variable {X:Cx}
theorem zarO (bs:List Bool):(List.range bs.length).any (fun i=>bs.getD i false)=bs.any id:=by
 induction bs with
 | nil=>rfl
 | cons b bs ih=>
  rw [List.length_cons,List.range_succ_eq_map,List.any_cons,List.any_map,List.any_cons]
  have:((fun i=>(b::bs).getD i false) ∘ Nat.succ)=fun i=>bs.getD i false:=by
   funext i
   simp
  rw [this,ih]
  simp
theorem zaqb (hc:X.calm=true):CallR X (.builtin "any") (fun xs H Q=>∃ (p:Addr) (bs:List Bool),xs=[.ref p]/\SqL X.K H p (bs.map V.bl)/\Q (.bl (bs.any id)) H):=by
 intro pins s σ H xs us Q I r h
 obtain ⟨p,bs,rfl,hq,q⟩:=h
 obtain ⟨u,rfl,rx⟩:=zahf r
 cases rx
 obtain ⟨its,r',pl,hz⟩:=I.list hq
 have hlt:p < s.heap.objs.size:=by obtain ⟨_,e,_⟩:=pl.isList; exact Heap.lt_size e
 refine call_any_walk (wpAny_pyIter_list pl.isList ?_)
 refine ⟨_,_,_,_,_,_,fun i=>bs.getD i false,rfl,Walks.list (A:=X.A.in1) (I.ok.hd hc) s.heap.objs.size p (Nat.ne_of_lt hlt) its.toArray,⟨⟨_,Heap.get?_push_size _ rfl,rfl,rfl⟩,pl.isList.push _⟩,?_,fun h' tk k=>?_⟩
 · intro i v s2 Q2 E2 hv hQ
   have e:=zaq0 r' i v (by simpa using hv)
   subst e
   exact wpAny_truthy_bool hQ
 · have hl:=r'.length
   have e:(List.range its.toArray.size).any (fun i=>bs.getD i false)=bs.any id:=by
    rw [show its.toArray.size=bs.length by simp at hl ⊢; omega,zarO]
   rw [e]
   exact ⟨.bl (bs.any id),H,I.kept (old_kept k),rfl,q⟩
end
section
variable {X:Cx} {pins:List (Addr × Obj)} {σ:List (Option V)} {H:Hp} {s:Shared} {h':Heap}
theorem Inv.enumL {t':Nat} {fp:List Addr} {p:Addr} {xs:List V} (I:Inv X pins σ H s) (k:∀ b o,b ∉ fp->s.heap.get? b=some o->h'.get? b=some o) (ff:∀ b ∈ fp,FpOk X pins H b) (hp:s.heap.objs.size<=p)
 (new:ObjOk X.prog X.w (upd H p (.tup xs)) h' p (.tup xs)):Inv X pins σ (upd H p (.tup xs)) { s with heap:=h',toks:=t' }:=by
 have hn:H p=none:=I.hok.fresh hp
 have nt:∀ b u,H b=some u->b ∉ fp:=fun b u q z=>by rw [(ff b z).1] at q; cases q
 refine I.step (g':=s.gens) (d':=s.drawn) (ch:=fp) (fun b hb=>?_) (fun b o _ _ hc q _=>k b o hc q) (fun b o _ _ hc q _=>⟨o.slots,k b o hc q⟩)
  (fun b o _ q n=>by rw [zaaA (Nat.ne_of_lt (Nat.lt_of_lt_of_le (Heap.lt_size q) hp))]; exact n)
  (fun b o hc q=>⟨o,k b o hc q⟩) (fun b ys q=>by rw [zaaA (zaaU q hn)]; exact q) (fun b o u q=>by rw [zaaA (zaaU q hn)]; exact q)
  (fun b ps q=>⟨#[],by rw [zaaA (zaaU q hn),q]; simp⟩) (fun m hm=>?_) (fun b u q=>?_) I.bare
 · obtain ⟨e0,e1,e2,e3,e4,e5⟩:=ff b hb
   exact ⟨e3,e1,e4,e5⟩
 · obtain ⟨o,es,ep,ho,r⟩:=hm
   exact ⟨o,es,ep,k _ o (fun z=>(ff _ z).2.1 rfl) ho,r⟩
 · by_cases hb:b=p
   · subst hb
     rw [zaa6] at q
     cases q
     exact new
   · rw [zaaA hb] at q
     refine (I.hok b u q).stay (fun c v hc q'=>?_) (fun c q=>by rw [zaaA (zaaU q hn)]; exact q) fun c ys q=>by rw [zaaA (zaaU q hn)]; exact q
     rcases hc with z | z
     · subst z
       exact k c v (nt c u q) q'
     · exact k c v (nt c _ z) q'
theorem Inv.turnedL {t':Nat} {fp:List Addr} (I:Inv X pins σ H s) (k:∀ b o,b ∉ fp->s.heap.get? b=some o->h'.get? b=some o) (ff:∀ b ∈ fp,FpOk X pins H b):Inv X pins σ H { s with heap:=h',toks:=t' }:=by
 have nt:∀ b u,H b=some u->b ∉ fp:=fun b u q z=>by rw [(ff b z).1] at q; cases q
 refine I.step (g':=s.gens) (d':=s.drawn) (ch:=fp) (fun b hb=>?_) (fun b o _ _ hc q _=>k b o hc q) (fun b o _ _ hc q _=>⟨o.slots,k b o hc q⟩)
  (fun b o _ q n=>n) (fun b o hc q=>⟨o,k b o hc q⟩) (fun b ys q=>q) (fun b o u q=>q)
  (fun b ps q=>⟨#[],by rw [q]; simp⟩) (fun m hm=>?_) (fun b u q=>?_) I.bare
 · obtain ⟨e0,e1,e2,e3,e4,e5⟩:=ff b hb
   exact ⟨e3,e1,e4,e5⟩
 · obtain ⟨o,es,ep,ho,r⟩:=hm
   exact ⟨o,es,ep,k _ o (fun z=>(ff _ z).2.1 rfl) ho,r⟩
 · refine (I.hok b u q).stay (fun c v hc q'=>?_) (fun c q=>q) fun c ys q=>q
   rcases hc with z | z
   · subst z
     exact k c v (nt c u q) q'
   · exact k c v (nt c _ z) q'
end
section
variable {X:Cx}
end
end L2
namespace SM
open PySem PySem.Spec PyProof.Rows L2
section
variable {X:Cx} {e o i a b:Expr} {f g fe fo fi fa fb:RE} {p pos pos':Pos}
theorem zaug (hc:X.calm=true) (hg:Gl X "any") (hm:X.mg "any" = none) (ha:EM X e f) (hs:zaaP e=true:=by rfl):EM X (.Call (.Name "any" p) [e] [] pos) (eF1 fAny f):=by
 with_unfolding_all
  exact zakE (zaqb hc) (fun ρ h d v d' h' H Q S R e k=>by
   obtain ⟨xs,e1,e⟩:=zaal e
   cases q:zafS xs with
   | none=>rw [q] at e; cases e
   | some ns=>
    rw [q] at e
    cases e
    obtain ⟨a,vs,z,sq,r⟩:=zadd S R e1
    rw [zant q] at r
    rw [r.unbls] at sq
    exact ⟨a,ns,by rw [z],sq,k ρ _ H (rel_bl.mpr rfl) S (Ext.refl _ _)⟩) hg hm PyProof.Rows.boot_any ha (hs:=hs)
theorem zahR (he:EM X e fe) (ho:EM X o fo) (hi:EM X i fi)
 (hs:swapsWithSole [.Subscript o i pos'] e pos.line X.env=pure false:=by rfl) (hw:swappedStores [.Subscript o i pos'] e X.env=pure none:=by rfl) (h1:(assignEach [.Subscript o i pos'] X.env).map (·.2)=[assign (.Subscript o i pos') X.env]:=by rfl)
 (ha:∀ v,assign (.Subscript o i pos') X.env v=(do
  let ov <- holding [v] (eval o X.env)
  let iv <- holding [v,ov] (eval i X.env)
  standAt pos'
  holding [v,ov,iv] (setItem ov iv v)
  release [v,ov,iv] []):=by intro _; rfl):ZM X (.Assign [.Subscript o i pos'] e pos) (zagK fe fo fi):=by
 with_unfolding_all
  exact PS.imp (zavu he (zaui ho hi zarJ ha) hs hw h1) fun D σ H ⟨ρ,l,h,r,S,L,e,k⟩=>by
   obtain ⟨⟨v,hv⟩,e1,e⟩:=zaal e
   obtain ⟨⟨d,hd⟩,e2,e⟩:=zaal e
   obtain ⟨⟨j,hj⟩,e3,e⟩:=zaal e
   refine ⟨ρ,l,h,v,hv,S,L,e1,fun ρ1 u H1 R1 S1 E1=>⟨ρ1,l,hv,d,hd,S1,L.ext E1,e2,fun ρ2 y H2 R2 S2 E2=>⟨ρ2,l,hd,j,hj,S2,L.ext (E1.trans E2),e3,fun ρ3 z H3 R3 S3 E3=>?_⟩⟩⟩
   cases d with
   | ref n=>
    cases j with
    | int kk=>
     dsimp only at e
     split at e
     · rename_i xs q
       obtain ⟨jj,e4,e⟩:=zaal e
       cases e
       obtain ⟨aa,zz,ha⟩:=rel_ref.mp (RelD.ext E3 _ R2)
       obtain ⟨vs,g1,g2⟩:=S3.lst ha q
       have hm:=List.mem_of_getElem? ha
       refine ⟨aa,vs,kk,jj,zz,rel_int.mp R3,g1,by rw [g2.length]; exact e4,?_⟩
       exact k ρ3 σ _ (S3.write ha (nfz g1) ⟨_,zaa6,(g2.set jj (RelD.ext (E2.trans E3) _ R1)).ext (Ext.write hm (nfz g1))⟩) (L.ext (E1.trans (E2.trans (E3.trans (Ext.write hm (nfz g1)))))) (E1.trans (E2.trans (E3.trans (Ext.write hm (nfz g1)))))
     · cases e
    | _=>cases e
   | _=>cases e
theorem zamG {α:Type} (v:α):∀ k:Nat,(List.replicate k [v]).flatten=List.replicate k v
 | 0=>rfl
 | k + 1=>by rw [List.replicate_succ,List.flatten_cons,zamG v k]; rfl
theorem zaoe {K:PySem.W.Frag} {H:Hp} {ρ:Rg} {d:Dt} {v:V} (r:RelD K H ρ d v):∀ k:Nat,RelDs K H ρ (List.replicate k d) (List.replicate k v)
 | 0=>.nil
 | k + 1=>.cons r (zaoe r k)
theorem zanf {σ:L2.St} {H:Hp} {Q:VK} (own:Bool) (h:tM X.K (if own=true then zaji fa fb else eRep fa fb) σ H Q):tOp rRep (tLst (zasx (tM X.K fa) tNil)) (tM X.K fb) σ H Q:=by
 obtain ⟨ρ,l,h,d,h',S,L,e,k⟩:=h
 have e0:∃ d1 h1 d2 h2 i,fa l h=some (d1,h1)/\fb l h1=some (d2,h2)/\d2=.int i/\(-(2 ^ 62)<=i/\i<=1000000)/\(if own=true then (Dt.ref h2.length,h2++[.lst (repD d1 i)]) else (Dt.lst (repD d1 i),h2))=(d,h'):=by
  cases own with
  | true=>
   rw [if_pos rfl] at e
   obtain ⟨⟨d1,h1⟩,e1,e⟩:=zaal e
   obtain ⟨⟨d2,h2⟩,e2,e⟩:=zaal e
   cases d2 with
   | int i=>
    obtain ⟨c,e⟩:=ifE e
    exact ⟨d1,h1,_,h2,i,e1,e2,rfl,c,e⟩
   | _=>cases e
  | false=>
   rw [if_neg Bool.false_ne_true] at e
   obtain ⟨⟨d1,h1⟩,e1,e⟩:=zaal e
   obtain ⟨⟨d2,h2⟩,e2,e⟩:=zaal e
   cases d2 with
   | int i=>
    obtain ⟨c,e⟩:=ifE e
    exact ⟨d1,h1,_,h2,i,e1,e2,rfl,c,e⟩
   | _=>cases e
 obtain ⟨d1,h1,d2,h2,i,e1,e2,rfl,c,ed⟩:=e0
 refine ⟨ρ,l,h,d1,h1,S,L,e1,fun ρ1 v H1 R1 S1 E1=>⟨by simp only [List.length_cons,List.length_nil]; rw [sizeLine_eq]; decide,fun q hq=>?_⟩⟩
 refine ⟨ρ1,l,h1,.int i,h2,S1.fresh hq,L.ext (E1.trans (Ext.fresh hq)),e2,fun ρ2 y H2 R2 S2 E2=>?_⟩
 have hk:=E2.keep q _ zaa6 (S1.out hq).1
 have hi:i.toNat<=1000000:=by omega
 refine ⟨q,i,[v],rfl,rel_int.mp R2,hk,by omega,by omega,by simp only [List.length_cons,List.length_nil]; rw [sizeLine_eq]; omega,fun q2 hq2=>?_⟩
 rw [zamG]
 have RR:RelDs X.K H2 ρ2 (repD d1 i) (List.replicate i.toNat v):=zaoe (RelD.ext ((Ext.fresh hq).trans E2) _ R1) _
 have EE:=E1.trans ((Ext.fresh hq).trans E2)
 cases own with
 | true=>
  rw [if_pos rfl] at ed
  cases ed
  exact k _ _ _ (zafZ S2 RR hq2).1 (zafZ S2 RR hq2).2 (EE.trans (Ext.own hq2))
 | false=>
  rw [if_neg Bool.false_ne_true] at ed
  cases ed
  exact k ρ2 _ _ (zakA S2 RR hq2) (S2.fresh hq2) (EE.trans (Ext.fresh hq2))
theorem zap7 (ha:EM X a fa) (hb:EM X b fb) (hs:zaaP a=true:=by rfl):EM X (.BinOp (.List [a] p) .Mult b pos) (eRep fa fb):=by
 with_unfolding_all
  exact PE.imp (zaph zaqR (zakf (zabz ha zac4 (zaaG hs _ _))) hb) fun σ H Q h=>zanf (fa:=fa) (fb:=fb) false h
theorem zaob (ha:EM X a fa) (hb:EM X b fb) (hs:zaaP a=true:=by rfl):EM X (.BinOp (.List [a] p) .Mult b pos) (zaji fa fb):=by
 with_unfolding_all
  exact PE.imp (zaph zaqR (zakf (zabz ha zac4 (zaaG hs _ _))) hb) fun σ H Q h=>zanf (fa:=fa) (fb:=fb) true h
end
section
variable {K:PySem.W.Frag} {H:Hp} {ρ:Rg} {h:HI}
theorem SimH.bare (S:SimH K ρ h H):SimH K ⟨[],ρ.z⟩ [] H:=⟨List.nodup_nil,rfl,fun _ _ _ e=>by simp at e,fun a ha=>⟨by simp,(S.zt a ha).2⟩⟩
theorem zahU {f:Dt->Option Dt} (hf:∀ d d' v,f d=some d'->RelD K H ρ d v->RelD K H ⟨[],ρ.z⟩ d' v):∀ (xs:List Dt) {ys:List Dt} {vs:List V},allD f xs=some ys->RelDs K H ρ xs vs->RelDs K H ⟨[],ρ.z⟩ ys vs
 | [],ys,vs,e,r=>by
  cases e
  rw [r.unnil]
  exact .nil
 | x::xs,ys,vs,e,r=>by
  obtain ⟨v,rr,rfl,r1,r2⟩:=r.uncons
  obtain ⟨y,e1,e⟩:=zaal (show (f x).bind _=some ys from e)
  cases q:allD f xs with
  | none=>rw [q] at e; cases e
  | some zs=>
   rw [q] at e
   cases e
   exact .cons (hf _ _ _ e1 r1) (zahU hf xs q r2)
theorem TupAt.bare {a:Addr} {vs:List V} (t:TupAt K H ρ a vs):TupAt K H ⟨[],ρ.z⟩ a vs:=by
 rcases t with ⟨n,t⟩ | t
 · exact .inl ⟨⟨by simp,n.2⟩,t⟩
 · exact .inr t
theorem LstAt.bare {a:Addr} {vs:List V} (t:LstAt K H ρ a vs):LstAt K H ⟨[],ρ.z⟩ a vs:=by
 rcases t with ⟨n,t⟩ | t
 · exact .inl ⟨⟨by simp,n.2⟩,t⟩
 · exact .inr t
theorem zagJ (S:SimH K ρ h H):∀ (n:Nat) (d d':Dt) (v:V),resD h n d=some d'->RelD K H ρ d v->RelD K H ⟨[],ρ.z⟩ d' v
 | 0,_,_,_,e,_=>by simp [resD] at e
 | n + 1,.non,_,_,e,r=>by simp only [resD] at e; cases e; simp only [RelD] at r ⊢; exact r
 | n + 1,.bl _,_,_,e,r=>by simp only [resD] at e; cases e; simp only [RelD] at r ⊢; exact r
 | n + 1,.int _,_,_,e,r=>by simp only [resD] at e; cases e; simp only [RelD] at r ⊢; exact r
 | n + 1,.str _,_,_,e,r=>by simp only [resD] at e; cases e; simp only [RelD] at r ⊢; exact r
 | n + 1,.tup xs,_,_,e,r=>by
  simp only [resD] at e
  cases q:allD (resD h n) xs with
  | none=>rw [q] at e; cases e
  | some ys=>
   rw [q] at e
   cases e
   obtain ⟨a,vs,z,t,rr⟩:=rel_tup.mp r
   exact rel_tup.mpr ⟨a,vs,z,t.bare,zahU (fun d d' v=>zagJ S n d d' v) xs q rr⟩
 | n + 1,.lst xs,_,_,e,r=>by
  simp only [resD] at e
  cases q:allD (resD h n) xs with
  | none=>rw [q] at e; cases e
  | some ys=>
   rw [q] at e
   cases e
   obtain ⟨a,vs,z,t,rr⟩:=rel_lst.mp r
   exact rel_lst.mpr ⟨a,vs,z,t.bare,zahU (fun d d' v=>zagJ S n d d' v) xs q rr⟩
 | n + 1,.ntp m,_,_,e,r=>by simp only [resD] at e; cases e
 | n + 1,.ref m,_,_,e,r=>by
  simp only [resD] at e
  split at e
  · rename_i xs q0
    cases q:allD (resD h n) xs with
    | none=>rw [q] at e; cases e
    | some ys=>
     rw [q] at e
     cases e
     obtain ⟨a,z,ha⟩:=rel_ref.mp r
     obtain ⟨vs,g1,g2⟩:=S.lst ha q0
     refine rel_lst.mpr ⟨a,vs,z,.inl ⟨⟨by simp,fun hz=>(S.zt a hz).1 (List.mem_of_getElem? ha)⟩,.inl g1⟩,zahU (fun d d' v=>zagJ S n d d' v) xs q g2⟩
  · cases e
theorem SimH.grown {H':Hp} (S:SimH K ρ h H) (g:∀ a o,H a=some o->H' a=some o):SimH K ρ h H':=by
 have sm:Same2 ρ ρ H H':=⟨fun _ _ _ n=>n,fun a u e _=>g a u e,fun _ _ e=>e,fun a q u e=>g a _ e⟩
 refine ⟨S.nd,S.len,fun n a o e1 e2=>?_,fun a ha=>?_⟩
 · have q:=S.ob n a o e1 e2
   obtain ⟨u,hu⟩:=q.some
   exact ObAt.same sm ((g a u hu).trans hu.symm) q
 · obtain ⟨n,o,e⟩:=S.zt a ha
   exact ⟨n,o,g a _ e⟩
end
section
variable {X:Cx}
theorem zapP {f:Value->Value->Sem Value} {op:Op2} (hb:∀ a b h d h',op a b h=some (d,h')->∃ k,d=.bl k) (ho:OM X f op):OM X f (fun a b h=>(resD h 8 a).bind fun a'=>(resD h 8 b).bind fun b'=>(op a' b' []).map fun r=>(r.1,h)):=by
 with_unfolding_all
  exact OpR.imp ho fun x y H Q ⟨ρ,h,d1,d2,d,h',S,R1,R2,e,k⟩=>by
   obtain ⟨a',e1,e⟩:=zaal e
   obtain ⟨b',e2,e⟩:=zaal e
   cases q:op a' b' [] with
   | none=>rw [q] at e; cases e
   | some r=>
    obtain ⟨r,hr⟩:=r
    rw [q] at e
    cases e
    refine ⟨⟨[],ρ.z⟩,[],a',b',r,hr,S.bare,zagJ S _ _ _ _ e1 R1,zagJ S _ _ _ _ e2 R2,q,fun ρ' v H' R' S' E'=>?_⟩
    obtain ⟨kk,rfl⟩:=hb _ _ _ _ _ q
    have g:∀ a o,H a=some o->H' a=some o:=fun a o ha=>E'.keep a o ha (by simp)
    exact k ρ v H' (rel_bl.mpr (rel_bl.mp R')) (S.grown g) ⟨⟨[],by simp,by simp⟩,rfl,fun a o ha _=>g a o ha,E'.live,fun a q u e=>g a _ e⟩
theorem zauU (a b:Dt) (h:HI) (d:Dt) (h':HI) (e:oEqD a b h=some (d,h')):∃ k,d=.bl k:=by
 unfold oEqD at e
 split at e
 · obtain ⟨_,e⟩:=ifE e; cases e; exact ⟨_,rfl⟩
 · obtain ⟨_,e⟩:=ifE e; cases e; exact ⟨_,rfl⟩
 · unfold oEq at e
   split at e
   · obtain ⟨_,e⟩:=ifE e; cases e; exact ⟨_,rfl⟩
   · cases e
theorem zavz (a b:Dt) (h:HI) (d:Dt) (h':HI) (e:oNeD a b h=some (d,h')):∃ k,d=.bl k:=by
 unfold oNeD at e
 split at e
 · obtain ⟨_,e⟩:=ifE e; cases e; exact ⟨_,rfl⟩
 · obtain ⟨_,e⟩:=ifE e; cases e; exact ⟨_,rfl⟩
 · unfold oNe at e
   split at e
   · obtain ⟨_,e⟩:=ifE e; cases e; exact ⟨_,rfl⟩
   · cases e
theorem zavb (hu:X.A.units + 64 < cLine):OM X (compareOp .Eq) oEqX:=zapP zauU (zabW hu)
theorem zaqz (hu:X.A.units + 64 < cLine):OM X (compareOp .NotEq) oNeX:=zapP zavz (zait hu)
end
end SM
namespace SM
open PySem PySem.Spec PyProof.Rows L2
section
variable {X:Cx} {e o i a b:Expr} {f g fe fo fi fa fb:RE} {p pos pos' apos cpos:Pos}
theorem zahp (ho:EM X a fa) (hb:EM X b fb) (hbase:attributeBase a "extend" X.env (eval a X.env)=eval a X.env:=by rfl)
 (hline:(apos.endLine == cpos.line)=true:=by rfl) (hs:zaaP b=true:=by rfl) :
 EM X (.Call (.Attribute a "extend" apos) [b] [] cpos) (zafI fa fb):=by
 with_unfolding_all
  exact PE.imp (zapv PySem.F.plainAttrs_list PySem.F.slot_list_extend PySem.F.type_list_extend zaqD ho (zabz hb zac4 (zaaG hs _ _)) hbase (zaj1 hs) hline (zaaG hs _ _)) fun σ H Q ⟨ρ,l,h,d,h',S,L,e,k⟩=>by
   obtain ⟨⟨d1,h1⟩,e1,e⟩:=zaal e
   refine ⟨ρ,l,h,d1,h1,S,L,e1,fun ρ1 v H1 R1 S1 E1=>?_⟩
   cases d1 with
   | ref n=>
    dsimp only at e
    split at e
    · rename_i xs0 q0
      obtain ⟨⟨d2,h2⟩,e2,e⟩:=zaal e
      refine ⟨zamT S1 R1 q0,ρ1,l,h1,d2,h2,S1,L.ext E1,e2,fun ρ2 y H2 R2 S2 E2=>?_⟩
      dsimp only at e
      cases d2 with
      | ref m=>
       dsimp only at e
       split at e
       · rename_i xs ys q1 q2
         obtain ⟨hz,e⟩:=ifE e
         cases e
         obtain ⟨a,z,ha⟩:=rel_ref.mp R1
         subst z
         obtain ⟨a2,z2,ha2'⟩:=rel_ref.mp R2
         subst z2
         have ha2:=E2.get ha
         obtain ⟨vs,g1,g2⟩:=S2.lst ha2 q1
         obtain ⟨ws,g3,g4⟩:=S2.lst ha2' q2
         have hm:=List.mem_of_getElem? ha2
         refine ⟨a,a2,vs,ws,rfl,rfl,g1,g3,by rw [g2.length,g4.length]; exact hz,k ρ2 _ _ (rel_non.mpr rfl) (S2.write ha2 (nfz g1) ⟨_,zaa6,?_⟩) (E1.trans (E2.trans (Ext.write hm (nfz g1))))⟩
         exact (g2.append g4).ext (Ext.write hm (nfz g1))
       · cases e
      | _=>cases e
    · cases e
   | _=>cases e
theorem zasj (ho:EM X a fa) (hb:EM X b fb) (hbase:attributeBase a "pop" X.env (eval a X.env)=eval a X.env:=by rfl)
 (hline:(apos.endLine == cpos.line)=true:=by rfl) (hs:zaaP b=true:=by rfl) :
 EM X (.Call (.Attribute a "pop" apos) [b] [] cpos) (zakm fa fb):=by
 with_unfolding_all
  exact PE.imp (zapv PySem.F.plainAttrs_list PySem.F.slot_list_pop PySem.F.type_list_pop zarG ho (zabz hb zac4 (zaaG hs _ _)) hbase (zaj1 hs) hline (zaaG hs _ _)) fun σ H Q ⟨ρ,l,h,d,h',S,L,e,k⟩=>by
   obtain ⟨⟨d1,h1⟩,e1,e⟩:=zaal e
   refine ⟨ρ,l,h,d1,h1,S,L,e1,fun ρ1 v H1 R1 S1 E1=>?_⟩
   cases d1 with
   | ref n=>
    dsimp only at e
    split at e
    · rename_i xs0 q0
      obtain ⟨⟨d2,h2⟩,e2,e⟩:=zaal e
      refine ⟨zamT S1 R1 q0,ρ1,l,h1,d2,h2,S1,L.ext E1,e2,fun ρ2 y H2 R2 S2 E2=>?_⟩
      dsimp only at e
      split at e
      · rename_i z0
        split at e
        · rename_i x xs q1
          cases e
          obtain ⟨a,z,ha⟩:=rel_ref.mp R1
          subst z
          have ha2:=E2.get ha
          obtain ⟨vs,g1,g2⟩:=S2.lst ha2 q1
          have hm:=List.mem_of_getElem? ha2
          obtain ⟨v0,vr,rfl,r0,rr⟩:=g2.uncons
          have hlt:=S2.len
          refine ⟨a,v0::vr,0,0,v0,rfl,by rw [rel_int.mp R2],g1,by decide,by decide,?_,rfl,k ρ2 _ _ (RelD.ext (Ext.write hm (nfz g1)) _ r0) (S2.write ha2 (nfz g1) ⟨_,zaa6,?_⟩) (E1.trans (E2.trans (Ext.write hm (nfz g1))))⟩
          · rw [seqIndex_of (by decide) (by simp only [List.length_cons]; omega)]
            rfl
          · exact rr.ext (Ext.write hm (nfz g1))
        · cases e
      · cases e
    · cases e
   | _=>cases e
theorem zavB (ha:EM X a fa):EM X (.UnaryOp .Invert a pos) (uInv fa):=by
 with_unfolding_all
  exact PE.imp (zasr zau0 ha) fun σ H Q ⟨ρ,l,h,d,h',S,L,e,k⟩=>by
   obtain ⟨⟨d1,h1⟩,e1,e⟩:=zaal e
   refine ⟨ρ,l,h,d1,h1,S,L,e1,fun ρ1 x H1 R1 S1 E1=>?_⟩
   cases d1 with
   | int i=>
    cases e
    exact ⟨i,rel_int.mp R1,k ρ1 _ H1 (rel_int.mpr rfl) S1 E1⟩
   | _=>cases e
theorem zanc {c:Expr} {body:List Stmt} {t:RT} {u:RS} {n:Nat} (hp:PassesOwn (model X.prog X.w) X.A X.env X.xe) (hc:TM X c t) (hb:ZMs X body u):ZM X (.While c body [] pos) (zakx n t u):=by
 with_unfolding_all
  exact PS.imp (zarg hp hc hb) fun D σ H ⟨ρ,l,h,r,S,L,e,k⟩=>by
   refine ⟨fun m σ' H'=>∃ ρ' l' h',SimH X.K ρ' h' H'/\SimL X.K H' ρ' l' σ'/\Ext ρ ρ' H H'/\zadD t u m l' h'=some r,⟨n,ρ,l,h,S,L,Ext.refl _ _,e⟩,?_⟩
   rintro m σ' H' ⟨ρ',l',h',S',L',E',e'⟩
   cases m with
   | zero=>simp only [zadD] at e'; cases e'
   | succ m=>
    simp only [zadD] at e'
    obtain ⟨⟨b,h1⟩,e1,e'⟩:=zaal e'
    refine ⟨ρ',l',h',b,h1,S',L',e1,fun ρ2 H2 S2 E2=>?_⟩
    cases b with
    | true=>
     rw [if_pos rfl] at e'
     obtain ⟨r1,e2,e'⟩:=zaal e'
     refine iteT ⟨fun σ3 H3=>∃ m',m' < m + 1/\∃ ρ' l' h',SimH X.K ρ' h' H3/\SimL X.K H3 ρ' l' σ3/\Ext ρ ρ' H H3/\zadD t u m' l' h'=some r,fun σ3 H3 q=>q,ρ2,l',h1,r1,S2,L'.ext E2,e2,?_⟩
     cases r1 with
     | nx l2 h2=>exact fun ρ5 σ5 H5 S5 L5 E5=>⟨m,Nat.lt_succ_self _,ρ5,l2,h2,S5,L5,E'.trans (E2.trans E5),e'⟩
     | ct l2 h2=>exact fun ρ5 σ5 H5 S5 L5 E5=>⟨m,Nat.lt_succ_self _,ρ5,l2,h2,S5,L5,E'.trans (E2.trans E5),e'⟩
     | bk l2 h2=>
      cases e'
      exact fun ρ5 σ5 H5 S5 L5 E5=>k ρ5 σ5 H5 S5 L5 (E'.trans (E2.trans E5))
     | rt d2 h2=>
      cases e'
      exact fun ρ5 v5 H5 R5 S5 E5=>k ρ5 v5 H5 R5 S5 (E'.trans (E2.trans E5))
    | false=>
     rw [if_neg Bool.false_ne_true] at e'
     cases e'
     exact iteF (k ρ2 σ' H2 S2 (L'.ext E2) (E'.trans E2))
theorem zaub (hc:X.calm=true) (hg:Gl X "min") (hm:X.mg "min" = none) (ha:EM X a fa) (hb:EM X b fb) (hs:zaaP a=true:=by rfl) (hs2:zaaP b=true:=by rfl):EM X (.Call (.Name "min" p) [a,b] [] pos) (eF2 zajh fa fb):=by
 with_unfolding_all
  exact PE.imp (zakb (zap3 hc) hg hm PyProof.Rows.boot_min (zabz ha (zabz hb zac4 (zaaG hs2 _ _)) (zaaG hs _ _)) (he:=zaaG hs _ _) (hpl:=zag8 (by rw [List.all_cons,hs2]; rfl))) fun σ H Q ⟨ρ,l,h,d,h',S,L,e,k⟩=>by
   obtain ⟨⟨d1,h1⟩,e1,e⟩:=zaal e
   obtain ⟨⟨d2,h2⟩,e2,e⟩:=zaal e
   refine ⟨ρ,l,h,d1,h1,S,L,e1,fun ρ1 v H1 R1 S1 E1=>⟨ρ1,l,h1,d2,h2,S1,L.ext E1,e2,fun ρ2 u H2 R2 S2 E2=>?_⟩⟩
   cases d1 with
   | int i=>
    cases d2 with
    | int j=>
     cases e
     exact ⟨i,j,by rw [rel_int.mp R1,rel_int.mp R2],k ρ2 _ H2 (rel_int.mpr rfl) S2 (E1.trans E2)⟩
    | _=>cases e
   | _=>cases e
end
end SM
namespace L2
open PySem PySem.Spec PyProof.Rows
section
variable {X:Cx}
end
end L2
namespace SM
open PySem PySem.Spec PyProof.Rows L2
section
variable {X:Cx} {e o i a b:Expr} {f g fe fo fi fa fb:RE} {p pos pos' apos cpos:Pos}
end
end SM
namespace L2
open PySem PySem.Spec PyProof.Rows
section
variable {κ:Type} [DecidableEq κ]
noncomputable def valV (kvs:List (κ × V)) (k:κ):Option V:=(kvs.find? fun kv=>decide (kv.1=k)).map (·.2)
noncomputable def putK (kvs:List (κ × V)) (k:κ) (v:V):List (κ × V):=
 if (kvs.any fun kv=>decide (kv.1=k))=true then kvs.map (fun kv=>if kv.1=k then (kv.1,v) else kv) else kvs++[(k,v)]
noncomputable def zasp (kvs:List (κ × V)) (k:κ):List (κ × V):=kvs.filter fun kv=>decide (kv.1 ≠ k)
theorem zahO {p:κ × V} {r:List (κ × V)} {k:κ} (e:p.1=k):valV (p::r) k=some p.2:=by simp [valV,List.find?_cons,e]
theorem zahQ {p:κ × V} {r:List (κ × V)} {k:κ} (e:¬ p.1=k):valV (p::r) k=valV r k:=by simp [valV,List.find?_cons,e]
theorem zamP (k:κ):∀ kvs:List (κ × V),(kvs.any fun kv=>decide (kv.1=k))=(valV kvs k).isSome
 | []=>rfl
 | p::r=>by
  rw [List.any_cons]
  by_cases e:p.1=k
  · simp only [zahO e,decide_eq_true e,Bool.true_or,Option.isSome_some]
  · rw [zahQ e,decide_eq_false e,Bool.false_or]; exact zamP k r
theorem zajB (kvs:List (κ × V)) (k:κ) (v:V):(putK kvs k v).length<=kvs.length + 1:=by
 unfold putK
 split
 · rw [List.length_map]; omega
 · rw [List.length_append,List.length_cons,List.length_nil]; omega
theorem RelO.isSome_eq {o:Option V} {u:Option Value} (r:RelO o u):o.isSome=u.isSome:=by
 cases o with
 | none=>cases u with
  | none=>rfl
  | some _=>exact (show False from r).elim
 | some _=>cases u with
  | none=>exact (show False from r).elim
  | some _=>rfl
theorem RelO.getD {o:Option V} {u:Option Value} {d:V} {d':Value} (r:RelO o u) (rd:RelV d d'):RelV (o.getD d) (u.getD d'):=by
 cases o with
 | none=>cases u with
  | none=>exact rd
  | some _=>exact (show False from r).elim
 | some _=>cases u with
  | none=>exact (show False from r).elim
  | some _=>exact r
theorem KV.val {kvs:List (κ × V)} {vs:List (κ × Value)} (r:KV kvs vs) (k:κ):RelO (valV kvs k) (valueAt vs k):=by
 unfold KV at r
 induction r with
 | nil=>exact True.intro
 | @cons p q ps qs h t ih=>
  obtain ⟨h1,h2⟩:=h
  by_cases e:p.1=k
  · have e':q.1=k:=h1.symm.trans e
    have b:valueAt (q::qs) k=some q.2:=by simp [valueAt,List.find?_cons,e']
    rw [zahO e,b]; exact h2
  · have e':¬ q.1=k:=fun z=>e (h1.trans z)
    have b:valueAt (q::qs) k=valueAt qs k:=by simp [valueAt,List.find?_cons,e']
    rw [zahQ e,b]; exact ih
theorem KV.any {kvs:List (κ × V)} {vs:List (κ × Value)} (r:KV kvs vs) (k:κ):(kvs.any fun kv=>decide (kv.1=k))=vs.any fun kv=>decide (kv.1=k):=by
 unfold KV at r
 induction r with
 | nil=>rfl
 | cons h t ih=>rw [List.any_cons,List.any_cons,ih,h.1]
theorem KV.repl {kvs:List (κ × V)} {vs:List (κ × Value)} (r:KV kvs vs) (k:κ) {y:V} {u:Value} (ry:RelV y u) :
 KV (kvs.map fun kv=>if kv.1=k then (kv.1,y) else kv) (vs.map fun kv=>if kv.1=k then (kv.1,u) else kv):=by
 unfold KV at r ⊢
 induction r with
 | nil=>exact .nil
 | @cons p q ps qs h t ih=>
  rw [List.map_cons,List.map_cons]
  refine .cons ?_ ih
  obtain ⟨h1,h2⟩:=h
  by_cases e:p.1=k
  · rw [if_pos e,if_pos (h1.symm.trans e)]; exact ⟨h1,ry⟩
  · rw [if_neg e,if_neg (fun z=>e (h1.trans z))]; exact ⟨h1,h2⟩
theorem KV.put {kvs:List (κ × V)} {vs:List (κ × Value)} (r:KV kvs vs) (k:κ) {y:V} {u:Value} (ry:RelV y u):KV (putK kvs k y) (stored vs k u):=by
 unfold putK stored
 rw [r.any k]
 by_cases e:(vs.any fun kv=>decide (kv.1=k))=true
 · rw [if_pos e,if_pos e]; exact r.repl k ry
 · rw [if_neg e,if_neg e]; exact Paired.snoc r ⟨rfl,ry⟩
theorem KV.drop {kvs:List (κ × V)} {vs:List (κ × Value)} (r:KV kvs vs) (k:κ):KV (zasp kvs k) (without vs k):=by
 unfold KV at r ⊢
 unfold zasp without
 induction r with
 | nil=>exact .nil
 | @cons p q ps qs h t ih=>
  obtain ⟨h1,h2⟩:=h
  rw [List.filter_cons,List.filter_cons]
  by_cases e:p.1=k
  · have a:¬ decide (p.1 ≠ k)=true:=by simp [e]
    have b:¬ decide (q.1 ≠ k)=true:=by simp [h1.symm.trans e]
    rw [if_neg a,if_neg b]; exact ih
  · have e':¬ q.1=k:=fun z=>e (h1.trans z)
    have a:decide (p.1 ≠ k)=true:=by simp [e]
    have b:decide (q.1 ≠ k)=true:=by simp [e']
    rw [if_pos a,if_pos b]; exact .cons ⟨h1,h2⟩ ih
theorem KV.keys {kvs:List (κ × V)} {vs:List (κ × Value)} (r:KV kvs vs):kvs.map (·.1)=vs.map (·.1):=by
 unfold KV at r
 induction r with
 | nil=>rfl
 | cons h t ih=>rw [List.map_cons,List.map_cons,ih,h.1]
theorem KV.length {kvs:List (κ × V)} {vs:List (κ × Value)} (r:KV kvs vs):kvs.length=vs.length:=Paired.length r
end
theorem zaoF {P:Program} {w:World} {k:Key} {u:Value} (r:RelV (kV k) u):(zabV P w).is k u=true:=by
 cases k with
 | inl i=>obtain ⟨t,e⟩:=(show ∃ t,u=Value.int i t from r); subst e; exact zanL P w i t
 | inr x=>obtain ⟨t,e⟩:=(show ∃ t,u=Value.str x t from r); subst e; exact zanM P w x t
theorem zalD {P:Program} {w:World}:∀ {ks:List Key} {us:List Value},Vals (ks.map kV) us->ItemsAre (zabV P w) ks us
 | [],_,r=>by rw [List.map_nil] at r; cases r; exact .nil
 | k::ks,_,r=>by
  rw [List.map_cons] at r
  cases r with
  | cons h t=>exact .cons (zaoF h) (zalD t)
noncomputable abbrev KT (H:Hp):List (List Key × V)->List (List Key × Addr × Value)->Prop:=Paired fun p q=>p.1=q.1/\H q.2.1=some (.tup (p.1.map kV))/\RelV p.2 q.2.2
theorem KT.val {H:Hp} {kvs:List (List Key × V)} {xs:List (List Key × Addr × Value)} (r:KT H kvs xs) (k:List Key):RelO (valV kvs k) ((atKey xs k).map (·.2)):=by
 induction r with
 | nil=>exact True.intro
 | @cons p q ps qs h t ih=>
  obtain ⟨h1,_,h2⟩:=h
  by_cases e:p.1=k
  · have e':q.1=k:=h1.symm.trans e
    have b:atKey (q::qs) k=some q.2:=by simp [atKey,List.find?_cons,e']
    rw [zahO e,b]; exact h2
  · have e':¬ q.1=k:=fun z=>e (h1.trans z)
    have b:atKey (q::qs) k=atKey qs k:=by simp [atKey,List.find?_cons,e']
    rw [zahQ e,b]; exact ih
theorem KT.repl {H:Hp} {kvs:List (List Key × V)} {xs:List (List Key × Addr × Value)} (r:KT H kvs xs) (k:List Key) {y:V} {u:Value} (ry:RelV y u) :
 KT H (kvs.map fun kv=>if kv.1=k then (kv.1,y) else kv) (xs.map (putAt k u)):=by
 induction r with
 | nil=>exact .nil
 | @cons p q ps qs h t ih=>
  rw [List.map_cons,List.map_cons]
  refine .cons ?_ ih
  obtain ⟨h1,h2,h3⟩:=h
  unfold putAt
  by_cases e:p.1=k
  · rw [if_pos e,if_pos (h1.symm.trans e)]; exact ⟨h1,h2,ry⟩
  · rw [if_neg e,if_neg (fun z=>e (h1.trans z))]; exact ⟨h1,h2,h3⟩
theorem KT.put {H:Hp} {kvs:List (List Key × V)} {xs:List (List Key × Addr × Value)} (r:KT H kvs xs) (k:List Key) {b:Addr} {y:V} {u:Value} (hb:H b=some (.tup (k.map kV))) (ry:RelV y u) :
 KT H (putK kvs k y) (storedH xs k b u):=by
 have e:(kvs.any fun kv=>decide (kv.1=k))=(atKey xs k).isSome:=by
  rw [zamP,(r.val k).isSome_eq,Option.isSome_map]
 unfold putK storedH
 rw [e]
 by_cases q:(atKey xs k).isSome=true
 · rw [if_pos q,if_pos q]; exact r.repl k ry
 · rw [if_neg q,if_neg q]; exact Paired.snoc r ⟨rfl,hb,ry⟩
theorem KT.keeps {H H':Hp} {kvs:List (List Key × V)} {xs:List (List Key × Addr × Value)} (r:KT H kvs xs) (ht:∀ b ys,H b=some (.tup ys)->H' b=some (.tup ys)):KT H' kvs xs:=
 Paired.mapP r fun _ _ z=>⟨z.1,ht _ _ z.2.1,z.2.2⟩
section
variable {P:Program} {w:World} {H:Hp} {h:Heap} {a:Addr}
theorem zasv {u:HO} (ok:HOk P w H h) (e:Rd H a u):ObjOk P w H h a u:=e.ok ok
theorem zaoK {kvs:List (Key × V)} (ok:HOk P w H h) (e:Rd H a (.dK kvs)):kvs.length<=sizeLine/\(a == sysModules)=false/\∃ vs,KV kvs vs/\h.DictOf (zabV P w) a vs:=
 show ObjOk P w H h a (.dK kvs) from zasv ok e
theorem zawF {kvs:List (Key × V)} (ok:HOk P w H h) (e:H a=some (.dK kvs)):kvs.length<=sizeLine/\(a == sysModules)=false/\∃ vs,KV kvs vs/\h.DictOf (zabV P w) a vs:=zaoK ok (.inl e)
theorem zamV {ks:List Key} (ok:HOk P w H h) (e:H a=some (.tup (ks.map kV))):(tupleKind (zabV P w)).is h ks a:=by
 obtain ⟨_,its,r,o,h1,h2,n,h3⟩:=(show ObjOk P w H h a (.tup (ks.map kV)) from ok a _ e)
 exact ⟨o,its.toArray,n,h1,h2,h3,by simpa using zalD r⟩
theorem zaoJ {kvs:List (List Key × V)} (ok:HOk P w H h) (e:Rd H a (.dT kvs)):kvs.length<=sizeLine/\(a == sysModules)=false/\
 ∃ xs,KT H kvs xs/\h.DictOfH (tupleKind (zabV P w)) a xs:=by
 obtain ⟨z,y,xs,r,o,es,ep,h1,h2,h3,h4,h5⟩:=(show ObjOk P w H h a (.dT kvs) from zasv ok e)
 refine ⟨z,y,xs,r,o,es,ep,h1,h2,h3,h4,fun x hx=>?_,h5⟩
 have all:∀ {l:List (List Key × V)} {m:List (List Key × Addr × Value)},KT H l m->∀ x ∈ m,(tupleKind (zabV P w)).is h x.1 x.2.1:=by
  intro l m q
  induction q with
  | nil=>intro x hx; exact nomatch hx
  | @cons p q ps qs hq t ih=>
   intro x hx
   rcases List.mem_cons.mp hx with e | hx
   · subst e
     exact zamV ok (by rw [<- hq.1]; exact hq.2.1)
   · exact ih x hx
 exact all r x hx
theorem zawh {kvs:List (List Key × V)} (ok:HOk P w H h) (e:H a=some (.dT kvs)):kvs.length<=sizeLine/\(a == sysModules)=false/\
 ∃ xs,KT H kvs xs/\h.DictOfH (tupleKind (zabV P w)) a xs:=zaoJ ok (.inl e)
end
noncomputable def DGet (H:Hp) (a:Addr) (y:V) (r:Option V):Prop:=
 (∃ kvs k,Rd H a (.dK kvs)/\y=kV k/\r=valV kvs k)\/∃ kvs k b,Rd H a (.dT kvs)/\y=.ref b/\H b=some (.tup (k.map kV))/\r=valV kvs k
noncomputable def DPut (H:Hp) (a:Addr) (y v:V) (H':Hp):Prop:=
 (∃ kvs k,H a=some (.dK kvs)/\y=kV k/\kvs.length < sizeLine/\H'=upd H a (.dK (putK kvs k v)))\/
 ∃ kvs k b,H a=some (.dT kvs)/\y=.ref b/\H b=some (.tup (k.map kV))/\kvs.length < sizeLine/\H'=upd H a (.dT (putK kvs k v))
theorem DGet.t {H:Hp} {a b:Addr} {kvs:List (List Key × V)} {k:List Key} (e:H a=some (.dT kvs)) (eb:H b=some (.tup (k.map kV))):DGet H a (.ref b) (valV kvs k):=.inr ⟨kvs,k,b,.inl e,rfl,eb,rfl⟩
theorem DPut.t {H:Hp} {a b:Addr} {kvs:List (List Key × V)} {k:List Key} {v:V} (e:H a=some (.dT kvs)) (eb:H b=some (.tup (k.map kV))) (hl:kvs.length < sizeLine) :
 DPut H a (.ref b) v (upd H a (.dT (putK kvs k v))):=.inr ⟨kvs,k,b,e,rfl,eb,hl,rfl⟩
section
variable {X:Cx} {pins:List (Addr × Obj)} {σ:St} {H:Hp} {s:Shared} {a:Addr} {y v:V} {u r:Value} {o:Option V} {A:Around} {E:Value->Shared->Prop}
theorem Inv.big (I:Inv X pins σ H s):sysModules < s.heap.objs.size:=by
 have h:mainGlobals < s.heap.objs.size:=(I.mod.glob.keeps I.bk).lt
 exact Nat.lt_trans (by decide) h
theorem zakY {h':Heap} {t':Nat} {ob:HO} (I:Inv X pins σ H s) (mu:Mut (H a)) (hs:Heap.SameBut a s.heap h') (he:∃ q,h'.get? a=some q) (new:ObjOk X.prog X.w (upd H a ob) h' a ob) :
 Inv X pins σ (upd H a ob) { s with heap:=h',toks:=t' }:=
 I.write (x:=a) (e:=a) mu (.inl rfl) (fun b q hb z=>(hs.2 b hb).trans z) he new
theorem zauJ {P:Program} {w:World} {H':Hp} {h':Heap} {kvs:List (Key × V)} {vs:List (Key × Value)} (z:kvs.length<=sizeLine) (hd:(a == sysModules)=false) (rel:KV kvs vs) (dd:h'.DictOf (zabV P w) a vs) :
 ObjOk P w H' h' a (.dK kvs):=⟨z,hd,vs,rel,dd⟩
theorem zap2 {H':Hp} {Q:Unit->Shared->Prop} (hu:A.units + 1 < cLine) (I:Inv X pins σ H s) (g:DPut H a y v H') (ry:RelV y u) (rv:RelV v r) (h:∀ s',Inv X pins σ H' s'->Q () s') :
 wpAny (model X.prog X.w) A (setItem (.ref a) u r) Q E s:=by
 rcases g with ⟨kvs,k,e,ey,l,eH⟩ | ⟨kvs,k,b,e,ey,eb,l,eH⟩
 · subst ey eH
   obtain ⟨z,hd,vs,rel,dd⟩:=zawF I.hok e
   have hz:vs.length<=sizeLine:=by rw [<- rel.length]; exact z
   have hl:(putK kvs k v).length<=sizeLine:=by have:=zajB kvs k v; omega
   refine wpAny_setItem_pairs (hsz:=hz) (zaoF ry) dd fun h' dd' hs=>h _ ?_
   have he:∃ q,h'.get? a=some q:=let ⟨q,_,_,hq,_⟩:=dd'; ⟨q,hq⟩
   exact zakY I (by rw [e]; exact True.intro) hs he (zauJ hl hd (rel.put k rv) dd')
 · subst ey eH
   cases (show u=Value.ref b from ry)
   obtain ⟨z,hd,xs,rel,dd⟩:=zawh I.hok e
   have hz:xs.length<=sizeLine:=by rw [<- Paired.length rel]; exact z
   have hl:(putK kvs k v).length<=sizeLine:=by have:=zajB kvs k v; omega
   refine wpAny_setItem_heap (hsz:=hz) (tupleKind_room_in1 hu) (zamV I.hok eb) dd fun h' dd' hs=>h _ ?_
   obtain ⟨q,es,ep,hq,h2,h3,h4,_,h5⟩:=dd'
   refine zakY I (by rw [e]; exact True.intro) hs ⟨q,hq⟩ ⟨hl,hd,_,(rel.put k eb rv).keeps fun c ys ec=>?_,q,es,ep,hq,h2,h3,h4,h5⟩
   rw [zaaA (zao1 ec e (fun z=>nomatch z))]
   exact ec
end
section
variable {X:Cx} {pins:List (Addr × Obj)} {σ:St} {H:Hp} {s:Shared} {a:Addr} {kvs:List (Key × V)} {k:Key} {u:Value} {A:Around} {E:Value->Shared->Prop}
end
noncomputable def zawo (td ty tv:TE):TS:=fun D σ H=>tv σ H fun v H1=>td σ H1 fun x H2=>ty σ H2 fun y H3=>∃ a H4,x=.ref a/\DPut H3 a y v H4/\D.nx σ H4
section
variable {X:Cx} {o i e value:Expr} {pos pos' tpos:Pos} {td ty tv:TE}
theorem zati (hu:X.A.units + 1 < cLine) (ho:PE X o td) (hi:PE X i ty) (hv:PE X value tv) (hs:swapsWith value (some (.Subscript o i pos')) pos.line X.env=pure false) :
 PS X (.Assign [.Subscript o i pos'] value pos) (zawo td ty tv):=by
 intro pins s σ H D I h
 refine wpAny_Assign_Subscript (thn (hv pins s σ H _ I h) fun r s1 ⟨v,H1,I1,rv,q1⟩=>thn (ho pins s1 σ H1 _ I1 q1) fun u s2 ⟨x,H2,I2,rx,q2⟩=>thn (hi pins s2 σ H2 _ I2 q2) fun iv s3 ⟨y,H3,I3,ry,a,H4,ex,g,q3⟩=>?_) hs
 subst ex
 obtain rfl:u=Value.ref a:=rx
 exact zap2 hu I3 g ry rv fun s4 I4=>⟨σ,H4,I4,q3⟩
end
theorem zar4 {P:Program} {w:World} {H:Hp} (h:Heap) (hb:sysModules < h.objs.size):ObjOk P w H (h.push { cls:=.type "dict", data:=.dict #[] }) h.objs.size (.dT []):=
 ⟨Nat.zero_le _,beq_eq_false_iff_ne.mpr (Ne.symm (Nat.ne_of_lt hb)),[],.nil,_,#[],0,Heap.get?_push_size _ rfl,⟨rfl,rfl,rfl⟩,rfl,rfl,List.nodup_nil⟩
noncomputable def zavk:TE:=fun _ H Q=>∀ p,H p=none->Q (.ref p) (upd H p (.dT []))
section
variable {X:Cx} {pos:Pos}
theorem zarK:PE X (.Dict [] [] pos) zavk:=fun pins s σ H Q I h=>
 wpAny_Dict_empty ⟨.ref s.heap.objs.size,_,I.laid (a:=s.heap.objs.size) (o:=.dT []) (t':=s.toks) (fun _ _ q=>Heap.get?_push_of_some _ q) (Nat.le_refl _) (zar4 s.heap I.big),rfl,h _ (I.hok.fresh (Nat.le_refl _))⟩
end
structure M1 (X:Cx) (o:Expr) (m:Str) (apos:Pos) (e:Expr) (cpos:Pos):Prop where
 base:attributeBase o m X.env (eval o X.env)=eval o X.env
 few:((backTo cpos (starEach [e] X.env)).all (fun x=>!x.1) && (backToKw cpos (keywordEach [] X.env)).all (fun x=>x.1.isSome)
  && decide (([e]:List Expr).length + ([]:List Keyword).length + (if ([]:List Keyword).isEmpty then 0 else 1) < 30))=true
 line:(apos.endLine == cpos.line)=true
 trees:backTo cpos (starEach [e] X.env)=[(false,eval e X.env)]
structure M2 (X:Cx) (o:Expr) (m:Str) (apos:Pos) (e f:Expr) (cpos:Pos):Prop where
 base:attributeBase o m X.env (eval o X.env)=eval o X.env
 few:((backTo cpos (starEach [e,f] X.env)).all (fun x=>!x.1) && (backToKw cpos (keywordEach [] X.env)).all (fun x=>x.1.isSome)
  && decide (([e,f]:List Expr).length + ([]:List Keyword).length + (if ([]:List Keyword).isEmpty then 0 else 1) < 30))=true
 line:(apos.endLine == cpos.line)=true
 trees:backTo cpos (starEach [e,f] X.env)=[(false,eval e X.env),(false,eval f X.env)]
noncomputable def IsD (H:Hp) (a:Addr):Prop:=(∃ kvs,Rd H a (.dK kvs))\/∃ kvs,Rd H a (.dT kvs)
theorem zaq2 {X:Cx} {pins:List (Addr × Obj)} {σ:St} {H:Hp} {s:Shared} {a:Addr} (I:Inv X pins σ H s) (d:IsD H a) :
 s.TypeIs (.ref a) "dict" /\ (∀ b,Value.ref a=.ref b->∃ ob,s.heap.get? b=some ob/\ob.dict=none)/\(a == sysModules)=false:=by
 rcases d with ⟨kvs,e⟩ | ⟨kvs,e⟩
 · obtain ⟨_,hd,vs,_,dd⟩:=zaoK I.hok e
   refine ⟨dd.typeIs,fun b q=>?_,hd⟩
   cases q
   obtain ⟨ob,_,_,h1,h2,_⟩:=dd
   exact ⟨ob,h1,h2.2.1⟩
 · obtain ⟨_,hd,xs,_,dd⟩:=zaoJ I.hok e
   refine ⟨dd.typeIs,fun b q=>?_,hd⟩
   cases q
   obtain ⟨ob,_,_,h1,h2,_⟩:=dd
   exact ⟨ob,h1,h2.2.1⟩
section
variable {X:Cx} {pins:List (Addr × Obj)} {σ:St} {H:Hp} {s:Shared} {a:Addr} {y d:V} {u r:Value} {o:Option V} {A:Around} {E:Value->Shared->Prop}
theorem zavD {Q:Value->Shared->Prop} (hu:A.units + 1 < cLine) (I:Inv X pins σ H s) (g:DGet H a y o) (ry:RelV y u) (rd:RelV d r) (h:∀ w' s',Inv X pins σ H s'->RelV (o.getD d) w'->Q w' s') :
 wpAny (model X.prog X.w) A (call (.builtin "dict.get") [.ref a,u,r]) Q E s:=by
 rcases g with ⟨kvs,k,e,ey,l⟩ | ⟨kvs,k,b,e,ey,eb,l⟩
 · subst ey
   obtain ⟨z,hd,vs,rel,dd⟩:=zaoK I.hok e
   refine call_meetsIn PySem.F.slot_dict_get dd.typeIs PySem.F.entry_dict_get (PySem.F.args_dict_get_3 _ _ _) (meets_dict_get_default (zabV X.prog X.w) a (zaoF ry) hd r) ⟨_,dd.mapOf,h _ _ (I.tok _) ?_⟩
   rw [l]
   exact (rel.val k).getD rd
 · subst ey
   cases (show u=Value.ref b from ry)
   obtain ⟨z,hd,xs,rel,dd⟩:=zaoJ I.hok e
   refine call_meetsIn PySem.F.slot_dict_get dd.typeIs PySem.F.entry_dict_get (PySem.F.args_dict_get_3 _ _ _) (meetsH_dict_get_default (tupleKind (zabV X.prog X.w)) a b hd r) ⟨tupleKind_room_in1 hu,k,xs,zamV I.hok eb,dd,h _ _ (I.tok _) ?_⟩
   rw [l]
   exact (rel.val k).getD rd
end
noncomputable def zaux (td ty tx:TE):TE:=fun σ H Q=>td σ H fun x H1=>∃ a,x=.ref a/\IsD H1 a/\ty σ H1 fun y H2=>tx σ H2 fun z H3=>∃ o,DGet H3 a y o/\Q (o.getD z) H3
section
variable {X:Cx} {o e f:Expr} {apos cpos:Pos} {td ty tx:TE}
theorem zaro (hu:X.A.units + 1 < cLine) (ho:PE X o td) (he:PE X e ty) (hf:PE X f tx) (m:M2 X o "get" apos e f cpos):PE X (.Call (.Attribute o "get" apos) [e,f] [] cpos) (zaux td ty tx):=by
 intro pins s σ H Q I h
 refine wpAny_Call_method m.base m.few m.line PySem.F.plainAttrs_dict PySem.F.slot_dict_get PySem.F.type_dict_get (thn (ho pins s σ H _ I h) fun u s1 ⟨x,H1,I1,rx,a,ex,d,q1⟩=>?_)
 subst ex
 obtain rfl:u=Value.ref a:=rx
 obtain ⟨t1,t2,_⟩:=zaq2 I1 d
 refine ⟨t1,t2,?_⟩
 rw [m.trees]
 refine Calls.callWith_builtin rfl (Calls.evalArgs_plain (Calls.spliced_cons (thn (he pins s1 σ H1 _ I1 q1) fun iv s2 ⟨y,H2,I2,ry,q2⟩=>
  Calls.spliced_cons (thn (hf pins s2 σ H2 _ I2 q2) fun fv s3 ⟨z,H3,I3,rz,ov,g,q3⟩=>Calls.spliced_nil ?_))))
 exact zavD hu I3 g ry rz fun w' s4 I4 rw'=>⟨_,H3,I4,rw',q3⟩
end
section
variable {X:Cx} {pins:List (Addr × Obj)} {σ:St} {H:Hp} {s:Shared} {a:Addr} {kvs:List (Key × V)} {A:Around} {E:Value->Shared->Prop}
end
section
variable {X:Cx} {pins:List (Addr × Obj)} {σ:St} {H:Hp} {s:Shared} {a:Addr} {y:V} {u:Value} {A:Around} {E:Value->Shared->Prop}
end
end L2
namespace L2
open PySem PySem.Spec PyProof.Rows
section
variable {prog:Program} {w:World} {A:Around} {E:Value->Shared->Prop} {s:Shared}
theorem zaih {it:Addr} {R:String->Shared->Prop} (tt:s.TypeIs (.ref it) "dict_itemiterator") (q:R "dict_itemiterator" s) :
 wpAny (model prog w) A (typeNameOfWhole (.ref it)) R E s:=wpAny_typeNameOfWhole_itemiter tt q
theorem zarx {d:Addr} {es:Array DictEntry} {ep:Nat} {od:Obj} {v:Addr} {R:Value->Shared->Prop} (gv:s.heap.IsItemsView v d) (gd:s.heap.get? d=some od) (gt:od.data=.dict es ep)
 (q:R (.ref s.heap.objs.size) { s with heap:=s.heap.push { cls:=.type "dict_itemiterator", data:=.fields #[.none,.bool false,.ref d,.int 0 0,.int es.size 0,.int ep 0,.none,.none] } }) :
 wpAny (model prog w) A (pyIter (.ref v)) R E s:=by
 obtain ⟨o1,g1,g2,g3⟩:=id gv
 refine wpAny_pyIter_slot gv.typeIs F.slot_dict_items_iter (wpAny_call_entry F.slot_dict_items_iter gv.typeIs F.entry_dict_items_iter ?c1 (F.args_dict_items_iter_1 _))
 unfold Builtin.«dict_items.__iter__»; refine wpAny_bind (wpAny_pure (wpAny_bind ?c2))
 unfold Builtin.Dict_items.dictOf; refine wpAny_bind (wpAny_field g1 g3 (x:=.ref d) rfl (wpAny_pure (wpAny_bind ?c3)))
 unfold Builtin.Dict_items.newIterator; refine wpAny_bind (wpAny_dictEntries gd gt (wpAny_bind (wpAny_dictEpoch gd gt ?c4)))
 have own1:Builtin.Dict_items.ownsTuple "dict_itemiterator" = true:=by decide
 simp only [own1,if_true]
 refine wpAny_newObj_type (wpAny_pure ⟨_,rfl, "dict_itemiterator", _,⟨_,Heap.get?_push_size _ rfl,rfl⟩,F.slot_dict_itemiterator_next.lookup,?c5⟩) ?c6
 · simpa [rawInt,Builtin.Dict_items.ownedTupleFields] using q
 · simp only [sizeOk,Builtin.Dict_items.ownedTupleFields,List.size_toArray,List.length_append,List.length_cons,List.length_nil,sizeLine_eq]; omega
theorem zarR {it d:Addr} {i ep:Nat} {es:Array DictEntry} {od:Obj} {k0 v0:Value} {R:Option Value->Shared->Prop}
 (gi:IsItemIter s.heap it d i es.size ep k0 v0) (gd:s.heap.get? d=some od) (gt:od.data=.dict es ep) (lt:i < es.size)
 (fin:∀ h',IsItemIterOut h' it d (i + 1) es.size ep es[i].key es[i].val s.heap.objs.size->
  h'.get? s.heap.objs.size=some { cls:=.type "tuple", data:=.seq #[es[i].key,es[i].val] }->h'.objs.size=s.heap.objs.size + 1->
  (∀ b o,b ≠ it->s.heap.get? b=some o->h'.get? b=some o)->R (some (.ref s.heap.objs.size)) { s with heap:=h' }) :
 wpAny (model prog w) A (pyNext (.ref it)) R E s:=by
 obtain ⟨G,gg,dr,tk,os⟩:=s
 have tt:Shared.TypeIs ⟨G,gg,dr,tk,os⟩ (.ref it) "dict_itemiterator" := ⟨_,gi,rfl⟩
 unfold pyNext
 refine wpAny_bind (wpAny_attempt (wpAny_callSpecial?_slot (name:=Str.ofString "__next__") tt F.slot_dict_itemiterator_next (wpAny_call_entry F.slot_dict_itemiterator_next tt F.entry_dict_itemiterator_next ?c1 (F.args_dict_itemiterator_next_1 _))))
 refine wpAny_bind (wpAny_pure (wpAny_bind (wpAny_bind ?c2)))
 first | refine wpAny_bind (zaih tt (wpAny_pure ?c3)) | refine wpAny_bind (wpAny_typeNameOf_itemiter tt (wpAny_pure ?c3))
 refine wpAny_bind (wpAny_fieldsOf gi rfl ?c4)
 have own1:Builtin.Dict_items.ownsTuple "dict_itemiterator" = true:=by decide
 simp only [own1,if_true]
 show wpAny _ _ (if (Value.ref d == Value.none)=true then _ else _) _ _ _
 rw [if_neg (show ¬ ((Value.ref d == Value.none)=true) from fun z=>Bool.false_ne_true z)]
 refine wpAny_bind (wpAny_pure (wpAny_bind (wpAny_dictEntries gd gt ?c5)))
 rw [if_neg (by simp)]; refine wpAny_bind (wpAny_pure (wpAny_bind (wpAny_dictEpoch gd gt ?c6)))
 rw [if_neg (by simp)]; refine wpAny_pure ?c7
 simp only [show ¬ ((i:Int) < 0) from by omega,if_false,Int.toNat_natCast,Array.getElem?_eq_getElem lt]
 refine wpAny_bind ?c8
 first | refine wpAny_bind (zaih tt (wpAny_pure ?c9)) | refine wpAny_bind (wpAny_typeNameOf_itemiter tt (wpAny_pure ?c9))
 refine wpAny_bind (wpAny_isOneOf_itemiter tt ?c10)
 show wpAny _ _ (setField (.ref it) 3 (rawInt ((i:Int) + 1)) >>= _) _ _ ⟨G,gg,dr,tk,os⟩
 refine wpAny_bind (wpAny_setField_rec gi (by simp) fun G1 f1 b1=>?c11)
 replace b1:Heap.SameBut it G G1:=b1
 replace f1:IsItemIter G1 it d (i + 1) es.size ep k0 v0:=by
  have z:((i + 1:Nat):Int)=(i:Int) + 1:=by omega
  unfold IsItemIter; rw [z]; simpa [rawInt] using f1
 have tt1:Shared.TypeIs ⟨G1,gg,dr,tk,os⟩ (.ref it) "dict_itemiterator" := ⟨_,f1,rfl⟩
 refine wpAny_bind (wpAny_holding (wpAny_bind (wpAny_isOneOf_itemiter tt1 (wpAny_bind (wpAny_isOneOf_itemiter tt1 ?c12)))))
 show wpAny _ _ (Builtin.Dict_items.pairFromOwner (.ref it) 6 es[i].key es[i].val) _ _ ⟨G1,gg,dr,tk,os⟩
 unfold Builtin.Dict_items.pairFromOwner; refine wpAny_bind (wpAny_newTuple ?c13)
 have f2:IsItemIter (G1.push { cls:=.type "tuple", data:=.seq #[es[i].key,es[i].val] }) it d (i + 1) es.size ep k0 v0:=Heap.get?_push_of_some _ f1
 generalize eG:G1.push { cls:=.type "tuple", data:=.seq #[es[i].key,es[i].val] }=G2 at f2
 have z1:G1.objs.size=G.objs.size:=b1.1
 have il:it < G.objs.size:=Heap.lt_size gi
 have t2:G2.get? G.objs.size=some { cls:=.type "tuple", data:=.seq #[es[i].key,es[i].val] }:=by rw [<- eG,<- z1]; exact Heap.get?_push_size _ rfl
 have z2:G2.objs.size=G.objs.size + 1:=by rw [<- eG,Heap.size_push,z1]
 have k2:∀ b o,b ≠ it->G.get? b=some o->G2.get? b=some o:=fun b o nb e=>by rw [<- eG]; exact Heap.get?_push_of_some _ (b1.extBut b o nb e)
 show wpAny _ _ (Builtin.Dict_items.ownedTupleIsFree (.ref it) >>= _) _ _ ⟨G2,gg,dr,tk,os⟩
 rw [z1]; clear eG f1 b1 tt1 z1 G1
 refine wpAny_bind ?c14
 unfold Builtin.Dict_items.ownedTupleIsFree; refine wpAny_bind (wpAny_field f2 rfl (x:=.none) rfl (wpAny_pure ?c15))
 simp only [if_true]
 refine wpAny_bind (wpAny_field f2 rfl (x:=k0) rfl (wpAny_bind (wpAny_field f2 rfl (x:=v0) rfl ?c16)))
 refine wpAny_bind (wpAny_setField_rec f2 (by simp) fun G3 f3 b3=>?c17)
 replace b3:Heap.SameBut it G2 G3:=b3
 replace f3:IsItemIter G3 it d (i + 1) es.size ep es[i].key v0:=f3
 refine wpAny_bind (wpAny_setField_rec f3 (by simp) fun G4 f4 b4=>?c18)
 replace b4:Heap.SameBut it G3 G4:=b4
 replace f4:IsItemIter G4 it d (i + 1) es.size ep es[i].key es[i].val:=f4
 refine wpAny_bind (wpAny_setField_rec f4 (by simp) fun G5 f5 b5=>?c19)
 replace b5:Heap.SameBut it G4 G5:=b5
 replace f5:IsItemIterOut G5 it d (i + 1) es.size ep es[i].key es[i].val G.objs.size:=f5
 refine wpAny_bind (wpAny_setField_rec f5 (by simp) fun G6 f6 b6=>?c20)
 replace b6:Heap.SameBut it G5 G6:=b6
 replace f6:IsItemIterOut G6 it d (i + 1) es.size ep es[i].key es[i].val G.objs.size:=f6
 have kk:∀ b o,b ≠ it->G2.get? b=some o->G6.get? b=some o:=fun b o nb e=>b6.extBut b o nb (b5.extBut b o nb (b4.extBut b o nb (b3.extBut b o nb e)))
 refine wpAny_bind (wpAny_letGo (wpAny_pure (wpAny_pure ⟨_,rfl,wpAny_pure (fin G6 f6 (kk _ _ (Nat.ne_of_gt il) t2) ?c21 fun b o nb e=>kk b o nb (k2 b o nb e))⟩)))
 show G6.objs.size=G.objs.size + 1
 rw [b6.1,b5.1,b4.1,b3.1,z2]
theorem zas6 {it d:Addr} {i ep:Nat} {es:Array DictEntry} {od:Obj} {k0 v0:Value} {R:Option Value->Shared->Prop} (hn:A.handled=none)
 (gi:IsItemIter s.heap it d i es.size ep k0 v0) (gd:s.heap.get? d=some od) (gt:od.data=.dict es ep) (ge:es.size<=i)
 (fin:∀ h',Heap.ExtBut it s.heap h'->R none { s with heap:=h' }):wpAny (model prog w) A (pyNext (.ref it)) R E s:=by
 have tt:s.TypeIs (.ref it) "dict_itemiterator" := ⟨_,gi,rfl⟩
 unfold pyNext
 refine wpAny_bind (wpAny_attempt (wpAny_callSpecial?_slot (name:=Str.ofString "__next__") tt F.slot_dict_itemiterator_next (wpAny_call_entry F.slot_dict_itemiterator_next tt F.entry_dict_itemiterator_next ?c1 (F.args_dict_itemiterator_next_1 _))))
 refine wpAny_bind (wpAny_pure (wpAny_bind (wpAny_bind ?c2)))
 first | refine wpAny_bind (zaih tt (wpAny_pure ?c3)) | refine wpAny_bind (wpAny_typeNameOf_itemiter tt (wpAny_pure ?c3))
 refine wpAny_bind (wpAny_fieldsOf gi rfl ?c4)
 have own1:Builtin.Dict_items.ownsTuple "dict_itemiterator" = true:=by decide
 simp only [own1,if_true]
 show wpAny _ _ (if (Value.ref d == Value.none)=true then _ else _) _ _ _
 rw [if_neg (show ¬ ((Value.ref d == Value.none)=true) from fun z=>Bool.false_ne_true z)]
 refine wpAny_bind (wpAny_pure (wpAny_bind (wpAny_dictEntries gd gt ?c5)))
 rw [if_neg (by simp)]; refine wpAny_bind (wpAny_pure (wpAny_bind (wpAny_dictEpoch gd gt ?c6)))
 rw [if_neg (by simp)]; refine wpAny_pure ?c7
 simp only [show ¬ ((i:Int) < 0) from by omega,if_false,Int.toNat_natCast,Array.getElem?_eq_none ge]
 refine wpAny_bind ?c8
 first | refine wpAny_bind (zaih tt (wpAny_pure ?c9)) | refine wpAny_bind (wpAny_typeNameOf_itemiter tt (wpAny_pure ?c9))
 show wpAny _ _ (setField (.ref it) 2 .none >>= _) _ _ _
 refine wpAny_bind (wpAny_setField gi rfl (by simp) ?c10)
 show wpAny _ _ (newExc (.type "StopIteration") [] >>= _) _ _ _
 refine wpAny_bind ?c11
 simp only [newExc,newTuple]
 refine wpAny_bind (wpAny_newObj_type (wpAny_bind (m:=firstArgMember _ _) (wpAny_of_eq (a:=Value.none) (by first | rfl | (simp only [firstArgMember]; rfl)) ?c12)) (by size_fits))
 refine wpAny_newObj_type ?c13 (by size_fits)
 simp only [raiseNew]; refine wpAny_bind (wpAny_handled ?c14)
 rw [show A.in1.handled=none from hn]
 refine wpAny_bind (wpAny_pure (wpAny_throw ?c15))
 refine wpAny_bind (wpAny_isInstance (T := "StopIteration") (b:=true) ⟨_,Heap.get?_push_size _ rfl,rfl⟩ isSubtype_stop (wpAny_pure ?c16))
 exact fin _ (((Heap.SameBut.update ..).extBut.push _).push _)
theorem zarQ {d:Addr} {R:Value->Shared->Prop} (tt:s.TypeIs (.ref d) "dict") (nm:(d == sysModules)=false)
 (q:R (.ref s.heap.objs.size) { s with heap:=s.heap.push { cls:=.type "dict_items", data:=.fields #[.ref d] } }):wpAny (model prog w) A (call (.builtin "dict.items") [.ref d]) R E s:=by
 have m:MeetsIn prog w (Builtin.«dict.items» ⟨[.ref d],[]⟩) (fun _ R s=>s.TypeIs (.ref d) "dict" /\ R (.ok (.ret (.ref s.heap.objs.size))) { s with heap:=s.heap.push { cls:=.type "dict_items", data:=.fields #[.ref d] } }):=
  .of_wp fun A R s ⟨t1,r1⟩=>by
   unfold Builtin.«dict.items»; refine wpAny_bind ?c1
   unfold Builtin.Dict.noArgs; refine wpAny_bind (wpAny_notOrdered_dict t1 ?c2)
   show wpAny _ _ (pure d) _ _ s; refine wpAny_pure ?c3
   show wpAny _ _ (Builtin.Dict.showsAll d >>= _) _ _ s
   unfold Builtin.Dict.showsAll; rw [if_neg (by rw [nm]; exact Bool.false_ne_true)]
   exact wpAny_bind (wpAny_pure (wpAny_bind (wpAny_newObj_type (wpAny_pure ⟨_,rfl,r1⟩))))
 exact call_meetsIn PySem.F.slot_dict_items tt PySem.F.entry_dict_items (PySem.F.args_dict_items_1 _) m ⟨tt,q⟩
theorem zakP:entryFor table "dict_itemiterator.__iter__" = some Builtin.«dict_keyiterator.__iter__»:=entryFor_alias (id' := "dict_keyiterator.__iter__") (by kernel_rfl) rfl (by decide +kernel) (by kernel_rfl)
theorem zarW {it d:Addr} {i n ep:Nat} {k0 v0:Value} {R:Value->Shared->Prop} (gi:IsItemIter s.heap it d i n ep k0 v0) (q:R (.ref it) s):wpAny (model prog w) A (pyIter (.ref it)) R E s:=by
 have tt:s.TypeIs (.ref it) "dict_itemiterator" := ⟨_,gi,rfl⟩
 refine wpAny_pyIter_slot tt F.slot_dict_itemiterator_iter (wpAny_call_entry F.slot_dict_itemiterator_iter tt zakP ?c1 (F.args_dict_itemiterator_iter_1 _))
 show wpAny _ _ (ret (.ref it)) _ _ s
 exact wpAny_pure ⟨_,rfl, "dict_itemiterator", _,tt,F.slot_dict_itemiterator_next.lookup,q⟩
end
theorem Paired.atI {α β:Type} {F:α->β->Prop}:∀ {xs:List α} {ys:List β} {i:Nat} {x:α},Paired F xs ys->xs[i]?=some x->∃ y,ys[i]?=some y/\F x y
 | _,_,i,x,.nil,e=>by simp at e
 | _,_,0,x,.cons r t,e=>by simp at e; subst e; exact ⟨_,rfl,r⟩
 | _,_,i + 1,x,.cons r t,e=>by
  obtain ⟨y,e1,e2⟩:=Paired.atI t (i:=i) (x:=x) (by simpa using e)
  exact ⟨y,by simpa using e1,e2⟩
noncomputable def Itm (a:Addr) (o:Obj):It:=
 ⟨fun i H=>∃ kvs p,H a=some (.frz o (.dT kvs))/\kvs[i]?=some p,
  fun i H x H'=>∃ q kb p,H q=none/\x=.ref q/\H kb=some (.tup (p.1.map kV))/\(∀ kvs,H a=some (.frz o (.dT kvs))->kvs[i]?=some p)/\H'=upd H q (.tup [.ref kb,p.2]),
  fun i H=>∃ kvs,H a=some (.frz o (.dT kvs))/\kvs.length<=i⟩
theorem zarl {P:Program} {w:World} {K:PySem.W.Frag} {elts:List Expr} {x1} {pos:Pos} (a it:Addr) {o:Obj} {es:Array DictEntry} {ep:Nat} (gt:o.data=.dict es ep) :
 Turn P w K (.Tuple elts x1 pos) (Itm a o) [it] it (fun i h=>∃ k0 v0,IsItemIter h it a i es.size ep k0 v0) where
 mem:=by simp
 obj:=fun i h ⟨k0,v0,st⟩ c hc=>by
  rw [List.mem_singleton.mp hc]
  exact ⟨_,st,fun v z=>by cases z⟩
 keep:=fun i h h' ⟨k0,v0,st⟩ k=>⟨k0,v0,k it (by simp) _ st⟩
 item:=by
  intro X hP hw hK hc i pins s σ H E I hf st hg
  subst hP hw hK
  obtain ⟨k0,v0,gi⟩:=st
  obtain ⟨kvs,p,e,hp⟩:=hg
  obtain ⟨go,z,y,xs,r,ob,es',ep',h1,h2,h3,h4,h5⟩:=(show ObjOk X.prog X.w H s.heap a (.frz o (.dT kvs)) from I.hok a _ e)
  rw [go] at h1
  cases h1
  rw [gt] at h3
  cases h3
  obtain ⟨q,hq,f1,f2,f3⟩:=Paired.atI r hp
  have e0:es.toList[i]?=some (entryOfKey (tupleKind (zabV X.prog X.w)) q):=by rw [h4,List.getElem?_map,hq]; rfl
  have hlt:i < es.size:=by
   have:=(List.getElem?_eq_some_iff.mp e0).1
   simpa using this
  have ei:es[i]=entryOfKey (tupleKind (zabV X.prog X.w)) q:=by
   rw [Array.getElem?_toList,Array.getElem?_eq_getElem hlt] at e0
   exact Option.some.inj e0
  refine zarR gi go gt hlt fun h' z1 tp sz kp=>⟨_,rfl,wpAny_letOwnedTupleGo_items z1 fun h2 he2 sb=>?_⟩
  have hne:s.heap.objs.size ≠ it:=Nat.ne_of_gt (Heap.lt_size gi)
  have t2:h2.get? s.heap.objs.size=some { cls:=.type "tuple", data:=.seq #[.ref q.2.1,q.2.2] }:=by
   rw [sb.2 _ hne,tp,ei]
   rfl
  have kk:∀ c u,c ∉ [it]->s.heap.get? c=some u->h2.get? c=some u:=fun c u hc g=>by
   have hc':c ≠ it:=fun z=>hc (by rw [z]; simp)
   exact (sb.2 c hc').trans (kp c u hc' g)
  refine ⟨.ref s.heap.objs.size,upd H s.heap.objs.size (.tup [.ref q.2.1,p.2]),I.enumL kk hf (Nat.le_refl _) ⟨by simp only [List.length_cons,List.length_nil]; rw [sizeLine_eq]; decide,[.ref q.2.1,q.2.2],.cons rfl (.cons f3 .nil),⟨_,t2,rfl,_,rfl⟩⟩,rfl,
   ⟨_,q.2.1,p,I.hok.fresh (Nat.le_refl _),rfl,f2,fun kvs' e'=>by rw [e] at e'; cases e'; exact hp,rfl⟩,⟨_,_,he2⟩,fun c hc=>?_⟩
  rw [List.mem_singleton.mp hc,zaaA (Ne.symm hne)]
  exact (hf it (by simp)).1
 done:=by
  intro X hP hw hK hc i pins s σ H E I hf st hg
  subst hP hw hK
  obtain ⟨k0,v0,gi⟩:=st
  obtain ⟨kvs,e,hp⟩:=hg
  obtain ⟨go,z,y,xs,r,ob,es',ep',h1,h2,h3,h4,h5⟩:=(show ObjOk X.prog X.w H s.heap a (.frz o (.dT kvs)) from I.hok a _ e)
  rw [go] at h1
  cases h1
  rw [gt] at h3
  cases h3
  have hs:es.size=kvs.length:=by rw [<- Array.length_toList,h4,List.length_map,<- Paired.length r]
  refine zas6 (I.ok.hd hc) gi go gt (by omega) fun h' eb=>⟨rfl,I.turnedL (t':=s.toks) (fp:=[it]) (fun c u hc q=>eb c u (fun z=>hc (by rw [z]; simp)) q) hf⟩
 self:=fun _ _ _ _ _ st h=>by
  obtain ⟨k0,v0,gi⟩:=st
  exact zarW gi h
section
variable {X:Cx}
theorem Inv.freeze {pins:List (Addr × Obj)} {σ:St} {H:Hp} {s:Shared} {a:Addr} {o:Obj} {kvs:List (List Key × V)} (I:Inv X pins σ H s) (e:H a=some (.dT kvs)) (go:s.heap.get? a=some o) :
 Inv X pins σ (upd H a (.frz o (.dT kvs))) s:=by
 refine zakY (t':=s.toks) I (by rw [e]; exact True.intro) (Heap.SameBut.refl _ _) ⟨o,go⟩ ⟨go,?_⟩
 refine ObjOk.stay (show ObjOk X.prog X.w H s.heap a (.dT kvs) from I.hok a _ e) (fun _ _ _ g=>g) (fun b q=>?_) fun b ys q=>?_
 · rw [zaaA (zao1 q e (fun z=>nomatch z))]
   exact q
 · rw [zaaA (zao1 q e (fun z=>nomatch z))]
   exact q
noncomputable def iItm (td:TE):TI:=fun σ H R=>td σ H fun x H1=>∃ a,x=.ref a/\((∃ kvs,H1 a=some (.dT kvs)/\∀ o,R (Itm a o) (upd H1 a (.frz o (.dT kvs))))\/∃ o kvs,H1 a=some (.frz o (.dT kvs))/\R (Itm a o) H1)
theorem zasa {elts:List Expr} {x1} {tp:Pos} {d:Expr} {td:TE} {apos cpos:Pos} (ho:PE X d td) (hbase:attributeBase d "items" X.env (eval d X.env)=eval d X.env:=by rfl) (hline:(apos.endLine == cpos.line)=true:=by rfl) :
 PI X (.Tuple elts x1 tp) (.Call (.Attribute d "items" apos) [] [] cpos) (iItm td):=by
 intro pins s σ H R I h
 refine wpAny_Call_method0_late hbase hline (thn (ho pins s σ H _ I h) fun v s1 ⟨x,H1,I1,r1,a,ex,q⟩=>?_)
 subst ex
 obtain rfl:v=Value.ref a:=r1
 have dd:IsD H1 a:=by
  rcases q with ⟨kvs,e,_⟩ | ⟨o,kvs,e,_⟩
  · exact .inr ⟨kvs,.inl e⟩
  · exact .inr ⟨kvs,.inr ⟨o,e⟩⟩
 obtain ⟨t1,t2,t3⟩:=zaq2 I1 dd
 have base:∀ (o:Obj) (es:Array DictEntry) (ep:Nat) (H2:Hp),s1.heap.get? a=some o->o.data=.dict es ep->Inv X pins σ H2 s1->R (Itm a o) H2->
  wpAny (model X.prog X.w) X.A (call (.builtin "dict.items") [.ref a]) (fun v s1=>wpAny (model X.prog X.w) X.A (pyIter v) (PIE X pins σ (.Tuple elts x1 tp) R) X.xe s1) X.xe s1:=by
  intro o es ep H2 go gt I2 q2
  refine zarQ t1 t3 ?_
  have I3:Inv X pins σ H2 { s1 with heap:=s1.heap.push { cls:=.type "dict_items", data:=.fields #[.ref a] } }:=I2.kept (t':=s1.toks) fun b u g=>Heap.get?_push_of_some _ g
  refine zarx (od:=o) ⟨_,Heap.get?_push_size _ rfl,rfl,rfl⟩ (Heap.get?_push_of_some _ go) gt ?_
  have I4:=I3.kept (t':=s1.toks) (h':=(s1.heap.push { cls:=.type "dict_items", data:=.fields #[.ref a] }).push { cls:=.type "dict_itemiterator", data:=.fields #[.none,.bool false,.ref a,.int 0 0,.int es.size 0,.int ep 0,.none,.none] }) fun b u g=>Heap.get?_push_of_some _ g
  refine ⟨_,[_],_,_,H2,rfl,I4,zarl a _ gt,⟨.none,.none,Heap.get?_push_size _ rfl⟩,fun c hc=>?_,q2⟩
  rw [List.mem_singleton.mp hc]
  exact I3.fpOk (Nat.le_refl _) (I3.hok.fresh (Nat.le_refl _))
 refine ⟨"dict", "dict.items", PySem.F.plainAttrs_dict,PySem.F.slot_dict_items,PySem.F.type_dict_items,t1,t2,Calls.callWith_builtin rfl (PySem.evalArgs_none ?_)⟩
 rcases q with ⟨kvs,e,q⟩ | ⟨o,kvs,e,q⟩
 · obtain ⟨_,_,_,_,o,es,ep,h1,_,h3,_⟩:=(show ObjOk X.prog X.w H1 s1.heap a (.dT kvs) from I1.hok a _ e)
   exact base o es ep _ h1 h3 (I1.freeze e h1) (q o)
 · obtain ⟨go,_,_,_,_,o',es,ep,h1,_,h3,_⟩:=(show ObjOk X.prog X.w H1 s1.heap a (.frz o (.dT kvs)) from I1.hok a _ e)
   rw [go] at h1
   cases h1
   exact base o es ep _ go h3 I1 q
end
end L2
namespace SM
open PySem PySem.Spec PyProof.Rows L2
noncomputable def dAt (kvs:List (List Int × Dt)) (k:List Int):Option Dt:=(kvs.find? fun p=>decide (p.1=k)).map (·.2)
noncomputable def dPut (kvs:List (List Int × Dt)) (k:List Int) (d:Dt):List (List Int × Dt):=
 if (kvs.any fun p=>decide (p.1=k))=true then kvs.map (fun p=>if p.1=k then (p.1,d) else p) else kvs++[(k,d)]
noncomputable def zaoW:RE:=fun _ h=>some (.ref h.length,h++[.dt []])
noncomputable def eNtp (g:RA):RE:=fun l h=>(g l h).bind fun r=>if r.1.length<=sizeLine then (zacv r.1).map fun is=>(.ntp is,r.2) else none
noncomputable def zaf5 (fo fy fx:RE):RE:=fun l h=>(fo l h).bind fun o=>match o.1 with
 | .ref n=>match o.2[n]? with
  | some (.dt _)=>(fy l o.2).bind fun y=>match y.1 with
   | .ntp k=>(fx l y.2).bind fun x=>match x.2[n]? with
    | some (.dt kvs)=>some ((dAt kvs k).getD x.1,x.2)
    | _=>none
   | _=>none
  | _=>none
 | _=>none
noncomputable def zamj (fe fo fy:RE):RS:=fun l h=>(fe l h).bind fun v=>(fo l v.2).bind fun o=>(fy l o.2).bind fun y=>match o.1,y.1 with
 | .ref n,.ntp k=>match y.2[n]? with
  | some (.dt kvs)=>if kvs.length < sizeLine then some (.nx l (y.2.set n (.dt (dPut kvs k v.1)))) else none
  | _=>none
 | _,_=>none
noncomputable def zag1 (f:RE):RI:=fun l h=>(f l h).bind fun r=>match r.1 with
 | .ref n=>match r.2[n]? with
  | some (.dt kvs)=>some (.it n,r.2.set n (.df kvs))
  | some (.df _)=>some (.it n,r.2)
  | _=>none
 | _=>none
section
variable {K:PySem.W.Frag} {H:Hp} {ρ:Rg}
noncomputable abbrev KD (K:PySem.W.Frag) (H:Hp) (ρ:Rg) (kvs:List (List Int × Dt)) (vs:List (List Key × V)):Prop:=vs.map (·.1)=kvs.map (fun p=>p.1.map Sum.inl)/\RelDs K H ρ (kvs.map (·.2)) (vs.map (·.2))
theorem inl_inj {k k':List Int}:k.map (Sum.inl:Int->Key)=k'.map Sum.inl ↔ k=k':=⟨fun h=>(List.map_inj_right (fun _ _ z=>Sum.inl.inj z)).mp h,fun h=>by rw [h]⟩
theorem zam3 (k:List Int):(k.map (Sum.inl:Int->Key)).map kV=k.map V.int:=by
 rw [List.map_map]
 rfl
theorem KD.unnil {vs:List (List Key × V)} (r:KD K H ρ [] vs):vs=[]:=by
 have:=r.1
 simpa using this
theorem KD.uncons {p:List Int × Dt} {kvs:List (List Int × Dt)} {vs:List (List Key × V)} (r:KD K H ρ (p::kvs) vs):∃ v rs,vs=(p.1.map Sum.inl,v)::rs/\RelD K H ρ p.2 v/\KD K H ρ kvs rs:=by
 obtain ⟨h1,h2⟩:=r
 cases vs with
 | nil=>simp at h1
 | cons q rs=>
  simp only [List.map_cons,List.cons.injEq] at h1
  obtain ⟨v,r',e,g1,g2⟩:=RelDs.uncons (by simpa only [List.map_cons] using h2)
  simp only [List.map_cons,List.cons.injEq] at e
  obtain ⟨q1,q2⟩:=q
  have h11:q1=p.1.map Sum.inl:=h1.1
  have e1:q2=v:=e.1
  subst e1
  exact ⟨q2,rs,by rw [h11],g1,h1.2,by rw [e.2]; exact g2⟩
theorem KD.cons {p:List Int × Dt} {v:V} {kvs:List (List Int × Dt)} {vs:List (List Key × V)} (g:RelD K H ρ p.2 v) (r:KD K H ρ kvs vs):KD K H ρ (p::kvs) ((p.1.map Sum.inl,v)::vs):=
 ⟨by simp only [List.map_cons]; rw [r.1],.cons g r.2⟩
theorem KD.length {kvs:List (List Int × Dt)} {vs:List (List Key × V)} (r:KD K H ρ kvs vs):vs.length=kvs.length:=by
 have:=congrArg List.length r.1
 simpa using this
theorem KD.get:∀ {kvs:List (List Int × Dt)} {vs:List (List Key × V)} {i:Nat} {p:List Int × Dt},KD K H ρ kvs vs->kvs[i]?=some p->∃ v,vs[i]?=some (p.1.map Sum.inl,v)/\RelD K H ρ p.2 v
 | [],_,_,_,_,e=>by simp at e
 | q::kvs,_,0,p,r,e=>by
  obtain ⟨v,rs,rfl,g,_⟩:=r.uncons
  simp at e
  subst e
  exact ⟨v,rfl,g⟩
 | q::kvs,_,i + 1,p,r,e=>by
  obtain ⟨v,rs,rfl,_,r'⟩:=r.uncons
  obtain ⟨u,e1,e2⟩:=KD.get (i:=i) r' (by simpa using e)
  exact ⟨u,by simpa using e1,e2⟩
theorem KD.val (k:List Int):∀ {kvs:List (List Int × Dt)} {vs:List (List Key × V)},KD K H ρ kvs vs->(∀ d,dAt kvs k=some d->∃ v,valV vs (k.map Sum.inl)=some v/\RelD K H ρ d v)/\(dAt kvs k=none->valV vs (k.map Sum.inl)=none)
 | [],_,r=>by
  rw [r.unnil]
  exact ⟨fun d e=>by simp [dAt] at e,fun _=>rfl⟩
 | p::kvs,_,r=>by
  obtain ⟨v,rs,rfl,g,r'⟩:=r.uncons
  by_cases c:p.1=k
  · have e1:dAt (p::kvs) k=some p.2:=by simp [dAt,List.find?_cons,c]
    rw [e1,zahO (inl_inj.mpr c)]
    exact ⟨fun d e=>by cases e; exact ⟨v,rfl,g⟩,fun e=>by cases e⟩
  · have e1:dAt (p::kvs) k=dAt kvs k:=by simp [dAt,List.find?_cons,c]
    rw [e1,zahQ (fun z=>c (inl_inj.mp z))]
    exact KD.val k r'
theorem KD.any (k:List Int):∀ {kvs:List (List Int × Dt)} {vs:List (List Key × V)},KD K H ρ kvs vs->(vs.any fun p=>decide (p.1=k.map Sum.inl))=kvs.any fun p=>decide (p.1=k)
 | [],_,r=>by rw [r.unnil]; rfl
 | p::kvs,_,r=>by
  obtain ⟨v,rs,rfl,g,r'⟩:=r.uncons
  rw [List.any_cons,List.any_cons,KD.any k r']
  congr 1
  exact decide_eq_decide.mpr inl_inj
theorem KD.repl (k:List Int) {d:Dt} {v:V} (g:RelD K H ρ d v):∀ {kvs:List (List Int × Dt)} {vs:List (List Key × V)},KD K H ρ kvs vs->
 KD K H ρ (kvs.map fun p=>if p.1=k then (p.1,d) else p) (vs.map fun p=>if p.1=k.map Sum.inl then (p.1,v) else p)
 | [],_,r=>by rw [r.unnil]; exact ⟨rfl,.nil⟩
 | p::kvs,_,r=>by
  obtain ⟨u,rs,rfl,g',r'⟩:=r.uncons
  rw [List.map_cons,List.map_cons]
  by_cases c:p.1=k
  · rw [if_pos c,if_pos (inl_inj.mpr c)]
    exact KD.cons (p:=(p.1,d)) g (KD.repl k g r')
  · rw [if_neg c,if_neg (fun z=>c (inl_inj.mp z))]
    exact KD.cons g' (KD.repl k g r')
theorem KD.put (k:List Int) {d:Dt} {v:V} (g:RelD K H ρ d v) {kvs:List (List Int × Dt)} {vs:List (List Key × V)} (r:KD K H ρ kvs vs):KD K H ρ (dPut kvs k d) (putK vs (k.map Sum.inl) v):=by
 unfold dPut putK
 rw [r.any k]
 split
 · exact r.repl k g
 · refine ⟨by rw [List.map_append,List.map_append,r.1]; rfl,?_⟩
   rw [List.map_append,List.map_append]
   exact r.2.append (.cons g .nil)
theorem KD.ext {ρ':Rg} {H':Hp} {kvs:List (List Int × Dt)} {vs:List (List Key × V)} (r:KD K H ρ kvs vs) (x:Ext ρ ρ' H H'):KD K H' ρ' kvs vs:=⟨r.1,r.2.ext x⟩
theorem SimH.notup {h:HI} (S:SimH K ρ h H) {a:Addr} {vs:List V} (e:H a=some (.tup vs)):ρ.no a:=by
 refine ⟨fun ha=>?_,fun ha=>?_⟩
 · obtain ⟨n,hn⟩:=List.mem_iff_getElem?.mp ha
   have hl:n < h.length:=by rw [<- S.len]; exact (List.getElem?_eq_some_iff.mp hn).1
   have ob:=S.ob n a _ hn (List.getElem?_eq_getElem hl)
   cases q:h[n] with
   | lst xs=>rw [q] at ob; obtain ⟨_,g,_⟩:=ob; rw [e] at g; cases g
   | ins y fs=>rw [q] at ob; obtain ⟨_,_,_,_,g,_⟩:=ob; rw [e] at g; cases g
   | dk kvs=>rw [q] at ob; obtain ⟨_,g,_⟩:=ob; rw [e] at g; cases g
   | dt kvs=>rw [q] at ob; obtain ⟨_,g,_⟩:=ob; rw [e] at g; cases g
   | df kvs=>rw [q] at ob; obtain ⟨_,_,g,_⟩:=ob; rw [e] at g; cases g
 · obtain ⟨_,_,g⟩:=S.zt a ha
   rw [e] at g
   cases g
theorem nfd {a:Addr} {kvs:List (List Key × V)} (h:H a=some (.dT kvs)):Nfz H a:=fun _ _ e=>by rw [h] at e; cases e
end
section
variable {X:Cx} {e o i d a b f:Expr} {fe fo fi fa fb fy fx:RE} {pos pos' apos cpos:Pos}
theorem zatg:EM X (.Dict [] [] pos) zaoW:=by
 with_unfolding_all
  exact PE.imp zarK fun σ H Q ⟨ρ,l,h,d,h',S,L,e,k⟩=>by
   cases e
   intro p hp
   refine k (ρ.add p) _ _ (rel_ref.mpr ⟨p,rfl,?_⟩) (S.own hp ⟨[],zaa6,rfl,.nil⟩) (Ext.own hp)
   simp only [Rg.add]
   rw [<- S.len,List.getElem?_append_right (Nat.le_refl _),Nat.sub_self]
   rfl
theorem zavc {es:List Expr} {g:RA} {x1} (h:AM X es g):EM X (.Tuple es x1 pos) (eNtp g):=by
 with_unfolding_all
  exact PE.imp (zaqn h) fun σ H Q ⟨ρ,l,h,d,h',S,L,e,k⟩=>by
   obtain ⟨⟨ds,h1⟩,e1,e⟩:=zaal e
   dsimp only at e
   by_cases hz:ds.length<=sizeLine
   · rw [if_pos hz] at e
     cases q:zacv ds with
     | none=>rw [q] at e; cases e
     | some is=>
      rw [q] at e
      cases e
      refine ⟨ρ,l,h,ds,_,S,L,e1,fun ρ1 vs H1 R1 S1 E1=>⟨by rw [R1.length]; exact hz,fun p hp=>k ρ1 _ _ (rel_ntp.mpr ⟨p,rfl,S1.out hp,?_⟩) (S1.fresh hp) (E1.trans (Ext.fresh hp))⟩⟩
      rw [zae6 q] at R1
      rw [zaa6,R1.unints]
   · rw [if_neg hz] at e
     cases e
theorem zart (hu:X.A.units + 64 < cLine) (ho:EM X o fo) (hy:EM X e fy) (hx:EM X f fx) (m:M2 X o "get" apos e f cpos:=by exact ⟨rfl,rfl,rfl,rfl⟩) :
 EM X (.Call (.Attribute o "get" apos) [e,f] [] cpos) (zaf5 fo fy fx):=by
 with_unfolding_all
  exact PE.imp (zaro (by omega) ho hy hx m) fun σ H Q ⟨ρ,l,h,dd,h',S,L,e,k⟩=>by
   obtain ⟨⟨d1,h1⟩,e1,e⟩:=zaal e
   refine ⟨ρ,l,h,d1,h1,S,L,e1,fun ρ1 x H1 R1 S1 E1=>?_⟩
   cases d1 with
   | ref n=>
    dsimp only at e
    split at e
    · rename_i kv0 q0
      obtain ⟨⟨y,h2⟩,e2,e⟩:=zaal e
      dsimp only at e
      cases y with
      | ntp ks=>
       obtain ⟨⟨dx,h3⟩,e3,e⟩:=zaal e
       dsimp only at e
       split at e
       · rename_i kvs q
         cases e
         obtain ⟨aa,z,ha⟩:=rel_ref.mp R1
         obtain ⟨vs0,g0,_⟩:=S1.ob n aa _ ha q0
         refine ⟨aa,z,.inr ⟨vs0,.inl g0⟩,ρ1,l,h1,.ntp ks,h2,S1,L.ext E1,e2,fun ρ2 y H2 R2 S2 E2=>⟨ρ2,l,h2,dx,_,S2,L.ext (E1.trans E2),e3,fun ρ3 x3 H3 R3 S3 E3=>?_⟩⟩
         obtain ⟨kb,zk,nk,gk⟩:=rel_ntp.mp (RelD.ext E3 _ R2)
         obtain ⟨vs,g1,g2⟩:=S3.ob n aa _ ((E2.trans E3).get ha) q
         refine ⟨valV vs (ks.map Sum.inl),by rw [zk]; exact DGet.t g1 (by rw [zam3]; exact gk),?_⟩
         obtain ⟨v1,v2⟩:=KD.val (K:=X.K) ks g2
         refine k ρ3 _ H3 ?_ S3 (E1.trans (E2.trans E3))
         cases c:dAt kvs ks with
         | none=>
          rw [v2 c]
          exact R3
         | some d4=>
          obtain ⟨v4,e4,r4⟩:=v1 d4 c
          rw [e4]
          exact r4
       · cases e
      | _=>cases e
    · cases e
   | _=>cases e
theorem zas1 (hu:X.A.units + 64 < cLine) (he:EM X e fe) (ho:EM X o fo) (hi:EM X i fi) (hs:swapsWith e (some (.Subscript o i pos')) pos.line X.env=pure false:=by rfl) :
 ZM X (.Assign [.Subscript o i pos'] e pos) (zamj fe fo fi):=by
 with_unfolding_all
  exact PS.imp (zati (by omega) ho hi he hs) fun D σ H ⟨ρ,l,h,r,S,L,e,k⟩=>by
   obtain ⟨⟨v,hv⟩,e1,e⟩:=zaal e
   obtain ⟨⟨d,hd⟩,e2,e⟩:=zaal e
   obtain ⟨⟨j,hj⟩,e3,e⟩:=zaal e
   refine ⟨ρ,l,h,v,hv,S,L,e1,fun ρ1 u H1 R1 S1 E1=>⟨ρ1,l,hv,d,hd,S1,L.ext E1,e2,fun ρ2 y H2 R2 S2 E2=>⟨ρ2,l,hd,j,hj,S2,L.ext (E1.trans E2),e3,fun ρ3 z H3 R3 S3 E3=>?_⟩⟩⟩
   cases d with
   | ref n=>
    cases j with
    | ntp ks=>
     dsimp only at e
     split at e
     · rename_i kvs q
       obtain ⟨hz,e⟩:=ifE e
       cases e
       obtain ⟨aa,zz,ha⟩:=rel_ref.mp (RelD.ext E3 _ R2)
       obtain ⟨vs,g1,g2⟩:=S3.ob n aa _ ha q
       obtain ⟨kb,zk,nk,gk⟩:=rel_ntp.mp R3
       have hm:=List.mem_of_getElem? ha
       have g3:KD X.K H3 ρ3 kvs vs:=g2
       refine ⟨aa,_,zz,by rw [zk]; exact DPut.t g1 (by rw [zam3]; exact gk) (by rw [g3.length]; exact hz),?_⟩
       exact k ρ3 σ _ (S3.write ha (nfd g1) ⟨_,zaa6,(g3.put ks (RelD.ext (E2.trans E3) _ R1)).ext (Ext.write hm (nfd g1))⟩) (L.ext (E1.trans (E2.trans (E3.trans (Ext.write hm (nfd g1)))))) (E1.trans (E2.trans (E3.trans (Ext.write hm (nfd g1)))))
     · cases e
    | _=>cases e
   | _=>cases e
theorem zalY {K:PySem.W.Frag} {H:Hp} {ρ:Rg} {n:Nat} {aa:Addr} {ob:Obj} {vs0:List (List Key × V)} (ha:ρ.v[n]?=some aa) (e:H aa=some (.frz ob (.dT vs0))):zass K H ρ (.it n) (Itm aa ob):=by
 intro H2 ρ2 h2 sm S2 i
 have f2:=sm.fz aa ob _ e
 have ha2:=sm.ix n aa ha
 simp only [Src.at]
 cases q:h2[n]? with
 | none=>trivial
 | some u=>
  cases u with
  | df kvs=>
   obtain ⟨o',vs,g1,g2⟩:=S2.ob n aa _ ha2 q
   have g3:KD K H2 ρ2 kvs vs:=g2
   rw [f2] at g1
   cases g1
   dsimp only
   cases hi:kvs[i]? with
   | none=>exact ⟨vs0,f2,by rw [g3.length]; exact List.getElem?_eq_none_iff.mp hi⟩
   | some p=>
    obtain ⟨v,e1,r1⟩:=g3.get hi
    refine ⟨⟨vs0,_,f2,e1⟩,fun x H3 ⟨qq,kb,p',hn,ex,hk,hh,eH⟩=>?_⟩
    have ep:=hh vs0 f2
    rw [e1] at ep
    cases ep
    subst ex eH
    rw [zam3] at hk
    exact ⟨zaiT S2 (.cons (rel_tup.mpr ⟨kb,_,rfl,.inl ⟨S2.notup hk,.inl hk⟩,RelDs.ints p.1⟩) (.cons r1 .nil)) hn,Ext.fresh hn,S2.fresh hn⟩
  | _=>trivial
theorem zarH {elts:List Expr} {x1} {tp:Pos} (ho:EM X d fa) (hbase:attributeBase d "items" X.env (eval d X.env)=eval d X.env:=by rfl) (hline:(apos.endLine == cpos.line)=true:=by rfl) :
 IM X (.Tuple elts x1 tp) (.Call (.Attribute d "items" apos) [] [] cpos) (zag1 fa):=by
 with_unfolding_all
  exact PI.imp (zasa ho hbase hline) fun σ H R ⟨ρ,l,h,s,h',S,L,e,k⟩=>by
   obtain ⟨⟨d1,h1⟩,e1,e⟩:=zaal e
   refine ⟨ρ,l,h,d1,h1,S,L,e1,fun ρ1 v H1 R1 S1 E1=>?_⟩
   cases d1 with
   | ref n=>
    obtain ⟨aa,z,ha⟩:=rel_ref.mp R1
    have hm:=List.mem_of_getElem? ha
    refine ⟨aa,z,?_⟩
    dsimp only at e
    split at e
    · rename_i kvs q
      cases e
      obtain ⟨vs,g1,g2⟩:=S1.ob n aa _ ha q
      have g3:KD X.K H1 ρ1 kvs vs:=g2
      refine .inl ⟨vs,g1,fun ob=>k ρ1 _ _ (zalY ha zaa6) (S1.write ha (nfd g1) ⟨ob,vs,zaa6,g3.ext (Ext.write hm (nfd g1))⟩) (E1.trans (Ext.write hm (nfd g1)))⟩
    · rename_i kvs q
      cases e
      obtain ⟨ob,vs,g1,g2⟩:=S1.ob n aa _ ha q
      exact .inr ⟨ob,vs,g1,k ρ1 _ _ (zalY ha g1) S1 E1⟩
    · cases e
   | _=>cases e
end
end SM
namespace L2
open PySem PySem.Spec PyProof.Rows
section
variable {prog:Program} {w:World} {A:Around} {R:Result->Shared->Prop} {I:Addr} {fp wr:List Addr} {n:Nat} {P:Nat->Value->Prop} {St:Nat->Heap->Prop}
noncomputable abbrev dfl (dv:Value):List (Str × Value):=[(Str.ofString "default", dv)]
theorem zaqI (dv:Value) (Wk:Walks prog w A.in1 I fp wr n P St) (bt:Nat->Nat->Bool) (cmp:CmpOf prog w A.in1 .Lt P bt) (S:Addr) (nS:S ∉ fp) :
 ∀ (k j:Nat) (s:Shared) (vb:Value) (c:Nat),n - (j + 1)=k->j + 1<=n->St (j + 1) s.heap->P (argBest bt j) vb->
 s.heap.get? S=some { cls:=.type "list", dict:=none,data:=.seq #[vb,vb] c,slots:=#[] }->
 (∀ v h' tk,P (argBest bt (n - 1)) v->(∀ b o,b ∉ wr->b ≠ S->s.heap.get? b=some o->h'.get? b=some o)->R (.ok (.ret v)) { s with heap:=h',toks:=tk })->
 codeAny (model prog w) A (.builtin "min.loop" ⟨[.ref I,.none,.ref S],dfl dv⟩) R s:=by
 have nW:S ∉ wr:=fun h=>nS (Wk.sub _ h)
 have nm:(toString "min" ++ toString ".loop" : String) = "min.loop" := by decide
 intro k
 induction k with
 | zero=>
  intro j s vb c ek hj st Pb gS fin
  have ej:j + 1=n:=by omega
  refine codeAny_builtin F.entry_min_loop ?_; rw [Around.under_plainId F.plain_min_loop _]
  show wpAny _ A.in1 (seqItems? (.ref S) >>= _) _ _ s; refine wpAny_bind (wpAny_seqItems gS rfl ?_)
  show wpAny _ A.in1 (tryCatch (pyNext (.ref I)) _ >>= _) _ _ s; refine wpAny_bind (wpAny_tryCatch (Wk.done s _ _ (ej ▸ st) fun h' tk kp=>?_))
  have gS':=kp S _ nW gS
  show wpAny _ A.in1 (updateSeq S (fun _=>#[]) >>= _) _ _ _; refine wpAny_bind (wpAny_updateSeq gS' rfl (wpAny_bind (wpAny_letGo (wpAny_pure ?_))))
  exact fin vb _ tk (by rw [<- ej]; exact Pb) fun b o nb ns e=>(Heap.get?_update_other _ _ (Ne.symm ns)).trans (kp b o nb e)
 | succ k ih=>
  intro j s vb c ek hj st Pb gS fin
  have lt:j + 1 < n:=by omega
  refine codeAny_builtin F.entry_min_loop ?_; rw [Around.under_plainId F.plain_min_loop _]
  show wpAny _ A.in1 (seqItems? (.ref S) >>= _) _ _ s; refine wpAny_bind (wpAny_seqItems gS rfl ?_)
  show wpAny _ A.in1 (tryCatch (pyNext (.ref I)) _ >>= _) _ _ s; refine wpAny_bind (wpAny_tryCatch (Wk.item (j + 1) s _ _ lt st fun v h' tk Pv st' kp=>?_))
  have gS':=kp S _ nW gS
  show wpAny _ A.in1 (tryCatch (holding [v,v] (richCompare .Lt v vb >>= _)) _ >>= _) _ _ _; refine wpAny_bind (wpAny_tryCatch (wpAny_holding (wpAny_bind (cmp (j + 1) (argBest bt j) v vb _ _ _ Pv Pb ?_))))
  refine wpAny_bind (wpAny_holding (wpAny_truthy_bool (wpAny_bind (wpAny_letGo (wpAny_pure ?_)))))
  cases cb:bt (j + 1) (argBest bt j) with
  | true=>
   simp only [if_true]; refine wpAny_bind (wpAny_updateSeq gS' rfl (wpAny_bind (wpAny_letGo ?_)))
   rw [nm]; refine wpAny_pure ⟨plainId_quiet F.plain_min_loop _,ih (j + 1) _ v _ (by omega) lt (Wk.frame _ _ _ st' fun b hbf o e=>?_) (by simp only [argBest,cb,if_true]; exact Pv) (Heap.get?_update_self _ gS' rfl) fun v' h'' tk'' Pv' kp'=>?_⟩
   · exact (Heap.get?_update_other _ _ (fun z:S=b=>nS (by rw [z]; exact hbf))).trans e
   · exact fin v' h'' tk'' Pv' fun b o nb ns e=>kp' b o nb ns ((Heap.get?_update_other _ _ (Ne.symm ns)).trans (kp b o nb e))
  | false=>
   simp only [Bool.false_eq_true,if_false]; refine wpAny_bind (wpAny_letGo ?_)
   rw [nm]; refine wpAny_pure ⟨plainId_quiet F.plain_min_loop _,ih (j + 1) _ vb c (by omega) lt st' (by simp only [argBest,cb,Bool.false_eq_true,if_false]; exact Pb) gS' fun v' h'' tk'' Pv' kp'=>?_⟩
   exact fin v' h'' tk'' Pv' fun b o nb ns e=>kp' b o nb ns (kp b o nb e)
theorem zaoU (dv:Value) (Wk:Walks prog w A.in1 I fp wr n P St) (bt:Nat->Nat->Bool) (cmp:CmpOf prog w A.in1 .Lt P bt) (S:Addr) (nS:S ∉ fp) (hn:0 < n) {s:Shared} {c:Nat} (st:St 0 s.heap)
 (gS:s.heap.get? S=some { cls:=.type "list", dict:=none,data:=.seq #[] c,slots:=#[] })
 (fin:∀ v h' tk,P (argBest bt (n - 1)) v->(∀ b o,b ∉ wr->b ≠ S->s.heap.get? b=some o->h'.get? b=some o)->R (.ok (.ret v)) { s with heap:=h',toks:=tk }) :
 codeAny (model prog w) A (.builtin "min.loop" ⟨[.ref I,.none,.ref S],dfl dv⟩) R s:=by
 have nW:S ∉ wr:=fun h=>nS (Wk.sub _ h)
 have nm:(toString "min" ++ toString ".loop" : String) = "min.loop" := by decide
 refine codeAny_builtin F.entry_min_loop ?_; rw [Around.under_plainId F.plain_min_loop _]
 show wpAny _ A.in1 (seqItems? (.ref S) >>= _) _ _ s; refine wpAny_bind (wpAny_seqItems gS rfl ?_)
 show wpAny _ A.in1 (tryCatch (pyNext (.ref I)) _ >>= _) _ _ s; refine wpAny_bind (wpAny_tryCatch (Wk.item 0 s _ _ hn st fun v h' tk Pv st' kp=>?_))
 have gS':=kp S _ nW gS
 show wpAny _ A.in1 (updateSeq S (fun _=>#[v,v]) >>= _) _ _ _; refine wpAny_bind (wpAny_updateSeq gS' rfl ?_)
 rw [nm]; refine wpAny_pure ⟨plainId_quiet F.plain_min_loop _,zaqI dv Wk bt cmp S nS _ 0 _ v _ rfl hn (Wk.frame _ _ _ st' fun b hbf o e=>?_) Pv (Heap.get?_update_self _ gS' rfl) fun v' h'' tk'' Pv' kp'=>?_⟩
 · exact (Heap.get?_update_other _ _ (fun z:S=b=>nS (by rw [z]; exact hbf))).trans e
 · exact fin v' h'' tk'' Pv' fun b o nb ns e=>kp' b o nb ns ((Heap.get?_update_other _ _ (Ne.symm ns)).trans (kp b o nb e))
end
section
variable {prog:Program} {w:World} {A:Around} {E:Value->Shared->Prop} {s:Shared}
theorem zaqS (x d:Value):argsOk "min" ⟨[x],dfl d⟩:=by unfold argsOk; kernel_rfl
theorem zaq1 {x dv:Value} {R:Value->Shared->Prop}
 (h:wpAny (model prog w) A.in1 (pyIter x) (fun it s2=>∃ I fp wr n P St bt,it=.ref I/\Walks prog w A.in1 I fp wr n P St/\St 0 s2.heap/\(∀ b ∈ fp,b < s2.heap.objs.size)/\0 < n/\CmpOf prog w A.in1 .Lt P bt/\
  ∀ v h' tk,P (argBest bt (n - 1)) v->(∀ b o,b ∉ wr->s2.heap.get? b=some o->h'.get? b=some o)->R v { s2 with heap:=h',toks:=tk }) E s) :
 wpAny (model prog w) A (call (.builtin "min") [x] (dfl dv)) R E s:=by
 have nm:(toString "min" ++ toString ".loop" : String) = "min.loop" := by decide
 refine kmk_tree PySem.F.kind_min PySem.F.plain_min PySem.F.entry_min (zaqS _ _) ?_
 show wpAny _ A.in1 (Builtin.Builtins.bindParams "min" ["key", "default"] 0 ⟨[],dfl dv⟩ >>= _) _ _ s
 refine wpAny_bind (wpAny_of_eq (show Builtin.Builtins.bindParams "min" ["key", "default"] 0 ⟨[],dfl dv⟩=pure [none,some dv] from rfl) (wpAny_bind (wpAny_pure ?_)))
 refine wpAny_bind (wpAny_mono h (fun it s2 h2=>?_) fun _ _ e=>e)
 obtain ⟨I,fp,wr,n,P,St,bt,rfl,Wk,st,lo,hn,cmp,fin⟩:=h2
 refine wpAny_bind (wpAny_newObj_type ?_)
 have nS:s2.heap.objs.size ∉ fp:=fun hm=>Nat.lt_irrefl _ (lo _ hm)
 rw [nm]; refine wpAny_pure ⟨plainId_quiet F.plain_min_loop _,zaoU dv Wk bt cmp s2.heap.objs.size nS hn (Wk.frame _ _ _ st fun b _ o e=>Heap.get?_push_of_some _ e) (Heap.get?_push_size _ rfl) fun v h' tk Pv kp=>?_⟩
 exact fin v h' tk Pv fun b o nb e=>kp b o nb (Nat.ne_of_lt (Heap.lt_size e)) (Heap.get?_push_of_some _ e)
theorem zaqx {l:Addr} {xs:Array (Int × Tok)} {dv:Value} {R:Value->Shared->Prop} (hh:A.handled=none) (hl:s.heap.IsList l (intItems xs)) (hne:0 < xs.size)
 (h:∀ v h' tk,(intItems xs)[argBest (fun i j=>decide (numAt xs i < numAt xs j)) (xs.size - 1)]?=some v->(∀ b o,s.heap.get? b=some o->h'.get? b=some o)->R v { s with heap:=h',toks:=tk }) :
 wpAny (model prog w) A (call (.builtin "min") [.ref l] (dfl dv)) R E s:=by
 refine zaq1 (iter_intList hl fun s2 e st lo hlI=>?_)
 subst e
 refine ⟨_,_,_,_,_,_,_,rfl,Walks.list (A:=A.in1) hh _ l hlI (intItems xs),st,lo,by simpa [intItems] using hne,CmpOf.ints_lt (numAt xs) (fun _ _=>intItems_at),fun v h' tk Pv kp=>?_⟩
 exact h v h' tk (by simpa [intItems] using Pv) (old_kept kp)
end
end L2
namespace L2
open PySem PySem.Spec PyProof.Rows
section
variable {X:Cx} {e d:Expr} {ta:TA} {td:TE} {p pos kp:Pos}
noncomputable def zaws (K:PySem.W.Frag) (ta:TA) (td:TE):TE:=fun σ H Q=>ta σ H fun xs H1=>td σ H1 fun _ H2=>∃ (q:Addr) (ns:List Int),xs=[.ref q]/\SqL K H2 q (ns.map V.int)/\ns ≠ []/\∀ M,M ∈ ns->(∀ a ∈ ns,M<=a)->Q (.int M) H2
theorem zatR (hc:X.calm=true) (hg:Gl X "min") (hm:X.mg "min" = none) (ha:PA X [e] ta) (hd:PE X d td) (he:starEach [e] X.env=[(false,eval e X.env)]:=by rfl) :
 PE X (.Call (.Name "min" p) [e] [⟨some "default", d,kp⟩] pos) (zaws X.K ta td):=by
 intro pins s σ H Q I h
 refine wpAny_Call_Name_kw (zagb I hg hm PyProof.Rows.boot_min ?_)
 refine callWith_kw ?z1 (by rw [he]; rfl) (by rw [he]; rfl) rfl rfl
 refine thn (ha pos pins s σ H _ I h) fun us s1 ⟨vs,H1,I1,r1,q1⟩=>?z2
 refine kws_cons ?z3
 refine thn (hd pins s1 σ H1 _ I1 q1) fun v s2 ⟨y,H2,I2,ry,q2⟩=>?z4
 refine kws_nil ?z5
 show wpAny _ _ (call (.builtin "min") us (dfl v)) _ _ _
 obtain ⟨q,ns,rfl,hq,hne,fin⟩:=q2
 obtain ⟨u,rfl,rx⟩:=zahf r1
 cases rx
 obtain ⟨its,r',pl,hz⟩:=I2.list hq
 obtain ⟨ys,e1,e2⟩:=zagq (zagB r')
 have hl:=pl.isList
 rw [e1] at hl
 have hsz:0 < ys.size:=by
  rcases Nat.eq_zero_or_pos ys.size with z | z
  · exfalso
    apply hne
    rw [<- e2]
    have:ys.toList=[]:=List.eq_nil_of_length_eq_zero (by simpa using z)
    rw [this]
    rfl
  · exact z
 refine zaqx (I2.ok.hd hc) hl hsz fun v h' tk hv k=>?_
 obtain ⟨t,rfl⟩:=intItems_at hv
 obtain ⟨h1,h2⟩:=argBest_lt (numAt ys) (ys.size - 1)
 refine ⟨.int _,H2,I2.kept k,⟨t,rfl⟩,fin _ ?_ fun a ha=>?_⟩
 · rw [numAt_eq,<- e2]; exact getD_mem (by rw [List.length_map,Array.length_toList]; omega)
 · rw [<- e2] at ha
   obtain ⟨j,hj,rfl⟩:=mem_getD ha
   rw [List.length_map,Array.length_toList] at hj
   rw [<- numAt_eq]; exact h2 j (by omega)
end
end L2
namespace SM
open PySem PySem.Spec PyProof.Rows L2
noncomputable def zao9 (fa fd:RE):RE:=fun l h=>(fa l h).bind fun r=>(fd l r.2).bind fun q=>(seqL q.2 r.1).bind fun xs=>(zacv xs).bind fun ns=>if ns ≠ [] then some (.int (minL ns),q.2) else none
section
variable {X:Cx} {e d:Expr} {fa fd:RE} {p pos kp:Pos}
theorem zatI (hc:X.calm=true) (hg:Gl X "min") (hm:X.mg "min" = none) (ha:EM X e fa) (hd:EM X d fd) (hs:zaaP e=true:=by rfl):EM X (.Call (.Name "min" p) [e] [⟨some "default", d,kp⟩] pos) (zao9 fa fd):=by
 with_unfolding_all
  exact PE.imp (zatR hc hg hm (zabz ha zac4 (zaaG hs _ _)) hd (zaaG hs _ _)) fun σ H Q ⟨ρ,l,h,dd,h',S,L,e,k⟩=>by
   obtain ⟨⟨d1,h1⟩,e1,e⟩:=zaal e
   obtain ⟨⟨d2,h2⟩,e2,e⟩:=zaal e
   obtain ⟨xs,e3,e⟩:=zaal e
   obtain ⟨ns,q,e⟩:=zaal e
   obtain ⟨hne,e⟩:=ifE e
   cases e
   refine ⟨ρ,l,h,d1,h1,S,L,e1,fun ρ1 v H1 R1 S1 E1=>⟨ρ1,l,h1,d2,_,S1,L.ext E1,e2,fun ρ2 v2 H2 R2 S2 E2=>?_⟩⟩
   obtain ⟨a,vs,z,sq,r⟩:=zadd S2 (RelD.ext E2 _ R1) e3
   rw [zae6 q] at r
   rw [r.unints] at sq
   obtain ⟨m1,m2⟩:=zaiv ns hne
   refine ⟨a,ns,by rw [z],sq,hne,fun M g1 g2=>?_⟩
   have:M=minL ns:=Int.le_antisymm (g2 _ m1) (m2 M g1)
   rw [this]
   exact k ρ2 _ H2 (rel_int.mpr rfl) S2 (E1.trans E2)
end
end SM
namespace L2
open PySem PySem.Spec PyProof.Rows
section
variable {X:Cx}
end
end L2
namespace SM
open PySem PySem.Spec PyProof.Rows L2
section
variable {X:Cx} {e:Expr} {f:RE} {p p' pos pos':Pos}
end
end SM
namespace L2
open PySem PySem.Spec PyProof.Rows
noncomputable def Its (lo c:Int) (n:Nat):It:=⟨fun i _=>i < n,fun i H x H'=>H'=H/\x=.int (lo + (i:Int) * c),fun i _=>n<=i⟩
theorem zaqC {P:Program} {w:World} {K:PySem.W.Frag} {tg:Expr} (it:Addr) (lo c:Int) (n:Nat):Turn P w K tg (Its lo c n) [it] it (fun i h=>IsRangeIter h it (lo + (i:Nat) * c) ((n:Int) - (i:Nat)) c) where
 mem:=by simp
 obj:=fun i h st b hb=>by
  have e:b=it:=by simpa using hb
  subst e
  exact ⟨_,st,fun v z=>by
   have z':Data.fields _=Data.cell v:=z
   cases z'⟩
 keep:=fun i h h' st k=>k it (by simp) _ st
 item:=by
  intro X hP hw hK hc i pins s σ H E I hf st hg
  subst hP hw hK
  obtain ⟨f0,f1,f2,f3,f4,f5⟩:=hf it (by simp)
  have W:=Walks.range (prog:=X.prog) (w:=X.w) (I.ok.hd hc) it lo c n
  refine W.item i s _ _ hg st fun v h' tk hv st' kk=>?_
  obtain ⟨t,rfl⟩:=hv
  have I1:Inv X pins σ H { s with heap:=h',toks:=tk }:=I.turned (fun b o hb e=>kk b o (by simpa using hb) e) f0 f1 f3 f4 f5
  exact ⟨_,rfl,zaps (s:={ s with heap:=h',toks:=tk }) (n := "range_iterator") st' rfl rfl (by decide) ⟨.int (lo + (i:Int) * c),H,I1,⟨t,rfl⟩,⟨rfl,rfl⟩,st',fun b hb=>(hf b hb).1⟩⟩
 done:=by
  intro X hP hw hK hc i pins s σ H E I hf st hg
  subst hP hw hK
  obtain ⟨f0,f1,f2,f3,f4,f5⟩:=hf it (by simp)
  exact wpAny_pyNext_range_end (I.ok.hd hc) st (by have:n<=i:=hg; omega) fun h' eb=>⟨rfl,I.turned (t':=s.toks) (fun b o hb e=>eb b o hb e) f0 f1 f3 f4 f5⟩
 self:=fun _ _ _ _ _ st h=>wpAny_pyIter_rangeiter st h
section
variable {X:Cx} {tg:Expr}
noncomputable def zavX (ta:TA):TI:=fun σ H R=>ta σ H fun vs H1=>∃ (i j:Int) (c:Nat),vs=[.int i,.int j,.int (c:Int)]/\(0<=i/\i < 2 ^ 61/\0<=j/\j < 2 ^ 61/\0 < c/\c < 1000)/\R (Its i c ((j - i + (c:Int) - 1) / (c:Int)).toNat) H1
theorem zal4 {i j:Int} {c:Nat} (hc:0 < c):Builtin.Range.rangeSize i j (c:Int)=(((j - i + (c:Int) - 1) / (c:Int)).toNat:Int):=by
 have c0:(c:Int) > 0:=by omega
 unfold Builtin.Range.rangeSize
 rw [if_pos c0]
 by_cases h:i < j
 · rw [if_pos h,show j - i + (c:Int) - 1=(j - i - 1) + 1 * (c:Int) by omega,Int.add_mul_ediv_right _ _ (by omega)]
   have:0<=(j - i - 1) / (c:Int):=Int.ediv_nonneg (by omega) (by omega)
   omega
 · rw [if_neg h]
   have:(j - i + (c:Int) - 1) / (c:Int)<=0:=by
    have h1:(j - i + (c:Int) - 1) / (c:Int) < 1:=Int.ediv_lt_of_lt_mul (by omega) (by omega)
    omega
   omega
theorem zapb {i j:Int} {c:Nat} (q:0<=i/\i < 2 ^ 61/\0<=j/\j < 2 ^ 61/\0 < c/\c < 1000):Builtin.Range.small i j (c:Int)=true:=by
 obtain ⟨a1,a2,a3,a4,a5,a6⟩:=q
 have c0:(c:Int) > 0:=by omega
 have sz:Builtin.Range.rangeSize i j (c:Int)<=2 ^ 61 + 1/\0<=Builtin.Range.rangeSize i j (c:Int):=by
  rw [zal4 a5]
  refine ⟨?_,by omega⟩
  have h1:(j - i + (c:Int) - 1) / (c:Int) < 2 ^ 61 + 1:=Int.ediv_lt_of_lt_mul (by omega) (by
   have:(2 ^ 61 + 1:Int) * (c:Int)=2 ^ 61 * (c:Int) + (c:Int):=by rw [Int.add_mul,Int.one_mul]
   have h2:(2 ^ 61:Int) * 1<=2 ^ 61 * (c:Int):=Int.mul_le_mul_of_nonneg_left (by omega) (by decide)
   omega)
  omega
 unfold Builtin.Range.small
 simp only [Builtin.Range.rangeFitsLong,Bool.and_eq_true,Bool.or_eq_true,decide_eq_true_eq,beq_iff_eq,c0,if_true]
 omega
theorem zapH {a b d:Expr} {ta:TA} {p pos:Pos} (hg:Gl X "range") (hm:X.mg "range" = none) (ha:PA X [a,b,d] ta) (hs:starEach [a,b,d] X.env=[(false,eval a X.env),(false,eval b X.env),(false,eval d X.env)]) (hs2:starEach [b,d] X.env=[(false,eval b X.env),(false,eval d X.env)]) :
 PI X tg (.Call (.Name "range" p) [a,b,d] [] pos) (zavX ta):=by
 intro pins s σ H R I h
 refine Call_ (zagb I hg hm boot_range (PyProof.Rows.callWith_type1 (thn (ha pos pins s σ H _ I h) fun us s1 ⟨vs,H1,I1,r1,q1⟩=>?_) (by rw [hs,hs2]) (by rw [hs2]; rfl)))
 obtain ⟨i,j,c,e,qq,q⟩:=q1
 subst e
 cases r1 with
 | cons r rr=>
  cases rr with
  | cons r' rr=>
   cases rr with
   | cons r'' rr=>
    cases rr
    obtain ⟨t,rfl⟩:=r
    obtain ⟨t',rfl⟩:=r'
    obtain ⟨t'',rfl⟩:=r''
    have c5:=qq.2.2.2.2.1
    have c6:=qq.2.2.2.2.2
    refine call_range_3 (show ((c:Nat):Int) ≠ 0 by omega) ?_ (Or.inl (PyProof.noPylong_small (by omega)))
    refine wpAny_pyIter_range (IsRange.new ..) (zapb qq) ?_
    have I2:Inv X pins σ H1 { s1 with heap:=s1.heap.push { cls:=.type "range", data:=.fields #[.int i t,.int j t',.int (c:Int) t''] },toks:=s1.toks }:=I1.kept fun b o e=>Heap.get?_push_of_some _ e
    refine ⟨(s1.heap.push { cls:=.type "range", data:=.fields #[.int i t,.int j t',.int (c:Int) t''] }).objs.size,[(s1.heap.push { cls:=.type "range", data:=.fields #[.int i t,.int j t',.int (c:Int) t''] }).objs.size],_,_,H1,rfl,
     I2.kept (t':=s1.toks) fun b o e=>Heap.get?_push_of_some _ e,zaqC _ i c ((j - i + (c:Int) - 1) / (c:Int)).toNat,?_,fun b hb=>?_,q⟩
    · have e1:i + ((0:Nat):Int) * (c:Int)=i:=by simp
      have e2:((((j - i + (c:Int) - 1) / (c:Int)).toNat:Nat):Int) - ((0:Nat):Int)=Builtin.Range.rangeSize i j (c:Int):=by rw [zal4 c5]; omega
      show IsRangeIter _ _ (i + ((0:Nat):Int) * (c:Int)) (((((j - i + (c:Int) - 1) / (c:Int)).toNat:Nat):Int) - ((0:Nat):Int)) (c:Int)
      rw [e1,e2]
      exact Heap.get?_push_size _ rfl
    · have e:b=(s1.heap.push { cls:=.type "range", data:=.fields #[.int i t,.int j t',.int (c:Int) t''] }).objs.size:=by simpa using hb
      subst e
      exact I2.fpOk (Nat.le_refl _) (I2.hok.fresh (Nat.le_refl _))
end
end L2
namespace SM
open PySem PySem.Spec PyProof.Rows L2
noncomputable def iR3 (f g:RE) (c:Nat):RI:=fun l h=>(f l h).bind fun r=>(g l r.2).bind fun q=>match r.1,q.1 with
 | .int i,.int j=>if 0<=i/\i < 2 ^ 61/\0<=j/\j < 2 ^ 61/\0 < c/\c < 1000 then some (.vals ((List.range ((j - i + (c:Int) - 1) / (c:Int)).toNat).map fun (k:Nat)=>Dt.int (i + (k:Int) * (c:Int))),q.2) else none | _,_=>none
noncomputable def zaid:Op2:=fun a b h=>match a,b with
 | .tup xs,.tup ys=>if xs ≠ []/\xs.length + ys.length<=sizeLine then some (.tup (xs++ys),h) else none
 | _,_=>none
noncomputable def putD (f:Str) (v:Dt):List (Str × Dt)->List (Str × Dt)
 | []=>[(f,v)]
 | (g,x)::r=>if g=f then (g,v)::r else (g,x)::putD f v r
noncomputable def zacb (f:Str):List (Str × Dt)->Option Dt
 | []=>none
 | (g,x)::r=>if f=g then some x else zacb f r
noncomputable def eFld (x f:Str) (fo:RE):RE:=fun l h=>(fo l h).bind fun r=>match r.1 with
 | .ref n=>(match r.2[n]? with
  | some (.ins y fs)=>if y=x then (zacb f fs).bind fun d=>some (d,r.2) else none
  | _=>none)
 | _=>none
noncomputable def zaio (x f:Str) (fo fe:RE):RS:=fun l h=>(fe l h).bind fun r=>(fo l r.2).bind fun q=>match q.1 with
 | .ref n=>(match q.2[n]? with
  | some (.ins y fs)=>if y=x/\fs.length < 1000 then some (.nx l (q.2.set n (.ins y (putD f r.1 fs)))) else none
  | _=>none)
 | _=>none
noncomputable def zamh (x:Str) (F:FnI) (g:RA):RE:=fun l h=>(g l h).bind fun r=>(F (.ref r.2.length::r.1) (r.2++[.ins x []])).bind fun q=>match q.1 with
 | .non=>some (.ref r.2.length,q.2)
 | _=>none
noncomputable def zahZ (x m:Str) (F:FnI) (fo:RE) (g:RA):RE:=fun l h=>(fo l h).bind fun r=>match r.1 with
 | .ref n=>(match r.2[n]? with
  | some (.ins y fs)=>if y=x/\zacb m fs=none then (g l r.2).bind fun q=>F (.ref n::q.1) q.2 else none
  | _=>none)
 | _=>none
section
variable {X:Cx} {tg:Expr}
theorem zap5 {a b:Expr} {f g:RE} {c:Nat} {p pos:Pos} {d:Expr} (hg:Gl X "range") (hm:X.mg "range" = none) (ha:EM X a f) (hb:EM X b g) (hd:EM X d (eC (.int (c:Int)))) (hs:zaaP a=true:=by rfl) (hs2:zaaP b=true:=by rfl) (hs3:zaaP d=true:=by rfl) :
 IM X tg (.Call (.Name "range" p) [a,b,d] [] pos) (iR3 f g c):=by
 with_unfolding_all
  exact PI.imp (zapH hg hm (zabz ha (zabz hb (zabz hd zac4 (zaaG hs3 _ _)) (zaaG hs2 _ _)) (zaaG hs _ _)) (by rw [zaaG hs,zaaG hs2,zaaG hs3]; rfl) (by rw [zaaG hs2,zaaG hs3]; rfl)) fun σ H R ⟨ρ,l,h,s,h',S,L,e,k⟩=>by
   obtain ⟨⟨d1,h1⟩,e1,e⟩:=zaal e
   obtain ⟨⟨d2,h2⟩,e2,e⟩:=zaal e
   refine ⟨ρ,l,h,d1,h1,S,L,e1,fun ρ1 v H1 R1 S1 E1=>⟨ρ1,l,h1,d2,h2,S1,L.ext E1,e2,fun ρ2 u H2 R2 S2 E2=>⟨ρ2,l,h2,.int (c:Int),h2,S2,L.ext (E1.trans E2),rfl,fun ρ3 u3 H3 R3 S3 E3=>?_⟩⟩⟩
   cases d1 with
   | int i=>
    cases d2 with
    | int j=>
     obtain ⟨cc,e⟩:=ifE e
     cases e
     refine ⟨i,j,c,by rw [rel_int.mp R1,rel_int.mp R2,rel_int.mp R3],cc,k ρ3 _ H3 (fun H4 ρ4 h4 E4 S4 n=>?_) S3 (E1.trans (E2.trans E3))⟩
     simp only [Src.at,List.getElem?_map]
     by_cases hi:n < ((j - i + (c:Int) - 1) / (c:Int)).toNat
     · rw [List.getElem?_range hi]
       refine ⟨hi,fun v H5 q=>?_⟩
       obtain ⟨rfl,rfl⟩:=q
       exact ⟨rel_int.mpr rfl,Ext.refl _ _,S4⟩
     · rw [List.getElem?_eq_none (by simpa using Nat.not_lt.mp hi)]
       exact Nat.not_lt.mp hi
    | _=>cases e
   | _=>cases e
theorem zanZ:OM X (binaryOp .Add) zaid:=by
 with_unfolding_all
  exact OpR.imp zatA fun x y H Q ⟨ρ,h,d1,d2,d,h',S,R1,R2,e,k⟩=>by
   cases d1 with
   | tup xs=>
    cases d2 with
    | tup ys=>
     obtain ⟨⟨hx,hz⟩,e⟩:=ifE e
     cases e
     obtain ⟨a,vs,z1,q1,r1⟩:=rel_tup.mp R1
     obtain ⟨b,ws,z2,q2,r2⟩:=rel_tup.mp R2
     refine ⟨a,b,vs,ws,z1,z2,q1.sq,q2.sq,fun z=>?_,by rw [r1.length,r2.length]; exact hz,fun z=>?_,fun z p hp=>k ρ _ _ (zaiT S (r1.append r2) hp) (S.fresh hp) (Ext.fresh hp)⟩
     · have:=r1.length
       rw [z] at this
       exact hx (List.length_eq_zero_iff.mp this.symm)
     · have hl:=r2.length
       rw [z] at hl
       have hy:ys=[]:=List.length_eq_zero_iff.mp hl.symm
       subst hy
       rw [List.append_nil] at k
       exact k ρ _ _ (z1 ▸ R1) S (Ext.refl _ _)
    | _=>cases e
   | _=>cases e
end
noncomputable def zamr (f:RE):RI:=fun l h=>(f l h).bind fun r=>match r.1 with
 | .lst xs=>some (.vals (zahV 0 xs),r.2)
 | .ref n=>(match r.2[n]? with
  | some (.lst _)=>some (.en n,r.2)
  | _=>none)
 | _=>none
theorem zatF {X:Cx} {elts:List Expr} {x1} {tp p pos:Pos} {a:Expr} {f:RE} (hg:Gl X "enumerate") (hm:X.mg "enumerate" = none) (ha:EM X a f) (hs:zaaP a=true:=by rfl):IM X (.Tuple elts x1 tp) (.Call (.Name "enumerate" p) [a] [] pos) (zamr f):=by
 with_unfolding_all
  refine PI.imp (zatd hg hm (zabz ha zac4 (zaaG hs _ _)) (zaaG hs _ _)) fun σ H R ⟨ρ,l,h,s,h',S,L,e,k⟩=>?_
  obtain ⟨⟨d1,h2⟩,e1,e⟩:=zaal e
  refine ⟨ρ,l,h,d1,h2,S,L,e1,fun ρ1 v H1 R1 S1 E1=>?_⟩
  cases d1 with
  | lst xs=>
   cases e
   obtain ⟨b,ws,rfl,q,r⟩:=rel_lst.mp R1
   refine ⟨b,rfl,⟨ws,q.sq⟩,k ρ1 _ H1 (fun H2 ρ2 h2 E2 S2 i=>?_) S1 E1⟩
   have q2:=q.same E2
   have r2:=RelDs.same E2 _ r
   simp only [Src.at,zalX,Nat.zero_add]
   cases ei:xs[i]? with
   | none=>
    refine ⟨ws,q2.sq,?_⟩
    rw [r.length]
    exact List.getElem?_eq_none_iff.mp ei
   | some d=>
    obtain ⟨v,g1,g2⟩:=r2.get ei
    refine ⟨⟨ws,v,q2.sq,g1⟩,fun u H3 y=>?_⟩
    obtain ⟨p0,y0,hp,rfl,gy,rfl⟩:=y
    have g3:=gy ws q2.sq
    rw [g1] at g3
    cases g3
    exact ⟨zaiT S2 (.cons (rel_int.mpr rfl) (.cons g2 .nil)) hp,Ext.fresh hp,S2.fresh hp⟩
  | ref n=>
   dsimp only at e
   split at e
   · rename_i xs0 q0
     cases e
     obtain ⟨b,rfl,hb⟩:=rel_ref.mp R1
     obtain ⟨vs0,g0,_⟩:=S1.lst hb q0
     refine ⟨b,rfl,⟨vs0,SqL.of g0⟩,k ρ1 _ H1 (fun H2 ρ2 h2 E2 S2 i=>?_) S1 E1⟩
     have hb2:=E2.ix _ _ hb
     simp only [Src.at]
     cases q:h2[n]? with
     | none=>trivial
     | some o=>
      cases o with
      | lst xs=>
       obtain ⟨ws,g1,r⟩:=S2.lst hb2 q
       dsimp only
       cases ei:xs[i]? with
       | none=>
        refine ⟨ws,SqL.of g1,?_⟩
        rw [r.length]
        exact List.getElem?_eq_none_iff.mp ei
       | some d=>
        obtain ⟨v,g2,g3⟩:=r.get ei
        refine ⟨⟨ws,v,SqL.of g1,g2⟩,fun u H3 y=>?_⟩
        obtain ⟨p0,y0,hp,rfl,gy,rfl⟩:=y
        have g4:=gy ws (SqL.of g1)
        rw [g2] at g4
        cases g4
        exact ⟨zaiT S2 (.cons (rel_int.mpr rfl) (.cons g3 .nil)) hp,Ext.fresh hp,S2.fresh hp⟩
      | _=>trivial
   · cases e
  | _=>cases e
theorem ifE2 {c:Prop} [Decidable c] {α:Type} {x:Option α} {b:α} (e:(if c then x else none)=some b):c/\x=some b:=by
 by_cases h:c
 · rw [if_pos h] at e
   exact ⟨h,e⟩
 · rw [if_neg h] at e
   cases e
noncomputable def clsOf (K:PySem.W.Frag) (x:Str) (C:Addr):Prop:=PySem.W.nsIn K mainGlobals x=some (some (.ref C))
theorem clsOf.inj {K:PySem.W.Frag} {x:Str} {C C':Addr} (h:clsOf K x C) (h':clsOf K x C'):C=C':=by
 have:=h.symm.trans h'
 cases this
 rfl
theorem zak9 {K:PySem.W.Frag} {H:Hp} {ρ:Rg} {f:Str}:∀ {fs:List (Str × Dt)} {vs:List (Str × V)},fs.map (·.1)=vs.map (·.1)->RelDs K H ρ (fs.map (·.2)) (vs.map (·.2))->
 (∀ d,zacb f fs=some d->∃ v,vs.lookup f=some v/\RelD K H ρ d v)/\(zacb f fs=none->vs.lookup f=none)
 | [],[],_,_=>⟨(fun _ h=>by cases h),fun _=>rfl⟩
 | [],_::_,e,_=>by cases e
 | _::_,[],e,_=>by cases e
 | (x,d)::fs,(y,v)::vs,e,r=>by
  simp only [List.map_cons,List.cons.injEq] at e
  obtain ⟨e0,e⟩:=e
  subst e0
  obtain ⟨v',rr,q,h1,h2⟩:=RelDs.uncons r
  cases q
  obtain ⟨i1,i2⟩:=zak9 (f:=f) e h2
  by_cases z:f=x
  · have zb:(f == x)=true:=beq_iff_eq.mpr z
    refine ⟨fun d' h=>?_,fun h=>?_⟩
    · simp only [zacb,if_pos z] at h
      cases h
      exact ⟨v,by simp only [List.lookup,zb],h1⟩
    · simp only [zacb,if_pos z] at h
      cases h
  · have zb:(f == x)=false:=by rw [<- Bool.not_eq_true,beq_iff_eq]; exact z
    refine ⟨fun d' h=>?_,fun h=>?_⟩
    · simp only [zacb,if_neg z] at h
      obtain ⟨w,w1,w2⟩:=i1 d' h
      exact ⟨w,by simp only [List.lookup,zb]; exact w1,w2⟩
    · simp only [zacb,if_neg z] at h
      simp only [List.lookup,zb]
      exact i2 h
theorem zamQ {K:PySem.W.Frag} {H:Hp} {ρ:Rg} {f:Str} {d:Dt} {v:V} (rd:RelD K H ρ d v):∀ {fs:List (Str × Dt)} {vs:List (Str × V)},fs.map (·.1)=vs.map (·.1)->RelDs K H ρ (fs.map (·.2)) (vs.map (·.2))->
 (putD f d fs).map (·.1)=(L2.putF f v vs).map (·.1)/\RelDs K H ρ ((putD f d fs).map (·.2)) ((L2.putF f v vs).map (·.2))
 | [],[],_,_=>⟨rfl,.cons rd .nil⟩
 | [],_::_,e,_=>by cases e
 | _::_,[],e,_=>by cases e
 | (x,d0)::fs,(y,v0)::vs,e,r=>by
  simp only [List.map_cons,List.cons.injEq] at e
  obtain ⟨e0,e⟩:=e
  subst e0
  obtain ⟨v',rr,q,h1,h2⟩:=RelDs.uncons r
  cases q
  by_cases z:x=f
  · simp only [putD,L2.putF,if_pos z,List.map_cons]
    exact ⟨by rw [e],.cons rd h2⟩
  · obtain ⟨i1,i2⟩:=zamQ rd (f:=f) e h2
    simp only [putD,L2.putF,if_neg z,List.map_cons]
    exact ⟨by rw [i1],.cons h1 i2⟩
structure zahL (K:PySem.W.Frag) (x f:Str):Prop where
 ex:∃ C,clsOf K x C/\Cls K C/\NoAttr K C f
structure MCal (P:Program) (w:World) (K:PySem.W.Frag) (mg:Str->Option Value) (base:Heap) (k n:Nat) (x m:Str) (F:FnI):Prop where
 ex:∃ C f fd ps,clsOf K x C/\Cls K C/\Meth K C m f/\FnOk P w K mg base CX0 k f fd ps (spM K n F)/\Binds K fd ps []
 len:∀ ds h r,F ds h=some r->ds.length=n
structure zaiI (K:PySem.W.Frag) (x m qual:Str) (st:Stmt) (ps:List Str):Prop where
 ex:∃ C f fd,clsOf K x C/\Cls K C/\Meth K C m f/\Fun K m qual st f fd/\Binds K fd ps []
structure KCal (P:Program) (w:World) (K:PySem.W.Frag) (mg:Str->Option Value) (base:Heap) (k n:Nat) (x:Str) (F:FnI):Prop where
 ex:∃ C f fd ps,clsOf K x C/\Mk K C f/\FnOk P w K mg base CX0 k f fd ps (spM K n F)/\mg x=some (.ref C)/\Binds K fd ps []
 len:∀ ds h r,F ds h=some r->ds.length=n
structure zamu (K:PySem.W.Frag) (mg:Str->Option Value) (x qual:Str) (st:Stmt) (ps:List Str):Prop where
 ex:∃ C f fd,clsOf K x C/\Mk K C f/\Fun K "__init__" qual st f fd/\mg x=some (.ref C)/\Binds K fd ps []
section
variable {P:Program} {w:World} {K:PySem.W.Frag} {mg:Str->Option Value} {base:Heap}
theorem zan1 {x m qual:Str} {st:Stmt} {N ps:List Str} {k n mm:Nat} {body:RS} (D:zaiI K x m qual st ps) (S:zaay N ps (zaai st)) (hn:ps.length=n) (hm:N.length=mm)
 (hb:∀ (f:Addr) (cdv:Value) (A:Around) (outer:List Env) (s:Shared) (H:Hp) (E:XK),Room k (A.deeper (envOfC qual (zaai st) s.heap.objs.size f cdv))->
  ZMs (cxOf CX0 P w K mg base N qual (zaai st) f cdv A outer s H E).nox (zabm st) body):MCal P w K mg base (k + 1) n x m (fnI n mm body):=by
 with_unfolding_all
  subst hn hm
  obtain ⟨C,f,fd,c1,c2,c3,hF,hB⟩:=D.ex
  exact ⟨⟨C,f,fd,ps,c1,c2,c3,zamn hF S fun cdv A outer s H E hr=>hb f cdv A outer s H E hr,hB⟩,fun ds h r e=>zajo e⟩
theorem zatM {x m qual:Str} {st:Stmt} {ps:List Str} {k n:Nat} (D:zaiI K x m qual st ps):MCal P w K mg base k n x m (fun _ _=>none):=by
 with_unfolding_all
  obtain ⟨C,f,fd,c1,c2,c3,hF,hB⟩:=D.ex
  refine ⟨⟨C,f,fd,ps,c1,c2,c3,⟨fun vs H Q E h=>?_,fun A outer s H args us vs Q E hr he hb hv h=>?_⟩,hB⟩,fun ds h r e=>by cases e⟩
  · obtain ⟨ρ,ds,h,d,h',_,_,_,e,_⟩:=h
    cases e
  · obtain ⟨ρ,ds,h,d,h',_,_,_,e,_⟩:=h
    cases e
theorem zath {x qual:Str} {st:Stmt} {N ps:List Str} {k n mm:Nat} {body:RS} (D:zamu K mg x qual st ps) (S:zaay N ps (zaai st)) (hn:ps.length=n) (hm:N.length=mm)
 (hb:∀ (f:Addr) (cdv:Value) (A:Around) (outer:List Env) (s:Shared) (H:Hp) (E:XK),Room k (A.deeper (envOfC qual (zaai st) s.heap.objs.size f cdv))->
  ZMs (cxOf CX0 P w K mg base N qual (zaai st) f cdv A outer s H E).nox (zabm st) body):KCal P w K mg base (k + 1) n x (fnI n mm body):=by
 with_unfolding_all
  subst hn hm
  obtain ⟨C,f,fd,c1,c2,hF,c3,hB⟩:=D.ex
  exact ⟨⟨C,f,fd,ps,c1,c2,zamn hF S fun cdv A outer s H E hr=>hb f cdv A outer s H E hr,c3,hB⟩,fun ds h r e=>zajo e⟩
end
theorem nfi {H:Hp} {a C dx:Addr} {vs:List (Str × V)} (h:H a=some (.ins C dx vs)):Nfz H a:=fun _ _ e=>by rw [h] at e; cases e
section
variable {X:Cx} {e o value:Expr} {es:List Expr} {x f m:Str} {fo fe:RE} {g:RA} {pos pos' apos p:Pos} {k k' n:Nat} {F:FnI}
theorem zai3 (cl:zahL X.K x f) (ha:EM X e fo) (hb:attributeBase e f X.env (eval e X.env)=eval e X.env:=by rfl):EM X (.Attribute e f pos) (eFld x f fo):=by
 with_unfolding_all
  exact PE.imp (zauY ha hb) fun σ H Q ⟨ρ,l,h,d,h',S,L,e,k⟩=>by
   obtain ⟨⟨d1,h1⟩,e1,e⟩:=zaal e
   refine ⟨ρ,l,h,d1,h1,S,L,e1,fun ρ1 v H1 R1 S1 E1=>?_⟩
   cases d1 with
   | ref n=>
    dsimp only at e
    split at e
    · rename_i y fs q
      obtain ⟨hy,e3⟩:=ifE2 e
      subst hy
      obtain ⟨d2,q2,e4⟩:=zaal e3
      cases e4
      obtain ⟨a,z,ha⟩:=rel_ref.mp R1
      obtain ⟨C,dx,vs,c1,g1,g2,g3⟩:=S1.ob n a _ ha q
      obtain ⟨C',c2,c3,c4⟩:=cl.ex
      have cc:C'=C:=clsOf.inj c2 c1
      subst cc
      obtain ⟨v2,w1,w2⟩:=(zak9 g2 g3).1 _ q2
      exact ⟨a,C',dx,vs,v2,z,g1,c3,c4,w1,k ρ1 _ _ w2 S1 E1⟩
    · cases e
   | _=>cases e
theorem zakz (cl:zahL X.K x f) (ha:EM X o fo) (hv:EM X value fe) (hs:swapsWith value (some (.Attribute o f pos')) pos.line X.env=pure false:=by rfl):ZM X (.Assign [.Attribute o f pos'] value pos) (zaio x f fo fe):=by
 with_unfolding_all
  exact PS.imp (zau7 ha hv hs) fun D σ H ⟨ρ,l,h,r,S,L,e,k⟩=>by
   obtain ⟨⟨v,hv⟩,e1,e⟩:=zaal e
   obtain ⟨⟨d,hd⟩,e2,e⟩:=zaal e
   refine ⟨ρ,l,h,v,hv,S,L,e1,fun ρ1 u H1 R1 S1 E1=>⟨ρ1,l,hv,d,hd,S1,L.ext E1,e2,fun ρ2 y H2 R2 S2 E2=>?_⟩⟩
   cases d with
   | ref n=>
    dsimp only at e
    split at e
    · rename_i y fs q
      obtain ⟨⟨hy,hl⟩,e⟩:=ifE e
      cases e
      subst hy
      obtain ⟨a,zz,ha⟩:=rel_ref.mp R2
      obtain ⟨C,dx,vs,c1,g1,g2,g3⟩:=S2.ob n a _ ha q
      obtain ⟨C',c2,c3,c4⟩:=cl.ex
      have cc:C'=C:=clsOf.inj c2 c1
      subst cc
      have hm:=List.mem_of_getElem? ha
      have hlen:vs.length=fs.length:=by
       have:=congrArg List.length g2
       simpa using this.symm
      obtain ⟨p1,p2⟩:=zamQ (f:=f) (RelD.ext E2 _ R1) g2 g3
      refine ⟨a,C',dx,vs,zz,g1,c3,c4,by rw [hlen]; exact hl,?_⟩
      exact k ρ2 σ _ (S2.write ha (nfi g1) ⟨C',dx,_,c1,zaa6,p1,p2.ext (Ext.write hm (nfi g1))⟩) (L.ext (E1.trans (E2.trans (Ext.write hm (nfi g1))))) (E1.trans (E2.trans (Ext.write hm (nfi g1))))
    · cases e
   | _=>cases e
theorem zatw (c:KCal X.prog X.w X.K X.mg X.base k n x F) (hr:Room k' X.A) (hk:k + 1<=k') (hg:Gl X x) (ha:AM X (e::es) g) (hdb:(x == ("__debug__" : Str))=false:=by decide)
 (he:zaaP e=true:=by rfl) (hpl:es.all zaaP=true:=by rfl):EM X (.Call (.Name x p) (e::es) [] pos) (zamh x F g):=by
 with_unfolding_all
  obtain ⟨C,f,fd,ps,c1,c2,c3,c4,c5⟩:=c.ex
  exact PE.imp (zas3 c2 c3 (hr.mono hk) hg c4 c5 .nil (E:=E0) zaoM ha hdb (zaaG he _ _) (zag8 hpl)) fun σ H Q ⟨ρ,l,h,d,h',S,L,e,k⟩=>by
   obtain ⟨⟨ds1,h1⟩,e1,e⟩:=zaal e
   obtain ⟨⟨d2,h2⟩,e2,e⟩:=zaal e
   cases d2 with
   | non=>
    cases e
    refine ⟨ρ,l,h,ds1,h1,S,L,e1,fun ρ1 vs H1 R1 S1 E1 xa dx hx hdx hne=>?_⟩
    have S2:SimH X.K ρ1 h1 (upd H1 dx (.own xa)):=S1.fresh hdx
    have hx2:upd H1 dx (.own xa) xa=none:=by rw [zaaA (Ne.symm hne)]; exact hx
    have S3:=S2.own (p:=xa) (o:=.ins C dx []) (u:=.ins x []) hx2 ⟨C,dx,[],c1,zaa6,rfl,.nil⟩
    have E3:Ext ρ1 (ρ1.add xa) H1 (upd (upd H1 dx (.own xa)) xa (.ins C dx [])):=(Ext.fresh hdx).trans (Ext.own hx2)
    have at3:(ρ1.add xa).v[h1.length]?=some xa:=by simp [Rg.add,<- S1.len]
    have R3:RelDs X.K (upd (upd H1 dx (.own xa)) xa (.ins C dx [])) (ρ1.add xa) (.ref h1.length::ds1) (.ref xa::(vs++[])):=.cons (rel_ref.mpr ⟨xa,rfl,at3⟩) (by rw [List.append_nil]; exact R1.ext E3)
    exact ⟨ρ1.add xa,_,_,.non,h2,S3,R3,c.len _ _ _ e2,e2,fun ρ' v H' R' S' E'=>⟨rel_non.mp R',k ρ' _ H' (rel_ref.mpr ⟨xa,rfl,E'.get at3⟩) S' (E1.trans (E3.trans E'))⟩⟩
   | _=>cases e
theorem zalq {pl:Sem Bool} (c:MCal X.prog X.w X.K X.mg X.base k n x m F) (hr:Room k' X.A) (hk:k<=k') (ho:EM X o fo) (ha:AM X (e::es) g)
 (he:zaaP e=true:=by rfl) (hpl:es.all zaaP=true:=by rfl)
 (ht:eval (.Call (.Attribute o m apos) (e::es) [] pos) X.env=(do
  let ov <- eval o X.env
  standAt apos.atName
  let (f,first) <- holding [ov] (getMethod ov m pl)
  callWith pos f first (backTo pos (starEach (e::es) X.env)) (backToKw pos (keywordEach [] X.env))):=by rfl):EM X (.Call (.Attribute o m apos) (e::es) [] pos) (zahZ x m F fo g):=by
 with_unfolding_all
  obtain ⟨C,f,fd,ps,c1,c2,c3,c4,c5⟩:=c.ex
  exact PE.imp (zate (pl:=pl) ho c2 c3 c4 (hr.mono hk) c5 .nil (E:=E0) zaoM ha (zaaG he _ _) (zag8 hpl) ht) fun σ H Q ⟨ρ,l,h,d,h',S,L,e,k⟩=>by
   obtain ⟨⟨d1,h1⟩,e1,e⟩:=zaal e
   refine ⟨ρ,l,h,d1,h1,S,L,e1,fun ρ1 v H1 R1 S1 E1=>?_⟩
   cases d1 with
   | ref nn=>
    dsimp only at e
    split at e
    · rename_i y fs q
      obtain ⟨⟨hy,hl⟩,e3⟩:=ifE2 e
      subst hy
      obtain ⟨⟨ds,h2⟩,e2,e4⟩:=zaal e3
      obtain ⟨a,z,ha⟩:=rel_ref.mp R1
      obtain ⟨C',dx,vs,c1',g1,g2,g3⟩:=S1.ob nn a _ ha q
      have cc:C'=C:=clsOf.inj c1' c1
      subst cc
      refine ⟨a,dx,vs,z,g1,(zak9 g2 g3).2 hl,ρ1,l,h1,ds,h2,S1,L.ext E1,e2,fun ρ2 us H2 R2 S2 E2=>?_⟩
      exact ⟨ρ2,_,h2,d,h',S2,.cons (RelD.ext E2 _ R1) (by rw [List.append_nil]; exact R2),c.len _ _ _ e4,e4,(k.ext E1).ext E2⟩
    · cases e
   | _=>cases e
end
end SM
namespace SM
open PySem PySem.Spec PyProof.Rows L2
structure FunV (K:PySem.W.Frag) (x qual:Str) (st:Stmt) (dV:Value) (f:Addr) (fd:FuncData):Prop where
 ex:∃ (oc:Value) (od:Option Addr) (kV doc pm:Value) (an:Option Addr) (cdv ct:Value) (osl:Array (Option Value)),
  fd=PySem.W.fnOf x qual (zacj st) (zabm st) (zaai st) dV kV doc pm an cdv ct/\K.lookup f=some ⟨oc,od,.func fd,osl⟩/\PySem.W.codeIn K cdv qual=true
 kp:PySem.W.keepIn K (.ref f)=true
section
variable {P:Program} {w:World} {K:PySem.W.Frag} {mg:Str->Option Value} {base:Heap}
theorem zaod {x qual:Str} {st:Stmt} {f:Addr} {oc dV:Value} {od an:Option Addr} {osl:Array (Option Value)} {kV doc pm cdv ct:Value} (l:K.lookup f=some ⟨oc,od,.func (PySem.W.fnOf x qual (zacj st) (zabm st) (zaai st) dV kV doc pm an cdv ct),osl⟩)
 (c:PySem.W.codeIn K cdv qual=true) (k:PySem.W.keepIn K (.ref f)=true):FunV K x qual st dV f (PySem.W.fnOf x qual (zacj st) (zabm st) (zaai st) dV kV doc pm an cdv ct):=⟨⟨oc,od,kV,doc,pm,an,cdv,ct,osl,rfl,l,c⟩,k⟩
theorem zavE {x qual:Str} {st:Stmt} {dV:Value} {f:Addr} {fd:FuncData} {N ps:List Str} {k:Nat} {body:RS} (F:FunV K x qual st dV f fd) (S:zaay N ps (zaai st))
 (hb:∀ (cdv:Value) (A:Around) (outer:List Env) (s:Shared) (H:Hp) (E:XK),Room k (A.deeper (envOfC qual (zaai st) s.heap.objs.size f cdv))->
  ZMs (cxOf CX0 P w K mg base N qual (zaai st) f cdv A outer s H E).nox (zabm st) body):FnOk P w K mg base CX0 (k + 1) f fd ps (spM K ps.length (fnI ps.length N.length body)):=by
 with_unfolding_all
  obtain ⟨oc,od,kV,doc,pm,an,cdv,ct,osl,rfl,lk,hcd⟩:=F.ex
  refine zasF lk hcd S (fun vs H Q E h=>?_) fun A outer s H vs Q E hr h=>?_
  · obtain ⟨ρ,ds,h,d,h',S,R,hl,_⟩:=h
    rw [R.length,hl]
  · obtain ⟨ρ,ds,h,d,h',S,R,hl,e,k⟩:=h
    refine ⟨_,(hb cdv A outer s H E hr).nox,?_⟩
    unfold fnI at e
    rw [if_pos hl] at e
    rw [<- hl] at e
    split at e
    · rename_i d1 h1 q
      cases e
      exact ⟨ρ,_,h,_,S,zahh R,q,k⟩
    · rename_i l1 h1 q
      cases e
      exact ⟨ρ,_,h,_,S,zahh R,q,fun ρ' σ' H' S' L' E'=>k ρ' _ H' (rel_non.mpr rfl) S' E'⟩
    · cases e
structure DefD (K:PySem.W.Frag) (mg:Str->Option Value) (x:Str) (st:Stmt) (ps:List Str) (dds:List Dt):Prop where
 ex:∃ dV f fd ds dvs,FunV K x x st dV f fd/\mg x=some (.ref f)/\Binds K fd ps ds/\Vals dvs ds/\∀ H ρ,RelDs K H ρ dds dvs
structure CalD (P:Program) (w:World) (K:PySem.W.Frag) (mg:Str->Option Value) (base:Heap) (k n:Nat) (x:Str) (F:FnI) (dds:List Dt):Prop where
 ex:∃ f fd ps ds dvs,FnOk P w K mg base CX0 k f fd ps (spM K n F)/\mg x=some (.ref f)/\PySem.W.keepIn K (.ref f)=true/\Binds K fd ps ds/\Vals dvs ds/\∀ H ρ,RelDs K H ρ dds dvs
 len:∀ ds h r,F ds h=some r->ds.length=n
theorem zas4 {x:Str} {st:Stmt} {N ps:List Str} {k n m:Nat} {body:RS} {dds:List Dt} (D:DefD K mg x st ps dds) (S:zaay N ps (zaai st)) (hn:ps.length=n) (hm:N.length=m)
 (hb:∀ (f:Addr) (cdv:Value) (A:Around) (outer:List Env) (s:Shared) (H:Hp) (E:XK),Room k (A.deeper (envOfC x (zaai st) s.heap.objs.size f cdv))->
  ZMs (cxOf CX0 P w K mg base N x (zaai st) f cdv A outer s H E).nox (zabm st) body):CalD P w K mg base (k + 1) n x (fnI n m body) dds:=by
 with_unfolding_all
  subst hn hm
  obtain ⟨dV,f,fd,ds,dvs,hF,h1,h2,h3,h4⟩:=D.ex
  exact ⟨⟨f,fd,ps,ds,dvs,zavE hF S fun cdv A outer s H E hr=>hb f cdv A outer s H E hr,h1,hF.kp,h2,h3,h4⟩,fun ds h r e=>zajo e⟩
end
section
variable {X:Cx} {k k' n:Nat} {F:FnI} {x:Str} {p pos:Pos} {e:Expr} {es:List Expr} {g:RA} {dds:List Dt}
theorem zag0 (c:CalD X.prog X.w X.K X.mg X.base k n x F dds) (hr:Room k' X.A) (hk:k<=k') (hg:Gl X x) (ha:AM X (e::es) g) (hdb:(x == ("__debug__" : Str))=false:=by decide)
 (he:zaaP e=true:=by rfl) (hpl:es.all zaaP=true:=by rfl) :
 EM X (.Call (.Name x p) (e::es) [] pos) (zaav F dds g):=by
 with_unfolding_all
  obtain ⟨f,fd,ps,ds,dvs,h1,h2,h3,h4,h5,h6⟩:=c.ex
  exact zanx h1 (hr.mono hk) hg h2 h3 h4 h5 h6 ha (fun F' e ds h r q=>c.len ds h r (e ▸ q)) hdb he hpl
end
noncomputable def DefK (K:PySem.W.Frag) (x:Str) (st:Stmt):Prop:=∃ (f:Addr) (oc:Value) (od:Option Addr) (kV dc pm:Value) (an:Option Addr) (cd ct:Value) (sl:Array (Option Value)),PySem.W.nsIn K mainGlobals x=some (some (.ref f))/\
 K.lookup f=some ⟨oc,od,.func (PySem.W.fnOf x x (zacj st) (zabm st) (zaai st) .none kV dc pm an cd ct),sl⟩/\PySem.W.codeIn K cd x=true/\PySem.W.keepIn K (.ref f)=true
noncomputable def zaoX (K:PySem.W.Frag) (x:Str) (st:Stmt) (d:Int):Prop:=∃ (f:Addr) (oc:Value) (od:Option Addr) (td:Addr) (kV dc pm:Value) (an:Option Addr) (cd ct:Value) (sl:Array (Option Value)) (ot:Obj) (t:Tok) (nt:Nat),PySem.W.nsIn K mainGlobals x=some (some (.ref f))/\
 K.lookup f=some ⟨oc,od,.func (PySem.W.fnOf x x (zacj st) (zabm st) (zaai st) (.ref td) kV dc pm an cd ct),sl⟩/\PySem.W.codeIn K cd x=true/\PySem.W.keepIn K (.ref f)=true/\K.lookup td=some ot/\ot.data=.seq #[.int d t] nt
noncomputable def zakI (K:PySem.W.Frag) (C:Addr) (m qual:Str) (st:Stmt):Prop:=∃ (f:Addr) (oc:Value) (od:Option Addr) (kV dc pm:Value) (an:Option Addr) (cd ct:Value) (sl:Array (Option Value)),PySem.W.findIn K (.ref C) m=some (some (.ref f))/\PySem.W.isFn K (.ref f)=true/\
 K.lookup f=some ⟨oc,od,.func (PySem.W.fnOf m qual (zacj st) (zabm st) (zaai st) .none kV dc pm an cd ct),sl⟩/\PySem.W.codeIn K cd qual=true/\PySem.W.keepIn K (.ref f)=true
structure ClsK (K:PySem.W.Frag) (x:Str) (C:Addr):Prop where
 ac:PySem.W.nsIn K mainGlobals x=some (some (.ref C))
 pg:PySem.W.plainGet K C Str.empty=true
 hd:PySem.W.hasDictIn K C=true
 po:PySem.W.plainOver K C=true
 sa:PySem.W.findIn K (.ref C) "__setattr__" = some (some (.builtin "object.__setattr__"))
 mkk:PySem.W.makesIn K C=true
 kc:PySem.W.keepIn K (.ref C)=true
section
variable {K:PySem.W.Frag} {h:Heap} {mg:Str->Option Value} {x m qual:Str} {st:Stmt} {ps:List Str} {C:Addr} {d:Int}
theorem zaaM (X:K.In h) (G:h.Ns mainGlobals mg) (D:DefK K x st) (hb:∀ (kV doc pm:Value) (an:Option Addr) (cdv ct:Value) (us:List Value),us.length=ps.length->bindArgs (PySem.W.fnOf x x (zacj st) (zabm st) (zaai st) .none kV doc pm an cdv ct) ⟨us,[]⟩=pure (ps.zip us)):zaa2 K mg x st ps:=by
 obtain ⟨f,oc,od,kV,dc,pm,an,cd,ct,sl,a,l,c,k⟩:=D
 have F:=zakw l c k
 exact ⟨⟨f,_,F,PySem.W.mg_of X G a,F.binds hb⟩⟩
theorem zatC (X:K.In h) (G:h.Ns mainGlobals mg) (D:zaoX K x st d) (hb:∀ (s:Shared) (td:Addr) (ot:Obj) (t:Tok) (nt:Nat) (kV doc pm:Value) (an:Option Addr) (cdv ct:Value) (us:List Value),us.length=ps.length->s.heap.get? td=some ot->ot.data=.seq #[.int d t] nt->BindsTo s (PySem.W.fnOf x x (zacj st) (zabm st) (zaai st) (.ref td) kV doc pm an cdv ct) ⟨us,[]⟩ (ps.zip (us++[]))):DefD K mg x st ps []:=by
 obtain ⟨f,oc,od,td,kV,dc,pm,an,cd,ct,sl,ot,t,nt,a,l,c,k,l2,e2⟩:=D
 exact ⟨⟨_,f,_,[],[],zaod l c k,PySem.W.mg_of X G a,fun s us KX hl=>hb s td ot t nt _ _ _ _ _ _ us (by simpa using hl) (KX _ _ l2) e2,.nil,fun _ _=>.nil⟩⟩
theorem zatX (X:K.In h) (G:h.Ns mainGlobals mg) (D:zaoX K x st d) (hb:∀ (s:Shared) (td:Addr) (ot:Obj) (t:Tok) (nt:Nat) (kV doc pm:Value) (an:Option Addr) (cdv ct:Value) (us:List Value),us.length + 1=ps.length->s.heap.get? td=some ot->ot.data=.seq #[.int d t] nt->BindsTo s (PySem.W.fnOf x x (zacj st) (zabm st) (zaai st) (.ref td) kV doc pm an cdv ct) ⟨us,[]⟩ (ps.zip (us++[.int d t]))):DefD K mg x st ps [.int d]:=by
 obtain ⟨f,oc,od,td,kV,dc,pm,an,cd,ct,sl,ot,t,nt,a,l,c,k,l2,e2⟩:=D
 exact ⟨⟨_,f,_,[.int d t],[.int d],zaod l c k,PySem.W.mg_of X G a,fun s us KX hl=>hb s td ot t nt _ _ _ _ _ _ us (by simpa using hl) (KX _ _ l2) e2,.cons ⟨_,rfl⟩ .nil,fun _ _=>.cons (rel_int.mpr rfl) .nil⟩⟩
theorem zamR (k:ClsK K x C) (D:zakI K C m qual st) (hb:∀ (kV doc pm:Value) (an:Option Addr) (cdv ct:Value) (us:List Value),us.length=ps.length->bindArgs (PySem.W.fnOf m qual (zacj st) (zabm st) (zaai st) .none kV doc pm an cdv ct) ⟨us,[]⟩=pure (ps.zip us)):zaiI K x m qual st ps:=by
 obtain ⟨f,oc,od,kV,dc,pm,an,cd,ct,sl,a,i,l,c,k'⟩:=D
 have F:=zakw l c k'
 exact ⟨⟨C,f,_,k.ac,⟨k.pg,k.hd,k.po,k.sa⟩,⟨a,i,k'⟩,F,F.binds hb⟩⟩
theorem zark (X:K.In h) (G:h.Ns mainGlobals mg) (k:ClsK K x C) (D:zakI K C "__init__" qual st) (hb:∀ (kV doc pm:Value) (an:Option Addr) (cdv ct:Value) (us:List Value),us.length=ps.length->bindArgs (PySem.W.fnOf "__init__" qual (zacj st) (zabm st) (zaai st) .none kV doc pm an cdv ct) ⟨us,[]⟩=pure (ps.zip us)):zamu K mg x qual st ps:=by
 obtain ⟨f,oc,od,kV,dc,pm,an,cd,ct,sl,a,i,l,c,k'⟩:=D
 have F:=zakw l c k'
 exact ⟨⟨C,f,_,k.ac,⟨k.mkk,a,i,k.kc⟩,F,PySem.W.mg_of X G k.ac,F.binds hb⟩⟩
theorem zalu {f:Str} (k:ClsK K x C) (n:PySem.W.findIn K (.ref C) f=some none):zahL K x f:=⟨⟨C,k.ac,⟨k.pg,k.hd,k.po,k.sa⟩,n⟩⟩
end
end SM
namespace L2
open PySem PySem.Spec PyProof.Rows
section
variable {X:Cx}
end
end L2
namespace SM
open PySem PySem.Spec PyProof.Rows L2
section
variable {X:Cx} {a b:Expr} {fa fb:RE}
end
end SM
namespace SM
open PySem PySem.Spec PyProof.Rows L2
noncomputable def bnd {α β:Type} (o:Option α) (f:α->Option β):Option β:=o.bind f
@[simp] theorem zaaf {α β:Type} (a:α) (f:α->Option β):bnd (some a) f=f a:=by rfl
@[simp] theorem zawZ {α β:Type} (f:α->Option β):bnd none f=none:=by rfl
@[simp] theorem zaxj {α β:Type} {c:Prop} [Decidable c] (a b:Option α) (k:α->Option β):bnd (if c then a else b) k=if c then bnd a k else bnd b k:=by split <;> rfl
section
variable {l:LI} {h:HI} {f g fa fb fc:RE}
@[simp] theorem q_eC (d:Dt):eC d l h=some (d,h):=by rfl
noncomputable def getV (h:HI):Option (Option Dt)->Option (Dt × HI)
 | some (some d)=>some (d,h)
 | _=>none
@[simp] theorem zaae (d:Dt):getV h (some (some d))=some (d,h):=by rfl
@[simp] theorem q_eV (i:Nat):eV i l h=getV h l[i]?:=by unfold eV getV; rfl
@[simp] theorem q_e2 (op:Op2):e2 op fa fb l h=bnd (fa l h) fun r=>bnd (fb l r.2) fun q=>op r.1 q.1 q.2:=by rfl
@[simp] theorem zaaw:aNil l h=some ([],h):=by rfl
@[simp] theorem zaas (r:RA):zaac f r l h=bnd (f l h) fun r'=>bnd (r l r'.2) fun q=>some (r'.1::q.1,q.2):=by rfl
noncomputable def tbK:Dt × HI->Option (Bool × HI)
 | (.bl b,h)=>some (b,h)
 | _=>none
@[simp] theorem zaaK (b:Bool):tbK (.bl b,h)=some (b,h):=by rfl
@[simp] theorem q_tB:tB' f l h=bnd (f l h) tbK:=by
 unfold bnd
 unfold tB'
 congr 1
 funext r
 obtain ⟨d,h⟩:=r
 cases d <;> rfl
@[simp] theorem zaiQ (t u:RT):zajf t u l h=bnd (t l h) fun r=>if r.1=true then u l r.2 else some (false,r.2):=by rfl
@[simp] theorem zasK (t u:RT):tOr' t u l h=bnd (t l h) fun r=>if r.1=true then some (true,r.2) else u l r.2:=by rfl
@[simp] theorem zagM (t:RT):zahl t l h=bnd (t l h) fun r=>some (!r.1,r.2):=by rfl
noncomputable def zasI (u:RE) (l:LI):Dt × HI->Option (Dt × HI)
 | (.bl true,h)=>u l h
 | (.bl false,h)=>some (.bl false,h)
 | _=>none
@[simp] theorem zaii (u:RE) (b:Bool):zasI u l (.bl b,h)=if b=true then u l h else some (.bl false,h):=by cases b <;> rfl
@[simp] theorem zako (u:RE):vAnd f u l h=bnd (f l h) (zasI u l):=by
 unfold bnd
 unfold vAnd
 congr 1
 funext r
 obtain ⟨d,h⟩:=r
 cases d <;> (try rfl)
 rename_i b
 cases b <;> rfl
noncomputable def zasy:Dt × HI->Option (Dt × HI)
 | (.bl b,h)=>some (.bl (!b),h)
 | _=>none
@[simp] theorem zawT (b:Bool):zasy (.bl b,h)=some (.bl (!b),h):=by rfl
@[simp] theorem zaxv:vNot f l h=bnd (f l h) zasy:=by
 unfold bnd
 unfold vNot
 congr 1
 funext r
 obtain ⟨d,h⟩:=r
 cases d <;> rfl
@[simp] theorem zasC (t:RT):vIf t f g l h=bnd (t l h) fun r=>if r.1=true then f l r.2 else g l r.2:=by rfl
noncomputable def chK (o':Op2) (fc:RE) (l:LI) (q:Dt):Dt × HI->Option (Dt × HI)
 | (.bl true,h)=>(fc l h).bind fun r=>o' q r.1 r.2
 | (.bl false,h)=>some (.bl false,h)
 | _=>none
@[simp] theorem zavq (o':Op2) (q:Dt) (b:Bool):chK o' fc l q (.bl b,h)=if b=true then bnd (fc l h) fun r=>o' q r.1 r.2 else some (.bl false,h):=by cases b <;> rfl
@[simp] theorem zata (o o':Op2):zai2 o o' fa fb fc l h=bnd (fa l h) fun r=>bnd (fb l r.2) fun q=>bnd (o r.1 q.1 q.2) (chK o' fc l q.1):=by
 unfold bnd
 unfold zai2
 congr 1
 funext r
 congr 1
 funext q
 congr 1
 funext z
 obtain ⟨d,h⟩:=z
 cases d <;> (try rfl)
 rename_i b
 cases b <;> rfl
@[simp] theorem zab2 (r:RA):eTup r l h=bnd (r l h) fun r=>if r.1.length<=sizeLine then some (.tup r.1,r.2) else none:=by rfl
@[simp] theorem zaf6 (r:RA):eLst r l h=bnd (r l h) fun r=>if r.1.length<=sizeLine then some (.lst r.1,r.2) else none:=by rfl
@[simp] theorem zaeH (r:RA):eNew r l h=bnd (r l h) fun r=>if r.1.length<=sizeLine then some (.ref r.2.length,r.2++[.lst r.1]) else none:=by rfl
noncomputable def negK:Dt × HI->Option (Dt × HI)
 | (.int b,h)=>some (.int (-b),h)
 | _=>none
@[simp] theorem zamw (b:Int):negK (.int b,h)=some (.int (-b),h):=by rfl
@[simp] theorem zasu:uNeg f l h=bnd (f l h) negK:=by
 unfold bnd
 unfold uNeg
 congr 1
 funext r
 obtain ⟨d,h⟩:=r
 cases d <;> rfl
@[simp] theorem zado (i j:Int):oAdd (.int i) (.int j) h=some (.int (i + j),h):=by rfl
@[simp] theorem zagz (i j:Int):oSub (.int i) (.int j) h=some (.int (i - j),h):=by rfl
@[simp] theorem zanj (i j:Int):zajj (.int i) (.int j) h=some (.int (Builtin.bitAnd i j),h):=by rfl
@[simp] theorem zast (i j:Int):oBor (.int i) (.int j) h=some (.int (Builtin.bitOr i j),h):=by rfl
@[simp] theorem o_lt (i j:Int):oLt (.int i) (.int j) h=some (.bl (decide (i < j)),h):=by rfl
@[simp] theorem o_le (i j:Int):oLe (.int i) (.int j) h=some (.bl (decide (i<=j)),h):=by rfl
@[simp] theorem o_gt (i j:Int):oGt (.int i) (.int j) h=some (.bl (decide (j < i)),h):=by rfl
@[simp] theorem o_ge (i j:Int):oGe (.int i) (.int j) h=some (.bl (decide (j<=i)),h):=by rfl
theorem zafR {i j:Int} (c:CMul i j):oMul (.int i) (.int j) h=some (.int (i * j),h):=by simp only [oMul,oI,if_pos c]
theorem zagy {i j:Int} (c:CDiv i j):oDiv (.int i) (.int j) h=some (.int (i / j),h):=by simp only [oDiv,oI,if_pos c]
theorem zadz {i j:Int} (c:0 < j):oMod (.int i) (.int j) h=some (.int (i % j),h):=by simp only [oMod,oI,if_pos c]
theorem zakp {i j:Int} (c:CPow i j):oShl (.int i) (.int j) h=some (.int (i * 2 ^ j.toNat),h):=by simp only [oShl,oI,if_pos c]
theorem zawb {i j:Int} (c:0<=j):oShr (.int i) (.int j) h=some (.int (i / 2 ^ j.toNat),h):=by simp only [oShr,oI,if_pos c]
@[simp] theorem o_eq (i j:Int):oEqD (.int i) (.int j) h=some (.bl (decide (i=j)),h):=by
 show some (Dt.bl (decide (V.int i=V.int j)),h)=_
 simp
@[simp] theorem o_ne (i j:Int):oNeD (.int i) (.int j) h=some (.bl (!decide (i=j)),h):=by
 show some (Dt.bl (!decide (V.int i=V.int j)),h)=_
 simp
@[simp] theorem zadW (i j:Str):oEqD (.str i) (.str j) h=some (.bl (decide (i=j)),h):=by
 show some (Dt.bl (decide (V.str i=V.str j)),h)=_
 simp
@[simp] theorem zaoL (i j:Str):oNeD (.str i) (.str j) h=some (.bl (!decide (i=j)),h):=by
 show some (Dt.bl (!decide (V.str i=V.str j)),h)=_
 simp
theorem zawG {xs ys:List Dt} (c:zadX xs ys=true):oNeD (.lst xs) (.lst ys) h=some (.bl (!eqDs xs ys),h):=by simp only [oNeD,if_pos c]
@[simp] theorem zahc (d:Dt):oIsN d .non h=some (.bl (zafX d),h):=by rfl
@[simp] theorem zabL {α:Type} (xs:List α) (k:Nat):atI xs (k:Int)=xs[k]?:=by
 unfold atI ixN
 rw [if_pos (by omega)]
 by_cases hk:k < xs.length
 · rw [if_pos (by omega)]
   simp
 · rw [if_neg (by omega)]
   simp
   omega
@[simp] theorem zaa9 {α:Type} (xs:List α):atI xs 0=xs[0]?:=zabL xs 0
@[simp] theorem zadb {α:Type} (xs:List α):atI xs 1=xs[1]?:=zabL xs 1
@[simp] theorem zaim {α:Type} (xs:List α):atI xs 2=xs[2]?:=zabL xs 2
@[simp] theorem zaaZ (xs:List Dt) (i:Int):oIx (.tup xs) (.int i) h=(atI xs i).map fun d=>(d,h):=by rfl
@[simp] theorem zaml (xs:List Dt) (i:Int):oIx (.lst xs) (.int i) h=(atI xs i).map fun d=>(d,h):=by rfl
theorem zaeN {n:Nat} {xs:List Dt} (e:h[n]?=some (.lst xs)) (i:Int):oIx (.ref n) (.int i) h=(atI xs i).map fun d=>(d,h):=by simp only [oIx,seqA,seqL,e,Option.bind_some]
noncomputable def sqK (g:RS):Rs->Option Rs
 | .nx l h=>g l h
 | r=>some r
@[simp] theorem zaaB (g:RS):sqK g (.nx l h)=g l h:=by rfl
@[simp] theorem zacI (g:RS) (d:Dt):sqK g (.rt d h)=some (.rt d h):=by rfl
@[simp] theorem zaaC (f g:RS):sSeq f g l h=bnd (f l h) (sqK g):=by
 unfold bnd
 unfold sSeq
 congr 1
@[simp] theorem zabs:sNil l h=some (.nx l h):=by rfl
@[simp] theorem zaaH (i:Nat):sSet i f l h=bnd (f l h) fun r=>some (.nx (l.set i (some r.1)) r.2):=by rfl
@[simp] theorem zab4:zacN f l h=bnd (f l h) fun r=>some (.nx l r.2):=by rfl
@[simp] theorem zaaN:sRet f l h=bnd (f l h) fun r=>some (.rt r.1 r.2):=by rfl
@[simp] theorem zaa7 (t:RT) (f g:RS):sIf t f g l h=bnd (t l h) fun r=>if r.1=true then f l r.2 else g l r.2:=by rfl
noncomputable def finK:Option Rs->Option (Dt × HI)
 | some (.rt d h')=>some (d,h')
 | some (.nx _ h')=>some (.non,h')
 | _=>none
@[simp] theorem zaaI (d:Dt):finK (some (.rt d h))=some (d,h):=by rfl
@[simp] theorem zat6:finK (some (.nx l h))=some (.non,h):=by rfl
@[simp] theorem zaw3 {c:Prop} [Decidable c] (a b:Option Rs):finK (if c then a else b)=if c then finK a else finK b:=by split <;> rfl
@[simp] theorem q_fn (n N:Nat) (body:RS) (ds:List Dt):fnI n N body ds h=if ds.length=n then finK (body (ds.map some++List.replicate (N - n) none) h) else none:=by
 unfold fnI finK
 rfl
@[simp] theorem zaaL (F:FnI) (dds:List Dt) (g:RA):zaav F dds g l h=bnd (g l h) fun r=>F (r.1++dds) r.2:=by rfl
noncomputable def stK (go:LI->HI->Option Rs):Rs->Option Rs
 | .nx l h=>go l h
 | .ct l h=>go l h
 | .bk l h=>some (.nx l h)
 | .rt d h=>some (.rt d h)
@[simp] theorem zauD (go:LI->HI->Option Rs):stK go (.nx l h)=go l h:=by rfl
@[simp] theorem zaxw (go:LI->HI->Option Rs):stK go (.ct l h)=go l h:=by rfl
@[simp] theorem zaqZ (go:LI->HI->Option Rs) (d:Dt):stK go (.rt d h)=some (.rt d h):=by rfl
noncomputable def zab1 (bd:RG) (body:RS):List Dt->LI->HI->Option Rs
 | [],l,h=>some (.nx l h)
 | x::xs,l,h=>(bd x l).bind fun l1=>(body l1 h).bind (stK (zab1 bd body xs))
theorem zal1 (bd:RG) (body:RS) (xs:List Dt):∀ (n k:Nat) (l:LI) (h:HI),n=(xs.length - k) + 1->k<=xs.length->forL bd body (.vals xs) n k l h=zab1 bd body (xs.drop k) l h:=by
 intro n
 induction n with
 | zero=>intro k l h e; omega
 | succ n ih=>
  intro k l h e hk
  unfold forL
  simp only [Src.at]
  by_cases hl:k < xs.length
  · rw [List.getElem?_eq_getElem hl,List.drop_eq_getElem_cons hl]
    simp only [zab1]
    congr 1
    funext l1
    congr 1
    funext r
    cases r with
    | nx l' h'=>exact ih (k + 1) l' h' (by omega) (by omega)
    | ct l' h'=>exact ih (k + 1) l' h' (by omega) (by omega)
    | bk l' h'=>rfl
    | rt d h'=>rfl
  · rw [List.getElem?_eq_none (by omega),List.drop_eq_nil_of_le (by omega)]
    rfl
theorem zaxa {g:RI} {xs:List Dt} {h':HI} (e:g l h=some (.vals xs,h')) (bd:RG) (body:RS):sFor g bd body l h=zab1 bd body xs l h':=by
 unfold sFor
 rw [e]
 simp only [Option.bind_some,Src.fuel]
 exact zal1 bd body xs _ 0 _ _ (by omega) (by omega)
@[simp] theorem zaeI (i:Nat) (d:Dt):gSet i d l=some (l.set i (some d)):=by rfl
noncomputable def forK (bd:RG) (body:RS) (l:LI):Src × HI->Option Rs:=fun r=>forL bd body r.1 (r.1.fuel r.2) 0 l r.2
@[simp] theorem zacX (g:RI) (bd:RG) (body:RS):sFor g bd body l h=bnd (g l h) (forK bd body l):=by rfl
@[simp] theorem zadf (bd:RG) (body:RS) (xs:List Dt):forK bd body l (.vals xs,h)=zab1 bd body xs l h:=by
 unfold forK
 simp only [Src.fuel]
 exact zal1 bd body xs _ 0 _ _ (by omega) (by omega)
noncomputable def r1K:Dt × HI->Option (Src × HI)
 | (.int j,h)=>if -(2 ^ 62)<=j/\j < 2 ^ 62 then some (.vals ((List.range j.toNat).map fun (k:Nat)=>Dt.int (k:Int)),h) else none
 | _=>none
@[simp] theorem zakN:iR1 f l h=bnd (f l h) r1K:=by
 unfold bnd
 unfold iR1
 congr 1
 funext r
 obtain ⟨d,h⟩:=r
 cases d <;> rfl
theorem zadE {j:Int} (a:-(2 ^ 62)<=j) (b:j < 2 ^ 62):r1K (.int j,h)=some (.vals ((List.range j.toNat).map fun (k:Nat)=>Dt.int (k:Int)),h):=if_pos ⟨a,b⟩
noncomputable def r2K:Dt->Dt × HI->Option (Src × HI)
 | .int i,(.int j,h)=>if -(2 ^ 62)<=i/\i < 2 ^ 62/\-(2 ^ 62)<=j/\j < 2 ^ 62 then some (.vals ((List.range (j - i).toNat).map fun (k:Nat)=>Dt.int (i + (k:Int))),h) else none
 | _,_=>none
@[simp] theorem zavY:iR2 f g l h=bnd (f l h) fun r=>bnd (g l r.2) (r2K r.1):=by
 unfold bnd
 unfold iR2
 congr 1
 funext r
 obtain ⟨d,h⟩:=r
 congr 1
 funext q
 obtain ⟨d',h'⟩:=q
 cases d <;> cases d' <;> rfl
theorem zasZ {i j:Int} (a:-(2 ^ 62)<=i) (a':i < 2 ^ 62) (b:-(2 ^ 62)<=j) (b':j < 2 ^ 62):r2K (.int i) (.int j,h)=some (.vals ((List.range (j - i).toNat).map fun (k:Nat)=>Dt.int (i + (k:Int))),h):=if_pos ⟨a,a',b,b'⟩
noncomputable def seqK:Dt × HI->Option (Src × HI)
 | (.lst xs,h)=>some (.vals xs,h)
 | (.ref n,h)=>if 0 < Src.fuel (.rf n) h then some (.rf n,h) else none
 | _=>none
@[simp] theorem zae0 (xs:List Dt):seqK (.lst xs,h)=some (.vals xs,h):=by rfl
@[simp] theorem zacc:iLst f l h=bnd (f l h) seqK:=by
 unfold bnd
 unfold iLst iSeq
 cases f l h with
 | none=>rfl
 | some r=>
  obtain ⟨d,h⟩:=r
  cases d <;> first | rfl | (simp [seqK,Src.fuel]; done)
noncomputable def zadh (bd:RG) (tc:RT) (te:RE):List Dt->LI->HI->Option (List Dt × HI)
 | [],_,h=>some ([],h)
 | x::xs,l,h=>(bd x l).bind fun l1=>(tc l1 h).bind fun b=>if b.1=true then (te l1 b.2).bind fun r=>(zadh bd tc te xs l1 r.2).bind fun q=>some (r.1::q.1,q.2)
  else zadh bd tc te xs l1 b.2
theorem zao6 (bd:RG) (tc:RT) (te:RE) (xs:List Dt) (hx:xs.length < sizeLine):∀ (n k:Nat) (l:LI) (h:HI) (ys:List Dt),n=(xs.length - k) + 1->k<=xs.length->ys.length<=k->
 zac9 bd tc te (.vals xs) n k l h ys=(zadh bd tc te (xs.drop k) l h).bind fun q=>some (ys++q.1,q.2):=by
 intro n
 induction n with
 | zero=>intro k l h ys e; omega
 | succ n ih=>
  intro k l h ys e hk hy
  unfold zac9
  simp only [Src.at]
  by_cases hl:k < xs.length
  · rw [List.getElem?_eq_getElem hl,List.drop_eq_getElem_cons hl]
    simp only [zadh]
    cases bd xs[k] l with
    | none=>rfl
    | some l1=>
     simp only [Option.bind_some]
     cases tc l1 h with
     | none=>rfl
     | some b=>
      simp only [Option.bind_some]
      by_cases hb:b.1=true
      · simp only [if_pos hb]
        cases te l1 b.2 with
        | none=>rfl
        | some r=>
         simp only [Option.bind_some]
         rw [if_pos (by omega),ih (k + 1) l1 r.2 _ (by omega) (by omega) (by simp; omega)]
         cases zadh bd tc te (xs.drop (k + 1)) l1 r.2 with
         | none=>rfl
         | some q=>simp
      · simp only [if_neg hb]
        exact ih (k + 1) l1 b.2 ys (by omega) (by omega) (by omega)
  · rw [List.getElem?_eq_none (by omega),List.drop_eq_nil_of_le (by omega)]
    simp [zadh]
noncomputable def zadT (bd:RG) (tc:RT) (te:RE) (l:LI):Src × HI->Option (List Dt × HI):=fun r=>zac9 bd tc te r.1 (r.1.fuel r.2) 0 l r.2 []
theorem zacr (bd:RG) (tc:RT) (te:RE) {xs:List Dt} (hx:xs.length < sizeLine):zadT bd tc te l (.vals xs,h)=zadh bd tc te xs l h:=by
 unfold zadT
 simp only [Src.fuel]
 rw [zao6 bd tc te xs hx _ 0 _ _ _ (by omega) (by omega) (by simp)]
 rw [List.drop_zero]
 cases zadh bd tc te xs l h <;> simp
@[simp] theorem zae3 (g:RI) (bd:RG) (tc:RT) (te:RE) (cap:List (Option Nat)):zada g bd tc te cap l h=bnd (bnd (g l h) (zadT bd tc te (capI l cap))) fun q=>some (.lst q.1,q.2):=by
 unfold bnd
 unfold zada zadT
 rw [Option.bind_assoc]
@[simp] theorem zaj7 (g:RI) (bd:RG) (tc:RT) (te:RE) (cap:List (Option Nat)):zafb g bd tc te cap l h=bnd (bnd (g l h) (zadT bd tc te (capI l cap))) fun q=>some (.ref q.2.length,q.2++[.lst q.1]):=by
 unfold bnd
 unfold zafb zadT
 rw [Option.bind_assoc]
@[simp] theorem zajr:zabh l h=some (true,h):=by rfl
@[simp] theorem zadK:capI l []=[]:=by rfl
@[simp] theorem zac3 (cap:List (Option Nat)):capI l (none::cap)=none::capI l cap:=by rfl
@[simp] theorem zah6 (j:Nat) (cap:List (Option Nat)):capI l (some j::cap)=(l[j]?).join::capI l cap:=by rfl
theorem zajR {α:Type} {te:RE} {i:Nat} {tc:RT} (D:α->Dt) (p:α->Bool) (F:α->Dt) (h:HI):∀ (xs:List α) (l:LI),(∀ x ∈ xs,tc (l.set i (some (D x))) h=some (p x,h)/\(p x=true->te (l.set i (some (D x))) h=some (F x,h)))->
 zadh (gSet i) tc te (xs.map D) l h=some ((xs.filter p).map F,h)
 | [],_,_=>rfl
 | x::xs,l,H=>by
  have hx:=H x (by simp)
  have ih:=zajR D p F h xs (l.set i (some (D x))) (te:=te) (tc:=tc) (i:=i) (fun y hy=>by
   rw [List.set_set]
   exact H y (by simp [hy]))
  simp only [List.map_cons,zadh,zaeI,Option.bind_some,hx.1]
  by_cases hp:p x=true
  · simp only [hp,if_true,hx.2 hp,Option.bind_some,ih]
    simp [hp]
  · simp only [hp]
    rw [if_neg (by simp),ih]
    simp [hp]
theorem zael {α:Type} {te:RE} {i:Nat} {tc:RT} (D:α->Dt) (F:α->Dt) (h:HI) (xs:List α) (l:LI) (H:∀ x ∈ xs,tc (l.set i (some (D x))) h=some (true,h)/\te (l.set i (some (D x))) h=some (F x,h)) :
 zadh (gSet i) tc te (xs.map D) l h=some (xs.map F,h):=by
 rw [zajR D (fun _=>true) F h xs l fun x hx=>⟨(H x hx).1,fun _=>(H x hx).2⟩,List.filter_eq_self.mpr (by simp)]
@[simp] theorem q_F1 (F:Dt->HI->Option (Dt × HI)):eF1 F f l h=bnd (f l h) fun r=>F r.1 r.2:=by rfl
@[simp] theorem zamS (xs:List Dt):fLen (.lst xs) h=some (.int xs.length,h):=by rfl
@[simp] theorem zaqk (xs:List Dt):fLen (.tup xs) h=some (.int xs.length,h):=by rfl
theorem zaiE {n:Nat} {xs:List Dt} (e:h[n]?=some (.lst xs)):fLen (.ref n) h=some (.int xs.length,h):=by simp only [fLen,seqA,seqL,e,Option.map_some]
@[simp] theorem zard (ns:List Int):zacv (ns.map Dt.int)=some ns:=by
 induction ns with
 | nil=>rfl
 | cons n ns ih=>simp [zacv,ih]
theorem zawi (ns:List Int):fSum (.lst (ns.map Dt.int)) h=some (.int ns.sum,h):=by simp [fSum,seqL]
theorem zawI {ns:List Int} (c:ns ≠ []):fMax (.lst (ns.map Dt.int)) h=some (.int (maxL ns),h):=by simp [fMax,seqL,c]
theorem zawa {ns:List Int} (c:ns ≠ []):fMin (.lst (ns.map Dt.int)) h=some (.int (minL ns),h):=by simp [fMin,seqL,c]
@[simp] theorem zasw (T:String):eIsi T f l h=bnd (f l h) fun r=>(tyN r.2 r.1).map fun t=>(.bl (isT t T),r.2):=by rfl
@[simp] theorem zaxu (b:Int):tyN h (.int b)=some "int" := by rfl
@[simp] theorem zaxx:isT "int" "int" = true:=by decide +kernel
@[simp] theorem zaxs:isT "int" "bool" = false:=by decide +kernel
@[simp] theorem zaxD:pNo l h=some (none,h):=by rfl
noncomputable def atK:Dt × HI->Option (Option Int × HI)
 | (.int i,h)=>some (some i,h)
 | _=>none
@[simp] theorem zaxk (i:Int):atK (.int i,h)=some (some i,h):=by rfl
@[simp] theorem zaxA:pAt f l h=bnd (f l h) atK:=by
 unfold bnd
 unfold pAt
 congr 1
 funext r
 obtain ⟨d,h⟩:=r
 cases d <;> rfl
@[simp] theorem zaxB (lo hi:RO):eSl f lo hi l h=bnd (f l h) fun r=>bnd (lo l r.2) fun o=>bnd (hi l o.2) fun u=>(seqL u.2 r.1).map fun xs=>(.lst (cutD xs o.1 u.1),u.2):=by rfl
@[simp] theorem zawU (xs:List Dt):seqL h (.lst xs)=some xs:=by rfl
theorem zarr {n:Nat} {xs:List Dt} (e:h[n]?=some (.lst xs)):seqL h (.ref n)=some xs:=by simp only [seqL,e]
theorem zarE (xs:List Dt) (k:Nat):cutD xs (some (k:Int)) none=xs.drop k:=by
 unfold cutD HT.sIx
 have e:(if (k:Int) < 0 then ((k:Int) + (xs.length:Int)).toNat else min (k:Int).toNat xs.length)=min k xs.length:=by
  rw [if_neg (by omega),Int.toNat_natCast]
 simp only [e]
 rw [List.take_of_length_le (by rw [List.length_drop]; omega)]
 by_cases hk:k<=xs.length
 · rw [Nat.min_eq_left hk]
 · rw [Nat.min_eq_right (by omega),List.drop_eq_nil_of_le (Nat.le_refl _),List.drop_eq_nil_of_le (by omega)]
theorem zawe {xs ys:List Dt} (c:xs.length + ys.length<=sizeLine):oCat (.lst xs) (.lst ys) h=some (.lst (xs++ys),h):=by simp only [oCat,seqL,Option.bind_some,if_pos c]
@[simp] theorem zaeT:sizeLine=16777216:=by rfl
noncomputable def appK (g:RE) (l:LI):Dt × HI->Option (Dt × HI)
 | (.ref n,h)=>(match h[n]? with
  | some (.lst _)=>(g l h).bind fun q=>match q.2[n]? with
   | some (.lst xs)=>if xs.length < sizeLine then some (.non,q.2.set n (.lst (xs++[q.1]))) else none
   | _=>none
  | _=>none)
 | _=>none
@[simp] theorem zacA:zab5 f g l h=bnd (f l h) (appK g l):=by
 unfold bnd
 unfold zab5
 congr 1
 funext r
 obtain ⟨d,h⟩:=r
 cases d <;> (try rfl)
theorem zadv {n:Nat} {xs ys:List Dt} {d:Dt} {h':HI} (e:h[n]?=some (.lst ys)) (eg:g l h=some (d,h')) (e':h'[n]?=some (.lst xs)) (c:xs.length < sizeLine):appK g l (.ref n,h)=some (.non,h'.set n (.lst (xs++[d]))):=by
 simp only [appK,e,eg,Option.bind_some,e',if_pos c]
end
noncomputable def Pass (I:LI->HI->Prop):Rs->Prop
 | .nx l h=>I l h
 | .ct l h=>I l h
 | _=>False
theorem zalx {α β:Type} {i:Nat} {body:RS} (D:α->Dt) (S:β->LI->HI->Prop) (f:β->α->β) (xs:List α) (H:∀ x ∈ xs,∀ b l h,S b l h->∃ r,body (l.set i (some (D x))) h=some r/\Pass (S (f b x)) r) :
 ∀ b l h,S b l h->∃ l' h',zab1 (gSet i) body (xs.map D) l h=some (.nx l' h')/\S (xs.foldl f b) l' h':=by
 induction xs with
 | nil=>intro b l h i; exact ⟨l,h,rfl,i⟩
 | cons x xs ih=>
  intro b l h i
  obtain ⟨r,e,p⟩:=H x (by simp) b l h i
  cases r with
  | nx l2 h2=>
   obtain ⟨l',h',e',i'⟩:=ih (fun y hy=>H y (by simp [hy])) _ l2 h2 p
   exact ⟨l',h',by simp [zab1,e,e'],i'⟩
  | ct l2 h2=>
   obtain ⟨l',h',e',i'⟩:=ih (fun y hy=>H y (by simp [hy])) _ l2 h2 p
   exact ⟨l',h',by simp [zab1,e,e'],i'⟩
  | bk l2 h2=>exact p.elim
  | rt d h2=>exact p.elim
section
variable {l:LI} {h:HI} {f g:RE}
@[simp] theorem zaxm (bs:List Bool):zafS (bs.map Dt.bl)=some bs:=by
 induction bs with
 | nil=>rfl
 | cons n ns ih=>simp [zafS,ih]
@[simp] theorem zaox (i j:Nat) (a b:Dt):zaec i j (.tup [a,b]) l=some ((l.set i (some a)).set j (some b)):=by rfl
end
theorem zacG {h:HI} {n:Nat} {xs:List Dt} (e:h[n]?=some (.lst xs)):seqK (.ref n,h)=some (.rf n,h):=by
 have:0 < Src.fuel (.rf n) h:=by simp only [Src.fuel,e]; omega
 simp only [seqK,if_pos this]
end SM
namespace SM
open PySem PySem.Spec PyProof.Rows L2
section
variable {l:LI} {h:HI} {f g fe fo fi fa fb:RE}
noncomputable def six3 (l:LI) (v o:Dt):Dt × HI->Option Rs
 | (.int k,h)=>(match o with
  | .ref n=>(match h[n]? with
   | some (.lst xs)=>(ixN xs.length k).bind fun j=>some (.nx l (h.set n (.lst (xs.set j v))))
   | _=>none)
  | _=>none)
 | _=>none
@[simp] theorem zaoc:zagK fe fo fi l h=bnd (fe l h) fun v=>bnd (fo l v.2) fun o=>bnd (fi l o.2) (six3 l v.1 o.1):=by
 unfold bnd zagK
 congr 1
 funext v
 congr 1
 funext o
 congr 1
 funext i
 obtain ⟨d,h⟩:=o
 obtain ⟨k,h⟩:=i
 cases k <;> cases d <;> rfl
theorem zatx {n k:Nat} (hk:k < n):ixN n (k:Int)=some k:=by
 unfold ixN
 rw [if_pos (by omega),if_pos (by omega)]
 simp
theorem zaik {n k:Nat} {xs:List Dt} {v:Dt} (e:h[n]?=some (.lst xs)) (hk:k < xs.length):six3 l v (.ref n) (.int (k:Int),h)=some (.nx l (h.set n (.lst (xs.set k v)))):=by
 simp only [six3,e,zatx hk,Option.bind_some]
noncomputable def repK (a:Dt):Dt × HI->Option (Dt × HI)
 | (.int i,h)=>if -(2 ^ 62)<=i/\i<=1000000 then some (.lst (repD a i),h) else none
 | _=>none
noncomputable def zaoE (a:Dt):Dt × HI->Option (Dt × HI)
 | (.int i,h)=>if -(2 ^ 62)<=i/\i<=1000000 then some (.ref h.length,h++[.lst (repD a i)]) else none
 | _=>none
@[simp] theorem zaxz:eRep fa fb l h=bnd (fa l h) fun a=>bnd (fb l a.2) (repK a.1):=by
 unfold bnd eRep
 congr 1
 funext v
 congr 1
 funext o
 obtain ⟨d,h⟩:=o
 cases d <;> rfl
@[simp] theorem zaxq:zaji fa fb l h=bnd (fa l h) fun a=>bnd (fb l a.2) (zaoE a.1):=by
 unfold bnd zaji
 congr 1
 funext v
 congr 1
 funext o
 obtain ⟨d,h⟩:=o
 cases d <;> rfl
theorem zam2 (a:Dt) {k:Nat} (hk:k<=1000000):repK a (.int (k:Int),h)=some (.lst (List.replicate k a),h):=by
 unfold repK
 simp only
 rw [if_pos ⟨by omega,by omega⟩]
 simp [repD]
theorem zahg (a:Dt) {k:Nat} (hk:k<=1000000):zaoE a (.int (k:Int),h)=some (.ref h.length,h++[.lst (List.replicate k a)]):=by
 unfold zaoE
 simp only
 rw [if_pos ⟨by omega,by omega⟩]
 simp [repD]
theorem zav1 (bs:List Bool):fAny (.lst (bs.map Dt.bl)) h=some (.bl (bs.any id),h):=by simp [fAny,seqL]
@[simp] theorem x_eq (i j:Int):oEqX (.int i) (.int j) h=some (.bl (decide (i=j)),h):=by
 have r:∀ k:Int,resD h 8 (.int k)=some (.int k):=fun _=>by simp [resD]
 simp only [oEqX,r,Option.bind_some,o_eq,Option.map_some]
theorem zasJ {a b:Dt} {xs ys:List Dt} (e1:resD h 8 a=some (.lst xs)) (e2:resD h 8 b=some (.lst ys)) (c:zadX xs ys=true):oNeX a b h=some (.bl (!eqDs xs ys),h):=by
 simp only [oNeX,e1,e2,Option.bind_some,zawG c,Option.map_some]
noncomputable def whK (go:RS) (body:RS) (l:LI):Bool × HI->Option Rs:=fun c=>if c.1=true then (body l c.2).bind (stK go) else some (.nx l c.2)
theorem zanQ (t:RT) (body:RS) (n:Nat):zadD t body (n + 1) l h=bnd (t l h) (whK (zadD t body n) body l):=by
 unfold bnd
 rw [zadD]
 congr 1
noncomputable def extK (fa:RE) (l:LI):Dt × HI->Option (Dt × HI)
 | (.ref n,h)=>(match h[n]? with
  | some (.lst _)=>(fa l h).bind fun q=>match q.1 with
   | .ref m=>(match q.2[n]?,q.2[m]? with
    | some (.lst xs),some (.lst ys)=>if xs.length + ys.length<=sizeLine then some (.non,q.2.set n (.lst (xs++ys))) else none
    | _,_=>none)
   | _=>none
  | _=>none)
 | _=>none
@[simp] theorem zaig:zafI fo fa l h=bnd (fo l h) (extK fa l):=by
 unfold bnd zafI
 congr 1
 funext r
 obtain ⟨d,h⟩:=r
 cases d <;> (try rfl)
theorem zam5 {n m:Nat} {xs ys zs:List Dt} {h':HI} (e:h[n]?=some (.lst zs)) (eg:fa l h=some (.ref m,h')) (e1:h'[n]?=some (.lst xs)) (e2:h'[m]?=some (.lst ys)) (c:xs.length + ys.length<=sizeLine):extK fa l (.ref n,h)=some (.non,h'.set n (.lst (xs++ys))):=by
 simp only [extK,e,eg,Option.bind_some,e1,e2,if_pos c]
@[simp] theorem q_F2 (F:Dt->Dt->Option Dt):eF2 F fa fb l h=bnd (fa l h) fun r=>bnd (fb l r.2) fun q=>(F r.1 q.1).map fun d=>(d,q.2):=by rfl
@[simp] theorem zaxo (i j:Int):zajh (.int i) (.int j)=some (.int (min i j)):=by
 unfold zajh
 simp only
 congr 2
 split <;> omega
end
theorem zarj {bd:RG} {tc:RT} {te:RE} {n:Nat} {xs:List Dt} (p1:∀ l h b h',tc l h=some (b,h')->h[n]?=some (.lst xs)->h'[n]?=some (.lst xs)) (p2:∀ l h b h',te l h=some (b,h')->h[n]?=some (.lst xs)->h'[n]?=some (.lst xs)) :
 ∀ (m k:Nat) (l:LI) (h:HI) (ys:List Dt),h[n]?=some (.lst xs)->zac9 bd tc te (.rf n) m k l h ys=zac9 bd tc te (.vals xs) m k l h ys:=by
 intro m
 induction m with
 | zero=>intros; rfl
 | succ m ih=>
  intro k l h ys e
  unfold zac9
  simp only [Src.at,e]
  cases xs[k]? with
  | none=>rfl
  | some d=>
   simp only
   cases bd d l with
   | none=>rfl
   | some l1=>
    simp only [Option.bind_some]
    cases q:tc l1 h with
    | none=>rfl
    | some b=>
     obtain ⟨b,h1⟩:=b
     have e1:=p1 _ _ _ _ q e
     simp only [Option.bind_some]
     split
     · cases q2:te l1 h1 with
       | none=>rfl
       | some r=>
        obtain ⟨r,h2⟩:=r
        have e2:=p2 _ _ _ _ q2 e1
        simp only [Option.bind_some]
        split
        · exact ih _ _ _ _ e2
        · rfl
     · exact ih _ _ _ _ e1
theorem zaj0 {bd:RG} {tc:RT} {te:RE} {n:Nat} {xs:List Dt} {l:LI} {h:HI} (e:h[n]?=some (.lst xs)) (hx:xs.length < sizeLine) (p1:∀ l h b h',tc l h=some (b,h')->h[n]?=some (.lst xs)->h'[n]?=some (.lst xs)) (p2:∀ l h b h',te l h=some (b,h')->h[n]?=some (.lst xs)->h'[n]?=some (.lst xs)) :
 zadT bd tc te l (.rf n,h)=zadh bd tc te xs l h:=by
 rw [<- zacr bd tc te hx]
 unfold zadT
 have e1:Src.fuel (.rf n) h=xs.length + 1:=by simp only [Src.fuel,e]
 have e2:Src.fuel (.vals xs) h=xs.length + 1:=by simp only [Src.fuel]
 simp only [e1,e2]
 exact zarj p1 p2 _ _ _ _ _ e
theorem zaiY {α:Type} {te:RE} {i:Nat} (D:α->Dt) (O:α->Ob) (h0:HI):∀ (xs:List α) (l:LI) (e:HI),(∀ x ∈ xs,∀ e,te (l.set i (some (D x))) (h0++e)=some (.ref (h0++e).length,h0++e++[O x]))->
 zadh (gSet i) zabh te (xs.map D) l (h0++e)=some ((List.range xs.length).map (fun (k:Nat)=>Dt.ref ((h0++e).length + k)),h0++e++xs.map O)
 | [],_,e,_=>by simp [zadh]
 | x::xs,l,e,H=>by
  have hx:=H x (by simp) e
  have ih:=zaiY D O h0 xs (l.set i (some (D x))) (e++[O x]) (te:=te) (i:=i) (fun y hy e=>by
   rw [List.set_set]
   exact H y (by simp [hy]) e)
  simp only [List.map_cons,zadh,zaeI,Option.bind_some,zajr,hx,if_true]
  rw [<- List.append_assoc] at ih
  rw [ih]
  simp only [Option.bind_some,List.length_cons,List.range_succ_eq_map,List.map_cons,List.map_map,List.append_assoc,List.cons_append,List.nil_append]
  congr 2
  rw [Nat.add_zero]
  congr 1
  refine List.map_congr_left fun k _=>?_
  simp
  omega
theorem zagG {α:Type} {i:Nat} {body:RS} (D:α->Dt) (S:Nat->LI->HI->Prop):∀ (xs:List α) (k0:Nat) (_:∀ (k:Nat) x,xs[k]?=some x->∀ l h,S (k0 + k) l h->∃ r,body (l.set i (some (D x))) h=some r/\Pass (S (k0 + k + 1)) r) (l:LI) (h:HI),S k0 l h->
 ∃ l' h',zab1 (gSet i) body (xs.map D) l h=some (.nx l' h')/\S (k0 + xs.length) l' h'
 | [],k0,_,l,h,s=>⟨l,h,rfl,s⟩
 | x::xs,k0,H,l,h,s=>by
  obtain ⟨r,e,p⟩:=H 0 x rfl l h s
  have H':∀ (k:Nat) y,xs[k]?=some y->∀ l h,S (k0 + 1 + k) l h->∃ r,body (l.set i (some (D y))) h=some r/\Pass (S (k0 + 1 + k + 1)) r:=by
   intro k y hy l h s
   have:=H (k + 1) y (by simpa using hy) l h (by rw [show k0 + (k + 1)=k0 + 1 + k by omega]; exact s)
   rw [show k0 + (k + 1) + 1=k0 + 1 + k + 1 by omega] at this
   exact this
  cases r with
  | nx l2 h2=>
   obtain ⟨l',h',e',i'⟩:=zagG D S xs (k0 + 1) H' l2 h2 p
   exact ⟨l',h',by simp [zab1,e,e'],by rw [List.length_cons,show k0 + (xs.length + 1)=k0 + 1 + xs.length by omega]; exact i'⟩
  | ct l2 h2=>
   obtain ⟨l',h',e',i'⟩:=zagG D S xs (k0 + 1) H' l2 h2 p
   exact ⟨l',h',by simp [zab1,e,e'],by rw [List.length_cons,show k0 + (xs.length + 1)=k0 + 1 + xs.length by omega]; exact i'⟩
  | bk l2 h2=>exact p.elim
  | rt d h2=>exact p.elim
theorem zafh {i:Nat} {body:RS} (D:Nat->Dt) (S:Nat->LI->HI->Prop) (n:Nat) (H:∀ k < n,∀ l h,S k l h->∃ r,body (l.set i (some (D k))) h=some r/\Pass (S (k + 1)) r) (l:LI) (h:HI) (s:S 0 l h) :
 ∃ l' h',zab1 (gSet i) body ((List.range n).map D) l h=some (.nx l' h')/\S n l' h':=by
 obtain ⟨l',h',e,i'⟩:=zagG (i:=i) (body:=body) D S (List.range n) 0 (fun k x hx l h s=>by
  obtain ⟨h1,h2⟩:=List.getElem?_eq_some_iff.mp hx
  simp at h1 h2
  subst h2
  rw [Nat.zero_add] at s ⊢
  exact H k h1 l h s) l h s
 exact ⟨l',h',e,by simpa using i'⟩
theorem zamt {α:Type} {i n:Nat} {body:RS} (D:α->Dt) (S:Nat->LI->HI->Prop) (xs:List α) (hS:∀ k l h,S k l h->h[n]?=some (.lst (xs.map D))) (H:∀ (k:Nat) x,xs[k]?=some x->∀ l h,S k l h->∃ r,body (l.set i (some (D x))) h=some r/\Pass (S (k + 1)) r)
 (l:LI) (h:HI) (h0:S 0 l h):∃ l' h',forK (gSet i) body l (.rf n,h)=some (.nx l' h')/\S xs.length l' h':=by
 have go:∀ (f k:Nat) (l:LI) (h:HI),S k l h->f=xs.length - k + 1->k<=xs.length->∃ l' h',forL (gSet i) body (.rf n) f k l h=some (.nx l' h')/\S xs.length l' h':=by
  intro f
  induction f with
  | zero=>intro k l h _ e; omega
  | succ f ih=>
   intro k l h i0 e hk
   unfold forL
   simp only [Src.at,hS k l h i0,List.getElem?_map]
   by_cases hl:k < xs.length
   · rw [List.getElem?_eq_getElem hl]
     obtain ⟨r,e1,p1⟩:=H k xs[k] (List.getElem?_eq_getElem hl) l h i0
     simp only [Option.map_some,zaeI,Option.bind_some,e1]
     cases r with
     | nx l2 h2=>exact ih (k + 1) l2 h2 p1 (by omega) (by omega)
     | ct l2 h2=>exact ih (k + 1) l2 h2 p1 (by omega) (by omega)
     | bk l2 h2=>exact p1.elim
     | rt d h2=>exact p1.elim
   · rw [List.getElem?_eq_none (by omega)]
     have:k=xs.length:=by omega
     subst this
     exact ⟨l,h,rfl,i0⟩
 have hf:Src.fuel (.rf n) h=xs.length - 0 + 1:=by simp only [Src.fuel,hS 0 l h h0,List.length_map]; omega
 unfold forK
 exact go _ 0 l h h0 hf (Nat.zero_le _)
section
variable {l:LI} {h:HI} {fo fi fe f fa:RE}
noncomputable def popK (fa:RE) (l:LI):Dt × HI->Option (Dt × HI)
 | (.ref n,h)=>(match h[n]? with
  | some (.lst _)=>(fa l h).bind fun q=>match q.1 with
   | .int 0=>(match q.2[n]? with
    | some (.lst (x::xs))=>some (x,q.2.set n (.lst xs))
    | _=>none)
   | _=>none
  | _=>none)
 | _=>none
@[simp] theorem zatv:zakm fo fa l h=bnd (fo l h) (popK fa l):=by
 unfold bnd zakm
 congr 1
 funext r
 obtain ⟨d,h⟩:=r
 cases d <;> (try rfl)
theorem zara {n:Nat} {x:Dt} {xs:List Dt} (e:h[n]?=some (.lst (x::xs))) (ea:fa l h=some (.int 0,h)):popK fa l (.ref n,h)=some (x,h.set n (.lst xs)):=by
 simp only [popK,e,ea,Option.bind_some]
noncomputable def invK:Dt × HI->Option (Dt × HI)
 | (.int b,h)=>some (.int (Builtin.bitNot b),h)
 | _=>none
@[simp] theorem zasg (b:Int):invK (.int b,h)=some (.int (Builtin.bitNot b),h):=by rfl
@[simp] theorem zav4:uInv f l h=bnd (f l h) invK:=by
 unfold bnd uInv
 congr 1
 funext r
 obtain ⟨d,h⟩:=r
 cases d <;> rfl
@[simp] theorem zatm (n:Nat) (t:RT) (body:RS):zakx n t body l h=zadD t body n l h:=by rfl
end
noncomputable def zah7 (I:LI->HI->Prop) (E:Dt->HI->Prop):Rs->Prop
 | .nx l h=>I l h
 | .rt d h=>E d h
 | _=>False
theorem zalV {t:RT} {body:RS} (I:Nat->LI->HI->Prop) (N:LI->HI->Prop) (E:Dt->HI->Prop)
 (H:∀ m l h,I m l h->∃ b h1,t l h=some (b,h1)/\if b=true then ∃ r,body l h1=some r/\zah7 (fun l' h'=>∃ m',m' < m/\I m' l' h') E r else N l h1) :
 ∀ (n m:Nat) (l:LI) (h:HI),I m l h->m < n->∃ r,zadD t body n l h=some r/\zah7 N E r:=by
 intro n
 induction n with
 | zero=>intro m l h _ hn; omega
 | succ n ih=>
  intro m l h i hn
  obtain ⟨b,h1,e1,q⟩:=H m l h i
  rw [zanQ,e1,zaaf]
  unfold whK
  cases b with
  | false=>
   rw [if_neg Bool.false_ne_true] at q ⊢
   exact ⟨_,rfl,q⟩
  | true=>
   rw [if_pos rfl] at q ⊢
   obtain ⟨r,e2,q⟩:=q
   simp only [e2,Option.bind_some]
   cases r with
   | nx l' h'=>
    obtain ⟨m',hm,i'⟩:=q
    exact ih m' l' h' i' (by omega)
   | rt d h'=>exact ⟨_,rfl,q⟩
   | bk l' h'=>exact q.elim
   | ct l' h'=>exact q.elim
theorem zaqN {α:Type} {i n:Nat} {body:RS} (D:α->Dt) (S:Nat->LI->HI->Prop) (E:Dt->HI->Prop) (xs:List α) (hS:∀ k l h,S k l h->h[n]?=some (.lst (xs.map D))) (H:∀ (k:Nat) x,xs[k]?=some x->∀ l h,S k l h->∃ r,body (l.set i (some (D x))) h=some r/\zah7 (S (k + 1)) E r)
 (l:LI) (h:HI) (h0:S 0 l h):∃ r,forK (gSet i) body l (.rf n,h)=some r/\zah7 (S xs.length) E r:=by
 have go:∀ (f k:Nat) (l:LI) (h:HI),S k l h->f=xs.length - k + 1->k<=xs.length->∃ r,forL (gSet i) body (.rf n) f k l h=some r/\zah7 (S xs.length) E r:=by
  intro f
  induction f with
  | zero=>intro k l h _ e; omega
  | succ f ih=>
   intro k l h i0 e hk
   unfold forL
   simp only [Src.at,hS k l h i0,List.getElem?_map]
   by_cases hl:k < xs.length
   · rw [List.getElem?_eq_getElem hl]
     obtain ⟨r,e1,p1⟩:=H k xs[k] (List.getElem?_eq_getElem hl) l h i0
     simp only [Option.map_some,zaeI,Option.bind_some,e1]
     cases r with
     | nx l2 h2=>exact ih (k + 1) l2 h2 p1 (by omega) (by omega)
     | rt d h2=>exact ⟨_,rfl,p1⟩
     | bk l2 h2=>exact p1.elim
     | ct l2 h2=>exact p1.elim
   · rw [List.getElem?_eq_none (by omega)]
     have:k=xs.length:=by omega
     subst this
     exact ⟨_,rfl,i0⟩
 have hf:Src.fuel (.rf n) h=xs.length - 0 + 1:=by simp only [Src.fuel,hS 0 l h h0,List.length_map]; omega
 unfold forK
 exact go _ 0 l h h0 hf (Nat.zero_le _)
end SM
namespace SM
open PySem PySem.Spec PyProof.Rows L2
section
variable {l:LI} {h:HI} {f g fo fe:RE} {ga:RA}
noncomputable def r3K (c:Nat):Dt->Dt × HI->Option (Src × HI)
 | .int i,(.int j,h)=>if 0<=i/\i < 2 ^ 61/\0<=j/\j < 2 ^ 61/\0 < c/\c < 1000 then some (.vals ((List.range ((j - i + (c:Int) - 1) / (c:Int)).toNat).map fun (k:Nat)=>Dt.int (i + (k:Int) * (c:Int))),h) else none
 | _,_=>none
@[simp] theorem zawy (c:Nat):iR3 f g c l h=bnd (f l h) fun r=>bnd (g l r.2) (r3K c r.1):=by
 unfold bnd
 unfold iR3
 congr 1
 funext r
 obtain ⟨d,h⟩:=r
 congr 1
 funext q
 obtain ⟨d',h'⟩:=q
 cases d <;> cases d' <;> rfl
noncomputable def fldK (x f:Str):Dt × HI->Option (Dt × HI)
 | (.ref n,h)=>(match h[n]? with
  | some (.ins y fs)=>if y=x then (zacb f fs).bind fun d=>some (d,h) else none
  | _=>none)
 | _=>none
@[simp] theorem zakO (x k:Str):eFld x k fo l h=bnd (fo l h) (fldK x k):=by
 unfold bnd eFld
 congr 1
 funext r
 obtain ⟨d,h⟩:=r
 cases d <;> (try rfl)
theorem zah3 {x k:Str} {n:Nat} {fs:List (Str × Dt)} {d:Dt} (e:h[n]?=some (.ins x fs)) (ef:zacb k fs=some d):fldK x k (.ref n,h)=some (d,h):=by
 simp only [fldK,e,if_true,ef,Option.bind_some]
noncomputable def zapt (x f:Str) (v:Dt) (l:LI):Dt × HI->Option Rs
 | (.ref n,h)=>(match h[n]? with
  | some (.ins y fs)=>if y=x/\fs.length < 1000 then some (.nx l (h.set n (.ins y (putD f v fs)))) else none
  | _=>none)
 | _=>none
@[simp] theorem zapF (x k:Str):zaio x k fo fe l h=bnd (fe l h) fun r=>bnd (fo l r.2) (zapt x k r.1 l):=by
 unfold bnd zaio
 congr 1
 funext r
 congr 1
 funext q
 obtain ⟨d,h⟩:=q
 cases d <;> (try rfl)
theorem zaho {x k:Str} {n:Nat} {fs:List (Str × Dt)} {v:Dt} (e:h[n]?=some (.ins x fs)) (hl:fs.length < 1000):zapt x k v l (.ref n,h)=some (.nx l (h.set n (.ins x (putD k v fs)))):=by
 simp only [zapt,e,true_and,if_pos hl]
noncomputable def zasG (n:Nat):Dt × HI->Option (Dt × HI)
 | (.non,h)=>some (.ref n,h)
 | _=>none
@[simp] theorem zap8 (n:Nat):zasG n (.non,h)=some (.ref n,h):=by rfl
@[simp] theorem zauz (x:Str) (F:FnI):zamh x F ga l h=bnd (ga l h) fun r=>bnd (F (.ref r.2.length::r.1) (r.2++[.ins x []])) (zasG r.2.length):=by
 unfold bnd zamh
 congr 1
 funext r
 congr 1
 funext q
 obtain ⟨d,h⟩:=q
 cases d <;> (try rfl)
noncomputable def zaoH (x m:Str) (F:FnI) (ga:RA) (l:LI):Dt × HI->Option (Dt × HI)
 | (.ref n,h)=>(match h[n]? with
  | some (.ins y fs)=>if y=x/\zacb m fs=none then (ga l h).bind fun q=>F (.ref n::q.1) q.2 else none
  | _=>none)
 | _=>none
@[simp] theorem zamz (x m:Str) (F:FnI):zahZ x m F fo ga l h=bnd (fo l h) (zaoH x m F ga l):=by
 unfold bnd zahZ
 congr 1
 funext r
 obtain ⟨d,h⟩:=r
 cases d <;> (try rfl)
theorem zaiZ {x m:Str} {F:FnI} {n:Nat} {fs:List (Str × Dt)} (e:h[n]?=some (.ins x fs)) (hm:zacb m fs=none):zaoH x m F ga l (.ref n,h)=bnd (ga l h) fun q=>F (.ref n::q.1) q.2:=by
 simp only [zaoH,e,true_and,if_pos hm]
 rfl
noncomputable def zapB:Dt × HI->Option (Src × HI)
 | (.lst xs,h)=>some (.vals (zahV 0 xs),h)
 | (.ref n,h)=>(match h[n]? with
  | some (.lst _)=>some (.en n,h)
  | _=>none)
 | _=>none
@[simp] theorem zatk:zamr f l h=bnd (f l h) zapB:=by
 unfold bnd zamr
 congr 1
 funext r
 obtain ⟨d,h⟩:=r
 cases d <;> (try rfl)
theorem zaqr {n:Nat} {xs:List Dt} (e:h[n]?=some (.lst xs)):zapB (.ref n,h)=some (.en n,h):=by simp only [zapB,e]
end
theorem zav3 {α:Type} {i j n:Nat} {body:RS} (D:α->Dt) (S:Nat->LI->HI->Prop) (xs:List α) (hS:∀ k l h,S k l h->h[n]?=some (.lst (xs.map D))) (H:∀ (k:Nat) x,xs[k]?=some x->∀ l h,S k l h->∃ r,body ((l.set i (some (.int (k:Int)))).set j (some (D x))) h=some r/\Pass (S (k + 1)) r)
 (l:LI) (h:HI) (h0:S 0 l h):∃ l' h',forK (zaec i j) body l (.en n,h)=some (.nx l' h')/\S xs.length l' h':=by
 have go:∀ (f k:Nat) (l:LI) (h:HI),S k l h->f=xs.length - k + 1->k<=xs.length->∃ l' h',forL (zaec i j) body (.en n) f k l h=some (.nx l' h')/\S xs.length l' h':=by
  intro f
  induction f with
  | zero=>intro k l h _ e; omega
  | succ f ih=>
   intro k l h i0 e hk
   unfold forL
   simp only [Src.at,hS k l h i0,List.getElem?_map]
   by_cases hl:k < xs.length
   · rw [List.getElem?_eq_getElem hl]
     obtain ⟨r,e1,p1⟩:=H k xs[k] (List.getElem?_eq_getElem hl) l h i0
     simp only [Option.map_some,zaox,Option.bind_some,e1]
     cases r with
     | nx l2 h2=>exact ih (k + 1) l2 h2 p1 (by omega) (by omega)
     | ct l2 h2=>exact ih (k + 1) l2 h2 p1 (by omega) (by omega)
     | bk l2 h2=>exact p1.elim
     | rt d h2=>exact p1.elim
   · rw [List.getElem?_eq_none (by omega)]
     have:k=xs.length:=by omega
     subst this
     exact ⟨l,h,rfl,i0⟩
 have hf:Src.fuel (.en n) h=xs.length - 0 + 1:=by simp only [Src.fuel,hS 0 l h h0,List.length_map]; omega
 unfold forK
 exact go _ 0 l h h0 hf (Nat.zero_le _)
end SM
namespace G
open PySem PySem.Spec PyProof.Rows L2 SM
noncomputable def top (i:Nat):Stmt:=PySem.Challenge.pw_spanways_k18_as_many_splits.main.body.getD i (.Pass ⟨0,0,0,0⟩)
noncomputable abbrev zakt:Dt:=(.int 8191)
noncomputable def zatK:List Dt:=[(.tup [(.int 0),(.int 0)]),(.tup [(.int 0),(.int 1)]),(.tup [(.int 0),(.int 2)]),(.tup [(.int 0),(.int 3)]),(.tup [(.int 0),(.int 4)]),(.tup [(.int 1),(.int 2)]),(.tup [(.int 1),(.int 3)]),(.tup [(.int 1),(.int 4)]),(.tup [(.int 2),(.int 2)]),(.tup [(.int 2),(.int 3)]),(.tup [(.int 2),(.int 4)]),(.tup [(.int 3),(.int 4)]),(.tup [(.int 4),(.int 4)])]
noncomputable abbrev zall:Dt:=.tup zatK
noncomputable def zaiM:List Dt:=[(.tup [(.int 1),(.int 1),(.int 1),(.int 1),(.int 1),(.int 1),(.int 1),(.int 1),(.int 295),(.int 295),(.int 295),(.int 295),(.int 8191)]),(.tup [(.int 1),(.int 1),(.int 1),(.int 1),(.int 1),(.int 2),(.int 2),(.int 2),(.int 292),(.int 292),(.int 292),(.int 584),(.int 7312)]),(.tup [(.int 1),(.int 1),(.int 7),(.int 7),(.int 31),(.int 4),(.int 4),(.int 28),(.int 292),(.int 292),(.int 2044),(.int 1168),(.int 7312)]),(.tup [(.int 1),(.int 2),(.int 4),(.int 8),(.int 16),(.int 4),(.int 8),(.int 16),(.int 292),(.int 584),(.int 1168),(.int 1168),(.int 7312)]),(.tup [(.int 31),(.int 28),(.int 28),(.int 16),(.int 16),(.int 28),(.int 16),(.int 16),(.int 2044),(.int 1168),(.int 1168),(.int 1168),(.int 7312)]),(.tup [(.int 1),(.int 1),(.int 7),(.int 7),(.int 31),(.int 32),(.int 32),(.int 224),(.int 256),(.int 256),(.int 1792),(.int 2048),(.int 4096)]),(.tup [(.int 1),(.int 2),(.int 4),(.int 8),(.int 16),(.int 32),(.int 64),(.int 128),(.int 256),(.int 512),(.int 1024),(.int 2048),(.int 4096)]),(.tup [(.int 31),(.int 28),(.int 28),(.int 16),(.int 16),(.int 224),(.int 128),(.int 128),(.int 1792),(.int 1024),(.int 1024),(.int 2048),(.int 4096)]),(.tup [(.int 1),(.int 1),(.int 295),(.int 295),(.int 8191),(.int 256),(.int 256),(.int 7936),(.int 256),(.int 256),(.int 7936),(.int 4096),(.int 4096)]),(.tup [(.int 1),(.int 2),(.int 292),(.int 584),(.int 7312),(.int 256),(.int 512),(.int 7168),(.int 256),(.int 512),(.int 7168),(.int 4096),(.int 4096)]),(.tup [(.int 31),(.int 28),(.int 2044),(.int 1168),(.int 7312),(.int 1792),(.int 1024),(.int 7168),(.int 1792),(.int 1024),(.int 7168),(.int 4096),(.int 4096)]),(.tup [(.int 31),(.int 224),(.int 1792),(.int 2048),(.int 4096),(.int 1792),(.int 2048),(.int 4096),(.int 1792),(.int 2048),(.int 4096),(.int 4096),(.int 4096)]),(.tup [(.int 8191),(.int 7936),(.int 7936),(.int 4096),(.int 4096),(.int 7936),(.int 4096),(.int 4096),(.int 7936),(.int 4096),(.int 4096),(.int 4096),(.int 4096)])]
noncomputable abbrev zaiR:Dt:=.tup zaiM
noncomputable abbrev zamZ:Dt:=(.int 64)
noncomputable abbrev zak5:Stmt:=top 3
noncomputable def zakR:RS:=sRet (e2 oIx (eC zall) (eV 0))
noncomputable def zajn:FnI:=fnI 1 1 zakR
noncomputable abbrev zai9:Stmt:=top 4
noncomputable def zafU:RE:=eV 0
noncomputable def zafQ:RT:=tB' (e2 oEqD (e2 zajj (e2 oShr (eV 1) (eV 0)) (eC (.int 1))) (eC (.int 1)))
noncomputable def zahj:RS:=sRet (zada (iR1 (eC (.int 13))) (gSet 0) (zafQ) (zafU) [none,some 0])
noncomputable def zacR:FnI:=fnI 1 1 zahj
noncomputable abbrev zaka:Stmt:=top 5
noncomputable def zags:RE:=e2 oShl (eC (.int 1)) (eV 0)
noncomputable def zaif:RS:=sRet (eF1 fSum (zada (iLst (eV 0)) (gSet 0) (zabh) (zags) [none]))
noncomputable def zagH:FnI:=fnI 1 1 zaif
noncomputable abbrev zakc:Stmt:=top 6
noncomputable def zagt:RE:=e2 oSub (eC (.int 12)) (eV 0)
noncomputable def zahX:RS:=sRet (zaav zagH [] (zaac (zada (iLst (zaav zacR [] (zaac (eV 0) (aNil)))) (gSet 0) (zabh) (zagt) [none]) (aNil)))
noncomputable def zag3:FnI:=fnI 1 1 zahX
noncomputable abbrev zafD:Stmt:=top 9
noncomputable def zadV:RS:=sSet 3 (e2 oBor (eV 3) (e2 oIx (e2 oIx (eC zaiR) (eV 4)) (eV 5)))
noncomputable def zac5:RS:=sFor (iLst (eV 2)) (gSet 5) zadV
noncomputable def zaeB:RS:=sSeq (sSet 2 (zaav zacR [] (zaac (eV 1) (aNil)))) (sSeq (sSet 3 (eC (.int 0))) (sSeq (sFor (iLst (zaav zacR [] (zaac (eV 0) (aNil)))) (gSet 4) zac5) (sRet (eV 3))))
noncomputable def zadP:FnI:=fnI 2 6 zaeB
noncomputable abbrev zahP:Stmt:=top 12
noncomputable def zagC:RS:=sRet (e2 zamo (e2 oCat (eRep (eC zakt) (eV 1)) (eLst (zaac (eC zamZ) (aNil)))) (eRep (eC zakt) (e2 oSub (e2 oSub (eV 0) (eV 1)) (eC (.int 1)))))
noncomputable def zafp:FnI:=fnI 2 2 zagC
noncomputable abbrev zane:Stmt:=top 13
noncomputable def zah0:RE:=zaav zafp [] (zaac (eV 1) (zaac (eV 0) (aNil)))
noncomputable def zakh:RS:=sRet (zafb (iR1 (eV 0)) (gSet 0) (zabh) (zah0) [none,some 0])
noncomputable def zaiP:FnI:=fnI 1 1 zakh
noncomputable abbrev zaic:Stmt:=top 14
noncomputable def zafl:RS:=zacN (zab5 (eV 1) (eTup (zaac (eV 2) (zaac (eV 3) (aNil)))))
noncomputable def zafg:RS:=sFor (iR2 (e2 oAdd (eV 2) (eC (.int 1))) (eV 0)) (gSet 3) zafl
noncomputable def zagu:RS:=sSeq (sSet 1 (eNew (aNil))) (sSeq (sFor (iR1 (eV 0)) (gSet 2) zafg) (sRet (eV 1)))
noncomputable def zadk:FnI:=fnI 1 4 zagu
noncomputable abbrev zahS:Stmt:=top 15
noncomputable def zagV:RE:=eF1 zadZ (eV 0)
noncomputable def zagx:RS:=sSeq (sSet 4 (zafb (iLst (eV 0)) (gSet 0) (zabh) (zagV) [none])) (sSeq (zagK (e2 zajj (e2 oIx (e2 oIx (eV 0) (eV 1)) (eV 3)) (eV 2)) (e2 oIx (eV 4) (eV 1)) (eV 3)) (sSeq (zagK (zaav zag3 [] (zaac (e2 oIx (e2 oIx (eV 4) (eV 1)) (eV 3)) (aNil))) (e2 oIx (eV 4) (eV 3)) (eV 1)) (sRet (eV 4))))
noncomputable def zadn:FnI:=fnI 4 5 zagx
noncomputable abbrev zaiz:Stmt:=top 16
noncomputable def zahn:RS:=sSeq (sSet 2 (e2 oIx (e2 oIx (eV 0) (e2 oIx (eV 1) (eC (.int 0)))) (e2 oIx (eV 1) (eC (.int 1))))) (sSeq (sSet 3 (e2 oIx (e2 oIx (eV 0) (e2 oIx (eV 1) (eC (.int 1)))) (e2 oIx (eV 1) (eC (.int 2))))) (sRet (e2 zajj (e2 oIx (e2 oIx (eV 0) (e2 oIx (eV 1) (eC (.int 0)))) (e2 oIx (eV 1) (eC (.int 2)))) (zaav zadP [] (zaac (eV 2) (zaac (eV 3) (aNil)))))))
noncomputable def zae4:FnI:=fnI 2 4 zahn
noncomputable abbrev zai5:Stmt:=top 17
noncomputable def zaha:RS:=sRet (e2 oNeD (zaav zae4 [] (zaac (eV 0) (zaac (eV 1) (aNil)))) (e2 oIx (e2 oIx (eV 0) (e2 oIx (eV 1) (eC (.int 0)))) (e2 oIx (eV 1) (eC (.int 2)))))
noncomputable def zaf3:FnI:=fnI 2 2 zaha
noncomputable abbrev zaiW:Stmt:=top 18
noncomputable def zahm:RS:=sRet (zaav zadn [] (zaac (eV 0) (zaac (e2 oIx (eV 1) (eC (.int 0))) (zaac (zaav zae4 [] (zaac (eV 0) (zaac (eV 1) (aNil)))) (zaac (e2 oIx (eV 1) (eC (.int 2))) (aNil))))))
noncomputable def zaf2:FnI:=fnI 2 2 zahm
noncomputable abbrev zaia:Stmt:=top 19
noncomputable def zagQ:RE:=e2 (oIn false) (eC (.int 0)) (eV 0)
noncomputable def zagw:RS:=sRet (eF1 fAny (zada (iLst (eV 0)) (gSet 0) (zabh) (zagQ) [none]))
noncomputable def zafm:FnI:=fnI 1 1 zagw
noncomputable abbrev zafE:Stmt:=top 20
noncomputable def zadS:RS:=sIf (tB' (e2 (oIn true) (eV 3) (eV 0))) (sSeq (zacN (zab5 (eV 2) (eTup (zaac (e2 oIx (eV 0) (eC (.int 0))) (zaac (e2 oIx (eV 0) (eC (.int 1))) (zaac (eV 3) (aNil))))))) (zacN (zab5 (eV 2) (eTup (zaac (e2 oIx (eV 0) (eC (.int 1))) (zaac (e2 oIx (eV 0) (eC (.int 0))) (zaac (eV 3) (aNil)))))))) (sNil)
noncomputable def zaez:RS:=sSeq (sSet 2 (eNew (aNil))) (sSeq (sFor (iR1 (eV 1)) (gSet 3) zadS) (sRet (eV 2)))
noncomputable def zadM:FnI:=fnI 2 4 zaez
noncomputable abbrev zafy:Stmt:=top 21
noncomputable def zaeS:RE:=eF1 zadZ (eV 0)
noncomputable def zabQ:RS:=sIf (tB' (zaav zaf3 [] (zaac (eV 3) (zaac (eV 6) (aNil))))) (sSeq (sSet 3 (zaav zaf2 [] (zaac (eV 3) (zaac (eV 6) (aNil))))) (sSeq (zacN (zab5 (eV 2) (eV 6))) (sSeq (sIf (tB' (e2 oEqX (e2 oIx (e2 oIx (eV 3) (e2 oIx (eV 6) (eC (.int 0)))) (e2 oIx (eV 6) (eC (.int 2)))) (eC (.int 0)))) (sRet (eTup (zaac (eC .non) (zaac (eV 2) (aNil))))) (sNil)) (zacN (zab5 (eV 4) (eTup (zaac (e2 oIx (eV 6) (eC (.int 0))) (zaac (e2 oIx (eV 6) (eC (.int 2))) (aNil))))))))) (sNil)
noncomputable def zaci:RS:=sSeq (sSet 5 (zakm (eV 4) (eC (.int 0)))) (sFor (iLst (zaav zadM [] (zaac (eV 5) (zaac (eF1 fLen (eV 0)) (aNil))))) (gSet 6) zabQ)
noncomputable def zacl:RT:=tB' (e2 oNeX (eV 4) (eLst (aNil)))
noncomputable def zadN:RS:=sSeq (sSet 2 (eNew (aNil))) (sSeq (sIf (tB' (zaav zafm [] (zaac (eV 0) (aNil)))) (sRet (eTup (zaac (eC .non) (zaac (eV 2) (aNil))))) (sNil)) (sSeq (sSet 3 (zafb (iLst (eV 0)) (gSet 0) (zabh) (zaeS) [none])) (sSeq (sSet 4 (eF1 zadZ (eV 1))) (sSeq (zakx 1000000 zacl zaci) (sRet (eTup (zaac (eV 3) (zaac (eV 2) (aNil)))))))))
noncomputable def zack:FnI:=fnI 2 7 zadN
noncomputable abbrev zaht:Stmt:=top 23
noncomputable def zade:RS:=sIf (tB' (e2 oEqD (e2 oIx (eV 3) (eC (.int 0))) (eC (.str "ways")))) (sSet 2 (zaav zadn [] (zaac (eV 2) (zaac (e2 oIx (eV 3) (eC (.int 1))) (zaac (e2 oIx (eV 3) (eC (.int 2))) (zaac (e2 oIx (eV 3) (eC (.int 3))) (aNil))))))) (sNil)
noncomputable def zafO:RS:=sSeq (sSet 2 (zaav zaiP [] (zaac (eV 0) (aNil)))) (sSeq (sFor (iLst (eV 1)) (gSet 3) zade) (sRet (eV 2)))
noncomputable def zad5:FnI:=fnI 2 4 zafO
noncomputable abbrev zagZ:Stmt:=top 24
noncomputable def zafG:RE:=eTup (zaac (e2 oIx (eV 0) (eC (.int 1))) (zaac (e2 oIx (eV 0) (eC (.int 2))) (zaac (e2 oIx (eV 0) (eC (.int 3))) (aNil))))
noncomputable def zaey:RT:=tB' (e2 oEqD (e2 oIx (eV 0) (eC (.int 0))) (eC (.str "long")))
noncomputable def zaff:RS:=sRet (zada (iLst (eV 0)) (gSet 0) (zaey) (zafG) [none])
noncomputable def zaeq:FnI:=fnI 1 1 zaff
noncomputable abbrev zahu:Stmt:=top 25
noncomputable def zagj:RE:=e2 oIx (eV 0) (eC (.int 1))
noncomputable def zaeK:RT:=tB' (e2 oEqD (e2 oIx (eV 0) (eC (.int 0))) (eC (.str "one")))
noncomputable def zafV:RS:=sRet (zada (iLst (eV 0)) (gSet 0) (zaeK) (zagj) [none])
noncomputable def zad7:FnI:=fnI 1 1 zafV
noncomputable abbrev zagl:Stmt:=top 26
noncomputable def zadr:RS:=sSeq (sSet 5 (vIf (tB' (e2 oEqD (eV 3) (eV 2))) (e2 oIx (eV 4) (eC (.int 2))) (e2 zajj (eC zakt) (uInv (e2 oIx (eV 4) (eC (.int 2))))))) (sSet 0 (zaav zadn [] (zaac (eV 0) (zaac (e2 oIx (eV 4) (eC (.int 1))) (zaac (eV 5) (zaac (e2 oIx (eV 4) (eC (.int 3))) (aNil)))))))
noncomputable def zaeM:RS:=sSeq (sFor (zamr (eV 1)) (zaec 3 4) zadr) (sRet (eV 0))
noncomputable def zadY:FnI:=fnI 3 6 zaeM
noncomputable abbrev zaep:Stmt:=top 27
noncomputable def zab0:RS:=sIf (tB' (e2 oGt (eF1 fLen (zaav zacR [] (zaac (e2 oIx (e2 oIx (eV 0) (e2 oIx (eV 1) (eC (.int 0)))) (e2 oIx (eV 1) (eC (.int 1)))) (aNil)))) (eC (.int 1)))) (sRet (eV 1)) (sNil)
noncomputable def zact:RS:=sSeq (sFor (iLst (zaav zadk [] (zaac (eF1 fLen (eV 0)) (aNil)))) (gSet 1) zab0) (sRet (eC .non))
noncomputable def zabT:FnI:=fnI 1 2 zact
noncomputable abbrev zain:Stmt:=top 28
noncomputable def zaek:RE:=zaav zadY [] (zaac (eV 1) (zaac (eV 2) (zaac (eV 0) (aNil))))
noncomputable def zag2:RE:=eTup (zaac (e2 oIx (eV 0) (eC (.int 1))) (zaac (e2 oIx (eV 0) (eC (.int 3))) (aNil)))
noncomputable def zaes:RE:=zaav zadn [] (zaac (eV 1) (zaac (e2 oIx (eV 2) (eC (.int 0))) (zaac (e2 oShl (eC (.int 1)) (eV 0)) (zaac (e2 oIx (eV 2) (eC (.int 1))) (aNil)))))
noncomputable def zaev:RS:=sSeq (sIf (tB' (e2 oNeX (eV 1) (eLst (aNil)))) (sSeq (sSet 2 (e2 oIx (eV 1) (eC (.int 0)))) (sSeq (sSet 3 (zada (iR1 (eF1 fLen (eV 2))) (gSet 0) (zabh) (zaek) [none,some 0,some 2])) (sRet (eTup (zaac (eC (.str "one")) (zaac (eTup (aNil)) (zaac (eV 3) (zaac (zada (iLst (eV 2)) (gSet 0) (zabh) (zag2) [none]) (aNil))))))))) (sNil)) (sSeq (sSet 4 (zaav zabT [] (zaac (eV 0) (aNil)))) (sSeq (sIf (tB' (e2 oIsN (eV 4) (eC .non))) (sRet (eC .non)) (sNil)) (sSeq (sSet 5 (e2 oIx (e2 oIx (eV 0) (e2 oIx (eV 4) (eC (.int 0)))) (e2 oIx (eV 4) (eC (.int 1))))) (sSeq (sSet 3 (zada (iLst (zaav zacR [] (zaac (eV 5) (aNil)))) (gSet 0) (zabh) (zaes) [none,some 0,some 4])) (sRet (eTup (zaac (eC (.str "split")) (zaac (eV 4) (zaac (eV 3) (zaac (eLst (zaac (eV 4) (aNil))) (aNil)))))))))))
noncomputable def zacK:FnI:=fnI 2 6 zaev
noncomputable abbrev zalj:Stmt:=top 30
noncomputable def zajg:RS:=sRet (e2 oAdd (e2 oMul (eC (.int 2)) (eV 0)) (eC (.int 1)))
noncomputable def zagD:FnI:=fnI 1 1 zajg
noncomputable abbrev zafi:Stmt:=top 31
noncomputable def zaea:RS:=sSeq (sSet 2 (e2 oMul (eC (.int 2)) (e2 oIx (eV 0) (eC (.int 0))))) (sRet (eNew (zaac (eTup (zaac (eV 2) (zaac (e2 oAdd (eV 2) (eC (.int 1))) (zaac (e2 oMul (uNeg (e2 oIx (eV 0) (eC (.int 1)))) (eV 1)) (aNil))))) (zaac (eTup (zaac (e2 oAdd (eV 2) (eC (.int 1))) (zaac (eV 2) (zaac (e2 oMul (e2 oIx (eV 0) (eC (.int 2))) (eV 1)) (aNil))))) (aNil)))))
noncomputable def zacz:FnI:=fnI 2 3 zaea
noncomputable abbrev zafB:Stmt:=top 32
noncomputable def zaew:RS:=sSeq (sSet 4 (eNew (aNil))) (sSeq (sIf (tB' (e2 oLe (eF1 fMax (eV 3)) (eV 2))) (zacN (zab5 (eV 4) (eTup (zaac (eV 0) (zaac (eV 1) (zaac (vIf (tB' (e2 oLt (eF1 fMax (eV 3)) (eV 2))) (uNeg (eC (.int 1))) (eC (.int 0))) (aNil))))))) (sNil)) (sSeq (sIf (tB' (e2 oGe (eF1 fMin (eV 3)) (eV 2))) (zacN (zab5 (eV 4) (eTup (zaac (eV 1) (zaac (eV 0) (zaac (vIf (tB' (e2 oGt (eF1 fMin (eV 3)) (eV 2))) (uNeg (eC (.int 1))) (eC (.int 0))) (aNil))))))) (sNil)) (sRet (eV 4))))
noncomputable def zabU:FnI:=fnI 4 5 zaew
noncomputable abbrev zag5:Stmt:=top 33
noncomputable def zacS:RE:=e2 oIx (zaav zajn [] (zaac (eV 0) (aNil))) (eV 1)
noncomputable def zacT:RS:=sSeq (sSet 5 (zada (iLst (zaav zacR [] (zaac (eV 1) (aNil)))) (gSet 0) (zabh) (zacS) [none,some 4])) (sSeq (zacN (zafI (eV 3) (zaav zabU [] (zaac (e2 oAdd (e2 oMul (eC (.int 2)) (eV 0)) (eV 4)) (zaac (e2 oMul (eC (.int 2)) (eV 2)) (zaac (eC (.int 1)) (zaac (eV 5) (aNil)))))))) (zacN (zafI (eV 3) (zaav zabU [] (zaac (e2 oAdd (e2 oMul (eC (.int 2)) (eV 0)) (eV 4)) (zaac (e2 oAdd (e2 oMul (eC (.int 2)) (eV 2)) (eC (.int 1))) (zaac (eC (.int 3)) (zaac (eV 5) (aNil)))))))))
noncomputable def zafk:RS:=sSeq (sSet 3 (eNew (aNil))) (sSeq (sFor (iR1 (eC (.int 2))) (gSet 4) zacT) (sRet (eV 3)))
noncomputable def zac6:FnI:=fnI 3 6 zafk
noncomputable abbrev zajT:Stmt:=top 34
noncomputable def zafq:RE:=eTup (zaac (e2 oMul (eC (.int 2)) (eV 0)) (zaac (e2 oAdd (e2 oMul (eC (.int 2)) (eV 0)) (eC (.int 1))) (zaac (uNeg (eC (.int 1))) (aNil))))
noncomputable def zafj:RS:=zacN (zafI (eV 2) (zaav zacz [] (zaac (eV 3) (zaac (zaav zagD [] (zaac (eF1 fLen (eV 0)) (aNil))) (aNil)))))
noncomputable def zadq:RS:=zacN (zafI (eV 2) (zaav zac6 [] (zaac (e2 oIx (eV 4) (eC (.int 0))) (zaac (e2 oIx (e2 oIx (eV 0) (e2 oIx (eV 4) (eC (.int 0)))) (e2 oIx (eV 4) (eC (.int 1)))) (zaac (e2 oIx (eV 4) (eC (.int 1))) (aNil))))))
noncomputable def zaie:RS:=sSeq (sSet 2 (zafb (iR1 (eF1 fLen (eV 0))) (gSet 0) (zabh) (zafq) [none])) (sSeq (sFor (iLst (eV 1)) (gSet 3) zafj) (sSeq (sFor (iLst (zaav zadk [] (zaac (eF1 fLen (eV 0)) (aNil)))) (gSet 4) zadq) (sRet (eV 2))))
noncomputable def zagN:FnI:=fnI 2 5 zaie
noncomputable abbrev zafN:Stmt:=top 35
noncomputable def zacm:RS:=sSeq (sSet 3 (eNtp (zaac (e2 oIx (eV 2) (eC (.int 0))) (zaac (e2 oIx (eV 2) (eC (.int 1))) (aNil))))) (zamj (eF2 zajh (zaf5 (eV 1) (eV 3) (e2 oIx (eV 2) (eC (.int 2)))) (e2 oIx (eV 2) (eC (.int 2)))) (eV 1) (eV 3))
noncomputable def zadO:RS:=sSeq (sSet 1 (zaoW)) (sSeq (sFor (iLst (eV 0)) (gSet 2) zacm) (sRet (eV 1)))
noncomputable def zacd:FnI:=fnI 1 4 zadO
noncomputable abbrev zak6:Stmt:=top 36
noncomputable def zadR:RS:=sIf (tB' (e2 oGt (e2 oIx (eV 1) (e2 oIx (eV 4) (eC (.int 0)))) (e2 oAdd (e2 oIx (eV 1) (e2 oIx (eV 4) (eC (.int 1)))) (eV 5)))) (sSeq (zagK (e2 oAdd (e2 oIx (eV 1) (e2 oIx (eV 4) (eC (.int 1)))) (eV 5)) (eV 1) (e2 oIx (eV 4) (eC (.int 0)))) (sSeq (zagK (e2 oIx (eV 4) (eC (.int 1))) (eV 2) (e2 oIx (eV 4) (eC (.int 0)))) (sSet 3 (e2 oIx (eV 4) (eC (.int 0)))))) (sNil)
noncomputable def zajq:RS:=sSeq (sSet 3 (eC .non)) (sSeq (sFor (zag1 (eV 0)) (zaec 4 5) zadR) (sRet (eV 3)))
noncomputable def zafA:FnI:=fnI 3 6 zajq
noncomputable abbrev zagi:Stmt:=top 37
noncomputable def zaef:RS:=sSet 0 (e2 oIx (eV 1) (eV 0))
noncomputable def zaed:RS:=zacN (zab5 (eV 3) (e2 oIx (eV 1) (e2 oIx (eV 3) (uNeg (eC (.int 1))))))
noncomputable def zad9:RT:=tB' (e2 oNeD (e2 oIx (eV 3) (uNeg (eC (.int 1)))) (eV 0))
noncomputable def zaeL:RS:=sSeq (sFor (iR1 (eF1 fLen (eV 1))) (gSet 2) zaef) (sSeq (sSet 3 (eNew (zaac (eV 0) (zaac (e2 oIx (eV 1) (eV 0)) (aNil))))) (sSeq (zakx 100 zad9 zaed) (sRet (eV 3))))
noncomputable def zad2:FnI:=fnI 2 4 zaeL
noncomputable abbrev zali:Stmt:=top 38
noncomputable def zae5:RE:=e2 oSub (eV 0) (eV 1)
noncomputable def zaer:RS:=sSeq (sSet 6 (zaav zafA [] (zaac (eV 2) (zaac (eV 3) (zaac (eV 4) (aNil)))))) (sIf (tB' (e2 oIsN (eV 6) (eC .non))) (sSeq (sSet 7 (zao9 (eV 3) (eC (.int 0)))) (sRet (eTup (zaac (eC (.str "times")) (zaac (zada (iLst (eV 3)) (gSet 0) (zabh) (zae5) [none,some 7]) (aNil)))))) (sNil))
noncomputable def zafL:RS:=sSeq (sSet 2 (zaav zacd [] (zaac (eV 1) (aNil)))) (sSeq (sSet 3 (zaji (eC (.int 0)) (eV 0))) (sSeq (sSet 4 (zaji (eC .non) (eV 0))) (sSeq (sFor (iR1 (e2 oAdd (eV 0) (eC (.int 1)))) (gSet 5) zaer) (sRet (eTup (zaac (eC (.str "ring")) (zaac (zaav zad2 [] (zaac (eV 6) (zaac (eV 4) (aNil)))) (aNil))))))))
noncomputable def zadQ:FnI:=fnI 2 8 zafL
noncomputable abbrev zaeD:Stmt:=zalb (top 40) 0
noncomputable def zady:RS:=sSeq (zaio "Search" "lengths" (eV 0) (eV 1)) (sSeq (zaio "Search" "most" (eV 0) (eV 2)) (zaio "Search" "made" (eV 0) (eC (.int 0))))
noncomputable def zacH:FnI:=fnI 3 3 zady
noncomputable abbrev zafC:Stmt:=top 41
noncomputable def zacW:RE:=eTup (zaac (e2 oIx (eV 1) (eV 0)) (zaac (e2 oIx (eV 1) (e2 oAdd (eV 0) (eC (.int 1)))) (aNil)))
noncomputable def zaeu:RS:=sRet (zada (iR3 (eC (.int 0)) (eF1 fLen (eV 0)) 2) (gSet 0) (zabh) (zacW) [none,some 0])
noncomputable def zadJ:FnI:=fnI 1 1 zaeu
noncomputable abbrev zacP:Stmt:=zalb (top 40) 2
noncomputable def zabc (R:FnI):RS:=sSeq (sSet 6 (zahZ "Search" "look" R (eV 0) (zaac (eV 5) (zaac (e2 oIx (eV 1) (eC (.int 3))) (zaac (eV 3) (aNil)))))) (sSeq (sIf (tB' (e2 oNeD (e2 oIx (eV 6) (eC (.int 0))) (eC (.str "clash")))) (sRet (eV 6)) (sNil)) (zacN (zab5 (eV 4) (e2 oIx (eV 6) (eC (.int 1))))))
noncomputable def zabg (R:FnI):RS:=sSeq (sSet 4 (eNew (aNil))) (sSeq (sFor (iLst (e2 oIx (eV 1) (eC (.int 2)))) (gSet 5) (zabc R)) (sRet (eTup (zaac (eC (.str "clash")) (zaac (e2 zaid (e2 zaid (eTup (zaac (e2 oIx (eV 1) (eC (.int 0))) (zaac (eV 2) (aNil)))) (e2 oIx (eV 1) (eC (.int 1)))) (eTup (zaac (eV 4) (aNil)))) (aNil))))))
noncomputable def zaaT (R:FnI):FnI:=fnI 4 7 (zabg R)
noncomputable abbrev zagh:Stmt:=zalb (top 40) 1
noncomputable def zabC (R:FnI):RS:=sSeq (sSet 4 (zaav zack [] (zaac (eV 1) (zaac (eV 2) (aNil))))) (sSeq (sSet 5 (e2 oIx (eV 4) (eC (.int 0)))) (sSeq (sSet 6 (e2 oIx (eV 4) (eC (.int 1)))) (sSeq (sIf (tB' (e2 oIsN (eV 5) (eC .non))) (sRet (eTup (zaac (eC (.str "clash")) (zaac (eTup (zaac (eC (.str "threes")) (zaac (eV 6) (aNil)))) (aNil))))) (sNil)) (sSeq (sSet 7 (zaav zadQ [] (zaac (e2 oMul (eC (.int 2)) (eF1 fLen (eV 5))) (zaac (zaav zagN [] (zaac (eV 5) (zaac (eFld "Search" "lengths" (eV 0)) (aNil)))) (aNil))))) (sSeq (sIf (tB' (e2 oEqD (e2 oIx (eV 7) (eC (.int 0))) (eC (.str "ring")))) (sRet (eTup (zaac (eC (.str "clash")) (zaac (eTup (zaac (eC (.str "ring")) (zaac (eV 6) (zaac (e2 oIx (eV 7) (eC (.int 1))) (aNil))))) (aNil))))) (sNil)) (sSeq (sSet 8 (zaav zacK [] (zaac (eV 5) (zaac (eV 3) (aNil))))) (sSeq (sIf (tB' (e2 oIsN (eV 8) (eC .non))) (sRet (eTup (zaac (eC (.str "laid")) (zaac (zaav zadJ [] (zaac (e2 oIx (eV 7) (eC (.int 1))) (aNil))) (aNil))))) (sNil)) (sSeq (sIf (tB' (e2 oGe (eFld "Search" "made" (eV 0)) (eFld "Search" "most" (eV 0)))) (sRet (eTup (zaac (eC (.str "open")) (zaac (eC .non) (aNil))))) (sNil)) (sSeq (zaio "Search" "made" (eV 0) (e2 oAdd (eFld "Search" "made" (eV 0)) (eC (.int 1)))) (sRet (zahZ "Search" "look_at_branches" (zaaT R) (eV 0) (zaac (eV 8) (zaac (eV 6) (zaac (eSl (eV 3) (pAt (eC (.int 1))) (pNo)) (aNil)))))))))))))))
noncomputable def zabw (n:Nat):FnI:=Nat.rec (fun _ _=>none) (fun _ R=>fnI 4 9 (zabC R)) n
noncomputable abbrev zafY:Stmt:=top 42
noncomputable def zahk:RS:=sSeq (sSet 3 (zamh "Search" zacH (zaac (zaav zaeq [] (zaac (eV 1) (aNil))) (zaac (eV 2) (aNil))))) (sSeq (sSet 4 (zahZ "Search" "look" (zabw 12) (eV 3) (zaac (zaav zad5 [] (zaac (eV 0) (zaac (eV 1) (aNil)))) (zaac (zaav zadk [] (zaac (eV 0) (aNil))) (zaac (zaav zad7 [] (zaac (eV 1) (aNil))) (aNil)))))) (sRet (eTup (zaac (e2 oIx (eV 4) (eC (.int 0))) (zaac (e2 oIx (eV 4) (eC (.int 1))) (zaac (eFld "Search" "made" (eV 3)) (aNil)))))))
noncomputable def zabx:FnI:=fnI 3 5 zahk
noncomputable abbrev zafJ:Stmt:=top 44
noncomputable def zaet:RS:=sSeq (sIf (tB' (e2 oLt (eV 1) (eF1 fLen (eV 0)))) (sRet (e2 oIx (eV 0) (eV 1))) (sNil)) (sRet (eC (.int 0)))
noncomputable def zacg:FnI:=fnI 2 2 zaet
noncomputable abbrev zagR:Stmt:=top 45
noncomputable def zae7:RS:=sRet (vAnd (eIsi "int" (eV 0)) (vNot (eIsi "bool" (eV 0))))
noncomputable def zaeg:FnI:=fnI 1 1 zae7
noncomputable abbrev zagI:Stmt:=top 46
noncomputable def zafa:RS:=sRet (e2 oMod (e2 oMul (e2 oAdd (e2 oMod (eV 0) (eC (.int 2147483647))) (eC (.int 11))) (eV 1)) (eC (.int 2147483629)))
noncomputable def zacs:FnI:=fnI 2 2 zafa
noncomputable abbrev zafr:Stmt:=top 47
noncomputable def zabZ:RS:=sSeq (sSet 3 (e2 oMod (eV 0) (eV 1))) (sSeq (sSet 4 (e2 oMod (e2 oAdd (e2 oAdd (eV 3) (eC (.int 1))) (e2 oMod (e2 oDiv (eV 0) (eC (.int 8))) (e2 oSub (eV 1) (eC (.int 1))))) (eV 1))) (sSeq (sSet 5 (e2 oDiv (eV 0) (eC (.int 64)))) (sSeq (sSet 6 (e2 oSub (eC (.int 8191)) (e2 oShl (eC (.int 1)) (e2 oMod (eV 5) (eC (.int 13)))))) (sSeq (sIf (tB' (e2 oEqD (eV 2) (eC (.int 1)))) (sSet 6 (e2 oBor (e2 oMod (eV 5) (eC (.int 8192))) (e2 oMod (e2 oDiv (eV 5) (eC (.int 7))) (eC (.int 8192))))) (sNil)) (sSeq (sIf (tB' (e2 oEqD (eV 2) (eC (.int 2)))) (sSet 6 (e2 oBor (e2 oBor (e2 oShl (eC (.int 1)) (e2 oMod (eV 5) (eC (.int 13)))) (e2 oShl (eC (.int 1)) (e2 oMod (e2 oDiv (eV 5) (eC (.int 13))) (eC (.int 13))))) (e2 oShl (eC (.int 1)) (e2 oMod (e2 oDiv (eV 5) (eC (.int 169))) (eC (.int 13)))))) (sNil)) (sSeq (sIf (tB' (e2 oEqD (eV 2) (eC (.int 3)))) (sSet 6 (e2 oMod (eV 5) (eC (.int 8192)))) (sNil)) (sRet (eTup (zaac (eC (.str "ways")) (zaac (eV 3) (zaac (eV 6) (zaac (eV 4) (aNil)))))))))))))
noncomputable def zabq:FnI:=fnI 3 7 zabZ
noncomputable abbrev zafd:Stmt:=top 48
noncomputable def zadB:RS:=zacN (zab5 (eV 6) (zaav zabq [] (zaac (e2 oMod (e2 oMul (eV 4) (e2 oAdd (eC (.int 69621)) (e2 oMul (e2 oMul (eC (.int 2)) (eV 7)) (eV 7)))) (eC (.int 2147483587))) (zaac (eV 1) (zaac (e2 oSub (eC (.int 3)) (e2 oMod (eV 2) (eC (.int 2)))) (aNil))))))
noncomputable def zacx:RS:=sSeq (sSet 4 (zaav zacs [] (zaac (eV 0) (zaac (eC (.int 16807)) (aNil))))) (sSeq (sSet 5 (e2 oMod (e2 oDiv (zaav zacs [] (zaac (eV 0) (zaac (eC (.int 69621)) (aNil)))) (eC (.int 16))) (eC (.int 8)))) (sSeq (sIf (zajf (tB' (e2 oEqD (eV 5) (eC (.int 0)))) (tB' (e2 oGt (eV 3) (eC (.int 0))))) (sSeq (sSet 6 (eNew (aNil))) (sSeq (sFor (iR1 (e2 oAdd (eC (.int 1)) (e2 oMod (eV 4) (eC (.int 3))))) (gSet 7) zadB) (sRet (eTup (zaac (eC (.str "one")) (zaac (eV 6) (aNil))))))) (sNil)) (sSeq (sIf (tB' (e2 oEqD (eV 5) (eC (.int 1)))) (sSeq (sSet 8 (e2 oMod (e2 oDiv (eV 4) (eC (.int 8))) (eC (.int 7)))) (sRet (eTup (zaac (eC (.str "long")) (zaac (e2 oMod (eV 4) (eV 1)) (zaac (eV 8) (zaac (e2 oAdd (eV 8) (e2 oMod (e2 oDiv (eV 4) (eC (.int 56))) (eC (.int 5)))) (aNil)))))))) (sNil)) (sRet (zaav zabq [] (zaac (eV 4) (zaac (eV 1) (zaac (eV 2) (aNil)))))))))
noncomputable def zabJ:FnI:=fnI 4 9 zacx
noncomputable abbrev zaeQ:Stmt:=top 49
noncomputable def zaeh:RE:=eV 0
noncomputable def zadp:RT:=tB' (e2 oEqD (e2 oIx (eV 0) (eC (.int 0))) (eC (.str "one")))
noncomputable def zadi:RS:=sSeq (sSet 6 (e2 oSub (eC (.int 2)) (eF1 fLen (zada (iLst (eV 4)) (gSet 0) (zadp) (zaeh) [none])))) (zacN (zab5 (eV 4) (zaav zabJ [] (zaac (eV 5) (zaac (eV 1) (zaac (eV 2) (zaac (eV 6) (aNil))))))))
noncomputable def zadU:RS:=sSeq (sSet 2 (e2 oMod (e2 oDiv (zaav zacg [] (zaac (eV 0) (zaac (eC (.int 0)) (aNil)))) (eC (.int 3))) (eC (.int 3)))) (sSeq (sSet 3 (e2 oIx (eLst (zaac (eC (.int 66)) (zaac (eC (.int 14)) (zaac (eC (.int 10)) (aNil))))) (eV 2))) (sSeq (sSet 4 (eNew (aNil))) (sSeq (sFor (iLst (eSl (eV 0) (pAt (eC (.int 6))) (pAt (eV 3)))) (gSet 5) zadi) (sRet (eV 4)))))
noncomputable def zac1:FnI:=fnI 2 7 zadU
noncomputable abbrev zahw:Stmt:=top 50
noncomputable def zaeJ:RS:=sSeq (sIf (tOr' (zahl (tB' (eIsi "tuple" (eV 0)))) (tOr' (tB' (e2 oNeD (eF1 fLen (eV 0)) (eC (.int 3)))) (zahl (tB' (zaav zaeg [] (zaac (e2 oIx (eV 0) (eC (.int 2))) (aNil))))))) (sRet (eC (.bl false))) (sNil)) (sSeq (sIf (tB' (e2 oEqD (e2 oIx (eV 0) (eC (.int 0))) (eC (.str "open")))) (sRet (vAnd (e2 oIsN (e2 oIx (eV 0) (eC (.int 1))) (eC .non)) (e2 oEqD (e2 oIx (eV 0) (eC (.int 2))) (eV 1)))) (sNil)) (sRet (vAnd (e2 (oIn false) (e2 oIx (eV 0) (eC (.int 0))) (eTup (zaac (eC (.str "laid")) (zaac (eC (.str "clash")) (aNil))))) (zai2 oLe oLe (eC (.int 0)) (e2 oIx (eV 0) (eC (.int 2))) (eV 1)))))
noncomputable def zacp:FnI:=fnI 2 2 zaeJ
noncomputable abbrev zag6:Stmt:=top 51
noncomputable def zafe:RS:=sRet (vAnd (zaav zacp [] (zaac (eV 0) (zaac (eV 2) (aNil)))) (vAnd (e2 oEqD (e2 oIx (eV 0) (eC (.int 0))) (eV 1)) (e2 oEqD (e2 oIx (eV 0) (eC (.int 2))) (eV 2))))
noncomputable def zabM:FnI:=fnI 3 3 zafe
noncomputable abbrev zaoP:Stmt:=top 52
noncomputable def zaki:RS:=sSeq (sSet 1 (e2 oAdd (eC (.int 2)) (e2 oMod (zaav zacg [] (zaac (eV 0) (zaac (eC (.int 0)) (aNil)))) (eC (.int 3))))) (sSeq (sSet 2 (zaav zac1 [] (zaac (eV 0) (zaac (eV 1) (aNil))))) (sSeq (sSet 3 (e2 oIx (eLst (zaac (eC (.int 6)) (zaac (eC (.int 6)) (zaac (eC (.int 2)) (aNil))))) (e2 oSub (eV 1) (eC (.int 2))))) (sSeq (sSet 4 (zaav zabx [] (zaac (eV 1) (zaac (eV 2) (zaac (eV 3) (aNil)))))) (sSeq (sIf (zahl (tB' (zaav zacp [] (zaac (eV 4) (zaac (eV 3) (aNil)))))) (sRet (eC (.bl false))) (sNil)) (sSeq (sSet 5 (e2 oIx (eV 4) (eC (.int 0)))) (sSeq (sSet 6 (e2 oIx (eV 4) (eC (.int 2)))) (sSeq (sIf (tB' (e2 oEqD (eV 5) (eC (.str "open")))) (sSeq (sSet 7 (e2 oMod (zaav zacg [] (zaac (eV 0) (zaac (eC (.int 1)) (aNil)))) (eV 3))) (sRet (zaav zabM [] (zaac (zaav zabx [] (zaac (eV 1) (zaac (eV 2) (zaac (eV 7) (aNil))))) (zaac (eC (.str "open")) (zaac (eV 7) (aNil))))))) (sNil)) (sSeq (sIf (zajf (tB' (e2 oGt (eV 6) (eC (.int 0)))) (zahl (tB' (zaav zabM [] (zaac (zaav zabx [] (zaac (eV 1) (zaac (eV 2) (zaac (e2 oSub (eV 6) (eC (.int 1))) (aNil))))) (zaac (eC (.str "open")) (zaac (e2 oSub (eV 6) (eC (.int 1))) (aNil)))))))) (sRet (eC (.bl false))) (sNil)) (sSeq (sIf (zahl (tB' (zaav zabM [] (zaac (zaav zabx [] (zaac (eV 1) (zaac (eV 2) (zaac (eV 6) (aNil))))) (zaac (eV 5) (zaac (eV 6) (aNil))))))) (sRet (eC (.bl false))) (sNil)) (sSeq (sSet 8 (zaav zabx [(.int 200)] (zaac (eV 1) (zaac (eV 2) (aNil))))) (sRet (vAnd (zaav zacp [] (zaac (eV 8) (zaac (eC (.int 200)) (aNil)))) (vAnd (e2 oEqD (e2 oIx (eV 8) (eC (.int 0))) (eV 5)) (e2 oEqD (e2 oIx (eV 8) (eC (.int 2))) (eV 6)))))))))))))))
noncomputable def zah8:FnI:=fnI 1 9 zaki
structure Txt (K:PySem.W.Frag) (mg:Str->Option Value):Prop where
 d_zones:zaa2 K mg "zones" zak5 ["way"]
 d_ways_in:zaa2 K mg "ways_in" zai9 ["mask"]
 d_set_of:zaa2 K mg "set_of" zaka ["ways"]
 d_turned:zaa2 K mg "turned" zakc ["mask"]
 d_chained_sets:zaa2 K mg "chained_sets" zafD ["one", "other"]
 d_wide_row:zaa2 K mg "wide_row" zahP ["count", "i"]
 d_wide:zaa2 K mg "wide" zane ["count"]
 d_pairs_of:zaa2 K mg "pairs_of" zaic ["count"]
 d_narrowed:zaa2 K mg "narrowed" zahS ["net", "i", "mask", "j"]
 d_left_by:zaa2 K mg "left_by" zaiz ["net", "three"]
 d_narrows:zaa2 K mg "narrows" zai5 ["net", "three"]
 d_made_of:zaa2 K mg "made_of" zaiW ["net", "three"]
 d_is_empty:zaa2 K mg "is_empty" zaia ["net"]
 d_threes_along:zaa2 K mg "threes_along" zafE ["pair", "count"]
 d_rounded_from:zaa2 K mg "rounded_from" zafy ["net", "pairs"]
 d_first_net:zaa2 K mg "first_net" zaht ["count", "facts"]
 d_lengths_in:zaa2 K mg "lengths_in" zagZ ["facts"]
 d_groups_in:zaa2 K mg "groups_in" zahu ["facts"]
 d_only_member:zaa2 K mg "only_member" zagl ["net", "group", "chosen"]
 d_first_loose_pair:zaa2 K mg "first_loose_pair" zaep ["net"]
 d_split_of:zaa2 K mg "split_of" zain ["net", "groups"]
 d_grain:zaa2 K mg "grain" zalj ["count"]
 d_length_bounds:zaa2 K mg "length_bounds" zafi ["length", "one"]
 d_point_bounds:zaa2 K mg "point_bounds" zafB ["p", "q", "at", "seen"]
 d_set_bounds:zaa2 K mg "set_bounds" zag5 ["i", "mask", "j"]
 d_bounds:zaa2 K mg "bounds" zajT ["net", "lengths"]
 d_least_bounds:zaa2 K mg "least_bounds" zafN ["found"]
 d_moved:zaa2 K mg "moved" zak6 ["least", "times", "causes"]
 d_ring_behind:zaa2 K mg "ring_behind" zagi ["point", "causes"]
 d_timed:zaa2 K mg "timed" zali ["points", "bounds"]
 zanE:zamu K mg "Search" "Search.__init__" zaeD ["self", "lengths", "most"]
 zagf:zaiI K "Search" "look" "Search.look" zagh ["self", "net", "pairs", "groups"]
 zaeb:zaiI K "Search" "look_at_branches" "Search.look_at_branches" zacP ["self", "split", "steps", "groups"]
 d_stretches_at:zaa2 K mg "stretches_at" zafC ["times"]
 zajD:DefD K mg "planned" zafY ["count", "facts", "most"] []
 zajy:DefD K mg "planned" zafY ["count", "facts", "most"] [(.int 200)]
 d__law_cell_at:zaa2 K mg "_law_cell_at" zafJ ["_law_script", "_law_k"]
 d__law_whole:zaa2 K mg "_law_whole" zagR ["_law_found"]
 d__law_mixed:zaa2 K mg "_law_mixed" zagI ["_law_cell", "_law_factor"]
 d__law_any_ways:zaa2 K mg "_law_any_ways" zafr ["_law_number", "_law_count", "_law_style"]
 d__law_any_fact:zaa2 K mg "_law_any_fact" zafd ["_law_cell", "_law_count", "_law_style", "_law_room"]
 d__law_any_facts:zaa2 K mg "_law_any_facts" zaeQ ["_law_script", "_law_count"]
 d__law_told:zaa2 K mg "_law_told" zahw ["_law_found", "_law_most"]
 d__law_alike:zaa2 K mg "_law_alike" zag6 ["_law_found", "_law_word", "_law_splits"]
 zaeY:zahL K "Search" "lengths"
 zagk:zahL K "Search" "most"
 zadc:zahL K "Search" "made"
 z_any:mg "any" = none
 z_bool:mg "bool" = none
 z_enumerate:mg "enumerate" = none
 z_int:mg "int" = none
 z_isinstance:mg "isinstance" = none
 z_len:mg "len" = none
 z_list:mg "list" = none
 z_max:mg "max" = none
 z_min:mg "min" = none
 z_range:mg "range" = none
 z_sum:mg "sum" = none
 z_tuple:mg "tuple" = none
 zami:Con1 K mg "ALL" zakt
 zaoo:Con1 K mg "ZONES" zall
 zalw:Con1 K mg "CHAINED" zaiR
 zapO:Con1 K mg "SAME" zamZ
section
variable {P:Program} {w:World} {K:PySem.W.Frag} {mg:Str->Option Value}
theorem zarM:zaay ["way"] ["way"] (zaai zak5):=⟨rfl,rfl,rfl,by decide +kernel,rfl,by decide +kernel,by decide +kernel⟩
theorem zaqa (T:Txt K mg) (base:Heap):Cal P w K mg base 1 1 "zones" zajn:=
 by unfold zajn; exact zaaW (k:=0) (body:=zakR) T.d_zones zarM rfl rfl fun f cdv A outer s H E hr=>by (unfold zakR; exact zaaj (zaaz (zaak (zahF rfl T.zaoo) (zaaa 0))))
theorem zapw:zaay ["mask"] ["mask"] (zaai zai9):=⟨rfl,rfl,rfl,by decide +kernel,rfl,by decide +kernel,by decide +kernel⟩
theorem zad3 (T:Txt K mg) (base:Heap):Cal P w K mg base 1 1 "ways_in" zacR:=
 by unfold zacR; exact zaaW (k:=0) (body:=zahj) T.d_ways_in zapw rfl rfl fun f cdv A outer s H E hr=>by (unfold zahj zafQ zafU; exact zaaj (zaaz (zad6 (Nc:=["way", "mask"]) rfl (zacQ rfl T.z_range (zaad)) (by decide +kernel) rfl (by decide +kernel) (by rfl) (by exact ⟨⟨rfl,.inl rfl,.inl rfl,rfl⟩,trivial⟩) (fun _ _ _ _=>zaaV 0 (show (["way", "mask"]:List Str).Nodup by decide +kernel)) (fun _ _ _ _=>zakB (zaaY (zabW hr.units) (zaap zajs (zaap zavm (zaaa 1) (zaaa 0)) (zaad)) (zaad))) (fun _ _ _ _=>zaaa 0))))
theorem zapS:zaay ["ways"] ["ways"] (zaai zaka):=⟨rfl,rfl,rfl,by decide +kernel,rfl,by decide +kernel,by decide +kernel⟩
theorem zapy (T:Txt K mg) (base:Heap):Cal P w K mg base 1 1 "set_of" zagH:=
 by unfold zagH; exact zaaW (k:=0) (body:=zaif) T.d_set_of zapS rfl rfl fun f cdv A outer s H E hr=>by (unfold zaif zags; exact zaaj (zaaz (zavn rfl rfl T.z_sum (zad6 (Nc:=["way"]) rfl (zabv (zaaa 0)) (by decide +kernel) rfl (by decide +kernel) (by rfl) (by exact trivial) (fun _ _ _ _=>zaaV 0 (show (["way"]:List Str).Nodup by decide +kernel)) (fun _ _ _ _=>zadL) (fun _ _ _ _=>zaap zahE (zaad) (zaaa 0))))))
theorem zaqo:zaay ["mask"] ["mask"] (zaai zakc):=⟨rfl,rfl,rfl,by decide +kernel,rfl,by decide +kernel,by decide +kernel⟩
theorem zao4 (T:Txt K mg) (base:Heap):Cal P w K mg base 2 1 "turned" zag3:=
 by unfold zag3; exact zaaW (k:=1) (body:=zahX) T.d_turned zaqo rfl rfl fun f cdv A outer s H E hr=>by (unfold zahX zagt; exact zaaj (zaaz (zaau (zapy T base) hr (by decide) rfl (zaab (zad6 (Nc:=["way"]) rfl (zabv (zaau (zad3 T base) hr (by decide) rfl (zaab (zaaa 0) (zaah)))) (by decide +kernel) rfl (by decide +kernel) (by rfl) (by exact trivial) (fun _ _ _ _=>zaaV 0 (show (["way"]:List Str).Nodup by decide +kernel)) (fun _ _ _ _=>zadL) (fun _ _ _ _=>zaap zaeo (zaad) (zaaa 0))) (zaah)))))
theorem sc_chained_sets:zaay ["one", "other", "seconds", "reached", "first", "second"] ["one", "other"] (zaai zafD):=⟨rfl,rfl,rfl,by decide +kernel,rfl,by decide +kernel,by decide +kernel⟩
theorem zajY (T:Txt K mg) (base:Heap):Cal P w K mg base 2 2 "chained_sets" zadP:=
 by unfold zadP; exact zaaW (k:=1) (body:=zaeB) T.d_chained_sets sc_chained_sets rfl rfl fun f cdv A outer s H E hr=>by (unfold zaeB zac5 zadV; exact zaag (zaax 2 sc_chained_sets.nd (zaau (zad3 T base) hr (by decide) rfl (zaab (zaaa 1) (zaah)))) (zaag (zaax 3 sc_chained_sets.nd (zaad)) (zaag (zab3 PassesOwn.never rfl (zabv (zaau (zad3 T base) hr (by decide) rfl (zaab (zaaa 0) (zaah)))) (zaaV 4 sc_chained_sets.nd) (zaaj (zab3 PassesOwn.never rfl (zabv (zaaa 2)) (zaaV 5 sc_chained_sets.nd) (zaaj (zaax 3 sc_chained_sets.nd (zaap zakj (zaaa 3) (zaak (zaak (zahF rfl T.zalw) (zaaa 4)) (zaaa 5)))))))) (zaaj (zaaz (zaaa 3))))))
theorem zanT:zaay ["count", "i"] ["count", "i"] (zaai zahP):=⟨rfl,rfl,rfl,by decide +kernel,rfl,by decide +kernel,by decide +kernel⟩
theorem zamL (T:Txt K mg) (base:Heap):Cal P w K mg base 1 2 "wide_row" zafp:=
 by unfold zafp; exact zaaW (k:=0) (body:=zagC) T.d_wide_row zanT rfl rfl fun f cdv A outer s H E hr=>by (unfold zagC; exact zaaj (zaaz (zaap zato (zaap zave (zap7 (zahF rfl T.zami) (zaaa 1)) (zahB (zaab (zahF rfl T.zapO) (zaah)))) (zap7 (zahF rfl T.zami) (zaap zaeo (zaap zaeo (zaaa 0) (zaaa 1)) (zaad))))))
theorem zatu:zaay ["count"] ["count"] (zaai zane):=⟨rfl,rfl,rfl,by decide +kernel,rfl,by decide +kernel,by decide +kernel⟩
theorem zask (T:Txt K mg) (base:Heap):Cal P w K mg base 2 1 "wide" zaiP:=
 by unfold zaiP; exact zaaW (k:=1) (body:=zakh) T.d_wide zatu rfl rfl fun f cdv A outer s H E hr=>by (unfold zakh zah0; exact zaaj (zaaz (zar7 (Nc:=["i", "count"]) rfl (zacQ rfl T.z_range (zaaa 0)) (by decide +kernel) rfl (by decide +kernel) (by rfl) (by exact ⟨⟨rfl,.inl rfl,.inl rfl,rfl⟩,trivial⟩) (fun _ _ _ _=>zaaV 0 (show (["i", "count"]:List Str).Nodup by decide +kernel)) (fun _ _ _ _=>zadL) (fun _ _ _ _=>zaau (zamL T base) hr (by decide) rfl (zaab (zaaa 1) (zaab (zaaa 0) (zaah)))))))
theorem sc_pairs_of:zaay ["count", "found", "i", "j"] ["count"] (zaai zaic):=⟨rfl,rfl,rfl,by decide +kernel,rfl,by decide +kernel,by decide +kernel⟩
theorem zagS (T:Txt K mg) (base:Heap):Cal P w K mg base 1 1 "pairs_of" zadk:=
 by unfold zadk; exact zaaW (k:=0) (body:=zagu) T.d_pairs_of sc_pairs_of rfl rfl fun f cdv A outer s H E hr=>by (unfold zagu zafg zafl; exact zaag (zaax 1 sc_pairs_of.nd (zaeG (zaah))) (zaag (zab3 PassesOwn.never rfl (zacQ rfl T.z_range (zaaa 0)) (zaaV 2 sc_pairs_of.nd) (zaaj (zab3 PassesOwn.never rfl (zapR rfl T.z_range (zaap zabX (zaaa 2) (zaad)) (zaaa 0)) (zaaV 3 sc_pairs_of.nd) (zaaj (zach (zacw (zaaa 1) (zaa3 (zaab (zaaa 2) (zaab (zaaa 3) (zaah)))))))))) (zaaj (zaaz (zaaa 1)))))
theorem sc_narrowed:zaay ["net", "i", "mask", "j", "made"] ["net", "i", "mask", "j"] (zaai zahS):=⟨rfl,rfl,rfl,by decide +kernel,rfl,by decide +kernel,by decide +kernel⟩
theorem zae8 (T:Txt K mg) (base:Heap):Cal P w K mg base 3 4 "narrowed" zadn:=
 by unfold zadn; exact zaaW (k:=2) (body:=zagx) T.d_narrowed sc_narrowed rfl rfl fun f cdv A outer s H E hr=>by (unfold zagx zagV; exact zaag (zahs (Nc:=["row"]) 4 rfl sc_narrowed.nd (zabv (zaaa 0)) (by decide +kernel) rfl (by decide +kernel) (by rfl) (by exact trivial) (fun _ _ _ _=>zaaV 0 (show (["row"]:List Str).Nodup by decide +kernel)) (fun _ _ _ _=>zadL) (fun _ _ _ _=>zais rfl T.z_list (zaaa 0)) (by rfl)) (zaag (zahR (zaap zajs (zaak (zaak (zaaa 0) (zaaa 1)) (zaaa 3)) (zaaa 2)) (zaak (zaaa 4) (zaaa 1)) (zaaa 3)) (zaag (zahR (zaau (zao4 T base) hr (by decide) rfl (zaab (zaak (zaak (zaaa 4) (zaaa 1)) (zaaa 3)) (zaah))) (zaak (zaaa 4) (zaaa 3)) (zaaa 1)) (zaaj (zaaz (zaaa 4))))))
theorem sc_left_by:zaay ["net", "three", "first", "second"] ["net", "three"] (zaai zaiz):=⟨rfl,rfl,rfl,by decide +kernel,rfl,by decide +kernel,by decide +kernel⟩
theorem zajC (T:Txt K mg) (base:Heap):Cal P w K mg base 3 2 "left_by" zae4:=
 by unfold zae4; exact zaaW (k:=2) (body:=zahn) T.d_left_by sc_left_by rfl rfl fun f cdv A outer s H E hr=>by (unfold zahn; exact zaag (zaax 2 sc_left_by.nd (zaak (zaak (zaaa 0) (zaak (zaaa 1) (zaad))) (zaak (zaaa 1) (zaad)))) (zaag (zaax 3 sc_left_by.nd (zaak (zaak (zaaa 0) (zaak (zaaa 1) (zaad))) (zaak (zaaa 1) (zaad)))) (zaaj (zaaz (zaap zajs (zaak (zaak (zaaa 0) (zaak (zaaa 1) (zaad))) (zaak (zaaa 1) (zaad))) (zaau (zajY T base) hr (by decide) rfl (zaab (zaaa 2) (zaab (zaaa 3) (zaah)))))))))
theorem zapC:zaay ["net", "three"] ["net", "three"] (zaai zai5):=⟨rfl,rfl,rfl,by decide +kernel,rfl,by decide +kernel,by decide +kernel⟩
theorem zanU (T:Txt K mg) (base:Heap):Cal P w K mg base 4 2 "narrows" zaf3:=
 by unfold zaf3; exact zaaW (k:=3) (body:=zaha) T.d_narrows zapC rfl rfl fun f cdv A outer s H E hr=>by (unfold zaha; exact zaaj (zaaz (zae9 (zait hr.units) (zaau (zajC T base) hr (by decide) rfl (zaab (zaaa 0) (zaab (zaaa 1) (zaah)))) (zaak (zaak (zaaa 0) (zaak (zaaa 1) (zaad))) (zaak (zaaa 1) (zaad))))))
theorem zaoQ:zaay ["net", "three"] ["net", "three"] (zaai zaiW):=⟨rfl,rfl,rfl,by decide +kernel,rfl,by decide +kernel,by decide +kernel⟩
theorem zanW (T:Txt K mg) (base:Heap):Cal P w K mg base 4 2 "made_of" zaf2:=
 by unfold zaf2; exact zaaW (k:=3) (body:=zahm) T.d_made_of zaoQ rfl rfl fun f cdv A outer s H E hr=>by (unfold zahm; exact zaaj (zaaz (zaau (zae8 T base) hr (by decide) rfl (zaab (zaaa 0) (zaab (zaak (zaaa 1) (zaad)) (zaab (zaau (zajC T base) hr (by decide) rfl (zaab (zaaa 0) (zaab (zaaa 1) (zaah)))) (zaab (zaak (zaaa 1) (zaad)) (zaah))))))))
theorem zanP:zaay ["net"] ["net"] (zaai zaia):=⟨rfl,rfl,rfl,by decide +kernel,rfl,by decide +kernel,by decide +kernel⟩
theorem zanl (T:Txt K mg) (base:Heap):Cal P w K mg base 1 1 "is_empty" zafm:=
 by unfold zafm; exact zaaW (k:=0) (body:=zagw) T.d_is_empty zanP rfl rfl fun f cdv A outer s H E hr=>by (unfold zagw zagQ; exact zaaj (zaaz (zaug rfl rfl T.z_any (zad6 (Nc:=["row"]) rfl (zabv (zaaa 0)) (by decide +kernel) rfl (by decide +kernel) (by rfl) (by exact trivial) (fun _ _ _ _=>zaaV 0 (show (["row"]:List Str).Nodup by decide +kernel)) (fun _ _ _ _=>zadL) (fun _ _ _ _=>zae9 zasM (zaad) (zaaa 0))))))
theorem sc_threes_along:zaay ["pair", "count", "found", "other"] ["pair", "count"] (zaai zafE):=⟨rfl,rfl,rfl,by decide +kernel,rfl,by decide +kernel,by decide +kernel⟩
theorem zajF (T:Txt K mg) (base:Heap):Cal P w K mg base 1 2 "threes_along" zadM:=
 by unfold zadM; exact zaaW (k:=0) (body:=zaez) T.d_threes_along sc_threes_along rfl rfl fun f cdv A outer s H E hr=>by (unfold zaez zadS; exact zaag (zaax 2 sc_threes_along.nd (zaeG (zaah))) (zaag (zab3 PassesOwn.never rfl (zacQ rfl T.z_range (zaaa 1)) (zaaV 3 sc_threes_along.nd) (zaaj (zaby (zaaY zarT (zaaa 3) (zaaa 0)) (zaag (zach (zacw (zaaa 2) (zaa3 (zaab (zaak (zaaa 0) (zaad)) (zaab (zaak (zaaa 0) (zaad)) (zaab (zaaa 3) (zaah))))))) (zaaj (zach (zacw (zaaa 2) (zaa3 (zaab (zaak (zaaa 0) (zaad)) (zaab (zaak (zaaa 0) (zaad)) (zaab (zaaa 3) (zaah))))))))) (zaa4)))) (zaaj (zaaz (zaaa 2)))))
theorem sc_rounded_from:zaay ["net", "pairs", "steps", "end", "waiting", "pair", "three"] ["net", "pairs"] (zaai zafy):=⟨rfl,rfl,rfl,by decide +kernel,rfl,by decide +kernel,by decide +kernel⟩
theorem zajS (T:Txt K mg) (base:Heap):Cal P w K mg base 5 2 "rounded_from" zack:=
 by unfold zack; exact zaaW (k:=4) (body:=zadN) T.d_rounded_from sc_rounded_from rfl rfl fun f cdv A outer s H E hr=>by (unfold zadN zacl zaci zabQ zaeS; exact zaag (zaax 2 sc_rounded_from.nd (zaeG (zaah))) (zaag (zaby (zagU (zaau (zanl T base) hr (by decide) rfl (zaab (zaaa 0) (zaah)))) (zaaj (zaaz (zaa3 (zaab (zad0) (zaab (zaaa 2) (zaah)))))) (zaa4)) (zaag (zahs (Nc:=["row"]) 3 rfl sc_rounded_from.nd (zabv (zaaa 0)) (by decide +kernel) rfl (by decide +kernel) (by rfl) (by exact trivial) (fun _ _ _ _=>zaaV 0 (show (["row"]:List Str).Nodup by decide +kernel)) (fun _ _ _ _=>zadL) (fun _ _ _ _=>zais rfl T.z_list (zaaa 0)) (by rfl)) (zaag (zaax 4 sc_rounded_from.nd (zais rfl T.z_list (zaaa 1))) (zaag (zanc PassesOwn.never (zaaY (zaqz hr.units) (zaaa 4) (zahB (zaah))) (zaag (zaax 5 sc_rounded_from.nd (zasj (zaaa 4) (zaad))) (zaaj (zab3 PassesOwn.never rfl (zabv (zaau (zajF T base) hr (by decide) rfl (zaab (zaaa 5) (zaab (zadG rfl T.z_len (zaaa 0)) (zaah))))) (zaaV 6 sc_rounded_from.nd) (zaaj (zaby (zagU (zaau (zanU T base) hr (by decide) rfl (zaab (zaaa 3) (zaab (zaaa 6) (zaah))))) (zaag (zaax 3 sc_rounded_from.nd (zaau (zanW T base) hr (by decide) rfl (zaab (zaaa 3) (zaab (zaaa 6) (zaah))))) (zaag (zach (zacw (zaaa 2) (zaaa 6))) (zaag (zaby (zaaY (zavb hr.units) (zaak (zaak (zaaa 3) (zaak (zaaa 6) (zaad))) (zaak (zaaa 6) (zaad))) (zaad)) (zaaj (zaaz (zaa3 (zaab (zad0) (zaab (zaaa 2) (zaah)))))) (zaa4)) (zaaj (zach (zacw (zaaa 4) (zaa3 (zaab (zaak (zaaa 6) (zaad)) (zaab (zaak (zaaa 6) (zaad)) (zaah)))))))))) (zaa4))))))) (zaaj (zaaz (zaa3 (zaab (zaaa 3) (zaab (zaaa 2) (zaah)))))))))))
theorem sc_first_net:zaay ["count", "facts", "net", "fact"] ["count", "facts"] (zaai zaht):=⟨rfl,rfl,rfl,by decide +kernel,rfl,by decide +kernel,by decide +kernel⟩
theorem zamd (T:Txt K mg) (base:Heap):Cal P w K mg base 4 2 "first_net" zad5:=
 by unfold zad5; exact zaaW (k:=3) (body:=zafO) T.d_first_net sc_first_net rfl rfl fun f cdv A outer s H E hr=>by (unfold zafO zade; exact zaag (zaax 2 sc_first_net.nd (zaau (zask T base) hr (by decide) rfl (zaab (zaaa 0) (zaah)))) (zaag (zab3 PassesOwn.never rfl (zabv (zaaa 1)) (zaaV 3 sc_first_net.nd) (zaaj (zaby (zaaY (zabW hr.units) (zaak (zaaa 3) (zaad)) (zabu)) (zaaj (zaax 2 sc_first_net.nd (zaau (zae8 T base) hr (by decide) rfl (zaab (zaaa 2) (zaab (zaak (zaaa 3) (zaad)) (zaab (zaak (zaaa 3) (zaad)) (zaab (zaak (zaaa 3) (zaad)) (zaah)))))))) (zaa4)))) (zaaj (zaaz (zaaa 2)))))
theorem zal9:zaay ["facts"] ["facts"] (zaai zagZ):=⟨rfl,rfl,rfl,by decide +kernel,rfl,by decide +kernel,by decide +kernel⟩
theorem zals (T:Txt K mg) (base:Heap):Cal P w K mg base 1 1 "lengths_in" zaeq:=
 by unfold zaeq; exact zaaW (k:=0) (body:=zaff) T.d_lengths_in zal9 rfl rfl fun f cdv A outer s H E hr=>by (unfold zaff zaey zafG; exact zaaj (zaaz (zad6 (Nc:=["fact"]) rfl (zabv (zaaa 0)) (by decide +kernel) rfl (by decide +kernel) (by rfl) (by exact trivial) (fun _ _ _ _=>zaaV 0 (show (["fact"]:List Str).Nodup by decide +kernel)) (fun _ _ _ _=>zakB (zaaY (zabW hr.units) (zaak (zaaa 0) (zaad)) (zabu))) (fun _ _ _ _=>zaa3 (zaab (zaak (zaaa 0) (zaad)) (zaab (zaak (zaaa 0) (zaad)) (zaab (zaak (zaaa 0) (zaad)) (zaah))))))))
theorem zanu:zaay ["facts"] ["facts"] (zaai zahu):=⟨rfl,rfl,rfl,by decide +kernel,rfl,by decide +kernel,by decide +kernel⟩
theorem zal8 (T:Txt K mg) (base:Heap):Cal P w K mg base 1 1 "groups_in" zad7:=
 by unfold zad7; exact zaaW (k:=0) (body:=zafV) T.d_groups_in zanu rfl rfl fun f cdv A outer s H E hr=>by (unfold zafV zaeK zagj; exact zaaj (zaaz (zad6 (Nc:=["fact"]) rfl (zabv (zaaa 0)) (by decide +kernel) rfl (by decide +kernel) (by rfl) (by exact trivial) (fun _ _ _ _=>zaaV 0 (show (["fact"]:List Str).Nodup by decide +kernel)) (fun _ _ _ _=>zakB (zaaY (zabW hr.units) (zaak (zaaa 0) (zaad)) (zabu))) (fun _ _ _ _=>zaak (zaaa 0) (zaad)))))
theorem sc_only_member:zaay ["net", "group", "chosen", "place", "member", "mask"] ["net", "group", "chosen"] (zaai zagl):=⟨rfl,rfl,rfl,by decide +kernel,rfl,by decide +kernel,by decide +kernel⟩
theorem zakv (T:Txt K mg) (base:Heap):Cal P w K mg base 4 3 "only_member" zadY:=
 by unfold zadY; exact zaaW (k:=3) (body:=zaeM) T.d_only_member sc_only_member rfl rfl fun f cdv A outer s H E hr=>by (unfold zaeM zadr; exact zaag (zab3 PassesOwn.never rfl (zatF rfl T.z_enumerate (zaaa 1)) (zaqM 3 4 rfl sc_only_member.nd) (zaag (zaax 5 sc_only_member.nd (zaoO (zaaY (zabW hr.units) (zaaa 3) (zaaa 2)) (zaak (zaaa 4) (zaad)) (zaap zajs (zahF rfl T.zami) (zavB (zaak (zaaa 4) (zaad)))))) (zaaj (zaax 0 sc_only_member.nd (zaau (zae8 T base) hr (by decide) rfl (zaab (zaaa 0) (zaab (zaak (zaaa 4) (zaad)) (zaab (zaaa 5) (zaab (zaak (zaaa 4) (zaad)) (zaah)))))))))) (zaaj (zaaz (zaaa 0))))
theorem sc_first_loose_pair:zaay ["net", "pair"] ["net"] (zaai zaep):=⟨rfl,rfl,rfl,by decide +kernel,rfl,by decide +kernel,by decide +kernel⟩
theorem zahN (T:Txt K mg) (base:Heap):Cal P w K mg base 2 1 "first_loose_pair" zabT:=
 by unfold zabT; exact zaaW (k:=1) (body:=zact) T.d_first_loose_pair sc_first_loose_pair rfl rfl fun f cdv A outer s H E hr=>by (unfold zact zab0; exact zaag (zab3 PassesOwn.never rfl (zabv (zaau (zagS T base) hr (by decide) rfl (zaab (zadG rfl T.z_len (zaaa 0)) (zaah)))) (zaaV 1 sc_first_loose_pair.nd) (zaaj (zaby (zaaY zakK (zadG rfl T.z_len (zaau (zad3 T base) hr (by decide) rfl (zaab (zaak (zaak (zaaa 0) (zaak (zaaa 1) (zaad))) (zaak (zaaa 1) (zaad))) (zaah)))) (zaad)) (zaaj (zaaz (zaaa 1))) (zaa4)))) (zaaj (zaaz (zad0))))
theorem sc_split_of:zaay ["net", "groups", "group", "nets", "pair", "mask"] ["net", "groups"] (zaai zain):=⟨rfl,rfl,rfl,by decide +kernel,rfl,by decide +kernel,by decide +kernel⟩
theorem zanp (T:Txt K mg) (base:Heap):Cal P w K mg base 5 2 "split_of" zacK:=
 by unfold zacK; exact zaaW (k:=4) (body:=zaev) T.d_split_of sc_split_of rfl rfl fun f cdv A outer s H E hr=>by (unfold zaev zaes zag2 zaek; exact zaag (zaby (zaaY (zaqz hr.units) (zaaa 1) (zahB (zaah))) (zaag (zaax 2 sc_split_of.nd (zaak (zaaa 1) (zaad))) (zaag (zaij (Nc:=["chosen", "net", "group"]) 3 rfl sc_split_of.nd (zacQ rfl T.z_range (zadG rfl T.z_len (zaaa 2))) (by decide +kernel) rfl (by decide +kernel) (by rfl) (by exact ⟨⟨rfl,.inl rfl,.inl rfl,rfl⟩,⟨⟨rfl,.inl rfl,.inl rfl,rfl⟩,trivial⟩⟩) (fun _ _ _ _=>zaaV 0 (show (["chosen", "net", "group"]:List Str).Nodup by decide +kernel)) (fun _ _ _ _=>zadL) (fun _ _ _ _=>zaau (zakv T base) hr (by decide) rfl (zaab (zaaa 1) (zaab (zaaa 2) (zaab (zaaa 0) (zaah))))) (by rfl)) (zaaj (zaaz (zaa3 (zaab (zabu) (zaab (zaa3 (zaah)) (zaab (zaaa 3) (zaab (zad6 (Nc:=["member"]) rfl (zabv (zaaa 2)) (by decide +kernel) rfl (by decide +kernel) (by rfl) (by exact trivial) (fun _ _ _ _=>zaaV 0 (show (["member"]:List Str).Nodup by decide +kernel)) (fun _ _ _ _=>zadL) (fun _ _ _ _=>zaa3 (zaab (zaak (zaaa 0) (zaad)) (zaab (zaak (zaaa 0) (zaad)) (zaah))))) (zaah)))))))))) (zaa4)) (zaag (zaax 4 sc_split_of.nd (zaau (zahN T base) hr (by decide) rfl (zaab (zaaa 0) (zaah)))) (zaag (zaby (zaaY zaiA (zaaa 4) (zad0)) (zaaj (zaaz (zad0))) (zaa4)) (zaag (zaax 5 sc_split_of.nd (zaak (zaak (zaaa 0) (zaak (zaaa 4) (zaad))) (zaak (zaaa 4) (zaad)))) (zaag (zaij (Nc:=["way", "net", "pair"]) 3 rfl sc_split_of.nd (zabv (zaau (zad3 T base) hr (by decide) rfl (zaab (zaaa 5) (zaah)))) (by decide +kernel) rfl (by decide +kernel) (by rfl) (by exact ⟨⟨rfl,.inl rfl,.inl rfl,rfl⟩,⟨⟨rfl,.inl rfl,.inl rfl,rfl⟩,trivial⟩⟩) (fun _ _ _ _=>zaaV 0 (show (["way", "net", "pair"]:List Str).Nodup by decide +kernel)) (fun _ _ _ _=>zadL) (fun _ _ _ _=>zaau (zae8 T base) hr (by decide) rfl (zaab (zaaa 1) (zaab (zaak (zaaa 2) (zaad)) (zaab (zaap zahE (zaad) (zaaa 0)) (zaab (zaak (zaaa 2) (zaad)) (zaah)))))) (by rfl)) (zaaj (zaaz (zaa3 (zaab (zabu) (zaab (zaaa 4) (zaab (zaaa 3) (zaab (zahB (zaab (zaaa 4) (zaah))) (zaah)))))))))))))
theorem zarI:zaay ["count"] ["count"] (zaai zalj):=⟨rfl,rfl,rfl,by decide +kernel,rfl,by decide +kernel,by decide +kernel⟩
theorem zapY (T:Txt K mg) (base:Heap):Cal P w K mg base 1 1 "grain" zagD:=
 by unfold zagD; exact zaaW (k:=0) (body:=zajg) T.d_grain zarI rfl rfl fun f cdv A outer s H E hr=>by (unfold zajg; exact zaaj (zaaz (zaap zabX (zaap zac0 (zaad) (zaaa 0)) (zaad))))
theorem sc_length_bounds:zaay ["length", "one", "start"] ["length", "one"] (zaai zafi):=⟨rfl,rfl,rfl,by decide +kernel,rfl,by decide +kernel,by decide +kernel⟩
theorem zaju (T:Txt K mg) (base:Heap):Cal P w K mg base 1 2 "length_bounds" zacz:=
 by unfold zacz; exact zaaW (k:=0) (body:=zaea) T.d_length_bounds sc_length_bounds rfl rfl fun f cdv A outer s H E hr=>by (unfold zaea; exact zaag (zaax 2 sc_length_bounds.nd (zaap zac0 (zaad) (zaak (zaaa 0) (zaad)))) (zaaj (zaaz (zaeG (zaab (zaa3 (zaab (zaaa 2) (zaab (zaap zabX (zaaa 2) (zaad)) (zaab (zaap zac0 (zahD (zaak (zaaa 0) (zaad))) (zaaa 1)) (zaah))))) (zaab (zaa3 (zaab (zaap zabX (zaaa 2) (zaad)) (zaab (zaaa 2) (zaab (zaap zac0 (zaak (zaaa 0) (zaad)) (zaaa 1)) (zaah))))) (zaah)))))))
theorem sc_point_bounds:zaay ["p", "q", "at", "seen", "found"] ["p", "q", "at", "seen"] (zaai zafB):=⟨rfl,rfl,rfl,by decide +kernel,rfl,by decide +kernel,by decide +kernel⟩
theorem zagP (T:Txt K mg) (base:Heap):Cal P w K mg base 1 4 "point_bounds" zabU:=
 by unfold zabU; exact zaaW (k:=0) (body:=zaew) T.d_point_bounds sc_point_bounds rfl rfl fun f cdv A outer s H E hr=>by (unfold zaew; exact zaag (zaax 4 sc_point_bounds.nd (zaeG (zaah))) (zaag (zaby (zaaY zao2 (zaqu rfl rfl T.z_max (zaaa 3)) (zaaa 2)) (zaaj (zach (zacw (zaaa 4) (zaa3 (zaab (zaaa 0) (zaab (zaaa 1) (zaab (zaoO (zaaY zasz (zaqu rfl rfl T.z_max (zaaa 3)) (zaaa 2)) (zahD (zaad)) (zaad)) (zaah)))))))) (zaa4)) (zaag (zaby (zaaY zasq (zaqe rfl rfl T.z_min (zaaa 3)) (zaaa 2)) (zaaj (zach (zacw (zaaa 4) (zaa3 (zaab (zaaa 1) (zaab (zaaa 0) (zaab (zaoO (zaaY zakK (zaqe rfl rfl T.z_min (zaaa 3)) (zaaa 2)) (zahD (zaad)) (zaad)) (zaah)))))))) (zaa4)) (zaaj (zaaz (zaaa 4))))))
theorem sc_set_bounds:zaay ["i", "mask", "j", "found", "side", "seen"] ["i", "mask", "j"] (zaai zag5):=⟨rfl,rfl,rfl,by decide +kernel,rfl,by decide +kernel,by decide +kernel⟩
theorem zala (T:Txt K mg) (base:Heap):Cal P w K mg base 2 3 "set_bounds" zac6:=
 by unfold zac6; exact zaaW (k:=1) (body:=zafk) T.d_set_bounds sc_set_bounds rfl rfl fun f cdv A outer s H E hr=>by (unfold zafk zacT zacS; exact zaag (zaax 3 sc_set_bounds.nd (zaeG (zaah))) (zaag (zab3 PassesOwn.never rfl (zacQ rfl T.z_range (zaad)) (zaaV 4 sc_set_bounds.nd) (zaag (zaij (Nc:=["way", "side"]) 5 rfl sc_set_bounds.nd (zabv (zaau (zad3 T base) hr (by decide) rfl (zaab (zaaa 1) (zaah)))) (by decide +kernel) rfl (by decide +kernel) (by rfl) (by exact ⟨⟨rfl,.inl rfl,.inl rfl,rfl⟩,trivial⟩) (fun _ _ _ _=>zaaV 0 (show (["way", "side"]:List Str).Nodup by decide +kernel)) (fun _ _ _ _=>zadL) (fun _ _ _ _=>zaak (zaau (zaqa T base) hr (by decide) rfl (zaab (zaaa 0) (zaah))) (zaaa 1)) (by rfl)) (zaag (zach (zahp (zaaa 3) (zaau (zagP T base) hr (by decide) rfl (zaab (zaap zabX (zaap zac0 (zaad) (zaaa 0)) (zaaa 4)) (zaab (zaap zac0 (zaad) (zaaa 2)) (zaab (zaad) (zaab (zaaa 5) (zaah)))))))) (zaaj (zach (zahp (zaaa 3) (zaau (zagP T base) hr (by decide) rfl (zaab (zaap zabX (zaap zac0 (zaad) (zaaa 0)) (zaaa 4)) (zaab (zaap zabX (zaap zac0 (zaad) (zaaa 2)) (zaad)) (zaab (zaad) (zaab (zaaa 5) (zaah)))))))))))) (zaaj (zaaz (zaaa 3)))))
theorem sc_bounds:zaay ["net", "lengths", "found", "length", "pair"] ["net", "lengths"] (zaai zajT):=⟨rfl,rfl,rfl,by decide +kernel,rfl,by decide +kernel,by decide +kernel⟩
theorem zapo (T:Txt K mg) (base:Heap):Cal P w K mg base 3 2 "bounds" zagN:=
 by unfold zagN; exact zaaW (k:=2) (body:=zaie) T.d_bounds sc_bounds rfl rfl fun f cdv A outer s H E hr=>by (unfold zaie zadq zafj zafq; exact zaag (zahs (Nc:=["i"]) 2 rfl sc_bounds.nd (zacQ rfl T.z_range (zadG rfl T.z_len (zaaa 0))) (by decide +kernel) rfl (by decide +kernel) (by rfl) (by exact trivial) (fun _ _ _ _=>zaaV 0 (show (["i"]:List Str).Nodup by decide +kernel)) (fun _ _ _ _=>zadL) (fun _ _ _ _=>zaa3 (zaab (zaap zac0 (zaad) (zaaa 0)) (zaab (zaap zabX (zaap zac0 (zaad) (zaaa 0)) (zaad)) (zaab (zahD (zaad)) (zaah))))) (by rfl)) (zaag (zab3 PassesOwn.never rfl (zabv (zaaa 1)) (zaaV 3 sc_bounds.nd) (zaaj (zach (zahp (zaaa 2) (zaau (zaju T base) hr (by decide) rfl (zaab (zaaa 3) (zaab (zaau (zapY T base) hr (by decide) rfl (zaab (zadG rfl T.z_len (zaaa 0)) (zaah))) (zaah)))))))) (zaag (zab3 PassesOwn.never rfl (zabv (zaau (zagS T base) hr (by decide) rfl (zaab (zadG rfl T.z_len (zaaa 0)) (zaah)))) (zaaV 4 sc_bounds.nd) (zaaj (zach (zahp (zaaa 2) (zaau (zala T base) hr (by decide) rfl (zaab (zaak (zaaa 4) (zaad)) (zaab (zaak (zaak (zaaa 0) (zaak (zaaa 4) (zaad))) (zaak (zaaa 4) (zaad))) (zaab (zaak (zaaa 4) (zaad)) (zaah))))))))) (zaaj (zaaz (zaaa 2))))))
theorem sc_least_bounds:zaay ["found", "least", "bound", "pair"] ["found"] (zaai zafN):=⟨rfl,rfl,rfl,by decide +kernel,rfl,by decide +kernel,by decide +kernel⟩
theorem zajH (T:Txt K mg) (base:Heap):Cal P w K mg base 1 1 "least_bounds" zacd:=
 by unfold zacd; exact zaaW (k:=0) (body:=zadO) T.d_least_bounds sc_least_bounds rfl rfl fun f cdv A outer s H E hr=>by (unfold zadO zacm; exact zaag (zaax 1 sc_least_bounds.nd (zatg)) (zaag (zab3 PassesOwn.never rfl (zabv (zaaa 0)) (zaaV 2 sc_least_bounds.nd) (zaag (zaax 3 sc_least_bounds.nd (zavc (zaab (zaak (zaaa 2) (zaad)) (zaab (zaak (zaaa 2) (zaad)) (zaah))))) (zaaj (zas1 hr.units (zaub rfl rfl T.z_min (zart hr.units (zaaa 1) (zaaa 3) (zaak (zaaa 2) (zaad))) (zaak (zaaa 2) (zaad))) (zaaa 1) (zaaa 3))))) (zaaj (zaaz (zaaa 1)))))
theorem sc_moved:zaay ["least", "times", "causes", "last", "pair", "most"] ["least", "times", "causes"] (zaai zak6):=⟨rfl,rfl,rfl,by decide +kernel,rfl,by decide +kernel,by decide +kernel⟩
theorem zapM (T:Txt K mg) (base:Heap):Cal P w K mg base 1 3 "moved" zafA:=
 by unfold zafA; exact zaaW (k:=0) (body:=zajq) T.d_moved sc_moved rfl rfl fun f cdv A outer s H E hr=>by (unfold zajq zadR; exact zaag (zaax 3 sc_moved.nd (zad0)) (zaag (zab3 PassesOwn.never rfl (zarH (zaaa 0)) (zaqM 4 5 rfl sc_moved.nd) (zaaj (zaby (zaaY zakK (zaak (zaaa 1) (zaak (zaaa 4) (zaad))) (zaap zabX (zaak (zaaa 1) (zaak (zaaa 4) (zaad))) (zaaa 5))) (zaag (zahR (zaap zabX (zaak (zaaa 1) (zaak (zaaa 4) (zaad))) (zaaa 5)) (zaaa 1) (zaak (zaaa 4) (zaad))) (zaag (zahR (zaak (zaaa 4) (zaad)) (zaaa 2) (zaak (zaaa 4) (zaad))) (zaaj (zaax 3 sc_moved.nd (zaak (zaaa 4) (zaad)))))) (zaa4)))) (zaaj (zaaz (zaaa 3)))))
theorem sc_ring_behind:zaay ["point", "causes", "step", "ring"] ["point", "causes"] (zaai zagi):=⟨rfl,rfl,rfl,by decide +kernel,rfl,by decide +kernel,by decide +kernel⟩
theorem zake (T:Txt K mg) (base:Heap):Cal P w K mg base 1 2 "ring_behind" zad2:=
 by unfold zad2; exact zaaW (k:=0) (body:=zaeL) T.d_ring_behind sc_ring_behind rfl rfl fun f cdv A outer s H E hr=>by (unfold zaeL zad9 zaed zaef; exact zaag (zab3 PassesOwn.never rfl (zacQ rfl T.z_range (zadG rfl T.z_len (zaaa 1))) (zaaV 2 sc_ring_behind.nd) (zaaj (zaax 0 sc_ring_behind.nd (zaak (zaaa 1) (zaaa 0))))) (zaag (zaax 3 sc_ring_behind.nd (zaeG (zaab (zaaa 0) (zaab (zaak (zaaa 1) (zaaa 0)) (zaah))))) (zaag (zanc PassesOwn.never (zaaY (zait hr.units) (zaak (zaaa 3) (zahD (zaad))) (zaaa 0)) (zaaj (zach (zacw (zaaa 3) (zaak (zaaa 1) (zaak (zaaa 3) (zahD (zaad)))))))) (zaaj (zaaz (zaaa 3))))))
theorem sc_timed:zaay ["points", "bounds", "least", "times", "causes", "turn", "last", "first"] ["points", "bounds"] (zaai zali):=⟨rfl,rfl,rfl,by decide +kernel,rfl,by decide +kernel,by decide +kernel⟩
theorem zapU (T:Txt K mg) (base:Heap):Cal P w K mg base 2 2 "timed" zadQ:=
 by unfold zadQ; exact zaaW (k:=1) (body:=zafL) T.d_timed sc_timed rfl rfl fun f cdv A outer s H E hr=>by (unfold zafL zaer zae5; exact zaag (zaax 2 sc_timed.nd (zaau (zajH T base) hr (by decide) rfl (zaab (zaaa 1) (zaah)))) (zaag (zaax 3 sc_timed.nd (zaob (zaad) (zaaa 0))) (zaag (zaax 4 sc_timed.nd (zaob (zad0) (zaaa 0))) (zaag (zab3 PassesOwn.never rfl (zacQ rfl T.z_range (zaap zabX (zaaa 0) (zaad))) (zaaV 5 sc_timed.nd) (zaag (zaax 6 sc_timed.nd (zaau (zapM T base) hr (by decide) rfl (zaab (zaaa 2) (zaab (zaaa 3) (zaab (zaaa 4) (zaah)))))) (zaaj (zaby (zaaY zaiA (zaaa 6) (zad0)) (zaag (zaax 7 sc_timed.nd (zatI rfl rfl T.z_min (zaaa 3) (zaad))) (zaaj (zaaz (zaa3 (zaab (zabu) (zaab (zad6 (Nc:=["time", "first"]) rfl (zabv (zaaa 3)) (by decide +kernel) rfl (by decide +kernel) (by rfl) (by exact ⟨⟨rfl,.inl rfl,.inl rfl,rfl⟩,trivial⟩) (fun _ _ _ _=>zaaV 0 (show (["time", "first"]:List Str).Nodup by decide +kernel)) (fun _ _ _ _=>zadL) (fun _ _ _ _=>zaap zaeo (zaaa 0) (zaaa 1))) (zaah))))))) (zaa4))))) (zaaj (zaaz (zaa3 (zaab (zabu) (zaab (zaau (zake T base) hr (by decide) rfl (zaab (zaaa 6) (zaab (zaaa 4) (zaah)))) (zaah))))))))))
theorem zaiu:zaay ["self", "lengths", "most"] ["self", "lengths", "most"] (zaai zaeD):=⟨rfl,rfl,rfl,by decide +kernel,rfl,by decide +kernel,by decide +kernel⟩
theorem zanK (T:Txt K mg) (base:Heap):KCal P w K mg base 1 3 "Search" zacH:=
 by unfold zacH; exact zath (k:=0) (body:=zady) T.zanE zaiu rfl rfl fun f cdv A outer s H E hr=>by (unfold zady; exact zaag (zakz T.zaeY (zaaa 0) (zaaa 1)) (zaag (zakz T.zagk (zaaa 0) (zaaa 2)) (zaaj (zakz T.zadc (zaaa 0) (zaad)))))
theorem zakJ:zaay ["times"] ["times"] (zaai zafC):=⟨rfl,rfl,rfl,by decide +kernel,rfl,by decide +kernel,by decide +kernel⟩
theorem zajK (T:Txt K mg) (base:Heap):Cal P w K mg base 1 1 "stretches_at" zadJ:=
 by unfold zadJ; exact zaaW (k:=0) (body:=zaeu) T.d_stretches_at zakJ rfl rfl fun f cdv A outer s H E hr=>by (unfold zaeu zacW; exact zaaj (zaaz (zad6 (Nc:=["start", "times"]) rfl (zap5 (c:=2) rfl T.z_range (zaad) (zadG rfl T.z_len (zaaa 0)) zaad) (by decide +kernel) rfl (by decide +kernel) (by rfl) (by exact ⟨⟨rfl,.inl rfl,.inl rfl,rfl⟩,trivial⟩) (fun _ _ _ _=>zaaV 0 (show (["start", "times"]:List Str).Nodup by decide +kernel)) (fun _ _ _ _=>zadL) (fun _ _ _ _=>zaa3 (zaab (zaak (zaaa 1) (zaaa 0)) (zaab (zaak (zaaa 1) (zaap zabX (zaaa 0) (zaad))) (zaah)))))))
theorem sc_Search_look_at_branches:zaay ["self", "split", "steps", "groups", "branches", "net", "told"] ["self", "split", "steps", "groups"] (zaai zacP):=⟨rfl,rfl,rfl,by decide +kernel,rfl,by decide +kernel,by decide +kernel⟩
theorem zafx (T:Txt K mg) (base:Heap) {R:FnI} {k:Nat} (hk:5<=k) (hR:MCal P w K mg base k 4 "Search" "look" R):MCal P w K mg base (k + 1) 4 "Search" "look_at_branches" (zaaT R):=
 by unfold zaaT; exact zan1 (k:=k) (body:=zabg R) T.zaeb sc_Search_look_at_branches rfl rfl fun f cdv A outer s H E hr=>by (unfold zabg zabc; exact zaag (zaax 4 sc_Search_look_at_branches.nd (zaeG (zaah))) (zaag (zab3 PassesOwn.never rfl (zabv (zaak (zaaa 1) (zaad))) (zaaV 5 sc_Search_look_at_branches.nd) (zaag (zaax 6 sc_Search_look_at_branches.nd (zalq hR hr (by omega) (zaaa 0) (zaab (zaaa 5) (zaab (zaak (zaaa 1) (zaad)) (zaab (zaaa 3) (zaah)))))) (zaag (zaby (zaaY (zait hr.units) (zaak (zaaa 6) (zaad)) (zabu)) (zaaj (zaaz (zaaa 6))) (zaa4)) (zaaj (zach (zacw (zaaa 4) (zaak (zaaa 6) (zaad)))))))) (zaaj (zaaz (zaa3 (zaab (zabu) (zaab (zaap zanZ (zaap zanZ (zaa3 (zaab (zaak (zaaa 1) (zaad)) (zaab (zaaa 2) (zaah)))) (zaak (zaaa 1) (zaad))) (zaa3 (zaab (zaaa 4) (zaah)))) (zaah))))))))
theorem sc_Search_look:zaay ["self", "net", "pairs", "groups", "gone_round", "end", "steps", "laid", "split"] ["self", "net", "pairs", "groups"] (zaai zagh):=⟨rfl,rfl,rfl,by decide +kernel,rfl,by decide +kernel,by decide +kernel⟩
theorem zajw (T:Txt K mg) (base:Heap) {R:FnI} {k:Nat} (hk:5<=k) (hR:MCal P w K mg base k 4 "Search" "look" R):MCal P w K mg base (k + 2) 4 "Search" "look" (fnI 4 9 (zabC R)):=
 zan1 (k:=k + 1) (body:=zabC R) T.zagf sc_Search_look rfl rfl fun f cdv A outer s H E hr=>by (unfold zabC; exact zaag (zaax 4 sc_Search_look.nd (zaau (zajS T base) hr (by omega) rfl (zaab (zaaa 1) (zaab (zaaa 2) (zaah))))) (zaag (zaax 5 sc_Search_look.nd (zaak (zaaa 4) (zaad))) (zaag (zaax 6 sc_Search_look.nd (zaak (zaaa 4) (zaad))) (zaag (zaby (zaaY zaiA (zaaa 5) (zad0)) (zaaj (zaaz (zaa3 (zaab (zabu) (zaab (zaa3 (zaab (zabu) (zaab (zaaa 6) (zaah)))) (zaah)))))) (zaa4)) (zaag (zaax 7 sc_Search_look.nd (zaau (zapU T base) hr (by omega) rfl (zaab (zaap zac0 (zaad) (zadG rfl T.z_len (zaaa 5))) (zaab (zaau (zapo T base) hr (by omega) rfl (zaab (zaaa 5) (zaab (zai3 T.zaeY (zaaa 0)) (zaah)))) (zaah))))) (zaag (zaby (zaaY (zabW hr.units) (zaak (zaaa 7) (zaad)) (zabu)) (zaaj (zaaz (zaa3 (zaab (zabu) (zaab (zaa3 (zaab (zabu) (zaab (zaaa 6) (zaab (zaak (zaaa 7) (zaad)) (zaah))))) (zaah)))))) (zaa4)) (zaag (zaax 8 sc_Search_look.nd (zaau (zanp T base) hr (by omega) rfl (zaab (zaaa 5) (zaab (zaaa 3) (zaah))))) (zaag (zaby (zaaY zaiA (zaaa 8) (zad0)) (zaaj (zaaz (zaa3 (zaab (zabu) (zaab (zaau (zajK T base) hr (by omega) rfl (zaab (zaak (zaaa 7) (zaad)) (zaah))) (zaah)))))) (zaa4)) (zaag (zaby (zaaY zasq (zai3 T.zadc (zaaa 0)) (zai3 T.zagk (zaaa 0))) (zaaj (zaaz (zaa3 (zaab (zabu) (zaab (zad0) (zaah)))))) (zaa4)) (zaag (zakz T.zadc (zaaa 0) (zaap zabX (zai3 T.zadc (zaaa 0)) (zaad))) (zaaj (zaaz (zalq (zafx T base hk hR) hr (by omega) (zaaa 0) (zaab (zaaa 8) (zaab (zaaa 6) (zaab (zank (zaaa 3) (zakS (zaad)) (zasQ)) (zaah)))))))))))))))))
theorem zagW (T:Txt K mg) (base:Heap):∀ n:Nat,MCal P w K mg base (5 + 2 * n) 4 "Search" "look" (zabw n)
 | 0=>zatM T.zagf
 | n + 1=>zajw T base (Nat.le_add_right _ _) (zagW T base n)
theorem sc_planned:zaay ["count", "facts", "most", "search", "told"] ["count", "facts", "most"] (zaai zafY):=⟨rfl,rfl,rfl,by decide +kernel,rfl,by decide +kernel,by decide +kernel⟩
theorem zaiF {dds:List Dt} (D:DefD K mg "planned" zafY ["count", "facts", "most"] dds) (T:Txt K mg) (base:Heap):CalD P w K mg base 30 3 "planned" zabx dds:=
 by unfold zabx; exact zas4 (k:=29) (body:=zahk) D sc_planned rfl rfl fun f cdv A outer s H E hr=>by (unfold zahk; exact zaag (zaax 3 sc_planned.nd (zatw (zanK T base) hr (by decide) rfl (zaab (zaau (zals T base) hr (by decide) rfl (zaab (zaaa 1) (zaah))) (zaab (zaaa 2) (zaah))))) (zaag (zaax 4 sc_planned.nd (zalq (zagW T base 12) hr (by decide) (zaaa 3) (zaab (zaau (zamd T base) hr (by decide) rfl (zaab (zaaa 0) (zaab (zaaa 1) (zaah)))) (zaab (zaau (zagS T base) hr (by decide) rfl (zaab (zaaa 0) (zaah))) (zaab (zaau (zal8 T base) hr (by decide) rfl (zaab (zaaa 1) (zaah))) (zaah)))))) (zaaj (zaaz (zaa3 (zaab (zaak (zaaa 4) (zaad)) (zaab (zaak (zaaa 4) (zaad)) (zaab (zai3 T.zadc (zaaa 3)) (zaah)))))))))
theorem zaex (T:Txt K mg) (base:Heap):CalD P w K mg base 30 3 "planned" zabx []:=zaiF T.zajD T base
theorem zale (T:Txt K mg) (base:Heap):CalD P w K mg base 30 3 "planned" zabx [(.int 200)]:=zaiF T.zajy T base
theorem zakL:zaay ["_law_script", "_law_k"] ["_law_script", "_law_k"] (zaai zafJ):=⟨rfl,rfl,rfl,by decide +kernel,rfl,by decide +kernel,by decide +kernel⟩
theorem zaeR (T:Txt K mg) (base:Heap):Cal P w K mg base 1 2 "_law_cell_at" zacg:=
 by unfold zacg; exact zaaW (k:=0) (body:=zaet) T.d__law_cell_at zakL rfl rfl fun f cdv A outer s H E hr=>by (unfold zaet; exact zaag (zaby (zaaY zasz (zaaa 1) (zadG rfl T.z_len (zaaa 0))) (zaaj (zaaz (zaak (zaaa 0) (zaaa 1)))) (zaa4)) (zaaj (zaaz (zaad))))
theorem zamb:zaay ["_law_found"] ["_law_found"] (zaai zagR):=⟨rfl,rfl,rfl,by decide +kernel,rfl,by decide +kernel,by decide +kernel⟩
theorem zakQ (T:Txt K mg) (base:Heap):Cal P w K mg base 1 1 "_law_whole" zaeg:=
 by unfold zaeg; exact zaaW (k:=0) (body:=zae7) T.d__law_whole zamb rfl rfl fun f cdv A outer s H E hr=>by (unfold zae7; exact zaaj (zaaz (zag7 (zanw rfl T.z_isinstance rfl T.z_int PyProof.Rows.boot_int (by decide) (zaaa 0)) (zaiO (zauE (zanw rfl T.z_isinstance rfl T.z_bool PyProof.Rows.boot_bool (by decide) (zaaa 0)))))))
theorem zal7:zaay ["_law_cell", "_law_factor"] ["_law_cell", "_law_factor"] (zaai zagI):=⟨rfl,rfl,rfl,by decide +kernel,rfl,by decide +kernel,by decide +kernel⟩
theorem zahA (T:Txt K mg) (base:Heap):Cal P w K mg base 1 2 "_law_mixed" zacs:=
 by unfold zacs; exact zaaW (k:=0) (body:=zafa) T.d__law_mixed zal7 rfl rfl fun f cdv A outer s H E hr=>by (unfold zafa; exact zaaj (zaaz (zaap zabG (zaap zac0 (zaap zabX (zaap zabG (zaaa 0) (zaad)) (zaad)) (zaaa 1)) (zaad))))
theorem sc__law_any_ways:zaay ["_law_number", "_law_count", "_law_style", "_law_i", "_law_j", "_law_rest", "_law_mask"] ["_law_number", "_law_count", "_law_style"] (zaai zafr):=⟨rfl,rfl,rfl,by decide +kernel,rfl,by decide +kernel,by decide +kernel⟩
theorem zagp (T:Txt K mg) (base:Heap):Cal P w K mg base 1 3 "_law_any_ways" zabq:=
 by unfold zabq; exact zaaW (k:=0) (body:=zabZ) T.d__law_any_ways sc__law_any_ways rfl rfl fun f cdv A outer s H E hr=>by (unfold zabZ; exact zaag (zaax 3 sc__law_any_ways.nd (zaap zabG (zaaa 0) (zaaa 1))) (zaag (zaax 4 sc__law_any_ways.nd (zaap zabG (zaap zabX (zaap zabX (zaaa 3) (zaad)) (zaap zabG (zaap zaft (zaaa 0) (zaad)) (zaap zaeo (zaaa 1) (zaad)))) (zaaa 1))) (zaag (zaax 5 sc__law_any_ways.nd (zaap zaft (zaaa 0) (zaad))) (zaag (zaax 6 sc__law_any_ways.nd (zaap zaeo (zaad) (zaap zahE (zaad) (zaap zabG (zaaa 5) (zaad))))) (zaag (zaby (zaaY (zabW hr.units) (zaaa 2) (zaad)) (zaaj (zaax 6 sc__law_any_ways.nd (zaap zakj (zaap zabG (zaaa 5) (zaad)) (zaap zabG (zaap zaft (zaaa 5) (zaad)) (zaad))))) (zaa4)) (zaag (zaby (zaaY (zabW hr.units) (zaaa 2) (zaad)) (zaaj (zaax 6 sc__law_any_ways.nd (zaap zakj (zaap zakj (zaap zahE (zaad) (zaap zabG (zaaa 5) (zaad))) (zaap zahE (zaad) (zaap zabG (zaap zaft (zaaa 5) (zaad)) (zaad)))) (zaap zahE (zaad) (zaap zabG (zaap zaft (zaaa 5) (zaad)) (zaad)))))) (zaa4)) (zaag (zaby (zaaY (zabW hr.units) (zaaa 2) (zaad)) (zaaj (zaax 6 sc__law_any_ways.nd (zaap zabG (zaaa 5) (zaad)))) (zaa4)) (zaaj (zaaz (zaa3 (zaab (zabu) (zaab (zaaa 3) (zaab (zaaa 6) (zaab (zaaa 4) (zaah)))))))))))))))
theorem sc__law_any_fact:zaay ["_law_cell", "_law_count", "_law_style", "_law_room", "_law_number", "_law_kind", "_law_found", "_law_k", "_law_low"] ["_law_cell", "_law_count", "_law_style", "_law_room"] (zaai zafd):=⟨rfl,rfl,rfl,by decide +kernel,rfl,by decide +kernel,by decide +kernel⟩
theorem zajt (T:Txt K mg) (base:Heap):Cal P w K mg base 2 4 "_law_any_fact" zabJ:=
 by unfold zabJ; exact zaaW (k:=1) (body:=zacx) T.d__law_any_fact sc__law_any_fact rfl rfl fun f cdv A outer s H E hr=>by (unfold zacx zadB; exact zaag (zaax 4 sc__law_any_fact.nd (zaau (zahA T base) hr (by decide) rfl (zaab (zaaa 0) (zaab (zaad) (zaah))))) (zaag (zaax 5 sc__law_any_fact.nd (zaap zabG (zaap zaft (zaau (zahA T base) hr (by decide) rfl (zaab (zaaa 0) (zaab (zaad) (zaah)))) (zaad)) (zaad))) (zaag (zaby (WM.tm (zaqf (zaaY (zabW hr.units) (zaaa 5) (zaad)) (zaoj (zaaY zakK (zaaa 3) (zaad))))) (zaag (zaax 6 sc__law_any_fact.nd (zaeG (zaah))) (zaag (zab3 PassesOwn.never rfl (zacQ rfl T.z_range (zaap zabX (zaad) (zaap zabG (zaaa 4) (zaad)))) (zaaV 7 sc__law_any_fact.nd) (zaaj (zach (zacw (zaaa 6) (zaau (zagp T base) hr (by decide) rfl (zaab (zaap zabG (zaap zac0 (zaaa 4) (zaap zabX (zaad) (zaap zac0 (zaap zac0 (zaad) (zaaa 7)) (zaaa 7)))) (zaad)) (zaab (zaaa 1) (zaab (zaap zaeo (zaad) (zaap zabG (zaaa 2) (zaad))) (zaah))))))))) (zaaj (zaaz (zaa3 (zaab (zabu) (zaab (zaaa 6) (zaah)))))))) (zaa4)) (zaag (zaby (zaaY (zabW hr.units) (zaaa 5) (zaad)) (zaag (zaax 8 sc__law_any_fact.nd (zaap zabG (zaap zaft (zaaa 4) (zaad)) (zaad))) (zaaj (zaaz (zaa3 (zaab (zabu) (zaab (zaap zabG (zaaa 4) (zaaa 1)) (zaab (zaaa 8) (zaab (zaap zabX (zaaa 8) (zaap zabG (zaap zaft (zaaa 4) (zaad)) (zaad))) (zaah))))))))) (zaa4)) (zaaj (zaaz (zaau (zagp T base) hr (by decide) rfl (zaab (zaaa 4) (zaab (zaaa 1) (zaab (zaaa 2) (zaah)))))))))))
theorem sc__law_any_facts:zaay ["_law_script", "_law_count", "_law_style", "_law_upto", "_law_found", "_law_cell", "_law_room"] ["_law_script", "_law_count"] (zaai zaeQ):=⟨rfl,rfl,rfl,by decide +kernel,rfl,by decide +kernel,by decide +kernel⟩
theorem zaix (T:Txt K mg) (base:Heap):Cal P w K mg base 3 2 "_law_any_facts" zac1:=
 by unfold zac1; exact zaaW (k:=2) (body:=zadU) T.d__law_any_facts sc__law_any_facts rfl rfl fun f cdv A outer s H E hr=>by (unfold zadU zadi zadp zaeh; exact zaag (zaax 2 sc__law_any_facts.nd (zaap zabG (zaap zaft (zaau (zaeR T base) hr (by decide) rfl (zaab (zaaa 0) (zaab (zaad) (zaah)))) (zaad)) (zaad))) (zaag (zaax 3 sc__law_any_facts.nd (zaak (zahB (zaab (zaad) (zaab (zaad) (zaab (zaad) (zaah))))) (zaaa 2))) (zaag (zaax 4 sc__law_any_facts.nd (zaeG (zaah))) (zaag (zab3 PassesOwn.never rfl (zabv (zank (zaaa 0) (zakS (zaad)) (zakS (zaaa 3)))) (zaaV 5 sc__law_any_facts.nd) (zaag (zaax 6 sc__law_any_facts.nd (zaap zaeo (zaad) (zadG rfl T.z_len (zad6 (Nc:=["_law_fact"]) rfl (zabv (zaaa 4)) (by decide +kernel) rfl (by decide +kernel) (by rfl) (by exact trivial) (fun _ _ _ _=>zaaV 0 (show (["_law_fact"]:List Str).Nodup by decide +kernel)) (fun _ _ _ _=>zakB (zaaY (zabW hr.units) (zaak (zaaa 0) (zaad)) (zabu))) (fun _ _ _ _=>zaaa 0))))) (zaaj (zach (zacw (zaaa 4) (zaau (zajt T base) hr (by decide) rfl (zaab (zaaa 5) (zaab (zaaa 1) (zaab (zaaa 2) (zaab (zaaa 6) (zaah))))))))))) (zaaj (zaaz (zaaa 4)))))))
theorem zann:zaay ["_law_found", "_law_most"] ["_law_found", "_law_most"] (zaai zahw):=⟨rfl,rfl,rfl,by decide +kernel,rfl,by decide +kernel,by decide +kernel⟩
theorem zago (T:Txt K mg) (base:Heap):Cal P w K mg base 2 2 "_law_told" zacp:=
 by unfold zacp; exact zaaW (k:=1) (body:=zaeJ) T.d__law_told zann rfl rfl fun f cdv A outer s H E hr=>by (unfold zaeJ; exact zaag (zaby (WM.tm (zasD (zajc (zagU (zanw rfl T.z_isinstance rfl T.z_tuple PyProof.Rows.boot_tuple (by decide) (zaaa 0)))) (zasD (zaaY (zait hr.units) (zadG rfl T.z_len (zaaa 0)) (zaad)) (zauo (zajc (zagU (zaau (zakQ T base) hr (by decide) rfl (zaab (zaak (zaaa 0) (zaad)) (zaah))))))))) (zaaj (zaaz (zamp))) (zaa4)) (zaag (zaby (zaaY (zabW hr.units) (zaak (zaaa 0) (zaad)) (zabu)) (zaaj (zaaz (zag7 (zae9 zaiA (zaak (zaaa 0) (zaad)) (zad0)) (zaiO (zae9 (zabW hr.units) (zaak (zaaa 0) (zaad)) (zaaa 1)))))) (zaa4)) (zaaj (zaaz (zag7 (zae9 zasM (zaak (zaaa 0) (zaad)) (zaa3 (zaab (zabu) (zaab (zabu) (zaah))))) (zaiO (zarN zao2 zao2 (zaad) (zaak (zaaa 0) (zaad)) (zaaa 1))))))))
theorem zamf:zaay ["_law_found", "_law_word", "_law_splits"] ["_law_found", "_law_word", "_law_splits"] (zaai zag6):=⟨rfl,rfl,rfl,by decide +kernel,rfl,by decide +kernel,by decide +kernel⟩
theorem zafF (T:Txt K mg) (base:Heap):Cal P w K mg base 3 3 "_law_alike" zabM:=
 by unfold zabM; exact zaaW (k:=2) (body:=zafe) T.d__law_alike zamf rfl rfl fun f cdv A outer s H E hr=>by (unfold zafe; exact zaaj (zaaz (zag7 (zaau (zago T base) hr (by decide) rfl (zaab (zaaa 0) (zaab (zaaa 2) (zaah)))) (zag7 (zae9 (zabW hr.units) (zaak (zaaa 0) (zaad)) (zaaa 1)) (zaiO (zae9 (zabW hr.units) (zaak (zaaa 0) (zaad)) (zaaa 2)))))))
theorem sc_law:zaay ["_law_script", "_law_count", "_law_facts", "_law_most", "_law_found", "_law_word", "_law_splits", "_law_fewer", "_law_again"] ["_law_script"] (zaai zaoP):=⟨rfl,rfl,rfl,by decide +kernel,rfl,by decide +kernel,by decide +kernel⟩
theorem zavl (T:Txt K mg) (base:Heap) {f:Addr} {fd:FuncData} (F:Fun K "law" "law" zaoP f fd):FnOk P w K mg base CX0 31 f fd ["_law_script"] (spM K 1 zah8):=by
 unfold zah8; exact zavi (k:=30) (body:=zaki) F sc_law rfl rfl fun cdv A outer s H E hr=>by (unfold zaki; exact zaag (zaax 1 sc_law.nd (zaap zabX (zaad) (zaap zabG (zaau (zaeR T base) hr (by decide) rfl (zaab (zaaa 0) (zaab (zaad) (zaah)))) (zaad)))) (zaag (zaax 2 sc_law.nd (zaau (zaix T base) hr (by decide) rfl (zaab (zaaa 0) (zaab (zaaa 1) (zaah))))) (zaag (zaax 3 sc_law.nd (zaak (zahB (zaab (zaad) (zaab (zaad) (zaab (zaad) (zaah))))) (zaap zaeo (zaaa 1) (zaad)))) (zaag (zaax 4 sc_law.nd (zag0 (zaex T base) hr (by decide) rfl (zaab (zaaa 1) (zaab (zaaa 2) (zaab (zaaa 3) (zaah)))))) (zaag (zaby (zajc (zagU (zaau (zago T base) hr (by decide) rfl (zaab (zaaa 4) (zaab (zaaa 3) (zaah)))))) (zaaj (zaaz (zamp))) (zaa4)) (zaag (zaax 5 sc_law.nd (zaak (zaaa 4) (zaad))) (zaag (zaax 6 sc_law.nd (zaak (zaaa 4) (zaad))) (zaag (zaby (zaaY (zabW hr.units) (zaaa 5) (zabu)) (zaag (zaax 7 sc_law.nd (zaap zabG (zaau (zaeR T base) hr (by decide) rfl (zaab (zaaa 0) (zaab (zaad) (zaah)))) (zaaa 3))) (zaaj (zaaz (zaau (zafF T base) hr (by decide) rfl (zaab (zag0 (zaex T base) hr (by decide) rfl (zaab (zaaa 1) (zaab (zaaa 2) (zaab (zaaa 7) (zaah))))) (zaab (zabu) (zaab (zaaa 7) (zaah)))))))) (zaa4)) (zaag (zaby (WM.tm (zaqf (zaaY zakK (zaaa 6) (zaad)) (zaoj (zajc (zagU (zaau (zafF T base) hr (by decide) rfl (zaab (zag0 (zaex T base) hr (by decide) rfl (zaab (zaaa 1) (zaab (zaaa 2) (zaab (zaap zaeo (zaaa 6) (zaad)) (zaah))))) (zaab (zabu) (zaab (zaap zaeo (zaaa 6) (zaad)) (zaah)))))))))) (zaaj (zaaz (zamp))) (zaa4)) (zaag (zaby (zajc (zagU (zaau (zafF T base) hr (by decide) rfl (zaab (zag0 (zaex T base) hr (by decide) rfl (zaab (zaaa 1) (zaab (zaaa 2) (zaab (zaaa 6) (zaah))))) (zaab (zaaa 5) (zaab (zaaa 6) (zaah))))))) (zaaj (zaaz (zamp))) (zaa4)) (zaag (zaax 8 sc_law.nd (zag0 (zale T base) hr (by decide) rfl (zaab (zaaa 1) (zaab (zaaa 2) (zaah))))) (zaaj (zaaz (zag7 (zaau (zago T base) hr (by decide) rfl (zaab (zaaa 8) (zaab (zaad) (zaah)))) (zag7 (zae9 (zabW hr.units) (zaak (zaaa 8) (zaad)) (zaaa 5)) (zaiO (zae9 (zabW hr.units) (zaak (zaaa 8) (zaad)) (zaaa 6))))))))))))))))))
end
end G
namespace BF
noncomputable def put {α:Type} (f:Nat->α) (i:Nat) (a:α):Nat->α:=fun j=>if j=i then a else f j
theorem zac2 {α:Type} (f:Nat->α) (i:Nat) (a:α):put f i a i=a:=if_pos rfl
theorem zacU {α:Type} (f:Nat->α) {i j:Nat} (a:α) (h:j ≠ i):put f i a j=f j:=if_neg h
noncomputable abbrev Bd:=Nat × Nat × Int
structure Stt where
 t:Nat->Int
 c:Nat->Option Nat
 l:Option Nat
noncomputable def step (s:Stt) (e:Bd):Stt:=if s.t e.1 > s.t e.2.1 + e.2.2 then ⟨put s.t e.1 (s.t e.2.1 + e.2.2),put s.c e.1 (some e.2.1),some e.1⟩ else s
noncomputable def turn (E:List Bd) (s:Stt):Stt:=E.foldl step ⟨s.t,s.c,none⟩
noncomputable def Sat (t:Nat->Int) (e:Bd):Prop:=t e.1<=t e.2.1 + e.2.2
structure Tab (n:Nat) (E:List Bd):Prop where
 lt:∀ e ∈ E,e.1 < n/\e.2.1 < n/\e.1 ≠ e.2.1
 un:∀ e ∈ E,∀ e' ∈ E,e.1=e'.1->e.2.1=e'.2.1->e.2.2=e'.2.2
noncomputable def Neg (w:Nat->Nat->Int) (c:Nat->Option Nat):Prop:=
 ∀ C:List Nat,C ≠ []->C.Nodup->(C.map c).Perm (C.map some)->(C.map fun x=>w x ((c x).getD 0)).sum < 0
structure Ok (n:Nat) (E:List Bd) (w:Nat->Nat->Int) (r:Nat) (D:List Bd) (u:Nat->Nat) (s:Stt):Prop where
 cau:∀ x y,s.c x=some y->(x,y,w x y) ∈ E/\s.t y + w x y<=s.t x/\1<=u x/\u x<=u y + 1
 top:∀ x,u x<=r + 1
 has:∀ x,1<=u x->∃ y,s.c x=some y
 old:∀ e ∈ E,r<=u e.2.1\/Sat s.t e
 new:∀ e ∈ D,r + 1<=u e.2.1\/Sat s.t e
 neg:Neg w s.c
 lst:∀ x,s.l=some x->u x=r + 1
theorem zahH {f g:Nat->Int}:∀ (D:List Nat),(∀ x ∈ D,f x<=g x)->(D.map f).sum<=(D.map g).sum
 | [],_=>Int.le_refl _
 | x::D,h=>by
  simp only [List.map_cons,List.sum_cons]
  have h1:=h x List.mem_cons_self
  have h2:=zahH D fun y hy=>h y (List.mem_cons_of_mem _ hy)
  omega
theorem zaof {f g:Nat->Int}:∀ (D:List Nat),(D.map fun x=>f x - g x).sum=(D.map f).sum - (D.map g).sum
 | []=>rfl
 | x::D=>by
  simp only [List.map_cons,List.sum_cons]
  have:=zaof (f:=f) (g:=g) D
  omega
theorem zanz {l l':List Int} (h:l.Perm l'):l.sum=l'.sum:=by
 induction h with
 | nil=>rfl
 | cons x _ ih=>simp only [List.sum_cons,ih]
 | swap x y l=>simp only [List.sum_cons]; omega
 | trans _ _ h1 h2=>exact h1.trans h2
theorem map_none {C:List Nat} {c:Nat->Option Nat} (h:(C.map c).Perm (C.map some)):∀ x ∈ C,∃ y,c x=some y:=by
 intro x hx
 have:c x ∈ C.map some:=h.subset (List.mem_map_of_mem hx)
 obtain ⟨y,_,e⟩:=List.mem_map.mp this
 exact ⟨y,e.symm⟩
theorem zaf1 {α β:Type} {f g:α->β} {C:List α} (h:∀ x ∈ C,f x=g x):C.map f=C.map g:=List.map_congr_left h
theorem zasX {w:Nat->Nat->Int} {c:Nat->Option Nat} {t:Nat->Int} {p q:Nat} (hn:Neg w c) (hc:∀ x y,c x=some y->t y + w x y<=t x) (hm:t p > t q + w p q):Neg w (put c p (some q)):=by
 intro C h0 hd hp
 by_cases hin:p ∈ C
 · obtain ⟨D1,D2,rfl⟩:=List.append_of_mem hin
   have pp:(D1++p::D2).Perm (p::(D1++D2)):=List.perm_middle
   have nd:(p::(D1++D2)).Nodup:=pp.nodup_iff.mp hd
   have np:p ∉ D1++D2:=(List.nodup_cons.mp nd).1
   generalize D1++D2=D at pp np
   have ec:D.map (put c p (some q))=D.map c:=zaf1 fun x hx=>zacU c _ (fun z=>np (z ▸ hx))
   have h1:((p::D).map (put c p (some q))).Perm ((p::D).map some):=((pp.map _).symm.trans hp).trans (pp.map _)
   rw [List.map_cons,zac2,ec] at h1
   have hall:∀ x ∈ D,∃ y,c x=some y:=fun x hx=>by
    have:c x ∈ (p::D).map some:=h1.subset (List.mem_cons_of_mem _ (List.mem_map_of_mem hx))
    obtain ⟨y,_,e⟩:=List.mem_map.mp this
    exact ⟨y,e.symm⟩
   have h2:=zanz (h1.map fun o=>t (o.getD 0))
   simp only [List.map_cons,List.map_map,List.sum_cons,Function.comp_def,Option.getD_some] at h2
   change t q + _=t p + (D.map t).sum at h2
   have h3:((D1++p::D2).map fun x=>w x ((put c p (some q) x).getD 0)).sum=w p q + (D.map fun x=>w x ((c x).getD 0)).sum:=by
    have:=zanz (pp.map fun x=>w x ((put c p (some q) x).getD 0))
    rw [this,List.map_cons,List.sum_cons,zac2]
    congr 1
    rw [zaf1 (f:=fun x=>w x ((put c p (some q) x).getD 0)) (g:=fun x=>w x ((c x).getD 0)) fun x hx=>by rw [zacU c _ (fun z:x=p=>np (z ▸ hx))]]
   have h4:(D.map fun x=>w x ((c x).getD 0)).sum<=(D.map fun x=>t x - t ((c x).getD 0)).sum:=zahH D fun x hx=>by
    obtain ⟨y,ey⟩:=hall x hx
    have:=hc x y ey
    rw [ey]
    simp only [Option.getD_some]
    omega
   rw [zaof] at h4
   rw [h3]
   omega
 · have ec:C.map (put c p (some q))=C.map c:=zaf1 fun x hx=>zacU c _ (fun z=>hin (z ▸ hx))
   rw [ec] at hp
   have:=hn C h0 hd hp
   rw [zaf1 (f:=fun x=>w x ((put c p (some q) x).getD 0)) (g:=fun x=>w x ((c x).getD 0)) fun x hx=>by rw [zacU c _ (fun z:x=p=>hin (z ▸ hx))]]
   exact this
theorem zatB {n:Nat} {E:List Bd} {w:Nat->Nat->Int} {r:Nat} {D:List Bd} {u:Nat->Nat} {s:Stt} (T:Tab n E) (hw:∀ e ∈ E,w e.1 e.2.1=e.2.2) (I:Ok n E w r D u s) {e:Bd} (he:e ∈ E) :
 ∃ u',Ok n E w r (e::D) u' (step s e):=by
 obtain ⟨p,q,m⟩:=e
 obtain ⟨_,_,hne⟩:=T.lt _ he
 have ew:w p q=m:=hw _ he
 have hne':q ≠ p:=fun z=>hne z.symm
 by_cases hm:s.t p > s.t q + m
 · have es:step s (p,q,m)=⟨put s.t p (s.t q + m),put s.c p (some q),some p⟩:=if_pos hm
   rw [es]
   have uq:r<=u q:=by
    rcases I.old _ he with z | z
    · exact z
    · exact absurd z (by simp only [Sat]; omega)
   have up:u p<=r + 1:=I.top p
   have dec:∀ x,put s.t p (s.t q + m) x<=s.t x:=fun x=>by
    by_cases hx:x=p
    · rw [hx,zac2]; omega
    · rw [zacU _ _ hx]; exact Int.le_refl _
   have grow:∀ x,u x<=put u p (r + 1) x:=fun x=>by
    by_cases hx:x=p
    · rw [hx,zac2]; exact up
    · rw [zacU _ _ hx]; exact Nat.le_refl _
   have keep:∀ k,∀ e:Bd,k<=r + 1->(k<=u e.2.1\/Sat s.t e)->(k<=put u p (r + 1) e.2.1\/Sat (put s.t p (s.t q + m)) e):=fun k e hk h=>by
    by_cases hx:e.2.1=p
    · exact .inl (by rw [hx,zac2]; exact hk)
    · rcases h with h | h
      · exact .inl (Nat.le_trans h (grow _))
      · refine .inr ?_
        simp only [Sat] at h ⊢
        rw [zacU _ _ hx]
        exact Int.le_trans (dec _) h
   refine ⟨put u p (r + 1),⟨fun x y h=>?_,fun x=>?_,fun x h=>?_,fun e h=>keep r e (Nat.le_succ r) (I.old e h),fun e h=>?_,zasX I.neg (fun x y h=>(I.cau x y h).2.1) (by rw [ew]; exact hm),fun x h=>?_⟩⟩
   · by_cases hx:x=p
     · subst hx
       simp only [zac2] at h ⊢
       cases h
       rw [zacU _ _ hne',zacU _ _ hne',ew]
       exact ⟨he,Int.le_refl _,by omega,by omega⟩
     · simp only [zacU _ _ hx] at h ⊢
       obtain ⟨h1,h2,h3,h4⟩:=I.cau x y h
       exact ⟨h1,Int.le_trans (Int.add_le_add_right (dec y) _) h2,h3,Nat.le_trans h4 (Nat.add_le_add_right (grow y) 1)⟩
   · by_cases hx:x=p
     · rw [hx,zac2]; exact Nat.le_refl _
     · rw [zacU _ _ hx]; exact I.top x
   · by_cases hx:x=p
     · subst hx; exact ⟨q,zac2 _ _ _⟩
     · rw [zacU _ _ hx] at h
       obtain ⟨y,hy⟩:=I.has x h
       exact ⟨y,by simp only [zacU _ _ hx]; exact hy⟩
   · rcases List.mem_cons.mp h with z | z
     · subst z
       refine .inr ?_
       simp only [Sat,zac2,zacU _ _ hne']
       exact Int.le_refl _
     · exact keep (r + 1) e (Nat.le_refl _) (I.new e z)
   · cases h; exact zac2 _ _ _
 · have es:step s (p,q,m)=s:=if_neg hm
   rw [es]
   refine ⟨u,⟨I.cau,I.top,I.has,I.old,fun e h=>?_,I.neg,I.lst⟩⟩
   rcases List.mem_cons.mp h with z | z
   · subst z
     exact .inr (by simp only [Sat]; omega)
   · exact I.new e z
theorem zak8 {n:Nat} {E:List Bd} {w:Nat->Nat->Int} {r:Nat} (T:Tab n E) (hw:∀ e ∈ E,w e.1 e.2.1=e.2.2):∀ (L D:List Bd) (u:Nat->Nat) (s:Stt),(∀ e ∈ L,e ∈ E)->Ok n E w r D u s->∃ u' D',Ok n E w r D' u' (L.foldl step s)/\(∀ e ∈ L,e ∈ D')/\∀ e ∈ D,e ∈ D'
 | [],D,u,s,_,I=>⟨u,D,I,(fun _ h=>nomatch h),fun _ h=>h⟩
 | e::L,D,u,s,hs,I=>by
  obtain ⟨u1,I1⟩:=zatB T hw I (hs e List.mem_cons_self)
  obtain ⟨u2,D2,I2,h1,h2⟩:=zak8 T hw L (e::D) u1 (step s e) (fun x hx=>hs x (List.mem_cons_of_mem _ hx)) I1
  refine ⟨u2,D2,I2,fun x hx=>?_,fun x hx=>h2 x (List.mem_cons_of_mem _ hx)⟩
  rcases List.mem_cons.mp hx with z | z
  · rw [z]; exact h2 e List.mem_cons_self
  · exact h1 x z
noncomputable def zacy (E:List Bd):Nat->Stt->Stt
 | 0,s=>s
 | r + 1,s=>turn E (zacy E r s)
noncomputable def s0:Stt:=⟨fun _=>0,fun _=>none,none⟩
theorem zaj2 {n:Nat} {E:List Bd} {w:Nat->Nat->Int} (T:Tab n E) (hw:∀ e ∈ E,w e.1 e.2.1=e.2.2):∀ r,∃ u D,Ok n E w r D u (zacy E (r + 1) s0)/\∀ e ∈ E,e ∈ D
 | 0=>by
  have I:Ok n E w 0 [] (fun _=>0) ⟨s0.t,s0.c,none⟩:=by
   refine ⟨fun x y h=>(by cases h),fun x=>Nat.zero_le _,fun x h=>(by omega),fun e h=>.inl (Nat.zero_le _),(fun e h=>nomatch h),fun C h0 hd hp=>?_,fun x h=>(by cases h)⟩
   cases C with
   | nil=>exact absurd rfl h0
   | cons x C=>
    obtain ⟨y,e⟩:=map_none hp x List.mem_cons_self
    cases e
  obtain ⟨u,D,I',h1,_⟩:=zak8 T hw E [] _ _ (fun _ h=>h) I
  exact ⟨u,D,I',h1⟩
 | r + 1=>by
  obtain ⟨u,D,I,hD⟩:=zaj2 T hw r
  have I1:Ok n E w (r + 1) [] u ⟨(zacy E (r + 1) s0).t,(zacy E (r + 1) s0).c,none⟩:=
   ⟨I.cau,fun x=>Nat.le_succ_of_le (I.top x),I.has,fun e h=>I.new e (hD e h),(fun e h=>nomatch h),I.neg,fun x h=>(by cases h)⟩
  obtain ⟨u2,D2,I2,h1,_⟩:=zak8 T hw E [] _ _ (fun _ h=>h) I1
  exact ⟨u2,D2,I2,h1⟩
theorem zalZ:∀ (L:List Bd) (s:Stt),(L.foldl step s).l=none->s.l=none/\L.foldl step s=s/\∀ e ∈ L,Sat s.t e
 | [],s,h=>⟨h,rfl,(fun _ h=>nomatch h)⟩
 | e::L,s,h=>by
  obtain ⟨h1,h2,h3⟩:=zalZ L (step s e) h
  by_cases hm:s.t e.1 > s.t e.2.1 + e.2.2
  · have es:step s e=⟨put s.t e.1 (s.t e.2.1 + e.2.2),put s.c e.1 (some e.2.1),some e.1⟩:=if_pos hm
    rw [es] at h1
    cases h1
  · have es:step s e=s:=if_neg hm
    rw [es] at h1 h2 h3
    refine ⟨h1,by rw [List.foldl_cons,es]; exact h2,fun x hx=>?_⟩
    rcases List.mem_cons.mp hx with z | z
    · subst z; simp only [Sat]; omega
    · exact h3 x z
noncomputable def itr (f:Nat->Nat):Nat->Nat->Nat
 | 0,x=>x
 | k + 1,x=>f (itr f k x)
theorem zad4 (f:Nat->Nat) (x:Nat) (b:Nat):∀ a,itr f (a + b) x=itr f a (itr f b x)
 | 0=>by rw [Nat.zero_add]; rfl
 | a + 1=>by
  rw [Nat.add_right_comm]
  show f (itr f (a + b) x)=f (itr f a (itr f b x))
  rw [zad4 f x b a]
theorem pig:∀ (n:Nat) (g:Nat->Nat),(∀ k,k<=n->g k < n)->∃ i j,i < j/\j<=n/\g i=g j
 | 0,g,h=>absurd (h 0 (Nat.le_refl _)) (Nat.not_lt_zero _)
 | n + 1,g,h=>by
  by_cases hx:∃ k,k<=n/\g k=g (n + 1)
  · obtain ⟨k,h1,h2⟩:=hx
    exact ⟨k,n + 1,by omega,Nat.le_refl _,h2⟩
  · have ne:∀ k,k<=n->g k ≠ g (n + 1):=fun k hk e=>hx ⟨k,hk,e⟩
    have hl:=h (n + 1) (Nat.le_refl _)
    obtain ⟨i,j,h1,h2,h3⟩:=pig n (fun k=>if g k > g (n + 1) then g k - 1 else g k) fun k hk=>by
     have h1:=h k (by omega)
     have h2:=ne k hk
     show (if g k > g (n + 1) then g k - 1 else g k) < n
     split <;> omega
    refine ⟨i,j,h1,by omega,?_⟩
    have a1:=ne i (by omega)
    have a2:=ne j h2
    have b1:(if g i > g (n + 1) then g i - 1 else g i)=(if g j > g (n + 1) then g j - 1 else g j):=h3
    split at b1 <;> split at b1 <;> omega
theorem zapN {Q:Nat->Prop}:∀ d,1<=d->Q d->∃ k,1<=k/\k<=d/\Q k/\∀ i,1<=i->i < k->¬ Q i:=by
 intro d
 induction d using Nat.strongRecOn with
 | ind d ih=>
  intro h1 hq
  by_cases hx:∃ i,1<=i/\i < d/\Q i
  · obtain ⟨i,a,b,c⟩:=hx
    obtain ⟨k,k1,k2,k3,k4⟩:=ih i b a c
    exact ⟨k,k1,by omega,k3,k4⟩
  · exact ⟨d,h1,Nat.le_refl _,hq,fun i a b c=>hx ⟨i,a,b,c⟩⟩
noncomputable def nxt (c:Nat->Option Nat) (x:Nat):Nat:=(c x).getD 0
structure Ring (n:Nat) (E:List Bd) (w:Nat->Nat->Int) (c:Nat->Option Nat) (P k:Nat):Prop where
 pos:1<=k
 le:k<=n
 back:itr (nxt c) k P=P
 first:∀ i,1<=i->i < k->itr (nxt c) i P ≠ P
 edge:∀ i,i<=k->(itr (nxt c) i P,itr (nxt c) (i + 1) P,w (itr (nxt c) i P) (itr (nxt c) (i + 1) P)) ∈ E/\c (itr (nxt c) i P)=some (itr (nxt c) (i + 1) P)
 sum:((List.range k).map fun i=>w (itr (nxt c) i P) (itr (nxt c) (i + 1) P)).sum < 0
theorem apart {f:Nat->Nat} {P k:Nat} (hb:itr f k P=P) (hf:∀ i,1<=i->i < k->itr f i P ≠ P) {i j:Nat} (hij:i < j) (hj:j<=k) (h0:i=0->j < k):itr f i P ≠ itr f j P:=by
 intro e
 have e2:itr f ((k - j) + i) P=itr f ((k - j) + j) P:=by rw [zad4,zad4,e]
 rw [Nat.sub_add_cancel hj,hb] at e2
 refine hf (k - j + i) ?_ ?_ e2
 · by_cases h:i=0
   · have:=h0 h; omega
   · omega
 · omega
theorem zaks {α:Type} {g:Nat->α} (k:Nat) (h:∀ i j,i < j->j < k->g i ≠ g j):((List.range k).map g).Nodup:=by
 rw [List.nodup_iff_pairwise_ne,List.pairwise_map]
 refine List.Pairwise.imp_of_mem ?_ (List.pairwise_lt_range (n:=k))
 intro a b ha hb hab
 exact h a b hab (List.mem_range.mp hb)
theorem zaop {n:Nat} {E:List Bd} {w:Nat->Nat->Int} {D:List Bd} {u:Nat->Nat} {s:Stt} {x:Nat} (T:Tab n E) (I:Ok n E w n D u s) (hx:s.l=some x):∃ k,Ring n E w s.c (itr (nxt s.c) n x) k/\
 ∀ i,i<=n->s.c (itr (nxt s.c) i x)=some (itr (nxt s.c) (i + 1) x)/\itr (nxt s.c) i x < n:=by
 have ux:=I.lst x hx
 have defd:∀ y,1<=u y->s.c y=some (nxt s.c y):=fun y hy=>by
  obtain ⟨z,e⟩:=I.has y hy
  unfold nxt
  rw [e]
  rfl
 have ch:∀ i,i<=n->n + 1<=u (itr (nxt s.c) i x) + i:=by
  intro i
  induction i with
  | zero=>intro _; show n + 1<=u x + 0; omega
  | succ i ih=>
   intro hi
   have h1:=ih (by omega)
   have h2:=defd (itr (nxt s.c) i x) (by omega)
   have h3:=(I.cau _ _ h2).2.2.2
   show n + 1<=u (nxt s.c (itr (nxt s.c) i x)) + (i + 1)
   omega
 have cd:∀ i,i<=n->s.c (itr (nxt s.c) i x)=some (itr (nxt s.c) (i + 1) x):=fun i hi=>defd _ (by have:=ch i hi; omega)
 have lt:∀ i,i<=n->itr (nxt s.c) i x < n:=fun i hi=>(T.lt _ (I.cau _ _ (cd i hi)).1).1
 obtain ⟨i,j,hij,hj,e⟩:=pig n (fun i=>itr (nxt s.c) i x) lt
 have per:itr (nxt s.c) (j - i) (itr (nxt s.c) n x)=itr (nxt s.c) n x:=by
  rw [<- zad4]
  have a1:j - i + n=(n - i) + j:=by omega
  rw [a1,zad4,<- e,<- zad4]
  congr 1
  omega
 obtain ⟨k,k1,k2,k3,k4⟩:=zapN (Q:=fun d=>itr (nxt s.c) d (itr (nxt s.c) n x)=itr (nxt s.c) n x) (j - i) (by omega) per
 have shf:∀ m,itr (nxt s.c) (j + m) x=itr (nxt s.c) (i + m) x:=fun m=>by
  rw [Nat.add_comm j m,Nat.add_comm i m,zad4,zad4,e]
 have ed:∀ m,m<=k->s.c (itr (nxt s.c) m (itr (nxt s.c) n x))=some (itr (nxt s.c) (m + 1) (itr (nxt s.c) n x)):=fun m hm=>by
  rw [<- zad4,<- zad4]
  by_cases h:m + n<=n
  · have:m=0:=by omega
    subst this
    rw [Nat.zero_add,Nat.add_comm]
    exact cd n (Nat.le_refl _)
  · have a1:m + n=j + (m + n - j):=by omega
    have a2:m + 1 + n=j + (m + n - j + 1):=by omega
    rw [a1,a2,shf,shf]
    exact cd _ (by omega)
 refine ⟨k,⟨k1,by omega,k3,k4,fun m hm=>⟨(I.cau _ _ (ed m hm)).1,ed m hm⟩,?_⟩,fun i hi=>⟨cd i hi,lt i hi⟩⟩
 generalize itr (nxt s.c) n x=P at *
 have hn:=I.neg ((List.range k).map fun m=>itr (nxt s.c) m P) (by
  intro z
  have:=congrArg List.length z
  simp at this
  omega) (zaks k fun a b hab hb=>apart k3 k4 hab (by omega) (fun _=>hb)) (by
  rw [List.map_map,List.map_map]
  have e1:(List.range k).map (s.c ∘ fun m=>itr (nxt s.c) m P)=(List.range k).map (fun m=>some (itr (nxt s.c) (m + 1) P)):=zaf1 fun m hm=>ed m (Nat.le_of_lt (List.mem_range.mp hm))
  rw [e1]
  obtain ⟨k',rfl⟩:∃ k',k=k' + 1:=⟨k - 1,by omega⟩
  rw [List.range_succ,List.map_append]
  have e2:(List.range k'++[k']).map (some ∘ fun m=>itr (nxt s.c) m P)=some P::(List.range k').map (fun m=>some (itr (nxt s.c) (m + 1) P)):=by
   rw [<- List.range_succ,List.range_succ_eq_map,List.map_cons,List.map_map]
   rfl
  rw [e2]
  have e3:[k'].map (fun m=>some (itr (nxt s.c) (m + 1) P))=[some P]:=by
   rw [List.map_cons,List.map_nil,k3]
  rw [e3]
  exact List.perm_append_singleton _ _)
 rw [List.map_map] at hn
 have e4:(List.range k).map ((fun y=>w y ((s.c y).getD 0)) ∘ fun m=>itr (nxt s.c) m P)=(List.range k).map fun i=>w (itr (nxt s.c) i P) (itr (nxt s.c) (i + 1) P):=rfl
 rw [e4] at hn
 exact hn
end BF
namespace SM
open PySem PySem.Spec PyProof.Rows L2 SM
section
variable {l:LI} {h:HI} {f g fo fy fx fe fa fd:RE}
@[simp] theorem zaxr:zaoW l h=some (.ref h.length,h++[.dt []]):=by rfl
noncomputable def ntpK:List Dt × HI->Option (Dt × HI):=fun r=>if r.1.length<=sizeLine then (zacv r.1).map fun is=>(.ntp is,r.2) else none
@[simp] theorem zasH (r:RA):eNtp r l h=bnd (r l h) ntpK:=by rfl
theorem zany (i j:Int):ntpK ([.int i,.int j],h)=some (.ntp [i,j],h):=by
 unfold ntpK
 rw [if_pos (show ([Dt.int i,Dt.int j]:List Dt).length<=sizeLine by simp)]
 rfl
noncomputable def dg3 (n:Nat) (k:List Int):Dt × HI->Option (Dt × HI):=fun x=>match x.2[n]? with
 | some (.dt kvs)=>some ((dAt kvs k).getD x.1,x.2)
 | _=>none
theorem zaqB {n:Nat} {k:List Int} {d:Dt} {kvs:List (List Int × Dt)} (e:h[n]?=some (.dt kvs)):dg3 n k (d,h)=some ((dAt kvs k).getD d,h):=by simp only [dg3,e]
theorem zaot {n:Nat} {k:List Int} {kvs:List (List Int × Dt)} (e1:fo l h=some (.ref n,h)) (e2:h[n]?=some (.dt kvs)) (e3:fy l h=some (.ntp k,h)):zaf5 fo fy fx l h=bnd (fx l h) (dg3 n k):=by
 simp only [zaf5,e1,e2,e3,Option.bind_some]
 rfl
theorem zaqT {n:Nat} {k:List Int} {kvs:List (List Int × Dt)} {d:Dt} (e0:fe l h=some (d,h)) (e1:fo l h=some (.ref n,h)) (e2:h[n]?=some (.dt kvs)) (e3:fy l h=some (.ntp k,h)) (c:kvs.length < sizeLine) :
 zamj fe fo fy l h=some (.nx l (h.set n (.dt (dPut kvs k d)))):=by
 simp only [zamj,e0,e1,e2,e3,Option.bind_some,if_pos c]
theorem zapL {n:Nat} {kvs:List (List Int × Dt)} (e1:f l h=some (.ref n,h)) (e2:h[n]?=some (.dt kvs)):zag1 f l h=some (.it n,h.set n (.df kvs)):=by
 simp only [zag1,e1,e2,Option.bind_some]
theorem zaq3 {n:Nat} {kvs:List (List Int × Dt)} (e1:f l h=some (.ref n,h)) (e2:h[n]?=some (.df kvs)):zag1 f l h=some (.it n,h):=by
 simp only [zag1,e1,e2,Option.bind_some]
noncomputable def zapn (fd:RE) (l:LI):Dt × HI->Option (Dt × HI):=fun r=>bnd (fd l r.2) fun q=>(seqL q.2 r.1).bind fun xs=>(zacv xs).bind fun ns=>if ns ≠ [] then some (.int (minL ns),q.2) else none
@[simp] theorem zaxt:zao9 fa fd l h=bnd (fa l h) (zapn fd l):=by rfl
end
theorem zatG {β:Type} {i j n:Nat} {body:RS} {kvs:List (List Int × Dt)} (S:β->LI->HI->Prop) (F:β->List Int × Dt->β) (hS:∀ b l h,S b l h->h[n]?=some (.df kvs))
 (H:∀ x ∈ kvs,∀ b l h,S b l h->∃ r,body ((l.set i (some (.tup (x.1.map Dt.int)))).set j (some x.2)) h=some r/\Pass (S (F b x)) r) :
 ∀ (m k:Nat) (b:β) (l:LI) (h:HI),m=(kvs.length - k) + 1->k<=kvs.length->S b l h->∃ l' h',forL (zaec i j) body (.it n) m k l h=some (.nx l' h')/\S ((kvs.drop k).foldl F b) l' h':=by
 intro m
 induction m with
 | zero=>intro k b l h hm; omega
 | succ m ih=>
  intro k b l h hm hk s
  have e:=hS b l h s
  by_cases hlt:k < kvs.length
  · have ek:kvs[k]?=some kvs[k]:=List.getElem?_eq_getElem hlt
    obtain ⟨r,e1,p⟩:=H kvs[k] (List.getElem_mem hlt) b l h s
    have ed:(kvs.drop k).foldl F b=(kvs.drop (k + 1)).foldl F (F b kvs[k]):=by rw [List.drop_eq_getElem_cons hlt,List.foldl_cons]
    rw [ed]
    have eu:forL (zaec i j) body (.it n) (m + 1) k l h=bnd (body ((l.set i (some (.tup (kvs[k].1.map Dt.int)))).set j (some kvs[k].2)) h) (stK (forL (zaec i j) body (.it n) m (k + 1))):=by
     simp only [forL,Src.at,e,ek,Option.map_some,zaox,Option.bind_some]
     cases body ((l.set i (some (.tup (kvs[k].1.map Dt.int)))).set j (some kvs[k].2)) h with
     | none=>rfl
     | some r=>cases r <;> rfl
    rw [eu,e1,zaaf]
    cases r with
    | nx l2 h2=>exact ih (k + 1) _ l2 h2 (by omega) hlt p
    | ct l2 h2=>exact ih (k + 1) _ l2 h2 (by omega) hlt p
    | bk l2 h2=>exact p.elim
    | rt d h2=>exact p.elim
  · have ek:kvs[k]?=none:=List.getElem?_eq_none (by omega)
    refine ⟨l,h,by simp only [forL,Src.at,e,ek,Option.map_none],?_⟩
    rw [List.drop_eq_nil_of_le (by omega)]
    exact s
theorem zatt {β:Type} {i j n:Nat} {body:RS} {kvs:List (List Int × Dt)} {l:LI} {h:HI} (S:β->LI->HI->Prop) (F:β->List Int × Dt->β) (hS:∀ b l h,S b l h->h[n]?=some (.df kvs))
 (H:∀ x ∈ kvs,∀ b l h,S b l h->∃ r,body ((l.set i (some (.tup (x.1.map Dt.int)))).set j (some x.2)) h=some r/\Pass (S (F b x)) r) (b:β) (s:S b l h) :
 ∃ l' h',forK (zaec i j) body l (.it n,h)=some (.nx l' h')/\S (kvs.foldl F b) l' h':=by
 have e:=hS b l h s
 have:=zatG (i:=i) (j:=j) S F hS H (kvs.length + 1) 0 b l h (by omega) (Nat.zero_le _) s
 rw [List.drop_zero] at this
 obtain ⟨l',h',e1,e2⟩:=this
 refine ⟨l',h',?_,e2⟩
 show forL (zaec i j) body (.it n) (Src.fuel (.it n) h) 0 l h=_
 have ef:Src.fuel (.it n) h=kvs.length + 1:=by simp only [Src.fuel,e]
 rw [ef]
 exact e1
end SM
namespace G
open PySem PySem.Spec PyProof.Rows L2 SM BF
noncomputable def kvOf (e:Bd):List Int × Dt:=([(e.1:Int),(e.2.1:Int)],.int e.2.2)
noncomputable def trip (e:Bd):Dt:=.tup [.int (e.1:Nat),.int (e.2.1:Nat),.int e.2.2]
noncomputable def keyB (p q:Nat) (x:Bd):Bool:=decide (x.1=p) && decide (x.2.1=q)
noncomputable def atB (E:List Bd) (p q:Nat):Option Int:=(E.find? (keyB p q)).map (·.2.2)
noncomputable def putV (E:List Bd) (p q:Nat) (v:Int):List Bd:=if E.any (keyB p q)=true then E.map (fun x=>if keyB p q x=true then (x.1,x.2.1,v) else x) else E++[(p,q,v)]
noncomputable def addB (E:List Bd) (e:Bd):List Bd:=putV E e.1 e.2.1 (min ((atB E e.1 e.2.1).getD e.2.2) e.2.2)
theorem zanD (p q:Nat) (x:Bd):decide ((kvOf x).1=[(p:Int),(q:Int)])=keyB p q x:=by
 unfold kvOf keyB
 by_cases h1:x.1=p <;> by_cases h2:x.2.1=q <;> simp [h1,h2] <;> omega
theorem zand (p q:Nat):∀ E:List Bd,dAt (E.map kvOf) [(p:Int),(q:Int)]=(atB E p q).map Dt.int
 | []=>rfl
 | x::E=>by
  have ih:=zand p q E
  unfold dAt atB at ih ⊢
  rw [List.map_cons,List.find?_cons,List.find?_cons,zanD]
  cases keyB p q x with
  | true=>rfl
  | false=>exact ih
theorem zaus (p q:Nat) (E:List Bd):((E.map kvOf).any fun y=>decide (y.1=[(p:Int),(q:Int)]))=E.any (keyB p q):=by
 rw [List.any_map]
 congr 1
 funext x
 exact zanD p q x
theorem zaok (p q:Nat) (v:Int) (E:List Bd):dPut (E.map kvOf) [(p:Int),(q:Int)] (.int v)=(putV E p q v).map kvOf:=by
 unfold dPut putV
 rw [zaus]
 split
 · rw [List.map_map,List.map_map]
   refine List.map_congr_left fun x _=>?_
   have k:=zanD p q x
   simp only [Function.comp_def]
   cases c:keyB p q x with
   | true=>
    rw [c] at k
    rw [if_pos (of_decide_eq_true k),if_pos rfl]
    rfl
   | false=>
    rw [c] at k
    rw [if_neg (of_decide_eq_false k),if_neg Bool.false_ne_true]
 · rw [List.map_append]
   rfl
structure zajm (told E:List Bd):Prop where
 mem:∀ x ∈ E,x ∈ told
 low:∀ e ∈ told,∃ x ∈ E,x.1=e.1/\x.2.1=e.2.1/\x.2.2<=e.2.2
 un:∀ x ∈ E,∀ y ∈ E,x.1=y.1->x.2.1=y.2.1->x.2.2=y.2.2
 len:E.length<=told.length
theorem keyB_iff {p q:Nat} {x:Bd}:keyB p q x=true ↔ x.1=p/\x.2.1=q:=by simp [keyB]
theorem zas5:zajm [] []:=⟨fun _ h=>h,fun _ h=>(nomatch h),fun _ h=>(nomatch h),Nat.le_refl _⟩
theorem zatO {told E:List Bd} (I:zajm told E) (e:Bd):zajm (told++[e]) (addB E e):=by
 obtain ⟨p,q,m⟩:=e
 unfold addB putV
 cases ha:atB E p q with
 | none=>
  have nk:∀ x ∈ E,keyB p q x=false:=by
   unfold atB at ha
   simpa using ha
  have na:E.any (keyB p q)=false:=by
   rw [List.any_eq_false]
   intro x hx
   rw [nk x hx]
   exact Bool.false_ne_true
  simp only [na,Bool.false_eq_true,if_false,ha,Option.getD_none,Int.min_self]
  refine ⟨fun x hx=>?_,fun e' he=>?_,fun x hx y hy h1 h2=>?_,by simp; exact I.len⟩
  · rcases List.mem_append.mp hx with hx | hx
    · exact List.mem_append_left _ (I.mem x hx)
    · exact List.mem_append_right _ hx
  · rcases List.mem_append.mp he with he | he
    · obtain ⟨x,hx,r⟩:=I.low e' he
      exact ⟨x,List.mem_append_left _ hx,r⟩
    · rw [List.mem_singleton.mp he]
      exact ⟨_,List.mem_append_right _ (List.mem_singleton.mpr rfl),rfl,rfl,Int.le_refl _⟩
  · rcases List.mem_append.mp hx with hx | hx <;> rcases List.mem_append.mp hy with hy | hy
    · exact I.un x hx y hy h1 h2
    · have:=nk x hx
      rw [List.mem_singleton.mp hy] at h1 h2
      rw [keyB_iff.mpr ⟨h1,h2⟩] at this
      cases this
    · have:=nk y hy
      rw [List.mem_singleton.mp hx] at h1 h2
      rw [keyB_iff.mpr ⟨h1.symm,h2.symm⟩] at this
      cases this
    · rw [List.mem_singleton.mp hx,List.mem_singleton.mp hy]
 | some v0=>
  obtain ⟨x0,hf,rfl⟩:∃ x0,E.find? (keyB p q)=some x0/\x0.2.2=v0:=by
   unfold atB at ha
   simpa using ha
  have k0:=List.find?_some hf
  have m0:=List.mem_of_find?_eq_some hf
  have na:E.any (keyB p q)=true:=List.any_eq_true.mpr ⟨x0,m0,k0⟩
  obtain ⟨k1,k2⟩:=keyB_iff.mp k0
  have un0:∀ x ∈ E,keyB p q x=true->x.2.2=x0.2.2:=fun x hx h=>by
   obtain ⟨h1,h2⟩:=keyB_iff.mp h
   exact I.un x hx x0 m0 (h1.trans k1.symm) (h2.trans k2.symm)
  simp only [na,if_true,Option.getD_some]
  have vm:((p,q,min x0.2.2 m):Bd) ∈ told++[(p,q,m)]:=by
   by_cases h:x0.2.2<=m
   · rw [Int.min_eq_left h]
     refine List.mem_append_left _ ?_
     have:=I.mem x0 m0
     rw [<- k1,<- k2]
     exact this
   · rw [Int.min_eq_right (by omega)]
     exact List.mem_append_right _ (List.mem_singleton.mpr rfl)
  refine ⟨fun x hx=>?_,fun e' he=>?_,fun x hx y hy h1 h2=>?_,by simp; have:=I.len; omega⟩
  · obtain ⟨y,hy,rfl⟩:=List.mem_map.mp hx
    split
    · rename_i h
      obtain ⟨h1,h2⟩:=keyB_iff.mp h
      rw [h1,h2]
      exact vm
    · exact List.mem_append_left _ (I.mem y hy)
  · have new:∀ x ∈ E,(if keyB p q x=true then (x.1,x.2.1,min x0.2.2 m) else x) ∈ E.map (fun x=>if keyB p q x=true then (x.1,x.2.1,min x0.2.2 m) else x):=fun x hx=>List.mem_map_of_mem hx
    rcases List.mem_append.mp he with he | he
    · obtain ⟨x,hx,r1,r2,r3⟩:=I.low e' he
      refine ⟨_,new x hx,?_⟩
      split
      · rename_i h
        refine ⟨r1,r2,?_⟩
        have:=un0 x hx h
        show min x0.2.2 m<=e'.2.2
        have:=Int.min_le_left x0.2.2 m
        omega
      · exact ⟨r1,r2,r3⟩
    · rw [List.mem_singleton.mp he]
      refine ⟨_,new x0 m0,?_⟩
      rw [if_pos k0]
      exact ⟨k1,k2,Int.min_le_right _ _⟩
  · obtain ⟨x',hx',rfl⟩:=List.mem_map.mp hx
    obtain ⟨y',hy',rfl⟩:=List.mem_map.mp hy
    have fst:∀ z:Bd,(if keyB p q z=true then ((z.1,z.2.1,min x0.2.2 m):Bd) else z).1=z.1/\(if keyB p q z=true then ((z.1,z.2.1,min x0.2.2 m):Bd) else z).2.1=z.2.1:=fun z=>by split <;> exact ⟨rfl,rfl⟩
    rw [(fst x').1,(fst y').1] at h1
    rw [(fst x').2,(fst y').2] at h2
    have kk:keyB p q x'=keyB p q y':=by unfold keyB; rw [h1,h2]
    rw [kk]
    split
    · rfl
    · exact I.un x' hx' y' hy' h1 h2
theorem zani:∀ (L told E:List Bd),zajm told E->zajm (told++L) (L.foldl addB E)
 | [],told,E,I=>by rw [List.append_nil]; exact I
 | e::L,told,E,I=>by
  have:=zani L (told++[e]) (addB E e) (zatO I e)
  rw [List.append_assoc] at this
  exact this
noncomputable def tabB (told:List Bd):List Bd:=told.foldl addB []
theorem zahG (told:List Bd):zajm told (tabB told):=by
 have:=zani told [] [] zas5
 rwa [List.nil_append] at this
theorem zanI (E:List Bd) (p q:Nat) (v:Int):(putV E p q v).length<=E.length + 1:=by
 unfold putV
 split
 · simp
 · simp
theorem zalS {α β:Type} (f:β->α->β) (b:β) {xs:List α} {k:Nat} {x:α} (hx:xs[k]?=some x):(xs.take (k + 1)).foldl f b=f ((xs.take k).foldl f b) x:=by
 rw [List.take_add_one,hx,List.foldl_append]
 rfl
theorem zak2 (told:List Bd) (hl:told.length<=1000) (h:HI):zacd [.lst (told.map trip)] h=some (.ref h.length,h++[.dt ((tabB told).map kvOf)]):=by
 obtain ⟨l',h',e,⟨y2,y3,rfl⟩,rfl,_⟩:=zagG (i:=2) (body:=zacm) trip (fun k l h'=>(∃ y2 y3,l=[some (.lst (told.map trip)),some (.ref h.length),y2,y3])/\h'=h++[.dt (((told.take k).foldl addB []).map kvOf)]/\((told.take k).foldl addB []).length<=k) told 0 (by
  rintro k x hx l h' ⟨⟨y2,y3,rfl⟩,rfl,hk⟩
  rw [Nat.zero_add] at hk ⊢
  have kl:k < told.length:=(List.getElem?_eq_some_iff.mp hx).1
  rw [zalS addB [] hx]
  generalize (told.take k).foldl addB []=E at hk
  have ed:(h++[Ob.dt (E.map kvOf)])[h.length]?=some (.dt (E.map kvOf)):=by simp
  have LL:([some (Dt.lst (told.map trip)),some (.ref h.length),y2,y3]:LI).set 2 (some (trip x))=[some (Dt.lst (told.map trip)),some (.ref h.length),some (trip x),y3]:=rfl
  rw [LL]
  refine ⟨.nx [some (.lst (told.map trip)),some (.ref h.length),some (trip x),some (.ntp [(x.1:Int),(x.2.1:Int)])] (h++[.dt ((addB E x).map kvOf)]),?_,⟨_,_,rfl⟩,rfl,?_⟩
  · have g1:zaf5 (eV 1) (eV 3) (e2 oIx (eV 2) (eC (.int 2))) [some (.lst (told.map trip)),some (.ref h.length),some (trip x),some (.ntp [(x.1:Int),(x.2.1:Int)])] (h++[.dt (E.map kvOf)])=some (.int ((atB E x.1 x.2.1).getD x.2.2),h++[.dt (E.map kvOf)]):=by
     rw [zaot (n:=h.length) (k:=[(x.1:Int),(x.2.1:Int)]) (kvs:=E.map kvOf) (by simp) ed (by simp)]
     simp only [q_e2,q_eV,q_eC,List.getElem?_cons_zero,List.getElem?_cons_succ,zaae,zaaf,trip,zaaZ,zaim,Option.map_some]
     rw [zaqB ed,zand]
     cases atB E x.1 x.2.1 <;> rfl
    have g2:=zaqT (l:=[some (.lst (told.map trip)),some (.ref h.length),some (trip x),some (.ntp [(x.1:Int),(x.2.1:Int)])]) (h:=h++[.dt (E.map kvOf)]) (fe:=eF2 zajh (zaf5 (eV 1) (eV 3) (e2 oIx (eV 2) (eC (.int 2)))) (e2 oIx (eV 2) (eC (.int 2)))) (fo:=eV 1) (fy:=eV 3) (n:=h.length) (k:=[(x.1:Int),(x.2.1:Int)]) (kvs:=E.map kvOf)
     (d:=.int (min ((atB E x.1 x.2.1).getD x.2.2) x.2.2)) (by
      rw [q_F2,g1,zaaf]
      simp [trip]) (by simp) ed (by simp) (by simp; omega)
    rw [zaok] at g2
    have es:(h++[Ob.dt (E.map kvOf)]).set h.length (.dt ((addB E x).map kvOf))=h++[.dt ((addB E x).map kvOf)]:=by simp
    simp only [zacm,zaaC,zaaH,zasH,zaas,zaaw,q_e2,q_eV,q_eC,List.getElem?_cons_zero,List.getElem?_cons_succ,zaae,zaaf,trip,zaaZ,zaa9,zadb,Option.map_some,zany,List.set_cons_succ,List.set_cons_zero,zaaB]
    have g3:=g2
    simp only [trip] at g3
    rw [g3]
    show some (Rs.nx _ ((h++[Ob.dt (E.map kvOf)]).set h.length (.dt ((addB E x).map kvOf))))=_
    rw [es]
  · have:=zanI E x.1 x.2.1 (min ((atB E x.1 x.2.1).getD x.2.2) x.2.2)
    show (addB E x).length<=k + 1
    unfold addB
    omega) [some (.lst (told.map trip)),some (.ref h.length),none,none] (h++[.dt []]) ⟨⟨_,_,rfl⟩,by simp,by simp⟩
 rw [Nat.zero_add,List.take_length] at e
 simp [zacd,zadO,e]
 rfl
end G
namespace G
open PySem PySem.Spec PyProof.Rows L2 SM BF
noncomputable def zacJ:Option Nat->Dt
 | none=>.non
 | some q=>.int (q:Nat)
noncomputable def zabb (n:Nat) (t:Nat->Int):List Dt:=(List.range n).map fun i=>.int (t i)
noncomputable def zabD (n:Nat) (c:Nat->Option Nat):List Dt:=(List.range n).map fun i=>zacJ (c i)
theorem zaiV (n:Nat) (t:Nat->Int):(zabb n t).length=n:=by simp [zabb]
theorem zakH (n:Nat) (c:Nat->Option Nat):(zabD n c).length=n:=by simp [zabD]
theorem zaip {n p:Nat} (t:Nat->Int) (hp:p < n):(zabb n t)[p]?=some (.int (t p)):=by simp [zabb,hp]
theorem zaiK {n p:Nat} (c:Nat->Option Nat) (hp:p < n):(zabD n c)[p]?=some (zacJ (c p)):=by simp [zabD,hp]
theorem zalE {α β:Type} (n p:Nat) (f:Nat->α) (D:α->β) (v:α):((List.range n).map fun i=>D (f i)).set p (D v)=(List.range n).map fun i=>D (put f p v i):=by
 apply List.ext_getElem?
 intro i
 rw [List.getElem?_set]
 simp only [List.getElem?_map,List.length_map,List.length_range]
 by_cases h:p=i
 · subst h
   by_cases hp:p < n
   · simp [hp,zac2]
   · simp [hp,List.getElem?_eq_none]
 · have h':i ≠ p:=fun z=>h z.symm
   rw [if_neg h]
   by_cases hi:i < n
   · simp [hi,zacU _ _ h']
   · simp [List.getElem?_eq_none,hi]
theorem zapW (n p:Nat) (t:Nat->Int) (v:Int):(zabb n t).set p (.int v)=zabb n (put t p v):=zalE n p t Dt.int v
theorem zaoZ (n p q:Nat) (c:Nat->Option Nat):(zabD n c).set p (.int (q:Nat))=zabD n (put c p (some q)):=zalE n p c zacJ (some q)
structure MvAt (h0:HI) (a b c n:Nat) (E:List Bd) (s:Stt) (h:HI):Prop where
 len:h.length=h0.length
 da:h[a]?=some (.df (E.map kvOf))
 db:h[b]?=some (.lst (zabb n s.t))
 dc:h[c]?=some (.lst (zabD n s.c))
 els:∀ m,m ≠ a->m ≠ b->m ≠ c->h[m]?=h0[m]?
noncomputable def unkv (x:List Int × Dt):Bd:=match x with
 | ([p,q],.int m)=>(p.toNat,q.toNat,m)
 | _=>(0,0,0)
theorem zasA (e:Bd):unkv (kvOf e)=e:=by simp [unkv,kvOf]
theorem zas8 {h0:HI} {a b c n:Nat} (ab:a ≠ b) (ac:a ≠ c) (bc:b ≠ c) {E:List Bd} {e:Bd} (he:e.1 < n/\e.2.1 < n) {s:Stt} {h:HI} (M:MvAt h0 a b c n E s h) :
 ∃ h',zadR [some (.ref a),some (.ref b),some (.ref c),some (zacJ s.l),some (.tup [.int (e.1:Nat),.int (e.2.1:Nat)]),some (.int e.2.2)] h=some (.nx [some (.ref a),some (.ref b),some (.ref c),some (zacJ (step s e).l),some (.tup [.int (e.1:Nat),.int (e.2.1:Nat)]),some (.int e.2.2)] h')/\MvAt h0 a b c n E (step s e) h':=by
 obtain ⟨p,q,m⟩:=e
 obtain ⟨hp,hq⟩:=he
 have xb:=fun i=>zaeN M.db i
 have tp:=zaip s.t hp
 have tq:=zaip s.t hq
 have blt:b < h.length:=(List.getElem?_eq_some_iff.mp M.db).1
 have clt:c < h.length:=(List.getElem?_eq_some_iff.mp M.dc).1
 by_cases hm:s.t p > s.t q + m
 · have es:step s (p,q,m)=⟨put s.t p (s.t q + m),put s.c p (some q),some p⟩:=if_pos hm
   rw [es]
   have hm':decide (s.t q + m < s.t p)=true:=decide_eq_true hm
   have g1:=zaik (l:=[some (.ref a),some (.ref b),some (.ref c),some (zacJ s.l),some (.tup [.int (p:Nat),.int (q:Nat)]),some (.int m)]) (v:=.int (s.t q + m)) (k:=p) M.db (by rw [zaiV]; exact hp)
   rw [zapW] at g1
   have c2:(h.set b (.lst (zabb n (put s.t p (s.t q + m)))))[c]?=some (.lst (zabD n s.c)):=by rw [List.getElem?_set_ne bc]; exact M.dc
   have g2:=zaik (l:=[some (.ref a),some (.ref b),some (.ref c),some (zacJ s.l),some (.tup [.int (p:Nat),.int (q:Nat)]),some (.int m)]) (v:=.int (q:Nat)) (k:=p) c2 (by rw [zakH]; exact hp)
   rw [zaoZ] at g2
   refine ⟨(h.set b (.lst (zabb n (put s.t p (s.t q + m))))).set c (.lst (zabD n (put s.c p (some q)))),?_,?_⟩
   · simp only [zadR,zaa7,q_tB,q_e2,q_eV,q_eC,List.getElem?_cons_zero,List.getElem?_cons_succ,zaae,zaaf,zaaZ,zaa9,zadb,Option.map_some,xb,SM.zabL,tp,tq,zado,o_gt,zaaK,hm',if_true,zaaC,zaoc,g1,zaaB,g2,zaaH,List.set_cons_succ,List.set_cons_zero]
     rfl
   · refine ⟨by simp [M.len],?_,?_,?_,fun k h1 h2 h3=>?_⟩
     · rw [List.getElem?_set_ne (Ne.symm ac),List.getElem?_set_ne (Ne.symm ab)]; exact M.da
     · rw [List.getElem?_set_ne (Ne.symm bc),List.getElem?_set_self blt]
     · rw [List.getElem?_set_self (by simp; exact clt)]
     · rw [List.getElem?_set_ne (Ne.symm h3),List.getElem?_set_ne (Ne.symm h2)]; exact M.els k h1 h2 h3
 · have es:step s (p,q,m)=s:=if_neg hm
   rw [es]
   have hm':decide (s.t q + m < s.t p)=false:=decide_eq_false hm
   refine ⟨h,?_,M⟩
   simp only [zadR,zaa7,q_tB,q_e2,q_eV,q_eC,List.getElem?_cons_zero,List.getElem?_cons_succ,zaae,zaaf,zaaZ,zaa9,zadb,Option.map_some,xb,SM.zabL,tp,tq,zado,o_gt,zaaK,hm',Bool.false_eq_true,if_false,zabs]
theorem zatN {h0:HI} {a b c n:Nat} (ab:a ≠ b) (ac:a ≠ c) (bc:b ≠ c) {E:List Bd} (hE:∀ e ∈ E,e.1 < n/\e.2.1 < n) {s:Stt} {h:HI} (M:MvAt h0 a b c n E s h) (x4 x5:Option Dt) :
 ∃ x4' x5' h',forK (zaec 4 5) zadR [some (.ref a),some (.ref b),some (.ref c),some (zacJ s.l),x4,x5] (.it a,h)=some (.nx [some (.ref a),some (.ref b),some (.ref c),some (zacJ (E.foldl step s).l),x4',x5'] h')/\MvAt h0 a b c n E (E.foldl step s) h':=by
 obtain ⟨l',h',e,⟨y4,y5,rfl⟩,M'⟩:=zatt (i:=4) (j:=5) (n:=a) (body:=zadR) (kvs:=E.map kvOf) (fun (s:Stt) l h=>(∃ y4 y5,l=[some (.ref a),some (.ref b),some (.ref c),some (zacJ s.l),y4,y5])/\MvAt h0 a b c n E s h) (fun s x=>step s (unkv x)) (fun s l h ⟨_,M⟩=>M.da) (by
  rintro x hx s l h ⟨⟨y4,y5,rfl⟩,M⟩
  obtain ⟨e,he,rfl⟩:=List.mem_map.mp hx
  obtain ⟨h',e1,M'⟩:=zas8 ab ac bc (hE e he) M
  rw [zasA]
  exact ⟨_,e1,⟨_,_,rfl⟩,M'⟩) s ⟨⟨x4,x5,rfl⟩,M⟩
 have ef:(E.map kvOf).foldl (fun s x=>step s (unkv x)) s=E.foldl step s:=by
  simp only [List.foldl_map,zasA]
 rw [ef] at e M'
 exact ⟨y4,y5,h',e,M'⟩
theorem zat8 {a b c n:Nat} (ab:a ≠ b) (ac:a ≠ c) (bc:b ≠ c) {E:List Bd} (hE:∀ e ∈ E,e.1 < n/\e.2.1 < n) {s:Stt} {h:HI} (da:h[a]?=some (.dt (E.map kvOf))\/h[a]?=some (.df (E.map kvOf))) (db:h[b]?=some (.lst (zabb n s.t))) (dc:h[c]?=some (.lst (zabD n s.c))) :
 ∃ h',zafA [.ref a,.ref b,.ref c] h=some (zacJ (turn E s).l,h')/\MvAt h a b c n E (turn E s) h':=by
 have alt:a < h.length:=by rcases da with da | da <;> exact (List.getElem?_eq_some_iff.mp da).1
 obtain ⟨h1,ei,M⟩:∃ h1,zag1 (eV 0) [some (.ref a),some (.ref b),some (.ref c),some .non,none,none] h=some (.it a,h1)/\MvAt h a b c n E ⟨s.t,s.c,none⟩ h1:=by
  rcases da with da | da
  · refine ⟨_,zapL (by simp) da,⟨by simp,List.getElem?_set_self alt,?_,?_,fun m h1 _ _=>List.getElem?_set_ne (Ne.symm h1)⟩⟩
    · rw [List.getElem?_set_ne ab]; exact db
    · rw [List.getElem?_set_ne ac]; exact dc
  · exact ⟨_,zaq3 (by simp) da,⟨rfl,da,db,dc,fun _ _ _ _=>rfl⟩⟩
 obtain ⟨y4,y5,h',e,M'⟩:=zatN ab ac bc hE M none none
 refine ⟨h',?_,M'⟩
 have e':forK (zaec 4 5) zadR [some (.ref a),some (.ref b),some (.ref c),some .non,none,none] (.it a,h1)=_:=e
 simp only [zafA,zajq,q_fn,List.length_cons,List.length_nil,if_true,List.map_cons,List.map_nil,List.replicate,List.cons_append,List.nil_append,zaaC,zaaH,q_eC,zaaf,List.set_cons_succ,List.set_cons_zero,zaaB,zacX]
 simp [ei,e']
 rfl
end G
namespace G
open PySem PySem.Spec PyProof.Rows L2 SM BF
theorem zasl (l:LI) (h:HI) (b:Dt) (h':HI) (e:zae5 l h=some (b,h')):h'=h:=by
 simp only [zae5,q_e2,q_eV] at e
 rcases h0:l[0]? with _ | _ | d0
 · rw [h0] at e; cases e
 · rw [h0] at e; cases e
 · rcases h1:l[1]? with _ | _ | d1
   · rw [h0,h1] at e; cases e
   · rw [h0,h1] at e; cases e
   · rw [h0,h1] at e
     simp only [zaae,zaaf] at e
     cases d0 <;> cases d1 <;> simp [oSub,oI0] at e
     exact e.2.symm
theorem zakg (n:Nat) (t:Nat->Int):zabb n t=((List.range n).map t).map Dt.int:=by
 unfold zabb
 rw [List.map_map]
 rfl
structure TmAt (h0:HI) (n:Nat) (E:List Bd) (s:Stt) (h:HI):Prop where
 len:h.length=h0.length + 3
 da:h[h0.length]?=some (.dt (E.map kvOf))\/h[h0.length]?=some (.df (E.map kvOf))
 db:h[h0.length + 1]?=some (.lst (zabb n s.t))
 dc:h[h0.length + 2]?=some (.lst (zabD n s.c))
 els:∀ m,m < h0.length->h[m]?=h0[m]?
noncomputable def zadC (n:Nat) (t:Nat->Int):Nat->Int:=fun i=>t i - minL ((List.range n).map t)
theorem zasW {h0:HI} {n:Nat} (hn:1<=n) (hn2:n<=1000) {E:List Bd} (hE:∀ e ∈ E,e.1 < n/\e.2.1 < n) {s:Stt} {h:HI} (M:TmAt h0 n E s h) (x0 x1 x5 x6 x7:Option Dt) :
 ∃ h',TmAt h0 n E (turn E s) h'/\zaer [x0,x1,some (.ref h0.length),some (.ref (h0.length + 1)),some (.ref (h0.length + 2)),x5,x6,x7] h =
  (match (turn E s).l with
  | none=>some (.rt (.tup [.str "times", .lst (zabb n (zadC n (turn E s).t))]) h')
  | some p=>some (.nx [x0,x1,some (.ref h0.length),some (.ref (h0.length + 1)),some (.ref (h0.length + 2)),x5,some (.int (p:Nat)),x7] h')):=by
 obtain ⟨h',e,M'⟩:=zat8 (a:=h0.length) (b:=h0.length + 1) (c:=h0.length + 2) (by omega) (by omega) (by omega) hE M.da M.db M.dc
 refine ⟨h',⟨by rw [M'.len,M.len],.inr M'.da,M'.db,M'.dc,fun m hm=>(M'.els m (by omega) (by omega) (by omega)).trans (M.els m hm)⟩,?_⟩
 cases q:(turn E s).l with
 | some p=>
  rw [q] at e
  have e':zafA [.ref h0.length,.ref (h0.length + 1),.ref (h0.length + 2)] h=some (.int (p:Nat),h'):=e
  simp [zaer,e',zafX]
 | none=>
  rw [q] at e
  have e':zafA [.ref h0.length,.ref (h0.length + 1),.ref (h0.length + 2)] h=some (.non,h'):=e
  have hne:(List.range n).map (turn E s).t ≠ []:=by
   intro z
   have:=congrArg List.length z
   simp at this
   omega
  have em:zapn (eC (.int 0)) [x0,x1,some (.ref h0.length),some (.ref (h0.length + 1)),some (.ref (h0.length + 2)),x5,some .non,x7] (.ref (h0.length + 1),h')=some (.int (minL ((List.range n).map (turn E s).t)),h'):=by
   unfold zapn
   rw [q_eC,zaaf,zarr M'.db,zakg]
   simp only [Option.bind_some,SM.zard]
   rw [if_pos hne]
  have ec:zadT (gSet 0) zabh zae5 [none,some (.int (minL ((List.range n).map (turn E s).t)))] (.rf (h0.length + 1),h')=some (zabb n (zadC n (turn E s).t),h'):=by
   rw [zaj0 M'.db (by rw [zaiV]; simp; omega) (fun l h b h' e q=>by simp at e; rw [<- e.2]; exact q) (fun l h b h' e q=>by rw [zasl l h b h' e]; exact q)]
   rw [zakg,zael Dt.int (fun x=>Dt.int (x - minL ((List.range n).map (turn E s).t))) h' _ _ (by
    intro x hx
    exact ⟨by simp,by simp [zae5]⟩)]
   unfold zabb zadC
   rw [List.map_map]
   rfl
  simp [zaer,e',zafX,em,zacG M'.db,ec]
end G
namespace G
open PySem PySem.Spec PyProof.Rows L2 SM BF
theorem zalk {h0:HI} {n:Nat} (hn:1<=n) (hn2:n<=1000) {E:List Bd} (hE:∀ e ∈ E,e.1 < n/\e.2.1 < n) (x0 x1:Option Dt):∀ (xs:List Dt) (k:Nat) (x5 x6 x7:Option Dt) (h:HI),TmAt h0 n E (zacy E k s0) h->(1<=k->∃ p:Nat,(zacy E k s0).l=some p/\x6=some (.int (p:Nat)))->
 (∃ s h',s.l=none/\(∀ e ∈ E,Sat s.t e)/\TmAt h0 n E s h'/\zab1 (gSet 5) zaer xs [x0,x1,some (.ref h0.length),some (.ref (h0.length + 1)),some (.ref (h0.length + 2)),x5,x6,x7] h=some (.rt (.tup [.str "times", .lst (zabb n (zadC n s.t))]) h'))\/
 (∃ y5 y6 h',TmAt h0 n E (zacy E (k + xs.length) s0) h'/\(1<=k + xs.length->∃ p:Nat,(zacy E (k + xs.length) s0).l=some p/\y6=some (.int (p:Nat)))/\
  zab1 (gSet 5) zaer xs [x0,x1,some (.ref h0.length),some (.ref (h0.length + 1)),some (.ref (h0.length + 2)),x5,x6,x7] h=some (.nx [x0,x1,some (.ref h0.length),some (.ref (h0.length + 1)),some (.ref (h0.length + 2)),y5,y6,x7] h'))
 | [],k,x5,x6,x7,h,M,q=>.inr ⟨x5,x6,h,M,q,rfl⟩
 | x::xs,k,x5,x6,x7,h,M,q=>by
  obtain ⟨h1,M1,e1⟩:=zasW hn hn2 hE M x0 x1 (some x) x6 x7
  cases ql:(turn E (zacy E k s0)).l with
  | none=>
   rw [ql] at e1
   obtain ⟨_,p2,p3⟩:=zalZ E _ ql
   refine .inl ⟨turn E (zacy E k s0),h1,ql,?_,M1,by simp [zab1,e1]⟩
   show ∀ e ∈ E,Sat (E.foldl step _).t e
   rw [p2]
   exact p3
  | some p=>
   rw [ql] at e1
   have:=zalk hn hn2 hE x0 x1 xs (k + 1) (some x) (some (.int (p:Nat))) x7 h1 M1 (fun _=>⟨p,ql,rfl⟩)
   rw [show k + (x::xs).length=k + 1 + xs.length by simp; omega]
   rcases this with ⟨s,h',a1,a2,a3,a4⟩ | ⟨y5,y6,h',a1,a2,a3⟩
   · exact .inl ⟨s,h',a1,a2,a3,by simp [zab1,e1,a4]⟩
   · exact .inr ⟨y5,y6,h',a1,a2,by simp [zab1,e1,a3]⟩
noncomputable def zabK (c:Nat->Option Nat) (P i:Nat):List Dt:=(List.range (i + 1)).map fun m=>.int ((itr (nxt c) m P:Nat):Int)
theorem zapT (c:Nat->Option Nat) (P i:Nat):atI (zabK c P i) (-1)=some (.int ((itr (nxt c) i P:Nat):Int)):=by
 unfold zabK atI ixN
 have h1:(1:Int)<=(i:Int) + 1:=by omega
 have h2:(-1 + ((i:Int) + 1)).toNat=i:=by omega
 simp [h1,h2]
theorem zaiq {n a k x:Nat} (hn:1<=n) (hn2:n<=90) {E:List Bd} {w:Nat->Nat->Int} {c:Nat->Option Nat} {h:HI} (dc:h[a]?=some (.lst (zabD n c))) (T:Tab n E)
 (R:Ring n E w c (itr (nxt c) n x) k) (cd:∀ i,i<=n->c (itr (nxt c) i x)=some (itr (nxt c) (i + 1) x)/\itr (nxt c) i x < n) :
 zad2 [.int (x:Nat),.ref a] h=some (.ref h.length,h++[.lst (zabK c (itr (nxt c) n x) k)]):=by
 have xc:=fun i=>zaeN dc i
 have er:=zadE (h:=h) (show (-(2 ^ 62):Int)<=(n:Int) by omega) (show (n:Int) < 2 ^ 62 by omega)
 simp only [Int.toNat_natCast] at er
 obtain ⟨l',h',e,⟨y,rfl⟩,hh⟩:=zafh (i:=2) (body:=zaef) (fun (k:Nat)=>Dt.int (k:Int)) (fun i l h'=>(∃ y,l=[some (.int ((itr (nxt c) i x:Nat):Int)),some (.ref a),y,none])/\h'=h) n (by
  rintro i hi l h' ⟨⟨y,rfl⟩,rfl⟩
  obtain ⟨c1,c2⟩:=cd i (by omega)
  have ca:=zaiK c c2
  rw [c1] at ca
  refine ⟨.nx [some (.int ((itr (nxt c) (i + 1) x:Nat):Int)),some (.ref a),some (.int (i:Nat)),none] h',?_,⟨_,rfl⟩,rfl⟩
  simp only [zaef,zaaH,q_e2,q_eV,List.set_cons_succ,List.set_cons_zero,List.getElem?_cons_zero,List.getElem?_cons_succ,zaae,zaaf,xc,SM.zabL,ca,Option.map_some,zacJ]) [some (.int (x:Nat)),some (.ref a),none,none] h ⟨⟨_,rfl⟩,rfl⟩
 rw [hh] at e
 clear hh
 obtain ⟨c1,c2⟩:=cd n (Nat.le_refl _)
 generalize hP:itr (nxt c) n x=P at R e c1 c2
 have c1':c P=some (itr (nxt c) (n + 1) x):=c1
 have caP:=zaiK c c2
 have f1:itr (nxt c) (n + 1) x=nxt c P:=by show nxt c (itr (nxt c) n x)=_; rw [hP]
 rw [c1',f1] at caP
 obtain ⟨r,ew,Rr⟩:=zalV (t:=zad9) (body:=zaed) (fun m l h'=>∃ i,1<=i/\i<=k/\m=k - i/\l=[some (.int (P:Nat)),some (.ref a),y,some (.ref h.length)]/\h'=h++[.lst (zabK c P i)])
  (fun l h'=>l=[some (.int (P:Nat)),some (.ref a),y,some (.ref h.length)]/\h'=h++[.lst (zabK c P k)]) (fun _ _=>False) (by
  rintro m l h' ⟨i,i1,i2,rfl,rfl,rfl⟩
  have dr:(h++[Ob.lst (zabK c P i)])[h.length]?=some (.lst (zabK c P i)):=by simp
  have dc':(h++[Ob.lst (zabK c P i)])[a]?=some (.lst (zabD n c)):=by
   rw [List.getElem?_append_left (List.getElem?_eq_some_iff.mp dc).1]; exact dc
  have xr:=fun j=>zaeN dr j
  have xc':=fun j=>zaeN dc' j
  have rl:=zapT c P i
  refine ⟨!decide (((itr (nxt c) i P:Nat):Int)=(P:Int)),h++[.lst (zabK c P i)],?_,?_⟩
  · simp only [zad9,q_tB,q_e2,q_eV,zasu,q_eC,zamw,List.getElem?_cons_zero,List.getElem?_cons_succ,zaae,zaaf,xr,rl,Option.map_some,o_ne,zaaK]
  · by_cases hk:i=k
    · subst hk
      rw [R.back]
      simp
    · have ne:=R.first i i1 (by omega)
      have ne':¬ (((itr (nxt c) i P:Nat):Int)=(P:Int)):=fun z=>ne (by omega)
      rw [decide_eq_false ne']
      obtain ⟨g1,g2⟩:=R.edge i i2
      have glt:=(T.lt _ g1).1
      have ca:=zaiK c glt
      rw [g2] at ca
      have ea:e2 oIx (eV 1) (e2 oIx (eV 3) (uNeg (eC (.int 1)))) [some (.int (P:Nat)),some (.ref a),y,some (.ref h.length)] (h++[.lst (zabK c P i)])=some (.int ((itr (nxt c) (i + 1) P:Nat):Int),h++[.lst (zabK c P i)]):=by
       simp only [q_e2,q_eV,zasu,q_eC,zamw,List.getElem?_cons_zero,List.getElem?_cons_succ,zaae,zaaf,xr,rl,Option.map_some,xc',SM.zabL,ca,zacJ]
      have ap:=zadv (l:=[some (.int (P:Nat)),some (.ref a),y,some (.ref h.length)]) (g:=e2 oIx (eV 1) (e2 oIx (eV 3) (uNeg (eC (.int 1))))) dr ea dr (by have:=R.le; simp [zabK]; omega)
      have en:zabK c P i++[.int ((itr (nxt c) (i + 1) P:Nat):Int)]=zabK c P (i + 1):=by
       unfold zabK
       rw [List.range_succ (n:=i + 1),List.map_append]
       rfl
      rw [en] at ap
      have es:(h++[Ob.lst (zabK c P i)]).set h.length (.lst (zabK c P (i + 1)))=h++[.lst (zabK c P (i + 1))]:=by simp
      rw [es] at ap
      refine ⟨.nx [some (.int (P:Nat)),some (.ref a),y,some (.ref h.length)] (h++[.lst (zabK c P (i + 1))]),?_,k - (i + 1),by omega,i + 1,by omega,by omega,rfl,rfl,rfl⟩
      simp only [zaed,zab4,zacA,q_eV,List.getElem?_cons_zero,List.getElem?_cons_succ,zaae,zaaf,ap]) 100 (k - 1) [some (.int (P:Nat)),some (.ref a),y,some (.ref h.length)] (h++[.lst (zabK c P 1)]) ⟨1,Nat.le_refl _,R.pos,rfl,rfl,rfl⟩ (by have:=R.le; omega)
 cases r with
 | nx l2 h2=>
  obtain ⟨rfl,rfl⟩:=Rr
  have e1:zabK c P 1=[.int (P:Nat),.int ((nxt c P:Nat):Int)]:=rfl
  rw [e1] at ew
  simp [zad2,zaeL,zaiE dc,zakH,er,e,xc,caP,zacJ,ew]
 | rt d h2=>exact Rr.elim
 | bk l2 h2=>exact Rr.elim
 | ct l2 h2=>exact Rr.elim
end G
namespace G
open PySem PySem.Spec PyProof.Rows L2 SM BF
noncomputable def wOf (told:List Bd) (p q:Nat):Int:=(atB (tabB told) p q).getD 0
theorem w_of {told:List Bd} {e:Bd} (he:e ∈ tabB told):wOf told e.1 e.2.1=e.2.2:=by
 unfold wOf atB
 cases q:(tabB told).find? (keyB e.1 e.2.1) with
 | none=>
  have:=List.find?_eq_none.mp q e he
  exact absurd (keyB_iff.mpr ⟨rfl,rfl⟩) this
 | some x=>
  obtain ⟨h1,h2⟩:=keyB_iff.mp (List.find?_some q)
  exact (zahG told).un x (List.mem_of_find?_eq_some q) e he h1 h2
theorem zaos {n:Nat} {told:List Bd} (hT:∀ e ∈ told,e.1 < n/\e.2.1 < n/\e.1 ≠ e.2.1):Tab n (tabB told):=⟨fun e he=>hT e ((zahG told).mem e he),(zahG told).un⟩
theorem zaxn {n:Nat} (hn:1<=n) (hn2:n<=16) (told:List Bd) (hT:∀ e ∈ told,e.1 < n/\e.2.1 < n/\e.1 ≠ e.2.1) (hl:told.length<=1000) (h:HI) :
 (∃ t h',(∀ e ∈ told,Sat t e)/\(∀ m,m < h.length->h'[m]?=h[m]?)/\zadQ [.int (n:Nat),.lst (told.map trip)] h=some (.tup [.str "times", .lst (zabb n (zadC n t))],h'))\/
 (∃ c P k r h',Ring n (tabB told) (wOf told) c P k/\(∀ m,m < h.length->h'[m]?=h[m]?)/\h'[r]?=some (.lst (zabK c P k))/\zadQ [.int (n:Nat),.lst (told.map trip)] h=some (.tup [.str "ring", .ref r],h')):=by
 have T:=zaos hT
 have hE:∀ e ∈ tabB told,e.1 < n/\e.2.1 < n:=fun e he=>⟨(T.lt e he).1,(T.lt e he).2.1⟩
 have eb:=zak2 told hl h
 have r1:=zahg (h:=h++[.dt ((tabB told).map kvOf)]) (Dt.int 0) (show n<=1000000 by omega)
 have r2:=zahg (h:=h++[.dt ((tabB told).map kvOf)]++[.lst (List.replicate n (Dt.int 0))]) Dt.non (show n<=1000000 by omega)
 have t0:List.replicate n (Dt.int 0)=zabb n s0.t:=by
  unfold zabb
  rw [show (fun i=>Dt.int (s0.t i))=fun _=>Dt.int 0 from rfl,List.map_const',List.length_range]
 have c0:List.replicate n Dt.non=zabD n s0.c:=by
  unfold zabD
  rw [show (fun i=>zacJ (s0.c i))=fun _=>Dt.non from rfl,List.map_const',List.length_range]
 rw [t0] at r1 r2
 rw [c0] at r2
 simp only [List.append_assoc,List.cons_append,List.nil_append,List.length_append,List.length_cons,List.length_nil,Nat.zero_add] at r1 r2
 have er:=fun h=>zadE (h:=h) (show (-(2 ^ 62):Int)<=(n:Int) + 1 by omega) (show (n:Int) + 1 < 2 ^ 62 by omega)
 have en:((n:Int) + 1).toNat=n + 1:=by omega
 rw [en] at er
 have M:TmAt h n (tabB told) (zacy (tabB told) 0 s0) (h++[.dt ((tabB told).map kvOf),.lst (zabb n s0.t),.lst (zabD n s0.c)]):=by
  refine ⟨by simp,.inl ?_,?_,?_,fun m hm=>List.getElem?_append_left hm⟩
  · rw [List.getElem?_append_right (Nat.le_refl _),Nat.sub_self]; rfl
  · rw [List.getElem?_append_right (by omega),Nat.add_sub_cancel_left]; rfl
  · rw [List.getElem?_append_right (by omega),Nat.add_sub_cancel_left]; rfl
 rcases zalk hn (by omega) hE (some (.int (n:Nat))) (some (.lst (told.map trip))) ((List.range (n + 1)).map fun (k:Nat)=>Dt.int (k:Int)) 0 none none none _ M (fun h=>absurd h (by omega)) with ⟨s,h',a1,a2,a3,a4⟩ | ⟨y5,y6,h',a1,a2,a3⟩
 · refine .inl ⟨s.t,h',fun e he=>?_,a3.els,?_⟩
   · obtain ⟨x,hx,x1,x2,x3⟩:=(zahG told).low e he
     have:=a2 x hx
     simp only [Sat] at this ⊢
     rw [x1,x2] at this
     omega
   · simp [zadQ,zafL,eb,r1,r2,er,a4]
 · rw [List.length_map,List.length_range,Nat.zero_add] at a1 a2
   obtain ⟨p,ql,rfl⟩:=a2 (by omega)
   obtain ⟨u,D,I,_⟩:=zaj2 T (fun e he=>w_of he) n
   obtain ⟨k,R,cd⟩:=zaop T I ql
   have g:=zaiq hn (by omega) a1.dc T R cd
   refine .inr ⟨(zacy (tabB told) (n + 1) s0).c,itr (nxt (zacy (tabB told) (n + 1) s0).c) n p,k,h'.length,h'++[.lst (zabK (zacy (tabB told) (n + 1) s0).c (itr (nxt (zacy (tabB told) (n + 1) s0).c) n p) k)],R,fun m hm=>?_,?_,?_⟩
   · rw [List.getElem?_append_left (by rw [a1.len]; omega)]
     exact a1.els m hm
   · rw [List.getElem?_append_right (Nat.le_refl _),Nat.sub_self]; rfl
   · simp [zadQ,zafL,eb,r1,r2,er,a3,g]
end G
namespace G
open PySem PySem.Spec PyProof.Rows L2 SM BF
theorem zakr (told:List Bd) (hl:told.length<=1000) (h:HI) {a:Nat} (da:h[a]?=some (.lst (told.map trip))):zacd [.ref a] h=some (.ref h.length,h++[.dt ((tabB told).map kvOf)]):=by
 obtain ⟨l',h',e,⟨y2,y3,rfl⟩,rfl,_⟩:=zamt (i:=2) (n:=a) (body:=zacm) trip (fun k l h'=>(∃ y2 y3,l=[some (.ref a),some (.ref h.length),y2,y3])/\h'=h++[.dt (((told.take k).foldl addB []).map kvOf)]/\((told.take k).foldl addB []).length<=k) told (by
  rintro k l h' ⟨_,rfl,_⟩
  rw [List.getElem?_append_left (List.getElem?_eq_some_iff.mp da).1]
  exact da) (by
  rintro k x hx l h' ⟨⟨y2,y3,rfl⟩,rfl,hk⟩
  have kl:k < told.length:=(List.getElem?_eq_some_iff.mp hx).1
  rw [zalS addB [] hx]
  generalize (told.take k).foldl addB []=E at hk
  have ed:(h++[Ob.dt (E.map kvOf)])[h.length]?=some (.dt (E.map kvOf)):=by simp
  have LL:([some (Dt.ref a),some (.ref h.length),y2,y3]:LI).set 2 (some (trip x))=[some (Dt.ref a),some (.ref h.length),some (trip x),y3]:=rfl
  rw [LL]
  refine ⟨.nx [some (.ref a),some (.ref h.length),some (trip x),some (.ntp [(x.1:Int),(x.2.1:Int)])] (h++[.dt ((addB E x).map kvOf)]),?_,⟨_,_,rfl⟩,rfl,?_⟩
  · have g1:zaf5 (eV 1) (eV 3) (e2 oIx (eV 2) (eC (.int 2))) [some (.ref a),some (.ref h.length),some (trip x),some (.ntp [(x.1:Int),(x.2.1:Int)])] (h++[.dt (E.map kvOf)])=some (.int ((atB E x.1 x.2.1).getD x.2.2),h++[.dt (E.map kvOf)]):=by
     rw [zaot (n:=h.length) (k:=[(x.1:Int),(x.2.1:Int)]) (kvs:=E.map kvOf) (by simp) ed (by simp)]
     simp only [q_e2,q_eV,q_eC,List.getElem?_cons_zero,List.getElem?_cons_succ,zaae,zaaf,trip,zaaZ,zaim,Option.map_some]
     rw [zaqB ed,zand]
     cases atB E x.1 x.2.1 <;> rfl
    have g2:=zaqT (l:=[some (.ref a),some (.ref h.length),some (trip x),some (.ntp [(x.1:Int),(x.2.1:Int)])]) (h:=h++[.dt (E.map kvOf)]) (fe:=eF2 zajh (zaf5 (eV 1) (eV 3) (e2 oIx (eV 2) (eC (.int 2)))) (e2 oIx (eV 2) (eC (.int 2)))) (fo:=eV 1) (fy:=eV 3) (n:=h.length) (k:=[(x.1:Int),(x.2.1:Int)]) (kvs:=E.map kvOf)
     (d:=.int (min ((atB E x.1 x.2.1).getD x.2.2) x.2.2)) (by
      rw [q_F2,g1,zaaf]
      simp [trip]) (by simp) ed (by simp) (by simp; omega)
    rw [zaok] at g2
    have es:(h++[Ob.dt (E.map kvOf)]).set h.length (.dt ((addB E x).map kvOf))=h++[.dt ((addB E x).map kvOf)]:=by simp
    simp only [zacm,zaaC,zaaH,zasH,zaas,zaaw,q_e2,q_eV,q_eC,List.getElem?_cons_zero,List.getElem?_cons_succ,zaae,zaaf,trip,zaaZ,zaa9,zadb,Option.map_some,zany,List.set_cons_succ,List.set_cons_zero,zaaB]
    have g3:=g2
    simp only [trip] at g3
    rw [g3]
    show some (Rs.nx _ ((h++[Ob.dt (E.map kvOf)]).set h.length (.dt ((addB E x).map kvOf))))=_
    rw [es]
  · have:=zanI E x.1 x.2.1 (min ((atB E x.1 x.2.1).getD x.2.2) x.2.2)
    show (addB E x).length<=k + 1
    unfold addB
    omega) [some (.ref a),some (.ref h.length),none,none] (h++[.dt []]) ⟨⟨_,_,rfl⟩,by simp,by simp⟩
 have da':(h++[Ob.dt []])[a]?=some (.lst (told.map trip)):=by
  rw [List.getElem?_append_left (List.getElem?_eq_some_iff.mp da).1]
  exact da
 rw [List.take_length] at e
 simp [zacd,zadO,zacG da',e]
 rfl
theorem zam0 {n a:Nat} (hn:1<=n) (hn2:n<=16) (told:List Bd) (hT:∀ e ∈ told,e.1 < n/\e.2.1 < n/\e.1 ≠ e.2.1) (hl:told.length<=1000) (h:HI) (da:h[a]?=some (.lst (told.map trip))) :
 (∃ t h',(∀ e ∈ told,Sat t e)/\(∀ m,m < h.length->h'[m]?=h[m]?)/\zadQ [.int (n:Nat),.ref a] h=some (.tup [.str "times", .lst (zabb n (zadC n t))],h'))\/
 (∃ c P k r h',Ring n (tabB told) (wOf told) c P k/\(∀ m,m < h.length->h'[m]?=h[m]?)/\h'[r]?=some (.lst (zabK c P k))/\zadQ [.int (n:Nat),.ref a] h=some (.tup [.str "ring", .ref r],h')/\h.length<=r):=by
 have T:=zaos hT
 have hE:∀ e ∈ tabB told,e.1 < n/\e.2.1 < n:=fun e he=>⟨(T.lt e he).1,(T.lt e he).2.1⟩
 have eb:=zakr told hl h da
 have r1:=zahg (h:=h++[.dt ((tabB told).map kvOf)]) (Dt.int 0) (show n<=1000000 by omega)
 have r2:=zahg (h:=h++[.dt ((tabB told).map kvOf)]++[.lst (List.replicate n (Dt.int 0))]) Dt.non (show n<=1000000 by omega)
 have t0:List.replicate n (Dt.int 0)=zabb n s0.t:=by
  unfold zabb
  rw [show (fun i=>Dt.int (s0.t i))=fun _=>Dt.int 0 from rfl,List.map_const',List.length_range]
 have c0:List.replicate n Dt.non=zabD n s0.c:=by
  unfold zabD
  rw [show (fun i=>zacJ (s0.c i))=fun _=>Dt.non from rfl,List.map_const',List.length_range]
 rw [t0] at r1 r2
 rw [c0] at r2
 simp only [List.append_assoc,List.cons_append,List.nil_append,List.length_append,List.length_cons,List.length_nil,Nat.zero_add] at r1 r2
 have er:=fun h=>zadE (h:=h) (show (-(2 ^ 62):Int)<=(n:Int) + 1 by omega) (show (n:Int) + 1 < 2 ^ 62 by omega)
 have en:((n:Int) + 1).toNat=n + 1:=by omega
 rw [en] at er
 have M:TmAt h n (tabB told) (zacy (tabB told) 0 s0) (h++[.dt ((tabB told).map kvOf),.lst (zabb n s0.t),.lst (zabD n s0.c)]):=by
  refine ⟨by simp,.inl ?_,?_,?_,fun m hm=>List.getElem?_append_left hm⟩
  · rw [List.getElem?_append_right (Nat.le_refl _),Nat.sub_self]; rfl
  · rw [List.getElem?_append_right (by omega),Nat.add_sub_cancel_left]; rfl
  · rw [List.getElem?_append_right (by omega),Nat.add_sub_cancel_left]; rfl
 rcases zalk hn (by omega) hE (some (.int (n:Nat))) (some (.ref a)) ((List.range (n + 1)).map fun (k:Nat)=>Dt.int (k:Int)) 0 none none none _ M (fun h=>absurd h (by omega)) with ⟨s,h',a1,a2,a3,a4⟩ | ⟨y5,y6,h',a1,a2,a3⟩
 · refine .inl ⟨s.t,h',fun e he=>?_,a3.els,?_⟩
   · obtain ⟨x,hx,x1,x2,x3⟩:=(zahG told).low e he
     have:=a2 x hx
     simp only [Sat] at this ⊢
     rw [x1,x2] at this
     omega
   · simp [zadQ,zafL,eb,r1,r2,er,a4]
 · rw [List.length_map,List.length_range,Nat.zero_add] at a1 a2
   obtain ⟨p,ql,rfl⟩:=a2 (by omega)
   obtain ⟨u,D,I,_⟩:=zaj2 T (fun e he=>w_of he) n
   obtain ⟨k,R,cd⟩:=zaop T I ql
   have g:=zaiq hn (by omega) a1.dc T R cd
   refine .inr ⟨(zacy (tabB told) (n + 1) s0).c,itr (nxt (zacy (tabB told) (n + 1) s0).c) n p,k,h'.length,h'++[.lst (zabK (zacy (tabB told) (n + 1) s0).c (itr (nxt (zacy (tabB told) (n + 1) s0).c) n p) k)],R,fun m hm=>?_,?_,?_,by rw [a1.len]; omega⟩
   · rw [List.getElem?_append_left (by rw [a1.len]; omega)]
     exact a1.els m hm
   · rw [List.getElem?_append_right (Nat.le_refl _),Nat.sub_self]; rfl
   · simp [zadQ,zafL,eb,r1,r2,er,a3,g]
end G
namespace G
open PySem PySem.Spec PyProof.Rows L2 SM BF
theorem zatc {n:Nat} {told:List Bd} {b:Nat->Int} {c:Nat->Option Nat} {P k:Nat} (hb:∀ e ∈ told,b e.1 - b e.2.1<=e.2.2) (R:Ring n (tabB told) (wOf told) c P k):False:=by
 have h1:∀ i,i<=k->b P - b (itr (nxt c) i P)<=((List.range i).map fun m=>wOf told (itr (nxt c) m P) (itr (nxt c) (m + 1) P)).sum:=by
  intro i
  induction i with
  | zero=>intro _; show b P - b P<=0; omega
  | succ i ih=>
   intro hi
   have h2:=ih (by omega)
   have h3:=hb _ ((zahG told).mem _ (R.edge i (by omega)).1)
   rw [List.range_succ,List.map_append,List.sum_append]
   simp only [List.map_cons,List.map_nil,List.sum_cons,List.sum_nil,Int.add_zero] at h3 ⊢
   omega
 have h2:=h1 k (Nat.le_refl _)
 rw [R.back] at h2
 have:=R.sum
 omega
end G
namespace G
open PySem PySem.Spec PyProof.Rows L2 SM BF
theorem zaxl {α:Type} {bd:RG} {n:Nat} {body:RS} (D:α->Dt) (I:LI->HI->Prop) (xs:List α) (hI:∀ l h,I l h->h[n]?=some (.lst (xs.map D)))
 (H:∀ x ∈ xs,∀ l h,I l h->∃ l1 r,bd (D x) l=some l1/\body l1 h=some r/\Pass I r):∀ l h,I l h->∃ l' h',forK bd body l (.rf n,h)=some (.nx l' h')/\I l' h':=by
 have go:∀ (f k:Nat) (l:LI) (h:HI),I l h->f=xs.length - k + 1->k<=xs.length->∃ l' h',forL bd body (.rf n) f k l h=some (.nx l' h')/\I l' h':=by
  intro f
  induction f with
  | zero=>intro k l h _ e; omega
  | succ f ih=>
   intro k l h i hf hk
   have e:=hI l h i
   by_cases hlt:k < xs.length
   · obtain ⟨l1,r,e1,e2,p⟩:=H xs[k] (List.getElem_mem hlt) l h i
     have ek:(xs.map D)[k]?=some (D xs[k]):=by rw [List.getElem?_map,List.getElem?_eq_getElem hlt]; rfl
     have eu:forL bd body (.rf n) (f + 1) k l h=bnd (body l1 h) (stK (forL bd body (.rf n) f (k + 1))):=by
      simp only [forL,Src.at,e,ek,e1,Option.bind_some]
      cases body l1 h with
      | none=>rfl
      | some r=>cases r <;> rfl
     rw [eu,e2,zaaf]
     cases r with
     | nx l2 h2=>exact ih (k + 1) l2 h2 p (by omega) hlt
     | ct l2 h2=>exact ih (k + 1) l2 h2 p (by omega) hlt
     | bk l2 h2=>exact p.elim
     | rt d h2=>exact p.elim
   · have ek:(xs.map D)[k]?=none:=List.getElem?_eq_none (by rw [List.length_map]; omega)
     exact ⟨l,h,by simp only [forL,Src.at,e,ek],i⟩
 intro l h i
 have e:=hI l h i
 obtain ⟨l',h',e1,e2⟩:=go (xs.length + 1) 0 l h i (by omega) (Nat.zero_le _)
 refine ⟨l',h',?_,e2⟩
 show forL bd body (.rf n) (Src.fuel (.rf n) h) 0 l h=_
 have ef:Src.fuel (.rf n) h=xs.length + 1:=by simp only [Src.fuel,e,List.length_map]
 rw [ef]
 exact e1
end G
namespace G
open PySem PySem.Spec PyProof.Rows L2 SM
noncomputable def pairsN:List (Nat × Nat):=[(0,0),(0,1),(0,2),(0,3),(0,4),(1,2),(1,3),(1,4),(2,2),(2,3),(2,4),(3,4),(4,4)]
noncomputable def pr (p:Nat × Nat):Dt:=.tup [.int (p.1:Int),.int (p.2:Int)]
theorem zawJ:∀ p ∈ pairsN,zavO (pairsN.map pr) (pr p)=true/\idxD (pairsN.map pr) (pr p)=some (pairsN.idxOf p):=by
 intro p hp
 simp only [pairsN,List.mem_cons,List.not_mem_nil,or_false] at hp
 rcases hp with rfl | rfl | rfl | rfl | rfl | rfl | rfl | rfl | rfl | rfl | rfl | rfl | rfl <;> exact ⟨rfl,rfl⟩
end G
namespace G
open PySem PySem.Spec PyProof.Rows L2 SM
noncomputable def mkS (n:Nat) (p:Nat->Bool):Nat:=match n with
 | 0=>0
 | n + 1=>mkS n p + (if p n=true then 2 ^ n else 0)
theorem zano (p:Nat->Bool):∀ n,mkS n p < 2 ^ n
 | 0=>by simp [mkS]
 | n + 1=>by
  have:=zano p n
  simp only [mkS]
  rw [Nat.pow_succ]
  split <;> omega
theorem zaow (p:Nat->Bool):∀ n k,(mkS n p).testBit k=(decide (k < n) && p k)
 | 0,k=>by simp [mkS]
 | n + 1,k=>by
  have ih:=zaow p n k
  have lt:=zano p n
  simp only [mkS]
  by_cases hp:p n=true
  · rw [if_pos hp,Nat.add_comm]
    rcases Nat.lt_trichotomy k n with h | h | h
    · rw [Nat.testBit_two_pow_add_gt h,ih]
      simp [h,Nat.lt_succ_of_lt h]
    · subst h
      rw [Nat.testBit_two_pow_add_eq,ih]
      simp [hp]
    · have:2 ^ n + mkS n p < 2 ^ k:=Nat.lt_of_lt_of_le (show 2 ^ n + mkS n p < 2 ^ (n + 1) by rw [Nat.pow_succ]; omega) (Nat.pow_le_pow_right (by decide) h)
      rw [Nat.testBit_lt_two_pow this]
      have:¬ k < n + 1:=by omega
      simp [this]
  · rw [if_neg hp,Nat.add_zero,ih]
    by_cases h:k=n
    · subst h
      simp [hp]
    · have:(k < n + 1)=(k < n):=by apply propext; omega
      simp [this]
theorem zahC {a b:Nat} (ha:a < 8192) (hb:b < 8192) (h:∀ k < 13,a.testBit k=b.testBit k):a=b:=by
 apply Nat.eq_of_testBit_eq
 intro k
 by_cases hk:k < 13
 · exact h k hk
 · have hp:8192<=2 ^ k:=by
    have:=Nat.pow_le_pow_right (show 1<=2 by decide) (show 13<=k by omega)
    exact this
   rw [Nat.testBit_lt_two_pow (by omega),Nat.testBit_lt_two_pow (by omega)]
noncomputable def mk (p:Nat->Bool):Nat:=mkS 13 p
theorem zawx (p:Nat->Bool):mk p < 8192:=zano p 13
theorem zau1 (p:Nat->Bool) {k:Nat} (hk:k < 13):(mk p).testBit k=p k:=by
 unfold mk
 rw [zaow]
 simp [hk]
noncomputable def zaaO (m:Nat):List Nat:=(List.range 13).filter m.testBit
theorem mem_ways {m k:Nat}:k ∈ zaaO m ↔ k < 13/\m.testBit k=true:=by simp [zaaO]
theorem zaoR (g:Nat->Int) (p:Nat->Bool) (xs:List Nat):((xs.filter p).map g).sum=(xs.map fun k=>if p k=true then g k else 0).sum:=by
 induction xs with
 | nil=>rfl
 | cons x xs ih=>by_cases h:p x=true <;> simp [h,ih]
theorem zaq9 (p:Nat->Bool):((((List.range 13).filter p).map fun k=>(2:Int) ^ (12 - k))).sum=(mk (fun j=>p (12 - j)):Int):=by
 rw [zaoR]
 simp only [mk,mkS,List.range,List.range.loop,List.map_cons,List.map_nil,List.sum_cons,List.sum_nil,Nat.reduceSub]
 generalize p 0=a0; generalize p 1=a1; generalize p 2=a2; generalize p 3=a3; generalize p 4=a4; generalize p 5=a5; generalize p 6=a6
 generalize p 7=a7; generalize p 8=a8; generalize p 9=a9; generalize p 10=a10; generalize p 11=a11; generalize p 12=a12
 have f:∀ (b:Bool) (k:Nat),(if b=true then (2:Int) ^ k else 0)=((if b=true then 2 ^ k else 0:Nat):Int):=by intro b k; cases b <;> simp
 simp only [f]
 omega
noncomputable def zabY (m:Nat):Nat:=mk fun j=>m.testBit (12 - j)
theorem zahx (m:Nat):zabY m < 8192:=zawx _
theorem zads (m:Nat) {k:Nat} (hk:k < 13):(zabY m).testBit k=m.testBit (12 - k):=zau1 _ hk
theorem zai4 {m:Nat} (hm:m < 8192):zabY (zabY m)=m:=zahC (zahx _) hm fun k hk=>by
 rw [zads _ hk,zads _ (by omega)]
 congr 1
 omega
theorem zaj9 (a b:Nat):Builtin.bitAnd (a:Int) (b:Int)=((a &&& b:Nat):Int):=by
 unfold Builtin.bitAnd
 simp
theorem zak7 (a b:Nat):Builtin.bitOr (a:Int) (b:Int)=((a ||| b:Nat):Int):=by
 unfold Builtin.bitOr Builtin.bitAnd Builtin.bitNot
 have h1:decide (0<=-(a:Int) - 1)=false:=by simp; omega
 have h2:decide (0<=-(b:Int) - 1)=false:=by simp; omega
 have e:∀ x:Int,-(-x - 1) - 1=x:=by intro x; omega
 simp only [h1,h2,e]
 simp
theorem zauQ (m k:Nat):decide (Builtin.bitAnd ((m:Int) / 2 ^ k) 1=1)=m.testBit k:=by
 have e:((m:Int) / 2 ^ k)=((m / 2 ^ k:Nat):Int):=by simp
 rw [e]
 have:=zaj9 (m / 2 ^ k) 1
 simp only [Int.cast_ofNat_Int] at this
 rw [this,Nat.testBit_eq_decide_div_mod_eq]
 have e2:(m / 2 ^ k &&& 1)=m / 2 ^ k % 2:=Nat.and_one_is_mod _
 rw [e2]
 congr 1
 apply propext
 omega
theorem cShl {k:Nat} (hk:k < 13):CPow 1 (k:Int):=⟨by omega,by omega,by decide⟩
theorem r13 (h:HI):r1K (.int 13,h)=some (.vals ((List.range 13).map fun (k:Nat)=>Dt.int (k:Int)),h):=zadE (by decide) (by decide)
theorem l13 {α:Type} (f:Nat->α):((List.range 13).map f).length < sizeLine:=by rw [List.length_map,List.length_range]; decide
theorem lt13 {i:Nat} (h:i < 13):i=0\/i=1\/i=2\/i=3\/i=4\/i=5\/i=6\/i=7\/i=8\/i=9\/i=10\/i=11\/i=12:=by omega
end G
namespace G
open PySem PySem.Spec PyProof.Rows L2 SM
theorem zaf9 (m:Nat):(zaaO m).length<=13:=by
 unfold zaaO
 exact Nat.le_trans (List.length_filter_le _ _) (by simp)
end G
namespace G
open PySem PySem.Spec PyProof.Rows L2 SM
theorem zaf7 (m:Nat) (h:HI):zacR [.int m] h=some (.lst ((zaaO m).map fun (k:Nat)=>Dt.int (k:Int)),h):=by
 have ec:=zajR (te:=zafU) (tc:=zafQ) (i:=0) (fun (k:Nat)=>Dt.int (k:Int)) m.testBit (fun (k:Nat)=>Dt.int (k:Int)) h (List.range 13) [none,some (.int m)] fun k _=>⟨by
  simp [zafQ,zawb,zauQ],fun _=>by simp [zafU]⟩
 simp [zacR,zahj,r13,zacr _ _ _ (l13 _),ec,zaaO]
end G
namespace G
open PySem PySem.Spec PyProof.Rows L2 SM
theorem zaq8 (ks:List Nat) (hk:∀ k ∈ ks,k < 13) (hl:ks.length<=13) (h:HI):zagH [.lst (ks.map fun (k:Nat)=>Dt.int (k:Int))] h=some (.int ((ks.map fun k=>(2:Int) ^ k).sum),h):=by
 have ec:=zael (te:=zags) (tc:=zabh) (i:=0) (fun (k:Nat)=>Dt.int (k:Int)) (fun (k:Nat)=>Dt.int ((2:Int) ^ k)) h ks [none] fun k hm=>⟨rfl,by
  simp [zags,zakp (cShl (hk k hm))]⟩
 have hs:((ks.map fun (k:Nat)=>Dt.int (k:Int))).length < sizeLine:=by rw [List.length_map]; exact Nat.lt_of_le_of_lt hl (by decide)
 have es:=zawi (h:=h) (ks.map fun k=>(2:Int) ^ k)
 rw [List.map_map] at es
 have:(Dt.int ∘ fun k=>(2:Int) ^ k)=fun (k:Nat)=>Dt.int ((2:Int) ^ k):=rfl
 rw [this] at es
 simp [zagH,zaif,zacr _ _ _ hs,ec,es]
end G
namespace G
open PySem PySem.Spec PyProof.Rows L2 SM
theorem zarB (m:Nat) (h:HI):zag3 [.int m] h=some (.int (zabY m),h):=by
 have ec:=zael (te:=zagt) (tc:=zabh) (i:=0) (fun (k:Nat)=>Dt.int (k:Int)) (fun (k:Nat)=>Dt.int (((12 - k:Nat):Nat):Int)) h (zaaO m) [none] fun k hm=>⟨rfl,by
  have:=(mem_ways.mp hm).1
  simp [zagt]
  omega⟩
 have hs:((zaaO m).map fun (k:Nat)=>Dt.int (k:Int)).length < sizeLine:=by rw [List.length_map]; exact Nat.lt_of_le_of_lt (zaf9 m) (by decide)
 have es:=zaq8 ((zaaO m).map fun k=>12 - k) (by intro k hk; obtain ⟨j,_,rfl⟩:=List.mem_map.mp hk; omega) (by rw [List.length_map]; exact zaf9 m) h
 rw [List.map_map,List.map_map] at es
 have e1:((fun (k:Nat)=>Dt.int (k:Int)) ∘ fun k=>12 - k)=fun (k:Nat)=>Dt.int (((12 - k:Nat):Nat):Int):=rfl
 have e2:((fun (k:Nat)=>(2:Int) ^ k) ∘ fun k=>12 - k)=fun (k:Nat)=>(2:Int) ^ (12 - k):=rfl
 have e3:((zaaO m).map fun k=>(2:Int) ^ (12 - k)).sum=(zabY m:Int):=zaq9 _
 rw [e1,e2,e3] at es
 simp [zag3,zahX,zaf7,zacr _ _ _ hs,ec,es]
end G
namespace G
open PySem PySem.Spec PyProof.Rows L2 SM
noncomputable def zasL (ns:List Int):List Nat:=0::8191::ns.map fun c=>(c % 8192).toNat
theorem zaw6 {ns:List Int} {m:Nat} (h:m ∈ zasL ns):m < 8192:=by
 simp only [zasL,List.mem_cons,List.mem_map] at h
 rcases h with rfl | rfl | ⟨c,_,rfl⟩
 · decide
 · decide
 · have:=Int.emod_lt_of_pos c (show (0:Int) < 8192 by decide)
   have:=Int.emod_nonneg c (show (8192:Int) ≠ 0 by decide)
   omega
end G
namespace G
open PySem PySem.Spec PyProof.Rows L2 SM
noncomputable def CH (i j:Nat):Nat:=match zaiM[i]? with
 | some (.tup r)=>(match r[j]? with
  | some (.int n)=>n.toNat
  | _=>0)
 | _=>0
theorem zawE {i j:Nat} (hi:i < 13) (hj:j < 13):∃ r,zaiM[i]?=some (.tup r)/\r[j]?=some (.int (CH i j)):=by
 rcases lt13 hi with rfl | rfl | rfl | rfl | rfl | rfl | rfl | rfl | rfl | rfl | rfl | rfl | rfl <;>
 rcases lt13 hj with rfl | rfl | rfl | rfl | rfl | rfl | rfl | rfl | rfl | rfl | rfl | rfl | rfl <;> exact ⟨_,rfl,rfl⟩
theorem zaut:∀ i < 13,∀ j < 13,1<=CH i j/\CH i j < 8192:=by decide +kernel
theorem zan8:∀ i < 13,∀ j < 13,∀ k < 13,(CH (12 - j) (12 - i)).testBit (12 - k)=(CH i j).testBit k:=by decide +kernel
end G
namespace G
open PySem PySem.Spec PyProof.Rows L2 SM
end G
namespace G
open PySem PySem.Spec PyProof.Rows L2 SM
noncomputable def orF (f:Nat->Nat) (xs:List Nat) (a:Nat):Nat:=xs.foldl (fun acc x=>acc ||| f x) a
theorem zaou (f:Nat->Nat) (k:Nat):∀ (xs:List Nat) (a:Nat),(orF f xs a).testBit k=(a.testBit k || xs.any fun x=>(f x).testBit k)
 | [],a=>by simp [orF]
 | x::xs,a=>by
  have:=zaou f k xs (a ||| f x)
  unfold orF at this ⊢
  rw [List.foldl_cons,this]
  simp [Nat.testBit_or,Bool.or_assoc]
theorem zapD (f:Nat->Nat):∀ (xs:List Nat) (a:Nat),a < 8192->(∀ x ∈ xs,f x < 8192)->orF f xs a < 8192
 | [],a,ha,_=>ha
 | x::xs,a,ha,h=>by
  unfold orF
  rw [List.foldl_cons]
  exact zapD f xs (a ||| f x) (Nat.or_lt_two_pow (n:=13) ha (h x (by simp))) fun y hy=>h y (by simp [hy])
noncomputable def chS (a b:Nat):Nat:=(zaaO a).foldl (fun acc i=>orF (CH i) (zaaO b) acc) 0
theorem zaku (b k:Nat):∀ (xs:List Nat) (a:Nat),(xs.foldl (fun acc i=>orF (CH i) (zaaO b) acc) a).testBit k=(a.testBit k || xs.any fun i=>(zaaO b).any fun j=>(CH i j).testBit k)
 | [],a=>by simp
 | x::xs,a=>by
  rw [List.foldl_cons,zaku b k xs,zaou]
  simp [Bool.or_assoc]
theorem zajk (a b k:Nat):(chS a b).testBit k=true ↔ ∃ i j,i < 13/\a.testBit i=true/\j < 13/\b.testBit j=true/\(CH i j).testBit k=true:=by
 unfold chS
 rw [zaku]
 simp only [Nat.zero_testBit,Bool.false_or,List.any_eq_true,mem_ways]
 constructor
 · rintro ⟨i,⟨h1,h2⟩,j,⟨h3,h4⟩,h5⟩
   exact ⟨i,j,h1,h2,h3,h4,h5⟩
 · rintro ⟨i,j,h1,h2,h3,h4,h5⟩
   exact ⟨i,⟨h1,h2⟩,j,⟨h3,h4⟩,h5⟩
theorem zalU (b:Nat):∀ (xs:List Nat) (a:Nat),a < 8192->(∀ i ∈ xs,i < 13)->xs.foldl (fun acc i=>orF (CH i) (zaaO b) acc) a < 8192
 | [],a,ha,_=>ha
 | x::xs,a,ha,h=>by
  rw [List.foldl_cons]
  exact zalU b xs _ (zapD _ _ _ ha fun j hj=>(zaut x (h x (by simp)) j (mem_ways.mp hj).1).2) fun y hy=>h y (by simp [hy])
theorem zauq (a b:Nat):chS a b < 8192:=zalU b _ 0 (by decide) fun i hi=>(mem_ways.mp hi).1
theorem zarq {a b:Bool} (h:a=true ↔ b=true):a=b:=by cases a <;> cases b <;> simp_all
theorem zatQ {a b:Nat} (ha:a < 8192) (hb:b < 8192) (h:∀ k < 13,a.testBit k=true ↔ b.testBit k=true):a=b:=zahC ha hb fun k hk=>zarq (h k hk)
theorem zarA (a b:Nat):chS (zabY b) (zabY a)=zabY (chS a b):=by
 refine zatQ (zauq _ _) (zahx _) fun k hk=>?_
 rw [zads _ hk,zajk,zajk]
 constructor
 · rintro ⟨i,j,h1,h2,h3,h4,h5⟩
   rw [zads _ h1] at h2
   rw [zads _ h3] at h4
   refine ⟨12 - j,12 - i,by omega,h4,by omega,h2,?_⟩
   have:=zan8 i h1 j h3 k hk
   rw [this]
   exact h5
 · rintro ⟨i,j,h1,h2,h3,h4,h5⟩
   refine ⟨12 - j,12 - i,by omega,?_,by omega,?_,?_⟩
   · rw [zads _ (by omega),show 12 - (12 - j)=j by omega]
     exact h4
   · rw [zads _ (by omega),show 12 - (12 - i)=i by omega]
     exact h2
   · have:=zan8 i h1 j h3 (12 - k) (by omega)
     rw [show 12 - (12 - k)=k by omega] at this
     rw [this]
     exact h5
end G
namespace G
open PySem PySem.Spec PyProof.Rows L2 SM
theorem zatJ {i:Nat} (hi:i < 13) (b acc:Nat) (x y z:Option Dt) (h:HI):∃ z',zac5 [x,y,some (.lst ((zaaO b).map fun (k:Nat)=>Dt.int (k:Int))),some (.int acc),some (.int i),z] h=some (.nx [x,y,some (.lst ((zaaO b).map fun (k:Nat)=>Dt.int (k:Int))),some (.int (orF (CH i) (zaaO b) acc)),some (.int i),z'] h):=by
 obtain ⟨l',h',e,⟨z',rfl⟩,rfl⟩:=zalx (i:=5) (body:=zadV) (fun (k:Nat)=>Dt.int (k:Int)) (fun (a:Nat) l h'=>(∃ z',l=[x,y,some (.lst ((zaaO b).map fun (k:Nat)=>Dt.int (k:Int))),some (.int a),some (.int i),z'])/\h'=h) (fun a j=>a ||| CH i j) (zaaO b) (by
  rintro j hj a l h ⟨⟨z',rfl⟩,rfl⟩
  obtain ⟨r,e1,e2⟩:=zawE hi (mem_ways.mp hj).1
  refine ⟨.nx [x,y,some (.lst ((zaaO b).map fun (k:Nat)=>Dt.int (k:Int))),some (.int ((a ||| CH i j:Nat):Int)),some (.int i),some (.int j)] h,?_,⟨_,rfl⟩,rfl⟩
  simp [zadV,e1,e2,zak7]) acc [x,y,some (.lst ((zaaO b).map fun (k:Nat)=>Dt.int (k:Int))),some (.int acc),some (.int i),z] h ⟨⟨z,rfl⟩,rfl⟩
 refine ⟨z',?_⟩
 simp [zac5,e]
 rfl
theorem zakT (a b:Nat) (h:HI):zadP [.int a,.int b] h=some (.int (chS a b),h):=by
 obtain ⟨l',h',e,⟨z,w,rfl⟩,rfl⟩:=zalx (i:=4) (body:=zac5) (fun (k:Nat)=>Dt.int (k:Int)) (fun (c:Nat) l h'=>(∃ z w,l=[some (.int a),some (.int b),some (.lst ((zaaO b).map fun (k:Nat)=>Dt.int (k:Int))),some (.int c),z,w])/\h'=h) (fun acc i=>orF (CH i) (zaaO b) acc) (zaaO a) (by
  rintro i hi c l h ⟨⟨z,w,rfl⟩,rfl⟩
  obtain ⟨z',e⟩:=zatJ (mem_ways.mp hi).1 b c (some (.int a)) (some (.int b)) w h
  exact ⟨_,e,⟨_,_,rfl⟩,rfl⟩) 0 [some (.int a),some (.int b),some (.lst ((zaaO b).map fun (k:Nat)=>Dt.int (k:Int))),some (.int 0),none,none] h ⟨⟨none,none,rfl⟩,rfl⟩
 simp [zadP,zaeB,zaf7,e]
 rfl
end G
namespace G
open PySem PySem.Spec PyProof.Rows L2 SM
noncomputable def rowD (c:Nat) (g:Nat->Nat):List Dt:=(List.range c).map fun (j:Nat)=>Dt.int (g j:Nat)
noncomputable def topD (b c:Nat):List Dt:=(List.range c).map fun (k:Nat)=>Dt.ref (b + k)
structure NetAt (h:HI) (b c:Nat) (f:Nat->Nat->Nat):Prop where
 row:∀ i < c,h[b + i]?=some (.lst (rowD c (f i)))
 top:h[b + c]?=some (.lst (topD b c))
noncomputable def zabE (b c:Nat) (f:Nat->Nat->Nat):HI:=((List.range c).map fun i=>Ob.lst (rowD c (f i)))++[.lst (topD b c)]
theorem NetAt.lt {h:HI} {b c:Nat} {f:Nat->Nat->Nat} (N:NetAt h b c f):b + c < h.length:=(List.getElem?_eq_some_iff.mp N.top).1
theorem NetAt.grow {h:HI} {b c:Nat} {f:Nat->Nat->Nat} (N:NetAt h b c f) (e:HI):NetAt (h++e) b c f:=by
 have:=N.lt
 exact ⟨fun i hi=>by rw [List.getElem?_append_left (by omega)]; exact N.row i hi,by rw [List.getElem?_append_left (by omega)]; exact N.top⟩
theorem zadm (h:HI) (c:Nat) (f:Nat->Nat->Nat):NetAt (h++zabE h.length c f) h.length c f:=by
 constructor
 · intro i hi
   rw [List.getElem?_append_right (by omega)]
   unfold zabE
   rw [List.getElem?_append_left (by simp; omega)]
   simp [hi]
 · rw [List.getElem?_append_right (by omega)]
   unfold zabE
   rw [List.getElem?_append_right (by simp)]
   simp
theorem zah2 (c:Nat) (g:Nat->Nat):(rowD c g).length=c:=by simp [rowD]
theorem zahW (b c:Nat):(topD b c).length=c:=by simp [topD]
theorem zagY {c j:Nat} (hj:j < c) (g:Nat->Nat):(rowD c g)[j]?=some (.int (g j:Nat)):=by simp [rowD,hj]
theorem zail {b c j:Nat} (hj:j < c):(topD b c)[j]?=some (.ref (b + j)):=by simp [topD,hj]
theorem zapi {c:Nat} {g g':Nat->Nat} (e:∀ j < c,g j=g' j):rowD c g=rowD c g':=List.map_congr_left fun j hj=>by rw [e j (List.mem_range.mp hj)]
theorem zarh {c j:Nat} (g:Nat->Nat) (v:Nat):(rowD c g).set j (.int (v:Nat))=rowD c (fun x=>if x=j then v else g x):=by
 apply List.ext_getElem?
 intro k
 rw [List.getElem?_set]
 simp only [rowD,List.length_map,List.length_range,List.getElem?_map]
 by_cases hk:k < c
 · rw [List.getElem?_range hk]
   by_cases hj:j=k
   · subst hj
     simp [hk]
   · have:¬ k=j:=fun z=>hj z.symm
     simp [hj,this]
 · rw [List.getElem?_eq_none (by simpa using hk)]
   split
   · have:¬ j < c:=by omega
     simp [this]
   · rfl
theorem NetAt.congr {h:HI} {b c:Nat} {f g:Nat->Nat->Nat} (N:NetAt h b c f) (e:∀ i < c,∀ j < c,f i j=g i j):NetAt h b c g:=
 ⟨fun i hi=>by rw [<- zapi (e i hi)]; exact N.row i hi,N.top⟩
noncomputable def putF (f:Nat->Nat->Nat) (i j v:Nat):Nat->Nat->Nat:=fun a b=>if a=i then (if b=j then v else f a b) else f a b
theorem NetAt.other {h:HI} {b c:Nat} {f:Nat->Nat->Nat} (N:NetAt h b c f) {n:Nat} (hn:n < b\/b + c < n) (o:Ob):NetAt (h.set n o) b c f:=
 ⟨fun i hi=>by rw [List.getElem?_set_ne (by omega)]; exact N.row i hi,by rw [List.getElem?_set_ne (by omega)]; exact N.top⟩
theorem NetAt.ix {h:HI} {b c:Nat} {f:Nat->Nat->Nat} (N:NetAt h b c f) {i:Nat} (hi:i < c):oIx (.ref (b + c)) (.int (i:Nat)) h=some (.ref (b + i),h):=by
 rw [zaeN N.top,SM.zabL,zail hi]
 rfl
theorem NetAt.ix2 {h:HI} {b c:Nat} {f:Nat->Nat->Nat} (N:NetAt h b c f) {i j:Nat} (hi:i < c) (hj:j < c):oIx (.ref (b + i)) (.int (j:Nat)) h=some (.int (f i j:Nat),h):=by
 rw [zaeN (N.row i hi),SM.zabL,zagY hj]
 rfl
theorem NetAt.len {h:HI} {b c:Nat} {f:Nat->Nat->Nat} (N:NetAt h b c f):fLen (.ref (b + c)) h=some (.int (c:Nat),h):=by
 rw [zaiE N.top,zahW]
theorem NetAt.seq {h:HI} {b c:Nat} {f:Nat->Nat->Nat} (N:NetAt h b c f):seqK (.ref (b + c),h)=some (.rf (b + c),h):=zacG N.top
theorem NetAt.len1 {h:HI} {b c:Nat} {f:Nat->Nat->Nat} (N:NetAt h b c f) {i:Nat} (hi:i < c):fLen (.ref (b + i)) h=some (.int (c:Nat),h):=by
 rw [zaiE (N.row i hi),zah2]
theorem zapG {i n:Nat} {xs:List Dt}:∀ (l:LI) (h:HI) (b:Dt) (h':HI),eF1 zadZ (eV i) l h=some (b,h')->h[n]?=some (.lst xs)->h'[n]?=some (.lst xs):=by
 intro l h b h' e q
 have hn:=(List.getElem?_eq_some_iff.mp q).1
 rw [q_F1,q_eV] at e
 cases z:l[i]? with
 | none=>rw [z] at e; simp [getV] at e
 | some o=>
  rw [z] at e
  cases o with
  | none=>simp [getV] at e
  | some d=>
   simp only [zaae,zaaf,zadZ] at e
   cases y:seqA h d with
   | none=>rw [y] at e; cases e
   | some ys=>
    rw [y] at e
    simp only [Option.map_some,Option.some.injEq,Prod.mk.injEq] at e
    obtain ⟨_,rfl⟩:=e
    rw [List.getElem?_append_left hn]
    exact q
theorem zalJ {n:Nat} {xs:List Dt}:∀ (l:LI) (h:HI) (b:Bool) (h':HI),zabh l h=some (b,h')->h[n]?=some (.lst xs)->h'[n]?=some (.lst xs):=by
 intro l h b h' e q
 simp only [zajr,Option.some.injEq,Prod.mk.injEq] at e
 rw [<- e.2]
 exact q
theorem zalT {te:RE} (ht:te=eF1 zadZ (eV 0)) {h:HI} {b c:Nat} {f:Nat->Nat->Nat} (N:NetAt h b c f) (hc:c<=1000) (l:LI) (hl:0 < l.length):zadT (gSet 0) zabh te l (.rf (b + c),h)=some (topD h.length c,h++(List.range c).map fun i=>Ob.lst (rowD c (f i))):=by
 subst ht
 rw [zaj0 N.top (by rw [zahW]; simp; omega) zalJ zapG]
 have:=zaiY (te:=eF1 zadZ (eV 0)) (i:=0) (fun (k:Nat)=>Dt.ref (b + k)) (fun i=>Ob.lst (rowD c (f i))) h (List.range c) l [] (by
  intro k hk e
  have hk:=List.mem_range.mp hk
  have q:=(N.grow e).row k hk
  rw [q_F1,q_eV,List.getElem?_set_self hl,zaae,zaaf]
  simp only [zadZ,seqA,seqL,q,Option.map_some])
 rw [List.append_nil,List.length_range] at this
 exact this
theorem zamN {α:Type} {F:Dt->Option Dt} (D E:α->Dt):∀ (xs:List α),(∀ x ∈ xs,F (D x)=some (E x))->allD F (xs.map D)=some (xs.map E)
 | [],_=>rfl
 | x::xs,H=>by
  simp only [List.map_cons,allD,H x (by simp),Option.bind_some,zamN D E xs fun y hy=>H y (by simp [hy]),Option.map_some]
noncomputable def zaca (i j:Nat):Nat:=if i=j then 64 else 8191
theorem zakn (b c:Nat) (f:Nat->Nat->Nat):(zabE b c f).length=c + 1:=by simp [zabE]
theorem zakG (h:HI) {c i:Nat} (hi:i < c) (f:Nat->Nat->Nat) (j v:Nat):(h++zabE h.length c f).set (h.length + i) (.lst ((rowD c (f i)).set j (.int (v:Nat))))=h++zabE h.length c (putF f i j v):=by
 rw [List.set_append_right _ _ (by omega),Nat.add_sub_cancel_left]
 congr 1
 unfold zabE
 rw [List.set_append_left _ _ (by simpa using hi)]
 congr 1
 apply List.ext_getElem?
 intro k
 rw [List.getElem?_set]
 simp only [List.length_map,List.length_range,List.getElem?_map]
 by_cases hk:k < c
 · rw [List.getElem?_range hk]
   by_cases e:i=k
   · subst e
     have:(fun x=>if x=j then v else f i x)=putF f i j v i:=by funext x; simp [putF]
     simp [hi,zarh,this]
   · have:¬ k=i:=by omega
     have q:putF f i j v k=f k:=by funext x; simp [putF,this]
     simp [e,q]
 · rw [List.getElem?_eq_none (by simpa using hk)]
   have:¬ i=k:=by omega
   simp [this]
end G
namespace G
open PySem PySem.Spec PyProof.Rows L2 SM
theorem zatV (f:Nat->Nat->Nat) (i j v:Nat):putF f i j v i j=v:=by simp [putF]
noncomputable def narF (f:Nat->Nat->Nat) (i m j:Nat):Nat->Nat->Nat:=putF (putF f i j (f i j &&& m)) j i (zabY (f i j &&& m))
theorem zagA {h:HI} {b c:Nat} {f:Nat->Nat->Nat} (N:NetAt h b c f) (hc:c<=1000) {i j:Nat} (hi:i < c) (hj:j < c) (m:Nat) :
 zadn [.ref (b + c),.int (i:Nat),.int (m:Nat),.int (j:Nat)] h=some (.ref (h.length + c),h++zabE h.length c (narF f i m j)):=by
 have e1:=zalT (te:=zagV) rfl N hc [none] (by simp)
 have N1:=N.grow (zabE h.length c f)
 have M1:=zadm h c f
 have M2:=zadm h c (putF f i j (f i j &&& m))
 have p1:=zakG h hi f j (f i j &&& m)
 have p2:=zakG h hj (putF f i j (f i j &&& m)) i (zabY (f i j &&& m))
 have t1:=zarB (f i j &&& m) (h++zabE h.length c (putF f i j (f i j &&& m)))
 have r1:=fun (l:LI)=>zaik (l:=l) (v:=.int ((f i j &&& m:Nat):Nat)) (M1.row i hi) (show j < (rowD c (f i)).length by rw [zah2]; exact hj)
 have r2:=fun (l:LI)=>zaik (l:=l) (v:=.int ((zabY (f i j &&& m):Nat):Nat)) (M2.row j hj) (show i < (rowD c (putF f i j (f i j &&& m) j)).length by rw [zah2]; exact hi)
 have x2:=M2.ix2 hi hj
 rw [zatV] at x2
 have en:(h++(List.range c).map fun i=>Ob.lst (rowD c (f i)))++[Ob.lst (topD h.length c)]=h++zabE h.length c f:=by rw [List.append_assoc]; rfl
 have el:(h++(List.range c).map fun i=>Ob.lst (rowD c (f i))).length=h.length + c:=by simp
 simp only [zadn,zagx,q_fn,zaaC,zaaH,zaj7,zacc,q_eV,List.map_cons,List.map_nil,List.cons_append,List.nil_append,List.length_cons,List.length_nil,List.getElem?_cons_zero,List.getElem?_cons_succ,zaae,zaaf,N.seq,zac3,zadK,e1,en,el,zaaB,if_true,Nat.reduceSub,Nat.reduceAdd,List.replicate,List.set_cons_succ,List.set_cons_zero,zaoc,q_e2,N1.ix hi,N1.ix2 hi hj,M1.ix hi,zanj,zaj9,r1,p1,zaaL,zaas,zaaw,M2.ix hi,x2,List.append_nil,t1,M2.ix hj,r2,p2,zaaN,zaaI]
 rfl
end G
namespace G
open PySem PySem.Spec PyProof.Rows L2 SM
theorem zauH (c:Nat) (g:Nat->Nat) (z:Nat) {h:HI} {n:Nat} (e:h[n]?=some (.lst (rowD c g))):oIn false (.int (z:Nat)) (.ref n) h=some (.bl ((List.range c).any fun j=>g j == z),h):=by
 have f1:∀ xs:List Nat,zadA (xs.map fun (j:Nat)=>Dt.int (g j:Nat))=some (xs.map fun (j:Nat)=>V.int (g j:Nat)):=by
  intro xs
  induction xs with
  | nil=>rfl
  | cons x xs ih=>simp [zadA,flat,ih]
 have f2:inV (V.int (z:Nat)) ((List.range c).map fun (j:Nat)=>V.int (g j:Nat))=(List.range c).any fun j=>g j == z:=by
  unfold inV
  rw [List.any_map]
  congr 1
  funext j
  simp only [Function.comp]
  unfold eqV
  by_cases q:g j=z
  · simp [q]
  · have:(g j:Int) ≠ (z:Int):=by omega
    show ((g j:Int) == (z:Int))=(g j == z)
    rw [beq_eq_false_iff_ne.mpr this,beq_eq_false_iff_ne.mpr q]
 simp only [oIn,flat,seqA,seqL,e,Option.bind_some,rowD,f1,f2]
 simp
noncomputable def zabt (c:Nat) (f:Nat->Nat->Nat):Bool:=(List.range c).any fun i=>(List.range c).any fun j=>f i j == 0
theorem zasO {n:Nat} {xs:List Dt} (a:Dt) (i:Nat):∀ (l:LI) (h:HI) (b:Dt) (h':HI),e2 (oIn false) (eC a) (eV i) l h=some (b,h')->h[n]?=some (.lst xs)->h'[n]?=some (.lst xs):=by
 intro l h b h' e q
 rw [q_e2,q_eC,zaaf,q_eV] at e
 cases z:l[i]? with
 | none=>rw [z] at e; simp [getV] at e
 | some o=>
  rw [z] at e
  cases o with
  | none=>simp [getV] at e
  | some d=>
   simp only [zaae,zaaf,oIn] at e
   cases z1:flat a with
   | none=>rw [z1] at e; cases e
   | some a1=>
    rw [z1] at e
    cases z2:seqA h d with
    | none=>rw [z2] at e; cases e
    | some a2=>
     rw [z2] at e
     cases z3:zadA a2 with
     | none=>simp [z3] at e
     | some a3=>
      simp only [Option.bind_some,z3,Option.some.injEq,Prod.mk.injEq] at e
      rw [<- e.2]
      exact q
theorem zaq4 {te:RE} (ht:te=e2 (oIn false) (eC (.int 0)) (eV 0)) {h:HI} {b c:Nat} {f:Nat->Nat->Nat} (N:NetAt h b c f) (hc:c<=1000):zadT (gSet 0) zabh te [none] (.rf (b + c),h)=some (((List.range c).map fun i=>(List.range c).any fun j=>f i j == 0).map Dt.bl,h):=by
 subst ht
 rw [zaj0 N.top (by rw [zahW]; simp; omega) zalJ (zasO _ _)]
 have:=zael (te:=e2 (oIn false) (eC (.int 0)) (eV 0)) (tc:=zabh) (i:=0) (fun (k:Nat)=>Dt.ref (b + k)) (fun i=>Dt.bl ((List.range c).any fun j=>f i j == 0)) h (List.range c) [none] (by
  intro k hk
  have:=zauH c (f k) 0 (N.row k (List.mem_range.mp hk))
  simp only [Int.ofNat_eq_natCast,Int.cast_ofNat_Int] at this
  exact ⟨rfl,by simp [this]⟩)
 rw [topD,this]
 simp [List.map_map]
end G
namespace G
open PySem PySem.Spec PyProof.Rows L2 SM
theorem zaoC {h:HI} {b c:Nat} {f:Nat->Nat->Nat} (N:NetAt h b c f) (hc:c<=1000):zafm [.ref (b + c)] h=some (.bl (zabt c f),h):=by
 have e:=zaq4 (te:=zagQ) rfl N hc
 have a:=zav1 (h:=h) ((List.range c).map fun i=>(List.range c).any fun j=>f i j == 0)
 simp only [zafm,zagw,q_fn,zaaN,q_F1,zae3,zacc,q_eV,List.map_cons,List.map_nil,List.cons_append,List.nil_append,List.length_cons,List.length_nil,List.getElem?_cons_zero,zaae,zaaf,N.seq,zac3,zadK,e,a,if_true,zaaI,Nat.reduceAdd]
 simp [zabt,List.any_map]
end G
namespace G
open PySem PySem.Spec PyProof.Rows L2 SM
noncomputable def zaao (p:Nat × Nat):Dt:=.tup [.int (p.1:Nat),.int (p.2:Nat)]
noncomputable def zabi (c:Nat) (n:Nat):List (Nat × Nat):=(List.range n).flatMap fun i=>(List.range (c - i - 1)).map fun k=>(i,i + 1 + k)
noncomputable def zaat (c:Nat):List (Nat × Nat):=zabi c c
theorem mem_pairs {c:Nat} {p:Nat × Nat}:p ∈ zaat c ↔ p.1 < p.2/\p.2 < c:=by
 obtain ⟨i,j⟩:=p
 unfold zaat zabi
 simp only [List.mem_flatMap,List.mem_range,List.mem_map,Prod.mk.injEq]
 constructor
 · rintro ⟨a,ha,k,hk,rfl,rfl⟩
   omega
 · rintro ⟨h1,h2⟩
   exact ⟨i,by omega,j - i - 1,by omega,rfl,by omega⟩
theorem zaf8 (c n:Nat):(zabi c n).length<=n * c:=by
 induction n with
 | zero=>simp [zabi]
 | succ n ih=>
  have:zabi c (n + 1)=zabi c n++(List.range (c - n - 1)).map fun k=>(n,n + 1 + k):=by
   unfold zabi
   rw [List.range_succ,List.flatMap_append]
   simp
  rw [this,List.length_append,List.length_map,List.length_range,Nat.succ_mul]
  omega
end G
namespace G
open PySem PySem.Spec PyProof.Rows L2 SM
theorem zah9 {c:Nat} (hc:c<=1000) (h:HI):zadk [.int (c:Nat)] h=some (.ref h.length,h++[.lst ((zaat c).map zaao)]):=by
 have er:=zadE (h:=h++[.lst []]) (show (-(2 ^ 62):Int)<=(c:Int) by omega) (show (c:Int) < 2 ^ 62 by omega)
 simp only [Int.toNat_natCast] at er
 have hcc:c * c<=1000 * 1000:=Nat.mul_le_mul hc hc
 obtain ⟨l',h',e,⟨y,z,rfl⟩,rfl⟩:=zafh (i:=2) (body:=zafg) (fun (k:Nat)=>Dt.int (k:Int)) (fun (n:Nat) l h'=>(∃ y z,l=[some (.int (c:Nat)),some (.ref h.length),y,z])/\h'=h++[.lst ((zabi c n).map zaao)]) c (by
  rintro n hn l h1 ⟨⟨y,z,rfl⟩,rfl⟩
  have hl:=zaf8 c n
  have hnc:n * c<=c * c:=Nat.mul_le_mul_right _ (by omega)
  obtain ⟨l',h',e,⟨y,rfl⟩,rfl⟩:=zafh (i:=3) (body:=zafl) (fun (k:Nat)=>Dt.int ((n:Int) + 1 + (k:Int))) (fun (m:Nat) l h'=>(∃ y,l=[some (.int (c:Nat)),some (.ref h.length),some (.int (n:Nat)),y])/\h'=h++[.lst ((zabi c n++(List.range m).map fun k=>(n,n + 1 + k)).map zaao)]) (c - n - 1) (by
   rintro m hm l h1 ⟨⟨y,rfl⟩,rfl⟩
   refine ⟨.nx [some (.int (c:Nat)),some (.ref h.length),some (.int (n:Nat)),some (.int ((n:Int) + 1 + (m:Int)))] (h++[.lst ((zabi c n++(List.range (m + 1)).map fun k=>(n,n + 1 + k)).map zaao)]),?_,⟨_,rfl⟩,rfl⟩
   have ea:=fun (l:LI) (g:RE) (d:Dt) (eg:g l (h++[.lst ((zabi c n++(List.range m).map fun k=>(n,n + 1 + k)).map zaao)])=some (d,h++[.lst ((zabi c n++(List.range m).map fun k=>(n,n + 1 + k)).map zaao)]))=>
    zadv (h:=h++[.lst ((zabi c n++(List.range m).map fun k=>(n,n + 1 + k)).map zaao)]) (l:=l) (n:=h.length) (ys:=(zabi c n++(List.range m).map fun k=>(n,n + 1 + k)).map zaao) (xs:=(zabi c n++(List.range m).map fun k=>(n,n + 1 + k)).map zaao) (by simp) eg (by simp) (by simp; omega)
   simp only [zafl,zab4,zacA,q_eV,List.set_cons_zero,List.set_cons_succ,List.getElem?_cons_zero,List.getElem?_cons_succ,zaae,zaaf]
   rw [ea _ _ (zaao (n,n + 1 + m))]
   · simp only [zaaf]
     rw [show ∀ (o o':Ob),(h++[o]).set h.length o'=h++[o'] by simp]
     simp [List.range_succ]
   · simp [zaao]) [some (.int (c:Nat)),some (.ref h.length),some (.int (n:Nat)),z] (h++[.lst ((zabi c n).map zaao)]) ⟨⟨z,rfl⟩,by simp⟩
  have er:=zasZ (h:=h++[.lst ((zabi c n).map zaao)]) (i:=(n:Int) + 1) (j:=(c:Int)) (by omega) (by omega) (by omega) (by omega)
  rw [show ((c:Int) - ((n:Int) + 1)).toNat=c - n - 1 by omega] at er
  have ep:zabi c (n + 1)=zabi c n++(List.range (c - n - 1)).map fun k=>(n,n + 1 + k):=by
   unfold zabi
   rw [List.range_succ,List.flatMap_append]
   simp
  refine ⟨.nx [some (.int (c:Nat)),some (.ref h.length),some (.int (n:Nat)),y] (h++[.lst ((zabi c (n + 1)).map zaao)]),?_,⟨_,_,rfl⟩,rfl⟩
  · simp only [zafg,zacX,zavY,q_e2,q_eV,q_eC,List.set_cons_zero,List.set_cons_succ,List.getElem?_cons_zero,List.getElem?_cons_succ,zaae,zaaf,zado,er,zadf]
    rw [e,ep]) [some (.int (c:Nat)),some (.ref h.length),none,none] (h++[.lst []]) ⟨⟨none,none,rfl⟩,by simp [zabi]⟩
 simp only [zadk,zagu,q_fn,zaaC,zaaH,zaeH,zaaw,List.map_cons,List.map_nil,List.cons_append,List.nil_append,List.length_cons,List.length_nil,if_true,zaaf,zaaB,Nat.reduceAdd,Nat.reduceSub,List.replicate,List.set_cons_zero,List.set_cons_succ,zacX,zakN,q_eV,List.getElem?_cons_zero,List.getElem?_cons_succ,zaae,er,zadf,zaeT,Nat.zero_le,e,zaaN,zaaI]
 rfl
end G
namespace G
open PySem PySem.Spec PyProof.Rows L2 SM
end G
namespace G
open PySem PySem.Spec PyProof.Rows L2 SM
structure zaaX (c:Nat) (f:Nat->Nat->Nat):Prop where
 lt:∀ i < c,∀ j < c,f i j < 8192
 tn:∀ i < c,∀ j < c,f j i=zabY (f i j)
theorem zakV (c:Nat):zaaX c zaca:=by
 constructor
 · intro i _ j _
   unfold zaca
   split <;> decide
 · intro i _ j _
   unfold zaca
   by_cases h:i=j
   · subst h
     rw [if_pos rfl]
     decide +kernel
   · have:¬ j=i:=fun z=>h z.symm
     rw [if_neg h,if_neg this]
     decide +kernel
theorem zahK {c:Nat} {f:Nat->Nat->Nat} (o:zaaX c f) {i j:Nat} (hi:i < c) (hj:j < c) (hij:i ≠ j) (m:Nat):zaaX c (narF f i m j):=by
 have hv:f i j &&& m < 8192:=Nat.lt_of_le_of_lt Nat.and_le_left (o.lt i hi j hj)
 have hji:¬ j=i:=fun z=>hij z.symm
 constructor
 · intro a ha b hb
   unfold narF putF
   repeat' split
   all_goals first | exact zahx _ | exact hv | exact o.lt a ha b hb
 · intro a ha b hb
   unfold narF putF
   by_cases h1:a=i
   · subst h1
     by_cases h2:b=j
     · subst h2
       simp [hij,hji]
     · by_cases h3:b=a
       · subst h3
         simp [hij,h2]
         exact o.tn _ ha _ hb
       · simp [h2,h3,hij]
         exact o.tn _ ha _ hb
   · by_cases h2:a=j
     · subst h2
       by_cases h3:b=i
       · subst h3
         simp [hij,hji,zai4 hv]
       · simp [h1,h3]
         exact o.tn _ ha _ hb
     · simp [h1,h2]
       exact o.tn _ ha _ hb
end G
namespace G
open PySem PySem.Spec PyProof.Rows L2 SM
noncomputable def zabO (i k j:Nat):Dt:=.tup [.int (i:Nat),.int (k:Nat),.int (j:Nat)]
noncomputable def zaaS (f:Nat->Nat->Nat) (i k j:Nat):Nat:=f i j &&& chS (f i k) (f k j)
theorem zalG {h:HI} {b c:Nat} {f:Nat->Nat->Nat} (N:NetAt h b c f) {i k j:Nat} (hi:i < c) (hk:k < c) (hj:j < c):zae4 [.ref (b + c),zabO i k j] h=some (.int (zaaS f i k j:Nat),h):=by
 simp only [zae4,zahn,zabO,q_fn,zaaC,zaaH,q_e2,q_eV,q_eC,List.map_cons,List.map_nil,List.cons_append,List.nil_append,List.length_cons,List.length_nil,if_true,Nat.reduceAdd,Nat.reduceSub,List.replicate,List.getElem?_cons_zero,List.getElem?_cons_succ,zaae,zaaf,zaaZ,zaa9,zadb,zaim,Option.map_some,N.ix hi,N.ix2 hi hk,N.ix hk,N.ix2 hk hj,N.ix2 hi hj,zaaB,List.set_cons_zero,List.set_cons_succ,zaaN,zaaL,zaas,zaaw,List.append_nil,zakT,zanj,zaj9,zaaI]
 rfl
theorem zaqG {h:HI} {b c:Nat} {f:Nat->Nat->Nat} (N:NetAt h b c f) (hc:c<=1000) {i k j:Nat} (hi:i < c) (hk:k < c) (hj:j < c):zaf2 [.ref (b + c),zabO i k j] h=some (.ref (h.length + c),h++zabE h.length c (narF f i (zaaS f i k j) j)):=by
 have e1:=zalG N hi hk hj
 have e2:=zagA N hc hi hj (zaaS f i k j)
 unfold zabO at e1 ⊢
 simp only [zaf2,zahm,q_fn,q_e2,q_eV,q_eC,List.map_cons,List.map_nil,List.cons_append,List.nil_append,List.length_cons,List.length_nil,if_true,Nat.reduceAdd,Nat.reduceSub,List.replicate,List.getElem?_cons_zero,List.getElem?_cons_succ,zaae,zaaf,zaaZ,zaa9,zadb,zaim,Option.map_some,zaaN,zaaL,zaas,zaaw,List.append_nil,e1,e2,zaaI]
theorem zamJ (f:Nat->Nat->Nat) (i k j:Nat):f i j &&& zaaS f i k j=zaaS f i k j:=by
 unfold zaaS
 rw [<- Nat.and_assoc,Nat.and_self]
end G
namespace G
open PySem PySem.Spec PyProof.Rows L2 SM
noncomputable def zabB (f:Nat->Nat->Nat) (i k j:Nat):Nat->Nat->Nat:=narF f i (zaaS f i k j) j
theorem zaeA (f:Nat->Nat->Nat) {i k j:Nat} (hij:i ≠ j):zabB f i k j i j=zaaS f i k j:=by
 unfold zabB narF putF
 simp [hij,zamJ]
theorem zaj3 (f:Nat->Nat->Nat) (i k j:Nat):zabB f i k j j i=zabY (zaaS f i k j):=by
 unfold zabB narF putF
 simp [zamJ]
theorem zadj (f:Nat->Nat->Nat) {i k j a b:Nat} (h1:¬ (a=i/\b=j)) (h2:¬ (a=j/\b=i)):zabB f i k j a b=f a b:=by
 unfold zabB narF putF
 by_cases q1:a=j
 · subst q1
   have:¬ b=i:=fun z=>h2 ⟨rfl,z⟩
   by_cases q2:a=i
   · subst q2
     simp [this]
   · simp [this,q2]
 · by_cases q2:a=i
   · subst q2
     have:¬ b=j:=fun z=>h1 ⟨rfl,z⟩
     simp [q1,this]
   · simp [q1,q2]
noncomputable def SubS (a b:Nat):Prop:=a &&& b=a
theorem subS_bit {a b:Nat}:SubS a b ↔ ∀ k,a.testBit k=true->b.testBit k=true:=by
 unfold SubS
 constructor
 · intro h k hk
   rw [<- h,Nat.testBit_and,Bool.and_eq_true] at hk
   exact hk.2
 · intro h
   apply Nat.eq_of_testBit_eq
   intro k
   rw [Nat.testBit_and]
   cases q:a.testBit k with
   | false=>rfl
   | true=>rw [h k q]; rfl
theorem SubS.refl (a:Nat):SubS a a:=Nat.and_self a
theorem SubS.trans {a b c:Nat} (h1:SubS a b) (h2:SubS b c):SubS a c:=subS_bit.mpr fun k hk=>subS_bit.mp h2 k (subS_bit.mp h1 k hk)
theorem zad1 (a b:Nat):SubS (a &&& b) a:=subS_bit.mpr fun k hk=>by rw [Nat.testBit_and,Bool.and_eq_true] at hk; exact hk.1
theorem zarU {a b c:Nat} (h1:SubS a b) (h2:SubS a c):SubS a (b &&& c):=subS_bit.mpr fun k hk=>by rw [Nat.testBit_and,subS_bit.mp h1 k hk,subS_bit.mp h2 k hk]; rfl
theorem zars {a b a' b':Nat} (h1:SubS a a') (h2:SubS b b'):SubS (chS a b) (chS a' b'):=subS_bit.mpr fun k hk=>by
 obtain ⟨i,j,q1,q2,q3,q4,q5⟩:=(zajk a b k).mp hk
 exact (zajk a' b' k).mpr ⟨i,j,q1,subS_bit.mp h1 i q2,q3,subS_bit.mp h2 j q4,q5⟩
theorem zamv (a b:Nat):zabY (a &&& b)=zabY a &&& zabY b:=by
 refine zahC (zahx _) (Nat.lt_of_le_of_lt Nat.and_le_left (zahx a)) fun k hk=>?_
 rw [zads _ hk,Nat.testBit_and,Nat.testBit_and,zads _ hk,zads _ hk]
theorem zar9 {a b:Nat} (ha:a < 8192) (hb:b < 8192) (h:zabY a=zabY b):a=b:=by rw [<- zai4 ha,h,zai4 hb]
theorem turn_zero:zabY 0=0:=by decide +kernel
theorem zalH {a b:Nat} (h:SubS a b):SubS (zabY a) (zabY b):=by
 unfold SubS at h ⊢
 rw [<- zamv,h]
theorem zan5 {c:Nat} {f:Nat->Nat->Nat} (o:zaaX c f) {i k j:Nat} (hi:i < c) (hj:j < c):zaaS f i k j < 8192:=Nat.lt_of_le_of_lt Nat.and_le_left (o.lt i hi j hj)
theorem zarD {c:Nat} {f:Nat->Nat->Nat} (o:zaaX c f) {i k j:Nat} (hi:i < c) (hk:k < c) (hj:j < c):zaaS f j k i=zabY (zaaS f i k j):=by
 unfold zaaS
 rw [o.tn i hi j hj,o.tn k hk j hj,o.tn i hi k hk,zarA,zamv]
theorem zak0 {c:Nat} {f:Nat->Nat->Nat} (o:zaaX c f) {i k j:Nat} (hi:i < c) (hk:k < c) (hj:j < c) (h:zaaS f j k i ≠ f j i):zaaS f i k j ≠ f i j:=by
 intro e
 apply h
 rw [zarD o hi hk hj,e,<- o.tn i hi j hj]
theorem zaoq {c:Nat} {f:Nat->Nat->Nat} (o:zaaX c f) {i k j:Nat} (hi:i < c) (hj:j < c) (hij:i ≠ j):zaaX c (zabB f i k j):=zahK o hi hj hij _
noncomputable def zaco (W:List (Nat × Nat)) (i k j:Nat):Prop:=(i,k) ∈ W\/(k,i) ∈ W\/(k,j) ∈ W\/(j,k) ∈ W
noncomputable def Dist (i k j:Nat):Prop:=i ≠ k/\k ≠ j/\i ≠ j
noncomputable def zab9 (c:Nat) (f:Nat->Nat->Nat) (W:List (Nat × Nat)) (R:List (Nat × Nat × Nat)):Prop:=
 ∀ i < c,∀ k < c,∀ j < c,Dist i k j->zaaS f i k j ≠ f i j->zaco W i k j\/(i,k,j) ∈ R\/(j,k,i) ∈ R
noncomputable def zadF (a b c:Nat):List (Nat × Nat × Nat):=(List.range c).flatMap fun o=>if o=a\/o=b then [] else [(a,b,o),(b,a,o)]
theorem mem_threes {a b c:Nat} {t:Nat × Nat × Nat}:t ∈ zadF a b c ↔ ∃ o,o < c/\o ≠ a/\o ≠ b/\(t=(a,b,o)\/t=(b,a,o)):=by
 unfold zadF
 simp only [List.mem_flatMap,List.mem_range]
 constructor
 · rintro ⟨o,ho,h⟩
   by_cases q:o=a\/o=b
   · rw [if_pos q] at h; cases h
   · rw [if_neg q] at h
     simp only [List.mem_cons,List.not_mem_nil,or_false] at h
     exact ⟨o,ho,fun z=>q (.inl z),fun z=>q (.inr z),h⟩
 · rintro ⟨o,ho,h1,h2,h⟩
   refine ⟨o,ho,?_⟩
   rw [if_neg (by rintro (z | z); exact h1 z; exact h2 z)]
   simpa using h
theorem zapK {c:Nat} {f:Nat->Nat->Nat} {a b:Nat} {W:List (Nat × Nat)} (h:zab9 c f ((a,b)::W) []):zab9 c f W (zadF a b c):=by
 intro i hi k hk j hj d n
 obtain ⟨d1,d2,d3⟩:=d
 rcases h i hi k hk j hj ⟨d1,d2,d3⟩ n with h | h | h
 · unfold zaco at h ⊢
   simp only [List.mem_cons,Prod.mk.injEq] at h
   rcases h with (⟨rfl,rfl⟩ | h) | (⟨rfl,rfl⟩ | h) | (⟨rfl,rfl⟩ | h) | (⟨rfl,rfl⟩ | h)
   · exact .inr (.inl (mem_threes.mpr ⟨j,hj,Ne.symm d3,Ne.symm d2,.inl rfl⟩))
   · exact .inl (.inl h)
   · exact .inr (.inl (mem_threes.mpr ⟨j,hj,Ne.symm d2,Ne.symm d3,.inr rfl⟩))
   · exact .inl (.inr (.inl h))
   · exact .inr (.inr (mem_threes.mpr ⟨i,hi,d1,d3,.inr rfl⟩))
   · exact .inl (.inr (.inr (.inl h)))
   · exact .inr (.inr (mem_threes.mpr ⟨i,hi,d3,d1,.inl rfl⟩))
   · exact .inl (.inr (.inr (.inr h)))
 · cases h
 · cases h
theorem zapa {c:Nat} {f:Nat->Nat->Nat} (o:zaaX c f) {x y z:Nat} (hx:x < c) (hy:y < c) (hz:z < c) {W:List (Nat × Nat)} {R:List (Nat × Nat × Nat)} (h:zab9 c f W ((x,y,z)::R)) (n:zaaS f x y z=f x z):zab9 c f W R:=by
 intro i hi k hk j hj d m
 rcases h i hi k hk j hj d m with h | h | h
 · exact .inl h
 · rcases List.mem_cons.mp h with h | h
   · cases h; exact absurd n m
   · exact .inr (.inl h)
 · rcases List.mem_cons.mp h with h | h
   · cases h
     exact absurd n (zak0 o hx hy hz m)
   · exact .inr (.inr h)
theorem zamI {a b e:Nat} (h:SubS a b) (q:b &&& e=b):a &&& e=a:=SubS.trans h q
theorem zao7 {c:Nat} {f:Nat->Nat->Nat} (o:zaaX c f) {x y z:Nat} (hx:x < c) (hy:y < c) (hz:z < c) (dd:Dist x y z) {W:List (Nat × Nat)} {R:List (Nat × Nat × Nat)} (h:zab9 c f W ((x,y,z)::R)):zab9 c (zabB f x y z) (W++[(x,z)]) R:=by
 obtain ⟨d1,d2,d3⟩:=dd
 have o':=zaoq (k:=y) o hx hz d3
 have main:∀ i < c,∀ k < c,∀ j < c,Dist i k j->¬ (i=z/\j=x)->zaaS (zabB f x y z) i k j ≠ zabB f x y z i j->zaco (W++[(x,z)]) i k j\/(i,k,j) ∈ R\/(j,k,i) ∈ R:=by
  intro i hi k hk j hj d nz m
  obtain ⟨e1,e2,e3⟩:=d
  have grow:∀ {i k j},zaco W i k j->zaco (W++[(x,z)]) i k j:=by
   intro i k j q
   unfold zaco at q ⊢
   simp only [List.mem_append]
   rcases q with q | q | q | q
   · exact .inl (.inl q)
   · exact .inr (.inl (.inl q))
   · exact .inr (.inr (.inl (.inl q)))
   · exact .inr (.inr (.inr (.inl q)))
  by_cases ht:i=x/\j=z
  · obtain ⟨rfl,rfl⟩:=ht
    have l1:zabB f i y j i k=f i k:=zadj f (fun q=>e2 q.2) (fun q=>e1 q.2.symm)
    have l2:zabB f i y j k j=f k j:=zadj f (fun q=>e1 q.1.symm) (fun q=>e2 q.1)
    have lf:zaaS (zabB f i y j) i k j=zaaS f i y j &&& chS (f i k) (f k j):=by
     unfold zaaS
     rw [l1,l2,zaeA f e3]
     rfl
    by_cases ky:k=y
    · subst ky
      exfalso
      apply m
      rw [lf,zaeA f e3]
      unfold zaaS
      rw [Nat.and_assoc,Nat.and_self]
    · have n:zaaS f i k j ≠ f i j:=by
       intro q
       apply m
       rw [lf,zaeA f e3]
       exact zamI (zad1 (f i j) _) q
      rcases h i hi k hk j hj ⟨e1,e2,e3⟩ n with q | q | q
      · exact .inl (grow q)
      · rcases List.mem_cons.mp q with q | q
        · cases q; exact absurd rfl ky
        · exact .inr (.inl q)
      · rcases List.mem_cons.mp q with q | q
        · simp only [Prod.mk.injEq] at q; exact absurd q.1.symm e3
        · exact .inr (.inr q)
  · by_cases leg:zaco [(x,z)] i k j
    · refine .inl ?_
      unfold zaco at leg ⊢
      simp only [List.mem_append]
      rcases leg with q | q | q | q
      · exact .inl (.inr q)
      · exact .inr (.inl (.inr q))
      · exact .inr (.inr (.inl (.inr q)))
      · exact .inr (.inr (.inr (.inr q)))
    · unfold zaco at leg
      simp only [List.mem_cons,List.not_mem_nil,or_false,Prod.mk.injEq,not_or] at leg
      obtain ⟨g1,g2,g3,g4⟩:=leg
      have l0:zabB f x y z i j=f i j:=zadj f (fun q=>ht q) (fun q=>nz q)
      have l1:zabB f x y z i k=f i k:=zadj f (fun q=>g1 q) (fun q=>g2 ⟨q.2,q.1⟩)
      have l2:zabB f x y z k j=f k j:=zadj f (fun q=>g3 q) (fun q=>g4 ⟨q.2,q.1⟩)
      have n:zaaS f i k j ≠ f i j:=by
       unfold zaaS at m ⊢
       rw [l0,l1,l2] at m
       exact m
      rcases h i hi k hk j hj ⟨e1,e2,e3⟩ n with q | q | q
      · exact .inl (grow q)
      · rcases List.mem_cons.mp q with q | q
        · simp only [Prod.mk.injEq] at q; exact absurd ⟨q.1,q.2.2⟩ ht
        · exact .inr (.inl q)
      · rcases List.mem_cons.mp q with q | q
        · simp only [Prod.mk.injEq] at q; exact absurd ⟨q.2.2,q.1⟩ nz
        · exact .inr (.inr q)
 intro i hi k hk j hj d m
 by_cases nz:i=z/\j=x
 · obtain ⟨e1,e2,e3⟩:=d
   have m':=zak0 o' hj hk hi m
   rcases main j hj k hk i hi ⟨Ne.symm e2,Ne.symm e1,Ne.symm e3⟩ (fun q=>e3 (by omega)) m' with q | q | q
   · refine .inl ?_
     unfold zaco at q ⊢
     rcases q with q | q | q | q
     · exact .inr (.inr (.inr q))
     · exact .inr (.inr (.inl q))
     · exact .inr (.inl q)
     · exact .inl q
   · exact .inr (.inr q)
   · exact .inr (.inl q)
 · exact main i hi k hk j hj d nz m
noncomputable def zaeF (c:Nat) (f:Nat->Nat->Nat):Prop:=∀ i < c,∀ k < c,∀ j < c,Dist i k j->zaaS f i k j=f i j
theorem zanq {c:Nat} {f:Nat->Nat->Nat} (h:zab9 c f [] []):zaeF c f:=by
 intro i hi k hk j hj d
 apply Classical.byContradiction
 intro n
 rcases h i hi k hk j hj d n with q | q | q
 · unfold zaco at q
   simp at q
 · cases q
 · cases q
theorem zalM (c:Nat) (f:Nat->Nat->Nat):zab9 c f (zaat c) []:=by
 intro i hi k hk j hj d _
 refine .inl ?_
 unfold zaco
 obtain ⟨d1,_,_⟩:=d
 rcases Nat.lt_or_gt_of_ne d1 with h | h
 · exact .inl (mem_pairs.mpr ⟨h,hk⟩)
 · exact .inr (.inl (mem_pairs.mpr ⟨h,hi⟩))
noncomputable def wayN (m:Nat):Nat:=(zaaO m).length
theorem zaiG {α:Type} {p q:α->Bool}:∀ (xs:List α),(∀ x ∈ xs,p x=true->q x=true)->(xs.filter p).length<=(xs.filter q).length
 | [],_=>by simp
 | x::xs,H=>by
  have ih:=zaiG xs fun y hy=>H y (by simp [hy])
  have hx:=H x (by simp)
  by_cases h1:p x=true
  · simp [h1,hx h1]; exact ih
  · by_cases h2:q x=true
    · simp [h1,h2]; omega
    · simp [h1,h2]; exact ih
theorem zaiH {α:Type} {p q:α->Bool}:∀ (xs:List α),(∀ x ∈ xs,p x=true->q x=true)->(∃ x ∈ xs,p x=false/\q x=true)->(xs.filter p).length < (xs.filter q).length
 | [],_,h=>by obtain ⟨x,h,_⟩:=h; cases h
 | x::xs,H,h=>by
  have hx:=H x (by simp)
  have ihl:=zaiG xs fun y hy=>H y (by simp [hy])
  by_cases h1:p x=true
  · obtain ⟨y,hy,g1,g2⟩:=h
    rcases List.mem_cons.mp hy with rfl | hy
    · rw [h1] at g1; cases g1
    · have:=zaiH xs (fun y hy=>H y (by simp [hy])) ⟨y,hy,g1,g2⟩
      simp [h1,hx h1]; exact this
  · by_cases h2:q x=true
    · simp [h1,h2]; omega
    · obtain ⟨y,hy,g1,g2⟩:=h
      rcases List.mem_cons.mp hy with rfl | hy
      · rw [g2] at h2; exact absurd rfl h2
      · have:=zaiH xs (fun y hy=>H y (by simp [hy])) ⟨y,hy,g1,g2⟩
        simp [h1,h2]; exact this
theorem zaoh {a b:Nat} (h:SubS a b):wayN a<=wayN b:=zaiG _ fun k _ hk=>subS_bit.mp h k hk
theorem zatb {a b:Nat} (h:SubS a b) (ha:a < 8192) (hb:b < 8192) (n:a ≠ b):wayN a < wayN b:=by
 refine zaiH _ (fun k _ hk=>subS_bit.mp h k hk) ?_
 apply Classical.byContradiction
 intro hno
 apply n
 refine zahC ha hb fun k hk=>?_
 cases q:b.testBit k with
 | true=>
  cases q2:a.testBit k with
  | true=>rfl
  | false=>exact absurd ⟨k,List.mem_range.mpr hk,q2,q⟩ hno
 | false=>
  cases q2:a.testBit k with
  | false=>rfl
  | true=>rw [subS_bit.mp h k q2] at q; cases q
theorem zahH {α:Type} {u v:α->Nat}:∀ (xs:List α),(∀ x ∈ xs,u x<=v x)->(xs.map u).sum<=(xs.map v).sum
 | [],_=>by simp
 | x::xs,H=>by
  have:=zahH xs fun y hy=>H y (by simp [hy])
  have:=H x (by simp)
  simp only [List.map_cons,List.sum_cons]
  omega
theorem zanJ {α:Type} {u v:α->Nat}:∀ (xs:List α),(∀ x ∈ xs,u x<=v x)->(∃ x ∈ xs,u x < v x)->(xs.map u).sum < (xs.map v).sum
 | [],_,h=>by obtain ⟨x,h,_⟩:=h; cases h
 | x::xs,H,h=>by
  have h0:=zahH xs fun y hy=>H y (by simp [hy])
  have h1:=H x (by simp)
  simp only [List.map_cons,List.sum_cons]
  obtain ⟨y,hy,g⟩:=h
  rcases List.mem_cons.mp hy with rfl | hy
  · omega
  · have:=zanJ xs (fun y hy=>H y (by simp [hy])) ⟨y,hy,g⟩
    omega
noncomputable def zadx (c:Nat) (f:Nat->Nat->Nat):Nat:=((List.range c).map fun i=>((List.range c).map fun j=>wayN (f i j)).sum).sum
theorem zagL {α:Type} {u:α->Nat} {m:Nat}:∀ (xs:List α),(∀ x ∈ xs,u x<=m)->(xs.map u).sum<=xs.length * m
 | [],_=>by simp
 | x::xs,H=>by
  have:=zagL xs fun y hy=>H y (by simp [hy])
  have:=H x (by simp)
  simp only [List.map_cons,List.sum_cons,List.length_cons,Nat.succ_mul]
  omega
theorem zamB (c:Nat) (f:Nat->Nat->Nat):zadx c f<=c * (c * 13):=by
 have:=zagL (u:=fun i=>((List.range c).map fun j=>wayN (f i j)).sum) (m:=c * 13) (List.range c) fun i _=>by
  have:=zagL (u:=fun j=>wayN (f i j)) (m:=13) (List.range c) fun j _=>zaf9 _
  simpa using this
 simpa [zadx] using this
theorem zajV {c:Nat} {f:Nat->Nat->Nat} (o:zaaX c f) {i k j:Nat} (hi:i < c) (hj:j < c) (hij:i ≠ j) (a b:Nat):SubS (zabB f i k j a b) (f a b):=by
 by_cases h1:a=i/\b=j
 · obtain ⟨rfl,rfl⟩:=h1
   rw [zaeA f hij]
   exact zad1 _ _
 · by_cases h2:a=j/\b=i
   · obtain ⟨rfl,rfl⟩:=h2
     rw [zaj3,o.tn b hi a hj]
     exact zalH (zad1 _ _)
   · rw [zadj f h1 h2]
     exact SubS.refl _
theorem zaoV {c:Nat} {f:Nat->Nat->Nat} (o:zaaX c f) {i k j:Nat} (hi:i < c) (hj:j < c) (hij:i ≠ j) (n:zaaS f i k j ≠ f i j):zadx c (zabB f i k j) < zadx c f:=by
 refine zanJ _ (fun a _=>zahH _ fun b _=>zaoh (zajV o hi hj hij a b)) ⟨i,List.mem_range.mpr hi,zanJ _ (fun b _=>zaoh (zajV o hi hj hij i b)) ⟨j,List.mem_range.mpr hj,?_⟩⟩
 rw [zaeA f hij]
 exact zatb (zad1 _ _) (zan5 o hi hj) (o.lt i hi j hj) n
inductive Steps (c:Nat) (f:Nat->Nat->Nat):List (Nat × Nat × Nat)->(Nat->Nat->Nat)->Prop where
 | nil:Steps c f [] f
 | snoc {st:List (Nat × Nat × Nat)} {g:Nat->Nat->Nat} {i k j:Nat} (h:Steps c f st g) (hi:i < c) (hk:k < c) (hj:j < c) (d:Dist i k j) (ne:zabt c g=false) (n:zaaS g i k j ≠ g i j):Steps c f (st++[(i,k,j)]) (zabB g i k j)
theorem Steps.ok {c:Nat} {f g:Nat->Nat->Nat} {st:List (Nat × Nat × Nat)} (h:Steps c f st g) (o:zaaX c f):zaaX c g:=by
 induction h with
 | nil=>exact o
 | snoc h hi hk hj d ne n ih=>exact zaoq ih hi hj d.2.2
theorem empty_iff {c:Nat} {f:Nat->Nat->Nat}:zabt c f=true ↔ ∃ i < c,∃ j < c,f i j=0:=by
 unfold zabt
 simp only [List.any_eq_true,List.mem_range,beq_iff_eq]
theorem not_empty {c:Nat} {f:Nat->Nat->Nat} (h:zabt c f=false) {i j:Nat} (hi:i < c) (hj:j < c):f i j ≠ 0:=fun e=>by
 have:=empty_iff.mpr ⟨i,hi,j,hj,e⟩
 rw [h] at this
 cases this
theorem zatS {a:Nat} (ha:a < 8192) (h:a ≠ 0):zabY a ≠ 0:=fun e=>h (zar9 ha (by decide) (e.trans turn_zero.symm))
theorem zaoA {c:Nat} {f:Nat->Nat->Nat} (o:zaaX c f) {i k j:Nat} (hi:i < c) (hj:j < c) (hij:i ≠ j) (ne:zabt c f=false):zabt c (zabB f i k j)=decide (zaaS f i k j=0):=by
 by_cases h:zaaS f i k j=0
 · rw [decide_eq_true h]
   exact empty_iff.mpr ⟨i,hi,j,hj,by rw [zaeA f hij]; exact h⟩
 · rw [decide_eq_false h]
   cases q:zabt c (zabB f i k j) with
   | false=>rfl
   | true=>
    obtain ⟨a,ha,b,hb,e⟩:=empty_iff.mp q
    exfalso
    by_cases h1:a=i/\b=j
    · obtain ⟨rfl,rfl⟩:=h1
      rw [zaeA f hij] at e
      exact h e
    · by_cases h2:a=j/\b=i
      · obtain ⟨rfl,rfl⟩:=h2
        rw [zaj3] at e
        exact zatS (zan5 o hi hj) h e
      · rw [zadj f h1 h2] at e
        exact not_empty ne ha hb e
end G
namespace G
open PySem PySem.Spec PyProof.Rows L2 SM
noncomputable def t3D (t:Nat × Nat × Nat):Dt:=zabO t.1 t.2.1 t.2.2
theorem zaqK {h:HI} {b c:Nat} {f:Nat->Nat->Nat} (N:NetAt h b c f) {i k j:Nat} (hi:i < c) (hk:k < c) (hj:j < c):zaf3 [.ref (b + c),zabO i k j] h=some (.bl (!decide (zaaS f i k j=f i j)),h):=by
 have e1:=zalG N hi hk hj
 have q:decide (((zaaS f i k j:Nat):Int)=((f i j:Nat):Int))=decide (zaaS f i k j=f i j):=by
  congr 1
  apply propext
  omega
 unfold zabO at e1 ⊢
 simp only [zaf3,zaha,q_fn,q_e2,q_eV,q_eC,List.map_cons,List.map_nil,List.cons_append,List.nil_append,List.length_cons,List.length_nil,if_true,Nat.reduceAdd,Nat.reduceSub,List.replicate,List.getElem?_cons_zero,List.getElem?_cons_succ,zaae,zaaf,zaaZ,zaa9,zaim,Option.map_some,zaaN,zaaL,zaas,zaaw,List.append_nil,e1,N.ix hi,N.ix2 hi hj,o_ne,q,zaaI]
theorem zat4 (o a b:Nat) (h:HI):oIn true (.int (o:Nat)) (zaao (a,b)) h=some (.bl (!(decide (o=a) || decide (o=b))),h):=by
 have f2:inV (V.int (o:Nat)) [V.int (a:Nat),V.int (b:Nat)]=(decide (o=a) || decide (o=b)):=by
  unfold inV
  simp only [List.any_cons,List.any_nil,Bool.or_false]
  show (((a:Nat):Int) == ((o:Nat):Int) || ((b:Nat):Int) == ((o:Nat):Int))=_
  have e1:(((a:Nat):Int) == ((o:Nat):Int))=decide (o=a):=by
   by_cases q:o=a
   · subst q; simp
   · have:((a:Nat):Int) ≠ ((o:Nat):Int):=by omega
     simp [q,this]
  have e2:(((b:Nat):Int) == ((o:Nat):Int))=decide (o=b):=by
   by_cases q:o=b
   · subst q; simp
   · have:((b:Nat):Int) ≠ ((o:Nat):Int):=by omega
     simp [q,this]
  rw [e1,e2]
 have f1:zadA [Dt.int (a:Nat),Dt.int (b:Nat)]=some [V.int (a:Nat),V.int (b:Nat)]:=rfl
 simp only [oIn,flat,seqA,zaao,Option.bind_some,f1,f2]
 rfl
noncomputable def zabf (a b n:Nat):List (Nat × Nat × Nat):=(List.range n).flatMap fun o=>if o=a\/o=b then [] else [(a,b,o),(b,a,o)]
theorem zamM (a b n:Nat):(zabf a b n).length<=2 * n:=by
 induction n with
 | zero=>simp [zabf]
 | succ n ih=>
  have:zabf a b (n + 1)=zabf a b n++(if n=a\/n=b then [] else [(a,b,n),(b,a,n)]):=by
   unfold zabf
   rw [List.range_succ,List.flatMap_append]
   simp
  rw [this,List.length_append]
  split <;> simp <;> omega
theorem zarP {a b c:Nat} (hc:c<=1000) (h:HI):zadM [zaao (a,b),.int (c:Nat)] h=some (.ref h.length,h++[.lst ((zadF a b c).map t3D)]):=by
 have er:=zadE (h:=h++[.lst []]) (show (-(2 ^ 62):Int)<=(c:Int) by omega) (show (c:Int) < 2 ^ 62 by omega)
 simp only [Int.toNat_natCast] at er
 have setE:∀ (o o':Ob),(h++[o]).set h.length o'=h++[o']:=by simp
 obtain ⟨l',h',e,⟨y,rfl⟩,rfl⟩:=zafh (i:=3) (body:=zadS) (fun (k:Nat)=>Dt.int (k:Int)) (fun (n:Nat) l h'=>(∃ y,l=[some (zaao (a,b)),some (.int (c:Nat)),some (.ref h.length),y])/\h'=h++[.lst ((zabf a b n).map t3D)]) c (by
  rintro n hn l h1 ⟨⟨y,rfl⟩,rfl⟩
  have hl:=zamM a b n
  have ep:zabf a b (n + 1)=zabf a b n++(if n=a\/n=b then [] else [(a,b,n),(b,a,n)]):=by
   unfold zabf
   rw [List.range_succ,List.flatMap_append]
   simp
  refine ⟨.nx [some (zaao (a,b)),some (.int (c:Nat)),some (.ref h.length),some (.int (n:Nat))] (h++[.lst ((zabf a b (n + 1)).map t3D)]),?_,⟨_,rfl⟩,rfl⟩
  have ip:=zat4 n a b (h++[.lst ((zabf a b n).map t3D)])
  have ea1:=fun (l:LI) (g:RE) (eg:g l (h++[.lst ((zabf a b n).map t3D)])=some (t3D (a,b,n),h++[.lst ((zabf a b n).map t3D)]))=>
   zadv (h:=h++[.lst ((zabf a b n).map t3D)]) (l:=l) (n:=h.length) (ys:=(zabf a b n).map t3D) (xs:=(zabf a b n).map t3D) (by simp) eg (by simp) (by simp; omega)
  have ea2:=fun (l:LI) (g:RE) (eg:g l (h++[.lst ((zabf a b n).map t3D++[t3D (a,b,n)])])=some (t3D (b,a,n),h++[.lst ((zabf a b n).map t3D++[t3D (a,b,n)])]))=>
   zadv (h:=h++[.lst ((zabf a b n).map t3D++[t3D (a,b,n)])]) (l:=l) (n:=h.length) (ys:=(zabf a b n).map t3D++[t3D (a,b,n)]) (xs:=(zabf a b n).map t3D++[t3D (a,b,n)]) (by simp) eg (by simp) (by simp; omega)
  simp only [zadS,zaa7,q_tB,q_e2,q_eV,List.set_cons_zero,List.set_cons_succ,List.getElem?_cons_zero,List.getElem?_cons_succ,zaae,zaaf,ip,zaaK,zaaC,zab4,zacA,zabs]
  by_cases q:n=a\/n=b
  · have:(decide (n=a) || decide (n=b))=true:=by simpa using q
    rw [this,ep,if_pos q]
    simp
  · have:(decide (n=a) || decide (n=b))=false:=by simpa using q
    rw [this,ep,if_neg q]
    simp only [Bool.not_false,if_true]
    rw [ea1 _ _ (by simp [zaao,t3D,zabO])]
    simp only [zaaf,zaaB,setE,zab4,zacA,q_eV,List.getElem?_cons_zero,List.getElem?_cons_succ,zaae]
    rw [ea2 _ _ (by simp [zaao,t3D,zabO])]
    simp only [zaaf,setE]
    simp) [some (zaao (a,b)),some (.int (c:Nat)),some (.ref h.length),none] (h++[.lst []]) ⟨⟨_,rfl⟩,by simp [zabf]⟩
 simp only [zadM,zaez,q_fn,zaaC,zaaH,zaeH,zaaw,List.map_cons,List.map_nil,List.cons_append,List.nil_append,List.length_cons,List.length_nil,if_true,zaaf,zaaB,Nat.reduceAdd,Nat.reduceSub,List.replicate,List.set_cons_zero,List.set_cons_succ,zacX,zakN,q_eV,List.getElem?_cons_zero,List.getElem?_cons_succ,zaae,er,zadf,zaeT,Nat.zero_le,e,zaaN,zaaI]
 rfl
structure Rst (h0:HI) (c:Nat) (f:Nat->Nat->Nat) (s w b:Nat) (st:List (Nat × Nat × Nat)) (W:List (Nat × Nat)) (g:Nat->Nat->Nat) (h:HI):Prop where
 low:∀ n,n < h0.length->h[n]?=h0[n]?
 len:h0.length<=h.length
 hs:h[s]?=some (.lst (st.map t3D))
 hw:h[w]?=some (.lst (W.map zaao))
 net:NetAt h b c g
 s0:h0.length<=s
 w0:h0.length<=w
 b0:h0.length<=b
 sw:s ≠ w
 sb:s < b\/b + c < s
 wb:w < b\/b + c < w
 run:Steps c f st g
 ne:zabt c g=false
 sm:st.length + zadx c g<=zadx c f
 wc:∀ p ∈ W,p.1 < c/\p.2 < c/\p.1 ≠ p.2
theorem Rst.grow {h0:HI} {c:Nat} {f:Nat->Nat->Nat} {s w b:Nat} {st:List (Nat × Nat × Nat)} {W:List (Nat × Nat)} {g:Nat->Nat->Nat} {h:HI} (R:Rst h0 c f s w b st W g h) (e:HI):Rst h0 c f s w b st W g (h++e):=by
 have l1:=(List.getElem?_eq_some_iff.mp R.hs).1
 have l2:=(List.getElem?_eq_some_iff.mp R.hw).1
 exact { R with
  low:=fun n hn=>by rw [List.getElem?_append_left (by have:=R.len; omega)]; exact R.low n hn
  len:=by have:=R.len; rw [List.length_append]; omega
  hs:=by rw [List.getElem?_append_left l1]; exact R.hs
  hw:=by rw [List.getElem?_append_left l2]; exact R.hw
  net:=R.net.grow e }
noncomputable def Rres (h0:HI) (c:Nat) (f:Nat->Nat->Nat) (d:Dt) (h:HI):Prop:=
 ∃ x s st g,d=.tup [x,.ref s]/\h0.length<=s/\h0.length<=h.length/\(∀ n,n < h0.length->h[n]?=h0[n]?)/\h[s]?=some (.lst (st.map t3D))/\Steps c f st g/\st.length<=zadx c f/\
  ((x=.non/\zabt c g=true)\/∃ b,x=.ref (b + c)/\h0.length<=b/\NetAt h b c g/\zaeF c g/\zabt c g=false/\(s < b\/b + c < s))
theorem zasT {h0:HI} {c:Nat} (hc:c<=100) {f:Nat->Nat->Nat} (of:zaaX c f) {s w b:Nat} {st:List (Nat × Nat × Nat)} {W:List (Nat × Nat)} {g:Nat->Nat->Nat} {h:HI} (R:Rst h0 c f s w b st W g h) {x y z:Nat} (hx:x < c) (hy:y < c) (hz:z < c) (d:Dist x y z) (lW:W.length<=2000000) (x0 x1 x5:Option Dt) :
 ∃ r,zabQ [x0,x1,some (.ref s),some (.ref (b + c)),some (.ref w),x5,some (zabO x y z)] h=some r/\
  zah7 (fun l' h'=>∃ b' st' W' g',l'=[x0,x1,some (.ref s),some (.ref (b' + c)),some (.ref w),x5,some (zabO x y z)]/\Rst h0 c f s w b' st' W' g' h'/\(∀ n,n < h.length->n ≠ s->n ≠ w->h'[n]?=h[n]?)/\h.length<=h'.length/\
   ((zaaS g x y z=g x z/\b'=b/\st'=st/\W'=W/\g'=g/\h'=h)\/(W'=W++[(x,z)]/\g'=zabB g x y z/\zadx c g' < zadx c g))) (Rres h0 c f) r:=by
 have og:=R.run.ok of
 have tl:=zamB c f
 have hcc:c * (c * 13)<=100 * (100 * 13):=Nat.mul_le_mul hc (Nat.mul_le_mul_right 13 hc)
 have en:=zaqK R.net hx hy hz
 by_cases q:zaaS g x y z=g x z
 · refine ⟨.nx [x0,x1,some (.ref s),some (.ref (b + c)),some (.ref w),x5,some (zabO x y z)] h,?_,b,st,W,g,rfl,R,fun _ _ _ _=>rfl,Nat.le_refl _,.inl ⟨q,rfl,rfl,rfl,rfl,rfl⟩⟩
   simp only [zabQ,zaa7,q_tB,zaaL,zaas,zaaw,q_eV,List.getElem?_cons_zero,List.getElem?_cons_succ,zaae,zaaf,List.append_nil,en,zaaK,q,decide_true,Bool.not_true,Bool.false_eq_true,if_false,zabs]
 · have em:=zaqG R.net (show c<=1000 by omega) hx hy hz
   obtain ⟨h1,hh1⟩:∃ h1,h1=h++zabE h.length c (zabB g x y z):=⟨_,rfl⟩
   rw [show narF g x (zaaS g x y z) z=zabB g x y z from rfl,<- hh1] at em
   have len1:h1.length=h.length + (c + 1):=by rw [hh1,List.length_append,zakn]
   have M1:NetAt h1 h.length c (zabB g x y z):=hh1 ▸ zadm h c _
   have ls:=(List.getElem?_eq_some_iff.mp R.hs).1
   have lw:=(List.getElem?_eq_some_iff.mp R.hw).1
   have hs1:h1[s]?=some (.lst (st.map t3D)):=by rw [hh1,List.getElem?_append_left ls]; exact R.hs
   have hw1:h1[w]?=some (.lst (W.map zaao)):=by rw [hh1,List.getElem?_append_left lw]; exact R.hw
   have sm:=R.sm
   have ts:=zaoV og hx hz d.2.2 q
   obtain ⟨h2,hh2⟩:∃ h2,h2=h1.set s (.lst (st.map t3D++[zabO x y z])):=⟨_,rfl⟩
   have ea:=zadv (h:=h1) (l:=[x0,x1,some (.ref s),some (.ref (h.length + c)),some (.ref w),x5,some (zabO x y z)]) (g:=eV 6) (n:=s) (ys:=st.map t3D) (xs:=st.map t3D) (d:=zabO x y z) (h':=h1) hs1 (by simp) hs1 (by simp; omega)
   rw [<- hh2] at ea
   have M2:NetAt h2 h.length c (zabB g x y z):=hh2 ▸ M1.other (.inl ls) _
   have hs2:h2[s]?=some (.lst ((st++[(x,y,z)]).map t3D)):=by
    rw [hh2,List.getElem?_set_self (by omega)]
    simp [t3D]
   have hw2:h2[w]?=some (.lst (W.map zaao)):=by rw [hh2,List.getElem?_set_ne R.sw]; exact hw1
   have run2:=R.run.snoc hx hy hz d R.ne q
   have low2:∀ n,n < h0.length->h2[n]?=h0[n]?:=fun n hn=>by
    have:=R.len
    have:=R.s0
    rw [hh2,List.getElem?_set_ne (by omega),hh1,List.getElem?_append_left (by omega)]
    exact R.low n hn
   have len2:h2.length=h.length + (c + 1):=by rw [hh2,List.length_set]; exact len1
   have ix1:=M2.ix hx
   have ix2:=M2.ix2 hx hz
   rw [zaeA g d.2.2] at ix2
   have se:=zaoA (k:=y) og hx hz d.2.2 R.ne
   have zi:(decide (((zaaS g x y z:Nat):Int)=0))=decide (zaaS g x y z=0):=by
    congr 1
    apply propext
    omega
   by_cases q0:zaaS g x y z=0
   · refine ⟨.rt (.tup [.non,.ref s]) h2,?_,.non,s,st++[(x,y,z)],zabB g x y z,rfl,R.s0,by have:=R.len; omega,low2,hs2,run2,by simp; omega,.inl ⟨rfl,by rw [se]; simp [q0]⟩⟩
     simp only [zabQ,zaa7,q_tB,zaaL,zaas,zaaw,q_eV,List.getElem?_cons_zero,List.getElem?_cons_succ,zaae,zaaf,List.append_nil,en,zaaK,q,decide_false,Bool.not_false,if_true,zaaC,zaaH,em,List.set_cons_zero,List.set_cons_succ,zaaB,zab4,zacA,ea]
     simp only [zabO,zaa7,q_tB,q_e2,q_eV,q_eC,List.getElem?_cons_zero,List.getElem?_cons_succ,zaae,zaaf,zaaZ,zaa9,zaim,Option.map_some,ix1,ix2,x_eq,zi,q0,decide_true,zaaK,if_true,zaaN,zab2,zaas,zaaw,zacI]
     simp
   · have ea2:=zadv (h:=h2) (l:=[x0,x1,some (.ref s),some (.ref (h.length + c)),some (.ref w),x5,some (zabO x y z)]) (g:=eTup (zaac (e2 oIx (eV 6) (eC (.int 0))) (zaac (e2 oIx (eV 6) (eC (.int 2))) aNil))) (n:=w) (ys:=W.map zaao) (xs:=W.map zaao) (d:=zaao (x,z)) (h':=h2) hw2 (by simp [zabO,zaao]) hw2 (by simp; omega)
     have len3:∀ o,(h2.set w o).length=h.length + (c + 1):=fun o=>by rw [List.length_set]; exact len2
     have hlw:w < h2.length:=(List.getElem?_eq_some_iff.mp hw2).1
     have hw0:=R.w0
     have hl0:=R.len
     refine ⟨.nx [x0,x1,some (.ref s),some (.ref (h.length + c)),some (.ref w),x5,some (zabO x y z)] (h2.set w (.lst (W.map zaao++[zaao (x,z)]))),?_,h.length,st++[(x,y,z)],W++[(x,z)],zabB g x y z,rfl,?_,?_,by rw [len3]; omega,.inr ⟨rfl,rfl,ts⟩⟩
     · simp only [zabQ,zaa7,q_tB,zaaL,zaas,zaaw,q_eV,List.getElem?_cons_zero,List.getElem?_cons_succ,zaae,zaaf,List.append_nil,en,zaaK,q,decide_false,Bool.not_false,if_true,zaaC,zaaH,em,List.set_cons_zero,List.set_cons_succ,zaaB,zab4,zacA,ea]
       have tst:tB' (e2 oEqX (e2 oIx (e2 oIx (eV 3) (e2 oIx (eV 6) (eC (.int 0)))) (e2 oIx (eV 6) (eC (.int 2)))) (eC (.int 0))) [x0,x1,some (.ref s),some (.ref (h.length + c)),some (.ref w),x5,some (zabO x y z)] h2=some (false,h2):=by
        simp only [zabO,q_tB,q_e2,q_eV,q_eC,List.getElem?_cons_zero,List.getElem?_cons_succ,zaae,zaaf,zaaZ,zaa9,zaim,Option.map_some,ix1,ix2,x_eq,zi,q0,decide_false,zaaK]
       simp only [q_tB] at tst
       simp only [tst,zaaf,Bool.false_eq_true,if_false,zabs,zaaB,zab4,zacA,q_eV,List.getElem?_cons_zero,List.getElem?_cons_succ,zaae,ea2]
     · exact {
        low:=fun n hn=>by rw [List.getElem?_set_ne (by omega)]; exact low2 n hn
        len:=by rw [len3]; omega
        hs:=by rw [List.getElem?_set_ne (Ne.symm R.sw)]; exact hs2
        hw:=by rw [List.getElem?_set_self hlw]; simp
        net:=M2.other (.inl lw) _
        s0:=R.s0
        w0:=R.w0
        b0:=hl0
        sw:=R.sw
        sb:=.inl ls
        wb:=.inl lw
        run:=run2
        ne:=by rw [se]; simp [q0]
        sm:=by simp; omega
        wc:=fun p hp=>by
         rcases List.mem_append.mp hp with hp | hp
         · exact R.wc p hp
         · rw [List.mem_singleton.mp hp]
           exact ⟨hx,hz,d.2.2⟩ }
     · intro n hn h1' h2'
       rw [List.getElem?_set_ne (Ne.symm h2'),hh2,List.getElem?_set_ne (Ne.symm h1'),hh1,List.getElem?_append_left hn]
theorem zap6 (W:List (Nat × Nat)):zabF (W.map zaao)=true:=by
 induction W with
 | nil=>rfl
 | cons p W ih=>simp only [List.map_cons,zabF,zaao,zaa0,ih,Bool.and_self]
theorem zari (W:List (Nat × Nat)):zaee (W.map zaao)<=2:=by
 induction W with
 | nil=>simp [zaee]
 | cons p W ih=>
  simp only [List.map_cons,zaee,depD,zaao]
  omega
theorem zaqp {h:HI} {w:Nat} {W:List (Nat × Nat)} (e:h[w]?=some (.lst (W.map zaao))) (k:Nat):resD h (k + 3) (.ref w)=some (.lst (W.map zaao)):=by
 have:allD (resD h (k + 2)) (W.map zaao)=some (W.map zaao):=zamN _ _ _ fun x _=>by
  unfold zaao
  simp [resD,allD]
 rw [resD]
 simp only [e,this,Option.map_some]
theorem zavv {h:HI} {w:Nat} {W:List (Nat × Nat)} (e:h[w]?=some (.lst (W.map zaao))):oNeX (.ref w) (.lst []) h=some (.bl (!W.isEmpty),h):=by
 have r2:resD h 8 (.lst [])=some (.lst []):=by simp [resD,allD]
 have d:=zari W
 have ok:zadX (W.map zaao) []=true:=by
  unfold zadX
  rw [zap6]
  simp [zabF]
  omega
 rw [zasJ (zaqp e 5) r2 ok]
 cases W with
 | nil=>rfl
 | cons p W=>rfl
theorem zat7 {h0:HI} {c:Nat} (hc:c<=100) {f:Nat->Nat->Nat} (of:zaaX c f) {bn:Nat} {f0:Nat->Nat->Nat} (N0:NetAt h0 bn c f0) {s w b:Nat} {st:List (Nat × Nat × Nat)} {W:List (Nat × Nat)} {g:Nat->Nat->Nat} {h:HI} {u v:Nat} (R:Rst h0 c f s w b st ((u,v)::W) g h)
 (wt:zab9 c g ((u,v)::W) []) (x1 x5 x6:Option Dt) (lM:2 * zadx c g + (W.length + 1)<=1000000) :
 ∃ r,zaci [some (.ref (bn + c)),x1,some (.ref s),some (.ref (b + c)),some (.ref w),x5,x6] h=some r/\
  zah7 (fun l' h'=>∃ b' st' W' g' x5 x6,l'=[some (.ref (bn + c)),x1,some (.ref s),some (.ref (b' + c)),some (.ref w),x5,x6]/\Rst h0 c f s w b' st' W' g' h'/\zab9 c g' W' []/\2 * zadx c g' + W'.length < 2 * zadx c g + (W.length + 1)) (Rres h0 c f) r:=by
 have hu:=R.wc (u,v) (by simp)
 simp only at hu
 have pk:=zara (fa:=eC (Dt.int 0)) (l:=[some (.ref (bn + c)),x1,some (.ref s),some (.ref (b + c)),some (.ref w),x5,x6]) (show h[w]?=some (.lst (zaao (u,v)::W.map zaao)) from R.hw) rfl
 obtain ⟨h1,hh1⟩:∃ h1,h1=h.set w (.lst (W.map zaao)):=⟨_,rfl⟩
 rw [<- hh1] at pk
 have lw:=(List.getElem?_eq_some_iff.mp R.hw).1
 have len1:h1.length=h.length:=by rw [hh1,List.length_set]
 have R1:Rst h0 c f s w b st W g h1:={ R with
  low:=fun n hn=>by have:=R.w0; rw [hh1,List.getElem?_set_ne (by omega)]; exact R.low n hn
  len:=by rw [len1]; exact R.len
  hs:=by rw [hh1,List.getElem?_set_ne (Ne.symm R.sw)]; exact R.hs
  hw:=by rw [hh1,List.getElem?_set_self lw]
  net:=hh1 ▸ R.net.other (by have:=R.wb; omega) _
  wc:=fun p hp=>R.wc p (by simp [hp]) }
 have N1:fLen (.ref (bn + c)) h1=some (.int (c:Nat),h1):=by
  have:=N0.lt
  rw [zaiE (xs:=topD bn c) (by rw [R1.low _ this]; exact N0.top),zahW]
 have et:=zarP (a:=u) (b:=v) (show c<=1000 by omega) h1
 obtain ⟨h2,hh2⟩:∃ h2,h2=h1++[.lst ((zadF u v c).map t3D)]:=⟨_,rfl⟩
 rw [<- hh2] at et
 have R2:Rst h0 c f s w b st W g h2:=hh2 ▸ R1.grow _
 have q2:h2[h1.length]?=some (.lst ((zadF u v c).map t3D)):=by rw [hh2]; simp
 have sk:=zacG q2
 have ls:=(List.getElem?_eq_some_iff.mp R1.hs).1
 have lw1:=(List.getElem?_eq_some_iff.mp R1.hw).1
 obtain ⟨r,e,er⟩:=zaqN (i:=6) (n:=h1.length) (body:=zabQ) t3D (fun k l' h'=>∃ b' st' W' g' x6,l'=[some (.ref (bn + c)),x1,some (.ref s),some (.ref (b' + c)),some (.ref w),some (zaao (u,v)),x6]/\Rst h0 c f s w b' st' W' g' h'/\zab9 c g' W' ((zadF u v c).drop k)/\h'[h1.length]?=some (.lst ((zadF u v c).map t3D))/\h1.length < h'.length/\2 * zadx c g' + W'.length<=2 * zadx c g + W.length) (Rres h0 c f) (zadF u v c) (by
  rintro k l' h' ⟨b',st',W',g',x6,rfl,R',wt',q',lq,mm⟩
  exact q') (by
  rintro k t ht l' h' ⟨b',st',W',g',x6,rfl,R',wt',q',lq,mm⟩
  have hk:=(List.getElem?_eq_some_iff.mp ht).1
  have dk:(zadF u v c).drop k=t::(zadF u v c).drop (k + 1):=by
   rw [List.drop_eq_getElem_cons hk,(List.getElem?_eq_some_iff.mp ht).2]
  obtain ⟨o,ho,hou,hov,hto⟩:=mem_threes.mp (List.mem_of_getElem? ht)
  obtain ⟨x,y,z⟩:=t
  have dd:x < c/\y < c/\z < c/\Dist x y z:=by
   rcases hto with hto | hto <;> (simp only [Prod.mk.injEq] at hto; obtain ⟨rfl,rfl,rfl⟩:=hto)
   · exact ⟨hu.1,hu.2.1,ho,hu.2.2,Ne.symm hov,Ne.symm hou⟩
   · exact ⟨hu.2.1,hu.1,ho,Ne.symm hu.2.2,Ne.symm hou,Ne.symm hov⟩
  obtain ⟨hx,hy,hz,dist⟩:=dd
  rw [dk] at wt'
  have og:=R'.run.ok of
  obtain ⟨r,e,er⟩:=zasT hc of R' hx hy hz dist (by omega) (some (.ref (bn + c))) x1 (some (zaao (u,v)))
  refine ⟨r,e,?_⟩
  cases r with
  | nx l2 h2=>
   obtain ⟨b2,st2,W2,g2,rfl,R2',kp,ll,q⟩:=er
   have ne1:h1.length ≠ s:=by omega
   have ne2:h1.length ≠ w:=by omega
   refine ⟨b2,st2,W2,g2,_,rfl,R2',?_,by rw [kp _ lq ne1 ne2]; exact q',by omega,?_⟩
   · rcases q with ⟨n,rfl,rfl,rfl,rfl,rfl⟩ | ⟨rfl,rfl,tt⟩
     · exact zapa og hx hy hz wt' n
     · exact zao7 og hx hy hz dist wt'
   · rcases q with ⟨n,rfl,rfl,rfl,rfl,rfl⟩ | ⟨rfl,rfl,tt⟩
     · exact mm
     · simp only [List.length_append,List.length_cons,List.length_nil]
       omega
  | rt d h2=>exact er
  | bk l2 h2=>exact er.elim
  | ct l2 h2=>exact er.elim) [some (.ref (bn + c)),x1,some (.ref s),some (.ref (b + c)),some (.ref w),some (zaao (u,v)),x6] h2 ⟨b,st,W,g,x6,rfl,R2,zapK wt,q2,by rw [hh2]; simp,Nat.le_refl _⟩
 refine ⟨r,?_,?_⟩
 · simp only [zaci,zaaC,zaaH,zatv,q_eV,List.getElem?_cons_zero,List.getElem?_cons_succ,zaae,zaaf,pk,zaaB,List.set_cons_zero,List.set_cons_succ,zacX,zacc,zaaL,zaas,zaaw,q_F1,N1,List.append_nil,et,sk]
   exact e
 · cases r with
   | nx l' h'=>
    obtain ⟨b',st',W',g',x6,rfl,R',wt',q',lq,mm⟩:=er
    rw [List.drop_length] at wt'
    exact ⟨b',st',W',g',_,_,rfl,R',wt',by omega⟩
   | rt d h2=>exact er
   | bk l2 h2=>exact er.elim
   | ct l2 h2=>exact er.elim
end G
namespace G
open PySem PySem.Spec PyProof.Rows L2 SM
theorem zahd {h:HI} {c:Nat} (hc:c<=100) {f:Nat->Nat->Nat} (of:zaaX c f) {bn:Nat} {pd:Dt} (N:NetAt h bn c f) {P:List (Nat × Nat)} (hp:∀ e:HI,seqA (h++e) pd=some (P.map zaao)) (pc:∀ p ∈ P,p.1 < c/\p.2 < c/\p.1 ≠ p.2) (wt:zab9 c f P []) (lP:P.length<=100000) :
 ∃ d h',zack [.ref (bn + c),pd] h=some (d,h')/\Rres h c f d h':=by
 have tl:=zamB c f
 have hcc:c * (c * 13)<=100 * (100 * 13):=Nat.mul_le_mul hc (Nat.mul_le_mul_right 13 hc)
 have lN:=N.lt
 have N1:=N.grow [.lst []]
 have em:=zaoC N1 (show c<=1000 by omega)
 by_cases ne:zabt c f=true
 · refine ⟨.tup [.non,.ref h.length],h++[.lst []],?_,.non,h.length,[],f,rfl,Nat.le_refl _,by simp,fun n hn=>by rw [List.getElem?_append_left hn],by simp,.nil,by simp,.inl ⟨rfl,ne⟩⟩
   rw [ne] at em
   simp only [zack,zadN,q_fn,zaaC,zaaH,zaeH,zaaw,List.map_cons,List.map_nil,List.cons_append,List.nil_append,List.length_cons,List.length_nil,if_true,zaaf,zaaB,Nat.reduceAdd,Nat.reduceSub,List.replicate,List.set_cons_zero,List.set_cons_succ,zaeT,Nat.zero_le,zaa7,q_tB,zaaL,zaas,q_eV,List.getElem?_cons_zero,List.getElem?_cons_succ,zaae,List.append_nil,em,zaaK,zaaN,zab2,q_eC,zacI]
   simp
 · have ne':zabt c f=false:=by simpa using ne
   rw [ne'] at em
   obtain ⟨h1,hh1⟩:∃ h1:HI,h1=h++[.lst []]:=⟨_,rfl⟩
   rw [<- hh1] at em N1
   have len1:h1.length=h.length + 1:=by rw [hh1]; simp
   have cp:=zalT (te:=zaeS) rfl N1 (show c<=1000 by omega) [none] (by simp)
   have en:(h1++(List.range c).map fun i=>Ob.lst (rowD c (f i)))++[Ob.lst (topD h1.length c)]=h1++zabE h1.length c f:=by rw [List.append_assoc]; rfl
   have el:(h1++(List.range c).map fun i=>Ob.lst (rowD c (f i))).length=h1.length + c:=by simp
   obtain ⟨h2,hh2⟩:∃ h2:HI,h2=h1++zabE h1.length c f:=⟨_,rfl⟩
   have len2:h2.length=h1.length + (c + 1):=by rw [hh2,List.length_append,zakn]
   have C2:NetAt h2 h1.length c f:=hh2 ▸ zadm h1 c f
   have hp2:seqA h2 pd=some (P.map zaao):=by rw [hh2,hh1,List.append_assoc]; exact hp _
   have fl:zadZ pd h2=some (.ref h2.length,h2++[.lst (P.map zaao)]):=by simp only [zadZ,hp2,Option.map_some]
   obtain ⟨h3,hh3⟩:∃ h3:HI,h3=h2++[.lst (P.map zaao)]:=⟨_,rfl⟩
   rw [<- hh3] at fl
   have R:Rst h c f h.length h2.length h1.length [] P f h3:={
    low:=fun n hn=>by rw [hh3,List.getElem?_append_left (by omega),hh2,List.getElem?_append_left (by omega),hh1,List.getElem?_append_left hn]
    len:=by rw [hh3]; simp; omega
    hs:=by rw [hh3,List.getElem?_append_left (by omega),hh2,List.getElem?_append_left (by omega),hh1]; simp
    hw:=by rw [hh3]; simp
    net:=hh3 ▸ C2.grow _
    s0:=Nat.le_refl _
    w0:=by omega
    b0:=by omega
    sw:=by omega
    sb:=.inl (by omega)
    wb:=.inr (by omega)
    run:=.nil
    ne:=ne'
    sm:=by simp
    wc:=pc }
   obtain ⟨r,e,er⟩:=zalV (t:=zacl) (body:=zaci) (fun m l' h'=>∃ b' st' W' g' x5 x6,l'=[some (.ref (bn + c)),some pd,some (.ref h.length),some (.ref (b' + c)),some (.ref h2.length),x5,x6]/\Rst h c f h.length h2.length b' st' W' g' h'/\zab9 c g' W' []/\m=2 * zadx c g' + W'.length/\m<=1000000)
    (fun l' h'=>∃ b' st' g' x5 x6,l'=[some (.ref (bn + c)),some pd,some (.ref h.length),some (.ref (b' + c)),some (.ref h2.length),x5,x6]/\Rst h c f h.length h2.length b' st' [] g' h'/\zaeF c g') (Rres h c f) (by
    rintro m l' h' ⟨b',st',W',g',x5,x6,rfl,R',wt',rfl,lm⟩
    have nn:=zavv R'.hw
    cases W' with
    | nil=>
     refine ⟨false,h',?_,?_⟩
     · simp only [zacl,q_tB,q_e2,q_eV,zaf6,zaaw,List.getElem?_cons_zero,List.getElem?_cons_succ,zaae,zaaf,List.length_nil,zaeT,Nat.zero_le,if_true,nn,zaaK]
       rfl
     · rw [if_neg Bool.false_ne_true]
       exact ⟨b',st',g',x5,x6,rfl,R',zanq wt'⟩
    | cons p W'=>
     obtain ⟨u,v⟩:=p
     refine ⟨true,h',?_,?_⟩
     · simp only [zacl,q_tB,q_e2,q_eV,zaf6,zaaw,List.getElem?_cons_zero,List.getElem?_cons_succ,zaae,zaaf,List.length_nil,zaeT,Nat.zero_le,if_true,nn,zaaK]
       rfl
     · rw [if_pos rfl]
       obtain ⟨r,e,er⟩:=zat7 hc of N R' wt' (some pd) x5 x6 lm
       refine ⟨r,e,?_⟩
       cases r with
       | nx l2 h2=>
        obtain ⟨b2,st2,W2,g2,y5,y6,rfl,R2,wt2,mm⟩:=er
        exact ⟨_,mm,b2,st2,W2,g2,y5,y6,rfl,R2,wt2,rfl,by simp only [List.length_cons] at lm; omega⟩
       | rt d h2=>exact er
       | bk l2 h2=>exact er.elim
       | ct l2 h2=>exact er.elim) 1000000 (2 * zadx c f + P.length) [some (.ref (bn + c)),some pd,some (.ref h.length),some (.ref (h1.length + c)),some (.ref h2.length),none,none] h3 ⟨h1.length,[],P,f,none,none,rfl,R,wt,rfl,by omega⟩ (by omega)
   have go:∀ (k:Rs->Option Rs),zack [.ref (bn + c),pd] h=finK (bnd (zadD zacl zaci 1000000 [some (.ref (bn + c)),some pd,some (.ref h.length),some (.ref (h1.length + c)),some (.ref h2.length),none,none] h3) (sqK (sRet (eTup (zaac (eV 3) (zaac (eV 2) aNil)))))):=by
    intro _
    simp only [zack,zadN,q_fn,zaaC,zaaH,zaeH,zaaw,List.map_cons,List.map_nil,List.cons_append,List.nil_append,List.length_cons,List.length_nil,if_true,zaaf,zaaB,Nat.reduceAdd,Nat.reduceSub,List.replicate,List.set_cons_zero,List.set_cons_succ,zaeT,Nat.zero_le,zaa7,q_tB,zaaL,zaas,q_eV,List.getElem?_cons_zero,List.getElem?_cons_succ,zaae,List.append_nil]
    rw [<- hh1]
    simp only [em,zaaf,zaaK,Bool.false_eq_true,if_false,zabs,zaaB,zaaC,zaaH,zaj7,zacc,q_eV,List.getElem?_cons_zero,List.getElem?_cons_succ,zaae,N1.seq,zac3,zadK,cp,en,el,List.set_cons_zero,List.set_cons_succ,q_F1]
    rw [<- hh2]
    simp only [fl,zaaf,zaaB,zaaC,zatm,List.set_cons_zero,List.set_cons_succ]
   rw [go some,e,zaaf]
   cases r with
   | nx l' h'=>
    obtain ⟨b',st',g',x5,x6,rfl,R',cl⟩:=er
    refine ⟨.tup [.ref (b' + c),.ref h.length],h',?_,.ref (b' + c),h.length,st',g',rfl,R'.s0,R'.len,R'.low,R'.hs,R'.run,by have:=R'.sm; omega,.inr ⟨b',rfl,R'.b0,R'.net,cl,R'.ne,R'.sb⟩⟩
    simp
   | rt d h'=>exact ⟨d,h',by simp,er⟩
   | bk l2 h2=>exact er.elim
   | ct l2 h2=>exact er.elim
end G
namespace G
open PySem PySem.Spec PyProof.Rows L2 SM
noncomputable def SubN (c:Nat) (m f:Nat->Nat->Nat):Prop:=∀ i < c,∀ j < c,SubS (m i j) (f i j)
theorem SubS.antisymm {a b:Nat} (h1:SubS a b) (h2:SubS b a):a=b:=by
 unfold SubS at h1 h2
 rw [Nat.and_comm] at h2
 exact h1.symm.trans h2
theorem Steps.sub {c:Nat} {f g:Nat->Nat->Nat} {st:List (Nat × Nat × Nat)} (h:Steps c f st g) (o:zaaX c f):SubN c g f:=by
 induction h with
 | nil=>exact fun i _ j _=>SubS.refl _
 | snoc h hi hk hj d ne n ih=>exact fun a ha b hb=>(zajV (h.ok o) hi hj d.2.2 a b).trans (ih a ha b hb)
theorem Steps.keeps {c:Nat} {f g m:Nat->Nat->Nat} {st:List (Nat × Nat × Nat)} (h:Steps c f st g) (om:zaaX c m) (cm:zaeF c m) (s:SubN c m f):SubN c m g:=by
 induction h with
 | nil=>exact s
 | @snoc st g i k j h hi hk hj d ne n ih=>
  have l:SubS (m i j) (zaaS g i k j):=by
   have:=cm i hi k hk j hj d
   unfold zaaS at this ⊢
   exact zarU (ih i hi j hj) ((show SubS (m i j) (chS (m i k) (m k j)) from this).trans (zars (ih i hi k hk) (ih k hk j hj)))
  intro a ha b hb
  by_cases h1:a=i/\b=j
  · obtain ⟨rfl,rfl⟩:=h1
    rw [zaeA g d.2.2]
    exact l
  · by_cases h2:a=j/\b=i
    · obtain ⟨rfl,rfl⟩:=h2
      rw [zaj3,om.tn b hi a hj]
      exact zalH l
    · rw [zadj g h1 h2]
      exact ih a ha b hb
structure IsPerm (c:Nat) (p q:Nat->Nat):Prop where
 pl:∀ i < c,p i < c
 ql:∀ i < c,q i < c
 qp:∀ i < c,q (p i)=i
 pq:∀ i < c,p (q i)=i
theorem IsPerm.symm {c:Nat} {p q:Nat->Nat} (P:IsPerm c p q):IsPerm c q p:=⟨P.ql,P.pl,P.pq,P.qp⟩
end G
namespace G
open PySem PySem.Spec PyProof.Rows L2 SM
noncomputable def Up (h h':HI):Prop:=h.length<=h'.length/\∀ n,n < h.length->h'[n]?=h[n]?
theorem Up.refl (h:HI):Up h h:=⟨Nat.le_refl _,fun _ _=>rfl⟩
theorem Up.trans {h h1 h2:HI} (a:Up h h1) (b:Up h1 h2):Up h h2:=⟨Nat.le_trans a.1 b.1,fun n hn=>by rw [b.2 n (by have:=a.1; omega),a.2 n hn]⟩
theorem Up.app (h e:HI):Up h (h++e):=⟨by simp,fun n hn=>List.getElem?_append_left hn⟩
theorem Up.net {h h':HI} (u:Up h h') {b c:Nat} {f:Nat->Nat->Nat} (N:NetAt h b c f):NetAt h' b c f:=by
 have:=N.lt
 exact ⟨fun i hi=>by rw [u.2 _ (by omega)]; exact N.row i hi,by rw [u.2 _ this]; exact N.top⟩
theorem Up.get {h h':HI} (u:Up h h') {n:Nat} {o:Ob} (e:h[n]?=some o):h'[n]?=some o:=by
 rw [u.2 n (List.getElem?_eq_some_iff.mp e).1]
 exact e
end G
namespace G
open PySem PySem.Spec PyProof.Rows L2 SM BF
noncomputable def pbs (p q:Nat) (a mx mn:Int):List Bd:=(if mx<=a then [(p,q,if mx < a then -1 else 0)] else [])++(if a<=mn then [(q,p,if a < mn then -1 else 0)] else [])
theorem zahJ (p q:Nat) (a:Int) {seen:List Int} (hs:seen ≠ []) (h:HI):zabU [.int (p:Nat),.int (q:Nat),.int a,.lst (seen.map Dt.int)] h=some (.ref h.length,h++[.lst ((pbs p q a (maxL seen) (minL seen)).map trip)]):=by
 have e1:=fun h=>zawI (h:=h) hs
 have em:=fun h=>zawa (h:=h) hs
 generalize maxL seen=mx at e1
 generalize minL seen=mn at em
 have ap:=fun (l:LI) (xs:List Bd) (g:RE) (d:Bd) (c:xs.length < 5) (eg:g l (h++[.lst (xs.map trip)])=some (trip d,h++[.lst (xs.map trip)]))=>
  zadv (h:=h++[.lst (xs.map trip)]) (l:=l) (n:=h.length) (ys:=xs.map trip) (xs:=xs.map trip) (d:=trip d) (by simp) eg (by simp) (by simp; omega)
 have es:∀ (xs:List Bd) (d:Bd),(h++[Ob.lst (xs.map trip)]).set h.length (.lst (xs.map trip++[trip d]))=h++[.lst ((xs++[d]).map trip)]:=fun xs d=>by simp
 have first:∀ l2:LI,l2=[some (.int (p:Nat)),some (.int (q:Nat)),some (.int a),some (.lst (seen.map Dt.int)),some (.ref h.length)]->sIf (tB' (e2 oLe (eF1 fMax (eV 3)) (eV 2))) (zacN (zab5 (eV 4) (eTup (zaac (eV 0) (zaac (eV 1) (zaac (vIf (tB' (e2 oLt (eF1 fMax (eV 3)) (eV 2))) (uNeg (eC (.int 1))) (eC (.int 0))) (aNil))))))) (sNil) l2 (h++[.lst []]) =
  some (.nx l2 (h++[.lst ((if mx<=a then [((p,q,if mx < a then -1 else 0):Bd)] else []).map trip)])):=fun l2 hl2=>by
  subst hl2
  by_cases c1:mx<=a
  · have g:=ap [some (.int (p:Nat)),some (.int (q:Nat)),some (.int a),some (.lst (seen.map Dt.int)),some (.ref h.length)] [] (eTup (zaac (eV 0) (zaac (eV 1) (zaac (vIf (tB' (e2 oLt (eF1 fMax (eV 3)) (eV 2))) (uNeg (eC (.int 1))) (eC (.int 0))) (aNil))))) (p,q,if mx < a then -1 else 0) (by simp) (by
     by_cases c2:mx < a <;> simp [e1,c2,trip])
    rw [es] at g
    simp only [List.map_nil,List.nil_append] at g
    simp only [zaa7,q_tB,q_e2,q_F1,q_eV,List.getElem?_cons_zero,List.getElem?_cons_succ,zaae,zaaf,e1,o_le,zaaK,c1,decide_true,if_true,zab4,zacA,g]
  · simp [e1,c1]
 have second:∀ (xs:List Bd),xs.length < 5->sIf (tB' (e2 oGe (eF1 fMin (eV 3)) (eV 2))) (zacN (zab5 (eV 4) (eTup (zaac (eV 1) (zaac (eV 0) (zaac (vIf (tB' (e2 oGt (eF1 fMin (eV 3)) (eV 2))) (uNeg (eC (.int 1))) (eC (.int 0))) (aNil))))))) (sNil) [some (.int (p:Nat)),some (.int (q:Nat)),some (.int a),some (.lst (seen.map Dt.int)),some (.ref h.length)] (h++[.lst (xs.map trip)]) =
  some (.nx [some (.int (p:Nat)),some (.int (q:Nat)),some (.int a),some (.lst (seen.map Dt.int)),some (.ref h.length)] (h++[.lst ((xs++if a<=mn then [((q,p,if a < mn then -1 else 0):Bd)] else []).map trip)])):=fun xs hx=>by
  by_cases c1:a<=mn
  · have g:=ap [some (.int (p:Nat)),some (.int (q:Nat)),some (.int a),some (.lst (seen.map Dt.int)),some (.ref h.length)] xs (eTup (zaac (eV 1) (zaac (eV 0) (zaac (vIf (tB' (e2 oGt (eF1 fMin (eV 3)) (eV 2))) (uNeg (eC (.int 1))) (eC (.int 0))) (aNil))))) (q,p,if a < mn then -1 else 0) hx (by
     by_cases c2:a < mn <;> simp [em,c2,trip])
    rw [es] at g
    simp only [zaa7,q_tB,q_e2,q_F1,q_eV,List.getElem?_cons_zero,List.getElem?_cons_succ,zaae,zaaf,em,o_ge,zaaK,c1,decide_true,if_true,zab4,zacA,g]
  · simp [em,c1]
 have f1:=first _ rfl
 have f2:=second (if mx<=a then [((p,q,if mx < a then -1 else 0):Bd)] else []) (by split <;> simp)
 unfold pbs
 simp only [zabU,zaew,q_fn,List.length_cons,List.length_nil,if_true,List.map_cons,List.map_nil,Nat.reduceAdd,Nat.reduceSub,List.replicate,List.cons_append,List.nil_append,zaaC,zaaH,zaeH,zaaw,zaaf,Nat.zero_le,zaeT,List.set_cons_succ,List.set_cons_zero,zaaB,f1,f2,zaaN,q_eV,List.getElem?_cons_zero,List.getElem?_cons_succ,zaae,zaaI]
end G
namespace G
open PySem PySem.Spec PyProof.Rows L2 SM BF
noncomputable def pz (w:Nat):Nat × Nat:=pairsN.getD w (0,0)
theorem zats {w:Nat} (hw:w < 13) (h:HI):zajn [.int w] h=some (pr (pz w),h):=by
 rcases lt13 hw with rfl | rfl | rfl | rfl | rfl | rfl | rfl | rfl | rfl | rfl | rfl | rfl | rfl <;> kernel_rfl
noncomputable def zs (side w:Nat):Int:=if side=0 then ((pz w).1:Int) else ((pz w).2:Int)
noncomputable def zabk (side m:Nat):List Int:=(zaaO m).map (zs side)
theorem zaol {side m:Nat} (hm:zaaO m ≠ []):zabk side m ≠ []:=by
 unfold zabk
 intro z
 exact hm (List.map_eq_nil_iff.mp z)
noncomputable def zafu (i j side m:Nat):List Bd:=pbs (2 * i + side) (2 * j) 1 (maxL (zabk side m)) (minL (zabk side m))++pbs (2 * i + side) (2 * j + 1) 3 (maxL (zabk side m)) (minL (zabk side m))
theorem zan7 {c:Prop} [Decidable c] (x:Bd):(if c then [x] else []).length<=1:=by split <;> simp
theorem zalo (p q:Nat) (a mx mn:Int):(pbs p q a mx mn).length<=2:=by
 unfold pbs
 rw [List.length_append]
 exact Nat.add_le_add (zan7 _) (zan7 _)
theorem zap4 {h:HI} {F G:List Bd} {rest:List Ob} {l:LI} {g:RE} (c:F.length + G.length<=100000) (eg:g l (h++.lst (F.map trip)::rest)=some (.ref (h++.lst (F.map trip)::rest).length,(h++.lst (F.map trip)::rest)++[.lst (G.map trip)])) :
 extK g l (.ref h.length,h++.lst (F.map trip)::rest)=some (.non,h++.lst ((F++G).map trip)::(rest++[.lst (G.map trip)])):=by
 have e0:(h++Ob.lst (F.map trip)::rest)[h.length]?=some (.lst (F.map trip)):=by simp
 have e1:((h++Ob.lst (F.map trip)::rest)++[Ob.lst (G.map trip)])[h.length]?=some (.lst (F.map trip)):=by
  rw [List.getElem?_append_left (by simp)]
  exact e0
 have e2:((h++Ob.lst (F.map trip)::rest)++[Ob.lst (G.map trip)])[(h++Ob.lst (F.map trip)::rest).length]?=some (.lst (G.map trip)):=by
  rw [List.getElem?_append_right (Nat.le_refl _),Nat.sub_self]
  rfl
 rw [zam5 e0 eg e1 e2 (by simp; omega)]
 simp
theorem zalz (i j m side:Nat) (hs:side=0\/side=1) (hi:i<=1000) (hj:j<=1000) (hm:zaaO m ≠ []) (h:HI) (F:List Bd) (hF:F.length<=1000) (rest:List Ob) (y5:Option Dt):∃ y rest',zacT [some (.int (i:Nat)),some (.int (m:Nat)),some (.int (j:Nat)),some (.ref h.length),some (.int (side:Nat)),y5] (h++.lst (F.map trip)::rest) =
 some (.nx [some (.int (i:Nat)),some (.int (m:Nat)),some (.int (j:Nat)),some (.ref h.length),some (.int (side:Nat)),y] (h++.lst ((F++zafu i j side m).map trip)::rest')):=by
 have ew:=fun h=>zaf7 m h
 have wl:∀ k ∈ zaaO m,k < 13:=fun k hk=>List.mem_range.mp (List.mem_filter.mp hk).1
 have ln:((zaaO m).map fun (k:Nat)=>Dt.int (k:Int)).length < sizeLine:=by
  have:(zaaO m).length<=13:=Nat.le_trans (List.length_filter_le _ _) (by simp)
  simp
  omega
 have ec:=zael (te:=zacS) (tc:=zabh) (i:=0) (fun (k:Nat)=>Dt.int (k:Int)) (fun k=>Dt.int (zs side k)) (h++.lst (F.map trip)::rest) (zaaO m) [none,some (.int (side:Nat))] (by
  intro k hk
  have ez:=zats (wl k hk) (h++.lst (F.map trip)::rest)
  refine ⟨by simp,?_⟩
  rcases hs with rfl | rfl
  · simp [zacS,ez,pr,zs]
  · simp [zacS,ez,pr,zs])
 have ek:=zacr (l:=[none,some (.int (side:Nat))]) (h:=h++.lst (F.map trip)::rest) (gSet 0) zabh zacS ln
 rw [ec] at ek
 have sl:(zaaO m).map (fun k=>Dt.int (zs side k))=(zabk side m).map Dt.int:=by unfold zabk; rw [List.map_map]; rfl
 rw [sl] at ek
 have hp:=fun h=>zahJ (2 * i + side) (2 * j) 1 (zaol (side:=side) hm) h
 have hq:=fun h=>zahJ (2 * i + side) (2 * j + 1) 3 (zaol (side:=side) hm) h
 have pl:∀ p q a mx mn,(pbs p q a mx mn).length<=2:=zalo
 have u:=fun (i:Int) (h:HI)=>zafR (h:=h) (i:=2) (j:=i) (Or.inl ⟨by decide,by decide⟩)
 have ca:(2:Int) * (i:Int) + (side:Int)=((2 * i + side:Nat):Int):=by omega
 have cb:(2:Int) * (j:Int)=((2 * j:Nat):Int):=by omega
 have cc:((2 * j:Nat):Int) + 1=((2 * j + 1:Nat):Int):=by omega
 have x1:=zap4 (h:=h) (F:=F) (G:=pbs (2 * i + side) (2 * j) 1 (maxL (zabk side m)) (minL (zabk side m))) (rest:=rest) (l:=[some (.int (i:Nat)),some (.int (m:Nat)),some (.int (j:Nat)),some (.ref h.length),some (.int (side:Nat)),some (.lst ((zabk side m).map Dt.int))])
  (g:=zaav zabU [] (zaac (e2 oAdd (e2 oMul (eC (.int 2)) (eV 0)) (eV 4)) (zaac (e2 oMul (eC (.int 2)) (eV 2)) (zaac (eC (.int 1)) (zaac (eV 5) (aNil)))))) (by have:=pl (2 * i + side) (2 * j) 1 (maxL (zabk side m)) (minL (zabk side m)); omega) (by
   simp only [zaaL,zaas,zaaw,q_e2,q_eC,q_eV,List.getElem?_cons_zero,List.getElem?_cons_succ,zaae,zaaf,u,zado,ca,cb,List.append_nil]
   exact hp _)
 have x2:=zap4 (h:=h) (F:=F++pbs (2 * i + side) (2 * j) 1 (maxL (zabk side m)) (minL (zabk side m))) (G:=pbs (2 * i + side) (2 * j + 1) 3 (maxL (zabk side m)) (minL (zabk side m))) (rest:=rest++[.lst ((pbs (2 * i + side) (2 * j) 1 (maxL (zabk side m)) (minL (zabk side m))).map trip)]) (l:=[some (.int (i:Nat)),some (.int (m:Nat)),some (.int (j:Nat)),some (.ref h.length),some (.int (side:Nat)),some (.lst ((zabk side m).map Dt.int))])
  (g:=zaav zabU [] (zaac (e2 oAdd (e2 oMul (eC (.int 2)) (eV 0)) (eV 4)) (zaac (e2 oAdd (e2 oMul (eC (.int 2)) (eV 2)) (eC (.int 1))) (zaac (eC (.int 3)) (zaac (eV 5) (aNil)))))) (by have:=pl (2 * i + side) (2 * j) 1 (maxL (zabk side m)) (minL (zabk side m)); have:=pl (2 * i + side) (2 * j + 1) 3 (maxL (zabk side m)) (minL (zabk side m)); simp; omega) (by
   simp only [zaaL,zaas,zaaw,q_e2,q_eC,q_eV,List.getElem?_cons_zero,List.getElem?_cons_succ,zaae,zaaf,u,zado,ca,cb,cc,List.append_nil]
   exact hq _)
 refine ⟨some (.lst ((zabk side m).map Dt.int)),rest++[.lst ((pbs (2 * i + side) (2 * j) 1 (maxL (zabk side m)) (minL (zabk side m))).map trip)]++[.lst ((pbs (2 * i + side) (2 * j + 1) 3 (maxL (zabk side m)) (minL (zabk side m))).map trip)],?_⟩
 unfold zafu
 rw [<- List.append_assoc]
 simp only [zacT,zaaC,zaaH,zae3,zacc,zaaL,zaas,zaaw,q_eV,List.getElem?_cons_zero,List.getElem?_cons_succ,zaae,zaaf,List.append_nil,ew,zae0,zac3,zah6,zadK,Option.join,Option.bind_some,id,ek,List.set_cons_succ,List.set_cons_zero,zaaB,zab4,zaig,x1,x2]
theorem zaen (i j side m:Nat):(zafu i j side m).length<=4:=by
 unfold zafu
 rw [List.length_append]
 have h1:=zalo (2 * i + side) (2 * j) 1 (maxL (zabk side m)) (minL (zabk side m))
 have h2:=zalo (2 * i + side) (2 * j + 1) 3 (maxL (zabk side m)) (minL (zabk side m))
 omega
noncomputable def setB (i m j:Nat):List Bd:=zafu i j 0 m++zafu i j 1 m
theorem zaiN (i m j:Nat) (hi:i<=1000) (hj:j<=1000) (hm:zaaO m ≠ []) (h:HI):∃ rest,zac6 [.int (i:Nat),.int (m:Nat),.int (j:Nat)] h=some (.ref h.length,h++.lst ((setB i m j).map trip)::rest):=by
 obtain ⟨y1,r1,e1⟩:=zalz i j m 0 (.inl rfl) hi hj hm h [] (by simp) [] none
 obtain ⟨y2,r2,e2⟩:=zalz i j m 1 (.inr rfl) hi hj hm h (zafu i j 0 m) (by have:=zaen i j 0 m; omega) r1 y1
 have er:r1K (.int 2,h++[.lst []])=some (.vals [.int 0,.int 1],h++[.lst []]):=by
  rw [zadE (by decide) (by decide)]
  rfl
 refine ⟨r2,?_⟩
 have e1':zacT [some (.int (i:Nat)),some (.int (m:Nat)),some (.int (j:Nat)),some (.ref h.length),some (.int 0),none] (h++[.lst []])=some (.nx [some (.int (i:Nat)),some (.int (m:Nat)),some (.int (j:Nat)),some (.ref h.length),some (.int 0),y1] (h++.lst ((zafu i j 0 m).map trip)::r1)):=e1
 have e2':zacT [some (.int (i:Nat)),some (.int (m:Nat)),some (.int (j:Nat)),some (.ref h.length),some (.int 1),y1] (h++.lst ((zafu i j 0 m).map trip)::r1)=some (.nx [some (.int (i:Nat)),some (.int (m:Nat)),some (.int (j:Nat)),some (.ref h.length),some (.int 1),y2] (h++.lst ((setB i m j).map trip)::r2)):=e2
 simp [zac6,zafk,er,zab1,e1',e2']
theorem zakD (i:Nat) (lo hi:Int) {g:Nat} (hg:g<=1000) (h:HI):zacz [.tup [.int (i:Nat),.int lo,.int hi],.int (g:Nat)] h=some (.ref h.length,h++[.lst (([(2 * i,2 * i + 1,-lo * g),(2 * i + 1,2 * i,hi * g)]:List Bd).map trip)]):=by
 have u:=fun (h:HI)=>zafR (h:=h) (i:=2) (j:=(i:Int)) (Or.inl ⟨by decide,by decide⟩)
 have v:=fun (x:Int) (h:HI)=>zafR (h:=h) (i:=x) (j:=(g:Int)) (Or.inr ⟨by omega,by omega⟩)
 simp [zacz,zaea,u,v,trip]
end G
namespace G
open PySem PySem.Spec PyProof.Rows L2 SM BF
noncomputable abbrev Ln:=Nat × Int × Int
noncomputable def lenD (x:Ln):Dt:=.tup [.int (x.1:Nat),.int x.2.1,.int x.2.2]
noncomputable def lenB (g:Nat) (x:Ln):List Bd:=[(2 * x.1,2 * x.1 + 1,-x.2.1 * g),(2 * x.1 + 1,2 * x.1,x.2.2 * g)]
noncomputable def netV (c:Nat) (N:Nat->Nat->Nat):List Dt:=(List.range c).map fun i=>.lst ((List.range c).map fun j=>.int ((N i j:Nat):Int))
noncomputable def ownB (c:Nat):List Bd:=(List.range c).map fun i=>(2 * i,2 * i + 1,-1)
noncomputable def zadl (c:Nat) (N:Nat->Nat->Nat) (ls:List Ln):List Bd:=ownB c++ls.flatMap (lenB (2 * c + 1))++(zaat c).flatMap fun p=>setB p.1 (N p.1 p.2) p.2
theorem zaln {h:HI} {F G:List Bd} {rest rest2:List Ob} {l:LI} {g:RE} (c:F.length + G.length<=100000) (eg:g l (h++.lst (F.map trip)::rest)=some (.ref (h++.lst (F.map trip)::rest).length,(h++.lst (F.map trip)::rest)++.lst (G.map trip)::rest2)) :
 extK g l (.ref h.length,h++.lst (F.map trip)::rest)=some (.non,h++.lst ((F++G).map trip)::(rest++.lst (G.map trip)::rest2)):=by
 have e0:(h++Ob.lst (F.map trip)::rest)[h.length]?=some (.lst (F.map trip)):=by simp
 have e1:((h++Ob.lst (F.map trip)::rest)++Ob.lst (G.map trip)::rest2)[h.length]?=some (.lst (F.map trip)):=by
  rw [List.getElem?_append_left (by simp)]
  exact e0
 have e2:((h++Ob.lst (F.map trip)::rest)++Ob.lst (G.map trip)::rest2)[(h++Ob.lst (F.map trip)::rest).length]?=some (.lst (G.map trip)):=by
  rw [List.getElem?_append_right (Nat.le_refl _),Nat.sub_self]
  rfl
 rw [zam5 e0 eg e1 e2 (by simp; omega)]
 simp
theorem zae2 {α β:Type} (f:α->List β) {xs:List α} {k:Nat} {x:α} (hx:xs[k]?=some x):(xs.take (k + 1)).flatMap f=(xs.take k).flatMap f++f x:=by
 rw [List.take_add_one,hx,List.flatMap_append]
 simp
theorem zatz (c:Nat) (h:HI):zagD [.int (c:Nat)] h=some (.int ((2 * c + 1:Nat):Int),h):=by
 have u:=fun (h:HI)=>zafR (h:=h) (i:=2) (j:=(c:Int)) (Or.inl ⟨by decide,by decide⟩)
 simp [zagD,zajg,u]
theorem zawL {c b:Nat} (hc:c<=100) {N:Nat->Nat->Nat} (hN:∀ i j,zaaO (N i j) ≠ []) {h:HI} {F:List Bd} (hF:F.length<=3000) {r0:List Ob} (db:∀ G:List Bd,∀ r2:List Ob,(h++.lst (G.map trip)::(r0++r2))[b]?=some (.lst ((zaat c).map zaao))) (x1 y3:Option Dt) (pl:(zaat c).length<=10000) (pin:∀ p ∈ zaat c,p.1 < c/\p.2 < c) :
 ∃ y rest,forK (gSet 4) zadq [some (.lst (netV c N)),x1,some (.ref h.length),y3,none] (.rf b,h++.lst (F.map trip)::r0) =
 some (.nx [some (.lst (netV c N)),x1,some (.ref h.length),y3,y] (h++.lst ((F++(zaat c).flatMap fun p=>setB p.1 (N p.1 p.2) p.2).map trip)::rest)):=by
 obtain ⟨l',h',e,⟨y,rfl⟩,r2,rfl,_⟩:=zamt (i:=4) (n:=b) (body:=zadq) zaao (fun k l h'=>(∃ y,l=[some (.lst (netV c N)),x1,some (.ref h.length),y3,y])/\∃ r2,h'=h++.lst ((F++((zaat c).take k).flatMap fun p=>setB p.1 (N p.1 p.2) p.2).map trip)::(r0++r2)/\(((zaat c).take k).flatMap fun p=>setB p.1 (N p.1 p.2) p.2).length<=8 * k) (zaat c) (by
  rintro k l h' ⟨_,r2,rfl,_⟩
  exact db _ r2) (by
  rintro k x hx l h' ⟨⟨y,rfl⟩,r2,rfl,hk⟩
  have kl:k < (zaat c).length:=(List.getElem?_eq_some_iff.mp hx).1
  obtain ⟨p1,p2⟩:=pin x (List.mem_of_getElem? hx)
  have l8:(setB x.1 (N x.1 x.2) x.2).length<=8:=by
   unfold setB
   rw [List.length_append]
   have:=zaen x.1 x.2 0 (N x.1 x.2)
   have:=zaen x.1 x.2 1 (N x.1 x.2)
   omega
  obtain ⟨rs,eb⟩:=zaiN x.1 (N x.1 x.2) x.2 (by omega) (by omega) (hN _ _) (h++.lst ((F++((zaat c).take k).flatMap fun p=>setB p.1 (N p.1 p.2) p.2).map trip)::(r0++r2))
  have n1:(netV c N)[x.1]?=some (.lst ((List.range c).map fun j=>.int ((N x.1 j:Nat):Int))):=by simp [netV,p1]
  have n2:((List.range c).map fun j=>Dt.int ((N x.1 j:Nat):Int))[x.2]?=some (.int ((N x.1 x.2:Nat):Int)):=by simp [p2]
  have xx:=zaln (h:=h) (F:=F++((zaat c).take k).flatMap fun p=>setB p.1 (N p.1 p.2) p.2) (G:=setB x.1 (N x.1 x.2) x.2) (rest:=r0++r2) (rest2:=rs) (l:=[some (.lst (netV c N)),x1,some (.ref h.length),y3,some (zaao x)]) (g:=zaav zac6 [] (zaac (e2 oIx (eV 4) (eC (.int 0))) (zaac (e2 oIx (e2 oIx (eV 0) (e2 oIx (eV 4) (eC (.int 0)))) (e2 oIx (eV 4) (eC (.int 1)))) (zaac (e2 oIx (eV 4) (eC (.int 1))) (aNil))))) (by rw [List.length_append]; omega) (by
   simp only [zaaL,zaas,zaaw,q_e2,q_eC,q_eV,List.getElem?_cons_zero,List.getElem?_cons_succ,zaae,zaaf,zaao,zaaZ,zaa9,zadb,Option.map_some,zaml,SM.zabL,n1,n2,List.append_nil]
   exact eb)
  refine ⟨.nx [some (.lst (netV c N)),x1,some (.ref h.length),y3,some (zaao x)] (h++.lst ((F++((zaat c).take (k + 1)).flatMap fun p=>setB p.1 (N p.1 p.2) p.2).map trip)::(r0++(r2++.lst ((setB x.1 (N x.1 x.2) x.2).map trip)::rs))),?_,⟨_,rfl⟩,_,rfl,?_⟩
  · rw [zae2 _ hx,<- List.append_assoc,<- List.append_assoc]
    simp only [zadq,zab4,zaig,q_eV,List.set_cons_succ,List.set_cons_zero,List.getElem?_cons_zero,List.getElem?_cons_succ,zaae,zaaf,xx]
  · rw [zae2 _ hx,List.length_append]
    omega) [some (.lst (netV c N)),x1,some (.ref h.length),y3,none] (h++.lst (F.map trip)::r0) ⟨⟨_,rfl⟩,[],by simp,by simp⟩
 rw [List.take_length] at e
 exact ⟨y,_,e⟩
theorem zaj6 {c:Nat} {p:Nat × Nat} (h:p ∈ zaat c):p.1 < c/\p.2 < c:=by
 unfold zaat zabi at h
 obtain ⟨i,hi,h⟩:=List.mem_flatMap.mp h
 obtain ⟨k,hk,rfl⟩:=List.mem_map.mp h
 have:=List.mem_range.mp hi
 have:=List.mem_range.mp hk
 exact ⟨by omega,by show i + 1 + k < c; omega⟩
end G
namespace G
open PySem PySem.Spec PyProof.Rows L2 SM
theorem zanV {c i:Nat} (hi:i < c):List.replicate i (Dt.int 8191)++[Dt.int 64]++List.replicate (c - i - 1) (Dt.int 8191)=rowD c (zaca i):=by
 apply List.ext_getElem?
 intro k
 by_cases hk:k < c
 · rw [zagY hk]
   rcases Nat.lt_trichotomy k i with h | h | h
   · rw [List.append_assoc,List.getElem?_append_left (by simpa using h)]
     have:¬ i=k:=by omega
     simp [h,zaca,this]
   · subst h
     rw [List.append_assoc,List.getElem?_append_right (by simp)]
     simp [zaca]
   · rw [List.getElem?_append_right (by simp; omega)]
     have:¬ i=k:=by omega
     have q:k - (i + 1) < c - i - 1:=by omega
     simp [zaca,this,List.getElem?_replicate,q]
 · rw [List.getElem?_eq_none (by simp; omega),List.getElem?_eq_none (by rw [zah2]; omega)]
theorem zapm {c i:Nat} (hi:i < c) (hc:c<=1000) (h:HI):zafp [.int (c:Nat),.int (i:Nat)] h=some (.ref h.length,h++[.lst (rowD c (zaca i))]):=by
 have e1:=zam2 (h:=h) (Dt.int 8191) (show i<=1000000 by omega)
 have e2:=zam2 (h:=h) (Dt.int 8191) (show c - i - 1<=1000000 by omega)
 have ec:(c:Int) - (i:Int) - 1=((c - i - 1:Nat):Int):=by omega
 have e3:=zawe (h:=h) (xs:=List.replicate i (Dt.int 8191)) (ys:=[Dt.int 64]) (by simp; omega)
 have e4:zamo (.lst (List.replicate i (Dt.int 8191)++[Dt.int 64])) (.lst (List.replicate (c - i - 1) (Dt.int 8191))) h=some (.ref h.length,h++[.lst (List.replicate i (Dt.int 8191)++[Dt.int 64]++List.replicate (c - i - 1) (Dt.int 8191))]):=by
  simp only [zamo,seqL,Option.bind_some]
  rw [if_pos (by simp; omega)]
 rw [zanV hi] at e4
 simp [zafp,zagC,e1,ec,e2,e3,e4]
theorem zau8 {c:Nat} (hc:c<=1000) (h:HI):zaiP [.int (c:Nat)] h=some (.ref (h.length + c),h++zabE h.length c zaca):=by
 have er:=zadE (h:=h) (show (-(2 ^ 62):Int)<=(c:Int) by omega) (show (c:Int) < 2 ^ 62 by omega)
 simp only [Int.toNat_natCast] at er
 have hn:=zaiY (te:=zah0) (i:=0) (fun (k:Nat)=>Dt.int (k:Int)) (fun i=>Ob.lst (rowD c (zaca i))) h (List.range c) [none,some (.int (c:Nat))] [] (by
  intro k hk e
  have:=zapm (List.mem_range.mp hk) hc (h++e)
  simp [zah0,this])
 rw [List.append_nil,List.length_range] at hn
 have hs:((List.range c).map fun (k:Nat)=>Dt.int (k:Int)).length < sizeLine:=by simp; omega
 simp [zaiP,zakh,er,zacr _ _ _ hs,hn,zabE,topD]
end G
namespace G
open PySem PySem.Spec PyProof.Rows L2 SM BF
noncomputable def UpL (h h':HI):Prop:=h.length<=h'.length/\∀ (n:Nat) (xs:List Dt),h[n]?=some (.lst xs)->h'[n]?=some (.lst xs)
theorem UpL.refl (h:HI):UpL h h:=⟨Nat.le_refl _,fun _ _ e=>e⟩
theorem UpL.trans {h h1 h2:HI} (a:UpL h h1) (b:UpL h1 h2):UpL h h2:=⟨Nat.le_trans a.1 b.1,fun n xs e=>b.2 n xs (a.2 n xs e)⟩
theorem Up.l {h h':HI} (u:Up h h'):UpL h h':=⟨u.1,fun _ _ e=>u.get e⟩
theorem UpL.app (h e:HI):UpL h (h++e):=(Up.app h e).l
theorem UpL.net {h h':HI} (u:UpL h h') {b c:Nat} {f:Nat->Nat->Nat} (N:NetAt h b c f):NetAt h' b c f:=⟨fun i hi=>u.2 _ _ (N.row i hi),u.2 _ _ N.top⟩
theorem UpL.set {h:HI} {n:Nat} {x:Str} {fs fs':List (Str × Dt)} (e:h[n]?=some (.ins x fs)):UpL h (h.set n (.ins x fs')):=by
 refine ⟨by simp,fun k xs q=>?_⟩
 rw [List.getElem?_set]
 by_cases z:n=k
 · subst z
   rw [e] at q
   cases q
 · rw [if_neg z]
   exact q
noncomputable abbrev Mem:=Nat × Nat × Nat
noncomputable def memD (m:Mem):Dt:=.tup [.str "ways", .int (m.1:Nat),.int (m.2.1:Nat),.int (m.2.2:Nat)]
noncomputable def zafT (c:Nat) (m:Mem):Prop:=m.1 < c/\m.2.2 < c/\m.1 ≠ m.2.2/\m.2.1 < 8192
noncomputable def GrpAt (h:HI) (d:Dt) (g:List Mem):Prop:=∃ n,d=.ref n/\h[n]?=some (.lst (g.map memD))
theorem GrpAt.up {h h':HI} {d:Dt} {g:List Mem} (q:GrpAt h d g) (u:UpL h h'):GrpAt h' d g:=by
 obtain ⟨n,e,q⟩:=q
 exact ⟨n,e,u.2 _ _ q⟩
noncomputable def cutN (c:Nat) (g:Nat->Nat->Nat):Nat->Nat->Nat:=fun i j=>if i < c/\j < c then g i j else 0
theorem zafv {c:Nat} (g:Nat->Nat->Nat) {i j:Nat} (hi:i < c) (hj:j < c):cutN c g i j=g i j:=if_pos ⟨hi,hj⟩
theorem zaqW {c:Nat} {g g':Nat->Nat->Nat} (e:∀ i < c,∀ j < c,g i j=g' i j):cutN c g=cutN c g':=by
 funext i j
 unfold cutN
 split
 · rename_i q
   exact e i q.1 j q.2
 · rfl
theorem zasY {h:HI} {b c:Nat} {g:Nat->Nat->Nat} (N:NetAt h b c g):NetAt h b c (cutN c g):=N.congr fun _ hi _ hj=>(zafv g hi hj).symm
theorem zauC {c:Nat} {g:Nat->Nat->Nat} (o:zaaX c g):zaaX c (cutN c g):=⟨fun i hi j hj=>by rw [zafv g hi hj]; exact o.lt i hi j hj,fun i hi j hj=>by rw [zafv g hi hj,zafv g hj hi]; exact o.tn i hi j hj⟩
theorem zasm {c:Nat} {g:Nat->Nat->Nat} {i k j:Nat} (hi:i < c) (hk:k < c) (hj:j < c):zaaS (cutN c g) i k j=zaaS g i k j:=by
 unfold zaaS
 rw [zafv g hi hj,zafv g hi hk,zafv g hk hj]
theorem zaoN {c:Nat} {g:Nat->Nat->Nat} (o:zaeF c g):zaeF c (cutN c g):=fun i hi k hk j hj d=>by
 rw [zasm hi hk hj,zafv g hi hj]
 exact o i hi k hk j hj d
theorem zai8 {α:Type} {p q:α->Bool}:∀ {xs:List α},(∀ x ∈ xs,p x=q x)->xs.any p=xs.any q
 | [],_=>rfl
 | x::xs,h=>by rw [List.any_cons,List.any_cons,h x (by simp),zai8 fun y hy=>h y (by simp [hy])]
theorem zanO {c:Nat} {g g':Nat->Nat->Nat} (e:∀ i < c,∀ j < c,g i j=g' i j):zabt c g=zabt c g':=by
 unfold zabt
 exact zai8 fun i hi=>zai8 fun j hj=>by rw [e i (List.mem_range.mp hi) j (List.mem_range.mp hj)]
theorem zapZ (c:Nat) (g:Nat->Nat->Nat):zabt c (cutN c g)=zabt c g:=zanO fun _ hi _ hj=>zafv g hi hj
noncomputable def EndN (c:Nat) (f:Nat->Nat->Nat) (st:List (Nat × Nat × Nat)) (g:Nat->Nat->Nat):Prop:=∃ g0,Steps c f st g0/\zaeF c g0/\zabt c g0=false/\g=cutN c g0
theorem EndN.ok {c:Nat} {f g:Nat->Nat->Nat} {st:List (Nat × Nat × Nat)} (e:EndN c f st g) (o:zaaX c f):zaaX c g/\zaeF c g/\zabt c g=false:=by
 obtain ⟨g0,s,cl,ne,rfl⟩:=e
 exact ⟨zauC (s.ok o),zaoN cl,by rw [zapZ]; exact ne⟩
theorem EndN.unique {c:Nat} {f g g':Nat->Nat->Nat} {st st':List (Nat × Nat × Nat)} (o:zaaX c f) (e:EndN c f st g) (e':EndN c f st' g'):g=g':=by
 obtain ⟨g0,s,cl,ne,rfl⟩:=e
 obtain ⟨g1,s',cl',ne',rfl⟩:=e'
 refine zaqW fun i hi j hj=>?_
 have a1:=s.keeps (s'.ok o) cl' (s'.sub o) i hi j hj
 have a2:=s'.keeps (s.ok o) cl (s.sub o) i hi j hj
 exact SubS.antisymm a2 a1
theorem EndN.not_empty {c:Nat} {f g g':Nat->Nat->Nat} {st st':List (Nat × Nat × Nat)} (o:zaaX c f) (e:EndN c f st g) (s':Steps c f st' g'):zabt c g'=false:=by
 obtain ⟨g0,s,cl,ne,rfl⟩:=e
 have a1:=s'.keeps (s.ok o) cl (s.sub o)
 cases z:zabt c g' with
 | false=>rfl
 | true=>
  obtain ⟨i,hi,j,hj,e⟩:=empty_iff.mp z
  have:=a1 i hi j hj
  rw [e] at this
  have h0:g0 i j=0:=by
   unfold SubS at this
   rw [Nat.and_zero] at this
   exact this.symm
  exact absurd h0 (G.not_empty ne hi hj)
noncomputable def notM (m:Nat):Nat:=8191 - m
noncomputable def zadg (f:Nat->Nat->Nat) (k:Nat):List Mem->Nat->(Nat->Nat->Nat)
 | [],_=>f
 | m::ms,p=>zadg (narF f m.1 (if p=k then m.2.1 else notM m.2.1) m.2.2) k ms (p + 1)
noncomputable def zamk (f:Nat->Nat->Nat) (g:List Mem) (k:Nat):Nat->Nat->Nat:=zadg f k g 0
theorem zajA (k:Nat) (m:Mem):∀ (ms:List Mem) (f:Nat->Nat->Nat) (p:Nat),zadg f k (ms++[m]) p=narF (zadg f k ms p) m.1 (if p + ms.length=k then m.2.1 else notM m.2.1) m.2.2
 | [],f,p=>by simp [zadg]
 | x::ms,f,p=>by
  show zadg (narF f x.1 (if p=k then x.2.1 else notM x.2.1) x.2.2) k (ms++[m]) (p + 1)=_
  rw [zajA k m ms _ (p + 1),List.length_cons,show p + (ms.length + 1)=p + 1 + ms.length by omega]
  rfl
theorem zalF {c k:Nat}:∀ (ms:List Mem) (_:∀ m ∈ ms,zafT c m) (f:Nat->Nat->Nat) (p:Nat),zaaX c f->zaaX c (zadg f k ms p)
 | [],_,f,p,o=>o
 | m::ms,h,f,p,o=>by
  obtain ⟨a,b,d,_⟩:=h m (by simp)
  exact zalF ms (fun x hx=>h x (by simp [hx])) _ _ (zahK o a b d _)
noncomputable def zaf0 (c:Nat) (g:Nat->Nat->Nat):Option (Nat × Nat):=(zaat c).find? fun p=>decide (1 < (zaaO (g p.1 p.2)).length)
end G
namespace G
open PySem PySem.Spec PyProof.Rows L2 SM
theorem zatD {m:Nat} (h:m < 8192):Builtin.bitAnd 8191 (Builtin.bitNot ((m:Nat):Int))=((notM m:Nat):Int):=by
 have h1:Builtin.bitNot (Builtin.bitNot ((m:Nat):Int))=(m:Int):=by unfold Builtin.bitNot; omega
 have h2:¬ (0<=Builtin.bitNot ((m:Nat):Int)):=by unfold Builtin.bitNot; omega
 have h3:(8191:Nat) &&& m=m:=by
  rw [Nat.and_comm,show (8191:Nat)=2 ^ 13 - 1 from rfl,Nat.and_two_pow_sub_one_eq_mod]
  exact Nat.mod_eq_of_lt h
 unfold Builtin.bitAnd
 have d1:decide ((8191:Int) >= 0)=true:=by decide
 have d2:decide (Builtin.bitNot ((m:Nat):Int) >= 0)=false:=decide_eq_false h2
 simp only [d1,d2,h1]
 show (8191:Int) - (((8191:Int).toNat &&& (m:Int).toNat:Nat):Int)=_
 rw [show (8191:Int).toNat=8191 from rfl,Int.toNat_natCast,h3]
 unfold notM
 omega
end G
namespace G
open PySem PySem.Spec PyProof.Rows L2 SM BF
theorem zar5 {α:Type} {xs:List α} {k:Nat} (h:k<=xs.length):(xs.take k).length=k:=by rw [List.length_take]; omega
theorem zaga {α:Type} {xs:List α} {k:Nat} {x:α} (h:xs[k]?=some x):xs.take (k + 1)=xs.take k++[x]:=by rw [List.take_add_one,h]; rfl
theorem zamc {h:HI} {b c:Nat} {f:Nat->Nat->Nat} (N:NetAt h b c f) (hc:c<=1000) {n:Nat} {g:List Mem} (hg:h[n]?=some (.lst (g.map memD))) (ok:∀ m ∈ g,zafT c m) (k:Nat) :
 ∃ b' h',zadY [.ref (b + c),.ref n,.int (k:Nat)] h=some (.ref (b' + c),h')/\NetAt h' b' c (zamk f g k)/\Up h h':=by
 obtain ⟨l',h',e,b',y3,y4,y5,rfl,N',U⟩:=zav3 (i:=3) (j:=4) (n:=n) (body:=zadr) memD (fun k' l h'=>∃ b' y3 y4 y5,l=[some (.ref (b' + c)),some (.ref n),some (.int (k:Nat)),y3,y4,y5]/\NetAt h' b' c (zadg f k (g.take k') 0)/\Up h h') g (by
  rintro k' l h' ⟨b',y3,y4,y5,rfl,N',U⟩
  exact U.get hg) (by
  rintro k' x hx l h' ⟨b',y3,y4,y5,rfl,N',U⟩
  obtain ⟨a1,a2,a3,a4⟩:=ok x (List.mem_of_getElem? hx)
  have kl:k' < g.length:=(List.getElem?_eq_some_iff.mp hx).1
  have eq:zadg f k (g.take (k' + 1)) 0=narF (zadg f k (g.take k') 0) x.1 (if k'=k then x.2.1 else notM x.2.1) x.2.2:=by
   rw [zaga hx,zajA,zar5 (by omega),Nat.zero_add]
  have en:=zagA N' hc a1 a2 (if k'=k then x.2.1 else notM x.2.1)
  rw [<- eq] at en
  have M:=zadm h' c (zadg f k (g.take (k' + 1)) 0)
  refine ⟨.nx [some (.ref (h'.length + c)),some (.ref n),some (.int (k:Nat)),some (.int (k':Nat)),some (memD x),some (.int ((if k'=k then x.2.1 else notM x.2.1:Nat):Int))] (h'++zabE h'.length c (zadg f k (g.take (k' + 1)) 0)),?_,h'.length,_,_,_,rfl,M,U.trans (Up.app _ _)⟩
  have m2:atI [Dt.str "ways", Dt.int (x.1:Nat),Dt.int (x.2.1:Nat),Dt.int (x.2.2:Nat)] 2=some (.int (x.2.1:Nat)):=rfl
  have m1:atI [Dt.str "ways", Dt.int (x.1:Nat),Dt.int (x.2.1:Nat),Dt.int (x.2.2:Nat)] 1=some (.int (x.1:Nat)):=rfl
  have m3:atI [Dt.str "ways", Dt.int (x.1:Nat),Dt.int (x.2.1:Nat),Dt.int (x.2.2:Nat)] 3=some (.int (x.2.2:Nat)):=rfl
  by_cases z:k'=k
  · subst z
    rw [if_pos rfl] at en ⊢
    have dd:decide ((k':Int)=(k':Int))=true:=decide_eq_true rfl
    simp only [zadr,zaaC,zaaH,zasC,q_tB,q_e2,q_eV,q_eC,List.set_cons_succ,List.set_cons_zero,List.getElem?_cons_zero,List.getElem?_cons_succ,zaae,zaaf,o_eq,decide_true,zaaK,if_true,memD,zaaZ,m1,m2,m3,Option.map_some,zaaB,zaaL,zaas,zaaw,List.append_nil,en]
  · rw [if_neg z] at en ⊢
    have dd:decide ((k':Int)=(k:Int))=false:=decide_eq_false (by omega)
    simp only [zadr,zaaC,zaaH,zasC,q_tB,q_e2,q_eV,q_eC,List.set_cons_succ,List.set_cons_zero,List.getElem?_cons_zero,List.getElem?_cons_succ,zaae,zaaf,o_eq,dd,zaaK,Bool.false_eq_true,if_false,memD,zaaZ,m1,m2,m3,Option.map_some,zav4,zasg,zanj,zatD a4,zaaB,zaaL,zaas,zaaw,List.append_nil,en]) [some (.ref (b + c)),some (.ref n),some (.int (k:Nat)),none,none,none] h ⟨b,_,_,_,rfl,N,Up.refl h⟩
 rw [List.take_length] at N'
 refine ⟨b',h',?_,N',U⟩
 simp only [zadY,zaeM,q_fn,List.length_cons,List.length_nil,if_true,List.map_cons,List.map_nil,Nat.reduceAdd,Nat.reduceSub,List.replicate,List.cons_append,List.nil_append,zaaC,zacX,zatk,q_eV,List.getElem?_cons_zero,List.getElem?_cons_succ,zaae,zaaf,zaqr hg,e,zaaB,zaaN,zaaI]
theorem zama {h:HI} {b c:Nat} {g:Nat->Nat->Nat} (N:NetAt h b c g) (hc:c<=1000) :
 ∃ h',zabT [.ref (b + c)] h=some ((match zaf0 c g with | none=>.non | some p=>zaao p),h')/\Up h h':=by
 have ep:=zah9 hc h
 have U:Up h (h++[.lst ((zaat c).map zaao)]):=Up.app _ _
 have N1:NetAt (h++[.lst ((zaat c).map zaao)]) b c g:=U.net N
 have hl:(h++[Ob.lst ((zaat c).map zaao)])[h.length]?=some (.lst ((zaat c).map zaao)):=by simp
 refine ⟨h++[.lst ((zaat c).map zaao)],?_,U⟩
 have body:∀ p ∈ zaat c,∀ y,zab0 [some (.ref (b + c)),some (zaao p)] (h++[.lst ((zaat c).map zaao)])=some (if decide (1 < (zaaO (g p.1 p.2)).length)=true then .rt (zaao p) (h++[.lst ((zaat c).map zaao)]) else .nx [some (.ref (b + c)),some (zaao p)] (h++[.lst ((zaat c).map zaao)]))\/y:=by
  intro p hp y
  obtain ⟨p1,p2⟩:=zaj6 hp
  left
  have i1:=zaeN N1.top (p.1:Int)
  rw [SM.zabL,zail p1,Option.map_some] at i1
  have i2:=zaeN (N1.row _ p1) (p.2:Int)
  rw [SM.zabL,zagY p2,Option.map_some] at i2
  have dd:decide ((1:Int) < (((zaaO (g p.1 p.2)).map fun (k:Nat)=>Dt.int (k:Int)).length:Nat))=decide (1 < (zaaO (g p.1 p.2)).length):=by
   rw [List.length_map]
   by_cases z:1 < (zaaO (g p.1 p.2)).length
   · rw [decide_eq_true z,decide_eq_true (by omega)]
   · rw [decide_eq_false z,decide_eq_false (by omega)]
  simp only [zab0,zaa7,q_tB,q_e2,q_F1,zaaL,zaas,zaaw,q_eV,q_eC,List.getElem?_cons_zero,List.getElem?_cons_succ,zaae,zaaf,zaao,zaaZ,zaa9,zadb,Option.map_some,i1,i2,List.append_nil,zaf7,zamS,o_gt,dd,zaaK,zaaN,zabs]
  split <;> rfl
 obtain ⟨r,e,er⟩:=zaqN (i:=1) (n:=h.length) (body:=zab0) zaao (fun k l h'=>(∃ y,l=[some (.ref (b + c)),y])/\h'=h++[.lst ((zaat c).map zaao)]/\((zaat c).take k).find? (fun p=>decide (1 < (zaaO (g p.1 p.2)).length))=none) (fun d h'=>h'=h++[.lst ((zaat c).map zaao)]/\∃ p,zaf0 c g=some p/\d=zaao p) (zaat c) (by
  rintro k l h' ⟨_,rfl,_⟩
  exact hl) (by
  rintro k x hx l h' ⟨⟨y,rfl⟩,rfl,nf⟩
  rcases body x (List.mem_of_getElem? hx) False with bb | bb
  · refine ⟨_,bb,?_⟩
    by_cases z:decide (1 < (zaaO (g x.1 x.2)).length)=true
    · rw [if_pos z]
      refine ⟨rfl,x,?_,rfl⟩
      unfold zaf0
      rw [<- List.take_append_drop k (zaat c),List.find?_append,nf,Option.none_or]
      have:(zaat c).drop k=x::(zaat c).drop (k + 1):=by
       obtain ⟨q1,q2⟩:=List.getElem?_eq_some_iff.mp hx
       rw [<- q2]
       exact List.drop_eq_getElem_cons q1
      rw [this,List.find?_cons,z]
    · rw [if_neg z]
      refine ⟨⟨_,rfl⟩,rfl,?_⟩
      rw [zaga hx,List.find?_append,nf,Option.none_or,List.find?_cons]
      simp only [show decide (1 < (zaaO (g x.1 x.2)).length)=false by simpa using z]
      rfl
  · exact bb.elim) [some (.ref (b + c)),none] (h++[.lst ((zaat c).map zaao)]) ⟨⟨_,rfl⟩,rfl,rfl⟩
 have fl:=N.len
 cases r with
 | nx l' h'=>
  obtain ⟨_,rfl,nf⟩:=er
  rw [List.take_length] at nf
  have:zaf0 c g=none:=nf
  rw [this]
  simp only [zabT,zact,q_fn,List.length_cons,List.length_nil,if_true,List.map_cons,List.map_nil,Nat.reduceAdd,Nat.reduceSub,List.replicate,List.cons_append,List.nil_append,zaaC,zacX,zacc,zaaL,zaas,zaaw,q_F1,q_eV,List.getElem?_cons_zero,zaae,zaaf,fl,List.append_nil,ep,zacG hl,e,zaaB,zaaN,q_eC,zaaI]
 | rt d h'=>
  obtain ⟨rfl,p,e1,rfl⟩:=er
  rw [e1]
  simp only [zabT,zact,q_fn,List.length_cons,List.length_nil,if_true,List.map_cons,List.map_nil,Nat.reduceAdd,Nat.reduceSub,List.replicate,List.cons_append,List.nil_append,zaaC,zacX,zacc,zaaL,zaas,zaaw,q_F1,q_eV,List.getElem?_cons_zero,zaae,zaaf,fl,List.append_nil,ep,zacG hl,e,zacI,zaaI]
 | bk l' h'=>exact er.elim
 | ct l' h'=>exact er.elim
end G
namespace G
open PySem PySem.Spec PyProof.Rows L2 SM BF
inductive Fact where
 | ways (m:Mem)
 | long (x:Ln)
 | one (g:List Mem)
noncomputable def FactAt (h:HI) (d:Dt):Fact->Prop
 | .ways m=>d=memD m
 | .long x=>d=.tup [.str "long", .int (x.1:Nat),.int x.2.1,.int x.2.2]
 | .one g=>∃ gd,d=.tup [.str "one", gd]/\GrpAt h gd g
theorem FactAt.up {h h':HI} {d:Dt} {f:Fact} (q:FactAt h d f) (u:UpL h h'):FactAt h' d f:=by
 cases f with
 | ways m=>exact q
 | long x=>exact q
 | one g=>
  obtain ⟨gd,e,q⟩:=q
  exact ⟨gd,e,q.up u⟩
noncomputable def zagX (c:Nat):Fact->Prop
 | .ways m=>zafT c m
 | .long x=>x.1 < c
 | .one g=>∀ m ∈ g,zafT c m
inductive FactsAt (h:HI):List Dt->List Fact->Prop where
 | nil:FactsAt h [] []
 | cons {d:Dt} {f:Fact} {ds:List Dt} {fs:List Fact} (a:FactAt h d f) (r:FactsAt h ds fs):FactsAt h (d::ds) (f::fs)
theorem FactsAt.up {h h':HI} {ds:List Dt} {fs:List Fact} (q:FactsAt h ds fs) (u:UpL h h'):FactsAt h' ds fs:=by
 induction q with
 | nil=>exact .nil
 | cons a r ih=>exact .cons (a.up u) ih
theorem FactsAt.len {h:HI} {ds:List Dt} {fs:List Fact} (q:FactsAt h ds fs):ds.length=fs.length:=by
 induction q with
 | nil=>rfl
 | cons a r ih=>simp [ih]
theorem FactsAt.get {h:HI} {ds:List Dt} {fs:List Fact} (q:FactsAt h ds fs):∀ {k:Nat} {d:Dt},ds[k]?=some d->∃ f,fs[k]?=some f/\FactAt h d f:=by
 induction q with
 | nil=>intro k d e; simp at e
 | cons a r ih=>
  intro k d e
  cases k with
  | zero=>simp at e; subst e; exact ⟨_,by simp,a⟩
  | succ k=>exact (by obtain ⟨f,e1,e2⟩:=ih (k:=k) (by simpa using e); exact ⟨f,by simpa using e1,e2⟩)
theorem FactsAt.snoc {h:HI} {ds:List Dt} {fs:List Fact} (q:FactsAt h ds fs) {d:Dt} {f:Fact} (a:FactAt h d f):FactsAt h (ds++[d]) (fs++[f]):=by
 induction q with
 | nil=>exact .cons a .nil
 | cons b r ih=>exact .cons b ih
noncomputable def isW:Fact->Bool
 | .ways _=>true
 | _=>false
noncomputable def isL:Fact->Bool
 | .long _=>true
 | _=>false
noncomputable def isO:Fact->Bool
 | .one _=>true
 | _=>false
theorem l_w:decide ((("long" : Str))=(("ways" : Str)))=false:=by decide +kernel
theorem o_w:decide ((("one" : Str))=(("ways" : Str)))=false:=by decide +kernel
theorem w_l:decide ((("ways" : Str))=(("long" : Str)))=false:=by decide +kernel
theorem o_l:decide ((("one" : Str))=(("long" : Str)))=false:=by decide +kernel
theorem w_o:decide ((("ways" : Str))=(("one" : Str)))=false:=by decide +kernel
theorem l_o:decide ((("long" : Str))=(("one" : Str)))=false:=by decide +kernel
theorem zawn {h:HI} {d:Dt} {f:Fact} (q:FactAt h d f) (l:LI) (k:HI) (i:Nat) (hi:l[i]?=some (some d)):e2 oEqD (e2 oIx (eV i) (eC (.int 0))) (eC (.str "ways")) l k=some (.bl (isW f),k):=by
 cases f with
 | ways m=>rw [show d=memD m from q] at hi; simp only [q_e2,q_eV,hi,zaae,zaaf,q_eC,memD,zaaZ,zaa9,List.getElem?_cons_zero,Option.map_some,zadW,decide_true,isW]
 | long x=>rw [show d=_ from q] at hi; simp only [q_e2,q_eV,hi,zaae,zaaf,q_eC,zaaZ,zaa9,List.getElem?_cons_zero,Option.map_some,zadW,l_w,isW]
 | one g=>obtain ⟨gd,rfl,_⟩:=q; simp only [q_e2,q_eV,hi,zaae,zaaf,q_eC,zaaZ,zaa9,List.getElem?_cons_zero,Option.map_some,zadW,o_w,isW]
theorem zavU {h:HI} {d:Dt} {f:Fact} (q:FactAt h d f) (l:LI) (k:HI) (i:Nat) (hi:l[i]?=some (some d)):e2 oEqD (e2 oIx (eV i) (eC (.int 0))) (eC (.str "long")) l k=some (.bl (isL f),k):=by
 cases f with
 | ways m=>rw [show d=memD m from q] at hi; simp only [q_e2,q_eV,hi,zaae,zaaf,q_eC,memD,zaaZ,zaa9,List.getElem?_cons_zero,Option.map_some,zadW,w_l,isL]
 | long x=>rw [show d=_ from q] at hi; simp only [q_e2,q_eV,hi,zaae,zaaf,q_eC,zaaZ,zaa9,List.getElem?_cons_zero,Option.map_some,zadW,decide_true,isL]
 | one g=>obtain ⟨gd,rfl,_⟩:=q; simp only [q_e2,q_eV,hi,zaae,zaaf,q_eC,zaaZ,zaa9,List.getElem?_cons_zero,Option.map_some,zadW,o_l,isL]
theorem zaso {h:HI} {d:Dt} {f:Fact} (q:FactAt h d f) (l:LI) (k:HI) (i:Nat) (hi:l[i]?=some (some d)):e2 oEqD (e2 oIx (eV i) (eC (.int 0))) (eC (.str "one")) l k=some (.bl (isO f),k):=by
 cases f with
 | ways m=>rw [show d=memD m from q] at hi; simp only [q_e2,q_eV,hi,zaae,zaaf,q_eC,memD,zaaZ,zaa9,List.getElem?_cons_zero,Option.map_some,zadW,w_o,isO]
 | long x=>rw [show d=_ from q] at hi; simp only [q_e2,q_eV,hi,zaae,zaaf,q_eC,zaaZ,zaa9,List.getElem?_cons_zero,Option.map_some,zadW,l_o,isO]
 | one g=>obtain ⟨gd,rfl,_⟩:=q; simp only [q_e2,q_eV,hi,zaae,zaaf,q_eC,zaaZ,zaa9,List.getElem?_cons_zero,Option.map_some,zadW,decide_true,isO]
noncomputable def zab7 (f:Nat->Nat->Nat):List Fact->(Nat->Nat->Nat)
 | []=>f
 | .ways m::fs=>zab7 (narF f m.1 m.2.1 m.2.2) fs
 | _::fs=>zab7 f fs
theorem zafn (x:Fact):∀ (fs:List Fact) (f:Nat->Nat->Nat),zab7 f (fs++[x])=zab7 (zab7 f fs) [x]
 | [],f=>rfl
 | .ways m::fs,f=>zafn x fs _
 | .long m::fs,f=>zafn x fs _
 | .one m::fs,f=>zafn x fs _
theorem zaeC {c:Nat}:∀ (fs:List Fact) (_:∀ x ∈ fs,zagX c x) (f:Nat->Nat->Nat),zaaX c f->zaaX c (zab7 f fs)
 | [],_,f,o=>o
 | .ways m::fs,h,f,o=>by
  obtain ⟨a,b,d,_⟩:=h (.ways m) (by simp)
  exact zaeC fs (fun x hx=>h x (by simp [hx])) _ (zahK o a b d _)
 | .long m::fs,h,f,o=>zaeC fs (fun x hx=>h x (by simp [hx])) _ o
 | .one m::fs,h,f,o=>zaeC fs (fun x hx=>h x (by simp [hx])) _ o
theorem zanX {h:HI} {a c:Nat} (hc:c<=1000) {ds:List Dt} (ha:h[a]?=some (.lst ds)) {fs:List Fact} (F:FactsAt h ds fs) (ok:∀ x ∈ fs,zagX c x) :
 ∃ b h',zad5 [.int (c:Nat),.ref a] h=some (.ref (b + c),h')/\NetAt h' b c (zab7 zaca fs)/\Up h h':=by
 have ew:=zau8 hc h
 have U0:Up h (h++zabE h.length c zaca):=Up.app _ _
 have M0:=zadm h c zaca
 have mp:ds=ds.map id:=by simp
 obtain ⟨l',h',e,b',y,rfl,N',U⟩:=zamt (i:=3) (n:=a) (body:=zade) id (fun k l h'=>∃ b' y,l=[some (.int (c:Nat)),some (.ref a),some (.ref (b' + c)),y]/\NetAt h' b' c (zab7 zaca (fs.take k))/\Up h h') ds (by
  rintro k l h' ⟨b',y,rfl,N',U⟩
  rw [<- mp]
  exact U.get ha) (by
  rintro k d hd l h' ⟨b',y,rfl,N',U⟩
  obtain ⟨x,hx,q⟩:=F.get hd
  have tw:=zawn q [some (.int (c:Nat)),some (.ref a),some (.ref (b' + c)),some d] h' 3 rfl
  have okx:=ok x (List.mem_of_getElem? hx)
  have eq:zab7 zaca (fs.take (k + 1))=zab7 (zab7 zaca (fs.take k)) [x]:=by rw [zaga hx,zafn]
  have LL:([some (.int (c:Nat)),some (.ref a),some (.ref (b' + c)),y]:LI).set 3 (some (id d))=[some (.int (c:Nat)),some (.ref a),some (.ref (b' + c)),some d]:=rfl
  rw [LL]
  cases x with
  | ways m=>
   obtain ⟨a1,a2,a3,a4⟩:=okx
   have qd:d=memD m:=q
   have en:=zagA N' hc a1 a2 m.2.1
   have M:=zadm h' c (narF (zab7 zaca (fs.take k)) m.1 m.2.1 m.2.2)
   refine ⟨.nx [some (.int (c:Nat)),some (.ref a),some (.ref (h'.length + c)),some d] (h'++zabE h'.length c (narF (zab7 zaca (fs.take k)) m.1 m.2.1 m.2.2)),?_,h'.length,_,rfl,by rw [eq]; exact M,U.trans (Up.app _ _)⟩
   have m2:atI [Dt.str "ways", Dt.int (m.1:Nat),Dt.int (m.2.1:Nat),Dt.int (m.2.2:Nat)] 2=some (.int (m.2.1:Nat)):=rfl
   have m1:atI [Dt.str "ways", Dt.int (m.1:Nat),Dt.int (m.2.1:Nat),Dt.int (m.2.2:Nat)] 1=some (.int (m.1:Nat)):=rfl
   have m3:atI [Dt.str "ways", Dt.int (m.1:Nat),Dt.int (m.2.1:Nat),Dt.int (m.2.2:Nat)] 3=some (.int (m.2.2:Nat)):=rfl
   unfold zade
   rw [zaa7,q_tB,tw]
   rw [qd]
   simp only [isW,zaaf,zaaK,if_true,zaaH,zaaL,zaas,zaaw,q_e2,q_eV,q_eC,List.getElem?_cons_zero,List.getElem?_cons_succ,zaae,memD,zaaZ,m1,m2,m3,Option.map_some,List.append_nil,en,List.set_cons_succ,List.set_cons_zero]
  | long m=>
   refine ⟨.nx [some (.int (c:Nat)),some (.ref a),some (.ref (b' + c)),some d] h',?_,b',_,rfl,by rw [eq]; exact N',U⟩
   unfold zade
   rw [zaa7,q_tB,tw]
   simp only [isW,zaaf,zaaK,Bool.false_eq_true,if_false,zabs]
  | one m=>
   refine ⟨.nx [some (.int (c:Nat)),some (.ref a),some (.ref (b' + c)),some d] h',?_,b',_,rfl,by rw [eq]; exact N',U⟩
   unfold zade
   rw [zaa7,q_tB,tw]
   simp only [isW,zaaf,zaaK,Bool.false_eq_true,if_false,zabs]) [some (.int (c:Nat)),some (.ref a),some (.ref (h.length + c)),none] (h++zabE h.length c zaca) ⟨h.length,_,rfl,M0,U0⟩
 rw [F.len,List.take_length] at N'
 refine ⟨b',h',?_,N',U⟩
 simp only [zad5,zafO,q_fn,List.length_cons,List.length_nil,if_true,List.map_cons,List.map_nil,Nat.reduceAdd,Nat.reduceSub,List.replicate,List.cons_append,List.nil_append,zaaC,zaaH,zaaL,zaas,zaaw,q_eV,List.getElem?_cons_zero,List.getElem?_cons_succ,zaae,zaaf,List.append_nil,ew,zaaB,List.set_cons_succ,List.set_cons_zero,zacX,zacc,zacG (U0.get ha),e,zaaN,zaaI]
theorem zai6 {te:RE} {tc:RT} {n:Nat} (p:Fact->Bool) (Fd:Dt->Fact->Dt) {ds:List Dt} {fs:List Fact} (l:LI) (h:HI) (F:FactsAt h ds fs) (e:h[n]?=some (.lst ds)) (hx:ds.length < sizeLine)
 (H:∀ d f,FactAt h d f->f ∈ fs->tc (l.set 0 (some d)) h=some (p f,h)/\(p f=true->te (l.set 0 (some d)) h=some (Fd d f,h))) :
 zadT (gSet 0) tc te l (.rf n,h)=some (((ds.zip fs).filter fun x=>p x.2).map fun x=>Fd x.1 x.2,h):=by
 have go:∀ (m k:Nat) (l':LI),(∀ d,l'.set 0 d=l.set 0 d)->m=ds.length - k + 1->k<=ds.length->∀ ys:List Dt,ys.length<=k->ys=((((ds.zip fs).take k).filter fun x=>p x.2).map fun x=>Fd x.1 x.2)->zac9 (gSet 0) tc te (.rf n) m k l' h ys=some (((ds.zip fs).filter fun x=>p x.2).map fun x=>Fd x.1 x.2,h):=by
  intro m
  induction m with
  | zero=>intro k l' _ e; omega
  | succ m ih=>
   intro k l' hl' hm hk ys yl yy
   unfold zac9
   simp only [Src.at,e]
   by_cases hlt:k < ds.length
   · obtain ⟨f,hf,q⟩:=F.get (List.getElem?_eq_getElem hlt)
     have hz:(ds.zip fs)[k]?=some (ds[k],f):=by rw [List.getElem?_zip_eq_some]; exact ⟨List.getElem?_eq_getElem hlt,hf⟩
     obtain ⟨t1,t2⟩:=H ds[k] f q (List.mem_of_getElem? hf)
     rw [List.getElem?_eq_getElem hlt]
     simp only [zaeI,Option.bind_some,hl',t1]
     by_cases z:p f=true
     · rw [if_pos z]
       simp only [t2 z,Option.bind_some]
       rw [if_pos (by omega)]
       refine ih (k + 1) _ (fun d=>by rw [List.set_set]) (by omega) (by omega) _ (by simp; omega) ?_
       rw [zaga hz,List.filter_append,List.map_append,<- yy]
       simp [z]
     · rw [if_neg z]
       refine ih (k + 1) _ (fun d=>by rw [List.set_set]) (by omega) (by omega) _ (by omega) ?_
       rw [zaga hz,List.filter_append,List.map_append,<- yy]
       simp [z]
   · rw [List.getElem?_eq_none (by omega)]
     have lz:(ds.zip fs).length=ds.length:=by rw [List.length_zip,F.len]; omega
     rw [List.take_of_length_le (by omega)] at yy
     rw [yy]
 have hf:Src.fuel (.rf n) h=ds.length - 0 + 1:=by simp only [Src.fuel,e]; omega
 unfold zadT
 simp only [hf]
 exact go _ 0 l (fun _=>rfl) rfl (Nat.zero_le _) [] (by simp) (by simp)
noncomputable def zab6:List Fact->List Ln
 | []=>[]
 | .long x::fs=>x::zab6 fs
 | _::fs=>zab6 fs
noncomputable def zaej:List Fact->List (List Mem)
 | []=>[]
 | .one g::fs=>g::zaej fs
 | _::fs=>zaej fs
noncomputable def lfD:Fact->Dt
 | .long x=>lenD x
 | _=>.non
noncomputable def g1D:Dt->Dt
 | .tup [_,x]=>x
 | _=>.non
theorem zanG {h:HI} {a:Nat} {ds:List Dt} (ha:h[a]?=some (.lst ds)) (hz:ds.length < sizeLine) {fs:List Fact} (F:FactsAt h ds fs):zaeq [.ref a] h=some (.lst ((zab6 fs).map lenD),h):=by
 have ck:=zai6 (te:=zafG) (tc:=zaey) isL (fun _ f=>lfD f) [none] h F ha hz (by
  intro d f q _
  refine ⟨?_,fun z=>?_⟩
  · unfold zaey
    rw [q_tB,zavU q _ _ 0 rfl]
    rfl
  · cases f with
    | long x=>
     rw [show d=_ from q]
     rfl
    | ways m=>cases z
    | one g=>cases z)
 have eq:∀ (ds:List Dt) (fs:List Fact),FactsAt h ds fs->((ds.zip fs).filter fun x=>isL x.2).map (fun x=>lfD x.2)=(zab6 fs).map lenD:=by
  intro ds fs F
  induction F with
  | nil=>rfl
  | @cons d f ds fs a r ih=>
   rw [List.zip_cons_cons,List.filter_cons]
   cases f with
   | long x=>rw [if_pos (show isL (Fact.long x)=true from rfl),List.map_cons,ih]; rfl
   | ways m=>rw [if_neg (show ¬ isL (Fact.ways m)=true from Bool.false_ne_true),ih]; rfl
   | one g=>rw [if_neg (show ¬ isL (Fact.one g)=true from Bool.false_ne_true),ih]; rfl
 rw [eq _ _ F] at ck
 simp only [zaeq,zaff,q_fn,List.length_cons,List.length_nil,if_true,List.map_cons,List.map_nil,Nat.reduceAdd,Nat.reduceSub,List.replicate,List.cons_append,List.nil_append,List.append_nil,zaaN,zae3,zacc,q_eV,List.getElem?_cons_zero,zaae,zaaf,zacG ha,zac3,zadK,ck,zaaI]
inductive GrpsAt (h:HI):List Dt->List (List Mem)->Prop where
 | nil:GrpsAt h [] []
 | cons {d:Dt} {g:List Mem} {ds:List Dt} {gs:List (List Mem)} (a:GrpAt h d g) (r:GrpsAt h ds gs):GrpsAt h (d::ds) (g::gs)
theorem GrpsAt.up {h h':HI} {ds:List Dt} {gs:List (List Mem)} (q:GrpsAt h ds gs) (u:UpL h h'):GrpsAt h' ds gs:=by
 induction q with
 | nil=>exact .nil
 | cons a r ih=>exact .cons (a.up u) ih
theorem zanR {h:HI} {a:Nat} {ds:List Dt} (ha:h[a]?=some (.lst ds)) (hz:ds.length < sizeLine) {fs:List Fact} (F:FactsAt h ds fs):∃ gds,GrpsAt h gds (zaej fs)/\zad7 [.ref a] h=some (.lst gds,h):=by
 have ck:=zai6 (te:=zagj) (tc:=zaeK) isO (fun d _=>g1D d) [none] h F ha hz (by
  intro d f q _
  refine ⟨?_,fun z=>?_⟩
  · unfold zaeK
    rw [q_tB,zaso q _ _ 0 rfl]
    rfl
  · cases f with
    | one g=>obtain ⟨gd,rfl,_⟩:=q; rfl
    | ways m=>cases z
    | long x=>cases z)
 refine ⟨((ds.zip fs).filter fun x=>isO x.2).map fun x=>g1D x.1,?_,?_⟩
 rotate_left
 · simp only [zad7,zafV,q_fn,List.length_cons,List.length_nil,if_true,List.map_cons,List.map_nil,Nat.reduceAdd,Nat.reduceSub,List.replicate,List.cons_append,List.nil_append,List.append_nil,zaaN,zae3,zacc,q_eV,List.getElem?_cons_zero,zaae,zaaf,zacG ha,zac3,zadK,ck,zaaI]
 · clear ck ha hz
   induction F with
   | nil=>exact .nil
   | @cons d f ds fs a r ih=>
    rw [List.zip_cons_cons,List.filter_cons]
    cases f with
    | one g=>
     obtain ⟨gd,rfl,q⟩:=a
     rw [if_pos (show isO (Fact.one g)=true from rfl),List.map_cons]
     exact .cons q ih
    | ways m=>rw [if_neg (show ¬ isO (Fact.ways m)=true from Bool.false_ne_true)]; exact ih
    | long x=>rw [if_neg (show ¬ isO (Fact.long x)=true from Bool.false_ne_true)]; exact ih
end G
namespace G
open PySem PySem.Spec PyProof.Rows L2 SM BF
theorem zaqw {α:Type} {te:RE} {i n:Nat} (D F:α->Dt) (xs:List α) (l:LI) (h:HI) (e:h[n]?=some (.lst (xs.map D))) (hx:xs.length < sizeLine) (H:∀ x ∈ xs,te (l.set i (some (D x))) h=some (F x,h)) :
 zadT (gSet i) zabh te l (.rf n,h)=some (xs.map F,h):=by
 have go:∀ (m k:Nat) (l':LI),(∀ d,l'.set i d=l.set i d)->m=xs.length - k + 1->k<=xs.length->zac9 (gSet i) zabh te (.rf n) m k l' h ((xs.take k).map F)=some (xs.map F,h):=by
  intro m
  induction m with
  | zero=>intro k l' _ e; omega
  | succ m ih=>
   intro k l' hl' hm hk
   unfold zac9
   simp only [Src.at,e,List.getElem?_map]
   by_cases hlt:k < xs.length
   · rw [List.getElem?_eq_getElem hlt]
     have hx':=H xs[k] (List.getElem_mem hlt)
     have ln:((xs.take k).map F).length < sizeLine:=by rw [List.length_map,List.length_take]; omega
     simp only [Option.map_some,zaeI,Option.bind_some,zajr,if_true,hl',hx',if_pos ln]
     have:=ih (k + 1) (l.set i (some (D xs[k]))) (fun d=>by rw [List.set_set]) (by omega) (by omega)
     rw [List.take_add_one,List.getElem?_eq_getElem hlt,List.map_append] at this
     exact this
   · rw [List.getElem?_eq_none (by omega)]
     have:k=xs.length:=by omega
     subst this
     simp only [Option.map_none,List.take_length]
 have hf:Src.fuel (.rf n) h=xs.length - 0 + 1:=by simp only [Src.fuel,e,List.length_map]; omega
 unfold zadT
 have:=go (xs.length - 0 + 1) 0 l (fun _=>rfl) rfl (Nat.zero_le _)
 simp only [hf]
 exact this
end G
namespace G
open PySem PySem.Spec PyProof.Rows L2 SM BF
inductive All2 {α β:Type} (R:α->β->Prop):List α->List β->Prop where
 | nil:All2 R [] []
 | cons {a:α} {b:β} {as:List α} {bs:List β} (h:R a b) (r:All2 R as bs):All2 R (a::as) (b::bs)
theorem All2.imp {α β:Type} {R S:α->β->Prop} (i:∀ a b,R a b->S a b) {as:List α} {bs:List β} (h:All2 R as bs):All2 S as bs:=by
 induction h with
 | nil=>exact .nil
 | cons a r ih=>exact .cons (i _ _ a) ih
theorem All2.map_left {α β γ:Type} {R:γ->β->Prop} {f:α->γ}:∀ {as:List α} {bs:List β},All2 (fun a b=>R (f a) b) as bs->All2 R (as.map f) bs
 | _,_,.nil=>.nil
 | _,_,.cons h r=>.cons h (All2.map_left r)
theorem zah4 {α:Type} {te:RE} (D:α->Dt) (P:HI->α->Dt->Prop) (up:∀ h h' x d,Up h h'->P h x d->P h' x d):∀ (xs:List α) (l:LI) (h:HI),(∀ x ∈ xs,∀ h',Up h h'->∃ d h2,te (l.set 0 (some (D x))) h'=some (d,h2)/\Up h' h2/\P h2 x d)->
 ∃ ds h',zadh (gSet 0) zabh te (xs.map D) l h=some (ds,h')/\Up h h'/\All2 (P h') xs ds
 | [],l,h,_=>⟨[],h,rfl,Up.refl h,.nil⟩
 | x::xs,l,h,H=>by
  obtain ⟨d,h1,e1,u1,p1⟩:=H x (by simp) h (Up.refl h)
  obtain ⟨ds,h2,e2,u2,p2⟩:=zah4 D P up xs (l.set 0 (some (D x))) h1 (fun y hy h' u=>by
   rw [List.set_set]
   exact H y (by simp [hy]) h' (u1.trans u))
  refine ⟨d::ds,h2,?_,u1.trans u2,.cons (up _ _ _ _ u2 p1) p2⟩
  simp only [List.map_cons,zadh,zaeI,Option.bind_some,zajr,if_true,e1,e2]
noncomputable def NetD (h:HI) (c:Nat) (f:Nat->Nat->Nat) (d:Dt):Prop:=∃ b,d=.ref (b + c)/\NetAt h b c f
theorem NetD.up {h h':HI} {c:Nat} {f:Nat->Nat->Nat} {d:Dt} (n:NetD h c f d) (u:UpL h h'):NetD h' c f d:=by
 obtain ⟨b,e,N⟩:=n
 exact ⟨b,e,u.net N⟩
noncomputable def zacV (c:Nat) (g:Nat->Nat->Nat):List (List Mem)->Option (Option (Nat × Nat) × List (Nat->Nat->Nat) × List (Nat × Nat))
 | grp::_=>some (none,(List.range grp.length).map (zamk g grp),grp.map fun m=>(m.1,m.2.2))
 | []=>match zaf0 c g with
  | none=>none
  | some p=>some (some p,(zaaO (g p.1 p.2)).map fun w=>narF g p.1 (2 ^ w) p.2,[p])
noncomputable def splD (tag:Option (Nat × Nat)) (nds:List Dt) (ps:List (Nat × Nat)):Dt:=match tag with
 | none=>.tup [.str "one", .tup [],.lst nds,.lst (ps.map zaao)]
 | some p=>.tup [.str "split", zaao p,.lst nds,.lst (ps.map zaao)]
theorem zalA:∀ g:List Mem,zabF (g.map memD)=true
 | []=>rfl
 | m::g=>by
  rw [List.map_cons]
  simp only [zabF,memD,zaa0,Bool.true_and]
  exact zalA g
theorem zam8:∀ g:List Mem,zaee (g.map memD)<=1
 | []=>Nat.zero_le _
 | m::g=>by
  rw [List.map_cons]
  have:=zam8 g
  have e1:depD (memD m)=1:=rfl
  simp only [zaee,e1]
  omega
theorem zam7 (h:HI):∀ g:List Mem,allD (resD h 6) (g.map memD)=some (g.map memD)
 | []=>rfl
 | m::g=>by
  rw [List.map_cons]
  have ih:=zam7 h g
  have e1:resD h 6 (memD m)=some (memD m):=rfl
  simp only [allD,e1,ih,Option.bind_some,Option.map_some]
theorem zar8 {h:HI} {ds:List Dt} {gs:List (List Mem)} (q:GrpsAt h ds gs):allD (resD h 7) ds=some (gs.map fun g=>.lst (g.map memD)):=by
 induction q with
 | nil=>rfl
 | @cons d g ds gs a r ih=>
  obtain ⟨n,rfl,e⟩:=a
  have e1:resD h 7 (.ref n)=some (.lst (g.map memD)):=by
   show (match h[n]? with | some (.lst xs)=>(allD (resD h 6) xs).map Dt.lst | _=>none)=_
   rw [e]
   simp only [zam7,Option.map_some]
  simp only [allD,e1,ih,Option.bind_some,Option.map_some,List.map_cons]
theorem zalI:∀ gs:List (List Mem),zabF (gs.map fun g=>.lst (g.map memD))=true
 | []=>rfl
 | g::gs=>by
  rw [List.map_cons]
  simp only [zabF,zaa0,zalA,Bool.true_and]
  exact zalI gs
theorem zana:∀ gs:List (List Mem),zaee (gs.map fun g=>.lst (g.map memD))<=2
 | []=>Nat.zero_le _
 | g::gs=>by
  rw [List.map_cons]
  have:=zana gs
  have h1:=zam8 g
  simp only [zaee,depD]
  omega
theorem zatE {h:HI} {ds:List Dt} {gs:List (List Mem)} (q:GrpsAt h ds gs):oNeX (.lst ds) (.lst []) h=some (.bl (!gs.isEmpty),h):=by
 have r1:resD h 8 (.lst ds)=some (.lst (gs.map fun g=>.lst (g.map memD))):=by
  show (allD (resD h 7) ds).map Dt.lst=_
  rw [zar8 q]
  rfl
 have r2:resD h 8 (.lst [])=some (.lst []):=by simp [resD,allD]
 have ok:zadX (gs.map fun g=>Dt.lst (g.map memD)) []=true:=by
  unfold zadX
  rw [zalI]
  have:=zana gs
  simp [zabF]
  omega
 rw [zasJ r1 r2 ok]
 cases gs with
 | nil=>rfl
 | cons p W=>rfl
theorem zapk {h:HI} {b c:Nat} {g:Nat->Nat->Nat} (N:NetAt h b c g) (og:zaaX c g) (hc:c<=100) {gds:List Dt} {gs:List (List Mem)} (Q:GrpsAt h gds gs) (ok:∀ x ∈ gs,∀ m ∈ x,zafT c m) (sm:∀ x ∈ gs,x.length<=1000) :
 ∃ h',Up h h'/\match zacV c g gs with
  | none=>zacK [.ref (b + c),.lst gds] h=some (.non,h')
  | some (tag,bs,ps)=>∃ nds,All2 (NetD h' c) bs nds/\zacK [.ref (b + c),.lst gds] h=some (splD tag nds ps,h'):=by
 have ne:=zatE Q
 cases Q with
 | @cons d grp ds gs' a r=>
  obtain ⟨n,rfl,en⟩:=a
  have gl:=sm grp (by simp)
  have gok:=ok grp (by simp)
  have er:=fun h=>zadE (h:=h) (show (-(2 ^ 62):Int)<=(grp.length:Int) by omega) (show (grp.length:Int) < 2 ^ 62 by omega)
  simp only [Int.toNat_natCast] at er
  obtain ⟨nds,h',e,U,A⟩:=zah4 (te:=zaek) (fun (k:Nat)=>Dt.int (k:Int)) (fun h k d=>NetD h c (zamk g grp k) d) (fun h h' k d u q=>q.up u.l) (List.range grp.length) [none,some (.ref (b + c)),some (.ref n)] h (by
   intro k _ h' u
   obtain ⟨b',h2,e,N',U'⟩:=zamc (u.net N) (by omega) (u.get en) gok k
   refine ⟨_,h2,?_,U',b',rfl,N'⟩
   simp only [zaek,zaaL,zaas,zaaw,q_eV,List.set_cons_zero,List.getElem?_cons_zero,List.getElem?_cons_succ,zaae,zaaf,List.append_nil,e])
  have ck:=zacr (l:=[none,some (.ref (b + c)),some (.ref n)]) (h:=h) (gSet 0) zabh zaek (xs:=(List.range grp.length).map fun (k:Nat)=>Dt.int (k:Int)) (by simp [sizeLine]; omega)
  rw [e] at ck
  have ck2:=zaqw (te:=zag2) (i:=0) memD (fun m:Mem=>zaao (m.1,m.2.2)) grp [none] h' (U.get en) (by simp [sizeLine]; omega) (by
   intro m _
   rfl)
  have fl:=zaiE en
  rw [List.length_map] at fl
  refine ⟨h',U,?_⟩
  show ∃ nds,All2 (NetD h' c) ((List.range grp.length).map (zamk g grp)) nds/\zacK [.ref (b + c),.lst (.ref n::ds)] h=some (splD none nds (grp.map fun m=>(m.1,m.2.2)),h')
  refine ⟨nds,A.map_left,?_⟩
  have pm:grp.map (fun m:Mem=>zaao (m.1,m.2.2))=(grp.map fun m=>(m.1,m.2.2)).map zaao:=by rw [List.map_map]; rfl
  rw [pm] at ck2
  have sk:=zacG (U.get en)
  simp only [zacK,zaev,q_fn,List.length_cons,List.length_nil,if_true,List.map_cons,List.map_nil,Nat.reduceAdd,Nat.reduceSub,List.replicate,List.cons_append,List.nil_append,zaaC,zaa7,q_tB,q_e2,q_eV,q_eC,zaf6,zaaw,List.getElem?_cons_zero,List.getElem?_cons_succ,zaae,zaaf,Nat.zero_le,ne,List.isEmpty_cons,Bool.not_false,zaaK,zaaH,zaml,zaa9,Option.map_some,List.set_cons_succ,List.set_cons_zero,zaaB,zae3,zakN,q_F1,fl,er,zac3,zah6,zadK,Option.join_some,ck,zaaN,zab2,zaas,zacc,sk,ck2,zacI,zaaI]
  rfl
 | nil=>
  obtain ⟨h1,e1,U1⟩:=zama N (show c<=1000 by omega)
  have cn:∀ k:HI->Option Rs,True:=fun _=>trivial
  cases lp:zaf0 c g with
  | none=>
   rw [lp] at e1
   refine ⟨h1,U1,?_⟩
   have sp:zacV c g []=none:=by simp only [zacV,lp]
   rw [sp]
   simp only [zacK,zaev,q_fn,List.length_cons,List.length_nil,if_true,List.map_cons,List.map_nil,Nat.reduceAdd,Nat.reduceSub,List.replicate,List.cons_append,List.nil_append,zaaC,zaa7,q_tB,q_e2,q_eV,q_eC,zaf6,zaaw,List.getElem?_cons_zero,List.getElem?_cons_succ,zaae,zaaf,Nat.zero_le,ne,List.isEmpty_nil,Bool.not_true,zaaK,Bool.false_eq_true,if_false,zabs,zaaB,zaaH,zaaL,zaas,List.append_nil,e1,List.set_cons_succ,List.set_cons_zero,zahc,zafX,zaaN,zacI,zaaI]
  | some p=>
   rw [lp] at e1
   have sp:zacV c g []=some (some p,(zaaO (g p.1 p.2)).map (fun w=>narF g p.1 (2 ^ w) p.2),[p]):=by simp only [zacV,lp]
   rw [sp]
   have hp:p ∈ zaat c:=List.mem_of_find?_eq_some lp
   obtain ⟨p1,p2⟩:=zaj6 hp
   have N1:=U1.net N
   obtain ⟨nds,h',e,U,A⟩:=zah4 (te:=zaes) (fun (w:Nat)=>Dt.int (w:Int)) (fun h w d=>NetD h c (narF g p.1 (2 ^ w) p.2) d) (fun h h' k d u q=>q.up u.l) (zaaO (g p.1 p.2)) [none,some (.ref (b + c)),some (zaao p)] h1 (by
    intro w hw h' u
    have wl:=(mem_ways.mp hw).1
    have en:=zagA (u.net N1) (show c<=1000 by omega) p1 p2 (2 ^ w)
    refine ⟨_,_,?_,Up.app _ _,h'.length,rfl,zadm h' c _⟩
    have sh:=zakp (h:=h') (cShl wl)
    have pw:(1:Int) * 2 ^ w=((2 ^ w:Nat):Int):=by simp
    simp only [zaes,zaaL,zaas,zaaw,q_e2,q_eC,q_eV,List.set_cons_zero,List.getElem?_cons_zero,List.getElem?_cons_succ,zaae,zaaf,zaao,zaaZ,zaa9,zadb,Option.map_some,sh,Int.toNat_natCast,pw,List.append_nil,en])
   have wl:=zaf9 (g p.1 p.2)
   have ck:=zacr (l:=[none,some (.ref (b + c)),some (zaao p)]) (h:=h1) (gSet 0) zabh zaes (xs:=(zaaO (g p.1 p.2)).map fun (w:Nat)=>Dt.int (w:Int)) (by simp [sizeLine]; omega)
   rw [e] at ck
   have i1:=zaeN N1.top (p.1:Int)
   rw [SM.zabL,zail p1,Option.map_some] at i1
   have i2:=zaeN (N1.row _ p1) (p.2:Int)
   rw [SM.zabL,zagY p2,Option.map_some] at i2
   refine ⟨h',U1.trans U,nds,A.map_left,?_⟩
   have np:zafX (zaao p)=false:=rfl
   have x0:oIx (zaao p) (.int 0) h1=some (.int (p.1:Nat),h1):=rfl
   have x1:oIx (zaao p) (.int 1) h1=some (.int (p.2:Nat),h1):=rfl
   simp only [zacK,zaev,q_fn,List.length_cons,List.length_nil,if_true,List.map_cons,List.map_nil,Nat.reduceAdd,Nat.reduceSub,List.replicate,List.cons_append,List.nil_append,zaaC,zaa7,q_tB,q_e2,q_eV,q_eC,zaf6,zaaw,List.getElem?_cons_zero,List.getElem?_cons_succ,zaae,zaaf,Nat.zero_le,ne,List.isEmpty_nil,Bool.not_true,zaaK,Bool.false_eq_true,if_false,zabs,zaaB,zaaH,zaaL,zaas,List.append_nil,e1,List.set_cons_succ,List.set_cons_zero,zahc,np,x0,x1,i1,i2,zae3,zacc,zaf7,zae0,zac3,zah6,zadK,Option.join_some,ck,zaaN,zab2,zaaI]
   rfl
end G
namespace G
open PySem PySem.Spec PyProof.Rows L2 SM BF
theorem zaqc {c nb:Nat} (hc:c<=100) {N:Nat->Nat->Nat} {ls:List Ln} (hl:ls.length<=1000) {h:HI} (NN:NetAt h nb c N) (x1 x4:Option Dt):∃ y rest,zab1 (gSet 3) zafj (ls.map lenD) [some (.ref (nb + c)),x1,some (.ref h.length),none,x4] (h++[.lst ((ownB c).map trip)]) =
 some (.nx [some (.ref (nb + c)),x1,some (.ref h.length),y,x4] (h++.lst ((ownB c++ls.flatMap (lenB (2 * c + 1))).map trip)::rest)):=by
 have ol:(ownB c).length=c:=by simp [ownB]
 obtain ⟨l',h',e,⟨y,rfl⟩,rest,rfl,_⟩:=zagG (i:=3) (body:=zafj) lenD (fun k l h'=>(∃ y,l=[some (.ref (nb + c)),x1,some (.ref h.length),y,x4])/\∃ rest,h'=h++.lst ((ownB c++(ls.take k).flatMap (lenB (2 * c + 1))).map trip)::rest/\((ls.take k).flatMap (lenB (2 * c + 1))).length<=2 * k) ls 0 (by
  rintro k x hx l h' ⟨⟨y,rfl⟩,rest,rfl,hk⟩
  rw [Nat.zero_add] at hk ⊢
  have kl:k < ls.length:=(List.getElem?_eq_some_iff.mp hx).1
  have l2:(lenB (2 * c + 1) x).length=2:=rfl
  have nl:=(NN.grow (.lst ((ownB c++(ls.take k).flatMap (lenB (2 * c + 1))).map trip)::rest)).len
  have eb:=zakD x.1 x.2.1 x.2.2 (g:=2 * c + 1) (by omega) (h++.lst ((ownB c++(ls.take k).flatMap (lenB (2 * c + 1))).map trip)::rest)
  have x1:=zaln (h:=h) (F:=ownB c++(ls.take k).flatMap (lenB (2 * c + 1))) (G:=lenB (2 * c + 1) x) (rest:=rest) (rest2:=[]) (l:=[some (.ref (nb + c)),x1,some (.ref h.length),some (lenD x),x4]) (g:=zaav zacz [] (zaac (eV 3) (zaac (zaav zagD [] (zaac (eF1 fLen (eV 0)) (aNil))) (aNil)))) (by rw [List.length_append,ol,l2]; omega) (by
   simp only [zaaL,zaas,zaaw,q_F1,q_eV,List.getElem?_cons_zero,List.getElem?_cons_succ,zaae,zaaf,nl,zatz,List.append_nil,lenD]
   exact eb)
  refine ⟨.nx [some (.ref (nb + c)),_,some (.ref h.length),some (lenD x),x4] (h++.lst ((ownB c++(ls.take (k + 1)).flatMap (lenB (2 * c + 1))).map trip)::(rest++[.lst ((lenB (2 * c + 1) x).map trip)])),?_,⟨some (lenD x),rfl⟩,rest++[.lst ((lenB (2 * c + 1) x).map trip)],rfl,?_⟩
  · rw [zae2 _ hx,<- List.append_assoc]
    simp only [zafj,zab4,zaig,q_eV,List.set_cons_succ,List.set_cons_zero,List.getElem?_cons_zero,List.getElem?_cons_succ,zaae,zaaf,x1]
  · rw [zae2 _ hx,List.length_append,l2]
    omega) [some (.ref (nb + c)),x1,some (.ref h.length),none,x4] (h++[.lst ((ownB c).map trip)]) ⟨⟨_,rfl⟩,[],by simp,by simp⟩
 rw [Nat.zero_add,List.take_length] at *
 exact ⟨y,rest,e⟩
theorem zapE {c nb b:Nat} (hc:c<=100) {N:Nat->Nat->Nat} (hN:∀ i j,i < c->j < c->zaaO (N i j) ≠ []) {h:HI} (NN:NetAt h nb c N) {F:List Bd} (hF:F.length<=3000) {r0:List Ob} (db:∀ G:List Bd,∀ r2:List Ob,(h++.lst (G.map trip)::(r0++r2))[b]?=some (.lst ((zaat c).map zaao))) (x1 y3:Option Dt) (pl:(zaat c).length<=10000) (pin:∀ p ∈ zaat c,p.1 < c/\p.2 < c) :
 ∃ y rest,forK (gSet 4) zadq [some (.ref (nb + c)),x1,some (.ref h.length),y3,none] (.rf b,h++.lst (F.map trip)::r0) =
 some (.nx [some (.ref (nb + c)),x1,some (.ref h.length),y3,y] (h++.lst ((F++(zaat c).flatMap fun p=>setB p.1 (N p.1 p.2) p.2).map trip)::rest)):=by
 obtain ⟨l',h',e,⟨y,rfl⟩,r2,rfl,_⟩:=zamt (i:=4) (n:=b) (body:=zadq) zaao (fun k l h'=>(∃ y,l=[some (.ref (nb + c)),x1,some (.ref h.length),y3,y])/\∃ r2,h'=h++.lst ((F++((zaat c).take k).flatMap fun p=>setB p.1 (N p.1 p.2) p.2).map trip)::(r0++r2)/\(((zaat c).take k).flatMap fun p=>setB p.1 (N p.1 p.2) p.2).length<=8 * k) (zaat c) (by
  rintro k l h' ⟨_,r2,rfl,_⟩
  exact db _ r2) (by
  rintro k x hx l h' ⟨⟨y,rfl⟩,r2,rfl,hk⟩
  have kl:k < (zaat c).length:=(List.getElem?_eq_some_iff.mp hx).1
  obtain ⟨p1,p2⟩:=pin x (List.mem_of_getElem? hx)
  have l8:(setB x.1 (N x.1 x.2) x.2).length<=8:=by
   unfold setB
   rw [List.length_append]
   have:=zaen x.1 x.2 0 (N x.1 x.2)
   have:=zaen x.1 x.2 1 (N x.1 x.2)
   omega
  have NG:=NN.grow (.lst ((F++((zaat c).take k).flatMap fun p=>setB p.1 (N p.1 p.2) p.2).map trip)::(r0++r2))
  obtain ⟨rs,eb⟩:=zaiN x.1 (N x.1 x.2) x.2 (by omega) (by omega) (hN _ _ p1 p2) (h++.lst ((F++((zaat c).take k).flatMap fun p=>setB p.1 (N p.1 p.2) p.2).map trip)::(r0++r2))
  have i1:=zaeN NG.top (x.1:Int)
  rw [SM.zabL,zail p1,Option.map_some] at i1
  have i2:=zaeN (NG.row _ p1) (x.2:Int)
  rw [SM.zabL,zagY p2,Option.map_some] at i2
  have xx:=zaln (h:=h) (F:=F++((zaat c).take k).flatMap fun p=>setB p.1 (N p.1 p.2) p.2) (G:=setB x.1 (N x.1 x.2) x.2) (rest:=r0++r2) (rest2:=rs) (l:=[some (.ref (nb + c)),x1,some (.ref h.length),y3,some (zaao x)]) (g:=zaav zac6 [] (zaac (e2 oIx (eV 4) (eC (.int 0))) (zaac (e2 oIx (e2 oIx (eV 0) (e2 oIx (eV 4) (eC (.int 0)))) (e2 oIx (eV 4) (eC (.int 1)))) (zaac (e2 oIx (eV 4) (eC (.int 1))) (aNil))))) (by rw [List.length_append]; omega) (by
   simp only [zaaL,zaas,zaaw,q_e2,q_eC,q_eV,List.getElem?_cons_zero,List.getElem?_cons_succ,zaae,zaaf,zaao,zaaZ,zaa9,zadb,Option.map_some,i1,i2,List.append_nil]
   exact eb)
  refine ⟨.nx [some (.ref (nb + c)),x1,some (.ref h.length),y3,some (zaao x)] (h++.lst ((F++((zaat c).take (k + 1)).flatMap fun p=>setB p.1 (N p.1 p.2) p.2).map trip)::(r0++(r2++.lst ((setB x.1 (N x.1 x.2) x.2).map trip)::rs))),?_,⟨_,rfl⟩,_,rfl,?_⟩
  · rw [zae2 _ hx,<- List.append_assoc,<- List.append_assoc]
    simp only [zadq,zab4,zaig,q_eV,List.set_cons_succ,List.set_cons_zero,List.getElem?_cons_zero,List.getElem?_cons_succ,zaae,zaaf,xx]
  · rw [zae2 _ hx,List.length_append]
    omega) [some (.ref (nb + c)),x1,some (.ref h.length),y3,none] (h++.lst (F.map trip)::r0) ⟨⟨_,rfl⟩,[],by simp,by simp⟩
 rw [List.take_length] at e
 exact ⟨y,_,e⟩
theorem zaqy {c nb:Nat} (hc:c<=100) {N:Nat->Nat->Nat} (hN:∀ i j,i < c->j < c->zaaO (N i j) ≠ []) {ls:List Ln} (hl:ls.length<=1000) {h:HI} (NN:NetAt h nb c N) :
 ∃ rest,zagN [.ref (nb + c),.lst (ls.map lenD)] h=some (.ref h.length,h++.lst ((zadl c N ls).map trip)::rest):=by
 have nl:=NN.len
 have er:=zadE (h:=h) (show (-(2 ^ 62):Int)<=(c:Int) by omega) (show (c:Int) < 2 ^ 62 by omega)
 simp only [Int.toNat_natCast] at er
 have u:=fun (i:Int) (h:HI)=>zafR (h:=h) (i:=2) (j:=i) (Or.inl ⟨by decide,by decide⟩)
 have ec:=zael (te:=zafq) (tc:=zabh) (i:=0) (fun (k:Nat)=>Dt.int (k:Int)) (fun k=>trip (2 * k,2 * k + 1,-1)) h (List.range c) [none] (by
  intro k _
  exact ⟨by simp,by simp [zafq,u,trip]⟩)
 have ek:=zacr (l:=[none]) (h:=h) (gSet 0) zabh zafq (xs:=(List.range c).map fun (k:Nat)=>Dt.int (k:Int)) (by simp; omega)
 rw [ec] at ek
 have eo:(List.range c).map (fun k=>trip (2 * k,2 * k + 1,-1))=(ownB c).map trip:=by unfold ownB; rw [List.map_map]; rfl
 rw [eo] at ek
 obtain ⟨y,r0,e1⟩:=zaqc hc hl NN (some (.lst (ls.map lenD))) none
 have nl2:=(NN.grow (.lst ((ownB c++ls.flatMap (lenB (2 * c + 1))).map trip)::r0)).len
 have ep:=zah9 (c:=c) (by omega) (h++.lst ((ownB c++ls.flatMap (lenB (2 * c + 1))).map trip)::r0)
 have fl:(ls.flatMap (lenB (2 * c + 1))).length<=2 * ls.length:=by
  clear e1 ep ek nl2
  induction ls with
  | nil=>simp
  | cons x ls ih=>
   rw [List.flatMap_cons,List.length_append,List.length_cons]
   have:(lenB (2 * c + 1) x).length=2:=rfl
   have:=ih (by simp at hl; omega)
   omega
 have pl:(zaat c).length<=10000:=by
  have:=zaf8 c c
  have h2:c * c<=100 * 100:=Nat.mul_le_mul hc hc
  unfold zaat
  omega
 obtain ⟨y4,rest,e2⟩:=zapE (b:=(h++Ob.lst ((ownB c++ls.flatMap (lenB (2 * c + 1))).map trip)::r0).length) hc hN NN (F:=ownB c++ls.flatMap (lenB (2 * c + 1))) (by simp [ownB] at fl ⊢; omega) (r0:=r0++[.lst ((zaat c).map zaao)]) (fun G r2=>by
  have:h++Ob.lst (G.map trip)::(r0++[Ob.lst ((zaat c).map zaao)]++r2)=(h++Ob.lst (G.map trip)::r0)++Ob.lst ((zaat c).map zaao)::r2:=by simp
  rw [this,List.getElem?_append_right (by simp)]
  simp) (some (.lst (ls.map lenD))) y pl (fun p hp=>zaj6 hp)
 refine ⟨rest,?_⟩
 have es:(h++Ob.lst ((ownB c++ls.flatMap (lenB (2 * c + 1))).map trip)::r0)++[Ob.lst ((zaat c).map zaao)]=h++Ob.lst ((ownB c++ls.flatMap (lenB (2 * c + 1))).map trip)::(r0++[Ob.lst ((zaat c).map zaao)]):=by simp
 rw [es] at ep
 have sk:=zacG (h:=h++Ob.lst ((ownB c++ls.flatMap (lenB (2 * c + 1))).map trip)::(r0++[Ob.lst ((zaat c).map zaao)])) (n:=(h++Ob.lst ((ownB c++ls.flatMap (lenB (2 * c + 1))).map trip)::r0).length) (xs:=(zaat c).map zaao) (by
  rw [<- es,List.getElem?_append_right (Nat.le_refl _),Nat.sub_self]
  rfl)
 unfold zadl
 simp only [zagN,zaie,q_fn,List.length_cons,List.length_nil,if_true,List.map_cons,List.map_nil,Nat.reduceAdd,Nat.reduceSub,List.replicate,List.cons_append,List.nil_append,zaaC,zaaH,zaj7,zakN,q_F1,q_eV,List.getElem?_cons_zero,List.getElem?_cons_succ,zaae,zaaf,nl,nl2,er,zac3,zadK,ek,List.set_cons_succ,List.set_cons_zero,zaaB,zacX,zacc,zae0,zadf,e1,zaaL,zaas,zaaw,List.append_nil,ep,sk,e2,zaaN,zaaI]
end G
namespace G
open PySem PySem.Spec PyProof.Rows L2 SM BF
theorem zauO (f:Nat->Nat->Nat) {i j:Nat} (m:Nat) (hij:i ≠ j):narF f i m j i j=f i j &&& m:=by
 unfold narF putF
 have:¬ i=j:=hij
 simp [this]
theorem zaf4 (f:Nat->Nat->Nat) {i m j a b:Nat} (h1:¬ (a=i/\b=j)) (h2:¬ (a=j/\b=i)):narF f i m j a b=f a b:=by
 unfold narF putF
 by_cases e1:a=j
 · by_cases e2:b=i
   · exact absurd ⟨e1,e2⟩ h2
   · rw [if_pos e1,if_neg e2]
     by_cases e3:a=i
     · by_cases e4:b=j
       · exact absurd ⟨e3,e4⟩ h1
       · rw [if_pos e3,if_neg e4]
     · rw [if_neg e3]
 · rw [if_neg e1]
   by_cases e3:a=i
   · by_cases e4:b=j
     · exact absurd ⟨e3,e4⟩ h1
     · rw [if_pos e3,if_neg e4]
   · rw [if_neg e3]
theorem zajb {c:Nat} {f:Nat->Nat->Nat} (h:zaeF c f):zab9 c f [] []:=fun i hi k hk j hj d n=>absurd (h i hi k hk j hj d) n
theorem zalB {c:Nat} {f:Nat->Nat->Nat} (o:zaaX c f) {x z:Nat} (hx:x < c) (hz:z < c) (d3:x ≠ z) (mm:Nat) {W:List (Nat × Nat)} (h:zab9 c f W []):zab9 c (narF f x mm z) (W++[(x,z)]) []:=by
 have o':=zahK o hx hz d3 mm
 have main:∀ i < c,∀ k < c,∀ j < c,Dist i k j->¬ (i=z/\j=x)->zaaS (narF f x mm z) i k j ≠ narF f x mm z i j->zaco (W++[(x,z)]) i k j:=by
  intro i hi k hk j hj d nz m
  obtain ⟨e1,e2,e3⟩:=d
  have grow:∀ {i k j},zaco W i k j->zaco (W++[(x,z)]) i k j:=by
   intro i k j q
   unfold zaco at q ⊢
   simp only [List.mem_append]
   rcases q with q | q | q | q
   · exact .inl (.inl q)
   · exact .inr (.inl (.inl q))
   · exact .inr (.inr (.inl (.inl q)))
   · exact .inr (.inr (.inr (.inl q)))
  have un:∀ {i k j},zaaS f i k j ≠ f i j->i < c->k < c->j < c->Dist i k j->zaco W i k j:=by
   intro i k j n hi hk hj d
   rcases h i hi k hk j hj d n with q | q | q
   · exact q
   · cases q
   · cases q
  by_cases ht:i=x/\j=z
  · obtain ⟨rfl,rfl⟩:=ht
    have l1:narF f i mm j i k=f i k:=zaf4 f (fun q=>e2 q.2) (fun q=>e1 q.2.symm)
    have l2:narF f i mm j k j=f k j:=zaf4 f (fun q=>e1 q.1.symm) (fun q=>e2 q.1)
    have n:zaaS f i k j ≠ f i j:=by
     intro q
     apply m
     unfold zaaS
     rw [l1,l2,zauO f mm e3]
     exact zamI (zad1 (f i j) _) q
    exact grow (un n hi hk hj ⟨e1,e2,e3⟩)
  · by_cases leg:zaco [(x,z)] i k j
    · unfold zaco at leg ⊢
      simp only [List.mem_append]
      rcases leg with q | q | q | q
      · exact .inl (.inr q)
      · exact .inr (.inl (.inr q))
      · exact .inr (.inr (.inl (.inr q)))
      · exact .inr (.inr (.inr (.inr q)))
    · unfold zaco at leg
      simp only [List.mem_cons,List.not_mem_nil,or_false,Prod.mk.injEq,not_or] at leg
      obtain ⟨g1,g2,g3,g4⟩:=leg
      have l0:narF f x mm z i j=f i j:=zaf4 f (fun q=>ht q) (fun q=>nz q)
      have l1:narF f x mm z i k=f i k:=zaf4 f (fun q=>g1 q) (fun q=>g2 ⟨q.2,q.1⟩)
      have l2:narF f x mm z k j=f k j:=zaf4 f (fun q=>g3 q) (fun q=>g4 ⟨q.2,q.1⟩)
      have n:zaaS f i k j ≠ f i j:=by
       unfold zaaS at m ⊢
       rw [l0,l1,l2] at m
       exact m
      exact grow (un n hi hk hj ⟨e1,e2,e3⟩)
 intro i hi k hk j hj d m
 left
 by_cases nz:i=z/\j=x
 · obtain ⟨e1,e2,e3⟩:=d
   have m':=zak0 o' hj hk hi m
   have q:=main j hj k hk i hi ⟨Ne.symm e2,Ne.symm e1,Ne.symm e3⟩ (fun q=>e3 (by omega)) m'
   unfold zaco at q ⊢
   rcases q with q | q | q | q
   · exact .inr (.inr (.inr q))
   · exact .inr (.inr (.inl q))
   · exact .inr (.inl q)
   · exact .inl q
 · exact main i hi k hk j hj d nz m
theorem zakq {c k:Nat}:∀ (ms:List Mem) (_:∀ m ∈ ms,zafT c m) (f:Nat->Nat->Nat) (p:Nat) (W:List (Nat × Nat)),zaaX c f->zab9 c f W []->zab9 c (zadg f k ms p) (W++ms.map fun m=>(m.1,m.2.2)) []
 | [],_,f,p,W,o,h=>by simpa [zadg] using h
 | m::ms,hm,f,p,W,o,h=>by
  obtain ⟨a,b,d,_⟩:=hm m (by simp)
  have:=zakq (k:=k) ms (fun x hx=>hm x (by simp [hx])) _ (p + 1) _ (zahK o a b d (if p=k then m.2.1 else notM m.2.1)) (zalB o a b d (if p=k then m.2.1 else notM m.2.1) h)
  rw [List.append_assoc] at this
  exact this
end G
namespace G
open PySem PySem.Spec PyProof.Rows L2 SM BF
inductive Tr where
 | threes (st:List (Nat × Nat × Nat))
 | ring (st:List (Nat × Nat × Nat)) (cs:Nat->Option Nat) (P k:Nat)
 | one (st:List (Nat × Nat × Nat)) (bs:List Tr)
 | split (st:List (Nat × Nat × Nat)) (p:Nat × Nat) (bs:List Tr)
inductive Ans where
 | opn
 | laid (t:Nat->Int)
 | clash (tr:Tr)
inductive Wd where | opn | laid | clash
noncomputable def Ans.wd:Ans->Wd
 | .opn=>.opn
 | .laid _=>.laid
 | .clash _=>.clash
noncomputable def mkTr (tag:Option (Nat × Nat)) (st:List (Nat × Nat × Nat)) (bs:List Tr):Tr:=match tag with
 | none=>.one st bs
 | some p=>.split st p bs
noncomputable abbrev NetF:=Nat->Nat->Nat
noncomputable def BrsP (L:NetF->List (List Mem)->Nat->Ans->Nat->Prop) (tag:Option (Nat × Nat)) (st:List (Nat × Nat × Nat)) (gs:List (List Mem)):List NetF->Nat->List Tr->Ans->Nat->Prop
 | [],made,acc,a,made'=>a=.clash (mkTr tag st acc)/\made'=made
 | b::bs,made,acc,a,made'=>(∃ tr made1,L b gs made (.clash tr) made1/\BrsP L tag st gs bs made1 (acc++[tr]) a made')\/(a.wd ≠ .clash/\L b gs made a made')
noncomputable def zabA (c m:Nat) (ls:List Ln):Nat->NetF->List (List Mem)->Nat->Ans->Nat->Prop
 | 0,_,_,_,_,_=>False
 | n + 1,f,gs,made,a,made'=>
  (∃ st g,Steps c f st g/\zabt c g=true/\a=.clash (.threes st)/\made'=made)\/
  ∃ st g,EndN c f st g/\
   ((∃ cs P k,Ring (2 * c) (tabB (zadl c g ls)) (wOf (zadl c g ls)) cs P k/\a=.clash (.ring st cs P k)/\made'=made)\/
    (∃ t,(∀ e ∈ zadl c g ls,Sat t e)/\
     ((zacV c g gs=none/\a=.laid t/\made'=made)\/
      (∃ tag bs ps,zacV c g gs=some (tag,bs,ps)/\
       ((m<=made/\a=.opn/\made'=made)\/(made < m/\BrsP (zabA c m ls n) tag st gs.tail bs (made + 1) [] a made'))))))
noncomputable def GrpsOk (c:Nat) (gs:List (List Mem)):Prop:=∀ x ∈ gs,∀ m ∈ x,zafT c m
theorem GrpsOk.tail {c:Nat} {gs:List (List Mem)} (h:GrpsOk c gs):GrpsOk c gs.tail:=fun x hx=>h x (List.mem_of_mem_tail hx)
theorem zaj4 {c:Nat} {g:NetF} (o:zaaX c g) {gs:List (List Mem)} (ok:GrpsOk c gs) {tag:Option (Nat × Nat)} {bs:List NetF} {ps:List (Nat × Nat)} (h:zacV c g gs=some (tag,bs,ps)):∀ b ∈ bs,zaaX c b:=by
 cases gs with
 | cons grp gs=>
  simp only [zacV,Option.some.injEq,Prod.mk.injEq] at h
  obtain ⟨_,rfl,_⟩:=h
  intro b hb
  obtain ⟨k,_,rfl⟩:=List.mem_map.mp hb
  exact zalF grp (ok grp (by simp)) g 0 o
 | nil=>
  simp only [zacV] at h
  cases lp:zaf0 c g with
  | none=>rw [lp] at h; cases h
  | some p=>
   rw [lp] at h
   simp only [Option.some.injEq,Prod.mk.injEq] at h
   obtain ⟨_,rfl,_⟩:=h
   intro b hb
   obtain ⟨w,_,rfl⟩:=List.mem_map.mp hb
   have hp:p ∈ zaat c:=List.mem_of_find?_eq_some lp
   obtain ⟨q1,q2⟩:=mem_pairs.mp hp
   exact zahK o (by omega) (by omega) (by omega) _
theorem zajZ {c:Nat} {g:NetF} {ls:List Ln} {cs:Nat->Option Nat} {P k:Nat} (R:Ring (2 * c) (tabB (zadl c g ls)) (wOf (zadl c g ls)) cs P k) {t:Nat->Int} (ht:∀ e ∈ zadl c g ls,Sat t e):False:=
 zatc (b:=t) (fun e he=>by have:=ht e he; unfold Sat at this; omega) R
theorem zaeP {c m:Nat} {ls:List Ln}:∀ (n:Nat) (f:NetF) (gs:List (List Mem)) (made:Nat) (a a':Ans) (s s':Nat),zaaX c f->GrpsOk c gs->zabA c m ls n f gs made a s->zabA c m ls n f gs made a' s'->a.wd=a'.wd/\s=s'
 | 0,_,_,_,_,_,_,_,_,_,h,_=>h.elim
 | n + 1,f,gs,made,a,a',s,s',of,og,h,h'=>by
  rcases h with ⟨st,g,h1,h2,rfl,rfl⟩ | ⟨st,g,h1,h⟩
  · rcases h' with ⟨st',g',k1,k2,rfl,rfl⟩ | ⟨st',g',k1,h'⟩
    · exact ⟨rfl,rfl⟩
    · have:=k1.not_empty of h1
      rw [h2] at this
      cases this
  · rcases h' with ⟨st',g',k1,k2,rfl,rfl⟩ | ⟨st',g',k1,h'⟩
    · have:=h1.not_empty of k1
      rw [k2] at this
      cases this
    · have eg:=h1.unique of k1
      subst eg
      have okg:=(h1.ok of).1
      rcases h with ⟨cs,P,k,R,rfl,rfl⟩ | ⟨t,ht,h⟩
      · rcases h' with ⟨cs',P',k',R',rfl,rfl⟩ | ⟨t',ht',h'⟩
        · exact ⟨rfl,rfl⟩
        · exact (zajZ R ht').elim
      · rcases h' with ⟨cs',P',k',R',rfl,rfl⟩ | ⟨t',ht',h'⟩
        · exact (zajZ R' ht).elim
        · rcases h with ⟨sp,rfl,rfl⟩ | ⟨tag,bs,ps,sp,h⟩
          · rcases h' with ⟨sp',rfl,rfl⟩ | ⟨tag',bs',ps',sp',h'⟩
            · exact ⟨rfl,rfl⟩
            · rw [sp] at sp'; cases sp'
          · rcases h' with ⟨sp',rfl,rfl⟩ | ⟨tag',bs',ps',sp',h'⟩
            · rw [sp] at sp'; cases sp'
            · rw [sp] at sp'
              cases sp'
              rcases h with ⟨lm,rfl,rfl⟩ | ⟨lm,h⟩
              · rcases h' with ⟨lm',rfl,rfl⟩ | ⟨lm',h'⟩
                · exact ⟨rfl,rfl⟩
                · omega
              · rcases h' with ⟨lm',rfl,rfl⟩ | ⟨lm',h'⟩
                · omega
                · have bok:=zaj4 okg og sp
                  have go:∀ (bs:List NetF),(∀ b ∈ bs,zaaX c b)->∀ (md:Nat) (acc acc':List Tr) (a a':Ans) (s s':Nat),BrsP (zabA c m ls n) tag st gs.tail bs md acc a s->BrsP (zabA c m ls n) tag st' gs.tail bs md acc' a' s'->a.wd=a'.wd/\s=s':=by
                   intro bs
                   induction bs with
                   | nil=>
                    rintro _ md acc acc' a a' s s' ⟨rfl,rfl⟩ ⟨rfl,rfl⟩
                    exact ⟨rfl,rfl⟩
                   | cons b bs ih=>
                    intro hb md acc acc' a a' s s' q q'
                    have hb0:=hb b (by simp)
                    have hb1:∀ x ∈ bs,zaaX c x:=fun x hx=>hb x (by simp [hx])
                    rcases q with ⟨tr,m1,q1,q2⟩ | ⟨q1,q2⟩
                    · rcases q' with ⟨tr',m1',q1',q2'⟩ | ⟨q1',q2'⟩
                      · obtain ⟨_,rfl⟩:=zaeP n b _ md _ _ _ _ hb0 og.tail q1 q1'
                        exact ih hb1 _ _ _ _ _ _ _ q2 q2'
                      · obtain ⟨z,_⟩:=zaeP n b _ md _ _ _ _ hb0 og.tail q1 q2'
                        exact absurd z.symm q1'
                    · rcases q' with ⟨tr',m1',q1',q2'⟩ | ⟨q1',q2'⟩
                      · obtain ⟨z,_⟩:=zaeP n b _ md _ _ _ _ hb0 og.tail q2 q1'
                        exact absurd z q1
                      · exact zaeP n b _ md _ _ _ _ hb0 og.tail q2 q2'
                  exact go bs bok _ _ _ _ _ _ _ h h'
theorem zagF {c m:Nat} {ls:List Ln}:∀ (n:Nat) (f:NetF) (gs:List (List Mem)) (made:Nat) (a:Ans) (s:Nat),zabA c m ls n f gs made a s->made<=s/\(made<=m->s<=m)/\(made<=m->a.wd=.opn->s=m)
 | 0,_,_,_,_,_,h=>h.elim
 | n + 1,f,gs,made,a,s,h=>by
  rcases h with ⟨st,g,h1,h2,rfl,rfl⟩ | ⟨st,g,h1,h⟩
  · exact ⟨Nat.le_refl _,id,fun _ z=>by cases z⟩
  · rcases h with ⟨cs,P,k,R,rfl,rfl⟩ | ⟨t,ht,h⟩
    · exact ⟨Nat.le_refl _,id,fun _ z=>by cases z⟩
    · rcases h with ⟨sp,rfl,rfl⟩ | ⟨tag,bs,ps,sp,h⟩
      · exact ⟨Nat.le_refl _,id,fun _ z=>by cases z⟩
      · rcases h with ⟨lm,rfl,rfl⟩ | ⟨lm,h⟩
        · exact ⟨Nat.le_refl _,id,fun _ _=>by omega⟩
        · have go:∀ (bs:List NetF) (md:Nat) (acc:List Tr) (a:Ans) (s:Nat),BrsP (zabA c m ls n) tag st gs.tail bs md acc a s->md<=s/\(md<=m->s<=m)/\(md<=m->a.wd=.opn->s=m):=by
           intro bs
           induction bs with
           | nil=>
            rintro md acc a s ⟨rfl,rfl⟩
            refine ⟨Nat.le_refl _,id,fun _ z=>by cases z⟩
           | cons b bs ih=>
            intro md acc a s q
            rcases q with ⟨tr,m1,q1,q2⟩ | ⟨q1,q2⟩
            · obtain ⟨a1,a2,_⟩:=zagF n b _ md _ _ q1
              obtain ⟨b1,b2,b3⟩:=ih _ _ _ _ q2
              exact ⟨by omega,fun z=>b2 (a2 z),fun z=>b3 (a2 z)⟩
            · exact zagF n b _ md _ _ q2
          obtain ⟨a1,a2,a3⟩:=go bs _ _ _ _ h
          exact ⟨by omega,fun _=>a2 (by omega),fun _=>a3 (by omega)⟩
theorem zagd {c m m':Nat} {ls:List Ln}:∀ (n:Nat) (f:NetF) (gs:List (List Mem)) (made:Nat) (a:Ans) (s:Nat),zabA c m ls n f gs made a s->a.wd ≠ .opn->s<=m'->zabA c m' ls n f gs made a s
 | 0,_,_,_,_,_,h,_,_=>h.elim
 | n + 1,f,gs,made,a,s,h,na,hs=>by
  rcases h with h | ⟨st,g,h1,h⟩
  · exact .inl h
  · refine .inr ⟨st,g,h1,?_⟩
    rcases h with h | ⟨t,ht,h⟩
    · exact .inl h
    · refine .inr ⟨t,ht,?_⟩
      rcases h with h | ⟨tag,bs,ps,sp,h⟩
      · exact .inl h
      · refine .inr ⟨tag,bs,ps,sp,?_⟩
        rcases h with ⟨lm,rfl,rfl⟩ | ⟨lm,h⟩
        · exact absurd rfl na
        · have go:∀ (bs:List NetF) (md:Nat) (acc:List Tr) (a:Ans) (s:Nat),BrsP (zabA c m ls n) tag st gs.tail bs md acc a s->a.wd ≠ .opn->s<=m'->BrsP (zabA c m' ls n) tag st gs.tail bs md acc a s/\md<=s:=by
           intro bs
           induction bs with
           | nil=>rintro md acc a s ⟨rfl,rfl⟩ _ _; exact ⟨⟨rfl,rfl⟩,Nat.le_refl _⟩
           | cons b bs ih=>
            intro md acc a s q na hs
            rcases q with ⟨tr,m1,q1,q2⟩ | ⟨q1,q2⟩
            · obtain ⟨i1,i2⟩:=ih _ _ _ _ q2 na hs
              have l1:=(zagF n b _ md _ _ q1).1
              exact ⟨.inl ⟨tr,m1,zagd n b _ md _ _ q1 (fun z=>by cases z) (by omega),i1⟩,by omega⟩
            · exact ⟨.inr ⟨q1,zagd n b _ md _ _ q2 na hs⟩,(zagF n b _ md _ _ q2).1⟩
          obtain ⟨i1,i2⟩:=go bs _ _ _ _ h na hs
          exact .inr ⟨by omega,i1⟩
theorem zagr {c m m':Nat} {ls:List Ln}:∀ (n:Nat) (f:NetF) (gs:List (List Mem)) (made:Nat) (a:Ans) (s:Nat),zabA c m ls n f gs made a s->made<=m'->m' < s\/(m'<=s/\a.wd=.opn)->zabA c m' ls n f gs made .opn m'
 | 0,_,_,_,_,_,h,_,_=>h.elim
 | n + 1,f,gs,made,a,s,h,hm,hs=>by
  rcases h with ⟨st,g,h1,h2,rfl,rfl⟩ | ⟨st,g,h1,h⟩
  · rcases hs with z | ⟨_,z⟩
    · omega
    · cases z
  · refine .inr ⟨st,g,h1,?_⟩
    rcases h with ⟨cs,P,k,R,rfl,rfl⟩ | ⟨t,ht,h⟩
    · rcases hs with z | ⟨_,z⟩
      · omega
      · cases z
    · refine .inr ⟨t,ht,?_⟩
      rcases h with ⟨sp,rfl,rfl⟩ | ⟨tag,bs,ps,sp,h⟩
      · rcases hs with z | ⟨_,z⟩
        · omega
        · cases z
      · refine .inr ⟨tag,bs,ps,sp,?_⟩
        by_cases ml:m'<=made
        · exact .inl ⟨ml,rfl,by omega⟩
        · refine .inr ⟨by omega,?_⟩
          rcases h with ⟨lm,rfl,rfl⟩ | ⟨lm,h⟩
          · rcases hs with z | ⟨z,_⟩ <;> omega
          · have go:∀ (bs:List NetF) (md:Nat) (acc:List Tr) (a:Ans) (s:Nat),BrsP (zabA c m ls n) tag st gs.tail bs md acc a s->md<=m'->(m' < s\/(m'<=s/\a.wd=.opn))->BrsP (zabA c m' ls n) tag st gs.tail bs md acc .opn m':=by
             intro bs
             induction bs with
             | nil=>
              rintro md acc a s ⟨rfl,rfl⟩ hm hs
              rcases hs with z | ⟨_,z⟩
              · omega
              · cases z
             | cons b bs ih=>
              intro md acc a s q hm hs
              rcases q with ⟨tr,m1,q1,q2⟩ | ⟨q1,q2⟩
              · by_cases z:m1<=m'
                · exact .inl ⟨tr,m1,zagd n b _ md _ _ q1 (fun z=>by cases z) z,ih _ _ _ _ q2 z hs⟩
                · exact .inr ⟨(fun z=>by cases z),zagr n b _ md _ _ q1 hm (.inl (by omega))⟩
              · exact .inr ⟨(fun z=>by cases z),zagr n b _ md _ _ q2 hm hs⟩
            exact go bs _ _ _ _ h (by omega) hs
end G
namespace G
open PySem PySem.Spec PyProof.Rows L2 SM BF
mutual
noncomputable def TrAt (lo:Nat) (h:HI):Tr->Dt->Prop
 | .threes st,d=>∃ s,d=.tup [.str "threes", .ref s]/\lo<=s/\h[s]?=some (.lst (st.map t3D))
 | .ring st cs P k,d=>∃ s r,d=.tup [.str "ring", .ref s,.ref r]/\lo<=s/\lo<=r/\h[s]?=some (.lst (st.map t3D))/\h[r]?=some (.lst (zabK cs P k))
 | .one st bs,d=>∃ s r ds,d=.tup [.str "one", .ref s,.ref r]/\lo<=s/\lo<=r/\h[s]?=some (.lst (st.map t3D))/\h[r]?=some (.lst ds)/\TrsAt lo h bs ds
 | .split st p bs,d=>∃ s r ds,d=.tup [.str "split", .ref s,.int (p.1:Nat),.int (p.2:Nat),.ref r]/\lo<=s/\lo<=r/\h[s]?=some (.lst (st.map t3D))/\h[r]?=some (.lst ds)/\TrsAt lo h bs ds
noncomputable def TrsAt (lo:Nat) (h:HI):List Tr->List Dt->Prop
 | [],ds=>ds=[]
 | t::ts,ds=>∃ d r,ds=d::r/\TrAt lo h t d/\TrsAt lo h ts r
end
noncomputable def UpF (lo:Nat) (h h':HI):Prop:=∀ (n:Nat) (xs:List Dt),lo<=n->h[n]?=some (.lst xs)->h'[n]?=some (.lst xs)
mutual
theorem TrAt.up {lo lo':Nat} (hl:lo'<=lo) {h h':HI} (u:UpF lo h h'):∀ (t:Tr) {d:Dt},TrAt lo h t d->TrAt lo' h' t d
 | .threes st,d,q=>by
  simp only [TrAt] at q ⊢
  obtain ⟨s,e,l,q⟩:=q
  exact ⟨s,e,by omega,u _ _ l q⟩
 | .ring st cs P k,d,q=>by
  simp only [TrAt] at q ⊢
  obtain ⟨s,r,e,l1,l2,q1,q2⟩:=q
  exact ⟨s,r,e,by omega,by omega,u _ _ l1 q1,u _ _ l2 q2⟩
 | .one st bs,d,q=>by
  simp only [TrAt] at q ⊢
  obtain ⟨s,r,ds,e,l1,l2,q1,q2,q3⟩:=q
  exact ⟨s,r,ds,e,by omega,by omega,u _ _ l1 q1,u _ _ l2 q2,TrsAt.up hl u bs q3⟩
 | .split st p bs,d,q=>by
  simp only [TrAt] at q ⊢
  obtain ⟨s,r,ds,e,l1,l2,q1,q2,q3⟩:=q
  exact ⟨s,r,ds,e,by omega,by omega,u _ _ l1 q1,u _ _ l2 q2,TrsAt.up hl u bs q3⟩
theorem TrsAt.up {lo lo':Nat} (hl:lo'<=lo) {h h':HI} (u:UpF lo h h'):∀ (ts:List Tr) {ds:List Dt},TrsAt lo h ts ds->TrsAt lo' h' ts ds
 | [],ds,q=>by simp only [TrsAt] at q ⊢; exact q
 | t::ts,ds,q=>by
  simp only [TrsAt] at q ⊢
  obtain ⟨d,r,e,q1,q2⟩:=q
  exact ⟨d,r,e,TrAt.up hl u t q1,TrsAt.up hl u ts q2⟩
end
theorem TrsAt.snoc {lo:Nat} {h:HI} {t:Tr} {d:Dt} (a:TrAt lo h t d):∀ (ts:List Tr) {ds:List Dt},TrsAt lo h ts ds->TrsAt lo h (ts++[t]) (ds++[d])
 | [],ds,q=>by
  simp only [TrsAt] at q
  subst q
  simp only [List.nil_append,TrsAt]
  exact ⟨d,[],rfl,a,rfl⟩
 | t'::ts,ds,q=>by
  simp only [TrsAt] at q
  obtain ⟨d',r,rfl,q1,q2⟩:=q
  simp only [List.cons_append,TrsAt]
  exact ⟨d',r++[d],rfl,q1,TrsAt.snoc a ts q2⟩
noncomputable def zams (c:Nat) (u:Nat->Int):List Dt:=(List.range c).map fun k=>.tup [.int (u (2 * k)),.int (u (2 * k + 1))]
noncomputable def AnsAt (lo:Nat) (h:HI) (c:Nat):Ans->Dt->Prop
 | .opn,d=>d=.tup [.str "open", .non]
 | .laid t,d=>d=.tup [.str "laid", .lst (zams c (zadC (2 * c) t))]
 | .clash tr,d=>∃ x,d=.tup [.str "clash", x]/\TrAt lo h tr x
theorem AnsAt.up {lo lo':Nat} (hl:lo'<=lo) {h h':HI} (u:UpF lo h h') {c:Nat} {a:Ans} {d:Dt} (q:AnsAt lo h c a d):AnsAt lo' h' c a d:=by
 cases a with
 | opn=>exact q
 | laid t=>exact q
 | clash tr=>
  obtain ⟨x,e,q⟩:=q
  exact ⟨x,e,TrAt.up hl u tr q⟩
theorem zak4 {c:Nat} (hc:c<=100) (u:Nat->Int) (h:HI):zadJ [.lst (zabb (2 * c) u)] h=some (.lst (zams c u),h):=by
 have er:r3K 2 (.int 0) (.int ((2 * c:Nat):Int),h)=some (.vals ((List.range c).map fun (k:Nat)=>Dt.int (0 + (k:Int) * (2:Nat))),h):=by
  have e1:((((2 * c:Nat):Int) - 0 + ((2:Nat):Int) - 1) / ((2:Nat):Int)).toNat=c:=by omega
  have cc:(0:Int)<=0/\(0:Int) < 2 ^ 61/\0<=((2 * c:Nat):Int)/\((2 * c:Nat):Int) < 2 ^ 61/\0 < 2/\2 < 1000:=by omega
  simp only [r3K,if_pos cc,e1]
 have ec:=zael (te:=zacW) (tc:=zabh) (i:=0) (fun (k:Nat)=>Dt.int (0 + (k:Int) * (2:Nat))) (fun k=>Dt.tup [.int (u (2 * k)),.int (u (2 * k + 1))]) h (List.range c) [none,some (.lst (zabb (2 * c) u))] (by
  intro k hk
  have hk:=List.mem_range.mp hk
  refine ⟨by simp,?_⟩
  have g1:(0:Int) + (k:Int) * ((2:Nat):Int)=((2 * k:Nat):Int):=by omega
  have g2:((2 * k:Nat):Int) + 1=((2 * k + 1:Nat):Int):=by omega
  have t1:=zaip u (show 2 * k < 2 * c by omega)
  have t2:=zaip u (show 2 * k + 1 < 2 * c by omega)
  rw [g1]
  simp only [zacW,zab2,zaas,zaaw,q_e2,q_eC,q_eV,List.set_cons_zero,List.getElem?_cons_zero,List.getElem?_cons_succ,zaae,zaaf,zado,g2,zaml,SM.zabL,t1,t2,Option.map_some]
  rfl)
 have ck:=zacr (l:=[none,some (.lst (zabb (2 * c) u))]) (h:=h) (gSet 0) zabh zacW (xs:=(List.range c).map fun (k:Nat)=>Dt.int (0 + (k:Int) * (2:Nat))) (by simp [sizeLine]; omega)
 rw [ec] at ck
 have tl:=zaiV (2 * c) u
 simp only [zadJ,zaeu,q_fn,List.length_cons,List.length_nil,if_true,List.map_cons,List.map_nil,Nat.reduceAdd,Nat.reduceSub,List.replicate,List.append_nil,zaaN,zae3,zawy,q_eC,q_F1,q_eV,List.getElem?_cons_zero,zaae,zaaf,zamS,tl,er,zac3,zah6,zadK,Option.join_some,ck,zaaI]
 rfl
noncomputable def PrsD (h:HI) (d:Dt) (P:List (Nat × Nat)):Prop:=d=.lst (P.map zaao)\/∃ n,d=.ref n/\h[n]?=some (.lst (P.map zaao))
theorem PrsD.seq {h:HI} {d:Dt} {P:List (Nat × Nat)} (q:PrsD h d P) (e:HI):seqA (h++e) d=some (P.map zaao):=by
 rcases q with rfl | ⟨n,rfl,q⟩
 · rfl
 · have:=(Up.app h e).get q
   simp only [seqA,seqL,this]
noncomputable def SObj (h:HI) (o:Nat) (ls:List Ln) (m made:Nat):Prop:=h[o]?=some (.ins "Search" [("lengths", .lst (ls.map lenD)),("most", .int (m:Nat)),("made", .int (made:Nat))])
theorem SObj.up {h h':HI} (u:Up h h') {o m made:Nat} {ls:List Ln} (s:SObj h o ls m made):SObj h' o ls m made:=u.get s
theorem zasU {m:Nat} (hm:m < 8192) (h:m ≠ 0):zaaO m ≠ []:=by
 intro e
 apply h
 refine zahC hm (by decide) fun k hk=>?_
 cases z:m.testBit k with
 | false=>simp
 | true=>
  have:k ∈ zaaO m:=mem_ways.mpr ⟨hk,z⟩
  rw [e] at this
  cases this
theorem zarF {c:Nat} {g:NetF} (o:zaaX c g) (ne:zabt c g=false):∀ i j,i < c->j < c->zaaO (g i j) ≠ []:=fun i j hi hj=>zasU (o.lt i hi j hj) (not_empty ne hi hj)
end G
namespace G
open PySem PySem.Spec PyProof.Rows L2 SM BF
theorem zarc {c:Nat} {p:Nat × Nat} (h:p ∈ zaat c):p.1 < p.2/\p.2 < c:=by
 unfold zaat zabi at h
 obtain ⟨i,hi,h⟩:=List.mem_flatMap.mp h
 obtain ⟨k,hk,rfl⟩:=List.mem_map.mp h
 have:=List.mem_range.mp hi
 have:=List.mem_range.mp hk
 exact ⟨by show i < i + 1 + k; omega,by show i + 1 + k < c; omega⟩
theorem zapV {p q:Nat} {a mx mn:Int} {e:Bd} (h:e ∈ pbs p q a mx mn):(e.1=p/\e.2.1=q)\/(e.1=q/\e.2.1=p):=by
 unfold pbs at h
 rcases List.mem_append.mp h with h | h
 · split at h
   · rw [List.mem_singleton.mp h]; exact .inl ⟨rfl,rfl⟩
   · exact nomatch h
 · split at h
   · rw [List.mem_singleton.mp h]; exact .inr ⟨rfl,rfl⟩
   · exact nomatch h
theorem zan3 {i j side m:Nat} {e:Bd} (h:e ∈ zafu i j side m):∃ z:Nat,z < 2/\((e.1=2 * i + side/\e.2.1=2 * j + z)\/(e.1=2 * j + z/\e.2.1=2 * i + side)):=by
 unfold zafu at h
 rcases List.mem_append.mp h with h | h
 · exact ⟨0,by omega,zapV h⟩
 · exact ⟨1,by omega,zapV h⟩
theorem zaom {c:Nat} (N:Nat->Nat->Nat) {ls:List Ln} (hl:∀ x ∈ ls,x.1 < c):∀ e ∈ zadl c N ls,e.1 < 2 * c/\e.2.1 < 2 * c/\e.1 ≠ e.2.1:=by
 intro e he
 unfold zadl at he
 rcases List.mem_append.mp he with he | he
 · rcases List.mem_append.mp he with he | he
   · obtain ⟨i,hi,rfl⟩:=List.mem_map.mp he
     have:=List.mem_range.mp hi
     refine ⟨?_,?_,?_⟩ <;> simp only <;> omega
   · obtain ⟨x,hx,he⟩:=List.mem_flatMap.mp he
     have:=hl x hx
     unfold lenB at he
     simp only [List.mem_cons,List.not_mem_nil,or_false] at he
     rcases he with rfl | rfl
     · refine ⟨?_,?_,?_⟩ <;> simp only <;> omega
     · refine ⟨?_,?_,?_⟩ <;> simp only <;> omega
 · obtain ⟨p,hp,he⟩:=List.mem_flatMap.mp he
   obtain ⟨h1,h2⟩:=zarc hp
   unfold setB at he
   rcases List.mem_append.mp he with he | he
   · obtain ⟨z,hz,⟨a,b⟩ | ⟨a,b⟩⟩:=zan3 he
     · rw [a,b]; omega
     · rw [a,b]; omega
   · obtain ⟨z,hz,⟨a,b⟩ | ⟨a,b⟩⟩:=zan3 he
     · rw [a,b]; omega
     · rw [a,b]; omega
theorem zaj5 {α β:Type} (f:α->List β) (n:Nat):∀ (xs:List α) (_:∀ x ∈ xs,(f x).length<=n),(xs.flatMap f).length<=n * xs.length
 | [],_=>by simp
 | x::xs,h=>by
  have:=zaj5 f n xs (fun y hy=>h y (by simp [hy]))
  have:=h x (by simp)
  rw [List.flatMap_cons,List.length_append,List.length_cons,Nat.mul_succ]
  omega
theorem zanm {c:Nat} (hc:c<=8) (N:Nat->Nat->Nat) {ls:List Ln} (hl:ls.length<=100):(zadl c N ls).length<=1000:=by
 unfold zadl
 rw [List.length_append,List.length_append]
 have a1:(ownB c).length=c:=by simp [ownB]
 have a2:=zaj5 (lenB (2 * c + 1)) 2 ls (fun x _=>Nat.le_refl _)
 have a3:=zaj5 (fun p:Nat × Nat=>setB p.1 (N p.1 p.2) p.2) 8 (zaat c) (fun x _=>by
  unfold setB
  rw [List.length_append]
  have:=zaen x.1 x.2 0 (N x.1 x.2)
  have:=zaen x.1 x.2 1 (N x.1 x.2)
  omega)
 have a4:=zaf8 c c
 have h2:c * c<=8 * 8:=Nat.mul_le_mul hc hc
 have a5:(zaat c).length<=64:=by unfold zaat; omega
 omega
end G
namespace G
open PySem PySem.Spec PyProof.Rows L2 SM BF
theorem zasB {h h':HI} (f:∀ m,m < h.length->h'[m]?=h[m]?):Up h h':=by
 refine ⟨?_,f⟩
 apply Classical.byContradiction
 intro n
 have e:=f h'.length (by omega)
 rw [List.getElem?_eq_none (Nat.le_refl _),List.getElem?_eq_getElem (by omega)] at e
 cases e
theorem zas9 {h:HI} {ds:List Dt} {gs:List (List Mem)} (q:GrpsAt h ds gs):GrpsAt h (ds.drop 1) gs.tail:=by
 cases q with
 | nil=>exact .nil
 | cons a r=>exact r
theorem zawj {x y z:Dt}:zacb "lengths" [("lengths", x),("most", y),("made", z)]=some x:=by rfl
theorem zavJ {x y z:Dt}:zacb "most" [("lengths", x),("most", y),("made", z)]=some y:=by
 have:¬ ((("most" : Str))=(("lengths" : Str))):=by decide +kernel
 simp only [zacb,if_neg this,if_true]
theorem zap0 {x y z:Dt}:zacb "made" [("lengths", x),("most", y),("made", z)]=some z:=by
 have h1:¬ ((("made" : Str))=(("lengths" : Str))):=by decide +kernel
 have h2:¬ ((("made" : Str))=(("most" : Str))):=by decide +kernel
 simp only [zacb,if_neg h1,if_neg h2,if_true]
theorem zan4 {x y z:Dt}:zacb "look" [("lengths", x),("most", y),("made", z)]=none:=by
 have h1:¬ ((("look" : Str))=(("lengths" : Str))):=by decide +kernel
 have h2:¬ ((("look" : Str))=(("most" : Str))):=by decide +kernel
 have h3:¬ ((("look" : Str))=(("made" : Str))):=by decide +kernel
 simp only [zacb,if_neg h1,if_neg h2,if_neg h3]
theorem zau6 {x y z:Dt}:zacb "look_at_branches" [("lengths", x),("most", y),("made", z)]=none:=by
 have h1:¬ ((("look_at_branches" : Str))=(("lengths" : Str))):=by decide +kernel
 have h2:¬ ((("look_at_branches" : Str))=(("most" : Str))):=by decide +kernel
 have h3:¬ ((("look_at_branches" : Str))=(("made" : Str))):=by decide +kernel
 simp only [zacb,if_neg h1,if_neg h2,if_neg h3]
theorem zauT {x y z v:Dt}:putD "made" v [("lengths", x),("most", y),("made", z)]=([("lengths", x),("most", y),("made", v)]:List (Str × Dt)):=by
 have h1:¬ ((("lengths" : Str))=(("made" : Str))):=by decide +kernel
 have h2:¬ ((("most" : Str))=(("made" : Str))):=by decide +kernel
 simp only [putD,if_neg h1,if_neg h2,if_true]
theorem o_c:decide ((("open" : Str))=(("clash" : Str)))=false:=by decide +kernel
theorem la_c:decide ((("laid" : Str))=(("clash" : Str)))=false:=by decide +kernel
theorem t_r:decide ((("times" : Str))=(("ring" : Str)))=false:=by decide +kernel
noncomputable def zat3 (c m:Nat) (ls:List Ln) (n:Nat) (f:NetF) (gs:List (List Mem)) (made o:Nat) (h:HI) (r:Option (Dt × HI)):Prop:=
 ∃ d h' a s,r=some (d,h')/\zabA c m ls n f gs made a s/\AnsAt h.length h' c a d/\UpL h h'/\SObj h' o ls m s
structure zav0 (c m:Nat) (ls:List Ln) (n:Nat) (f:NetF) (gs:List (List Mem)) (gds:List Dt) (made b o:Nat) (pd:Dt) (P:List (Nat × Nat)) (h:HI):Prop where
 ex:∃ a s,zabA c m ls n f gs made a s
 of:zaaX c f
 og:GrpsOk c gs
 sg:∀ x ∈ gs,x.length<=1000
 net:NetAt h b c f
 grp:GrpsAt h gds gs
 prs:PrsD h pd P
 pc:∀ p ∈ P,p.1 < c/\p.2 < c/\p.1 ≠ p.2
 wt:zab9 c f P []
 lp:P.length<=1000
 ob:SObj h o ls m made
noncomputable def zanH (c m:Nat) (ls:List Ln) (n:Nat):Prop:=∀ (f:NetF) (gs:List (List Mem)) (gds:List Dt) (made b o:Nat) (pd:Dt) (P:List (Nat × Nat)) (h:HI),zav0 c m ls n f gs gds made b o pd P h->zat3 c m ls n f gs made o h (zabw n [.ref o,.ref (b + c),pd,.lst gds] h)
theorem zav8 (tag:Option (Nat × Nat)) (nds:List Dt) (ps:List (Nat × Nat)) (k:HI):oIx (splD tag nds ps) (.int 2) k=some (.lst nds,k):=by cases tag <;> rfl
theorem zav7 (tag:Option (Nat × Nat)) (nds:List Dt) (ps:List (Nat × Nat)) (k:HI):oIx (splD tag nds ps) (.int 3) k=some (.lst (ps.map zaao),k):=by cases tag <;> rfl
theorem zarV {c m n:Nat} {ls:List Ln} (IH:zanH c m ls n) {tag:Option (Nat × Nat)} {st st0:List (Nat × Nat × Nat)} {gs:List (List Mem)} {gds:List Dt} {ps:List (Nat × Nat)} {nds0:List Dt} {hB:HI} {o sr:Nat} (og:GrpsOk c gs) (sg:∀ x ∈ gs,x.length<=1000) (G0:GrpsAt hB gds gs) (pc:∀ p ∈ ps,p.1 < c/\p.2 < c/\p.1 ≠ p.2) (lp:ps.length<=1000) :
 ∀ (bs:List NetF) (nds:List Dt) (made:Nat) (acc acc0:List Tr) (accds:List Dt) (h:HI) (y5 y6:Option Dt) (a0:Ans) (s0:Nat),BrsP (zabA c m ls n) tag st0 gs bs made acc0 a0 s0->(∀ b ∈ bs,zaaX c b)->(∀ b ∈ bs,zab9 c b ps [])->All2 (NetD hB c) bs nds->UpL hB h->h[hB.length]?=some (.lst accds)->TrsAt (hB.length + 1) h acc accds->accds.length + bs.length<=5000->SObj h o ls m made->
  ∃ r,zab1 (gSet 5) (zabc (zabw n)) nds [some (.ref o),some (splD tag nds0 ps),some (.ref sr),some (.lst gds),some (.ref hB.length),y5,y6] h=some r/\
   ((∃ y5' y6' h' acc' accds' s',r=.nx [some (.ref o),some (splD tag nds0 ps),some (.ref sr),some (.lst gds),some (.ref hB.length),y5',y6'] h'/\UpL hB h'/\h'[hB.length]?=some (.lst accds')/\TrsAt (hB.length + 1) h' acc' accds'/\SObj h' o ls m s'/\BrsP (zabA c m ls n) tag st gs bs made acc (.clash (mkTr tag st acc')) s')\/
    (∃ d h' a s',r=.rt d h'/\UpL hB h'/\AnsAt (hB.length + 1) h' c a d/\SObj h' o ls m s'/\a.wd ≠ .clash/\BrsP (zabA c m ls n) tag st gs bs made acc a s')):=by
 intro bs
 induction bs with
 | nil=>
  intro nds made acc acc0 accds h y5 y6 a0 s0 q _ _ A U hb T _ O
  cases A
  exact ⟨_,rfl,.inl ⟨y5,y6,h,acc,accds,made,rfl,U,hb,T,O,rfl,rfl⟩⟩
 | cons b bs ih=>
  intro nds made acc acc0 accds h y5 y6 a0 s0 q okb wtb A U hb T sz O
  cases A with
  | @cons _ nd _ nds' nd1 A=>
  have hbl:hB.length + 1<=h.length:=(List.getElem?_eq_some_iff.mp hb).1
  obtain ⟨b1,rfl,N1⟩:=nd1
  have exb:∃ a s,zabA c m ls n b gs made a s:=by
   rcases q with ⟨tr,m1,q1,_⟩ | ⟨_,q2⟩
   · exact ⟨_,_,q1⟩
   · exact ⟨_,_,q2⟩
  obtain ⟨d,h1,a,s,e,L,AN,U1,O1⟩:=IH b gs gds made b1 o (.lst (ps.map zaao)) ps h ⟨exb,okb b (by simp),og,sg,U.net N1,G0.up U,.inl rfl,pc,wtb b (by simp),lp,O⟩
  have mt:=zaiZ (x := "Search") (m := "look") (F:=zabw n) (ga:=zaac (eV 5) (zaac (e2 oIx (eV 1) (eC (.int 3))) (zaac (eV 3) aNil))) (l:=[some (.ref o),some (splD tag nds0 ps),some (.ref sr),some (.lst gds),some (.ref hB.length),some (.ref (b1 + c)),y6]) O zan4
  have ev:zahZ "Search" "look" (zabw n) (eV 0) (zaac (eV 5) (zaac (e2 oIx (eV 1) (eC (.int 3))) (zaac (eV 3) aNil))) [some (.ref o),some (splD tag nds0 ps),some (.ref sr),some (.lst gds),some (.ref hB.length),some (.ref (b1 + c)),y6] h=some (d,h1):=by
   simp only [zamz,q_eV,List.getElem?_cons_zero,zaae,zaaf,mt,zaas,zaaw,q_e2,q_eC,List.getElem?_cons_succ,zav7,e]
  cases a with
  | opn=>
   have dd:d=.tup [.str "open", .non]:=AN
   refine ⟨.rt d h1,?_,.inr ⟨d,h1,.opn,s,rfl,U.trans U1,AN,O1,(fun z=>by cases z),.inr ⟨(fun z=>by cases z),L⟩⟩⟩
   subst dd
   simp only [List.map_cons,zab1,zaeI,Option.bind_some,List.set_cons_succ,List.set_cons_zero,zabc,zaaC,zaaH,ev,zaaf,zaaB,zaa7,q_tB,q_e2,q_eV,q_eC,List.getElem?_cons_zero,List.getElem?_cons_succ,zaae,zaaZ,zaa9,Option.map_some,zaoL,o_c,Bool.not_false,zaaK,if_true,zaaN,zacI,zaqZ]
  | laid t=>
   have dd:d=.tup [.str "laid", .lst (zams c (zadC (2 * c) t))]:=AN
   refine ⟨.rt d h1,?_,.inr ⟨d,h1,.laid t,s,rfl,U.trans U1,AN,O1,(fun z=>by cases z),.inr ⟨(fun z=>by cases z),L⟩⟩⟩
   subst dd
   simp only [List.map_cons,zab1,zaeI,Option.bind_some,List.set_cons_succ,List.set_cons_zero,zabc,zaaC,zaaH,ev,zaaf,zaaB,zaa7,q_tB,q_e2,q_eV,q_eC,List.getElem?_cons_zero,List.getElem?_cons_succ,zaae,zaaZ,zaa9,Option.map_some,zaoL,la_c,Bool.not_false,zaaK,if_true,zaaN,zacI,zaqZ]
  | clash tr=>
   obtain ⟨x,rfl,TA⟩:=AN
   have hb1:=U1.2 _ _ hb
   obtain ⟨h2,hh2⟩:∃ h2:HI,h2=h1.set hB.length (.lst (accds++[x])):=⟨_,rfl⟩
   have l1:hB.length < h1.length:=(List.getElem?_eq_some_iff.mp hb1).1
   have g2:∀ k,k ≠ hB.length->h2[k]?=h1[k]?:=fun k hk=>by rw [hh2,List.getElem?_set_ne (Ne.symm hk)]
   have U2:UpL hB h2:=⟨by rw [hh2,List.length_set]; exact Nat.le_trans U.1 U1.1,fun k xs hk=>by
    have kl:=(List.getElem?_eq_some_iff.mp hk).1
    rw [g2 k (by omega)]
    exact U1.2 _ _ (U.2 _ _ hk)⟩
   have F2:UpF (hB.length + 1) h1 h2:=fun k xs hk hx=>by rw [g2 k (by omega)]; exact hx
   have hb2:h2[hB.length]?=some (.lst (accds++[x])):=by rw [hh2,List.getElem?_set_self l1]
   have O2:SObj h2 o ls m s:=by
    have:o ≠ hB.length:=by
     intro z
     unfold SObj at O1
     rw [z,hb1] at O1
     cases O1
    unfold SObj
    rw [g2 o this]
    exact O1
   have T2:TrsAt (hB.length + 1) h2 (acc++[tr]) (accds++[x]):=TrsAt.snoc (TrAt.up hbl (fun k xs hk hx=>F2 k xs (by omega) hx) tr TA) acc (TrsAt.up (Nat.le_refl _) (fun k xs hk hx=>F2 k xs hk (U1.2 _ _ hx)) acc T)
   have ap:=zadv (l:=[some (.ref o),some (splD tag nds0 ps),some (.ref sr),some (.lst gds),some (.ref hB.length),some (.ref (b1 + c)),some (.tup [.str "clash", x])]) (h:=h1) (g:=e2 oIx (eV 6) (eC (.int 1))) (d:=x) hb1 (by simp) hb1 (by simp at sz; simp [sizeLine]; omega)
   rw [<- hh2] at ap
   obtain ⟨a1,s1,acc1,q3⟩:∃ a1 s1 acc1,BrsP (zabA c m ls n) tag st0 gs bs s acc1 a1 s1:=by
    rcases q with ⟨tr',m1,q1,q2⟩ | ⟨q1,q2⟩
    · obtain ⟨_,z⟩:=zaeP n b gs made _ _ _ _ (okb b (by simp)) og q1 L
      subst z
      exact ⟨_,_,_,q2⟩
    · obtain ⟨z,_⟩:=zaeP n b gs made _ _ _ _ (okb b (by simp)) og q2 L
      exact absurd z q1
   obtain ⟨r,e3,er⟩:=ih nds' s (acc++[tr]) acc1 (accds++[x]) h2 (some (.ref (b1 + c))) (some (.tup [.str "clash", x])) a1 s1 q3 (fun y hy=>okb y (by simp [hy])) (fun y hy=>wtb y (by simp [hy])) A U2 hb2 T2 (by simp at sz ⊢; omega) O2
   refine ⟨r,?_,?_⟩
   · simp only [List.map_cons,zab1,zaeI,Option.bind_some,List.set_cons_succ,List.set_cons_zero,zabc,zaaC,zaaH,ev,zaaf,zaaB,zaa7,q_tB,q_e2,q_eV,q_eC,List.getElem?_cons_zero,List.getElem?_cons_succ,zaae,zaaZ,zaa9,Option.map_some,zaoL,decide_true,Bool.not_true,zaaK,Bool.false_eq_true,if_false,zabs,zab4,zacA,ap,zauD]
     exact e3
   · rcases er with ⟨y5',y6',h',acc',accds',s',z1,z2,z3,z4,z5,z6⟩ | ⟨d,h',a,s',z1,z2,z3,z4,z5,z6⟩
     · exact .inl ⟨y5',y6',h',acc',accds',s',z1,z2,z3,z4,z5,.inl ⟨tr,s,L,z6⟩⟩
     · exact .inr ⟨d,h',a,s',z1,z2,z3,z4,z5,.inl ⟨tr,s,L,z6⟩⟩
end G
namespace G
open PySem PySem.Spec PyProof.Rows L2 SM BF
theorem sz1:1<=sizeLine:=by decide
theorem sz2:2<=sizeLine:=by decide
theorem sz3:3<=sizeLine:=by decide
theorem nn_n:zafX Dt.non=true:=rfl
theorem nn_r (k:Nat):zafX (Dt.ref k)=false:=rfl
theorem zawz {c m n:Nat} {ls:List Ln} (IH:zanH c m ls n) {tag:Option (Nat × Nat)} {st st0:List (Nat × Nat × Nat)} {gs:List (List Mem)} {gds:List Dt} {ps:List (Nat × Nat)} {bs:List NetF} {nds:List Dt} {hB:HI} {o sr lo made:Nat} {a0:Ans} {s0:Nat} (og:GrpsOk c gs) (sg:∀ x ∈ gs,x.length<=1000) (G0:GrpsAt hB gds gs) (pc:∀ p ∈ ps,p.1 < c/\p.2 < c/\p.1 ≠ p.2) (lp:ps.length<=1000)
 (q:BrsP (zabA c m ls n) tag st0 gs bs made [] a0 s0) (okb:∀ b ∈ bs,zaaX c b) (wtb:∀ b ∈ bs,zab9 c b ps []) (A:All2 (NetD hB c) bs nds) (lb:bs.length<=4000) (O:SObj hB o ls m made) (hs:hB[sr]?=some (.lst (st.map t3D))) (l1:lo<=sr) (l2:lo<=hB.length) :
 ∃ d h' a s,zaaT (zabw n) [.ref o,splD tag nds ps,.ref sr,.lst gds] hB=some (d,h')/\BrsP (zabA c m ls n) tag st gs bs made [] a s/\AnsAt lo h' c a d/\UpL hB h'/\SObj h' o ls m s:=by
 have U0:UpL hB (hB++[.lst []]):=UpL.app _ _
 obtain ⟨r,e,er⟩:=zarV IH (tag:=tag) (st:=st) (st0:=st0) (nds0:=nds) (sr:=sr) og sg G0 pc lp bs nds made [] [] [] (hB++[.lst []]) none none a0 s0 q okb wtb A U0 (by simp) (by simp only [TrsAt]) (by simp; omega) (SObj.up (Up.app hB [.lst []]) O)
 have s2:=fun k=>zav8 tag nds ps k
 rcases er with ⟨y5,y6,h',acc,accds,s,rfl,U,hb,T,O',B⟩ | ⟨d,h',a,s,rfl,U,AN,O',na,B⟩
 · have hs':=U.2 _ _ hs
   have T':TrsAt lo h' acc accds:=TrsAt.up (by omega) (fun k xs hk hx=>hx) acc T
   cases tag with
   | none=>
    refine ⟨.tup [.str "clash", .tup [.str "one", .ref sr,.ref hB.length]],h',_,s,?_,B,⟨_,rfl,?_⟩,U,O'⟩
    · have c1:∀ k:HI,zaid (.tup [.str "one", .ref sr]) (.tup []) k=some (.tup [.str "one", .ref sr],k):=fun _=>rfl
      have c2:∀ k:HI,zaid (.tup [.str "one", .ref sr]) (.tup [.ref hB.length]) k=some (.tup [.str "one", .ref sr,.ref hB.length],k):=fun _=>rfl
      have t2:∀ x y:Dt,[x,y].length<=sizeLine:=fun _ _=>by simp [sizeLine]
      have t1:∀ x:Dt,[x].length<=sizeLine:=fun _=>by simp [sizeLine]
      have x0:∀ k:HI,oIx (splD none nds ps) (.int 0) k=some (.str "one", k):=fun _=>rfl
      have x1:∀ k:HI,oIx (splD none nds ps) (.int 1) k=some (.tup [],k):=fun _=>rfl
      simp only [zaaT,zabg,q_fn,List.length_cons,List.length_nil,if_true,List.map_cons,List.map_nil,Nat.reduceAdd,Nat.reduceSub,List.replicate,List.cons_append,List.nil_append,zaaC,zaaH,zaeH,zaaw,zaaf,Nat.zero_le,List.set_cons_succ,List.set_cons_zero,zaaB,zacX,zacc,q_e2,q_eV,q_eC,List.getElem?_cons_zero,List.getElem?_cons_succ,zaae,s2,zae0,zadf,e,zaaN,zab2,zaas,x0,x1,sz1,sz2,c1,c2,zaaI]
    · show TrAt lo h' (.one st acc) _
      simp only [TrAt]
      exact ⟨sr,hB.length,accds,rfl,l1,l2,hs',hb,T'⟩
   | some p=>
    refine ⟨.tup [.str "clash", .tup [.str "split", .ref sr,.int (p.1:Nat),.int (p.2:Nat),.ref hB.length]],h',_,s,?_,B,⟨_,rfl,?_⟩,U,O'⟩
    · have c1:∀ k:HI,zaid (.tup [.str "split", .ref sr]) (zaao p) k=some (.tup [.str "split", .ref sr,.int (p.1:Nat),.int (p.2:Nat)],k):=fun _=>rfl
      have c2:∀ k:HI,zaid (.tup [.str "split", .ref sr,.int (p.1:Nat),.int (p.2:Nat)]) (.tup [.ref hB.length]) k=some (.tup [.str "split", .ref sr,.int (p.1:Nat),.int (p.2:Nat),.ref hB.length],k):=fun _=>rfl
      have t2:∀ x y:Dt,[x,y].length<=sizeLine:=fun _ _=>by simp [sizeLine]
      have t1:∀ x:Dt,[x].length<=sizeLine:=fun _=>by simp [sizeLine]
      have x0:∀ k:HI,oIx (splD (some p) nds ps) (.int 0) k=some (.str "split", k):=fun _=>rfl
      have x1:∀ k:HI,oIx (splD (some p) nds ps) (.int 1) k=some (zaao p,k):=fun _=>rfl
      simp only [zaaT,zabg,q_fn,List.length_cons,List.length_nil,if_true,List.map_cons,List.map_nil,Nat.reduceAdd,Nat.reduceSub,List.replicate,List.cons_append,List.nil_append,zaaC,zaaH,zaeH,zaaw,zaaf,Nat.zero_le,List.set_cons_succ,List.set_cons_zero,zaaB,zacX,zacc,q_e2,q_eV,q_eC,List.getElem?_cons_zero,List.getElem?_cons_succ,zaae,s2,zae0,zadf,e,zaaN,zab2,zaas,x0,x1,sz1,sz2,c1,c2,zaaI]
    · show TrAt lo h' (.split st p acc) _
      simp only [TrAt]
      exact ⟨sr,hB.length,accds,rfl,l1,l2,hs',hb,T'⟩
 · refine ⟨d,h',a,s,?_,B,AN.up (by omega) (fun k xs hk hx=>hx),U,O'⟩
   simp only [zaaT,zabg,q_fn,List.length_cons,List.length_nil,if_true,List.map_cons,List.map_nil,Nat.reduceAdd,Nat.reduceSub,List.replicate,List.cons_append,List.nil_append,zaaC,zaaH,zaeH,zaaw,zaaf,Nat.zero_le,List.set_cons_succ,List.set_cons_zero,zaaB,zacX,zacc,q_e2,q_eV,q_eC,List.getElem?_cons_zero,List.getElem?_cons_succ,zaae,s2,zae0,zadf,e,zacI,zaaI]
theorem zary {c:Nat} {g:NetF} (o:zaaX c g) (cl:zaeF c g) {gs:List (List Mem)} (ok:GrpsOk c gs) (sg:∀ x ∈ gs,x.length<=1000) {tag:Option (Nat × Nat)} {bs:List NetF} {ps:List (Nat × Nat)} (h:zacV c g gs=some (tag,bs,ps)):(∀ p ∈ ps,p.1 < c/\p.2 < c/\p.1 ≠ p.2)/\ps.length<=1000/\(∀ b ∈ bs,zab9 c b ps [])/\bs.length<=1000:=by
 cases gs with
 | cons grp gs=>
  simp only [zacV,Option.some.injEq,Prod.mk.injEq] at h
  obtain ⟨_,rfl,rfl⟩:=h
  have gk:=ok grp (by simp)
  refine ⟨fun p hp=>?_,by simp; exact sg grp (by simp),fun b hb=>?_,by simp; exact sg grp (by simp)⟩
  · obtain ⟨x,hx,rfl⟩:=List.mem_map.mp hp
    obtain ⟨a,b,d,_⟩:=gk x hx
    exact ⟨a,b,d⟩
  · obtain ⟨k,_,rfl⟩:=List.mem_map.mp hb
    have:=zakq (k:=k) grp gk g 0 [] o (zajb cl)
    rw [List.nil_append] at this
    exact this
 | nil=>
  simp only [zacV] at h
  cases lp:zaf0 c g with
  | none=>rw [lp] at h; cases h
  | some p=>
   rw [lp] at h
   simp only [Option.some.injEq,Prod.mk.injEq] at h
   obtain ⟨_,rfl,rfl⟩:=h
   have hp:p ∈ zaat c:=List.mem_of_find?_eq_some lp
   obtain ⟨q1,q2⟩:=mem_pairs.mp hp
   refine ⟨fun x hx=>?_,by simp,fun b hb=>?_,by have:=zaf9 (g p.1 p.2); simp; omega⟩
   · rw [List.mem_singleton.mp hx]
     omega
   · obtain ⟨w,_,rfl⟩:=List.mem_map.mp hb
     have:=zalB o (show p.1 < c by omega) (show p.2 < c by omega) (by omega) (2 ^ w) (zajb cl)
     rw [List.nil_append] at this
     exact this
theorem zaeE (n:Nat):zabw (n + 1)=fnI 4 9 (zabC (zabw n)):=rfl
theorem zauN {c m:Nat} {ls:List Ln} (hc1:1<=c) (hc:c<=8) (hl:ls.length<=100) (lok:∀ x ∈ ls,x.1 < c):∀ n,zanH c m ls n:=by
 intro n
 induction n with
 | zero=>
  intro f gs gds made b o pd P h K
  obtain ⟨a,s,q⟩:=K.ex
  exact q.elim
 | succ n IH=>
  intro f gs gds made b o pd P h K
  obtain ⟨a0,s0,q0⟩:=K.ex
  obtain ⟨d,h1,e1,x,sr,st,g,rfl,r1,r2,r3,r4,r5,r6,r7⟩:=zahd (show c<=100 by omega) K.of K.net (pd:=pd) (P:=P) (fun e=>K.prs.seq e) K.pc K.wt (by have:=K.lp; omega)
  have U1:Up h h1:=⟨r2,r3⟩
  have O1:SObj h1 o ls m made:=K.ob.up U1
  rcases r7 with ⟨rfl,em⟩ | ⟨bg,rfl,bl,Ng,cl,ne,_⟩
  · refine ⟨.tup [.str "clash", .tup [.str "threes", .ref sr]],h1,.clash (.threes st),made,?_,.inl ⟨st,g,r5,em,rfl,rfl⟩,⟨_,rfl,?_⟩,U1.l,O1⟩
    · rw [zaeE]
      have t2:∀ x y:Dt,[x,y].length<=sizeLine:=fun _ _=>by simp [sizeLine]
      simp only [zabC,q_fn,List.length_cons,List.length_nil,if_true,List.map_cons,List.map_nil,Nat.reduceAdd,Nat.reduceSub,List.replicate,List.cons_append,List.nil_append,zaaC,zaaH,zaaL,zaas,zaaw,q_eV,List.getElem?_cons_zero,List.getElem?_cons_succ,zaae,zaaf,List.append_nil,e1,List.set_cons_succ,List.set_cons_zero,zaaB,q_e2,q_eC,zaaZ,zaa9,zadb,Option.map_some,zaa7,q_tB,zahc,nn_n,nn_r,zaaK,zaaN,zab2,sz2,zacI,zaaI]
    · show TrAt h.length h1 (.threes st) _
      simp only [TrAt]
      exact ⟨sr,rfl,r1,r4⟩
  · have EN:EndN c f st (cutN c g):=⟨g,r5,cl,ne,rfl⟩
    obtain ⟨okg,clg,neg⟩:=EN.ok K.of
    have Ng':=zasY Ng
    generalize cutN c g=g' at EN okg clg neg Ng'
    obtain ⟨rest,eb⟩:=zaqy (show c<=100 by omega) (zarF okg neg) (show ls.length<=1000 by omega) Ng'
    obtain ⟨h2,hh2⟩:∃ h2:HI,h2=h1++.lst ((zadl c g' ls).map trip)::rest:=⟨_,rfl⟩
    rw [<- hh2] at eb
    have U2:Up h1 h2:=hh2 ▸ Up.app _ _
    have hb2:h2[h1.length]?=some (.lst ((zadl c g' ls).map trip)):=by rw [hh2]; simp
    have O2:=O1.up U2
    have nl:=Ng'.len
    have u1:=fun (h:HI)=>zafR (h:=h) (i:=2) (j:=(c:Int)) (Or.inl ⟨by decide,by decide⟩)
    have g2:(2:Int) * (c:Int)=((2 * c:Nat):Int):=by omega
    have fL:=fun (d:Dt)=>zah3 (x := "Search") (k := "lengths") O1 (zawj)
    have t2:∀ x y:Dt,[x,y].length<=sizeLine:=fun _ _=>by simp [sizeLine]
    have t3:∀ x y z:Dt,[x,y,z].length<=sizeLine:=fun _ _ _=>by simp [sizeLine]
    have fl1:=fL .non
    rcases zam0 (n:=2 * c) (a:=h1.length) (by omega) (by omega) (zadl c g' ls) (zaom g' lok) (zanm hc g' hl) h2 hb2 with ⟨t,h3,sat,fr,et⟩ | ⟨cs,PP,k,r,h3,R,fr,hr,et,rl⟩
    · have U3:Up h2 h3:=zasB fr
      have O3:=O2.up U3
      obtain ⟨h4,U4,es⟩:=zapk ((U2.trans U3).net Ng') okg (show c<=100 by omega) (K.grp.up (U1.trans (U2.trans U3)).l) K.og K.sg
      have O4:=O3.up U4
      have UU:Up h h4:=U1.trans (U2.trans (U3.trans U4))
      cases sp:zacV c g' gs with
      | none=>
       rw [sp] at es
       have esa:=zak4 (c:=c) (by omega) (zadC (2 * c) t) h4
       refine ⟨.tup [.str "laid", .lst (zams c (zadC (2 * c) t))],h4,.laid t,made,?_,.inr ⟨st,g',EN,.inr ⟨t,sat,.inl ⟨sp,rfl,rfl⟩⟩⟩,rfl,UU.l,O4⟩
       rw [zaeE]
       simp only [zabC,q_fn,List.length_cons,List.length_nil,if_true,List.map_cons,List.map_nil,Nat.reduceAdd,Nat.reduceSub,List.replicate,List.cons_append,List.nil_append,zaaC,zaaH,zaaL,zaas,zaaw,q_eV,List.getElem?_cons_zero,List.getElem?_cons_succ,zaae,zaaf,List.append_nil,e1,List.set_cons_succ,List.set_cons_zero,zaaB,q_e2,q_eC,zaaZ,zaa9,zadb,Option.map_some,zaa7,q_tB,zahc,nn_n,nn_r,zaaK,Bool.false_eq_true,if_false,zabs,q_F1,nl,u1,g2,zakO,fl1,eb,et,zadW,t_r,es,zaaN,zab2,esa,sz2,zacI,zaaI]
      | some v=>
       obtain ⟨tag,bs,ps⟩:=v
       rw [sp] at es
       obtain ⟨nds,A,es⟩:=es
       have fm:=zah3 (x := "Search") (k := "made") O4 (zap0)
       have fM:=zah3 (x := "Search") (k := "most") O4 (zavJ)
       have nn:zafX (splD tag nds ps)=false:=by cases tag <;> rfl
       by_cases lm:m<=made
       · refine ⟨.tup [.str "open", .non],h4,.opn,made,?_,.inr ⟨st,g',EN,.inr ⟨t,sat,.inr ⟨tag,bs,ps,sp,.inl ⟨lm,rfl,rfl⟩⟩⟩⟩,rfl,UU.l,O4⟩
         have dg:decide (((m:Nat):Int)<=((made:Nat):Int))=true:=decide_eq_true (by omega)
         rw [zaeE]
         simp only [zabC,q_fn,List.length_cons,List.length_nil,if_true,List.map_cons,List.map_nil,Nat.reduceAdd,Nat.reduceSub,List.replicate,List.cons_append,List.nil_append,zaaC,zaaH,zaaL,zaas,zaaw,q_eV,List.getElem?_cons_zero,List.getElem?_cons_succ,zaae,zaaf,List.append_nil,e1,List.set_cons_succ,List.set_cons_zero,zaaB,q_e2,q_eC,zaaZ,zaa9,zadb,Option.map_some,zaa7,q_tB,zahc,nn_n,nn_r,zaaK,Bool.false_eq_true,if_false,zabs,q_F1,nl,u1,g2,zakO,fl1,eb,et,zadW,t_r,es,nn,fm,fM,o_ge,dg,zaaN,zab2,sz2,zacI,zaaI]
       · have dg:decide (((m:Nat):Int)<=((made:Nat):Int))=false:=decide_eq_false (by omega)
         have bok:=zaj4 okg K.og sp
         obtain ⟨pc,pl,wb,lb⟩:=zary okg clg K.og K.sg sp
         obtain ⟨h5,hh5⟩:∃ h5:HI,h5=h4.set o (.ins "Search" [("lengths", .lst (ls.map lenD)),("most", .int (m:Nat)),("made", .int ((made + 1:Nat):Int))]):=⟨_,rfl⟩
         have ol:=(List.getElem?_eq_some_iff.mp O4).1
         have O5:SObj h5 o ls m (made + 1):=by unfold SObj; rw [hh5,List.getElem?_set_self ol]
         have U5:UpL h4 h5:=hh5 ▸ UpL.set O4
         have l5:h5.length=h4.length:=by rw [hh5,List.length_set]
         have sf:=zaho (x := "Search") (k := "made") (v:=.int ((made + 1:Nat):Int)) (l:=[some (.ref o),some (.ref (b + c)),some pd,some (.lst gds),some (.tup [.ref (bg + c),.ref sr]),some (.ref (bg + c)),some (.ref sr),some (.tup [.str "times", .lst (zabb (2 * c) (zadC (2 * c) t))]),some (splD tag nds ps)]) O4 (by simp)
         rw [zauT,<- hh5] at sf
         have m1:((made:Nat):Int) + 1=((made + 1:Nat):Int):=by omega
         have hs5:h5[sr]?=some (.lst (st.map t3D)):=U5.2 _ _ ((U2.trans (U3.trans U4)).get r4)
         have qb:∃ st0,BrsP (zabA c m ls n) tag st0 gs.tail bs (made + 1) [] a0 s0:=by
          rcases q0 with ⟨st',g1,k1,k2,_,_⟩ | ⟨st',g1,k1,k⟩
          · have:=EN.not_empty K.of k1
            rw [k2] at this
            cases this
          · have eg:=EN.unique K.of k1
            subst eg
            rcases k with ⟨cs',P',k',R',_,_⟩ | ⟨t',ht',k⟩
            · exact (zajZ R' sat).elim
            · rcases k with ⟨sp',_,_⟩ | ⟨tag',bs',ps',sp',k⟩
              · rw [sp] at sp'; cases sp'
              · rw [sp] at sp'
                cases sp'
                rcases k with ⟨lm',_,_⟩ | ⟨lm',k⟩
                · omega
                · exact ⟨_,k⟩
         obtain ⟨st0,qb⟩:=qb
         obtain ⟨d,h',a,s,e6,B,AN,U6,O6⟩:=zawz IH (tag:=tag) (st:=st) (gds:=gds.drop 1) (sr:=sr) (lo:=h.length) (hB:=h5) K.og.tail (fun x hx=>K.sg x (List.mem_of_mem_tail hx)) (zas9 (K.grp.up (UU.l.trans U5))) pc pl qb bok wb (A.imp fun _ _ z=>z.up U5) (by omega) O5 hs5 r1 (by have:=UU.1; omega)
         refine ⟨d,h',a,s,?_,.inr ⟨st,g',EN,.inr ⟨t,sat,.inr ⟨tag,bs,ps,sp,.inr ⟨by omega,B⟩⟩⟩⟩,AN,UU.l.trans (U5.trans U6),O6⟩
         have mt:=zaiZ (x := "Search") (m := "look_at_branches") (F:=zaaT (zabw n)) (ga:=zaac (eV 8) (zaac (eV 6) (zaac (eSl (eV 3) (pAt (eC (.int 1))) pNo) aNil))) (l:=[some (.ref o),some (.ref (b + c)),some pd,some (.lst gds),some (.tup [.ref (bg + c),.ref sr]),some (.ref (bg + c)),some (.ref sr),some (.tup [.str "times", .lst (zabb (2 * c) (zadC (2 * c) t))]),some (splD tag nds ps)]) O5 zau6
         have cf:cutD gds (some 1) none=gds.drop 1:=zarE gds 1
         have esl:eSl (eV 3) (pAt (eC (.int 1))) pNo [some (.ref o),some (.ref (b + c)),some pd,some (.lst gds),some (.tup [.ref (bg + c),.ref sr]),some (.ref (bg + c)),some (.ref sr),some (.tup [.str "times", .lst (zabb (2 * c) (zadC (2 * c) t))]),some (splD tag nds ps)] h5=some (.lst (gds.drop 1),h5):=by
          simp [cf,seqL]
         rw [zaeE]
         simp only [zabC,q_fn,List.length_cons,List.length_nil,if_true,List.map_cons,List.map_nil,Nat.reduceAdd,Nat.reduceSub,List.replicate,List.cons_append,List.nil_append,zaaC,zaaH,zaaL,zaas,zaaw,q_eV,List.getElem?_cons_zero,List.getElem?_cons_succ,zaae,zaaf,List.append_nil,e1,List.set_cons_succ,List.set_cons_zero,zaaB,q_e2,q_eC,zaaZ,zaa9,zadb,Option.map_some,zaa7,q_tB,zahc,nn_n,nn_r,zaaK,Bool.false_eq_true,if_false,zabs,q_F1,nl,u1,g2,zakO,fl1,eb,et,zadW,t_r,es,nn,fm,fM,o_ge,dg,zapF,zado,m1,sf,zaaN,zamz,mt,esl,e6,zaaI]
    · have U3:Up h2 h3:=zasB fr
      have UU:Up h h3:=U1.trans (U2.trans U3)
      refine ⟨.tup [.str "clash", .tup [.str "ring", .ref sr,.ref r]],h3,.clash (.ring st cs PP k),made,?_,.inr ⟨st,g',EN,.inl ⟨cs,PP,k,R,rfl,rfl⟩⟩,⟨_,rfl,?_⟩,UU.l,O2.up U3⟩
      · rw [zaeE]
        simp only [zabC,q_fn,List.length_cons,List.length_nil,if_true,List.map_cons,List.map_nil,Nat.reduceAdd,Nat.reduceSub,List.replicate,List.cons_append,List.nil_append,zaaC,zaaH,zaaL,zaas,zaaw,q_eV,List.getElem?_cons_zero,List.getElem?_cons_succ,zaae,zaaf,List.append_nil,e1,List.set_cons_succ,List.set_cons_zero,zaaB,q_e2,q_eC,zaaZ,zaa9,zadb,Option.map_some,zaa7,q_tB,zahc,nn_n,nn_r,zaaK,Bool.false_eq_true,if_false,zabs,q_F1,nl,u1,g2,zakO,fl1,eb,et,zadW,decide_true,zaaN,zab2,sz2,sz3,zacI,zaaI]
      · show TrAt h.length h3 (.ring st cs PP k) _
        simp only [TrAt]
        refine ⟨sr,r,rfl,r1,?_,(U2.trans U3).get r4,hr⟩
        have:=(U1.trans U2).1
        omega
end G
namespace G
open PySem PySem.Spec PyProof.Rows L2 SM BF
theorem zaqY {c:Nat} (hc:c<=8) {f:NetF} (of:zaaX c f):∃ st,(∃ g,Steps c f st g/\zabt c g=true)\/(∃ g,EndN c f st g):=by
 have N:=zadm [] c f
 have hl:=zaf8 c c
 have hcc:c * c<=8 * 8:=Nat.mul_le_mul hc hc
 obtain ⟨d,h1,e1,x,sr,st,g,rfl,r1,r2,r3,r4,r5,r6,r7⟩:=zahd (show c<=100 by omega) of N (pd:=.lst ((zaat c).map zaao)) (P:=zaat c) (fun e=>rfl) (fun p hp=>by
  obtain ⟨q1,q2⟩:=mem_pairs.mp hp
  omega) (zalM c f) (by unfold zaat; omega)
 rcases r7 with ⟨rfl,em⟩ | ⟨bg,rfl,bl,Ng,cl,ne,_⟩
 · exact ⟨st,.inl ⟨g,r5,em⟩⟩
 · exact ⟨st,.inr ⟨_,g,r5,cl,ne,rfl⟩⟩
theorem zaoG {c m:Nat} {ls:List Ln} (hc1:1<=c) (hc:c<=8) (hl:ls.length<=100) (lok:∀ x ∈ ls,x.1 < c):∀ (n:Nat) (f:NetF) (gs:List (List Mem)) (made:Nat),zaaX c f->GrpsOk c gs->made<=m->m + 1<=made + n->∃ a s,zabA c m ls n f gs made a s:=by
 intro n
 induction n with
 | zero=>intro f gs made _ _ h1 h2; omega
 | succ n ih=>
  intro f gs made of og h1 h2
  obtain ⟨st,⟨g,s,em⟩ | ⟨g,EN⟩⟩:=zaqY hc of
  · exact ⟨_,_,.inl ⟨st,g,s,em,rfl,rfl⟩⟩
  · obtain ⟨okg,clg,neg⟩:=EN.ok of
    rcases zam0 (n:=2 * c) (a:=0) (by omega) (by omega) (zadl c g ls) (zaom g lok) (zanm hc g hl) [.lst ((zadl c g ls).map trip)] rfl with ⟨t,h3,sat,fr,et⟩ | ⟨cs,PP,k,r,h3,R,fr,hr,et,rl⟩
    · cases sp:zacV c g gs with
      | none=>exact ⟨_,_,.inr ⟨st,g,EN,.inr ⟨t,sat,.inl ⟨sp,rfl,rfl⟩⟩⟩⟩
      | some v=>
       obtain ⟨tag,bs,ps⟩:=v
       by_cases lm:m<=made
       · exact ⟨_,_,.inr ⟨st,g,EN,.inr ⟨t,sat,.inr ⟨tag,bs,ps,sp,.inl ⟨lm,rfl,rfl⟩⟩⟩⟩⟩
       · have bok:=zaj4 okg og sp
         have go:∀ (bs:List NetF),(∀ b ∈ bs,zaaX c b)->∀ (md:Nat) (acc:List Tr),md<=m->m + 1<=md + n->∃ a s,BrsP (zabA c m ls n) tag st gs.tail bs md acc a s:=by
          intro bs
          induction bs with
          | nil=>intro _ md acc _ _; exact ⟨_,_,rfl,rfl⟩
          | cons b bs ih2=>
           intro hb md acc m1 m2
           obtain ⟨a,s,q⟩:=ih b gs.tail md (hb b (by simp)) og.tail m1 m2
           obtain ⟨z1,z2,_⟩:=zagF n b _ md _ _ q
           have z3:=z2 m1
           cases a with
           | clash tr=>
            obtain ⟨a',s',q'⟩:=ih2 (fun x hx=>hb x (by simp [hx])) s (acc++[tr]) z3 (by omega)
            exact ⟨a',s',.inl ⟨tr,s,q,q'⟩⟩
           | opn=>exact ⟨_,_,.inr ⟨(fun z=>by cases z),q⟩⟩
           | laid t=>exact ⟨_,_,.inr ⟨(fun z=>by cases z),q⟩⟩
         obtain ⟨a,s,q⟩:=go bs bok (made + 1) [] (by omega) (by omega)
         exact ⟨a,s,.inr ⟨st,g,EN,.inr ⟨t,sat,.inr ⟨tag,bs,ps,sp,.inr ⟨by omega,q⟩⟩⟩⟩⟩
    · exact ⟨_,_,.inr ⟨st,g,EN,.inl ⟨cs,PP,k,R,rfl,rfl⟩⟩⟩
noncomputable def wdD:Wd->Dt
 | .opn=>.str "open"
 | .laid=>.str "laid"
 | .clash=>.str "clash"
structure Facts (c:Nat) (h:HI) (a:Nat) (fs:List Fact):Prop where
 ds:∃ ds,h[a]?=some (.lst ds)/\FactsAt h ds fs
 ok:∀ x ∈ fs,zagX c x
 sg:∀ x ∈ zaej fs,x.length<=1000
 len:fs.length<=100
theorem zagc:∀ fs:List Fact,(zab6 fs).length<=fs.length
 | []=>Nat.le_refl _
 | .long x::fs=>by have:=zagc fs; simp only [zab6,List.length_cons]; omega
 | .ways x::fs=>by have:=zagc fs; simp only [zab6,List.length_cons]; omega
 | .one x::fs=>by have:=zagc fs; simp only [zab6,List.length_cons]; omega
theorem zagO {c:Nat}:∀ fs:List Fact,(∀ x ∈ fs,zagX c x)->∀ x ∈ zab6 fs,x.1 < c
 | [],_,x,hx=>nomatch hx
 | .long y::fs,h,x,hx=>by
  simp only [zab6,List.mem_cons] at hx
  rcases hx with rfl | hx
  · exact h (.long x) (by simp)
  · exact zagO fs (fun z hz=>h z (by simp [hz])) x hx
 | .ways y::fs,h,x,hx=>zagO fs (fun z hz=>h z (by simp [hz])) x hx
 | .one y::fs,h,x,hx=>zagO fs (fun z hz=>h z (by simp [hz])) x hx
theorem zagE {c:Nat}:∀ fs:List Fact,(∀ x ∈ fs,zagX c x)->GrpsOk c (zaej fs)
 | [],_,x,hx=>nomatch hx
 | .one y::fs,h,x,hx=>by
  simp only [zaej,List.mem_cons] at hx
  rcases hx with rfl | hx
  · exact h (.one x) (by simp)
  · exact zagE fs (fun z hz=>h z (by simp [hz])) x hx
 | .ways y::fs,h,x,hx=>zagE fs (fun z hz=>h z (by simp [hz])) x hx
 | .long y::fs,h,x,hx=>zagE fs (fun z hz=>h z (by simp [hz])) x hx
noncomputable def zape (c m:Nat) (fs:List Fact) (n:Nat) (a:Ans) (s:Nat):Prop:=zabA c m (zab6 fs) n (zab7 zaca fs) (zaej fs) 0 a s
theorem zavH {h:HI} (ls:List Ln) (m:Nat):zacH [.ref h.length,.lst (ls.map lenD),.int (m:Nat)] (h++[.ins "Search" []])=some (.non,h++[.ins "Search" [("lengths", .lst (ls.map lenD)),("most", .int (m:Nat)),("made", .int ((0:Nat):Int))]]):=by
 have n1:¬ ((("lengths" : Str))=(("most" : Str))):=by decide +kernel
 have n2:¬ ((("lengths" : Str))=(("made" : Str))):=by decide +kernel
 have n3:¬ ((("most" : Str))=(("made" : Str))):=by decide +kernel
 have p1:putD "lengths" (.lst (ls.map lenD)) []=([("lengths", .lst (ls.map lenD))]:List (Str × Dt)):=rfl
 have p2:putD "most" (.int (m:Nat)) [("lengths", .lst (ls.map lenD))]=([("lengths", .lst (ls.map lenD)),("most", .int (m:Nat))]:List (Str × Dt)):=by simp only [putD,if_neg n1]
 have p3:putD "made" (.int 0) [("lengths", .lst (ls.map lenD)),("most", .int (m:Nat))]=([("lengths", .lst (ls.map lenD)),("most", .int (m:Nat)),("made", .int 0)]:List (Str × Dt)):=by simp only [putD,if_neg n2,if_neg n3]
 have s1:=zaho (h:=h++[.ins "Search" []]) (n:=h.length) (x := "Search") (k := "lengths") (v:=.lst (ls.map lenD)) (l:=[some (.ref h.length),some (.lst (ls.map lenD)),some (.int (m:Nat))]) (fs:=[]) (by simp) (by simp)
 have s2:=zaho (h:=h++[.ins "Search" [("lengths", .lst (ls.map lenD))]]) (n:=h.length) (x := "Search") (k := "most") (v:=.int (m:Nat)) (l:=[some (.ref h.length),some (.lst (ls.map lenD)),some (.int (m:Nat))]) (fs:=[("lengths", .lst (ls.map lenD))]) (by simp) (by simp)
 have s3:=zaho (h:=h++[.ins "Search" [("lengths", .lst (ls.map lenD)),("most", .int (m:Nat))]]) (n:=h.length) (x := "Search") (k := "made") (v:=.int 0) (l:=[some (.ref h.length),some (.lst (ls.map lenD)),some (.int (m:Nat))]) (fs:=[("lengths", .lst (ls.map lenD)),("most", .int (m:Nat))]) (by simp) (by simp)
 rw [p1] at s1
 rw [p2] at s2
 rw [p3] at s3
 have hs:∀ x y:Ob,(h++[x]).set h.length y=h++[y]:=fun x y=>by simp
 rw [hs] at s1 s2 s3
 simp only [zacH,zady,q_fn,List.length_cons,List.length_nil,if_true,List.map_cons,List.map_nil,Nat.reduceAdd,Nat.reduceSub,List.replicate,List.append_nil,zaaC,zapF,q_eV,q_eC,List.getElem?_cons_zero,List.getElem?_cons_succ,zaae,zaaf,s1,zaaB,s2,s3,zat6]
 rfl
theorem zal0 {c m:Nat} (hc1:1<=c) (hc:c<=8) {h:HI} {a:Nat} {fs:List Fact} (F:Facts c h a fs) (ex:∃ A s,zape c m fs 12 A s) :
 ∃ A s x h',zape c m fs 12 A s/\zabx [.int (c:Nat),.ref a,.int (m:Nat)] h=some (.tup [wdD A.wd,x,.int (s:Nat)],h')/\AnsAt h.length h' c A (.tup [wdD A.wd,x])/\UpL h h':=by
 obtain ⟨ds,ha,D⟩:=F.ds
 have dl:=D.len
 have fl:=F.len
 have hz:ds.length < sizeLine:=by rw [dl]; simp [sizeLine]; omega
 have eL:=zanG ha hz D
 obtain ⟨h1,hh1⟩:∃ h1:HI,h1=h++[.ins "Search" [("lengths", .lst ((zab6 fs).map lenD)),("most", .int (m:Nat)),("made", .int ((0:Nat):Int))]]:=⟨_,rfl⟩
 have ei:=zavH (h:=h) (zab6 fs) m
 rw [<- hh1] at ei
 have U1:Up h h1:=hh1 ▸ Up.app _ _
 have O1:SObj h1 h.length (zab6 fs) m 0:=by unfold SObj; rw [hh1]; simp
 obtain ⟨b,h2,eN,N2,U2⟩:=zanX (show c<=1000 by omega) (U1.get ha) (D.up U1.l) F.ok
 have eP:=zah9 (show c<=1000 by omega) h2
 obtain ⟨h3,hh3⟩:∃ h3:HI,h3=h2++[.lst ((zaat c).map zaao)]:=⟨_,rfl⟩
 rw [<- hh3] at eP
 have U3:Up h2 h3:=hh3 ▸ Up.app _ _
 have UU:Up h h3:=U1.trans (U2.trans U3)
 obtain ⟨gds,GA,eG⟩:=zanR (UU.get ha) hz (D.up UU.l)
 have pl:=zaf8 c c
 have hcc:c * c<=8 * 8:=Nat.mul_le_mul hc hc
 obtain ⟨d,h',A,s,e,L,AN,U4,O4⟩:=zauN (m:=m) hc1 hc (show (zab6 fs).length<=100 by have:=zagc fs; omega) (zagO fs F.ok) 12 (zab7 zaca fs) (zaej fs) gds 0 b h.length (.ref h2.length) (zaat c) h3
  ⟨ex,zaeC fs F.ok _ (zakV c),zagE fs F.ok,F.sg,U3.net N2,GA,.inr ⟨h2.length,rfl,by rw [hh3]; simp⟩,(fun p hp=>by obtain ⟨q1,q2⟩:=mem_pairs.mp hp; omega),zalM c _,by unfold zaat; omega,(O1.up U2).up U3⟩
 have lo:h.length<=h3.length:=UU.1
 have fm:=zah3 (x := "Search") (k := "made") O4 (zap0)
 have mt:=zaiZ (h:=h1) (x := "Search") (m := "look") (F:=zabw 12) (ga:=zaac (zaav zad5 [] (zaac (eV 0) (zaac (eV 1) aNil))) (zaac (zaav zadk [] (zaac (eV 0) aNil)) (zaac (zaav zad7 [] (zaac (eV 1) aNil)) aNil))) (l:=[some (.int (c:Nat)),some (.ref a),some (.int (m:Nat)),some (.ref h.length),none]) O1 zan4
 obtain ⟨x,hx⟩:∃ x,d=.tup [wdD A.wd,x]:=by
  cases A with
  | opn=>exact ⟨_,AN⟩
  | laid t=>exact ⟨_,AN⟩
  | clash tr=>obtain ⟨x,e,_⟩:=AN; exact ⟨x,e⟩
 subst hx
 refine ⟨A,s,x,h',L,?_,AN.up lo (fun k xs hk hx=>hx),(UU.l).trans U4⟩
 simp only [zabx,zahk,q_fn,List.length_cons,List.length_nil,if_true,List.map_cons,List.map_nil,Nat.reduceAdd,Nat.reduceSub,List.replicate,List.cons_append,List.nil_append,zaaC,zaaH,zauz,zaaL,zaas,zaaw,q_eV,List.getElem?_cons_zero,List.getElem?_cons_succ,zaae,zaaf,List.append_nil,eL,ei,zap8,List.set_cons_succ,List.set_cons_zero,zaaB,zamz,mt,eN,eP,eG,e,zaaN,zab2,q_e2,q_eC,zaaZ,zaa9,zadb,Option.map_some,zakO,fm,sz3,zaaI]
end G
namespace G
open PySem PySem.Spec PyProof.Rows L2 SM BF
theorem zanY (x f:Int) (h:HI):zacs [.int x,.int f] h=some (.int ((x % 2147483647 + 11) * f % 2147483629),h):=by
 have c:CMul (x % 2147483647 + 11) f:=Or.inl ⟨by omega,by omega⟩
 have d1:=fun (i:Int) (h:HI)=>zadz (h:=h) (i:=i) (show (0:Int) < 2147483647 by decide)
 have d2:=fun (i:Int) (h:HI)=>zadz (h:=h) (i:=i) (show (0:Int) < 2147483629 by decide)
 have d3:=fun (h:HI)=>zafR (h:=h) c
 simp only [zacs,zafa,q_fn,List.length_cons,List.length_nil,if_true,List.map_cons,List.map_nil,List.replicate,List.cons_append,List.nil_append,zaaN,q_e2,q_eV,q_eC,List.getElem?_cons_zero,List.getElem?_cons_succ,zaae,zaaf,d1,d2,d3,zado,zaaI]
theorem zasn (ns:List Int) (lo hi:Option Int):∃ ms:List Int,cutD (ns.map Dt.int) lo hi=ms.map Dt.int/\ms.length<=ns.length:=by
 unfold SM.cutD
 rw [<- List.map_drop,<- List.map_take]
 refine ⟨_,rfl,?_⟩
 rw [List.length_take,List.length_drop]
 omega
end G
namespace G
open PySem PySem.Spec PyProof.Rows L2 SM
theorem zanB (ns:List Int) (k:Nat) (h:HI):zacg [.lst (ns.map Dt.int),.int (k:Int)] h=some (.int (ns[k]?.getD 0),h):=by
 simp [zacg,zaet]
 by_cases hk:k < ns.length
 · simp [hk]
 · simp [hk]
end G
namespace G
open PySem PySem.Spec PyProof.Rows L2 SM
theorem zan2 (i:Int) (h:HI):zaeg [.int i] h=some (.bl true,h):=by simp [zaeg,zae7]
end G
namespace G
open PySem PySem.Spec PyProof.Rows L2 SM BF
theorem zauk {c:Nat} (hc2:2<=c) (n k:Nat):∃ i j:Nat,i < c/\j < c/\i ≠ j/\((n:Int) % (c:Int))=(i:Int)/\((i:Int) + 1 + (n:Int) / (k:Int) % ((c:Int) - 1)) % (c:Int)=(j:Int):=by
 refine ⟨n % c,(n % c + 1 + n / k % (c - 1)) % c,Nat.mod_lt _ (by omega),Nat.mod_lt _ (by omega),?_,by simp,?_⟩
 · have t:n / k % (c - 1) < c - 1:=Nat.mod_lt _ (by omega)
   have hi:n % c < c:=Nat.mod_lt _ (by omega)
   generalize n / k % (c - 1)=q at t
   generalize n % c=i at hi
   by_cases w:i + 1 + q < c
   · rw [Nat.mod_eq_of_lt w]; omega
   · rw [Nat.mod_eq_sub_mod (by omega),Nat.mod_eq_of_lt (by omega)]; omega
 · rw [show (c:Int) - 1=((c - 1:Nat):Int) by omega]
   simp
theorem zao0 {a b:Nat} (ha:a < 8192) (hb:b < 8192):a ||| b < 8192:=Nat.or_lt_two_pow (n:=13) ha hb
theorem zamg {k:Nat} (h:k < 13):2 ^ k < 8192:=Nat.pow_lt_pow_right (by decide) h (m:=k) (n:=13)
theorem zakl {c:Nat} (hc2:2<=c) (hc:c<=100) (N:Nat) {sty:Nat} (hs:sty<=3) (h:HI):∃ m,zafT c m/\zabq [.int (N:Nat),.int (c:Nat),.int (sty:Nat)] h=some (memD m,h):=by
 obtain ⟨i,j,hi,hj,hij,e1,e2'⟩:=zauk hc2 N 8
 simp only [Int.cast_ofNat_Int] at e2'
 have mc:=fun (x:Int) (h:HI)=>zadz (h:=h) (i:=x) (show (0:Int) < (c:Int) by omega)
 have mc1:=fun (x:Int) (h:HI)=>zadz (h:=h) (i:=x) (show (0:Int) < (c:Int) - 1 by omega)
 have m13:=fun (x:Int) (h:HI)=>zadz (h:=h) (i:=x) (show (0:Int) < 13 by decide)
 have m8:=fun (x:Int) (h:HI)=>zadz (h:=h) (i:=x) (show (0:Int) < 8192 by decide)
 have d8:=fun (i:Int) (h:HI)=>zagy (h:=h) (i:=i) (j:=8) ⟨by decide,by decide⟩
 have d64:=fun (i:Int) (h:HI)=>zagy (h:=h) (i:=i) (j:=64) ⟨by decide,by decide⟩
 have d7:=fun (i:Int) (h:HI)=>zagy (h:=h) (i:=i) (j:=7) ⟨by decide,by decide⟩
 have d13:=fun (i:Int) (h:HI)=>zagy (h:=h) (i:=i) (j:=13) ⟨by decide,by decide⟩
 have d169:=fun (i:Int) (h:HI)=>zagy (h:=h) (i:=i) (j:=169) ⟨by decide,by decide⟩
 have eR:(N:Int) / 64=((N / 64:Nat):Int):=by omega
 generalize N / 64=r at eR
 have k1:(r:Int) % 13=((r % 13:Nat):Int):=by omega
 have k2:(r:Int) / 13 % 13=((r / 13 % 13:Nat):Int):=by omega
 have k3:(r:Int) / 169 % 13=((r / 169 % 13:Nat):Int):=by omega
 have k4:(r:Int) % 8192=((r % 8192:Nat):Int):=by omega
 have k5:(r:Int) / 7 % 8192=((r / 7 % 8192:Nat):Int):=by omega
 have b1:r % 13 < 13:=Nat.mod_lt _ (by decide)
 have b2:r / 13 % 13 < 13:=Nat.mod_lt _ (by decide)
 have b3:r / 169 % 13 < 13:=Nat.mod_lt _ (by decide)
 have b4:r % 8192 < 8192:=Nat.mod_lt _ (by decide)
 have b5:r / 7 % 8192 < 8192:=Nat.mod_lt _ (by decide)
 generalize r % 13=w1 at k1 b1
 generalize r / 13 % 13=w2 at k2 b2
 generalize r / 169 % 13=w3 at k3 b3
 generalize r % 8192=u1 at k4 b4
 generalize r / 7 % 8192=u2 at k5 b5
 have s1:=fun h=>zakp (h:=h) (cShl b1)
 have s2:=fun h=>zakp (h:=h) (cShl b2)
 have s3:=fun h=>zakp (h:=h) (cShl b3)
 have pw:∀ w:Nat,(1:Int) * 2 ^ w=((2 ^ w:Nat):Int):=fun w=>by simp
 have sb:(8191:Int) - ((2 ^ w1:Nat):Int)=((8191 - 2 ^ w1:Nat):Int):=by have:=zamg b1; omega
 have sz4:4<=sizeLine:=by decide
 let fin:Nat->Mem:=fun mm=>(i,mm,j)
 have mk:∀ mm,mm < 8192->zafT c (fin mm):=fun mm hm=>⟨hi,hj,hij,hm⟩
 have p1:=zamg b1
 have p2:=zamg b2
 have p3:=zamg b3
 have Q:∀ a b:Nat,decide (((a:Nat):Int)=(b:Int))=decide (a=b):=fun a b=>by
  by_cases z:a=b
  · rw [decide_eq_true z,decide_eq_true (by omega)]
  · rw [decide_eq_false z,decide_eq_false (by omega)]
 rcases (show sty=0\/sty=1\/sty=2\/sty=3 by omega) with rfl | rfl | rfl | rfl
 · refine ⟨fin (8191 - 2 ^ w1),mk _ (Nat.lt_of_le_of_lt (Nat.sub_le _ _) (by decide)),?_⟩
   simp only [zabq,zabZ,q_fn,List.length_cons,List.length_nil,if_true,List.map_cons,List.map_nil,Nat.reduceAdd,Nat.reduceSub,List.replicate,List.cons_append,List.nil_append,zaaC,zaaH,q_e2,q_eV,q_eC,List.getElem?_cons_zero,List.getElem?_cons_succ,zaae,zaaf,mc,e1,List.set_cons_succ,List.set_cons_zero,zaaB,zado,zagz,d8,mc1,e2',d64,eR,m13,k1,s1,Int.toNat_natCast,pw,sb,zaa7,q_tB,o_eq,zaaK,show decide ((((0:Nat):Int))=1)=false from rfl,show decide ((((0:Nat):Int))=2)=false from rfl,show decide ((((0:Nat):Int))=3)=false from rfl,Bool.false_eq_true,if_false,zabs,zaaN,zab2,zaas,zaaw,sz4,zaaI]
   rfl
 · refine ⟨fin (u1 ||| u2),mk _ (zao0 b4 b5),?_⟩
   simp only [zabq,zabZ,q_fn,List.length_cons,List.length_nil,if_true,List.map_cons,List.map_nil,Nat.reduceAdd,Nat.reduceSub,List.replicate,List.cons_append,List.nil_append,zaaC,zaaH,q_e2,q_eV,q_eC,List.getElem?_cons_zero,List.getElem?_cons_succ,zaae,zaaf,mc,e1,List.set_cons_succ,List.set_cons_zero,zaaB,zado,zagz,d8,mc1,e2',d64,eR,m13,k1,s1,Int.toNat_natCast,pw,sb,zaa7,q_tB,o_eq,zaaK,show decide ((((1:Nat):Int))=1)=true from rfl,show decide ((((1:Nat):Int))=2)=false from rfl,show decide ((((1:Nat):Int))=3)=false from rfl,m8,k4,d7,k5,zast,zak7,Bool.false_eq_true,if_false,zabs,zaaN,zab2,zaas,zaaw,sz4,zaaI]
   rfl
 · refine ⟨fin (2 ^ w1 ||| 2 ^ w2 ||| 2 ^ w3),mk _ (zao0 (zao0 p1 p2) p3),?_⟩
   simp only [zabq,zabZ,q_fn,List.length_cons,List.length_nil,if_true,List.map_cons,List.map_nil,Nat.reduceAdd,Nat.reduceSub,List.replicate,List.cons_append,List.nil_append,zaaC,zaaH,q_e2,q_eV,q_eC,List.getElem?_cons_zero,List.getElem?_cons_succ,zaae,zaaf,mc,e1,List.set_cons_succ,List.set_cons_zero,zaaB,zado,zagz,d8,mc1,e2',d64,eR,m13,k1,s1,Int.toNat_natCast,pw,sb,zaa7,q_tB,o_eq,zaaK,show decide ((((2:Nat):Int))=1)=false from rfl,show decide ((((2:Nat):Int))=2)=true from rfl,show decide ((((2:Nat):Int))=3)=false from rfl,d13,k2,s2,d169,k3,s3,zast,zak7,Bool.false_eq_true,if_false,zabs,zaaN,zab2,zaas,zaaw,sz4,zaaI]
   rfl
 · refine ⟨fin u1,mk _ b4,?_⟩
   simp only [zabq,zabZ,q_fn,List.length_cons,List.length_nil,if_true,List.map_cons,List.map_nil,Nat.reduceAdd,Nat.reduceSub,List.replicate,List.cons_append,List.nil_append,zaaC,zaaH,q_e2,q_eV,q_eC,List.getElem?_cons_zero,List.getElem?_cons_succ,zaae,zaaf,mc,e1,List.set_cons_succ,List.set_cons_zero,zaaB,zado,zagz,d8,mc1,e2',d64,eR,m13,k1,s1,Int.toNat_natCast,pw,sb,zaa7,q_tB,o_eq,zaaK,show decide ((((3:Nat):Int))=1)=false from rfl,show decide ((((3:Nat):Int))=2)=false from rfl,show decide ((((3:Nat):Int))=3)=true from rfl,m8,k4,Bool.false_eq_true,if_false,zabs,zaaN,zab2,zaas,zaaw,sz4,zaaI]
   rfl
end G
namespace G
open PySem PySem.Spec PyProof.Rows L2 SM BF
noncomputable def FactLo (lo:Nat) (h:HI) (d:Dt):Fact->Prop
 | .one g=>∃ n,d=.tup [.str "one", .ref n]/\lo<=n/\h[n]?=some (.lst (g.map memD))/\g.length<=6
 | f=>FactAt h d f
theorem FactLo.at {lo:Nat} {h:HI} {d:Dt} {f:Fact} (q:FactLo lo h d f):FactAt h d f:=by
 cases f with
 | one g=>obtain ⟨n,e,_,q,_⟩:=q; exact ⟨_,e,n,rfl,q⟩
 | ways m=>exact q
 | long x=>exact q
theorem FactLo.up {lo lo':Nat} (hl:lo'<=lo) {h h':HI} (u:UpF lo h h') {d:Dt} {f:Fact} (q:FactLo lo h d f):FactLo lo' h' d f:=by
 cases f with
 | one g=>obtain ⟨n,e,l,q,s⟩:=q; exact ⟨n,e,by omega,u _ _ l q,s⟩
 | ways m=>exact q
 | long x=>exact q
inductive FactsLo (lo:Nat) (h:HI):List Dt->List Fact->Prop where
 | nil:FactsLo lo h [] []
 | cons {d:Dt} {f:Fact} {ds:List Dt} {fs:List Fact} (a:FactLo lo h d f) (r:FactsLo lo h ds fs):FactsLo lo h (d::ds) (f::fs)
theorem FactsLo.up {lo lo':Nat} (hl:lo'<=lo) {h h':HI} (u:UpF lo h h') {ds:List Dt} {fs:List Fact} (q:FactsLo lo h ds fs):FactsLo lo' h' ds fs:=by
 induction q with
 | nil=>exact .nil
 | cons a r ih=>exact .cons (a.up hl u) ih
theorem FactsLo.at {lo:Nat} {h:HI} {ds:List Dt} {fs:List Fact} (q:FactsLo lo h ds fs):FactsAt h ds fs:=by
 induction q with
 | nil=>exact .nil
 | cons a r ih=>exact .cons a.at ih
theorem FactsLo.snoc {lo:Nat} {h:HI} {ds:List Dt} {fs:List Fact} (q:FactsLo lo h ds fs) {d:Dt} {f:Fact} (a:FactLo lo h d f):FactsLo lo h (ds++[d]) (fs++[f]):=by
 induction q with
 | nil=>exact .cons a .nil
 | cons b r ih=>exact .cons b ih
theorem FactsLo.sizes {lo:Nat} {h:HI} {ds:List Dt} {fs:List Fact} (q:FactsLo lo h ds fs):∀ x ∈ zaej fs,x.length<=6:=by
 induction q with
 | nil=>intro x hx; cases hx
 | @cons d f ds fs a r ih=>
  cases f with
  | one g=>
   obtain ⟨n,_,_,_,s⟩:=a
   intro x hx
   simp only [zaej,List.mem_cons] at hx
   rcases hx with rfl | hx
   · exact s
   · exact ih x hx
  | ways m=>exact ih
  | long x=>exact ih
end G
namespace G
open PySem PySem.Spec PyProof.Rows L2 SM BF
theorem zaoy {c:Nat} (hc2:2<=c) (hc:c<=100) (cell:Int) {sty:Nat} (hs:sty<=2) (room:Int) (h:HI):∃ d h' f,zabJ [.int cell,.int (c:Nat),.int (sty:Nat),.int room] h=some (d,h')/\FactLo h.length h' d f/\zagX c f/\Up h h':=by
 obtain ⟨N,hN⟩:=Int.eq_ofNat_of_zero_le (Int.emod_nonneg ((cell % 2147483647 + 11) * 16807) (show (2147483629:Int) ≠ 0 by decide))
 have N2:(N:Int) < 2147483629:=by rw [<- hN]; exact Int.emod_lt_of_pos _ (by decide)
 have em:∀ h,zacs [.int cell,.int 16807] h=some (.int (N:Nat),h):=fun h=>by rw [zanY,hN]
 obtain ⟨M,hM⟩:∃ M:Int,(cell % 2147483647 + 11) * 69621 % 2147483629=M:=⟨_,rfl⟩
 have em2:∀ h,zacs [.int cell,.int 69621] h=some (.int M,h):=fun h=>by rw [zanY,hM]
 have d16:=fun (i:Int) (h:HI)=>zagy (h:=h) (i:=i) (j:=16) ⟨by decide,by decide⟩
 have d8:=fun (i:Int) (h:HI)=>zagy (h:=h) (i:=i) (j:=8) ⟨by decide,by decide⟩
 have d56:=fun (i:Int) (h:HI)=>zagy (h:=h) (i:=i) (j:=56) ⟨by decide,by decide⟩
 have m8:=fun (x:Int) (h:HI)=>zadz (h:=h) (i:=x) (show (0:Int) < 8 by decide)
 have m3:=fun (x:Int) (h:HI)=>zadz (h:=h) (i:=x) (show (0:Int) < 3 by decide)
 have m7:=fun (x:Int) (h:HI)=>zadz (h:=h) (i:=x) (show (0:Int) < 7 by decide)
 have m5:=fun (x:Int) (h:HI)=>zadz (h:=h) (i:=x) (show (0:Int) < 5 by decide)
 have mc:=fun (x:Int) (h:HI)=>zadz (h:=h) (i:=x) (show (0:Int) < (c:Int) by omega)
 have sz4:4<=sizeLine:=by decide
 generalize hk:M / 16 % 8=kd
 by_cases z0:kd=0/\0 < room
 · obtain ⟨z0,z1⟩:=z0
   obtain ⟨t,ht⟩:∃ t:Nat,1 + (N:Int) % 3=(t:Int):=⟨(1 + (N:Int) % 3).toNat,by omega⟩
   have t6:t<=6:=by omega
   have er:=fun h=>zadE (h:=h) (show (-(2 ^ 62):Int)<=(t:Int) by omega) (show (t:Int) < 2 ^ 62 by omega)
   simp only [Int.toNat_natCast] at er
   have s2:(3:Int) - (sty:Int) % 2=((3 - sty % 2:Nat):Int):=by omega
   have m2:=fun (x:Int) (h:HI)=>zadz (h:=h) (i:=x) (show (0:Int) < 2 by decide)
   have mq:=fun (x:Int) (h:HI)=>zadz (h:=h) (i:=x) (show (0:Int) < 2147483587 by decide)
   obtain ⟨l',h',e,y,g,rfl,rfl,gok,gl⟩:=zafh (i:=7) (body:=zadB) (fun (k:Nat)=>Dt.int (k:Int)) (fun k l h'=>∃ y g,l=[some (.int cell),some (.int (c:Nat)),some (.int (sty:Nat)),some (.int room),some (.int (N:Nat)),some (.int kd),some (.ref h.length),y,none]/\h'=h++[.lst (g.map memD)]/\(∀ m ∈ g,zafT c m)/\g.length=k) t (by
    rintro k hkt l h' ⟨y,g,rfl,rfl,gok,gl⟩
    have u1:=fun (h:HI)=>zafR (h:=h) (i:=2) (j:=(k:Int)) (Or.inl ⟨by decide,by decide⟩)
    have u2:=fun (h:HI)=>zafR (h:=h) (i:=2 * (k:Int)) (j:=(k:Int)) (Or.inl ⟨by omega,by omega⟩)
    have u3:=fun (x:Int) (h:HI)=>zafR (h:=h) (i:=(N:Int)) (j:=x) (Or.inl ⟨by omega,by omega⟩)
    obtain ⟨v,hv⟩:=Int.eq_ofNat_of_zero_le (Int.emod_nonneg ((N:Int) * (69621 + 2 * (k:Int) * (k:Int))) (show (2147483587:Int) ≠ 0 by decide))
    obtain ⟨mm,mok,ew⟩:=zakl hc2 hc v (show 3 - sty % 2<=3 by omega) (h++[.lst (g.map memD)])
    have dh:(h++[Ob.lst (g.map memD)])[h.length]?=some (.lst (g.map memD)):=by simp
    have ap:=zadv (l:=[some (.int cell),some (.int (c:Nat)),some (.int (sty:Nat)),some (.int room),some (.int (N:Nat)),some (.int kd),some (.ref h.length),some (.int (k:Nat)),none]) (h:=h++[.lst (g.map memD)]) (g:=zaav zabq [] (zaac (e2 oMod (e2 oMul (eV 4) (e2 oAdd (eC (.int 69621)) (e2 oMul (e2 oMul (eC (.int 2)) (eV 7)) (eV 7)))) (eC (.int 2147483587))) (zaac (eV 1) (zaac (e2 oSub (eC (.int 3)) (e2 oMod (eV 2) (eC (.int 2)))) (aNil))))) (d:=memD mm) dh (by
     simp only [zaaL,zaas,zaaw,q_e2,q_eC,q_eV,List.getElem?_cons_zero,List.getElem?_cons_succ,zaae,zaaf,u1,u2,zado,u3,mq,hv,m2,zagz,s2,List.append_nil,ew]) dh (by simp [sizeLine]; omega)
    have es:(h++[Ob.lst (g.map memD)]).set h.length (.lst (g.map memD++[memD mm]))=h++[.lst ((g++[mm]).map memD)]:=by simp
    rw [es] at ap
    refine ⟨.nx [some (.int cell),some (.int (c:Nat)),some (.int (sty:Nat)),some (.int room),some (.int (N:Nat)),some (.int kd),some (.ref h.length),some (.int (k:Nat)),none] (h++[.lst ((g++[mm]).map memD)]),?_,_,g++[mm],rfl,rfl,fun x hx=>?_,by simp; omega⟩
    · simp only [zadB,zab4,zacA,q_eV,List.set_cons_succ,List.set_cons_zero,List.getElem?_cons_zero,List.getElem?_cons_succ,zaae,zaaf,ap]
    · rcases List.mem_append.mp hx with hx | hx
      · exact gok x hx
      · rw [List.mem_singleton.mp hx]; exact mok) [some (.int cell),some (.int (c:Nat)),some (.int (sty:Nat)),some (.int room),some (.int (N:Nat)),some (.int kd),some (.ref h.length),none,none] (h++[.lst []]) ⟨_,[],rfl,rfl,fun _ h=>(nomatch h),rfl⟩
   refine ⟨.tup [.str "one", .ref h.length],h++[.lst (g.map memD)],.one g,?_,⟨h.length,rfl,Nat.le_refl _,by simp,by omega⟩,gok,Up.app _ _⟩
   have q0:decide (kd=0)=true:=decide_eq_true z0
   have q1:decide (0 < room)=true:=decide_eq_true z1
   simp only [zabJ,zacx,q_fn,List.length_cons,List.length_nil,if_true,List.map_cons,List.map_nil,Nat.reduceAdd,Nat.reduceSub,List.replicate,List.cons_append,List.nil_append,zaaC,zaaH,zaaL,zaas,zaaw,q_e2,q_eV,q_eC,List.getElem?_cons_zero,List.getElem?_cons_succ,zaae,zaaf,List.append_nil,em,em2,List.set_cons_succ,List.set_cons_zero,zaaB,d16,m8,hk,zaa7,zaiQ,q_tB,o_eq,q0,o_gt,q1,zaaK,zaeH,Nat.zero_le,zacX,zakN,m3,zado,ht,er,zadf,e,zaaN,zab2,sz2,zacI,zaaI]
 · have first:∀ (k:Bool × HI->Option Rs) (l:LI) (h:HI),l[5]?=some (some (.int kd))->l[3]?=some (some (.int room))->bnd (zajf (tB' (e2 oEqD (eV 5) (eC (.int 0)))) (tB' (e2 oGt (eV 3) (eC (.int 0)))) l h) k=k (false,h):=by
    intro k l h h5 h3
    by_cases q:kd=0
    · have q1:decide (0 < room)=false:=decide_eq_false (fun z=>z0 ⟨q,z⟩)
      have q0:decide (kd=0)=true:=decide_eq_true q
      simp only [zaiQ,q_tB,q_e2,q_eV,h5,h3,zaae,zaaf,q_eC,o_eq,q0,zaaK,if_true,o_gt,q1]
    · have q0:decide (kd=0)=false:=decide_eq_false q
      simp only [zaiQ,q_tB,q_e2,q_eV,h5,h3,zaae,zaaf,q_eC,o_eq,q0,zaaK,Bool.false_eq_true,if_false]
   by_cases z1:kd=1
   · have hi:N % c < c:=Nat.mod_lt _ (by omega)
     have ei:(N:Int) % (c:Int)=((N % c:Nat):Int):=by simp
     refine ⟨.tup [.str "long", .int ((N % c:Nat):Int),.int ((N:Int) / 8 % 7),.int ((N:Int) / 8 % 7 + (N:Int) / 56 % 5)],h,.long (N % c,(N:Int) / 8 % 7,(N:Int) / 8 % 7 + (N:Int) / 56 % 5),?_,rfl,hi,Up.refl h⟩
     have q1:decide (kd=1)=true:=decide_eq_true z1
     simp only [zabJ,zacx,q_fn,List.length_cons,List.length_nil,if_true,List.map_cons,List.map_nil,Nat.reduceAdd,Nat.reduceSub,List.replicate,List.cons_append,List.nil_append,zaaC,zaaH,zaaL,zaas,zaaw,q_e2,q_eV,q_eC,List.getElem?_cons_zero,List.getElem?_cons_succ,zaae,zaaf,List.append_nil,em,em2,List.set_cons_succ,List.set_cons_zero,zaaB,d16,m8,hk]
     rw [zaa7,first _ _ _ rfl rfl]
     simp only [Bool.false_eq_true,if_false,zabs,zaaf,zaaB,zaaC,zaa7,q_tB,q_e2,q_eV,q_eC,List.getElem?_cons_zero,List.getElem?_cons_succ,zaae,o_eq,q1,zaaK,if_true,zaaH,d8,m7,List.set_cons_succ,List.set_cons_zero,zaaN,zab2,zaas,zaaw,mc,ei,d56,m5,zado,List.length_cons,List.length_nil,Nat.reduceAdd,sz4,zacI,zaaI]
   · obtain ⟨mm,mok,ew⟩:=zakl hc2 hc N (show sty<=3 by omega) h
     refine ⟨memD mm,h,.ways mm,?_,rfl,mok,Up.refl h⟩
     have q1:decide (kd=1)=false:=decide_eq_false z1
     simp only [zabJ,zacx,q_fn,List.length_cons,List.length_nil,if_true,List.map_cons,List.map_nil,Nat.reduceAdd,Nat.reduceSub,List.replicate,List.cons_append,List.nil_append,zaaC,zaaH,zaaL,zaas,zaaw,q_e2,q_eV,q_eC,List.getElem?_cons_zero,List.getElem?_cons_succ,zaae,zaaf,List.append_nil,em,em2,List.set_cons_succ,List.set_cons_zero,zaaB,d16,m8,hk]
     rw [zaa7,first _ _ _ rfl rfl]
     simp only [Bool.false_eq_true,if_false,zabs,zaaf,zaaB,zaaC,zaa7,q_tB,q_e2,q_eV,q_eC,List.getElem?_cons_zero,List.getElem?_cons_succ,zaae,o_eq,q1,zaaK,zaaN,zaaL,zaas,zaaw,List.append_nil,ew,zaaI]
theorem zawt (i:Int) (a b c:Int):∃ z,(z=a\/z=b\/z=c)/\atI [Dt.int a,Dt.int b,Dt.int c] (i % 3)=some (.int z):=by
 rcases (show i % 3=0\/i % 3=1\/i % 3=2 by omega) with h | h | h <;> rw [h]
 · exact ⟨a,.inl rfl,rfl⟩
 · exact ⟨b,.inr (.inl rfl),rfl⟩
 · exact ⟨c,.inr (.inr rfl),rfl⟩
theorem zanN (ns:List Int) (hl:ns.length<=63) {c:Nat} (hc2:2<=c) (hc:c<=100):∃ fs h',Facts c h' 0 fs/\zac1 [.lst (ns.map Dt.int),.int (c:Nat)] []=some (.ref 0,h'):=by
 have c0:=fun h=>zanB ns 0 h
 simp only [Int.cast_ofNat_Int] at c0
 have d3:=fun (i:Int) (h:HI)=>zagy (h:=h) (i:=i) (j:=3) ⟨by decide,by decide⟩
 have m3:=fun (x:Int) (h:HI)=>zadz (h:=h) (i:=x) (show (0:Int) < 3 by decide)
 obtain ⟨up,_,eup⟩:=zawt (ns[0]?.getD 0 / 3) 66 14 10
 obtain ⟨sty,hsty⟩:∃ sty:Nat,ns[0]?.getD (0:Int) / 3 % 3=(sty:Int):=⟨(ns[0]?.getD (0:Int) / 3 % 3).toNat,by omega⟩
 have s2:sty<=2:=by omega
 rw [hsty] at eup
 obtain ⟨ms,ec,hm⟩:=zasn ns (some 6) (some up)
 obtain ⟨l',h',e,y5,y6,ds,fs,rfl,da,FL,ok,len⟩:=zagG (i:=5) (body:=zadi) Dt.int (fun k l h'=>∃ y5 y6 ds fs,l=[some (.lst (ns.map Dt.int)),some (.int (c:Nat)),some (.int (sty:Nat)),some (.int up),some (.ref 0),y5,y6]/\h'[0]?=some (.lst ds)/\FactsLo 1 h' ds fs/\(∀ x ∈ fs,zagX c x)/\fs.length=k) ms 0 (by
  rintro k x hx l h' ⟨y5,y6,ds,fs,rfl,da,FL,ok,len⟩
  rw [Nat.zero_add] at len ⊢
  have kl:k < ms.length:=(List.getElem?_eq_some_iff.mp hx).1
  have F:=FL.at
  have dl:=F.len
  have hz:ds.length < sizeLine:=by rw [dl]; simp [sizeLine]; omega
  have ck:=zai6 (te:=zaeh) (tc:=zadp) isO (fun d _=>d) [none] h' F da hz (by
   intro d f q _
   refine ⟨?_,fun z=>rfl⟩
   unfold zadp
   rw [q_tB,zaso q _ _ 0 rfl]
   rfl)
  obtain ⟨w,hw⟩:∃ w:List Dt,((ds.zip fs).filter fun x=>isO x.2).map (fun x=>x.1)=w:=⟨_,rfl⟩
  rw [hw] at ck
  obtain ⟨d,h2,f,ef,FN,fok,U2⟩:=zaoy hc2 hc x s2 (2 - (w.length:Int)) h'
  have da2:=U2.get da
  have l0:0 < h2.length:=(List.getElem?_eq_some_iff.mp da2).1
  have l1:0 < h'.length:=(List.getElem?_eq_some_iff.mp da).1
  obtain ⟨h3,hh3⟩:∃ h3:HI,h3=h2.set 0 (.lst (ds++[d])):=⟨_,rfl⟩
  have g3:∀ k,k ≠ 0->h3[k]?=h2[k]?:=fun k hk=>by rw [hh3,List.getElem?_set_ne (Ne.symm hk)]
  have ap:=zadv (l:=[some (.lst (ns.map Dt.int)),some (.int (c:Nat)),some (.int (sty:Nat)),some (.int up),some (.ref 0),some (.int x),some (.int (2 - (w.length:Int)))]) (h:=h') (g:=zaav zabJ [] (zaac (eV 5) (zaac (eV 1) (zaac (eV 2) (zaac (eV 6) (aNil)))))) (d:=d) da (by
   simp only [zaaL,zaas,zaaw,q_eV,List.getElem?_cons_zero,List.getElem?_cons_succ,zaae,zaaf,List.append_nil,ef]) da2 hz
  rw [<- hh3] at ap
  refine ⟨.nx [some (.lst (ns.map Dt.int)),some (.int (c:Nat)),some (.int (sty:Nat)),some (.int up),some (.ref 0),some (.int x),some (.int (2 - (w.length:Int)))] h3,?_,_,_,ds++[d],fs++[f],rfl,?_,?_,fun z hz=>?_,by simp; omega⟩
  · simp only [zadi,zaaC,zaaH,q_e2,q_eC,q_F1,zae3,zacc,q_eV,List.set_cons_succ,List.set_cons_zero,List.getElem?_cons_zero,List.getElem?_cons_succ,zaae,zaaf,zacG da,zac3,zadK,ck,zamS,zagz,zaaB,zab4,zacA,ap]
  · rw [hh3,List.getElem?_set_self l0]
  · refine FactsLo.snoc (FL.up (Nat.le_refl _) (fun k xs hk q=>?_)) (FN.up (by omega) (fun k xs hk q=>?_))
    · rw [g3 k (by omega)]; exact U2.get q
    · rw [g3 k (by omega)]; exact q
  · rcases List.mem_append.mp hz with hz | hz
    · exact ok z hz
    · rw [List.mem_singleton.mp hz]; exact fok) [some (.lst (ns.map Dt.int)),some (.int (c:Nat)),some (.int (sty:Nat)),some (.int up),some (.ref 0),none,none] [.lst []] ⟨_,_,[],[],rfl,rfl,.nil,fun _ h=>(nomatch h),rfl⟩
 refine ⟨fs,h',⟨⟨ds,da,FL.at⟩,ok,fun x hx=>by have:=FL.sizes x hx; omega,by omega⟩,?_⟩
 have sz3':3<=sizeLine:=by decide
 have ec':∀ k:HI,(seqL k (.lst (ns.map Dt.int))).map (fun xs=>(Dt.lst (cutD xs (some 6) (some up)),k))=some (.lst (ms.map Dt.int),k):=fun k=>by
  show some (Dt.lst (cutD (ns.map Dt.int) (some 6) (some up)),k)=_
  rw [ec]
 have esl:eSl (eV 0) (pAt (eC (.int 6))) (pAt (eV 3)) [some (.lst (ns.map Dt.int)),some (.int (c:Nat)),some (.int (sty:Nat)),some (.int up),some (.ref 0),none,none] [.lst []]=some (.lst (ms.map Dt.int),[.lst []]):=by
  simp [ec]
 simp only [zac1,zadU,q_fn,List.length_cons,List.length_nil,if_true,List.map_cons,List.map_nil,Nat.reduceAdd,Nat.reduceSub,List.replicate,List.cons_append,List.nil_append,zaaC,zaaH,zaaL,zaas,zaaw,q_e2,q_eV,q_eC,zaf6,List.getElem?_cons_zero,List.getElem?_cons_succ,zaae,zaaf,List.append_nil,c0,d3,m3,hsty,List.set_cons_succ,List.set_cons_zero,zaaB,sz3',zaml,eup,Option.map_some,zaeH,Nat.zero_le,zacX,zacc,esl,zae0,zadf,e,zaaN,zaaI]
end G
namespace G
open PySem PySem.Spec PyProof.Rows L2 SM BF
theorem Facts.up {c a:Nat} {h h':HI} {fs:List Fact} (F:Facts c h a fs) (u:UpL h h'):Facts c h' a fs:=by
 obtain ⟨ds,e,q⟩:=F.ds
 exact ⟨⟨ds,u.2 _ _ e,q.up u⟩,F.ok,F.sg,F.len⟩
theorem o_o':decide ((("open" : Str))=(("open" : Str)))=true:=decide_eq_true rfl
theorem l_o':decide ((("laid" : Str))=(("open" : Str)))=false:=by decide +kernel
theorem c_o':decide ((("clash" : Str))=(("open" : Str)))=false:=by decide +kernel
theorem o_l':decide ((("open" : Str))=(("laid" : Str)))=false:=by decide +kernel
theorem c_l':decide ((("clash" : Str))=(("laid" : Str)))=false:=by decide +kernel
theorem l_c':decide ((("laid" : Str))=(("clash" : Str)))=false:=by decide +kernel
theorem o_c':decide ((("open" : Str))=(("clash" : Str)))=false:=by decide +kernel
noncomputable def zahM:Wd->Wd->Bool
 | .opn,.opn=>true
 | .laid,.laid=>true
 | .clash,.clash=>true
 | _,_=>false
theorem zakk (w:Wd):zahM w w=true:=by cases w <;> rfl
theorem zamm (w v:Wd) (h:HI):oEqD (wdD w) (wdD v) h=some (.bl (zahM w v),h):=by
 cases w <;> cases v <;> simp only [wdD,zadW,o_o',l_o',c_o',o_l',c_l',l_c',o_c',decide_true,zahM]
theorem zavP {w:Wd} (hw:w ≠ .opn) (h:HI):oIn false (wdD w) (.tup [.str "laid", .str "clash"]) h=some (.bl true,h):=by
 have n1:¬ ((("laid" : Str))=(("clash" : Str))):=by decide +kernel
 cases w with
 | opn=>exact absurd rfl hw
 | laid=>simp [oIn,wdD,flat,zadA,seqA,seqL,inV,eqV]
 | clash=>simp [oIn,wdD,flat,zadA,seqA,seqL,inV,eqV]
theorem zamK {A:Ans} {lo c:Nat} {k:HI} {x:Dt} (q:AnsAt lo k c A (.tup [wdD A.wd,x])) {s m:Nat} (hs:s<=m) (ho:A.wd=.opn->s=m) (h:HI):zacp [.tup [wdD A.wd,x,.int (s:Nat)],.int (m:Nat)] h=some (.bl true,h):=by
 have t1:∀ xs,tyN h (.tup xs)=some "tuple" := fun _=>rfl
 have t3:isT "tuple" "tuple" = true:=by decide
 have d3:decide ((3:Int)=3)=true:=rfl
 have x2:∀ a b:Dt,atI [a,b,.int (s:Nat)] 2=some (.int (s:Nat)):=fun _ _=>rfl
 have w0:(WdO:Dt)->True:=fun _=>trivial
 by_cases z:A.wd=.opn
 · cases A with
   | opn=>
    have hx:x=.non:=by
     have q':Dt.tup [wdD (Ans.opn).wd,x]=.tup [.str "open", .non]:=q
     injection q' with q1
     injection q1 with _ q2
     injection q2
    have e:s=m:=ho rfl
    subst hx e
    have dm:decide (((s:Nat):Int)=(s:Int))=true:=decide_eq_true rfl
    simp only [zacp,zaeJ,q_fn,List.length_cons,List.length_nil,if_true,List.map_cons,List.map_nil,Nat.reduceAdd,Nat.reduceSub,List.replicate,List.append_nil,zaaC,zaa7,zasK,zagM,q_tB,zasw,q_eV,q_eC,q_e2,q_F1,List.getElem?_cons_zero,List.getElem?_cons_succ,zaae,zaaf,t1,t3,Option.map_some,zaaK,Bool.not_true,Bool.false_eq_true,if_false,zaqk,Int.cast_ofNat_Int,o_ne,decide_true,zaaL,zaas,zaaw,zaaZ,x2,zan2,zabs,zaaB,zaa9,zadb,Ans.wd,wdD,zadW,zaaN,zako,zahc,nn_n,zaii,o_eq,zacI,zaaI]
   | laid t=>cases z
   | clash tr=>cases z
 · have il:=zavP z h
   have we:=zamm A.wd .opn h
   have ws:zahM A.wd .opn=false:=by
    cases A with
    | opn=>exact absurd rfl z
    | laid t=>rfl
    | clash tr=>rfl
   rw [ws] at we
   generalize wdD A.wd=W at il we q
   have we':oEqD W (.str "open") h=some (.bl false,h):=we
   have c1:decide ((0:Int)<=((s:Nat):Int))=true:=decide_eq_true (by omega)
   have c2:decide (((s:Nat):Int)<=((m:Nat):Int))=true:=decide_eq_true (by omega)
   simp only [zacp,zaeJ,q_fn,List.length_cons,List.length_nil,if_true,List.map_cons,List.map_nil,Nat.reduceAdd,Nat.reduceSub,List.replicate,List.append_nil,zaaC,zaa7,zasK,zagM,q_tB,zasw,q_eV,q_eC,q_e2,q_F1,List.getElem?_cons_zero,List.getElem?_cons_succ,zaae,zaaf,t1,t3,Option.map_some,zaaK,Bool.not_true,Bool.false_eq_true,if_false,zaqk,Int.cast_ofNat_Int,o_ne,decide_true,zaaL,zaas,zaaw,zaaZ,x2,zan2,zabs,zaaB,zaa9,zadb,we',zaaN,zako,zab2,sz2,il,zaii,zata,o_le,c1,c2,zavq,zaaI]
theorem zalt {A:Ans} {lo c:Nat} {k:HI} {x:Dt} (q:AnsAt lo k c A (.tup [wdD A.wd,x])) {s:Nat} {w:Wd} (hw:A.wd=w) (h:HI):zabM [.tup [wdD A.wd,x,.int (s:Nat)],wdD w,.int (s:Nat)] h=some (.bl true,h):=by
 have et:=zamK q (Nat.le_refl s) (fun _=>rfl) h
 have x2:∀ a b:Dt,atI [a,b,.int (s:Nat)] 2=some (.int (s:Nat)):=fun _ _=>rfl
 have we:=zamm A.wd w h
 rw [hw,zakk] at we
 rw [hw] at et ⊢
 simp only [zabM,zafe,q_fn,List.length_cons,List.length_nil,if_true,List.map_cons,List.map_nil,Nat.reduceAdd,Nat.reduceSub,List.replicate,List.append_nil,zaaN,zako,zaaL,zaas,zaaw,q_eV,q_eC,q_e2,List.getElem?_cons_zero,List.getElem?_cons_succ,zaae,zaaf,et,zaii,zaaZ,zaa9,x2,Option.map_some,we,o_eq,decide_true,zaaI]
theorem zahi {c m:Nat} (hc1:1<=c) (hc:c<=8) {h:HI} {a:Nat} {fs:List Fact} (F:Facts c h a fs) {A0:Ans} {s0:Nat} (q:zape c m fs 12 A0 s0) :
 ∃ A x h',A.wd=A0.wd/\zabx [.int (c:Nat),.ref a,.int (m:Nat)] h=some (.tup [wdD A0.wd,x,.int (s0:Nat)],h')/\AnsAt h.length h' c A (.tup [wdD A.wd,x])/\UpL h h':=by
 obtain ⟨A,s,x,h',L,e,AN,U⟩:=zal0 hc1 hc F ⟨_,_,q⟩
 obtain ⟨z1,z2⟩:=zaeP 12 _ _ 0 _ _ _ _ (zaeC fs F.ok _ (zakV c)) (zagE fs F.ok) q L
 subst z2
 exact ⟨A,x,h',z1.symm,by rw [z1]; exact e,AN,U⟩
theorem law_true (ns:List Int) (hl:ns.length<=63):∃ h',zah8 [.lst (ns.map Dt.int)] []=some (.bl true,h'):=by
 have c0:=fun h=>zanB ns 0 h
 have c1':=fun h=>zanB ns 1 h
 simp only [Int.cast_ofNat_Int] at c0 c1'
 have m3:=fun (x:Int) (h:HI)=>zadz (h:=h) (i:=x) (show (0:Int) < 3 by decide)
 obtain ⟨c,hcc,hc2,hc4⟩:∃ c:Nat,2 + ns[0]?.getD (0:Int) % 3=(c:Int)/\2<=c/\c<=4:=⟨(2 + ns[0]?.getD (0:Int) % 3).toNat,by omega,by omega,by omega⟩
 obtain ⟨m,hm,m1,m6⟩:∃ m:Nat,(∀ h:HI,oIx (.lst [.int 6,.int 6,.int 2]) (.int ((c:Int) - 2)) h=some (.int (m:Nat),h))/\1<=m/\m<=6:=by
  rcases (show c=2\/c=3\/c=4 by omega) with rfl | rfl | rfl
  · exact ⟨6,fun _=>rfl,by omega,by omega⟩
  · exact ⟨6,fun _=>rfl,by omega,by omega⟩
  · exact ⟨2,fun _=>rfl,by omega,by omega⟩
 obtain ⟨fs,h1,F,ef⟩:=zanN ns hl hc2 (show c<=100 by omega)
 have ex:=zaoG (m:=m) (show 1<=c by omega) (show c<=8 by omega) (show (zab6 fs).length<=100 by have:=zagc fs; have:=F.len; omega) (zagO fs F.ok) 12 (zab7 zaca fs) (zaej fs) 0 (zaeC fs F.ok _ (zakV c)) (zagE fs F.ok) (by omega) (by omega)
 obtain ⟨A,s,x,h2,L,ep,AN,U2⟩:=zal0 (show 1<=c by omega) (show c<=8 by omega) F ex
 obtain ⟨_,l2,l3⟩:=zagF 12 _ _ 0 _ _ L
 have l2:=l2 (by omega)
 have l3:=l3 (by omega)
 have F2:=F.up U2
 have et:=zamK AN l2 l3 h2
 have x2:∀ a b:Dt,atI [a,b,.int (s:Nat)] 2=some (.int (s:Nat)):=fun _ _=>rfl
 have we:=zamm A.wd .opn h2
 have we':oEqD (wdD A.wd) (.str "open") h2=some (.bl (zahM A.wd .opn),h2):=we
 by_cases z:A.wd=.opn
 · have es:=l3 z
   subst es
   obtain ⟨fw,hfw⟩:∃ fw:Nat,ns[1]?.getD (0:Int) % (s:Int)=(fw:Int):=⟨(ns[1]?.getD (0:Int) % (s:Int)).toNat,by have:=Int.emod_nonneg (ns[1]?.getD (0:Int)) (show (s:Int) ≠ 0 by omega); omega⟩
   have fl:fw < s:=by have:=Int.emod_lt_of_pos (ns[1]?.getD (0:Int)) (show (0:Int) < (s:Int) by omega); omega
   have mm:=fun (x:Int) (h:HI)=>zadz (h:=h) (i:=x) (show (0:Int) < (s:Int) by omega)
   have LF:=zagr 12 _ _ 0 _ _ L (Nat.zero_le fw) (.inl fl)
   obtain ⟨B,y,h3,wb,ep2,AN2,U3⟩:=zahi (show 1<=c by omega) (show c<=8 by omega) F2 LF
   have ea:=zalt AN2 (s:=fw) (w:=.opn) wb h3
   rw [wb] at ea
   have ep2':zabx [.int (c:Nat),.ref 0,.int (fw:Nat)] h2=some (.tup [wdD .opn,y,.int (fw:Nat)],h3):=ep2
   have ea':zabM [.tup [wdD .opn,y,.int (fw:Nat)],.str "open", .int (fw:Nat)] h3=some (.bl true,h3):=ea
   rw [z] at we' et ep
   have w1:zahM .opn .opn=true:=rfl
   rw [w1] at we'
   refine ⟨h3,?_⟩
   simp only [zah8,zaki,q_fn,List.length_cons,List.length_nil,if_true,List.map_cons,List.map_nil,Nat.reduceAdd,Nat.reduceSub,List.replicate,List.cons_append,List.nil_append,zaaC,zaaH,q_e2,q_eC,q_eV,zaaL,zaas,zaaw,zaf6,List.set_cons_succ,List.set_cons_zero,List.getElem?_cons_zero,List.getElem?_cons_succ,zaae,zaaf,List.append_nil,c0,c1',m3,zado,zagz,hcc,zaaB,ef,sz3,hm,ep,zaa7,zagM,q_tB,et,zaaK,Bool.not_true,Bool.false_eq_true,if_false,zabs,zaaZ,zaa9,x2,Option.map_some,we',mm,hfw,ep2',ea',zaaN,zacI,zaaI]
 · have ws:zahM A.wd .opn=false:=by
    cases A with
    | opn=>exact absurd rfl z
    | laid t=>rfl
    | clash tr=>rfl
   rw [ws] at we'
   have LM:=zagd (m':=s) 12 _ _ 0 _ _ L z (Nat.le_refl _)
   have LD:=zagd (m':=200) 12 _ _ 0 _ _ L z (by omega)
   obtain ⟨h3,U3,e3⟩:∃ h3,UpL h2 h3/\∀ (k:Bool × HI->Option Rs) (l:LI),l[6]?=some (some (.int (s:Nat)))->l[1]?=some (some (.int (c:Nat)))->l[2]?=some (some (.ref 0))->bnd (zajf (tB' (e2 oGt (eV 6) (eC (.int 0)))) (zahl (tB' (zaav zabM [] (zaac (zaav zabx [] (zaac (eV 1) (zaac (eV 2) (zaac (e2 oSub (eV 6) (eC (.int 1))) aNil)))) (zaac (eC (.str "open")) (zaac (e2 oSub (eV 6) (eC (.int 1))) aNil)))))) l h2) k=k (false,h3):=by
    by_cases sp:0 < s
    · have LF:=zagr (m':=s - 1) 12 _ _ 0 _ _ L (Nat.zero_le _) (.inl (by omega))
      obtain ⟨B,y,h3,wb,ep2,AN2,U3⟩:=zahi (show 1<=c by omega) (show c<=8 by omega) F2 LF
      have ea:=zalt AN2 (s:=s - 1) (w:=.opn) wb h3
      rw [wb] at ea
      refine ⟨h3,U3,fun k l h6 h1 h2'=>?_⟩
      have s1:((s:Nat):Int) - 1=((s - 1:Nat):Int):=by omega
      have g0:decide ((0:Int) < ((s:Nat):Int))=true:=decide_eq_true (by omega)
      have ep2':zabx [.int (c:Nat),.ref 0,.int ((s - 1:Nat):Int)] h2=some (.tup [wdD .opn,y,.int ((s - 1:Nat):Int)],h3):=ep2
      have ea':zabM [.tup [wdD .opn,y,.int ((s - 1:Nat):Int)],.str "open", .int ((s - 1:Nat):Int)] h3=some (.bl true,h3):=ea
      simp only [zaiQ,zagM,q_tB,q_e2,q_eV,q_eC,h6,h1,h2',zaae,zaaf,o_gt,g0,zaaK,if_true,zaaL,zaas,zaaw,zagz,s1,List.append_nil,ep2',ea',Bool.not_true]
    · refine ⟨h2,UpL.refl _,fun k l h6 h1 h2'=>?_⟩
      have g0:decide ((0:Int) < ((s:Nat):Int))=false:=decide_eq_false (by omega)
      simp only [zaiQ,zagM,q_tB,q_e2,q_eV,q_eC,h6,zaae,zaaf,o_gt,g0,zaaK,Bool.false_eq_true,if_false]
   have F3:=F2.up U3
   obtain ⟨B,y,h4,wb,ep2,AN2,U4⟩:=zahi (show 1<=c by omega) (show c<=8 by omega) F3 LM
   have ea:=zalt AN2 (s:=s) (w:=A.wd) wb h4
   rw [wb] at ea
   have F4:=F3.up U4
   obtain ⟨C,y2,h5,wc,ep3,AN3,U5⟩:=zahi (m:=200) (show 1<=c by omega) (show c<=8 by omega) F4 LD
   have et3:=zamK AN3 (s:=s) (m:=200) (by omega) (fun q=>absurd (wc.symm.trans q) z) h5
   rw [wc] at et3
   have ep3':zabx [.int (c:Nat),.ref 0,.int 200] h4=some (.tup [wdD A.wd,y2,.int (s:Nat)],h5):=ep3
   have et3':zacp [.tup [wdD A.wd,y2,.int (s:Nat)],.int 200] h5=some (.bl true,h5):=et3
   have we5:=zamm A.wd A.wd h5
   rw [zakk] at we5
   refine ⟨h5,?_⟩
   simp only [zah8,zaki,q_fn,List.length_cons,List.length_nil,if_true,List.map_cons,List.map_nil,Nat.reduceAdd,Nat.reduceSub,List.replicate,List.cons_append,List.nil_append,zaaC,zaaH,q_e2,q_eC,q_eV,zaaL,zaas,zaaw,zaf6,List.set_cons_succ,List.set_cons_zero,List.getElem?_cons_zero,List.getElem?_cons_succ,zaae,zaaf,List.append_nil,c0,m3,zado,zagz,hcc,zaaB,ef,sz3,hm,ep,zaa7,zagM,q_tB,et,zaaK,Bool.not_true,Bool.false_eq_true,if_false,zabs,zaaZ,zaa9,x2,Option.map_some,we']
   rw [e3 _ _ rfl rfl rfl]
   simp only [Bool.false_eq_true,if_false,zabs,zaaf,zaaB,zaaC,zaaH,zaa7,zagM,q_tB,q_e2,q_eC,q_eV,zaaL,zaas,zaaw,List.set_cons_succ,List.set_cons_zero,List.getElem?_cons_zero,List.getElem?_cons_succ,zaae,List.append_nil,List.cons_append,List.nil_append,ep2,ea,zaaK,Bool.not_true,ep3',zaaN,zako,et3',zaii,if_true,zaaZ,zaa9,x2,Option.map_some,we5,o_eq,decide_true,zaaI]
end G
namespace G
open PySem PySem.Spec PyProof.Rows L2 SM
set_option maxHeartbeats 0 in
theorem zavI {l:PySem.W.OpenLaw} {w:World} {K:PySem.W.Frag} {h:Heap} {mg:Str->Option Value} {fa:Addr} (X:K.In h) (G:h.Ns mainGlobals mg) (hfa:mg "law" = some (.ref fa))
 {C_Search:Addr} {u_ALL:Value} {g_ZONES:Addr} {g_CHAINED:Addr} {u_SAME:Value}
 (kc_Search:ClsK K "Search" C_Search) (nf_Search_lengths:PySem.W.findIn K (.ref C_Search) "lengths" = some none) (nf_Search_most:PySem.W.findIn K (.ref C_Search) "most" = some none) (nf_Search_made:PySem.W.findIn K (.ref C_Search) "made" = some none) (d_zones:DefK K "zones" zak5) (d_ways_in:DefK K "ways_in" zai9) (d_set_of:DefK K "set_of" zaka) (d_turned:DefK K "turned" zakc) (d_chained_sets:DefK K "chained_sets" zafD) (d_wide_row:DefK K "wide_row" zahP) (d_wide:DefK K "wide" zane) (d_pairs_of:DefK K "pairs_of" zaic) (d_narrowed:DefK K "narrowed" zahS) (d_left_by:DefK K "left_by" zaiz) (d_narrows:DefK K "narrows" zai5) (d_made_of:DefK K "made_of" zaiW) (d_is_empty:DefK K "is_empty" zaia) (d_threes_along:DefK K "threes_along" zafE) (d_rounded_from:DefK K "rounded_from" zafy) (d_first_net:DefK K "first_net" zaht) (d_lengths_in:DefK K "lengths_in" zagZ) (d_groups_in:DefK K "groups_in" zahu) (d_only_member:DefK K "only_member" zagl) (d_first_loose_pair:DefK K "first_loose_pair" zaep) (d_split_of:DefK K "split_of" zain) (d_grain:DefK K "grain" zalj) (d_length_bounds:DefK K "length_bounds" zafi) (d_point_bounds:DefK K "point_bounds" zafB) (d_set_bounds:DefK K "set_bounds" zag5) (d_bounds:DefK K "bounds" zajT) (d_least_bounds:DefK K "least_bounds" zafN) (d_moved:DefK K "moved" zak6) (d_ring_behind:DefK K "ring_behind" zagi) (d_timed:DefK K "timed" zali) (d_Search___init__:zakI K C_Search "__init__" "Search.__init__" zaeD) (d_Search_look:zakI K C_Search "look" "Search.look" zagh) (d_Search_look_at_branches:zakI K C_Search "look_at_branches" "Search.look_at_branches" zacP) (d_stretches_at:DefK K "stretches_at" zafC) (d_planned:zaoX K "planned" zafY 200) (d__law_cell_at:DefK K "_law_cell_at" zafJ) (d__law_whole:DefK K "_law_whole" zagR) (d__law_mixed:DefK K "_law_mixed" zagI) (d__law_any_ways:DefK K "_law_any_ways" zafr) (d__law_any_fact:DefK K "_law_any_fact" zafd) (d__law_any_facts:DefK K "_law_any_facts" zaeQ) (d__law_told:DefK K "_law_told" zahw) (d__law_alike:DefK K "_law_alike" zag6) (d_law:DefK K "law" zaoP) (z_any:PySem.W.nsIn K mainGlobals "any" = some none) (z_bool:PySem.W.nsIn K mainGlobals "bool" = some none) (z_enumerate:PySem.W.nsIn K mainGlobals "enumerate" = some none) (z_int:PySem.W.nsIn K mainGlobals "int" = some none) (z_isinstance:PySem.W.nsIn K mainGlobals "isinstance" = some none) (z_len:PySem.W.nsIn K mainGlobals "len" = some none) (z_list:PySem.W.nsIn K mainGlobals "list" = some none) (z_max:PySem.W.nsIn K mainGlobals "max" = some none) (z_min:PySem.W.nsIn K mainGlobals "min" = some none) (z_range:PySem.W.nsIn K mainGlobals "range" = some none) (z_sum:PySem.W.nsIn K mainGlobals "sum" = some none) (z_tuple:PySem.W.nsIn K mainGlobals "tuple" = some none) (n_ALL:PySem.W.nsIn K mainGlobals "ALL" = some (some u_ALL)) (r_ALL:zacn K 6 u_ALL=some zakt) (n_ZONES:PySem.W.nsIn K mainGlobals "ZONES" = some (some (.ref g_ZONES))) (r_ZONES:zacn K 6 (.ref g_ZONES)=some zall) (n_CHAINED:PySem.W.nsIn K mainGlobals "CHAINED" = some (some (.ref g_CHAINED))) (r_CHAINED:zacn K 6 (.ref g_CHAINED)=some zaiR) (n_SAME:PySem.W.nsIn K mainGlobals "SAME" = some (some u_SAME)) (r_SAME:zacn K 6 u_SAME=some zamZ)
 : ∃ fd:FuncData,(∀ (s:Shared) (v:Value),BindsTo s fd ⟨[v],[]⟩ [("_law_script", v)])/\∀ base:Heap,K.In base->base.Ns mainGlobals mg->FnOk l.prog w K mg base CX0 31 fa fd ["_law_script"] (spM K 1 zah8):=by
 have T:Txt K mg:={
  d_zones:=zaaM X G d_zones fun _ _ _ _ _ _ us hl=>match us,hl with | [_],_=>rfl
  d_ways_in:=zaaM X G d_ways_in fun _ _ _ _ _ _ us hl=>match us,hl with | [_],_=>rfl
  d_set_of:=zaaM X G d_set_of fun _ _ _ _ _ _ us hl=>match us,hl with | [_],_=>rfl
  d_turned:=zaaM X G d_turned fun _ _ _ _ _ _ us hl=>match us,hl with | [_],_=>rfl
  d_chained_sets:=zaaM X G d_chained_sets fun _ _ _ _ _ _ us hl=>match us,hl with | [_,_],_=>rfl
  d_wide_row:=zaaM X G d_wide_row fun _ _ _ _ _ _ us hl=>match us,hl with | [_,_],_=>rfl
  d_wide:=zaaM X G d_wide fun _ _ _ _ _ _ us hl=>match us,hl with | [_],_=>rfl
  d_pairs_of:=zaaM X G d_pairs_of fun _ _ _ _ _ _ us hl=>match us,hl with | [_],_=>rfl
  d_narrowed:=zaaM X G d_narrowed fun _ _ _ _ _ _ us hl=>match us,hl with | [_,_,_,_],_=>rfl
  d_left_by:=zaaM X G d_left_by fun _ _ _ _ _ _ us hl=>match us,hl with | [_,_],_=>rfl
  d_narrows:=zaaM X G d_narrows fun _ _ _ _ _ _ us hl=>match us,hl with | [_,_],_=>rfl
  d_made_of:=zaaM X G d_made_of fun _ _ _ _ _ _ us hl=>match us,hl with | [_,_],_=>rfl
  d_is_empty:=zaaM X G d_is_empty fun _ _ _ _ _ _ us hl=>match us,hl with | [_],_=>rfl
  d_threes_along:=zaaM X G d_threes_along fun _ _ _ _ _ _ us hl=>match us,hl with | [_,_],_=>rfl
  d_rounded_from:=zaaM X G d_rounded_from fun _ _ _ _ _ _ us hl=>match us,hl with | [_,_],_=>rfl
  d_first_net:=zaaM X G d_first_net fun _ _ _ _ _ _ us hl=>match us,hl with | [_,_],_=>rfl
  d_lengths_in:=zaaM X G d_lengths_in fun _ _ _ _ _ _ us hl=>match us,hl with | [_],_=>rfl
  d_groups_in:=zaaM X G d_groups_in fun _ _ _ _ _ _ us hl=>match us,hl with | [_],_=>rfl
  d_only_member:=zaaM X G d_only_member fun _ _ _ _ _ _ us hl=>match us,hl with | [_,_,_],_=>rfl
  d_first_loose_pair:=zaaM X G d_first_loose_pair fun _ _ _ _ _ _ us hl=>match us,hl with | [_],_=>rfl
  d_split_of:=zaaM X G d_split_of fun _ _ _ _ _ _ us hl=>match us,hl with | [_,_],_=>rfl
  d_grain:=zaaM X G d_grain fun _ _ _ _ _ _ us hl=>match us,hl with | [_],_=>rfl
  d_length_bounds:=zaaM X G d_length_bounds fun _ _ _ _ _ _ us hl=>match us,hl with | [_,_],_=>rfl
  d_point_bounds:=zaaM X G d_point_bounds fun _ _ _ _ _ _ us hl=>match us,hl with | [_,_,_,_],_=>rfl
  d_set_bounds:=zaaM X G d_set_bounds fun _ _ _ _ _ _ us hl=>match us,hl with | [_,_,_],_=>rfl
  d_bounds:=zaaM X G d_bounds fun _ _ _ _ _ _ us hl=>match us,hl with | [_,_],_=>rfl
  d_least_bounds:=zaaM X G d_least_bounds fun _ _ _ _ _ _ us hl=>match us,hl with | [_],_=>rfl
  d_moved:=zaaM X G d_moved fun _ _ _ _ _ _ us hl=>match us,hl with | [_,_,_],_=>rfl
  d_ring_behind:=zaaM X G d_ring_behind fun _ _ _ _ _ _ us hl=>match us,hl with | [_,_],_=>rfl
  d_timed:=zaaM X G d_timed fun _ _ _ _ _ _ us hl=>match us,hl with | [_,_],_=>rfl
  zanE:=zark X G kc_Search d_Search___init__ fun _ _ _ _ _ _ us hl=>match us,hl with | [_,_,_],_=>rfl
  zagf:=zamR kc_Search d_Search_look fun _ _ _ _ _ _ us hl=>match us,hl with | [_,_,_,_],_=>rfl
  zaeb:=zamR kc_Search d_Search_look_at_branches fun _ _ _ _ _ _ us hl=>match us,hl with | [_,_,_,_],_=>rfl
  d_stretches_at:=zaaM X G d_stretches_at fun _ _ _ _ _ _ us hl=>match us,hl with | [_],_=>rfl
  zajD:=zatC X G d_planned fun _ _ _ _ _ _ _ _ _ _ _ us hl h1 h2=>match us,hl with | [_,_,_],_=>BindsTo.of_defaults rfl h1 h2 rfl rfl
  zajy:=zatX X G d_planned fun _ _ _ _ _ _ _ _ _ _ _ us hl h1 h2=>match us,hl with | [_,_],_=>BindsTo.of_defaults rfl h1 h2 rfl rfl
  d__law_cell_at:=zaaM X G d__law_cell_at fun _ _ _ _ _ _ us hl=>match us,hl with | [_,_],_=>rfl
  d__law_whole:=zaaM X G d__law_whole fun _ _ _ _ _ _ us hl=>match us,hl with | [_],_=>rfl
  d__law_mixed:=zaaM X G d__law_mixed fun _ _ _ _ _ _ us hl=>match us,hl with | [_,_],_=>rfl
  d__law_any_ways:=zaaM X G d__law_any_ways fun _ _ _ _ _ _ us hl=>match us,hl with | [_,_,_],_=>rfl
  d__law_any_fact:=zaaM X G d__law_any_fact fun _ _ _ _ _ _ us hl=>match us,hl with | [_,_,_,_],_=>rfl
  d__law_any_facts:=zaaM X G d__law_any_facts fun _ _ _ _ _ _ us hl=>match us,hl with | [_,_],_=>rfl
  d__law_told:=zaaM X G d__law_told fun _ _ _ _ _ _ us hl=>match us,hl with | [_,_],_=>rfl
  d__law_alike:=zaaM X G d__law_alike fun _ _ _ _ _ _ us hl=>match us,hl with | [_,_,_],_=>rfl
  zaeY:=zalu kc_Search nf_Search_lengths
  zagk:=zalu kc_Search nf_Search_most
  zadc:=zalu kc_Search nf_Search_made
  z_any:=PySem.W.mg_none_of X G z_any
  z_bool:=PySem.W.mg_none_of X G z_bool
  z_enumerate:=PySem.W.mg_none_of X G z_enumerate
  z_int:=PySem.W.mg_none_of X G z_int
  z_isinstance:=PySem.W.mg_none_of X G z_isinstance
  z_len:=PySem.W.mg_none_of X G z_len
  z_list:=PySem.W.mg_none_of X G z_list
  z_max:=PySem.W.mg_none_of X G z_max
  z_min:=PySem.W.mg_none_of X G z_min
  z_range:=PySem.W.mg_none_of X G z_range
  z_sum:=PySem.W.mg_none_of X G z_sum
  z_tuple:=PySem.W.mg_none_of X G z_tuple
  zami:=⟨⟨_,6,PySem.W.mg_of X G n_ALL,r_ALL⟩⟩
  zaoo:=⟨⟨_,6,PySem.W.mg_of X G n_ZONES,r_ZONES⟩⟩
  zalw:=⟨⟨_,6,PySem.W.mg_of X G n_CHAINED,r_CHAINED⟩⟩
  zapO:=⟨⟨_,6,PySem.W.mg_of X G n_SAME,r_SAME⟩⟩
 }
 obtain ⟨f,oc,od,kV,dc,pm,an,cd,ct,sl,a,l1,c1,k1⟩:=d_law
 have e:=hfa.symm.trans (PySem.W.mg_of X G a)
 cases e
 exact ⟨_,fun s v=>.of_eq rfl,fun base _ _=>zavl T base (zakw l1 c1 k1)⟩
end G
open PySem PySem.W PyProof.Rows
set_option maxRecDepth 100000 in
set_option maxHeartbeats 0 in
theorem PySem.Challenge.cw_spanways_k18_as_many_splits_holds : PySem.Challenge.rw_spanways_k18_as_many_splits.Holds := by
 refine HD.top ?_
 k_fill
 refine SM.zaq7 (l:=PySem.Challenge.rw_spanways_k18_as_many_splits) (F:=G.zah8) (k:=31) (x := "_law_script") rfl rfl ⟨rfl,by decide,by decide⟩ (fun w h Y=>PySem.W.kIn_of Y) ?F G.law_true
 case F=>
  intro w mg fa h KX GN hmg
  refine' G.zavI KX GN hmg ?kc_Search ?nf_Search_lengths ?nf_Search_most ?nf_Search_made ?d_zones ?d_ways_in ?d_set_of ?d_turned ?d_chained_sets ?d_wide_row ?d_wide ?d_pairs_of ?d_narrowed ?d_left_by ?d_narrows ?d_made_of ?d_is_empty ?d_threes_along ?d_rounded_from ?d_first_net ?d_lengths_in ?d_groups_in ?d_only_member ?d_first_loose_pair ?d_split_of ?d_grain ?d_length_bounds ?d_point_bounds ?d_set_bounds ?d_bounds ?d_least_bounds ?d_moved ?d_ring_behind ?d_timed ?d_Search___init__ ?d_Search_look ?d_Search_look_at_branches ?d_stretches_at ?d_planned ?d__law_cell_at ?d__law_whole ?d__law_mixed ?d__law_any_ways ?d__law_any_fact ?d__law_any_facts ?d__law_told ?d__law_alike ?d_law ?z_any ?z_bool ?z_enumerate ?z_int ?z_isinstance ?z_len ?z_list ?z_max ?z_min ?z_range ?z_sum ?z_tuple ?n_ALL ?r_ALL ?n_ZONES ?r_ZONES ?n_CHAINED ?r_CHAINED ?n_SAME ?r_SAME
  (case kc_Search=>exact ⟨by k_is,by k_is,by k_is,by k_is,by k_is,by k_is,by k_is⟩)
  (case nf_Search_lengths=>k_is)
  (case nf_Search_most=>k_is)
  (case nf_Search_made=>k_is)
  (case d_zones=>exact ⟨_,_,_,_,_,_,_,_,_,_,by k_is,by k_is,by k_is,by k_is⟩)
  (case d_ways_in=>exact ⟨_,_,_,_,_,_,_,_,_,_,by k_is,by k_is,by k_is,by k_is⟩)
  (case d_set_of=>exact ⟨_,_,_,_,_,_,_,_,_,_,by k_is,by k_is,by k_is,by k_is⟩)
  (case d_turned=>exact ⟨_,_,_,_,_,_,_,_,_,_,by k_is,by k_is,by k_is,by k_is⟩)
  (case d_chained_sets=>exact ⟨_,_,_,_,_,_,_,_,_,_,by k_is,by k_is,by k_is,by k_is⟩)
  (case d_wide_row=>exact ⟨_,_,_,_,_,_,_,_,_,_,by k_is,by k_is,by k_is,by k_is⟩)
  (case d_wide=>exact ⟨_,_,_,_,_,_,_,_,_,_,by k_is,by k_is,by k_is,by k_is⟩)
  (case d_pairs_of=>exact ⟨_,_,_,_,_,_,_,_,_,_,by k_is,by k_is,by k_is,by k_is⟩)
  (case d_narrowed=>exact ⟨_,_,_,_,_,_,_,_,_,_,by k_is,by k_is,by k_is,by k_is⟩)
  (case d_left_by=>exact ⟨_,_,_,_,_,_,_,_,_,_,by k_is,by k_is,by k_is,by k_is⟩)
  (case d_narrows=>exact ⟨_,_,_,_,_,_,_,_,_,_,by k_is,by k_is,by k_is,by k_is⟩)
  (case d_made_of=>exact ⟨_,_,_,_,_,_,_,_,_,_,by k_is,by k_is,by k_is,by k_is⟩)
  (case d_is_empty=>exact ⟨_,_,_,_,_,_,_,_,_,_,by k_is,by k_is,by k_is,by k_is⟩)
  (case d_threes_along=>exact ⟨_,_,_,_,_,_,_,_,_,_,by k_is,by k_is,by k_is,by k_is⟩)
  (case d_rounded_from=>exact ⟨_,_,_,_,_,_,_,_,_,_,by k_is,by k_is,by k_is,by k_is⟩)
  (case d_first_net=>exact ⟨_,_,_,_,_,_,_,_,_,_,by k_is,by k_is,by k_is,by k_is⟩)
  (case d_lengths_in=>exact ⟨_,_,_,_,_,_,_,_,_,_,by k_is,by k_is,by k_is,by k_is⟩)
  (case d_groups_in=>exact ⟨_,_,_,_,_,_,_,_,_,_,by k_is,by k_is,by k_is,by k_is⟩)
  (case d_only_member=>exact ⟨_,_,_,_,_,_,_,_,_,_,by k_is,by k_is,by k_is,by k_is⟩)
  (case d_first_loose_pair=>exact ⟨_,_,_,_,_,_,_,_,_,_,by k_is,by k_is,by k_is,by k_is⟩)
  (case d_split_of=>exact ⟨_,_,_,_,_,_,_,_,_,_,by k_is,by k_is,by k_is,by k_is⟩)
  (case d_grain=>exact ⟨_,_,_,_,_,_,_,_,_,_,by k_is,by k_is,by k_is,by k_is⟩)
  (case d_length_bounds=>exact ⟨_,_,_,_,_,_,_,_,_,_,by k_is,by k_is,by k_is,by k_is⟩)
  (case d_point_bounds=>exact ⟨_,_,_,_,_,_,_,_,_,_,by k_is,by k_is,by k_is,by k_is⟩)
  (case d_set_bounds=>exact ⟨_,_,_,_,_,_,_,_,_,_,by k_is,by k_is,by k_is,by k_is⟩)
  (case d_bounds=>exact ⟨_,_,_,_,_,_,_,_,_,_,by k_is,by k_is,by k_is,by k_is⟩)
  (case d_least_bounds=>exact ⟨_,_,_,_,_,_,_,_,_,_,by k_is,by k_is,by k_is,by k_is⟩)
  (case d_moved=>exact ⟨_,_,_,_,_,_,_,_,_,_,by k_is,by k_is,by k_is,by k_is⟩)
  (case d_ring_behind=>exact ⟨_,_,_,_,_,_,_,_,_,_,by k_is,by k_is,by k_is,by k_is⟩)
  (case d_timed=>exact ⟨_,_,_,_,_,_,_,_,_,_,by k_is,by k_is,by k_is,by k_is⟩)
  (case d_Search___init__=>exact ⟨_,_,_,_,_,_,_,_,_,_,by k_is,by k_is,by k_is,by k_is,by k_is⟩)
  (case d_Search_look=>exact ⟨_,_,_,_,_,_,_,_,_,_,by k_is,by k_is,by k_is,by k_is,by k_is⟩)
  (case d_Search_look_at_branches=>exact ⟨_,_,_,_,_,_,_,_,_,_,by k_is,by k_is,by k_is,by k_is,by k_is⟩)
  (case d_stretches_at=>exact ⟨_,_,_,_,_,_,_,_,_,_,by k_is,by k_is,by k_is,by k_is⟩)
  (case d_planned=>exact ⟨_,_,_,_,_,_,_,_,_,_,_,_,_,_,by k_is,by k_is,by k_is,by k_is,by k_is,by rfl⟩)
  (case d__law_cell_at=>exact ⟨_,_,_,_,_,_,_,_,_,_,by k_is,by k_is,by k_is,by k_is⟩)
  (case d__law_whole=>exact ⟨_,_,_,_,_,_,_,_,_,_,by k_is,by k_is,by k_is,by k_is⟩)
  (case d__law_mixed=>exact ⟨_,_,_,_,_,_,_,_,_,_,by k_is,by k_is,by k_is,by k_is⟩)
  (case d__law_any_ways=>exact ⟨_,_,_,_,_,_,_,_,_,_,by k_is,by k_is,by k_is,by k_is⟩)
  (case d__law_any_fact=>exact ⟨_,_,_,_,_,_,_,_,_,_,by k_is,by k_is,by k_is,by k_is⟩)
  (case d__law_any_facts=>exact ⟨_,_,_,_,_,_,_,_,_,_,by k_is,by k_is,by k_is,by k_is⟩)
  (case d__law_told=>exact ⟨_,_,_,_,_,_,_,_,_,_,by k_is,by k_is,by k_is,by k_is⟩)
  (case d__law_alike=>exact ⟨_,_,_,_,_,_,_,_,_,_,by k_is,by k_is,by k_is,by k_is⟩)
  (case d_law=>exact ⟨_,_,_,_,_,_,_,_,_,_,by k_is,by k_is,by k_is,by k_is⟩)
  (case z_any=>k_is)
  (case z_bool=>k_is)
  (case z_enumerate=>k_is)
  (case z_int=>k_is)
  (case z_isinstance=>k_is)
  (case z_len=>k_is)
  (case z_list=>k_is)
  (case z_max=>k_is)
  (case z_min=>k_is)
  (case z_range=>k_is)
  (case z_sum=>k_is)
  (case z_tuple=>k_is)
  (case n_ALL=>k_is)
  (case r_ALL=>kernel_rfl)
  (case n_ZONES=>k_is)
  (case r_ZONES=>kernel_rfl)
  (case n_CHAINED=>k_is)
  (case r_CHAINED=>kernel_rfl)
  (case n_SAME=>k_is)
  (case r_SAME=>kernel_rfl)
