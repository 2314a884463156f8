import PyProof.Rows.All
import Wide.All
import OpenK.AllK
import Wide.FinOn
import Lean
import PyProof.EqAt
import PyProof.EqKinds
import PyProof.TupleCall
import PyProof.Rows.SetFrom
import PySem.Challenge.RW_spanways_k22_whole_three_stretches
set_option Elab.async false
set_option linter.all false
set_option maxRecDepth 100000
set_option tactic.hygienic false
set_option bootstrap.genMatcherCode false
noncomputable section
set_option compiler.extract_closed false
structure PySem.W.Fast:Prop where(tw12121289104782748915 tw17281878797507760706 tw17556827767543822488 tw17010616559305733019 tw16182713455442923228 tw7622316370786527894 tw10440100423980801499 tw346589016876464928 tw2533901526850059166 tw13978869543744169883 tw7341228812184501859 tw12505926870056406955 tw12502297329320244734 tw16642318226551734981 tw14096338815064179545 tw4170995491055099324 tw13390719430467025625 tw1965928948259093654 tw9418907967919918045 tw8047520431591755080 tw8348530289433753768 tw7720809326952896076 tw14040685060797555748 tw511919691088048331 tw6276252129594999849 tw1472188447026180366 tw10260382872065508943 tw12209905887441074755 tw7463260569354689476 tw3351963456156277772 tw13811244014149503278 tw2396155105096293799 tw16691035778185161031 tw11360176602693081192 tw8054931633568084418 tw7838157217726878289 tw16646507578047974366 tw15597866009568673442 tw14509689261684610218 tw8877583610472352985 tw15259839255643549746 tw11120606233464498658 tw15799058971978010707 tw14094202827523375241 tw6925908005765751565 tw15692758506724615067 tw16226349091638950489 tw17771562206361651438 tw1921919271953698609 tw6816228868072547918 tw11586557517556228899 tw17115503396352220795 tw9221661384380572116 tw7791678530363864334 tw15126078539191595958 tw12570276663679445020 tw8123968279042128309 tw16658772474651315758 tw387165302884613115 tw7446145838984449367 tw15934696952634240531 tw17856755718617629199 tw1514768281841107299 tw3850464849204090855 tw6126686453214875434 tw291890048717902608 tw15923091098835481196 tw9397824425756564245 tw1924083880105712445 tw18305226541867205995 tw7191794453981885881 tw8798076893425080319 tw11018686261539616086 tw16088346234114800702 tw10209264668832162529 tw2006326413292887158 tw10833238479302033675 tw4211058223002173995 tw10293153461928674433 tw2339293577472427918 tw17657405841527787805 tw4920748434195833026 tw11115513311431053752 tw18272436964201490008 tw5448290337657352246 tw13124727420069872488 tw2425982360740481304 tw14417205238828736113 tw8995913693009277541 tw16116285395950030781 tw12706888400864481098 tw3232996056026477544 tw13655378489120443789 tw1900304349526949662 tw10756882959390382992 tw5642061136356122643 tw3190785924189492227 tw16414677002594190521 tw11607329891553827977 tw3056424910825655205 tw3231014400253203334 tw1759763206850634710 tw430767807366949672 tw18116323851081956430 tw14473858440184802943 tw313870988002920070 tw17754202186014038736 tw12049648952749778259 tw14079329766084306847 tw13848812885144344967 tw16859952516112283989 tw6769350113206604326 tw16832357039188622569 tw14122797190374025004 tw9219043381743060122 tw5590573483206794642 tw16476299611535109209 tw15711406087781893352 tw14964508709091610920 tw13960237788979045329 tw3681414868562147510 tw932536051031145363 tw8070719871718666842 tw9950798829275650614 tw7305090771186160290 tw7659775450164221330 tw2575879170640589030 tw5124606534813147679 tw11976206945265517792 tw781951529493309131 tw7590370385923281380 tw6443839456568194334 tw9095263337368757919 tw14379669634241926080 tw12783735201657294334 tw6644670711546241704 tw2602109606055694009 tw16704723107146896876 tw12986768125410250870 tw311777208019824496 tw5021354283071368943 tw12862916612812207850 tw3324892801781460506 tw8433148208634077271 tw4447017989910766219 tw12447702970408514165 tw3785348324611495063 tw5035422280396024269 tw12805800408401461342 tw15781979710163023015 tw17721775808789153872 tw18446353090304047691 tw10692648292185994023 tw11602284076768673287 tw8938927641903947938 tw11527408476356083543 tw7176518458019461407 tw13310217973553397091 tw7757054958921580820 tw12182621711174203402 tw4326823492916757310 tw11593458295306854575 tw17984198700816990062 tw5956299283272507874 tw748498768731105735 tw13581780741871851574 tw8717406747492248210 tw3733078443772182272 tw11076950117199709741 tw8721985572024062459 tw15456430836216377866 tw884394782078429014 tw17419240516823123191 tw2511577268544097101 tw14288416519397273218 tw11286603154559589985 tw12941333312584544439 tw7921726708477641686 tw3738511565051504168 tw9059899356454799049 tw1350126073931028678 tw10515727416475746215 tw14572953221061119355 tw16788556509862792463 tw16794215506533196326 tw13215215967127746989 tw12309562903406860994 tw18003606471005461114 tw17869479425655394161 tw2614895557187168919 tw12204171892535286100 tw5261202340853454659 tw12469472023392721908 tw14821578552794880634 tw14245848471484711061 tw4695280016401528266 tw12889324721630236415 tw2460535283266436165 tw10905993092160840276 tw9267881643962695847 tw17476233430909137948 tw18288258537032012782 tw17541188121578404982 tw14541683994247955081 tw2187707803518186177 tw13268474839256581541 tw2847131615154654768 tw5258085874116953568 tw4508544889837788612 tw12427201911902088975 tw12927009810355536865 tw14828731667480676343 tw16876121707878112463 tw13696697094148022836 tw17826766847898121325 tw18066996601472804661 tw7240338458197436249 tw14269371880308062001 tw1298808963043747880 tw7449910503288532792 tw418622375105971946 tw8594193933574762111 tw16073875332875640517 tw17852737305617792156 tw12866822939670605000 tw8235580438603546658 tw15984829146157790476 tw8738601539320460212 tw4570279222412339840 tw14304771919382044094 tw10606239533900768533 tw11986904794322095730 tw7614199193731659740 tw14169184259242420623 tw12674351083889692516 tw8769221012138035647 tw11963670765787893343 tw4709314391355374902 tw13664882824184587446 tw13831476744399343811 tw5966487887124061090 tw6602308658219165715 tw2726088510782469639 tw5337363865957066430 tw5571711342519249702 tw15459408402467479199 tw7276287631123717713 tw6413682260290630081 tw16274764771596146905 tw10973897465542124674 tw2257637047433602923 tw17347616194869737814 tw10628451231822657426 tw3709519846759310731:True)
namespace L2
end L2
namespace SM
end SM
namespace BF
end BF
namespace G
end G
open PySem PySem.Spec PyProof.Rows L2 SM BF G List
universe u
def ao:=@wpAny_bind
def au:=@wpAny_pure
def cu:=@Heap.get?_push_of_some
def cG:=@size_toArray
def dz:=@if_pos
def eG:=@if_neg
def eH:=@if_true
def eO:=@if_false
def fu:=@decide_eq_false
def g8:=@decide_eq_true
def iu:=@Heap.lt_size
def je:=@length_append
def ji:=@getElem?_eq_getElem
def jj:=@Heap.get?_push_size
def jo:=@Nat.lt_of_lt_of_le
def ju:=@getElem?_eq_none
def kj:=@mem_of_getElem?
def lu:=@getElem?_set_ne
def mq:=@length_map
def m5:=@PassesOwn.never
def m6:=@Nat.zero_le
def m8:=@Ne.symm
def ni:=@Int.toNat_natCast
def nu:=@mem_cons_of_mem
def nW:=@Nat.ne_of_lt
def n7:=@append_assoc
def ou:=@Option.some.inj
def rz:=@Nat.le_trans
def su:=@getElem?_set_self
def tu:=@mem_cons_self
def um:=@Bool.not_false
def uo:=@Bool.not_true
def uq:=@getElem?_map
def vm:=@Bool.and_eq_true
def vo:=@Prod.mk.injEq
def wu:=@Heap.get?_update_other
def xr:=@mem_append_right
def xu:=@mem_append_left
def yu:=@Nat.lt_succ_self
def za:=@Array.length_toList
def zc:=@Nat.testBit_and
def zu:=@drop_eq_getElem_cons
def Aa:=@Nat.zero_add
def Ae:=@wpAny_newObj_type
def Ai:=@mem_of_find?_eq_some
def Ao:=@mem_singleton
def Ba:=@mem_cons
def Bo:=@mem_append
def Bs:=@mem_map
def Bu:=@mem_range
def Ca:=@sizeLine_eq
def Ce:=@length_take
def Ci:=@beq_self_eq_true
def Cu:=@Nat.le_of_lt
def Di:=@Nat.sub_self
def Ds:=@Nat.lt_of_le_of_lt
def Du:=@Nat.ne_of_gt
def Ea:=@absurd
def Ei:=@List.getElem?_eq_none_iff
def Eo:=@beq_eq_false_iff_ne
def Es:=@wpAny_holding
def Eu:=@Nat.lt_irrefl
def Fd:=@False.elim
def Fe:=@length_range
def Fi:=@wpAny_truthy_bool
def Fo:=@Option.some.injEq
def Ga:=@Option.map_eq_some_iff
def Ge:=@Heap.get?_update_self
def Gi:=@map_append
def Gs:=@Bool.true_and
def Gu:=@wpAny_field
def Hi:=@Bool.false_and
def Ho:=@Bool.and_false
def Hs:=@Around.under_plainId
def Hu:=@Nat.lt_succ_of_lt
def Ia:=@wpAny_mono
def Ie:=@Int.cast_ofNat_Int
def Ii:=@codeAny_builtin
def Io:=@Nat.eq_of_testBit_eq
def Iu:=@range_succ
def Ja:=@find?_cons
def Je:=@Nat.not_lt
def Ji:=@Nat.mul_le_mul
def Jo:=@Nat.add_sub_cancel_left
def Js:=@Nat.mod_lt
def Ju:=@True.intro
def Ka:=@take_of_length_le
def Ke:=@range_succ_eq_map
def Ko:=@any_cons
def Ks:=@all_cons
def Ku:=@length_set
def La:=@take_length
def Le:=@replicate_succ
def Li:=@Heap.size_push
def Ls:=@Option.join_some
def Ma:=@Nat.le_add_right
def Mi:=@nodup_cons
def Ms:=@List.cons.injEq
def Mu:=@mem_flatMap
def Ni:=@getElem?_range
def Nu:=@drop_eq_nil_of_le
def Oa:=@wpAny_updateSeq
abbrev Oe(a:Type u):=List a
abbrev Oi:=Value
abbrev Oo(a:Type u):=Option a
abbrev Ou:=Shared
abbrev O4:=Addr
abbrev Pa:=Expr
abbrev Pb:=PySem.W.Frag
abbrev Pu:=Program
abbrev Ra:=Stmt
abbrev Ri:=World
abbrev Ro:=Around
abbrev Rr(a:Type u):=Array a
abbrev Ru:=Heap
set_option hygiene false
local macro_rules|`(ε $x*)=>`(some $x*)
local macro_rules|`(tactic|dsimp![$x,*]$[$l]?)=>`(tactic|simp only[List.replicate,Nat.reduceAdd,Nat.reduceSub,Ss,T4,Va,eA,eH,gA,iA,nB,$x,*]$[$l]?)
set_option hygiene true
local macro_rules|`(tactic|unhygienic $t)=>`(tactic|with_unfolding_all $t)
local macro_rules|`(nofun)=>`(by omega)
local macro_rules|`(⋯)=>`(by simp)
local macro_rules|`(tactic|simp![$x,*]$[$l]?)=>`(tactic|simp only[$x,*]$[$l]?)
def Å(_:True:=by rfl):True:=⟨⟩
def Æ:=Å._auto_1
def Ð(_:True:=by decide):True:=⟨⟩
def Ñ:=Ð._auto_1
def Ö(_:True:=by intro _;rfl):True:=⟨⟩
def Ø:=Ö._auto_1
def Þ(_:True:=by decide +kernel):True:=⟨⟩
def å:=Þ._auto_1
def æ(_:True:=by first | exact .inl rfl | exact .inr rfl | assumption):True:=⟨⟩
def ð:=æ._auto_1
def ñ(_:True:=by first | exact Or.inl rfl | exact Or.inr rfl):True:=⟨⟩
def ö:=ñ._auto_1
def ø(_:True:=by exact rfl):True:=⟨⟩
def þ:=ø._auto_1
def Ss:(a::l)[0]?=ε a:=rfl
def Te:(a::l)[i+1]?=l[i]?:=rfl
def T4:(a::l).length=l.length+1:=rfl
def Va:([]:Oe a).length=0:=rfl
def Uo:(a::l).map f=f a::l.map f:=rfl
def Wo:[].map f=[]:=rfl
def Uu:(a::l).set 0 b=b::l:=rfl
def Vi:(a::l).set (i+1) b=a::l.set i b:=rfl
def Vs:(ε a).map f=ε (f a):=rfl
def Wi:(ε a).bind f=f a:=rfl
def Wu:[]++l=l:=rfl
def Xe:a::l++k=a::(l++k):=rfl
def Wk{l:Oe b}{i:Nat}{a:b}:l[i]?=ε a->∃h,l[i]=a:=List.getElem?_eq_some_iff.mp
def Xo{l k:Oe a}(h:i<l.length):(l++k)[i]?=l[i]?:=List.getElem?_append_left h
def Vu:false≠true:=Bool.false_ne_true
def Us(n:Nat):n<=n:=Nat.le_refl n
def Zu{l k:Oe a}(h:l.length<=i):(l++k)[i]?=k[i-l.length]?:=List.getElem?_append_right h
def Ui(l:Oe a):l++[]=l:=List.append_nil l
def Ws:(false=true)=False:=Bool.false_eq_true
open PySem.W (Frag nsIn findIn keepIn fnOf mg_none_of)
namespace L2
noncomputable abbrev MB:=Sum Int Str
noncomputable def BK:MB->Oi->Bool
 | .inl k,v=>Value.isInt k v
 | .inr x,v=>Value.isStrOf x v
noncomputable def J7(w:Ri):MB->Int
 | .inl k=>hashInt k
 | .inr x=>hashStr w x
theorem bH:∀{k:MB}{v:Oi},BK k v=true->(∃i t,k=Sum.inl i/\v=Value.int i t)\/(∃x t,k=Sum.inr x/\v=Value.str x t)
 | .inl i,v,h=>by obtain⟨t,e⟩:=Value.isInt_shape (k:=i) (v:=v) h;exact .inl ⟨i,t,rfl,e⟩
 | .inr x,v,h=>by obtain⟨t,e⟩:=Value.isStrOf_shape (x:=x) (v:=v) h;exact .inr ⟨x,t,rfl,e⟩
def Er(i)(t):BK (.inl i) (.int i t)=true:=by simp[BK,Value.isInt]
def Hr(x)(t):BK (.inr x) (.str x t)=true:=by simp[BK,Value.isStrOf]
def K8(a b):decide ((Sum.inl a:MB)=Sum.inl b)=(a==b):=by
 by_cases e:a=b
 . subst e;simp
 . have h:¬(Sum.inl a:MB)=Sum.inl b:=fun q=>e (Sum.inl.inj q)
   rw[fu h];exact(Eo.mpr e).symm
def N8(a b):decide ((Sum.inr a:MB)=Sum.inr b)=decide (a=b):=by
 by_cases e:a=b
 . subst e;simp
 . have h:¬(Sum.inr a:MB)=Sum.inr b:=fun q=>e (Sum.inr.inj q)
   rw[fu h,fu e]
def L8(a)(b):decide ((Sum.inl a:MB)=Sum.inr b)=false:=fu (fun q=>nomatch q)
def M8(a)(b):decide ((Sum.inr a:MB)=Sum.inl b)=false:=fu (fun q=>nomatch q)
def QD(prog:Pu)(w:Ri):PySem.KeyKind prog w MB where
 is:=BK
 hash:=J7 w
 inj:=fun v a b n g=>by
  rcases bH n with⟨i,t,rfl,rfl⟩ | ⟨x,t,rfl,rfl⟩
  . rcases bH g with⟨j,u,rfl,e⟩ | ⟨y,u,rfl,e⟩
    . injection e with d _;rw[d]
    . exact nomatch e
  . rcases bH g with⟨j,u,rfl,e⟩ | ⟨y,u,rfl,e⟩
    . exact nomatch e
    . injection e with d _;rw[d]
 byValue:=fun k v h=>by rcases bH h with⟨i,t,rfl,rfl⟩ | ⟨x,t,rfl,rfl⟩<;>rfl
 pyHash:=fun f h=>by
  rcases bH f with⟨i,t,rfl,rfl⟩ | ⟨x,t,rfl,rfl⟩
  . exact wpAny_pyHash_int h
  . exact wpAny_pyHash_str h
 eqBool:=fun m f h=>by
  rcases bH m with⟨i,t,rfl,rfl⟩ | ⟨x,t,rfl,rfl⟩
  . rcases bH f with⟨j,u,rfl,rfl⟩ | ⟨y,u,rfl,rfl⟩
    . rw[K8]at h;exact wpAny_eqBool_int h
    . rw[L8]at h;exact SeqAt.EqAt.int_str i t y u _ _ _ _ h
  . rcases bH f with⟨j,u,rfl,rfl⟩ | ⟨y,u,rfl,rfl⟩
    . rw[M8]at h;exact SeqAt.EqAt.str_int x t j u _ _ _ _ h
    . rw[N8]at h;exact wpAny_eqBool_str h
 «strs»:=fun k x t v h=>by
  rcases bH h with⟨i,u,rfl,e⟩ | ⟨y,u,rfl,e⟩
  . exact nomatch e
  . injection e with d _
    subst d;cases v<;>rfl
def Ny(prog)(w)(i)(t):(QD prog w).is (.inl i) (.int i t)=true:=Er i t
def Py(prog)(w)(x)(t):(QD prog w).is (.inr x) (.str x t)=true:=Hr x t
inductive V where
 | non | bl (b:Bool) | int (i:Int) | str (x:Str) | byt (b:Array UInt8) | flt (b:UInt64) | ref (a:Addr) | ty (n:String)
 deriving DecidableEq
noncomputable def ve:V->Oi->Prop
 | .non,u=>u=Value.none
 | .bl b,u=>u=Value.bool b
 | .int i,u=>∃t,u=Value.int i t
 | .str x,u=>∃t,u=Value.str x t
 | .byt b,u=>∃t,u=Value.bytes b t
 | .flt b,u=>∃t,u=Value.float b t
 | .ref a,u=>u=Value.ref a
 | .ty n,u=>u=Value.type n
abbrev va:Oe V->Oe Oi->Prop:=Paired ve
def va.length(r:va xs us):xs.length=us.length:=Paired.length r
theorem va.get:∀{xs:Oe V}{us:Oe Oi}{i:Nat}{x:V},va xs us->xs[i]?=ε x->∃u,us[i]?=ε u/\ve x u
 | _,_,_,_,.nil,e=>by simp at e
 | _,_,0,_,.cons r _,e=>by simp at e;subst e;exact⟨_,rfl,r⟩
 | _,_,i+1,x,.cons _ t,e=>by obtain⟨u,b,a⟩:=va.get (i:=i) (x:=x) t (by simpa using e);exact⟨u,by simpa using b,a⟩
theorem va.set(r:ve x u):∀{xs:Oe V}{us:Oe Oi}(i:Nat),va xs us->va (xs.set i x) (us.set i u)
 | _,_,_,.nil=>.nil
 | _,_,0,.cons _ t=>.cons r t
 | _,_,i+1,.cons q t=>.cons q (va.set r i t)
theorem va.append:∀{xs ys:Oe V}{us a:Oe Oi},va xs us->va ys a->va (xs++ys) (us++a)
 | _,_,_,_,.nil,s=>s
 | _,_,_,_,.cons r t,s=>.cons r (va.append t s)
theorem va.take:∀{xs:Oe V}{us:Oe Oi}(n:Nat),va xs us->va (xs.take n) (us.take n)
 | _,_,0,_=>.nil
 | _,_,_+1,.nil=>.nil
 | _,_,n+1,.cons r t=>.cons r (va.take n t)
theorem va.drop:∀{xs:Oe V}{us:Oe Oi}(n:Nat),va xs us->va (xs.drop n) (us.drop n)
 | _,_,0,r=>r
 | _,_,_+1,.nil=>.nil
 | _,_,n+1,.cons _ t=>va.drop n t
def va.none_of:∀{xs:Oe V}{us:Oe Oi}{i:Nat},va xs us->xs[i]?=none->us[i]?=none:=fun {xs us i} r e=>by have b:=r.length;have a:xs.length<=i:=Ei.mp e;exact Ei.mpr nofun
def av:Oo V->Oo Oi->Prop
 | some v,some u=>ve v u
 | none,none=>True
 | _,_=>False
def KV{a:Type}:Oe (a×V)->Oe (a×Oi)->Prop:=Paired fun(p:a×V) (q:a×Oi)=>p.1=q.1/\ve p.2 q.2
noncomputable def kV:MB->V
 | .inl i=>.int i
 | .inr x=>.str x
inductive HO where
 | lst (xs:List V)
 | tup (xs:List V)
 | dK (kvs:List (MB×V)) | dT (kvs:List (List MB×V))
 | set (S:Int->Bool) (n:Nat)
 | ins (C dx:Addr) (fs:List (Str×V))
 | own (x:Addr)
 | xd (fs:List (Str×V))
 | met (f x:Addr)
 | rng (lo hi:Int)
 | frz (o:Obj) (u:HO)
 | tbl (ps:Array Value)
 | ext (φ:Heap->Prop)
noncomputable abbrev Hp:=O4->Oo HO
noncomputable def pB(H:Hp)(a:O4)(o:HO):Hp:=fun b=>if b=a then ε o else H b
def oC:pB H a o a=ε o:=by unfold pB;rw[dz rfl]
def XA(h:b≠a):pB H a o b=H b:=by unfold pB;rw[eG h]
def jU{H:Hp}(h:H a=ε o)(h':H b=ε u)(d:o≠u):a≠b:=by intro e;subst e;rw[h]at h';exact d (ou h')
def UC{H:Hp}(h:H a=ε o)(h':H b=none):a≠b:=by intro e;subst e;rw[h]at h';cases h'
section
variable(P:Pu)(w:Ri)
def Ye(H:Hp)(h:Ru)(a:O4):HO->Prop
 | .lst e=>e.length<=sizeLine/\∃(d:Oe Oi) (n:Nat),va e d/\h.get? a=ε { cls:=.type "list",data:=.seq d.toArray n }
 | .tup e=>e.length<=sizeLine/\∃d:Oe Oi,va e d/\IsTup h a d.toArray
 | .dK b=>b.length<=sizeLine/\(a==sysModules)=false/\∃k,KV b k/\h.DictOf (QD P w) a k
 | .dT b=>b.length<=sizeLine/\(a==sysModules)=false/\∃e:Oe (Oe MB×O4×Oi),
  Paired (fun(p:Oe MB×V) (q:Oe MB×O4×Oi)=>p.1=q.1/\H q.2.1=ε (.tup (p.1.map kV))/\ve p.2 q.2.2) b e/\
  ∃o s E,h.get? a=ε o/\o.ExactDict/\o.data=.dict s E/\s.toList=e.map (entryOfKey (tupleKind (QD P w)))/\(e.map (·.1)).Nodup
 | .set S n=>h.SetOf (intKind P w) a S n
 | .ins C i fs=>H i=ε (.own a)/\fs.length<=1000/\i≠a/\h.get? a=ε (PySem.W.instObj C i)/\
  ∃g,h.Ns1 i g/\(∀f,av (fs.lookup f) (g f))/\PySem.Within g (fs.map (·.1))
 | .own _=>∃o,h.get? a=ε o
 | .xd fs=>∃g,h.Ns1 a g/\∀f,av (fs.lookup f) (g f)
 | .rng B D=>∃t u v,h.get? a=ε { cls:=.type "range",data:=.fields #[.int B t,.int D u,.int 1 v] }
 | .frz o u=>h.get? a=ε o/\Ye H h a u
 | .tbl y=>h.get? a=ε { cls:=.none,data:=.fields y }
 | .met f x=>h.get? a=ε (PySem.W.methodObj (.ref f) (.ref x))
 | .ext j=>j h/\(∃o,h.get? a=ε o)/\∀r m:Ru,j r->(∀o,r.get? a=ε o->m.get? a=ε o)->j m
def wl(H:Hp)(h:Ru):Prop:=∀a o,H a=ε o->Ye P w H h a o
end
section
variable{P:Pu}{w:Ri}{H g:Hp}{h h':Ru}{a:O4}{o:HO}
def Ye.lt(x:Ye P w H h a o):a<h.objs.size:=by
 cases o with
 | lst d=>obtain⟨_,_,_,_,e⟩:=x;exact iu e
 | tup d=>obtain⟨_,_,_,p⟩:=x;exact p.lt
 | dK b=>obtain⟨_,_,_,_,o,_,_,e,_⟩:=x;exact iu e
 | dT b=>obtain⟨_,_,_,_,o,_,_,e,_⟩:=x;exact iu e
 | set S n=>obtain⟨o,_,_,_,e,_⟩:=x;exact iu e
 | ins C q fs=>obtain⟨_,_,_,e,_⟩:=x;exact iu e
 | own y=>obtain⟨_,e⟩:=x;exact iu e
 | xd fs=>obtain⟨_,⟨_,_,_,e,_⟩,_⟩:=x;exact iu e
 | rng k m=>obtain⟨_,_,_,e⟩:=x;exact iu e
 | frz ob u=>obtain⟨e,_⟩:=x;exact iu e
 | tbl j=>exact iu (show h.get? a=ε _ from x)
 | met f y=>exact iu (show h.get? a=ε _ from x)
 | ext i=>obtain⟨_,⟨_,e⟩,_⟩:=x;exact iu e
theorem Paired.gg:∀{e:Oe j}{d:Oe i},Paired F e d->(∀a b,F a b->G a b)->Paired G e d
 | _,_,.nil,_=>.nil
 | _,_,.cons r t,f=>.cons (f _ _ r) (Paired.gg t f)
def Ye.stay(x:Ye P w H h a o)(k:∀b u,(b=a\/H b=ε (.own a))->h.get? b=ε u->h'.get? b=ε u)
 (L:∀b,H b=ε (.own a)->g b=ε (.own a)) (J:∀b s,H b=ε (.tup s)->g b=ε (.tup s)):Ye P w g h' a o:=by
 induction o with
 | lst s=>obtain⟨z,m,n,r,e⟩:=x;exact⟨z,m,n,r,k _ _ (.inl rfl) e⟩
 | tup s=>obtain⟨z,m,r,ob,e,c⟩:=x;exact⟨z,m,r,ob,k _ _ (.inl rfl) e,c⟩
 | dK E=>obtain⟨z,y,I,r,ob,i,j,e,c⟩:=x;exact⟨z,y,I,r,ob,i,j,k _ _ (.inl rfl) e,c⟩
 | dT E=>obtain⟨z,y,s,r,ob,i,j,e,c⟩:=x;exact⟨z,y,s,Paired.gg r fun p q z=>⟨z.1,J _ _ z.2.1,z.2.2⟩,ob,i,j,k _ _ (.inl rfl) e,c⟩
 | set S n=>obtain⟨ob,i,j,t,e,c⟩:=x;exact⟨ob,i,j,t,k _ _ (.inl rfl) e,c⟩
 | ins C R fs=>obtain⟨d,z,ne,e,D,⟨B,i,j,e2,c⟩,r⟩:=x;exact⟨L _ d,z,ne,k _ _ (.inl rfl) e,D,⟨B,i,j,k _ _ (.inr d) e2,c⟩,r⟩
 | own y=>obtain⟨ob,e⟩:=x;exact⟨ob,k _ _ (.inl rfl) e⟩
 | xd fs=>obtain⟨D,⟨B,i,j,e,c⟩,r⟩:=x;exact⟨D,⟨B,i,j,k _ _ (.inl rfl) e,c⟩,r⟩
 | rng O Q=>obtain⟨t,u,v,e⟩:=x;exact⟨t,u,v,k _ _ (.inl rfl) e⟩
 | frz ob u ih=>obtain⟨e,q⟩:=x;exact⟨k _ _ (.inl rfl) e,ih q⟩
 | tbl F=>have e:h.get? a=ε { cls:=.none,data:=.fields F }:=x;show h'.get? a=ε { cls:=.none,data:=.fields F };exact k a _ (.inl rfl) e
 | met f y=>have e:h.get? a=ε (PySem.W.methodObj (.ref f) (.ref y)):=x;show h'.get? a=ε (PySem.W.methodObj (.ref f) (.ref y));exact k a _ (.inl rfl) e
 | ext M=>obtain⟨p,⟨o,e⟩,st⟩:=x;exact⟨st _ _ p fun o q=>k _ _ (.inl rfl) q,⟨o,k _ _ (.inl rfl) e⟩,st⟩
def wl.lt(x:wl P w H h)(e:H a=ε o):a<h.objs.size:=(x a o e).lt
def wl.fresh(x:wl P w H h)(e:h.objs.size<=a):H a=none:=by
 cases q:H a with
 | none=>rfl
 | some u=>exact Ea (jo (x.lt q) e) (Eu _)
def wl.kept(x:wl P w H h)(k:∀b u,h.get? b=ε u->h'.get? b=ε u):wl P w H h':=fun a o e=>(x a o e).stay (fun b u z q=>k b u q) (fun z q=>q) fun z z q=>q
def wl.laid(x:wl P w H h)(k:∀b u,h.get? b=ε u->h'.get? b=ε u)(hp:h.objs.size<=a)(new:Ye P w (pB H a o) h' a o):wl P w (pB H a o) h':=fun b u e=>by
 have d:=x.fresh hp;by_cases f:b=a
 . subst f;rw[oC]at e;cases e;exact new
 . rw[XA f]at e;exact(x b u e).stay (fun c v z q=>k c v q) (fun c q=>by rw[XA (UC q d)];exact q) fun c i q=>by rw[XA (UC q d)];exact q
end
def Rd(H:Hp)(a:O4)(u:HO):Prop:=H a=ε u\/∃o,H a=ε (.frz o u)
def Rd.ok(r:Rd H a u)(x:wl P w H h):Ye P w H h a u:=by
 rcases r with r | ⟨o,r⟩
 . exact x a u r
 . obtain⟨_,q⟩:=x a _ r;exact q
noncomputable def LU:Oo HO->Prop
 | some (.lst _)=>True
 | some (.dK _)=>True
 | some (.dT _)=>True
 | some (.set _ _)=>True
 | some (.ins _ _ _)=>True
 | some (.ext _)=>True
 | _=>False
section
variable{P:Pu}{w:Ri}{H:Hp}{h h':Ru}{x e:O4}{a:HO}
def wl.write(ok:wl P w H h)(i:LU (H x))(he:e=x\/H e=ε (.own x))(k:∀b u,b≠e->h.get? b=ε u->h'.get? b=ε u)(n:∃u,h'.get? e=ε u)
 (new:Ye P w (pB H x a) h' x a):wl P w (pB H x a) h':=fun b u q=>by
 have f:∀c y,H c=ε (.own y)->c≠x:=fun c y r z=>by subst z;rw[r]at i;exact i
 have m:∀c g,H c=ε (.tup g)->c≠x:=fun c g r z=>by subst z;rw[r]at i;exact i
 by_cases j:b=x
 . subst j;rw[oC]at q;cases q;exact new
 . rw[XA j]at q;by_cases d:b=e
   . have o:H b=ε (.own x):=by
      rcases he with z | z
      . exact Ea (d.trans z) j
      . rw[d];exact z
     rw[q]at o;cases o;obtain⟨v,p⟩:=n;exact⟨v,by rw[d];exact p⟩
   . refine(ok b u q).stay (fun c v hc r=>k c v ?_ r) (fun c r=>by rw[XA (f c b r)];exact r) fun c g r=>by rw[XA (m c g r)];exact r
     rcases hc with rfl | hc
     . exact d
     . rintro rfl;rcases he with z | z
       . exact f c b hc z
       . rw[hc]at z;cases z;exact j rfl
end
structure Un(fs ex:List Addr)(H H':Hp)(h h':Heap):Prop where
 keep:∀b o,h.get? b=ε o->H b=none->b∉fs->b∉ex->h'.get? b=ε o
 slot:∀b o,h.get? b=ε o->H b=none->b∈fs->b∉ex->∃sl,h'.get? b=ε { o with slots:=sl }
 free:∀b o,h.get? b=ε o->H b=none->b∉ex->H' b=none
 there:∀b o,h.get? b=ε o->b∉ex->∃o',h'.get? b=ε o'
 tups:∀b xs,H b=ε (.tup xs)->H' b=ε (.tup xs)
 bj:∀b o u,H b=ε (.frz o u)->H' b=ε (.frz o u)
 bp:∀b ps,H b=ε (.tbl ps)->∃more,H' b=ε (.tbl (ps++more))
section
variable{fs d ex f:Oe O4}{H g i:Hp}{h h1 h2 h':Ru}{a x e:O4}{o:HO}
def Un.any(u:Un fs ex H g h h1)(q:h.get? b=ε ob)(n:H b=none)(j:b∉ex):∃m,h1.get? b=ε { ob with slots:=m }:=by
 by_cases k:b∈fs
 . exact u.slot b ob q n k j
 . exact⟨ob.slots,u.keep b ob q n k j⟩
def Un.trans(a:Un fs ex H g h h1)(b:Un fs ex g i h1 h2):Un fs ex H i h h2 where
 keep:=fun c ob q n p j=>b.keep c ob (a.keep c ob q n p j) (a.free c ob q n j) p j
 slot:=fun c ob q n p j=>by obtain⟨C,k⟩:=a.slot c ob q n p j;obtain⟨r,e2⟩:=b.slot c _ k (a.free c ob q n j) p j;exact⟨r,e2⟩
 free:=fun c ob q n j=>by obtain⟨s,k⟩:=a.there c ob q j;exact b.free c s k (a.free c ob q n j) j
 there:=fun c ob q j=>by obtain⟨s,k⟩:=a.there c ob q j;exact b.there c s k j
 tups:=fun c m q=>b.tups c m (a.tups c m q)
 bj:=fun c ob m q=>b.bj c ob m (a.bj c ob m q)
 bp:=fun c u q=>by obtain⟨B,k⟩:=a.bp c u q;obtain⟨y,e2⟩:=b.bp c _ k;exact⟨B++y,by rw[e2,Array.append_assoc]⟩
def Un.kept(k:∀b u,h.get? b=ε u->h'.get? b=ε u):Un fs ex H H h h':=
 ⟨fun b ob q z z z=>k b ob q,fun b ob q z z z=>⟨ob.slots,k b ob q⟩,fun z z z n z=>n,fun b ob q z=>⟨ob,k b ob q⟩,fun z z q=>q,fun z z z q=>q,fun z j q=>⟨#[],by rw[q];simp⟩⟩
def Un.refl:Un fs ex H H h h:=Un.kept fun z z q=>q
def Un.laid(k:∀b u,h.get? b=ε u->h'.get? b=ε u)(hp:h.objs.size<=a)(j:H a=none):Un fs ex H (pB H a o) h h' where
 keep:=fun b u q z z z=>k b u q
 slot:=fun b u q z z z=>⟨u.slots,k b u q⟩
 free:=fun b u q n z=>by rw[XA (nW (jo (iu q) hp))];exact n
 there:=fun b u q z=>⟨u,k b u q⟩
 tups:=fun b m q=>by rw[XA (UC q j)];exact q
 bj:=fun b u m q=>by rw[XA (UC q j)];exact q
 bp:=fun b p q=>⟨#[],by rw[XA (UC q j),q];simp⟩
def Un.write(m:LU (H x))(he:e=x\/H e=ε (.own x))(k:∀b u,b≠e->h.get? b=ε u->h'.get? b=ε u)(s:∃u,h'.get? e=ε u):Un fs ex H (pB H x o) h h':=by
 have y:∀b,H b=none->b≠x:=fun b n z=>by subst z;rw[n]at m;exact m
 have B:∀b,H b=none->b≠e:=fun b n z=>by
  subst z;rcases he with r | r
  . exact y b n r
  . rw[n]at r;cases r
 have p:∀b u,H b=ε u->¬LU (ε u)->b≠x:=fun b u q D z=>by subst z;rw[q]at m;exact D m
 refine⟨fun b u q n v v=>k b u (B b n) q,fun b u q n v v=>⟨u.slots,k b u (B b n) q⟩,fun b u q n v=>by rw[XA (y b n)];exact n,fun b u q v=>?_,
  fun b C q=>by rw[XA (p b _ q fun z=>z)];exact q,fun b u C q=>by rw[XA (p b _ q fun z=>z)];exact q,fun b E q=>⟨#[],by rw[XA (p b _ q fun z=>z),q];simp⟩⟩
 by_cases j:b=e
 . subst j;exact s
 . exact⟨u,k b u j q⟩
def Un.mono(u:Un fs ex H g h h1)(hs:∀b∈fs,b∈d)(k:∀b∈ex,b∈f):Un d f H g h h1:=
 ⟨fun b ob q n m j=>u.keep b ob q n (fun z=>m (hs b z)) fun z=>j (k b z),fun v v q n v j=>u.any q n fun z=>j (k _ z),fun b ob q n j=>u.free b ob q n fun z=>j (k b z),fun b ob q j=>u.there b ob q fun z=>j (k b z),u.tups,u.bj,u.bp⟩
end
noncomputable def Y6(h:Ru)(H:Hp):Oe O4:=(List.range h.objs.size).filter fun a=>(H a).isSome
def WG(h:Ru)(H:Hp):Ru:=PySem.W.hideAll h (Y6 h H)
def ur(h)(H):(WG h H).objs.size=h.objs.size:=PySem.W.hideAll_size _ _
def Gb(e:h.get? b=ε o)(n:H b=none):(WG h H).get? b=ε o:=
 PySem.W.hideAll_get _ e fun a=>by have q:(H b).isSome=true:=(mem_filter.mp a).2;rw[n]at q;simp at q
def im(e:(WG h H).get? b=ε o):h.get? b=ε o/\H b=none:=by
 have a:h.get? b=ε o:=PySem.W.of_hideAll (Y6 h H) e;refine⟨a,?_⟩;cases q:H b with
 | none=>rfl
 | some x=>have d:b∈Y6 h H:=mem_filter.mpr ⟨Bu.mpr (iu a),by simp[q]⟩;have z:(WG h H).get? b=none:=PySem.W.hideAll_none (Y6 h H) d;rw[z]at e;cases e
noncomputable def io(g h:Ru)(L:O4):Oe (O4×Obj):=(List.range h.objs.size).filterMap fun a=>if a=L\/(g.get? a).isSome=true then none else(h.get? a).map fun o=>(a,o)
def rest(g h:Ru)(L d:O4):Oe (O4×Obj):=(io g h L).filter fun p=>decide (p.1≠d)
structure Mod(K:Frag)(mg:Str->Option Value)(base:Heap):Prop where
 kin:K.In base
 glob:base.Ns mainGlobals mg
 blt:∃mb,base.Ns builtinsNs mb/\∀x:Str,x ≠ "__name__" ->mb x=bootBuiltins x
 nolimit:base.NoLimit
structure Cx where
 prog:Program
 w:World
 K:Frag
 mg:Str->Option Value
 base:Heap
 A:Around
 N:List Str
 s₀:Shared
 H₀:Hp
 env:Env
 outer:List Env
 stack:List Env
 ex:List Addr
 fn:Str->Bool
 calm:Bool
 pn:List (Addr×Obj)
 xe:Value->Shared->Prop
noncomputable def WK(l:Oe Env):Oe O4:=l.filterMap (·.frame)
abbrev Cx.fs(X:Cx):Oe O4:=WK X.outer
def D6(a:Scope)(x:Str):Prop:=a.names.lookup x=ε .local\/a.names.lookup x=ε .cell\/a.names.lookup x=ε .free
def sN(a:Scope)(x:Str):Prop:=a.names.lookup x=ε .local\/a.names.lookup x=ε .cell
def d7(env:Env)(h:Ru)(m:Str->Oo Oi)(x:Str)(u:Oi):Prop:=
 (env.kindOf x=ε .local/\m x=ε u)\/((env.kindOf x=ε .cell\/env.kindOf x=ε .free)/\∃c,env.cells.lookup x=ε c/\h.IsCell c (ε u))
structure Cx.Ok(X:Cx):Prop where
 mod:Mod X.K X.mg X.base
 kind:X.env.scope.kind=.function
 glob:X.env.globals=mainGlobals
 blt:X.env.builtins=builtinsNs
 above:X.s₀.heap.objs.size<=X.env.locals
 inj:∀x y c,X.env.cells.lookup x=ε c->X.env.cells.lookup y=ε c->x=y
 has:∀x,(X.env.kindOf x=ε .cell\/X.env.kindOf x=ε .free)->∃c,X.env.cells.lookup x=ε c
 cab:∀x c,X.fn x=true->X.env.cells.lookup x=ε c->X.s₀.heap.objs.size<=c
 hd:X.calm=true->X.A.handled=none
 frames:X.A.frames=ε X.stack
 stk:X.stack=X.outer\/(X.stack=X.env::X.outer/\X.env.frame=ε X.env.locals)
 exf:∀b∈X.ex,b≠X.env.locals/\∀x c,X.env.cells.lookup x=ε c->c≠b
 bs:∀b o,X.base.get? b=ε o->X.s₀.heap.get? b=ε o/\X.H₀ b=none
 bsz:X.base.objs.size<=X.s₀.heap.objs.size
 eu:∀b o,X.base.get? b=ε o->b∉X.ex
 eI:∀b∈X.ex,b∉X.fs
 bq:X.s₀.heap.FunFrames X.base X.outer
 frf:∀b∈X.fs,X.H₀ b=none
structure u7(X:Cx)(pins:List (Addr×Obj))(σ:List (Option V))(H:Hp)(s:Shared):Prop where
 ok:X.Ok
 os:s.os=X.s₀.os
 bare:AllBare s.gens
 base:Un X.fs X.ex X.H₀ H X.s₀.heap s.heap
 loc:∃m,s.heap.Ns X.env.locals m/\∀(i:Nat)(x:Str)(v:V),X.N[i]?=ε x->σ[i]?=ε (ε v)->D6 X.env.scope x->∃u,ve v u/\d7 X.env s.heap m x u
 cell:∀x c,X.env.cells.lookup x=ε c->∃v,s.heap.IsCell c v
 free:H X.env.locals=none
 ci:∀x c,X.env.cells.lookup x=ε c->H c=none
 pin:∀p∈X.pn++pins,s.heap.get? p.1=ε p.2/\H p.1=none/\p.1≠X.env.locals/\p.1∉X.fs/\∀v,p.2.data≠.cell v
 hok:wl X.prog X.w H s.heap
 len:σ.length=X.N.length
section
variable{X:Cx}{f:Oe (O4×Obj)}{g:Oe (Oo V)}{H w:Hp}{s:Ou}{h':Ru}
def Cx.Ok.ip(ok:X.Ok)(e:X.base.get? b=ε o):b∉X.fs:=fun a=>by have:=(ok.bq.mem a).1;rw[e]at this;cases this
def u7.bs(I:u7 X f g H s):∀b o,X.base.get? b=ε o->s.heap.get? b=ε o/\H b=none:=fun b o e=>⟨I.base.keep b o (I.ok.bs b o e).1 (I.ok.bs b o e).2 (I.ok.ip e) (I.ok.eu b o e),I.base.free b o (I.ok.bs b o e).1 (I.ok.bs b o e).2 (I.ok.eu b o e)⟩
def u7.bk(I:u7 X f g H s):∀b o,X.base.get? b=ε o->s.heap.get? b=ε o:=fun b o e=>(I.bs b o e).1
def u7.mod(I:u7 X f g H s):Mod X.K X.mg X.base:=I.ok.mod
def u7.kIn(I:u7 X f g H s):X.K.In s.heap:=I.ok.mod.kin.keeps I.bk
def u7.nolimit(I:u7 X f g H s):s.heap.NoLimit:=I.ok.mod.nolimit.keeps I.bk
def u7.lt(I:u7 X f g H s):X.env.locals<s.heap.objs.size:=let ⟨_,hn,_⟩:=I.loc;hn.lt
def u7.sz(I:u7 X f g H s):X.s₀.heap.objs.size<=s.heap.objs.size:=rz I.ok.above (Cu I.lt)
def u7.iq(I:u7 X f g H s)(h:s.heap.objs.size<=a):a∉X.fs:=fun d=>by obtain⟨_,o,b,_⟩:=I.ok.bq.mem d;exact Ea (jo (iu b) (rz I.sz h)) (Eu _)
def u7.cne(I:u7 X f g H s):∀x c,X.env.cells.lookup x=ε c->c≠X.env.locals:=fun x c e z=>by obtain⟨v,o,d,hd⟩:=I.cell x c e;obtain⟨m,⟨h,i,j,a,b,_⟩,_⟩:=I.loc;rw[z,a]at d;cases d;rw[b]at hd;cases hd
def u7.bq(I:u7 X f g H s):s.heap.FunFrames X.base X.outer:=by
 have all:∀(l:Oe Env),(∀b∈WK l,b∈X.fs)->X.s₀.heap.FunFrames X.base l->s.heap.FunFrames X.base l:=by
  intro l
  induction l with
  | nil=>intro _ _;trivial
  | cons env r ih=>
   intro hs m;obtain⟨n,⟨L,o,a,k,j,hd⟩,i⟩:=m;have h:L∈X.fs:=hs L (by unfold WK;rw[filterMap_cons,a];exact tu);obtain⟨p,e⟩:=I.base.slot L o j (I.ok.frf L h) h fun z=>I.ok.eI L z h
   exact⟨n,⟨L,_,a,k,e,hd⟩,ih (fun b d=>hs b (by unfold WK;rw[filterMap_cons,a];exact nu _ d)) i⟩
 exact all X.outer (fun q d=>d) I.ok.bq
def u7.stack(I:u7 X f g H s):s.heap.FunFrames X.base X.stack:=by
 rcases I.ok.stk with e | ⟨e,b⟩
 . rw[e];exact I.bq
 . rw[e];obtain⟨m,a,_⟩:=I.loc;refine .cons (by rw[I.ok.kind];decide) b a ?_ I.bq;exact Heap.get?_none_of_le (rz I.ok.bsz I.ok.above)
def u7.gh(I:u7 X f g H s):∀b∈WK X.stack,b∈X.env.locals::X.fs:=fun b a=>by
 rcases I.ok.stk with e | ⟨e,d⟩
 . rw[e]at a;exact nu _ a
 . rw[e]at a;unfold WK at a;rw[filterMap_cons,d]at a;exact a
def u7.hG(I:u7 X f g H s):∀b∈WK X.stack,H b=none:=fun b hb=>by
 rcases Ba.mp (I.gh b hb)with e | hb
 . rw[e];exact I.free
 . obtain⟨_,o,a,_⟩:=I.ok.bq.mem hb;exact I.base.free b o a (I.ok.frf b hb) fun z=>I.ok.eI b z hb
def u7.step{ch:Oe O4}(I:u7 X f g H s)
 (j:∀b∈ch,(b∈X.ex\/X.s₀.heap.objs.size<=b)/\b≠X.env.locals/\(∀x c,X.env.cells.lookup x=ε c->c≠b)/\∀p∈X.pn++f,p.1≠b)
 (keep:∀b o,b≠X.env.locals->b∉X.fs->b∉ch->s.heap.get? b=ε o->H b=none->h'.get? b=ε o)
 (slot:∀b o,b≠X.env.locals->b∈X.fs->b∉ch->s.heap.get? b=ε o->H b=none->∃P,h'.get? b=ε { o with slots:=P }) (free:∀b o,b∉ch->s.heap.get? b=ε o->H b=none->w b=none)
 (there:∀b o,b∉ch->s.heap.get? b=ε o->∃J,h'.get? b=ε J)
 (tups:∀b D,H b=ε (.tup D)->w b=ε (.tup D)) (bj:∀b o u,H b=ε (.frz o u)->w b=ε (.frz o u)) (bp:∀b M,H b=ε (.tbl M)->∃more,w b=ε (.tbl (M++more)))
 (ns:∀m,s.heap.Ns X.env.locals m->h'.Ns X.env.locals m) (hok:wl X.prog X.w w h') (Z:AllBare g') :
 u7 X f g w { s with heap:=h',gens:=g',drawn:=d',toks:=t' }:=by
 have L:∀b o,X.s₀.heap.get? b=ε o->b≠X.env.locals:=fun b o e=>nW (jo (iu e) I.ok.above)
 have B:∀b o,X.s₀.heap.get? b=ε o->b∉X.ex->b∉ch:=fun b o e a E=>by
  rcases(j b E).1 with z | z
  . exact a z
  . exact Ea (jo (iu e) z) (Eu _)
 have y:∀x c,X.env.cells.lookup x=ε c->∀v,s.heap.IsCell c v->h'.IsCell c v:=fun x c e v S=>by
  obtain⟨o,F,hd⟩:=S;have h:c∉ch:=fun z=>(j c z).2.2.1 x c e rfl
  by_cases R:c∈X.fs
  . obtain⟨P,q⟩:=slot c o (I.cne x c e) R h F (I.ci x c e);exact⟨_,q,hd⟩
  . exact⟨o,keep c o (I.cne x c e) R h F (I.ci x c e),hd⟩
 refine⟨I.ok,I.os,Z,⟨fun b o e n E a=>?_,fun b o e n E a=>?_,fun b o e n a=>?_,fun b o e a=>?_,fun b D e=>tups b D (I.base.tups b D e),fun b o D e=>bj b o D (I.base.bj b o D e),fun b M e=>?_⟩,?_,fun x c e=>?_,?_,fun x c e=>?_,fun p hp=>?_,hok,I.len⟩
 . exact keep b o (L b o e) E (B b o e a) (I.base.keep b o e n E a) (I.base.free b o e n a)
 . obtain⟨P,C⟩:=I.base.slot b o e n E a;obtain⟨O,e2⟩:=slot b _ (L b o e) E (B b o e a) C (I.base.free b o e n a);exact⟨O,e2⟩
 . obtain⟨J,C⟩:=I.base.there b o e a;exact free b J (B b o e a) C (I.base.free b o e n a)
 . obtain⟨J,C⟩:=I.base.there b o e a;exact there b J (B b o e a) C
 . obtain⟨U,C⟩:=I.base.bp b M e;obtain⟨T,e2⟩:=bp b _ C;exact⟨U++T,by rw[e2,Array.append_assoc]⟩
 . obtain⟨m,W,Y⟩:=I.loc;refine⟨m,ns m W,fun i x v C e2 e3=>?_⟩;obtain⟨u,r,l⟩:=Y i x v C e2 e3;refine⟨u,r,?_⟩;rcases l with l | ⟨k,c,e,z⟩
   . exact .inl l
   . exact .inr ⟨k,c,e,y x c e _ z⟩
 . obtain⟨v,z⟩:=I.cell x c e;exact⟨v,y x c e v z⟩
 . obtain⟨m,⟨o,_,_,F,_⟩,_⟩:=I.loc;exact free _ o (fun z=>(j _ z).2.1 rfl) F I.free
 . obtain⟨v,o,F,hd⟩:=I.cell x c e;exact free c o (fun z=>(j c z).2.2.1 x c e rfl) F (I.ci x c e)
 . obtain⟨e,n,ne,Q,d⟩:=I.pin p hp;have h:p.1∉ch:=fun z=>(j p.1 z).2.2.2 p hp rfl
   exact⟨keep p.1 p.2 ne Q h e n,free p.1 p.2 h e n,ne,Q,d⟩
def u7.un(I:u7 X f g H s)(u:Un X.fs [] H w s.heap h')(hok:wl X.prog X.w w h'):u7 X f g w { s with heap:=h',toks:=t' }:=by
 obtain⟨m,⟨o,C,D,j,r⟩,_⟩:=id I.loc;obtain⟨x,q⟩:=u.any j I.free ⋯;exact I.step (g':=s.gens) (d':=s.drawn) (ch:=[]) (fun v z=>nomatch z) (fun b o v d v e n=>u.keep b o e n d ⋯) (fun b o v d v e n=>u.slot b o e n d ⋯) (fun b o v e n=>u.free b o e n ⋯) (fun b o v e=>u.there b o e ⋯) u.tups u.bj u.bp (fun B p=>by
  obtain⟨y,h,i,a,k⟩:=p;rw[j]at a;cases a;exact⟨_,h,i,q,k⟩) hok I.bare
def u7.call(I:u7 X f g H s)(u:Un (WK X.stack) ch H w s.heap h')(hok:wl X.prog X.w w h')(C:AllBare g')
 (h:∀b∈ch,(b∈X.ex\/X.s₀.heap.objs.size<=b)/\b≠X.env.locals/\(∀x c,X.env.cells.lookup x=ε c->c≠b)/\∀p∈X.pn++f,p.1≠b) :
 u7 X f g w { s with heap:=h',gens:=g',drawn:=d',toks:=t' }:=by
 obtain⟨m,⟨o,L,M,q,r⟩,_⟩:=id I.loc;obtain⟨E,i⟩:=u.any q I.free fun z=>(h _ z).2.1 rfl
 exact I.step (ch:=ch) h (fun b o i D a e n=>u.keep b o e n (fun z=>(Ba.mp (I.gh b z)).elim i D) a) (fun b o v v a e n=>u.any e n a) (fun b o a e n=>u.free b o e n a) (fun b o a e=>u.there b o e a) u.tups u.bj u.bp (fun J B=>by
  obtain⟨F,j,k,d,y⟩:=B;rw[q]at d;cases d;exact⟨_,j,k,i,y⟩) hok C
def u7.turned(I:u7 X f g H s)(k:∀b o,b≠it->s.heap.get? b=ε o->h'.get? b=ε o)(j:H it=none)(h:it≠X.env.locals)
 (h1:it∈X.ex\/X.s₀.heap.objs.size<=it) (h2:∀x c,X.env.cells.lookup x=ε c->c≠it) (C:∀p∈X.pn++f,p.1≠it):u7 X f g H { s with heap:=h',toks:=t' }:=by
 have d:∀b u,H b=ε u->b≠it:=fun b u e z=>by rw[z,j]at e;cases e
 refine I.step (g':=s.gens) (d':=s.drawn) (ch:=[it]) (fun b B=>?_) (fun b o t t a e t=>k b o (fun z=>a (by simp[z])) e) (fun b o t t a e t=>⟨o.slots,k b o (fun z=>a (by simp[z])) e⟩) (fun t t t t n=>n)
  (fun b o a e=>⟨o,k b o (fun z=>a (by simp[z])) e⟩) (fun t t e=>e) (fun t t t e=>e) (fun b F e=>⟨#[],by rw[e];simp⟩) (fun m y=>?_) (fun b u e=>?_) I.bare
 . have e:b=it:=by simpa using B
   subst e;exact⟨h1,h,h2,C⟩
 . obtain⟨o,D,E,i,r⟩:=y;exact⟨o,D,E,k _ o (m8 h) i,r⟩
 . refine(I.hok b u e).stay (fun c v a q=>k c v ?_ q) (fun t q=>q) fun t t q=>q
   rcases a with z | z
   . rw[z];exact d b u e
   . exact d c _ z
def u7.tok(I:u7 X f g H s)(t):u7 X f g H { s with toks:=t }:=I.un (h':=s.heap) (t':=t) Un.refl I.hok
def u7.kept(I:u7 X f g H s)(k:∀b u,s.heap.get? b=ε u->h'.get? b=ε u):u7 X f g H { s with heap:=h',toks:=t' }:=I.un (Un.kept k) (I.hok.kept k)
def u7.laid(I:u7 X f g H s)(k:∀b u,s.heap.get? b=ε u->h'.get? b=ε u)(hp:s.heap.objs.size<=a)(new:Ye X.prog X.w (pB H a o) h' a o) :
 u7 X f g (pB H a o) { s with heap:=h',toks:=t' }:=I.un (Un.laid k hp (I.hok.fresh hp)) (I.hok.laid k hp new)
def u7.write(I:u7 X f g H s)(d:LU (H x))(he:e=x\/H e=ε (.own x))(k:∀b u,b≠e->s.heap.get? b=ε u->h'.get? b=ε u)(a:∃u,h'.get? e=ε u)
 (new:Ye X.prog X.w (pB H x o) h' x o):u7 X f g (pB H x o) { s with heap:=h',toks:=t' }:=I.un (Un.write d he k a) (I.hok.write d he k a new)
def u7.hH(I:u7 X f g H s)(h:∀p∈a,s.heap.get? p.1=ε p.2/\H p.1=none/\p.1≠X.env.locals/\p.1∉X.fs/\∀v,p.2.data≠.cell v):u7 X a g H s:=
 ⟨I.ok,I.os,I.bare,I.base,I.loc,I.cell,I.free,I.ci,fun p hp=>(Bo.mp hp).elim (fun z=>I.pin p (xu _ z)) (h p),I.hok,I.len⟩
def DY{N:Oe Str}(d:N.Nodup){i j:Nat}(a:N[i]?=ε x)(b:N[j]?=ε x):i=j:=by obtain⟨k,e⟩:=Wk a;obtain⟨h,e2⟩:=Wk b;exact(getElem_inj d).mp (e.trans e2.symm)
def FX(I:u7 X f g H s)(hN:X.N.Nodup)(R:X.N[i]?=ε x)(C:sN X.env.scope x)(r:ve v u)
 (h:∀s',u7 X f (g.set i (ε v)) H s'->(∃a,Heap.SameBut a s.heap s'.heap/\(a=X.env.locals\/X.env.cells.lookup x=ε a))->Q () s') (hf:autoParam (X.fn x=true\/X.env.scope.names.lookup x=ε .local) ð):wpAny M A (storeName X.env x u) Q E s:=by
 obtain⟨m,hn,hl⟩:=id I.loc;have S:(X.env.scope.kind==.class || (X.env.scope.kind==.module&&X.env.locals !=X.env.globals))=false:=by rw[I.ok.kind];rfl
 have F:i<g.length:=by rw[I.len];exact(Wk R).1
 have cne:=I.cne;have tracked:∀{a:O4}{h':Ru},(∃o,s.heap.get? a=ε o/\H a=none)->Heap.SameBut a s.heap h'->wl X.prog X.w H h':=fun {a h'} ha hs b ob e=>by
  obtain⟨_,_,D⟩:=ha;refine(I.hok b ob e).stay (fun c W hc q=>(hs.2 c ?_).trans q) (fun t q=>q) fun t t q=>q
  rintro rfl;rcases hc with rfl | hc
  . rw[D]at e;cases e
  . rw[D]at hc;cases hc
 rcases C with hk | hk
 . refine wpAny_storeName_local hk hn (fun h' a1 hs=>?_) S;obtain⟨oL,_,_,a0,_⟩:=id hn;refine h _ ⟨I.ok,I.os,I.bare,⟨fun b o e n O C=>?_,fun b o e n O C=>?_,I.base.free,fun b o e C=>?_,I.base.tups,I.base.bj,I.base.bp⟩,⟨_,a1,fun j y v' B e2 e3=>?_⟩,fun y c e=>?_,I.free,I.ci,fun p hp=>?_,tracked ⟨oL,a0,I.free⟩ hs,by simpa using I.len⟩ ⟨_,hs,.inl rfl⟩
   . exact(hs.2 b (nW (jo (iu e) I.ok.above))).trans (I.base.keep b o e n O C)
   . obtain⟨sl,B⟩:=I.base.slot b o e n O C;exact⟨sl,(hs.2 b (nW (jo (iu e) I.ok.above))).trans B⟩
   . obtain⟨o',B⟩:=I.base.there b o e C;exact⟨o',(hs.2 b (nW (jo (iu e) I.ok.above))).trans B⟩
   . by_cases J:j=i
     . subst J;rw[R]at B;cases B;rw[su F]at e2;cases e2;exact⟨u,r,.inl ⟨hk,by simp⟩⟩
     . rw[lu (m8 J)]at e2;obtain⟨u',r',q⟩:=hl j y v' B e2 e3;refine⟨u',r',?_⟩;rcases q with⟨k,e⟩ | ⟨k,c,e,z⟩
       . refine .inl ⟨k,?_⟩;have:y≠x:=fun e=>J (DY hN B (e ▸ R))
         simp[this,e]
       . exact .inr ⟨k,c,e,z.sameBut hs (cne y c e)⟩
   . obtain⟨W,z⟩:=I.cell y c e;exact⟨W,z.sameBut hs (cne y c e)⟩
   . obtain⟨e,n,ne,nf,d⟩:=I.pin p hp;exact⟨(hs.2 p.1 ne).trans e,n,ne,nf,d⟩
 . have L:X.fn x=true:=by
    rcases hf with z | z
    . exact z
    . rw[z]at hk;cases hk
   obtain⟨c,hc⟩:=I.ok.has x (.inl hk);obtain⟨W,z⟩:=I.cell x c hc;refine wpAny_storeName_cell I.ok.kind hk hc z (fun h' U hs=>?_);obtain⟨oc,P,Z⟩:=id z;refine h { s with heap:=h' } ⟨I.ok,I.os,I.bare,⟨fun b o e n O C=>?_,fun b o e n O C=>?_,I.base.free,fun b o e C=>?_,I.base.tups,I.base.bj,I.base.bp⟩,⟨m,hn.sameBut hs (m8 (cne x c hc)),fun j y v' B e2 e3=>?_⟩,fun y Y e=>?_,I.free,I.ci,fun p hp=>?_,tracked ⟨oc,P,I.ci x c hc⟩ hs,by simpa using I.len⟩ ⟨c,hs,.inr hc⟩
   . exact(hs.2 b (nW (jo (iu e) (I.ok.cab x c L hc)))).trans (I.base.keep b o e n O C)
   . obtain⟨sl,B⟩:=I.base.slot b o e n O C;exact⟨sl,(hs.2 b (nW (jo (iu e) (I.ok.cab x c L hc)))).trans B⟩
   . obtain⟨o',B⟩:=I.base.there b o e C;exact⟨o',(hs.2 b (nW (jo (iu e) (I.ok.cab x c L hc)))).trans B⟩
   . by_cases J:j=i
     . subst J;rw[R]at B;cases B;rw[su F]at e2;cases e2;exact⟨u,r,.inr ⟨.inl hk,c,hc,U⟩⟩
     . rw[lu (m8 J)]at e2;obtain⟨u',r',q⟩:=hl j y v' B e2 e3;refine⟨u',r',?_⟩;rcases q with q | ⟨k,Y,e,z'⟩
       . exact .inl q
       . refine .inr ⟨k,Y,e,z'.sameBut hs ?_⟩;rintro rfl;exact J (DY hN B (I.ok.inj _ _ _ e hc ▸ R))
   . by_cases T:Y=c
     . subst T;exact⟨_,U⟩
     . obtain⟨w2,z2⟩:=I.cell y Y e;exact⟨w2,z2.sameBut hs T⟩
   . obtain⟨e,n,ne,nf,d⟩:=I.pin p hp;refine⟨(hs.2 p.1 ?_).trans e,n,ne,nf,d⟩;intro q;rw[q,P]at e;have q':oc=p.2:=ou e;exact d W (by rw[<- q'];exact Z)
def FZ(I:u7 X f g H s)(j:X.N.Nodup)(d:X.N[i]?=ε x)(b:sN X.env.scope x)(r:ve v u)
 (h:∀a,u7 X f (g.set i (ε v)) H a->Q () a) (e:autoParam (X.fn x=true\/X.env.scope.names.lookup x=ε .local) ð):wpAny M A (storeName X.env x u) Q E s:=
 FX I j d b r (fun a k q=>h a k) e
def u7.call'(I:u7 X f g H s)(h:s'.os=s.os)(u:Un (WK X.stack) ch H w s.heap s'.heap)(hok:wl X.prog X.w w s'.heap)(i:AllBare s'.gens)
 (a:∀b∈ch,(b∈X.ex\/X.s₀.heap.objs.size<=b)/\b≠X.env.locals/\(∀x c,X.env.cells.lookup x=ε c->c≠b)/\∀p∈X.pn++f,p.1≠b):u7 X f g w s':=by
 obtain⟨h',g',d',t',d⟩:=s';have e:d=s.os:=h;subst e;exact I.call (g':=g') (t':=t') (d':=d') u hok i a
end
abbrev XK:=Oi->Oo O4->Hp->Prop
noncomputable abbrev St:=Oe (Oo V)
abbrev VK:=V->Hp->Prop
abbrev TE:=St->Hp->VK->Prop
abbrev TT:=St->Hp->(Bool->Hp->Prop)->Prop
abbrev TA:=St->Hp->(Oe V->Hp->Prop)->Prop
structure xH where
 nx:St->Hp->Prop
 rt:VK
 bk:St->Hp->Prop:=fun _ _=>False
 ct:St->Hp->Prop:=fun _ _=>False
abbrev TS:=xH->St->Hp->Prop
def EP(X:Cx)(a:Oe (O4×Obj))(d:St)(Q:VK)(u:Oi)(e:Ou):Prop:=∃v b,u7 X a d b e/\ve v u/\Q v b
def TP(X:Cx)(a:Oe (O4×Obj))(e:St)(Q:Bool->Hp->Prop)(b:Bool)(f:Ou):Prop:=∃d,u7 X a e d f/\Q b d
def AP(X:Cx)(a:Oe (O4×Obj))(e:St)(Q:Oe V->Hp->Prop)(us:Oe Oi)(f:Ou):Prop:=∃b d,u7 X a e d f/\va b us/\Q b d
set_option tactic.hygienic true in
def SP(X:Cx)(b:Oe (O4×Obj))(D:xH)(f:Flow)(e:Ou):Prop:=
 match f with
 | .next=>∃a d,u7 X b a d e/\D.nx a d
 | .brk=>∃a d,u7 X b a d e/\D.bk a d
 | .cont=>∃a d,u7 X b a d e/\D.ct a d
 | .ret u=>∃v a d,u7 X b a d e/\ve v u/\D.rt v d
def PE(X:Cx)(e:Pa)(t:TE):Prop:=
 ∀(a:Oe (O4×Obj))(s:Ou)(b:St)(H:Hp)(Q:VK),u7 X a b H s->t b H Q->wpAny (model X.prog X.w) X.A (eval e X.env) (EP X a b Q) X.xe s
def PT(X:Cx)(e:Pa)(t:TT):Prop:=
 ∀(a:Oe (O4×Obj))(s:Ou)(b:St)(H:Hp)(Q:Bool->Hp->Prop),u7 X a b H s->t b H Q->wpAny (model X.prog X.w) X.A (isTrue e X.env (eval e X.env)) (TP X a b Q) X.xe s
def PW(X:Cx)(e:Pa)(t:TT):Prop:=
 ∀(b:Sem Oi)(a:Oe (O4×Obj))(s:Ou)(d:St)(H:Hp)(Q:Bool->Hp->Prop),u7 X a d H s->t d H Q->wpAny (model X.prog X.w) X.A (isTrue e X.env b) (TP X a d Q) X.xe s
def PW.pt(h:PW X e t):PT X e t:=h _
def PA(X:Cx)(d:Oe Pa)(t:TA):Prop:=
 ∀(pos:Pos)(a:Oe (O4×Obj))(s:Ou)(b:St)(H:Hp)(Q:Oe V->Hp->Prop),u7 X a b H s->t b H Q->wpAny (model X.prog X.w) X.A (spliced (backTo pos (starEach d X.env))) (AP X a b Q) X.xe s
def PS(X:Cx)(st:Ra)(t:TS):Prop:=
 ∀(a:Oe (O4×Obj))(s:Ou)(b:St)(H:Hp)(D:xH),u7 X a b H s->t D b H->wpAny (model X.prog X.w) X.A (exec st X.env) (SP X a D) X.xe s
def PSs(X:Cx)(st:Oe Ra)(t:TS):Prop:=
 ∀(a:Oe (O4×Obj))(s:Ou)(b:St)(H:Hp)(D:xH),u7 X a b H s->t D b H->wpAny (model X.prog X.w) X.A (execs st X.env) (SP X a D) X.xe s
def wB(h:wpAny M A t Q E s)(e:∀a s,Q a s->d a s):wpAny M A t d E s:=Ia h e fun q q x=>x
section
variable{X:Cx}
noncomputable def z8(i:Nat):TE:=fun a H Q=>∃v,a[i]?=ε (ε v)/\Q v H
noncomputable def tC(v:V):TE:=fun _ H Q=>Q v H
def Dj (q:X.N[i]?=ε x) (k:D6 X.env.scope x) (hd:autoParam ((x==("__debug__" :Str))=false) Ñ) (f:autoParam ((x==("__classdict__" :Str))=false) Ñ):PE X (.Name x pos) (z8 i):=by
 intro d s j H Q I h;obtain⟨v,e,h⟩:=h;obtain⟨m,n,p⟩:=I.loc;obtain⟨u,r,l⟩:=p i x v q e k;have b:EP X d j Q u s:=⟨v,H,I,r,h⟩;rcases l with⟨hk,o⟩ | ⟨hk,c,g,a⟩
 . exact wpAny_Name (wpAny_loadName_local I.ok.kind hk n o b) hd
 . rcases hk with hk | hk
   . exact wpAny_Name (wpAny_loadName_cell I.ok.kind hk g a b) hd
   . exact wpAny_Name (wpAny_loadName_free I.ok.kind hk g a b f) hd
def yj{i j pos}:PE X (.Constant (.int i) j pos) (tC (.int i)):=fun q q q H q I h=>wpAny_Constant_int ⟨.int i,H,I.tok _,⟨_,rfl⟩,h⟩
def Ux{b j pos}:PE X (.Constant (.bool b) j pos) (tC (.bl b)):=fun q q q H q I h=>Constant_bool ⟨.bl b,H,I,rfl,h⟩
def zj{j pos}:PE X (.Constant .none j pos) (tC .non):=fun q q q H q I h=>Constant_none ⟨.non,H,I,rfl,h⟩
def Cj{x j pos}:PE X (.Constant (.str x) j pos) (tC (.str x)):=fun q q q H q I h=>Calls.Constant_str ⟨.str x,H,I.tok _,⟨_,rfl⟩,h⟩
def Gl(X:Cx)(x:Str):Prop:=X.env.kindOf x=ε .globalImplicit
def xP(I:u7 X a b H s)(e:Gl X x)(d:X.mg x=ε u)(h:Q u s)
 (hd:autoParam ((x==("__debug__" :Str))=false) Ñ):wpAny (model X.prog X.w) X.A (eval (.Name x pos) X.env) Q E s:=
 Calls.Name_function_global I.ok.kind e (Calls.loadGlobal_global (by rw[I.ok.glob];exact I.mod.glob.keeps I.bk) d h) hd
def nG(I:u7 X a b H s)(g:Gl X x)(f:X.mg x=none)(d:bootBuiltins x=ε u)(h:Q u s)
 (e:autoParam (x ≠ "__name__" ) Ñ) (hd:autoParam ((x==("__debug__" :Str))=false) Ñ):wpAny (model X.prog X.w) X.A (eval (.Name x pos) X.env) Q E s:=by
 obtain⟨k,j,i⟩:=I.mod.blt;exact Calls.Name_function_global I.ok.kind g (Calls.loadGlobal_builtin (by rw[I.ok.glob];exact I.mod.glob.keeps I.bk) f (by rw[I.ok.blt];exact j.keeps I.bk) ((i x e).trans d) h) hd
def ir (b:Gl X x) (a:X.mg x=ε u) (r:ve v u) (hd:autoParam ((x==("__debug__" :Str))=false) Ñ):PE X (.Name x pos) (tC v):=
 fun q q q H q I h=>xP I b a ⟨v,H,I,r,h⟩ hd
def i4 (e:Gl X x) (d:X.mg x=none) (a:bootBuiltins x=ε u) (r:ve v u) (b:autoParam (x ≠ "__name__" ) Ñ) (hd:autoParam ((x==("__debug__" :Str))=false) Ñ):PE X (.Name x pos) (tC v):=
 fun q q q H q I h=>nG I e d a ⟨v,H,I,r,h⟩ b hd
variable{a b:Pa}{f n:TE}{pos:Pos}
def PC(X:Cx)(op:CmpOp)(a b:Pa)(t:TE):Prop:=
 ∀(d:Oe (O4×Obj))(s:Ou)(h:St)(H:Hp)(Q:VK),u7 X d h H s->t h H Q->
  wpAny (model X.prog X.w) X.A (eval a X.env) (fun v g=>wpAny (model X.prog X.w) X.A (eval b X.env) (fun u e=>wpAny (model X.prog X.w) X.A (compareOp op v u) (EP X d h Q) X.xe e) X.xe g) X.xe s
def Vc(b)(h:op≠.In)(h2:op≠.NotIn):behindInMarks op b=false:=by
 have d:(op==CmpOp.In)=false:=by cases op<;>first | rfl | exact Ea rfl h
 have e2:(op==CmpOp.NotIn)=false:=by cases op<;>first | rfl | exact Ea rfl h2
 cases b<;>simp[behindInMarks,d,e2]
noncomputable def tB(t:TE):TT:=fun d H Q=>t d H fun x e=>∃c,x=.bl c/\Q c e
def Oq(h:PC X op a b t)(h1:behindInMarks op b=false:=by first | exact Vc _ (by decide) (by decide) | rfl):PE X (.Compare a [op] [b] pos) t:=fun d s e H Q I hw=>wpAny_Compare1 (h d s e H Q I hw) h1
def Oj(h:PE X e t)(he:autoParam (∀g,isTrue e X.env g=(do let v <- g;standAt e.pos;holding [v] (truthy v))) Ø):PT X e (tB t):=by intro i s j H Q I hw;refine isTrue_plain (wB (h i s j H _ I hw) fun v r k=>?_) (he _);obtain⟨x,p,o,m,q1⟩:=k;obtain⟨d,rfl,q⟩:=q1;cases m;exact Fi ⟨p,o,q⟩
variable{g k:TT}{rest:Oe Pa}
noncomputable def i8(t u:TT):TT:=fun d H Q=>t d H fun c e=>if c=true then u d e Q else Q false e
noncomputable def tOr(t u:TT):TT:=fun d H Q=>t d H fun c e=>if c=true then Q true e else u d e Q
noncomputable def t8(t:TT):TT:=fun d H Q=>t d H fun c e=>Q (!c) e
def i5(j:PT X a g):PW X (.BoolOp .And [a] pos) g:=by
 intro m d s i H Q I h;refine isTrue_and (wB (j d s i H Q I h) fun c o e=>?_);cases c with
 | true=>exact isTrue_and_nil e
 | false=>exact e
def Rj(j:PT X a g):PW X (.BoolOp .Or [a] pos) g:=by
 intro m d s i H Q I h;refine isTrue_or (wB (j d s i H Q I h) fun c o e=>?_);cases c with
 | false=>exact isTrue_or_nil e
 | true=>exact e
def Pj(r:PT X a g)(q:PW X (.BoolOp .And (b::rest) pos) k):PW X (.BoolOp .And (a::b::rest) pos) (i8 g k):=by
 intro o d s e H Q I h;refine isTrue_and (wB (r d s e H _ I h) fun c p m=>?_);obtain⟨j,i,q1⟩:=m;cases c with
 | true=>exact q o d p e j Q i q1
 | false=>exact⟨j,i,q1⟩
def Xx(r:PT X a g)(q:PW X (.BoolOp .Or (b::rest) pos) k):PW X (.BoolOp .Or (a::b::rest) pos) (tOr g k):=by
 intro o d s e H Q I h;refine isTrue_or (wB (r d s e H _ I h) fun c p m=>?_);obtain⟨j,i,q1⟩:=m;cases c with
 | true=>exact⟨j,i,q1⟩
 | false=>exact q o d p e j Q i q1
def Nj(i:PT X a g):PT X (.UnaryOp .Not a pos) (t8 g):=by intro d s e H Q I h;exact isTrue_not (i d s e H (fun c j=>Q (!c) j) I h)
noncomputable def Tq(f n:TE):TE:=fun d H Q=>f d H fun x e=>∃c,x=.bl c/\if c=true then n d e Q else Q (.bl false) e
noncomputable def bx(f:TE):TE:=fun d H Q=>f d H fun x e=>∃c,x=.bl c/\Q (.bl (!c)) e
def Bj{op}(h:PE X a t):PE X (.BoolOp op [a] pos) t:=fun d s e H Q I hw=>BoolOp_one (h d s e H Q I hw)
def Nq(r:PE X a f)(q:PE X (.BoolOp .And (b::rest) pos) n):PE X (.BoolOp .And (a::b::rest) pos) (Tq f n):=by
 intro d s e H Q I h;refine BoolOp_and (wB (r d s e H _ I h) fun v o m=>?_);obtain⟨x,j,i,p,q1⟩:=m;obtain⟨c,rfl,q1⟩:=q1;cases p;refine Fi ?_;cases c with
 | true=>exact q d o e j Q i q1
 | false=>exact⟨.bl false,j,i,rfl,q1⟩
def Aj(m:PE X a f):PE X (.UnaryOp .Not a pos) (bx f):=by intro d s e H Q I h;refine UnaryOp_ (wB (m d s e H _ I h) fun v q i=>?_);obtain⟨x,p,o,j,q1⟩:=i;obtain⟨c,rfl,q1⟩:=q1;cases j;exact not_of (Fi ⟨.bl (!c),p,o,rfl,q1⟩)
noncomputable def tIf(t:TT)(f n:TE):TE:=fun d H Q=>t d H fun c e=>if c=true then f d e Q else n d e Q
def Ol(q:PT X c g)(u:PE X a f)(r:PE X b n):PE X (.IfExp c a b pos) (tIf g f n):=by
 intro e s i H Q I h;refine wpAny_IfExp (wB (q e s i H _ I h) fun d j p=>?_);obtain⟨o,m,q1⟩:=p;cases d with
 | true=>exact u e j i o Q m q1
 | false=>exact r e j i o Q m q1
end
def vn(K:Pb)(H:Hp)(a:O4)(xs:Oe V):Prop:=
 Rd H a (.lst xs)\/
  ∃(o:Obj) (b:Rr Oi) (n:Nat),K.lookup a=ε o/\o.cls=.type "list" /\ o.dict=none/\o.data=.seq b n/\b.size<=sizeLine/\va xs b.toList
def LG(K:Pb)(H:Hp)(a:O4)(xs:Oe V):Prop:=
 Rd H a (.tup xs)\/
  ∃(o:Obj) (b:Rr Oi) (n:Nat),K.lookup a=ε o/\o.cls=.type "tuple" /\ o.data=.seq b n/\b.size<=sizeLine/\va xs b.toList
noncomputable def o7:Oi->Oo V
 | .none=>ε .non
 | .bool b=>ε (.bl b)
 | .int i _=>ε (.int i)
 | .str x _=>ε (.str x)
 | .bytes b _=>ε (.byt b)
 | .float b _=>ε (.flt b)
 | .ref a=>ε (.ref a)
 | .type n=>ε (.ty n)
 | _=>none
def ve.abs(r:ve x u):o7 u=ε x:=by
 cases x with
 | non=>cases r;rfl
 | bl _=>cases r;rfl
 | int _=>obtain⟨t,rfl⟩:=r;rfl
 | str _=>obtain⟨t,rfl⟩:=r;rfl
 | byt _=>obtain⟨t,rfl⟩:=r;rfl
 | flt _=>obtain⟨t,rfl⟩:=r;rfl
 | ref _=>cases r;rfl
 | ty _=>cases r;rfl
def ve.inj{x y:V}{u:Oi}(r:ve x u)(q:ve y u):x=y:=ou (r.abs.symm.trans q.abs)
theorem va.inj:∀{xs ys:Oe V}{us:Oe Oi},va xs us->va ys us->xs=ys
 | _,_,_,.nil,.nil=>rfl
 | _,_,_,.cons r t,.cons r' t'=>by rw[r.inj r',va.inj t t']
section
variable{X:Cx}{b:Oe (O4×Obj)}{c:St}{H:Hp}{s:Ou}{a:O4}{xs ys:Oe V}
def vn.of{K:Pb}(h:H a=ε (.lst xs)):vn K H a xs:=.inl (.inl h)
def u7.list(I:u7 X b c H s)(h:vn X.K H a xs):∃d,va xs d/\PlainL s.heap a d.toArray/\xs.length<=sizeLine:=by
 rcases h with h | ⟨o,d,n,f,g,hd,hs,i,r⟩
 . obtain⟨z,d,n,r,e⟩:=h.ok I.hok;exact⟨d,r,⟨_,n,e,rfl,rfl,rfl⟩,z⟩
 . refine⟨d.toList,r,⟨o,n,I.kIn a o f,g,hd,by simpa using hs⟩,?_⟩;have e:=r.length;simp![za]at e;omega
def u7.tuple(I:u7 X b c H s)(h:LG X.K H a xs):∃d,va xs d/\IsTup s.heap a d.toArray/\xs.length<=sizeLine:=by
 rcases h with h | ⟨o,d,n,f,g,hs,i,r⟩
 . obtain⟨z,d,r,p⟩:=h.ok I.hok;exact⟨d,r,p,z⟩
 . refine⟨d.toList,r,⟨o,I.kIn a o f,g,n,by simpa using hs⟩,?_⟩;have e:=r.length;simp![za]at e;omega
def u7.fw(I:u7 X b c H s)(h:vn X.K H a xs)(h':vn X.K H a ys):xs=ys:=by
 obtain⟨f,r,⟨o,n,e,_,_,d⟩,_⟩:=I.list h;obtain⟨its',j,⟨m,p,g,_,_,i⟩,_⟩:=I.list h';rw[e]at g;cases g;rw[d]at i;injection i with k _
 have:f=its':=by simpa using congrArg Array.toList k
 subst this;exact r.inj j
def u7.hI(I:u7 X b c H s)(h:LG X.K H a xs)(h':LG X.K H a ys):xs=ys:=by
 obtain⟨f,r,⟨o,e,_,n,d⟩,_⟩:=I.tuple h;obtain⟨its',j,⟨m,g,_,p,i⟩,_⟩:=I.tuple h';rw[e]at g;cases g;rw[d]at i;injection i with k _
 have:f=its':=by simpa using congrArg Array.toList k
 subst this;exact r.inj j
end
noncomputable abbrev Cx.wish(X:Cx)(E:Oi->Ou->Prop):Cx:={ X with xe:=E }
abbrev Cx.nox(X:Cx):Cx:=X.wish fun _ _=>False
def Cx.Ok.wish{X:Cx}(ok:X.Ok)(E):(X.wish E).Ok:=
 ⟨ok.mod,ok.kind,ok.glob,ok.blt,ok.above,ok.inj,ok.has,ok.cab,ok.hd,ok.frames,ok.stk,ok.exf,ok.bs,ok.bsz,ok.eu,ok.eI,ok.bq,ok.frf⟩
def Cx.Ok.cw{X:Cx}(ok:(X.wish E).Ok):X.Ok:=
 ⟨ok.mod,ok.kind,ok.glob,ok.blt,ok.above,ok.inj,ok.has,ok.cab,ok.hd,ok.frames,ok.stk,ok.exf,ok.bs,ok.bsz,ok.eu,ok.eI,ok.bq,ok.frf⟩
section
variable{X:Cx}{a:Oe (O4×Obj)}{b:St}{H:Hp}{s:Ou}{E:Oi->Ou->Prop}
def u7.wish(I:u7 X a b H s)(E):u7 (X.wish E) a b H s:=⟨I.ok.wish E,I.os,I.bare,I.base,I.loc,I.cell,I.free,I.ci,I.pin,I.hok,I.len⟩
def u7.cw(I:u7 (X.wish E) a b H s):u7 X a b H s:=⟨I.ok.cw,I.os,I.bare,I.base,I.loc,I.cell,I.free,I.ci,I.pin,I.hok,I.len⟩
set_option tactic.hygienic true in
def SP.cw(h:SP (X.wish E) a D f s'):SP X a D f s':=by
 cases f with
 | next=>obtain⟨d,e,I,q⟩:=h;exact⟨d,e,I.cw,q⟩
 | brk=>obtain⟨d,e,I,q⟩:=h;exact⟨d,e,I.cw,q⟩
 | cont=>obtain⟨d,e,I,q⟩:=h;exact⟨d,e,I.cw,q⟩
 | ret u=>obtain⟨v,d,e,I,r,q⟩:=h;exact⟨v,d,e,I.cw,r,q⟩
def PSs.nox{st:Oe Ra}(h:PSs X.nox st t):PSs X st t:=fun a s b H D I hw=>Ia (h a s b H D (I.wish _) hw) (fun v v q=>q.cw) fun v v z=>Fd z
end
section
variable{X:Cx}{st:Ra}{rest:Oe Ra}{t u:TS}{e:Pa}{te:TE}{pos:Pos}
noncomputable def Zq:TS:=fun D a H=>D.nx a H
noncomputable def x8(t u:TS):TS:=fun D a H=>t { D with nx:=u D } a H
def ja:PSs X [] Zq:=fun q q a H q I h=>wpAny_execs_nil ⟨a,H,I,h⟩
def Bp(h1:PS X st t)(h2:PSs X rest u):PSs X (st::rest) (x8 t u):=by
 intro a s d H D I h;refine wpAny_execs_cons (wB (h1 a s d H { D with nx:=u D } I h) fun f g q=>?_);cases f with
 | next=>obtain⟨b,j,i,q⟩:=q;exact h2 a g b j D i q
 | ret v=>exact q
 | brk=>exact q
 | cont=>exact q
def jb(h1:PS X st t):PSs X [st] t:=by
 intro a s b H D I h;refine wpAny_execs_cons (wB (h1 a s b H D I h) fun f d q=>?_);cases f with
 | next=>exact wpAny_execs_nil q
 | ret v=>exact q
 | brk=>exact q
 | cont=>exact q
def u7.quiet(I:u7 X a b H s):interactive X.env=false:=by simp[interactive,I.ok.kind]
noncomputable def Vq(te:TE):TS:=fun D a H=>te a H fun _ b=>D.nx a b
def jn(he:PE X e te)(hs:autoParam (swapsWith e none pos.line X.env=pure false) Æ):PS X (.Expr e pos) (Vq te):=by intro a s b H D I h;exact wpAny_Expr_any (wB (he a s b H _ I h) fun v g ⟨x,f,d,i,q1⟩=>⟨b,f,d,q1⟩) I.quiet hs
noncomputable def w8(te:TE):TS:=fun D a H=>te a H D.rt
def Lj(he:PE X e te):PS X (.Return (ε e) pos) (w8 te):=by intro a s b H D I h;exact wpAny_Return_some (wB (he a s b H _ I h) fun v i ⟨x,g,f,d,q1⟩=>⟨x,b,g,f,d,q1⟩)
noncomputable def p8(c:TT)(t u:TS):TS:=fun D a H=>c a H fun b d=>if b=true then t D a d else u D a d
def Wx(n:PT X c tc)(p:PSs X a t)(o:PSs X b u):PS X (.If c a b pos) (p8 tc t u):=by
 intro f s g H D I h;refine wpAny_If (wB (n f s g H _ I h) fun d i m=>?_);obtain⟨k,j,q1⟩:=m;cases d with
 | true=>exact p f i g k D j q1
 | false=>exact o f i g k D j q1
end
abbrev TG:=V->St->Hp->(St->Hp->Prop)->Prop
abbrev zQ:=Oe V->St->Hp->(St->Hp->Prop)->Prop
def PG(X:Cx)(a:Pa)(t:TG):Prop:=
 ∀(b:Oe (O4×Obj))(s:Ou)(e:St)(H:Hp)(v:V)(u:Oi)(Q:St->Hp->Prop),u7 X b e H s->ve v u->t v e H Q->
  wpAny (model X.prog X.w) X.A (assign a X.env u) (fun _ g=>∃d f,u7 X b d f g/\Q d f) X.xe s
def A6(X:Cx)(h:Oe Pa)(t:zQ):Prop:=
 ∀(a:Oe (O4×Obj))(s:Ou)(d:St)(H:Hp)(e:Oe V)(f:Oe Oi)(Q:St->Hp->Prop),u7 X a d H s->va e f->t e d H Q->
  wpAny (model X.prog X.w) X.A (assignInOrder ((assignEach h X.env).map (·.2)) f) (fun _ i=>∃b g,u7 X a b g i/\Q b g) X.xe s
abbrev AQ:=V->V->V->Hp->(Hp->Prop)->Prop
def MU(X:Cx)(t:AQ):Prop:=
 ∀(a:Oe (O4×Obj))(s:Ou)(b:St)(H:Hp)(o i v:V)(d e u:Oi)(Q:Hp->Prop),u7 X a b H s->ve o d->ve i e->ve v u->t o i v H Q->
  wpAny (model X.prog X.w) X.A (setItem d e u) (fun _ g=>∃f,u7 X a b f g/\Q f) X.xe s
section
variable{X:Cx}{pos:Pos}
noncomputable def cQ(i:Nat):TG:=fun v a H Q=>Q (a.set i (ε v)) H
def OS(f:X.N.Nodup)(d:X.N[i]?=ε x)(b:sN X.env.scope x)(e:autoParam (X.fn x=true\/X.env.scope.names.lookup x=ε .local) ð):PG X (.Name x pos) (cQ i):=by intro a s j H v u Q I r h;exact wpAny_assign_Name (FZ I f d b r (fun k g=>⟨_,H,g,h⟩) e)
noncomputable def A7:zQ:=fun b a H Q=>b=[]/\Q a H
noncomputable def Tz(t:TG)(u:zQ):zQ:=fun d b H Q=>∃v r,d=v::r/\t v b H fun a e=>u r a e Q
def jp:A6 X [] A7:=by intro a s b H d f Q I r h;obtain⟨e,h⟩:=h;subst e;cases r;exact assignInOrder_nil ⟨b,H,I,h⟩
def MY(h1:PG X e t)(h2:A6 X b u)
 (hs:autoParam ((assignEach (e::b) X.env).map (·.2)=assign e X.env::(assignEach b X.env).map (·.2)) Æ):A6 X (e::b) (Tz t u):=by
 intro a s f H o q Q I r h;obtain⟨v,p,k,h⟩:=h;subst k;cases r with
 | cons r j=>rw[hs];refine assignInOrder_cons (wB (h1 a s f H _ _ _ I r h) fun z i g=>?_);obtain⟨d,n,m,q1⟩:=g;exact h2 a i d n _ _ Q m j q1
noncomputable def C7(K:Pb)(n:Nat)(t:zQ):TG:=fun v d H Q=>∃a b,v=.ref a/\LG K H a b/\b.length=n/\t b d H Q
def Fj(D:X.calm=true)(h:A6 X f t)
 (B:autoParam ((assignEach f X.env).length=n) Æ) (g:autoParam ((assignEach f X.env).findIdx? (·.1)=none) Æ):PG X (.Tuple f k pos) (C7 X.K n t):=by
 intro d s i H v u Q I r hw;obtain⟨a,m,F,y,C,hw⟩:=hw;subst F;cases r;obtain⟨p,j,x,L⟩:=I.tuple y;refine assign_Tuple_tuple (I.ok.hd D) x (by simp[B,<- C,j.length]) g fun E q=>?_
 have J:u7 X d i H { s with heap:=E }:=I.kept (t':=s.toks) fun b o e=>q b o (nW (iu e)) e
 exact h d _ i H m _ Q J (by simpa using j) hw
noncomputable def B7(to b:TE)(t:AQ):TG:=fun v a H Q=>to a H fun o f=>b a f fun i e=>t o i v e fun d=>Q a d
def Ej(p:PE X o to)(q:PE X i g)(hs:MU X t)
 (B:∀v,assign (.Subscript o i pos) X.env v=(do
  let b <- holding [v] (eval o X.env)
  let e <- holding [v,b] (eval i X.env)
  standAt pos
  holding [v,b,e] (setItem b e v)
  release [v,b,e] []):=by intro _;rfl):PG X (.Subscript o i pos) (B7 to g t):=by
 intro a s f H v u Q I r h;rw[B];refine ao (Es (wB (p a s f H _ I h) fun b k d=>?_));obtain⟨x,L,E,n,q1⟩:=d;refine ao (Es (wB (q a k f L _ E q1) fun e j d=>?_));obtain⟨y,J,D,m,q2⟩:=d;refine ao (wpAny_standAt (ao (Es (wB (hs a j f J x y v b e u _ D n m r q2) fun z M d=>?_))));obtain⟨F,C,q3⟩:=d;exact wpAny_release ⟨f,F,C,q3⟩
noncomputable def TQ(te:TE)(g:TG):TS:=fun D a H=>te a H fun x b=>g x a b D.nx
def A4(he:PE X e te)(k:PG X b g)(hs:autoParam (swapsWithSole [b] e pos.line X.env=pure false) Æ)(hw:autoParam (swappedStores [b] e X.env=pure none) Æ)
 (h1:autoParam ((assignEach [b] X.env).map (·.2)=[assign b X.env]) Æ):PS X (.Assign [b] e pos) (TQ te g):=by
 intro a s d H D I h;refine wpAny_Assign_stores (wB (he a s d H _ I h) fun v i f=>?_) hs hw;obtain⟨x,n,m,j,q1⟩:=f;rw[h1];exact wB (k a i d n x v _ m j q1) fun z o q=>q
def Mj(n:X.N.Nodup)(k:X.N[i]?=ε x)(j:sN X.env.scope x)(he:PE X e te)(hs:autoParam (swapsWith e (ε (.Name x a)) pos.line X.env=pure false) Æ)(m:autoParam (X.fn x=true\/X.env.scope.names.lookup x=ε .local) ð) :
 PS X (.Assign [.Name x a] e pos) (TQ te (cQ i)):=by
 intro b s d H D I h;refine wpAny_Assign_Name (wB (he b s d H _ I h) fun v u f=>?_) hs;obtain⟨y,q,p,g,q1⟩:=f;exact FZ p n k j g (fun r o=>⟨_,q,o,q1⟩) m
def wj(c:TT)(tb:TS):TS:=fun D a H=>∃W:Nat->St->Hp->Prop,(∃m,W m a H)/\∀m a H,W m a H->
 c a H fun b f=>if b=true then ∃N:St->Hp->Prop,(∀d g,N d g->∃e,e<m/\W e d g)/\tb { D with nx:=N,ct:=N,bk:=D.nx } a f else D.nx a f
def yp{tb:TS}(hp:PassesOwn (model X.prog X.w) X.A X.env X.xe)(O:PT X c tc)(P:PSs X body tb):PS X (.While c body [] pos) (wj tc tb):=by
 intro d s B H D I h;obtain⟨W,⟨M,w0⟩,turn⟩:=h;refine wpAny_While (codeAny_whileLoop (fun n L=>∃g y,u7 X d g y L/\W n g y) ?_ M ⟨B,H,I,w0⟩);rintro n J ⟨e,x,Q,E⟩;refine wpAny_passesOwn hp (wB (O d J e x _ Q (turn n e x E)) fun b F C=>?_);obtain⟨u,r,q2⟩:=C;cases b with
 | true=>
  obtain⟨N,q,q2⟩:=q2;rw[dz rfl];refine wpAny_passesOwn hp (wB (P d F e u _ r q2) fun f R q3=>?_);cases f with
  | next=>obtain⟨a,i,p,k⟩:=q3;obtain⟨m,o,j⟩:=q a i k;exact⟨m,o,a,i,p,j⟩
  | cont=>obtain⟨a,i,p,k⟩:=q3;obtain⟨m,o,j⟩:=q a i k;exact⟨m,o,a,i,p,j⟩
  | brk=>exact q3
  | ret v=>exact q3
 | false=>rw[eG Vu];exact wpAny_execs_nil ⟨e,u,r,q2⟩
end
structure It where
 go:Nat->Hp->Prop
 yld:Nat->Hp->V->Hp->Prop
 stop:Nat->Hp->Prop
def VE(X:Cx)(a:Oe (O4×Obj))(H:Hp)(b:O4):Prop:=
 H b=none/\b≠X.env.locals/\b∉X.fs/\(b∈X.ex\/X.s₀.heap.objs.size<=b)/\(∀x c,X.env.cells.lookup x=ε c->c≠b)/\∀p∈X.pn++a,p.1≠b
def u7.cx(I:u7 X a g H s)(d:s.heap.objs.size<=b)(h:f b=none):VE X a f b:=by
 refine⟨h,Du (jo I.lt d),I.iq d,.inr (rz I.sz d),fun x c e z=>?_,fun p hp z=>?_⟩
 . obtain⟨v,q⟩:=I.cell x c e;exact Ea (jo q.lt (by rw[z];exact d)) (Eu _)
 . exact Ea (jo (iu (I.pin p hp).1) (by rw[z];exact d)) (Eu _)
structure UG(P:Program)(w:World)(K:Frag)(tg:Expr)(J:It)(fp:List Addr)(it:Addr)(tn:Nat->Heap->Prop):Prop where
 mem:it∈fp
 obj:∀i h,tn i h->∀b∈fp,∃o,h.get? b=ε o/\∀v,o.data≠.cell v
 keep:∀i h h',tn i h->(∀b∈fp,∀o,h.get? b=ε o->h'.get? b=ε o)->tn i h'
 item:∀(X:Cx),X.prog=P->X.w=w->X.K=K->X.calm=true->∀(i:Nat)(pins:List (Addr×Obj))(s:Shared)(σ:St)(H:Hp)(E:Value->Shared->Prop),u7 X pins σ H s->(∀b∈fp,VE X pins H b)->tn i s.heap->J.go i H->
  wpAny (model P w) X.A (pyNext (.ref it)) (fun r s1=>∃u,r=ε u/\
   wpAny (model P w) X.A (letOwnedTupleGo tg (.ref it) u) (fun _ s2=>∃x H',u7 X pins σ H' s2/\ve x u/\J.yld i H x H'/\tn (i+1) s2.heap/\∀b∈fp,H' b=none) E s1) E s
 done:∀(X:Cx),X.prog=P->X.w=w->X.K=K->X.calm=true->∀(i:Nat)(pins:List (Addr×Obj))(s:Shared)(σ:St)(H:Hp)(E:Value->Shared->Prop),u7 X pins σ H s->(∀b∈fp,VE X pins H b)->tn i s.heap->J.stop i H->
  wpAny (model P w) X.A (pyNext (.ref it)) (fun r s1=>r=none/\u7 X pins σ H s1) E s
 self:∀(A:Around)(i:Nat)(s:Shared)(Q:Value->Shared->Prop)(E:Value->Shared->Prop),tn i s.heap->Q (.ref it) s->wpAny (model P w) A (pyIter (.ref it)) Q E s
abbrev TI:=St->Hp->(It->Hp->Prop)->Prop
def l7(X:Cx)(a:Oe (O4×Obj))(i:St)(j:Pa)(R:It->Hp->Prop)(d:Oi)(f:Ou):Prop:=
 ∃(g:O4)(h:Oe O4)(tn:Nat->Ru->Prop)(J:It)(e:Hp),d=.ref g/\u7 X a i e f/\UG X.prog X.w X.K j J h g tn/\tn 0 f.heap/\(∀b∈h,VE X a e b)/\R J e
def PI(X:Cx)(f b:Pa)(e:TI):Prop:=
 ∀(a:Oe (O4×Obj))(s:Ou)(d:St)(H:Hp)(R:It->Hp->Prop),u7 X a d H s->e d H R->
  wpAny (model X.prog X.w) X.A (eval b X.env) (fun v g=>wpAny (model X.prog X.w) X.A (pyIter v) (l7 X a d f R) X.xe g) X.xe s
def dQ(e:s.heap.get? d=ε o)(g:o.cls=.type n)(hd:o.data=.fields vs)
 (f:["enumerate", "zip", "dict_itemiterator", "dict_reverseitemiterator", "odict_iterator", "itertools.zip_longest", "itertools.pairwise"].contains n=false) (a:Q () s):wpAny M A (letOwnedTupleGo b (.ref d) u) Q E s:=by
 unfold letOwnedTupleGo;cases b<;>first
  | exact au a
  | (cases u<;>first
   | exact au a
   | (refine ao (wpAny_load e ?_);rw[g,hd];show wpAny M A (if(["enumerate", "zip", "dict_itemiterator", "dict_reverseitemiterator", "odict_iterator", "itertools.zip_longest", "itertools.pairwise"].contains n&&vs[0]?==ε (rawInt _))=true then _ else _) Q E s;rw[eG (by intro h;rw[f,Hi]at h;cases h)];exact au a))
noncomputable def Itl(K:Pb)(a:O4):It:=
 ⟨fun i H=>∃b x,vn K H a b/\b[i]?=ε x,fun i H x d=>d=H/\∀b,vn K H a b->b[i]?=ε x,fun i H=>∃b,vn K H a b/\b.length<=i⟩
noncomputable def Itt(K:Pb)(a:O4):It:=
 ⟨fun i H=>∃b x,LG K H a b/\b[i]?=ε x,fun i H x d=>d=H/\∀b,LG K H a b->b[i]?=ε x,fun i H=>∃b,LG K H a b/\b.length<=i⟩
noncomputable def w6(lo:Int)(n:Nat):It:=⟨fun i _=>i<n,fun i H x a=>a=H/\x=.int (lo+i),fun i _=>n<=i⟩
def yd{P:Pu}{w:Ri}{K:Pb}{U:Pa}(a it:O4):UG P w K U (Itl K a) [it] it (fun i h=>h.IsListIter it a i) where
 mem:=by simp
 obj:=fun i h st b g=>by
  have e:b=it:=by simpa using g
  subst e;obtain⟨o,e,c,d⟩:=st;exact⟨o,e,fun v z=>by rw[d]at z;cases z⟩
 keep:=fun i h q st k=>st.at fun o e=>k it ⋯ o e
 item:=by
  intro X D hw F S i f s R H E I n st C;subst D hw F;obtain⟨T,x,m,B⟩:=C;obtain⟨y,r,p,Y⟩:=I.list m;obtain⟨u,hu,W⟩:=r.get B;obtain⟨Q,O,f2,M,L,J⟩:=n it ⋯;refine wpAny_pyNext_list_item st p.isList (x:=u) (by simpa using hu) fun q j sb=>?_
  have I1:u7 X f R H { s with heap:=q }:=I.turned (t':=s.toks) (fun b o g e=>(sb.2 b g).trans e) Q O M L J;obtain⟨o,e,c,d⟩:=id j;exact⟨u,rfl,dQ (s:={ s with heap:=q }) e c d (by decide) ⟨x,H,I1,W,⟨rfl,fun ys Z=>by rw[I.fw Z m];exact B⟩,j,fun b g=>(n b g).1⟩⟩
 done:=by intro X D hw F S i f s R H E I n st C;subst D hw F;obtain⟨T,m,B⟩:=C;obtain⟨y,r,p,Y⟩:=I.list m;obtain⟨Q,O,f2,M,L,J⟩:=n it ⋯;have hl:=r.length;exact wpAny_pyNext_list_end (I.ok.hd S) st p.isList (by simp;omega) fun q eb=>⟨rfl,I.turned (t':=s.toks) (fun b o g e=>eb b o g e) Q O M L J⟩
 self:=fun t t t t t st h=>wpAny_pyIter_listiter st h
def Ih{P:Pu}{w:Ri}{K:Pb}{U:Pa}(a it:O4):UG P w K U (Itt K a) [it] it (fun i h=>h.IsTupleIter it a i) where
 mem:=by simp
 obj:=fun i h st b j=>by
  have e:b=it:=by simpa using j
  subst e;obtain⟨o,e,c,d⟩:=st;exact⟨o,e,fun v z=>by rw[d]at z;cases z⟩
 keep:=fun i h r st k=>st.at fun o e=>k it ⋯ o e
 item:=by
  intro X D hw F S i f s R H E I q st C;subst D hw F;obtain⟨T,x,n,B⟩:=C;obtain⟨g,y,p,Y⟩:=I.tuple n;obtain⟨u,hu,W⟩:=y.get B;obtain⟨Q,O,f2,M,L,J⟩:=q it ⋯;refine wpAny_pyNext_tuple_item st (show s.heap.IsTuple a g.toArray from p) (x:=u) (by simpa using hu) fun r m sb=>?_
  have I1:u7 X f R H { s with heap:=r }:=I.turned (t':=s.toks) (fun b o j e=>(sb.2 b j).trans e) Q O M L J;obtain⟨o,e,c,d⟩:=id m;exact⟨u,rfl,dQ (s:={ s with heap:=r }) e c d (by decide) ⟨x,H,I1,W,⟨rfl,fun ys Z=>by rw[I.hI Z n];exact B⟩,m,fun b j=>(q b j).1⟩⟩
 done:=by intro X D hw F S i f s R H E I q st C;subst D hw F;obtain⟨T,n,B⟩:=C;obtain⟨g,y,p,Y⟩:=I.tuple n;obtain⟨Q,O,f2,M,L,J⟩:=q it ⋯;have hl:=y.length;exact wpAny_pyNext_tuple_end (I.ok.hd S) st (show s.heap.IsTuple a g.toArray from p) (by simp;omega) fun r eb=>⟨rfl,I.turned (t':=s.toks) (fun b o j e=>eb b o j e) Q O M L J⟩
 self:=fun t t t t t st h=>wpAny_pyIter_tupleiter st h
def Hh{P:Pu}{w:Ri}{K:Pb}{L:Pa}(it:O4)(lo:Int)(n:Nat):UG P w K L (w6 lo n) [it] it (fun i h=>IsRangeIter h it (lo+(i:Nat)*1) ((n:Int)-(i:Nat)) 1) where
 mem:=by simp
 obj:=fun i h st b d=>by
  have e:b=it:=by simpa using d
  subst e;exact⟨_,st,fun v z=>by
   have J:Data.fields _=Data.cell v:=z;cases J⟩
 keep:=fun i h j st k=>k it ⋯ _ st
 item:=by
  intro X q hw r p i a s D H E I g st m;subst q hw r;obtain⟨C,B,Q,y,x,u⟩:=g it ⋯;have W:=Walks.range (prog:=X.prog) (w:=X.w) (I.ok.hd p) it lo 1 n;refine W.item i s _ _ m st fun v j F O f M=>?_
  obtain⟨t,rfl⟩:=O;have S:u7 X a D H { s with heap:=j,toks:=F }:=I.turned (fun b o d e=>M b o (by simpa using d) e) C B y x u;refine⟨_,rfl,dQ (s:={ s with heap:=j,toks:=F }) (n := "range_iterator") f rfl rfl (by decide) ⟨.int (lo+i),H,S,⟨t,?_⟩,⟨rfl,rfl⟩,f,fun b d=>(g b d).1⟩⟩;rw[Int.mul_one]
 done:=by intro X q hw r p i a s D H E I g st m;subst q hw r;obtain⟨C,B,Q,y,x,u⟩:=g it ⋯;exact wpAny_pyNext_range_end (I.ok.hd p) st (by have:n<=i:=m;omega) fun j R=>⟨rfl,I.turned (t':=s.toks) (fun b o d e=>R b o d e) C B y x u⟩
 self:=fun _ _ _ _ _ st h=>wpAny_pyIter_rangeiter st h
section
variable{X:Cx}{c:Pa}
def Uz(K:Pb)(f:TE):TI:=fun d H R=>f d H fun x b=>∃a,x=.ref a/\(∃e,vn K b a e)/\R (Itl K a) b
def G7(K:Pb)(f:TE):TI:=fun d H R=>f d H fun x b=>∃a,x=.ref a/\(∃e,LG K b a e)/\R (Itt K a) b
def jv(u:PE X l i):PI X c l (Uz X.K i):=by
 intro d s j H R I h;refine wB (u d s j H _ I h) fun v f k=>?_
 obtain⟨x,B,g,m,q1⟩:=k;obtain⟨a,e,⟨C,r⟩,q⟩:=q1;subst e;cases m;obtain⟨n,D,p,E⟩:=g.list r;refine wpAny_pyIter_list p.isList ?_;refine⟨f.heap.objs.size,[f.heap.objs.size],_,_,B,rfl,g.kept (t':=f.toks) fun b o e=>cu _ e,yd a _,⟨_,jj _ rfl,rfl,rfl⟩,fun b y=>?_,q⟩;have e:b=f.heap.objs.size:=by simpa using y
 subst e;exact g.cx (Us _) (g.hok.fresh (Us _))
def Gj(u:PE X l j):PI X c l (G7 X.K j):=by
 intro f s k H R I h;refine wB (u f s k H _ I h) fun v d m=>?_
 obtain⟨x,B,g,n,q1⟩:=m;obtain⟨a,e,⟨C,r⟩,q⟩:=q1;subst e;cases n;obtain⟨i,D,p,E⟩:=g.tuple r;refine wpAny_pyIter_tuple (show d.heap.IsTuple a i.toArray from p) ?_;refine⟨d.heap.objs.size,[d.heap.objs.size],_,_,B,rfl,g.kept (t':=d.toks) fun b o e=>cu _ e,Ih a _,⟨_,jj _ rfl,rfl,rfl⟩,fun b y=>?_,q⟩;have e:b=d.heap.objs.size:=by simpa using y
 subst e;exact g.cx (Us _) (g.hok.fresh (Us _))
def PY{lo a:Int}(I:u7 X d f H s)(h1:-(2^62)<=lo)(h2:lo<2^62)(k:-(2^62)<=a)(j:a<2^62)
 (q:R (w6 lo (a-lo).toNat) H):wpAny (model X.prog X.w) X.A (pyIter (.ref s.heap.objs.size)) (l7 X d f c R) E { s with heap:=s.heap.push { cls:=.type "range",data:=.fields #[.int lo t,.int a u,.int 1 v] },toks:=g }:=by
 refine wpAny_pyIter_range (IsRange.new ..) (small_one h1 h2 k j) ?_;have h:u7 X d f H { s with heap:=s.heap.push { cls:=.type "range",data:=.fields #[.int lo t,.int a u,.int 1 v] },toks:=g }:=I.kept fun b o e=>cu _ e
 refine⟨(s.heap.push { cls:=.type "range",data:=.fields #[.int lo t,.int a u,.int 1 v] }).objs.size,[(s.heap.push { cls:=.type "range",data:=.fields #[.int lo t,.int a u,.int 1 v] }).objs.size],_,_,H,rfl,
  h.kept (t':=g) fun b o e=>cu _ e,Hh _ lo (a-lo).toNat,?_,fun b i=>?_,q⟩
 . have m:lo+((0:Nat):Int)*1=lo:=by simp
   have e2:(((a-lo).toNat:Nat):Int)-((0:Nat):Int)=Builtin.Range.rangeSize lo a 1:=by rw[rangeSize_one];split<;>omega
   show IsRangeIter _ _ (lo+((0:Nat):Int)*1) ((((a-lo).toNat:Nat):Int)-((0:Nat):Int)) 1;rw[m,e2];exact jj _ rfl
 . have e:b=(s.heap.push { cls:=.type "range",data:=.fields #[.int lo t,.int a u,.int 1 v] }).objs.size:=by simpa using i
   subst e;exact h.cx (Us _) (h.hok.fresh (Us _))
def Vz(d:TA):TI:=fun a H R=>d a H fun b e=>∃j:Int,b=[.int j]/\-(2^62)<=j/\j<2^62/\R (w6 0 j.toNat) e
def Wz(d:TA):TI:=fun a H R=>d a H fun b e=>∃i j:Int,b=[.int i,.int j]/\(-(2^62)<=i/\i<2^62/\-(2^62)<=j/\j<2^62)/\R (w6 i (j-i).toNat) e
def Yd (n:Gl X "range") (m:X.mg "range" =none) (o:PA X [a] d) (hs:autoParam (starEach [a] X.env=[(false,eval a X.env)]) Æ):PI X c (.Call (.Name "range" p) [a] [] pos) (Vz d):=by
 intro b s f H R I h;refine Call_ (nG I n m boot_range (PyProof.Rows.callWith_type1 (wB (o pos b s f H _ I h) fun y B g=>?_) hs rfl));obtain⟨x,C,u,k,q1⟩:=g;obtain⟨j,e,q1,q2,q⟩:=q1;subst e;cases k with
 | cons r i=>cases i;obtain⟨t,rfl⟩:=r;exact call_range_1 (PY u nofun nofun q1 q2 (by simpa using q))
def Zd (y:Gl X "range") (x:X.mg "range" =none) (B:PA X [a,b] k) (hs:autoParam (starEach [a,b] X.env=[(false,eval a X.env),(false,eval b X.env)]) Æ) (f:autoParam (starEach [b] X.env=[(false,eval b X.env)]) Æ) :
 PI X c (.Call (.Name "range" p) [a,b] [] pos) (Wz k):=by
 intro d s m H R I h;refine Call_ (nG I y x boot_range (PyProof.Rows.callWith_type1 (wB (B pos d s m H _ I h) fun E J n=>?_) (by rw[hs,f]) (by rw[f];rfl)));obtain⟨D,L,C,o,q1⟩:=n;obtain⟨i,j,e,⟨q1,q2,q3,q4⟩,q⟩:=q1;subst e;cases o with
 | cons r g=>
  cases g with
  | cons u g=>cases g;obtain⟨t,rfl⟩:=r;obtain⟨F,rfl⟩:=u;exact call_range_2 (PY C q1 q2 q3 q4 q)
def o8(h:TI)(g:TG)(tb:TS):TS:=fun D a H=>h a H fun J k=>∃W:Nat->Nat->St->Hp->Prop,(∃m,W 0 m a k)/\∀i m a H,W i m a H->
 (J.stop i H/\D.nx a H)\/(J.go i H/\∃N:St->Hp->Prop,(∀b d,N b d->∃f,f<m/\W (i+1) f b d)/\∀x d,J.yld i H x d->g x a d fun e j=>tb { D with nx:=N,ct:=N,bk:=D.nx } e j)
noncomputable def HM(fp:Oe O4)(h:Ru):Oe (O4×Obj):=fp.filterMap fun b=>(h.get? b).map fun o=>(b,o)
def wO(a:b∈fp)(e:h.get? b=ε o):(b,o)∈HM fp h:=mem_filterMap.mpr ⟨b,a,by rw[e];rfl⟩
def Td(hp:p∈HM fp h):p.1∈fp/\h.get? p.1=ε p.2:=by
 obtain⟨b,a,e⟩:=mem_filterMap.mp hp;cases q:h.get? b with
 | none=>rw[q]at e;cases e
 | some o=>rw[q]at e;have d:(b,o)=p:=ou e;subst d;exact⟨a,q⟩
def u7.pinned(I:u7 X a f H s)(j:∀b∈fp,VE X a H b)(i:∀b∈fp,∃o,s.heap.get? b=ε o/\∀v,o.data≠.cell v):u7 X (a++HM fp s.heap) f H s:=
 I.hH fun p hp=>(Bo.mp hp).elim (fun z=>I.pin p (xr _ z)) fun z=>by obtain⟨g,e⟩:=Td z;obtain⟨n,m,k,_⟩:=j p.1 g;obtain⟨o,h,d⟩:=i p.1 g;rw[e]at h;cases h;exact⟨e,n,m,k,d⟩
def u7.gc(I:u7 X (a++pl) b H s):u7 X a b H s:=I.hH fun p hp=>I.pin p (xr _ (xu _ hp))
def Jj{tb:TS}(hp:PassesOwn (model X.prog X.w) X.A X.env X.xe)(hc:X.calm=true)(hi:PI X c y wi)(hg:PG X c g)(B:PSs X body tb)
 (hs:autoParam (∀x,foldedSetIterable y X.env x=pure x) Ø):PS X (.For c y body [] pos) (o8 wi g tb):=by
 intro j s σ H D I h;refine wpAny_For (wB (hi j s σ H _ I h) fun v s1 h1=>wB h1 fun a2 s2 h2=>?_) hs;obtain⟨it,R,tn,J,H2,e,I2,T,Y,f2,W,⟨m0,w0⟩,turn⟩:=h2;subst e;have q:∀{H':Hp},(∀b∈R,H' b=none)->∀b∈R,VE X j H' b:=fun hn b B=>⟨hn b B,(f2 b B).2⟩
 refine codeAny_forLoop_any (fun n s'=>∃i p H',u7 X j p H' s'/\tn i s'.heap/\(∀b∈R,H' b=none)/\W i n p H') ?_ m0 ⟨0,σ,H2,I2,Y,fun b B=>(f2 b B).1,w0⟩;rintro n s3 ⟨i,k,S,I3,O,Q,w3⟩;rcases turn i n k S w3 with⟨stop,qn⟩ | ⟨go,N,hN,step⟩
 . refine wpAny_passesOwn hp (wB (T.done X rfl rfl rfl hc i j s3 k S X.xe I3 (q Q) O stop) fun r s4 L=>?_);obtain⟨hr,I4⟩:=L;subst hr;exact wpAny_execs_nil ⟨k,S,I4,qn⟩
 . refine wpAny_passesOwn hp (wB (T.item X rfl rfl rfl hc i j s3 k S X.xe I3 (q Q) O go) fun r s4 L=>?_);obtain⟨u,hr,h4⟩:=L;subst hr;refine wpAny_passesOwn hp (wB h4 fun _ s5 L=>?_);obtain⟨x,H5,I5,r5,y5,M,a0⟩:=L;have a1:=I5.pinned (q a0) (T.obj _ _ M);refine wpAny_passesOwn hp (wB (hg _ s5 k H5 x u _ a1 r5 (step x H5 y5)) fun _ s6 L=>?_);obtain⟨U,H6,I6,q6⟩:=L;refine wpAny_passesOwn hp (wB (B _ s6 U H6 _ I6 q6) fun f Z q7=>?_);have C:∀{a:St}{F:Hp},u7 X (j++HM R s5.heap) a F Z->N a F->∃m,m<n/\∃i p H',u7 X j p H' Z/\tn i Z.heap/\(∀b∈R,H' b=none)/\W i m p H':=fun {a F} E P=>by obtain⟨m',hm,w7⟩:=hN a F P;refine⟨m',hm,i+1,a,F,E.gc,T.keep _ _ _ M fun b B o e=>(E.pin (b,o) (xr _ (xr _ (wO B e)))).1,fun b B=>?_,w7⟩;obtain⟨o,e,d⟩:=T.obj _ _ M b B;exact(E.pin (b,o) (xr _ (xr _ (wO B e)))).2.1
   cases f with
   | next=>obtain⟨a,F,E,P⟩:=q7;exact C E P
   | cont=>obtain⟨a,F,E,P⟩:=q7;exact C E P
   | brk=>obtain⟨a,F,E,q7⟩:=q7;exact⟨a,F,E.gc,q7⟩
   | ret v=>obtain⟨x7,a,F,E,r7,q7⟩:=q7;exact⟨x7,a,F,E.gc,r7,q7⟩
end
abbrev R2:=V->V->Hp->VK->Prop
def vu(X:Cx)(f:Oi->Oi->Sem Oi)(r:R2):Prop:=
 ∀(a:Oe (O4×Obj))(s:Ou)(b:St)(H:Hp)(x y:V)(v u:Oi)(Q:VK),u7 X a b H s->ve x v->ve y u->r x y H Q->
  wpAny (model X.prog X.w) X.A (f v u) (EP X a b Q) X.xe s
def C6(X:Cx)(f:Oi->Sem Oi)(r:V->Hp->VK->Prop):Prop:=
 ∀(a:Oe (O4×Obj))(s:Ou)(b:St)(H:Hp)(x:V)(v:Oi)(Q:VK),u7 X a b H s->ve x v->r x H Q->
  wpAny (model X.prog X.w) X.A (f v) (EP X a b Q) X.xe s
def ae(X:Cx)(f:Oi)(r:Oe V->Hp->VK->Prop):Prop:=
 ∀(a:Oe (O4×Obj))(s:Ou)(b:St)(H:Hp)(d:Oe V)(e:Oe Oi)(Q:VK),u7 X a b H s->va d e->r d H Q->
  wpAny (model X.prog X.w) X.A (call f e) (EP X a b Q) X.xe s
noncomputable def hV(r:R2)(b tb:TE):TE:=fun a H Q=>b a H fun x e=>tb a e fun y d=>r x y d Q
noncomputable def tUn(r:V->Hp->VK->Prop)(b:TE):TE:=fun a H Q=>b a H fun x d=>r x d Q
noncomputable def rI(C:Int->Int->Prop)(g:Int->Int->V):R2:=fun x y H Q=>∃i j,x=.int i/\y=.int j/\C i j/\Q (g i j) H
noncomputable def NK(g:Int->Int->V):R2:=fun x y H Q=>∃i j,x=.int i/\y=.int j/\Q (g i j) H
noncomputable def rU(g:Int->V):V->Hp->VK->Prop:=fun x H Q=>∃i,x=.int i/\Q (g i) H
section
variable{X:Cx}{a b c:Pa}{d e tc:TE}{pos:Pos}
def BQ(E:PE X a d)(D:PE X b e){R:V->V->Hp->Prop}(I:u7 X g i H s)
 (h:d i H fun x p=>e i p fun y j=>R x y j) {f:Oi->Oi->Sem Oi}
 (C:∀v u n x y j,u7 X g i j n->ve x v->ve y u->R x y j->wpAny (model X.prog X.w) X.A (f v u) Q X.xe n) :
 wpAny (model X.prog X.w) X.A (eval a X.env) (fun v m=>wpAny (model X.prog X.w) X.A (eval b X.env) (fun u k=>wpAny (model X.prog X.w) X.A (f v u) Q X.xe k) X.xe m) X.xe s:=by
 refine wB (E g s i H _ I h) fun v q o=>?_
 obtain⟨x,p,J,B,q1⟩:=o;refine wB (D g q i p _ J q1) fun u n o=>?_
 obtain⟨y,j,F,r,q2⟩:=o;exact C v u n x y j F B r q2
def nU(m:vu X (binaryOp op) r)(o:PE X a d)(n:PE X b e):PE X (.BinOp a op b pos) (hV r d e):=by intro f s g H Q I h;exact wpAny_BinOp (BQ o n I h fun v u i x y B p k j q=>m f i g B x y v u Q p k j q)
def K5(k:C6 X (unaryOp op) r)(m:PE X a d):PE X (.UnaryOp op a pos) (tUn r d):=by intro f s g H Q I h;exact UnaryOp_ (wB (m f s g H _ I h) fun v i ⟨x,o,n,j,q1⟩=>k f i g o x v Q n j q1)
def VU{g:Int->Int->Int}
 (k:∀(i j:Int)(t u:Tok)(s:Ou)(Q:Oi->Ou->Prop)(E:Oi->Ou->Prop),C i j->Q (.int (g i j) s.toks) { s with toks:=s.toks+1 }->wpAny (model X.prog X.w) X.A (f (.int i t) (.int j u)) Q E s) :
 vu X f (rI C fun i j=>.int (g i j)):=by
 intro m s B H x y v u Q I p o h;obtain⟨i,j,rfl,rfl,r,q⟩:=h;obtain⟨t,rfl⟩:=p;obtain⟨n,rfl⟩:=o;exact k i j t n s _ _ r ⟨.int (g i j),H,I.tok _,⟨_,rfl⟩,q⟩
def cL{g:Int->Int->Int}
 (k:∀(i j:Int)(t u:Tok)(s:Ou)(Q:Oi->Ou->Prop)(E:Oi->Ou->Prop),Q (.int (g i j) s.toks) { s with toks:=s.toks+1 }->wpAny (model X.prog X.w) X.A (f (.int i t) (.int j u)) Q E s) :
 vu X f (NK fun i j=>.int (g i j)):=by
 intro m s r H x y v u Q I p o h;obtain⟨i,j,rfl,rfl,q⟩:=h;obtain⟨t,rfl⟩:=p;obtain⟨n,rfl⟩:=o;exact k i j t n s _ _ ⟨.int (g i j),H,I.tok _,⟨_,rfl⟩,q⟩
def yN{g:Int->Int->Bool}
 (k:∀i j t u s Q E,Q (.bool (g i j)) s->wpAny (model X.prog X.w) X.A (f (.int i t) (.int j u)) Q E s) :
 vu X f (NK fun i j=>.bl (g i j)):=by
 intro m s r H x y v u Q I p o h;obtain⟨i,j,rfl,rfl,q⟩:=h;obtain⟨t,rfl⟩:=p;obtain⟨n,rfl⟩:=o;exact k i j t n s _ _ ⟨.bl (g i j),H,I,rfl,q⟩
def OK(i j:Int):Prop:=0<j/\j<1073741824
def pJ(i j:Int):Prop:=0<=j/\j<=1000000/\i.natAbs<2^64
def de(i j:Int):Prop:=(-(2^64)<i/\i<2^64)\/(-(2^64)<j/\j<2^64)
def de.ok(h:de i j):IntMulOk i j:=by
 rcases h with⟨g,f⟩ | ⟨g,f⟩
 . exact .of_left (intBits_le_64 g f)
 . exact .of_right (intBits_le_64 g f)
def Jh(k):(0:Int)<=2^k:=by rw[two_pow_cast];exact Int.natCast_nonneg _
def zq:vu X (binaryOp .Add) (NK fun i j=>.int (i+j)):=cL fun z z z z z z z q=>add_int q
def Hq:vu X (binaryOp .Sub) (NK fun i j=>.int (i-j)):=cL fun z z z z z z z q=>sub_int q
def Dq:vu X (binaryOp .Mult) (rI de fun i j=>.int (i*j)):=VU fun z z z z z z z f q=>mul_int q f.ok
def j3:vu X (binaryOp .FloorDiv) (rI OK fun i j=>.int (i/j)):=VU fun i j z z z z z f q=>by have h:(0:Int)<j:=f.1;have g:j<1073741824:=f.2;exact floordiv_int nofun (by rw[Int.fdiv_eq_ediv_of_nonneg i nofun];exact q) (.inl (PyProof.noPylong_small nofun))
def Cq:vu X (binaryOp .Mod) (rI (fun z j=>0<j) fun i j=>.int (i%j)):=VU fun i j z z z z z f q=>by have g:(0:Int)<j:=f;exact mod_int' nofun (by rw[Int.fmod_eq_emod_of_nonneg i nofun];exact q)
def Fq:vu X (binaryOp .LShift) (rI pJ fun i j=>.int (i*2^j.toNat)):=VU fun z z z z z z z f q=>lshift_int_small f.1 f.2.1 f.2.2 q
def Gq:vu X (binaryOp .RShift) (rI (fun z j=>0<=j) fun i j=>.int (i/2^j.toNat)):=VU fun i j z z z z z f q=>rshift_int f (by rw[Int.fdiv_eq_ediv_of_nonneg i (Jh _)];exact q)
def Aq:vu X (binaryOp .BitAnd) (NK fun i j=>.int (Builtin.bitAnd i j)):=cL fun z z z z z z z q=>and_int q
def Sx:vu X (binaryOp .BitOr) (NK fun i j=>.int (Builtin.bitOr i j)):=cL fun z z z z z z z q=>or_int q
def Jq:vu X (binaryOp .BitXor) (NK fun i j=>.int (Builtin.bitXor i j)):=cL fun z z z z z z z q=>xor_int q
def unI{g:Int->Int}
 (j:∀(i:Int)(t:Tok)(s:Ou)(Q:Oi->Ou->Prop)(E:Oi->Ou->Prop),Q (.int (g i) s.toks) { s with toks:=s.toks+1 }->wpAny (model X.prog X.w) X.A (f (.int i t)) Q E s) :
 C6 X f (rU fun i=>.int (g i)):=by
 intro k s n H x v Q I m h;obtain⟨i,rfl,q⟩:=h;obtain⟨t,rfl⟩:=m;exact j i t s _ _ ⟨.int (g i),H,I.tok _,⟨_,rfl⟩,q⟩
def Fz:C6 X (unaryOp .USub) (rU fun i=>.int (-i)):=unI fun z z z z z q=>neg_int q
def Ez:C6 X (unaryOp .Invert) (rU fun i=>.int (Builtin.bitNot i)):=unI fun z z z z z q=>invert_int q
end
noncomputable def CN:V->V->Bool
 | .non,.non=>true | .non,.int _=>true | .int _,.non=>true | .non,.bl _=>true | .bl _,.non=>true | .non,.str _=>true | .str _,.non=>true
 | .int _,.int _=>true | .bl _,.bl _=>true | .str _,.str _=>true | .byt _,.byt _=>true
 | .int _,.str _=>true | .str _,.int _=>true | .bl _,.str _=>true | .str _,.bl _=>true
 | _,_=>false
def rEq:R2:=fun x y H Q=>CN x y=true/\Q (.bl (decide (x=y))) H
def rNe:R2:=fun x y H Q=>CN x y=true/\Q (.bl (!decide (x=y))) H
def CZ:decide (V.int i=V.int j)=(i==j):=by rw[Bool.eq_iff_iff];simp
def v3:decide (V.bl i=V.bl j)=(i==j):=by rw[Bool.eq_iff_iff];simp
def DZ:decide (V.str i=V.str j)=(i==j):=by rw[Bool.eq_iff_iff];simp
def BZ:decide (V.byt i=V.byt j)=(i.toList==j.toList):=by rw[Bool.eq_iff_iff];cases i;cases j;simp
section
variable{X:Cx}{a b c:Pa}{g f tc:TE}{pos:Pos}
def hC(I:u7 X d h H s)(q:Q (.bl k) H)(e:k=i):EP X d h Q (.bool i) s:=by subst e;exact⟨.bl k,H,I,rfl,q⟩
def Lx:vu X (compareOp .Eq) rEq:=by
 intro m s n H x y v u Q I k d h;obtain⟨hs,q⟩:=h;cases x with
 | non=>
  cases k;cases y with
  | non=>cases d;exact PySem.EqNone.eq_none_none (hC I q ⋯)
  | bl j=>cases d;exact PySem.EqNone.eq_none_bool (hC I q ⋯)
  | int j=>obtain⟨e,rfl⟩:=d;exact PySem.EqNone.eq_none_int (hC I q ⋯)
  | str j=>obtain⟨e,rfl⟩:=d;exact PySem.EqNone.eq_none_str (hC I q ⋯)
  | _=>exact Ea (show false=true from hs) Vu
 | bl i=>
  cases k;cases y with
  | non=>cases d;exact PySem.EqNone.eq_bool_none (hC I q ⋯)
  | bl j=>cases d;exact eq_bool (hC I q v3)
  | str j=>obtain⟨e,rfl⟩:=d;exact PySem.EqMixed.eq_bool_str (hC I q ⋯)
  | _=>exact Ea (show false=true from hs) Vu
 | int i=>
  obtain⟨t,rfl⟩:=k;cases y with
  | non=>cases d;exact PySem.EqNone.eq_int_none (hC I q ⋯)
  | int j=>obtain⟨e,rfl⟩:=d;exact eq_int (hC I q CZ)
  | str j=>obtain⟨e,rfl⟩:=d;exact PySem.EqMixed.eq_int_str (hC I q ⋯)
  | _=>exact Ea (show false=true from hs) Vu
 | str i=>
  obtain⟨t,rfl⟩:=k;cases y with
  | non=>cases d;exact PySem.EqNone.eq_str_none (hC I q ⋯)
  | bl j=>cases d;exact PySem.EqMixed.eq_str_bool (hC I q ⋯)
  | int j=>obtain⟨e,rfl⟩:=d;exact PySem.EqMixed.eq_str_int (hC I q ⋯)
  | str j=>obtain⟨e,rfl⟩:=d;exact eq_str (hC I q DZ)
  | _=>exact Ea (show false=true from hs) Vu
 | byt i=>
  obtain⟨t,rfl⟩:=k;cases y with
  | byt j=>obtain⟨e,rfl⟩:=d;exact PySem.W.eq_bytes (hC I q BZ)
  | _=>exact Ea (show false=true from hs) Vu
 | _=>cases y<;>exact Ea (show false=true from hs) Vu
def Rx:vu X (compareOp .NotEq) rNe:=by
 intro m s n H x y v u Q I k d h;obtain⟨hs,q⟩:=h;cases x with
 | non=>
  cases k;cases y with
  | non=>cases d;exact PySem.EqNone.ne_none_none (hC I q ⋯)
  | bl j=>cases d;exact PySem.EqNone.ne_none_bool (hC I q ⋯)
  | int j=>obtain⟨e,rfl⟩:=d;exact PySem.EqNone.ne_none_int (hC I q ⋯)
  | str j=>obtain⟨e,rfl⟩:=d;exact PySem.EqNone.ne_none_str (hC I q ⋯)
  | _=>exact Ea (show false=true from hs) Vu
 | bl i=>
  cases k;cases y with
  | non=>cases d;exact PySem.EqNone.ne_bool_none (hC I q ⋯)
  | bl j=>cases d;exact ne_bool (hC I q (congrArg not v3))
  | str j=>obtain⟨e,rfl⟩:=d;exact PySem.EqMixed.ne_bool_str (hC I q ⋯)
  | _=>exact Ea (show false=true from hs) Vu
 | int i=>
  obtain⟨t,rfl⟩:=k;cases y with
  | non=>cases d;exact PySem.EqNone.ne_int_none (hC I q ⋯)
  | int j=>obtain⟨e,rfl⟩:=d;exact ne_int (hC I q (congrArg not CZ))
  | str j=>obtain⟨e,rfl⟩:=d;exact PySem.EqMixed.ne_int_str (hC I q ⋯)
  | _=>exact Ea (show false=true from hs) Vu
 | str i=>
  obtain⟨t,rfl⟩:=k;cases y with
  | non=>cases d;exact PySem.EqNone.ne_str_none (hC I q ⋯)
  | bl j=>cases d;exact PySem.EqMixed.ne_str_bool (hC I q ⋯)
  | int j=>obtain⟨e,rfl⟩:=d;exact PySem.EqMixed.ne_str_int (hC I q ⋯)
  | str j=>obtain⟨e,rfl⟩:=d;exact ne_str (hC I q (congrArg not DZ))
  | _=>exact Ea (show false=true from hs) Vu
 | byt i=>
  obtain⟨t,rfl⟩:=k;cases y with
  | byt j=>obtain⟨e,rfl⟩:=d;exact PySem.W.ne_bytes (hC I q (congrArg not BZ))
  | _=>exact Ea (show false=true from hs) Vu
 | _=>cases y<;>exact Ea (show false=true from hs) Vu
def Px:vu X (compareOp .Lt) (NK fun i j=>.bl (decide (i<j))):=yN fun z z z z z z z q=>lt_int q
def Ox:vu X (compareOp .LtE) (NK fun i j=>.bl (decide (i<=j))):=yN fun z z z z z z z q=>le_int q
def Nx:vu X (compareOp .Gt) (NK fun i j=>.bl (decide (j<i))):=yN fun z z z z z z z q=>gt_int q
def Mx:vu X (compareOp .GtE) (NK fun i j=>.bl (decide (j<=i))):=yN fun z z z z z z z q=>ge_int q
def Bq:vu X (compareOp .Is) (fun x y H Q=>y=.non/\Q (.bl (decide (x=.non))) H):=by
 intro e s j H x y v u Q I d i h;obtain⟨rfl,q⟩:=h;cases i;refine is_none_gen (hC I q ?_);cases x<;>first
  | (cases d;rfl)
  | (obtain⟨t,rfl⟩:=d;rfl)
def P3(b)(h:autoParam (op≠.In) Ñ)(h2:autoParam (op≠.NotIn) Ñ):behindInMarks op b=false:=by
 have d:(op==CmpOp.In)=false:=by cases op<;>first | rfl | exact Ea rfl h
 have e2:(op==CmpOp.NotIn)=false:=by cases op<;>first | rfl | exact Ea rfl h2
 cases b<;>simp[behindInMarks,d,e2]
def ka(m:vu X (compareOp op) r)(p:PE X a g)(o:PE X b f)(n:behindInMarks op b=false):PE X (.Compare a [op] [b] pos) (hV r g f):=by intro d s e H Q I h;exact wpAny_Compare1 (BQ p o I h fun v u i x y C B k j q=>m d i e C x y v u Q B k j q) n
noncomputable def Yz(t:TE):TT:=fun d H Q=>t d H fun x e=>∃k,x=.bl k/\Q k e
def ke(q:vu X (compareOp op) r)(D:PE X a g)(C:PE X b f)(B:behindInMarks op b=false):PT X (.Compare a [op] [b] pos) (Yz (hV r g f)):=by
 intro d s i H Q I h;refine wpAny_isTrue_Compare1 (wB (D d s i H _ I h) fun v m ⟨x,O,J,p,q1⟩=>wB (C d m i O _ J q1) fun u j ⟨y,M,F,o,q2⟩=>
  wB (q d j i M x y v u _ F p o q2) fun c P ⟨z,L,E,n,k,e,q3⟩=>?_) B
 subst e;cases n;exact Fi ⟨L,E,q3⟩
noncomputable def M3(r i:R2)(g f tc:TE):TE:=fun d H Q=>g d H fun x n=>f d n fun y m=>r x y m fun z e=>∃k,z=.bl k/\
 (if k=true then tc d e fun h j=>i y h j Q else Q (.bl false) e)
def Jl(R:vu X (compareOp op) r)(n:vu X (compareOp j) p)(W:PE X a g)(U:PE X b f)(T:PE X c tc)
 (S:lastMarks [op,j] [b,c]=false:=by unhygienic rfl):PE X (.Compare a [op,j] [b,c] pos) (M3 r p g f tc):=by
 intro i s m H Q I h;refine Compare_chain (wB (W i s m H _ I h) fun v L ⟨x,H1,I1,P,q1⟩=>chain_link (wB (U i L m H1 _ I1 q1) fun u J ⟨y,H2,Z,o,q2⟩=>
  wB (R i J m H2 x y v u _ Z P o q2) fun d F ⟨z,B,q,O,k,e,q3⟩=>?_)) S
 subst e;cases O;refine Fi ?_;cases k with
 | false=>exact ite_ff ⟨.bl false,B,q,rfl,q3⟩
 | true=>exact ite_tt (chain_last (wB (T i F m B _ q q3) fun D E ⟨C,H4,Y,M,q4⟩=>n i E m H4 y C u D Q Y o M q4))
def SI:(sizeLine:Nat)<2^63:=by rw[Ca];decide
def kF(r:va [x] us):∃u,us=[u]/\ve x u:=by
 cases r with
 | cons e d=>cases d;exact⟨_,rfl,e⟩
def pQ(r:va [x,y] us):∃u w',us=[u,w']/\ve x u/\ve y w':=by
 cases r with
 | cons i h=>
  cases h with
  | cons e d=>cases d;exact⟨_,_,rfl,i,e⟩
def Lr (n:X.calm=true):ae X (.builtin "min") (fun e H Q=>∃i j,e=[.int i,.int j]/\Q (.int (if j<i then j else i)) H):=by
 intro m s o H e x Q I r h;obtain⟨i,j,rfl,q⟩:=h;obtain⟨u,p,rfl,⟨t,rfl⟩,⟨B,rfl⟩⟩:=pQ r;refine min_two_ints (I.ok.hd n) fun C y k=>⟨_,H,I.kept k,?_,q⟩
 by_cases d:j<i
 . rw[dz d,dz d];exact⟨_,rfl⟩
 . rw[eG d,eG d];exact⟨_,rfl⟩
end
structure di(h:Heap)(x dx C:Addr)(mA:Str->Option Value):Prop where
 obj:h.get? x=ε (PySem.W.instObj C dx)
 ns:h.Ns1 dx mA
 ne:dx≠x
set_option tactic.hygienic true in
theorem Ht{h:Ru}(n:h.Ns1 j g):∃f,h.get? j=ε f/\∀b,PySem.W.lookIn b f=ε (g b):=by
 obtain⟨o,i,u,m,hd,r,_,p⟩:=n;refine⟨o,m,fun b=>?_⟩;have e:=p b;unfold nsFind findBy at e;rw[<- Array.find?_toList]at e;unfold PySem.W.lookIn;rw[hd];dsimp only;split
 . rename_i y q;rw[q]at e;exact congrArg some e
 . rename_i q;rw[q]at e;have a:i.toList.any (·.refKey)=false:=by rw[any_eq_false];intro y k;obtain⟨z,t,d⟩:=r y (Array.mem_toList_iff.mp k);simp[DictEntry.refKey,d]
   have s:¬i.toList.any (·.refKey)=true:=by rw[a];exact Vu
   rw[eG s];exact congrArg some e
def di.look(I:di h x e C d):∃b,PySem.W.InstAt h x (PySem.W.instObj C e) C (ε b)/\∀a,PySem.W.lookIn a b=ε (d a):=
 let ⟨b,ho,hl⟩:=Ht I.ns
 ⟨b,⟨I.obj,rfl,rfl,ho⟩,hl⟩
section
variable{prog:Pu}{w:Ri}{A:Ro}{E:Oi->Ou->Prop}{s:Ou}{K:Pb}{x e C f:O4}{c:Str->Oo Oi}{name:Str}{v:Oi}
def kf(X:K.In s.heap)(I:di s.heap x e C c)(j:PySem.W.plainGet K C name=true)(i:PySem.W.hasDictIn K C=true)
 (k:findIn K (.ref C) name=ε none) (d:c name=ε v) (b:PySem.W.handedIn v=true) (h:Q v { s with toks:=s.toks+1 }) :
 wpAny (model prog w) A (getAttr (.ref x) name a) Q E s:=by
 obtain⟨m,J,g⟩:=I.look;exact PySem.W.get_value X J (PySem.W.plainGet_of j).1 (PySem.W.findObj_own i k rfl (by rw[g,d])) b h
def Fb(X:K.In s.heap)(I:di s.heap x e C c)(a:PySem.W.plainGet K C name=true)
 (j:findIn K (.ref C) name=ε (ε (.ref f))) (g:PySem.W.isFn K (.ref f)=true) (d:c name=none) (h:Q (.ref f,[.ref x]) s) :
 wpAny (model prog w) A (getMethod (.ref x) name pl) Q E s:=by
 obtain⟨b,J,i⟩:=I.look;exact PySem.W.method_fn X J (PySem.W.plainGet_of a).1 (PySem.W.plainGet_of a).2 j (beq_iff_eq.mp g) (by show(PySem.W.lookIn name b).map (·.isSome)=ε false;rw[i,d];rfl) h
def kg(X:K.In s.heap)(I:di s.heap x e C c)
 (hs:findIn K (.ref C) "__setattr__" =ε (ε (.builtin "object.__setattr__"))) (hp:PySem.W.plainOver K C=true) (p:PySem.W.takerIn K C name=ε none) (q:PySem.W.hasDictIn K C=true)
 (hw:PySem.Within c ns) (hsz:ns.length<=sizeLine)
 (h:∀i,di i x e C (fun y=>if y=name then ε v else c y)->Heap.SameBut e s.heap i->Q () { s with heap:=i,toks:=s.toks+2 }) :
 wpAny (model prog w) A (setAttr (.ref x) name v) Q E s:=by
 obtain⟨F,J,L⟩:=I.look;refine PySem.W.set_plain X J hs (PySem.W.osa_open (s:={ s with toks:=s.toks+1 }) (r:=none) X J hp p fun b=>?_);obtain⟨M,u,m⟩:=PySem.W.any_some q;have o:s.heap.get? x=ε ⟨.ref C,ε e,.plain,#[]⟩:=I.obj;refine ao (au (ao (ao (wpAny_loadPart o (ao (PySem.W.Looks.here (s:={ s with toks:=s.toks+1 }) (PySem.W.looks_clsIn X u) ?_))))));rw[m];refine au (a:=ε e) (ao (au (ao ?_)));refine wpAny_nsSet1 (s:={ s with toks:=s.toks+1 }) I.ns fun i g d=>?_
 obtain⟨H,B,D,j,k,n⟩:=g.count (PySem.Within.cons name v hw);refine ao (wpAny_lookBehind j (by rw[k];exact pastItsLine_dict (rz n (by rw[T4];omega))) ?_);exact au (h _ ⟨(d.2 _ (m8 I.ne)).trans I.obj,g,I.ne⟩ d)
def Dc(X:K.In s.heap)(b:PySem.W.makesIn K C=true)
 (i:findIn K (.ref C) "__init__" =ε (ε (.ref f))) (j:PySem.W.typeIn K (.ref f)=ε (.type "function"))
 (h:codeAny (model prog w) (A.under (.builtin "type.__call__" ⟨.ref C::vs,a⟩)) (.call (.ref f) ⟨.ref (s.heap.objs.size+1)::vs,a⟩) (PySem.W.InitBack (s.heap.objs.size+1) R)
  { s with heap:=(s.heap.push PySem.W.emptyDict).push (PySem.W.instObj C s.heap.objs.size) }) :
 codeAny (model prog w) A (.call (.ref C) ⟨vs,a⟩) R s:=by
 obtain⟨k,g,d,t,os⟩:=s;exact PySem.W.make_core (PySem.W.makes_of X b) (PySem.W.looks_findIn X i) (fun self=>PySem.W.bind_fn X self j) (.inl rfl) h
end
noncomputable def DB(f:Str)(v:V):Oe (Str×V)->Oe (Str×V)
 | []=>[(f,v)]
 | (g,x)::r=>if g=f then(g,v)::r else(g,x)::DB f v r
theorem pW(f g)(v):∀fs,(DB f v fs).lookup g=if g=f then ε v else fs.lookup g
 | []=>by
  show List.lookup g [(f,v)]=_;by_cases h:g=f
  . have a:(g==f)=true:=beq_iff_eq.mpr h;simp![List.lookup,a,dz h]
  . have a:(g==f)=false:=Eo.mpr h;simp![List.lookup,a,eG h]
 | (k,x)::r=>by
  have ih:=pW f g v r;rw[show DB f v ((k,x)::r)=(if k=f then(k,v)::r else(k,x)::DB f v r)from rfl];by_cases b:k=f
  . rw[dz b];by_cases h:g=k
    . have a:(g==k)=true:=beq_iff_eq.mpr h;simp![List.lookup,a,dz (h.trans b)]
    . have a:(g==k)=false:=Eo.mpr h;simp![List.lookup,a,eG (fun e:g=f=>h (e.trans b.symm))]
  . rw[eG b];by_cases h:g=k
    . have a:(g==k)=true:=beq_iff_eq.mpr h;simp![List.lookup,a,eG (fun e:g=f=>b (h.symm.trans e))]
    . have a:(g==k)=false:=Eo.mpr h;simp![List.lookup,a];exact ih
theorem NR(f)(v):∀fs,f∈(DB f v fs).map (·.1)/\∀g,g∈fs.map (·.1)->g∈(DB f v fs).map (·.1)
 | []=>⟨by simp[DB],fun g h=>by simp at h⟩
 | (k,x)::r=>by
  obtain⟨d,b⟩:=NR f v r;rw[show DB f v ((k,x)::r)=(if k=f then(k,v)::r else(k,x)::DB f v r)from rfl];by_cases a:k=f
  . rw[dz a];subst a;exact⟨by simp,fun g h=>by simpa using h⟩
  . rw[eG a];refine⟨?_,fun g h=>?_⟩
    . rw[Uo];exact nu _ d
    . rw[Uo]at h ⊢;rcases Ba.mp h with e | e
      . exact Ba.mpr (.inl e)
      . exact nu _ (b g e)
theorem BW(f)(v):∀fs,(DB f v fs).length<=fs.length+1
 | []=>by simp[DB]
 | (k,x)::r=>by
  have ih:=BW f v r;rw[show DB f v ((k,x)::r)=(if k=f then(k,v)::r else(k,x)::DB f v r)from rfl];by_cases a:k=f
  . rw[dz a,T4,T4];omega
  . rw[eG a,T4,T4];omega
def av.some_of(r:av (ε v) o):∃u,o=ε u/\ve v u:=by
 cases o with
 | none=>exact(show False from r).elim
 | some u=>exact⟨u,rfl,r⟩
def av.none_of(r:av none o):o=none:=by
 cases o with
 | none=>rfl
 | some u=>exact(show False from r).elim
def jr(r:ve v u):PySem.W.handedIn u=true:=by
 cases v with
 | non=>cases (show u=Value.none from r);rfl
 | bl b=>cases (show u=Value.bool b from r);rfl
 | int i=>obtain⟨t,e⟩:=(show ∃t,u=Value.int i t from r);cases e;rfl
 | str x=>obtain⟨t,e⟩:=(show ∃t,u=Value.str x t from r);cases e;rfl
 | byt b=>obtain⟨t,e⟩:=(show ∃t,u=Value.bytes b t from r);cases e;rfl
 | flt b=>obtain⟨t,e⟩:=(show ∃t,u=Value.float b t from r);cases e;rfl
 | ref a=>cases (show u=Value.ref a from r);rfl
 | ty n=>cases (show u=Value.type n from r);rfl
section
variable{P:Pu}{w:Ri}{H H':Hp}{h h':Ru}{a C b:O4}{fs fs':Oe (Str×V)}
def kT(hok:wl P w H h)(e:H a=ε (.ins C b fs)):∃g,di h a b C g/\(∀f,av (fs.lookup f) (g f))/\PySem.Within g (fs.map (·.1))/\fs.length<=1000/\H b=ε (.own a):=by obtain⟨d,z,ne,ob,g,n,r,q⟩:=(show Ye P w H h a (.ins C b fs)from hok a _ e);exact⟨g,⟨ob,n,ne⟩,r,q,z,d⟩
end
structure Cls(K:Frag)(C:Addr):Prop where
 pg:PySem.W.plainGet K C Str.empty=true
 hd:PySem.W.hasDictIn K C=true
 po:PySem.W.plainOver K C=true
 sa:findIn K (.ref C) "__setattr__" =ε (ε (.builtin "object.__setattr__"))
def Cls.get{K:Pb}{C:O4}(c:Cls K C)(f):PySem.W.plainGet K C f=true:=c.pg
def dm(K:Pb)(C:O4)(f:Str):Prop:=findIn K (.ref C) f=ε none
def dm.taker{K:Pb}(n:dm K C f):PySem.W.takerIn K C f=ε none:=by unfold PySem.W.takerIn;rw[show findIn K (.ref C) f=ε none from n];rfl
structure tN(K:Frag)(C:Addr)(m:Str)(f:Addr):Prop where
 at_:findIn K (.ref C) m=ε (ε (.ref f))
 fn:PySem.W.isFn K (.ref f)=true
 kp:keepIn K (.ref f)=true
section
variable{X:Cx}{d:Oe (O4×Obj)}{i:St}{H:Hp}{s:Ou}{a C j:O4}{fs:Oe (Str×V)}{f:Str}{v:V}{A:Ro}{E:Oi->Ou->Prop}
def Ag(I:u7 X d i H s)(e:H a=ε (.ins C j fs))(c:Cls X.K C)(n:dm X.K C f)(l:fs.lookup f=ε v)
 (h:∀u g,u7 X d i H g->ve v u->Q u g):wpAny (model X.prog X.w) A (getAttr (.ref a) f b) Q E s:=by
 obtain⟨m,O,r,_,_,_⟩:=kT I.hok e;obtain⟨u,p,k⟩:=av.some_of (v:=v) (o:=m f) (by rw[<- l];exact r f);exact kf I.kIn O (c.get f) c.hd n p (jr k) (h u _ (I.tok _) k)
def Bg(I:u7 X d i H s)(e:H a=ε (.ins C j fs))(c:Cls X.K C)(k:tN X.K C m g)(l:fs.lookup m=none)
 (h:Q (.ref g,[.ref a]) s):wpAny (model X.prog X.w) A (getMethod (.ref a) m pl) Q E s:=by
 obtain⟨b,O,r,_,_,_⟩:=kT I.hok e;have n:b m=none:=av.none_of (by rw[<- l];exact r m);exact Fb I.kIn O (c.get m) k.at_ k.fn n h
def vh(I:u7 X d i H s)(e:H a=ε (.ins C j fs))(c:Cls X.K C)(n:dm X.K C f)(R:fs.length<1000)(F:ve y u)
 (h:∀p,u7 X d i (pB H a (.ins C j (DB f y fs))) p->Q () p):wpAny (model X.prog X.w) A (setAttr (.ref a) f u) Q E s:=by
 obtain⟨B,O,r,m,_,D⟩:=kT I.hok e;have J:(fs.map (·.1)).length<=sizeLine:=by rw[mq,Ca];omega
 refine kg I.kIn O c.sa c.po n.taker c.hd m J fun P k sb=>h _ ?_
 have hd:∃o,P.get? j=ε o:=let ⟨o,_,_,e',_⟩:=k.ns;⟨o,e'⟩
 refine I.write (x:=a) (e:=j) (by rw[e];exact Ju) (.inr D) (fun b q M z=>(sb.2 b M).trans z) hd ?_;refine⟨by rw[XA O.ne];exact D,?_,O.ne,k.obj,_,k.ns,fun g=>?_,fun g L=>?_⟩
 . have:=BW f y fs;omega
 . show av ((DB f y fs).lookup g) (if g=f then ε u else B g);rw[pW];by_cases q:g=f
   . rw[dz q,dz q];exact F
   . rw[eG q,eG q];exact r g
 . by_cases q:g=f
   . rw[q];exact(NR f y fs).1
   . refine(NR f y fs).2 g (m g fun z=>L ?_);show(if g=f then ε u else B g)=none;rw[eG q];exact z
def u7.made(I:u7 X d i H s):u7 X d i (pB (pB H s.heap.objs.size (.own (s.heap.objs.size+1))) (s.heap.objs.size+1) (.ins C s.heap.objs.size []))
 { s with heap:=(s.heap.push PySem.W.emptyDict).push (PySem.W.instObj C s.heap.objs.size) }:=by
 have g:(s.heap.push PySem.W.emptyDict).get? s.heap.objs.size=ε PySem.W.emptyDict:=jj s.heap rfl;have e2:((s.heap.push PySem.W.emptyDict).push (PySem.W.instObj C s.heap.objs.size)).get? (s.heap.objs.size+1)=ε (PySem.W.instObj C s.heap.objs.size):=by have:=jj (s.heap.push PySem.W.emptyDict) (o:=PySem.W.instObj C s.heap.objs.size) rfl;rwa[Li]at this
 have m:(s.heap.push PySem.W.emptyDict).Ns s.heap.objs.size (fun z=>none):=⟨PySem.W.emptyDict,#[],_,g,rfl,(fun e k=>Ea k ⋯),fun z=>rfl⟩;have n:=I.laid (a:=s.heap.objs.size) (o:=.own (s.heap.objs.size+1)) (h':=s.heap.push PySem.W.emptyDict) (t':=s.toks) (fun b u q=>cu _ q) (Us _) ⟨_,g⟩;refine n.laid (a:=s.heap.objs.size+1) (o:=.ins C s.heap.objs.size []) (t':=s.toks) (fun b u q=>cu _ q) (Nat.le_of_eq (Li _ _)) ?_;have ne:s.heap.objs.size≠s.heap.objs.size+1:=nW (yu _);refine⟨by rw[XA ne,oC],m6 _,ne,e2,fun z=>none,(Heap.Ns1.of_empty m).at fun o q=>cu _ q,fun z=>Ju,fun y h=>Ea rfl h⟩
def ki(g:attributeBase e f env (eval e env)=eval e env)
 (h:wpAny (model prog w) A (eval e env) (fun o b=>wpAny (model prog w) A (getAttr o f true) Q E b) E s):wpAny (model prog w) A (eval (.Attribute e f pos) env) Q E s:=
 Attribute_any_ h (by rw[arm_eval_Attribute,g])
end
def n8(K:Pb)(e:TE)(f:Str):TE:=fun d H Q=>e d H fun x b=>∃a C g fs v,x=.ref a/\b a=ε (.ins C g fs)/\Cls K C/\dm K C f/\fs.lookup f=ε v/\Q v b
def b8(K:Pb)(h g:TE)(f:Str):TS:=fun D b H=>g b H fun y i=>h b i fun x e=>∃a C d fs,x=.ref a/\e a=ε (.ins C d fs)/\Cls K C/\dm K C f/\fs.length<1000/\
 D.nx b (pB e a (.ins C d (DB f y fs)))
section
variable{X:Cx}{o e b:Pa}{f:Str}{pos d tpos:Pos}{g i:TE}
def Pq(he:PE X e g)(y:attributeBase e f X.env (eval e X.env)=eval e X.env):PE X (.Attribute e f pos) (n8 X.K g f):=by intro j s k H Q I h;refine ki y (wB (he j s k H _ I h) fun u M m=>?_);obtain⟨x,F,E,p,a,C,O,fs,v,ex,B,c,n,l,q⟩:=m;subst ex;obtain rfl:u=Value.ref a:=p;exact Ag E B c n l fun J L D r=>⟨v,F,D,r,q⟩
def Ij(J:PE X o g)(F:PE X b i)(hs:swapsWith b (ε (.Attribute o f d)) pos.line X.env=pure false):PS X (.Assign [.Attribute o f d] b pos) (b8 X.K g i f):=by intro j s k H D I h;refine plainObj_wpAny_Assign_Attribute (wB (F j s k H _ I h) fun u p ⟨y,Q,P,r,q⟩=>wB (J j p k Q _ P q) fun E S m=>?_) hs;obtain⟨x,U,O,B,a,C,T,fs,ex,L,c,n,l,q2⟩:=m;subst ex;obtain rfl:E=Value.ref a:=B;exact vh O L c n l r fun R M=>⟨k,_,M,q2⟩
end
section
variable{X:Cx}{pins:Oe (O4×Obj)}{σ:St}{H:Hp}{s:Ou}{A:Ro}{E:Oi->Ou->Prop}{Q:Oi->Ou->Prop}{c:Oi}{b:Bool}
end
structure Xi(k:Nat)(A:Around):Prop where
 hd:A.handled=none
 dp:A.depth+3*k+5<recursionLimit
 un:A.units+16*k+200<cLine
def Xi.mono(r:Xi k A)(h:j<=k):Xi j A:=⟨r.hd,by have:=r.dp;omega,by have:=r.un;omega⟩
def Xi.deeper(r:Xi (k+1) A)(env):Xi k (A.deeper env):=
 ⟨r.hd,by have:=r.dp;show A.depth+1+3*k+5<_;omega,by have:=r.un;show A.units+3+16*k+200<_;omega⟩
def Fg {A:Ro}:(A.under (.builtin "type.__call__" ⟨.ref C::us,a⟩)).depth=A.depth+1:=by first | rfl | simp[Around.under,Code.weight,Code.isCreation,Code.isGuard,Code.isCaller,Code.frames,Code.isFrame,guardIds]
def Gg {A:Ro}:(A.under (.builtin "type.__call__" ⟨.ref C::us,a⟩)).units=A.units+1:=by first | rfl | simp[Around.under,Code.cUnits,Code.frames,Code.isFrame]
def Xi.make (r:Xi (k+1) A) (C) (us) (a):Xi k (A.under (.builtin "type.__call__" ⟨.ref C::us,a⟩)):=
 ⟨r.hd,by have:=r.dp;rw[Fg];omega,by have:=r.un;rw[Gg];omega⟩
def Xi.depth(r:Xi k A):A.depth<recursionLimit:=by have:=r.dp;omega
def Xi.units(r:Xi k A):A.units+64<cLine:=by have:=r.un;omega
noncomputable def UQ:TA:=fun _ H Q=>Q [] H
noncomputable def Y5(e:TE)(d:TA):TA:=fun a H Q=>e a H fun x g=>d a g fun b f=>Q (x::b) f
section
variable{X:Cx}{e:Pa}{a:Oe Pa}{te:TE}{t:TA}{pos:Pos}
def cD:PA X [] UQ:=fun q q q q H Q I h=>Calls.spliced_nil ⟨[],H,I,.nil,h⟩
def mC(n:PE X e te)(m:PA X a t)(hs:autoParam (starEach (e::a) X.env=(false,eval e X.env)::starEach a X.env) Æ):PA X (e::a) (Y5 te t):=by intro pos b s d H Q I h;rw[hs];show wpAny _ _ (spliced ((false,eval e X.env)::backTo pos (starEach a X.env))) _ _ s;refine Calls.spliced_cons (wB (n b s d H _ I h) fun u i f=>?_);obtain⟨x,r,p,k,q1⟩:=f;exact wB (m pos b i d r _ p q1) fun y B ⟨g,q,o,j,q2⟩=>⟨x::g,q,o,.cons k j,q2⟩
def y8(t:TA):TE:=fun f H Q=>t f H fun b d=>b.length<=sizeLine/\∀p,d p=none->Q (.ref p) (pB d p (.tup b))
def fV(t:TA):TE:=fun f H Q=>t f H fun b d=>b.length<=sizeLine/\∀p,d p=none->Q (.ref p) (pB d p (.lst b))
def o4{x1}(h:PA X a t):PE X (.Tuple a x1 pos) (y8 t):=by intro d s j H Q I n;refine wpAny_Tuple_spliced (wB (h pos d s j H _ I n) fun m f ⟨k,i,g,r,z,q⟩=>⟨by rw[<- r.length];exact z,?_⟩);have o:i f.heap.objs.size=none:=g.hok.fresh (Us _);refine⟨.ref f.heap.objs.size,pB i f.heap.objs.size (.tup k),g.laid (t':=f.toks) (fun b u e=>cu _ e) (Us _) ?_,rfl,q _ o⟩;exact⟨z,m,r,⟨_,jj _ rfl,rfl,_,rfl⟩⟩
def JP(h:PA X a t):PE X (.List a pos) (fV t):=by intro d s j H Q I n;refine wpAny_List_spliced (wB (h pos d s j H _ I n) fun m f ⟨k,i,g,r,z,q⟩=>⟨by rw[<- r.length];exact z,?_⟩);have o:i f.heap.objs.size=none:=g.hok.fresh (Us _);refine⟨.ref f.heap.objs.size,pB i f.heap.objs.size (.lst k),g.laid (t':=f.toks) (fun b u e=>cu _ e) (Us _) ?_,rfl,q _ o⟩;exact⟨z,m,0,r,jj _ rfl⟩
end
abbrev Sp:=Oe V->Hp->VK->XK->Prop
abbrev GK:=Oe Env->Hp->Ou->XK->Oi->Ou->Prop
structure dn(P:Program)(w:World)(K:Frag)(mg:Str->Option Value)(base:Heap)(A:Around)(outer:List Env)(s:Shared)(H:Hp):Prop where
 frames:A.frames=ε outer
 mod:Mod K mg base
 bs:∀b o,base.get? b=ε o->s.heap.get? b=ε o/\H b=none
 bsz:base.objs.size<=s.heap.objs.size
 bq:s.heap.FunFrames base outer
 frf:∀b∈WK outer,H b=none
 hok:wl P w H s.heap
 bare:AllBare s.gens
def CE(outer:Oe Env)(P:Pu)(w:Ri)(H:Hp)(s:Ou)(Q:VK)(u:Oi)(a:Ou):Prop:=
 ∃v b,a.os=s.os/\AllBare a.gens/\Un (WK outer) [] H b s.heap a.heap/\wl P w b a.heap/\ve v u/\Q v b
def CR(CX:GK)(outer:Oe Env)(P:Pu)(w:Ri)(H:Hp)(s:Ou)(Q:VK)(E:XK)(r:Result)(a:Ou):Prop:=
 match r with
 | .ok (.ret u)=>CE outer P w H s Q u a
 | .ok _=>False
 | .error e=>CX outer H s E e a
structure ab(P:Program)(w:World)(K:Frag)(mg:Str->Option Value)(base:Heap)(CX:GK)(k:Nat)(f:Addr)(fd:FuncData)(ps:List Str)(sp:Sp):Prop where
 len:∀vs H Q E,sp vs H Q E->vs.length=ps.length
 run:∀(A:Around)(outer:List Env)(s:Shared)(H:Hp)(args:Args)(us:List Value)(vs:List V)(Q:VK)(E:XK),Xi k A->dn P w K mg base A outer s H->BindsTo s fd args (ps.zip us)->va vs us->sp vs H Q E->
  codeAny (model P w) A (.call (.ref f) args) (CR CX outer P w H s Q E) s
def ab.mono{K:Pb}(F:ab P w K mg base CX j f b ps sp)(h:j<=k) :
 ab P w K mg base CX k f b ps sp:=⟨F.len,fun A outer s H a e d Q E g=>F.run A outer s H a e d Q E (g.mono h)⟩
def dn.make{K:Pb}(e:dn P w K mg base A outer s H)(C)(us)(a) :
 dn P w K mg base (A.under (.builtin "type.__call__" ⟨.ref C::us,a⟩)) outer s H:=⟨by first | exact e.frames | (simpa[Around.under,Code.envs,Code.isFrame,pushEnvs]using e.frames),e.mod,e.bs,e.bsz,e.bq,e.frf,e.hok,e.bare⟩
section
variable{X:Cx}{a:Oe (O4×Obj)}{c:St}{H:Hp}{s e:Ou}
def u7.env0(I:u7 X a c H s):dn X.prog X.w X.K X.mg X.base X.A X.stack s H:=
 ⟨I.ok.frames,I.ok.mod,I.bs,rz I.ok.bsz I.sz,I.stack,I.hG,I.hok,I.bare⟩
def u7.after(I:u7 X a c H s)(h:CE X.stack X.prog X.w H s Q u e):EP X a c Q u e:=by obtain⟨v,j,os,bare,un,hok,r,q⟩:=h;obtain⟨i,g,d,t,f⟩:=e;obtain rfl:f=s.os:=os;exact⟨v,j,I.call (h':=i) (g':=g) (d':=d) (t':=t) (ch:=[]) un hok bare (fun b z=>Ea z ⋯),r,q⟩
end
noncomputable def X5(sp:Sp)(a:Oe V)(E:XK)(t:TA):TE:=fun b H Q=>t b H fun d e=>sp (d++a) e Q E
def Xq(C:O4)(m:Str)(sp:Sp)(b:Oe V)(E:XK)(g:TE)(t:TA):TE:=fun d H Q=>g d H fun x e=>∃a h fs,x=.ref a/\e a=ε (.ins C h fs)/\fs.lookup m=none/\
 t d e fun f i=>sp (x::(f++b)) i Q E
def Wq(C:O4)(sp:Sp)(b:Oe V)(E:XK)(t:TA):TE:=fun e H Q=>t e H fun f d=>∀x a,d x=none->d a=none->a≠x->
 sp (.ref x::(f++b)) (pB (pB d a (.own x)) x (.ins C a [])) (fun v g=>v=.non/\Q (.ref x) g) E
def vt(K:Pb)(b:FuncData)(ps:Oe Str)(ds:Oe Oi):Prop:=
 ∀(s:Ou)(a:Oe Oi),K.In s.heap->(a++ds).length=ps.length->BindsTo s b ⟨a,[]⟩ (ps.zip (a++ds))
def vt.all{K:Pb}(h:∀a,a.length=ps.length->bindArgs d ⟨a,[]⟩=pure (ps.zip a)):vt K d ps []:=fun s a q b=>by rw[Ui]at b ⊢;exact .of_eq (h a b)
def YI(CX:GK)(X:Cx)(E:XK):Prop:=∀(a:Oe (O4×Obj))(d:St)(H:Hp)(s:Ou)(e:Oi)(b:Ou),u7 X a d H s->CX X.stack H s E e b->X.xe e b
section
variable{X:Cx}{CX:GK}{k:Nat}{f C:O4}{fd:FuncData}{ps:Oe Str}{sp:Sp}{dvs:Oe V}{ds:Oe Oi}{E:XK}{x m:Str}{p pos apos:Pos}{e o:Pa}{es:Oe Pa}{ta:TE}{t:TA}
def vT(F:ab X.prog X.w X.K X.mg X.base CX k f fd ps sp)(n:Xi k X.A)(y:vt X.K fd ps ds)(hd:va dvs ds)(j:YI CX X E)
 (I:u7 X a d H s) (r:va vs us) (h:sp (vs++dvs) H Q E):wpAny (model X.prog X.w) X.A (call (.ref f) us) (EP X a d Q) X.xe s:=by
 have g:va (vs++dvs) (us++ds):=r.append hd;have q:(us++ds).length=ps.length:=by rw[<- g.length];exact F.len _ _ _ _ h
 refine wpAny_call (codeAny_mono (F.run X.A X.stack s H ⟨us,[]⟩ (us++ds) (vs++dvs) Q E n I.env0 (y s us I.kIn q) g h) fun r i b=>?_);cases r with
 | error e=>exact j a d H s e i I b
 | ok B=>
  cases B with
  | ret u=>exact I.after b
  | next=>exact Fd b
  | brk=>exact Fd b
  | cont=>exact Fd b
def km(F:ab X.prog X.w X.K X.mg X.base CX k f fd ps sp)(j:Xi k X.A)(y:Gl X x)(n:X.mg x=ε (.ref f))(u:keepIn X.K (.ref f)=true)(B:vt X.K fd ps ds)(hd:va dvs ds)(i:YI CX X E)
 (D:PA X (e::es) t) (b:autoParam ((x==("__debug__" :Str))=false) Ñ) (he:autoParam (starEach (e::es) X.env=(false,eval e X.env)::starEach es X.env) Æ) (hpl:autoParam ((backTo pos (starEach es X.env)).any (·.1)=false) Æ) :
 PE X (.Call (.Name x p) (e::es) [] pos) (X5 sp dvs E t):=by
 intro a s g H Q I h;refine wpAny_Call_Name_kw (xP I y n ?_ b);refine PySem.W.callWith_K (h₀:=X.base) I.ok.mod.kin u (wB (D pos a s g H _ I h) fun L M ⟨J,O,d,r,q⟩=>⟨d.kIn,?_⟩) he hpl;exact vT F j B hd i d r q
def Il(F:ab X.prog X.w X.K X.mg X.base CX k f fd ps sp)(g:Xi k X.A)(n:Gl X x)(i:X.mg x=ε (.ref f))(j:keepIn X.K (.ref f)=true)(q:vt X.K fd ps ds)(hd:va dvs ds)(d:YI CX X E)
 (a:autoParam ((x==("__debug__" :Str))=false) Ñ):PE X (.Call (.Name x p) [] [] pos) (X5 sp dvs E UQ):=by
 intro b s r H Q I h;refine wpAny_Call_Name_kw (xP I n i ?_ a);exact PySem.W.callWith_K0 I.kIn j (vT (us:=[]) F g q hd d I .nil h)
def ko(he:PE X o ta)(c:Cls X.K C)(i:tN X.K C m f)(F:ab X.prog X.w X.K X.mg X.base CX k f fd ps sp)(M:Xi k X.A)(O:vt X.K fd ps ds)(hd:va dvs ds)(J:YI CX X E)(P:PA X (e::es) t)
 (d:autoParam (starEach (e::es) X.env=(false,eval e X.env)::starEach es X.env) Æ) (hpl:autoParam ((backTo pos (starEach es X.env)).any (·.1)=false) Æ)
 (L:eval (.Call (.Attribute o m apos) (e::es) [] pos) X.env=(do
  let ov <- eval o X.env
  standAt apos.atName
  let (f,first) <- holding [ov] (getMethod ov m pl)
  callWith pos f first (backTo pos (starEach (e::es) X.env)) (backToKw pos (keywordEach [] X.env))):=by rfl) :
 PE X (.Call (.Attribute o m apos) (e::es) [] pos) (Xq C m sp dvs E ta t):=by
 intro b s g H Q I h;refine PySem.W.methodCall_KW (pl:=pl) (wB (he b s g H _ I h) fun u B y=>?_) L;obtain⟨x,S,n,D,a,U,fs,ex,R,l,q⟩:=y;subst ex;obtain rfl:u=Value.ref a:=D;refine Bg n R c i l ?_;refine PySem.W.callWith_K (first:=[.ref a]) (h₀:=X.base) I.ok.mod.kin i.kp (wB (P pos b B g S _ n q) fun us T ⟨vs,W,j,r,q2⟩=>⟨j.kIn,?_⟩) d hpl;exact vT (us:=.ref a::us) (vs:=.ref a::vs) F M O hd J j (.cons rfl r) q2
structure Mk(K:Frag)(C f:Addr):Prop where
 makes:PySem.W.makesIn K C=true
 init:findIn K (.ref C) "__init__" =ε (ε (.ref f))
 fn:PySem.W.isFn K (.ref f)=true
 kp:keepIn K (.ref C)=true
def Fp(M:Mk X.K C f)(F:ab X.prog X.w X.K X.mg X.base CX k f fd ps sp)(D:Xi (k+1) X.A)(L:vt X.K fd ps ds)(hd:va dvs ds)
 (B:YI CX X E) (I:u7 X a i H s) (r:va vs us)
 (h:∀x d,H x=none->H d=none->d≠x->sp (.ref x::(vs++dvs)) (pB (pB H d (.own x)) x (.ins C d [])) (fun v R=>v=.non/\Q (.ref x) R) E) :
 wpAny (model X.prog X.w) X.A (call (.ref C) us) (EP X a i Q) X.xe s:=by
 have n:=h (s.heap.objs.size+1) s.heap.objs.size (I.hok.fresh (Nat.le_succ _)) (I.hok.fresh (Us _)) (nW (yu _));have g:=u7.made (C:=C) I;have j:va (V.ref (s.heap.objs.size+1)::(vs++dvs)) (Value.ref (s.heap.objs.size+1)::(us++ds)):=.cons rfl (r.append hd);have J:(Value.ref (s.heap.objs.size+1)::us++ds).length=ps.length:=by have e:=j.length;rw[F.len _ _ _ _ n]at e;exact e.symm
 refine wpAny_call (Dc (f:=f) I.kIn M.makes M.init (beq_iff_eq.mp M.fn) (codeAny_mono (F.run _ X.stack _ _ ⟨Value.ref (s.heap.objs.size+1)::us,[]⟩ (Value.ref (s.heap.objs.size+1)::(us++ds)) _ _ E (D.make C us [])
  (g.env0.make C us []) (L _ (Value.ref (s.heap.objs.size+1)::us) g.kIn J) j n) fun r q b=>?_))
 cases r with
 | error e=>exact B a i _ _ e q g b
 | ok O=>
  cases O with
  | ret u=>obtain⟨v,S,P,y,ev,q3⟩:=g.after b;subst ev;exact⟨y,⟨V.ref (s.heap.objs.size+1),S,P,rfl,q3⟩⟩
  | next=>exact Fd b
  | brk=>exact Fd b
  | cont=>exact Fd b
def kq(M:Mk X.K C f)(F:ab X.prog X.w X.K X.mg X.base CX k f fd ps sp)(j:Xi (k+1) X.A)(u:Gl X x)(n:X.mg x=ε (.ref C))(y:vt X.K fd ps ds)(hd:va dvs ds)(i:YI CX X E)
 (B:PA X (e::es) t) (b:autoParam ((x==("__debug__" :Str))=false) Ñ) (he:autoParam (starEach (e::es) X.env=(false,eval e X.env)::starEach es X.env) Æ) (hpl:autoParam ((backTo pos (starEach es X.env)).any (·.1)=false) Æ) :
 PE X (.Call (.Name x p) (e::es) [] pos) (Wq C sp dvs E t):=by
 intro a s g H Q I h;refine wpAny_Call_Name_kw (xP I u n ?_ b);refine PySem.W.callWith_K (h₀:=X.base) I.ok.mod.kin M.kp (wB (B pos a s g H _ I h) fun J L ⟨D,O,d,r,q⟩=>⟨d.kIn,?_⟩) he hpl;exact Fp M F j y hd i d r q
end
section
variable{X:Cx}{CX:GK}{k:Nat}{f C:O4}{fd:FuncData}{ps ks:Oe Str}{sp:Sp}{E:XK}{x m:Str}{p pos apos kpos:Pos}{e o:Pa}{es:Oe Pa}{kws:Oe Keyword}{te ta:TE}{t tk:TA}{nm:Oo Str}
variable{g:Oe Oi->Oe Oi->Oe Oi}{gV:Oe V->Oe V->Oe V}
end
structure Yu(N P:List Str)(sc:Scope):Prop where
 kind:sc.kind=.function
 co:sc.isCoroutine=false
 gen:sc.isGenerator=false
 nd:N.Nodup
 pre:N.take P.length=P
 par:∀x∈P,sc.names.lookup x=ε .local\/sc.names.lookup x=ε .cell
 kr:∀y∈sc.names,y.2≠.free
theorem RX:∀{binds:Oe (Str×Oi)}{m:Str->Oo Oi},(∀v,(x,v)∉binds)->bindL a binds m x=m x
 | [],_,_=>rfl
 | (n,v)::r,m,h=>by
  unfold bindL;rw[RX fun w hw=>h w (nu _ hw)];split
  . have:x≠n:=by rintro rfl;exact h v tu
    simp[this]
  . rfl
theorem PX:∀{binds:Oe (Str×Oi)}{m:Str->Oo Oi},(∀v,(x,v)∉binds)->bindC a binds m x=m x
 | [],_,_=>rfl
 | (n,v)::r,m,h=>by
  unfold bindC;rw[PX fun w hw=>h w (nu _ hw)];split
  . rfl
  . have:x≠n:=by rintro rfl;exact h v tu
    simp[this]
theorem QX:∀{P:Oe Str}{vs:Oe Oi}{i:Nat}{m:Str->Oo Oi},P.Nodup->P[i]?=ε x->vs[i]?=ε v->a x=ε .local->
 bindL a (P.zip vs) m x=ε v
 | [],_,_,_,_,h,_,_=>by simp at h
 | _::_,[],_,_,_,_,h,_=>by simp at h
 | p::P,w::vs,0,m,nd,h1,h2,hk=>by simp at h1 h2;subst h1;subst h2;show bindL a ((p,w)::P.zip vs) m p=_;unfold bindL;rw[RX fun v b=>(Mi.mp nd).1 (of_mem_zip b).1,dz hk];simp
 | p::P,w::vs,i+1,m,nd,h1,h2,hk=>by show bindL a ((p,w)::P.zip vs) m x=_;unfold bindL;exact QX (i:=i) (Mi.mp nd).2 (by simpa using h1) (by simpa using h2) hk
theorem OX:∀{P:Oe Str}{vs:Oe Oi}{i:Nat}{m:Str->Oo Oi},P.Nodup->P[i]?=ε x->vs[i]?=ε v->a x≠ε .local->
 bindC a (P.zip vs) m x=ε v
 | [],_,_,_,_,h,_,_=>by simp at h
 | _::_,[],_,_,_,_,h,_=>by simp at h
 | p::P,w::vs,0,m,nd,h1,h2,hk=>by simp at h1 h2;subst h1;subst h2;show bindC a ((p,w)::P.zip vs) m p=_;unfold bindC;rw[PX fun v b=>(Mi.mp nd).1 (of_mem_zip b).1,eG hk];simp
 | p::P,w::vs,i+1,m,nd,h1,h2,hk=>by show bindC a ((p,w)::P.zip vs) m x=_;unfold bindC;exact OX (i:=i) (Mi.mp nd).2 (by simpa using h1) (by simpa using h2) hk
noncomputable def pE(N:Oe Str)(vs:Oe V):St:=vs.map some++List.replicate (N.length-vs.length) none
noncomputable def YE(CX:GK)(P:Pu)(w:Ri)(K:Pb)(mg:Str->Oo Oi)(base:Ru)(N:Oe Str)(b:Str)(a:Scope)(f:O4)(g:Oi)(A:Ro)(outer:Oe Env)(s:Ou)(H:Hp)(E:XK):Cx where
 prog:=P
 w:=w
 K:=K
 mg:=mg
 base:=base
 A:=A.deeper (envOfC b a s.heap.objs.size f g)
 N:=N
 s₀:=s
 H₀:=H
 env:=envOfC b a s.heap.objs.size f g
 outer:=outer
 stack:=envOfC b a s.heap.objs.size f g::outer
 ex:=[]
 calm:=true
 fn:=fun _=>true
 pn:=[]
 xe:=fun e h=>wpAny (model P w) (A.deeper (envOfC b a s.heap.objs.size f g)) (leaving (envOfC b a s.heap.objs.size f g) e) (fun _ d=>CX outer H s E e d) (fun i d=>CX outer H s E i d) h
def nY{a:Scope}(h:a.names.lookup x=ε .cell):∃c,(cellsFrom n a.names []).lookup x=ε c:=by have q:=PySem.W.cellsFrom_some a.names n [] (.inl h);exact Option.isSome_iff_exists.mp q
def Br{K:Pb}
 (S:Yu N ps d) (hd:A.handled=none) (m:dn P w K mg base A outer s H) (R:vs.length=ps.length) (r:va vs us)
 (x:InCallC s s.heap.objs.size (bindL (envOfC g d s.heap.objs.size f F).kindOf (ps.zip us) fun t=>none) (cellsFrom (s.heap.objs.size+1) d.names []) (bindC (envOfC g d s.heap.objs.size f F).kindOf (ps.zip us) fun t=>none) s1) :
 u7 (YE CX P w K mg base N g d f F A outer s H E) [] (pE N vs) H s1:=by
 have M:ps.length<=N.length:=by have:=congrArg List.length S.pre;rw[Ce]at this;omega
 obtain⟨D,Q,rfl,J⟩:=x.done;have o:∀b:O4,b∉(YE CX P w K mg base N g d f F A outer s H E).ex:=fun b z=>Ea (show b∈([]:Oe O4)from z) ⋯
 refine⟨⟨m.mod,S.kind,rfl,rfl,Us _,fun y z c D j=>?_,fun y hy=>?_,fun y c t h=>?_,fun t=>hd,Around.frames_deeper m.frames,.inr ⟨rfl,rfl⟩,fun b z=>Ea z (o b),m.bs,m.bsz,fun b t t=>o b,fun b z=>Ea z (o b),m.bq,m.frf⟩,
  rfl,m.bare,Un.kept J,⟨_,x.toInCall.ns,fun i y v D j T=>?_⟩,fun y c h=>⟨_,x.cell y c h⟩,m.hok.fresh (Us _),fun y c h=>?_,fun p hp=>Ea (show p∈([]:Oe (O4×Obj))from hp) ⋯,m.hok.kept J,?_⟩
 . exact name_of_addr x.apart (PySem.mem_of_lookup D) (PySem.mem_of_lookup j)
 . have hy:d.names.lookup y=ε .cell\/d.names.lookup y=ε .free:=hy;rcases hy with hy | hy
   . exact nY hy
   . exact Ea rfl (S.kr _ (PySem.mem_of_lookup hy))
 . exact Cu (x.above y c (PySem.mem_of_lookup h))
 . have C:i<vs.length:=by
    unfold pE at j;by_cases C:i<vs.length
    . exact C
    . rw[Zu (by simpa using C)]at j;rw[getElem?_replicate]at j;split at j<;>cases j
   have O:vs[i]?=ε v:=by
    unfold pE at j;rw[Xo (by simpa using C),uq]at j;cases e:vs[i]? with
    | none=>rw[e]at j;cases j
    | some a=>rw[e]at j;cases j;rfl
   obtain⟨u,I,L⟩:=r.get O;have hp:ps[i]?=ε y:=by rw[<- S.pre,getElem?_take_of_lt nofun];exact D
   have B:ps.Nodup:=by rw[<- S.pre];exact S.nd.sublist (take_sublist _ _)
   refine⟨u,L,?_⟩;rcases S.par y (kj hp)with k | k
   . exact .inl ⟨k,QX B hp I k⟩
   . obtain⟨c,e⟩:=nY (n:=s.heap.objs.size+1) k;refine .inr ⟨.inl k,c,e,?_⟩;have q:=x.cell y c e;rw[OX B hp I (by show d.names.lookup y≠_;rw[k];decide)]at q;exact q
 . exact m.hok.fresh (Cu (x.above y c (PySem.mem_of_lookup h)))
 . unfold pE;show _=N.length;rw[je,mq,length_replicate];omega
def W4{K:Pb}{W kV F U g ct oc:Oi}
  (lk:K.lookup f=ε ⟨oc,od,.func (fnOf name d h body a W kV F U Z g ct),M⟩) (T:PySem.W.codeIn K g d=true) (S:Yu N ps a)
 (len:∀vs H Q E,sp vs H Q E->vs.length=ps.length)
 (p:∀(A:Ro)(outer:Oe Env)(s:Ou)(H:Hp)(vs:Oe V)(Q:VK)(E:XK),Xi k (A.deeper (envOfC d a s.heap.objs.size f g))->sp vs H Q E->
  ∃t,PSs (YE CX P w K mg base N d a f g A outer s H E) body t/\t { nx:=fun _ j=>Q .non j,rt:=Q } (pE N vs) H) :
 ab P w K mg base CX (k+1) f (fnOf name d h body a W kV F U Z g ct) ps sp:=by
 refine⟨len,fun A outer s H Y us vs Q E R D hb r B=>?_⟩;have hl:=len _ _ _ _ B;have KX:K.In s.heap:=D.mod.kin.keeps fun b o e=>(D.bs b o e).1
 have O:s.heap.NoLimit:=D.mod.nolimit.keeps fun b o e=>(D.bs b o e).1
 have m:∀y∈ps.zip us,a.names.lookup y.1=ε .local\/(a.names.lookup y.1=ε .cell/\((cellsFrom (s.heap.objs.size+1) a.names []).lookup y.1).isSome=true):=fun zz hy=>by
  obtain⟨n,v⟩:=zz;rcases S.par n (of_mem_zip hy).1 with q | q
  . exact .inl q
  . exact .inr ⟨q,PySem.W.cellsFrom_some _ _ _ (.inl q)⟩
 refine codeAny_call_function R.depth (KX _ _ lk) rfl S.co S.gen rfl (PySem.W.codeRec_of KX T) (hb _ _ _ _ ?_);refine wpAny_newFunctionEnv_cells S.kind m fun env he s1 x=>?_
 subst he;refine⟨O.keeps x.toInCall.keep,codeAny_func ?_⟩;obtain⟨t,ht,hq⟩:=p A outer s H vs Q E (R.deeper _) B;have I:u7 (YE CX P w K mg base N d a f g A outer s H E) [] (pE N vs) H s1:=Br S R.hd D hl r x;refine Ia (ht [] s1 (pE N vs) H _ I hq) (fun fl s' hs=>?_) fun e s' hs=>hs
 have C:∀{i:St}{j:Hp}{v:V}{u:Oi},u7 (YE CX P w K mg base N d a f g A outer s H E) [] i j s'->ve v u->Q v j->CE outer P w H s Q u s':=
  fun {i j v u} J L q=>⟨v,j,J.os,J.bare,J.base,J.hok,L,q⟩
 cases fl with
 | ret u=>obtain⟨v,i,j,J,L,q⟩:=hs;exact C J L q
 | next=>obtain⟨i,j,J,q⟩:=hs;exact C (v:=V.non) (u:=Value.none) J rfl q
 | brk=>obtain⟨_,_,_,q⟩:=hs;exact Fd q
 | cont=>obtain⟨_,_,_,q⟩:=hs;exact Fd q
section
variable{X:Cx}{x:Str}{p pos:Pos}{e:Pa}{a:Oe Pa}{t:TA}{b T:String}{r:Oe V->Hp->VK->Prop}
noncomputable def tCB(r:Oe V->Hp->VK->Prop)(t:TA):TE:=fun d H Q=>t d H fun f g=>r f g Q
def mM (y:ae X (.builtin b) r) (u:Gl X x) (q:X.mg x=none) (n:bootBuiltins x=ε (.builtin b)) (B:PA X (e::a) t) (o:autoParam (x ≠ "__name__" ) Ñ) (f:autoParam ((x==("__debug__" :Str))=false) Ñ)
 (he:autoParam (starEach (e::a) X.env=(false,eval e X.env)::starEach a X.env) Æ) (hpl:autoParam ((backTo pos (starEach a X.env)).any (·.1)=false) Æ):PE X (.Call (.Name x p) (e::a) [] pos) (tCB r t):=by
 intro d s g H Q I h;refine wpAny_Call_Name_kw (nG I u q n ?_ o f);exact PyProof.Rows.callWith_builtin1 (wB (B pos d s g H _ I h) fun j k ⟨i,D,C,m,q1⟩=>y d k g D i j Q C m q1) he hpl
def VR (y:ae X (.type T) r) (u:Gl X x) (q:X.mg x=none) (n:bootBuiltins x=ε (.type T)) (B:PA X (e::a) t) (o:autoParam (x ≠ "__name__" ) Ñ) (f:autoParam ((x==("__debug__" :Str))=false) Ñ)
 (he:autoParam (starEach (e::a) X.env=(false,eval e X.env)::starEach a X.env) Æ) (hpl:autoParam ((backTo pos (starEach a X.env)).any (·.1)=false) Æ):PE X (.Call (.Name x p) (e::a) [] pos) (tCB r t):=by
 intro d s g H Q I h;refine wpAny_Call_Name_kw (nG I u q n ?_ o f);exact PyProof.Rows.callWith_type1 (wB (B pos d s g H _ I h) fun j k ⟨i,D,C,m,q1⟩=>y d k g D i j Q C m q1) he hpl
end
end L2
namespace HT
section
open PySem.SeqAt
open PySem.AutoSeq1 (wpAny_loadPart')
open PySem.MeetsSeq PySem.MeetsSeq2 PySem.MeetsSeq3
end
section
variable{prog:Pu}{w:Ri}{A:Ro}{E:Oi->Ou->Prop}{s:Ou}
def kt(x:IsTup s.heap t vs.toArray)(y:IsTup s.heap b a.toArray)(p:vs ≠ [])
 (h1:a=[]->Q (.ref t) s) (h2:a ≠ []->Q (.ref s.heap.objs.size) { s with heap:=s.heap.push { cls:=.type "tuple",data:=.seq (vs++a).toArray } })
 (hsz:vs.length+a.length<=sizeLine):wpAny (model prog w) A (binaryOp .Add (.ref t) (.ref b)) Q E s:=by
 obtain⟨⟨cls,r,data,m⟩,j,q,n,hd⟩:=id x;obtain⟨⟨u,i,k,f⟩,d,h,o,g⟩:=id y;simp only at q hd h g;subst q hd h g;have e:vs.toArray++a.toArray=(vs++a).toArray:=by simp
 by_cases hw:a=[]
 . exact concat_meets ⟨_,j,rfl⟩ ⟨_,d,rfl⟩ noFill_tuple_add seq_tuple_add PySem.F.slot_tuple_add PySem.F.entry_tuple_add (PySem.F.args_tuple_add_2 _ _)
    (tuple_addW1 t b vs.toArray a.toArray n o r i m f (by simpa using p) (by simp[hw])) ⟨j,d,h1 hw⟩
 . refine concat_meets ⟨_,j,rfl⟩ ⟨_,d,rfl⟩ noFill_tuple_add seq_tuple_add PySem.F.slot_tuple_add PySem.F.entry_tuple_add (PySem.F.args_tuple_add_2 _ _)
    (tuple_addW2 t b vs.toArray a.toArray n o r i m f (by simpa using p) (by simpa using hw) (by rw[cG,cG];exact hsz)) ⟨j,d,?_⟩
   rw[e];exact h2 hw
noncomputable def sIx(n d:Nat):Oo Int->Nat
 | none=>d
 | some v=>if v<0 then(v+(n:Int)).toNat else min v.toNat n
def dj(n d)(hd:d<=n)(o):sIx n d o<=n:=by
 cases o with
 | none=>exact hd
 | some v=>
  show(if v<0 then(v+(n:Int)).toNat else min v.toNat n)<=n;by_cases a:v<0
  . rw[dz a];omega
  . rw[eG a];exact Nat.min_le_right _ _
def gi(v)(n d:Nat):(if v<0 then max (v+(n:Int)) 0 else min v (n:Int))=((sIx n d (ε v):Nat):Int):=by
 show _=(((if v<0 then(v+(n:Int)).toNat else min v.toNat n):Nat):Int);by_cases a:v<0
 . rw[dz a,dz a,Int.ofNat_toNat]
 . obtain⟨k,rfl⟩:=Int.eq_ofNat_of_zero_le (Int.not_lt.mp a);rw[eG a,eG a,ni];rcases Nat.le_total k n with h | h
   . rw[Nat.min_eq_left h,Int.min_eq_left (Int.ofNat_le.mpr h)]
   . rw[Nat.min_eq_right h,Int.min_eq_right (Int.ofNat_le.mpr h)]
def Ig(lo a)(n:Nat):Builtin.Slice.sliceAdjust lo a 1 (n:Int)=(((sIx n 0 lo:Nat):Int),((sIx n n a:Nat):Int)):=by
 have b:¬((1:Int)<0):=by omega
 unfold Builtin.Slice.sliceAdjust;simp![b,eO];refine Prod.ext ?_ ?_
 . cases lo with
   | none=>rfl
   | some v=>exact gi v n 0
 . cases a with
   | none=>rfl
   | some v=>exact gi v n n
def Uh(i j:Nat):Builtin.Slice.slicePlaces (i:Int) (j:Int) 1=j-i:=by
 unfold Builtin.Slice.slicePlaces;have a:(1:Int)>0:=by omega
 simp![a,eH,Int.ediv_one];split<;>omega
def EW(p:IsPart v o)(h:Q o s):wpAny (model prog w) A (Builtin.Slice.slicePartIndex v) Q E s:=by
 cases p with
 | none=>exact slicePart_none h
 | int i t=>exact slicePart_int h
def Nv{lo b:Oo Int}{n:Nat}(hs:s.heap.IsSliceOf g f e .none)(pl:IsPart f lo)(i:IsPart e b)
 (h:Q (((sIx n 0 lo:Nat):Int),1,sIx n n b-sIx n 0 lo) s):wpAny (model prog w) A (Builtin.Slice.sliceApplied (.ref g) (pure (n:Int))) Q E s:=by
 obtain⟨os,a,j,d⟩:=id hs;unfold Builtin.Slice.sliceApplied Builtin.Slice.sliceFields;refine ao (ao (Gu a d (x:=f) rfl (ao (Gu a d (x:=e) rfl (ao (Gu a d (x:=.none) rfl (au ?_)))))));refine ao (slicePart_none ?_);show wpAny _ _ (if((1:Int)==0)=true then _ else _) _ _ s;rw[eG (by decide)];refine ao (EW pl (ao (EW i (ao (au ?_)))));show wpAny _ _ (match Builtin.Slice.sliceAdjust lo b 1 (n:Int)with | (lo,b)=>pure (lo,(1:Int),Builtin.Slice.slicePlaces lo b 1)) _ _ s;rw[Ig lo b n];show wpAny _ _ (pure (((sIx n 0 lo:Nat):Int),(1:Int),Builtin.Slice.slicePlaces ((sIx n 0 lo:Nat):Int) ((sIx n n b:Nat):Int) 1)) _ _ s;rw[Uh];exact au h
def Vl(xs:Rr Oi)(i k:Nat):((List.range k).filterMap fun(m:Nat)=>xs[((i:Int)+(m:Int)*1).toNat]?).toArray=((xs.toList.drop i).take k).toArray:=by
 have e:(fun(m:Nat)=>xs[((i:Int)+(m:Int)*1).toNat]?)=fun m=>xs[i+m]?:=by
  funext m
  have:((i:Int)+(m:Int)*1).toNat=i+m:=by omega
  rw[this]
 rw[e];have:=pick_run xs i k;rw[filterMap_map]at this;have e2:((fun x=>xs[x]?) ∘ fun x=>i+x)=fun m=>xs[i+m]?:=rfl
 rw[e2]at this;rw[this]
def ku{lo a:Oo Int}(d:IsTup s.heap t items)(hs:s.heap.IsSliceOf e n k .none)(pl:IsPart n lo)(o:IsPart k a)
 (hw:¬(sIx items.size 0 lo=0/\sIx items.size items.size a=items.size))
 (h:Q (.ref s.heap.objs.size) { s with heap:=s.heap.push { cls:=.type "tuple",data:=.seq ((items.toList.drop (sIx items.size 0 lo)).take (sIx items.size items.size a-sIx items.size 0 lo)).toArray } })
 (hsz:items.size<=sizeLine):wpAny (model prog w) A (getItem (.ref t) (.ref e)) Q E s:=by
 have b:sizeOk (.seq ((items.toList.drop (sIx items.size 0 lo)).take (sIx items.size items.size a-sIx items.size 0 lo)).toArray):=by show((items.toList.drop (sIx items.size 0 lo)).take (sIx items.size items.size a-sIx items.size 0 lo)).toArray.size<=sizeLine;rw[cG,Ce,length_drop,za];omega
 have r:sIx items.size items.size a<=items.size:=dj _ _ (Us _) a;obtain⟨os,f,i,p⟩:=id hs;have j:s.TypeIs (.ref e) "slice" :=⟨os,f,i⟩;unfold getItem
 try with_reducible refine Es ?_
 first | refine ao (au ?_) | skip
 refine ao (wpAny_sequenceKey d.typeIs (by decide) ?_);refine ao (wpAny_callSpecial?_slot (name:=Str.ofString "__getitem__") d.typeIs PyProof.Rows.slot_tuple_getitem
  (wpAny_call_entry PyProof.Rows.slot_tuple_getitem d.typeIs entry_tuple_getitem ?_ (args_tuple_getitem _ _)))
 show wpAny _ _ (Builtin.Tuple.tupleItemsOf (.ref t) >>=_) _ _ s;refine ao (tupleItemsOf_ d ?_);refine ao (wpAny_typeOf j ?_);rw[dz (by decide)];refine ao (Nv hs pl o ?_);have g:¬((((sIx items.size 0 lo:Nat):Int)==0&&(1:Int)==1&&(sIx items.size items.size a-sIx items.size 0 lo)==items.size)=true):=by intro q;rw[vm,vm]at q;have q1:((sIx items.size 0 lo:Nat):Int)=0:=eq_of_beq q.1.1;have q2:sIx items.size items.size a-sIx items.size 0 lo=items.size:=eq_of_beq q.2;exact hw ⟨by omega,by omega⟩
 show wpAny _ _ (if(((sIx items.size 0 lo:Nat):Int)==0&&(1:Int)==1&&(sIx items.size items.size a-sIx items.size 0 lo)==items.size)=true then _ else _) _ _ s;rw[eG g,Vl]
 first
  | exact ao (m:=Builtin.Tuple.tupleExact _) (Ae (au ⟨_,rfl,au h⟩) b)
  | exact ao (m:=Builtin.Tuple.tupleExact _) (Ae (ao (au (au ⟨_,rfl,au h⟩))) b)
  | exact ao (ao (m:=Builtin.Tuple.tupleExact _) (Ae (au (au ⟨_,rfl,au h⟩)) b))
  | exact ao (ao (m:=Builtin.Tuple.tupleExact _) (Ae (au ⟨_,rfl,au h⟩) b))
end
end HT
namespace L2
abbrev TO:=St->Hp->(Oo Int->Hp->Prop)->Prop
def PO(X:Cx)(e:Oo Pa)(t:TO):Prop:=
 ∀(a:Oe (O4×Obj))(s:Ou)(b:St)(H:Hp)(Q:Oo Int->Hp->Prop),u7 X a b H s->t b H Q->
  wpAny (model X.prog X.w) X.A (evalPart e X.env) (fun u f=>∃o d,u7 X a b d f/\IsPart u o/\Q o d) X.xe s
noncomputable def D9:TO:=fun _ H Q=>Q none H
noncomputable def Xz(t:TE):TO:=fun a H Q=>t a H fun x b=>∃i,x=.int i/\Q (ε i) b
def VJ:∀{us:Oe Oi},va (ns.map V.int) us->IntsAre us ns:=by
 induction ns with
 | nil=>intro us r;rw[Wo]at r;cases r;exact .nil
 | cons n ns ih=>
  intro us r;rw[Uo]at r;cases r with
  | cons b a=>obtain⟨t,e⟩:=b;subst e;exact .cons n t (ih a)
section
variable{X:Cx}{e:Pa}{te:TE}{lo c:Oo Pa}{d f:TO}{pos g:Pos}
def kw:PO X none D9:=by intro a s b H Q I h;rw[evalPart_none];exact au ⟨none,H,I,.none,h⟩
def kx(h:PE X e te):PO X (ε e) (Xz te):=by
 intro a s b H Q I hw;rw[evalPart_some];refine wB (h a s b H _ I hw) fun u o j=>?_
 obtain⟨x,n,m,k,q1⟩:=j;obtain⟨i,rfl,q⟩:=q1;obtain⟨t,rfl⟩:=k;exact⟨ε i,n,m,.int i t,q⟩
def m7(X:Cx)(r:V->Oo Int->Oo Int->Hp->VK->Prop):Prop:=
 ∀(a:Oe (O4×Obj))(s:Ou)(b:St)(H:Hp)(x:V)(v i h:Oi)(lo c:Oo Int)(j:O4)(Q:VK),u7 X a b H s->ve x v->s.heap.IsSliceOf j i h .none->IsPart i lo->IsPart h c->r x lo c H Q->
  ∃T k,typeLookup (.type T) "__getitem__" =pure (ε (.builtin k))/\s.TypeIs v T/\wpAny (model X.prog X.w) X.A (getItem v (.ref j)) (EP X a b Q) X.xe s
noncomputable def tSl(r:V->Oo Int->Oo Int->Hp->VK->Prop)(te:TE)(d f:TO):TE:=fun a H Q=>te a H fun x i=>d a i fun l h=>f a h fun u b=>r x l u b Q
def KY(F:m7 X r)(he:PE X e te)(J:PO X lo d)(D:PO X c f):PE X (.Subscript e (.Slice lo c none g) pos) (tSl r te d f):=by
 intro a s j H Q I h;refine Subscript_ (wB (he a s j H _ I h) fun v y n=>?_);obtain⟨x,W,S,B,q1⟩:=n;refine wpAny_Slice (wB (J a y j W _ S q1) fun m p ⟨l,U,R,pl,q2⟩=>wB (D a p j U _ R q2) fun k i n=>?_);obtain⟨u,o,P,C,q3⟩:=n;rw[evalPart_none];refine au ?_;have O:u7 X a j o { i with heap:=i.heap.push { cls:=.type "slice",data:=.fields #[m,k,.none] } }:=P.kept (t':=i.toks) fun b ob q=>cu _ q
 obtain⟨T,Y,M,E,L⟩:=F a { i with heap:=i.heap.push { cls:=.type "slice",data:=.fields #[m,k,.none] } } j o x v m k l u i.heap.objs.size Q O B (Heap.IsSliceOf.new ..) pl C q3;show wpAny (model X.prog X.w) X.A (subscriptTail e (.Slice lo c none g) v (.ref i.heap.objs.size)) (EP X a j Q) X.xe { i with heap:=i.heap.push { cls:=.type "slice",data:=.fields #[m,k,.none] } };exact tail_any (ops:=[.ref i.heap.objs.size,v]) E M L (by unhygienic rfl)
def zH(xs:Oe V)(lo c:Oo Int):Oe V:=(xs.drop (HT.sIx xs.length 0 lo)).take (HT.sIx xs.length xs.length c-HT.sIx xs.length 0 lo)
def yW(xs)(lo c):(zH xs lo c).length<=xs.length:=by unfold zH;rw[Ce,length_drop];omega
def Z7(K:Pb):V->Oo Int->Oo Int->Hp->VK->Prop:=fun x lo c H Q=>∃a b,x=.ref a/\LG K H a b/\
 ¬(HT.sIx b.length 0 lo=0/\HT.sIx b.length b.length c=b.length)/\∀p,H p=none->Q (.ref p) (pB H p (.tup (zH b lo c)))
def gj:m7 X (Z7 X.K):=by
 intro m s C H x v E D lo c F Q I u hs pl y h;obtain⟨a,j,rfl,B,hw,q⟩:=h;cases u;obtain⟨k,r,p,n⟩:=I.tuple B;have i:k.toArray.size=j.length:=by rw[cG];exact r.length.symm
 refine⟨"tuple",_,PyProof.Rows.slot_tuple_getitem.lookup,p.typeIs,?_⟩;refine HT.ku p hs pl y (by rw[i];exact hw) ?_ (by rw[i];exact n);rw[i];refine⟨.ref s.heap.objs.size,_,I.laid (t':=s.toks) (o:=.tup (zH j lo c)) (fun b ob q=>cu _ q) (Us _) ?_,rfl,q _ (I.hok.fresh (Us _))⟩;exact⟨rz (yW j lo c) n,_,(r.drop (HT.sIx j.length 0 lo)).take (HT.sIx j.length j.length c-HT.sIx j.length 0 lo),IsTup.new _ _⟩
def iz(K:Pb):R2:=fun x y H Q=>∃a b i h,x=.ref a/\y=.ref b/\LG K H a i/\LG K H b h/\i ≠ []/\i.length+h.length<=sizeLine/\
 (h=[]->Q (.ref a) H)/\(h ≠ []->∀p,H p=none->Q (.ref p) (pB H p (.tup (i++h))))
def va.gp(r:va xs us):us=[]↔xs=[]:=by
 cases r with
 | nil=>simp
 | cons _ _=>simp
def la:vu X (binaryOp .Add) (iz X.K):=by intro k s M H x y v u Q I C B h;obtain⟨a,b,r,p,rfl,rfl,L,J,F,n,q1,q2⟩:=h;cases C;cases B;obtain⟨E,j,D,_⟩:=I.tuple L;obtain⟨m,i,g,_⟩:=I.tuple J;refine HT.kt D g (fun z=>F (j.gp.mp z)) (fun z=>⟨.ref a,H,I,rfl,q1 (i.gp.mp z)⟩) (fun z=>?_) (by rw[<- j.length,<- i.length];exact n);refine⟨.ref s.heap.objs.size,_,I.laid (t':=s.toks) (o:=.tup (r++p)) (fun b ob q=>cu _ q) (Us _) ?_,rfl,q2 (fun w=>z (i.gp.mpr w)) _ (I.hok.fresh (Us _))⟩;exact⟨by rw[je];exact n,_,j.append i,IsTup.new _ _⟩
end
noncomputable def sI(n:Nat)(i:Int):Oo Nat:=if 0<=i then(if i<n then ε i.toNat else none)else if -(n:Int)<=i then ε (i+n).toNat else none
def atI{α:Type}(xs:Oe α)(i:Int):Oo α:=(sI xs.length i).bind fun j=>xs[j]?
def RZ(h:sI n i=ε j):seqIndex? i n=ε j/\j<n/\-(n:Int)<=i/\i<n:=by
 unfold sI at h;by_cases b:0<=i
 . rw[dz b]at h;by_cases a:i<n
   . rw[dz a]at h;have e:i.toNat=j:=ou h;exact⟨by rw[seqIndex_of b a,e],by omega,by omega,a⟩
   . rw[eG a]at h;cases h
 . rw[eG b]at h;by_cases a:-(n:Int)<=i
   . rw[dz a]at h;have e:(i+n).toNat=j:=ou h;exact⟨by rw[seqIndex_neg nofun a,e],by omega,a,by omega⟩
   . rw[eG a]at h;cases h
def YS(h:atI xs i=ε v):∃j,seqIndex? i xs.length=ε j/\xs[j]?=ε v/\j<xs.length/\-(xs.length:Int)<=i/\i<xs.length:=by
 unfold atI at h;cases e:sI xs.length i with
 | none=>rw[e]at h;cases h
 | some j=>rw[e]at h;obtain⟨g,f,d,b⟩:=RZ e;exact⟨j,g,h,f,d,b⟩
def BD{xs:Oe a}{j:Nat}{v:a}(h:xs[j]?=ε v):atI xs (j:Int)=ε v:=by
 have b:j<xs.length:=(Wk h).1;have e:sI xs.length (j:Int)=ε j:=by unfold sI;rw[dz nofun,dz nofun];simp
 unfold atI;rw[e];exact h
def vZ(b:Pa):Prop:=∀o i,subscripted b false o i=operate [o,i] (getItem o i)
def IxR(X:Cx)(r:R2):Prop:=
 ∀(d a:Pa)(b:Oe (O4×Obj))(s:Ou)(e:St)(H:Hp)(x y:V)(v u:Oi)(Q:VK),u7 X b e H s->ve x v->ve y u->r x y H Q->
  subscripted a false v u=operate [v,u] (getItem v u)->wpAny (model X.prog X.w) X.A (subscriptTail d a v u) (EP X b e Q) X.xe s
def i7(X:Cx)(f:String)(r:V->Oe V->Hp->VK->Prop):Prop:=
 ∀(a:Oe (O4×Obj))(s:Ou)(b:St)(H:Hp)(x:V)(d:Oe V)(v:Oi)(e:Oe Oi)(Q:VK),u7 X a b H s->ve x v->va d e->r x d H Q->
  wpAny (model X.prog X.w) X.A (call (.builtin f) (v::e)) (EP X a b Q) X.xe s
section
variable{X:Cx}{a b:Pa}{F E:TE}{pos:Pos}
def IxR.or(h:IxR X r)(h':IxR X k):IxR X (fun x y H Q=>r x y H Q\/k x y H Q):=by
 intro d e f s g H x y v u Q I j i q hs;rcases q with q | q
 . exact h d e f s g H x y v u Q I j i q hs
 . exact h' d e f s g H x y v u Q I j i q hs
def Vx(j:IxR X r)(m:PE X a F)(k:PE X b E)(hs:vZ b):PE X (.Subscript a b pos) (hV r F E):=by intro d s e H Q I h;exact Subscript_ (BQ m k I h fun v u f x y o n i g q=>j a b d f e o x y v u Q n i g q (hs _ _))
def YU(K:Pb):R2:=fun x y H Q=>∃p d i v,x=.ref p/\y=.int i/\vn K H p d/\atI d i=ε v/\Q v H
def aV(K:Pb):R2:=fun x y H Q=>∃p d i v,x=.ref p/\y=.int i/\LG K H p d/\atI d i=ε v/\Q v H
def ZU:R2:=fun x y H Q=>∃z i c,x=.str z/\y=.int i/\z.length<=sizeLine/\atI z.cps.toList i=ε c/\Q (.str ⟨#[c]⟩) H
def lc:IxR X (YU X.K):=by
 intro g k d s B H x y v u Q I M L h hs;obtain⟨p,W,i,z,rfl,rfl,O,R,q⟩:=h;cases M;obtain⟨t,rfl⟩:=L;obtain⟨n,r,pl,Y⟩:=I.list O;obtain⟨j,f,U,h3,T,S⟩:=YS R;obtain⟨w,D,m⟩:=r.get U;have P:=r.length;have Z:=SI;have e:EP X d B Q w s:=⟨z,H,I,m,q⟩;by_cases C:0<=i
 . have o:i.toNat=j:=by rw[seqIndex_of C S]at f;exact ou f
   exact item_listR pl.isList C nofun (by rw[o];simpa using D) e hs
 . have o:(i+(n.toArray.size:Int)).toNat=j:=by rw[seqIndex_neg nofun T]at f;rw[cG,<- P];exact ou f
   exact subscriptTail_builtinR (x:=w) pl.isList.typeIs slot_list_getitem.lookup
    (wpAny_getItem_list_neg (Q:=fun r J=>r=w/\EP X d B Q r J) pl.isList nofun (by rw[cG]<;>omega) nofun (by rw[o];simpa using D) ⟨rfl,e⟩) hs
def ld:IxR X (aV X.K):=by
 intro e f d s m H x y v u Q I B o h hs;obtain⟨p,R,i,z,rfl,rfl,D,L,q⟩:=h;cases B;obtain⟨t,rfl⟩:=o;obtain⟨C,r,pl,S⟩:=I.tuple D;obtain⟨j,O,M,Y,W,U⟩:=YS L;obtain⟨w,P,g⟩:=r.get M;have J:=r.length;have T:=SI;have k:EP X d m Q w s:=⟨z,H,I,g,q⟩;exact subscriptTail_builtinR (x:=w) pl.typeIs slot_tuple_getitem.lookup
  (getItem_tuple (j:=j) (Q:=fun r n=>r=w/\EP X d m Q r n) pl nofun nofun (by rw[cG,<- J];exact O) (by simpa using P) ⟨rfl,k⟩) hs
def J8:IxR X ZU:=by
 intro d e f s D H x y v u Q I m k h hs;obtain⟨z,i,c,rfl,rfl,L,o,q⟩:=h;obtain⟨t,rfl⟩:=m;obtain⟨J,rfl⟩:=k;obtain⟨j,g,B,O,r,p⟩:=YS o;have n:z.cps.toList.length=z.length:=by simp[Str.length]
 rw[n]at g r p;have M:=SI;exact tail_any (typeIs_str s z t) slot_str_getitem.lookup (getItem_str (c:=c) (by
  have C:decide (i < -(2^63:Int))=false:=fu nofun;have e2:decide (i >=2^63)=false:=fu nofun;rw[C,e2,Bool.or_false]) (by rw[g];simpa using B) ⟨.str ⟨#[c]⟩,H,I.tok _,⟨_,rfl⟩,q⟩) hs
def rIx(K:Pb):R2:=fun x y H Q=>YU K x y H Q\/aV K x y H Q\/ZU x y H Q
def F8:IxR X (rIx X.K):=lc.or (ld.or J8)
def Hg (its:Oe Oi) (n j) (u):Obj.mapSeq (·.setIfInBounds j u) { cls:=.type "list",data:=.seq its.toArray n }={ cls:=.type "list",data:=.seq (its.set j u).toArray n }:=by simp[Obj.mapSeq]
def u7.lst(I:u7 X d f H s)(h:H p=ε (.lst xs)) :
 ∃its n,va xs its/\s.heap.get? p=ε { cls:=.type "list",data:=.seq its.toArray n }/\xs.length<=sizeLine:=by
 obtain⟨z,its,n,r,e⟩:=I.hok p _ h;exact⟨its,n,r,e,z⟩
def u7.lf{its its':Oe Oi}(I:u7 X d i H s)(h:H p=ε (.lst xs))
 (k:s.heap.get? p=ε { cls:=.type "list",data:=.seq its.toArray n }) (j:f { cls:=.type "list",data:=.seq its.toArray n }={ cls:=.type "list",data:=.seq its'.toArray g }) (r:va ys its') (hz:ys.length<=sizeLine) (t) :
 u7 X d i (pB H p (.lst ys)) { s with heap:=s.heap.update p f,toks:=t }:=by
 have e:(s.heap.update p f).get? p=ε { cls:=.type "list",data:=.seq its'.toArray g }:=by rw[Ge f k (by rw[j]<;>rfl),j]
 refine I.write (x:=p) (e:=p) (by rw[h];trivial) (.inl rfl) (fun b u m q=>(wu _ _ (m8 m)).trans q) ⟨_,e⟩ ?_;exact⟨hz,its',g,r,e⟩
def mz:V->V->V->Hp->(Hp->Prop)->Prop:=fun o i v H Q=>∃p d k j,o=.ref p/\i=.int k/\H p=ε (.lst d)/\sI d.length k=ε j/\Q (pB H p (.lst (d.set j v)))
def Lp:MU X mz:=by
 intro d s J H o i v T U u Q I O P M h;obtain⟨p,L,k,j,rfl,rfl,hp,S,q⟩:=h;cases O;obtain⟨t,rfl⟩:=P;obtain⟨e,n,r,g,R⟩:=I.lst hp;obtain⟨f,Y,B,y⟩:=RZ S;have m:=r.length;have W:=SI;have D:u7 X d J (pB H p (.lst (L.set j v))) { s with heap:=s.heap.update p (Obj.mapSeq (·.setIfInBounds j u)) }:=
  I.lf hp g (Hg e n j u) (r.set M j) (by rw[Ku];exact R) s.toks
 by_cases C:0<=k
 . have x:k.toNat=j:=by rw[seqIndex_of C y]at f;exact ou f
   exact PySem.W.ki_setAt g C nofun (by rw[cG,<- m];exact y) (by rw[x];exact⟨_,D,q⟩)
 . have x:(k+(e.toArray.size:Int)).toNat=j:=by rw[seqIndex_neg nofun B]at f;rw[cG,<- m];exact ou f
   exact PySem.W.ki_setBack g nofun (by rw[cG,<- m];exact B) nofun (by rw[x];exact⟨_,D,q⟩)
def cg(lo e)(n):(sliceBounds lo e none n).1=((HT.sIx n 0 lo:Nat):Int)/\(sliceBounds lo e none n).2.1=((HT.sIx n n e:Nat):Int)/\(sliceBounds lo e none n).2.2=1:=by
 have q:∀(i:Int)(d:Nat),max 0 (min (if i<0 then i+n else i) (n:Int))=((HT.sIx n d (ε i):Nat):Int):=fun i d=>by
  rw[<- HT.gi i n d];by_cases h:i<0
  . rw[dz h,dz h,Int.min_eq_left (show i+n<=(n:Int) by omega),Int.max_comm]
  . rw[eG h,eG h,Int.max_eq_right (Int.le_min.mpr ⟨Int.not_lt.mp h,Int.natCast_nonneg n⟩)]
 refine⟨?_,?_,rfl⟩
 . cases lo with
   | none=>rfl
   | some i=>exact q i 0
 . cases e with
   | none=>rfl
   | some i=>exact q i n
def jy(its:Oe Oi)(lo d):slicePick its.toArray lo d none=((its.drop (HT.sIx its.length 0 lo)).take (HT.sIx its.length its.length d-HT.sIx its.length 0 lo)).toArray:=by obtain⟨g,f,e⟩:=cg lo d its.toArray.size;unfold slicePick;rw[g,f,e];simp![sliceRange_one,pick_run,cG]<;>rfl
def Y7(K:Pb):V->Oo Int->Oo Int->Hp->VK->Prop:=fun x e f H Q=>∃a d,x=.ref a/\vn K H a d/\∀p,H p=none->Q (.ref p) (pB H p (.lst (zH d e f)))
def y9:m7 X (Y7 X.K):=by intro i s y H x v C B f g D Q I k hs pl m h;obtain⟨a,d,rfl,u,q⟩:=h;cases k;obtain⟨n,r,j,p⟩:=I.list u;have e:=r.length;refine⟨"list",_,slot_list_getitem.lookup,j.isList.typeIs,?_⟩;refine wpAny_getItem_list_slice j.isList hs pl m .none ⋯ ?_ (by rw[cG]<;>omega);rw[jy,<- e];refine⟨.ref s.heap.objs.size,_,I.laid (t':=s.toks) (o:=.lst (zH d f g)) (fun b ob q=>cu _ q) (Us _) ?_,rfl,q _ (I.hok.fresh (Us _))⟩;exact⟨rz (yW d f g) p,_,0,(r.drop (HT.sIx d.length 0 f)).take (HT.sIx d.length d.length g-HT.sIx d.length 0 f),jj _ rfl⟩
noncomputable def IG:V->Bool
 | .non=>true
 | .bl _=>true
 | .int _=>true
 | .str _=>true
 | _=>false
noncomputable def wN:V->V->Bool
 | .non,.non=>true
 | .bl a,.bl b=>a==b
 | .bl a,.int b=>(if a then 1 else 0)==b
 | .int a,.bl b=>a==(if b then 1 else 0)
 | .int a,.int b=>a==b
 | .str a,.str b=>a==b
 | _,_=>false
def i9(f:ve y u)(d:ve x v)(fy:IG y=true)(fx:IG x=true):SeqAt.EqAt A s u v (wN y x):=by
 cases y with
 | non=>
  cases f;cases x with
  | non=>cases d;exact SeqAt.EqAt.same _
  | bl b=>cases d;exact SeqAt.EqAt.none_bool b
  | int b=>obtain⟨t,rfl⟩:=d;exact SeqAt.EqAt.none_int b t
  | str b=>obtain⟨t,rfl⟩:=d;exact SeqAt.EqAt.none_str b t
  | _=>exact Ea (show false=true from fx) Vu
 | bl a=>
  cases f;cases x with
  | non=>cases d;exact SeqAt.EqAt.bool_none a
  | bl b=>cases d;exact SeqAt.EqAt.bool_bool a b
  | int b=>obtain⟨t,rfl⟩:=d;exact SeqAt.EqAt.bool_int a b t
  | str b=>obtain⟨t,rfl⟩:=d;exact SeqAt.EqAt.bool_str a b t
  | _=>exact Ea (show false=true from fx) Vu
 | int a=>
  obtain⟨e,rfl⟩:=f;cases x with
  | non=>cases d;exact SeqAt.EqAt.int_none a e
  | bl b=>cases d;exact SeqAt.EqAt.int_bool a e b
  | int b=>obtain⟨t,rfl⟩:=d;exact SeqAt.EqAt.int_int a e b t
  | str b=>obtain⟨t,rfl⟩:=d;exact SeqAt.EqAt.int_str a e b t
  | _=>exact Ea (show false=true from fx) Vu
 | str a=>
  obtain⟨e,rfl⟩:=f;cases x with
  | non=>cases d;exact SeqAt.EqAt.str_none a e
  | bl b=>cases d;exact SeqAt.EqAt.str_bool a e b
  | int b=>obtain⟨t,rfl⟩:=d;exact SeqAt.EqAt.str_int a e b t
  | str b=>obtain⟨t,rfl⟩:=d;exact SeqAt.EqAt.str_str a e b t
  | _=>exact Ea (show false=true from fx) Vu
 | _=>exact Ea (show false=true from fy) Vu
def mI(x:V)(u:Oi):Bool:=match u with
 | .none=>wN .non x
 | .bool b=>wN (.bl b) x
 | .int i _=>wN (.int i) x
 | .str z _=>wN (.str z) x
 | _=>false
def Y1(r:ve y u)(f:IG y=true):mI x u=wN y x:=by
 cases y with
 | non=>cases r;rfl
 | bl b=>cases r;rfl
 | int i=>obtain⟨t,rfl⟩:=r;rfl
 | str z=>obtain⟨t,rfl⟩:=r;rfl
 | _=>exact Ea (show false=true from f) Vu
theorem vM:∀{xs:Oe V}{us:Oe Oi},va xs us->xs.all IG=true->us.any (mI x)=xs.any fun y=>wN y x
 | _,_,.nil,_=>rfl
 | y::xs,u::us,.cons r t,f=>by rw[Ks,vm]at f;rw[Ko,Ko,Y1 r f.1,vM t f.2]
theorem jM(d:ve x v)(fx:IG x=true):∀{xs:Oe V}{us:Oe Oi},va xs us->xs.all IG=true->∀u∈us,SeqAt.EqAt A s u v (mI x u)
 | _,_,.nil,_=>fun u hu=>by cases hu
 | y::xs,u::us,.cons r t,f=>fun e hu=>by
  rw[Ks,vm]at f;rcases Ba.mp hu with rfl | hu
  . rw[Y1 r f.1];exact i9 r d f.1 fx
  . exact jM d fx t f.2 e hu
def nN(x:V)(xs:Oe V):Bool:=xs.any fun y=>wN y x
def X7(K:Pb)(neg:Bool):R2:=fun x y H Q=>∃p d,y=.ref p/\(vn K H p d\/LG K H p d)/\IG x=true/\d.all IG=true/\Q (.bl (if neg then !nN x d else nN x d)) H
def Vd:vu X (compareOp .In) (X7 X.K false):=by
 intro f s k H x y v u Q I e i h;obtain⟨p,m,rfl,hq,g,fs,q⟩:=h;cases i;rcases hq with hq | hq
 . obtain⟨d,r,pl,j⟩:=I.list hq;refine SeqAt.in_listAt (mI x) pl.isList (fun w hw=>jM e g r fs w (by simpa using hw)) ⟨.bl _,H,I,rfl,?_⟩;rw[show d.toArray.any (mI x)=d.any (mI x) by simp,vM r fs];exact q
 . obtain⟨d,r,pl,j⟩:=I.tuple hq;refine SeqAt.in_tupleAt (mI x) pl (fun w hw=>jM e g r fs w (by simpa using hw)) ⟨.bl _,H,I,rfl,?_⟩;rw[show d.toArray.any (mI x)=d.any (mI x) by simp,vM r fs];exact q
def Gy:vu X (compareOp .NotIn) (X7 X.K true):=by
 intro f s k H x y v u Q I e i h;obtain⟨p,m,rfl,hq,g,fs,q⟩:=h;cases i;rcases hq with hq | hq
 . obtain⟨d,r,pl,j⟩:=I.list hq;refine SeqAt.notIn_listAt (mI x) pl.isList (fun w hw=>jM e g r fs w (by simpa using hw)) ⟨.bl _,H,I,rfl,?_⟩;rw[show d.toArray.any (mI x)=d.any (mI x) by simp,vM r fs];exact q
 . obtain⟨d,r,pl,j⟩:=I.tuple hq;refine SeqAt.notIn_tupleAt (mI x) pl (fun w hw=>jM e g r fs w (by simpa using hw)) ⟨.bl _,H,I,rfl,?_⟩;rw[show d.toArray.any (mI x)=d.any (mI x) by simp,vM r fs];exact q
def Ek:ae X (.builtin "len") (fun i H Q=>∃p e,i=[.ref p]/\(vn X.K H p e\/LG X.K H p e)/\Q (.int e.length) H):=by
 intro j s n H i o Q I r h;obtain⟨p,e,rfl,hq,q⟩:=h;obtain⟨u,rfl,k⟩:=kF r;cases k;have x:=SI;rcases hq with hq | hq
 . obtain⟨g,f,pl,m⟩:=I.list hq;have d:=f.length;exact Calls.call_len_list pl.isList (by simp![cG]<;>omega) ⟨.int e.length,H,I.tok _,⟨s.toks+1,by rw[cG,d]⟩,q⟩
 . obtain⟨g,f,pl,m⟩:=I.tuple hq;have d:=f.length;exact len_tuple pl (by simp![cG]<;>omega) ⟨.int e.length,H,I.tok _,⟨s.toks+1,by rw[cG,d]⟩,q⟩
def Gk:ae X (.builtin "len") (fun d H Q=>∃z,d=[.str z]/\z.length<=sizeLine/\Q (.int z.length) H):=by intro e s f H d g Q I r h;obtain⟨z,rfl,i,q⟩:=h;obtain⟨u,rfl,t,rfl⟩:=kF r;have j:=SI;exact len_str nofun ⟨.int z.length,H,I.tok _,⟨_,rfl⟩,q⟩
def ae.or(h:ae X f r)(h':ae X f k):ae X f (fun e H Q=>r e H Q\/k e H Q):=by
 intro d s g H e i Q I j q;rcases q with q | q
 . exact h d s g H e i Q I j q
 . exact h' d s g H e i Q I j q
def Jk:ae X (.type "list") (fun D H Q=>∃p g,D=[.ref p]/\(vn X.K H p g\/LG X.K H p g)/\∀l,H l=none->Q (.ref l) (pB H l (.lst g))):=by
 intro k s L H D O Q I r h;obtain⟨p,g,rfl,hq,q⟩:=h;obtain⟨u,rfl,M⟩:=kF r;cases M;have y:∀(d:Oe Oi),va g d->g.length<=sizeLine->∀(f:Ru)(j:Nat),(∀b J,s.heap.get? b=ε J->f.get? b=ε J)->
  f.get? s.heap.objs.size=ε { cls:=.type "list",dict:=none,data:=.seq d.toArray j,slots:=#[] }->EP X k L Q (.ref s.heap.objs.size) { s with heap:=f }:=fun d i m f j kp e=>
  ⟨.ref s.heap.objs.size,_,I.laid (t':=s.toks) kp (Us _) (show Ye X.prog X.w _ f _ (.lst g)from⟨m,d,j,i,e⟩),rfl,q _ (I.hok.fresh (Us _))⟩
 rcases hq with hq | hq
 . obtain⟨d,i,pl,m⟩:=I.list hq;have x:=i.length;obtain⟨o,B,C,n,hd⟩:=pl.isList;exact call_list_seq p (.inl rfl) B C hd (fun f j kp e=>y d i m f j kp e) (by simp![cG]<;>omega)
 . obtain⟨d,i,pl,m⟩:=I.tuple hq;have x:=i.length;obtain⟨o,B,C,n,hd⟩:=pl;exact call_list_seq p (.inr rfl) B C hd (fun f j kp e=>y d i m f j kp e) (by simp![cG]<;>omega)
def A8(K:Pb)(T:String)(x:V)(H:Hp):Prop:=match x with
 | .str _=>T = "str"
 | .int _=>T = "int"
 | .ref p=>(T = "list" /\ ∃e,vn K H p e)\/(T = "tuple" /\ ∃o,K.lookup p=ε o/\o.cls=.type "tuple" /\ o.dict=none)\/
  (T = "dict" /\ ((∃d,H p=ε (.dK d))\/∃d,H p=ε (.dT d)))\/(T = "set" /\ ∃S n,H p=ε (.set S n))
 | _=>False
def Dz(I:u7 X f h H s)(r:ve x v)(ty:A8 X.K T x H) :
 s.TypeIs v T/\∀a,v=.ref a->∃ob,s.heap.get? a=ε ob/\ob.dict=none:=by
 cases x with
 | str z=>obtain⟨t,rfl⟩:=r;cases (show T = "str" from ty);exact⟨typeIs_str s z t,fun u e=>nomatch e⟩
 | int i=>obtain⟨t,rfl⟩:=r;cases (show T = "int" from ty);exact⟨typeIs_int s i t,fun u e=>nomatch e⟩
 | ref p=>
  cases r;rcases ty with⟨rfl,q,k⟩ | ⟨rfl,o,d,m,hd⟩ | ⟨rfl,d⟩ | ⟨rfl,S,n,d⟩
  . obtain⟨j,_,pl,_⟩:=I.list k;refine⟨pl.isList.typeIs,fun a e=>?_⟩;cases e;obtain⟨o,n,e,c,hd,_⟩:=pl;exact⟨o,e,hd⟩
  . refine⟨⟨o,I.kIn p o d,m⟩,fun a e=>?_⟩;cases e;exact⟨o,I.kIn _ o d,hd⟩
  . have z:∃o,s.heap.get? p=ε o/\o.ExactDict:=by
     rcases d with⟨g,d⟩ | ⟨g,d⟩
     . obtain⟨_,_,_,_,o,_,_,e,ex,_⟩:=I.hok p _ d;exact⟨o,e,ex⟩
     . obtain⟨_,_,_,_,o,_,_,e,ex,_⟩:=I.hok p _ d;exact⟨o,e,ex⟩
    obtain⟨o,e,ex⟩:=z;refine⟨⟨o,e,ex.1⟩,fun a e2=>?_⟩;cases e2;exact⟨o,e,ex.2.1⟩
  . obtain⟨o,_,_,_,e,ex,_⟩:=I.hok p _ d;refine⟨⟨o,e,ex.1⟩,fun a e2=>?_⟩;cases e2;exact⟨o,e,ex.2.1⟩
 | _=>exact Fd ty
noncomputable def tBM(K:Pb)(T:String)(r:V->Oe V->Hp->VK->Prop)(C:TE)(t:TA):TE:=fun d H Q=>C d H fun x e=>A8 K T x e/\t d e fun f g=>r x f g Q
variable{o e:Pa}{m:Oe Pa}{C:TE}{t:TA}{name:Str}{B g:Pos}{T D:String}{r:V->Oe V->Hp->VK->Prop}
def bN (S:PlainAttrs T) (slot:Slot T name D) (p:typeOf (.builtin D)=pure (.type "method_descriptor")) (W:i7 X D r) (U:PE X o C) (Y:PA X (e::m) t)
 (j:autoParam (attributeBase o name X.env (eval o X.env)=eval o X.env) Æ)
 (k:((backTo g (starEach (e::m) X.env)).all (fun x=>!x.1)&&(backToKw g (keywordEach [] X.env)).all (fun x=>x.1.isSome)
  && decide ((e::m).length+([]:Oe Keyword).length+(if([]:Oe Keyword).isEmpty then 0 else 1)<30))=true:=by rfl)
 (i:autoParam ((B.endLine==g.line)=true) Æ) (hs:autoParam (starEach (e::m) X.env=(false,eval e X.env)::starEach m X.env) Æ) (f:autoParam ((backTo g (starEach m X.env)).any (·.1)=false) Æ) :
 PE X (.Call (.Attribute o name B) (e::m) [] g) (tBM X.K T r C t):=by
 intro d s n H Q I h;refine wpAny_Call_method_late j k i rfl (wB (U d s n H _ I h) fun v P J=>?_);obtain⟨x,H1,y,q,ty,q1⟩:=J;obtain⟨h1,Z⟩:=Dz y q ty;refine⟨T,D,S,slot,p,h1,Z,?_⟩;have u:=Y g d P n H1 _ y q1;rw[hs]at u ⊢;refine Calls.callWith_builtin (by show(false || (backTo g (starEach m X.env)).any (·.1))=false;rw[f]<;>rfl) (Calls.evalArgs_plain ?_);exact wB u fun M O ⟨L,H2,I2,R,q2⟩=>W d O n H2 x L v M Q I2 q R q2
end
def e7(X:Cx)(f:String)(r:V->Oe V->Hp->VK->Prop):Prop:=
 ∀(a:Oe (O4×Obj))(s:Ou)(b:St)(H:Hp)(x:V)(d:Oe V)(v:Oi)(e:Oe Oi)(Q:VK),u7 X a b H s->ve x v->va d e->r x d H Q->
  wpAny (model X.prog X.w) X.A (call (.builtin f) (v::e)) (EP X a b Q) X.xe s
theorem va.one:∀{x:V}{us:Oe Oi},va [x] us->∃u,us=[u]/\ve x u
 | _,_,.cons r .nil=>⟨_,rfl,r⟩
theorem va.zero:∀{us:Oe Oi},va [] us->us=[]
 | _,.nil=>rfl
theorem va.eraseIdx:∀{xs:Oe V}{us:Oe Oi}(i:Nat),va xs us->va (xs.eraseIdx i) (us.eraseIdx i)
 | _,_,_,.nil=>.nil
 | _,_,0,.cons _ t=>t
 | _,_,i+1,.cons r t=>.cons r (va.eraseIdx i t)
def va.reverse(h:va xs us):va xs.reverse us.reverse:=by
 induction h with
 | nil=>exact .nil
 | cons r t ih=>rw[reverse_cons,reverse_cons];exact va.append ih (.cons r .nil)
theorem va.rep(h:va xs us):∀k,va (List.replicate k xs).flatten (List.replicate k us).flatten
 | 0=>.nil
 | k+1=>by rw[Le,Le,flatten_cons,flatten_cons];exact va.append h (va.rep h k)
theorem lX{a:Type}:∀(l:Oe a)(i:Nat),(l.eraseIdx i).length<=l.length
 | [],_=>Us _
 | _::_,0=>Nat.le_succ _
 | _::r,i+1=>Nat.succ_le_succ (lX r i)
theorem kY(its:Oe Oi):∀k a,
 List.foldl (fun d b=>d++b) a.toArray (List.replicate k its.toArray)=(a++(List.replicate k its).flatten).toArray
 | 0,a=>by simp
 | k+1,a=>by
  have e:a.toArray++its.toArray=(a++its).toArray:=by simp
  have e2:(a++its)++(List.replicate k its).flatten=a++(List.replicate (k+1) its).flatten:=by rw[Le,flatten_cons,n7]
  rw[<- e2,<- kY its k (a++its),<- e,Le,foldl_cons]
section
variable{X:Cx}{a:Oe (O4×Obj)}{c:St}{H:Hp}{s:Ou}{l b:O4}{xs ys zs:Oe V}
def u7.gu{its its':Oe Oi}(I:u7 X a c H s)(j:H l=ε (.lst xs))
 (e:s.heap.get? l=ε { cls:=.type "list",data:=.seq its.toArray n }) (h:f its.toArray=its'.toArray) (d:va ys its') (hz:ys.length<=sizeLine) :
 u7 X a c (pB H l (.lst ys)) { s with heap:=s.heap.update l (Obj.mapSeq f),toks:=t' }:=by
 have q:=PySem.IsL.update e f;rw[h]at q;refine I.write (x:=l) (e:=l) (by rw[j];exact trivial) (.inl rfl) (fun k u i g=>(wu s.heap (Obj.mapSeq f) (m8 i)).trans g) ⟨_,q⟩ ?_;exact⟨hz,its',_,d,q⟩
def u7.gv(I:u7 X a c H s)(d:va ys its)(hz:ys.length<=sizeLine) :
 u7 X a c (pB H s.heap.objs.size (.lst ys)) { s with heap:=s.heap.push { cls:=.type "list",data:=.seq its.toArray },toks:=t' }:=
 I.laid (fun z z q=>cu _ q) (Us _) ⟨hz,its,0,d,jj _ rfl⟩
def u7.fresh(I:u7 X a c H s):H s.heap.objs.size=none:=I.hok.fresh (Us _)
def u7.eL (I:u7 X a c H s) (d:H l=ε (.lst xs)):xs.length<=sizeLine/\∃its n,va xs its/\xs.length=its.length/\s.heap.get? l=ε { cls:=.type "list",data:=.seq its.toArray n }:=by obtain⟨z,its,n,r,e⟩:=I.hok l _ d;exact⟨z,its,n,r,r.length,e⟩
def EY(h:n<=sizeLine):Builtin.List.listTooLong n=false:=by unfold Builtin.List.listTooLong;exact fu nofun
end
section
variable{X:Cx}
def lh:V->Oe V->Hp->VK->Prop:=fun x b H Q=>∃l a y,x=.ref l/\b=[y]/\H l=ε (.lst a)/\a.length<sizeLine/\Q .non (pB H l (.lst (a++[y])))
def oX:e7 X "list.append" lh:=by intro b s j H x m v o Q I f g h;obtain⟨l,k,y,rfl,rfl,d,p,q⟩:=h;cases f;obtain⟨u,rfl,i⟩:=g.one;obtain⟨z,a,n,r,B,e⟩:=I.eL d;refine call_meets F.slot_list_append ⟨_,e,rfl⟩ F.entry_list_append (F.args_list_append_2 _ _) (PySem.list_append l a.toArray n u (by rw[cG];omega)) ⟨e,?_⟩;refine⟨.non,_,I.gu (its':=a++[u]) d e ⋯ (r.append (.cons i .nil)) ?_,rfl,q⟩;rw[je,length_singleton];omega
def li:V->Oe V->Hp->VK->Prop:=fun x d H Q=>∃l b a zs,x=.ref l/\d=[.ref b]/\H l=ε (.lst a)/\H b=ε (.lst zs)/\a.length+zs.length<=sizeLine/\Q .non (pB H l (.lst (a++zs)))
def Kd:e7 X "list.extend" li:=by
 intro i s D H x L v M Q I k m h;obtain⟨l,b,J,zs,rfl,rfl,j,C,O,q⟩:=h;cases k;obtain⟨u,rfl,o⟩:=m.one;cases o;obtain⟨z,d,n,r,P,e⟩:=I.eL j;obtain⟨E,a,y,p,B,e2⟩:=I.eL C;have g:d.toArray.size+a.toArray.size<=sizeLine:=by rw[cG,cG];omega
 have f:¬(!d.toArray.isEmpty&&Builtin.List.listTooLong (d.toArray.size+a.toArray.size))=true:=by rw[EY g,Ho];exact Vu
 refine call_meets F.slot_list_extend ⟨_,e,rfl⟩ F.entry_list_extend (F.args_list_extend_2 _ _)
  (AutoSeq1.list_extend_list_list_0 l d.toArray n b a.toArray y f (by rw[cG];omega) nofun) ⟨e,e2,?_⟩
 refine⟨.non,_,I.gu (its':=d++a) j e ⋯ (r.append p) ?_,rfl,q⟩;rw[je];omega
def aj:V->Oe V->Hp->VK->Prop:=fun x b H Q=>∃l a i k y,x=.ref l/\b=[.int i]/\H l=ε (.lst a)/\-(2^63)<=i/\i<2^63/\seqIndex? i a.length=ε k/\a[k]?=ε y/\Q y (pB H l (.lst (a.eraseIdx k)))
def Ec:e7 X "list.pop" aj:=by
 intro d s J H x L v M Q I j m h;obtain⟨l,g,i,k,y,rfl,rfl,f,E,D,C,p,q⟩:=h;cases j;obtain⟨u,rfl,o⟩:=m.one;obtain⟨t,rfl⟩:=o;obtain⟨z,a,n,r,B,e⟩:=I.eL f;obtain⟨w,hw,b⟩:=r.get p;refine call_meets F.slot_list_pop ⟨_,e,rfl⟩ F.entry_list_pop (F.args_list_pop_2 _ _)
  (MeetsSeq.list_pop_at l a.toArray n i t k w (fitsIndex_both E D) (by rw[cG,<- B];exact C) (by rw[<- Array.getElem?_toList];exact hw) (by rw[cG];omega)) ⟨e,?_⟩
 refine⟨y,_,I.gu (its':=a.eraseIdx k) f e ?_ (r.eraseIdx k) ?_,b,q⟩
 . show a.toArray.eraseIdxIfInBounds k=(a.eraseIdx k).toArray;rw[eraseIdxIfInBounds_toArray]
 . have:=lX g k;omega
def bV:R2:=fun x y H Q=>∃l k a,x=.ref l/\y=.int k/\H l=ε (.lst a)/\-(2^63)<=k/\k<2^63/\a.length*k.toNat<=sizeLine/\
 ∀p,H p=none->Q (.ref p) (pB H p (.lst (List.replicate k.toNat a).flatten))
def lj{a:Type}(xs:Oe a)(k):(List.replicate k xs).flatten.length=k*xs.length:=by
 induction k with
 | zero=>simp
 | succ k ih=>rw[Le,flatten_cons,je,ih,Nat.succ_mul,Nat.add_comm]
def W3:vu X (binaryOp .Mult) bV:=by
 intro B s S H x y v u Q I J E h;obtain⟨l,k,W,rfl,rfl,M,P,O,C,q⟩:=h;cases J;obtain⟨t,rfl⟩:=E;obtain⟨z,b,n,r,L,e⟩:=I.eL M;have f:b.toArray.size*k.toNat<=sizeLine:=by rw[cG,<- L];exact C
 have i:¬b.toArray.size*k.toNat>(2^63-1)/8:=by
  have:(sizeLine:Nat)<=(2^63-1)/8:=by decide
  omega
 have g:¬(!Builtin.List.listFitsIndex k)=true:=by rw[fitsIndex_both P O];exact Vu
 have j:¬Builtin.List.listTooLong (b.toArray.size*k.toNat)=true:=by rw[EY f];exact Vu
 have d:List.foldl (fun p o=>p++o) #[] (List.replicate (if b.toArray.isEmpty=true then 0 else k.toNat) b.toArray)=(List.replicate k.toNat b).flatten.toArray:=by
  have R:∀m:Nat,List.foldl (fun p o=>p++o) #[] (List.replicate m b.toArray)=(List.replicate m b).flatten.toArray:=fun m=>by have:=kY b m [];rw[Wu]at this;exact this
  rw[R];cases b with
  | nil=>simp
  | cons a Y=>rw[eG ⋯]
 refine wpAny_binaryOp_repeat_ref (T := "list") (U := "int") (by decide) ⟨_,e,rfl⟩ (fun D=>typeIs_int D k t) noFill_list_mul F.fills_int_mul F.slot_int_rmul repeat_list F.slot_int_index.lookup
  (call_meets F.slot_int_rmul (typeIs_int s k t) F.entry_int_rmul (F.args_int_rmul_2 _ _) (int___rmul___int_list k t l b.toArray n)
   ⟨e,rfl,⟨_,e,rfl⟩,call_meets F.slot_list_mul ⟨_,e,rfl⟩ F.entry_list_mul (F.args_list_mul_2 _ _) (AutoListH.list___mul___list_int_3 l b.toArray n k t g i j) ⟨e,?_⟩⟩)
 rw[d];exact⟨.ref _,_,I.gv (t':=s.toks) (r.rep k.toNat) (by rw[lj,Nat.mul_comm];exact C),rfl,q _ I.fresh⟩
end
section
variable{prog:Pu}{w:Ri}{A:Ro}{E:Oi->Ou->Prop}{s:Ou}
end
section
variable{X:Cx}
end
end L2
namespace Att
open PySem.W PySem.Calls
def iw:∀ns vs,WellAll P h vs (ns.map WData.int)->IntsAre vs ns:=by
 intro ns
 induction ns with
 | nil=>intro vs w;rw[Wo]at w;cases w;exact .nil
 | cons n ns ih=>
  intro vs w;rw[Uo]at w;cases w with
  | cons a b=>cases a;exact .cons _ _ (ih _ b)
def Vf{l:OpenLaw}(B:l.most=ε n)
 (e:l.row.toRowW.claim.pre args=true) (k:WellAll P h b args) :
 ∃a o ns,b=[Value.ref a]/\args=[WData.list (ns.map WData.int)]/\h.get? a=ε { cls:=.type "list",data:=.seq o.toArray }/\IntsAre o ns/\ns.length<=n:=by
 have m:WShape.hasAll [] args [.list .int]=true:=(pre_splitW e).1;have p:l.pre.holds [] { args:=args }=true:=(pre_splitW e).2;obtain⟨d,r,rfl,E,D⟩:=hasAllW_cons m;obtain rfl:=hasAllW_nil D;obtain⟨F,rfl,C⟩:=hasW_list E;obtain⟨ns,rfl⟩:=items_int C;have f:ns.length<=n:=by
  unfold OpenLaw.pre at p;have j:(WTm.not (.lt (.lit (.int (n:Int))) (.len (.arg 0)))).holds [] { args:=[.list (ns.map .int)] }=true:=by have j:=(holds_andW p).1;rw[B]at j;exact j
  have i:=condW_of j (w_not (w_lt w_lit (w_len_list (w_arg rfl))));rw[mq]at i;refine Nat.le_of_not_lt fun q=>?_
  have x:(n:Int)<((ns.length:Nat):Int):=by omega
  first
   | (rw[g8 x]at i;exact Ea i (by decide))
   | (simp at i;omega)
 cases k with
 | cons u s=>
  cases s;cases u with
  | list y g=>exact⟨_,_,ns,rfl,rfl,y,iw ns _ g,f⟩
def uc(l:OpenLaw)(args):l.row.toRowW.claim.post args (.bool true) args=true:=
 postW_of (r:=l.row.toRowW) (X:=(true==true))
  (show WShape.has [] (.bool true) .bool=true by first | rfl | decide | simp[WShape.has,WShape.arms,WShape.armsAll])
  (show(WTm.eq .res (.lit (.bool true))).value [] { args:=args,res:=ε (.bool true),after:=args }=ε (.bool (true==true))from w_eq_bool (w_res rfl) w_lit) rfl
def lr{l:OpenLaw}
 (P:l.most=ε n) (B:d.params.defaults=[])
 (call:∀(w:Ri)(s₀ b:Ou)(mg u:Str->Oo Oi)(fa:O4)(o:Obj)(s p h:Oi)(a:O4)(vs:Oe Oi)(ns:Oe Int),
  Ground q e [] J w s₀ mg u b.heap->I w b.heap->
  b.heap.get? fa=ε o->o.data=.func (docDef d.name d.params d.body d.scope s p h)->b.heap.CodeRec p d.name->mg d.name=ε (.ref fa)->
  b.heap.get? a=ε { cls:=.type "list",data:=.seq vs.toArray }->IntsAre vs ns->ns.length<=n->b.gens=#[]->
  codeAny (model l.prog w) callerA (.call (.ref fa) ⟨[.ref a],[]⟩) (fun r m=>r=.ok (.ret (.bool true))/\OldK b.heap m.heap/\m.os=b.os/\AllBare m.gens) b) :
 WalkO q e J I l.row.toRowW d [] (fun f vs=>PySem.call f vs):=by
 intro w s₀ b mg u G Y fa o s p h Z kV O hd C F y S H D as i E L x R;obtain rfl:Z=.none:=Dflts.none F B;obtain rfl:kV=.none:=Dflts.noKw F;obtain⟨a,vs,ns,rfl,rfl,j,g,k⟩:=Vf P i x;refine enter_call (codeAny_mono (call w s₀ b mg u fa o s p h a vs ns G Y O (fd_plain hd) C y j g k S) fun r m M=>?_);obtain⟨rfl,W,U,T⟩:=M;exact⟨.inl ⟨.bool true,.bool true,[],rfl,fun z=>rfl,.bool true,uc l _,fun z=>⟨List.Pairwise.nil,fun z Q=>(nomatch Q)⟩⟩,W,U,T⟩
section
variable{prog:Pu}{w:Ri}{A:Ro}{E:Oi->Ou->Prop}{s:Ou}{K:Pb}
end
end Att
namespace L2
theorem JX:∀{vs:Oe Oi}{ns:Oe Int},IntsAre vs ns->va (ns.map V.int) vs
 | _,_,.nil=>.nil
 | _,_,.cons n t h=>.cons ⟨t,rfl⟩ (JX h)
def yQ(H:Hp):Prop:=∀b,H b=none\/∃o a,H b=ε (.frz o (.lst a))
def gn{K:Pb}
 (KX:K.In s₁.heap) (E:s₁.heap.Ns mainGlobals mg) (f:s₁.heap.Ns builtinsNs Q) (T:∀x:Str,x ≠ "__name__" ->Q x=bootBuiltins x) (I:s₁.heap.NoLimit) (hg:s₁.gens=#[])
 (M:s₁.heap.get? a=ε { cls:=.type "list",data:=.seq vs.toArray }) (hi:IntsAre vs ns) (Z:ns.length<=sizeLine) (hr:Xi k callerA)
 (F:∀base,K.In base->base.Ns mainGlobals mg->ab P w K mg base CX k fa fd [x] sp) (p:∀s u,BindsTo s fd ⟨[u],[]⟩ [(x,u)])
 (R:∀H,yQ H->vn K H a (ns.map V.int)->sp [.ref a] H (fun v _=>v=.bl true) fun _ _ _=>False)
 (U:∀H e g,CX [] H s₁ (fun _ _ _=>False) e g->False) :
 codeAny (model P w) callerA (.call (.ref fa) ⟨[.ref a],[]⟩) (fun r g=>r=.ok (.ret (.bool true))/\OldK s₁.heap g.heap/\g.os=s₁.os/\AllBare g.gens) s₁:=by
 have Y:=JX hi;have C:=hi.length;have j:∀H:Hp,yQ H->vn K H a (ns.map V.int)->wl P w H s₁.heap->(∀b,H b≠none->b=a)->(H a≠none->K.lookup a=none)->
  codeAny (model P w) callerA (.call (.ref fa) ⟨[.ref a],[]⟩) (fun r g=>r=.ok (.ret (.bool true))/\OldK s₁.heap g.heap/\g.os=s₁.os/\AllBare g.gens) s₁:=by
  intro H hO hS hok hA hK;have y:∀{b:O4}{o:Obj},s₁.heap.get? b=ε o->H b=none->(WG s₁.heap H).get? b=ε o:=fun e n=>Gb e n
  have O:∀{b:O4}{o:Obj}{L:Rr DictEntry}{ep:Nat},s₁.heap.get? b=ε o->o.data=.dict L ep->H b=none:=fun {b o L ep} e d=>by
   cases q:H b with
   | none=>rfl
   | some u=>have W:b=a:=hA b (by rw[q];simp);subst W;rw[M]at e;cases e;have d':Data.seq vs.toArray _=Data.dict L ep:=d;cases d'
  have i:∀{b:O4}{m:Str->Oo Oi},s₁.heap.Ns b m->(WG s₁.heap H).Ns b m:=fun {b m} ⟨o,L,ep,e,d,r⟩=>⟨o,L,ep,y e (O e d),d,r⟩
  have J:K.In (WG s₁.heap H):=fun b o e=>y (KX b o e) (by
   cases q:H b with
   | none=>rfl
   | some u=>
    have W:b=a:=hA b (by rw[q];simp);subst W;rw[hK (by rw[q];simp)]at e;cases e)
  have hM:Mod K mg (WG s₁.heap H):=⟨J,i E,⟨Q,i f,T⟩,let ⟨mc,h1,h2⟩:=I;⟨mc,i h1,h2⟩⟩;have e0:dn P w K mg (WG s₁.heap H) callerA [] s₁ H:=⟨rfl,hM,fun b o e=>im e,Nat.le_of_eq (ur _ _),trivial,fun b f=>Ea (show b∈([]:Oe O4)from f) ⋯,hok,.of_eq hg⟩;refine codeAny_mono ((F _ J (i E)).run callerA [] s₁ H ⟨[.ref a],[]⟩ [.ref a] [.ref a] _ _ hr e0 (p s₁ (.ref a)) (.cons rfl .nil) (R H hO hS)) fun r g h=>?_
  cases r with
  | error e=>exact(U H e g h).elim
  | ok fl=>
   cases fl with
   | next=>exact Fd h
   | brk=>exact Fd h
   | cont=>exact Fd h
   | ret u=>
    obtain⟨v,H',os,bare,un,D,r',q⟩:=h;have q':v=.bl true:=q;subst q';obtain rfl:u=Value.bool true:=r';refine⟨rfl,OldK.of_keep fun b o e=>?_,os,bare⟩;cases q:H b with
    | none=>exact un.keep b o e q (by intro z;exact Ea (show b∈([]:Oe O4)from z) ⋯) ⋯
    | some u=>
     rcases hO b with z | ⟨ob,xs,z⟩
     . rw[q]at z;cases z
     . have z2:=un.bj b ob _ z;obtain⟨e1,_⟩:=hok b _ z;obtain⟨e2,_⟩:=D b _ z2;rw[e]at e1;cases e1;exact e2
 cases S:K.lookup a with
 | some o=>have e:=KX a o S;rw[M]at e;cases e;refine j (fun _=>none) (fun _=>.inl rfl) (.inr ⟨_,vs.toArray,_,S,rfl,rfl,rfl,by rw[cG,C];exact Z,by simpa using Y⟩) (fun b u z=>by have B:(none:Oo HO)=ε u:=z;cases B) (fun b z=>Ea rfl z) fun z=>Ea rfl z
 | none=>
  refine j (fun b=>if b=a then ε (.frz { cls:=.type "list",data:=.seq vs.toArray } (.lst (ns.map V.int)))else none) (fun b=>?_) (.inl (.inr ⟨{ cls:=.type "list",data:=.seq vs.toArray },dz rfl⟩)) (fun b u z=>?_) (fun b z=>?_) fun _=>S
  . by_cases f:b=a
    . exact .inr ⟨_,_,dz f⟩
    . exact .inl (eG f)
  . by_cases f:b=a
    . have B:=(dz f).symm.trans z;cases B;subst f;exact⟨M,by rw[mq];exact Z,vs,_,Y,M⟩
    . have B:=(eG f).symm.trans z;cases B
  . by_cases f:b=a
    . exact f
    . exact Ea (eG f) z
def N9{l:PySem.W.OpenLaw}{K:Params->Pb}{CX:Ri->GK}{sp:Ri->Sp}
 (O:l.most=ε n) (y:n<=sizeLine) (C:d.params.defaults=[]) (M:Xi k callerA)
 (S:∀w h,J w h->(K w.params).In h)
 (F:∀w mg fa h,(K w.params).In h->h.Ns mainGlobals mg->mg d.name=ε (.ref fa)->
  ∃E,(∀s u,BindsTo s E ⟨[u],[]⟩ [(x,u)])/\
   ∀base,(K w.params).In base->base.Ns mainGlobals mg->ab l.prog w (K w.params) mg base (CX w) k fa E [x] (sp w))
 (r:∀(w:Ri)(H:Hp)(a:O4)(ns:Oe Int),ns.length<=n->yQ H->vn (K w.params) H a (ns.map V.int)->sp w [.ref a] H (fun v z=>v=.bl true) fun z z z=>False)
 (D:∀w H s e p,CX w [] H s (fun z z z=>False) e p->False) :
 PySem.W.WalkO q g XP J l.row.toRowW d [] (fun f I=>PySem.call f I):=by
 refine Att.lr O C fun w s₀ j mg mb fa o pm cd Z a I ns G Y ho hd Q B m i b P=>?_
 have L:=S w _ Y;obtain⟨E,R,W⟩:=F w mg fa _ L G.T.g B;exact gn L G.T.g G.T.b G.T.builtins G.T.nolimit P m i (rz b y) M W R (fun H U T=>r w H a ns b U T) fun H e p=>D w H j e p
noncomputable def iT(s:Ra)(j:Nat):Ra:=match s with
 | .ClassDef _ _ _ a _ _ _ _ _ _ _=>a.getD j (.Pass ⟨0,0,0,0⟩)
 | _=>.Pass ⟨0,0,0,0⟩
noncomputable def eE(s:Ra):Arguments:=match s with
 | .FunctionDef _ a _ _ _ _ _ _ _ _=>a
 | _=>{ posonlyargs:=[],args:=[],vararg:=none,kwonlyargs:=[],kw_defaults:=[],kwarg:=none,defaults:=[] }
noncomputable def MC(s:Ra):Oe Ra:=match s with
 | .FunctionDef _ _ b _ _ _ _ _ _ _=>b
 | _=>[]
noncomputable def kB(s:Ra):Scope:=match s with
 | .FunctionDef _ _ _ _ _ _ a _ _ _=>a
 | _=>{ kind:=.function,names:=[],isGenerator:=false,isCoroutine:=false }
noncomputable abbrev TF:GK:=fun _ _ _ _ _ _=>False
noncomputable abbrev E0:XK:=fun _ _ _=>False
def jQ:YI TF X E0:=fun q q q q q q q h=>h.elim
structure Fun(K:Frag)(x qual:Str)(st:Stmt)(f:Addr)(fd:FuncData):Prop where
 ex:∃(oc:Value)(od:Option Addr)(kV doc pm:Value)(an:Option Addr)(cdv ct:Value)(osl:Array (Option Value)),
  fd=fnOf x qual (eE st) (MC st) (kB st) .none kV doc pm an cdv ct/\K.lookup f=ε ⟨oc,od,.func fd,osl⟩/\PySem.W.codeIn K cdv qual=true
 kp:keepIn K (.ref f)=true
section
variable{P:Pu}{w:Ri}{K:Pb}{b:Str->Oo Oi}{a:Ru}
def Fun.ok{st:Ra}(F:Fun K x d st f m)(S:Yu N ps (kB st))(len:∀vs H Q E,sp vs H Q E->vs.length=ps.length)
 (g:∀(e:Oi)(A:Ro)(outer:Oe Env)(s:Ou)(H:Hp)(vs:Oe V)(Q:VK)(E:XK),Xi k (A.deeper (envOfC d (kB st) s.heap.objs.size f e))->sp vs H Q E->
  ∃t,PSs (YE TF P w K b a N d (kB st) f e A outer s H E).nox (MC st) t/\t { nx:=fun z u=>Q .non u,rt:=Q } (pE N vs) H):ab P w K b a TF (k+1) f m ps sp:=by
 obtain⟨C,B,kV,r,y,D,e,ct,n,rfl,o,j⟩:=F.ex;refine W4 o j S len fun A outer s H vs Q E p i=>?_
 obtain⟨t,h,q⟩:=g e A outer s H vs Q E p i;exact⟨t,h.nox,q⟩
def Fun.binds{st:Ra}(F:Fun K x d st f k)
 (h:∀kV e i j g ct us,us.length=ps.length->bindArgs (fnOf x d (eE st) (MC st) (kB st) .none kV e i j g ct) ⟨us,[]⟩=pure (ps.zip us)):vt K k ps []:=by
 obtain⟨p,o,kV,e,i,j,g,ct,m,rfl,q,n⟩:=F.ex;exact .all (h kV e i j g ct)
def GP{st:Ra}{kV g i e ct:Oi}(l:K.lookup f=ε ⟨m,od,.func (fnOf x d (eE st) (MC st) (kB st) .none kV g i j e ct),h⟩)
 (c:PySem.W.codeIn K e d=true) (k:keepIn K (.ref f)=true):Fun K x d st f (fnOf x d (eE st) (MC st) (kB st) .none kV g i j e ct):=⟨⟨m,od,kV,g,i,j,e,ct,h,rfl,l,c⟩,k⟩
end
section
variable{X:Cx}
end
def BH{A B:Prop}(h:B):if false=true then A else B:=by rw[eG Vu];exact h
def DH{A B:Prop}(h:A):if true=true then A else B:=by rw[dz rfl];exact h
def Same(H a:Hp):Prop:=∀b o,H b=ε o->a b=ε o
def Same.refl(H):Same H H:=fun q q h=>h
def Same.trans(a:Same H d)(b:Same d H2):Same H H2:=fun c o h=>b c o (a c o h)
def Same.free(e:Same H a)(h:a l=Option.none):H l=Option.none:=by
 cases q:H l with
 | none=>rfl
 | some o=>rw[e l o q]at h;cases h
open PySem.AutoSeq1 (wpAny_loadPart')
open PySem.SeqAt PySem.MeetsSeq PySem.MeetsSeq2 PySem.MeetsSeq3
def Et(l b)(items a)(n j)(p f)(i e)(m:items.size+a.size<=sizeLine) :
 Meets (Builtin.«list.__add__» ⟨[.ref l,.ref b],[]⟩) (fun z R s=>s.heap.get? l=ε { cls:=.type "list",dict:=p,data:=.seq items n,slots:=i }/\s.heap.get? b=ε { cls:=.type "list",dict:=f,data:=.seq a j,slots:=e }/\R (.ok (.ret (Value.ref s.heap.objs.size))) { s with heap:=s.heap.push { cls:=Value.type "list",data:=Data.seq (items++a) },toks:=s.toks }):=
 .of_wp fun prog w A R s h=>by obtain⟨hp,g,d,q,os⟩:=s;obtain⟨k,o,h⟩:=h;have B:=AutoSeq1.idx_int;have y:=AutoSeq1.sub_tuple_tuple;have x:=AutoSeq1.sub_list_list;have u:=AutoSeq1.sub_tuple_list;have r:=AutoSeq1.sub_list_tuple;wp_walk using wpAny_loadPart' k,wpAny_loadPart' o;exact⟨_,rfl,h⟩
section
variable{X:Cx}
def ZZ:vu X (binaryOp .Add) (fun x y H Q=>∃l b f zs,x=.ref l/\y=.ref b/\vn X.K H l f/\vn X.K H b zs/\f.length+zs.length<=sizeLine/\∀p,H p=none->Q (.ref p) (pB H p (.lst (f++zs)))):=by
 intro k s T H x y v u Q I L J h;obtain⟨l,b,f,zs,rfl,rfl,P,R,Z,q⟩:=h;cases L;cases J;obtain⟨d,r,⟨⟨c1,d1,Y,i⟩,n,e,E,D,C⟩,z⟩:=I.list P;obtain⟨a,j,⟨⟨c2,d2,W,g⟩,M,e2,B,o,m⟩,U⟩:=I.list R;simp only at E D C B o m;subst E D C B o m;have hl:=r.length;have O:=j.length;refine concat_meets ⟨_,e,rfl⟩ ⟨_,e2,rfl⟩ noFill_list_add seq_list_add F.slot_list_add F.entry_list_add (F.args_list_add_2 _ _) (Et l b d.toArray a.toArray n M none none i g (by rw[cG,cG];omega)) ⟨e,e2,?_⟩;have S:d.toArray++a.toArray=(d++a).toArray:=by simp
 rw[S];exact⟨.ref _,_,I.gv (t':=s.toks) (r.append j) (by rw[je];omega),rfl,q _ I.fresh⟩
def vO(h:IntsAre us ns):∃a,us.toArray=intItems a/\a.toList.map (·.1)=ns:=by obtain⟨a,e⟩:=h.allInts.items;refine⟨a,e,?_⟩;have e2:=h.numsOf;rw[<- nums_intItems,<- e];exact e2
def Ur (n:X.calm=true):ae X (.builtin "sum") (fun a H Q=>∃(p:O4) (ns:Oe Int),a=[.ref p]/\vn X.K H p (ns.map V.int)/\Q (.int ns.sum) H):=by
 intro b s o H a y Q I r h;obtain⟨p,ns,rfl,m,q⟩:=h;obtain⟨u,rfl,g⟩:=kF r;cases g;obtain⟨j,i,pl,C⟩:=I.list m;obtain⟨x,e,e2⟩:=vO (VJ i);have d:=pl.isList;rw[e]at d;refine sum_intListG (I.ok.hd n) d fun D B f k=>⟨.int ns.sum,H,I.kept k,⟨f,?_⟩,q⟩
 rw[preSum_eq,Ka ⋯,e2]
def Kr (E:X.calm=true):ae X (.builtin "max") (fun g H Q=>∃p ns,g=[.ref p]/\vn X.K H p (ns.map V.int)/\ns ≠ []/\∀M,M∈ns->(∀a∈ns,a<=M)->Q (.int M) H):=by
 intro i s J H g L Q I r h;obtain⟨p,ns,rfl,C,f,q⟩:=h;obtain⟨u,rfl,o⟩:=kF r;cases o;obtain⟨y,x,pl,P⟩:=I.list C;obtain⟨b,e,e2⟩:=vO (VJ x);have m:=pl.isList;rw[e]at m;have d:0<b.size:=by
  rcases Nat.eq_zero_or_pos b.size with z | z
  . exfalso;apply f;rw[<- e2];have:b.toList=[]:=by apply eq_nil_of_length_eq_zero;simpa using z
    rw[this];rfl
  . exact z
 refine max_intList (I.ok.hd E) m d fun v S O B k=>?_
 obtain⟨t,rfl⟩:=intItems_at B;obtain⟨R,F⟩:=argBest_gt (numAt b) (b.size-1);refine⟨.int _,H,I.kept k,⟨t,rfl⟩,q _ ?_ fun a n=>?_⟩
 . rw[numAt_eq,<- e2];exact getD_mem (by rw[mq,za];omega)
 . rw[<- e2]at n;obtain⟨j,D,rfl⟩:=mem_getD n;rw[mq,za]at D;rw[<- numAt_eq];exact F j nofun
def Mr (E:X.calm=true):ae X (.builtin "min") (fun g H Q=>∃p ns,g=[.ref p]/\vn X.K H p (ns.map V.int)/\ns ≠ []/\∀M,M∈ns->(∀a∈ns,M<=a)->Q (.int M) H):=by
 intro i s J H g L Q I r h;obtain⟨p,ns,rfl,C,f,q⟩:=h;obtain⟨u,rfl,o⟩:=kF r;cases o;obtain⟨y,x,pl,P⟩:=I.list C;obtain⟨b,e,e2⟩:=vO (VJ x);have m:=pl.isList;rw[e]at m;have d:0<b.size:=by
  rcases Nat.eq_zero_or_pos b.size with z | z
  . exfalso;apply f;rw[<- e2];have:b.toList=[]:=by apply eq_nil_of_length_eq_zero;simpa using z
    rw[this];rfl
  . exact z
 refine min_intList (I.ok.hd E) m d fun v S O B k=>?_
 obtain⟨t,rfl⟩:=intItems_at B;obtain⟨R,F⟩:=argBest_lt (numAt b) (b.size-1);refine⟨.int _,H,I.kept k,⟨t,rfl⟩,q _ ?_ fun a n=>?_⟩
 . rw[numAt_eq,<- e2];exact getD_mem (by rw[mq,za];omega)
 . rw[<- e2]at n;obtain⟨j,D,rfl⟩:=mem_getD n;rw[mq,za]at D;rw[<- numAt_eq];exact F j nofun
def TyD(K:Pb)(H:Hp)(x:V)(t:String):Prop:=match x with
 | .non=>t = "NoneType"
 | .bl _=>t = "bool"
 | .int _=>t = "int"
 | .str _=>t = "str"
 | .ref a=>(t = "list" /\ ∃b,vn K H a b)\/(t = "tuple" /\ ∃b,LG K H a b)
 | _=>False
def Xn:ae X (.builtin "isinstance") (fun B H Q=>∃x t b,B=[x,.ty T]/\TyD X.K H x t/\PySem.W.kitOne X.K (.type t) (.type T)=ε b/\Q (.bl b) H):=by
 intro g s C H B F Q I r h;obtain⟨x,t,b,rfl,ty,e,q⟩:=h;obtain⟨u,J,rfl,f,E⟩:=pQ r;cases E;have d:∀j,EP X g C Q (.bool b) { s with toks:=j }:=fun j=>⟨.bl b,H,I.tok j,rfl,q⟩
 cases x with
 | non=>cases (show t = "NoneType" from ty);cases f;exact PySem.W.kia_one PySem.W.kitx_none I.kIn Ju e (fun z=>nomatch z) d
 | bl y=>cases (show t = "bool" from ty);cases f;exact PySem.W.kia_one PySem.W.kitx_bool I.kIn Ju e (fun z=>nomatch z) d
 | int i=>cases (show t = "int" from ty);obtain⟨_,rfl⟩:=f;exact PySem.W.kia_one PySem.W.kitx_int I.kIn Ju e (fun z=>nomatch z) d
 | str y=>cases (show t = "str" from ty);obtain⟨_,rfl⟩:=f;exact PySem.W.kia_one PySem.W.kitx_str I.kIn Ju e (fun z=>nomatch z) d
 | ref a=>
  cases f;rcases ty with⟨rfl,D,sq⟩ | ⟨rfl,D,sq⟩
  . obtain⟨k,_,⟨o,n,p,m,_,_⟩,_⟩:=I.list sq;exact PySem.W.kia_one PySem.W.kitx_list I.kIn ⟨o,p,m⟩ e (fun z=>nomatch z) d
  . obtain⟨k,_,⟨o,p,m,_⟩,_⟩:=I.tuple sq;exact PySem.W.kia_one PySem.W.kitx_tuple I.kIn ⟨o,p,m⟩ e (fun z=>nomatch z) d
 | byt _=>exact Fd ty
 | flt _=>exact Fd ty
 | ty _=>exact Fd ty
end
open PySem.AutoSeq1 (wpAny_loadPart')
open PySem.SeqAt PySem.MeetsSeq PySem.MeetsSeq2 PySem.MeetsSeq3
def Gh(l b)(items a)(n L)(S E)(J u)(e) :
 Meets (Builtin.«tuple.__ne__» ⟨[.ref l,.ref b],[]⟩)
  (fun A R s=>s.heap.get? l=ε { cls:=.type "tuple",dict:=S,data:=.seq items n,slots:=J }/\s.heap.get? b=ε { cls:=.type "tuple",dict:=E,data:=.seq a L,slots:=u }/\
   (∀j (I:j<items.size) (h2:j<a.size),EqAt A.in1 s items[j] a[j] (e j))/\
   R (.ok (.ret (.bool (!((List.range (min items.size a.size)).all e&&items.size==a.size))))) s):=
 .of_wp fun prog w A R s h=>by
  obtain⟨hp,g,d,F,os⟩:=s;obtain⟨O,Q,P,h⟩:=h;have T:=AutoSeq1.sub_tuple_tuple;have H:(items.toList.zip a.toList).length=min items.size a.size:=by simp
  wp_walk using wpAny_loadPart' O,wpAny_loadPart' Q,wpAny_forIn_list _ (fun rest b B=>b.1=none/\B=⟨hp,g,d,F,os⟩/\∃i,rest=(items.toList.zip a.toList).drop i/\
   R (.ok (.ret (.bool (!(((List.range (min items.size a.size)).drop i).all e&&items.size==a.size))))) ⟨hp,g,d,F,os⟩) _
  case turn=>
   rintro⟨y,x⟩ rest b B ⟨o,rfl,i,k,f⟩;have q:i<(items.toList.zip a.toList).length:=by
    rcases Nat.lt_or_ge i (items.toList.zip a.toList).length with h' | h'
    . exact h'
    . rw[drop_of_length_le h']at k;cases k
   have C:i<min items.size a.size:=H ▸ q;have I:i<items.size:=jo C (Nat.min_le_left _ _);have h2:i<a.size:=jo C (Nat.min_le_right _ _);rw[zu q]at k;injection k with p m
   have r:y=items[i]:=by have:=congrArg Prod.fst p;simpa using this
   have M:x=a[i]:=by have:=congrArg Prod.snd p;simpa using this
   subst r M;have hd:(List.range (min items.size a.size)).drop i=i::(List.range (min items.size a.size)).drop (i+1):=by simp[zu,C]
   rw[hd,Ks]at f;refine ao (P i I h2 prog w _ _ ?_);cases r:e i with
   | true=>
    rw[r]at f
    wp_walk
    exact⟨rfl,rfl,i+1,m,by simpa only[Gs]using f⟩
   | false=>
    rw[r]at f
    wp_walk
    exact⟨_,rfl,by simpa only[Hi,um]using f⟩
  case fin=>
   rintro⟨W,U⟩ B ⟨o,rfl,i,k,f⟩;simp only at o;subst o;have D:min items.size a.size<=i:=by
    rcases Nat.lt_or_ge i (items.toList.zip a.toList).length with h' | h'
    . rw[zu h']at k;cases k
    . exact H ▸ h'
   rw[drop_of_length_le (by simpa using D)]at f
   wp_walk
   exact⟨_,rfl,by simpa[Builtin.Tuple.tupleCompareSizes,bne]using f⟩
  case h=>exact⟨rfl,rfl,0,rfl,by simpa only[drop_zero]using h⟩
def Od(l b)(items a:Rr Oi)(n E)(I B)(D x)(hsz:items.size=a.size)(e)(k) :
 ∀i,items.size-i=k->Meets (Builtin.«list.__eq__.loop» ⟨[.ref l,.ref b,rawInt i,rawInt 3],[]⟩)
  (fun A R s=>s.heap.get? l=ε { cls:=.type "list",dict:=I,data:=.seq items n,slots:=D }/\s.heap.get? b=ε { cls:=.type "list",dict:=B,data:=.seq a E,slots:=x }/\
   (∀j (J:j<items.size) (h2:j<a.size),EqAt A.in1 s items[j] a[j] (e j))/\
   R (.ok (.ret (.bool (!(((List.range items.size).drop i).all e))))) s):=by
 induction k with
 | zero=>
  intro i F prog w A R s h;obtain⟨hp,g,d,C,os⟩:=s;obtain⟨q,r,y,h⟩:=h
  wp_walk using wpAny_loadPart' q,wpAny_loadPart' r
  have m:items[((i:Nat):Int).toNat]?=none:=by simp;omega
  have f:a[((i:Nat):Int).toNat]?=none:=by simp;omega
  have hd:(List.range items.size).drop i=[]:=by simp;omega
  rw[hd]at h;rw[m,f]
  wp_walk using wpAny_loadPart' q,wpAny_loadPart' r
  show R (.ok (.ret (.bool (items.size !=a.size)))) _;rw[hsz];simpa using h
 | succ k ih=>
  intro i F prog w A R s h;obtain⟨hp,g,d,C,os⟩:=s;obtain⟨q,r,y,h⟩:=h
  wp_walk using wpAny_loadPart' q,wpAny_loadPart' r
  have p:i<items.size:=by omega
  have o:i<a.size:=by omega
  have m:items[((i:Nat):Int).toNat]?=ε items[i]:=by simp[p]
  have f:a[((i:Nat):Int).toNat]?=ε a[i]:=by simp[o]
  have hd:(List.range items.size).drop i=i::(List.range items.size).drop (i+1):=by simp[zu,p]
  have H:((i:Int)+1)=((i+1:Nat):Int):=by push_cast;rfl
  rw[hd,Ks]at h;rw[m,f];refine ao (y i p o prog w _ _ ?_);cases u:e i with
  | true=>
   rw[u]at h
   wp_walk
   rw[H];exact⟨plainId_quiet plain_eq_loop _,Ii entry_eq_loop (by
    rw[Hs plain_eq_loop _];exact ih (i+1) nofun prog w A R _ ⟨q,r,y,by simpa only[Gs]using h⟩)⟩
  | false=>
   rw[u]at h
   wp_walk using wpAny_loadPart' q,wpAny_loadPart' r
   rw[m,f]
   wp_walk
   simpa using h
def Ft(l b)(items a)(n m)(q i)(k f)(hsz:items.size=a.size)(e) :
 Meets (Builtin.«list.__ne__» ⟨[.ref l,.ref b],[]⟩)
  (fun A R s=>s.heap.get? l=ε { cls:=.type "list",dict:=q,data:=.seq items n,slots:=k }/\s.heap.get? b=ε { cls:=.type "list",dict:=i,data:=.seq a m,slots:=f }/\
   (∀j (y:j<items.size) (h2:j<a.size),EqAt A.in1 s items[j] a[j] (e j))/\
   R (.ok (.ret (.bool (!((List.range items.size).all e))))) s):=by
 intro prog w A R s h;obtain⟨hp,g,d,x,os⟩:=s;obtain⟨o,p,u,h⟩:=h;have B:=AutoSeq1.sub_list_list;have r:¬(items.size !=a.size)=true:=by simp[hsz]
 wp_walk using wpAny_loadPart' o,wpAny_loadPart' p
 exact⟨plainId_quiet plain_eq_loop _,Ii entry_eq_loop (by
  rw[Hs plain_eq_loop _];exact Od l b items a n m q i k f hsz e _ 0 rfl prog w A R _ ⟨o,p,u,by simpa only[drop_zero]using h⟩)⟩
def Yv(l b)(items a)(n j)(p f)(i e)(m:(items.size !=a.size)=true) :
 Meets (Builtin.«list.__ne__» ⟨[.ref l,.ref b],[]⟩)
  (fun z R s=>s.heap.get? l=ε { cls:=.type "list",dict:=p,data:=.seq items n,slots:=i }/\s.heap.get? b=ε { cls:=.type "list",dict:=f,data:=.seq a j,slots:=e }/\
   R (.ok (.ret (.bool true))) s):=
 .of_wp fun prog w A R s h=>by
  obtain⟨hp,g,d,q,os⟩:=s;obtain⟨k,o,h⟩:=h;have r:=AutoSeq1.sub_list_list
  wp_walk using wpAny_loadPart' k,wpAny_loadPart' o
  exact⟨_,rfl,h⟩
section
variable{prog:Pu}{w:Ri}{A:Ro}{E:Oi->Ou->Prop}{s:Ou}{Q:Oi->Ou->Prop}
def Sd(C:s.heap.IsTuple l items)(D:s.heap.IsTuple b a)(B:A.units<cLine)
 (he:∀j (J:j<items.size) (h2:j<a.size),EqAt A.in1 s items[j] a[j] (e j)) (h:Q (.bool (!((List.range (min items.size a.size)).all e&&items.size==a.size))) s):wpAny (model prog w) A (compareOp .NotEq (.ref l) (.ref b)) Q E s:=by
 obtain⟨⟨I,H,q,u⟩,o,p,n,hd⟩:=id C;obtain⟨⟨r,k,m,i⟩,d,g,y,f⟩:=id D;simp only at p hd g f;subst p hd g f;exact richCompare_meets_room (op:=.NotEq) ⟨_,o,rfl⟩ ⟨_,d,rfl⟩ F.slot_tuple_ne F.entry_tuple_ne (F.args_tuple_ne_2 _ _) (Gh l b items a n y H k u i e) ⟨o,d,he,⟨(fun x=>nomatch x),h⟩⟩ B
def fZ(C:s.heap.IsList l items)(D:s.heap.IsList b a)(hsz:items.size=a.size)(B:A.units<cLine)
 (he:∀j (J:j<items.size) (h2:j<a.size),EqAt A.in1 s items[j] a[j] (e j)) (h:Q (.bool (!((List.range items.size).all e))) s):wpAny (model prog w) A (compareOp .NotEq (.ref l) (.ref b)) Q E s:=by
 obtain⟨⟨I,H,q,u⟩,o,p,n,hd⟩:=id C;obtain⟨⟨r,k,m,i⟩,d,g,y,f⟩:=id D;simp only at p hd g f;subst p hd g f;exact richCompare_meets_room (op:=.NotEq) ⟨_,o,rfl⟩ ⟨_,d,rfl⟩ F.slot_list_ne F.entry_list_ne (F.args_list_ne_2 _ _) (Ft l b items a n y H k u i hsz e) ⟨o,d,he,⟨(fun x=>nomatch x),h⟩⟩ B
def Jy(y:s.heap.IsList l items)(B:s.heap.IsList b a)(hsz:(items.size !=a.size)=true)(u:A.units<cLine)
 (h:Q (.bool true) s):wpAny (model prog w) A (compareOp .NotEq (.ref l) (.ref b)) Q E s:=by
 obtain⟨⟨D,C,o,q⟩,k,m,n,hd⟩:=id y;obtain⟨⟨p,i,j,g⟩,d,f,r,e⟩:=id B;simp only at m hd f e;subst m hd f e;exact richCompare_meets_room (op:=.NotEq) ⟨_,k,rfl⟩ ⟨_,d,rfl⟩ F.slot_list_ne F.entry_list_ne (F.args_list_ne_2 _ _) (Yv l b items a n r C i q g hsz) ⟨k,d,⟨(fun x=>nomatch x),h⟩⟩ u
end
end L2
namespace SM
inductive Dt where
 | non | bl (b:Bool) | int (i:Int) | str (x:Str) | tup (xs:List Dt) | lst (xs:List Dt) | ref (n:Nat) | ntp (xs:List Int)
inductive Ob where
 | lst (xs:List Dt)
 | ins (x:Str) (fs:List (Str×Dt))
 | dk (kvs:List (MB×Dt))
 | dt (kvs:List (List Int×Dt))
 | df (kvs:List (List Int×Dt))
noncomputable abbrev HI:=Oe Ob
noncomputable abbrev LI:=Oe (Oo Dt)
structure Rg where
 v:List Addr
 z:List Addr
def Rg.no(ρ:Rg)(a:O4):Prop:=a∉ρ.v/\a∉ρ.z
noncomputable def Rg.add(ρ:Rg)(p:O4):Rg:=⟨ρ.v++[p],ρ.z⟩
noncomputable def Rg.hide(ρ:Rg)(p:O4):Rg:=⟨ρ.v,p::ρ.z⟩
noncomputable def Rg.nil:Rg:=⟨[],[]⟩
def vz(K:Pb)(H:Hp)(ρ:Rg)(a:O4)(vs:Oe V):Prop:=
 (ρ.no a/\Rd H a (.tup vs))\/
  ∃(o:Obj) (b:Rr Oi) (n:Nat),K.lookup a=ε o/\o.cls=.type "tuple" /\ o.data=.seq b n/\b.size<=sizeLine/\va vs b.toList
def wf(K:Pb)(H:Hp)(ρ:Rg)(a:O4)(vs:Oe V):Prop:=
 (ρ.no a/\Rd H a (.lst vs))\/
  ∃(o:Obj) (b:Rr Oi) (n:Nat),K.lookup a=ε o/\o.cls=.type "list" /\ o.dict=none/\o.data=.seq b n/\b.size<=sizeLine/\va vs b.toList
def vz.sq{K:Pb}(h:vz K H ρ a vs):LG K H a vs:=by
 rcases h with⟨_,h⟩ | h
 . exact .inl h
 . exact .inr h
def wf.sq{K:Pb}(h:wf K H ρ a vs):vn K H a vs:=by
 rcases h with⟨_,h⟩ | h
 . exact .inl h
 . exact .inr h
mutual
noncomputable def T3(K:Pb)(H:Hp)(ρ:Rg):Dt->V->Prop
 | .non,v=>v=.non
 | .bl b,v=>v=.bl b
 | .int i,v=>v=.int i
 | .str x,v=>v=.str x
 | .tup xs,v=>∃a d,v=.ref a/\vz K H ρ a d/\Ti K H ρ xs d
 | .lst xs,v=>∃a d,v=.ref a/\wf K H ρ a d/\Ti K H ρ xs d
 | .ref n,v=>∃a,v=.ref a/\ρ.v[n]?=ε a
 | .ntp xs,v=>∃a,v=.ref a/\ρ.no a/\H a=ε (.tup (xs.map V.int))
noncomputable def Ti(K:Pb)(H:Hp)(ρ:Rg):Oe Dt->Oe V->Prop
 | [],vs=>vs=[]
 | x::xs,vs=>∃v r,vs=v::r/\T3 K H ρ x v/\Ti K H ρ xs r
end
structure vc(ρ ρ':Rg)(H H':Hp):Prop where
 pre:∃e,ρ'.v=ρ.v++e/\∀a∈e,H a=none
 hid:ρ'.z=ρ.z
 keep:∀a o,H a=ε o->a∉ρ.v->H' a=ε o
 live:∀a,H' a=none->H a=none
 fz:∀a o u,H a=ε (.frz o u)->H' a=ε (.frz o u)
def vc.refl(ρ)(H):vc ρ ρ H H:=⟨⟨[],by simp,by simp⟩,rfl,fun q q h q=>h,fun q h=>h,fun q q q h=>h⟩
def vc.hL(x:vc ρ b H g)(h:H a=ε o)(n:a∉ρ.v):a∉b.v:=by
 obtain⟨e,f,d⟩:=x.pre;rw[f];intro hm;rcases Bo.mp hm with hm | hm
 . exact n hm
 . have:=d a hm;rw[h]at this;cases this
def vc.gx(x:vc ρ b H d)(h:H a=ε o)(n:ρ.no a):b.no a:=⟨x.hL h n.1,by rw[x.hid];exact n.2⟩
def vc.trans(x:vc ρ d H f)(y:vc d b f H2):vc ρ b H H2:=by
 refine⟨?_,y.hid.trans x.hid,fun a o h n=>y.keep a o (x.keep a o h n) (x.hL h n),fun a h=>x.live a (y.live a h),fun a o u h=>y.fz a o u (x.fz a o u h)⟩;obtain⟨e,q1,i⟩:=x.pre;obtain⟨j,q2,g⟩:=y.pre;refine⟨e++j,by rw[q2,q1,n7],fun a ha=>?_⟩;rcases Bo.mp ha with ha | ha
 . exact i a ha
 . exact x.live a (g a ha)
def vc.get{ρ b:Rg}{H f:Hp}(x:vc ρ b H f){n:Nat}{a:O4}(h:ρ.v[n]?=ε a):b.v[n]?=ε a:=by obtain⟨e,d,_⟩:=x.pre;have:=(Wk h).1;rw[d,Xo this];exact h
def vc.fresh(h:H p=none):vc ρ ρ H (pB H p o):=by
 refine⟨⟨[],by simp,by simp⟩,rfl,fun a u e q=>?_,fun a e=>?_,fun a o u e=>by rw[XA (UC e h)];exact e⟩
 . rw[XA (UC e h)];exact e
 . by_cases b:a=p
   . subst b;exact h
   . rw[XA b]at e;exact e
def vc.own(h:H p=none):vc ρ (ρ.add p) H (pB H p o):=by refine⟨⟨[p],rfl,fun a b=>?_⟩,rfl,(vc.fresh (ρ:=ρ) h).keep,(vc.fresh (ρ:=ρ) h).live,(vc.fresh (ρ:=ρ) h).fz⟩;rw[Ao.mp b];exact h
def yU(H:Hp)(a:O4):Prop:=∀o u,H a≠ε (.frz o u)
def FH(h:H a=ε (.lst vs)):yU H a:=fun q q e=>by rw[h]at e;cases e
def vc.write(g:a∈ρ.v)(f:yU H a):vc ρ ρ H (pB H a o):=by
 refine⟨⟨[],by simp,by simp⟩,rfl,fun b u e n=>?_,fun b e=>?_,fun b q u e=>by rw[XA (fun z:b=a=>f q u (by rw[<- z];exact e))];exact e⟩
 . rw[XA (fun z=>n (by rw[z];exact g))];exact e
 . by_cases d:b=a
   . subst d;rw[oC]at e;cases e
   . rw[XA d]at e;exact e
structure ay(ρ ρ':Rg)(H H':Hp):Prop where
 no:∀a u,H a=ε u->ρ.no a->ρ'.no a
 eq:∀a u,H a=ε u->ρ.no a->H' a=ε u
 ix:∀(n:Nat) a,ρ.v[n]?=ε a->ρ'.v[n]?=ε a
 fz:∀a o u,H a=ε (.frz o u)->H' a=ε (.frz o u)
def vc.same(x:vc ρ a H H'):ay ρ a H H':=⟨fun q q e n=>x.gx e n,fun q q e n=>x.keep _ _ e n.1,fun q q e=>x.get e,x.fz⟩
def ay.trans(x:ay ρ d H f)(y:ay d b f H2):ay ρ b H H2:=
 ⟨fun a u e n=>y.no a u (x.eq a u e n) (x.no a u e n),fun a u e n=>y.eq a u (x.eq a u e n) (x.no a u e n),fun n a e=>y.ix n a (x.ix n a e),fun a o u e=>y.fz a o u (x.fz a o u e)⟩
def vz.same{K:Pb}(x:ay ρ b H d)(h:vz K H ρ a vs):vz K d b a vs:=by
 rcases h with⟨n,t | ⟨y,t⟩⟩ | t
 . exact .inl ⟨x.no _ _ t n,.inl (x.eq _ _ t n)⟩
 . exact .inl ⟨x.no _ _ t n,.inr ⟨y,x.eq _ _ t n⟩⟩
 . exact .inr t
def wf.same{K:Pb}(x:ay ρ b H d)(h:wf K H ρ a vs):wf K d b a vs:=by
 rcases h with⟨n,t | ⟨y,t⟩⟩ | t
 . exact .inl ⟨x.no _ _ t n,.inl (x.eq _ _ t n)⟩
 . exact .inl ⟨x.no _ _ t n,.inr ⟨y,x.eq _ _ t n⟩⟩
 . exact .inr t
mutual
theorem T3.same{K:Pb}{ρ b:Rg}{H g:Hp}(x:ay ρ b H g):∀(d:Dt){v:V},T3 K H ρ d v->T3 K g b d v
 | .non,_,h=>by simp![T3]at h ⊢;exact h
 | .bl _,_,h=>by simp![T3]at h ⊢;exact h
 | .int _,_,h=>by simp![T3]at h ⊢;exact h
 | .str _,_,h=>by simp![T3]at h ⊢;exact h
 | .tup xs,_,h=>by simp![T3]at h ⊢;obtain⟨a,f,e,t,r⟩:=h;exact⟨a,f,e,t.same x,Ti.same x xs r⟩
 | .lst xs,_,h=>by simp![T3]at h ⊢;obtain⟨a,f,e,t,r⟩:=h;exact⟨a,f,e,t.same x,Ti.same x xs r⟩
 | .ref _,_,h=>by simp![T3]at h ⊢;obtain⟨a,e,t⟩:=h;exact⟨a,e,x.ix _ _ t⟩
 | .ntp _,_,h=>by simp![T3]at h ⊢;obtain⟨a,e,n,t⟩:=h;exact⟨a,e,x.no _ _ t n,x.eq _ _ t n⟩
theorem Ti.same{K:Pb}{ρ a:Rg}{H b:Hp}(x:ay ρ a H b):∀(ds:Oe Dt){vs:Oe V},Ti K H ρ ds vs->Ti K b a ds vs
 | [],_,h=>by simp![Ti]at h ⊢;exact h
 | d::ds,_,h=>by simp![Ti]at h ⊢;obtain⟨v,r,e,g,f⟩:=h;exact⟨v,r,e,T3.same x d g,Ti.same x ds f⟩
end
def T3.ext{K:Pb}(x:vc ρ a H b)(d)(h:T3 K H ρ d v):T3 K b a d v:=T3.same x.same d h
def Ti.ext{K:Pb}(h:Ti K H ρ ds vs)(x:vc ρ a H b):Ti K b a ds vs:=Ti.same x.same ds h
section
variable{K:Pb}{H:Hp}{ρ:Rg}
def Ti.nil:Ti K H ρ [] []:=by simp![Ti]
def Ti.cons{d:Dt}{v:V}{ds:Oe Dt}{vs:Oe V}(h:T3 K H ρ d v)(r:Ti K H ρ ds vs):Ti K H ρ (d::ds) (v::vs):=by simp![Ti];exact⟨v,vs,rfl,h,r⟩
def Ti.Zi(h:Ti K H ρ (d::ds) vs):∃v r,vs=v::r/\T3 K H ρ d v/\Ti K H ρ ds r:=by simpa only[Ti]using h
def Ti.ba(h:Ti K H ρ [] vs):vs=[]:=by simpa only[Ti]using h
theorem Ti.length:∀{ds:Oe Dt}{vs:Oe V},Ti K H ρ ds vs->vs.length=ds.length
 | [],_,h=>by rw[h.ba];rfl
 | d::ds,_,h=>by obtain⟨v,r,rfl,_,a⟩:=h.Zi;rw[T4,T4,Ti.length a]
theorem Ti.get:∀{ds:Oe Dt}{vs:Oe V}{i:Nat}{d:Dt},Ti K H ρ ds vs->ds[i]?=ε d->∃v,vs[i]?=ε v/\T3 K H ρ d v
 | [],_,_,_,_,e=>by simp at e
 | d::ds,_,0,_,h,e=>by obtain⟨v,r,rfl,b,_⟩:=h.Zi;simp at e;subst e;exact⟨v,rfl,b⟩
 | d::ds,_,i+1,d',h,e=>by obtain⟨v,r,rfl,_,a⟩:=h.Zi;obtain⟨u,q1,q2⟩:=Ti.get (i:=i) a (by simpa using e);exact⟨u,by simpa using q1,q2⟩
theorem Ti.append:∀{ds a:Oe Dt}{vs us:Oe V},Ti K H ρ ds vs->Ti K H ρ a us->Ti K H ρ (ds++a) (vs++us)
 | [],_,_,_,h,h'=>by rw[h.ba];exact h'
 | d::ds,_,_,_,h,h'=>by obtain⟨v,r,rfl,e,b⟩:=h.Zi;exact .cons e (Ti.append b h')
theorem Ti.set:∀{ds:Oe Dt}{vs:Oe V}{d:Dt}{v:V}(i:Nat),Ti K H ρ ds vs->T3 K H ρ d v->Ti K H ρ (ds.set i d) (vs.set i v)
 | [],_,_,_,_,h,_=>by rw[h.ba];exact .nil
 | d::ds,_,_,_,0,h,q=>by obtain⟨v,r,rfl,b,a⟩:=h.Zi;exact .cons q a
 | d::ds,_,_,_,i+1,h,q=>by obtain⟨v,r,rfl,b,a⟩:=h.Zi;exact .cons b (Ti.set i a q)
theorem Ti.take:∀{ds:Oe Dt}{vs:Oe V}(n:Nat),Ti K H ρ ds vs->Ti K H ρ (ds.take n) (vs.take n)
 | [],_,n,h=>by rw[h.ba];simp;exact .nil
 | d::ds,_,0,h=>.nil
 | d::ds,_,n+1,h=>by obtain⟨v,r,rfl,b,a⟩:=h.Zi;exact .cons b (Ti.take n a)
theorem Ti.drop:∀{ds:Oe Dt}{vs:Oe V}(n:Nat),Ti K H ρ ds vs->Ti K H ρ (ds.drop n) (vs.drop n)
 | [],_,n,h=>by rw[h.ba];simp;exact .nil
 | d::ds,_,0,h=>h
 | d::ds,_,n+1,h=>by obtain⟨v,r,rfl,b,a⟩:=h.Zi;exact Ti.drop n a
def Ti.ints(ns:Oe Int):Ti K H ρ (ns.map Dt.int) (ns.map V.int):=by
 induction ns with
 | nil=>exact .nil
 | cons n ns ih=>exact .cons (by simp![T3]) ih
theorem Ti.cm:∀{ns:Oe Int}{vs:Oe V},Ti K H ρ (ns.map Dt.int) vs->vs=ns.map V.int
 | [],_,h=>h.ba
 | n::ns,_,h=>by obtain⟨v,r,rfl,a,b⟩:=Ti.Zi h;simp![T3]at a;rw[a,Ti.cm b];rfl
def Xa:T3 K H ρ (.int i) v↔v=.int i:=by simp![T3]
def Za:T3 K H ρ (.bl i) v↔v=.bl i:=by simp![T3]
def cn:T3 K H ρ (.str i) v↔v=.str i:=by simp![T3]
def bv:T3 K H ρ .non v↔v=.non:=by simp![T3]
def ai:T3 K H ρ (.tup xs) v↔∃a vs,v=.ref a/\vz K H ρ a vs/\Ti K H ρ xs vs:=by simp![T3]
def br:T3 K H ρ (.lst xs) v↔∃a vs,v=.ref a/\wf K H ρ a vs/\Ti K H ρ xs vs:=by simp![T3]
def dq:T3 K H ρ (.ntp xs) v↔∃a,v=.ref a/\ρ.no a/\H a=ε (.tup (xs.map V.int)):=by simp![T3]
def ad:T3 K H ρ (.ref n) v↔∃a,v=.ref a/\ρ.v[n]?=ε a:=by simp![T3]
end
def bz(K:Pb)(H:Hp)(ρ:Rg)(a:O4):Ob->Prop
 | .lst e=>∃b,H a=ε (.lst b)/\Ti K H ρ e b
 | .ins x fs=>∃C f b,nsIn K mainGlobals x=ε (ε (.ref C))/\H a=ε (.ins C f b)/\fs.map (·.1)=b.map (·.1)/\Ti K H ρ (fs.map (·.2)) (b.map (·.2))
 | .dk d=>∃b,H a=ε (.dK b)/\d.map (·.1)=b.map (·.1)/\Ti K H ρ (d.map (·.2)) (b.map (·.2))
 | .dt d=>∃b:Oe (Oe MB×V),H a=ε (.dT b)/\b.map (·.1)=d.map (fun p=>p.1.map Sum.inl)/\Ti K H ρ (d.map (·.2)) (b.map (·.2))
 | .df d=>∃(o:Obj)(b:Oe (Oe MB×V)),H a=ε (.frz o (.dT b))/\b.map (·.1)=d.map (fun p=>p.1.map Sum.inl)/\Ti K H ρ (d.map (·.2)) (b.map (·.2))
structure Ve(K:Frag)(ρ:Rg)(h:HI)(H:Hp):Prop where
 nd:ρ.v.Nodup
 len:ρ.v.length=h.length
 ob:∀(n:Nat) a o,ρ.v[n]?=ε a->h[n]?=ε o->bz K H ρ a o
 zt:∀a∈ρ.z,a∉ρ.v/\∃vs,H a=ε (.lst vs)
def bz.ext{K:Pb}(x:vc ρ i H k)(e:k a=H a)(h:bz K H ρ a o):bz K k i a o:=by
 cases o with
 | lst p=>obtain⟨b,f,d⟩:=h;exact⟨b,e.trans f,d.ext x⟩
 | ins y fs=>obtain⟨C,n,b,m,f,d,g⟩:=h;exact⟨C,n,b,m,e.trans f,d,g.ext x⟩
 | dk j=>obtain⟨b,f,d,g⟩:=h;exact⟨b,e.trans f,d,g.ext x⟩
 | dt j=>obtain⟨b,f,d,g⟩:=h;exact⟨b,e.trans f,d,g.ext x⟩
 | df j=>obtain⟨o,b,f,d,g⟩:=h;exact⟨o,b,e.trans f,d,g.ext x⟩
def bz.some{K:Pb}{H:Hp}{ρ:Rg}{a:O4}{o:Ob}(h:bz K H ρ a o):∃u,H a=ε u:=by
 cases o with
 | lst f=>obtain⟨e,b,_⟩:=h;exact⟨_,b⟩
 | ins y fs=>obtain⟨C,g,e,_,b,_⟩:=h;exact⟨_,b⟩
 | dk d=>obtain⟨e,b,_⟩:=h;exact⟨_,b⟩
 | dt d=>obtain⟨e,b,_⟩:=h;exact⟨_,b⟩
 | df d=>obtain⟨o,e,b,_⟩:=h;exact⟨_,b⟩
section
variable{K:Pb}{H H':Hp}{ρ:Rg}{h:HI}
def Ve.nil:Ve K .nil [] H:=⟨nodup_nil,rfl,fun q q q e=>by simp[Rg.nil]at e,fun q h=>nomatch h⟩
def Ve.tracked(S:Ve K ρ h H)(e:a∈ρ.v):∃u,H a=ε u:=by
 obtain⟨n,b⟩:=mem_iff_getElem?.mp e;have d:n<h.length:=by rw[<- S.len];exact(Wk b).1
 exact(S.ob n a _ b (ji d)).some
def Ve.out(S:Ve K ρ h H)(hp:H p=none):ρ.no p:=by
 refine⟨fun a=>?_,fun a=>?_⟩
 . obtain⟨u,e⟩:=S.tracked a;rw[hp]at e;cases e
 . obtain⟨_,u,e⟩:=S.zt p a;rw[hp]at e;cases e
def Ve.fresh(S:Ve K ρ h H)(hp:H p=none):Ve K ρ h (pB H p o):=
 ⟨S.nd,S.len,fun n a u b e2=>(S.ob n a u b e2).ext (vc.fresh hp) (XA (fun z=>(S.out hp).1 (z ▸ kj b))),fun a d=>by
  obtain⟨n,u,e⟩:=S.zt a d;exact⟨n,u,by rw[XA (UC e hp)];exact e⟩⟩
def Ve.own(S:Ve K ρ h H)(hp:H p=none)(m:bz K (pB H p o) (ρ.add p) p u):Ve K (ρ.add p) (h++[u]) (pB H p o):=by
 refine⟨?_,by simp![Rg.add];rw[je,je,S.len];rfl,fun n a ob d e2=>?_,fun a i=>?_⟩
 . simp![Rg.add];rw[nodup_append];refine⟨S.nd,Mi.mpr ⟨by simp,nodup_nil⟩,fun a i b q=>?_⟩;rw[Ao.mp q];intro z;exact(S.out hp).1 (z ▸ i)
 . simp![Rg.add]at d;by_cases g:n<h.length
   . rw[Xo g]at e2;rw[Xo (by rw[S.len];exact g)]at d;exact(S.ob n a ob d e2).ext (vc.own hp) (XA (fun z=>(S.out hp).1 (z ▸ kj d)))
   . have f:h.length<=n:=Je.mp g;rw[Zu f]at e2;rw[Zu (by rw[S.len];exact f),S.len]at d;cases j:n-h.length with
     | zero=>rw[j]at d e2;simp at d e2;subst d e2;exact m
     | succ k=>rw[j]at e2;simp at e2
 . obtain⟨n,u,e⟩:=S.zt a i;refine⟨fun hm=>?_,u,by rw[XA (UC e hp)];exact e⟩;simp![Rg.add]at hm;rcases Bo.mp hm with hm | hm
   . exact n hm
   . rw[Ao.mp hm,hp]at e;cases e
def Ve.write(S:Ve K ρ h H)(b:ρ.v[n]?=ε p)(g:yU H p)(i:bz K (pB H p o) ρ p u):Ve K ρ (h.set n u) (pB H p o):=by
 refine⟨S.nd,by rw[Ku];exact S.len,fun m a ob d e2=>?_,fun a k=>?_⟩
 . by_cases f:m=n
   . subst f;rw[b]at d;cases d;have j:m<h.length:=by rw[<- S.len];exact(Wk b).1
     rw[su j]at e2;cases e2;exact i
   . rw[lu (m8 f)]at e2;refine(S.ob m a ob d e2).ext (vc.write (kj b) g) (XA fun z=>f ?_);subst z;obtain⟨r,q1⟩:=Wk d;obtain⟨q,q2⟩:=Wk b;exact(getElem_inj S.nd).mp (q1.trans q2.symm)
 . obtain⟨m,w,e⟩:=S.zt a k;exact⟨m,w,by rw[XA (fun z=>m (by rw[z];exact kj b))];exact e⟩
def Ve.lst(S:Ve K ρ h H){n:Nat}(b:ρ.v[n]?=ε a)(e:h[n]?=ε (.lst xs)):∃vs,H a=ε (.lst vs)/\Ti K H ρ xs vs:=S.ob n a _ b e
end
structure Yi(K:Frag)(H:Hp)(ρ:Rg)(l:LI)(σ:L2.St):Prop where
 len:l.length=σ.length
 val:∀(i:Nat) d,l[i]?=ε (ε d)->∃v,σ[i]?=ε (ε v)/\T3 K H ρ d v
def Yi.ext{K:Pb}(L:Yi K H ρ l σ)(x:vc ρ a H b):Yi K b a l σ:=
 ⟨L.len,fun i d e=>let ⟨v,e1,r⟩:=L.val i d e;⟨v,e1,T3.ext x d r⟩⟩
def Yi.set{K:Pb}(L:Yi K H ρ l b)(i)(r:T3 K H ρ d v):Yi K H ρ (l.set i (ε d)) (b.set i (ε v)):=by
 refine⟨by rw[Ku,Ku];exact L.len,fun j g e=>?_⟩;by_cases a:j=i
 . subst a;have f:j<l.length:=by have:=(Wk e).1;rwa[Ku]at this
   rw[su f]at e;cases e;exact⟨v,su (by rw[<- L.len];exact f),r⟩
 . rw[lu (m8 a)]at e;rw[lu (m8 a)];exact L.val j g e
abbrev RE:=LI->HI->Oo (Dt×HI)
abbrev RT:=LI->HI->Oo (Bool×HI)
abbrev RA:=LI->HI->Oo (Oe Dt×HI)
inductive Rs where
 | nx (l:LI) (h:HI) | rt (d:Dt) (h:HI) | bk (l:LI) (h:HI) | ct (l:LI) (h:HI)
abbrev RS:=LI->HI->Oo Rs
abbrev qD:=Dt->Dt->HI->Oo (Dt×HI)
abbrev oB:=Oe Dt->HI->Oo (Dt×HI)
noncomputable def ZA:Pa->Bool
 | .Starred _ _=>false
 | _=>true
def fB(h:ZA e=true)(a)(env):starEach (e::a) env=(false,eval e env)::starEach a env:=by cases e<;>first | rfl | (exact Ea h Vu)
theorem EI:∀{a:Oe Pa},a.all ZA=true->(backTo pos (starEach a env)).any (·.1)=false
 | [],_=>rfl
 | e::a,h=>by rw[Ks,vm]at h;have ih:=EI (pos:=pos) (env:=env) h.2;rw[fB h.1];unfold backTo at ih ⊢;simp![Uo,Ko,Bool.false_or];exact ih
def zM(h:ZA b=true):((backTo pos (starEach [b] env)).all (fun x=>!x.1)&&(backToKw pos (keywordEach [] env)).all (fun x=>x.1.isSome)
 && decide ([b].length+([]:Oe Keyword).length+(if([]:Oe Keyword).isEmpty then 0 else 1)<30))=true:=by
 rw[fB h];rfl
def Out(K:Pb)(ρ:Rg)(H:Hp)(d:Dt)(h':HI)(Q:VK):Prop:=
 ∀a v b,T3 K b a d v->Ve K a h' b->vc ρ a H b->Q v b
def eP(K:Pb)(ρ:Rg)(H:Hp)(h':HI)(Q:Hp->Prop):Prop:=
 ∀a b,Ve K a h' b->vc ρ a H b->Q b
inductive tM(K:Frag)(f:RE)(σ:L2.St)(H:Hp)(Q:VK):Prop where
 | mk (ρ:Rg) (l:LI) (h:HI) (d:Dt) (h':HI) (S:Ve K ρ h H) (L:Yi K H ρ l σ) (e:f l h=ε (d,h')) (k:Out K ρ H d h' Q)
inductive DN(K:Frag)(f:RT)(σ:L2.St)(H:Hp)(Q:Bool->Hp->Prop):Prop where
 | mk (ρ:Rg) (l:LI) (h:HI) (b:Bool) (h':HI) (S:Ve K ρ h H) (L:Yi K H ρ l σ) (e:f l h=ε (b,h')) (k:eP K ρ H h' (Q b))
inductive tMA(K:Frag)(f:RA)(σ:L2.St)(H:Hp)(Q:List V->Hp->Prop):Prop where
 | mk (ρ:Rg) (l:LI) (h:HI) (ds:List Dt) (h':HI) (S:Ve K ρ h H) (L:Yi K H ρ l σ) (e:f l h=ε (ds,h')) (k:∀ρ' vs H',Ti K H' ρ' ds vs->Ve K ρ' h' H'->vc ρ ρ' H H'->Q vs H')
inductive rM(K:Frag)(op:qD)(x y:V)(H:Hp)(Q:VK):Prop where
 | mk (ρ:Rg) (h:HI) (d1 d2 d:Dt) (h':HI) (S:Ve K ρ h H) (r1:T3 K H ρ d1 x) (r2:T3 K H ρ d2 y) (e:op d1 d2 h=ε (d,h')) (k:Out K ρ H d h' Q)
noncomputable def gd(K:Pb)(ρ:Rg)(H:Hp)(D:xH):Rs->Prop
 | .nx l h=>∀a b e,Ve K a h e->Yi K e a l b->vc ρ a H e->D.nx b e
 | .bk l h=>∀a b e,Ve K a h e->Yi K e a l b->vc ρ a H e->D.bk b e
 | .ct l h=>∀a b e,Ve K a h e->Yi K e a l b->vc ρ a H e->D.ct b e
 | .rt d h=>Out K ρ H d h D.rt
inductive sM(K:Frag)(f:RS)(D:xH)(σ:L2.St)(H:Hp):Prop where
 | mk (ρ:Rg) (l:LI) (h:HI) (r:Rs) (S:Ve K ρ h H) (L:Yi K H ρ l σ) (e:f l h=ε r) (k:gd K ρ H D r)
def Out.ext{K:Pb}(k:Out K ρ H d h' Q)(x:vc ρ a H f):Out K a f d h' Q:=fun b v g r s e=>k b v g r s (x.trans e)
def eP.ext{K:Pb}(k:eP K ρ H h' Q)(x:vc ρ a H d):eP K a d h' Q:=fun b f s e=>k b f s (x.trans e)
def gd.ext{K:Pb}(k:gd K ρ H D r)(x:vc ρ f H i):gd K f i D r:=by
 cases r with
 | nx l h=>exact fun b a g s l e=>k b a g s l (x.trans e)
 | bk l h=>exact fun b a g s l e=>k b a g s l (x.trans e)
 | ct l h=>exact fun b a g s l e=>k b a g s l (x.trans e)
 | rt d h=>exact Out.ext k x
@[irreducible] def EM(X:Cx)(e:Pa)(f:RE):Prop:=PE X e (tM X.K f)
@[irreducible] def TM(X:Cx)(e:Pa)(f:RT):Prop:=PT X e (DN X.K f)
@[irreducible] def WM(X:Cx)(e:Pa)(f:RT):Prop:=PW X e (DN X.K f)
@[irreducible] def AM(X:Cx)(a:Oe Pa)(f:RA):Prop:=PA X a (tMA X.K f)
@[irreducible] def OM(X:Cx)(f:Oi->Oi->Sem Oi)(op:qD):Prop:=vu X f (rM X.K op)
@[irreducible] def ZM(X:Cx)(st:Ra)(f:RS):Prop:=PS X st (sM X.K f)
@[irreducible] def iI(X:Cx)(st:Oe Ra)(f:RS):Prop:=PSs X st (sM X.K f)
def PE.imp(h:PE X e t)(i:∀a H Q,t' a H Q->t a H Q):PE X e t':=fun b s a H Q I q=>h b s a H Q I (i a H Q q)
def PT.imp(h:PT X e t)(i:∀a H Q,t' a H Q->t a H Q):PT X e t':=fun b s a H Q I q=>h b s a H Q I (i a H Q q)
def PW.imp(h:PW X e t)(i:∀a H Q,t' a H Q->t a H Q):PW X e t':=fun d b s a H Q I q=>h d b s a H Q I (i a H Q q)
def PA.imp(h:PA X e t)(i:∀a H Q,t' a H Q->t a H Q):PA X e t':=fun pos b s a H Q I q=>h pos b s a H Q I (i a H Q q)
def PS.imp(h:PS X e t)(i:∀D a H,t' D a H->t D a H):PS X e t':=fun b s a H D I q=>h b s a H D I (i D a H q)
def PSs.imp(h:PSs X e t)(i:∀D a H,t' D a H->t D a H):PSs X e t':=fun b s a H D I q=>h b s a H D I (i D a H q)
def vu.imp(h:vu X f t)(i:∀x y H Q,t' x y H Q->t x y H Q):vu X f t':=fun a s b H x y v u Q I e d q=>h a s b H x y v u Q I e d (i x y H Q q)
noncomputable def eC(d:Dt):RE:=fun _ h=>ε (d,h)
abbrev wq(i:Int):=eC (.int i)
noncomputable def eV(i:Nat):RE:=fun l h=>match l[i]? with | some (some d)=>ε (d,h) | _=>none
noncomputable def e2(op:qD)(fa fb:RE):RE:=fun l h=>(fa l h).bind fun r=>(fb l r.2).bind fun q=>op r.1 q.1 q.2
noncomputable def dA:RA:=fun _ h=>ε ([],h)
noncomputable def bA(f:RE)(g:RA):RA:=fun l h=>(f l h).bind fun r=>(g l r.2).bind fun q=>ε (r.1::q.1,q.2)
section
variable{X:Cx}{a b c:Pa}{fa fb s:RE}{pos:Pos}
def cA{i j pos}:EM X (.Constant (.int i) j pos) (eC (.int i)):=by unhygienic exact PE.imp yj fun m H Q g=>by obtain⟨f,l,h,d,n,S,L,e,k⟩:=g;cases e;exact k f _ H (Xa.mpr rfl) S (vc.refl _ _)
def NC{i j pos}:EM X (.Constant (.bool i) j pos) (eC (.bl i)):=by unhygienic exact PE.imp Ux fun m H Q g=>by obtain⟨f,l,h,d,n,S,L,e,k⟩:=g;cases e;exact k f _ H (Za.mpr rfl) S (vc.refl _ _)
def qB{i j pos}:EM X (.Constant (.str i) j pos) (eC (.str i)):=by unhygienic exact PE.imp Cj fun m H Q g=>by obtain⟨f,l,h,d,n,S,L,e,k⟩:=g;cases e;exact k f _ H (cn.mpr rfl) S (vc.refl _ _)
def ME{j pos}:EM X (.Constant .none j pos) (eC .non):=by unhygienic exact PE.imp zj fun i H Q g=>by obtain⟨f,l,h,d,m,S,L,e,k⟩:=g;cases e;exact k f _ H (bv.mpr rfl) S (vc.refl _ _)
set_option tactic.hygienic true in
theorem aA (i) (n:autoParam (X.N[i]?=ε x) Æ) (m:D6 X.env.scope x:=by first | exact Or.inl rfl | exact Or.inr (Or.inl rfl) | exact Or.inr (Or.inr rfl)) (hd:autoParam ((x==("__debug__" :Str))=false) Ñ)
 (f:autoParam ((x==("__classdict__" :Str))=false) Ñ):EM X (.Name x pos) (eV i):=by
 unhygienic
  exact PE.imp (Dj n m hd f) fun p H Q j=>by
   obtain⟨g,l,h,d,u,S,L,e,k⟩:=j;unfold eV at e;split at e
   . rename_i y q;cases e;obtain⟨v,o,r⟩:=L.val i _ q;exact⟨v,o,k g v H r S (vc.refl _ _)⟩
   . cases e
def lv (m:Gl X x) (j:X.mg x=ε u) (r:ve v u) (i:∀H f,T3 X.K H f d v) (hd:autoParam ((x==("__debug__" :Str))=false) Ñ):EM X (.Name x pos) (eC d):=by unhygienic exact PE.imp (ir m j r hd) fun n H Q g=>by obtain⟨f,l,h,p,o,S,L,e,k⟩:=g;cases e;exact k f v H (i H f) S (vc.refl _ _)
def nA{e d:Type}{o:Oo e}{f:e->Oo d}{b:d}(h:o.bind f=ε b):∃a,o=ε a/\f a=ε b:=by
 cases o with
 | none=>cases h
 | some a=>exact⟨a,rfl,h⟩
def vA(B:OM X (binaryOp op) o)(D:EM X a fa)(C:EM X b fb):EM X (.BinOp a op b pos) (e2 o fa fb):=by
 unhygienic
  exact PE.imp (nU B D C) fun O H Q u=>by
   obtain⟨r,l,h,d,E,S,L,e,k⟩:=u;obtain⟨⟨n,j⟩,F,e⟩:=nA e;obtain⟨⟨m,i⟩,e2,e⟩:=nA e;exact⟨r,l,h,n,j,S,L,F,fun g x R M J q=>⟨g,l,j,m,i,J,L.ext q,e2,fun f y P R2 I p=>
    ⟨f,i,n,m,d,E,I,T3.ext p _ M,R2,e,k.ext (q.trans p)⟩⟩⟩
def mG(B:OM X (compareOp op) o)(E:EM X a fa)(D:EM X b fb)(C:behindInMarks op b=false:=by first | exact P3 _ | unhygienic rfl):EM X (.Compare a [op] [b] pos) (e2 o fa fb):=by
 unhygienic
  exact PE.imp (ka B E D C) fun P H Q u=>by
   obtain⟨r,l,h,d,F,S,L,e,k⟩:=u;obtain⟨⟨n,j⟩,I,e⟩:=nA e;obtain⟨⟨m,i⟩,e2,e⟩:=nA e;exact⟨r,l,h,n,j,S,L,I,fun g x T O M q=>⟨g,l,j,m,i,M,L.ext q,e2,fun f y R R2 J p=>
    ⟨f,i,n,m,d,F,J,T3.ext p _ O,R2,e,k.ext (q.trans p)⟩⟩⟩
noncomputable def vi(f:RE):RT:=fun l h=>(f l h).bind fun r=>match r.1 with | .bl b=>ε (b,r.2) | _=>none
def MA(E:OM X (compareOp op) o)(J:EM X a fa)(I:EM X b fb)(F:behindInMarks op b=false:=by first | exact P3 _ | unhygienic rfl):TM X (.Compare a [op] [b] pos) (vi (e2 o fa fb)):=by
 unhygienic
  exact PT.imp (ke E J I F) fun σ H Q D=>by
   obtain⟨C,l,h,P,h',S,L,e,k⟩:=D;obtain⟨⟨d,M⟩,f,e⟩:=nA e;obtain⟨⟨r,n⟩,O,f⟩:=nA f;obtain⟨⟨p,m⟩,e2,f⟩:=nA f;refine⟨C,l,h,r,n,S,L,O,fun j x H1 Y U B=>⟨j,l,n,p,m,U,L.ext B,e2,fun i y H2 R2 T u=>
    ⟨i,m,r,p,d,M,T,T3.ext u _ Y,R2,f,fun g v Z W R E3=>?_⟩⟩⟩
   cases d with
   | bl q=>cases e;exact⟨P,Za.mp W,k g Z R (B.trans (u.trans E3))⟩
   | _=>cases e
def XD(h:EM X e f)(he:autoParam (∀g,isTrue e X.env g=(do let v <- g;standAt e.pos;holding [v] (truthy v))) Ø):TM X e (vi f):=by
 unhygienic
  exact PT.imp (Oj h he) fun B H Q m=>by
   obtain⟨j,l,h,p,C,S,L,e,k⟩:=m;obtain⟨⟨d,n⟩,o,e⟩:=nA e;refine⟨j,l,h,d,n,S,L,o,fun i v x u r y=>?_⟩;cases d with
   | bl q=>cases e;exact⟨p,Za.mp u,k i x r y⟩
   | _=>cases e
noncomputable def LM(o d:qD)(fa fb s:RE):RE:=fun l h=>(fa l h).bind fun r=>(fb l r.2).bind fun q=>(o r.1 q.1 q.2).bind fun z=>match z.1 with
 | .bl true=>(s l z.2).bind fun y=>d q.1 y.1 y.2
 | .bl false=>ε (.bl false,z.2)
 | _=>none
def Pg(h:tM X.K (LM r C fa fb s) B H Q):M3 (rM X.K r) (rM X.K C) (tM X.K fa) (tM X.K fb) (tM X.K s) B H Q:=by
 obtain⟨T,l,h,d,U,S,L,e,k⟩:=h;obtain⟨⟨O,I⟩,Z,e⟩:=nA e;obtain⟨⟨p,F⟩,e2,e⟩:=nA e;obtain⟨⟨M,E⟩,Y,e⟩:=nA e;refine⟨T,l,h,O,I,S,L,Z,fun o x H1 R1 S1 j=>⟨o,l,I,p,F,S1,L.ext j,e2,fun n y H2 R2 S2 i=>
  ⟨n,F,O,p,M,E,S2,T3.ext i _ R1,R2,Y,fun f v H3 R3 P g=>?_⟩⟩⟩
 cases M with
 | bl q=>
  refine⟨q,Za.mp R3,?_⟩;cases q with
  | true=>dsimp only at e;obtain⟨⟨J,D⟩,W,e⟩:=nA e;refine DH ⟨f,l,E,J,D,P,(L.ext (j.trans (i.trans g))),W,fun m u H4 R4 S4 R=>⟨m,D,p,J,d,U,S4,T3.ext (g.trans R) _ R2,R4,e,k.ext (j.trans (i.trans (g.trans R)))⟩⟩
  | false=>cases e;exact BH (k f _ H3 (Za.mpr rfl) P (j.trans (i.trans g)))
 | _=>cases e
def Yc(g:OM X (compareOp op) r)(e:OM X (compareOp d) f)(m:EM X a fa)(k:EM X b fb)(j:EM X c s)
 (i:lastMarks [op,d] [b,c]=false:=by unhygienic rfl):EM X (.Compare a [op,d] [b,c] pos) (LM r f fa fb s):=by
 unhygienic exact PE.imp (Jl g e m k j i) fun q q q h=>Pg h
noncomputable def tH(t u:RT):RT:=fun l h=>(t l h).bind fun r=>if r.1=true then u l r.2 else ε (false,r.2)
noncomputable def yC(t u:RT):RT:=fun l h=>(t l h).bind fun r=>if r.1=true then ε (true,r.2)else u l r.2
noncomputable def qE(t:RT):RT:=fun l h=>(t l h).bind fun r=>ε (!r.1,r.2)
variable{m n:RT}{rest:Oe Pa}
def WM.tm(h:WM X e f):TM X e f:=by unhygienic exact PW.pt h
def kK(d:TM X a m):WM X (.BoolOp .And [a] pos) m:=by unhygienic exact i5 d
def GG(d:TM X a m):WM X (.BoolOp .Or [a] pos) m:=by unhygienic exact Rj d
def rK(r:TM X a m)(q:WM X (.BoolOp .And (b::rest) pos) n):WM X (.BoolOp .And (a::b::rest) pos) (tH m n):=by
 unhygienic
  exact PW.imp (Pj r q) fun C H Q p=>by
   obtain⟨o,l,h,y,u,S,L,e,k⟩:=p;obtain⟨⟨i,g⟩,x,e⟩:=nA e;refine⟨o,l,h,i,g,S,L,x,fun d B j f=>?_⟩;cases i with
   | true=>rw[dz rfl]at e;exact DH ⟨d,l,g,y,u,j,L.ext f,e,k.ext f⟩
   | false=>rw[eG Vu]at e;cases e;exact BH (k d B j f)
def TD(r:TM X a m)(q:WM X (.BoolOp .Or (b::rest) pos) n):WM X (.BoolOp .Or (a::b::rest) pos) (yC m n):=by
 unhygienic
  exact PW.imp (Xx r q) fun C H Q p=>by
   obtain⟨o,l,h,y,u,S,L,e,k⟩:=p;obtain⟨⟨i,g⟩,x,e⟩:=nA e;refine⟨o,l,h,i,g,S,L,x,fun d B j f=>?_⟩;cases i with
   | true=>rw[dz rfl]at e;cases e;exact DH (k d B j f)
   | false=>rw[eG Vu]at e;exact BH ⟨d,l,g,y,u,j,L.ext f,e,k.ext f⟩
def QF(i:TM X a m):TM X (.UnaryOp .Not a pos) (qE m):=by unhygienic exact PT.imp (Nj i) fun x H Q g=>by obtain⟨f,l,h,B,y,S,L,e,k⟩:=g;obtain⟨⟨p,j⟩,o,e⟩:=nA e;cases e;exact⟨f,l,h,p,j,S,L,o,fun d r q u=>k d r q u⟩
noncomputable def ZD(t u:RE):RE:=fun l h=>(t l h).bind fun r=>match r.1 with | .bl true=>u l r.2 | .bl false=>ε (.bl false,r.2) | _=>none
noncomputable def JN(t:RE):RE:=fun l h=>(t l h).bind fun r=>match r.1 with | .bl b=>ε (.bl (!b),r.2) | _=>none
def aJ{op}(h:EM X a fa):EM X (.BoolOp op [a] pos) fa:=by unhygienic exact Bj h
def aI(x:EM X a fa)(u:EM X (.BoolOp .And (b::rest) pos) fb):EM X (.BoolOp .And (a::b::rest) pos) (ZD fa fb):=by
 unhygienic
  exact PE.imp (Nq x u) fun E H Q r=>by
   obtain⟨p,l,h,d,y,S,L,e,k⟩:=r;obtain⟨⟨j,i⟩,B,e⟩:=nA e;refine⟨p,l,h,j,i,S,L,B,fun f v D C o g=>?_⟩;cases j with
   | bl q=>
    refine⟨q,Za.mp C,?_⟩;cases q with
    | true=>exact DH ⟨f,l,i,d,y,o,L.ext g,e,k.ext g⟩
    | false=>cases e;exact BH (k f _ D (Za.mpr rfl) o g)
   | _=>cases e
def e9(o:EM X a fa):EM X (.UnaryOp .Not a pos) (JN fa):=by
 unhygienic
  exact PE.imp (Aj o) fun C H Q j=>by
   obtain⟨i,l,h,d,D,S,L,e,k⟩:=j;obtain⟨⟨g,p⟩,r,e⟩:=nA e;refine⟨i,l,h,g,p,S,L,r,fun f v y x u B=>?_⟩;cases g with
   | bl q=>cases e;exact⟨q,Za.mp x,k f _ y (Za.mpr rfl) u B⟩
   | _=>cases e
noncomputable def WQ(t:RT)(f g:RE):RE:=fun l h=>(t l h).bind fun r=>if r.1=true then f l r.2 else g l r.2
def aQ(u:TM X c m)(y:EM X a fa)(x:EM X b fb):EM X (.IfExp c a b pos) (WQ m fa fb):=by
 unhygienic
  exact PE.imp (Ol u y x) fun C H Q r=>by
   obtain⟨q,l,h,d,j,S,L,e,k⟩:=r;obtain⟨⟨o,i⟩,B,e⟩:=nA e;refine⟨q,l,h,o,i,S,L,B,fun f D p g=>?_⟩;cases o with
   | true=>rw[dz rfl]at e;exact DH ⟨f,l,i,d,j,p,L.ext g,e,k.ext g⟩
   | false=>rw[eG Vu]at e;exact BH ⟨f,l,i,d,j,p,L.ext g,e,k.ext g⟩
def vF:AM X [] dA:=by unhygienic exact PA.imp cD fun g H Q f=>by obtain⟨d,l,h,ds,i,S,L,e,k⟩:=f;cases e;exact k d [] H .nil S (vc.refl _ _)
def DE(C:EM X e f)(B:AM X j g)(hs:autoParam (ZA e=true) Æ):AM X (e::j) (bA f g):=by unhygienic exact PA.imp (mC C B (fB hs j X.env)) fun P H Q y=>by obtain⟨u,l,h,ds,T,S,L,e,k⟩:=y;obtain⟨⟨F,p⟩,E,e⟩:=nA e;obtain⟨⟨o,D⟩,e2,e⟩:=nA e;cases e;exact⟨u,l,h,F,p,S,L,E,fun i x U M J r=>⟨i,l,p,o,D,J,L.ext r,e2,fun d R O R2 I q=>k d _ O (.cons (T3.ext q _ M) R2) I (r.trans q)⟩⟩
noncomputable def SA(g:RA):RE:=fun l h=>(g l h).bind fun r=>if r.1.length<=sizeLine then ε (.tup r.1,r.2)else none
noncomputable def DC(g:RA):RE:=fun l h=>(g l h).bind fun r=>if r.1.length<=sizeLine then ε (.lst r.1,r.2)else none
noncomputable def nF(g:RA):RE:=fun l h=>(g l h).bind fun r=>if r.1.length<=sizeLine then ε (.ref r.2.length,r.2++[.lst r.1])else none
def UI{K:Pb}(S:Ve K ρ h H)(R:Ti K H ρ ds vs)(hp:H p=none):T3 K (pB H p (.tup vs)) ρ (.tup ds) (.ref p):=
 ai.mpr ⟨p,vs,rfl,.inl ⟨S.out hp,.inl oC⟩,R.ext (vc.fresh hp)⟩
def mK{K:Pb}(S:Ve K ρ h H)(R:Ti K H ρ ds vs)(hp:H p=none):T3 K (pB H p (.lst vs)) ρ (.lst ds) (.ref p):=
 br.mpr ⟨p,vs,rfl,.inl ⟨S.out hp,.inl oC⟩,R.ext (vc.fresh hp)⟩
def bI{K:Pb}(S:Ve K ρ h H)(R:Ti K H ρ ds vs)(hp:H p=none) :
 T3 K (pB H p (.lst vs)) (ρ.add p) (.ref h.length) (.ref p)/\Ve K (ρ.add p) (h++[.lst ds]) (pB H p (.lst vs)):=by
 refine⟨ad.mpr ⟨p,rfl,?_⟩,S.own hp ⟨vs,oC,R.ext (vc.own hp)⟩⟩;simp![Rg.add];rw[<- S.len,Zu (Us _),Di];rfl
def EF{e:Type}{c:Prop}[Decidable c]{a b:e}(h:(if c then ε a else none)=ε b):c/\a=b:=by
 by_cases d:c
 . rw[dz d]at h;exact⟨d,ou h⟩
 . rw[eG d]at h;cases h
def YA{x1}(h:AM X i g):EM X (.Tuple i x1 pos) (SA g):=by unhygienic exact PE.imp (o4 h) fun C H Q r=>by obtain⟨q,l,h,d,E,S,L,e,k⟩:=r;obtain⟨⟨ds,x⟩,y,e⟩:=nA e;obtain⟨u,e⟩:=EF e;cases e;exact⟨q,l,h,ds,x,S,L,y,fun f D F o j B=>⟨by rw[o.length];exact u,fun p hp=>k f _ _ (UI j o hp) (j.fresh hp) (B.trans (vc.fresh hp))⟩⟩
def KE(h:AM X i g):EM X (.List i pos) (DC g):=by unhygienic exact PE.imp (JP h) fun C H Q r=>by obtain⟨q,l,h,d,E,S,L,e,k⟩:=r;obtain⟨⟨ds,x⟩,y,e⟩:=nA e;obtain⟨u,e⟩:=EF e;cases e;exact⟨q,l,h,ds,x,S,L,y,fun f D F o j B=>⟨by rw[o.length];exact u,fun p hp=>k f _ _ (mK j o hp) (j.fresh hp) (B.trans (vc.fresh hp))⟩⟩
def EG(h:AM X i g):EM X (.List i pos) (nF g):=by unhygienic exact PE.imp (JP h) fun C H Q r=>by obtain⟨q,l,h,d,E,S,L,e,k⟩:=r;obtain⟨⟨ds,x⟩,y,e⟩:=nA e;obtain⟨u,e⟩:=EF e;cases e;exact⟨q,l,h,ds,x,S,L,y,fun o D F f j B=>⟨by rw[f.length];exact u,fun p hp=>k _ _ _ (bI j f hp).1 (bI j f hp).2 (B.trans (vc.own hp))⟩⟩
end
noncomputable def oI(C:Int->Int->Prop)[∀i j,Decidable (C i j)](g:Int->Int->Dt):qD:=fun a b h=>match a,b with
 | .int i,.int j=>if C i j then ε (g i j,h)else none
 | _,_=>none
noncomputable def MK(g:Int->Int->Dt):qD:=fun a b h=>match a,b with
 | .int i,.int j=>ε (g i j,h)
 | _,_=>none
instance:∀i j,Decidable (OK i j):=fun i j=>by unfold OK;infer_instance
instance:∀i j,Decidable (de i j):=fun i j=>by unfold de;infer_instance
instance:∀i j,Decidable (pJ i j):=fun i j=>by unfold pJ;infer_instance
noncomputable def vD:Dt->Oo V
 | .non=>ε .non
 | .bl b=>ε (.bl b)
 | .int i=>ε (.int i)
 | .str x=>ε (.str x)
 | _=>none
def ZY{K:Pb}(e:vD d=ε v):T3 K H ρ d v:=by cases d<;>simp![vD]at e<;>first | (cases e;simp![T3]) | cases e
def YJ{K:Pb}(e:vD d=ε v)(r:T3 K H ρ d u):u=v:=by cases d<;>simp![vD]at e<;>first | (cases e;simpa only[T3]using r) | cases e
section
variable{X:Cx}
set_option tactic.hygienic true in
theorem bL[∀i j,Decidable (C i j)](m:vu X f (rI C g'))(n:∀i j,vD (g i j)=ε (g' i j)):OM X f (oI C g):=by
 unhygienic
  exact vu.imp m fun x y H Q b=>by
   obtain⟨a,h,s,r,d,q,S,p,R2,e,k⟩:=b;unfold oI at e;split at e
   . rename_i i j;obtain⟨o,e⟩:=EF e;cases e;exact⟨i,j,Xa.mp p,Xa.mp R2,o,k a _ H (ZY (n i j)) S (vc.refl _ _)⟩
   . cases e
set_option tactic.hygienic true in
theorem oH(m:vu X f (NK g'))(n:∀i j,vD (g i j)=ε (g' i j)):OM X f (MK g):=by
 unhygienic
  exact vu.imp m fun x y H Q b=>by
   obtain⟨a,h,r,q,d,p,S,o,R2,e,k⟩:=b;unfold MK at e;split at e
   . rename_i i j;cases e;exact⟨i,j,Xa.mp o,Xa.mp R2,k a _ H (ZY (n i j)) S (vc.refl _ _)⟩
   . cases e
def dC:qD:=MK fun i j=>.int (i+j)
def zE:qD:=MK fun i j=>.int (i-j)
def KC:qD:=oI de fun i j=>.int (i*j)
def HF:qD:=oI OK fun i j=>.int (i/j)
def aD:qD:=oI (fun _ j=>0<j) fun i j=>.int (i%j)
def GH:qD:=oI pJ fun i j=>.int (i*2^j.toNat)
def uI:qD:=oI (fun _ j=>0<=j) fun i j=>.int (i/2^j.toNat)
def KG:qD:=MK fun i j=>.int (Builtin.bitAnd i j)
def NQ:qD:=MK fun i j=>.int (Builtin.bitOr i j)
def aL:qD:=MK fun i j=>.int (Builtin.bitXor i j)
def tI:qD:=MK fun i j=>.bl (decide (i<j))
def N6:qD:=MK fun i j=>.bl (decide (i<=j))
def OQ:qD:=MK fun i j=>.bl (decide (j<i))
def DU:qD:=MK fun i j=>.bl (decide (j<=i))
def EC:OM X (binaryOp .Add) dC:=by unhygienic exact oH zq fun q q=>rfl
def oG:OM X (binaryOp .Sub) zE:=by unhygienic exact oH Hq fun q q=>rfl
def UD:OM X (binaryOp .Mult) KC:=by unhygienic exact bL Dq fun q q=>rfl
def cI:OM X (binaryOp .FloorDiv) HF:=by unhygienic exact bL j3 fun q q=>rfl
def AD:OM X (binaryOp .Mod) aD:=by unhygienic exact bL Cq fun q q=>rfl
def FM:OM X (binaryOp .LShift) GH:=by unhygienic exact bL Fq fun q q=>rfl
def IP:OM X (binaryOp .RShift) uI:=by unhygienic exact bL Gq fun q q=>rfl
def UH:OM X (binaryOp .BitAnd) KG:=by unhygienic exact oH Aq fun q q=>rfl
def xq:OM X (binaryOp .BitOr) NQ:=by unhygienic exact oH Sx fun q q=>rfl
def zT:OM X (binaryOp .BitXor) aL:=by unhygienic exact oH Jq fun q q=>rfl
def pH:OM X (compareOp .Lt) tI:=by unhygienic exact oH Px fun q q=>rfl
def F5:OM X (compareOp .LtE) N6:=by unhygienic exact oH Ox fun q q=>rfl
def YM:OM X (compareOp .Gt) OQ:=by unhygienic exact oH Nx fun q q=>rfl
def mU:OM X (compareOp .GtE) DU:=by unhygienic exact oH Mx fun q q=>rfl
def M6:qD:=fun a b h=>match vD a,vD b with
 | some x,some y=>if CN x y=true then ε (.bl (decide (x=y)),h)else none
 | _,_=>none
def T6:qD:=fun a b h=>match vD a,vD b with
 | some x,some y=>if CN x y=true then ε (.bl (!decide (x=y)),h)else none
 | _,_=>none
set_option tactic.hygienic true in
theorem Z4:OM X (compareOp .Eq) M6:=by
 unhygienic
  exact vu.imp Lx fun x y H Q b=>by
   obtain⟨a,h,n,m,d,j,S,i,R2,e,k⟩:=b;unfold M6 at e;split at e
   . rename_i u v g e2;obtain⟨f,e⟩:=EF e;cases e;rw[YJ g i,YJ e2 R2];exact⟨f,k a _ H (Za.mpr rfl) S (vc.refl _ _)⟩
   . cases e
set_option tactic.hygienic true in
theorem J5:OM X (compareOp .NotEq) T6:=by
 unhygienic
  exact vu.imp Rx fun x y H Q b=>by
   obtain⟨a,h,n,m,d,j,S,i,R2,e,k⟩:=b;unfold T6 at e;split at e
   . rename_i u v g e2;obtain⟨f,e⟩:=EF e;cases e;rw[YJ g i,YJ e2 R2];exact⟨f,k a _ H (Za.mpr rfl) S (vc.refl _ _)⟩
   . cases e
noncomputable def lJ:Dt->Bool
 | .non=>true
 | _=>false
def yE:qD:=fun a b h=>match b with
 | .non=>ε (.bl (lJ a),h)
 | _=>none
def Ac{K:Pb}(r:T3 K H ρ d v):decide (v=.non)=lJ d:=by
 cases d with
 | non=>have e:=bv.mp r;subst e;rfl
 | bl b=>have e:=Za.mp r;subst e;rfl
 | int i=>have e:=Xa.mp r;subst e;rfl
 | str x=>have e:=cn.mp r;subst e;rfl
 | tup f=>obtain⟨a,g,e,_⟩:=ai.mp r;subst e;rfl
 | lst f=>obtain⟨a,g,e,_⟩:=br.mp r;subst e;rfl
 | ref n=>obtain⟨a,e,_⟩:=ad.mp r;subst e;rfl
 | ntp n=>obtain⟨a,e,_⟩:=dq.mp r;subst e;rfl
def nK:OM X (compareOp .Is) yE:=by
 unhygienic
  exact vu.imp Bq fun x y H Q b=>by
   obtain⟨a,h,j,i,d,g,S,f,R2,e,k⟩:=b;unfold yE at e;split at e
   . cases e;exact⟨bv.mp R2,k a _ H (Za.mpr (by rw[Ac f])) S (vc.refl _ _)⟩
   . cases e
noncomputable def fD(f:RE):RE:=fun l h=>(f l h).bind fun r=>match r.1 with | .int i=>ε (.int (-i),r.2) | _=>none
def mH(m:EM X a fa):EM X (.UnaryOp .USub a pos) (fD fa):=by
 unhygienic
  exact PE.imp (K5 Fz m) fun u H Q j=>by
   obtain⟨g,l,h,d,y,S,L,e,k⟩:=j;obtain⟨⟨f,n⟩,o,e⟩:=nA e;refine⟨g,l,h,f,n,S,L,o,fun b x r q p s=>?_⟩;cases f with
   | int i=>cases e;exact⟨i,Xa.mp q,k b _ r (Xa.mpr rfl) p s⟩
   | _=>cases e
end
noncomputable def BA(h:HI):Dt->Oo (Oe Dt)
 | .lst a=>ε a
 | .ref n=>match h[n]? with | some (.lst a)=>ε a | _=>none
 | _=>none
def sD(h:HI):Dt->Oo (Oe Dt)
 | .tup a=>ε a
 | d=>BA h d
set_option tactic.hygienic true in
theorem zC{K:Pb}(S:Ve K ρ h H)(R:T3 K H ρ d v)(e:BA h d=ε xs):∃a vs,v=.ref a/\vn K H a vs/\Ti K H ρ xs vs:=by
 cases d with
 | lst b=>cases e;obtain⟨a,vs,e,q,r⟩:=br.mp R;exact⟨a,vs,e,q.sq,r⟩
 | ref n=>
  simp![BA]at e;split at e
  . rename_i b q;cases e;obtain⟨a,rfl,f⟩:=ad.mp R;obtain⟨vs,i,g⟩:=S.lst f q;exact⟨a,vs,rfl,vn.of i,g⟩
  . cases e
 | _=>simp![BA]at e<;>cases e
def zP{K:Pb}(S:Ve K ρ h H)(R:T3 K H ρ d v)(e:sD h d=ε xs):∃a vs,v=.ref a/\(vn K H a vs\/LG K H a vs)/\Ti K H ρ xs vs:=by
 cases d with
 | tup b=>cases e;obtain⟨a,vs,e,q,r⟩:=ai.mp R;exact⟨a,vs,e,.inr q.sq,r⟩
 | lst b=>obtain⟨a,vs,e,q,r⟩:=zC S R (show BA h (.lst b)=ε xs from e);exact⟨a,vs,e,.inl q,r⟩
 | ref n=>obtain⟨a,vs,e,q,r⟩:=zC S R (show BA h (.ref n)=ε xs from e);exact⟨a,vs,e,.inl q,r⟩
 | _=>cases e
def Ti.atI{K:Pb}(r:Ti K H ρ ds vs)(e:L2.atI ds i=ε d):∃v,L2.atI vs i=ε v/\T3 K H ρ d v:=by
 unfold L2.atI at e ⊢;rw[r.length];cases q:sI ds.length i with
 | none=>rw[q]at e;cases e
 | some j=>rw[q]at e;exact r.get e
def kA:qD:=fun a b h=>match b with
 | .int i=>match a with
  | .str z=>if z.length<=sizeLine then(L2.atI z.cps.toList i).map fun c=>(.str ⟨#[c]⟩,h)else none
  | _=>(sD h a).bind fun e=>(L2.atI e i).map fun d=>(d,h)
 | _=>none
section
variable{X:Cx}{a b c:Pa}{fa fb fc:RE}{pos:Pos}
set_option tactic.hygienic true in
theorem lx(h:rM X.K kA x y H Q):rIx X.K x y H Q:=by
 obtain⟨f,h,D,C,d,B,S,m,R2,e,k⟩:=h;unfold kA at e;split at e
 . rename_i i;have g:=Xa.mp R2;split at e
   . rename_i z;split at e
     . rename_i o;cases q:L2.atI z.cps.toList i with
       | none=>rw[q]at e;cases e
       | some c=>rw[q]at e;cases e;exact .inr (.inr ⟨z,i,c,cn.mp m,g,o,q,k f _ H (cn.mpr rfl) S (vc.refl _ _)⟩)
     . cases e
   . obtain⟨n,s,e⟩:=nA e;cases q:L2.atI n i with
     | none=>rw[q]at e;cases e
     | some u=>
      rw[q]at e;cases e;obtain⟨p,j,e2,sq,r⟩:=zP S m s;obtain⟨v,q1,q2⟩:=r.atI q;rcases sq with sq | sq
      . exact .inl ⟨p,j,i,v,e2,g,sq,q1,k f _ H q2 S (vc.refl _ _)⟩
      . exact .inr (.inl ⟨p,j,i,v,e2,g,sq,q1,k f _ H q2 S (vc.refl _ _)⟩)
 . cases e
def fA(u:EM X a fa)(s:EM X b fb)(hs:vZ b:=by intro _ _;rfl):EM X (.Subscript a b pos) (e2 kA fa fb):=by
 unhygienic
  exact PE.imp (Vx F8 u s hs) fun I H Q r=>by
   obtain⟨q,l,h,d,B,S,L,e,k⟩:=r;obtain⟨⟨n,j⟩,C,e⟩:=nA e;obtain⟨⟨m,i⟩,e2,e⟩:=nA e;exact⟨q,l,h,n,j,S,L,C,fun g x M F E p=>⟨g,l,j,m,i,E,L.ext p,e2,fun f y J R2 D o=>
    lx ⟨f,i,n,m,d,B,D,T3.ext o _ F,R2,e,k.ext (p.trans o)⟩⟩⟩
end
noncomputable def VA:RS:=fun l h=>ε (.nx l h)
noncomputable def jA(f g:RS):RS:=fun l h=>(f l h).bind fun r=>match r with | .nx a b=>g a b | r=>ε r
noncomputable def CA(i:Nat)(f:RE):RS:=fun l h=>(f l h).bind fun r=>ε (.nx (l.set i (ε r.1)) r.2)
noncomputable def yD(f:RE):RS:=fun l h=>(f l h).bind fun r=>ε (.nx l r.2)
noncomputable def wA(f:RE):RS:=fun l h=>(f l h).bind fun r=>ε (.rt r.1 r.2)
noncomputable def WB(t:RT)(f g:RS):RS:=fun l h=>(t l h).bind fun r=>if r.1=true then f l r.2 else g l r.2
section
variable{X:Cx}{st:Ra}{rest:Oe Ra}{e:Pa}{f:RE}{t u:RS}{c:RT}{pos:Pos}
def jB:iI X [] VA:=by unhygienic exact PSs.imp ja fun D a H d=>by obtain⟨b,l,h,r,S,L,e,k⟩:=d;cases e;exact k b a H S L (vc.refl _ _)
def lA(h1:ZM X st t)(h2:iI X rest u):iI X (st::rest) (jA t u):=by
 unhygienic
  exact PSs.imp (Bp h1 h2) fun D x H n=>by
   obtain⟨m,l,h,r,S,L,e,k⟩:=n;obtain⟨i,o,e⟩:=nA e;refine⟨m,l,h,i,S,L,o,?_⟩;cases i with
   | nx g a=>exact fun b j y p q s=>⟨b,g,a,r,p,q,e,k.ext s⟩
   | rt d a=>cases e;exact k
   | bk g a=>cases e;exact k
   | ct g a=>cases e;exact k
def oA(h1:ZM X st t):iI X [st] t:=by unhygienic exact jb h1
def fE(he:EM X e f)(hs:autoParam (swapsWith e none pos.line X.env=pure false) Æ):ZM X (.Expr e pos) (yD f):=by unhygienic exact PS.imp (jn he hs) fun D d H i=>by obtain⟨g,l,h,r,S,L,e,k⟩:=i;obtain⟨⟨n,j⟩,m,e⟩:=nA e;cases e;exact⟨g,l,h,n,j,S,L,m,fun a v p q o b=>k a d p o (L.ext b) b⟩
def yA(he:EM X e f):ZM X (.Return (ε e) pos) (wA f):=by unhygienic exact PS.imp (Lj he) fun D j H b=>by obtain⟨a,l,h,r,S,L,e,k⟩:=b;obtain⟨⟨i,d⟩,g,e⟩:=nA e;cases e;exact⟨a,l,h,i,d,S,L,g,k⟩
def iB(q:TM X b c)(x:iI X j t)(s:iI X d u):ZM X (.If b j d pos) (WB c t u):=by
 unhygienic
  exact PS.imp (Wx q x s) fun D B H p=>by
   obtain⟨o,l,h,r,S,L,e,k⟩:=p;obtain⟨⟨m,i⟩,y,e⟩:=nA e;refine⟨o,l,h,m,i,S,L,y,fun a C n g=>?_⟩;cases m with
   | true=>rw[dz rfl]at e;exact DH ⟨a,l,i,r,n,L.ext g,e,k.ext g⟩
   | false=>rw[eG Vu]at e;exact BH ⟨a,l,i,r,n,L.ext g,e,k.ext g⟩
def KA(i)(p:X.N.Nodup)(he:EM X e f)(n:autoParam (X.N[i]?=ε x) Æ)(m:autoParam (sN X.env.scope x) ö)
 (hs:autoParam (swapsWith e (ε (.Name x a)) pos.line X.env=pure false) Æ) (o:autoParam (X.fn x=true\/X.env.scope.names.lookup x=ε .local) ð) :
 ZM X (.Assign [.Name x a] e pos) (CA i f):=by
 unhygienic exact PS.imp (Mj p n m he hs o) fun D F H j=>by obtain⟨g,l,h,r,S,L,e,k⟩:=j;obtain⟨⟨y,q⟩,s,e⟩:=nA e;cases e;exact⟨g,l,h,y,q,S,L,s,fun b v E C B d=>k b _ E B ((L.ext d).set i C) d⟩
end
inductive vj where
 | vals (xs:List Dt)
 | rf (n:Nat)
 | zp (a b:Dt)
 | it (n:Nat)
 | en (n:Nat)
def vj.at(s:vj)(h:HI)(i:Nat):Oo (Oo Dt):=match s with
 | .vals d=>ε d[i]?
 | .rf n=>match h[n]? with | some (.lst d)=>ε d[i]? | _=>none
 | .zp a b=>match BA h a,BA h b with
  | some d,some ys=>ε (match d[i]?,ys[i]? with | some x,some y=>ε (.tup [x,y]) | _,_=>none)
  | _,_=>none
 | .it n=>match h[n]? with | some (.df kvs)=>ε (kvs[i]?.map fun p=>.tup [.tup (p.1.map Dt.int),p.2]) | _=>none
 | .en n=>match h[n]? with | some (.lst d)=>ε (d[i]?.map fun x=>.tup [.int (i:Int),x]) | _=>none
def vj.fuel(s:vj)(h:HI):Nat:=match s with
 | .vals b=>b.length+1
 | .rf n=>match h[n]? with | some (.lst b)=>b.length+1 | _=>0
 | .zp a _=>match BA h a with | some b=>b.length+1 | _=>0
 | .it n=>match h[n]? with | some (.df kvs)=>kvs.length+1 | _=>0
 | .en n=>match h[n]? with | some (.lst b)=>b.length+1 | _=>0
abbrev RI:=LI->HI->Oo (vj×HI)
def D5(K:Pb)(H:Hp)(ρ:Rg)(s:vj)(J:It):Prop:=
 ∀b a f,ay ρ a H b->Ve K a f b->∀i:Nat,match s.at f i with
  | none=>True
  | some none=>J.stop i b
  | some (some d)=>J.go i b/\∀v e,J.yld i b v e->T3 K e a d v/\vc a a b e/\Ve K a f e
inductive iM(K:Frag)(g:RI)(σ:L2.St)(H:Hp)(R:It->Hp->Prop):Prop where
 | mk (ρ:Rg) (l:LI) (h:HI) (s:vj) (h':HI) (S:Ve K ρ h H) (L:Yi K H ρ l σ) (e:g l h=ε (s,h')) (k:∀ρ' J H',D5 K H' ρ' s J->Ve K ρ' h' H'->vc ρ ρ' H H'->R J H')
@[irreducible] def IM(X:Cx)(b a:Pa)(g:RI):Prop:=PI X b a (iM X.K g)
def PI.imp(h:PI X d e t)(i:∀a H Q,t' a H Q->t a H Q):PI X d e t':=fun b s a H Q I q=>h b s a H Q I (i a H Q q)
abbrev RG:=Dt->LI->Oo LI
inductive gM(K:Frag)(g:RG)(v:V)(σ:L2.St)(H:Hp)(Q:L2.St->Hp->Prop):Prop where
 | mk (ρ:Rg) (l:LI) (h:HI) (d:Dt) (l':LI) (S:Ve K ρ h H) (L:Yi K H ρ l σ) (r:T3 K H ρ d v) (e:g d l=ε l') (k:∀σ',Yi K H ρ l' σ'->Q σ' H)
@[irreducible] def GM(X:Cx)(a:Pa)(g:RG):Prop:=PG X a (gM X.K g)
def PG.imp(h:PG X e t)(i:∀v a H Q,t' v a H Q->t v a H Q):PG X e t':=fun b s a H v u Q I r q=>h b s a H v u Q I r (i v a H Q q)
noncomputable def uA(i:Nat):RG:=fun d l=>ε (l.set i (ε d))
def BB(e:RG)(body:RS)(s:vj):Nat->Nat->RS
 | 0,_,_,_=>none
 | k+1,i,l,h=>match s.at h i with
  | none=>none
  | some none=>ε (.nx l h)
  | some (some d)=>(e d l).bind fun f=>(body f h).bind fun r=>match r with
   | .nx b a=>BB e body s k (i+1) b a
   | .ct b a=>BB e body s k (i+1) b a
   | .bk b a=>ε (.nx b a)
   | .rt d a=>ε (.rt d a)
def jC(g:RI)(a:RG)(body:RS):RS:=fun l h=>(g l h).bind fun r=>BB a body r.1 (r.1.fuel r.2) 0 l r.2
section
variable{X:Cx}{w t:Pa}{pos:Pos}
def HC(i)(j:X.N.Nodup)(f:autoParam (X.N[i]?=ε x) Æ)(b:autoParam (sN X.env.scope x) ö)
 (g:autoParam (X.fn x=true\/X.env.scope.names.lookup x=ε .local) ð):GM X (.Name x pos) (uA i):=by
 unhygienic exact PG.imp (OS j f b g) fun v m H Q a=>by obtain⟨n,l,h,d,o,S,L,R,e,k⟩:=a;cases e;exact k _ (L.set i R)
noncomputable def uH(f:RE):RI:=fun l h=>(f l h).bind fun r=>match r.1 with | .int j=>if -(2^62)<=j/\j<2^62 then ε (.vals ((List.range j.toNat).map fun(k:Nat)=>Dt.int (k:Int)),r.2)else none | _=>none
noncomputable def OU(f g:RE):RI:=fun l h=>(f l h).bind fun r=>(g l r.2).bind fun q=>match r.1,q.1 with
 | .int i,.int j=>if -(2^62)<=i/\i<2^62/\-(2^62)<=j/\j<2^62 then ε (.vals ((List.range (j-i).toNat).map fun(k:Nat)=>Dt.int (i+(k:Int))),q.2)else none | _,_=>none
def dF (u:Gl X "range") (r:X.mg "range" =none) (x:EM X a f) (hs:autoParam (ZA a=true) Æ) :
 IM X w (.Call (.Name "range" p) [a] [] pos) (uH f):=by
 unhygienic
  exact PI.imp (Yd u r (mC x cD (fB hs _ _)) (fB hs _ _)) fun O H R o=>by
   obtain⟨n,l,h,s,Q,S,L,e,k⟩:=o;obtain⟨⟨g,y⟩,B,e⟩:=nA e;refine⟨n,l,h,g,y,S,L,B,fun d v J I F M=>?_⟩;cases g with
   | int j=>
    obtain⟨⟨D,C⟩,e⟩:=EF e;cases e;refine⟨j,by rw[Xa.mp I],D,C,k d _ J (fun U m P W E i=>?_) F M⟩;simp![vj.at,uq];by_cases b:i<j.toNat
    . rw[Ni b];refine⟨b,fun v T q=>?_⟩;obtain⟨rfl,rfl⟩:=q;exact⟨Xa.mpr ⋯,vc.refl _ _,E⟩
    . rw[ju (by simpa using Je.mp b)];exact Je.mp b
   | _=>cases e
def mY (J:Gl X "range") (I:X.mg "range" =none) (O:EM X a f) (M:EM X b g) (hs:autoParam (ZA a=true) Æ) (d:autoParam (ZA b=true) Æ) :
 IM X w (.Call (.Name "range" p) [a,b] [] pos) (OU f g):=by
 unhygienic
  exact PI.imp (Zd J I (mC O (mC M cD (fB d _ _)) (fB hs _ _)) (by rw[fB hs,fB d];rfl) (fB d _ _)) fun σ H R F=>by
   obtain⟨E,l,h,s,h',S,L,e,k⟩:=F;obtain⟨⟨B,x⟩,Q,e⟩:=nA e;obtain⟨⟨y,P⟩,e2,e⟩:=nA e;refine⟨E,l,h,B,x,S,L,Q,fun r v H1 Y W C=>⟨r,l,x,y,P,W,L.ext C,e2,fun o u Z R2 U E2=>?_⟩⟩;cases B with
   | int i=>
    cases y with
    | int j=>
     obtain⟨c,e⟩:=EF e;cases e;refine⟨i,j,by rw[Xa.mp Y,Xa.mp R2],c,k o _ Z (fun H3 D h3 E3 T n=>?_) U (C.trans E2)⟩;simp![vj.at,uq];by_cases m:n<(j-i).toNat
     . rw[Ni m];refine⟨m,fun v H4 q=>?_⟩;obtain⟨rfl,rfl⟩:=q;exact⟨Xa.mpr rfl,vc.refl _ _,T⟩
     . rw[ju (by simpa using Je.mp m)];exact Je.mp m
    | _=>cases e
   | _=>cases e
noncomputable def PU(f:RE):RI:=fun l h=>(f l h).bind fun r=>match r.1 with | .lst a=>ε (.vals a,r.2) | .ref n=>ε (.rf n,r.2) | _=>none
def FB(f:RE):RI:=fun l h=>(PU f l h).bind fun r=>if 0<r.1.fuel r.2 then ε r else none
theorem OB(x:EM X a f):IM X w a (FB f):=by
 unhygienic
  exact PI.imp (jv x) fun σ H R Z=>by
   obtain⟨Y,l,h,s,h',S,L,e,k⟩:=Z;obtain⟨⟨s1,h1⟩,e,I⟩:=nA e;obtain⟨E,I⟩:=EF I;cases I;obtain⟨⟨Q,F⟩,e1,e⟩:=nA e;refine⟨Y,l,h,Q,F,S,L,e1,fun j v U T J W=>?_⟩;cases Q with
   | lst O=>
    cases e;obtain⟨a,b,rfl,q,r⟩:=br.mp T;refine⟨a,rfl,⟨b,q.sq⟩,k j _ U (fun H2 C F B p i=>?_) J W⟩;have q2:=q.same B;have r2:=Ti.same B _ r;simp![vj.at];cases P:O[i]? with
    | none=>refine⟨b,q2.sq,?_⟩;rw[r.length];exact Ei.mp P
    | some d=>obtain⟨v,g,g2⟩:=r2.get P;refine⟨⟨b,v,q2.sq,g⟩,fun u H3 y=>?_⟩;obtain⟨rfl,y⟩:=y;have m:=y b q2.sq;rw[g]at m;cases m;exact⟨g2,vc.refl _ _,p⟩
   | ref n=>
    cases e;obtain⟨a,rfl,x⟩:=ad.mp T;simp![vj.fuel]at E;split at E
    . rename_i O q0;obtain⟨D,g0,_⟩:=J.lst x q0;refine⟨a,rfl,⟨D,vn.of g0⟩,k j _ U (fun H2 C F B p i=>?_) J W⟩;have o:=B.ix _ _ x;simp![vj.at];split
      . trivial
      . rename_i y;split at y
        . rename_i ys q2;obtain⟨b,g,r⟩:=p.lst o q2;refine⟨b,vn.of g,?_⟩;rw[r.length];exact Ei.mp (ou y)
        . cases y
      . rename_i d y;split at y
        . rename_i ys q2;obtain⟨b,g,r⟩:=p.lst o q2;obtain⟨v,M,z2⟩:=r.get (ou y);refine⟨⟨b,v,vn.of g,M⟩,fun u H3 y=>?_⟩;obtain⟨rfl,y⟩:=y;have m:=y b (vn.of g);rw[M]at m;cases m;exact⟨z2,vc.refl _ _,p⟩
        . cases y
    . exact Ea E nofun
   | _=>cases e
noncomputable def fQ(f:RE):RI:=fun l h=>(f l h).bind fun r=>match r.1 with | .tup a=>ε (.vals a,r.2) | _=>none
def u9(I:EM X a f):IM X w a (fQ f):=by
 unhygienic
  exact PI.imp (Gj I) fun U H R D=>by
   obtain⟨C,l,h,s,W,S,L,e,k⟩:=D;obtain⟨⟨p,m⟩,J,e⟩:=nA e;refine⟨C,l,h,p,m,S,L,J,fun g v Q P O T=>?_⟩;cases p with
   | tup E=>
    cases e;obtain⟨a,b,rfl,q,r⟩:=ai.mp P;refine⟨a,rfl,⟨b,q.sq⟩,k g _ Q (fun Z B m x M i=>?_) O T⟩;have q2:=q.same x;have F:=Ti.same x _ r;simp![vj.at];cases o:E[i]? with
    | none=>refine⟨b,q2.sq,?_⟩;rw[r.length];exact Ei.mp o
    | some d=>obtain⟨v,n,g2⟩:=F.get o;refine⟨⟨b,v,q2.sq,n⟩,fun u Y y=>?_⟩;obtain⟨rfl,y⟩:=y;have j:=y b q2.sq;rw[n]at j;cases j;exact⟨g2,vc.refl _ _,M⟩
   | _=>cases e
def sC(hp:PassesOwn (model X.prog X.w) X.A X.env X.xe)(hc:X.calm=true)(hi:IM X w t g)(hg:GM X w Y)(hb:iI X body f)
 (hs:autoParam (∀x,foldedSetIterable t X.env x=pure x) Ø):ZM X (.For w t body [] pos) (jC g Y f):=by
 unhygienic
  exact PS.imp (Jj hp hc hi hg hb hs) fun D σ H zz=>by
   obtain⟨ρ,l,h,r,S,L,e,k⟩:=zz;obtain⟨⟨s,h1⟩,e1,e⟩:=nA e;refine⟨ρ,l,h,s,h1,S,L,e1,fun C J H1 ok S1 E1=>?_⟩;refine⟨fun i m B M=>∃a E n,Ve X.K a n M/\Yi X.K M a E B/\vc C a H1 M/\BB Y f s m i E n=ε r,⟨_,C,l,h1,S1,L.ext E1,vc.refl _ _,e⟩,?_⟩;rintro i m B M ⟨a,E,n,S',L',O,b⟩;cases m with
   | zero=>simp![BB]at b;cases b
   | succ m=>
    simp![BB]at b;have p:=ok M a n O.same S' i;cases q:s.at n i with
    | none=>rw[q]at b;cases b
    | some o=>
     rw[q]at b p;cases o with
     | none=>cases b;exact .inl ⟨p,k a B M S' L' (E1.trans O)⟩
     | some d=>
      dsimp only at b;obtain⟨l1,b1,b⟩:=nA b;obtain⟨r1,b2,b⟩:=nA b;refine .inr ⟨p.1,fun P Z=>∃m',m'<m+1/\∃a E n,Ve X.K a n Z/\Yi X.K Z a E P/\vc C a H1 Z/\BB Y f s m' (i+1) E n=ε r,fun P Z q=>q,fun v H3 y=>?_⟩;obtain⟨R3,U,S3⟩:=p.2 v H3 y;refine⟨a,E,n,d,l1,S3,L'.ext U,R3,b1,fun a0 L4=>⟨a,l1,n,r1,S3,L4,b2,?_⟩⟩;cases r1 with
      | nx W Q=>exact fun j u T F R I=>⟨m,yu _,j,W,Q,F,R,O.trans (U.trans I),b⟩
      | ct W Q=>exact fun j u T F R I=>⟨m,yu _,j,W,Q,F,R,O.trans (U.trans I),b⟩
      | bk W Q=>cases b;exact fun j u T F R I=>k j u T F R (E1.trans (O.trans (U.trans I)))
      | rt d2 Q=>cases b;exact fun j v5 T R5 F I=>k j v5 T R5 F (E1.trans (O.trans (U.trans I)))
end
noncomputable def IB(n N:Nat)(body:RS):oB:=fun ds h=>if ds.length=n then match body (ds.map some++List.replicate (N-n) none) h with
 | some (.rt d h')=>ε (d,h')
 | some (.nx _ h')=>ε (.non,h')
 | _=>none
 else none
inductive oJ(K:Frag)(n:Nat)(F:oB)(vs:List V)(H:Hp)(Q:VK)(E:XK):Prop where
 | mk (ρ:Rg) (ds:List Dt) (h:HI) (d:Dt) (h':HI) (S:Ve K ρ h H) (r:Ti K H ρ ds vs) (n:ds.length=n) (e:F ds h=ε (d,h')) (k:Out K ρ H d h' Q)
section
variable{P:Pu}{w:Ri}{K:Pb}{b:Str->Oo Oi}{a:Ru}
def KO(R:Ti K H ρ ds vs):Yi K H ρ (ds.map some++List.replicate (N.length-ds.length) none) (L2.pE N vs):=by
 have g:=R.length;refine⟨by simp[L2.pE,g],fun i d e=>?_⟩;by_cases f:i<ds.length
 . rw[Xo (by simpa using f),uq]at e;cases q:ds[i]? with
   | none=>rw[q]at e;cases e
   | some j=>rw[q]at e;cases e;obtain⟨v,h,g2⟩:=R.get q;refine⟨v,?_,g2⟩;unfold L2.pE;rw[Xo (by simpa[g]using f),uq,h];rfl
 . rw[Zu (by simpa using Je.mp f),getElem?_replicate]at e;split at e<;>cases e
theorem bQ{st:Ra}(F:Fun K x g st f o)(S:Yu N ps (kB st))
 (y:∀i A outer s H E,Xi k (A.deeper (envOfC g (kB st) s.heap.objs.size f i))->
  iI (YE TF P w K b a N g (kB st) f i A outer s H E).nox (MC st) body):ab P w K b a TF (k+1) f o ps (oJ K ps.length (IB ps.length N.length body)):=by
 unhygienic
  refine F.ok S (fun r H Q E h=>?_) (fun i A outer s H r Q E u h=>?_)
  . obtain⟨n,ds,h,d,C,S,R,j,_⟩:=h;rw[R.length,j]
  . obtain⟨n,ds,h,d,C,S,R,j,e,k⟩:=h;refine⟨_,y i A outer s H E u,?_⟩;unfold IB at e;rw[dz j]at e;rw[<- j]at e;split at e
    . rename_i M B q;cases e;exact⟨n,_,h,_,S,KO R,q,k⟩
    . rename_i L B q;cases e;exact⟨n,_,h,_,S,KO R,q,fun m p I D O J=>k m _ I (bv.mpr rfl) D J⟩
    . cases e
end
noncomputable def rA(F:oB)(a:Oe Dt)(g:RA):RE:=fun l h=>(g l h).bind fun r=>F (r.1++a) r.2
section
variable{X:Cx}{k n:Nat}{f:O4}{i:FuncData}{ps:Oe Str}{F:oB}{x:Str}{p pos:Pos}{e:Pa}{j:Oe Pa}{g:RA}{c:Oe V}{b:Oe Oi}{a:Oe Dt}
def VY(T:ab X.prog X.w X.K X.mg X.base TF k f i ps (oJ X.K n F))(D:Xi k X.A)(O:Gl X x)(J:X.mg x=ε (.ref f))(M:keepIn X.K (.ref f)=true)(P:vt X.K i ps b)(hd:va c b)(q:∀H o,Ti X.K H o a c)
 (R:AM X (e::j) g) (I:∀B,B=F->∀b h r,B b h=ε r->b.length=n) (s:autoParam ((x==("__debug__" :Str))=false) Ñ) (he:autoParam (ZA e=true) Æ) (hpl:autoParam (j.all ZA=true) Æ) :
 EM X (.Call (.Name x p) (e::j) [] pos) (rA F a g):=by
 unhygienic exact PE.imp (km T D O J M P hd (E:=E0) jQ R s (fB he _ _) (EI hpl)) fun σ H Q C=>by obtain⟨o,l,h,d,U,S,L,e,k⟩:=C;obtain⟨⟨u,y⟩,W,e⟩:=nA e;exact⟨o,l,h,u,y,S,L,W,fun m vs H1 Z Y E1=>⟨m,_,y,d,U,Y,Z.append (q H1 m),I F rfl _ _ _ e,e,k.ext E1⟩⟩
def sP{b:Oe Dt}(e:IB n N body b h=ε r):b.length=n:=by
 unfold IB at e;split at e
 . assumption
 . cases e
noncomputable def OP(F:oB)(a:Oe Dt):RE:=fun _ h=>F a h
def Tt(M:ab X.prog X.w X.K X.mg X.base TF k f i ps (oJ X.K n F))(y:Xi k X.A)(I:Gl X x)(C:X.mg x=ε (.ref f))(D:keepIn X.K (.ref f)=true)(J:vt X.K i ps b)(hd:va c b)(o:∀H m,Ti X.K H m a c)
 (B:∀s,s=F->∀b h r,s b h=ε r->b.length=n) (q:autoParam ((x==("__debug__" :Str))=false) Ñ) :
 EM X (.Call (.Name x p) [] [] pos) (OP F a):=by
 unhygienic exact PE.imp (Il M y I C D J hd (E:=E0) jQ q) fun P H Q u=>by obtain⟨m,l,h,d,O,S,L,e,k⟩:=u;exact⟨m,a,h,d,O,S,o H m,B F rfl _ _ _ e,e,k⟩
end
end SM
namespace L2
noncomputable def RD(b:Oe (Str×O4)):Oe (Str×NameKind)->Oe (Str×O4)->Oo (Oe (Str×O4))
 | [],cs=>ε cs
 | (n,k)::r,cs=>if k==.free then match b.lookup n with
  | some a=>RD b r ((n,a)::cs)
  | none=>none
  else RD b r cs
theorem tS:∀{l:Oe (Str×NameKind)}{cs d:Oe (Str×O4)},RD env.cells l cs=ε d->
 (forIn l cs fun(x:Str×NameKind) (r:Oe (Str×O4))=>if(x.2==NameKind.free)=true then(do let a <- cellOf env x.1;pure (ForInStep.yield ((x.1,a)::r)):Sem _)else pure (ForInStep.yield r))=pure d
 | [],cs,d,h=>by simp![RD]at h;cases h;rfl
 | (n,k)::r,cs,d,h=>by
  simp![RD]at h;rw[forIn_cons];cases b:k==NameKind.free with
  | true=>
   rw[b,dz rfl]at h;cases f:env.cells.lookup n with
   | none=>rw[f]at h;cases h
   | some a=>
    rw[f]at h;have ih:=tS (env:=env) h;simp![b,eH];have e:cellOf env n=pure a:=by unfold cellOf;rw[f]
    rw[e];simp![pure_bind];exact ih
  | false=>rw[b,eG (by decide)]at h;have ih:=tS (env:=env) h;simp![b,Ws,eO,pure_bind];exact ih
def WW(h:RD env.cells a.names []=ε cl):closureFor a env=pure cl:=by have e:=tS (env:=env) h;unfold closureFor;simp![bind_pure];exact e
theorem dS:∀{l:Oe (Str×NameKind)}{cs f:Oe (Str×O4)},RD b l cs=ε f->(∀x c,cs.lookup x=ε c->b.lookup x=ε c)->
 (∀x c,f.lookup x=ε c->b.lookup x=ε c)/\(∀x c,cs.lookup x=ε c->∃B,f.lookup x=ε B)/\∀n,(n,NameKind.free)∈l->∃c,f.lookup n=ε c
 | [],cs,f,h,i=>by simp![RD]at h;cases h;exact⟨i,fun x c e=>⟨c,e⟩,fun n y=>nomatch y⟩
 | (n,k)::r,cs,f,h,i=>by
  simp![RD]at h;cases o:k==NameKind.free with
  | true=>
   rw[o,dz rfl]at h;cases p:b.lookup n with
   | none=>rw[p]at h;cases h
   | some a=>
    rw[p]at h;have u:∀x c,((n,a)::cs).lookup x=ε c->b.lookup x=ε c:=fun x c e=>by
     rw[lookup_cons]at e;cases d:x==n with
     | true=>rw[d]at e;cases e;rw[eq_of_beq d];exact p
     | false=>rw[d]at e;exact i x c e
    obtain⟨s,g,q⟩:=dS h u;refine⟨s,fun x c e=>?_,fun m j=>?_⟩
    . cases d:x==n with
      | true=>exact g x a (by rw[lookup_cons,d])
      | false=>exact g x c (by rw[lookup_cons,d];exact e)
    . rcases Ba.mp j with z | z
      . cases z;exact g _ a (by rw[lookup_cons,Ci])
      . exact q m z
  | false=>
   rw[o,eG (by decide)]at h;obtain⟨s,g,q⟩:=dS h i;refine⟨s,g,fun m j=>?_⟩;rcases Ba.mp j with z | z
   . cases z;cases o
   . exact q m z
noncomputable def tgN:Pa->Oe Str
 | .Name x _=>[x]
 | .Tuple a _ _=>a.filterMap fun | .Name x _=>ε x | _=>none
 | _=>[]
def gI(b:Pa)(N:Oe Str)(a:Oe (Oo Nat)):Oe Str:=tgN b++a.filterMap fun o=>o.bind fun i=>N[i]?
noncomputable def jN:Oo Str->O4->Oe (Str×O4)->Oe (Str×O4)
 | none,_,cl=>cl
 | some x,n,cl=>(x,n)::cl
noncomputable def oU:Oo Str->Ru->Ru
 | none,h=>h
 | some _,h=>h.push { cls:=.type "cell",data:=.cell none }
structure cy(names:List (Str×NameKind))(x:Option Str):Prop where
 fr:∀n cl,cellsFrom n names cl=jN x n cl
 hp:∀h:Heap,pushCells h names=oU x h
 ne:∀y∈names,y.2=.cell->x=ε y.1
theorem cy.no:∀{a:Oe (Str×NameKind)},(∀y∈a,y.2≠.cell)->cy a none
 | [],_=>⟨fun q q=>rfl,fun q=>rfl,fun q h=>nomatch h⟩
 | (n,k)::r,h=>by
  have i:=cy.no fun y b=>h y (nu _ b)
  have e:¬(k==NameKind.cell)=true:=fun z=>h _ tu (eq_of_beq z)
  exact⟨fun m d=>by rw[cellsFrom,eG e];exact i.fr m d,fun H=>by rw[pushCells,eG e];exact i.hp H,fun y b z=>Ea z (h y b)⟩
def sy(one:cy b.names x)
 (h:Q (newEnv b s.heap.objs.size a (jN x (s.heap.objs.size+1) i) d none .none (ε env) builtinsNs) { s with heap:=oU x (s.heap.push { cls:=.type "dict",data:=.dict #[] }) }) :
 wpAny M A (newFunctionEnv b a i [] d none .none (ε env)) Q E s:=by
 simp![newFunctionEnv,Option.isSome_some,eH];refine ao (wpAny_alloc ?_);refine ao (wpAny_layCells _ (fun g kind f=>by cases e:kind==NameKind.cell<;>simp[e]) _ _ _ _ ?_);rw[one.fr,one.hp];rw[show({ s with heap:=s.heap.push { cls:=.type "dict",data:=.dict #[] } }:Ou).heap.objs.size=s.heap.objs.size+1 from Li ..];rw[forIn_nil];exact ao (au (au h))
def pY(scope:Scope)(a:Oe (Str×O4))(C:O4)(x:Oo Str)(env:Env):Env:=
 { scope:=relabel scope env,locals:=C,globals:=env.globals,cells:=jN x (C+1) a,qual:=env.qual,func:=none,code:=env.code,frame:=env.frame,builtins:=env.builtins }
def YC(X:Cx)(Nc:Oe Str)(a:Scope)(b:Oe (Str×O4))(C:O4)(x:Oo Str)(s0:Ou)(d:Hp)(fp:Oe O4):Cx:=
 { X with N:=Nc,s₀:=s0,H₀:=d,env:=pY a b C x X.env,outer:=X.stack,stack:=X.stack,ex:=fp,fn:=fun y=>x==ε y,pn:=[],xe:=fun _ _=>False }
abbrev OF(X:Cx)(Nc:Oe Str)(a:Scope)(b:Oe (Str×O4))(C:O4)(s0:Ou)(d:Hp)(fp:Oe O4):Cx:=YC X Nc a b C none s0 d fp
theorem fW{env:Env}{x0:Oo Str}:∀{a:Oe (Str×NameKind)}{x:Str},(∀y∈a,y.2=.cell->x0=ε y.1)->x0≠ε x->
 ((a.map fun(n,k)=>if(k==NameKind.free&&env.scope.kind==.function&&env.kindOf n==ε .cell)then(n,NameKind.cell)else(n,k)).lookup x=ε .cell\/
  (a.map fun(n,k)=>if(k==NameKind.free&&env.scope.kind==.function&&env.kindOf n==ε .cell)then(n,NameKind.cell)else(n,k)).lookup x=ε .free)->(x,NameKind.free)∈a
 | [],_,_,_,h=>by simp at h
 | (n,k)::r,x,hc,hx0,h=>by
  have ih:=@fW env x0 r x (fun y f=>hc y (nu _ f)) hx0;rw[Uo]at h;cases b:x==n with
  | true=>
   have ex:=eq_of_beq b;subst ex;have g:k≠.cell:=fun z=>hx0 (hc (x,k) tu z)
   by_cases e:k=.free
   . subst e;exact tu
   . have i:(k==NameKind.free)=false:=by simpa using e
     simp![i,Hi,Ws,eO,lookup_cons,Ci]at h;rcases h with h | h
     . exact Ea (ou h) g
     . exact Ea (ou h) e
  | false=>
   refine nu _ (ih ?_);by_cases d:(k==NameKind.free&&env.scope.kind==.function&&env.kindOf n==ε .cell)=true
   . simp![d,eH,lookup_cons,b]at h;exact h
   . rw[Bool.not_eq_true]at d;simp![d,Ws,eO,lookup_cons,b]at h;exact h
noncomputable def aw(X:Cx)(a:Scope)(b:Oe (Str×O4)):Oe Str->Oe (Oo Nat)->Prop
 | [],[]=>True
 | _::N,none::cs=>aw X a b N cs
 | x::N,some j::cs=>(X.N[j]?=ε x/\(X.env.kindOf x=ε .cell\/X.env.kindOf x=ε .free)/\((relabel a X.env).names.lookup x=ε .cell\/(relabel a X.env).names.lookup x=ε .free)/\
  b.lookup x=X.env.cells.lookup x)/\aw X a b N cs
 | _,_=>False
noncomputable def HG(b:St)(a:Oe (Oo Nat)):St:=a.map fun o=>match o with | some j=>(b[j]?).join | none=>none
theorem aw.get{X:Cx}{a:Scope}{b:Oe (Str×O4)}:∀{N:Oe Str}{cs:Oe (Oo Nat)},aw X a b N cs->∀{i j:Nat}{x:Str},N[i]?=ε x->cs[i]?=ε (ε j)->
 X.N[j]?=ε x/\(X.env.kindOf x=ε .cell\/X.env.kindOf x=ε .free)/\((relabel a X.env).names.lookup x=ε .cell\/(relabel a X.env).names.lookup x=ε .free)/\b.lookup x=X.env.cells.lookup x
 | [],[],_,i,j,x,h,_=>by simp at h
 | y::N,none::cs,h,0,j,x,_,e=>by simp at e
 | y::N,none::cs,h,i+1,j,x,e1,e2=>aw.get (N:=N) (cs:=cs) h (i:=i) (by simpa using e1) (by simpa using e2)
 | y::N,some k::cs,h,0,j,x,e1,e2=>by simp at e1 e2;subst e1 e2;exact h.1
 | y::N,some k::cs,h,i+1,j,x,e1,e2=>aw.get (N:=N) (cs:=cs) h.2 (i:=i) (by simpa using e1) (by simpa using e2)
 | [],_::_,h,_,_,_,_,_=>h.elim
 | _::_,[],h,_,_,_,_,_=>h.elim
theorem aw.length:∀{N:Oe Str}{cs:Oe (Oo Nat)},aw X a b N cs->cs.length=N.length
 | [],[],_=>rfl
 | y::N,none::cs,h=>by rw[T4,T4,aw.length (N:=N) (cs:=cs) h]
 | y::N,some k::cs,h=>by rw[T4,T4,aw.length (N:=N) (cs:=cs) h.2]
 | [],_::_,h=>h.elim
 | _::_,[],h=>h.elim
def rJ(X:Cx)(d:Oe Pa)(t:TT):Prop:=
 ∀(a:Oe (O4×Obj))(s:Ou)(b:St)(H:Hp)(Q:Bool->Hp->Prop),u7 X a b H s->t b H Q->
  wpAny (model X.prog X.w) X.A (forIn d true fun c r=>if r=true then do let ok <- isTrue c X.env (eval c X.env);pure (ForInStep.yield ok)else pure (ForInStep.yield r)) (TP X a b Q) X.xe s
def Xl:rJ X [] (fun z H Q=>Q true H):=fun z z z H z I q=>wpAny_tests_nil ⟨H,I,q⟩
def Yl(h:PT X c t):rJ X [c] t:=fun a s b H Q I q=>wpAny_tests_one (h a s b H Q I q)
def eU(r:TI)(g:TG)(tc:TT)(te:TE)(j:Oe (Oo Nat)):TE:=fun k H Q=>r k H fun J q=>∀D,q D=none->∃W:Nat->Nat->St->Oe V->Hp->Prop,
 (∃m,W 0 m (HG k j) [] (pB q D (.lst [])))/\∀i m e d h,W i m e d h->
  (J.stop i h/\Q (.ref D) h)\/(J.go i h/\∀x p,J.yld i h x p->g x e p fun a s=>tc a s fun b o=>if b=true then te a o fun y n=>
   n D=ε (.lst d)/\d.length<sizeLine/\∃f,f<m/\W (i+1) f a (d++[y]) (pB n D (.lst (d++[y])))else ∃f,f<m/\W (i+1) f a d o)
section
variable{prog:Pu}{w:Ri}{A:Ro}{R:Result->Ou->Prop}{s:Ou}
def Lk(I:Nat->Ou->Prop)
 (turn:∀n s,I n s->wpAny (model prog w) A (pyNext H) (fun r e=>match r with
  | none=>R (.ok .next) e
  | some v=>wpAny (model prog w) A (letOwnedTupleGo a H v) (fun _ d=>wpAny (model prog w) A (assign a env v) (fun _ k=>
   wpAny (model prog w) A (forIn u true fun c r=>if r=true then do let ok <- isTrue c env (eval c env);pure (ForInStep.yield ok)else pure (ForInStep.yield r)) (fun ok b=>
    if ok=true then wpAny (model prog w) A (eval B env) (fun x j=>
     wpAny (model prog w) A (call (.builtin "list.append") [C,x]) (fun _ i=>∃m,m<n/\I m i) (fun _ _=>False) j) (fun _ _=>False) b
    else ∃m,m<n/\I m b) (fun _ _=>False) k) (fun _ _=>False) d) (fun _ _=>False) e) (fun _ _=>False) s)
 (n) (h:I n s):codeAny (model prog w) A (.compLoop (.ListComp B [⟨a,o,u,0⟩] f pos) 0 H C env) R s:=by
 refine codeAny_loop rfl I (fun n s J=>?_) n h;show wpAny _ A ((compTurn (.ListComp B [⟨a,o,u,0⟩] f pos) 0 H C env).onRaise (fun x=>do noteFrame x env;theTreesLotGoes x)) _ _ s;refine wpAny_noted ?_;rw[compTurn_list];refine ao (wpAny_standAt (ao (Ia (turn n s J) (fun r e q=>?_) fun _ _ g=>g.elim)));cases r with
 | none=>exact au q
 | some v=>
  refine ao (Ia q (fun _ d y=>?_) fun _ _ g=>g.elim);refine ao (Ia y (fun _ k F=>ao (Ia F (fun ok b p=>?_) fun _ _ g=>g.elim)) fun _ _ g=>g.elim);cases ok with
  | false=>exact au ⟨rfl,p⟩
  | true=>exact ao (ao (Ia p (fun x j E=>ao (Ia E (fun _ i D=>au (au ⟨rfl,D⟩)) fun _ _ g=>g.elim)) fun _ _ g=>g.elim))
end
section
variable{X:Cx}{A f B:Pa}{w:Oe Pa}{scope:Scope}{l:Oe (Str×O4)}{pos:Pos}{Nc:Oe Str}{F:TI}{g:TG}{tc:TT}{te:TE}{t:Oe (Oo Nat)}{x0:Oo Str}
def XW{Q:VK}{RR:Oi->O4->Result->Ou->Prop}
 (hc:X.calm=true) (e6:RD X.env.cells scope.names []=ε l) (one:cy scope.names x0) (b6:scope.kind=.function) (a7:aw X scope l Nc t) (d8:∀x,x0=ε x->∀(i j:Nat),Nc[i]?=ε x->t[i]?=ε (ε j)->False)
 (hg:∀C s0 H0 fp,PG (YC X Nc scope l C x0 s0 H0 fp) B g) (ht:∀C s0 H0 fp,rJ (YC X Nc scope l C x0 s0 H0 fp) w tc) (he:∀C s0 H0 fp,PE (YC X Nc scope l C x0 s0 H0 fp) A te)
 (I:u7 X L Z H s) (T:UG X.prog X.w X.K B J fp it tn) (st:tn 0 s.heap) (hf:∀b∈fp,VE X L H b)
 (c8:∀D,H D=none->∃W:Nat->Nat->St->Oe V->Hp->Prop,
  (∃m,W 0 m (HG Z t) [] (pB H D (.lst [])))/\∀i m O ys H',W i m O ys H'->
   (J.stop i H'/\Q (.ref D) H')\/(J.go i H'/\∀x H2,J.yld i H' x H2->g x O H2 fun a3 P=>tc a3 P fun b H4=>if b=true then te a3 H4 fun y H5=>
    H5 D=ε (.lst ys)/\ys.length<sizeLine/\∃Y,Y<m/\W (i+1) Y a3 (ys++[y]) (pB H5 D (.lst (ys++[y])))else ∃Y,Y<m/\W (i+1) Y a3 ys H4))
 (f0:∀C D s' H' m,u7 X L Z H' s'->s'.heap.Ns C m->H' C=none->C≠X.env.locals->X.s₀.heap.objs.size<=C->(∀x c,X.env.cells.lookup x=ε c->c≠C)->(∀p∈X.pn++L,p.1≠C)->Q (.ref D) H'->RR (.ref D) C (.ok .next) s') :
 wpAny (model X.prog X.w) X.A (newList []) (fun d3 c5=>wpAny (model X.prog X.w) X.A (newFunctionEnv scope X.env.globals l [] X.env.qual none .none (ε X.env)) (fun a8 c4=>
  codeAny (model X.prog X.w) X.A (.compStart (.ListComp A [⟨B,f,w,0⟩] scope pos) 0 (.ref it) d3 { a8 with scope:=relabel scope X.env }) (RR d3 a8.locals) c4) E c5) E s:=by
 obtain⟨sub,_,d5⟩:=dS e6 (fun _ _ e=>by simp at e);refine Ae (sy one ?_);have hD:=I.fresh;have h:u7 X L Z (pB H s.heap.objs.size (.lst [])) { s with heap:=s.heap.push { cls:=.type "list",data:=.seq ([]:Oe Oi).toArray } }:=I.gv (ys:=[]) (its:=[]) (t':=s.toks) .nil (m6 _);generalize c9:({ s with heap:=s.heap.push { cls:=.type "list",data:=.seq ([]:Oe Oi).toArray } }:Ou)=s3 at h;generalize d1:pB H s.heap.objs.size (.lst [])=P at h;have d0:s3.heap=s.heap.push { cls:=.type "list",dict:=none,data:=.seq ([]:Oe Oi).toArray }:=by rw[<- c9]
 have g1:({ s with heap:=s.heap.push { cls:=.type "list",dict:=none,data:=.seq ([]:Oe Oi).toArray } }:Ou)=s3:=c9;obtain⟨h₁,R⟩:∃h₁,h₁=oU x0 (s3.heap.push { cls:=.type "dict",data:=.dict #[] }):=⟨_,rfl⟩
 rw[<- R];have c1:∀b o,(s3.heap.push { cls:=.type "dict",data:=.dict #[] }).get? b=ε o->h₁.get? b=ε o:=fun b o e=>by
  rw[R];cases x0 with
  | none=>exact e
  | some _=>exact cu _ e
 have a5:h₁.Ns s3.heap.objs.size (fun _=>none):=(Heap.Ns.new s3.heap (.type "dict")).keeps c1;have f2:P s3.heap.objs.size=none:=h.fresh;have d6:P (s3.heap.objs.size+1)=none:=h.hok.fresh (Nat.le_succ _);have f4:s3.heap.objs.size≠X.env.locals:=fun z=>by have:=h.lt;rw[<- z]at this;exact Eu _ this
 have f5:X.s₀.heap.objs.size<=s3.heap.objs.size:=h.sz;have c3:∀x c,X.env.cells.lookup x=ε c->c<s3.heap.objs.size:=fun x c e=>by obtain⟨v,o,ho,_⟩:=h.cell x c e;exact iu ho
 have f3:∀x c,X.env.cells.lookup x=ε c->c≠s3.heap.objs.size:=fun x c e z=>by have:=c3 x c e;rw[z]at this;exact Eu _ this
 have f1:∀p∈X.pn++L,p.1≠s3.heap.objs.size:=fun p hp z=>by have:=iu (h.pin p hp).1;rw[z]at this;exact Eu _ this
 have b2:∀b∈fp,b<s.heap.objs.size:=fun b a=>by obtain⟨o,e,_⟩:=T.obj 0 _ st b a;exact iu e
 have W6:s3.heap.objs.size=s.heap.objs.size+1:=by rw[d0,Li]
 have old:∀b o,s3.heap.get? b=ε o->h₁.get? b=ε o:=fun b o e=>c1 b o (cu _ e)
 have d4:∀b o,s.heap.get? b=ε o->s3.heap.get? b=ε o:=fun b o e=>by rw[d0];exact cu _ e
 have f7:∀b∈fp,P b=none:=fun b a=>by rw[<- d1,XA (nW (b2 b a))];exact(hf b a).1
 have lk:∀x c,(jN x0 (s3.heap.objs.size+1) l).lookup x=ε c->(x0=ε x/\c=s3.heap.objs.size+1/\h₁.IsCell c none)\/(x0≠ε x/\l.lookup x=ε c):=fun x c e=>by
  cases x0 with
  | none=>exact .inr ⟨(fun z=>nomatch z),e⟩
  | some y=>
   have e:((y,s3.heap.objs.size+1)::l).lookup x=ε c:=e;rw[lookup_cons]at e;cases hx:x==y with
   | true=>rw[hx]at e;cases e;refine .inl ⟨by rw[eq_of_beq hx],rfl,{ cls:=.type "cell",data:=.cell none },?_,rfl⟩;rw[R,show s3.heap.objs.size+1=(s3.heap.push { cls:=.type "dict",data:=.dict #[] }).objs.size from(Li ..).symm];exact jj _ rfl
   | false=>
    rw[hx]at e;refine .inr ⟨fun z=>?_,e⟩;injection z with z
    rw[z,Ci]at hx;cases hx
 have kl:∀x,x0≠ε x->(jN x0 (s3.heap.objs.size+1) l).lookup x=l.lookup x:=fun x n=>by
  cases x0 with
  | none=>rfl
  | some y=>show((y,s3.heap.objs.size+1)::l).lookup x=_;rw[lookup_cons,show(x==y)=false from Eo.mpr fun z=>n (by rw[z])]
 have c2:∀x c,l.lookup x=ε c->c≠s3.heap.objs.size+1:=fun x c e z=>by have:=c3 x c (sub x c e);rw[z]at this;exact Ea this (Je.mpr (Nat.le_succ _))
 have a4:(YC X Nc scope l s3.heap.objs.size x0 s3 P fp).Ok:=by
  refine⟨h.ok.mod,b6,h.ok.glob,h.ok.blt,Us _,fun x y c e1 e2=>?_,fun x hx=>?_,fun x c e1 e2=>?_,h.ok.hd,h.ok.frames,.inl rfl,fun b a=>⟨?_,fun x c e=>?_⟩,fun b o e=>h.bs b o e,?_,fun b o e=>?_,fun b a=>?_,h.stack,h.hG⟩
  . rcases lk x c e1 with⟨p1,M,_⟩ | ⟨p1,M⟩<;>rcases lk y c e2 with⟨q1,q2,_⟩ | ⟨q1,q2⟩
    . rw[p1]at q1;injection q1
    . exact Ea M (c2 y c q2)
    . exact Ea q2 (c2 x c M)
    . exact h.ok.inj x y c (sub x c M) (sub y c q2)
  . by_cases b5:x0=ε x
    . exact⟨s3.heap.objs.size+1,by rw[b5];show((x,s3.heap.objs.size+1)::l).lookup x=_;rw[lookup_cons,Ci]⟩
    . obtain⟨c,e⟩:=d5 x (fW one.ne b5 hx);exact⟨c,(kl x b5).trans e⟩
  . rcases lk x c e2 with⟨p1,M,_⟩ | ⟨p1,M⟩
    . rw[M];exact Nat.le_succ _
    . exact Ea (eq_of_beq e1) p1
  . intro z;have:=b2 b a;have z':b=s3.heap.objs.size:=z;rw[z',W6]at this;exact Ea this (Je.mpr (Nat.le_succ _))
  . rcases lk x c e with⟨p1,M,_⟩ | ⟨p1,M⟩
    . intro z;have:=b2 b a;rw[<- z,M,W6]at this;exact Ea this (Je.mpr (Nat.le_succ_of_le (Nat.le_succ _)))
    . exact(hf b a).2.2.2.2.1 x c (sub x c M)
  . exact rz h.ok.bsz h.sz
  . intro a;have h1:=(hf b a).2.2.2.1;have h2:=h.ok.bs b o e;rcases h1 with z | z
    . exact h.ok.eu b o e z
    . exact Ea (jo (iu h2.1) z) (Eu _)
  . intro z;rcases Ba.mp (h.gh b z)with z | z
    . exact(hf b a).2.1 z
    . exact(hf b a).2.2.1 z
 have IY:u7 (YC X Nc scope l s3.heap.objs.size x0 s3 P fp) [] (HG Z t) P { s3 with heap:=h₁ }:=by
  refine⟨a4,rfl,h.bare,Un.kept old,⟨_,a5,fun i x v e1 e2 _=>?_⟩,fun x c e=>?_,f2,fun x c e=>?_,fun p hp=>Ea hp (by simp[YC]),h.hok.kept old,?_⟩
  . have S:(HG Z t)[i]?=ε (ε v):=e2;unfold HG at S;rw[uq]at S;cases q:t[i]? with
    | none=>rw[q]at S;cases S
    | some o=>
     rw[q]at S;cases o with
     | none=>cases S
     | some j=>
      have e3:(Z[j]?).join=ε v:=by simpa using S
      have e4:Z[j]?=ε (ε v):=by
       cases z:Z[j]? with
       | none=>rw[z]at e3;cases e3
       | some y=>rw[z]at e3;simpa using e3
      have e5:x0≠ε x:=fun z=>d8 x z i j e1 q
      obtain⟨n1,n2,n3,n4⟩:=a7.get e1 q;obtain⟨m,_,hl⟩:=h.loc;have hv:D6 X.env.scope x:=.inr n2;obtain⟨u,r,e0⟩:=hl j x v n1 e4 hv;refine⟨u,r,.inr ⟨n3,?_⟩⟩;rcases e0 with⟨k,_⟩ | ⟨_,c,ec,ob,z1,z2⟩
      . rcases n2 with n2 | n2<;>rw[k]at n2<;>cases n2
      . exact⟨c,(kl x e5).trans (n4.trans ec),ob,old c ob z1,z2⟩
  . rcases lk x c e with⟨p1,M,p3⟩ | ⟨p1,M⟩
    . exact⟨none,p3⟩
    . obtain⟨v,o,z1,z2⟩:=h.cell x c (sub x c M);exact⟨v,o,old c o z1,z2⟩
  . rcases lk x c e with⟨p1,M,_⟩ | ⟨p1,M⟩
    . rw[M];exact d6
    . exact h.ci x c (sub x c M)
  . show(HG Z t).length=Nc.length;unfold HG;rw[mq];exact a7.length
 obtain⟨W,⟨m0,w0⟩,turn⟩:=c8 s.heap.objs.size hD;rw[d1]at w0;have c7:tn 0 h₁:=T.keep 0 _ _ st fun b _ o e=>old b o (d4 b o e)
 have c0:∀{H':Hp},(∀b∈fp,H' b=none)->∀b∈fp,VE (YC X Nc scope l s3.heap.objs.size x0 s3 P fp) [] H' b:=fun hn b a=>⟨hn b a,(a4.exf b a).1,a4.eI b a,.inl a,fun x c e=>(a4.exf b a).2 x c e,fun p hp=>Ea hp (by simp[YC])⟩
 have a6:codeAny (model X.prog X.w) X.A (.compLoop (.ListComp A [⟨B,f,w,0⟩] scope pos) 0 (.ref it) (.ref s.heap.objs.size) (pY scope l s3.heap.objs.size x0 X.env)) (RR (.ref s.heap.objs.size) s3.heap.objs.size)
  { s3 with heap:=h₁ }:=by
  refine Lk (fun n s'=>∃i O ys H',u7 (YC X Nc scope l s3.heap.objs.size x0 s3 P fp) [] O H' s'/\tn i s'.heap/\(∀b∈fp,H' b=none)/\W i n O ys H') ?_ m0 ⟨0,_,[],P,IY,c7,f7,w0⟩;rintro n s4 ⟨i,a2,ys,H4,I4,c6,d2,w4⟩;rcases turn i n a2 ys H4 w4 with⟨stop,qn⟩ | ⟨go,step⟩
  . refine wB (T.done (YC X Nc scope l s3.heap.objs.size x0 s3 P fp) rfl rfl rfl hc i [] s4 a2 H4 _ I4 (c0 d2) c6 stop) fun r s5 U=>?_
    obtain⟨hr,I5⟩:=U;subst hr;have I6:u7 X L Z H4 s5:=h.call' (ch:=fp) I5.os I5.base I5.hok I5.bare fun b a=>⟨(hf b a).2.2.2.1,(hf b a).2.1,(hf b a).2.2.2.2.1,(hf b a).2.2.2.2.2⟩
    obtain⟨m,hn,_⟩:=I5.loc;exact f0 _ _ s5 H4 m I6 hn I5.free f4 f5 f3 f1 qn
  . refine wB (T.item (YC X Nc scope l s3.heap.objs.size x0 s3 P fp) rfl rfl rfl hc i [] s4 a2 H4 _ I4 (c0 d2) c6 go) fun r s5 U=>?_
    obtain⟨u,hr,h5⟩:=U;subst hr;refine wB h5 fun _ s6 U=>?_
    obtain⟨x,H6,I6,r6,y6,b4,f6⟩:=U;have f9:=I6.pinned (c0 f6) (T.obj _ _ b4);refine wB (hg _ _ _ _ _ s6 a2 H6 x u _ f9 r6 (step x H6 y6)) fun _ s7 U=>?_
    obtain⟨b1,H7,I7,q7⟩:=U;refine wB (ht _ _ _ _ _ s7 b1 H7 _ I7 q7) fun b s8 U=>?_
    obtain⟨H8,I8,q8⟩:=U;have a0:∀{a1:St}{H9:Hp}{s9:Ou}{b3:Oe V},u7 (YC X Nc scope l s3.heap.objs.size x0 s3 P fp) ([]++HM fp s6.heap) a1 H9 s9->(∃Y,Y<n/\W (i+1) Y a1 b3 H9)->
     ∃Y,Y<n/\∃i O ys H',u7 (YC X Nc scope l s3.heap.objs.size x0 s3 P fp) [] O H' s9/\tn i s9.heap/\(∀b∈fp,H' b=none)/\W i Y O ys H':=fun {a1 H9 s9 b3} I9 ⟨Y,hm,w9⟩=>by
     refine⟨Y,hm,i+1,a1,b3,H9,I9.gc,T.keep _ _ _ b4 fun b a o e=>(I9.pin (b,o) (xr _ (xr _ (wO a e)))).1,fun b a=>?_,w9⟩;obtain⟨o,e,d⟩:=T.obj _ _ b4 b a;exact(I9.pin (b,o) (xr _ (xr _ (wO a e)))).2.1
    cases b with
    | false=>rw[eG Vu]at q8 ⊢;exact a0 I8 q8
    | true=>
     rw[dz rfl]at q8 ⊢;refine wB (he _ _ _ _ _ s8 b1 H8 _ I8 q8) fun y s9 U=>?_
     obtain⟨v,H9,I9,r9,d9,z9,w9⟩:=U;refine wB (oX (X:=YC X Nc scope l s3.heap.objs.size x0 s3 P fp) _ s9 b1 H9 (.ref s.heap.objs.size) [v] (.ref s.heap.objs.size) [y] (fun _ H'=>H'=pB H9 s.heap.objs.size (.lst (ys++[v]))) I9 rfl (.cons r9 .nil) ⟨_,ys,v,rfl,rfl,d9,z9,rfl⟩) fun _ g4 U=>?_
     obtain⟨_,g5,g0,_,f8⟩:=U;subst f8;exact a0 g0 w9
 exact codeAny_compStart_list a6 (T.self X.A 0 _ _ _ c7 a6)
def u0(hc:X.calm=true)(hi:PI X B f F)(r:RD X.env.cells scope.names []=ε l)(one:cy scope.names x0)(a:scope.kind=.function)
 (d:∀y∈scope.names,y.2=.local->scope.names.lookup y.1=ε .local) (u:aw X scope l Nc t) (L:∀x,x0=ε x->∀(i j:Nat),Nc[i]?=ε x->t[i]?=ε (ε j)->False)
 (hg:∀C s0 E k,PG (YC X Nc scope l C x0 s0 E k) B g) (ht:∀C s0 E k,rJ (YC X Nc scope l C x0 s0 E k) w tc) (he:∀C s0 E k,PE (YC X Nc scope l C x0 s0 E k) A te)
 (hs:autoParam (∀x,foldedSetIterable f X.env x=pure x) Ø):PE X (.ListComp A [⟨B,f,w,0⟩] scope pos) (eU F g tc te t):=by
 intro p s P H Q I h;rw[eval_ListComp];refine wpAny_comprehension_free (use:=none) rfl hs (WW r) a d (wB (hi p s P H _ I h) fun v s1 h1=>wB h1 fun a0 s2 h2=>?_);obtain⟨it,k,tn,J,H2,e,I2,T,M,f2,n⟩:=h2;subst e;refine XW hc r one a u L hg ht he I2 T M f2 n fun C D R H' m I' hn Z Y W U S q=>?_
 refine⟨m,hn,fun h' O=>⟨.ref D,H',?_,rfl,q⟩⟩;exact I'.turned (t':=R.toks) (fun b o hb e=>O.extBut b o hb e) Z Y (.inr W) U S
def GR(hc:X.calm=true)(hN:X.N.Nodup)(Y:X.N[i]?=ε y)(hy:X.env.scope.names.lookup y=ε .local)(hi:PI X B f F)(L:RD X.env.cells scope.names []=ε l)(one:cy scope.names x0)(d:scope.kind=.function)
 (k:∀y∈scope.names,y.2=.local->scope.names.lookup y.1=ε .local) (M:aw X scope l Nc t) (P:∀x,x0=ε x->∀(i j:Nat),Nc[i]?=ε x->t[i]?=ε (ε j)->False)
 (hg:∀C s0 O r,PG (YC X Nc scope l C x0 s0 O r) B g) (ht:∀C s0 O r,rJ (YC X Nc scope l C x0 s0 O r) w tc) (he:∀C s0 O r,PE (YC X Nc scope l C x0 s0 O r) A te)
 (U:swapsWith (.ListComp A [⟨B,f,w,0⟩] scope pos) (ε (.Name y E)) n.line X.env=pure true)
 (hs:autoParam (∀x,foldedSetIterable f X.env x=pure x) Ø):PS X (.Assign [.Name y E] (.ListComp A [⟨B,f,w,0⟩] scope pos) n) (TQ (eU F g tc te t) (cQ i)):=by
 intro p s σ H D I h;rw[exec_Assign_Name_used _ _ _ _ U];refine ao (wpAny_standAt (ao ?_));show wpAny _ X.A (do let _ <- comprehension (.ListComp A [⟨B,f,w,0⟩] scope pos) scope X.env _ (newList []) false (eval f X.env) (ε (assign (.Name y E) X.env))) _ _ s;refine ao (Ia (wpAny_comprehension_free (use:=ε (assign (.Name y E) X.env)) (Q:=fun _ S=>SP X p D .next S) rfl hs (WW L) d k
  (wB (hi p s σ H _ I h) fun v s1 h1=>wB h1 fun a0 s2 h2=>?_)) (fun _ S hq=>au (au hq)) fun _ _ e=>e)
 obtain⟨it,r,tn,J,H2,e,I2,T,R,f2,u⟩:=h2;subst e;refine XW (Q:=fun x H1=>cQ i x σ H1 D.nx) hc L one d M P hg ht he I2 T R f2 u fun C Dd S H' m I' hn n1 n2 n3 n4 n5 q=>?_
 show wpAny _ X.A (assign (.Name y E) X.env (.ref Dd)) _ _ _;refine wpAny_assign_Name (FX I' hN Y (.inl hy) (v:=.ref Dd) rfl (fun s4 I4 zz=>?_) (.inr hy));obtain⟨a,sb,ha⟩:=zz;have Z:C≠a:=by
  rcases ha with ha | ha
  . rw[ha];exact n2
  . exact fun z=>n4 _ _ ha z.symm
 refine⟨m,hn.sameBut sb Z,fun h' W=>⟨_,H',?_,q⟩⟩;exact I4.turned (t':=s4.toks) (fun b o hb e=>W.extBut b o hb e) n1 n2 (.inr n3) n4 n5
end
end L2
namespace SM
def xD(e:RG)(tc:RT)(te:RE)(s:vj):Nat->Nat->LI->HI->Oe Dt->Oo (Oe Dt×HI)
 | 0,_,_,_,_=>none
 | k+1,i,l,h,ys=>match s.at h i with
  | none=>none
  | some none=>ε (ys,h)
  | some (some d)=>(e d l).bind fun a=>(tc a h).bind fun b=>if b.1=true then(te a b.2).bind fun r=>if ys.length<sizeLine then xD e tc te s k (i+1) a r.2 (ys++[r.1])else none
   else xD e tc te s k (i+1) a b.2 ys
noncomputable def mF(l:LI)(a:Oe (Oo Nat)):LI:=a.map fun o=>match o with | some j=>(l[j]?).join | none=>none
def lC(g:RI)(b:RG)(tc:RT)(te:RE)(a:Oe (Oo Nat)):RE:=fun l h=>(g l h).bind fun r=>(xD b tc te r.1 (r.1.fuel r.2) 0 (mF l a) r.2 []).bind fun q=>ε (.lst q.1,q.2)
def PF(g:RI)(b:RG)(tc:RT)(te:RE)(a:Oe (Oo Nat)):RE:=fun l h=>(g l h).bind fun r=>(xD b tc te r.1 (r.1.fuel r.2) 0 (mF l a) r.2 []).bind fun q=>ε (.ref q.2.length,q.2++[.lst q.1])
noncomputable def aB:RT:=fun _ h=>ε (true,h)
def ly{K:Pb}(L:Yi K H ρ l f)(a):Yi K H ρ (mF l a) (HG f a):=by
 refine⟨by simp[mF,HG],fun i d e=>?_⟩;unfold mF at e;unfold HG;rw[uq]at e ⊢;cases q:a[i]? with
 | none=>rw[q]at e;cases e
 | some o=>
  rw[q]at e;cases o with
  | none=>cases e
  | some j=>
   have b:(l[j]?).join=ε d:=by simpa using e
   have h:l[j]?=ε (ε d):=by
    cases z:l[j]? with
    | none=>rw[z]at b;cases b
    | some y=>rw[z]at b;simpa using b
   obtain⟨v,g,g2⟩:=L.val j d h;refine⟨v,?_,g2⟩;simp[g]
section
variable{X:Cx}{elt iter tg:Pa}{a:Oe Pa}{scope:Scope}{cl:Oe (Str×O4)}{pos:Pos}{Nc:Oe Str}{g:RI}{bd:RG}{tc:RT}{te:RE}{cap:Oe (Oo Nat)}
@[irreducible] def CM(X:Cx)(a:Oe Pa)(f:RT):Prop:=rJ X a (DN X.K f)
def WC:CM X [] aB:=by unhygienic exact fun d s f H Q I q=>by obtain⟨i,l,h,b,j,S,L,e,k⟩:=q;cases e;exact Xl d s f H Q I (k i H S (vc.refl _ _))
def NP(h:TM X c f):CM X [c] f:=by unhygienic exact Yl h
end
section
variable{K:Pb}{H:Hp}{ρ:Rg}{p:O4}{o:HO}{h:HI}
def l8(hp:H p=none)(e:H a=ε u)(n:ρ.no a):(ρ.hide p).no a:=
 ⟨n.1,fun z=>by
  rcases Ba.mp z with z | z
  . rw[z,hp]at e;cases e
  . exact n.2 z⟩
def vc.hX(x:vc (ρ.hide p) b H H'):∃a,b=a.hide p/\vc ρ a H H':=by
 refine⟨⟨b.v,ρ.z⟩,?_,⟨x.pre,rfl,x.keep,x.live,x.fz⟩⟩;have e:=x.hid;cases b with
 | mk v z=>have d:z=p::ρ.z:=e;subst d;rfl
def vc.ma(x:vc ρ b H f)(hp:H p=none):vc ρ b H (pB f p o):=
 ⟨x.pre,x.hid,fun a u e n=>by rw[XA (UC e hp)];exact x.keep a u e n,fun a e=>by
  by_cases d:a=p
  . rw[d];exact hp
  . rw[XA d]at e;exact x.live a e,fun a q u e=>by rw[XA (UC e hp)];exact x.fz a q u e⟩
def bz.same(x:ay ρ i H k)(e:k a=H a)(q:bz K H ρ a u):bz K k i a u:=by
 cases u with
 | lst r=>obtain⟨b,f,d⟩:=q;exact⟨b,e.trans f,Ti.same x _ d⟩
 | ins y fs=>obtain⟨C,n,b,m,f,d,g⟩:=q;exact⟨C,n,b,m,e.trans f,d,Ti.same x _ g⟩
 | dk j=>obtain⟨b,f,d,g⟩:=q;exact⟨b,e.trans f,d,Ti.same x _ g⟩
 | dt j=>obtain⟨b,f,d,g⟩:=q;exact⟨b,e.trans f,d,Ti.same x _ g⟩
 | df j=>obtain⟨o,b,f,d,g⟩:=q;exact⟨o,b,e.trans f,d,Ti.same x _ g⟩
def Yi.same(x:ay ρ a H b)(L:Yi K H ρ l σ):Yi K b a l σ:=
 ⟨L.len,fun i d e=>let ⟨v,e1,r⟩:=L.val i d e;⟨v,e1,T3.same x d r⟩⟩
def xX(hp:H p=none):ay ρ (ρ.hide p) H (pB H p o):=
 ⟨fun z z e n=>l8 hp e n,fun a u e z=>by rw[XA (UC e hp)];exact e,fun z z e=>e,fun a q u e=>by rw[XA (UC e hp)];exact e⟩
def HR(b:yU H p):ay (ρ.hide p) (ρ.hide p) H (pB H p o):=
 ⟨fun v v v n=>n,fun a u e n=>by rw[XA (fun z=>n.2 (by rw[z];exact tu))];exact e,fun v v e=>e,fun a q u e=>by rw[XA (fun z:a=p=>b q u (by rw[<- z];exact e))];exact e⟩
def yX:ay (ρ.hide p) ρ H H:=⟨fun q q q n=>⟨n.1,fun z=>n.2 (nu _ z)⟩,fun q q e q=>e,fun q q e=>e,fun q q q e=>e⟩
def zY:ay (ρ.hide p) (ρ.add p) H H:=
 ⟨fun a q q n=>⟨fun z=>(Bo.mp z).elim n.1 fun z=>n.2 (by rw[Ao.mp z];exact tu),fun z=>n.2 (nu _ z)⟩,fun q q e q=>e,fun n a e=>by
  have b:ρ.v[n]?=ε a:=e;have:=(Wk b).1;show(ρ.v++[p])[n]?=ε a;rw[Xo this];exact b,fun q q q e=>e⟩
def Ve.hide(S:Ve K ρ h H)(hp:H p=none):Ve K (ρ.hide p) h (pB H p (.lst xs)):=
 ⟨S.nd,S.len,fun n a u b e2=>(S.ob n a u b e2).same (xX hp) (XA (fun z=>(S.out hp).1 (z ▸ kj b))),fun a d=>by
  rcases Ba.mp d with z | z
  . rw[z];exact⟨(S.out hp).1,xs,oC⟩
  . obtain⟨m,u,e⟩:=S.zt a z;exact⟨m,u,by rw[XA (UC e hp)];exact e⟩⟩
def Ve.md(S:Ve K (ρ.hide p) h H):Ve K (ρ.hide p) h (pB H p (.lst xs)):=
 ⟨S.nd,S.len,fun n a u d e2=>(S.ob n a u d e2).same (HR (FH (S.zt p tu).2.choose_spec)) (XA (fun z=>(S.zt p tu).1 (z ▸ kj d))),fun a f=>by
  obtain⟨m,u,e⟩:=S.zt a f;by_cases b:a=p
  . subst b;exact⟨m,xs,oC⟩
  . exact⟨m,u,by rw[XA b];exact e⟩⟩
def Ve.show(S:Ve K (ρ.hide p) h H):Ve K ρ h H:=
 ⟨S.nd,S.len,fun n a u d e2=>(S.ob n a u d e2).same yX rfl,fun a b=>S.zt a (nu _ b)⟩
def Ve.me(S:Ve K (ρ.hide p) h H)(hz:p∉ρ.z)(e:H p=ε (.lst vs))(R:Ti K H (ρ.hide p) ds vs):Ve K (ρ.add p) (h++[.lst ds]) H:=by
 have q:=(S.zt p tu).1;refine⟨?_,by simp![Rg.add];rw[je,je,<- S.len];rfl,fun n a ob d e2=>?_,fun a g=>?_⟩
 . simp![Rg.add];rw[nodup_append];refine⟨S.nd,Mi.mpr ⟨by simp,nodup_nil⟩,fun a g b r=>?_⟩;rw[Ao.mp r];intro z;exact q (z ▸ g)
 . simp![Rg.add]at d;have j:ρ.v.length=h.length:=S.len;by_cases i:n<h.length
   . rw[Xo i]at e2;rw[Xo (by rw[j];exact i)]at d;exact(S.ob n a ob d e2).same zY rfl
   . have f:h.length<=n:=Je.mp i;rw[Zu f]at e2;rw[Zu (by rw[j];exact f),j]at d;cases m:n-h.length with
     | zero=>rw[m]at d e2;simp at d e2;subst d e2;exact⟨vs,e,Ti.same zY _ R⟩
     | succ k=>rw[m]at e2;simp at e2
 . obtain⟨n,u,s⟩:=S.zt a (nu _ g);refine⟨fun hm=>?_,u,s⟩;rcases Bo.mp hm with hm | hm
   . exact n hm
   . exact hz ((Ao.mp hm) ▸ g)
end
section
variable{X:Cx}{s f j:Pa}{p:Oe Pa}{scope:Scope}{t:Oe (Str×O4)}{pos:Pos}{Nc:Oe Str}{g:RI}{A:RG}{tc:RT}{te:RE}{c:Oe (Oo Nat)}
def RL(own)(S:Ve X.K ρ h H)(L:Yi X.K H ρ l σ)
 (e:(if own=true then PF g A tc te c else lC g A tc te c) l h=ε (d,h')) (k:Out X.K ρ H d h' Q):eU (iM X.K g) (gM X.K A) (DN X.K tc) (tM X.K te) c σ H Q:=by
 have e0:∃I M,g l h=ε (I,M)/\∃E F,xD A tc te I (I.fuel M) 0 (mF l c) M []=ε (E,F)/\h'=(if own=true then F++[.lst E]else F)/\d=(if own=true then .ref F.length else .lst E):=by
  cases own with
  | true=>rw[dz rfl]at e;obtain⟨⟨I,M⟩,e1,e⟩:=nA e;obtain⟨⟨E,F⟩,e2,e⟩:=nA e;cases e;exact⟨I,M,e1,E,F,e2,rfl,rfl⟩
  | false=>rw[eG Vu]at e;obtain⟨⟨I,M⟩,e1,e⟩:=nA e;obtain⟨⟨E,F⟩,e2,e⟩:=nA e;cases e;exact⟨I,M,e1,E,F,e2,rfl,rfl⟩
 obtain⟨I,M,e1,zs,F,e2,eh,ed⟩:=e0;refine⟨ρ,l,h,I,M,S,L,e1,fun O J H1 ok S1 E1 D W=>?_⟩;have a3:D∉O.z:=(S1.out W).2;refine⟨fun i m a0 E H'=>∃r l' h' ds,Ve X.K (r.hide D) h' H'/\Yi X.K H' (r.hide D) l' a0/\vc O r H1 H'/\H' D=ε (.lst E)/\Ti X.K H' (r.hide D) ds E/\xD A tc te I m i l' h' ds=ε (zs,F),?_,?_⟩
 . exact⟨_,O,_,M,[],S1.hide W,ly (Yi.same (xX W) (L.ext E1)) c,vc.fresh W,oC,.nil,e2⟩
 . rintro i m a0 E H' ⟨r,l',h3,ds,Z,L',C,R,R',B⟩;cases m with
   | zero=>simp![xD]at B;cases B
   | succ m=>
    simp![xD]at B;have sm:ay O (r.hide D) H1 H':=⟨fun a u z n=>⟨(C.gx z n).1,fun w=>by
     rcases Ba.mp w with w | w
     . rw[w,W]at z;cases z
     . exact(C.gx z n).2 w⟩,fun a u z n=>C.keep a u z n.1,fun n a z=>C.get z,C.fz⟩
    have P:=ok H' (r.hide D) h3 sm Z i;cases q:I.at h3 i with
    | none=>rw[q]at B;cases B
    | some o=>
     rw[q]at B P;cases o with
     | none=>
      cases B;refine .inl ⟨P,?_⟩;have nD:r.no D:=⟨(Z.zt D tu).1,by rw[C.hid];exact a3⟩;cases own with
      | false=>rw[eG Vu]at eh ed;subst eh ed;exact k r _ H' (br.mpr ⟨D,E,rfl,.inl ⟨nD,.inl R⟩,Ti.same yX _ R'⟩) Z.show (E1.trans C)
      | true=>
       rw[dz rfl]at eh ed;subst eh ed;refine k (r.add D) _ H' (ad.mpr ⟨D,rfl,?_⟩) (Z.me nD.2 R R') (E1.trans ⟨?_,C.hid,C.keep,C.live,C.fz⟩)
       . have hl:r.v.length=F.length:=Z.len;show(r.v++[D])[F.length]?=ε D;rw[<- hl,Zu (Us _),Di];rfl
       . obtain⟨x,q1,q2⟩:=C.pre;refine⟨x++[D],by show r.v++[D]=_;rw[q1,n7],fun a ha=>?_⟩;rcases Bo.mp ha with ha | ha
         . exact q2 a ha
         . rw[Ao.mp ha];exact W
     | some d0=>
      dsimp only at B;obtain⟨l1,b1,B⟩:=nA B;obtain⟨⟨b,h4⟩,b2,B⟩:=nA B;refine .inr ⟨P.1,fun v H3 y=>?_⟩;obtain⟨R3,Y,S3⟩:=P.2 v H3 y;have a1:=(Z.zt D tu).1;refine⟨r.hide D,l',h3,d0,l1,S3,L'.ext Y,R3,b1,fun a4 L4=>⟨r.hide D,l1,h3,b,h4,S3,L4,b2,fun a2 H5 S5 T=>?_⟩⟩;cases b with
      | true=>
       dsimp only at B;rw[dz rfl]at B;obtain⟨⟨d5,h5⟩,b3,B⟩:=nA B;by_cases hz:ds.length<sizeLine
       . rw[dz hz]at B;refine DH ⟨a2,l1,h4,d5,h5,S5,L4.ext T,b3,fun a5 v6 H6 R6 S6 E6=>⟨?_,by rw[R'.length];exact hz,m,yu _,?_⟩⟩
         . exact(Y.trans (T.trans E6)).keep D _ R a1
         . obtain⟨U,rfl,E7⟩:=(Y.trans (T.trans E6)).hX;refine⟨U,l1,h5,ds++[d5],S6.md,Yi.same (HR (FH (S6.zt D tu).2.choose_spec)) (L4.ext (T.trans E6)),(C.trans E7).ma W,oC,?_,B⟩;exact Ti.same (HR (FH (S6.zt D tu).2.choose_spec)) _ ((R'.ext (Y.trans (T.trans E6))).append (.cons R6 .nil))
       . rw[eG hz]at B;cases B
      | false=>dsimp only at B;rw[eG Vu]at B;refine BH ⟨m,yu _,?_⟩;obtain⟨U,rfl,E7⟩:=(Y.trans T).hX;exact⟨U,l1,h4,ds,S5,L4.ext T,C.trans E7,(Y.trans T).keep D _ R a1,R'.ext (Y.trans T),B⟩
def lF(i)(e:decide X.N.Nodup=true:=by kernel_rfl)(b:autoParam (X.N[i]?=ε x) Æ)(a:autoParam (sN X.env.scope x) ö)(d:autoParam (X.fn x=true\/X.env.scope.names.lookup x=ε .local) ð):GM X (.Name x pos) (uA i):=HC i (of_decide_eq_true e) b a d
def gE(q:IM X j f g)(r:∀{C s0 H0 fp},GM (OF X (gI j X.N c) scope t C s0 H0 fp) j A)(o:∀{C s0 H0 fp},CM (OF X (gI j X.N c) scope t C s0 H0 fp) p tc)(he:∀{C s0 H0 fp},EM (OF X (gI j X.N c) scope t C s0 H0 fp) s te)
 (u:autoParam (X.calm=true) Æ) (i:autoParam (∀y∈scope.names,y.2≠.cell) å) (b:autoParam (scope.kind=.function) Æ)
 (a:autoParam (∀y∈scope.names,y.2=.local->scope.names.lookup y.1=ε .local) å) (n:autoParam (RD X.env.cells scope.names []=ε t) Æ) (m:aw X scope t (gI j X.N c) c:=by repeat' first | exact trivial | exact⟨rfl,.inl rfl,.inl rfl,rfl⟩ | refine⟨?_,?_⟩)
 (hs:autoParam (∀x,foldedSetIterable f X.env x=pure x) Ø):EM X (.ListComp s [⟨j,f,p,0⟩] scope pos) (lC g A tc te c):=by
 unhygienic exact PE.imp (u0 (g:=gM X.K A) (tc:=DN X.K tc) (te:=tM X.K te) u q n (.no i) b a m (fun v z=>nomatch z) (fun v v v v=>r) (fun v v v v=>o) (fun v v v v=>he) hs) fun B H Q ⟨D,l,h,d,E,S,L,e,k⟩=>RL (X:=X) false S L e k
def fY(q:IM X j f g)(r:∀{C s0 H0 fp},GM (OF X (gI j X.N c) scope t C s0 H0 fp) j A)(o:∀{C s0 H0 fp},CM (OF X (gI j X.N c) scope t C s0 H0 fp) p tc)(he:∀{C s0 H0 fp},EM (OF X (gI j X.N c) scope t C s0 H0 fp) s te)
 (u:autoParam (X.calm=true) Æ) (i:autoParam (∀y∈scope.names,y.2≠.cell) å) (b:autoParam (scope.kind=.function) Æ)
 (a:autoParam (∀y∈scope.names,y.2=.local->scope.names.lookup y.1=ε .local) å) (n:autoParam (RD X.env.cells scope.names []=ε t) Æ) (m:aw X scope t (gI j X.N c) c:=by repeat' first | exact trivial | exact⟨rfl,.inl rfl,.inl rfl,rfl⟩ | refine⟨?_,?_⟩)
 (hs:autoParam (∀x,foldedSetIterable f X.env x=pure x) Ø):EM X (.ListComp s [⟨j,f,p,0⟩] scope pos) (PF g A tc te c):=by
 unhygienic exact PE.imp (u0 (g:=gM X.K A) (tc:=DN X.K tc) (te:=tM X.K te) u q n (.no i) b a m (fun v z=>nomatch z) (fun v v v v=>r) (fun v v v v=>o) (fun v v v v=>he) hs) fun B H Q ⟨D,l,h,d,E,S,L,e,k⟩=>RL (X:=X) true S L e k
def RJ(i)(R:X.N.Nodup)(O:IM X j f g)(P:∀{C s0 H0 fp},GM (OF X (gI j X.N c) scope t C s0 H0 fp) j A)(M:∀{C s0 H0 fp},CM (OF X (gI j X.N c) scope t C s0 H0 fp) p tc)(he:∀{C s0 H0 fp},EM (OF X (gI j X.N c) scope t C s0 H0 fp) s te)
 (Q:autoParam (X.calm=true) Æ) (m:autoParam (∀y∈scope.names,y.2≠.cell) å) (d:autoParam (scope.kind=.function) Æ)
 (a:autoParam (∀y∈scope.names,y.2=.local->scope.names.lookup y.1=ε .local) å) (B:autoParam (RD X.env.cells scope.names []=ε t) Æ) (n:aw X scope t (gI j X.N c) c:=by repeat' first | exact trivial | exact⟨rfl,.inl rfl,.inl rfl,rfl⟩ | refine⟨?_,?_⟩)
 (q:autoParam (swapsWith (.ListComp s [⟨j,f,p,0⟩] scope pos) (ε (.Name y E)) b.line X.env=pure true) Æ)
 (u:autoParam (X.N[i]?=ε y) Æ) (J:autoParam (X.env.scope.names.lookup y=ε .local) Æ) (hs:autoParam (∀x,foldedSetIterable f X.env x=pure x) Ø) :
 ZM X (.Assign [.Name y E] (.ListComp s [⟨j,f,p,0⟩] scope pos) b) (CA i (lC g A tc te c)):=by
 unhygienic exact PS.imp (GR (g:=gM X.K A) (tc:=DN X.K tc) (te:=tM X.K te) Q R u J O B (.no m) d a n (fun w z=>nomatch z) (fun w w w w=>P) (fun w w w w=>M) (fun w w w w=>he) q hs) fun D Z H I=>by obtain⟨ρ,l,h,r,S,L,e,k⟩:=I;obtain⟨⟨d1,h1⟩,T,e⟩:=nA e;cases e;exact RL (X:=X) false S L T fun o v Y W U F=>k o _ Y U ((L.ext F).set i W) F
def zR(i)(R:X.N.Nodup)(O:IM X j f g)(P:∀{C s0 H0 fp},GM (OF X (gI j X.N c) scope t C s0 H0 fp) j A)(M:∀{C s0 H0 fp},CM (OF X (gI j X.N c) scope t C s0 H0 fp) p tc)(he:∀{C s0 H0 fp},EM (OF X (gI j X.N c) scope t C s0 H0 fp) s te)
 (Q:autoParam (X.calm=true) Æ) (m:autoParam (∀y∈scope.names,y.2≠.cell) å) (d:autoParam (scope.kind=.function) Æ)
 (a:autoParam (∀y∈scope.names,y.2=.local->scope.names.lookup y.1=ε .local) å) (B:autoParam (RD X.env.cells scope.names []=ε t) Æ) (n:aw X scope t (gI j X.N c) c:=by repeat' first | exact trivial | exact⟨rfl,.inl rfl,.inl rfl,rfl⟩ | refine⟨?_,?_⟩)
 (q:autoParam (swapsWith (.ListComp s [⟨j,f,p,0⟩] scope pos) (ε (.Name y E)) b.line X.env=pure true) Æ)
 (u:autoParam (X.N[i]?=ε y) Æ) (J:autoParam (X.env.scope.names.lookup y=ε .local) Æ) (hs:autoParam (∀x,foldedSetIterable f X.env x=pure x) Ø) :
 ZM X (.Assign [.Name y E] (.ListComp s [⟨j,f,p,0⟩] scope pos) b) (CA i (PF g A tc te c)):=by
 unhygienic exact PS.imp (GR (g:=gM X.K A) (tc:=DN X.K tc) (te:=tM X.K te) Q R u J O B (.no m) d a n (fun w z=>nomatch z) (fun w w w w=>P) (fun w w w w=>M) (fun w w w w=>he) q hs) fun D Z H I=>by obtain⟨ρ,l,h,r,S,L,e,k⟩:=I;obtain⟨⟨d1,h1⟩,T,e⟩:=nA e;cases e;exact RL (X:=X) true S L T fun o v Y W U F=>k o _ Y U ((L.ext F).set i W) F
end
noncomputable def bT(Nc:Oe Str)(a:Oe (Oo Nat))(x:Str):Bool:=(Nc.zip a).all fun p=>!(p.1==x&&p.2.isSome)
def Mg(h:bT Nc cap x=true):∀(i j:Nat),Nc[i]?=ε x->cap[i]?=ε (ε j)->False:=fun i j b e2=>by
 unfold bT at h;rw[all_eq_true]at h;have a:(x,ε j)∈Nc.zip cap:=by rw[mem_iff_getElem?];exact⟨i,by rw[getElem?_zip_eq_some];exact⟨b,e2⟩⟩
 have:=h _ a;simp at this
section
variable{X:Cx}{c a j:Pa}{b:Oe Pa}{scope:Scope}{f:Oe (Str×O4)}{pos:Pos}{Nc:Oe Str}{g:RI}{m:RG}{tc:RT}{te:RE}{d:Oe (Oo Nat)}{x0:Str}
def Zy(i)(T:X.calm=true)(U:X.N.Nodup)(Q:IM X j a g)(one:cy scope.names (ε x0))(p:scope.kind=.function)
 (n:∀y∈scope.names,y.2=.local->scope.names.lookup y.1=ε .local) (F:RD X.env.cells scope.names []=ε f) (q:aw X scope f Nc d) (u:bT Nc d x0=true)
 (R:∀{C s0 H0 fp},GM (YC X Nc scope f C (ε x0) s0 H0 fp) j m) (P:∀{C s0 H0 fp},CM (YC X Nc scope f C (ε x0) s0 H0 fp) b tc) (he:∀{C s0 H0 fp},EM (YC X Nc scope f C (ε x0) s0 H0 fp) c te)
 (B:swapsWith (.ListComp c [⟨j,a,b,0⟩] scope pos) (ε (.Name y I)) o.line X.env=pure true)
 (E:autoParam (X.N[i]?=ε y) Æ) (O:autoParam (X.env.scope.names.lookup y=ε .local) Æ) (hs:autoParam (∀x,foldedSetIterable a X.env x=pure x) Ø) :
 ZM X (.Assign [.Name y I] (.ListComp c [⟨j,a,b,0⟩] scope pos) o) (CA i (lC g m tc te d)):=by
 unhygienic exact PS.imp (GR (g:=gM X.K m) (tc:=DN X.K tc) (te:=tM X.K te) T U E O Q F one p n q (fun t z=>by cases z;exact Mg u) (fun t t t t=>R) (fun t t t t=>P) (fun t t t t=>he) B hs) fun D σ H M=>by obtain⟨ρ,l,h,r,S,L,e,k⟩:=M;obtain⟨⟨d1,h1⟩,W,e⟩:=nA e;cases e;exact RL (X:=X) false S L W fun s v H1 Z Y J=>k s _ H1 Y ((L.ext J).set i Z) J
end
noncomputable def TB:Oe Dt->Oo (Oe Int)
 | []=>ε []
 | .int i::ds=>(TB ds).map fun ns=>i::ns
 | _::_=>none
theorem aE:∀{ds:Oe Dt}{ns:Oe Int},TB ds=ε ns->ds=ns.map Dt.int
 | [],_,e=>by simp![TB]at e;cases e;rfl
 | d::ds,_,e=>by
  cases d with
  | int i=>
   simp![TB]at e;cases q:TB ds with
   | none=>rw[q]at e;cases e
   | some ns=>rw[q]at e;cases e;rw[aE q];rfl
  | _=>simp![TB]at e<;>cases e
def iS(A:Ro):A.in1.units<=A.units+1:=by first | exact Us _ | simp[Around.in1]
def WJ(p:IsTup h a its):h.IsTuple a its:=by obtain⟨o,e,d,n,b⟩:=p;exact⟨o,e,d,n,b⟩
def sQ:Dt->Dt->Bool
 | .tup xs,.tup ys=>decide (TB xs=TB ys)
 | _,_=>false
def qH:Dt->Bool
 | .tup a=>(TB a).isSome
 | _=>false
def pK:Oe Dt->Bool
 | []=>true
 | x::xs=>qH x&&pK xs
noncomputable def DQ(_:Dt):Nat:=1
def wK:Oe Dt->Nat
 | []=>0
 | x::xs=>max (DQ x) (wK xs)
theorem GO:∀{d:Dt},qH d=true->∃a ns,d=.tup a/\TB a=ε ns
 | .tup a,p=>by obtain⟨ns,e⟩:=Option.isSome_iff_exists.mp (show(TB a).isSome=true from p);exact⟨a,ns,rfl,e⟩
 | .non,p=>nomatch (show false=true from p)
 | .bl _,p=>nomatch (show false=true from p)
 | .int _,p=>nomatch (show false=true from p)
 | .str _,p=>nomatch (show false=true from p)
 | .lst _,p=>nomatch (show false=true from p)
 | .ref _,p=>nomatch (show false=true from p)
 | .ntp _,p=>nomatch (show false=true from p)
section
variable{X:Cx}{c:Oe (O4×Obj)}{f:L2.St}{H:Hp}{s:Ou}{ρ:Rg}
theorem BI:∀{ns:Oe Int}{vs:Oe V},Ti X.K H ρ (ns.map Dt.int) vs->vs=ns.map V.int
 | [],_,r=>r.ba
 | n::ns,_,r=>by obtain⟨v,d,rfl,b,a⟩:=r.Zi;rw[Xa.mp b,BI a];rfl
theorem jS:∀{ns b:Oe Int}{us a:Oe Oi},va (ns.map V.int) us->va (b.map V.int) a->∀(j:Nat)(h1:j<us.length)(h2:j<a.length),SeqAt.EqAt A s us[j] a[j] (decide (ns[j]?=b[j]?))
 | [],_,_,_,.nil,_,_,h1,_=>Ea h1 ⋯
 | _::_,[],_,_,_,.nil,_,_,h2=>Ea h2 ⋯
 | n::ns,m::b,_,_,.cons q1 _,.cons q2 _,0,_,_=>by
  obtain⟨t,rfl⟩:=q1;obtain⟨d,rfl⟩:=q2;have e:decide ((n::ns)[0]?=(m::b)[0]?)=(n==m):=by rw[Bool.eq_iff_iff];simp
  rw[e];exact SeqAt.EqAt.int_int n t m d
 | _::_,_::_,_,_,.cons _ q1,.cons _ q2,j+1,h1,h2=>jS q1 q2 j (Nat.lt_of_succ_lt_succ h1) (Nat.lt_of_succ_lt_succ h2)
def bZ(ns d:Oe Int):((List.range (min ns.length d.length)).all (fun j=>decide (ns[j]?=d[j]?))&&ns.length==d.length)=decide (ns=d):=by
 rw[Bool.eq_iff_iff];simp![vm,all_eq_true,Bu,decide_eq_true_eq,beq_iff_eq];constructor
 . rintro⟨a,b⟩;refine ext_getElem? fun j=>?_
   by_cases e:j<ns.length
   . exact a j nofun
   . rw[ju nofun,ju nofun]
 . rintro rfl;exact⟨fun q q=>rfl,rfl⟩
def I0(I:u7 X c f H s)(d d')(p:qH d=true)(n:qH d'=true)(r:T3 X.K H ρ d v)(k:T3 X.K H ρ d' v):d=d':=by obtain⟨x,ns,rfl,e⟩:=GO p;obtain⟨u,C,rfl,o⟩:=GO n;obtain⟨a,B,z,q,j⟩:=ai.mp r;obtain⟨b,y,i,m,g⟩:=ai.mp k;rw[z]at i;cases i;cases I.hI q.sq m.sq;rw[aE e]at j ⊢;rw[aE o]at g ⊢;have:=(BI j).symm.trans (BI g);rw[map_inj_right (fun t t h=>by cases h;rfl)]at this;rw[this]
def g9(I:u7 X c f H s)(d d')(A)(p:qH d=true)(F:qH d'=true)(T:A.units+DQ d<cLine)(r:T3 X.K H ρ d v)(E:T3 X.K H ρ d' y)(q:ve v u)(R:ve y B):SeqAt.EqAt A s u B (sQ d d'):=by
 obtain⟨x,ns,rfl,e⟩:=GO p;obtain⟨o,J,rfl,n⟩:=GO F;obtain⟨a,Z,z,t,D⟩:=ai.mp r;obtain⟨b,Y,O,Q,h⟩:=ai.mp E;subst z O;cases q;cases R;have m:A.units<cLine:=Ds (Ma _ _) T;have M:sQ (.tup x) (.tup o)=decide (ns=J):=by show decide (TB x=TB o)=_;rw[e,n,Bool.eq_iff_iff];simp
 by_cases i:a=b
 . subst i;cases I0 I _ _ p F r E;cases e.symm.trans n;rw[M,g8 rfl];exact SeqAt.EqAt.same _
 . refine .of_refs i ?_;obtain⟨S,C,P,_⟩:=I.tuple t.sq;obtain⟨L,g,k,_⟩:=I.tuple Q.sq;rw[aE e]at D;rw[aE n]at h;cases BI D;cases BI h;have z:=SeqAt.RcAt.tuples (e:=fun j=>decide (ns[j]?=J[j]?)) (WJ P) (WJ k) m fun j W U=>jS C g j W U
   rw[cG,cG,<- C.length,<- g.length,mq,mq,bZ]at z;rw[M];exact z
end
section
variable{X:Cx}{a b c e:Pa}{es:Oe Pa}{fa fb fc f:RE}{g:RA}{p p2 pos:Pos}
def mB:qD:=M6
def rD:qD:=T6
def bC(_:X.A.units+64<cLine):OM X (compareOp .Eq) mB:=Z4
def xF(_:X.A.units+64<cLine):OM X (compareOp .NotEq) rD:=J5
def mE:Oe Dt->Oo (Oe V)
 | []=>ε []
 | d::ds=>(vD d).bind fun v=>(mE ds).map fun h=>v::h
theorem jY{K:Pb}:∀{ds:Oe Dt}{h vs:Oe V},mE ds=ε h->Ti K H ρ ds vs->vs=h
 | [],_,_,e,r=>by simp![mE]at e;cases e;exact r.ba
 | d::ds,_,_,e,r=>by
  simp![mE]at e;obtain⟨v,k,e⟩:=nA e;cases q:mE ds with
  | none=>rw[q]at e;cases e
  | some vs=>rw[q]at e;cases e;obtain⟨m,n,z,j,i⟩:=r.Zi;subst z;rw[YJ k j,jY q i]
def B2(e:vD d=ε v):IG v=true:=by cases d<;>simp![vD]at e<;>first | (cases e;rfl) | cases e
theorem mZ:∀{ds:Oe Dt}{h:Oe V},mE ds=ε h->h.all IG=true
 | [],_,e=>by simp![mE]at e;cases e;rfl
 | d::ds,_,e=>by
  simp![mE]at e;obtain⟨v,i,e⟩:=nA e;cases q:mE ds with
  | none=>rw[q]at e;cases e
  | some j=>rw[q]at e;cases e;rw[Ks,B2 i,mZ q];rfl
def OG(neg:Bool):qD:=fun a b h=>(vD a).bind fun x=>(sD h b).bind fun d=>(mE d).bind fun zs=>ε (.bl (if neg then !nN x zs else nN x zs),h)
def qZ(h:rM X.K (OG neg) x y H Q):X7 X.K neg x y H Q:=by obtain⟨m,h,F,E,d,D,S,u,R2,e,k⟩:=h;obtain⟨C,j,e⟩:=nA e;obtain⟨B,e2,e⟩:=nA e;obtain⟨zs,i,e⟩:=nA e;cases e;obtain⟨p,n,s,sq,r⟩:=zP S R2 e2;have q:=jY i r;subst q;have o:=YJ j u;subst o;exact⟨p,n,s,sq,B2 j,mZ i,k m _ H (Za.mpr rfl) S (vc.refl _ _)⟩
def Jx:OM X (compareOp .In) (OG false):=by unhygienic exact vu.imp Vd fun q q q q h=>qZ h
def CS:OM X (compareOp .NotIn) (OG true):=by unhygienic exact vu.imp Gy fun q q q q h=>qZ h
def wG:qD:=fun a b h=>(BA h a).bind fun i=>(BA h b).bind fun d=>if i.length+d.length<=sizeLine then ε (.lst (i++d),h)else none
def HD:qD:=fun a b h=>(BA h a).bind fun i=>(BA h b).bind fun d=>if i.length+d.length<=sizeLine then ε (.ref h.length,h++[.lst (i++d)])else none
def xT:OM X (binaryOp .Add) wG:=by unhygienic exact vu.imp ZZ fun x y H Q n=>by obtain⟨m,h,J,I,d,F,S,C,R2,e,k⟩:=n;obtain⟨E,B,e⟩:=nA e;obtain⟨D,e2,e⟩:=nA e;obtain⟨u,e⟩:=EF e;cases e;obtain⟨l,s,q,q1,j⟩:=zC S C B;obtain⟨b,r,o,q2,i⟩:=zC S R2 e2;exact⟨l,b,s,r,q,o,q1,q2,by rw[j.length,i.length];exact u,fun p hp=>k m _ _ (mK S (j.append i) hp) (S.fresh hp) (vc.fresh hp)⟩
def NI:OM X (binaryOp .Add) HD:=by unhygienic exact vu.imp ZZ fun x y H Q m=>by obtain⟨C,h,J,I,d,F,S,B,R2,e,k⟩:=m;obtain⟨E,u,e⟩:=nA e;obtain⟨D,e2,e⟩:=nA e;obtain⟨s,e⟩:=EF e;cases e;obtain⟨l,r,o,q1,j⟩:=zC S B u;obtain⟨b,q,n,q2,i⟩:=zC S R2 e2;exact⟨l,b,r,q,o,n,q1,q2,by rw[j.length,i.length];exact s,fun p hp=>k _ _ _ (bI S (j.append i) hp).1 (bI S (j.append i) hp).2 (vc.own hp)⟩
noncomputable def VB(F:Dt->HI->Oo (Dt×HI))(f:RE):RE:=fun l h=>(f l h).bind fun r=>F r.1 r.2
def AK(I:ae X (.builtin o) r)(M:∀i h d v u j H Q,Ve X.K i h H->T3 X.K H i d v->F d h=ε (u,j)->Out X.K i H u j Q->r [v] H Q)
 (E:Gl X x) (D:X.mg x=none) (B:bootBuiltins x=ε (.builtin o)) (J:EM X e f) (C:autoParam (x ≠ "__name__" ) Ñ) (n:autoParam ((x==("__debug__" :Str))=false) Ñ) (hs:autoParam (ZA e=true) Æ) :
 EM X (.Call (.Name x p) [e] [] pos) (VB F f):=by
 unhygienic exact PE.imp (mM I E D B (mC J cD (fB hs _ _)) C n (he:=fB hs _ _)) fun W H Q y=>by obtain⟨i,l,h,d,j,S,L,e,k⟩:=y;obtain⟨⟨s,q⟩,O,e⟩:=nA e;exact⟨i,l,h,s,q,S,L,O,fun m v T R P U=>M m q s v d j T Q P R e (k.ext U)⟩
def M4(E:ae X (.type T) r)(J:∀i h d v s j H Q,Ve X.K i h H->T3 X.K H i d v->F d h=ε (s,j)->Out X.K i H s j Q->r [v] H Q)
 (D:Gl X x) (C:X.mg x=none) (y:bootBuiltins x=ε (.type T)) (I:EM X e f) (B:autoParam (x ≠ "__name__" ) Ñ) (n:autoParam ((x==("__debug__" :Str))=false) Ñ) (hs:autoParam (ZA e=true) Æ) :
 EM X (.Call (.Name x p) [e] [] pos) (VB F f):=by
 unhygienic exact PE.imp (VR E D C y (mC I cD (fB hs _ _)) B n (he:=fB hs _ _)) fun W H Q u=>by obtain⟨i,l,h,d,j,S,L,e,k⟩:=u;obtain⟨⟨q,o⟩,M,e⟩:=nA e;exact⟨i,l,h,q,o,S,L,M,fun m v R P O U=>J m o q v d j R Q O P e (k.ext U)⟩
def yB:Dt->HI->Oo (Dt×HI):=fun d h=>match d with
 | .str z=>if z.length<=sizeLine then ε (.int z.length,h)else none
 | d=>(sD h d).map fun i=>(.int i.length,h)
theorem bD (o:Gl X "len") (n:X.mg "len" =none) (s:EM X e f) (hs:autoParam (ZA e=true) Æ):EM X (.Call (.Name "len" p) [e] [] pos) (VB yB f):=by
 unhygienic
  exact AK (ae.or Ek Gk) (fun i h d v y x H Q S R e k=>by
   unfold yB at e;split at e
   . rename_i z;obtain⟨m,e⟩:=EF e;cases e;exact .inr ⟨z,by rw[cn.mp R],m,k i _ H (Xa.mpr rfl) S (vc.refl _ _)⟩
   . cases q:sD h d with
     | none=>rw[q]at e;cases e
     | some u=>
      rw[q]at e;cases e;obtain⟨a,j,z,sq,r⟩:=zP S R q;exact .inl ⟨a,j,by rw[z],sq,by rw[r.length];exact k i _ H (Xa.mpr rfl) S (vc.refl _ _)⟩) o n PySem.boot_len s (hs:=hs)
def NE:Dt->HI->Oo (Dt×HI):=fun d h=>(sD h d).map fun i=>(.ref h.length,h++[.lst i])
def zO (n:Gl X "list") (m:X.mg "list" =none) (o:EM X e f) (hs:autoParam (ZA e=true) Æ):EM X (.Call (.Name "list" p) [e] [] pos) (VB NE f):=by
 unhygienic
  exact M4 Jk (fun s h d v y x H Q S R e k=>by
   unfold NE at e;cases q:sD h d with
   | none=>rw[q]at e;cases e
   | some u=>
    rw[q]at e;cases e;obtain⟨a,j,z,sq,r⟩:=zP S R q;exact⟨a,j,by rw[z],sq,fun l i=>k _ _ _ (bI S r i).1 (bI S r i).2 (vc.own i)⟩) n m PyProof.Rows.boot_list o (hs:=hs)
def IW(ns):TB (ns.map Dt.int)=ε ns:=by
 induction ns with
 | nil=>rfl
 | cons n ns ih=>rw[Uo];simp![TB];rw[ih];rfl
def yJ:Dt->HI->Oo (Dt×HI):=fun d h=>(BA h d).bind fun i=>(TB i).map fun ns=>(.int ns.sum,h)
def X1 (o:X.calm=true) (n:Gl X "sum") (m:X.mg "sum" =none) (s:EM X e f) (hs:autoParam (ZA e=true) Æ):EM X (.Call (.Name "sum" p) [e] [] pos) (VB yJ f):=by
 unhygienic
  exact AK (Ur o) (fun i h d v B y H Q S R e k=>by
   obtain⟨j,u,e⟩:=nA e;cases q:TB j with
   | none=>rw[q]at e;cases e
   | some ns=>
    rw[q]at e;cases e;obtain⟨a,x,z,sq,r⟩:=zC S R u;rw[aE q]at r;rw[r.cm]at sq;exact⟨a,ns,by rw[z],sq,k i _ H (Xa.mpr rfl) S (vc.refl _ _)⟩) n m PyProof.Rows.boot_sum s (hs:=hs)
noncomputable def wC:Oe Int->Int
 | []=>0
 | [a]=>a
 | a::b::r=>max a (wC (b::r))
noncomputable def NB:Oe Int->Int
 | []=>0
 | [a]=>a
 | a::b::r=>min a (NB (b::r))
theorem QR:∀ns,ns ≠ []->wC ns∈ns/\∀a∈ns,a<=wC ns
 | [],h=>Ea rfl h
 | [a],_=>by simp[wC]
 | a::b::r,_=>by
  obtain⟨j,i⟩:=QR (b::r) ⋯;simp![wC];refine⟨?_,fun c d=>?_⟩
  . rcases Int.le_total a (wC (b::r))with z | z
    . rw[Int.max_eq_right z];exact nu _ j
    . rw[Int.max_eq_left z];exact tu
  . rcases Ba.mp d with z | z
    . rw[z];exact Int.le_max_left _ _
    . exact Int.le_trans (i c z) (Int.le_max_right _ _)
theorem RH:∀ns,ns ≠ []->NB ns∈ns/\∀a∈ns,NB ns<=a
 | [],h=>Ea rfl h
 | [a],_=>by simp[NB]
 | a::b::r,_=>by
  obtain⟨j,i⟩:=RH (b::r) ⋯;simp![NB];refine⟨?_,fun c d=>?_⟩
  . rcases Int.le_total a (NB (b::r))with z | z
    . rw[Int.min_eq_left z];exact tu
    . rw[Int.min_eq_right z];exact nu _ j
  . rcases Ba.mp d with z | z
    . rw[z];exact Int.min_le_left _ _
    . exact Int.le_trans (Int.min_le_right _ _) (i c z)
def UK:Dt->HI->Oo (Dt×HI):=fun d h=>(BA h d).bind fun i=>(TB i).bind fun ns=>if ns ≠ []then ε (.int (wC ns),h)else none
def xJ:Dt->HI->Oo (Dt×HI):=fun d h=>(BA h d).bind fun i=>(TB i).bind fun ns=>if ns ≠ []then ε (.int (NB ns),h)else none
def K1 (u:X.calm=true) (s:Gl X "max") (o:X.mg "max" =none) (x:EM X e f) (hs:autoParam (ZA e=true) Æ):EM X (.Call (.Name "max" p) [e] [] pos) (VB UK f):=by
 unhygienic
  exact AK (Kr u) (fun j h d v I F H Q S R e k=>by
   obtain⟨D,C,e⟩:=nA e;obtain⟨ns,q,e⟩:=nA e;obtain⟨i,e⟩:=EF e;cases e;obtain⟨a,E,z,sq,r⟩:=zC S R C;rw[aE q]at r;rw[r.cm]at sq;obtain⟨n,m⟩:=QR ns i;refine⟨a,ns,by rw[z],sq,i,fun M B y=>?_⟩;have:M=wC ns:=Int.le_antisymm (m M B) (y _ n);rw[this];exact k j _ H (Xa.mpr rfl) S (vc.refl _ _)) s o PyProof.Rows.boot_max x (hs:=hs)
def CT (u:X.calm=true) (s:Gl X "min") (o:X.mg "min" =none) (x:EM X e f) (hs:autoParam (ZA e=true) Æ):EM X (.Call (.Name "min" p) [e] [] pos) (VB xJ f):=by
 unhygienic
  exact AK (Mr u) (fun j h d v I F H Q S R e k=>by
   obtain⟨D,C,e⟩:=nA e;obtain⟨ns,q,e⟩:=nA e;obtain⟨i,e⟩:=EF e;cases e;obtain⟨a,E,z,sq,r⟩:=zC S R C;rw[aE q]at r;rw[r.cm]at sq;obtain⟨n,m⟩:=RH ns i;refine⟨a,ns,by rw[z],sq,i,fun M B y=>?_⟩;have:M=NB ns:=Int.le_antisymm (y _ n) (m M B);rw[this];exact k j _ H (Xa.mpr rfl) S (vc.refl _ _)) s o PyProof.Rows.boot_min x (hs:=hs)
noncomputable def yG(h:HI):Dt->Oo String
 | .non=>ε "NoneType"
 | .bl _=>ε "bool"
 | .int _=>ε "int"
 | .str _=>ε "str"
 | .tup _=>ε "tuple"
 | .lst _=>ε "list"
 | .ref n=>match h[n]? with | some (.lst _)=>ε "list" | _=>none
 | .ntp _=>none
noncomputable def ZF (t T:String):Bool:=t==T || (t == "bool" && T == "int")
def VG(T:String)(f:RE):RE:=fun l h=>(f l h).bind fun r=>(yG r.2 r.1).map fun t=>(.bl (ZF t T),r.2)
def mf (K):∀t ∈ ["NoneType", "bool", "int", "str", "tuple", "list"],∀T ∈ ["bool", "int", "str", "tuple", "list"],PySem.W.kitOne K (.type t) (.type T)=ε (ZF t T):=by intro t d T h;simp![Ba,mem_nil_iff,or_false]at d h;rcases d with rfl | rfl | rfl | rfl | rfl | rfl<;>rcases h with rfl | rfl | rfl | rfl | rfl<;>unhygienic rfl
def Cz (e:yG h d=ε t):t ∈ ["NoneType", "bool", "int", "str", "tuple", "list"]:=by
 cases d with
 | ref n=>
  simp![yG]at e;split at e
  . cases e;decide
  . cases e
 | ntp n=>simp![yG]at e;cases e
 | _=>simp![yG]at e<;>cases e<;>decide
set_option tactic.hygienic true in
theorem Zz{K:Pb}(S:Ve K ρ h H)(R:T3 K H ρ d v)(e:yG h d=ε t):TyD K H v t:=by
 cases d with
 | non=>cases bv.mp R;simp![yG]at e;cases e;rfl
 | bl b=>cases Za.mp R;simp![yG]at e;cases e;rfl
 | int b=>cases Xa.mp R;simp![yG]at e;cases e;rfl
 | str b=>cases cn.mp R;simp![yG]at e;cases e;rfl
 | tup j=>obtain⟨a,i,z,t,k⟩:=ai.mp R;subst z;simp![yG]at e;cases e;exact .inr ⟨rfl,i,t.sq⟩
 | lst j=>obtain⟨a,i,z,t,k⟩:=br.mp R;subst z;simp![yG]at e;cases e;exact .inl ⟨rfl,i,t.sq⟩
 | ref n=>
  obtain⟨a,z,m⟩:=ad.mp R;subst z;simp![yG]at e;split at e
  . rename_i j q;cases e;obtain⟨i,o,_⟩:=S.lst m q;exact .inl ⟨rfl,i,vn.of o⟩
  . cases e
 | ntp n=>simp![yG]at e;cases e
def tK {TT:String} (D:Gl X "isinstance") (C:X.mg "isinstance" =none) (n:Gl X T) (m:X.mg T=none) (B:bootBuiltins T=ε (.type TT)) (F:TT ∈ ["bool", "int", "str", "tuple", "list"]) (E:EM X e f)
 (j:autoParam (T ≠ "__name__" ) Ñ) (o:autoParam ((T==("__debug__" :Str))=false) Ñ)
 (hs:autoParam (ZA e=true) Æ) :
 EM X (.Call (.Name "isinstance" p) [e,.Name T p2] [] pos) (VG TT f):=by
 unhygienic
  exact PE.imp (mM (Xn (T:=TT)) D C PyProof.Rows.boot_isinstance (mC E (mC (i4 n m B (v:=.ty TT) rfl j o) cD (fB rfl _ _)) (fB hs _ _)) (he:=fB hs _ _)) fun P H Q y=>by
   obtain⟨x,l,h,d,R,S,L,e,k⟩:=y;obtain⟨⟨s,r⟩,I,e⟩:=nA e;refine⟨x,l,h,s,r,S,L,I,fun i v M J u O=>?_⟩;cases q:yG r s with
   | none=>rw[q]at e;cases e
   | some t=>rw[q]at e;cases e;exact⟨v,t,ZF t TT,rfl,Zz u J q,mf X.K t (Cz q) TT F,k i _ M (Za.mpr rfl) u O⟩
abbrev RO:=LI->HI->Oo (Oo Int×HI)
noncomputable def qN:RO:=fun _ h=>ε (none,h)
noncomputable def pF(f:RE):RO:=fun l h=>(f l h).bind fun r=>match r.1 with | .int i=>ε (ε i,r.2) | _=>none
inductive tMO(K:Frag)(f:RO)(σ:L2.St)(H:Hp)(Q:Option Int->Hp->Prop):Prop where
 | mk (ρ:Rg) (l:LI) (h:HI) (o:Option Int) (h':HI) (S:Ve K ρ h H) (L:Yi K H ρ l σ) (e:f l h=ε (o,h')) (k:eP K ρ H h' (Q o))
@[irreducible] def zU(X:Cx)(e:Oo Pa)(f:RO):Prop:=PO X e (tMO X.K f)
def PO.imp{e:Oo Pa}(h:PO X e t)(i:∀d H Q,t' d H Q->t d H Q):PO X e t':=fun j s d H Q I q=>h j s d H Q I (i d H Q q)
def LS:zU X none qN:=by unhygienic exact PO.imp kw fun j H Q i=>by obtain⟨d,l,h,o,m,S,L,e,k⟩:=i;cases e;exact k d H S (vc.refl _ _)
def OI(q:EM X a fa):zU X (ε a) (pF fa):=by
 unhygienic
  exact PO.imp (kx q) fun C H Q n=>by
   obtain⟨m,l,h,o,D,S,L,e,k⟩:=n;obtain⟨⟨j,r⟩,s,e⟩:=nA e;refine⟨m,l,h,j,r,S,L,s,fun d v y x u B=>?_⟩;cases j with
   | int i=>cases e;exact⟨i,Xa.mp x,k d y u B⟩
   | _=>cases e
def XE(xs:Oe Dt)(lo d:Oo Int):Oe Dt:=(xs.drop (HT.sIx xs.length 0 lo)).take (HT.sIx xs.length xs.length d-HT.sIx xs.length 0 lo)
def JK(f:RE)(lo i:RO):RE:=fun l h=>(f l h).bind fun r=>(lo l r.2).bind fun o=>(i l o.2).bind fun u=>(BA u.2 r.1).map fun d=>(.lst (XE d o.1 u.1),u.2)
def AZ{K:Pb}(r:Ti K H ρ xs vs)(lo d):Ti K H ρ (XE xs lo d) (zH vs lo d):=by unfold XE zH;rw[r.length];exact(r.drop _).take _
def iP{lo B:Oo Pa}(W:EM X a fa)(T:zU X lo F)(U:zU X B I):EM X (.Subscript a (.Slice lo B none p2) pos) (JK fa F I):=by
 unhygienic
  exact PE.imp (KY y9 W T U) fun σ H Q P=>by
   obtain⟨O,l,h,d,h',S,L,e,k⟩:=P;obtain⟨⟨J,E⟩,Z,e⟩:=nA e;obtain⟨⟨o,D⟩,e2,e⟩:=nA e;obtain⟨⟨u,C⟩,Y,e⟩:=nA e;refine⟨O,l,h,J,E,S,L,Z,fun m v H1 R1 S1 y=>⟨m,l,E,o,D,S1,L.ext y,e2,fun j H2 S2 s=>⟨j,l,D,u,C,S2,L.ext (y.trans s),Y,fun i H3 n M=>?_⟩⟩⟩;cases q:BA C J with
   | none=>dsimp only at e;rw[q]at e;cases e
   | some xs=>dsimp only at e;rw[q]at e;cases e;obtain⟨x,R,z,sq,r⟩:=zC n (T3.ext (s.trans M) _ R1) q;exact⟨x,R,z,sq,fun p hp=>k i _ _ (mK n (AZ r o u) hp) (n.fresh hp) (y.trans (s.trans (M.trans (vc.fresh hp))))⟩
noncomputable def z7(fo fa:RE):RE:=fun l h=>(fo l h).bind fun r=>match r.1 with
 | .ref n=>(fa l r.2).bind fun q=>match q.2[n]? with
  | some (.lst xs)=>if xs.length<sizeLine then ε (.non,q.2.set n (.lst (xs++[q.1])))else none
  | _=>none
 | _=>none
def IT {K:Pb} (S:Ve K ρ h H) (R:T3 K H ρ (.ref n) v) (e:h[n]?=ε (.lst xs)):A8 K "list" v H:=by obtain⟨a,z,i⟩:=ad.mp R;subst z;obtain⟨d,j,_⟩:=S.lst i e;exact .inl ⟨rfl,d,vn.of j⟩
def PD(fa fb:RE):RE:=fun l h=>(fa l h).bind fun r=>match r.1 with
 | .ref n=>match r.2[n]? with
  | some (.lst _)=>z7 (eC (.ref n)) fb l r.2
  | _=>none
 | _=>none
theorem LF (Y:EM X a fa) (Z:EM X b fb) (o:autoParam (attributeBase a "append" X.env (eval a X.env)=eval a X.env) Æ)
 (m:autoParam ((j.endLine==i.line)=true) Æ) (hs:autoParam (ZA b=true) Æ) :
 EM X (.Call (.Attribute a "append" j) [b] [] i) (PD fa fb):=by
 unhygienic
  exact PE.imp (bN PySem.F.plainAttrs_list PySem.F.slot_list_append PySem.F.type_list_append oX Y (mC Z cD (fB hs _ _)) o (zM hs) m (fB hs _ _)) fun σ H Q P=>by
   obtain⟨O,l,h,d,h',S,L,e,k⟩:=P;obtain⟨⟨D,C⟩,e1,e⟩:=nA e;refine⟨O,l,h,D,C,S,L,e1,fun x v H1 I F M=>?_⟩;cases D with
   | ref n=>
    dsimp only at e;split at e
    . rename_i T q0;obtain⟨⟨d0,h0⟩,R,e⟩:=nA e;cases R;dsimp only at e;obtain⟨⟨d2,h2⟩,e2,e⟩:=nA e;refine⟨IT F I q0,x,l,C,d2,h2,F,L.ext M,e2,fun u y H2 R2 E J=>?_⟩;dsimp only at e;split at e
      . rename_i xs q;obtain⟨W,e⟩:=EF e;cases e;obtain⟨a,z,ha⟩:=ad.mp I;subst z;have r:=J.get ha;obtain⟨U,s,g2⟩:=E.lst r q;have B:=kj r;refine⟨a,U,y,rfl,rfl,s,by rw[g2.length];exact W,k u _ _ (bv.mpr rfl) (E.write r (FH s) ⟨_,oC,?_⟩) (M.trans (J.trans (vc.write B (FH s))))⟩;exact(g2.append (.cons R2 .nil)).ext (vc.write B (FH s))
      . cases e
    . cases e
   | _=>cases e
end
def DF:Oe Dt->Dt->Oo Nat
 | [],_=>none
 | y::ys,x=>if sQ y x=true then ε 0 else(DF ys x).map (· + 1)
theorem lY:∀{ys:Oe Dt}{x:Dt}{j:Nat},DF ys x=ε j->(∃y,ys[j]?=ε y/\sQ y x=true)/\∀m,m<j->∃y,ys[m]?=ε y/\sQ y x=false
 | [],_,_,e=>by simp![DF]at e;cases e
 | y::ys,x,j,e=>by
  simp![DF]at e;by_cases h:sQ y x=true
  . rw[dz h]at e;cases e;exact⟨⟨y,rfl,h⟩,fun m a=>Ea a (Nat.not_lt_zero _)⟩
  . rw[eG h]at e;cases q:DF ys x with
    | none=>rw[q]at e;cases e
    | some k=>
     rw[q]at e;cases e;obtain⟨⟨z,d,b⟩,no⟩:=lY q;refine⟨⟨z,by simpa using d,b⟩,fun m a=>?_⟩;cases m with
     | zero=>exact⟨y,rfl,by simpa using h⟩
     | succ m=>obtain⟨u,g,f⟩:=no m (Nat.lt_of_succ_lt_succ a);exact⟨u,by simpa using g,f⟩
section
variable{X:Cx}{pins:Oe (O4×Obj)}{σ:L2.St}{H:Hp}{s:Ou}{ρ:Rg}
def RK(xs:Oe Dt)(d:Dt)(k:Nat):Bool:=match xs[k]? with | some z=>sQ z d | none=>false
theorem xO:∀{xs:Oe Dt}{k:Nat}{z:Dt},pK xs=true->xs[k]?=ε z->qH z=true
 | [],_,_,_,e=>by simp at e
 | x::xs,0,z,h,e=>by simp![pK,vm]at h;simp at e;subst e;exact h.1
 | x::xs,k+1,z,h,e=>by simp![pK,vm]at h;exact xO h.2 (by simpa using e)
theorem ZX:∀{xs:Oe Dt}{k:Nat}{z:Dt},xs[k]?=ε z->DQ z<=wK xs
 | [],_,_,e=>by simp at e
 | x::xs,0,z,e=>by simp at e;subst e;simp![wK];exact Nat.le_max_left _ _
 | x::xs,k+1,z,e=>by simp![wK];exact rz (ZX (xs:=xs) (k:=k) (by simpa using e)) (Nat.le_max_right _ _)
open Classical in
def yx(I:u7 X pins σ H s)(A)(p:pK xs=true)(L:qH d=true)(Y:A.units+wK xs<cLine)(x:Ti X.K H ρ xs i)(J:T3 X.K H ρ d v)(r:va i its)(F:ve v u) :
 ∃e:Oi->Bool,(∀k b,e its[k]=RK xs d k)/\∀y∈its,SeqAt.EqAt A s y u (e y):=by
 have f:∀(k:Nat)(y:Oi),its[k]?=ε y->∃z w,xs[k]?=ε z/\i[k]?=ε w/\T3 X.K H ρ z w/\ve w y:=fun k y e=>by
  have Z:=r.length;have b:k<xs.length:=by have:=(Wk e).1;have h2:=x.length;omega
  obtain⟨w,q,E⟩:=x.get (ji b);obtain⟨U,o,D⟩:=r.get q;rw[e]at o;cases o;exact⟨_,w,ji b,q,E,D⟩
 have same:∀(k m:Nat)(y:Oi),its[k]?=ε y->its[m]?=ε y->RK xs d k=RK xs d m:=fun k m y R e2=>by obtain⟨z,w,g,_,n,j⟩:=f k y R;obtain⟨C,W,B,_,T,S⟩:=f m y e2;have P:=ve.inj j S;subst P;have O:=I0 I z C (xO p g) (xO p B) n T;unfold RK;rw[g,B,O]
 refine⟨fun y=>if h:∃k,its[k]?=ε y then RK xs d h.choose else false,fun k b=>?_,fun y M=>?_⟩
 . have a:∃m,its[m]?=ε its[k]:=⟨k,ji b⟩
   dsimp only;rw[dif_pos a];exact same _ _ _ a.choose_spec (ji b)
 . obtain⟨k,b⟩:=mem_iff_getElem?.mp M;have a:∃m,its[m]?=ε y:=⟨k,b⟩
   dsimp only;rw[dif_pos a];obtain⟨z,w,g,_,n,j⟩:=f _ y a.choose_spec;have Q:RK xs d a.choose=sQ z d:=by unfold RK;rw[g]
   rw[Q];exact g9 I z d A (xO p g) L (by have:=ZX g;omega) n J j F
def mh(h:DF xs d=ε j):j<xs.length/\RK xs d j=true/\∀m,m<j->RK xs d m=false:=by obtain⟨⟨y,a,f⟩,no⟩:=lY h;refine⟨(Wk a).1,by unfold RK;rw[a];exact f,fun m g=>?_⟩;obtain⟨z,e,b⟩:=no m g;unfold RK;rw[e];exact b
end
def kJ(xs:Oe Dt)(d:Dt):Bool:=pK xs&&qH d&&decide (wK xs<=50)
def W7(K:Pb)(f:Bool):V->Oe V->Hp->VK->Prop:=fun x h H Q=>∃g b d y a e j,x=.ref a/\h=[y]/\(if f=true then LG K H a e else vn K H a e)/\Ti K H g b e/\T3 K H g d y/\kJ b d=true/\DF b d=ε j/\Q (.int (j:Nat)) H
section
variable{X:Cx}{a b:Pa}{fa fb:RE}
def Ld (hu:X.A.units+64<cLine):i7 X "list.index" (W7 X.K false):=by
 intro r s Z H x vs v us Q I O P h;obtain⟨ρ,M,d,y,p,ws,j,rfl,rfl,sq,o,S,ok,Y,q⟩:=h;rw[eG Vu]at sq;cases O;obtain⟨u,rfl,R⟩:=kF P;simp![kJ,vm,decide_eq_true_eq]at ok;obtain⟨g,f,⟨⟨c1,d1,t1,i⟩,n,L,D,C,B⟩,z⟩:=I.list sq;simp only at D C B;subst D C B;obtain⟨e,J,e2⟩:=yx I X.A.in1 ok.1.1 ok.1.2 (by have:=iS X.A;omega) o S f R;obtain⟨j1,U,T⟩:=mh Y;have hl:g.length=M.length:=by rw[<- f.length,o.length]
 have E:j<g.length:=by omega
 have hn:=SI;refine call_meets PySem.F.slot_list_index ⟨_,L,rfl⟩ PySem.F.entry_list_index (PySem.F.args_list_index_2 _ _)
  (SeqAt.list_indexAt p g.toArray n none i u e j (by rw[cG];exact E) (by have:=f.length;omega) ?_ ?_) ⟨L,fun y W=>e2 y (by simpa using W),⟨.int (j:Nat),H,I.tok _,⟨_,rfl⟩,q⟩⟩
 . have:=J j E;rw[U]at this;simpa using this
 . intro m F k;rw[cG]at F;have:=J m F;rw[T m k]at this;simpa using this
def WP(fo fa:RE):RE:=fun l h=>(fo l h).bind fun r=>(fa l r.2).bind fun q=>match r.1 with
 | .lst d=>if kJ d q.1=true then(DF d q.1).map fun j=>(.int (j:Nat),q.2)else none
 | _=>none
def gb (J:X.A.units+64<cLine) (M:EM X a fa) (O:EM X b fb) (m:autoParam (attributeBase a "index" X.env (eval a X.env)=eval a X.env) Æ)
 (i:autoParam ((g.endLine==f.line)=true) Æ) (hs:autoParam (ZA b=true) Æ) :
 EM X (.Call (.Attribute a "index" g) [b] [] f) (WP fa fb):=by
 unhygienic
  exact PE.imp (bN PySem.F.plainAttrs_list PySem.F.slot_list_index PySem.F.type_list_index (Ld J) M (mC O cD (fB hs _ _)) m (zM hs) i (fB hs _ _)) fun Z H Q F=>by
   obtain⟨E,l,h,d,h',S,L,e,k⟩:=F;obtain⟨⟨C,B⟩,R,e⟩:=nA e;obtain⟨⟨o,P⟩,e2,e⟩:=nA e;refine⟨E,l,h,C,B,S,L,R,fun p v H1 W U D=>?_⟩;cases C with
   | lst r=>
    obtain⟨x,u,z,t,I⟩:=br.mp W;subst z;refine⟨.inl ⟨rfl,u,t.sq⟩,p,l,B,o,P,U,L.ext D,e2,fun n y Y R2 T s=>?_⟩;dsimp only at e;by_cases ok:kJ r o=true
    . rw[dz ok]at e;cases q:DF r o with
      | none=>rw[q]at e;cases e
      | some j=>rw[q]at e;cases e;exact⟨n,r,o,y,x,u,j,rfl,rfl,by rw[eG Vu];exact(t.same s.same).sq,I.ext s,R2,ok,q,k n _ Y (Xa.mpr rfl) T (D.trans s)⟩
    . rw[eG ok]at e;cases e
   | _=>cases e
noncomputable def uD(K:Pb):Nat->Oi->Oo Dt
 | _,.none=>ε .non
 | _,.bool b=>ε (.bl b)
 | _,.int i _=>ε (.int i)
 | _,.str x _=>ε (.str x)
 | 0,_=>none
 | n+1,.ref a=>match K.lookup a with
  | some ⟨.type T,dd,.seq its _,_⟩=>if its.size<=sizeLine then
   if T = "tuple" then(its.toList.mapM (uD K n)).map .tup
   else if T = "list" then match dd with | none=>(its.toList.mapM (uD K n)).map .lst | some _=>none
   else none
   else none
  | _=>none
 | _,_=>none
noncomputable def GU:Oi->V
 | .none=>.non
 | .bool b=>.bl b
 | .int i _=>.int i
 | .str x _=>.str x
 | .ref a=>.ref a
 | _=>.non
theorem AS{K:Pb}(h:∀u d,f u=ε d->ve (GU u) u/\T3 K H ρ d (GU u)):∀{us:Oe Oi}{ds:Oe Dt},us.mapM f=ε ds->va (us.map GU) us/\Ti K H ρ ds (us.map GU)
 | [],_,e=>by simp at e;subst e;exact⟨.nil,.nil⟩
 | u::us,ds,e=>by
  rw[mapM_cons]at e;cases q:f u with
  | none=>rw[q]at e;cases e
  | some d=>
   rw[q]at e;cases q2:us.mapM f with
   | none=>rw[q2]at e;cases e
   | some m=>rw[q2]at e;cases e;obtain⟨k,j⟩:=h u d q;obtain⟨i,g⟩:=AS h q2;exact⟨.cons k i,.cons j g⟩
set_option tactic.hygienic true in
theorem tX{K:Pb}:∀n u d,uD K n u=ε d->ve (GU u) u/\T3 K H ρ d (GU u):=by
 intro n
 induction n with
 | zero=>
  intro u d e;cases u with
  | none=>simp![uD]at e;cases e;exact⟨rfl,bv.mpr rfl⟩
  | bool b=>simp![uD]at e;cases e;exact⟨rfl,Za.mpr rfl⟩
  | int i t=>simp![uD]at e;cases e;exact⟨⟨_,rfl⟩,Xa.mpr rfl⟩
  | str x t=>simp![uD]at e;cases e;exact⟨⟨_,rfl⟩,cn.mpr rfl⟩
  | _=>simp![uD]at e<;>cases e
 | succ n ih=>
  intro u d e;cases u with
  | none=>simp![uD]at e;cases e;exact⟨rfl,bv.mpr rfl⟩
  | bool b=>simp![uD]at e;cases e;exact⟨rfl,Za.mpr rfl⟩
  | int i t=>simp![uD]at e;cases e;exact⟨⟨_,rfl⟩,Xa.mpr rfl⟩
  | str x t=>simp![uD]at e;cases e;exact⟨⟨_,rfl⟩,cn.mpr rfl⟩
  | ref a=>
   simp![uD]at e;split at e
   . rename_i T r f m p q;by_cases h:f.size<=sizeLine
     . rw[dz h]at e;by_cases j:T = "tuple"
       . rw[dz j]at e;cases q2:f.toList.mapM (uD K n)with
         | none=>rw[q2]at e;cases e
         | some ds=>rw[q2]at e;cases e;obtain⟨o,k⟩:=AS (K:=K) (H:=H) (ρ:=ρ) ih q2;subst j;exact⟨rfl,ai.mpr ⟨a,_,rfl,.inr ⟨_,f,m,q,rfl,rfl,h,o⟩,k⟩⟩
       . rw[eG j]at e;by_cases g:T = "list"
         . rw[dz g]at e;split at e
           . cases q2:f.toList.mapM (uD K n)with
             | none=>rw[q2]at e;cases e
             | some ds=>rw[q2]at e;cases e;obtain⟨o,k⟩:=AS (K:=K) (H:=H) (ρ:=ρ) ih q2;subst g;exact⟨rfl,br.mpr ⟨a,_,rfl,.inr ⟨_,f,m,q,rfl,rfl,rfl,h,o⟩,k⟩⟩
           . cases e
         . rw[eG g]at e;cases e
     . rw[eG h]at e;cases e
   . cases e
  | _=>simp![uD]at e<;>cases e
structure Z6(K:Frag)(mg:Str->Option Value)(x:Str)(d:Dt):Prop where
 ex:∃u n,mg x=ε u/\uD K n u=ε d
def ZI (f:Gl X x) (c:Z6 X.K X.mg x d) (hd:autoParam ((x==("__debug__" :Str))=false) Ñ):EM X (.Name x pos) (eC d):=by unhygienic obtain⟨u,n,g,e⟩:=c.ex;exact lv f g (tX (H:=fun q=>none) (ρ:=.nil) n u d e).1 (fun H ρ=>(tX n u d e).2) hd
end
def Yj{K:Pb}(h:∀ns:Oe Int,ns.length<=n->∃b,F [.lst (ns.map Dt.int)] []=ε (.bl true,b))(H)(a)(ns:Oe Int)(f:ns.length<=n)(hS:vn K H a (ns.map V.int)) :
 oJ K 1 F [.ref a] H (fun v q=>v=.bl true) fun q q q=>False:=by
 obtain⟨b,e⟩:=h ns f;have R:T3 K H .nil (.lst (ns.map Dt.int)) (.ref a):=br.mpr ⟨a,_,rfl,by
  rcases hS with hS | hS
  . exact .inl ⟨⟨by simp[Rg.nil],by simp[Rg.nil]⟩,hS⟩
  . exact .inr hS,Ti.ints ns⟩
 exact⟨.nil,[.lst (ns.map Dt.int)],[],.bl true,b,Ve.nil,.cons R .nil,rfl,e,fun d v j g i k=>Za.mp g⟩
structure cC(P:Program)(w:World)(K:Frag)(mg:Str->Option Value)(base:Heap)(k n:Nat)(x:Str)(F:oB):Prop where
 ex:∃f fd ps,ab P w K mg base TF k f fd ps (oJ K n F)/\mg x=ε (.ref f)/\keepIn K (.ref f)=true/\vt K fd ps []
 len:∀ds h r,F ds h=ε r->ds.length=n
structure YT(K:Frag)(mg:Str->Option Value)(x:Str)(st:Stmt)(ps:List Str):Prop where
 ex:∃f fd,Fun K x x st f fd/\mg x=ε (.ref f)/\vt K fd ps []
section
variable{P:Pu}{w:Ri}{K:Pb}{b:Str->Oo Oi}{a:Ru}
def p9{st:Ra}(F:Fun K x d st f g)(S:Yu N ps (kB st))(h:ps.length=n)(i:N.length=m)
 (j:∀e A outer s H E,Xi k (A.deeper (envOfC d (kB st) s.heap.objs.size f e))->
  iI (YE TF P w K b a N d (kB st) f e A outer s H E).nox (MC st) body):ab P w K b a TF (k+1) f g ps (oJ K n (IB n m body)):=by
 unhygienic subst h i;exact bQ F S j
def uT{st:Ra}(D:YT K b x st ps)(S:Yu N ps (kB st))(o:ps.length=n)(g:N.length=m)
 (p:∀f d A outer s H E,Xi k (A.deeper (envOfC x (kB st) s.heap.objs.size f d))->
  iI (YE TF P w K b a N x (kB st) f d A outer s H E).nox (MC st) body):cC P w K b a (k+1) n x (IB n m body):=by
 unhygienic subst o g;obtain⟨f,u,i,g,q⟩:=D.ex;exact⟨⟨f,u,ps,bQ i S fun d A outer s H E j=>p f d A outer s H E j,g,i.kp,q⟩,fun ds h r e=>sP e⟩
end
section
variable{X:Cx}{k a n:Nat}{F:oB}{x:Str}{p pos:Pos}{e:Pa}{b:Oe Pa}{g:RA}
def FE (c:cC X.prog X.w X.K X.mg X.base k n x F) (i:Xi a X.A) (j:k<=a) (m:Gl X x) (o:AM X (e::b) g) (d:autoParam ((x==("__debug__" :Str))=false) Ñ)
 (he:autoParam (ZA e=true) Æ) (hpl:autoParam (b.all ZA=true) Æ) :
 EM X (.Call (.Name x p) (e::b) [] pos) (rA F [] g):=by
 unhygienic obtain⟨f,D,C,B,y,u,s⟩:=c.ex;exact VY B (i.mono j) m y u s .nil (fun z z=>.nil) o (fun E e ds h r q=>c.len ds h r (e ▸ q)) d he hpl
def Xc (c:cC X.prog X.w X.K X.mg X.base k n x F) (i:Xi a X.A) (j:k<=a) (m:Gl X x) (d:autoParam ((x==("__debug__" :Str))=false) Ñ) :
 EM X (.Call (.Name x p) [] [] pos) (OP F []):=by
 unhygienic obtain⟨f,C,B,y,u,s,o⟩:=c.ex;exact Tt y (i.mono j) m u s o .nil (fun z z=>.nil) (fun D e ds h r q=>c.len ds h r (e ▸ q)) d
end
def En{l:PySem.W.OpenLaw}{K:Params->Pb}(o:l.most=ε 63)(e:d.params.defaults=[])(m:Xi k callerA)
 (r:∀w h,i w h->(K w.params).In h)
 (B:∀w mg fa h,(K w.params).In h->h.Ns mainGlobals mg->mg d.name=ε (.ref fa)->
  ∃g,(∀s u,BindsTo s g ⟨[u],[]⟩ [(x,u)])/\∀base,(K w.params).In base->base.Ns mainGlobals mg->ab l.prog w (K w.params) mg base TF k fa g [x] (oJ (K w.params) 1 F))
 (h:∀ns:Oe Int,ns.length<=63->∃C,F [.lst (ns.map Dt.int)] []=ε (.bl true,C)):PySem.W.WalkO q b D i l.row.toRowW d [] (fun f j=>PySem.call f j):=
 L2.N9 (n:=63) (k:=k) (x:=x) (CX:=fun v=>TF) (sp:=fun w=>oJ (K w.params) 1 F) o (by decide) e m r B (fun w H a ns p v y=>Yj h H a ns p y) fun v v v v v z=>z
end SM
namespace L2
section
variable{X:Cx}
theorem tT:∀{bs:Oe Bool}{us:Oe Oi},va (bs.map V.bl) us->∀(i:Nat)(v:Oi),us[i]?=ε v->v=.bool (bs.getD i false)
 | [],us,r,i,v,e=>by cases r;simp at e
 | b::bs,us,r,i,v,e=>by
  cases r with
  | cons r a=>
   cases i with
   | zero=>simp at e;subst e;exact r
   | succ i=>simpa using tT a i v (by simpa using e)
def Ef(bs:Oe Bool):(List.range bs.length).all (fun i=>bs.getD i false)=bs.all id:=by
 induction bs with
 | nil=>rfl
 | cons b bs ih=>
  rw[T4,Ke,Ks,all_map,Ks];have:((fun i=>(b::bs).getD i false) ∘ Nat.succ)=fun i=>bs.getD i false:=by
   funext i
   simp
  rw[this,ih];simp
def uh (x:X.calm=true):ae X (.builtin "all") (fun d H Q=>∃(p:O4) (bs:Oe Bool),d=[.ref p]/\vn X.K H p (bs.map V.bl)/\Q (.bl (bs.all id)) H):=by
 intro g s B H d C Q I r h;obtain⟨p,bs,rfl,n,q⟩:=h;obtain⟨u,rfl,j⟩:=kF r;cases j;obtain⟨a,f,pl,F⟩:=I.list n;have b:p<s.heap.objs.size:=by obtain⟨_,e,_⟩:=pl.isList;exact iu e
 refine call_all_walk (wpAny_pyIter_list pl.isList ?_);refine⟨_,_,_,_,_,_,fun i=>bs.getD i false,rfl,Walks.list (A:=X.A.in1) (I.ok.hd x) s.heap.objs.size p (nW b) a.toArray,⟨⟨_,jj _ rfl,rfl,rfl⟩,pl.isList.push _⟩,?_,fun J D k=>?_⟩
 . intro i v E Q2 L m y;have e:=tT f i v (by simpa using m);subst e;exact Fi y
 . have o:=f.length;have e:(List.range a.toArray.size).all (fun i=>bs.getD i false)=bs.all id:=by rw[show a.toArray.size=bs.length by simp at o ⊢;omega,Ef]
   rw[e];exact⟨.bl (bs.all id),H,I.kept (old_kept k),rfl,q⟩
end
end L2
namespace SM
noncomputable def kE:Oe Dt->Oo (Oe Bool)
 | []=>ε []
 | .bl b::ds=>(kE ds).map fun bs=>b::bs
 | _::_=>none
theorem dP:∀{ds:Oe Dt}{bs:Oe Bool},kE ds=ε bs->ds=bs.map Dt.bl
 | [],bs,e=>by simp![kE]at e;cases e;rfl
 | d::ds,bs,e=>by
  cases d with
  | bl b=>
   simp![kE]at e;cases q:kE ds with
   | none=>rw[q]at e;cases e
   | some a=>rw[q]at e;cases e;rw[dP q];rfl
  | _=>simp![kE]at e<;>cases e
theorem Ti.gf{K:Pb}:∀{bs:Oe Bool}{vs:Oe V},Ti K H ρ (bs.map Dt.bl) vs->vs=bs.map V.bl
 | [],_,h=>h.ba
 | n::ns,_,h=>by obtain⟨v,r,rfl,a,b⟩:=Ti.Zi h;simp![T3]at a;rw[a,Ti.gf b];rfl
def AH:Dt->HI->Oo (Dt×HI):=fun d h=>(BA h d).bind fun a=>(kE a).map fun bs=>(.bl (bs.all id),h)
section
variable{X:Cx}{e:Pa}{f:RE}{p pos:Pos}
def D3 (m:X.calm=true) (j:Gl X "all") (i:X.mg "all" =none) (n:EM X e f) (hs:autoParam (ZA e=true) Æ):EM X (.Call (.Name "all" p) [e] [] pos) (VB AH f):=by
 unhygienic
  exact AK (uh m) (fun b h d v x u H Q S R e k=>by
   obtain⟨g,o,e⟩:=nA e;cases q:kE g with
   | none=>rw[q]at e;cases e
   | some ns=>
    rw[q]at e;cases e;obtain⟨a,s,z,sq,r⟩:=zC S R o;rw[dP q]at r;rw[r.gf]at sq;exact⟨a,ns,by rw[z],sq,k b _ H (Za.mpr rfl) S (vc.refl _ _)⟩) j i PyProof.Rows.boot_all n (hs:=hs)
end
noncomputable def jJ:Nat->Oe Dt->Oe Dt
 | _,[]=>[]
 | k,x::xs=>.tup [.int (k:Int),x]::jJ (k+1) xs
noncomputable def OC(i j:Nat):RG:=fun d l=>match d with
 | .tup [a,b]=>ε ((l.set i (ε a)).set j (ε b))
 | _=>none
end SM
namespace L2
section
variable{X:Cx}{a:Oe (O4×Obj)}{d:Oe (Oo V)}{H:Hp}{s:Ou}{h':Ru}
def u7.ml(I:u7 X a d H s)(k:∀b o,b≠e->b≠it->s.heap.get? b=ε o->h'.get? b=ε o)(fe:VE X a H e)(O:VE X a H it)(hp:s.heap.objs.size<=p)
 (new:Ye X.prog X.w (pB H p (.tup xs)) h' p (.tup xs)):u7 X a d (pB H p (.tup xs)) { s with heap:=h',toks:=t' }:=by
 obtain⟨U,B,e2,T,S,R⟩:=fe;obtain⟨J,y,Y,F,E,D⟩:=O;have h:H p=none:=I.hok.fresh hp;have ne:∀b u,H b=ε u->b≠e:=fun b u q z=>by rw[z,U]at q;cases q
 have x:∀b u,H b=ε u->b≠it:=fun b u q z=>by rw[z,J]at q;cases q
 have g:∀{b},b ∉ [e,it]->b≠e/\b≠it:=fun f=>⟨fun z=>f (by simp[z]),fun z=>f (by simp[z])⟩
 refine I.step (g':=s.gens) (d':=s.drawn) (ch:=[e,it]) (fun b i=>?_) (fun b o t t f q t=>k b o (g f).1 (g f).2 q) (fun b o t t f q t=>⟨o.slots,k b o (g f).1 (g f).2 q⟩)
  (fun b o t q n=>by rw[XA (nW (jo (iu q) hp))];exact n)
  (fun b o f q=>⟨o,k b o (g f).1 (g f).2 q⟩) (fun b C q=>by rw[XA (UC q h)];exact q) (fun b o u q=>by rw[XA (UC q h)];exact q)
  (fun b W q=>⟨#[],by rw[XA (UC q h),q];simp⟩) (fun m M=>?_) (fun b u q=>?_) I.bare
 . have z:b=e\/b=it:=by simpa using i
   rcases z with rfl | rfl
   . exact⟨T,B,S,R⟩
   . exact⟨F,y,E,D⟩
 . obtain⟨o,P,Q,L,r⟩:=M;exact⟨o,P,Q,k _ o (m8 B) (m8 y) L,r⟩
 . by_cases i:b=p
   . subst i;rw[oC]at q;cases q;exact new
   . rw[XA i]at q;refine(I.hok b u q).stay (fun c v f j=>?_) (fun c q=>by rw[XA (UC q h)];exact q) fun c C q=>by rw[XA (UC q h)];exact q
     rcases f with z | z
     . subst z;exact k c v (ne c u q) (x c u q) j
     . exact k c v (ne c _ z) (x c _ z) j
def u7.mn(I:u7 X a d H s)(k:∀b o,b≠e->b≠it->s.heap.get? b=ε o->h'.get? b=ε o)(fe:VE X a H e)(L:VE X a H it):u7 X a d H { s with heap:=h',toks:=t' }:=by
 obtain⟨S,p,e2,R,Q,P⟩:=fe;obtain⟨D,j,U,C,B,y⟩:=L;have ne:∀b u,H b=ε u->b≠e:=fun b u q z=>by rw[z,S]at q;cases q
 have i:∀b u,H b=ε u->b≠it:=fun b u q z=>by rw[z,D]at q;cases q
 have g:∀{b},b ∉ [e,it]->b≠e/\b≠it:=fun f=>⟨fun z=>f (by simp[z]),fun z=>f (by simp[z])⟩
 refine I.step (g':=s.gens) (d':=s.drawn) (ch:=[e,it]) (fun b J=>?_) (fun b o t t f q t=>k b o (g f).1 (g f).2 q) (fun b o t t f q t=>⟨o.slots,k b o (g f).1 (g f).2 q⟩)
  (fun b o t q n=>n) (fun b o f q=>⟨o,k b o (g f).1 (g f).2 q⟩) (fun b x q=>q) (fun b o u q=>q)
  (fun b T q=>⟨#[],by rw[q];simp⟩) (fun m F=>?_) (fun b u q=>?_) I.bare
 . have z:b=e\/b=it:=by simpa using J
   rcases z with rfl | rfl
   . exact⟨R,p,Q,P⟩
   . exact⟨C,j,B,y⟩
 . obtain⟨o,M,O,E,r⟩:=F;exact⟨o,M,O,k _ o (m8 p) (m8 j) E,r⟩
 . refine(I.hok b u q).stay (fun c v f h=>?_) (fun c q=>q) fun c x q=>q
   rcases f with z | z
   . subst z;exact k c v (ne c u q) (i c u q) h
   . exact k c v (ne c _ z) (i c _ z) h
end
def Ite(K:Pb)(a:O4):It:=
 ⟨fun i H=>∃b x,vn K H a b/\b[i]?=ε x,fun i H x d=>∃p y,H p=none/\x=.ref p/\(∀b,vn K H a b->b[i]?=ε y)/\d=pB H p (.tup [.int (i:Nat),y]),fun i H=>∃b,vn K H a b/\b.length<=i⟩
def vd{P:Pu}{w:Ri}{K:Pb}{B:Oe Pa}{x1}{pos:Pos}(a e it:O4)(r:e≠it):UG P w K (.Tuple B x1 pos) (Ite K a) [e,it] e (fun i h=>(∃old,IsEnum h e it i old)/\h.IsListIter it a i) where
 mem:=by simp
 obj:=fun i h st b R=>by
  obtain⟨⟨old,f⟩,g⟩:=st;have z:b=e\/b=it:=by simpa using R
  rcases z with rfl | rfl
  . exact⟨_,f,fun v z=>by cases z⟩
  . obtain⟨o,e,c,d⟩:=g;exact⟨o,e,fun v z=>by rw[d]at z;cases z⟩
 keep:=fun i h Z st k=>by obtain⟨⟨old,f⟩,g⟩:=st;exact⟨⟨old,k e ⋯ _ f⟩,g.at fun o e=>k it ⋯ o e⟩
 item:=by
  intro X S hw T W i m s σ H E I y st O;subst S hw T;obtain⟨⟨old,f⟩,g⟩:=st;obtain⟨xs,x,C,L⟩:=O;obtain⟨F,D,p,hz⟩:=I.list C;obtain⟨u,hu,ru⟩:=D.get L;have fe:=y e ⋯;have fi:=y it ⋯;refine wpAny_pyNext_enum_item f g p.isList (x:=u) (by simpa using hu) r fun Z out J j sz kp=>?_
  refine⟨_,rfl,wpAny_letOwnedTupleGo_enum out fun h2 Q sb=>?_⟩;have n:s.heap.objs.size≠e:=(nW (iu f)).symm;have M:s.heap.objs.size≠it:=by obtain⟨o,q,_⟩:=g;exact(nW (iu q)).symm
  have t2:h2.get? s.heap.objs.size=ε { cls:=.type "tuple",data:=.seq #[.int i s.toks,u] }:=(sb.2 _ n).trans j;refine⟨.ref s.heap.objs.size,pB H s.heap.objs.size (.tup [.int (i:Nat),x]),I.ml (fun b o Y U q=>(sb.2 b Y).trans (kp b o Y U q)) fe fi (Us _) ⟨by simp![T4,Va];rw[Ca];decide,[.int i s.toks,u],.cons ⟨_,rfl⟩ (.cons ru .nil),⟨_,t2,rfl,_,rfl⟩⟩,rfl,⟨_,x,I.hok.fresh (Us _),rfl,fun ys hy=>by rw[I.fw hy C];exact L,rfl⟩,⟨⟨_,Q⟩,J.at fun o q=>(sb.2 it (m8 r)).trans q⟩,fun b R=>?_⟩;have z:b=e\/b=it:=by simpa using R
  rcases z with rfl | rfl
  . rw[XA (m8 n)];exact fe.1
  . rw[XA (m8 M)];exact fi.1
 done:=by intro X S hw T W i m s σ H E I y st O;subst S hw T;obtain⟨⟨old,f⟩,g⟩:=st;obtain⟨xs,C,L⟩:=O;obtain⟨F,D,p,hz⟩:=I.list C;have hl:=D.length;exact wpAny_pyNext_enum_end (I.ok.hd W) f g p.isList (by simp;omega) fun Z eb=>⟨rfl,I.mn (t':=s.toks) (fun b o t U q=>eb b o U q) (y e ⋯) (y it ⋯)⟩
 self:=fun t t t t t st h=>by obtain⟨⟨old,f⟩,_⟩:=st;exact wpAny_pyIter_enum f h
section
variable{X:Cx}
def D7(K:Pb)(g:TA):TI:=fun d H R=>g d H fun f b=>∃a,f=[.ref a]/\(∃e,vn K b a e)/\R (Ite K a) b
def mo {x1} (L:Gl X "enumerate") (J:X.mg "enumerate" =none) (O:PA X [a] n) (hs:autoParam (starEach [a] X.env=[(false,eval a X.env)]) Æ) :
 PI X (.Tuple i x1 y) (.Call (.Name "enumerate" p) [a] [] pos) (D7 X.K n):=by
 intro f s m H R I h;refine Call_ (nG I L J boot_enumerate (PyProof.Rows.callWith_type1 (wB (O pos f s m H _ I h) fun U d x=>?_) hs rfl));obtain⟨T,u,g,C,q1⟩:=x;obtain⟨b,e,⟨S,F⟩,q⟩:=q1;subst e;cases C with
 | cons r B=>
  cases B;cases r;obtain⟨D,W,pl,Y⟩:=g.list F;refine call_enumerate_list pl.isList fun P o j E k=>?_
  have Q:u7 X f m u { d with heap:=P }:=g.kept (t':=d.toks) k;refine wpAny_pyIter_enum o ?_;refine⟨d.heap.objs.size+1,[d.heap.objs.size+1,d.heap.objs.size],_,_,u,rfl,Q,vd b (d.heap.objs.size+1) d.heap.objs.size (Nat.succ_ne_self _),⟨⟨_,o⟩,j⟩,fun c M=>?_,q⟩;have z:c=d.heap.objs.size+1\/c=d.heap.objs.size:=by simpa using M
  rcases z with rfl | rfl
  . exact g.cx (Nat.le_succ _) (g.hok.fresh (Nat.le_succ _))
  . exact g.cx (Us _) (g.hok.fresh (Us _))
end
end L2
namespace SM
theorem iY:∀(xs:Oe Dt)(k i:Nat),(jJ k xs)[i]?=(xs[i]?).map fun x=>.tup [.int ((k+i:Nat):Int),x]
 | [],_,_=>by simp[jJ]
 | x::xs,k,0=>by simp[jJ]
 | x::xs,k,i+1=>by
  simp![jJ,Te];rw[iY xs (k+1) i];have:k+1+i=k+(i+1):=by omega
  rw[this]
section
variable{X:Cx}
def uK(i j){x1}(F:X.calm=true)(m:X.N.Nodup)(D:autoParam (X.N[i]?=ε x) Æ)(C:autoParam (X.N[j]?=ε y) Æ)
 (B:autoParam (sN X.env.scope x) ö) (u:autoParam (sN X.env.scope y) ö)
 (E:autoParam (X.fn x=true\/X.env.scope.names.lookup x=ε .local) ð)
 (f:autoParam (X.fn y=true\/X.env.scope.names.lookup y=ε .local) ð):GM X (.Tuple [.Name x s,.Name y p] x1 pos) (OC i j):=by
 unhygienic
  refine PG.imp (Fj (n:=2) F (MY (OS m D B E) (MY (OS m C u f) jp))) fun v J H Q o=>?_
  obtain⟨M,l,h,d,U,S,L,R,e,k⟩:=o;unfold OC at e;split at e
  . cases e;obtain⟨a,O,rfl,q,r⟩:=ai.mp R;obtain⟨g,T,rfl,I,r⟩:=r.Zi;obtain⟨b,P,rfl,R2,r⟩:=r.Zi;cases r.ba;exact⟨a,[g,b],rfl,q.sq,rfl,g,[b],rfl,b,[],rfl,rfl,k _ ((L.set i I).set j R2)⟩
  . cases e
end
def dJ(fe fo a:RE):RS:=fun l h=>(fe l h).bind fun v=>(fo l v.2).bind fun o=>(a l o.2).bind fun i=>match o.1,i.1 with
 | .ref n,.int k=>match i.2[n]? with
  | some (.lst xs)=>(sI xs.length k).bind fun j=>ε (.nx l (i.2.set n (.lst (xs.set j v.1))))
  | _=>none
 | _,_=>none
noncomputable def FJ(g:RG)(fe:RE):RS:=fun l h=>(fe l h).bind fun v=>(g v.1 l).bind fun a=>ε (.nx a v.2)
noncomputable def YG(d:Dt)(k:Int):Oe Dt:=List.replicate k.toNat d
def wJ(fa fb:RE):RE:=fun l h=>(fa l h).bind fun a=>(fb l a.2).bind fun k=>match k.1 with
 | .int i=>if -(2^62)<=i/\i<=1000000 then ε (.lst (YG a.1 i),k.2)else none
 | _=>none
def zK(fa fb:RE):RE:=fun l h=>(fa l h).bind fun a=>(fb l a.2).bind fun k=>match k.1 with
 | .int i=>if -(2^62)<=i/\i<=1000000 then ε (.ref k.2.length,k.2++[.lst (YG a.1 i)])else none
 | _=>none
def xN:Dt->HI->Oo (Dt×HI):=fun d h=>(BA h d).bind fun a=>(kE a).map fun bs=>(.bl (bs.any id),h)
def GQ(fa fb:RE):RI:=fun l h=>(fa l h).bind fun r=>(fb l r.2).bind fun q=>match BA q.2 r.1,BA q.2 q.1 with
 | some _,some _=>ε (.zp r.1 q.1,q.2)
 | _,_=>none
def xG:qD:=M6
def RC:qD:=fun a b h=>match a,b with
 | .tup d,.tup ys=>(TB d).bind fun ns=>(TB ys).bind fun e=>ε (.bl (!decide (ns=e)),h)
 | a,.lst []=>(BA h a).bind fun d=>ε (.bl (!d.isEmpty),h)
 | a,b=>T6 a b h
noncomputable def RF(t:RT)(body:RS):Nat->RS
 | 0,_,_=>none
 | n+1,l,h=>(t l h).bind fun c=>if c.1=true then(body l c.2).bind fun r=>match r with
  | .nx b a=>RF t body n b a
  | .ct b a=>RF t body n b a
  | .bk b a=>ε (.nx b a)
  | .rt d a=>ε (.rt d a)
  else ε (.nx l c.2)
def KP(n:Nat)(t:RT)(body:RS):RS:=fun l h=>RF t body n l h
noncomputable def MI(fo fa:RE):RE:=fun l h=>(fo l h).bind fun r=>match r.1 with
 | .ref n=>match r.2[n]? with
  | some (.lst _)=>(fa l r.2).bind fun q=>match q.1 with
   | .ref m=>match q.2[n]?,q.2[m]? with
    | some (.lst xs),some (.lst ys)=>if xs.length+ys.length<=sizeLine then ε (.non,q.2.set n (.lst (xs++ys)))else none
    | _,_=>none
   | _=>none
  | _=>none
 | _=>none
noncomputable def FP(fo fa:RE):RE:=fun l h=>(fo l h).bind fun r=>match r.1 with
 | .ref n=>match r.2[n]? with
  | some (.lst _)=>(fa l r.2).bind fun q=>match q.1 with
   | .int 0=>match q.2[n]? with
    | some (.lst (x::xs))=>ε (x,q.2.set n (.lst xs))
    | _=>none
   | _=>none
  | _=>none
 | _=>none
noncomputable def J6(F:Dt->Dt->Oo Dt)(fa fb:RE):RE:=fun l h=>(fa l h).bind fun r=>(fb l r.2).bind fun q=>(F r.1 q.1).map fun d=>(d,q.2)
noncomputable def QM:Dt->Dt->Oo Dt:=fun a b=>match a,b with | .int i,.int j=>ε (.int (if j<i then j else i)) | _,_=>none
noncomputable def IN(f:RE):RE:=fun l h=>(f l h).bind fun r=>match r.1 with | .int i=>ε (.int (Builtin.bitNot i),r.2) | _=>none
end SM
namespace L2
section
variable{X:Cx}
def Pn(bs:Oe Bool):(List.range bs.length).any (fun i=>bs.getD i false)=bs.any id:=by
 induction bs with
 | nil=>rfl
 | cons b bs ih=>
  rw[T4,Ke,Ko,any_map,Ko];have:((fun i=>(b::bs).getD i false) ∘ Nat.succ)=fun i=>bs.getD i false:=by
   funext i
   simp
  rw[this,ih];simp
def Jr (x:X.calm=true):ae X (.builtin "any") (fun d H Q=>∃(p:O4) (bs:Oe Bool),d=[.ref p]/\vn X.K H p (bs.map V.bl)/\Q (.bl (bs.any id)) H):=by
 intro g s B H d C Q I r h;obtain⟨p,bs,rfl,n,q⟩:=h;obtain⟨u,rfl,j⟩:=kF r;cases j;obtain⟨a,f,pl,F⟩:=I.list n;have b:p<s.heap.objs.size:=by obtain⟨_,e,_⟩:=pl.isList;exact iu e
 refine call_any_walk (wpAny_pyIter_list pl.isList ?_);refine⟨_,_,_,_,_,_,fun i=>bs.getD i false,rfl,Walks.list (A:=X.A.in1) (I.ok.hd x) s.heap.objs.size p (nW b) a.toArray,⟨⟨_,jj _ rfl,rfl,rfl⟩,pl.isList.push _⟩,?_,fun J D k=>?_⟩
 . intro i v E Q2 L m y;have e:=tT f i v (by simpa using m);subst e;exact Fi y
 . have o:=f.length;have e:(List.range a.toArray.size).any (fun i=>bs.getD i false)=bs.any id:=by rw[show a.toArray.size=bs.length by simp at o ⊢;omega,Pn]
   rw[e];exact⟨.bl (bs.any id),H,I.kept (old_kept k),rfl,q⟩
end
section
variable{X:Cx}{a:Oe (O4×Obj)}{d:Oe (Oo V)}{H:Hp}{s:Ou}{h':Ru}
def u7.hY{fp:Oe O4}(I:u7 X a d H s)(k:∀b o,b∉fp->s.heap.get? b=ε o->h'.get? b=ε o)(h:∀b∈fp,VE X a H b)(hp:s.heap.objs.size<=p)
 (new:Ye X.prog X.w (pB H p (.tup xs)) h' p (.tup xs)):u7 X a d (pB H p (.tup xs)) { s with heap:=h',toks:=t' }:=by
 have f:H p=none:=I.hok.fresh hp;have j:∀b u,H b=ε u->b∉fp:=fun b u q z=>by rw[(h b z).1]at q;cases q
 refine I.step (g':=s.gens) (d':=s.drawn) (ch:=fp) (fun b g=>?_) (fun b o t t e q t=>k b o e q) (fun b o t t e q t=>⟨o.slots,k b o e q⟩)
  (fun b o t q n=>by rw[XA (nW (jo (iu q) hp))];exact n)
  (fun b o e q=>⟨o,k b o e q⟩) (fun b x q=>by rw[XA (UC q f)];exact q) (fun b o u q=>by rw[XA (UC q f)];exact q)
  (fun b M q=>⟨#[],by rw[XA (UC q f),q];simp⟩) (fun m B=>?_) (fun b u q=>?_) I.bare
 . obtain⟨O,L,e2,J,F,E⟩:=h b g;exact⟨J,L,F,E⟩
 . obtain⟨o,C,D,y,r⟩:=B;exact⟨o,C,D,k _ o (fun z=>(h _ z).2.1 rfl) y,r⟩
 . by_cases g:b=p
   . subst g;rw[oC]at q;cases q;exact new
   . rw[XA g]at q;refine(I.hok b u q).stay (fun c v e i=>?_) (fun c q=>by rw[XA (UC q f)];exact q) fun c x q=>by rw[XA (UC q f)];exact q
     rcases e with z | z
     . subst z;exact k c v (j c u q) i
     . exact k c v (j c _ z) i
def u7.hZ{fp:Oe O4}(I:u7 X a d H s)(k:∀b o,b∉fp->s.heap.get? b=ε o->h'.get? b=ε o)(f:∀b∈fp,VE X a H b):u7 X a d H { s with heap:=h',toks:=t' }:=by
 have h:∀b u,H b=ε u->b∉fp:=fun b u q z=>by rw[(f b z).1]at q;cases q
 refine I.step (g':=s.gens) (d':=s.drawn) (ch:=fp) (fun b x=>?_) (fun b o t t e q t=>k b o e q) (fun b o t t e q t=>⟨o.slots,k b o e q⟩)
  (fun b o t q n=>n) (fun b o e q=>⟨o,k b o e q⟩) (fun b i q=>q) (fun b o u q=>q)
  (fun b J q=>⟨#[],by rw[q];simp⟩) (fun m p=>?_) (fun b u q=>?_) I.bare
 . obtain⟨L,F,e2,E,D,C⟩:=f b x;exact⟨E,F,D,C⟩
 . obtain⟨o,y,B,j,r⟩:=p;exact⟨o,y,B,k _ o (fun z=>(f _ z).2.1 rfl) j,r⟩
 . refine(I.hok b u q).stay (fun c v e g=>?_) (fun c q=>q) fun c i q=>q
   rcases e with z | z
   . subst z;exact k c v (h c u q) g
   . exact k c v (h c _ z) g
end
def Izp(K:Pb)(a b:O4):It:=
 ⟨fun i H=>∃e d x y,vn K H a e/\vn K H b d/\e[i]?=ε x/\d[i]?=ε y,
  fun i H v f=>∃p x y,H p=none/\v=.ref p/\(∀e,vn K H a e->e[i]?=ε x)/\(∀d,vn K H b d->d[i]?=ε y)/\f=pB H p (.tup [x,y]),
  fun i H=>∃e d,vn K H a e/\vn K H b d/\(e.length<=i\/d.length<=i)⟩
def ZR{h:Ru}{z TI TO f i2 k l2 n:O4}{L:Oi}{x y a b:Oi}{F E:Nat}{xs ys:Rr Oi}(M:z=n+4)(P:TI=n+2)(O:TO=n+3)(Q:f=n)(e2:i2=n+1)(hz:IsZip h z TI TO L)(r:IsPair h TO a b)
 (h1:h.IsListIter f k F) (h2:h.IsListIter i2 l2 E) (p:h.IsList k xs) (m:h.IsList l2 ys):ZipApart z TI TO f i2 k l2:=by
 obtain⟨U,J,S,_⟩:=h1;obtain⟨T,g2,R,_⟩:=h2;have nl:∀{l:O4}{s:Rr Oi},h.IsList l s->l≠z/\l≠TO/\l≠f/\l≠i2:=by
  intro l s H;obtain⟨o,g,c,_⟩:=H;refine⟨fun e=>?_,fun e=>?_,fun e=>?_,fun e=>?_⟩
  . subst e;rw[hz]at g;cases g;simp at c
  . subst e;rw[r]at g;cases g;simp at c
  . subst e;rw[J]at g;cases g;rw[S]at c;simp at c
  . subst e;rw[g2]at g;cases g;rw[R]at c;simp at c
 obtain⟨q1,q2,q3,q4⟩:=nl p;obtain⟨D,C,B,u⟩:=nl m;have ne:∀(i j:Nat),i≠j->n+i≠n+j:=fun i j q e=>q (Nat.add_left_cancel e)
 have d:∀(i:Nat),i≠0->n+i≠n:=fun i I e=>I (Nat.add_left_cancel (e:n+i=n+0))
 subst M P O Q e2;exact⟨ne _ _ (by decide),ne _ _ (by decide),(d _ (by decide)).symm,ne _ _ (by decide),ne _ _ (by decide),d _ (by decide),ne _ _ (by decide),d _ (by decide),ne _ _ (by decide),(d _ (by decide)).symm,q1,q2,q3,q4,D,C,B,u⟩
def Bl{P:Pu}{w:Ri}{K:Pb}{T:Oe Pa}{x1}{pos:Pos}(a b n:O4):UG P w K (.Tuple T x1 pos) (Izp K a b) [n+4,n+2,n+3,n,n+1] (n+4)
 (fun i h=>IsZip h (n+4) (n+2) (n+3) .none/\IsPair h (n+2) (.ref n) (.ref (n+1))/\(∃u v,IsPair h (n+3) u v)/\h.IsListIter n a i/\h.IsListIter (n+1) b i) where
 mem:=by simp
 obj:=fun i h st c f=>by
  obtain⟨B,C,⟨u,v,r⟩,m,j⟩:=st;have z:c=n+4\/c=n+2\/c=n+3\/c=n\/c=n+1:=by simpa using f
  rcases z with z | z | z | z | z<;>subst z
  . exact⟨_,B,fun v z=>by cases z⟩
  . exact⟨_,C,fun v z=>by cases z⟩
  . exact⟨_,r,fun v z=>by cases z⟩
  . obtain⟨o,e,c,d⟩:=m;exact⟨o,e,fun v z=>by rw[d]at z;cases z⟩
  . obtain⟨o,e,c,d⟩:=j;exact⟨o,e,fun v z=>by rw[d]at z;cases z⟩
 keep:=fun i h h' st k=>by obtain⟨B,C,⟨u,v,r⟩,m,j⟩:=st;exact⟨k _ ⋯ _ B,k _ ⋯ _ C,⟨u,v,k _ ⋯ _ r⟩,m.at fun o e=>k _ ⋯ o e,j.at fun o e=>k _ ⋯ o e⟩
 item:=by
  intro X hP hw hK f i M s σ H E I W st hg;subst hP hw hK;obtain⟨B,C,⟨u,v,r⟩,m,j⟩:=st;obtain⟨xs,ys,x,y,U,F,hx,hy⟩:=hg;obtain⟨a2,rv,p,R⟩:=I.list U;obtain⟨Q,J,O,a3⟩:=I.list F;obtain⟨Z,a5,a1⟩:=rv.get hx;obtain⟨Y,a4,a0⟩:=J.get hy;have D:=ZR (x:=.none) (y:=.none) rfl rfl rfl rfl rfl B r m j p.isList O.isList;refine wpAny_pyNext_zip_item D B C r m j p.isList O.isList (x:=Z) (y:=Y) (by simpa using a5) (by simpa using a4) fun h' z1 z2 z3 z4 L sz kp=>?_
  refine⟨_,rfl,wpAny_letOwnedTupleGo_zip z1 fun h2 a6 sb=>?_⟩;have S:∀c ∈ [n+4,n+2,n+3,n,n+1],s.heap.objs.size≠c:=fun c f e=>by
   have z:c=n+4\/c=n+2\/c=n+3\/c=n\/c=n+1:=by simpa using f
   have:∃o,s.heap.get? c=ε o:=by
    rcases z with z | z | z | z | z<;>subst z
    . exact⟨_,B⟩
    . exact⟨_,C⟩
    . exact⟨_,r⟩
    . obtain⟨o,g,_⟩:=m;exact⟨_,g⟩
    . obtain⟨o,g,_⟩:=j;exact⟨_,g⟩
   obtain⟨o,g⟩:=this;exact Ea (iu g) (by rw[e];exact Eu _)
  have t2:h2.get? s.heap.objs.size=ε { cls:=.type "tuple",data:=.seq #[Z,Y] }:=(sb.2 _ (S _ ⋯)).trans L;have kk:∀c o,c ∉ [n+4,n+2,n+3,n,n+1]->s.heap.get? c=ε o->h2.get? c=ε o:=fun c o f q=>by simp![Ba,not_mem_nil,or_false,not_or]at f;exact(sb.2 c f.1).trans (kp c o f.1 f.2.2.1 f.2.2.2.1 f.2.2.2.2 q)
  have n2:IsPair h2 (n+2) (.ref n) (.ref (n+1)):=(sb.2 _ D.TIz).trans (kp _ _ D.TIz D.TITO D.TIi1 D.TIi2 C);refine⟨.ref s.heap.objs.size,pB H s.heap.objs.size (.tup [x,y]),I.hY kk W (Us _) ⟨by simp![T4,Va];rw[Ca];decide,[Z,Y],.cons a1 (.cons a0 .nil),⟨_,t2,rfl,_,rfl⟩⟩,rfl,
   ⟨_,x,y,I.hok.fresh (Us _),rfl,fun zs R=>by rw[I.fw R U];exact hx,fun zs R=>by rw[I.fw R F];exact hy,rfl⟩,
   ⟨a6,n2,⟨_,_,(sb.2 _ D.TOz).trans z2⟩,z3.at fun o q=>(sb.2 _ D.i1z).trans q,z4.at fun o q=>(sb.2 _ D.i2z).trans q⟩,fun c f=>?_⟩
  rw[XA (m8 (S c f))];exact(W c f).1
 done:=by
  intro X hP hw hK f i M s σ H E I W st hg;subst hP hw hK;obtain⟨B,C,⟨u,v,r⟩,m,j⟩:=st;obtain⟨xs,ys,U,F,hx⟩:=hg;obtain⟨a2,rv,p,R⟩:=I.list U;obtain⟨Q,J,O,a3⟩:=I.list F;have hl:=rv.length;have a7:=J.length;have D:=ZR (x:=.none) (y:=.none) rfl rfl rfl rfl rfl B r m j p.isList O.isList;refine wpAny_pyNext_zip_end (I.ok.hd f) D B C r m j p.isList O.isList ?_ fun h' eb=>⟨rfl,I.hZ (t':=s.toks) (fp:=[n+4,n+2,n+3,n,n+1]) (fun c o f q=>?_) W⟩
  . rcases hx with hx | hx
    . exact .inl (by simp;omega)
    . exact .inr (by simp;omega)
  . simp![Ba,not_mem_nil,or_false,not_or]at f;exact eb c o f.1 f.2.2.1 f.2.2.2.1 f.2.2.2.2 q
 self:=fun t t t t t st h=>wpAny_pyIter_zip st.1 h
section
variable{X:Cx}
def iZp(K:Pb)(i:TA):TI:=fun e H R=>i e H fun h d=>∃a b,h=[.ref a,.ref b]/\(∃g,vn K d a g)/\(∃f,vn K d b f)/\R (Izp K a b) d
def Hj {x1} (Z:Gl X "zip") (Y:X.mg "zip" =none) (ha:PA X [a,b] y) (hs:autoParam (starEach [a,b] X.env=(false,eval a X.env)::starEach [b] X.env) Æ) (hpl:autoParam ((backTo pos (starEach [b] X.env)).any (·.1)=false) Æ) :
 PI X (.Tuple i x1 M) (.Call (.Name "zip" p) [a,b] [] pos) (iZp X.K y):=by
 intro g s o H R I h;refine Call_ (nG I Z Y boot_zip (PyProof.Rows.callWith_type1 (wB (ha pos g s o H _ I h) fun us f D=>?_) hs hpl));obtain⟨vs,C,j,P,q1⟩:=D;obtain⟨c,d,e,⟨xs,W⟩,⟨ys,n⟩,q⟩:=q1;subst e;obtain⟨u,u',rfl,r,Q⟩:=pQ P;cases r;cases Q;obtain⟨S,rv,pl,hz⟩:=j.list W;obtain⟨B,O,m,T⟩:=j.list n;refine call_zip_2 pl.isList m.isList fun h' x L J F E U k=>?_
 have I2:u7 X g o C { f with heap:=h' }:=j.kept (t':=f.toks) k;refine wpAny_pyIter_zip x ?_;refine⟨f.heap.objs.size+4,[f.heap.objs.size+4,f.heap.objs.size+2,f.heap.objs.size+3,f.heap.objs.size,f.heap.objs.size+1],_,_,C,rfl,I2,Bl c d f.heap.objs.size,⟨x,L,⟨_,_,J⟩,F,E⟩,fun c hc=>?_,q⟩;have z:f.heap.objs.size<=c:=by
  have z:c=f.heap.objs.size+4\/c=f.heap.objs.size+2\/c=f.heap.objs.size+3\/c=f.heap.objs.size\/c=f.heap.objs.size+1:=by simpa using hc
  rcases z with z | z | z | z | z<;>rw[z]<;>first | exact Us _ | exact Ma _ _
 exact j.cx z (j.hok.fresh z)
end
end L2
namespace SM
section
variable{X:Cx}{e o i a b:Pa}{f g fe fo w fa fb:RE}{p pos m:Pos}
def Z8 (x:X.calm=true) (u:Gl X "any") (s:X.mg "any" =none) (y:EM X e f) (hs:autoParam (ZA e=true) Æ):EM X (.Call (.Name "any" p) [e] [] pos) (VB xN f):=by
 unhygienic
  exact AK (Jr x) (fun j h d v E D H Q S R e k=>by
   obtain⟨n,B,e⟩:=nA e;cases q:kE n with
   | none=>rw[q]at e;cases e
   | some ns=>
    rw[q]at e;cases e;obtain⟨a,C,z,sq,r⟩:=zC S R B;rw[dP q]at r;rw[r.gf]at sq;exact⟨a,ns,by rw[z],sq,k j _ H (Za.mpr rfl) S (vc.refl _ _)⟩) u s PyProof.Rows.boot_any y (hs:=hs)
theorem ZO(he:EM X e fe)(Z:EM X o fo)(hi:EM X i w)
 (hs:autoParam (swapsWithSole [.Subscript o i m] e pos.line X.env=pure false) Æ) (hw:autoParam (swappedStores [.Subscript o i m] e X.env=pure none) Æ) (h1:autoParam ((assignEach [.Subscript o i m] X.env).map (·.2)=[assign (.Subscript o i m) X.env]) Æ)
 (s:∀v,assign (.Subscript o i m) X.env v=(do
  let ov <- holding [v] (eval o X.env)
  let iv <- holding [v,ov] (eval i X.env)
  standAt m
  holding [v,ov,iv] (setItem ov iv v)
  release [v,ov,iv] []):=by intro _;rfl):ZM X (.Assign [.Subscript o i m] e pos) (dJ fe fo w):=by
 unhygienic
  exact PS.imp (A4 he (Ej Z hi Lp s) hs hw h1) fun D T H M=>by
   obtain⟨U,l,h,r,S,L,e,k⟩:=M;obtain⟨⟨v,Q⟩,e1,e⟩:=nA e;obtain⟨⟨d,hd⟩,e2,e⟩:=nA e;obtain⟨⟨j,hj⟩,e3,e⟩:=nA e;refine⟨U,l,h,v,Q,S,L,e1,fun J u H1 R1 S1 E=>⟨J,l,Q,d,hd,S1,L.ext E,e2,fun I y H2 R2 S2 C=>⟨I,l,hd,j,hj,S2,L.ext (E.trans C),e3,fun F z H3 R3 R B=>?_⟩⟩⟩;cases d with
   | ref n=>
    cases j with
    | int Y=>
     dsimp only at e;split at e
     . rename_i xs q;obtain⟨P,e4,e⟩:=nA e;cases e;obtain⟨aa,M,s⟩:=ad.mp (T3.ext B _ R2);obtain⟨W,x,g2⟩:=R.lst s q;have O:=kj s;refine⟨aa,W,Y,P,M,Xa.mp R3,x,by rw[g2.length];exact e4,?_⟩;exact k F T _ (R.write s (FH x) ⟨_,oC,(g2.set P (T3.ext (C.trans B) _ R1)).ext (vc.write O (FH x))⟩) (L.ext (E.trans (C.trans (B.trans (vc.write O (FH x)))))) (E.trans (C.trans (B.trans (vc.write O (FH x)))))
     . cases e
    | _=>cases e
   | _=>cases e
def IS(he:EM X e fe)(E:GM X d t)(hs:autoParam (swapsWithSole [d] e pos.line X.env=pure false) Æ)(hw:autoParam (swappedStores [d] e X.env=pure none) Æ)
 (h1:autoParam ((assignEach [d] X.env).map (·.2)=[assign d X.env]) Æ):ZM X (.Assign [d] e pos) (FJ t fe):=by
 unhygienic exact PS.imp (A4 he E hs hw h1) fun D O H B=>by obtain⟨y,l,h,r,S,L,e,k⟩:=B;obtain⟨⟨v,q⟩,F,e⟩:=nA e;obtain⟨C,e2,e⟩:=nA e;cases e;exact⟨y,l,h,v,q,S,L,F,fun j u M I s x=>⟨j,l,q,v,C,s,L.ext x,I,e2,fun n J=>k j n M s J x⟩⟩
theorem aZ{d:Type}(v:d):∀k,(List.replicate k [v]).flatten=List.replicate k v
 | 0=>rfl
 | k+1=>by rw[Le,flatten_cons,aZ v k];rfl
theorem J0{K:Pb}(r:T3 K H ρ d v):∀k,Ti K H ρ (List.replicate k d) (List.replicate k v)
 | 0=>.nil
 | k+1=>.cons r (J0 r k)
def TY(own)(h:tM X.K (if own=true then zK fa fb else wJ fa fb) M H Q):hV bV (fV (Y5 (tM X.K fa) UQ)) (tM X.K fb) M H Q:=by
 obtain⟨T,l,h,d,W,S,L,e,k⟩:=h;have Y:∃r s u n i,fa l h=ε (r,s)/\fb l s=ε (u,n)/\u=.int i/\(-(2^62)<=i/\i<=1000000)/\(if own=true then(Dt.ref n.length,n++[.lst (YG r i)])else(Dt.lst (YG r i),n))=(d,W):=by
  cases own with
  | true=>
   rw[dz rfl]at e;obtain⟨⟨r,s⟩,C,e⟩:=nA e;obtain⟨⟨u,n⟩,e2,e⟩:=nA e;cases u with
   | int i=>obtain⟨c,e⟩:=EF e;exact⟨r,s,_,n,i,C,e2,rfl,c,e⟩
   | _=>cases e
  | false=>
   rw[eG Vu]at e;obtain⟨⟨r,s⟩,C,e⟩:=nA e;obtain⟨⟨u,n⟩,e2,e⟩:=nA e;cases u with
   | int i=>obtain⟨c,e⟩:=EF e;exact⟨r,s,_,n,i,C,e2,rfl,c,e⟩
   | _=>cases e
 obtain⟨r,s,u,n,i,C,e2,rfl,c,D⟩:=Y;refine⟨T,l,h,r,s,S,L,C,fun F v H1 Z O R=>⟨by simp![T4,Va];rw[Ca];decide,fun q B=>?_⟩⟩;refine⟨F,l,s,.int i,n,O.fresh B,L.ext (R.trans (vc.fresh B)),e2,fun x y H2 R2 E J=>?_⟩;have U:=J.keep q _ oC (O.out B).1;have hi:i.toNat<=1000000:=by omega
 refine⟨q,i,[v],rfl,Xa.mp R2,U,by omega,by omega,by simp![T4,Va];rw[Ca];omega,fun q2 j=>?_⟩;rw[aZ];have I:Ti X.K H2 x (YG r i) (List.replicate i.toNat v):=J0 (T3.ext ((vc.fresh B).trans J) _ Z) _;have P:=R.trans ((vc.fresh B).trans J);cases own with
 | true=>rw[dz rfl]at D;cases D;exact k _ _ _ (bI E I j).1 (bI E I j).2 (P.trans (vc.own j))
 | false=>rw[eG Vu]at D;cases D;exact k x _ _ (mK E I j) (E.fresh j) (P.trans (vc.fresh j))
def W1(j:EM X a fa)(d:EM X b fb)(hs:autoParam (ZA a=true) Æ):EM X (.BinOp (.List [a] p) .Mult b pos) (wJ fa fb):=by unhygienic exact PE.imp (nU W3 (JP (mC j cD (fB hs _ _))) d) fun k H Q h=>TY (fa:=fa) (fb:=fb) false h
def iZ(j:EM X a fa)(d:EM X b fb)(hs:autoParam (ZA a=true) Æ):EM X (.BinOp (.List [a] p) .Mult b pos) (zK fa fb):=by unhygienic exact PE.imp (nU W3 (JP (mC j cD (fB hs _ _))) d) fun k H Q h=>TY (fa:=fa) (fb:=fb) true h
set_option tactic.hygienic true in
theorem x9 {x1} (hg:Gl X "zip") (hm:X.mg "zip" =none) (ha:EM X a fa) (hb:EM X b fb) (hs:autoParam (ZA a=true) Æ) (I:autoParam (ZA b=true) Æ):IM X (.Tuple J x1 tp) (.Call (.Name "zip" p) [a,b] [] pos) (GQ fa fb):=by
 unhygienic
  refine PI.imp (Hj hg hm (mC ha (mC hb cD (fB I _ _)) (fB hs _ _)) (fB hs _ _) (EI (by rw[Ks,I];rfl))) fun σ H R zz=>?_
  obtain⟨ρ,l,h,s,h',S,L,e,k⟩:=zz;obtain⟨⟨d1,h1⟩,e1,e⟩:=nA e;obtain⟨⟨d2,h2⟩,e2,e⟩:=nA e;refine⟨ρ,l,h,d1,h1,S,L,e1,fun Y v H1 R1 S1 E1=>⟨Y,l,h1,d2,h2,S1,L.ext E1,e2,fun W u H2 R2 S2 E2=>?_⟩⟩;dsimp only at e;split at e
  . rename_i xs ys q1 q2;cases e;have M:=T3.ext E2 _ R1;obtain⟨c,vs,z1,t1,_⟩:=zC S2 M q1;obtain⟨d,ws,Z,t2,_⟩:=zC S2 R2 q2;refine⟨c,d,by rw[z1,Z],⟨vs,t1⟩,⟨ws,t2⟩,k W _ H2 (fun H3 a1 h3 E3 r n=>?_) S2 (E1.trans E2)⟩;have B:=T3.same E3 _ M;have x:=T3.same E3 _ R2;simp![vj.at];split
    . trivial
    . rename_i y;split at y
      . rename_i F E w1 w2;obtain⟨c2,q,D,P,r3⟩:=zC r B w1;obtain⟨d2,j,C,O,r4⟩:=zC r x w2;rw[z1]at D;rw[Z]at C;cases D;cases C;refine⟨q,j,P,O,?_⟩;have y:=ou y;rw[r3.length,r4.length];split at y
        . cases y
        . rename_i a0;by_cases U:F.length<=n
          . exact .inl U
          . by_cases g2:E.length<=n
            . exact .inr g2
            . exact Ea (ji (Nat.lt_of_not_le g2)) (a0 _ _ (ji (Nat.lt_of_not_le U)))
      . cases y
    . rename_i dd y;split at y
      . rename_i F E w1 w2;obtain⟨c2,q,D,P,r3⟩:=zC r B w1;obtain⟨d2,j,C,O,r4⟩:=zC r x w2;rw[z1]at D;rw[Z]at C;cases D;cases C;have y:=ou y;split at y
        . rename_i x' y' U g2;cases y;obtain⟨vx,m1,n1⟩:=r3.get U;obtain⟨vy,m2,n2⟩:=r4.get g2;refine⟨⟨q,j,vx,vy,P,O,m1,m2⟩,fun u H4 y=>?_⟩;obtain⟨p0,x0,y0,hp,rfl,T,Q,rfl⟩:=y;have T:=T q P;have Q:=Q j O;rw[m1]at T;rw[m2]at Q;cases T;cases Q;exact⟨UI r (.cons n1 (.cons n2 .nil)) hp,vc.fresh hp,r.fresh hp⟩
        . cases y
      . cases y
  . cases e
end
section
variable{X:Cx}{c:Oe (O4×Obj)}{f:L2.St}{H:Hp}{s:Ou}{ρ:Rg}
def yT(_:X.A.units+64<cLine):OM X (compareOp .Eq) xG:=Z4
def oK(hu:X.A.units+64<cLine):OM X (compareOp .NotEq) RC:=by
 unhygienic
  intro c s f H x y v u Q I F E h;obtain⟨ρ,h,Z,Y,d,W,S,M,R2,e,k⟩:=h;unfold RC at e;split at e
  . obtain⟨ns,q1,e⟩:=nA e;obtain⟨U,q2,e⟩:=nA e;cases e;obtain⟨a,T,z,t,B⟩:=ai.mp M;obtain⟨b,R,C,D,m⟩:=ai.mp R2;rw[aE q1]at B;rw[aE q2]at m;subst z C;cases BI B;cases BI m;cases F;cases E;obtain⟨o,r,p,_⟩:=I.tuple t.sq;obtain⟨n,i,g,_⟩:=I.tuple D.sq;refine Sd (e:=fun j=>decide (ns[j]?=U[j]?)) (WJ p) (WJ g) nofun (fun j P L=>jS r i j P L) ?_;refine⟨.bl _,H,I,rfl,k ρ _ H (Za.mpr (congrArg V.bl ?_)) S (vc.refl _ _)⟩;rw[cG,cG,<- r.length,<- i.length,mq,mq,bZ]
  . obtain⟨O,q,e⟩:=nA e;cases e;obtain⟨a,T,z,t,B⟩:=zC S M q;obtain⟨b,R,C,D,m⟩:=br.mp R2;subst z C;cases m.ba;cases F;cases E;obtain⟨o,r,p,_⟩:=I.list t;obtain⟨n,i,g,_⟩:=I.list D.sq;cases i;have J:o.length=O.length:=by rw[<- r.length,B.length]
    cases O with
    | nil=>refine fZ (e:=fun l=>true) p.isList g.isList J nofun (fun j P L=>Ea L ⋯) ?_;refine⟨.bl _,H,I,rfl,k ρ _ H (Za.mpr (congrArg V.bl ?_)) S (vc.refl _ _)⟩;rw[cG,J];rfl
    | cons _ _=>exact Jy p.isList g.isList (by rw[cG,J];rfl) nofun ⟨.bl _,H,I,rfl,k ρ _ H (Za.mpr rfl) S (vc.refl _ _)⟩
  . exact J5 c s f H x y v u Q I F E ⟨ρ,h,Z,Y,d,W,S,M,R2,e,k⟩
end
section
variable{X:Cx}{e o i a b:Pa}{f g fe fo fi fa fb:RE}{p pos pos' w s:Pos}
set_option tactic.hygienic true in
theorem yO (ho:EM X a fa) (hb:EM X b fb) (q:autoParam (attributeBase a "extend" X.env (eval a X.env)=eval a X.env) Æ)
 (j:autoParam ((w.endLine==s.line)=true) Æ) (hs:autoParam (ZA b=true) Æ) :
 EM X (.Call (.Attribute a "extend" w) [b] [] s) (MI fa fb):=by
 unhygienic
  exact PE.imp (bN PySem.F.plainAttrs_list PySem.F.slot_list_extend PySem.F.type_list_extend Kd ho (mC hb cD (fB hs _ _)) q (zM hs) j (fB hs _ _)) fun σ H Q W=>by
   obtain⟨U,l,h,d,h',S,L,e,k⟩:=W;obtain⟨⟨M,F⟩,e1,e⟩:=nA e;refine⟨U,l,h,M,F,S,L,e1,fun C v H1 P O T=>?_⟩;cases M with
   | ref n=>
    dsimp only at e;split at e
    . rename_i Z q0;obtain⟨⟨J,h2⟩,e2,e⟩:=nA e;refine⟨IT O P q0,C,l,F,J,h2,O,L.ext T,e2,fun B y H2 R2 D R=>?_⟩;dsimp only at e;cases J with
      | ref m=>
       dsimp only at e;split at e
       . rename_i xs ys q1 q2;obtain⟨hz,e⟩:=EF e;cases e;obtain⟨a,z,ha⟩:=ad.mp P;subst z;obtain⟨a2,Y,u⟩:=ad.mp R2;subst Y;have r:=R.get ha;obtain⟨vs,x,g2⟩:=D.lst r q1;obtain⟨ws,g3,I⟩:=D.lst u q2;have E:=kj r;refine⟨a,a2,vs,ws,rfl,rfl,x,g3,by rw[g2.length,I.length];exact hz,k B _ _ (bv.mpr rfl) (D.write r (FH x) ⟨_,oC,?_⟩) (T.trans (R.trans (vc.write E (FH x))))⟩;exact(g2.append I).ext (vc.write E (FH x))
       . cases e
      | _=>cases e
    . cases e
   | _=>cases e
set_option tactic.hygienic true in
theorem Bb (ho:EM X a fa) (hb:EM X b fb) (m:autoParam (attributeBase a "pop" X.env (eval a X.env)=eval a X.env) Æ)
 (j:autoParam ((w.endLine==s.line)=true) Æ) (hs:autoParam (ZA b=true) Æ) :
 EM X (.Call (.Attribute a "pop" w) [b] [] s) (FP fa fb):=by
 unhygienic
  exact PE.imp (bN PySem.F.plainAttrs_list PySem.F.slot_list_pop PySem.F.type_list_pop Ec ho (mC hb cD (fB hs _ _)) m (zM hs) j (fB hs _ _)) fun σ H Q T=>by
   obtain⟨R,l,h,d,h',S,L,e,k⟩:=T;obtain⟨⟨I,F⟩,e1,e⟩:=nA e;refine⟨R,l,h,I,F,S,L,e1,fun B v H1 M J P=>?_⟩;cases I with
   | ref n=>
    dsimp only at e;split at e
    . rename_i U q0;obtain⟨⟨d2,h2⟩,e2,e⟩:=nA e;refine⟨IT J M q0,B,l,F,d2,h2,J,L.ext P,e2,fun u y H2 R2 D O=>?_⟩;dsimp only at e;split at e
      . rename_i z0;split at e
        . rename_i x xs q1;cases e;obtain⟨a,z,ha⟩:=ad.mp M;subst z;have q:=O.get ha;obtain⟨vs,r,g2⟩:=D.lst q q1;have C:=kj q;obtain⟨E,W,rfl,Z,Y⟩:=g2.Zi;have a0:=D.len;refine⟨a,E::W,0,0,E,rfl,by rw[Xa.mp R2],r,by decide,by decide,?_,rfl,k u _ _ (T3.ext (vc.write C (FH r)) _ Z) (D.write q (FH r) ⟨_,oC,?_⟩) (P.trans (O.trans (vc.write C (FH r))))⟩
          . rw[seqIndex_of (by decide) (by simp![T4];omega)];rfl
          . exact Y.ext (vc.write C (FH r))
        . cases e
      . cases e
    . cases e
   | _=>cases e
def a9(r:EM X a fa):EM X (.UnaryOp .Invert a pos) (IN fa):=by
 unhygienic
  exact PE.imp (K5 Ez r) fun F H Q q=>by
   obtain⟨n,l,h,d,I,S,L,e,k⟩:=q;obtain⟨⟨m,u⟩,y,e⟩:=nA e;refine⟨n,l,h,m,u,S,L,y,fun j x D C B E=>?_⟩;cases m with
   | int i=>cases e;exact⟨i,Xa.mp C,k j _ D (Xa.mpr rfl) B E⟩
   | _=>cases e
def PZ(hp:PassesOwn (model X.prog X.w) X.A X.env X.xe)(hc:TM X c t)(hb:iI X body u):ZM X (.While c body [] pos) (KP n t u):=by
 unhygienic
  exact PS.imp (yp hp hc hb) fun D σ H zz=>by
   obtain⟨Z,l,h,r,S,L,e,k⟩:=zz;refine⟨fun m C Y=>∃d y E,Ve X.K d E Y/\Yi X.K Y d y C/\vc Z d H Y/\RF t u m y E=ε r,⟨n,Z,l,h,S,L,vc.refl _ _,e⟩,?_⟩;rintro m C Y ⟨d,y,E,S',L',T,x⟩;cases m with
   | zero=>simp![RF]at x;cases x
   | succ m=>
    simp![RF]at x;obtain⟨⟨b,h1⟩,e1,x⟩:=nA x;refine⟨d,y,E,b,h1,S',L',e1,fun O H2 S2 J=>?_⟩;cases b with
    | true=>
     rw[dz rfl]at x;obtain⟨r1,e2,x⟩:=nA x;refine DH ⟨fun M W=>∃m',m'<m+1/\∃d y E,Ve X.K d E W/\Yi X.K W d y M/\vc Z d H W/\RF t u m' y E=ε r,fun M W q=>q,O,y,h1,r1,S2,L'.ext J,e2,?_⟩;cases r1 with
     | nx U P=>exact fun j B R F Q I=>⟨m,yu _,j,U,P,F,Q,T.trans (J.trans I),x⟩
     | ct U P=>exact fun j B R F Q I=>⟨m,yu _,j,U,P,F,Q,T.trans (J.trans I),x⟩
     | bk U P=>cases x;exact fun j B R F Q I=>k j B R F Q (T.trans (J.trans I))
     | rt d2 P=>cases x;exact fun j v5 R R5 F I=>k j v5 R R5 F (T.trans (J.trans I))
    | false=>rw[eG Vu]at x;cases x;exact BH (k O C H2 S2 (L'.ext J) (T.trans J))
def mr (I:X.calm=true) (F:Gl X "min") (E:X.mg "min" =none) (M:EM X a fa) (J:EM X b fb) (hs:autoParam (ZA a=true) Æ) (m:autoParam (ZA b=true) Æ):EM X (.Call (.Name "min" p) [a,b] [] pos) (J6 QM fa fb):=by
 unhygienic
  exact PE.imp (mM (Lr I) F E PyProof.Rows.boot_min (mC M (mC J cD (fB m _ _)) (fB hs _ _)) (he:=fB hs _ _) (hpl:=EI (by rw[Ks,m];rfl))) fun Z H Q D=>by
   obtain⟨C,l,h,d,h',S,L,e,k⟩:=D;obtain⟨⟨y,r⟩,P,e⟩:=nA e;obtain⟨⟨x,O⟩,e2,e⟩:=nA e;refine⟨C,l,h,y,r,S,L,P,fun q v H1 U T B=>⟨q,l,r,x,O,T,L.ext B,e2,fun n u W R2 R Y=>?_⟩⟩;cases y with
   | int i=>
    cases x with
    | int j=>cases e;exact⟨i,j,by rw[Xa.mp U,Xa.mp R2],k n _ W (Xa.mpr rfl) R (B.trans Y)⟩
    | _=>cases e
   | _=>cases e
end
end SM
namespace L2
section
variable{X:Cx}
end
end L2
namespace SM
section
variable{X:Cx}{e o i a b:Pa}{f g fe fo fi fa fb:RE}{p pos pos' apos cpos:Pos}
end
end SM
namespace L2
section
variable{c:Type}[DecidableEq c]
noncomputable def BE(kvs:Oe (c×V))(k:c):Oo V:=(kvs.find? fun a=>decide (a.1=k)).map (·.2)
noncomputable def qF(kvs:Oe (c×V))(k:c)(v:V):Oe (c×V):=
 if(kvs.any fun a=>decide (a.1=k))=true then kvs.map (fun a=>if a.1=k then(a.1,v)else a)else kvs++[(k,v)]
noncomputable def J4(kvs:Oe (c×V))(k:c):Oe (c×V):=kvs.filter fun a=>decide (a.1≠k)
def YO{p:c×V}(e:p.1=k):BE (p::r) k=ε p.2:=by simp[BE,Ja,e]
def XO{p:c×V}(e:¬p.1=k):BE (p::r) k=BE r k:=by simp[BE,Ja,e]
theorem LZ(k:c):∀a,(a.any fun b=>decide (b.1=k))=(BE a k).isSome
 | []=>rfl
 | p::r=>by
  rw[Ko];by_cases e:p.1=k
  . simp![YO e,g8 e,Bool.true_or,Option.isSome_some]
  . rw[XO e,fu e,Bool.false_or];exact LZ k r
def CW(kvs:Oe (c×V))(k)(v):(qF kvs k v).length<=kvs.length+1:=by
 unfold qF;split
 . rw[mq];omega
 . rw[je,T4,Va];omega
def av.gy(r:av o u):o.isSome=u.isSome:=by
 cases o with
 | none=>cases u with
  | none=>rfl
  | some _=>exact(show False from r).elim
 | some _=>cases u with
  | none=>exact(show False from r).elim
  | some _=>rfl
def av.getD(r:av o u)(a:ve d d'):ve (o.getD d) (u.getD d'):=by
 cases o with
 | none=>cases u with
  | none=>exact a
  | some _=>exact(show False from r).elim
 | some _=>cases u with
  | none=>exact(show False from r).elim
  | some _=>exact r
def KV.val{kvs:Oe (c×V)}(r:KV kvs vs)(k):av (BE kvs k) (valueAt vs k):=by
 unfold KV at r
 induction r with
 | nil=>exact Ju
 | @cons p q g qs h t ih=>
  obtain⟨d,f⟩:=h;by_cases e:p.1=k
  . have a:q.1=k:=d.symm.trans e;have b:valueAt (q::qs) k=ε q.2:=by simp[valueAt,Ja,a]
    rw[YO e,b];exact f
  . have a:¬q.1=k:=fun z=>e (d.trans z)
    have b:valueAt (q::qs) k=valueAt qs k:=by simp[valueAt,Ja,a]
    rw[XO e,b];exact ih
def KV.any{kvs:Oe (c×V)}(r:KV kvs vs)(k):(kvs.any fun a=>decide (a.1=k))=vs.any fun a=>decide (a.1=k):=by
 unfold KV at r
 induction r with
 | nil=>rfl
 | cons h t ih=>rw[Ko,Ko,ih,h.1]
def KV.repl{kvs:Oe (c×V)}(r:KV kvs vs)(k)(d:ve y u) :
 KV (kvs.map fun a=>if a.1=k then(a.1,y)else a) (vs.map fun a=>if a.1=k then(a.1,u)else a):=by
 unfold KV at r ⊢
 induction r with
 | nil=>exact .nil
 | @cons p q g qs h t ih=>
  rw[Uo,Uo];refine .cons ?_ ih;obtain⟨b,f⟩:=h;by_cases e:p.1=k
  . rw[dz e,dz (b.symm.trans e)];exact⟨b,d⟩
  . rw[eG e,eG (fun z=>e (b.trans z))];exact⟨b,f⟩
def KV.put{kvs:Oe (c×V)}(r:KV kvs vs)(k)(a:ve y u):KV (qF kvs k y) (stored vs k u):=by
 unfold qF stored;rw[r.any k];by_cases e:(vs.any fun b=>decide (b.1=k))=true
 . rw[dz e,dz e];exact r.repl k a
 . rw[eG e,eG e];exact Paired.snoc r ⟨rfl,a⟩
def KV.drop{kvs:Oe (c×V)}(r:KV kvs vs)(k):KV (J4 kvs k) (without vs k):=by
 unfold KV at r ⊢;unfold J4 without
 induction r with
 | nil=>exact .nil
 | @cons p q i qs h t ih=>
  obtain⟨d,f⟩:=h;rw[filter_cons,filter_cons];by_cases e:p.1=k
  . have a:¬decide (p.1≠k)=true:=by simp[e]
    have b:¬decide (q.1≠k)=true:=by simp[d.symm.trans e]
    rw[eG a,eG b];exact ih
  . have g:¬q.1=k:=fun z=>e (d.trans z)
    have a:decide (p.1≠k)=true:=by simp[e]
    have b:decide (q.1≠k)=true:=by simp[g]
    rw[dz a,dz b];exact .cons ⟨d,f⟩ ih
def KV.keys{vs:Oe (c×Oi)}(r:KV kvs vs):kvs.map (·.1)=vs.map (·.1):=by
 unfold KV at r
 induction r with
 | nil=>rfl
 | cons h t ih=>rw[Uo,Uo,ih,h.1]
def KV.length{vs:Oe (c×Oi)}(r:KV kvs vs):kvs.length=vs.length:=Paired.length r
end
def UM(r:ve (kV k) u):(QD P w).is k u=true:=by
 cases k with
 | inl i=>obtain⟨t,e⟩:=(show ∃t,u=Value.int i t from r);subst e;exact Ny P w i t
 | inr x=>obtain⟨t,e⟩:=(show ∃t,u=Value.str x t from r);subst e;exact Py P w x t
theorem kX:∀{ks:Oe MB}{us:Oe Oi},va (ks.map kV) us->ItemsAre (QD P w) ks us
 | [],_,r=>by rw[Wo]at r;cases r;exact .nil
 | k::ks,_,r=>by
  rw[Uo]at r;cases r with
  | cons h t=>exact .cons (UM h) (kX t)
abbrev KT(H:Hp):Oe (Oe MB×V)->Oe (Oe MB×O4×Oi)->Prop:=Paired fun p q=>p.1=q.1/\H q.2.1=ε (.tup (p.1.map kV))/\ve p.2 q.2.2
def KT.val(r:KT H kvs xs)(k):av (BE kvs k) ((atKey xs k).map (·.2)):=by
 induction r with
 | nil=>exact Ju
 | @cons p q g qs h t ih=>
  obtain⟨d,_,f⟩:=h;by_cases e:p.1=k
  . have a:q.1=k:=d.symm.trans e;have b:atKey (q::qs) k=ε q.2:=by simp[atKey,Ja,a]
    rw[YO e,b];exact f
  . have a:¬q.1=k:=fun z=>e (d.trans z)
    have b:atKey (q::qs) k=atKey qs k:=by simp[atKey,Ja,a]
    rw[XO e,b];exact ih
def KT.repl(r:KT H kvs xs)(k)(f:ve y u) :
 KT H (kvs.map fun b=>if b.1=k then(b.1,y)else b) (xs.map (putAt k u)):=by
 induction r with
 | nil=>exact .nil
 | @cons p q i qs h t ih=>
  rw[Uo,Uo];refine .cons ?_ ih;obtain⟨a,d,g⟩:=h;unfold putAt;by_cases e:p.1=k
  . rw[dz e,dz (a.symm.trans e)];exact⟨a,d,f⟩
  . rw[eG e,eG (fun z=>e (a.trans z))];exact⟨a,d,g⟩
def KT.put(r:KT H kvs xs)(k)(f:H b=ε (.tup (k.map kV)))(a:ve y u) :
 KT H (qF kvs k y) (storedH xs k b u):=by
 have e:(kvs.any fun d=>decide (d.1=k))=(atKey xs k).isSome:=by rw[LZ,(r.val k).gy,Option.isSome_map]
 unfold qF storedH;rw[e];by_cases q:(atKey xs k).isSome=true
 . rw[dz q,dz q];exact r.repl k a
 . rw[eG q,eG q];exact Paired.snoc r ⟨rfl,f,a⟩
def KT.keeps(r:KT H kvs xs)(e:∀b a,H b=ε (.tup a)->d b=ε (.tup a)):KT d kvs xs:=
 Paired.gg r fun q q z=>⟨z.1,e _ _ z.2.1,z.2.2⟩
section
variable{P:Pu}{w:Ri}{H:Hp}{h:Ru}{a:O4}
def V5(ok:wl P w H h)(e:Rd H a u):Ye P w H h a u:=e.ok ok
def xK(ok:wl P w H h)(e:Rd H a (.dK kvs)):kvs.length<=sizeLine/\(a==sysModules)=false/\∃vs,KV kvs vs/\h.DictOf (QD P w) a vs:=
 show Ye P w H h a (.dK kvs)from V5 ok e
def Kz(ok:wl P w H h)(e:H a=ε (.dK kvs)):kvs.length<=sizeLine/\(a==sysModules)=false/\∃vs,KV kvs vs/\h.DictOf (QD P w) a vs:=xK ok (.inl e)
def DM(ok:wl P w H h)(e:H a=ε (.tup (ks.map kV))):(tupleKind (QD P w)).is h ks a:=by obtain⟨_,b,r,o,g,f,n,d⟩:=(show Ye P w H h a (.tup (ks.map kV))from ok a _ e);exact⟨o,b.toArray,n,g,f,d,by simpa using kX r⟩
def yK(ok:wl P w H h)(e:Rd H a (.dT kvs)):kvs.length<=sizeLine/\(a==sysModules)=false/\
 ∃xs,KT H kvs xs/\h.DictOfH (tupleKind (QD P w)) a xs:=by
 obtain⟨z,y,xs,r,o,k,n,j,i,g,f,d⟩:=(show Ye P w H h a (.dT kvs)from V5 ok e);refine⟨z,y,xs,r,o,k,n,j,i,g,f,fun x hx=>?_,d⟩;have all:∀{l:Oe (Oe MB×V)}{m:Oe (Oe MB×O4×Oi)},KT H l m->∀x∈m,(tupleKind (QD P w)).is h x.1 x.2.1:=by
  intro l m q
  induction q with
  | nil=>intro x hx;exact nomatch hx
  | @cons p q s qs b t ih=>
   intro x hx;rcases Ba.mp hx with e | hx
   . subst e;exact DM ok (by rw[<- b.1];exact b.2.1)
   . exact ih x hx
 exact all r x hx
def Lz(ok:wl P w H h)(e:H a=ε (.dT kvs)):kvs.length<=sizeLine/\(a==sysModules)=false/\
 ∃xs,KT H kvs xs/\h.DictOfH (tupleKind (QD P w)) a xs:=yK ok (.inl e)
end
def bt(H:Hp)(a:O4)(y:V)(r:Oo V):Prop:=
 (∃d k,Rd H a (.dK d)/\y=kV k/\r=BE d k)\/∃d k b,Rd H a (.dT d)/\y=.ref b/\H b=ε (.tup (k.map kV))/\r=BE d k
def ff(H:Hp)(a:O4)(y v:V)(e:Hp):Prop:=
 (∃d k,H a=ε (.dK d)/\y=kV k/\d.length<sizeLine/\e=pB H a (.dK (qF d k v)))\/
 ∃d k b,H a=ε (.dT d)/\y=.ref b/\H b=ε (.tup (k.map kV))/\d.length<sizeLine/\e=pB H a (.dT (qF d k v))
def bt.t(e:H a=ε (.dT kvs))(d:H b=ε (.tup (k.map kV))):bt H a (.ref b) (BE kvs k):=.inr ⟨kvs,k,b,.inl e,rfl,d,rfl⟩
def ff.t(e:H a=ε (.dT kvs))(f:H b=ε (.tup (k.map kV)))(d:kvs.length<sizeLine) :
 ff H a (.ref b) v (pB H a (.dT (qF kvs k v))):=.inr ⟨kvs,k,b,e,rfl,f,d,rfl⟩
section
variable{X:Cx}{d:Oe (O4×Obj)}{f:St}{H:Hp}{s:Ou}{a:O4}{y v:V}{u r:Oi}{o:Oo V}{A:Ro}{E:Oi->Ou->Prop}
def u7.big(I:u7 X d f H s):sysModules<s.heap.objs.size:=by have h:mainGlobals<s.heap.objs.size:=(I.mod.glob.keeps I.bk).lt;exact Nat.lt_trans (by decide) h
def Zr(L:A.units+1<cLine)(I:u7 X d f H s)(g:bt H a y (ε v))(D:ve y u)(h:∀m C,u7 X d f H C->ve v m->Q m C) :
 wpAny (model X.prog X.w) A (getItem (.ref a) u) Q E s:=by
 rcases g with⟨n,k,e,x,l⟩ | ⟨n,k,b,e,x,M,l⟩
 . subst x;obtain⟨z,hd,J,j,B⟩:=xK I.hok e;obtain⟨m,hw,i⟩:=av.some_of (v:=v) (o:=valueAt J k) (by rw[l];exact j.val k);exact wpAny_getItem_of (UM D) B.mapOf hw (h m _ (I.tok _) i)
 . subst x;cases (show u=Value.ref b from D);obtain⟨z,hd,F,j,B⟩:=yK I.hok e;obtain⟨m,hw,i⟩:=av.some_of (v:=v) (o:=(atKey F k).map (·.2)) (by rw[l];exact j.val k);obtain⟨p,hp,q⟩:=Ga.mp hw;refine wpAny_getItem_heap (tupleKind_room_in1 L) (DM I.hok M) B hp ?_;rw[q];exact h m _ (I.tok _) i
def t7(B:A.units+1<cLine)(I:u7 X d f H s)(g:bt H a y o)(x:ve y u)(h:∀p,u7 X d f H p->Q (.bool o.isSome) p) :
 wpAny (model X.prog X.w) A (compareOp .In u (.ref a)) Q E s:=by
 rcases g with⟨j,k,e,m,l⟩ | ⟨j,k,b,e,m,C,l⟩
 . subst m;obtain⟨z,hd,F,i,n⟩:=xK I.hok e;refine wpAny_in_of (UM x) hd n.mapOf ?_;rw[<- (i.val k).gy,<- l];exact h _ (I.tok _)
 . subst m;cases (show u=Value.ref b from x);obtain⟨z,hd,D,i,n⟩:=yK I.hok e;refine wpAny_in_heap (tupleKind_room_in1 B) (DM I.hok C) hd n ?_;have q:=(i.val k).gy;rw[Option.isSome_map]at q;rw[<- q,<- l];exact h _ (I.tok _)
def eT(I:u7 X d f H s)(g:LU (H a))(hs:Heap.SameBut a s.heap h')(he:∃q,h'.get? a=ε q)(new:Ye X.prog X.w (pB H a ob) h' a ob) :
 u7 X d f (pB H a ob) { s with heap:=h',toks:=t' }:=
 I.write (x:=a) (e:=a) g (.inl rfl) (fun b q h z=>(hs.2 b h).trans z) he new
def P8(z:kvs.length<=sizeLine)(hd:(a==sysModules)=false)(b:KV kvs vs)(e:h'.DictOf (QD P w) a vs) :
 Ye P w g h' a (.dK kvs):=⟨z,hd,vs,b,e⟩
def bf(U:A.units+1<cLine)(I:u7 X d f H s)(g:ff H a y v R)(J:ve y u)(L:ve v r)(h:∀F,u7 X d f R F->Q () F) :
 wpAny (model X.prog X.w) A (setItem (.ref a) u r) Q E s:=by
 rcases g with⟨j,k,e,B,l,C⟩ | ⟨j,k,b,e,B,P,l,C⟩
 . subst B C;obtain⟨z,hd,T,i,D⟩:=Kz I.hok e;have p:T.length<=sizeLine:=by rw[<- i.length];exact z
   have x:(qF j k v).length<=sizeLine:=by have:=CW j k v;omega
   refine wpAny_setItem_pairs (hsz:=p) (UM J) D fun M m hs=>h _ ?_
   have W:∃q,M.get? a=ε q:=let ⟨q,_,_,n,_⟩:=m;⟨q,n⟩
   exact eT I (by rw[e];exact Ju) hs W (P8 x hd (i.put k L) m)
 . subst B C;cases (show u=Value.ref b from J);obtain⟨z,hd,S,i,D⟩:=Lz I.hok e;have p:S.length<=sizeLine:=by rw[<- Paired.length i];exact z
   have x:(qF j k v).length<=sizeLine:=by have:=CW j k v;omega
   refine wpAny_setItem_heap (hsz:=p) (tupleKind_room_in1 U) (DM I.hok P) D fun M m hs=>h _ ?_
   obtain⟨q,es,ep,n,h2,h3,Z,_,Y⟩:=m;refine eT I (by rw[e];exact Ju) hs ⟨q,n⟩ ⟨x,hd,_,(i.put k P L).keeps fun c ys O=>?_,q,es,ep,n,h2,h3,Z,Y⟩;rw[XA (jU O e (fun z=>nomatch z))];exact O
end
section
variable{X:Cx}{pins:Oe (O4×Obj)}{σ:St}{H:Hp}{s:Ou}{a:O4}{kvs:Oe (MB×V)}{k:MB}{u:Oi}{A:Ro}{E:Oi->Ou->Prop}
end
def xQ(i:Pa):Prop:=∀a b,subscripted i false a b=operate [a,b] (getItem a b)
def C9
 (p:typeLookup (.type T) "__getitem__" =pure (ε (.builtin n))) (hs:xQ a)
 (h:wpAny (model prog w) A (eval b env) (fun o f=>wpAny (model prog w) A (eval a env) (fun i s₂=>s₂.TypeIs o T/\wpAny (model prog w) A (getItem o i) Q E s₂) E f) E s) :
 wpAny (model prog w) A (eval (.Subscript b a pos) env) Q E s:=by
 refine Subscript_ (Ia h (fun o f k=>Ia k (fun i s₂ d=>?_) fun q q x=>x) fun q q x=>x);obtain⟨m,d⟩:=d;unfold subscriptTail;refine ao ?_;rw[getitemInPython_of_ne m.not_modules];refine ao (wpAny_specialOf m p ?_);have g:wpAny (model prog w) A (subscripted a false o i) (fun r e=>wpAny (model prog w) A (letTemporaryGo b o r >>=fun q=>pure r) Q E e) E s₂:=by rw[hs o i];exact wpAny_operating (Ia d (fun r e j=>ao (wpAny_letTemporaryGo (au j))) fun q q x=>x)
 first
  | exact au (ao g)
  | exact ao (au (ao g))
  | exact ao g
def xg (I:u7 X d i H s) (g:bt H a y o):s.TypeIs (.ref a) "dict" :=by
 rcases g with⟨f,k,e,_,_⟩ | ⟨f,k,b,e,_,_,_⟩
 . obtain⟨_,_,m,_,h⟩:=xK I.hok e;exact h.typeIs
 . obtain⟨_,_,j,_,h⟩:=yK I.hok e;exact h.typeIs
noncomputable def Uq(e ty:TE):TE:=fun b H Q=>e b H fun x f=>ty b f fun y d=>∃a v,x=.ref a/\bt d a y (ε v)/\Q v d
noncomputable def j8(ty e:TE):TE:=fun b H Q=>ty b H fun y f=>e b f fun x d=>∃a o,x=.ref a/\bt d a y o/\Q (.bl o.isSome) d
noncomputable def uz(f ty e:TE):TS:=fun D b H=>e b H fun v i=>f b i fun x h=>ty b h fun y g=>∃a d,x=.ref a/\ff g a y v d/\D.nx b d
section
variable{X:Cx}{o i e b:Pa}{pos c tpos:Pos}{f d j:TE}
def mu(D:X.A.units+1<cLine)(E:PE X o f)(F:PE X i d)(hs:xQ i):PE X (.Subscript o i pos) (Uq f d):=by intro k s n H Q I h;refine C9 PySem.F.slot_dict_getitem.lookup hs (wB (E k s n H _ I h) fun u r ⟨x,O,L,C,q1⟩=>wB (F k r n O _ L q1) fun T S q=>?_);obtain⟨y,M,p,B,a,v,ex,g,q2⟩:=q;subst ex;obtain rfl:u=Value.ref a:=C;exact⟨xg p g,Zr D p g B fun P R J m=>⟨v,M,J,m,q2⟩⟩
def Mq(C:X.A.units+1<cLine)(E:PE X i d)(D:PE X o f):PC X .In i o (j8 d f):=by
 intro k s m H Q I h;refine wB (E k s m H _ I h) fun S p ⟨y,O,L,q,q1⟩=>wB (D k p m O _ L q1) fun u R n=>?_
 obtain⟨x,M,J,r,a,B,ex,g,q2⟩:=n;subst ex;obtain rfl:u=Value.ref a:=r;exact t7 C J g q fun P F=>⟨.bl B.isSome,M,F,rfl,q2⟩
def mv(J:X.A.units+1<cLine)(L:PE X o f)(M:PE X i d)(F:PE X b j)(hs:swapsWith b (ε (.Subscript o i c)) pos.line X.env=pure false) :
 PS X (.Assign [.Subscript o i c] b pos) (uz f d j):=by
 intro k s m H D I h;refine wpAny_Assign_Subscript (wB (F k s m H _ I h) fun r q ⟨v,U,R,E,q1⟩=>wB (L k q m U _ R q1) fun u p ⟨x,T,Q,C,q2⟩=>wB (M k p m T _ Q q2) fun Z Y n=>?_) hs;obtain⟨y,H3,P,B,a,S,ex,g,q3⟩:=n;subst ex;obtain rfl:u=Value.ref a:=C;exact bf J P g B E fun W O=>⟨m,S,O,q3⟩
end
def Dm (h:Ru) (a:sysModules<h.objs.size):Ye P w H (h.push { cls:=.type "dict",data:=.dict #[] }) h.objs.size (.dT []):=
 ⟨m6 _,Eo.mpr (m8 (nW a)),[],.nil,_,#[],0,jj _ rfl,⟨rfl,rfl,rfl⟩,rfl,rfl,nodup_nil⟩
def nj:TE:=fun _ H Q=>∀p,H p=none->Q (.ref p) (pB H p (.dT []))
section
variable{X:Cx}{pos:Pos}
def Ml:PE X (.Dict [] [] pos) nj:=fun b s d H Q I h=>wpAny_Dict_empty ⟨.ref s.heap.objs.size,_,I.laid (a:=s.heap.objs.size) (o:=.dT []) (t':=s.toks) (fun z z q=>cu _ q) (Us _) (Dm s.heap I.big),rfl,h _ (I.hok.fresh (Us _))⟩
end
structure M1(X:Cx)(o:Expr)(m:Str)(apos:Pos)(e:Expr)(cpos:Pos):Prop where
 base:attributeBase o m X.env (eval o X.env)=eval o X.env
 few:((backTo cpos (starEach [e] X.env)).all (fun x=>!x.1)&&(backToKw cpos (keywordEach [] X.env)).all (fun x=>x.1.isSome)
  && decide (([e]:List Expr).length+([]:List Keyword).length+(if([]:List Keyword).isEmpty then 0 else 1)<30))=true
 line:(apos.endLine==cpos.line)=true
 trees:backTo cpos (starEach [e] X.env)=[(false,eval e X.env)]
structure M2(X:Cx)(o:Expr)(m:Str)(apos:Pos)(e f:Expr)(cpos:Pos):Prop where
 base:attributeBase o m X.env (eval o X.env)=eval o X.env
 few:((backTo cpos (starEach [e,f] X.env)).all (fun x=>!x.1)&&(backToKw cpos (keywordEach [] X.env)).all (fun x=>x.1.isSome)
  && decide (([e,f]:List Expr).length+([]:List Keyword).length+(if([]:List Keyword).isEmpty then 0 else 1)<30))=true
 line:(apos.endLine==cpos.line)=true
 trees:backTo cpos (starEach [e,f] X.env)=[(false,eval e X.env),(false,eval f X.env)]
def b7(H:Hp)(a:O4):Prop:=(∃b,Rd H a (.dK b))\/∃b,Rd H a (.dT b)
def V2(I:u7 X f k H s)(d:b7 H a) :
 s.TypeIs (.ref a) "dict" /\ (∀b,Value.ref a=.ref b->∃ob,s.heap.get? b=ε ob/\ob.dict=none)/\(a==sysModules)=false:=by
 rcases d with⟨h,e⟩ | ⟨h,e⟩
 . obtain⟨_,hd,n,_,g⟩:=xK I.hok e;refine⟨g.typeIs,fun b q=>?_,hd⟩;cases q;obtain⟨ob,_,_,j,i,_⟩:=g;exact⟨ob,j,i.2.1⟩
 . obtain⟨_,hd,m,_,g⟩:=yK I.hok e;refine⟨g.typeIs,fun b q=>?_,hd⟩;cases q;obtain⟨ob,_,_,j,i,_⟩:=g;exact⟨ob,j,i.2.1⟩
section
variable{X:Cx}{c:Oe (O4×Obj)}{f:St}{H:Hp}{s:Ou}{a:O4}{y d:V}{u r:Oi}{o:Oo V}{A:Ro}{E:Oi->Ou->Prop}
def Z9(D:A.units+1<cLine)(I:u7 X c f H s)(g:bt H a y o)(x:ve y u)(B:ve d r)(h:∀p q,u7 X c f H q->ve (o.getD d) p->Q p q) :
 wpAny (model X.prog X.w) A (call (.builtin "dict.get") [.ref a,u,r]) Q E s:=by
 rcases g with⟨m,k,e,n,l⟩ | ⟨m,k,b,e,n,F,l⟩
 . subst n;obtain⟨z,hd,J,i,j⟩:=xK I.hok e;refine call_meetsIn PySem.F.slot_dict_get j.typeIs PySem.F.entry_dict_get (PySem.F.args_dict_get_3 _ _ _) (meets_dict_get_default (QD X.prog X.w) a (UM x) hd r) ⟨_,j.mapOf,h _ _ (I.tok _) ?_⟩;rw[l];exact(i.val k).getD B
 . subst n;cases (show u=Value.ref b from x);obtain⟨z,hd,C,i,j⟩:=yK I.hok e;refine call_meetsIn PySem.F.slot_dict_get j.typeIs PySem.F.entry_dict_get (PySem.F.args_dict_get_3 _ _ _) (meetsH_dict_get_default (tupleKind (QD X.prog X.w)) a b hd r) ⟨tupleKind_room_in1 D,k,C,DM I.hok F,j,h _ _ (I.tok _) ?_⟩;rw[l];exact(i.val k).getD B
end
noncomputable def mj(g ty f:TE):TE:=fun b H Q=>g b H fun x e=>∃a,x=.ref a/\b7 e a/\ty b e fun y h=>f b h fun z d=>∃o,bt d a y o/\Q (o.getD z) d
section
variable{X:Cx}{o e f:Pa}{c b:Pos}{k i j:TE}
def Kl (O:X.A.units+1<cLine) (P:PE X o k) (he:PE X e i) (R:PE X f j) (m:M2 X o "get" c e f b):PE X (.Call (.Attribute o "get" c) [e,f] [] b) (mj k i j):=by
 intro n s p H Q I h;refine wpAny_Call_method m.base m.few m.line PySem.F.plainAttrs_dict PySem.F.slot_dict_get PySem.F.type_dict_get (wB (P n s p H _ I h) fun u F B=>?_);obtain⟨x,Z,r,M,a,ex,d,q1⟩:=B;subst ex;obtain rfl:u=Value.ref a:=M;obtain⟨D,C,_⟩:=V2 r d;refine⟨D,C,?_⟩;rw[m.trees];refine Calls.callWith_builtin rfl (Calls.evalArgs_plain (Calls.spliced_cons (wB (he n F p Z _ r q1) fun iv E ⟨y,Y,U,L,q2⟩=>
  Calls.spliced_cons (wB (R n E p Y _ U q2) fun fv s3 ⟨z,W,T,J,ov,g,q3⟩=>Calls.spliced_nil ?_))))
 exact Z9 O T g L J fun w' s4 S q=>⟨_,W,S,q,q3⟩
end
section
variable{X:Cx}{pins:Oe (O4×Obj)}{σ:St}{H:Hp}{s:Ou}{a:O4}{kvs:Oe (MB×V)}{A:Ro}{E:Oi->Ou->Prop}
end
section
variable{X:Cx}{pins:Oe (O4×Obj)}{σ:St}{H:Hp}{s:Ou}{a:O4}{y:V}{u:Oi}{A:Ro}{E:Oi->Ou->Prop}
end
section
variable{prog:Pu}{w:Ri}{A:Ro}{E:Oi->Ou->Prop}{s:Ou}
def nP (b:s.TypeIs (.ref a) "dict_itemiterator") (q:R "dict_itemiterator" s) :
 wpAny (model prog w) A (typeNameOfWhole (.ref a)) R E s:=wpAny_typeNameOfWhole_itemiter b q
def Yb(b:s.heap.IsItemsView v d)(f:s.heap.get? d=ε od)(e:od.data=.dict g ep)
 (q:R (.ref s.heap.objs.size) { s with heap:=s.heap.push { cls:=.type "dict_itemiterator",data:=.fields #[.none,.bool false,.ref d,.int 0 0,.int g.size 0,.int ep 0,.none,.none] } }) :
 wpAny (model prog w) A (pyIter (.ref v)) R E s:=by
 obtain⟨i,h,g2,g3⟩:=id b;refine wpAny_pyIter_slot b.typeIs F.slot_dict_items_iter (wpAny_call_entry F.slot_dict_items_iter b.typeIs F.entry_dict_items_iter ?c1 (F.args_dict_items_iter_1 _));unfold Builtin.«dict_items.__iter__»;refine ao (au (ao ?c2));unfold Builtin.Dict_items.dictOf;refine ao (Gu h g3 (x:=.ref d) rfl (au (ao ?c3)));unfold Builtin.Dict_items.newIterator;refine ao (wpAny_dictEntries f e (ao (wpAny_dictEpoch f e ?c4)));have a:Builtin.Dict_items.ownsTuple "dict_itemiterator" =true:=by decide
 simp![a,eH];refine Ae (au ⟨_,rfl, "dict_itemiterator",_,⟨_,jj _ rfl,rfl⟩,F.slot_dict_itemiterator_next.lookup,?c5⟩) ?c6
 . simpa[rawInt,Builtin.Dict_items.ownedTupleFields]using q
 . simp![sizeOk,Builtin.Dict_items.ownedTupleFields,cG,je,T4,Va,Ca];omega
def Wb
 (D:IsItemIter s.heap f d i a.size ep C v0) (Y:s.heap.get? d=ε od) (W:od.data=.dict a ep) (lt:i<a.size)
 (O:∀n,IsItemIterOut n f d (i+1) a.size ep a[i].key a[i].val s.heap.objs.size->
  n.get? s.heap.objs.size=ε { cls:=.type "tuple",data:=.seq #[a[i].key,a[i].val] }->n.objs.size=s.heap.objs.size+1->
  (∀b o,b≠f->s.heap.get? b=ε o->n.get? b=ε o)->R (ε (.ref s.heap.objs.size)) { s with heap:=n }) :
 wpAny (model prog w) A (pyNext (.ref f)) R E s:=by
 obtain⟨G,p,u,k,os⟩:=s;have j:Shared.TypeIs ⟨G,p,u,k,os⟩ (.ref f) "dict_itemiterator" :=⟨_,D,rfl⟩;unfold pyNext;refine ao (wpAny_attempt (wpAny_callSpecial?_slot (name:=Str.ofString "__next__") j F.slot_dict_itemiterator_next (wpAny_call_entry F.slot_dict_itemiterator_next j F.entry_dict_itemiterator_next ?c1 (F.args_dict_itemiterator_next_1 _))));refine ao (au (ao (ao ?c2)))
 first | refine ao (nP j (au ?c3)) | refine ao (wpAny_typeNameOf_itemiter j (au ?c3))
 refine ao (wpAny_fieldsOf D rfl ?c4);have m:Builtin.Dict_items.ownsTuple "dict_itemiterator" =true:=by decide
 rw[m];show wpAny _ _ (if(Value.ref d==Value.none)=true then _ else _) _ _ _;rw[eG (show ¬((Value.ref d==Value.none)=true)from fun z=>Vu z)];refine ao (au (ao (wpAny_dictEntries Y W ?c5)));rw[eG ⋯];refine ao (au (ao (wpAny_dictEpoch Y W ?c6)));rw[eG ⋯];refine au ?c7;dsimp only;rw[eG (show ¬((i:Int)<0)from by omega),ni,Array.getElem?_eq_getElem lt];dsimp only;refine ao ?c8
 first | refine ao (nP j (au ?c9)) | refine ao (wpAny_typeNameOf_itemiter j (au ?c9))
 refine ao (wpAny_isOneOf_itemiter j ?c10);show wpAny _ _ (setField (.ref f) 3 (rawInt ((i:Int)+1)) >>=_) _ _ ⟨G,p,u,k,os⟩;refine ao (wpAny_setField_rec D ⋯ fun G1 r y=>?c11)
 replace y:Heap.SameBut f G G1:=y
 replace r:IsItemIter G1 f d (i+1) a.size ep C v0:=by
  have z:((i+1:Nat):Int)=(i:Int)+1:=by omega
  unfold IsItemIter;rw[z];simpa[rawInt]using r
 have h:Shared.TypeIs ⟨G1,p,u,k,os⟩ (.ref f) "dict_itemiterator" :=⟨_,r,rfl⟩;refine ao (Es (ao (wpAny_isOneOf_itemiter h (ao (wpAny_isOneOf_itemiter h ?c12)))));show wpAny _ _ (Builtin.Dict_items.pairFromOwner (.ref f) 6 a[i].key a[i].val) _ _ ⟨G1,p,u,k,os⟩;unfold Builtin.Dict_items.pairFromOwner;refine ao (wpAny_newTuple ?c13);have q:IsItemIter (G1.push { cls:=.type "tuple",data:=.seq #[a[i].key,a[i].val] }) f d (i+1) a.size ep C v0:=cu _ r;generalize H:G1.push { cls:=.type "tuple",data:=.seq #[a[i].key,a[i].val] }=G2 at q;have B:G1.objs.size=G.objs.size:=y.1;have il:f<G.objs.size:=iu D;have t2:G2.get? G.objs.size=ε { cls:=.type "tuple",data:=.seq #[a[i].key,a[i].val] }:=by rw[<- H,<- B];exact jj _ rfl
 have Z:G2.objs.size=G.objs.size+1:=by rw[<- H,Li,B]
 have k2:∀b o,b≠f->G.get? b=ε o->G2.get? b=ε o:=fun b o g e=>by rw[<- H];exact cu _ (y.extBut b o g e)
 show wpAny _ _ (Builtin.Dict_items.ownedTupleIsFree (.ref f) >>=_) _ _ ⟨G2,p,u,k,os⟩;rw[B];clear H r y h B G1;refine ao ?c14;unfold Builtin.Dict_items.ownedTupleIsFree;refine ao (Gu q rfl (x:=.none) rfl (au ?c15));simp![eH];refine ao (Gu q rfl (x:=C) rfl (ao (Gu q rfl (x:=v0) rfl ?c16)));refine ao (wpAny_setField_rec q ⋯ fun G3 T M=>?c17)
 replace M:Heap.SameBut f G2 G3:=M
 replace T:IsItemIter G3 f d (i+1) a.size ep a[i].key v0:=T
 refine ao (wpAny_setField_rec T ⋯ fun G4 S L=>?c18)
 replace L:Heap.SameBut f G3 G4:=L
 replace S:IsItemIter G4 f d (i+1) a.size ep a[i].key a[i].val:=S
 refine ao (wpAny_setField_rec S ⋯ fun G5 Q J=>?c19)
 replace J:Heap.SameBut f G4 G5:=J
 replace Q:IsItemIterOut G5 f d (i+1) a.size ep a[i].key a[i].val G.objs.size:=Q
 refine ao (wpAny_setField_rec Q ⋯ fun G6 P I=>?c20)
 replace I:Heap.SameBut f G5 G6:=I
 replace P:IsItemIterOut G6 f d (i+1) a.size ep a[i].key a[i].val G.objs.size:=P
 have U:∀b o,b≠f->G2.get? b=ε o->G6.get? b=ε o:=fun b o g e=>I.extBut b o g (J.extBut b o g (L.extBut b o g (M.extBut b o g e)))
 refine ao (wpAny_letGo (au (au ⟨_,rfl,au (O G6 P (U _ _ (Du il) t2) ?c21 fun b o g e=>U b o g (k2 b o g e))⟩)));show G6.objs.size=G.objs.size+1;rw[I.1,J.1,L.1,M.1,Z]
def Xp(u:A.handled=none)
 (h:IsItemIter s.heap g d i k.size ep r q) (p:s.heap.get? d=ε od) (o:od.data=.dict k ep) (x:k.size<=i)
 (j:∀n,Heap.ExtBut g s.heap n->R none { s with heap:=n }):wpAny (model prog w) A (pyNext (.ref g)) R E s:=by
 have e:s.TypeIs (.ref g) "dict_itemiterator" :=⟨_,h,rfl⟩;unfold pyNext;refine ao (wpAny_attempt (wpAny_callSpecial?_slot (name:=Str.ofString "__next__") e F.slot_dict_itemiterator_next (wpAny_call_entry F.slot_dict_itemiterator_next e F.entry_dict_itemiterator_next ?c1 (F.args_dict_itemiterator_next_1 _))));refine ao (au (ao (ao ?c2)))
 first | refine ao (nP e (au ?c3)) | refine ao (wpAny_typeNameOf_itemiter e (au ?c3))
 refine ao (wpAny_fieldsOf h rfl ?c4);have f:Builtin.Dict_items.ownsTuple "dict_itemiterator" =true:=by decide
 rw[f];show wpAny _ _ (if(Value.ref d==Value.none)=true then _ else _) _ _ _;rw[eG (show ¬((Value.ref d==Value.none)=true)from fun z=>Vu z)];refine ao (au (ao (wpAny_dictEntries p o ?c5)));rw[eG ⋯];refine ao (au (ao (wpAny_dictEpoch p o ?c6)));rw[eG ⋯];refine au ?c7;dsimp only;rw[eG (show ¬((i:Int)<0)from by omega),ni,Array.getElem?_eq_none x];dsimp only;refine ao ?c8
 first | refine ao (nP e (au ?c9)) | refine ao (wpAny_typeNameOf_itemiter e (au ?c9))
 show wpAny _ _ (setField (.ref g) 2 .none >>=_) _ _ _;refine ao (wpAny_setField h rfl ⋯ ?c10);show wpAny _ _ (newExc (.type "StopIteration") [] >>=_) _ _ _;refine ao ?c11;simp![newExc,newTuple];refine ao (Ae (ao (m:=firstArgMember _ _) (wpAny_of_eq (a:=Value.none) (by first | rfl | (simp![firstArgMember];rfl)) ?c12)) (by size_fits));refine Ae ?c13 (by size_fits);simp![raiseNew];refine ao (wpAny_handled ?c14);rw[show A.in1.handled=none from u];refine ao (au (wpAny_throw ?c15));refine ao (wpAny_isInstance (T := "StopIteration") (b:=true) ⟨_,jj _ rfl,rfl⟩ isSubtype_stop (au ?c16));exact j _ (((Heap.SameBut.update ..).extBut.push _).push _)
def Vb (a:s.TypeIs (.ref d) "dict") (g:(d==sysModules)=false)
 (q:R (.ref s.heap.objs.size) { s with heap:=s.heap.push { cls:=.type "dict_items",data:=.fields #[.ref d] } }):wpAny (model prog w) A (call (.builtin "dict.items") [.ref d]) R E s:=by
 have m:MeetsIn prog w (Builtin.«dict.items» ⟨[.ref d],[]⟩) (fun z R s=>s.TypeIs (.ref d) "dict" /\ R (.ok (.ret (.ref s.heap.objs.size))) { s with heap:=s.heap.push { cls:=.type "dict_items",data:=.fields #[.ref d] } }):=
  .of_wp fun A R s b=>by obtain⟨e,f⟩:=b;unfold Builtin.«dict.items»;refine ao ?c1;unfold Builtin.Dict.noArgs;refine ao (wpAny_notOrdered_dict e ?c2);show wpAny _ _ (pure d) _ _ s;refine au ?c3;show wpAny _ _ (Builtin.Dict.showsAll d >>=_) _ _ s;unfold Builtin.Dict.showsAll;rw[eG (by rw[g];exact Vu)];exact ao (au (ao (Ae (au ⟨_,rfl,f⟩))))
 exact call_meetsIn PySem.F.slot_dict_items a PySem.F.entry_dict_items (PySem.F.args_dict_items_1 _) m ⟨a,q⟩
def Yw:entryFor table "dict_itemiterator.__iter__" =ε Builtin.«dict_keyiterator.__iter__»:=entryFor_alias (id' := "dict_keyiterator.__iter__") (by kernel_rfl) rfl (by decide +kernel) (by kernel_rfl)
def Xb(g:IsItemIter s.heap a d i n ep f e)(q:R (.ref a) s):wpAny (model prog w) A (pyIter (.ref a)) R E s:=by have b:s.TypeIs (.ref a) "dict_itemiterator" :=⟨_,g,rfl⟩;refine wpAny_pyIter_slot b F.slot_dict_itemiterator_iter (wpAny_call_entry F.slot_dict_itemiterator_iter b Yw ?c1 (F.args_dict_itemiterator_iter_1 _));show wpAny _ _ (ret (.ref a)) _ _ s;exact au ⟨_,rfl, "dict_itemiterator",_,b,F.slot_dict_itemiterator_next.lookup,q⟩
end
theorem Paired.atI:∀{xs:Oe a}{ys:Oe b}{i:Nat}{x:a},Paired F xs ys->xs[i]?=ε x->∃y,ys[i]?=ε y/\F x y
 | _,_,i,x,.nil,e=>by simp at e
 | _,_,0,x,.cons r t,e=>by simp at e;subst e;exact⟨_,rfl,r⟩
 | _,_,i+1,x,.cons r t,e=>by obtain⟨y,d,e2⟩:=Paired.atI t (i:=i) (x:=x) (by simpa using e);exact⟨y,by simpa using d,e2⟩
def JU(a:O4)(o:Obj):It:=
 ⟨fun i H=>∃b p,H a=ε (.frz o (.dT b))/\b[i]?=ε p,
  fun i H x e=>∃q d p,H q=none/\x=.ref q/\H d=ε (.tup (p.1.map kV))/\(∀b,H a=ε (.frz o (.dT b))->b[i]?=ε p)/\e=pB H q (.tup [.ref d,p.2]),
  fun i H=>∃b,H a=ε (.frz o (.dT b))/\b.length<=i⟩
def jl{P:Pu}{w:Ri}{K:Pb}{L:Oe Pa}{x1}{pos:Pos}(a it:O4){o:Obj}{n:Rr DictEntry}{ep:Nat}(Q:o.data=.dict n ep) :
 UG P w K (.Tuple L x1 pos) (JU a o) [it] it (fun i h=>∃j f,IsItemIter h it a i n.size ep j f) where
 mem:=by simp
 obj:=fun i h zz c b=>by obtain⟨j,f,st⟩:=zz;rw[Ao.mp b];exact⟨_,st,fun v z=>by cases z⟩
 keep:=fun i h h' ⟨j,f,st⟩ k=>⟨j,f,k it ⋯ _ st⟩
 item:=by
  intro X T hw U b i x s σ H E I M st R;subst T hw U;obtain⟨j,f,m⟩:=st;obtain⟨d,p,e,hp⟩:=R;obtain⟨go,z,y,xs,r,ob,Y,Z,J,O,F,W,h5⟩:=(show Ye X.prog X.w H s.heap a (.frz o (.dT d))from I.hok a _ e);rw[go]at J;cases J;rw[Q]at F;cases F;obtain⟨q,hq,f1,f2,f3⟩:=Paired.atI r hp;have e0:n.toList[i]?=ε (entryOfKey (tupleKind (QD X.prog X.w)) q):=by rw[W,uq,hq];rfl
  have C:i<n.size:=by have:=(Wk e0).1;simpa using this
  have ei:n[i]=entryOfKey (tupleKind (QD X.prog X.w)) q:=by rw[Array.getElem?_toList,Array.getElem?_eq_getElem C]at e0;exact ou e0
  refine Wb m go Q C fun h' z1 tp sz kp=>⟨_,rfl,wpAny_letOwnedTupleGo_items z1 fun O S sb=>?_⟩
  have B:s.heap.objs.size≠it:=Du (iu m);have t2:O.get? s.heap.objs.size=ε { cls:=.type "tuple",data:=.seq #[.ref q.2.1,q.2.2] }:=by rw[sb.2 _ B,tp,ei];rfl
  have kk:∀c u,c ∉ [it]->s.heap.get? c=ε u->O.get? c=ε u:=fun c u b g=>by
   have D:c≠it:=fun z=>b (by rw[z];simp)
   exact(sb.2 c D).trans (kp c u D g)
  refine⟨.ref s.heap.objs.size,pB H s.heap.objs.size (.tup [.ref q.2.1,p.2]),I.hY kk M (Us _) ⟨by simp![T4,Va];rw[Ca];decide,[.ref q.2.1,q.2.2],.cons rfl (.cons f3 .nil),⟨_,t2,rfl,_,rfl⟩⟩,rfl,
   ⟨_,q.2.1,p,I.hok.fresh (Us _),rfl,f2,fun a0 e'=>by rw[e]at e';cases e';exact hp,rfl⟩,⟨_,_,S⟩,fun c b=>?_⟩
  rw[Ao.mp b,XA (m8 B)];exact(M it ⋯).1
 done:=by
  intro X T hw U b i x s σ H E I M st R;subst T hw U;obtain⟨j,f,m⟩:=st;obtain⟨d,e,hp⟩:=R;obtain⟨go,z,y,xs,r,ob,Y,Z,J,O,F,W,h5⟩:=(show Ye X.prog X.w H s.heap a (.frz o (.dT d))from I.hok a _ e);rw[go]at J;cases J;rw[Q]at F;cases F;have hs:n.size=d.length:=by rw[<- za,W,mq,<- Paired.length r]
  refine Xp (I.ok.hd b) m go Q nofun fun h' eb=>⟨rfl,I.hZ (t':=s.toks) (fp:=[it]) (fun c u b q=>eb c u (fun z=>b (by rw[z];simp)) q) M⟩
 self:=fun t t t t t st h=>by obtain⟨j,f,m⟩:=st;exact Xb m h
section
variable{X:Cx}
def u7.freeze(I:u7 X d f H s)(e:H a=ε (.dT kvs))(go:s.heap.get? a=ε o) :
 u7 X d f (pB H a (.frz o (.dT kvs))) s:=by
 refine eT (t':=s.toks) I (by rw[e];exact Ju) (Heap.SameBut.refl _ _) ⟨o,go⟩ ⟨go,?_⟩;refine Ye.stay (show Ye X.prog X.w H s.heap a (.dT kvs)from I.hok a _ e) (fun v v v g=>g) (fun b q=>?_) fun b h q=>?_
 . rw[XA (jU q e (fun z=>nomatch z))];exact q
 . rw[XA (jU q e (fun z=>nomatch z))];exact q
def F7(f:TE):TI:=fun e H R=>f e H fun x d=>∃a,x=.ref a/\((∃b,d a=ε (.dT b)/\∀o,R (JU a o) (pB d a (.frz o (.dT b))))\/∃o b,d a=ε (.frz o (.dT b))/\R (JU a o) d)
def Ul {x1} (Y:PE X d O) (p:autoParam (attributeBase d "items" X.env (eval d X.env)=eval d X.env) Æ) (n:autoParam ((m.endLine==k.line)=true) Æ) :
 PI X (.Tuple j x1 M) (.Call (.Attribute d "items" m) [] [] k) (F7 O):=by
 intro i s E H R I h;refine wpAny_Call_method0_late p n (wB (Y i s E H _ I h) fun v s1 S=>?_);obtain⟨x,L,C,W,a,ex,q⟩:=S;subst ex;obtain rfl:v=Value.ref a:=W;have dd:b7 L a:=by
  rcases q with⟨f,e,_⟩ | ⟨o,f,e,_⟩
  . exact .inr ⟨f,.inl e⟩
  . exact .inr ⟨f,.inr ⟨o,e⟩⟩
 obtain⟨P,U,T⟩:=V2 C dd;have base:∀(o:Obj)(r:Rr DictEntry)(y:Nat)(D:Hp),s1.heap.get? a=ε o->o.data=.dict r y->u7 X i E D s1->R (JU a o) D->
  wpAny (model X.prog X.w) X.A (call (.builtin "dict.items") [.ref a]) (fun v s1=>wpAny (model X.prog X.w) X.A (pyIter v) (l7 X i E (.Tuple j x1 M) R) X.xe s1) X.xe s1:=by
  intro o r y D go Q I2 q2;refine Vb P T ?_;have J:u7 X i E D { s1 with heap:=s1.heap.push { cls:=.type "dict_items",data:=.fields #[.ref a] } }:=I2.kept (t':=s1.toks) fun b u g=>cu _ g
  refine Yb (od:=o) ⟨_,jj _ rfl,rfl,rfl⟩ (cu _ go) Q ?_;have I4:=J.kept (t':=s1.toks) (h':=(s1.heap.push { cls:=.type "dict_items",data:=.fields #[.ref a] }).push { cls:=.type "dict_itemiterator",data:=.fields #[.none,.bool false,.ref a,.int 0 0,.int r.size 0,.int y 0,.none,.none] }) fun b u g=>cu _ g
  refine⟨_,[_],_,_,D,rfl,I4,jl a _ Q,⟨.none,.none,jj _ rfl⟩,fun c Z=>?_,q2⟩;rw[Ao.mp Z];exact J.cx (Us _) (J.hok.fresh (Us _))
 refine⟨"dict", "dict.items",PySem.F.plainAttrs_dict,PySem.F.slot_dict_items,PySem.F.type_dict_items,P,U,Calls.callWith_builtin rfl (PySem.evalArgs_none ?_)⟩;rcases q with⟨f,e,q⟩ | ⟨o,f,e,q⟩
 . obtain⟨_,_,_,_,o,r,y,B,_,F,_⟩:=(show Ye X.prog X.w L s1.heap a (.dT f)from C.hok a _ e);exact base o r y _ B F (C.freeze e B) (q o)
 . obtain⟨go,_,_,_,_,o',r,y,B,_,F,_⟩:=(show Ye X.prog X.w L s1.heap a (.frz o (.dT f))from C.hok a _ e);rw[go]at B;cases B;exact base o r y _ go F C q
end
end L2
namespace SM
noncomputable def tE(kvs:Oe (Oe Int×Dt))(k:Oe Int):Oo Dt:=(kvs.find? fun p=>decide (p.1=k)).map (·.2)
noncomputable def XF(kvs:Oe (Oe Int×Dt))(k:Oe Int)(d:Dt):Oe (Oe Int×Dt):=
 if(kvs.any fun p=>decide (p.1=k))=true then kvs.map (fun p=>if p.1=k then(p.1,d)else p)else kvs++[(k,d)]
noncomputable def VP:RE:=fun _ h=>ε (.ref h.length,h++[.dt []])
def vN(g:RA):RE:=fun l h=>(g l h).bind fun r=>if r.1.length<=sizeLine then(TB r.1).map fun a=>(.ntp a,r.2)else none
def sK(fo fy fx:RE):RE:=fun l h=>(fo l h).bind fun o=>match o.1 with
 | .ref n=>match o.2[n]? with
  | some (.dt _)=>(fy l o.2).bind fun y=>match y.1 with
   | .ntp k=>(fx l y.2).bind fun x=>match x.2[n]? with
    | some (.dt kvs)=>ε ((tE kvs k).getD x.1,x.2)
    | _=>none
   | _=>none
  | _=>none
 | _=>none
def cN(fe fo fy:RE):RS:=fun l h=>(fe l h).bind fun v=>(fo l v.2).bind fun o=>(fy l o.2).bind fun y=>match o.1,y.1 with
 | .ref n,.ntp k=>match y.2[n]? with
  | some (.dt kvs)=>if kvs.length<sizeLine then ε (.nx l (y.2.set n (.dt (XF kvs k v.1))))else none
  | _=>none
 | _,_=>none
noncomputable def cJ(f:RE):RI:=fun l h=>(f l h).bind fun r=>match r.1 with
 | .ref n=>match r.2[n]? with
  | some (.dt kvs)=>ε (.it n,r.2.set n (.df kvs))
  | some (.df _)=>ε (.it n,r.2)
  | _=>none
 | _=>none
section
variable{K:Pb}{H:Hp}{ρ:Rg}
abbrev KD(K:Pb)(H:Hp)(ρ:Rg)(kvs:Oe (Oe Int×Dt))(vs:Oe (Oe MB×V)):Prop:=vs.map (·.1)=kvs.map (fun p=>p.1.map Sum.inl)/\Ti K H ρ (kvs.map (·.2)) (vs.map (·.2))
def fg{k k':Oe Int}:k.map (Sum.inl:Int->MB)=k'.map Sum.inl↔k=k':=⟨fun h=>(map_inj_right (fun q q z=>Sum.inl.inj z)).mp h,fun h=>by rw[h]⟩
def lK(k:Oe Int):(k.map (Sum.inl:Int->MB)).map kV=k.map V.int:=by rw[map_map];rfl
def KD.ba(r:KD K H ρ [] vs):vs=[]:=by have:=r.1;simpa using this
def KD.Zi(r:KD K H ρ (p::kvs) vs):∃v rs,vs=(p.1.map Sum.inl,v)::rs/\T3 K H ρ p.2 v/\KD K H ρ kvs rs:=by
 obtain⟨a,d⟩:=r;cases vs with
 | nil=>simp at a
 | cons q rs=>simp![Uo,Ms]at a;obtain⟨v,h,e,f,g2⟩:=Ti.Zi (by simpa only[Uo]using d);simp![Uo,Ms]at e;obtain⟨q1,q2⟩:=q;have b:q1=p.1.map Sum.inl:=a.1;have g:q2=v:=e.1;subst g;exact⟨q2,rs,by rw[b],f,a.2,by rw[e.2];exact g2⟩
def KD.cons{p:Oe Int×Dt}{v:V}{kvs:Oe (Oe Int×Dt)}{vs:Oe (Oe MB×V)}(g:T3 K H ρ p.2 v)(r:KD K H ρ kvs vs):KD K H ρ (p::kvs) ((p.1.map Sum.inl,v)::vs):=
 ⟨by simp![Uo];rw[r.1],.cons g r.2⟩
def KD.length(r:KD K H ρ kvs vs):vs.length=kvs.length:=by have:=congrArg List.length r.1;simpa using this
theorem KD.get:∀{kvs:Oe (Oe Int×Dt)}{vs:Oe (Oe MB×V)}{i:Nat}{p:Oe Int×Dt},KD K H ρ kvs vs->kvs[i]?=ε p->∃v,vs[i]?=ε (p.1.map Sum.inl,v)/\T3 K H ρ p.2 v
 | [],_,_,_,_,e=>by simp at e
 | q::kvs,_,0,p,r,e=>by obtain⟨v,a,rfl,g,_⟩:=r.Zi;simp at e;subst e;exact⟨v,rfl,g⟩
 | q::kvs,_,i+1,p,r,e=>by obtain⟨v,a,rfl,_,b⟩:=r.Zi;obtain⟨u,d,e2⟩:=KD.get (i:=i) b (by simpa using e);exact⟨u,by simpa using d,e2⟩
theorem KD.val(k):∀{kvs:Oe (Oe Int×Dt)}{vs:Oe (Oe MB×V)},KD K H ρ kvs vs->(∀d,tE kvs k=ε d->∃v,BE vs (k.map Sum.inl)=ε v/\T3 K H ρ d v)/\(tE kvs k=none->BE vs (k.map Sum.inl)=none)
 | [],_,r=>by rw[r.ba];exact⟨fun d e=>by simp[tE]at e,fun q=>rfl⟩
 | p::kvs,_,r=>by
  obtain⟨v,f,rfl,g,b⟩:=r.Zi;by_cases c:p.1=k
  . have a:tE (p::kvs) k=ε p.2:=by simp[tE,Ja,c]
    rw[a,YO (fg.mpr c)];exact⟨fun d e=>by cases e;exact⟨v,rfl,g⟩,fun e=>by cases e⟩
  . have a:tE (p::kvs) k=tE kvs k:=by simp[tE,Ja,c]
    rw[a,XO (fun z=>c (fg.mp z))];exact KD.val k b
theorem KD.any(k):∀{kvs:Oe (Oe Int×Dt)}{vs:Oe (Oe MB×V)},KD K H ρ kvs vs->(vs.any fun p=>decide (p.1=k.map Sum.inl))=kvs.any fun p=>decide (p.1=k)
 | [],_,r=>by rw[r.ba];rfl
 | p::kvs,_,r=>by
  obtain⟨v,b,rfl,g,a⟩:=r.Zi;rw[Ko,Ko,KD.any k a]
  congr 1
  exact decide_eq_decide.mpr fg
theorem KD.repl(k)(g:T3 K H ρ d v):∀{kvs:Oe (Oe Int×Dt)}{vs:Oe (Oe MB×V)},KD K H ρ kvs vs->
 KD K H ρ (kvs.map fun p=>if p.1=k then(p.1,d)else p) (vs.map fun p=>if p.1=k.map Sum.inl then(p.1,v)else p)
 | [],_,r=>by rw[r.ba];exact⟨rfl,.nil⟩
 | p::kvs,_,r=>by
  obtain⟨u,e,rfl,b,a⟩:=r.Zi;rw[Uo,Uo];by_cases c:p.1=k
  . rw[dz c,dz (fg.mpr c)];exact KD.cons (p:=(p.1,d)) g (KD.repl k g a)
  . rw[eG c,eG (fun z=>c (fg.mp z))];exact KD.cons b (KD.repl k g a)
def KD.put(k)(g:T3 K H ρ d v)(r:KD K H ρ kvs vs):KD K H ρ (XF kvs k d) (qF vs (k.map Sum.inl) v):=by
 unfold XF qF;rw[r.any k];split
 . exact r.repl k g
 . refine⟨by rw[Gi,Gi,r.1];rfl,?_⟩;rw[Gi,Gi];exact r.2.append (.cons g .nil)
def KD.ext(r:KD K H ρ kvs vs)(x:vc ρ a H b):KD K b a kvs vs:=⟨r.1,r.2.ext x⟩
def Ve.ia(S:Ve K ρ h H)(e:H a=ε (.tup vs)):ρ.no a:=by
 refine⟨fun d=>?_,fun d=>?_⟩
 . obtain⟨n,f⟩:=mem_iff_getElem?.mp d;have i:n<h.length:=by rw[<- S.len];exact(Wk f).1
   have ob:=S.ob n a _ f (ji i);cases q:h[n]with
   | lst j=>rw[q]at ob;obtain⟨_,g,_⟩:=ob;rw[e]at g;cases g
   | ins y fs=>rw[q]at ob;obtain⟨_,_,_,_,g,_⟩:=ob;rw[e]at g;cases g
   | dk b=>rw[q]at ob;obtain⟨_,g,_⟩:=ob;rw[e]at g;cases g
   | dt b=>rw[q]at ob;obtain⟨_,g,_⟩:=ob;rw[e]at g;cases g
   | df b=>rw[q]at ob;obtain⟨_,_,g,_⟩:=ob;rw[e]at g;cases g
 . obtain⟨_,_,g⟩:=S.zt a d;rw[e]at g;cases g
def LQ(h:H a=ε (.dT kvs)):yU H a:=fun q q e=>by rw[h]at e;cases e
end
section
variable{X:Cx}{e o i d a b f:Pa}{fe fo B fa fb fy fx:RE}{pos A w t:Pos}
def gZ:EM X (.Dict [] [] pos) VP:=by unhygienic exact PE.imp Ml fun m H Q j=>by obtain⟨g,l,h,d,n,S,L,e,k⟩:=j;cases e;intro p hp;refine k (g.add p) _ _ (ad.mpr ⟨p,rfl,?_⟩) (S.own hp ⟨[],oC,rfl,.nil⟩) (vc.own hp);simp![Rg.add];rw[<- S.len,Zu (Us _),Di];rfl
def L1{x1}(h:AM X r g):EM X (.Tuple r x1 pos) (vN g):=by
 unhygienic
  exact PE.imp (o4 h) fun D H Q x=>by
   obtain⟨u,l,h,d,J,S,L,e,k⟩:=x;obtain⟨⟨ds,I⟩,y,e⟩:=nA e;dsimp only at e;by_cases m:ds.length<=sizeLine
   . rw[dz m]at e;cases q:TB ds with
     | none=>rw[q]at e;cases e
     | some F=>rw[q]at e;cases e;refine⟨u,l,h,ds,_,S,L,y,fun j E M n s C=>⟨by rw[n.length];exact m,fun p hp=>k j _ _ (dq.mpr ⟨p,rfl,s.out hp,?_⟩) (s.fresh hp) (C.trans (vc.fresh hp))⟩⟩;rw[aE q]at n;rw[oC,n.cm]
   . rw[eG m]at e;cases e
set_option tactic.hygienic true in
theorem Zc (hu:X.A.units+64<cLine) (ho:EM X o fo) (hy:EM X e fy) (hx:EM X f fx) (m:M2 X o "get" w e f t:=by exact⟨rfl,rfl,rfl,rfl⟩) :
 EM X (.Call (.Attribute o "get" w) [e,f] [] t) (sK fo fy fx):=by
 unhygienic
  exact PE.imp (Kl nofun ho hy hx m) fun σ H Q U=>by
   obtain⟨T,l,h,dd,h',S,L,e,k⟩:=U;obtain⟨⟨O,M⟩,e1,e⟩:=nA e;refine⟨T,l,h,O,M,S,L,e1,fun r x H1 R1 R F=>?_⟩;cases O with
   | ref n=>
    dsimp only at e;split at e
    . rename_i a0 q0;obtain⟨⟨y,J⟩,e2,e⟩:=nA e;dsimp only at e;cases y with
      | ntp g=>
       obtain⟨⟨dx,h3⟩,e3,e⟩:=nA e;dsimp only at e;split at e
       . rename_i u q;cases e;obtain⟨C,z,I⟩:=ad.mp R1;obtain⟨s,g0,_⟩:=R.ob n C _ I q0;refine⟨C,z,.inr ⟨s,.inl g0⟩,r,l,M,.ntp g,J,R,L.ext F,e2,fun p y H2 R2 S2 E=>⟨p,l,J,dx,_,S2,L.ext (F.trans E),e3,fun j x3 H3 R3 P D=>?_⟩⟩;obtain⟨kb,W,nk,gk⟩:=dq.mp (T3.ext D _ R2);obtain⟨Y,g1,g2⟩:=P.ob n C _ ((E.trans D).get I) q;refine⟨BE Y (g.map Sum.inl),by rw[W];exact bt.t g1 (by rw[lK];exact gk),?_⟩;obtain⟨v1,Z⟩:=KD.val (K:=X.K) g g2;refine k j _ H3 ?_ P (F.trans (E.trans D));cases c:tE u g with
         | none=>rw[Z c];exact R3
         | some d4=>obtain⟨v4,e4,r4⟩:=v1 d4 c;rw[e4];exact r4
       . cases e
      | _=>cases e
    . cases e
   | _=>cases e
set_option tactic.hygienic true in
theorem QZ(hu:X.A.units+64<cLine)(he:EM X e fe)(Z:EM X o fo)(hi:EM X i B)(hs:autoParam (swapsWith e (ε (.Subscript o i A)) pos.line X.env=pure false) Æ) :
 ZM X (.Assign [.Subscript o i A] e pos) (cN fe fo B):=by
 unhygienic
  exact PS.imp (mv nofun Z hi he hs) fun D R H F=>by
   obtain⟨T,l,h,r,S,L,e,k⟩:=F;obtain⟨⟨v,O⟩,e1,e⟩:=nA e;obtain⟨⟨d,hd⟩,e2,e⟩:=nA e;obtain⟨⟨j,hj⟩,e3,e⟩:=nA e;refine⟨T,l,h,v,O,S,L,e1,fun E u H1 R1 S1 x=>⟨E,l,O,d,hd,S1,L.ext x,e2,fun C y H2 R2 S2 s=>⟨C,l,hd,j,hj,S2,L.ext (x.trans s),e3,fun g z H3 R3 Q p=>?_⟩⟩⟩;cases d with
   | ref n=>
    cases j with
    | ntp W=>
     dsimp only at e;split at e
     . rename_i I q;obtain⟨Y,e⟩:=EF e;cases e;obtain⟨P,F,M⟩:=ad.mp (T3.ext p _ R2);obtain⟨vs,m,g2⟩:=Q.ob n P _ M q;obtain⟨kb,U,nk,gk⟩:=dq.mp R3;have J:=kj M;have g3:KD X.K H3 g I vs:=g2;refine⟨P,_,F,by rw[U];exact ff.t m (by rw[lK];exact gk) (by rw[g3.length];exact Y),?_⟩;exact k g R _ (Q.write M (LQ m) ⟨_,oC,(g3.put W (T3.ext (s.trans p) _ R1)).ext (vc.write J (LQ m))⟩) (L.ext (x.trans (s.trans (p.trans (vc.write J (LQ m)))))) (x.trans (s.trans (p.trans (vc.write J (LQ m)))))
     . cases e
    | _=>cases e
   | _=>cases e
def DX{K:Pb}(P:ρ.v[n]?=ε h)(e:H h=ε (.frz ob (.dT g))):D5 K H ρ (.it n) (JU h ob):=by
 intro S r Q sm m i;have k:=sm.fz h ob _ e;have C:=sm.ix n h P;simp![vj.at];cases q:Q[n]? with
 | none=>trivial
 | some u=>
  cases u with
  | df j=>
   obtain⟨U,vs,E,g2⟩:=m.ob n h _ C q;have g3:KD K S r j vs:=g2;rw[k]at E;cases E;dsimp only;cases D:j[i]? with
   | none=>exact⟨g,k,by rw[g3.length];exact Ei.mp D⟩
   | some p=>obtain⟨v,I,L⟩:=g3.get D;refine⟨⟨g,_,k,I⟩,fun x W J=>?_⟩;obtain⟨qq,M,T,s,ex,y,O,R⟩:=J;have F:=O g k;rw[I]at F;cases F;subst ex R;rw[lK]at y;exact⟨UI m (.cons (ai.mpr ⟨M,_,rfl,.inl ⟨m.ia y,.inl y⟩,Ti.ints p.1⟩) (.cons L .nil)) s,vc.fresh s,m.fresh s⟩
  | _=>trivial
set_option tactic.hygienic true in
theorem Jb {x1} (O:EM X d fa) (m:autoParam (attributeBase d "items" X.env (eval d X.env)=eval d X.env) Æ) (j:autoParam ((w.endLine==t.line)=true) Æ) :
 IM X (.Tuple x x1 M) (.Call (.Attribute d "items" w) [] [] t) (cJ fa):=by
 unhygienic
  exact PI.imp (Ul O m j) fun W H R J=>by
   obtain⟨I,l,h,s,Y,S,L,e,k⟩:=J;obtain⟨⟨E,P⟩,Q,e⟩:=nA e;refine⟨I,l,h,E,P,S,L,Q,fun g v U T y F=>?_⟩;cases E with
   | ref n=>
    obtain⟨C,z,r⟩:=ad.mp T;have D:=kj r;refine⟨C,z,?_⟩;dsimp only at e;split at e
    . rename_i u q;cases e;obtain⟨vs,p,g2⟩:=y.ob n C _ r q;have g3:KD X.K U g u vs:=g2;refine .inl ⟨vs,p,fun ob=>k g _ _ (DX r oC) (y.write r (LQ p) ⟨ob,vs,oC,g3.ext (vc.write D (LQ p))⟩) (F.trans (vc.write D (LQ p)))⟩
    . rename_i u q;cases e;obtain⟨ob,vs,p,g2⟩:=y.ob n C _ r q;exact .inr ⟨ob,vs,p,k g _ _ (DX r p) y F⟩
    . cases e
   | _=>cases e
end
end SM
namespace L2
section
variable{prog:Pu}{w:Ri}{A:Ro}{R:Result->Ou->Prop}{I:O4}{fp a:Oe O4}{n:Nat}{P:Nat->Oi->Prop}{d:Nat->Ru->Prop}
noncomputable abbrev rQ (b:Oi):Oe (Str×Oi):=[(Str.ofString "default",b)]
def Ot(dv)(E:Walks prog w A.in1 I fp a n P d)(x:Nat->Nat->Bool)(M:CmpOf prog w A.in1 .Lt P x)(S)(T:S∉fp) :
 ∀k j s i c,n-(j+1)=k->j+1<=n->d (j+1) s.heap->P (argBest x j) i->
 s.heap.get? S=ε { cls:=.type "list",dict:=none,data:=.seq #[i,i] c,slots:=#[] }->
 (∀v D C,P (argBest x (n-1)) v->(∀b o,b∉a->b≠S->s.heap.get? b=ε o->D.get? b=ε o)->R (.ok (.ret v)) { s with heap:=D,toks:=C })->
 codeAny (model prog w) A (.builtin "min.loop" ⟨[.ref I,.none,.ref S],rQ dv⟩) R s:=by
 have Q:S∉a:=fun h=>T (E.sub _ h)
 have O:(toString "min" ++ toString ".loop" :String) = "min.loop" :=by decide
 intro k
 induction k with
 | zero=>
  intro j s i c ek Z st H B m;have U:j+1=n:=by omega
  refine Ii F.entry_min_loop ?_;rw[Hs F.plain_min_loop _];show wpAny _ A.in1 (seqItems? (.ref S) >>=_) _ _ s;refine ao (wpAny_seqItems B rfl ?_);show wpAny _ A.in1 (tryCatch (pyNext (.ref I)) _ >>=_) _ _ s;refine ao (wpAny_tryCatch (E.done s _ _ (U ▸ st) fun D C kp=>?_));have g:=kp S _ Q B;show wpAny _ A.in1 (updateSeq S (fun t=>#[]) >>=_) _ _ _;refine ao (Oa g rfl (ao (wpAny_letGo (au ?_))));exact m i _ C (by rw[<- U];exact H) fun b o p ns e=>(wu _ _ (m8 ns)).trans (kp b o p e)
 | succ k ih=>
  intro j s i c ek Z st H B m;have lt:j+1<n:=by omega
  refine Ii F.entry_min_loop ?_;rw[Hs F.plain_min_loop _];show wpAny _ A.in1 (seqItems? (.ref S) >>=_) _ _ s;refine ao (wpAny_seqItems B rfl ?_);show wpAny _ A.in1 (tryCatch (pyNext (.ref I)) _ >>=_) _ _ s;refine ao (wpAny_tryCatch (E.item (j+1) s _ _ lt st fun v D C Y y kp=>?_));have g:=kp S _ Q B;show wpAny _ A.in1 (tryCatch (holding [v,v] (richCompare .Lt v i >>=_)) _ >>=_) _ _ _;refine ao (wpAny_tryCatch (Es (ao (M (j+1) (argBest x j) v i _ _ _ Y H ?_))));refine ao (Es (Fi (ao (wpAny_letGo (au ?_)))));cases W:x (j+1) (argBest x j)with
  | true=>
   simp![eH];refine ao (Oa g rfl (ao (wpAny_letGo ?_)));rw[O];refine au ⟨plainId_quiet F.plain_min_loop _,ih (j+1) _ v _ nofun lt (E.frame _ _ _ y fun b L o e=>?_) (by simp![argBest,W,eH];exact Y) (Ge _ g rfl) fun J r f u q=>?_⟩
   . exact(wu _ _ (fun z:S=b=>T (by rw[z];exact L))).trans e
   . exact m J r f u fun b o p ns e=>q b o p ns ((wu _ _ (m8 ns)).trans (kp b o p e))
  | false=>simp![Ws,eO];refine ao (wpAny_letGo ?_);rw[O];refine au ⟨plainId_quiet F.plain_min_loop _,ih (j+1) _ i c nofun lt y (by simp![argBest,W,Ws,eO];exact H) g fun J r f u q=>?_⟩;exact m J r f u fun b o p ns e=>q b o p ns (kp b o p e)
def Ph(J)(i:Walks prog w A.in1 I fp a n P d)(y:Nat->Nat->Bool)(x:CmpOf prog w A.in1 .Lt P y)(S)(k:S∉fp)(E:0<n)(st:d 0 s.heap)
 (H:s.heap.get? S=ε { cls:=.type "list",dict:=none,data:=.seq #[] c,slots:=#[] })
 (u:∀v r C,P (argBest y (n-1)) v->(∀b o,b∉a->b≠S->s.heap.get? b=ε o->r.get? b=ε o)->R (.ok (.ret v)) { s with heap:=r,toks:=C }) :
 codeAny (model prog w) A (.builtin "min.loop" ⟨[.ref I,.none,.ref S],rQ J⟩) R s:=by
 have O:S∉a:=fun h=>k (i.sub _ h)
 have M:(toString "min" ++ toString ".loop" :String) = "min.loop" :=by decide
 refine Ii F.entry_min_loop ?_;rw[Hs F.plain_min_loop _];show wpAny _ A.in1 (seqItems? (.ref S) >>=_) _ _ s;refine ao (wpAny_seqItems H rfl ?_);show wpAny _ A.in1 (tryCatch (pyNext (.ref I)) _ >>=_) _ _ s;refine ao (wpAny_tryCatch (i.item 0 s _ _ E st fun v r C Q j kp=>?_));have g:=kp S _ O H;show wpAny _ A.in1 (updateSeq S (fun t=>#[v,v]) >>=_) _ _ _;refine ao (Oa g rfl ?_);rw[M];refine au ⟨plainId_quiet F.plain_min_loop _,Ot J i y x S k _ 0 _ v _ rfl E (i.frame _ _ _ j fun b p o e=>?_) Q (Ge _ g rfl) fun L q f B m=>?_⟩
 . exact(wu _ _ (fun z:S=b=>k (by rw[z];exact p))).trans e
 . exact u L q f B fun b o D ns e=>m b o D ns ((wu _ _ (m8 ns)).trans (kp b o D e))
end
section
variable{prog:Pu}{w:Ri}{A:Ro}{E:Oi->Ou->Prop}{s:Ou}
def bh (x d):argsOk "min" ⟨[x],rQ d⟩:=by unfold argsOk;kernel_rfl
def Rt
 (h:wpAny (model prog w) A.in1 (pyIter x) (fun p a=>∃I fp i n P St g,p=.ref I/\Walks prog w A.in1 I fp i n P St/\St 0 a.heap/\(∀b∈fp,b<a.heap.objs.size)/\0<n/\CmpOf prog w A.in1 .Lt P g/\
  ∀v f j,P (argBest g (n-1)) v->(∀b o,b∉i->a.heap.get? b=ε o->f.get? b=ε o)->R v { a with heap:=f,toks:=j }) E s) :
 wpAny (model prog w) A (call (.builtin "min") [x] (rQ d)) R E s:=by
 have r:(toString "min" ++ toString ".loop" :String) = "min.loop" :=by decide
 refine kmk_tree PySem.F.kind_min PySem.F.plain_min PySem.F.entry_min (bh _ _) ?_;show wpAny _ A.in1 (Builtin.Builtins.bindParams "min" ["key", "default"] 0 ⟨[],rQ d⟩ >>=_) _ _ s;refine ao (wpAny_of_eq (show Builtin.Builtins.bindParams "min" ["key", "default"] 0 ⟨[],rQ d⟩=pure [none,ε d]from rfl) (ao (au ?_)));refine ao (Ia h (fun p a H=>?_) fun z z e=>e);obtain⟨I,fp,i,n,P,St,g,rfl,q,st,B,C,m,k⟩:=H;refine ao (Ae ?_);have y:a.heap.objs.size∉fp:=fun D=>Eu _ (B _ D)
 rw[r];refine au ⟨plainId_quiet F.plain_min_loop _,Ph d q g m a.heap.objs.size y C (q.frame _ _ _ st fun b z o e=>cu _ e) (jj _ rfl) fun v f j J kp=>?_⟩;exact k v f j J fun b o u e=>kp b o u (nW (iu e)) (cu _ e)
def Nt(n:A.handled=none)(m:s.heap.IsList l (intItems xs))(f:0<xs.size)
 (h:∀v a d,(intItems xs)[argBest (fun i j=>decide (numAt xs i<numAt xs j)) (xs.size-1)]?=ε v->(∀b o,s.heap.get? b=ε o->a.get? b=ε o)->R v { s with heap:=a,toks:=d }) :
 wpAny (model prog w) A (call (.builtin "min") [.ref l] (rQ p)) R E s:=by
 refine Rt (iter_intList m fun r e st k g=>?_);subst e;refine⟨_,_,_,_,_,_,_,rfl,Walks.list (A:=A.in1) n _ l g (intItems xs),st,k,by simpa[intItems]using f,CmpOf.ints_lt (numAt xs) (fun z z=>intItems_at),fun v a d q kp=>?_⟩;exact h v a d (by simpa[intItems]using q) (old_kept kp)
end
section
variable{X:Cx}{e d:Pa}{c:TA}{b:TE}{p pos kp:Pos}
noncomputable def Yq(K:Pb)(c:TA)(b:TE):TE:=fun f H Q=>c f H fun h i=>b f i fun _ g=>∃(q:O4)(ns:Oe Int),h=[.ref q]/\vn K g q (ns.map V.int)/\ns ≠ []/\∀M,M∈ns->(∀a∈ns,M<=a)->Q (.int M) g
def mw (T:X.calm=true) (S:Gl X "min") (P:X.mg "min" =none) (i:PA X [e] c) (hd:PE X d b) (he:autoParam (starEach [e] X.env=[(false,eval e X.env)]) Æ) :
 PE X (.Call (.Name "min" p) [e] [⟨ε "default",d,kp⟩] pos) (Yq X.K c b):=by
 intro f s x H Q I h;refine wpAny_Call_Name_kw (nG I S P PyProof.Rows.boot_min ?_);refine callWith_kw ?z1 (by rw[he];rfl) (by rw[he];rfl) rfl rfl;refine wB (i pos f s x H _ I h) fun C D ⟨vs,H1,Y,F,q1⟩=>?z2
 refine kws_cons ?z3;refine wB (hd f D x H1 _ Y q1) fun v s2 ⟨y,Z,r,ry,q2⟩=>?z4
 refine kws_nil ?z5;show wpAny _ _ (call (.builtin "min") C (rQ v)) _ _ _;obtain⟨q,ns,rfl,O,n,o⟩:=q2;obtain⟨u,rfl,E⟩:=kF F;cases E;obtain⟨L,J,pl,hz⟩:=r.list O;obtain⟨g,W,e2⟩:=vO (VJ J);have B:=pl.isList;rw[W]at B;have m:0<g.size:=by
  rcases Nat.eq_zero_or_pos g.size with z | z
  . exfalso;apply n;rw[<- e2];have:g.toList=[]:=eq_nil_of_length_eq_zero (by simpa using z);rw[this];rfl
  . exact z
 refine Nt (r.ok.hd T) B m fun v h' tk M k=>?_
 obtain⟨t,rfl⟩:=intItems_at M;obtain⟨h1,U⟩:=argBest_lt (numAt g) (g.size-1);refine⟨.int _,Z,r.kept k,⟨t,rfl⟩,o _ ?_ fun a i=>?_⟩
 . rw[numAt_eq,<- e2];exact getD_mem (by rw[mq,za];omega)
 . rw[<- e2]at i;obtain⟨j,R,rfl⟩:=mem_getD i;rw[mq,za]at R;rw[<- numAt_eq];exact U j nofun
end
end L2
namespace SM
def aU(fa b:RE):RE:=fun l h=>(fa l h).bind fun r=>(b l r.2).bind fun q=>(BA q.2 r.1).bind fun a=>(TB a).bind fun ns=>if ns ≠ []then ε (.int (NB ns),q.2)else none
section
variable{X:Cx}{e d:Pa}{fa b:RE}{p pos kp:Pos}
def mx (D:X.calm=true) (C:Gl X "min") (B:X.mg "min" =none) (E:EM X e fa) (hd:EM X d b) (hs:autoParam (ZA e=true) Æ):EM X (.Call (.Name "min" p) [e] [⟨ε "default",d,kp⟩] pos) (aU fa b):=by unhygienic exact PE.imp (mw D C B (mC E cD (fB hs _ _)) hd (fB hs _ _)) fun W H Q u=>by obtain⟨s,l,h,dd,h',S,L,e,k⟩:=u;obtain⟨⟨P,j⟩,J,e⟩:=nA e;obtain⟨⟨O,h2⟩,e2,e⟩:=nA e;obtain⟨Y,I,e⟩:=nA e;obtain⟨ns,q,e⟩:=nA e;obtain⟨f,e⟩:=EF e;cases e;refine⟨s,l,h,P,j,S,L,J,fun i v H1 T R o=>⟨i,l,j,O,_,R,L.ext o,e2,fun g v2 U R2 m n=>?_⟩⟩;obtain⟨a,Z,z,sq,r⟩:=zC m (T3.ext n _ T) I;rw[aE q]at r;rw[r.cm]at sq;obtain⟨y,x⟩:=RH ns f;refine⟨a,ns,by rw[z],sq,f,fun M F g2=>?_⟩;have:M=NB ns:=Int.le_antisymm (g2 _ y) (x M F);rw[this];exact k g _ U (Xa.mpr rfl) m (o.trans n)
end
end SM
namespace L2
noncomputable def LB(ns:Oe Int):Oe Int:=ns.foldl (fun a k=>if a.any (· ==k)then a else a++[k]) []
def JZ(ns)(n)(h:n=ns.length):firstMet (fun i=>ns.getD i 0) n=LB ns:=by
 subst h;have e:(List.range ns.length).map (fun i=>ns.getD i 0)=ns:=by
  apply ext_getElem
  . simp
  . intro i b a;simp[a]
 unfold firstMet LB;rw[e];rfl
section
variable{X:Cx}
def Nr (E:X.calm=true):ae X (.type "set") (fun i H Q=>∃q ns,i=[.ref q]/\vn X.K H q (ns.map V.int)/\ns.length+1<4096/\
 ∀p,H p=none->Q (.ref p) (pB H p (.set (fun k=>(LB ns).any (· ==k)) (LB ns).length))):=by
 intro j s F H i J Q I r h;obtain⟨q,ns,rfl,C,M,f⟩:=h;obtain⟨u,rfl,y⟩:=kF r;cases y;obtain⟨d,B,pl,L⟩:=I.list C;have m:=VJ B;have D:d.length=ns.length:=IntsAre.length m;have e:d.toArray.size=ns.length:=by rw[cG,D]
 refine PySem.call_set_list (items:=d.toArray) (ns:=ns) (I.ok.hd E) pl.isList (by simpa using m) (by rw[e];unfold scanBound;omega) fun O x n kp=>?_
 rw[JZ ns _ e]at n;exact⟨.ref s.heap.objs.size,_,I.laid (a:=s.heap.objs.size) (o:=.set (fun k=>(LB ns).any (· ==k)) (LB ns).length) (t':=x) (fun b u g=>kp b u (iu g) g) (Us _) n,rfl,f _ (I.hok.fresh (Us _))⟩
def TX:ae X (.builtin "len") (fun d H Q=>∃p S n,d=[.ref p]/\H p=ε (.set S n)/\Q (.int n) H):=by
 intro e s y H d B Q I r h;obtain⟨q,S,n,rfl,i,a⟩:=h;obtain⟨u,rfl,g⟩:=kF r;cases g;obtain⟨o,b,E,t,x,g2,g3,D,C,f,m,k⟩:=(show s.heap.SetOf (intKind X.prog X.w) q S n from I.hok q _ i);subst k;refine call_len_set x g2 g3 m ?_ ⟨.int b.size,H,I.tok _,⟨_,rfl⟩,a⟩;have:b.size<4096:=by unfold scanBound at f;exact f
 have j:(b.size:Int)<4096:=by omega
 exact Int.lt_trans j (by decide)
end
end L2
namespace SM
def wM:Dt->HI->Oo (Dt×HI):=fun d h=>(BA h d).bind fun a=>(TB a).bind fun ns=>if ns.length+1<4096 then ε (.int (LB ns).length,h)else none
section
variable{X:Cx}{e:Pa}{f:RE}{p p' pos pos':Pos}
def Ut (x:X.calm=true) (u:Gl X "len") (s:X.mg "len" =none) (i:Gl X "set") (g:X.mg "set" =none) (y:EM X e f) (hs:autoParam (ZA e=true) Æ) :
 EM X (.Call (.Name "len" p) [.Call (.Name "set" p') [e] [] pos'] [] pos) (VB wM f):=by
 unhygienic exact PE.imp (mM TX u s PySem.boot_len (mC (VR (Nr x) i g boot_set (mC y cD (fB hs _ _)) (he:=fB hs _ _)) cD rfl)) fun F H Q n=>by obtain⟨m,l,h,d,O,S,L,e,k⟩:=n;obtain⟨⟨C,M⟩,B,e⟩:=nA e;obtain⟨I,e2,e⟩:=nA e;obtain⟨ns,q,e⟩:=nA e;obtain⟨o,e⟩:=EF e;cases e;refine⟨m,l,h,C,_,S,L,B,fun b v P D j E=>?_⟩;obtain⟨a,J,z,sq,r⟩:=zC j D e2;rw[aE q]at r;rw[r.cm]at sq;exact⟨a,ns,by rw[z],sq,o,fun w hw=>⟨w,_,_,rfl,oC,k b _ _ (Xa.mpr rfl) (j.fresh hw) (E.trans (vc.fresh hw))⟩⟩
end
end SM
namespace L2
noncomputable def Its(lo c:Int)(n:Nat):It:=⟨fun i _=>i<n,fun i H x a=>a=H/\x=.int (lo+(i:Int)*c),fun i _=>n<=i⟩
def Ad{P:Pu}{w:Ri}{K:Pb}{L:Pa}(it:O4)(lo c:Int)(n:Nat):UG P w K L (Its lo c n) [it] it (fun i h=>IsRangeIter h it (lo+(i:Nat)*c) ((n:Int)-(i:Nat)) c) where
 mem:=by simp
 obj:=fun i h st b d=>by
  have e:b=it:=by simpa using d
  subst e;exact⟨_,st,fun v z=>by
   have J:Data.fields _=Data.cell v:=z;cases J⟩
 keep:=fun i h j st k=>k it ⋯ _ st
 item:=by
  intro X q hw r p i a s D H E I g st m;subst q hw r;obtain⟨C,B,Q,y,x,u⟩:=g it ⋯;have W:=Walks.range (prog:=X.prog) (w:=X.w) (I.ok.hd p) it lo c n;refine W.item i s _ _ m st fun v j F O f M=>?_
  obtain⟨t,rfl⟩:=O;have S:u7 X a D H { s with heap:=j,toks:=F }:=I.turned (fun b o d e=>M b o (by simpa using d) e) C B y x u;exact⟨_,rfl,dQ (s:={ s with heap:=j,toks:=F }) (n := "range_iterator") f rfl rfl (by decide) ⟨.int (lo+(i:Int)*c),H,S,⟨t,rfl⟩,⟨rfl,rfl⟩,f,fun b d=>(g b d).1⟩⟩
 done:=by intro X q hw r p i a s D H E I g st m;subst q hw r;obtain⟨C,B,Q,y,x,u⟩:=g it ⋯;exact wpAny_pyNext_range_end (I.ok.hd p) st (by have:n<=i:=m;omega) fun j R=>⟨rfl,I.turned (t':=s.toks) (fun b o d e=>R b o d e) C B y x u⟩
 self:=fun _ _ _ _ _ st h=>wpAny_pyIter_rangeiter st h
section
variable{X:Cx}{tg:Pa}
def jx(d:TA):TI:=fun a H R=>d a H fun b e=>∃(i j:Int)(c:Nat),b=[.int i,.int j,.int (c:Int)]/\(0<=i/\i<2^61/\0<=j/\j<2^61/\0<c/\c<1000)/\R (Its i c ((j-i+(c:Int)-1)/(c:Int)).toNat) e
def EX{c:Nat}(b:0<c):Builtin.Range.rangeSize i j (c:Int)=(((j-i+(c:Int)-1)/(c:Int)).toNat:Int):=by
 have a:(c:Int)>0:=by omega
 unfold Builtin.Range.rangeSize;rw[dz a];by_cases h:i<j
 . rw[dz h,show j-i+(c:Int)-1=(j-i-1)+1*(c:Int) by omega,Int.add_mul_ediv_right _ _ nofun];have:0<=(j-i-1)/(c:Int):=Int.ediv_nonneg nofun nofun;omega
 . rw[eG h];have:(j-i+(c:Int)-1)/(c:Int)<=0:=by have d:(j-i+(c:Int)-1)/(c:Int)<1:=Int.ediv_lt_of_lt_mul nofun nofun;omega
   omega
def Bh{c:Nat}(q:0<=i/\i<2^61/\0<=j/\j<2^61/\0<c/\c<1000):Builtin.Range.small i j (c:Int)=true:=by
 obtain⟨m,k,h,g,b,f⟩:=q;have a:(c:Int)>0:=by omega
 have sz:Builtin.Range.rangeSize i j (c:Int)<=2^61+1/\0<=Builtin.Range.rangeSize i j (c:Int):=by
  rw[EX b];refine⟨?_,by omega⟩;have e:(j-i+(c:Int)-1)/(c:Int)<2^61+1:=Int.ediv_lt_of_lt_mul nofun (by
   have:(2^61+1:Int)*(c:Int)=2^61*(c:Int)+(c:Int):=by rw[Int.add_mul,Int.one_mul]
   have d:(2^61:Int)*1<=2^61*(c:Int):=Int.mul_le_mul_of_nonneg_left nofun (by decide);omega)
  omega
 unfold Builtin.Range.small;simp![Builtin.Range.rangeFitsLong,vm,Bool.or_eq_true,decide_eq_true_eq,beq_iff_eq,a,eH];omega
def jc (L:Gl X "range") (J:X.mg "range" =none) (O:PA X [a,b,d] B) (hs:starEach [a,b,d] X.env=[(false,eval a X.env),(false,eval b X.env),(false,eval d X.env)]) (n:starEach [b,d] X.env=[(false,eval b X.env),(false,eval d X.env)]) :
 PI X tg (.Call (.Name "range" p) [a,b,d] [] pos) (jx B):=by
 intro g s y H R I h;refine Call_ (nG I L J boot_range (PyProof.Rows.callWith_type1 (wB (O pos g s y H _ I h) fun U k D=>?_) (by rw[hs,n]) (by rw[n];rfl)));obtain⟨T,C,S,E,q1⟩:=D;obtain⟨i,j,c,e,qq,q⟩:=q1;subst e;cases E with
 | cons r m=>
  cases m with
  | cons F m=>
   cases m with
   | cons u m=>
    cases m;obtain⟨t,rfl⟩:=r;obtain⟨t',rfl⟩:=F;obtain⟨f,rfl⟩:=u;have Q:=qq.2.2.2.2.1;have W:=qq.2.2.2.2.2;refine call_range_3 (show((c:Nat):Int)≠0 by omega) ?_ (Or.inl (PyProof.noPylong_small nofun));refine wpAny_pyIter_range (IsRange.new ..) (Bh qq) ?_;have x:u7 X g y C { k with heap:=k.heap.push { cls:=.type "range",data:=.fields #[.int i t,.int j t',.int (c:Int) f] },toks:=k.toks }:=S.kept fun b o e=>cu _ e
    refine⟨(k.heap.push { cls:=.type "range",data:=.fields #[.int i t,.int j t',.int (c:Int) f] }).objs.size,[(k.heap.push { cls:=.type "range",data:=.fields #[.int i t,.int j t',.int (c:Int) f] }).objs.size],_,_,C,rfl,
     x.kept (t':=k.toks) fun b o e=>cu _ e,Ad _ i c ((j-i+(c:Int)-1)/(c:Int)).toNat,?_,fun b M=>?_,q⟩
    . have P:i+((0:Nat):Int)*(c:Int)=i:=by simp
      have e2:((((j-i+(c:Int)-1)/(c:Int)).toNat:Nat):Int)-((0:Nat):Int)=Builtin.Range.rangeSize i j (c:Int):=by rw[EX Q];omega
      show IsRangeIter _ _ (i+((0:Nat):Int)*(c:Int)) (((((j-i+(c:Int)-1)/(c:Int)).toNat:Nat):Int)-((0:Nat):Int)) (c:Int);rw[P,e2];exact jj _ rfl
    . have e:b=(k.heap.push { cls:=.type "range",data:=.fields #[.int i t,.int j t',.int (c:Int) f] }).objs.size:=by simpa using M
      subst e;exact x.cx (Us _) (x.hok.fresh (Us _))
end
end L2
namespace SM
noncomputable def K6(f g:RE)(c:Nat):RI:=fun l h=>(f l h).bind fun r=>(g l r.2).bind fun q=>match r.1,q.1 with
 | .int i,.int j=>if 0<=i/\i<2^61/\0<=j/\j<2^61/\0<c/\c<1000 then ε (.vals ((List.range ((j-i+(c:Int)-1)/(c:Int)).toNat).map fun(k:Nat)=>Dt.int (i+(k:Int)*(c:Int))),q.2)else none | _,_=>none
noncomputable def eJ:qD:=fun a b h=>match a,b with
 | .tup xs,.tup ys=>if xs ≠ []/\xs.length+ys.length<=sizeLine then ε (.tup (xs++ys),h)else none
 | _,_=>none
noncomputable def AE(f:Str)(v:Dt):Oe (Str×Dt)->Oe (Str×Dt)
 | []=>[(f,v)]
 | (g,x)::r=>if g=f then(g,v)::r else(g,x)::AE f v r
noncomputable def mD(f:Str):Oe (Str×Dt)->Oo Dt
 | []=>none
 | (g,x)::r=>if f=g then ε x else mD f r
def YF(x f:Str)(fo:RE):RE:=fun l h=>(fo l h).bind fun r=>match r.1 with
 | .ref n=>(match r.2[n]? with
  | some (.ins y fs)=>if y=x then(mD f fs).bind fun d=>ε (d,r.2)else none
  | _=>none)
 | _=>none
def gJ(x f:Str)(fo fe:RE):RS:=fun l h=>(fe l h).bind fun r=>(fo l r.2).bind fun q=>match q.1 with
 | .ref n=>(match q.2[n]? with
  | some (.ins y fs)=>if y=x/\fs.length<1000 then ε (.nx l (q.2.set n (.ins y (AE f r.1 fs))))else none
  | _=>none)
 | _=>none
noncomputable def ZP(x:Str)(F:oB)(g:RA):RE:=fun l h=>(g l h).bind fun r=>(F (.ref r.2.length::r.1) (r.2++[.ins x []])).bind fun q=>match q.1 with
 | .non=>ε (.ref r.2.length,q.2)
 | _=>none
def iJ(x m:Str)(F:oB)(fo:RE)(g:RA):RE:=fun l h=>(fo l h).bind fun r=>match r.1 with
 | .ref n=>(match r.2[n]? with
  | some (.ins y fs)=>if y=x/\mD m fs=none then(g l r.2).bind fun q=>F (.ref n::q.1) q.2 else none
  | _=>none)
 | _=>none
section
variable{X:Cx}{tg:Pa}
def Ar {c:Nat} (T:Gl X "range") (Q:X.mg "range" =none) (W:EM X a f) (U:EM X b g) (hd:EM X d (eC (.int (c:Int)))) (hs:autoParam (ZA a=true) Æ) (o:autoParam (ZA b=true) Æ) (m:autoParam (ZA d=true) Æ) :
 IM X tg (.Call (.Name "range" p) [a,b,d] [] pos) (K6 f g c):=by
 unhygienic
  exact PI.imp (jc T Q (mC W (mC U (mC hd cD (fB m _ _)) (fB o _ _)) (fB hs _ _)) (by rw[fB hs,fB o,fB m];rfl) (by rw[fB o,fB m];rfl)) fun σ H R P=>by
   obtain⟨O,l,h,s,h',S,L,e,k⟩:=P;obtain⟨⟨I,E⟩,Y,e⟩:=nA e;obtain⟨⟨F,C⟩,e2,e⟩:=nA e;refine⟨O,l,h,I,E,S,L,Y,fun B v H1 R1 S1 D=>⟨B,l,E,F,C,S1,L.ext D,e2,fun y u H2 R2 S2 J=>⟨y,l,C,.int (c:Int),C,S2,L.ext (D.trans J),rfl,fun x u3 H3 R3 S3 E3=>?_⟩⟩⟩;cases I with
   | int i=>
    cases F with
    | int j=>
     obtain⟨Z,e⟩:=EF e;cases e;refine⟨i,j,c,by rw[Xa.mp R1,Xa.mp R2,Xa.mp R3],Z,k x _ H3 (fun H4 M h4 E4 S4 n=>?_) S3 (D.trans (J.trans E3))⟩;simp![vj.at,uq];by_cases r:n<((j-i+(c:Int)-1)/(c:Int)).toNat
     . rw[Ni r];refine⟨r,fun v H5 q=>?_⟩;obtain⟨rfl,rfl⟩:=q;exact⟨Xa.mpr rfl,vc.refl _ _,S4⟩
     . rw[ju (by simpa using Je.mp r)];exact Je.mp r
    | _=>cases e
   | _=>cases e
def XZ:OM X (binaryOp .Add) eJ:=by
 unhygienic
  exact vu.imp la fun x y H Q o=>by
   obtain⟨i,h,F,E,d,J,S,n,R2,e,k⟩:=o;cases F with
   | tup I=>
    cases E with
    | tup r=>
     obtain⟨⟨D,B⟩,e⟩:=EF e;cases e;obtain⟨a,u,j,q1,g⟩:=ai.mp n;obtain⟨b,s,q,q2,f⟩:=ai.mp R2;refine⟨a,b,u,s,j,q,q1.sq,q2.sq,fun z=>?_,by rw[g.length,f.length];exact B,fun z=>?_,fun z p hp=>k i _ _ (UI S (g.append f) hp) (S.fresh hp) (vc.fresh hp)⟩
     . have:=g.length;rw[z]at this;exact D (length_eq_zero_iff.mp this.symm)
     . have m:=f.length;rw[z]at m;have C:r=[]:=length_eq_zero_iff.mp m.symm;subst C;rw[Ui]at k;exact k i _ _ (j ▸ n) S (vc.refl _ _)
    | _=>cases e
   | _=>cases e
end
def eQ(f:RE):RI:=fun l h=>(f l h).bind fun r=>match r.1 with
 | .lst a=>ε (.vals (jJ 0 a),r.2)
 | .ref n=>(match r.2[n]? with
  | some (.lst _)=>ε (.en n,r.2)
  | _=>none)
 | _=>none
theorem my {x1} (hg:Gl X "enumerate") (hm:X.mg "enumerate" =none) (ha:EM X a f) (hs:autoParam (ZA a=true) Æ):IM X (.Tuple B x1 tp) (.Call (.Name "enumerate" p) [a] [] pos) (eQ f):=by
 unhygienic
  refine PI.imp (mo hg hm (mC ha cD (fB hs _ _)) (fB hs _ _)) fun σ H R zz=>?_
  obtain⟨ρ,l,h,s,h',S,L,e,k⟩:=zz;obtain⟨⟨U,D⟩,e1,e⟩:=nA e;refine⟨ρ,l,h,U,D,S,L,e1,fun x v Y W P Z=>?_⟩;cases U with
  | lst I=>
   cases e;obtain⟨b,g,rfl,q,r⟩:=br.mp W;refine⟨b,rfl,⟨g,q.sq⟩,k x _ Y (fun H2 F D E m i=>?_) P Z⟩;have q2:=q.same E;have r2:=Ti.same E _ r;simp![vj.at,iY,Aa];cases C:I[i]? with
   | none=>refine⟨g,q2.sq,?_⟩;rw[r.length];exact Ei.mp C
   | some d=>obtain⟨v,j,g2⟩:=r2.get C;refine⟨⟨g,v,q2.sq,j⟩,fun u H3 y=>?_⟩;obtain⟨p0,y0,hp,rfl,O,rfl⟩:=y;have g3:=O g q2.sq;rw[j]at g3;cases g3;exact⟨UI m (.cons (Xa.mpr rfl) (.cons g2 .nil)) hp,vc.fresh hp,m.fresh hp⟩
  | ref n=>
   dsimp only at e;split at e
   . rename_i a0 q0;cases e;obtain⟨b,rfl,Q⟩:=ad.mp W;obtain⟨J,g0,_⟩:=P.lst Q q0;refine⟨b,rfl,⟨J,vn.of g0⟩,k x _ Y (fun H2 F D E m i=>?_) P Z⟩;have M:=E.ix _ _ Q;simp![vj.at];cases q:D[n]? with
     | none=>trivial
     | some o=>
      cases o with
      | lst I=>
       obtain⟨g,j,r⟩:=m.lst M q;dsimp only;cases C:I[i]? with
       | none=>refine⟨g,vn.of j,?_⟩;rw[r.length];exact Ei.mp C
       | some d=>obtain⟨v,g2,g3⟩:=r.get C;refine⟨⟨g,v,vn.of j,g2⟩,fun u H3 y=>?_⟩;obtain⟨p0,y0,hp,rfl,O,rfl⟩:=y;have T:=O g (vn.of j);rw[g2]at T;cases T;exact⟨UI m (.cons (Xa.mpr rfl) (.cons g3 .nil)) hp,vc.fresh hp,m.fresh hp⟩
      | _=>trivial
   . cases e
  | _=>cases e
def HQ[Decidable c]{a:Type}{x:Oo a}{b:a}(e:(if c then x else none)=ε b):c/\x=ε b:=by
 by_cases h:c
 . rw[dz h]at e;exact⟨h,e⟩
 . rw[eG h]at e;cases e
def wo(K:Pb)(x:Str)(C:O4):Prop:=nsIn K mainGlobals x=ε (ε (.ref C))
def wo.inj{K:Pb}{x:Str}{C C':O4}(h:wo K x C)(h':wo K x C'):C=C':=by have:=h.symm.trans h';cases this;rfl
theorem QS{K:Pb}:∀{fs:Oe (Str×Dt)}{vs:Oe (Str×V)},fs.map (·.1)=vs.map (·.1)->Ti K H ρ (fs.map (·.2)) (vs.map (·.2))->
 (∀d,mD f fs=ε d->∃v,vs.lookup f=ε v/\T3 K H ρ d v)/\(mD f fs=none->vs.lookup f=none)
 | [],[],_,_=>⟨(fun u h=>by cases h),fun u=>rfl⟩
 | [],_::_,e,_=>by cases e
 | _::_,[],e,_=>by cases e
 | (x,d)::fs,(y,v)::vs,e,r=>by
  simp![Uo,Ms]at e;obtain⟨o,e⟩:=e;subst o;obtain⟨p,s,q,n,m⟩:=Ti.Zi r;cases q;obtain⟨k,j⟩:=QS (f:=f) e m;by_cases z:f=x
  . have a:(f==x)=true:=beq_iff_eq.mpr z;refine⟨fun b h=>?_,fun h=>?_⟩
    . simp![mD,dz z]at h;cases h;exact⟨v,by simp![List.lookup,a],n⟩
    . simp![mD,dz z]at h;cases h
  . have a:(f==x)=false:=by rw[<- Bool.not_eq_true,beq_iff_eq];exact z
    refine⟨fun b h=>?_,fun h=>?_⟩
    . simp![mD,eG z]at h;obtain⟨w,i,g⟩:=k b h;exact⟨w,by simp![List.lookup,a];exact i,g⟩
    . simp![mD,eG z]at h;simp![List.lookup,a];exact j h
theorem RY{K:Pb}(a:T3 K H ρ d v):∀{fs:Oe (Str×Dt)}{vs:Oe (Str×V)},fs.map (·.1)=vs.map (·.1)->Ti K H ρ (fs.map (·.2)) (vs.map (·.2))->
 (AE f d fs).map (·.1)=(L2.DB f v vs).map (·.1)/\Ti K H ρ ((AE f d fs).map (·.2)) ((L2.DB f v vs).map (·.2))
 | [],[],_,_=>⟨rfl,.cons a .nil⟩
 | [],_::_,e,_=>by cases e
 | _::_,[],e,_=>by cases e
 | (x,d0)::fs,(y,v0)::vs,e,r=>by
  simp![Uo,Ms]at e;obtain⟨j,e⟩:=e;subst j;obtain⟨k,m,q,i,b⟩:=Ti.Zi r;cases q;by_cases z:x=f
  . simp![AE,L2.DB,dz z,Uo];exact⟨by rw[e],.cons a b⟩
  . obtain⟨h,g⟩:=RY a (f:=f) e b;simp![AE,L2.DB,eG z,Uo];exact⟨by rw[h],.cons i g⟩
structure lT(K:Frag)(x f:Str):Prop where
 ex:∃C,wo K x C/\Cls K C/\dm K C f
structure yH(P:Program)(w:World)(K:Frag)(mg:Str->Option Value)(base:Heap)(k n:Nat)(x m:Str)(F:oB):Prop where
 ex:∃C f fd ps,wo K x C/\Cls K C/\tN K C m f/\ab P w K mg base TF k f fd ps (oJ K n F)/\vt K fd ps []
 len:∀ds h r,F ds h=ε r->ds.length=n
structure nT(K:Frag)(x m qual:Str)(st:Stmt)(ps:List Str):Prop where
 ex:∃C f fd,wo K x C/\Cls K C/\tN K C m f/\Fun K m qual st f fd/\vt K fd ps []
structure vQ(P:Program)(w:World)(K:Frag)(mg:Str->Option Value)(base:Heap)(k n:Nat)(x:Str)(F:oB):Prop where
 ex:∃C f fd ps,wo K x C/\Mk K C f/\ab P w K mg base TF k f fd ps (oJ K n F)/\mg x=ε (.ref C)/\vt K fd ps []
 len:∀ds h r,F ds h=ε r->ds.length=n
structure X0(K:Frag)(mg:Str->Option Value)(x qual:Str)(st:Stmt)(ps:List Str):Prop where
 ex:∃C f fd,wo K x C/\Mk K C f/\Fun K "__init__" qual st f fd/\mg x=ε (.ref C)/\vt K fd ps []
section
variable{P:Pu}{w:Ri}{K:Pb}{b:Str->Oo Oi}{a:Ru}
def TZ{st:Ra}(D:nT K x m d st ps)(S:Yu N ps (kB st))(o:ps.length=n)(p:N.length=i)
 (q:∀f g A outer s H E,Xi k (A.deeper (envOfC d (kB st) s.heap.objs.size f g))->
  iI (YE TF P w K b a N d (kB st) f g A outer s H E).nox (MC st) body):yH P w K b a (k+1) n x m (IB n i body):=by
 unhygienic subst o p;obtain⟨C,f,B,J,I,F,u,y⟩:=D.ex;exact⟨⟨C,f,B,ps,J,I,F,bQ u S fun g A outer s H E j=>q f g A outer s H E j,y⟩,fun ds h r e=>sP e⟩
def m4{st:Ra}(D:nT K x m g st ps):yH P w K b a k n x m (fun z z=>none):=by
 unhygienic
  obtain⟨C,f,u,F,B,y,R,p⟩:=D.ex;refine⟨⟨C,f,u,ps,F,B,y,⟨fun o H Q E h=>?_,fun A outer s H i I o Q E L M O J h=>?_⟩,p⟩,fun ds h r e=>by cases e⟩
  . obtain⟨j,ds,h,d,q,_,_,_,e,_⟩:=h;cases e
  . obtain⟨j,ds,h,d,q,_,_,_,e,_⟩:=h;cases e
def nb{st:Ra}(D:X0 K b x d st ps)(S:Yu N ps (kB st))(m:ps.length=n)(o:N.length=i)
 (p:∀f g A outer s H E,Xi k (A.deeper (envOfC d (kB st) s.heap.objs.size f g))->
  iI (YE TF P w K b a N d (kB st) f g A outer s H E).nox (MC st) body):vQ P w K b a (k+1) n x (IB n i body):=by
 unhygienic subst m o;obtain⟨C,f,y,I,F,q,B,u⟩:=D.ex;exact⟨⟨C,f,y,ps,I,F,bQ q S fun g A outer s H E j=>p f g A outer s H E j,B,u⟩,fun ds h r e=>sP e⟩
end
def L6(h:H a=ε (.ins C b vs)):yU H a:=fun q q e=>by rw[h]at e;cases e
section
variable{X:Cx}{e o b:Pa}{s:Oe Pa}{x f m:Str}{fo fe:RE}{g:RA}{pos j i p:Pos}{k t n:Nat}{F:oB}
theorem MM(cl:lT X.K x f)(u:EM X e fo)(U:autoParam (attributeBase e f X.env (eval e X.env)=eval e X.env) Æ):EM X (.Attribute e f pos) (YF x f fo):=by
 unhygienic
  exact PE.imp (Pq u U) fun σ H Q J=>by
   obtain⟨I,l,h,d,h',S,L,e,k⟩:=J;obtain⟨⟨B,W⟩,e1,e⟩:=nA e;refine⟨I,l,h,B,W,S,L,e1,fun r v H1 R1 D E1=>?_⟩;cases B with
   | ref n=>
    dsimp only at e;split at e
    . rename_i y fs q;obtain⟨T,e3⟩:=HQ e;subst T;obtain⟨d2,q2,Z⟩:=nA e3;cases Z;obtain⟨a,z,u⟩:=ad.mp R1;obtain⟨C,dx,P,c1,Y,g2,g3⟩:=D.ob n a _ u q;obtain⟨E,c2,c3,c4⟩:=cl.ex;have cc:E=C:=wo.inj c2 c1;subst cc;obtain⟨R,O,M⟩:=(QS g2 g3).1 _ q2;exact⟨a,E,dx,P,R,z,Y,c3,c4,O,k r _ _ M D E1⟩
    . cases e
   | _=>cases e
set_option tactic.hygienic true in
theorem DP(cl:lT X.K x f)(E:EM X o fo)(J:EM X b fe)(hs:autoParam (swapsWith b (ε (.Attribute o f j)) pos.line X.env=pure false) Æ):ZM X (.Assign [.Attribute o f j] b pos) (gJ x f fo fe):=by
 unhygienic
  exact PS.imp (Ij E J hs) fun D σ H P=>by
   obtain⟨ρ,l,h,r,S,L,e,k⟩:=P;obtain⟨⟨v,J⟩,e1,e⟩:=nA e;obtain⟨⟨d,hd⟩,e2,e⟩:=nA e;refine⟨ρ,l,h,v,J,S,L,e1,fun O u H1 R1 S1 T=>⟨O,l,J,d,hd,S1,L.ext T,e2,fun M y H2 R2 S2 R=>?_⟩⟩;cases d with
   | ref n=>
    dsimp only at e;split at e
    . rename_i y fs q;obtain⟨⟨hy,hl⟩,e⟩:=EF e;cases e;subst hy;obtain⟨a,P,E⟩:=ad.mp R2;obtain⟨C,Y,W,Z,I,g2,g3⟩:=S2.ob n a _ E q;obtain⟨U,c2,c3,c4⟩:=cl.ex;have cc:U=C:=wo.inj c2 Z;subst cc;have Q:=kj E;have B:W.length=fs.length:=by have:=congrArg List.length g2;simpa using this.symm
      obtain⟨p1,p2⟩:=RY (f:=f) (T3.ext R _ R1) g2 g3;refine⟨a,U,Y,W,P,I,c3,c4,by rw[B];exact hl,?_⟩;exact k M σ _ (S2.write E (L6 I) ⟨U,Y,_,Z,oC,p1,p2.ext (vc.write Q (L6 I))⟩) (L.ext (T.trans (R.trans (vc.write Q (L6 I))))) (T.trans (R.trans (vc.write Q (L6 I))))
    . cases e
   | _=>cases e
def nc (c:vQ X.prog X.w X.K X.mg X.base k n x F) (hr:Xi t X.A) (hk:k+1<=t) (hg:Gl X x) (ha:AM X (e::s) g) (P:autoParam ((x==("__debug__" :Str))=false) Ñ)
 (he:autoParam (ZA e=true) Æ) (hpl:autoParam (s.all ZA=true) Æ):EM X (.Call (.Name x p) (e::s) [] pos) (ZP x F g):=by
 unhygienic
  obtain⟨C,f,fd,ps,c1,c2,c3,c4,c5⟩:=c.ex;exact PE.imp (kq c2 c3 (hr.mono hk) hg c4 c5 .nil (E:=E0) jQ ha P (fB he _ _) (EI hpl)) fun σ H Q Y=>by
   obtain⟨W,l,h,d,h',S,L,e,k⟩:=Y;obtain⟨⟨B,J⟩,e1,e⟩:=nA e;obtain⟨⟨d2,h2⟩,e2,e⟩:=nA e;cases d2 with
   | non=>
    cases e;refine⟨W,l,h,B,J,S,L,e1,fun a Z I R1 R E1 xa q hx y O=>?_⟩;have S2:Ve X.K a J (pB I q (.own xa)):=R.fresh y;have r:pB I q (.own xa) xa=none:=by rw[XA (m8 O)];exact hx
    have S3:=S2.own (p:=xa) (o:=.ins C q []) (u:=.ins x []) r ⟨C,q,[],c1,oC,rfl,.nil⟩;have T:vc a (a.add xa) I (pB (pB I q (.own xa)) xa (.ins C q [])):=(vc.fresh y).trans (vc.own r);have D:(a.add xa).v[J.length]?=ε xa:=by simp[Rg.add,<- R.len]
    have R3:Ti X.K (pB (pB I q (.own xa)) xa (.ins C q [])) (a.add xa) (.ref J.length::B) (.ref xa::(Z++[])):=.cons (ad.mpr ⟨xa,rfl,D⟩) (by rw[Ui];exact R1.ext T);exact⟨a.add xa,_,_,.non,h2,S3,R3,c.len _ _ _ e2,e2,fun M v H' R' S' U=>⟨bv.mp R',k M _ H' (ad.mpr ⟨xa,rfl,U.get D⟩) S' (E1.trans (T.trans U))⟩⟩
   | _=>cases e
theorem fT(c:yH X.prog X.w X.K X.mg X.base k n x m F)(hr:Xi t X.A)(hk:k<=t)(ho:EM X o fo)(B:AM X (e::s) g)
 (he:autoParam (ZA e=true) Æ) (hpl:autoParam (s.all ZA=true) Æ)
 (ht:eval (.Call (.Attribute o m i) (e::s) [] pos) X.env=(do
  let ov <- eval o X.env
  standAt i.atName
  let (f,first) <- holding [ov] (getMethod ov m pl)
  callWith pos f first (backTo pos (starEach (e::s) X.env)) (backToKw pos (keywordEach [] X.env))):=by rfl):EM X (.Call (.Attribute o m i) (e::s) [] pos) (iJ x m F fo g):=by
 unhygienic
  obtain⟨C,f,fd,ps,c1,c2,c3,c4,c5⟩:=c.ex;exact PE.imp (ko (pl:=pl) ho c2 c3 c4 (hr.mono hk) c5 .nil (E:=E0) jQ B (fB he _ _) (EI hpl) ht) fun σ H Q Y=>by
   obtain⟨W,l,h,d,h',S,L,e,k⟩:=Y;obtain⟨⟨O,J⟩,e1,e⟩:=nA e;refine⟨W,l,h,O,J,S,L,e1,fun u v H1 R P U=>?_⟩;cases O with
   | ref nn=>
    dsimp only at e;split at e
    . rename_i y fs q;obtain⟨⟨hy,hl⟩,e3⟩:=HQ e;subst hy;obtain⟨⟨ds,I⟩,e2,M⟩:=nA e3;obtain⟨a,z,B⟩:=ad.mp R;obtain⟨C',dx,Z,D,g1,g2,g3⟩:=P.ob nn a _ B q;have cc:C'=C:=wo.inj D c1;subst cc;refine⟨a,dx,Z,z,g1,(QS g2 g3).2 hl,u,l,J,ds,I,P,L.ext U,e2,fun r us H2 R2 S2 T=>?_⟩;exact⟨r,_,I,d,h',S2,.cons (T3.ext T _ R) (by rw[Ui];exact R2),c.len _ _ _ M,M,(k.ext U).ext T⟩
    . cases e
   | _=>cases e
end
structure uQ(K:Frag)(x qual:Str)(st:Stmt)(dV:Value)(f:Addr)(fd:FuncData):Prop where
 ex:∃(oc:Value)(od:Option Addr)(kV doc pm:Value)(an:Option Addr)(cdv ct:Value)(osl:Array (Option Value)),
  fd=fnOf x qual (eE st) (MC st) (kB st) dV kV doc pm an cdv ct/\K.lookup f=ε ⟨oc,od,.func fd,osl⟩/\PySem.W.codeIn K cdv qual=true
 kp:keepIn K (.ref f)=true
section
variable{P:Pu}{w:Ri}{K:Pb}{mg:Str->Oo Oi}{base:Ru}
def nZ{st:Ra}{kV d g b ct:Oi}(l:K.lookup f=ε ⟨j,od,.func (fnOf x a (eE st) (MC st) (kB st) h kV d g i b ct),e⟩)
 (c:PySem.W.codeIn K b a=true) (k:keepIn K (.ref f)=true):uQ K x a st h f (fnOf x a (eE st) (MC st) (kB st) h kV d g i b ct):=⟨⟨j,od,kV,d,g,i,b,ct,e,rfl,l,c⟩,k⟩
theorem t9{st:Ra}(F:uQ K x a st J f n)(S:Yu N ps (kB st))
 (B:∀b A outer s H E,Xi k (A.deeper (envOfC a (kB st) s.heap.objs.size f b))->
  iI (YE TF P w K mg base N a (kB st) f b A outer s H E).nox (MC st) body):ab P w K mg base TF (k+1) f n ps (oJ K ps.length (IB ps.length N.length body)):=by
 unhygienic
  obtain⟨W,U,kV,I,T,an,b,ct,r,rfl,u,m⟩:=F.ex;refine W4 u m S (fun p H Q E h=>?_) fun A outer s H p Q E y h=>?_
  . obtain⟨j,ds,h,d,D,S,R,g,_⟩:=h;rw[R.length,g]
  . obtain⟨j,ds,h,d,D,S,R,g,e,k⟩:=h;refine⟨_,(B b A outer s H E y).nox,?_⟩;unfold IB at e;rw[dz g]at e;rw[<- g]at e;split at e
    . rename_i Z C q;cases e;exact⟨j,_,h,_,S,KO R,q,k⟩
    . rename_i Y C q;cases e;exact⟨j,_,h,_,S,KO R,q,fun i o M L L' O=>k i _ M (bv.mpr rfl) L O⟩
    . cases e
structure PK(K:Frag)(mg:Str->Option Value)(x:Str)(st:Stmt)(ps:List Str)(dds:List Dt):Prop where
 ex:∃dV f fd ds dvs,uQ K x x st dV f fd/\mg x=ε (.ref f)/\vt K fd ps ds/\va dvs ds/\∀H ρ,Ti K H ρ dds dvs
structure qJ(P:Program)(w:World)(K:Frag)(mg:Str->Option Value)(base:Heap)(k n:Nat)(x:Str)(F:oB)(dds:List Dt):Prop where
 ex:∃f fd ps ds dvs,ab P w K mg base TF k f fd ps (oJ K n F)/\mg x=ε (.ref f)/\keepIn K (.ref f)=true/\vt K fd ps ds/\va dvs ds/\∀H ρ,Ti K H ρ dds dvs
 len:∀ds h r,F ds h=ε r->ds.length=n
def yZ{st:Ra}(D:PK K mg x st ps dds)(S:Yu N ps (kB st))(i:ps.length=n)(j:N.length=m)
 (o:∀f a A outer s H E,Xi k (A.deeper (envOfC x (kB st) s.heap.objs.size f a))->
  iI (YE TF P w K mg base N x (kB st) f a A outer s H E).nox (MC st) body):qJ P w K mg base (k+1) n x (IB n m body) dds:=by
 unhygienic subst i j;obtain⟨C,f,B,ds,b,d,y,u,q,p⟩:=D.ex;exact⟨⟨f,B,ps,ds,b,t9 d S fun a A outer s H E g=>o f a A outer s H E g,y,d.kp,u,q,p⟩,fun ds h r e=>sP e⟩
end
section
variable{X:Cx}{k d n:Nat}{F:oB}{x:Str}{p pos:Pos}{e:Pa}{b:Oe Pa}{g:RA}{a:Oe Dt}
def xS (c:qJ X.prog X.w X.K X.mg X.base k n x F a) (j:Xi d X.A) (m:k<=d) (o:Gl X x) (s:AM X (e::b) g) (i:autoParam ((x==("__debug__" :Str))=false) Ñ)
 (he:autoParam (ZA e=true) Æ) (hpl:autoParam (b.all ZA=true) Æ) :
 EM X (.Call (.Name x p) (e::b) [] pos) (rA F a g):=by
 unhygienic obtain⟨f,J,I,ds,H,E,D,C,B,y,u⟩:=c.ex;exact VY E (j.mono m) o D C B y u s (fun L e ds h r q=>c.len ds h r (e ▸ q)) i he hpl
end
def eB(K:Pb)(x:Str)(st:Ra):Prop:=∃(f:O4)(g:Oi)(e:Oo O4)(kV dc d:Oi)(h:Oo O4)(a ct:Oi)(b:Rr (Oo Oi)),nsIn K mainGlobals x=ε (ε (.ref f))/\
 K.lookup f=ε ⟨g,e,.func (fnOf x x (eE st) (MC st) (kB st) .none kV dc d h a ct),b⟩/\PySem.W.codeIn K a x=true/\keepIn K (.ref f)=true
def QP(K:Pb)(x:Str)(st:Ra)(d:Int):Prop:=∃(f:O4)(j:Oi)(i:Oo O4)(a:O4)(kV dc h:Oi)(m:Oo O4)(e ct:Oi)(g:Rr (Oo Oi))(b:Obj)(t:Tok)(k:Nat),nsIn K mainGlobals x=ε (ε (.ref f))/\
 K.lookup f=ε ⟨j,i,.func (fnOf x x (eE st) (MC st) (kB st) (.ref a) kV dc h m e ct),g⟩/\PySem.W.codeIn K e x=true/\keepIn K (.ref f)=true/\K.lookup a=ε b/\b.data=.seq #[.int d t] k
def gN(K:Pb)(C:O4)(m a:Str)(st:Ra):Prop:=∃(f:O4)(h:Oi)(g:Oo O4)(kV dc e:Oi)(i:Oo O4)(b ct:Oi)(d:Rr (Oo Oi)),findIn K (.ref C) m=ε (ε (.ref f))/\PySem.W.isFn K (.ref f)=true/\
 K.lookup f=ε ⟨h,g,.func (fnOf m a (eE st) (MC st) (kB st) .none kV dc e i b ct),d⟩/\PySem.W.codeIn K b a=true/\keepIn K (.ref f)=true
structure rN(K:Frag)(x:Str)(C:Addr):Prop where
 ac:nsIn K mainGlobals x=ε (ε (.ref C))
 pg:PySem.W.plainGet K C Str.empty=true
 hd:PySem.W.hasDictIn K C=true
 po:PySem.W.plainOver K C=true
 sa:findIn K (.ref C) "__setattr__" =ε (ε (.builtin "object.__setattr__"))
 mkk:PySem.W.makesIn K C=true
 kc:keepIn K (.ref C)=true
section
variable{K:Pb}{h:Ru}{b:Str->Oo Oi}{x m qual:Str}{st:Ra}{ps:Oe Str}{C:O4}{d:Int}
def qP(X:K.In h)(G:h.Ns mainGlobals b)(D:eB K x st)(n:∀kV e i j g ct us,us.length=ps.length->bindArgs (fnOf x x (eE st) (MC st) (kB st) .none kV e i j g ct) ⟨us,[]⟩=pure (ps.zip us)):YT K b x st ps:=by obtain⟨f,q,p,kV,dc,i,j,r,ct,o,a,l,c,k⟩:=D;have F:=GP l c k;exact⟨⟨f,_,F,PySem.W.mg_of X G a,F.binds n⟩⟩
def ng(X:K.In h)(G:h.Ns mainGlobals b)(D:QP K x st d)(u:∀s e g t i kV j o p n ct us,us.length=ps.length->s.heap.get? e=ε g->g.data=.seq #[.int d t] i->BindsTo s (fnOf x x (eE st) (MC st) (kB st) (.ref e) kV j o p n ct) ⟨us,[]⟩ (ps.zip (us++[]))):PK K b x st ps []:=by obtain⟨f,F,E,e,kV,dc,o,p,H,ct,B,g,t,i,a,l,c,k,q,e2⟩:=D;exact⟨⟨_,f,_,[],[],nZ l c k,PySem.W.mg_of X G a,fun s us y r=>u s e g t i _ _ _ _ _ _ us (by simpa using r) (y _ _ q) e2,.nil,fun z z=>.nil⟩⟩
def nh(X:K.In h)(G:h.Ns mainGlobals b)(D:QP K x st d)(u:∀s e g t i kV j o p n ct us,us.length+1=ps.length->s.heap.get? e=ε g->g.data=.seq #[.int d t] i->BindsTo s (fnOf x x (eE st) (MC st) (kB st) (.ref e) kV j o p n ct) ⟨us,[]⟩ (ps.zip (us++[.int d t]))):PK K b x st ps [.int d]:=by obtain⟨f,F,E,e,kV,dc,o,p,H,ct,B,g,t,i,a,l,c,k,q,e2⟩:=D;exact⟨⟨_,f,_,[.int d t],[.int d],nZ l c k,PySem.W.mg_of X G a,fun s us y r=>u s e g t i _ _ _ _ _ _ us (by simpa using r) (y _ _ q) e2,.cons ⟨_,rfl⟩ .nil,fun z z=>.cons (Xa.mpr rfl) .nil⟩⟩
def BS(k:rN K x C)(D:gN K C m qual st)(p:∀kV e j o g ct us,us.length=ps.length->bindArgs (fnOf m qual (eE st) (MC st) (kB st) .none kV e j o g ct) ⟨us,[]⟩=pure (ps.zip us)):nT K x m qual st ps:=by obtain⟨f,s,r,kV,dc,j,o,u,ct,q,a,i,l,c,n⟩:=D;have F:=GP l c n;exact⟨⟨C,f,_,k.ac,⟨k.pg,k.hd,k.po,k.sa⟩,⟨a,i,n⟩,F,F.binds p⟩⟩
def Lb (X:K.In h) (G:h.Ns mainGlobals b) (k:rN K x C) (D:gN K C "__init__" qual st) (p:∀kV e j n g ct us,us.length=ps.length->bindArgs (fnOf "__init__" qual (eE st) (MC st) (kB st) .none kV e j n g ct) ⟨us,[]⟩=pure (ps.zip us)):X0 K b x qual st ps:=by obtain⟨f,s,r,kV,dc,j,n,u,ct,q,a,i,l,c,o⟩:=D;have F:=GP l c o;exact⟨⟨C,f,_,k.ac,⟨k.mkk,a,i,k.kc⟩,F,PySem.W.mg_of X G k.ac,F.binds p⟩⟩
def kH(k:rN K x C)(n:findIn K (.ref C) f=ε none):lT K x f:=⟨⟨C,k.ac,⟨k.pg,k.hd,k.po,k.sa⟩,n⟩⟩
end
section
variable{Q:Oe Oi->Prop}
def YK(h:Q []):∀a,a.length=0->Q a | [],_=>h
def GF(h:∀a b,b.length=n->Q (a::b)):∀b,b.length=n+1->Q b | a::b,e=>h a b (Nat.succ.inj e)
def len1(h:∀a,Q [a]):∀us,us.length=1->Q us:=GF fun a=>YK (h a)
def ZK(h:∀a b,Q [a,b]):∀us,us.length=2->Q us:=GF fun a=>GF fun b=>YK (h a b)
def zJ(h:∀a b c,Q [a,b,c]):∀us,us.length=3->Q us:=GF fun a=>GF fun b=>GF fun c=>YK (h a b c)
def EH(h:∀a b c d,Q [a,b,c,d]):∀us,us.length=4->Q us:=GF fun a=>GF fun b=>GF fun c=>GF fun d=>YK (h a b c d)
def IQ(h:∀a b c d e,Q [a,b,c,d,e]):∀us,us.length=5->Q us:=GF fun a=>EH (h a)
def L7(h:∀a b c d e f,Q [a,b,c,d,e,f]):∀us,us.length=6->Q us:=GF fun a=>IQ (h a)
def M7(e:m=n+1)(h:∀us,us.length=n->Q us):∀us,us.length+1=m->Q us:=fun us k=>h us (Nat.succ.inj (k.trans e))
end
def XG(a:autoParam (sc.kind=.function) þ)(b:autoParam (sc.isCoroutine=false) þ)(c:autoParam (sc.isGenerator=false) þ)(d:autoParam N.Nodup å)(e:autoParam (N.take P.length=P) þ)
 (f:autoParam (∀x∈P,sc.names.lookup x=ε .local\/sc.names.lookup x=ε .cell) å) (g:autoParam (∀y∈sc.names,y.2≠.free) å):Yu N P sc:=⟨a,b,c,d,e,f,g⟩
def DA (c:cC X.prog X.w X.K X.mg X.base k n x F) (d:Xi k' X.A) (i:AM X (e::b) g) (f:autoParam (k<=k') Ñ) (h:autoParam (Gl X x) þ) (a:autoParam ((x==("__debug__" :Str))=false) Ñ)
 (he:autoParam (ZA e=true) Æ) (hpl:autoParam (b.all ZA=true) Æ):EM X (.Call (.Name x p) (e::b) [] pos) (rA F [] g):=FE c d f h i a he hpl
end SM
namespace L2
theorem MZ:∀{bs:Oe Bool}{us:Oe Oi},va (bs.map V.bl) us->us=bs.map Value.bool
 | [],_,h=>by cases h;rfl
 | b::bs,_,h=>by
  cases h with
  | cons r a=>rw[MZ a];cases r;rfl
noncomputable def jz(K:Pb):V->Oe V->Hp->VK->Prop:=fun x d H Q=>∃(a:O4)(bs:Oe Bool)(b:Bool),x=.ref a/\d=[.bl b]/\vn K H a (bs.map V.bl)/\Q (.int ((bs.countP (· ==b):Nat):Int)) H
section
variable{X:Cx}
def Jd:i7 X "list.count" (jz X.K):=by
 intro f s E H x F v J Q I o r h;obtain⟨p,bs,b,rfl,rfl,sq,q⟩:=h;cases o;obtain⟨u,rfl,B⟩:=kF r;cases B;obtain⟨its,e,⟨⟨O,M,L,d⟩,n,m,j,i,g⟩,z⟩:=I.list sq;simp only at j i g;subst j i g;have k:=MZ e;refine call_meets PySem.F.slot_list_count ⟨_,m,rfl⟩ PySem.F.entry_list_count (PySem.F.args_list_count_2 _ _) (SeqAt.list_countAt p its.toArray n none d (.bool b) (isBoolOf b)) ⟨m,fun y C=>?_,?_⟩
 . have a:y∈its:=by simpa using C
   rw[k]at a;obtain⟨c,_,rfl⟩:=Bs.mp a;exact SeqAt.EqAt.bool_bool c b
 . have D:its.toArray.toList.countP (isBoolOf b)=bs.countP (· ==b):=by rw[show its.toArray.toList=its from rfl,k,countP_map];rfl
   rw[D];exact⟨.int _,H,I.tok _,⟨_,rfl⟩,q⟩
end
end L2
namespace SM
def rP(fa fb:RE):RE:=fun l h=>(fa l h).bind fun r=>(fb l r.2).bind fun q=>match r.1,q.1 with
 | .lst xs,.bl b=>(kE xs).bind fun bs=>ε (.int ((bs.countP (· ==b):Nat):Int),q.2)
 | _,_=>none
section
variable{X:Cx}{a b:Pa}{fa fb:RE}
def gY (E:EM X a fa) (F:EM X b fb) (j:autoParam (attributeBase a "count" X.env (eval a X.env)=eval a X.env) Æ)
 (i:autoParam ((g.endLine==f.line)=true) Æ) (hs:autoParam (ZA b=true) Æ) :
 EM X (.Call (.Attribute a "count" g) [b] [] f) (rP fa fb):=by
 unhygienic
  exact PE.imp (bN PySem.F.plainAttrs_list PySem.F.slot_list_count PySem.F.type_list_count Jd E (mC F cD (fB hs _ _)) j (zM hs) i (fB hs _ _)) fun W H Q C=>by
   obtain⟨B,l,h,d,Z,S,L,e,k⟩:=C;obtain⟨⟨r,p⟩,M,e⟩:=nA e;obtain⟨⟨O,I⟩,e2,e⟩:=nA e;refine⟨B,l,h,r,p,S,L,M,fun n v H1 T R u=>?_⟩;cases r with
   | lst Y=>
    cases O with
    | bl b=>obtain⟨bs,q,e⟩:=nA e;cases e;obtain⟨x,D,z,t,o⟩:=br.mp T;subst z;refine⟨.inl ⟨rfl,D,t.sq⟩,n,l,p,.bl b,I,R,L.ext u,e2,fun m y U R2 P s=>?_⟩;rw[dP q]at o;have J:=o.gf;rw[J]at t;exact⟨x,bs,b,rfl,by rw[Za.mp R2],(t.same s.same).sq,k m _ U (Xa.mpr rfl) P (u.trans s)⟩
    | _=>cases e
   | _=>cases e
end
def X9{K:Pb}{st:Ra}(D:YT K mg x st ps):cC P w K mg base k n x (fun z z=>none):=by
 unhygienic
  obtain⟨f,p,j,i,m⟩:=D.ex;refine⟨⟨f,p,ps,⟨fun g H Q E h=>?_,fun A outer s H a q g Q E y B C u h=>?_⟩,i,j.kp,m⟩,fun ds h r e=>by cases e⟩
  . obtain⟨b,ds,h,d,o,_,_,_,e,_⟩:=h;cases e
  . obtain⟨b,ds,h,d,o,_,_,_,e,_⟩:=h;cases e
end SM
namespace L2
section
variable{X:Cx}
end
end L2
namespace SM
noncomputable def gB{a β:Type}(o:Oo a)(f:a->Oo β):Oo β:=o.bind f
@[simp] def eA{b d:Type}(a:b)(f:b->Oo d):gB (ε a) f=f a:=by rfl
@[simp] def tw{b a:Type}(f:b->Oo a):gB none f=none:=by rfl
@[simp] def tx{d e:Type}{c:Prop}[Decidable c](a b:Oo d)(k:d->Oo e):gB (if c then a else b) k=if c then gB a k else gB b k:=by split<;>rfl
section
variable{l:LI}{h:HI}{f g fa fb m:RE}
@[simp] def qA(d:Dt):eC d l h=ε (d,h):=by rfl
noncomputable def nI(h:HI):Oo (Oo Dt)->Oo (Dt×HI)
 | some (some d)=>ε (d,h)
 | _=>none
@[simp] def iA(d:Dt):nI h (ε (ε d))=ε (d,h):=by rfl
@[simp] def gA(i:Nat):eV i l h=nI h l[i]?:=by unfold eV nI;rfl
@[simp] def sA(op:qD):e2 op fa fb l h=gB (fa l h) fun r=>gB (fb l r.2) fun q=>op r.1 q.1 q.2:=by rfl
@[simp] def zA:dA l h=ε ([],h):=by rfl
@[simp] def AA(r:RA):bA f r l h=gB (f l h) fun a=>gB (r l a.2) fun q=>ε (a.1::q.1,q.2):=by rfl
noncomputable def X6:Dt×HI->Oo (Bool×HI)
 | (.bl b,h)=>ε (b,h)
 | _=>none
@[simp] def JA(b:Bool):X6 (.bl b,h)=ε (b,h):=by rfl
@[simp] def HA:vi f l h=gB (f l h) X6:=by
 unfold gB;unfold vi
 congr 1
 funext r
 obtain⟨d,h⟩:=r;cases d<;>rfl
@[simp] def qG(t u:RT):tH t u l h=gB (t l h) fun r=>if r.1=true then u l r.2 else ε (false,r.2):=by rfl
@[simp] def ID(t u:RT):yC t u l h=gB (t l h) fun r=>if r.1=true then ε (true,r.2)else u l r.2:=by rfl
@[simp] def yF(t:RT):qE t l h=gB (t l h) fun r=>ε (!r.1,r.2):=by rfl
noncomputable def n6(u:RE)(l:LI):Dt×HI->Oo (Dt×HI)
 | (.bl true,h)=>u l h
 | (.bl false,h)=>ε (.bl false,h)
 | _=>none
@[simp] def FI(u:RE)(b:Bool):n6 u l (.bl b,h)=if b=true then u l h else ε (.bl false,h):=by cases b<;>rfl
@[simp] theorem XI(u:RE):ZD f u l h=gB (f l h) (n6 u l):=by
 unfold gB;unfold ZD
 congr 1
 funext r
 obtain⟨d,h⟩:=r;cases d<;>(try rfl);rename_i b;cases b<;>rfl
noncomputable def o6:Dt×HI->Oo (Dt×HI)
 | (.bl b,h)=>ε (.bl (!b),h)
 | _=>none
@[simp] def tz(b:Bool):o6 (.bl b,h)=ε (.bl (!b),h):=by rfl
@[simp] def tA:JN f l h=gB (f l h) o6:=by
 unfold gB;unfold JN
 congr 1
 funext r
 obtain⟨d,h⟩:=r;cases d<;>rfl
@[simp] def EK(t:RT):WQ t f g l h=gB (t l h) fun r=>if r.1=true then f l r.2 else g l r.2:=by rfl
noncomputable def chK(a:qD)(m:RE)(l:LI)(q:Dt):Dt×HI->Oo (Dt×HI)
 | (.bl true,h)=>(m l h).bind fun r=>a q r.1 r.2
 | (.bl false,h)=>ε (.bl false,h)
 | _=>none
@[simp] def t0(a:qD)(q:Dt)(b:Bool):chK a m l q (.bl b,h)=if b=true then gB (m l h) fun r=>a q r.1 r.2 else ε (.bl false,h):=by cases b<;>rfl
@[simp] theorem t4(o a:qD):LM o a fa fb m l h=gB (fa l h) fun r=>gB (fb l r.2) fun q=>gB (o r.1 q.1 q.2) (chK a m l q.1):=by
 unfold gB;unfold LM
 congr 1
 funext r
 congr 1
 funext q
 congr 1
 funext z
 obtain⟨d,h⟩:=z;cases d<;>(try rfl);rename_i b;cases b<;>rfl
@[simp] def ED(r:RA):SA r l h=gB (r l h) fun r=>if r.1.length<=sizeLine then ε (.tup r.1,r.2)else none:=by rfl
@[simp] def pG(r:RA):DC r l h=gB (r l h) fun r=>if r.1.length<=sizeLine then ε (.lst r.1,r.2)else none:=by rfl
@[simp] def WI(r:RA):nF r l h=gB (r l h) fun r=>if r.1.length<=sizeLine then ε (.ref r.2.length,r.2++[.lst r.1])else none:=by rfl
noncomputable def SU:Dt×HI->Oo (Dt×HI)
 | (.int b,h)=>ε (.int (-b),h)
 | _=>none
@[simp] def NO(b:Int):SU (.int b,h)=ε (.int (-b),h):=by rfl
@[simp] def mQ:fD f l h=gB (f l h) SU:=by
 unfold gB;unfold fD
 congr 1
 funext r
 obtain⟨d,h⟩:=r;cases d<;>rfl
@[simp] def UE(i j:Int):dC (.int i) (.int j) h=ε (.int (i+j),h):=by rfl
@[simp] def DK(i j:Int):zE (.int i) (.int j) h=ε (.int (i-j),h):=by rfl
@[simp] def VI(i j:Int):KG (.int i) (.int j) h=ε (.int (Builtin.bitAnd i j),h):=by rfl
@[simp] def t5(i j:Int):NQ (.int i) (.int j) h=ε (.int (Builtin.bitOr i j),h):=by rfl
@[simp] def lU(i j:Int):aL (.int i) (.int j) h=ε (.int (Builtin.bitXor i j),h):=by rfl
@[simp] def CJ(i j:Int):tI (.int i) (.int j) h=ε (.bl (decide (i<j)),h):=by rfl
@[simp] def S7(i j:Int):N6 (.int i) (.int j) h=ε (.bl (decide (i<=j)),h):=by rfl
@[simp] def BJ(i j:Int):OQ (.int i) (.int j) h=ε (.bl (decide (j<i)),h):=by rfl
@[simp] def PQ(i j:Int):DU (.int i) (.int j) h=ε (.bl (decide (j<=i)),h):=by rfl
def sG(c:de i j):KC (.int i) (.int j) h=ε (.int (i*j),h):=by simp![KC,oI,dz c]
def CK(c:OK i j):HF (.int i) (.int j) h=ε (.int (i/j),h):=by simp![HF,oI,dz c]
def nE(c:0<j):aD (.int i) (.int j) h=ε (.int (i%j),h):=by simp![aD,oI,dz c]
def XM(c:pJ i j):GH (.int i) (.int j) h=ε (.int (i*2^j.toNat),h):=by simp![GH,oI,dz c]
def iQ(c:0<=j):uI (.int i) (.int j) h=ε (.int (i/2^j.toNat),h):=by simp![uI,oI,dz c]
@[simp] def JD(i j:Int):mB (.int i) (.int j) h=ε (.bl (decide (i=j)),h):=by show ε (Dt.bl (decide (V.int i=V.int j)),h)=_;simp
@[simp] def oF(i j:Int):rD (.int i) (.int j) h=ε (.bl (!decide (i=j)),h):=by show ε (Dt.bl (!decide (V.int i=V.int j)),h)=_;simp
@[simp] def jF(i j:Str):mB (.str i) (.str j) h=ε (.bl (decide (i=j)),h):=by show ε (Dt.bl (decide (V.str i=V.str j)),h)=_;simp
@[simp] def gQ(i j:Str):rD (.str i) (.str j) h=ε (.bl (!decide (i=j)),h):=by show ε (Dt.bl (!decide (V.str i=V.str j)),h)=_;simp
@[simp] def Y4(d:Dt):yE d .non h=ε (.bl (lJ d),h):=by rfl
@[simp] def BD{a:Type}(xs:Oe a)(k:Nat):atI xs (k:Int)=xs[k]?:=by
 unfold atI sI;rw[dz nofun];by_cases b:k<xs.length
 . rw[dz nofun];simp
 . rw[eG nofun];simp;omega
@[simp] def BC{a:Type}(xs:Oe a):atI xs 0=xs[0]?:=BD xs 0
@[simp] def SF{a:Type}(xs:Oe a):atI xs 1=xs[1]?:=BD xs 1
@[simp] def iN{a:Type}(xs:Oe a):atI xs 2=xs[2]?:=BD xs 2
@[simp] def XB(xs:Oe Dt)(i:Int):kA (.tup xs) (.int i) h=(atI xs i).map fun d=>(d,h):=by rfl
@[simp] def fJ(xs:Oe Dt)(i:Int):kA (.lst xs) (.int i) h=(atI xs i).map fun d=>(d,h):=by rfl
def AF(e:h[n]?=ε (.lst xs))(i):kA (.ref n) (.int i) h=(atI xs i).map fun d=>(d,h):=by simp![kA,sD,BA,e,Wi]
noncomputable def e8(g:RS):Rs->Oo Rs
 | .nx l h=>g l h
 | r=>ε r
@[simp] def UA(g:RS):e8 g (.nx l h)=g l h:=by rfl
@[simp] def FD(g:RS)(d:Dt):e8 g (.rt d h)=ε (.rt d h):=by rfl
@[simp] def NA(f g:RS):jA f g l h=gB (f l h) (e8 g):=by
 unfold gB;unfold jA
 congr 1
@[simp] def GC:VA l h=ε (.nx l h):=by rfl
@[simp] def HB(i:Nat):CA i f l h=gB (f l h) fun r=>ε (.nx (l.set i (ε r.1)) r.2):=by rfl
@[simp] def gF:yD f l h=gB (f l h) fun r=>ε (.nx l r.2):=by rfl
@[simp] def cB:wA f l h=gB (f l h) fun r=>ε (.rt r.1 r.2):=by rfl
@[simp] def xB(t:RT)(f g:RS):WB t f g l h=gB (t l h) fun r=>if r.1=true then f l r.2 else g l r.2:=by rfl
noncomputable def QC:Oo Rs->Oo (Dt×HI)
 | some (.rt d h')=>ε (d,h')
 | some (.nx _ h')=>ε (.non,h')
 | _=>none
@[simp] def rB(d:Dt):QC (ε (.rt d h))=ε (d,h):=by rfl
@[simp] def nt:QC (ε (.nx l h))=ε (.non,h):=by rfl
@[simp] def ua{c:Prop}[Decidable c](a b:Oo Rs):QC (if c then a else b)=if c then QC a else QC b:=by split<;>rfl
@[simp] def nB(n N:Nat)(body:RS)(ds:Oe Dt):IB n N body ds h=if ds.length=n then QC (body (ds.map some++List.replicate (N-n) none) h)else none:=by unfold IB QC;rfl
@[simp] def FA(F:oB)(a:Oe Dt)(g:RA):rA F a g l h=gB (g l h) fun r=>F (r.1++a) r.2:=by rfl
@[simp] def nv(F:oB)(a:Oe Dt):OP F a l h=F a h:=by rfl
noncomputable def FU(go:LI->HI->Oo Rs):Rs->Oo Rs
 | .nx l h=>go l h
 | .ct l h=>go l h
 | .bk l h=>ε (.nx l h)
 | .rt d h=>ε (.rt d h)
@[simp] def L3(go:LI->HI->Oo Rs):FU go (.nx l h)=go l h:=by rfl
@[simp] def ub(go:LI->HI->Oo Rs):FU go (.ct l h)=go l h:=by rfl
@[simp] def OT(go:LI->HI->Oo Rs)(d:Dt):FU go (.rt d h)=ε (.rt d h):=by rfl
def JB(a:RG)(body:RS):Oe Dt->LI->HI->Oo Rs
 | [],l,h=>ε (.nx l h)
 | x::xs,l,h=>(a x l).bind fun b=>(body b h).bind (FU (JB a body xs))
def Zt(j)(body)(xs):∀n k l h,n=(xs.length-k)+1->k<=xs.length->BB j body (.vals xs) n k l h=JB j body (xs.drop k) l h:=by
 intro n
 induction n with
 | zero=>intro k l h e;omega
 | succ n ih=>
  intro k l h e o;unfold BB;simp![vj.at];by_cases i:k<xs.length
  . rw[ji i,zu i];simp![JB]
    congr 1
    funext l1
    congr 1
    funext r
    cases r with
    | nx b a=>exact ih (k+1) b a nofun nofun
    | ct b a=>exact ih (k+1) b a nofun nofun
    | bk b a=>rfl
    | rt d a=>rfl
  . rw[ju nofun,Nu nofun];rfl
@[simp] def WD(i:Nat)(d:Dt):uA i d l=ε (l.set i (ε d)):=by rfl
def wD(a:RG)(body:RS)(l:LI):vj×HI->Oo Rs:=fun r=>BB a body r.1 (r.1.fuel r.2) 0 l r.2
@[simp] def FC(g:RI)(a:RG)(body:RS):jC g a body l h=gB (g l h) (wD a body l):=by rfl
@[simp] def cE(a:RG)(body:RS)(xs:Oe Dt):wD a body l (.vals xs,h)=JB a body xs l h:=by unfold wD;simp![vj.fuel];exact Zt a body xs _ 0 _ _ nofun nofun
noncomputable def V6:Dt×HI->Oo (vj×HI)
 | (.int j,h)=>if -(2^62)<=j/\j<2^62 then ε (.vals ((List.range j.toNat).map fun(k:Nat)=>Dt.int (k:Int)),h)else none
 | _=>none
@[simp] def rH:uH f l h=gB (f l h) V6:=by
 unfold gB;unfold uH
 congr 1
 funext r
 obtain⟨d,h⟩:=r;cases d<;>rfl
def MF(a:-(2^62)<=j)(b:j<2^62):V6 (.int j,h)=ε (.vals ((List.range j.toNat).map fun(k:Nat)=>Dt.int (k:Int)),h):=dz ⟨a,b⟩
noncomputable def r2K:Dt->Dt×HI->Oo (vj×HI)
 | .int i,(.int j,h)=>if -(2^62)<=i/\i<2^62/\-(2^62)<=j/\j<2^62 then ε (.vals ((List.range (j-i).toNat).map fun(k:Nat)=>Dt.int (i+(k:Int))),h)else none
 | _,_=>none
@[simp] def P5:OU f g l h=gB (f l h) fun r=>gB (g l r.2) (r2K r.1):=by
 unfold gB;unfold OU
 congr 1
 funext r
 obtain⟨d,h⟩:=r
 congr 1
 funext q
 obtain⟨a,b⟩:=q;cases d<;>cases a<;>rfl
def D0(a:-(2^62)<=i)(e:i<2^62)(b:-(2^62)<=j)(d:j<2^62):r2K (.int i) (.int j,h)=ε (.vals ((List.range (j-i).toNat).map fun(k:Nat)=>Dt.int (i+(k:Int))),h):=dz ⟨a,e,b,d⟩
def HH:Dt×HI->Oo (vj×HI)
 | (.lst xs,h)=>ε (.vals xs,h)
 | (.ref n,h)=>if 0<vj.fuel (.rf n) h then ε (.rf n,h)else none
 | _=>none
@[simp] def sF(xs:Oe Dt):HH (.lst xs,h)=ε (.vals xs,h):=by rfl
@[simp] def iC:FB f l h=gB (f l h) HH:=by
 unfold gB;unfold FB PU;cases f l h with
 | none=>rfl
 | some r=>obtain⟨d,h⟩:=r;cases d<;>first | rfl | (simp[HH,vj.fuel];done)
noncomputable def lV:Dt×HI->Oo (vj×HI)
 | (.tup xs,h)=>ε (.vals xs,h)
 | _=>none
@[simp] def Ym(xs:Oe Dt):lV (.tup xs,h)=ε (.vals xs,h):=by rfl
@[simp] def nw:fQ f l h=gB (f l h) lV:=by
 unfold gB;unfold fQ
 congr 1
 funext r
 obtain⟨d,h⟩:=r;cases d<;>rfl
noncomputable def CD(d:RG)(tc:RT)(te:RE):Oe Dt->LI->HI->Oo (Oe Dt×HI)
 | [],_,h=>ε ([],h)
 | x::xs,l,h=>(d x l).bind fun a=>(tc a h).bind fun b=>if b.1=true then(te a b.2).bind fun r=>(CD d tc te xs a r.2).bind fun q=>ε (r.1::q.1,q.2)
  else CD d tc te xs a b.2
def Sg(d)(tc)(te)(xs)(p:xs.length<sizeLine):∀n k l h ys,n=(xs.length-k)+1->k<=xs.length->ys.length<=k->
 xD d tc te (.vals xs) n k l h ys=(CD d tc te (xs.drop k) l h).bind fun q=>ε (ys++q.1,q.2):=by
 intro n
 induction n with
 | zero=>intro k l h ys e;omega
 | succ n ih=>
  intro k l h ys e s o;unfold xD;simp![vj.at];by_cases i:k<xs.length
  . rw[ji i,zu i];simp![CD];cases d xs[k] l with
    | none=>rfl
    | some a=>
     simp![Wi];cases tc a h with
     | none=>rfl
     | some b=>
      simp![Wi];by_cases j:b.1=true
      . simp![dz j];cases te a b.2 with
        | none=>rfl
        | some r=>
         simp![Wi];rw[dz nofun,ih (k+1) a r.2 _ nofun nofun (by simp;omega)];cases CD d tc te (xs.drop (k+1)) a r.2 with
         | none=>rfl
         | some q=>simp
      . simp![eG j];exact ih (k+1) a b.2 ys nofun nofun nofun
  . rw[ju nofun,Nu nofun];simp[CD]
def SD(a:RG)(tc:RT)(te:RE)(l:LI):vj×HI->Oo (Oe Dt×HI):=fun r=>xD a tc te r.1 (r.1.fuel r.2) 0 l r.2 []
def MD(a)(tc)(te)(b:xs.length<sizeLine):SD a tc te l (.vals xs,h)=CD a tc te xs l h:=by unfold SD;simp![vj.fuel];rw[Sg a tc te xs b _ 0 _ _ _ nofun nofun ⋯];rw[drop_zero];cases CD a tc te xs l h<;>simp
@[simp] def GD(g:RI)(b:RG)(tc:RT)(te:RE)(a:Oe (Oo Nat)):lC g b tc te a l h=gB (gB (g l h) (SD b tc te (mF l a))) fun q=>ε (.lst q.1,q.2):=by unfold gB;unfold lC SD;rw[Option.bind_assoc]
@[simp] def OO(g:RI)(b:RG)(tc:RT)(te:RE)(a:Oe (Oo Nat)):PF g b tc te a l h=gB (gB (g l h) (SD b tc te (mF l a))) fun q=>ε (.ref q.2.length,q.2++[.lst q.1]):=by unfold gB;unfold PF SD;rw[Option.bind_assoc]
@[simp] def qM:aB l h=ε (true,h):=by rfl
@[simp] def gD:mF l []=[]:=by rfl
@[simp] def jD(cap:Oe (Oo Nat)):mF l (none::cap)=none::mF l cap:=by rfl
@[simp] def bF(j:Nat)(cap:Oe (Oo Nat)):mF l (ε j::cap)=(l[j]?).join::mF l cap:=by rfl
theorem fP{a:Type}(D:a->Dt)(p)(F:a->Dt)(h):∀(xs:Oe a)(l:LI),(∀x∈xs,tc (l.set i (ε (D x))) h=ε (p x,h)/\(p x=true->te (l.set i (ε (D x))) h=ε (F x,h)))->
 CD (uA i) tc te (xs.map D) l h=ε ((xs.filter p).map F,h)
 | [],_,_=>rfl
 | x::xs,l,H=>by
  have b:=H x ⋯;have ih:=fP D p F h xs (l.set i (ε (D x))) (te:=te) (tc:=tc) (i:=i) (fun y d=>by
   rw[set_set];exact H y (by simp[d]))
  simp![Uo,CD,WD,Wi,b.1];by_cases hp:p x=true
  . simp![hp,eH,b.2 hp,Wi,ih];simp[hp]
  . simp![hp];rw[eG ⋯,ih];simp[hp]
def uF{a:Type}(D:a->Dt)(F:a->Dt)(h)(xs:Oe a)(l)(H:∀x∈xs,tc (l.set i (ε (D x))) h=ε (true,h)/\te (l.set i (ε (D x))) h=ε (F x,h)) :
 CD (uA i) tc te (xs.map D) l h=ε (xs.map F,h):=by
 rw[fP D (fun q=>true) F h xs l fun x b=>⟨(H x b).1,fun q=>(H x b).2⟩,filter_eq_self.mpr ⋯]
@[simp] def RB(F:Dt->HI->Oo (Dt×HI)):VB F f l h=gB (f l h) fun r=>F r.1 r.2:=by rfl
@[simp] def PM(xs:Oe Dt):yB (.lst xs) h=ε (.int xs.length,h):=by rfl
@[simp] def j9(xs:Oe Dt):yB (.tup xs) h=ε (.int xs.length,h):=by rfl
def bJ(e:h[n]?=ε (.lst xs)):yB (.ref n) h=ε (.int xs.length,h):=by simp![yB,sD,BA,e,Vs]
@[simp] def Nb(ns:Oe Int):TB (ns.map Dt.int)=ε ns:=by
 induction ns with
 | nil=>rfl
 | cons n ns ih=>simp[TB,ih]
def V4(ns:Oe Int):yJ (.lst (ns.map Dt.int)) h=ε (.int ns.sum,h):=by simp[yJ,BA]
def Rz(c:ns ≠ []):UK (.lst (ns.map Dt.int)) h=ε (.int (wC ns),h):=by simp[UK,BA,c]
def P4(c:ns ≠ []):xJ (.lst (ns.map Dt.int)) h=ε (.int (NB ns),h):=by simp[xJ,BA,c]
@[simp] def lQ(T:String):VG T f l h=gB (f l h) fun r=>(yG r.2 r.1).map fun t=>(.bl (ZF t T),r.2):=by rfl
@[simp] def ue (b:Int):yG h (.int b)=ε "int" :=by rfl
@[simp] def ui:ZF "int" "int" =true:=by decide +kernel
@[simp] def uj:ZF "int" "bool" =false:=by decide +kernel
@[simp] def tU:qN l h=ε (none,h):=by rfl
noncomputable def atK:Dt×HI->Oo (Oo Int×HI)
 | (.int i,h)=>ε (ε i,h)
 | _=>none
@[simp] def ZS(i:Int):atK (.int i,h)=ε (ε i,h):=by rfl
@[simp] def sU:pF f l h=gB (f l h) atK:=by
 unfold gB;unfold pF
 congr 1
 funext r
 obtain⟨d,h⟩:=r;cases d<;>rfl
@[simp] def qU(lo a:RO):JK f lo a l h=gB (f l h) fun r=>gB (lo l r.2) fun o=>gB (a l o.2) fun u=>(BA u.2 r.1).map fun b=>(.lst (XE b o.1 u.1),u.2):=by rfl
@[simp] def jH(xs:Oe Dt):BA h (.lst xs)=ε xs:=by rfl
def jG(e:h[n]?=ε (.lst xs)):BA h (.ref n)=ε xs:=by simp![BA,e]
def vS(xs)(k:Nat):XE xs (ε (k:Int)) none=xs.drop k:=by
 unfold XE HT.sIx;have e:(if(k:Int)<0 then((k:Int)+(xs.length:Int)).toNat else min (k:Int).toNat xs.length)=min k xs.length:=by rw[eG nofun,ni]
 simp![e];rw[Ka (by rw[length_drop];omega)];by_cases a:k<=xs.length
 . rw[Nat.min_eq_left a]
 . rw[Nat.min_eq_right nofun,Nu (Us _),Nu nofun]
def Hx(c:xs.length+ys.length<=sizeLine):wG (.lst xs) (.lst ys) h=ε (.lst (xs++ys),h):=by simp![wG,BA,Wi,dz c]
def QU(q:Dt×HI):Dt->Oo (Dt×HI)
 | .lst a=>if kJ a q.1=true then(DF a q.1).map fun j=>(.int (j:Nat),q.2)else none
 | _=>none
@[simp] def Ib(q:Dt×HI)(xs:Oe Dt):QU q (.lst xs)=if kJ xs q.1=true then(DF xs q.1).map fun j=>(.int (j:Nat),q.2)else none:=by rfl
@[simp] def Wj:WP f g l h=gB (f l h) fun r=>gB (g l r.2) fun q=>QU q r.1:=by
 unfold gB;unfold WP
 congr 1
@[simp] def UO:sizeLine=16777216:=by rfl
noncomputable def uN(g:RE)(l:LI):Dt×HI->Oo (Dt×HI)
 | (.ref n,h)=>(match h[n]? with
  | some (.lst _)=>(g l h).bind fun q=>match q.2[n]? with
   | some (.lst xs)=>if xs.length<sizeLine then ε (.non,q.2.set n (.lst (xs++[q.1])))else none
   | _=>none
  | _=>none)
 | _=>none
@[simp] def iG:PD f g l h=gB (f l h) (uN g l):=by
 unfold gB;unfold PD
 congr 1
 funext r
 obtain⟨d,h⟩:=r;cases d<;>(try rfl)
def fG(e:h[n]?=ε (.lst ys))(a:g l h=ε (d,h'))(b:h'[n]?=ε (.lst xs))(c:xs.length<sizeLine):uN g l (.ref n,h)=ε (.non,h'.set n (.lst (xs++[d]))):=by simp![uN,e,a,Wi,b,dz c]
end
noncomputable def Pass(I:LI->HI->Prop):Rs->Prop
 | .nx l h=>I l h
 | .ct l h=>I l h
 | _=>False
def Dl{m:Type}(D:m->Dt)(I:LI->HI->Prop)(xs:Oe m)(H:∀x∈xs,∀l h,I l h->∃r,body (l.set i (ε (D x))) h=ε r/\Pass I r) :
 ∀l h,I l h->∃a h',JB (uA i) body (xs.map D) l h=ε (.nx a h')/\I a h':=by
 induction xs with
 | nil=>intro l h i;exact⟨l,h,rfl,i⟩
 | cons x xs ih=>
  intro l h i;obtain⟨r,e,p⟩:=H x ⋯ l h i;cases r with
  | nx f b=>obtain⟨a,h',k,g⟩:=ih (fun y j=>H y (by simp[j])) f b p;exact⟨a,h',by simp[JB,e,k],g⟩
  | ct f b=>obtain⟨a,h',k,g⟩:=ih (fun y j=>H y (by simp[j])) f b p;exact⟨a,h',by simp[JB,e,k],g⟩
  | bk f b=>exact p.elim
  | rt d b=>exact p.elim
def iX{m k:Type}(D:m->Dt)(S:k->LI->HI->Prop)(f:k->m->k)(xs:Oe m)(H:∀x∈xs,∀b l h,S b l h->∃r,body (l.set i (ε (D x))) h=ε r/\Pass (S (f b x)) r) :
 ∀b l h,S b l h->∃a h',JB (uA i) body (xs.map D) l h=ε (.nx a h')/\S (xs.foldl f b) a h':=by
 induction xs with
 | nil=>intro b l h i;exact⟨l,h,rfl,i⟩
 | cons x xs ih=>
  intro b l h i;obtain⟨r,e,p⟩:=H x ⋯ b l h i;cases r with
  | nx j g=>obtain⟨a,h',q,n⟩:=ih (fun y o=>H y (by simp[o])) _ j g p;exact⟨a,h',by simp[JB,e,q],n⟩
  | ct j g=>obtain⟨a,h',q,n⟩:=ih (fun y o=>H y (by simp[o])) _ j g p;exact⟨a,h',by simp[JB,e,q],n⟩
  | bk j g=>exact p.elim
  | rt d g=>exact p.elim
section
variable{l:LI}{h:HI}{f g:RE}
@[simp] def uk(bs:Oe Bool):kE (bs.map Dt.bl)=ε bs:=by
 induction bs with
 | nil=>rfl
 | cons n ns ih=>simp[kE,ih]
def N4(bs:Oe Bool):AH (.lst (bs.map Dt.bl)) h=ε (.bl (bs.all id),h):=by simp[AH,BA]
@[simp] def gK(i j:Nat)(a b:Dt):OC i j (.tup [a,b]) l=ε ((l.set i (ε a)).set j (ε b)):=by rfl
end
def LD(e:h[n]?=ε (.lst xs)):HH (.ref n,h)=ε (.rf n,h):=by
 have:0<vj.fuel (.rf n) h:=by simp![vj.fuel,e];omega
 simp![HH,dz this]
section
variable{l:LI}{h:HI}{f g fe fo b fa fb:RE}
def SQ(l:LI)(v o:Dt):Dt×HI->Oo Rs
 | (.int k,h)=>(match o with
  | .ref n=>(match h[n]? with
   | some (.lst xs)=>(sI xs.length k).bind fun j=>ε (.nx l (h.set n (.lst (xs.set j v))))
   | _=>none)
  | _=>none)
 | _=>none
@[simp] def C0:dJ fe fo b l h=gB (fe l h) fun v=>gB (fo l v.2) fun o=>gB (b l o.2) (SQ l v.1 o.1):=by
 unfold gB dJ
 congr 1
 funext v
 congr 1
 funext o
 congr 1
 funext i
 obtain⟨d,h⟩:=o;obtain⟨k,h⟩:=i;cases k<;>cases d<;>rfl
def ny(a:k<n):sI n (k:Int)=ε k:=by unfold sI;rw[dz nofun,dz nofun];simp
def SO{n k:Nat}(e:h[n]?=ε (.lst xs))(a:k<xs.length):SQ l v (.ref n) (.int (k:Int),h)=ε (.nx l (h.set n (.lst (xs.set k v)))):=by simp![SQ,e,ny a,Wi]
@[simp] def pU(t:RG):FJ t fe l h=gB (fe l h) fun v=>gB (t v.1 l) fun a=>ε (.nx a v.2):=by rfl
def RQ(a:Dt):Dt×HI->Oo (Dt×HI)
 | (.int i,h)=>if -(2^62)<=i/\i<=1000000 then ε (.lst (YG a i),h)else none
 | _=>none
def uU(a:Dt):Dt×HI->Oo (Dt×HI)
 | (.int i,h)=>if -(2^62)<=i/\i<=1000000 then ε (.ref h.length,h++[.lst (YG a i)])else none
 | _=>none
@[simp] def ul:wJ fa fb l h=gB (fa l h) fun a=>gB (fb l a.2) (RQ a.1):=by
 unfold gB wJ
 congr 1
 funext v
 congr 1
 funext o
 obtain⟨d,h⟩:=o;cases d<;>rfl
@[simp] def ut:zK fa fb l h=gB (fa l h) fun a=>gB (fb l a.2) (uU a.1):=by
 unfold gB zK
 congr 1
 funext v
 congr 1
 funext o
 obtain⟨d,h⟩:=o;cases d<;>rfl
def SY(a){k:Nat}(d:k<=1000000):RQ a (.int (k:Int),h)=ε (.lst (List.replicate k a),h):=by unfold RQ;simp only;rw[dz ⟨by omega,by omega⟩];simp[YG]
def uX(a){k:Nat}(d:k<=1000000):uU a (.int (k:Int),h)=ε (.ref h.length,h++[.lst (List.replicate k a)]):=by unfold uU;simp only;rw[dz ⟨by omega,by omega⟩];simp[YG]
def Oz(bs:Oe Bool):xN (.lst (bs.map Dt.bl)) h=ε (.bl (bs.any id),h):=by simp[xN,BA]
def xU(r:Dt):Dt×HI->Oo (vj×HI):=fun q=>match BA q.2 r,BA q.2 q.1 with
 | some _,some _=>ε (.zp r q.1,q.2)
 | _,_=>none
@[simp] def C4:GQ fa fb l h=gB (fa l h) fun r=>gB (fb l r.2) (xU r.1):=by rfl
def Af(a:BA h r=ε xs)(e2:BA h q=ε ys):xU r (q,h)=ε (.zp r q,h):=by simp![xU,a,e2]
@[simp] def B8(i j:Int):xG (.int i) (.int j) h=ε (.bl (decide (i=j)),h):=JD i j
def Cv(i j):xG (.str i) (.str j) h=ε (.bl (decide (i=j)),h):=jF i j
def hU(e:BA h a=ε xs):RC a (.lst []) h=ε (.bl (!xs.isEmpty),h):=by
 cases a with
 | lst d=>cases e;rfl
 | ref n=>show(BA h (.ref n)).bind _=_;rw[e];rfl
 | _=>exact nomatch (show none=ε xs from e)
def whK(go:RS)(body:RS)(l:LI):Bool×HI->Oo Rs:=fun c=>if c.1=true then(body l c.2).bind (FU go)else ε (.nx l c.2)
def Wy(t)(body)(n):RF t body (n+1) l h=gB (t l h) (whK (RF t body n) body l):=by
 unfold gB;rw[RF]
 congr 1
noncomputable def TK(fa:RE)(l:LI):Dt×HI->Oo (Dt×HI)
 | (.ref n,h)=>(match h[n]? with
  | some (.lst _)=>(fa l h).bind fun q=>match q.1 with
   | .ref m=>(match q.2[n]?,q.2[m]? with
    | some (.lst xs),some (.lst ys)=>if xs.length+ys.length<=sizeLine then ε (.non,q.2.set n (.lst (xs++ys)))else none
    | _,_=>none)
   | _=>none
  | _=>none)
 | _=>none
@[simp] def kS:MI fo fa l h=gB (fo l h) (TK fa l):=by
 unfold gB MI
 congr 1
 funext r
 obtain⟨d,h⟩:=r;cases d<;>(try rfl)
def YY{xs ys zs:Oe Dt}(e:h[n]?=ε (.lst zs))(a:fa l h=ε (.ref m,h'))(d:h'[n]?=ε (.lst xs))(e2:h'[m]?=ε (.lst ys))(c:xs.length+ys.length<=sizeLine):TK fa l (.ref n,h)=ε (.non,h'.set n (.lst (xs++ys))):=by simp![TK,e,a,Wi,d,e2,dz c]
@[simp] def T7(F:Dt->Dt->Oo Dt):J6 F fa fb l h=gB (fa l h) fun r=>gB (fb l r.2) fun q=>(F r.1 q.1).map fun d=>(d,q.2):=by rfl
@[simp] def uu(i j:Int):QM (.int i) (.int j)=ε (.int (min i j)):=by
 unfold QM;simp only
 congr 2
 split<;>omega
end
def rm(o:∀l h b a,tc l h=ε (b,a)->h[n]?=ε (.lst xs)->a[n]?=ε (.lst xs))(j:∀l h b a,te l h=ε (b,a)->h[n]?=ε (.lst xs)->a[n]?=ε (.lst xs)) :
 ∀m k l h ys,h[n]?=ε (.lst xs)->xD f tc te (.rf n) m k l h ys=xD f tc te (.vals xs) m k l h ys:=by
 intro m
 induction m with
 | zero=>intros;rfl
 | succ m ih=>
  intro k l h ys e;unfold xD;simp![vj.at,e];cases xs[k]? with
  | none=>rfl
  | some d=>
   simp only;cases f d l with
   | none=>rfl
   | some g=>
    simp![Wi];cases q:tc g h with
    | none=>rfl
    | some b=>
     obtain⟨b,p⟩:=b;have i:=o _ _ _ _ q e;simp![Wi];split
     . cases q2:te g p with
       | none=>rfl
       | some r=>
        obtain⟨r,s⟩:=r;have e2:=j _ _ _ _ q2 i;simp![Wi];split
        . exact ih _ _ _ _ e2
        . rfl
     . exact ih _ _ _ _ i
def uS(e:h[n]?=ε (.lst xs))(i:xs.length<sizeLine)(g:∀l h b a,tc l h=ε (b,a)->h[n]?=ε (.lst xs)->a[n]?=ε (.lst xs))(f:∀l h b a,te l h=ε (b,a)->h[n]?=ε (.lst xs)->a[n]?=ε (.lst xs)) :
 SD d tc te l (.rf n,h)=CD d tc te xs l h:=by
 rw[<- MD d tc te i];unfold SD;have j:vj.fuel (.rf n) h=xs.length+1:=by simp![vj.fuel,e]
 have e2:vj.fuel (.vals xs) h=xs.length+1:=by simp![vj.fuel]
 simp![j,e2];exact rm g f _ _ _ _ _ e
theorem eS{b:Type}(D:b->Dt)(O:b->Ob)(a):∀(xs:Oe b)(l:LI)(e:HI),(∀x∈xs,∀e,te (l.set i (ε (D x))) (a++e)=ε (.ref (a++e).length,a++e++[O x]))->
 CD (uA i) aB te (xs.map D) l (a++e)=ε ((List.range xs.length).map (fun(k:Nat)=>Dt.ref ((a++e).length+k)),a++e++xs.map O)
 | [],_,e,_=>by simp[CD]
 | x::xs,l,e,H=>by
  have f:=H x ⋯ e;have ih:=eS D O a xs (l.set i (ε (D x))) (e++[O x]) (te:=te) (i:=i) (fun y d e=>by
   rw[set_set];exact H y (by simp[d]) e)
  simp![Uo,CD,WD,Wi,qM,f,eH];rw[<- n7]at ih;rw[ih];simp![Wi,T4,Ke,Uo,map_map,n7,Xe,Wu]
  congr 2
  rw[Nat.add_zero]
  congr 1
  refine map_congr_left fun k q=>?_
  simp;omega
theorem BP{o:Type}(D:o->Dt)(S:Nat->LI->HI->Prop):∀(xs:Oe o)(a:Nat)(_:∀k x,xs[k]?=ε x->∀l h,S (a+k) l h->∃r,body (l.set i (ε (D x))) h=ε r/\Pass (S (a+k+1)) r)(l:LI)(h:HI),S a l h->
 ∃b f,JB (uA i) body (xs.map D) l h=ε (.nx b f)/\S (a+xs.length) b f
 | [],a,_,l,h,s=>⟨l,h,rfl,s⟩
 | x::xs,a,H,l,h,s=>by
  obtain⟨r,e,p⟩:=H 0 x rfl l h s;have q:∀(k:Nat) y,xs[k]?=ε y->∀l h,S (a+1+k) l h->∃r,body (l.set i (ε (D y))) h=ε r/\Pass (S (a+1+k+1)) r:=by intro k y u l h s;have:=H (k+1) y (by simpa using u) l h (by rw[show a+(k+1)=a+1+k by omega];exact s);rw[show a+(k+1)+1=a+1+k+1 by omega]at this;exact this
  cases r with
  | nx j g=>obtain⟨b,f,n,m⟩:=BP D S xs (a+1) q j g p;exact⟨b,f,by simp[JB,e,n],by rw[T4,show a+(xs.length+1)=a+1+xs.length by omega];exact m⟩
  | ct j g=>obtain⟨b,f,n,m⟩:=BP D S xs (a+1) q j g p;exact⟨b,f,by simp[JB,e,n],by rw[T4,show a+(xs.length+1)=a+1+xs.length by omega];exact m⟩
  | bk j g=>exact p.elim
  | rt d g=>exact p.elim
def iH(D:Nat->Dt)(S:Nat->LI->HI->Prop)(n)(H:∀k<n,∀l h,S k l h->∃r,body (l.set i (ε (D k))) h=ε r/\Pass (S (k+1)) r)(l)(h)(s:S 0 l h) :
 ∃a h',JB (uA i) body ((List.range n).map D) l h=ε (.nx a h')/\S n a h':=by
 obtain⟨a,h',e,f⟩:=BP (i:=i) (body:=body) D S (List.range n) 0 (fun k x g l h s=>by
  obtain⟨d,b⟩:=Wk g;simp at d b;subst b;rw[Aa]at s ⊢;exact H k d l h s) l h s
 exact⟨a,h',e,by simpa using f⟩
noncomputable def j5(I:LI->HI->Prop):Rs->Prop
 | .nx l h=>I l h
 | .ct l h=>I l h
 | _=>True
def nz(I:LI->HI->Prop)(f:∀l h,I l h->h[n]?=ε (.lst xs))(H:∀x∈xs,∀l h r,I l h->body (l.set i (ε x)) h=ε r->j5 I r) :
 ∀m k l h,I l h->BB (uA i) body (.rf n) m k l h=BB (uA i) body (.vals xs) m k l h:=by
 intro m
 induction m with
 | zero=>intros;rfl
 | succ m ih=>
  intro k l h e;unfold BB;simp![vj.at,f l h e];cases z:xs[k]? with
  | none=>rfl
  | some d=>
   simp![WD,Wi];cases q:body (l.set i (ε d)) h with
   | none=>rfl
   | some r=>
    have:=H d (kj z) _ _ _ e q;simp![Wi];cases r with
    | nx b a=>exact ih _ _ _ this
    | ct b a=>exact ih _ _ _ this
    | bk b a=>rfl
    | rt d a=>rfl
def nS(I:LI->HI->Prop)(b:∀l h,I l h->h[n]?=ε (.lst xs))(H:∀x∈xs,∀l h r,I l h->body (l.set i (ε x)) h=ε r->j5 I r)(a:I l h) :
 wD (uA i) body l (.rf n,h)=JB (uA i) body xs l h:=by
 rw[<- cE];unfold wD;have d:vj.fuel (.rf n) h=xs.length+1:=by simp![vj.fuel,b l h a]
 have e2:vj.fuel (.vals xs) h=xs.length+1:=by simp![vj.fuel]
 simp![d,e2];exact nz I b H _ _ _ _ a
def vU{o:Type}(D:o->Dt)(S:Nat->LI->HI->Prop)(xs:Oe o)(q:∀k l h,S k l h->h[n]?=ε (.lst (xs.map D)))(H:∀k x,xs[k]?=ε x->∀l h,S k l h->∃r,body (l.set i (ε (D x))) h=ε r/\Pass (S (k+1)) r)
 (l) (h) (s:S 0 l h):∃a h',wD (uA i) body l (.rf n,h)=ε (.nx a h')/\S xs.length a h':=by
 have go:∀(f k:Nat)(l:LI)(h:HI),S k l h->f=xs.length-k+1->k<=xs.length->∃a h',BB (uA i) body (.rf n) f k l h=ε (.nx a h')/\S xs.length a h':=by
  intro f
  induction f with
  | zero=>intro k l h _ e;omega
  | succ f ih=>
   intro k l h m e B;unfold BB;simp![vj.at,q k l h m,uq];by_cases p:k<xs.length
   . rw[ji p];obtain⟨r,y,g⟩:=H k xs[k] (ji p) l h m;simp![Vs,WD,Wi,y];cases r with
     | nx j b=>exact ih (k+1) j b g nofun nofun
     | ct j b=>exact ih (k+1) j b g nofun nofun
     | bk j b=>exact g.elim
     | rt d b=>exact g.elim
   . rw[ju nofun];have:k=xs.length:=by omega
     subst this;exact⟨l,h,rfl,m⟩
 have u:vj.fuel (.rf n) h=xs.length-0+1:=by simp![vj.fuel,q 0 l h s,mq];omega
 unfold wD;exact go _ 0 l h s u (m6 _)
section
variable{l:LI}{h:HI}{fo fi fe f fa:RE}
noncomputable def QQ(fa:RE)(l:LI):Dt×HI->Oo (Dt×HI)
 | (.ref n,h)=>(match h[n]? with
  | some (.lst _)=>(fa l h).bind fun q=>match q.1 with
   | .int 0=>(match q.2[n]? with
    | some (.lst (x::xs))=>ε (x,q.2.set n (.lst xs))
    | _=>none)
   | _=>none
  | _=>none)
 | _=>none
@[simp] def oa:FP fo fa l h=gB (fo l h) (QQ fa l):=by
 unfold gB FP
 congr 1
 funext r
 obtain⟨d,h⟩:=r;cases d<;>(try rfl)
def vp(e:h[n]?=ε (.lst (x::xs)))(a:fa l h=ε (.int 0,h)):QQ fa l (.ref n,h)=ε (x,h.set n (.lst xs)):=by simp![QQ,e,a,Wi]
noncomputable def RU:Dt×HI->Oo (Dt×HI)
 | (.int b,h)=>ε (.int (Builtin.bitNot b),h)
 | _=>none
@[simp] def Rb(b:Int):RU (.int b,h)=ε (.int (Builtin.bitNot b),h):=by rfl
@[simp] def Zx:IN f l h=gB (f l h) RU:=by
 unfold gB IN
 congr 1
 funext r
 obtain⟨d,h⟩:=r;cases d<;>rfl
@[simp] def oe(n:Nat)(t:RT)(body:RS):KP n t body l h=RF t body n l h:=by rfl
end
noncomputable def hJ(I:LI->HI->Prop)(E:Dt->HI->Prop):Rs->Prop
 | .nx l h=>I l h
 | .rt d h=>E d h
 | _=>False
def jX(I:Nat->LI->HI->Prop)(N:LI->HI->Prop)(E:Dt->HI->Prop)
 (H:∀m l h,I m l h->∃b g,t l h=ε (b,g)/\if b=true then ∃r,body l g=ε r/\hJ (fun e a=>∃f,f<m/\I f e a) E r else N l g) :
 ∀n m l h,I m l h->m<n->∃r,RF t body n l h=ε r/\hJ N E r:=by
 intro n
 induction n with
 | zero=>intro m l h _ k;omega
 | succ n ih=>
  intro m l h i k;obtain⟨b,g,o,q⟩:=H m l h i;rw[Wy,o,eA];unfold whK;cases b with
  | false=>rw[eG Vu]at q ⊢;exact⟨_,rfl,q⟩
  | true=>
   rw[dz rfl]at q ⊢;obtain⟨r,e2,q⟩:=q;simp![e2,Wi];cases r with
   | nx e a=>obtain⟨f,p,j⟩:=q;exact ih f e a j nofun
   | rt d a=>exact⟨_,rfl,q⟩
   | bk e a=>exact q.elim
   | ct e a=>exact q.elim
def F4{m:Type}(D:m->Dt)(S:Nat->LI->HI->Prop)(E:Dt->HI->Prop)(xs:Oe m)(p:∀k l h,S k l h->h[n]?=ε (.lst (xs.map D)))(H:∀k x,xs[k]?=ε x->∀l h,S k l h->∃r,body (l.set i (ε (D x))) h=ε r/\hJ (S (k+1)) E r)
 (l) (h) (q:S 0 l h):∃r,wD (uA i) body l (.rf n,h)=ε r/\hJ (S xs.length) E r:=by
 have go:∀(f k:Nat)(l:LI)(h:HI),S k l h->f=xs.length-k+1->k<=xs.length->∃r,BB (uA i) body (.rf n) f k l h=ε r/\hJ (S xs.length) E r:=by
  intro f
  induction f with
  | zero=>intro k l h _ e;omega
  | succ f ih=>
   intro k l h j e y;unfold BB;simp![vj.at,p k l h j,uq];by_cases o:k<xs.length
   . rw[ji o];obtain⟨r,u,a⟩:=H k xs[k] (ji o) l h j;simp![Vs,WD,Wi,u];cases r with
     | nx g b=>exact ih (k+1) g b a nofun nofun
     | rt d b=>exact⟨_,rfl,a⟩
     | bk g b=>exact a.elim
     | ct g b=>exact a.elim
   . rw[ju nofun];have:k=xs.length:=by omega
     subst this;exact⟨_,rfl,j⟩
 have s:vj.fuel (.rf n) h=xs.length-0+1:=by simp![vj.fuel,p 0 l h q,mq];omega
 unfold wD;exact go _ 0 l h q s (m6 _)
section
variable{l:LI}{h:HI}{f g fo fe:RE}{ga:RA}
noncomputable def V7(c:Nat):Dt->Dt×HI->Oo (vj×HI)
 | .int i,(.int j,h)=>if 0<=i/\i<2^61/\0<=j/\j<2^61/\0<c/\c<1000 then ε (.vals ((List.range ((j-i+(c:Int)-1)/(c:Int)).toNat).map fun(k:Nat)=>Dt.int (i+(k:Int)*(c:Int))),h)else none
 | _,_=>none
@[simp] def Yx(c:Nat):K6 f g c l h=gB (f l h) fun r=>gB (g l r.2) (V7 c r.1):=by
 unfold gB;unfold K6
 congr 1
 funext r
 obtain⟨d,h⟩:=r
 congr 1
 funext q
 obtain⟨a,b⟩:=q;cases d<;>cases a<;>rfl
def FQ(x f:Str):Dt×HI->Oo (Dt×HI)
 | (.ref n,h)=>(match h[n]? with
  | some (.ins y fs)=>if y=x then(mD f fs).bind fun d=>ε (d,h)else none
  | _=>none)
 | _=>none
@[simp] def kQ(x k:Str):YF x k fo l h=gB (fo l h) (FQ x k):=by
 unfold gB YF
 congr 1
 funext r
 obtain⟨d,h⟩:=r;cases d<;>(try rfl)
def kP(e:h[n]?=ε (.ins x fs))(a:mD k fs=ε d):FQ x k (.ref n,h)=ε (d,h):=by simp![FQ,e,eH,a,Wi]
def dU(x f:Str)(v:Dt)(l:LI):Dt×HI->Oo Rs
 | (.ref n,h)=>(match h[n]? with
  | some (.ins y fs)=>if y=x/\fs.length<1000 then ε (.nx l (h.set n (.ins y (AE f v fs))))else none
  | _=>none)
 | _=>none
@[simp] def D4(x k:Str):gJ x k fo fe l h=gB (fe l h) fun r=>gB (fo l r.2) (dU x k r.1 l):=by
 unfold gB gJ
 congr 1
 funext r
 congr 1
 funext q
 obtain⟨d,h⟩:=q;cases d<;>(try rfl)
def JO(e:h[n]?=ε (.ins x fs))(a:fs.length<1000):dU x k v l (.ref n,h)=ε (.nx l (h.set n (.ins x (AE k v fs)))):=by simp![dU,e,true_and,dz a]
noncomputable def X4(n:Nat):Dt×HI->Oo (Dt×HI)
 | (.non,h)=>ε (.ref n,h)
 | _=>none
@[simp] def Jt(n:Nat):X4 n (.non,h)=ε (.ref n,h):=by rfl
@[simp] def Xj(x:Str)(F:oB):ZP x F ga l h=gB (ga l h) fun r=>gB (F (.ref r.2.length::r.1) (r.2++[.ins x []])) (X4 r.2.length):=by
 unfold gB ZP
 congr 1
 funext r
 congr 1
 funext q
 obtain⟨d,h⟩:=q;cases d<;>(try rfl)
def WT(x m:Str)(F:oB)(ga:RA)(l:LI):Dt×HI->Oo (Dt×HI)
 | (.ref n,h)=>(match h[n]? with
  | some (.ins y fs)=>if y=x/\mD m fs=none then(ga l h).bind fun q=>F (.ref n::q.1) q.2 else none
  | _=>none)
 | _=>none
@[simp] def AT(x m:Str)(F:oB):iJ x m F fo ga l h=gB (fo l h) (WT x m F ga l):=by
 unfold gB iJ
 congr 1
 funext r
 obtain⟨d,h⟩:=r;cases d<;>(try rfl)
def SR(e:h[n]?=ε (.ins x fs))(a:mD m fs=none):WT x m F ga l (.ref n,h)=gB (ga l h) fun q=>F (.ref n::q.1) q.2:=by simp![WT,e,true_and,dz a];rfl
def CQ(fb:RE)(l:LI):Dt×HI->Oo (Dt×HI):=fun r=>(fb l r.2).bind fun q=>match r.1,q.1 with
 | .lst xs,.bl b=>(kE xs).bind fun bs=>ε (.int ((bs.countP (· ==b):Nat):Int),q.2)
 | _,_=>none
@[simp] def OY(fa fb:RE):rP fa fb l h=gB (fa l h) (CQ fb l):=by rfl
def oY{bs:Oe Bool}(e:fb l h=ε (.bl b,h)):CQ fb l (.lst (bs.map Dt.bl),h)=ε (.int ((bs.countP (· ==b):Nat):Int),h):=by
 have q:kE (bs.map Dt.bl)=ε bs:=by
  induction bs with
  | nil=>rfl
  | cons n ns ih=>simp![Uo,kE,ih,Vs]
 simp![CQ,e,Wi,q]
def cU:Dt×HI->Oo (vj×HI)
 | (.lst xs,h)=>ε (.vals (jJ 0 xs),h)
 | (.ref n,h)=>(match h[n]? with
  | some (.lst _)=>ε (.en n,h)
  | _=>none)
 | _=>none
@[simp] def oi:eQ f l h=gB (f l h) cU:=by
 unfold gB eQ
 congr 1
 funext r
 obtain⟨d,h⟩:=r;cases d<;>(try rfl)
def Wt(e:h[n]?=ε (.lst xs)):cU (.ref n,h)=ε (.en n,h):=by simp![cU,e]
end
def Nz{p:Type}(D:p->Dt)(S:Nat->LI->HI->Prop)(xs:Oe p)(s:∀k l h,S k l h->h[n]?=ε (.lst (xs.map D)))(H:∀k x,xs[k]?=ε x->∀l h,S k l h->∃r,body ((l.set i (ε (.int (k:Int)))).set j (ε (D x))) h=ε r/\Pass (S (k+1)) r)
 (l) (h) (u:S 0 l h):∃a h',wD (OC i j) body l (.en n,h)=ε (.nx a h')/\S xs.length a h':=by
 have go:∀(f k:Nat)(l:LI)(h:HI),S k l h->f=xs.length-k+1->k<=xs.length->∃a h',BB (OC i j) body (.en n) f k l h=ε (.nx a h')/\S xs.length a h':=by
  intro f
  induction f with
  | zero=>intro k l h _ e;omega
  | succ f ih=>
   intro k l h o e C;unfold BB;simp![vj.at,s k l h o,uq];by_cases q:k<xs.length
   . rw[ji q];obtain⟨r,B,g⟩:=H k xs[k] (ji q) l h o;simp![Vs,gK,Wi,B];cases r with
     | nx m b=>exact ih (k+1) m b g nofun nofun
     | ct m b=>exact ih (k+1) m b g nofun nofun
     | bk m b=>exact g.elim
     | rt d b=>exact g.elim
   . rw[ju nofun];have:k=xs.length:=by omega
     subst this;exact⟨l,h,rfl,o⟩
 have y:vj.fuel (.en n) h=xs.length-0+1:=by simp![vj.fuel,s 0 l h u,mq];omega
 unfold wD;exact go _ 0 l h u y (m6 _)
end SM
namespace PySem
open PySem.Sem (wp)
section
variable{prog:Pu}{w:Ri}{A:Ro}{E:Oi->Ou->Prop}{s:Ou}
def Hv(h:s.heap.get? a=ε o)(q:Q (ε o) s):wpAny M A (loadIfAlive a) Q E s:=by intro Γ p hΓ;unfold loadIfAlive;simp![Sem.wp];rw[h];exact q
abbrev NF(h:Ru)(z TI TO:O4)(b a:Oi):Prop:=
 h.get? z=ε { cls:=.type "zip",dict:=none,data:=.fields #[b,a,.bool false,.ref TI,.ref TO],slots:=#[] }
def OZ{z TI TO T:O4}(hz:NF s.heap z TI TO (rawInt T) (.bool b))(h:∃o,s.heap.get? T=ε o)
 (f:∀a,NF a z TI TO (rawInt T) (.bool true)->Heap.SameBut z s.heap a->Q false { s with heap:=a }):wpAny (model prog w) A (Builtin.SmallTypes.ownedTupleIsFree (.ref z)) Q E s:=by
 obtain⟨o,g⟩:=h;unfold Builtin.SmallTypes.ownedTupleIsFree;refine ao (Gu hz rfl (x:=rawInt T) rfl ?_);show wpAny _ _ (loadIfAlive ((T:Int).toNat) >>=_) _ _ _;refine ao (Hv (o:=o) (by rw[ni];exact g) ?_);simp![Option.isNone_some,Ws,eO];refine ao (Gu hz rfl (x:=.bool b) rfl ?_);cases b with
 | true=>rw[eG (by decide)];exact ao (au (au (f s.heap hz (Heap.SameBut.refl _ _))))
 | false=>rw[dz (by decide)];exact ao (wpAny_setField_rec hz ⋯ fun a d e=>au (f a d e))
end
section
variable{prog:Pu}{w:Ri}{A:Ro}{E:Oi->Ou->Prop}{s:Ou}
def Fw{z TI TO T j i u r:O4}{f1:Bool}{C B:Nat}{xs ys:Rr Oi}{x y a b:Oi}{Q:Oi->Ou->Prop}(D:ZipApart z TI TO j i u r)
 (hz:NF s.heap z TI TO (rawInt T) (.bool f1)) (Z:∃o,s.heap.get? T=ε o) (I:IsPair s.heap TI (.ref j) (.ref i))
 (h1:s.heap.IsListIter j u C) (h2:s.heap.IsListIter i r B) (H:s.heap.IsList u xs) (F:s.heap.IsList r ys) (W:xs[C]?=ε x) (U:ys[B]?=ε y)
 (hQ:∀q,NF q z TI TO (rawInt T) (.bool true)->q.IsListIter j u (C+1)->q.IsListIter i r (B+1)->IsPair q s.heap.objs.size x y->q.objs.size=s.heap.objs.size+1->
  (∀c o,c≠z->c≠j->c≠i->s.heap.get? c=ε o->q.get? c=ε o)->Q (.ref s.heap.objs.size) { s with heap:=q }) :
 wpAny (model prog w) A (Builtin.«zip.__next__» ⟨[.ref z],[]⟩) (fun J S=>∃v,J=.done (.ret v)/\Q v S) E s:=by
 show wpAny _ _ (field (.ref z) 2 >>=_) _ _ _;refine ao (Gu hz rfl (x:=.bool false) rfl ?_);show wpAny _ _ (field (.ref z) 3 >>=_) _ _ _;refine ao (Gu hz rfl (x:=.ref TI) rfl ?_);refine ao (wpAny_seqItems I rfl ?_);show wpAny _ _ (Builtin.SmallTypes.ownedTupleIsFree (.ref z) >>=_) _ _ _;refine ao (OZ hz Z fun R m d=>?_);simp![Ws,eO];show wpAny _ _ (forIn #[Value.ref j,Value.ref i] _ _ >>=_) _ _ _;rw[<- Array.forIn_toList];refine ao ?_;simp![forIn_cons,forIn_nil];refine ao (ao (Es ?_));show wpAny _ _ (Builtin.SmallTypes.nextOf (.ref j) >>=_) _ _ _;refine ao (wpAny_nextOf_list_item (h1.extBut d.extBut D.i1z) (H.extBut d.extBut D.l1z) W fun P p f=>au (au ?_));refine ao (ao (Es ?_));show wpAny _ _ (Builtin.SmallTypes.nextOf (.ref i) >>=_) _ _ _;refine ao (wpAny_nextOf_list_item ((h2.extBut d.extBut D.i2z).extBut f.extBut D.i12.symm) ((F.extBut d.extBut D.l2z).extBut f.extBut D.l2i1) U fun h n g=>au (au (au ?_)));refine ao (wpAny_newTuple (hsz:=show 2<=sizeLine by rw[Ca];decide) ?_);have hsz:h.objs.size=s.heap.objs.size:=by rw[g.1,f.1,d.1]
 have k:NF h z TI TO (rawInt T) (.bool true):=g.extBut _ _ D.i2z.symm (f.extBut _ _ D.i1z.symm m);refine au ⟨_,rfl,?_⟩;show Q (.ref h.objs.size) _;rw[hsz];have Y:∀c o,c≠z->c≠j->c≠i->s.heap.get? c=ε o->h.get? c=ε o:=fun c o O M L e=>g.extBut _ _ L (f.extBut _ _ M (d.extBut _ _ O e))
 refine hQ _ (cu _ k) ((p.extBut g.extBut D.i12).at fun o e=>cu _ e) (n.at fun o e=>cu _ e) ?_ (by rw[Li,hsz]) fun c o O M L e=>cu _ (Y c o O M L e)
 rw[<- hsz];exact jj _ rfl
end
section
variable{prog:Pu}{w:Ri}{A:Ro}{E:Oi->Ou->Prop}{s:Ou}
def zy{z TI TO T i g p n:O4}(O:A.handled=none)(D:ZipApart z TI TO i g p n)
 (hz:NF s.heap z TI TO (rawInt T) (.bool U)) (S:∃o,s.heap.get? T=ε o) (F:IsPair s.heap TI (.ref i) (.ref g))
 (h1:s.heap.IsListIter i p r) (h2:s.heap.IsListIter g n q) (k:s.heap.IsList p xs) (B:s.heap.IsList n ys) (m:xs[r]?=none\/ys[q]?=none)
 (P:∀I e,(∀c o,c≠z->c≠i->c≠g->s.heap.get? c=ε o->I.get? c=ε o)->(∃o,I.get? e=ε o/\o.cls=.type "StopIteration")->E (.ref e) { s with heap:=I }) :
 wpAny (model prog w) A (Builtin.«zip.__next__» ⟨[.ref z],[]⟩) Q E s:=by
 show wpAny _ _ (field (.ref z) 2 >>=_) _ _ _;refine ao (Gu hz rfl (x:=.bool false) rfl ?_);show wpAny _ _ (field (.ref z) 3 >>=_) _ _ _;refine ao (Gu hz rfl (x:=.ref TI) rfl ?_);refine ao (wpAny_seqItems F rfl ?_);show wpAny _ _ (Builtin.SmallTypes.ownedTupleIsFree (.ref z) >>=_) _ _ _;refine ao (OZ hz S fun M u a=>?_);simp![Ws,eO];show wpAny _ _ (forIn #[Value.ref i,Value.ref g] _ _ >>=_) _ _ _;rw[<- Array.forIn_toList];refine ao ?_;simp![forIn_cons,forIn_nil];refine ao (ao (Es ?_));show wpAny _ _ (Builtin.SmallTypes.nextOf (.ref i) >>=_) _ _ _;cases y:xs[r]? with
 | none=>exact ao (wpAny_nextOf_list_end O (h1.extBut a.extBut D.i1z) (k.extBut a.extBut D.l1z) y fun d e b C=>P d e (fun c o L J v x=>b _ _ J (a.extBut _ _ L x)) C)
 | some x=>
  have R:ys[q]?=none:=by rcases m with h | h;rw[y]at h;cases h;exact h
  refine ao (wpAny_nextOf_list_item (h1.extBut a.extBut D.i1z) (k.extBut a.extBut D.l1z) y fun d H b=>au (au ?_));refine ao (ao (Es ?_));show wpAny _ _ (Builtin.SmallTypes.nextOf (.ref g) >>=_) _ _ _;exact ao (wpAny_nextOf_list_end O ((h2.extBut a.extBut D.i2z).extBut b.extBut D.i12.symm) ((B.extBut a.extBut D.l2z).extBut b.extBut D.l2i1) R fun j e f C=>P j e (fun c o L J W x=>f _ _ W (b.extBut _ _ J (a.extBut _ _ L x))) C)
def Kv{z TI TO T f e i h:O4}(D:ZipApart z TI TO f e i h)
 (hz:NF s.heap z TI TO (rawInt T) (.bool C)) (u:∃o,s.heap.get? T=ε o) (p:IsPair s.heap TI (.ref f) (.ref e))
 (h1:s.heap.IsListIter f i k) (h2:s.heap.IsListIter e h j) (n:s.heap.IsList i xs) (m:s.heap.IsList h ys) (r:xs[k]?=ε x) (q:ys[j]?=ε y)
 (B:∀d,NF d z TI TO (rawInt T) (.bool true)->d.IsListIter f i (k+1)->d.IsListIter e h (j+1)->IsPair d s.heap.objs.size x y->d.objs.size=s.heap.objs.size+1->
  (∀c o,c≠z->c≠f->c≠e->s.heap.get? c=ε o->d.get? c=ε o)->Q (ε (.ref s.heap.objs.size)) { s with heap:=d }) :
 wpAny (model prog w) A (pyNext (.ref z)) Q E s:=by
 have g:s.TypeIs (.ref z) "zip" :=⟨_,hz,rfl⟩;unfold pyNext;exact ao (wpAny_attempt (wpAny_callSpecial?_slot (name:=Str.ofString "__next__") g F.slot_zip_next
  (wpAny_call_entry F.slot_zip_next g F.entry_zip_next
   (Fw (a:=.none) (b:=.none) D hz u p h1 h2 n m r q fun d O M L J I H=>au (B d O M L J I H)) (F.args_zip_next_1 _))))
def uw{z TI TO T g f i h:O4}(x:A.handled=none)(D:ZipApart z TI TO g f i h)
 (hz:NF s.heap z TI TO (rawInt T) (.bool I)) (C:∃o,s.heap.get? T=ε o) (m:IsPair s.heap TI (.ref g) (.ref f))
 (h1:s.heap.IsListIter g i q) (h2:s.heap.IsListIter f h p) (k:s.heap.IsList i xs) (j:s.heap.IsList h ys) (a:xs[q]?=none\/ys[p]?=none)
 (H:∀n,(∀c o,c≠z->c≠g->c≠f->s.heap.get? c=ε o->n.get? c=ε o)->Q none { s with heap:=n }) :
 wpAny (model prog w) A (pyNext (.ref z)) Q E s:=by
 have d:s.TypeIs (.ref z) "zip" :=⟨_,hz,rfl⟩;unfold pyNext;refine ao (wpAny_attempt (wpAny_callSpecial?_slot (name:=Str.ofString "__next__") d F.slot_zip_next (wpAny_call_entry F.slot_zip_next d F.entry_zip_next (zy x D hz C m h1 h2 k j a fun n e u y=>?_) (F.args_zip_next_1 _))));obtain⟨o,r,B⟩:=y;refine ao (wpAny_isInstance (T := "StopIteration") (b:=true) ⟨o,r,B⟩ isSubtype_stop ?_);exact au (H _ u)
end
section
variable{prog:Pu}{w:Ri}{A:Ro}{R:Result->Ou->Prop}
def fh(h:Ru)(z TI TO g f e d:O4)(xs ys:Rr Oi)(i:Nat):Prop:=
 ((IsZip h z TI TO .none/\∃a b,IsPair h TO a b)\/∃(T:O4)(j:Bool),NF h z TI TO (rawInt T) (.bool j)/\∃o,h.get? T=ε o)/\IsPair h TI (.ref g) (.ref f)/\h.IsListIter g e i/\h.IsListIter f d i/\h.IsList e xs/\h.IsList d ys
def fh.keep {z TI TO D C u s:O4} (x:fh h z TI TO D C u s xs ys i) (k:∀b o,h.get? b=ε o->(∃j n,o.data=.seq j n/\o.cls=.type "list" /\ b≠u/\b≠s)\/h'.get? b=ε o) (M:∀b o,h.get? b=ε o->∃J,h'.get? b=ε J):fh h' z TI TO D C u s xs ys i:=by
 obtain⟨a,b,c,d,e,f⟩:=x;have go:∀{b:O4} {o:Obj},h.get? b=ε o->((∀j n,o.data≠.seq j n)\/o.cls≠.type "list" \/ b=u\/b=s)->h'.get? b=ε o:=fun {b o} e q=>by
  rcases k b o e with⟨j,n,I,H,F,E⟩ | y
  . rcases q with q | q | q | q
    . exact Ea I (q j n)
    . exact Ea H q
    . exact Ea q F
    . exact Ea q E
  . exact y
 refine⟨?_,go b (.inr (.inl (by intro z;simp at z))),?_,?_,?_,?_⟩
 . rcases a with⟨a,p,q,r⟩ | ⟨T,L,a,o,r⟩
   . exact .inl ⟨go a (.inl (by intro _ _ z;cases z)),p,q,go r (.inr (.inl (by intro z;simp at z)))⟩
   . exact .inr ⟨T,L,go a (.inl (by intro _ _ z;cases z)),M _ _ r⟩
 . obtain⟨o,g,B,m⟩:=c;exact⟨o,go g (.inl (by intro _ _ z;rw[m]at z;cases z)),B,m⟩
 . obtain⟨o,g,B,m⟩:=d;exact⟨o,go g (.inl (by intro _ _ z;rw[m]at z;cases z)),B,m⟩
 . obtain⟨o,g,r⟩:=e;exact⟨o,go g (.inr (.inr (.inl rfl))),r⟩
 . obtain⟨o,g,r⟩:=f;exact⟨o,go g (.inr (.inr (.inr rfl))),r⟩
def vP(h:Ru)(n0:Nat)(xs ys:Rr Oi)(b:Oe O4):Prop:=(∀(j:Nat) a,b[j]?=ε a->∃x y,xs[j]?=ε x/\ys[j]?=ε y/\IsPair h a x y)/\b.Nodup/\∀a∈b,n0<=a/\a<h.objs.size
def Jv(hh:A.in1.handled=none){S z TI TO u r l1 l2 n0 n:Nat}(E)(D:ZipApart z TI TO u r l1 l2)(hn:n<=sizeLine)(a5:S≠z/\S≠TI/\S≠TO/\S≠u/\S≠r/\S≠l1/\S≠l2)(a8:S<n0)
 (a7:z<n0/\TO<n0/\u<n0/\r<n0) (hx:∀i,i<n->∃x y,xs[i]?=ε x/\ys[i]?=ε y) (he:xs[n]?=none\/ys[n]?=none) :
 ∀k i s M q c,n-i=k->i<=n->fh s.heap z TI TO u r l1 l2 xs ys i->n0<=s.heap.objs.size->s.heap.get? S=ε { cls:=.type "list",dict:=none,data:=.seq q c,slots:=#[] }->
 q=(M.map Value.ref).toArray->M.length=i->vP s.heap n0 xs ys M->
 (∀d B c',(∀b o,b≠S->b≠z->b≠TO->b≠u->b≠r->s.heap.get? b=ε o->d.get? b=ε o)->d.get? S=ε { cls:=.type "list",dict:=none,data:=.seq (B.map Value.ref).toArray c',slots:=#[] }->B.length=n->vP d n0 xs ys B->R (.ok (.ret E)) { s with heap:=d })->
 codeAny (model prog w) A (.builtin "list.extend.loop" ⟨[.ref S,.ref z,E],[]⟩) R s:=by
 obtain⟨q1,q2,q3,q4,q5,q6,q7⟩:=a5;intro k
 induction k with
 | zero=>
  intro i s M q c hk hi st a1 hS g hl P hR;have a4:i=n:=by omega
  subst a4;obtain⟨Q,m,s1,s2,s3,s4⟩:=st;refine Ii F.entry_extend_loop ?_;rw[Hs F.plain_extend_loop _];show wpAny _ A.in1 (pyNext (.ref z) >>=_) _ _ s;have h:∀d,(∀b o,b≠z->b≠TO->b≠u->b≠r->s.heap.get? b=ε o->d.get? b=ε o)->R (.ok (.ret E)) { s with heap:=d }:=fun d kp=>by
   refine hR d M c (fun b o b0 L b2 J I e=>kp b o L b2 J I e) (by rw[<- g];exact kp _ _ q1 q3 q4 q5 hS) hl ⟨fun j a ha=>?_,P.2.1,fun a ha=>?_⟩
   . obtain⟨x,y,e1,e2,e3⟩:=P.1 j a ha;have:=(P.2.2 a (kj ha)).1;exact⟨x,y,e1,e2,kp _ _ nofun nofun nofun nofun e3⟩
   . obtain⟨p1,p2⟩:=P.2.2 a ha;obtain⟨j,hj⟩:=getElem?_of_mem ha;obtain⟨x,y,_,_,e3⟩:=P.1 j a hj;exact⟨p1,iu (kp _ _ nofun nofun nofun nofun e3)⟩
  rcases Q with⟨sz,a,b,U⟩ | ⟨T,f1,sz,sT⟩
  . exact ao (wpAny_pyNext_zip_end hh D sz m U s1 s2 s3 s4 he fun d kp=>au (h d kp))
  . exact ao (uw hh D sz sT m s1 s2 s3 s4 he fun d kp=>au (h d fun b o L v J I e=>kp b o L J I e))
 | succ k ih=>
  intro i s M q c hk hi st a1 hS g hl P hR;obtain⟨x,y,Y,W⟩:=hx i nofun;obtain⟨Q,m,s1,s2,s3,s4⟩:=st;refine Ii F.entry_extend_loop ?_;rw[Hs F.plain_extend_loop _];show wpAny _ A.in1 (pyNext (.ref z) >>=_) _ _ s;have h:∀d,((IsZip d z TI TO .none/\∃a b,IsPair d TO a b)\/∃(T:O4)(f1:Bool),NF d z TI TO (rawInt T) (.bool f1)/\∃o,d.get? T=ε o)->d.IsListIter u l1 (i+1)->d.IsListIter r l2 (i+1)->IsPair d s.heap.objs.size x y->d.objs.size=s.heap.objs.size+1->(∀b o,b≠z->b≠TO->b≠u->b≠r->s.heap.get? b=ε o->d.get? b=ε o)->
   wpAny (model prog w) A.in1 (updateSeq S (·.push (.ref s.heap.objs.size)) >>=fun v=>again (.builtin "list.extend.loop" ⟨[.ref S,.ref z,E],[]⟩)) (fun h s'=>match h with | .done f=>R (.ok f) s' | .again c'=>c'.quiet=true/\codeAny (model prog w) A c' R s') (fun e s'=>R (.error e) s') { s with heap:=d }:=by
   intro d z1 z2 z3 z4 z5 kp;have Z:=kp _ _ q1 q3 q4 q5 hS;refine ao (Oa Z rfl (au ⟨plainId_quiet F.plain_extend_loop _,?_⟩) (by rw[g];simp![cG,mq,hl];omega) (by show(q.push _).size<=sizeLine+1;rw[Array.size_push,g];simp![cG,mq,hl];omega));have a2:=Ge (Obj.mapSeq (·.push (Value.ref s.heap.objs.size))) Z rfl;have ot:∀b,b≠S->(d.update S (Obj.mapSeq (·.push (Value.ref s.heap.objs.size)))).get? b=d.get? b:=fun b H=>wu _ _ (m8 H)
   have a0:(d.update S (Obj.mapSeq (·.push (Value.ref s.heap.objs.size)))).objs.size=d.objs.size:=(Heap.SameBut.update ..).1;refine ih (i+1) _ (M++[s.heap.objs.size]) (q.push (.ref s.heap.objs.size)) _ nofun nofun ?_ (by show n0<=Array.size _;rw[a0,z5];omega) a2 (by rw[g];simp) (by simp[hl]) ⟨fun j a ha=>?_,?_,fun a ha=>?_⟩ fun a6 B c' k2 k3 k4 k5=>hR a6 B c' (fun b o b0 L b2 J I e=>k2 b o b0 L b2 J I (by rw[ot b b0];exact kp b o L b2 J I e)) k3 k4 k5
   . have zs:fh d z TI TO u r l1 l2 xs ys (i+1):=⟨z1,kp _ _ D.TIz D.TITO D.TIi1 D.TIi2 m,z2,z3,s3.at fun o e=>kp _ o D.l1z D.l1TO D.l1i1 D.l1i2 e,s4.at fun o e=>kp _ o D.l2z D.l2TO D.l2i1 D.l2i2 e⟩;refine zs.keep (fun b o e=>?_) fun b o e=>?_
     . by_cases H:b=S
       . subst H;rw[Z]at e;cases e;exact .inl ⟨_,_,rfl,rfl,q6,q7⟩
       . exact .inr (by rw[ot b H];exact e)
     . by_cases H:b=S
       . subst H;exact⟨_,a2⟩
       . exact⟨o,by rw[ot b H];exact e⟩
   . by_cases hj:j<M.length
     . rw[Xo hj]at ha;obtain⟨x',y',e1,e2,e3⟩:=P.1 j a ha;have p:=P.2.2 a (kj ha);refine⟨x',y',e1,e2,?_⟩;show Heap.get? _ a=_;rw[ot a nofun];exact kp _ _ nofun nofun nofun nofun e3
     . rw[Zu nofun]at ha;have a3:j=i:=by have:=(Wk ha).1;simp at this;omega
       subst a3;rw[hl]at ha;simp at ha;subst ha;refine⟨x,y,Y,W,?_⟩;show Heap.get? _ s.heap.objs.size=_;rw[ot _ nofun];exact z4
   . rw[nodup_append];refine⟨P.2.1,by simp,fun a ha b H e=>?_⟩;rw[Ao.mp H]at e;exact Eu _ (e ▸ (P.2.2 a ha).2)
   . show n0<=a/\a<Array.size _;rw[a0,z5];rcases Bo.mp ha with ha | ha
     . exact⟨(P.2.2 a ha).1,Hu (P.2.2 a ha).2⟩
     . rw[Ao.mp ha];exact⟨a1,yu _⟩
  rcases Q with⟨sz,a,b,U⟩ | ⟨T,f1,sz,o,sT⟩
  . exact ao (wpAny_pyNext_zip_item D sz m U s1 s2 s3 s4 Y W fun d z1 z2 z3 z4 C O kp=>h d (.inr ⟨_,false,z1,_,C⟩) z3 z4 C O kp)
  . have hT:∀d:Ru,(∀b o,b≠z->b≠u->b≠r->s.heap.get? b=ε o->d.get? b=ε o)->NF d z TI TO (rawInt T) (.bool true)->d.IsListIter u l1 (i+1)->d.IsListIter r l2 (i+1)->∃o,d.get? T=ε o:=fun d kp zz y1 y2=>by
     by_cases t1:T=z
     . subst t1;exact⟨_,zz⟩
     . by_cases t2:T=u
       . subst t2;obtain⟨o,e,_⟩:=y1;exact⟨o,e⟩
       . by_cases t3:T=r
         . subst t3;obtain⟨o,e,_⟩:=y2;exact⟨o,e⟩
         . exact⟨o,kp _ _ t1 t2 t3 sT⟩
    exact ao (Kv D sz ⟨o,sT⟩ m s1 s2 s3 s4 Y W fun d z1 z3 z4 C O kp=>h d (.inr ⟨T,true,z1,hT d kp z1 z3 z4⟩) z3 z4 C O fun b o L v J I e=>kp b o L J I e)
end
def Mh:typeLookup (.type "zip") "__len__" =pure none:=by rw[typeLookup_type,builtinLookup_eq_fast];kernel_rfl
def Yy:typeLookup (.type "zip") "__length_hint__" =pure none:=by rw[typeLookup_type,builtinLookup_eq_fast];kernel_rfl
section
variable{prog:Pu}{w:Ri}{A:Ro}{E:Oi->Ou->Prop}{s:Ou}{R:Result->Ou->Prop}
def Aw(hh:A.in1.handled=none){S z TI TO r q L J n0 n:Nat}(k)(D:ZipApart z TI TO r q L J)(hn:n<=sizeLine)(C:S≠z/\S≠TI/\S≠TO/\S≠r/\S≠q/\S≠L/\S≠J)(U:S<n0)
 (P:z<n0/\TO<n0/\r<n0/\q<n0) (hx:∀i,i<n->∃x y,xs[i]?=ε x/\ys[i]?=ε y) (he:xs[n]?=none\/ys[n]?=none)
 (sz:IsZip s.heap z TI TO .none) (m:∃a b,IsPair s.heap TO a b) (O:IsPair s.heap TI (.ref r) (.ref q)) (s1:s.heap.IsListIter r L 0) (s2:s.heap.IsListIter q J 0) (s3:s.heap.IsList L xs) (s4:s.heap.IsList J ys) (hsz:n0<=s.heap.objs.size)
 (Z:s.heap.get? S=ε { cls:=.type "list",data:=.seq #[] H })
 (hR:∀u h B,(∀b o,b≠S->b≠z->b≠TO->b≠r->b≠q->s.heap.get? b=ε o->u.get? b=ε o)->u.get? S=ε { cls:=.type "list",dict:=none,data:=.seq (h.map Value.ref).toArray B,slots:=#[] }->h.length=n->vP u n0 xs ys h->R (.ok (.ret k)) { s with heap:=u }) :
 wpAny (model prog w) A.in1 (Builtin.List.listExtendWith (.ref S) (.ref z) k)
  (fun W I=>match W with | .done f=>R (.ok f) I | .again B=>B.quiet=true/\codeAny (model prog w) A B R I) (fun e I=>R (.error e) I) s:=by
 have T:s.TypeIs (.ref z) "zip" :=⟨_,sz,rfl⟩;unfold Builtin.List.listExtendWith;refine ao (wpAny_typeOf T ?_);have h1:Builtin.List.listSameRef (.ref S) (.ref z)=false:=by simp[Builtin.List.listSameRef,C.1]
 have h2:(Value.type "zip" ==Value.type "list")=false:=by decide
 have h3:(Value.type "zip" ==Value.type "tuple")=false:=by decide
 simp![h1,h2,h3,Bool.or_false,Ws,eO];refine ao (wpAny_pyIter_zip sz ?_);refine ao (Es ?_);unfold Builtin.List.listLengthHint;refine ao (wpAny_specialOf T Mh ?_);show wpAny _ A.in1 (specialOf (Value.ref z) (Str.ofString "__length_hint__") >>=_) _ _ _;refine ao (wpAny_specialOf T Yy ?_);refine au ?_;show wpAny _ A.in1 (rule "list.extend.makes-room" >>=fun v=>Builtin.List.listTouch (.ref S) >>=fun v=>
  again (.builtin "list.extend.loop" ⟨[.ref S,.ref z,k],[]⟩)) _ _ _
 refine ao (wpAny_rule ?_);refine ao ?_;show wpAny _ A.in1 (updateSeq S (·.push .none) >>=fun v=>updateSeq S (·.pop)) _ _ _;refine ao (Oa Z rfl ?_);have g:=Ge (Obj.mapSeq (·.push Value.none)) Z rfl;refine Oa (hz:=by seq_fits) g rfl ?_;have p:=Ge (Obj.mapSeq (·.pop)) g rfl;have d:∀b,b≠S->((s.heap.update S (Obj.mapSeq (·.push Value.none))).update S (Obj.mapSeq (·.pop))).get? b=s.heap.get? b:=
  fun b Y=>(wu _ _ (m8 Y)).trans (wu _ _ (m8 Y))
 have M:((s.heap.update S (Obj.mapSeq (·.push Value.none))).update S (Obj.mapSeq (·.pop))).objs.size=s.heap.objs.size:=(Heap.SameBut.update ..).1.trans (Heap.SameBut.update ..).1;obtain⟨q1,q2,q3,q4,q5,q6,q7⟩:=C;obtain⟨a,b,m⟩:=m;refine au ⟨plainId_quiet F.plain_extend_loop _,Jv hh k D hn ⟨q1,q2,q3,q4,q5,q6,q7⟩ U P hx he n 0 _ [] #[] _ nofun (m6 _) ⟨.inl ⟨(d _ (m8 q1)).trans sz,a,b,(d _ (m8 q3)).trans m⟩,(d _ (m8 q2)).trans O,s1.at fun o e=>(d _ (m8 q4)).trans e,s2.at fun o e=>(d _ (m8 q5)).trans e,s3.at fun o e=>(d _ (m8 q6)).trans e,s4.at fun o e=>(d _ (m8 q7)).trans e⟩ (by show n0<=Array.size _;rw[M];exact hsz) p rfl rfl ⟨fun j a Q=>by simp at Q,by simp,fun a Q=>by simp at Q⟩ fun u h B k2 k3 k4 k5=>hR u h B (fun b o b0 b1 b2 b3 b4 e=>k2 b o b0 b1 b2 b3 b4 ((d b b0).trans e)) k3 k4 k5⟩
def ak(hh:A.in1.in1.handled=none){z TI TO q p C B n:Nat}(D:ZipApart z TI TO q p C B)(hn:n<=sizeLine)
 (T:z<s.heap.objs.size/\TI<s.heap.objs.size/\TO<s.heap.objs.size/\q<s.heap.objs.size/\p<s.heap.objs.size) (hx:∀i,i<n->∃x y,xs[i]?=ε x/\ys[i]?=ε y) (he:xs[n]?=none\/ys[n]?=none)
 (sz:IsZip s.heap z TI TO .none) (j:∃a b,IsPair s.heap TO a b) (O:IsPair s.heap TI (.ref q) (.ref p)) (s1:s.heap.IsListIter q C 0) (s2:s.heap.IsListIter p B 0) (s3:s.heap.IsList C xs) (s4:s.heap.IsList B ys)
 (hQ:∀m d U,(∀b o,b≠z->b≠TO->b≠q->b≠p->s.heap.get? b=ε o->m.get? b=ε o)->m.get? s.heap.objs.size=ε { cls:=.type "list",dict:=none,data:=.seq (d.map Value.ref).toArray U,slots:=#[] }->d.length=n->vP m (s.heap.objs.size+1) xs ys d->Q (.ref s.heap.objs.size) { s with heap:=m }) :
 wpAny (model prog w) A (call (.type "list") [.ref z]) Q E s:=by
 refine callType_codes (Q₁:=fun obj f=>obj=.ref s.heap.objs.size/\f={ s with heap:=s.heap.push { cls:=.type "list",data:=.seq #[] } }) F.called_list (F.typeCall_list_1 _) F.entry_list_init
  (code_list_new _ ⟨rfl,rfl⟩) fun obj f r=>?_
 obtain⟨rfl,rfl⟩:=r;have u:(s.heap.push { cls:=.type "list",data:=.seq #[] }).get? s.heap.objs.size=ε { cls:=.type "list",data:=.seq #[] }:=jj _ rfl;refine⟨⟨_,u,rfl⟩,F.args_list_init_2 _ _,?_⟩;obtain⟨L,Z,J,I,H⟩:=T;have Y:C<s.heap.objs.size:=by obtain⟨_,e,_⟩:=s3;exact iu e
 have W:B<s.heap.objs.size:=by obtain⟨_,e,_⟩:=s4;exact iu e
 have up:∀{b:O4} {o:Obj},s.heap.get? b=ε o->(s.heap.push { cls:=.type "list",data:=.seq #[] }).get? b=ε o:=fun e=>cu _ e
 generalize hp:s.heap.push { cls:=.type "list",data:=.seq #[] }=hp1 at u up;have S:hp1.objs.size=s.heap.objs.size+1:=by rw[<- hp];exact Li ..
 show wpAny _ A.in1.in1 (do let old <- Builtin.List.listItems (.ref s.heap.objs.size);Builtin.List.listUpdate (.ref s.heap.objs.size) (fun v=>#[]);letGo old.toList.reverse;Builtin.List.listExtendWith (.ref s.heap.objs.size) (.ref z) .none) _ _ _;refine ao ?_;unfold Builtin.List.listItems;refine ao (wpAny_seqItems u rfl (au ?_));show wpAny _ A.in1.in1 (updateSeq s.heap.objs.size (fun v=>#[]) >>=fun v=>letGo (#[]:Rr Oi).toList.reverse >>=fun v=>Builtin.List.listExtendWith (.ref s.heap.objs.size) (.ref z) .none) _ _ _;refine ao (Oa u rfl ?_);have k:=Ge (Obj.mapSeq (fun v=>(#[]:Rr Oi))) u rfl;have P:∀b,b≠s.heap.objs.size->(hp1.update s.heap.objs.size (Obj.mapSeq (fun v=>(#[]:Rr Oi)))).get? b=hp1.get? b:=fun b hb=>wu _ _ (m8 hb)
 have M:(hp1.update s.heap.objs.size (Obj.mapSeq (fun v=>(#[]:Rr Oi)))).objs.size=s.heap.objs.size+1:=(Heap.SameBut.update ..).1.trans S;refine ao (wpAny_letGo ?_);have ne:∀{b:Nat},b<s.heap.objs.size->b≠s.heap.objs.size:=fun h=>nW h
 have g:∀{b:O4}{o:Obj},b<s.heap.objs.size->s.heap.get? b=ε o->(hp1.update s.heap.objs.size (Obj.mapSeq (fun v=>(#[]:Rr Oi)))).get? b=ε o:=fun h e=>(P _ (ne h)).trans (up e)
 obtain⟨a,b,j⟩:=j;refine Aw (A:=A.in1) hh .none D hn ⟨(ne L).symm,(ne Z).symm,(ne J).symm,(ne I).symm,(ne H).symm,(ne Y).symm,(ne W).symm⟩ (n0:=s.heap.objs.size+1) (yu _) ⟨Hu L,Hu J,Hu I,Hu H⟩ hx he (g L sz) ⟨a,b,g J j⟩ (g Z O) (s1.at fun o e=>g I e) (s2.at fun o e=>g H e) (s3.at fun o e=>g Y e) (s4.at fun o e=>g W e) (by show _<=Array.size _;rw[M];exact Us _) k fun m d U k2 k3 k4 k5=>?_
 exact⟨rfl,hQ m d U (fun b o b1 b2 b3 b4 e=>k2 b o (ne (iu e)) b1 b2 b3 b4 (g (iu e) e)) k3 k4 k5⟩
end
end PySem
namespace L2
def ZE(H:Hp):Oe (O4×HO)->Hp
 | []=>H
 | (a,o)::r=>pB (ZE H r) a o
theorem XJ:∀{news:Oe (O4×HO)},b∉news.map (·.1)->ZE H news b=H b
 | [],_=>rfl
 | (a,o)::r,h=>by simp![Uo,Ba,not_or]at h;show pB (ZE H r) a o b=H b;rw[XA h.1];exact XJ h.2
theorem KZ:∀{news:Oe (O4×HO)},(news.map (·.1)).Nodup->(b,u)∈news->ZE H news b=ε u
 | (a,o)::r,nd,h=>by
  simp![Uo,Mi]at nd;rcases Ba.mp h with e | h
  . cases e;exact oC
  . have:b≠a:=fun e=>nd.1 (e ▸ mem_map_of_mem (f:=(·.1)) h)
    show pB (ZE H r) a o b=_;rw[XA this];exact KZ nd.2 h
section
variable{X:Cx}{a:Oe (O4×Obj)}{d:Oe (Oo V)}{H:Hp}{s:Ou}{h':Ru}
def u7.oj(I:u7 X a d H s)(k:∀b u,s.heap.get? b=ε u->h'.get? b=ε u)(hp:∀p∈news,s.heap.objs.size<=p.1)(nd:(news.map (·.1)).Nodup)(ok:∀p∈news,Ye X.prog X.w (ZE H news) h' p.1 p.2) :
 u7 X a d (ZE H news) { s with heap:=h',toks:=t' }:=by
 have j:∀b,b<s.heap.objs.size->b∉news.map (·.1):=fun b f i=>by obtain⟨p,q,e⟩:=Bs.mp i;have:=hp p q;rw[e]at this;exact Ea f (Je.mpr this)
 have g:∀b u,H b=ε u->ZE H news b=ε u:=fun b u e=>by rw[XJ (j b (Nat.lt_of_not_le fun z=>by rw[I.hok.fresh z]at e;cases e))];exact e
 refine I.step (g':=s.gens) (d':=s.drawn) (ch:=[]) (fun b f=>Ea f ⋯) (fun b o t t t q t=>k b o q) (fun b o t t t q t=>⟨o.slots,k b o q⟩)
  (fun b o t q n=>by rw[XJ (j b (iu q))];exact n) (fun b o t q=>⟨o,k b o q⟩) (fun b x q=>g b _ q) (fun b o u q=>g b _ q)
  (fun b E q=>⟨#[],by rw[g b _ q];simp⟩) (fun m i=>?_) (fun b u q=>?_) I.bare
 . obtain⟨o,C,D,B,r⟩:=i;exact⟨o,C,D,k _ o B,r⟩
 . by_cases f:b∈news.map (·.1)
   . obtain⟨p,h,e⟩:=Bs.mp f;have:=KZ (H:=H) nd (b:=p.1) (u:=p.2) h;rw[e,q]at this;cases this;rw[<- e];exact ok p h
   . rw[XJ f]at q;exact(I.hok b u q).stay (fun c v t y=>k c v y) (fun c q=>g c _ q) fun c x q=>g c _ q
end
def tLZ(K:Pb)(j:TA):TE:=fun h H Q=>j h H fun i e=>∃a b g f,i=[.ref a,.ref b]/\vn K e a g/\vn K e b f/\
 ∀(d:Oe O4)(l:O4),d.length=min g.length f.length->(l::d).Nodup->(∀p∈l::d,e p=none)->Q (.ref l) (ZE e ((l,.lst (d.map V.ref))::d.zip ((g.zip f).map fun p=>HO.tup [p.1,p.2])))
section
variable{X:Cx}
def Rh (hc:X.calm=true) (hg:Gl X "list") (hm:X.mg "list" =none) (a1:Gl X "zip") (a0:X.mg "zip" =none) (ha:PA X [a,b] ta) (hs:autoParam (starEach [a,b] X.env=(false,eval a X.env)::starEach [b] X.env) Æ) (hpl:autoParam ((backTo f (starEach [b] X.env)).any (·.1)=false) Æ) :
 PE X (.Call (.Name "list" p1) [.Call (.Name "zip" p2) [a,b] [] f] [] pos) (tLZ X.K ta):=by
 intro B s σ H Q I h;refine wpAny_Call_Name_kw (nG I hg hm boot_list ?_);refine PyProof.Rows.callWith_type1 ?_ rfl rfl;show wpAny _ _ (spliced ((false,eval (.Call (.Name "zip" p2) [a,b] [] f) X.env)::backTo pos (starEach [] X.env))) _ _ s;refine Calls.spliced_cons ?_;refine Call_ (nG I a1 a0 boot_zip (PyProof.Rows.callWith_type1 (wB (ha f B s σ H _ I h) fun us C zz=>?_) hs hpl));obtain⟨vs,H1,F,r1,q1⟩:=zz;obtain⟨c,d,P,O,e,hq,Z,q⟩:=q1;subst e;obtain⟨u,u',rfl,r,r'⟩:=pQ r1;cases r;cases r';obtain⟨m,rv,pl,hz⟩:=F.list hq;obtain⟨g,J,E,a2⟩:=F.list Z;refine call_zip_2 pl.isList E.isList fun h' z1 z2 z3 z4 z5 a3 k=>?_
 refine Calls.spliced_nil ?_;have D:=ZR (x:=.none) (y:=.none) rfl rfl rfl rfl rfl z1 z3 z4 z5 (pl.isList.at fun o e=>k _ o e) (E.isList.at fun o e=>k _ o e);have hl:=rv.length;have a4:=J.length;have hh:X.A.in1.in1.handled=none:=F.ok.hd hc;have I2:u7 X B σ H1 { C with heap:=h' }:=F.kept (t':=C.toks) k;refine ak (s:={ C with heap:=h' }) hh (n:=min m.length g.length) D nofun ⟨by show _<h'.objs.size;omega,by show _<h'.objs.size;omega,by show _<h'.objs.size;omega,by show _<h'.objs.size;omega,by show _<h'.objs.size;omega⟩ (fun i hi=>⟨m[i],g[i],by simp[show i<m.length by omega],by simp[show i<g.length by omega]⟩) (by
  by_cases z:m.length<=g.length
  . exact .inl (by simp;omega)
  . exact .inr (by simp;omega)) z1 ⟨_,_,z3⟩ z2 z4 z5 (pl.isList.at fun o e=>k _ o e) (E.isList.at fun o e=>k _ o e) fun L as c' k2 k3 T M=>?_
 have kk:∀b o,C.heap.get? b=ε o->L.get? b=ε o:=fun b o e=>by
  have hb:=iu e;have ne:∀i:Nat,b≠C.heap.objs.size+i:=fun i=>nW (jo hb (Ma _ _))
  exact k2 b o (ne 4) (ne 3) (ne 0) (ne 1) (k b o e)
 have nd:(h'.objs.size::as).Nodup:=Mi.mpr ⟨fun hm=>Nat.not_succ_le_self _ (M.2.2 _ hm).1,M.2.1⟩;have ge:∀p∈h'.objs.size::as,C.heap.objs.size<=p:=fun p hp=>by
  rcases Ba.mp hp with rfl | hp
  . omega
  . have:h'.objs.size+1<=p:=(M.2.2 p hp).1;omega
 have lz:((P.zip O).map fun p=>HO.tup [p.1,p.2]).length=as.length:=by rw[mq,length_zip,T];omega
 have keys:((h'.objs.size,HO.lst (as.map V.ref))::as.zip ((P.zip O).map fun p=>HO.tup [p.1,p.2])).map (·.1)=h'.objs.size::as:=by rw[Uo,map_fst_zip nofun]
 have vr:∀l:Oe O4,va (l.map V.ref) (l.map Value.ref):=fun l=>by
  induction l with
  | nil=>exact .nil
  | cons x l ih=>exact .cons rfl ih
 have I3:=F.oj (h':=L) (t':=C.toks) (news:=(h'.objs.size,.lst (as.map V.ref))::as.zip ((P.zip O).map fun p=>HO.tup [p.1,p.2])) kk (fun p hp=>by
  have:p.1∈h'.objs.size::as:=by rw[<- keys];exact mem_map_of_mem hp
  exact ge _ this) (by rw[keys];exact nd) (fun p hp=>by
  rcases Ba.mp hp with rfl | hp
  . exact⟨by rw[mq,T];omega,as.map Value.ref,c',vr as,k3⟩
  . obtain⟨j,hj⟩:=getElem?_of_mem hp;rw[getElem?_zip_eq_some]at hj;obtain⟨j1,j2⟩:=hj;rw[uq,Ga]at j2;obtain⟨w,U,j4⟩:=j2;rw[getElem?_zip_eq_some]at U;obtain⟨x,y,e1,e2,e3⟩:=M.1 j p.1 j1;obtain⟨ux,Y,S⟩:=rv.get U.1;obtain⟨uy,W,R⟩:=J.get U.2;have ex:x=ux:=by simpa using (e1.symm.trans (by simpa using Y):ε x=ε ux)
    have ey:y=uy:=by simpa using (e2.symm.trans (by simpa using W):ε y=ε uy)
    subst ex ey;rw[<- j4];exact⟨by simp![T4,Va];rw[Ca];decide,[x,y],.cons S (.cons R .nil),⟨_,e3,rfl,_,rfl⟩⟩)
 exact⟨.ref h'.objs.size,_,I3,rfl,q as h'.objs.size (by rw[T];omega) nd fun p hp=>F.hok.fresh (ge p hp)⟩
end
end L2
namespace SM
def gP(fa fb:RE):RE:=fun l h=>(fa l h).bind fun r=>(fb l r.2).bind fun q=>match BA q.2 r.1,BA q.2 q.1 with
 | some xs,some ys=>(match TB xs,TB ys with
  | some is,some js=>ε (.lst ((is.zip js).map fun p=>.ntp [p.1,p.2]),q.2)
  | _,_=>none)
 | _,_=>none
theorem qX{K:Pb}:∀(d:Oe O4)(ps:Oe (Int×Int))(H:Hp),Ve K ρ h H->d.length=ps.length->d.Nodup->(∀a∈d,H a=none)->
 Ve K ρ h (ZE H (d.zip (ps.map fun p=>HO.tup [.int p.1,.int p.2])))/\vc ρ ρ H (ZE H (d.zip (ps.map fun p=>HO.tup [.int p.1,.int p.2])))/\Ti K (ZE H (d.zip (ps.map fun p=>HO.tup [.int p.1,.int p.2]))) ρ (ps.map fun p=>Dt.ntp [p.1,p.2]) (d.map V.ref)
 | [],[],H,S,_,_,_=>⟨S,vc.refl _ _,by simp[Ti]⟩
 | [],p::ps,_,_,e,_,_=>by simp at e
 | a::d,[],_,_,e,_,_=>by simp at e
 | a::d,p::ps,H,S,e,nd,no=>by
  obtain⟨j,i⟩:=Mi.mp nd;obtain⟨g,r,o⟩:=qX d ps H S (by simpa using e) i (fun b n=>no b (by simp[n]));have f:ZE H (d.zip (ps.map fun p=>HO.tup [.int p.1,.int p.2])) a=none:=by
   rw[XJ (fun m=>j (by
    obtain⟨q,k,e⟩:=Bs.mp m;rw[<- e];exact(of_mem_zip (a:=q.1) (b:=q.2) k).1))]
   exact no a ⋯
  refine⟨g.fresh f,r.trans (vc.fresh f),?_⟩;show Ti K (pB _ a (.tup [.int p.1,.int p.2])) ρ (.ntp [p.1,p.2]::_) (.ref a::_);simp![Ti];exact⟨_,_,rfl,dq.mpr ⟨a,rfl,g.out f,oC⟩,o.ext (vc.fresh f)⟩
set_option tactic.hygienic true in
theorem Zg (hc:X.calm=true) (hg:Gl X "list") (r:X.mg "list" =none) (s:Gl X "zip") (o:X.mg "zip" =none) (ha:EM X a fa) (x:EM X b fb) (hs:autoParam (ZA a=true) Æ) (j:autoParam (ZA b=true) Æ) :
 EM X (.Call (.Name "list" p1) [.Call (.Name "zip" p2) [a,b] [] f] [] pos) (gP fa fb):=by
 unhygienic
  refine PE.imp (Rh hc hg r s o (mC ha (mC x cD (fB j _ _)) (fB hs _ _)) (fB hs _ _) (EI (by rw[Ks,j];rfl))) fun σ H Q U=>?_
  obtain⟨T,l,h,d,h',S,L,e,k⟩:=U;obtain⟨⟨d1,J⟩,e1,e⟩:=nA e;obtain⟨⟨d2,h2⟩,e2,e⟩:=nA e;refine⟨T,l,h,d1,J,S,L,e1,fun n v H1 R1 S1 R=>⟨n,l,J,d2,h2,S1,L.ext R,e2,fun m u O R2 B P=>?_⟩⟩;dsimp only at e;split at e
  . rename_i xs ys q1 q2;split at e
    . rename_i i g w1 Z;cases e;have C:=T3.ext P _ R1;obtain⟨c,vs,Y,E,I⟩:=zC B C q1;obtain⟨dd,ws,W,D,F⟩:=zC B R2 q2;rw[aE w1]at I;rw[aE Z]at F;rw[I.cm]at E;rw[F.cm]at D;refine⟨c,dd,_,_,by rw[Y,W],E,D,fun y p hl nd no=>?_⟩;obtain⟨n1,n2⟩:=Mi.mp nd;have lz:y.length=(i.zip g).length:=by rw[hl,mq,mq,length_zip]
      obtain⟨M,E3,R3⟩:=qX y (i.zip g) O B lz n2 (fun b x=>no b (by simp[x]));have ez:((i.map V.int).zip (g.map V.int)).map (fun p=>HO.tup [p.1,p.2])=(i.zip g).map fun p=>HO.tup [.int p.1,.int p.2]:=by rw[zip_map,map_map];rfl
      rw[ez];have hp:ZE O (y.zip ((i.zip g).map fun p=>HO.tup [.int p.1,.int p.2])) p=none:=by
       rw[XJ (fun r=>n1 (by
        obtain⟨q,hq,e⟩:=Bs.mp r;rw[<- e];exact(of_mem_zip (a:=q.1) (b:=q.2) hq).1))]
       exact no p ⋯
      exact k m _ _ (mK M R3 hp) (M.fresh hp) ((R.trans P).trans (E3.trans (vc.fresh hp)))
    . cases e
  . cases e
noncomputable def vJ(h:HI):Dt->Oo (Oe (Oe Int×Dt))
 | .ref n=>match h[n]? with
  | some (.dt kvs)=>ε kvs
  | _=>none
 | _=>none
noncomputable def VM:Dt->Oo (Oe Int)
 | .ntp a=>ε a
 | _=>none
def bU(fo fy:RE):RE:=fun l h=>(fo l h).bind fun r=>(fy l r.2).bind fun q=>(VM q.1).bind fun b=>(vJ q.2 r.1).bind fun a=>(tE a b).map fun d=>(d,q.2)
def EQ(fy fo:RE):RE:=fun l h=>(fy l h).bind fun r=>(fo l r.2).bind fun q=>(VM r.1).bind fun b=>(vJ q.2 q.1).map fun a=>(.bl (tE a b).isSome,q.2)
section
variable{K:Pb}{ρ:Rg}{H:Hp}
set_option tactic.hygienic true in
theorem K4(S:Ve K ρ h H)(e:vJ h d=ε kvs)(r:T3 K H ρ d v):∃a vs,v=.ref a/\H a=ε (.dT vs)/\KD K H ρ kvs vs:=by
 cases d with
 | ref n=>
  simp![vJ]at e;split at e
  . rename_i b q;cases e;obtain⟨f,z,g⟩:=ad.mp r;obtain⟨vs,i,g2⟩:=S.ob n f _ g q;exact⟨f,vs,z,i,g2⟩
  . cases e
 | _=>cases e
def V3(e:VM d=ε ks):d=.ntp ks:=by
 cases d with
 | ntp x=>cases e;rfl
 | _=>cases e
end
section
variable{X:Cx}{o i:Pa}{fo fy:RE}{pos:Pos}
def om(hu:X.A.units+64<cLine)(E:EM X o fo)(D:EM X i fy)(hs:xQ i:=by intro _ _;rfl):EM X (.Subscript o i pos) (bU fo fy):=by unhygienic exact PE.imp (mu nofun E D hs) fun Y H Q q=>by obtain⟨p,l,h,dd,h',S,L,e,k⟩:=q;obtain⟨⟨R,g⟩,P,e⟩:=nA e;obtain⟨⟨d2,h2⟩,e2,e⟩:=nA e;obtain⟨f,O,e⟩:=nA e;obtain⟨C,M,e⟩:=nA e;obtain⟨d4,c,e⟩:=Ga.mp e;cases e;cases V3 O;refine⟨p,l,h,R,g,S,L,P,fun d x H1 U T n=>⟨d,l,g,.ntp f,_,T,L.ext n,e2,fun b y W R2 j m=>?_⟩⟩;obtain⟨a,Z,z,I,g2⟩:=K4 j M (T3.ext m _ U);obtain⟨kb,r,nk,F⟩:=dq.mp R2;obtain⟨u,v2⟩:=KD.val (K:=X.K) f g2;obtain⟨s,J,B⟩:=u _ c;exact⟨a,s,z,by rw[r,<- J];exact bt.t I (by rw[lK];exact F),k b _ W B j (n.trans m)⟩
def b9(hu:X.A.units+64<cLine)(D:EM X i fy)(E:EM X o fo)(F:autoParam (behindInMarks .In o=false) Æ):EM X (.Compare i [.In] [o] pos) (EQ fy fo):=by
 unhygienic
  exact PE.imp (Oq (Mq nofun D E) F) fun σ H Q r=>by
   obtain⟨q,l,h,dd,h',S,L,e,k⟩:=r;obtain⟨⟨d1,j⟩,R,e⟩:=nA e;obtain⟨⟨U,h2⟩,e2,e⟩:=nA e;obtain⟨b,P,e⟩:=nA e;obtain⟨g,O,e⟩:=Ga.mp e;cases e;cases V3 P;refine⟨q,l,h,.ntp b,j,S,L,R,fun f x H1 Y W p=>⟨f,l,j,U,_,W,L.ext p,e2,fun d y Z R2 m n=>?_⟩⟩;obtain⟨a,u,z,J,g2⟩:=K4 m O R2;obtain⟨kb,s,nk,I⟩:=dq.mp (T3.ext n _ Y);obtain⟨C,B⟩:=KD.val (K:=X.K) b g2;refine⟨a,BE u (b.map Sum.inl),z,by rw[s];exact bt.t J (by rw[lK];exact I),k d _ Z (Za.mpr ?_) m (p.trans n)⟩;cases c:tE g b with
   | none=>rw[B c];rfl
   | some T=>obtain⟨v4,M,_⟩:=C T c;rw[M];rfl
end
end SM
namespace PySem
noncomputable def oN (a:Bool):Obj:={ cls:=.type "set",dict:=none,data:=.set #[] 0 (.fresh 0 0 a) }
section
variable{prog:Pu}{w:Ri}{A:Ro}{E:Oi->Ou->Prop}{s:Ou}
set_option maxHeartbeats 3200000 in
def on(hh:A.handled=none)(hl:s.heap.IsTuple l items)(hi:IntsAre items.toList ns)(C:items.size+1<scanBound)
 (h:∀(h':Ru)(y:Nat),h'.SetOf (intKind prog w) s.heap.objs.size (fun I=>(firstMet (fun i=>ns.getD i 0) items.size).any (· ==I)) (firstMet (fun i=>ns.getD i 0) items.size).length->(∀b o,b<s.heap.objs.size->s.heap.get? b=ε o->h'.get? b=ε o)->Q (.ref s.heap.objs.size) { s with heap:=h',toks:=y }) :
 wpAny (model prog w) A (call (.type "set") [.ref l]) Q E s:=by
 obtain⟨c,tl,Y⟩:=PySem.F.called_set.mro;have L:=PySem.F.called_set.made;have W:=PySem.F.called_set.sub;refine wpAny_call (codeAny_of_tree ?_);show wpAny _ _ (callAny (.type "set") _) _ _ _;refine au ⟨Code.quiet_builtin _ (by decide +kernel),Ii PySem.F.entry_type_call ?_⟩;rw[Around.under_plain (weight_type_call_type "set" [.ref l] []) rfl];have k1:=PySem.F.called_set.notType;have k2:=PySem.F.called_set.canCreate;have k3:=PySem.F.typeCall_set_1 (.ref l)
 repeat (any_goals (first | assumption | wp_step))
 refine codeAny_mono (code_set_new_1 (.ref l) (E:=E) (Q₁:=fun ob j=>∃a:Bool,ob=.ref s.heap.objs.size/\j={ s with heap:=s.heap.push (oN a) }) fun a=>⟨a,rfl,rfl⟩) fun r j J=>?_
 cases r with
 | error e=>exact J
 | ok fl=>
  cases fl with
  | ret ob=>
   obtain⟨a,rfl,rfl⟩:=J;have Z:(s.heap.push (oN a)).get? s.heap.objs.size=ε (oN a):=jj _ rfl;have gT:Shared.TypeIs { s with heap:=s.heap.push (oN a) } (.ref s.heap.objs.size) "set" :=⟨_,Z,rfl⟩;have k4:=PySem.F.called_set.init.lookup;have k5:=PySem.F.called_set.init.bind (.ref s.heap.objs.size)
   repeat (any_goals (first | assumption | wp_step))
   refine codeAny_mono (codeAny_call_builtin (R:=wants (fun r g=>r=.none/\∃h' y,g={ s with heap:=h',toks:=y }/\h'.SetOf (intKind prog w) s.heap.objs.size (fun I=>(firstMet (fun i=>ns.getD i 0) items.size).any (· ==I)) (firstMet (fun i=>ns.getD i 0) items.size).length/\(∀b o,b<s.heap.objs.size->s.heap.get? b=ε o->h'.get? b=ε o)) E)
    PySem.F.called_set.init.plain PySem.F.entry_set_init (check_set_init_1 gT ?_)) fun p g d=>?_
   . obtain⟨ol,q,x,nl,u⟩:=hl;obtain⟨T,k,H,f⟩:=ol;dsimp only at x u;subst x u;have g2:(s.heap.push (oN a)).get? l=ε { cls:=.type "tuple",dict:=k,data:=.seq items nl,slots:=f }:=cu _ q;have k6:=PySem.F.sub_tuple_set;have k7:=PySem.F.sub_tuple_frozenset;have k8:(Value.type "tuple" ==Value.type "dict")=false:=by decide
     have g3:(s.heap.push (oN a)).IsTuple l items:=⟨_,g2,rfl,nl,rfl⟩;unfold Builtin.«set.__init__» noKeywords Builtin.Frozenset.updateFrom;generalize P:pyIter=PI
     wp_walk
     subst P;refine wpAny_pyIter_tuple g3 ?_;refine ao (wpAny_runValue ?_);have U:l<s.heap.objs.size:=iu q;have gL:(s.heap.push (oN a)).objs.size=s.heap.objs.size+1:=Li _ _;have k9:l≠(s.heap.push (oN a)).objs.size:=by rw[gL];exact nW (Hu U)
     have hf:s.heap.objs.size ∉ [(s.heap.push (oN a)).objs.size,l]:=by rw[gL];simp![Ba,not_mem_nil,or_false,not_or];exact⟨nW (yu _),Du U⟩
     refine codeAny_set_update_loopS ((Walks.tuple (by simp[hh]) _ l k9 items).toS) s.heap.objs.size hf (fun i=>ns.getD i 0) (fun i v hv=>IntsAre.int_at hi i v (by rw[Array.getElem?_toList];exact hv)) C (items.size-0) 0 _ nofun (m6 _) ⟨⟨_,jj _ rfl,rfl,rfl⟩,(g3.push _)⟩ ?hS0 ?hR
     case hS0=>refine SetOf_congr (Obj.SetObjOf.setOf (knd:=intKind prog w) (o:=(oN a)) (S:=fun z=>false) (n:=0) (setObjOf_fresh a) (cu _ Z) (by unfold scanBound;omega)) (fun z=>rfl) rfl
     case hR=>intro s' B hS;obtain⟨h',g',d',D,F⟩:=s';have eg:g'=s.gens:=B.gens;have ed:d'=s.drawn:=B.drawn;have eo:F=s.os:=B.os;subst eg ed eo;show wpAny _ _ _ _ _ _;refine au ?_;show wpAny _ _ (ret Value.none) _ _ _;refine au ⟨rfl,h',D,rfl,hS,fun b o C e=>B.heap b o ?_ (cu _ (cu _ e))⟩;rw[gL];simp![Ba,not_mem_nil,or_false,not_or];exact⟨nW C,nW (Hu C)⟩
   . cases p with
     | error e=>exact d
     | ok m=>
      cases m with
      | ret r=>
       obtain⟨rfl,h',y,rfl,O,M⟩:=d
       repeat (any_goals (first | assumption | wp_step))
       exact h _ _ O M
      | _=>exact d.elim
  | _=>exact J.elim
end
end PySem
namespace L2
section
variable{X:Cx}
def Pr (E:X.calm=true):ae X (.type "set") (fun i H Q=>∃q ns,i=[.ref q]/\LG X.K H q (ns.map V.int)/\ns.length+1<4096/\
 ∀p,H p=none->Q (.ref p) (pB H p (.set (fun k=>(LB ns).any (· ==k)) (LB ns).length))):=by
 intro j s F H i J Q I r h;obtain⟨q,ns,rfl,C,M,f⟩:=h;obtain⟨u,rfl,y⟩:=kF r;cases y;obtain⟨d,B,pl,L⟩:=I.tuple C;have m:=VJ B;have D:d.length=ns.length:=IntsAre.length m;have e:d.toArray.size=ns.length:=by rw[cG,D]
 refine PySem.on (items:=d.toArray) (ns:=ns) (I.ok.hd E) pl (by simpa using m) (by rw[e];unfold scanBound;omega) fun O x n kp=>?_
 rw[JZ ns _ e]at n;exact⟨.ref s.heap.objs.size,_,I.laid (a:=s.heap.objs.size) (o:=.set (fun k=>(LB ns).any (· ==k)) (LB ns).length) (t':=x) (fun b u g=>kp b u (iu g) g) (Us _) n,rfl,f _ (I.hok.fresh (Us _))⟩
end
end L2
namespace SM
def jP:Dt->HI->Oo (Dt×HI):=fun d h=>match d with
 | .tup a=>(TB a).bind fun ns=>if ns.length+1<4096 then ε (.int (LB ns).length,h)else none
 | _=>none
section
variable{X:Cx}{e:Pa}{f:RE}{p p' pos pos':Pos}
def Yg (u:X.calm=true) (s:Gl X "len") (o:X.mg "len" =none) (i:Gl X "set") (g:X.mg "set" =none) (x:EM X e f) (hs:autoParam (ZA e=true) Æ) :
 EM X (.Call (.Name "len" p) [.Call (.Name "set" p') [e] [] pos'] [] pos) (VB jP f):=by
 unhygienic
  exact PE.imp (mM TX s o PySem.boot_len (mC (VR (Pr u) i g boot_set (mC x cD (fB hs _ _)) (he:=fB hs _ _)) cD rfl)) fun F H Q m=>by
   obtain⟨j,l,h,d,O,S,L,e,k⟩:=m;obtain⟨⟨B,M⟩,y,e⟩:=nA e;cases B with
   | tup I=>obtain⟨ns,q,e⟩:=nA e;obtain⟨n,e⟩:=EF e;cases e;refine⟨j,l,h,_,_,S,L,y,fun b v P D C E=>?_⟩;obtain⟨a,J,z,sq,r⟩:=ai.mp D;rw[aE q]at r;rw[r.cm]at sq;exact⟨a,ns,by rw[z],sq.sq,n,fun w hw=>⟨w,_,_,rfl,oC,k b _ _ (Xa.mpr rfl) (C.fresh hw) (E.trans (vc.fresh hw))⟩⟩
   | _=>cases e
end
noncomputable def i6:Dt->Oo (Oe Dt)
 | .tup a=>ε a
 | _=>none
def lI(f:RE)(lo b:RO):RE:=fun l h=>(f l h).bind fun r=>(lo l r.2).bind fun o=>(b l o.2).bind fun u=>(i6 r.1).bind fun a=>if ¬(HT.sIx a.length 0 o.1=0/\HT.sIx a.length a.length u.1=a.length)then ε (.tup (XE a o.1 u.1),u.2)else none
section
variable{X:Cx}{a:Pa}{fa:RE}{pos p2:Pos}
def Vt{lo m:Oo Pa}(P:EM X a fa)(M:zU X lo s)(O:zU X m y):EM X (.Subscript a (.Slice lo m none p2) pos) (lI fa s y):=by
 unhygienic
  exact PE.imp (KY gj P M O) fun Z H Q I=>by
   obtain⟨F,l,h,d,h',S,L,e,k⟩:=I;obtain⟨⟨C,q⟩,T,e⟩:=nA e;obtain⟨⟨o,n⟩,e2,e⟩:=nA e;obtain⟨⟨u,h3⟩,R,e⟩:=nA e;obtain⟨xs,B,e⟩:=nA e;obtain⟨c,e⟩:=HQ e;cases e;refine⟨F,l,h,C,q,S,L,T,fun g v H1 Y W j=>⟨g,l,q,o,n,W,L.ext j,e2,fun f H2 U i=>⟨f,l,n,u,_,U,L.ext (j.trans i),R,fun b H3 D E=>?_⟩⟩⟩;cases C with
   | tup ys=>cases B;obtain⟨x,J,z,sq,r⟩:=ai.mp (T3.ext (i.trans E) _ Y);exact⟨x,J,z,sq.sq,by rw[r.length];exact c,fun p hp=>k b _ _ (UI D (AZ r o u) hp) (D.fresh hp) (j.trans (i.trans (E.trans (vc.fresh hp))))⟩
   | _=>cases B
end
end SM
namespace PySem
section
variable{prog:Pu}{w:Ri}{A:Ro}{E:Oi->Ou->Prop}{s:Ou}
def cb(d:O4)(ks:Oe O4)(ep:Nat)(h:Ru):Prop:=∃o a,h.get? d=ε o/\o.ExactDict/\o.data=.dict a ep/\a.toList.map (·.key)=ks.map Value.ref
def cb.ty (x:cb d ks ep s.heap):s.TypeIs (.ref d) "dict" :=by obtain⟨o,_,a,b,_⟩:=x;exact⟨o,a,b.1⟩
def cb.lt(x:cb d ks ep h):d<h.objs.size:=by obtain⟨o,_,a,_⟩:=x;exact iu a
def cb.to(x:cb d ks ep h)(k:∀o,h.get? d=ε o->h'.get? d=ε o):cb d ks ep h':=by obtain⟨o,b,a,r⟩:=x;exact⟨o,b,k o a,r⟩
def Cp(hd:(d==sysModules)=false)(g:cb d ks ep s.heap)
 (i:Q (.ref s.heap.objs.size) { s with heap:=s.heap.push { cls:=.type "dict_keyiterator",data:=.fields #[.ref d,.int 0 0,.int ks.length 0,.int ep 0] } }):wpAny (model prog w) A (pyIter (.ref d)) Q E s:=by
 have e:=g.ty;obtain⟨o,j,f,k,a,h⟩:=g;have b:j.size=ks.length:=by have:=congrArg List.length h;simpa using this
 refine wpAny_pyIter_slot e F.slot_dict_iter (wpAny_call_entry F.slot_dict_iter e F.entry_dict_iter ?_ (F.args_dict_iter_1 _));unfold Builtin.«dict.__iter__»;refine ao ?_;unfold Builtin.Dict.dictSlotNone;refine ao (wpAny_notOrdered_dict e ?_);show wpAny _ _ (pure (Value.ref d)) _ _ s;refine au ?_;show wpAny _ _ (Builtin.Dict.showsAll d >>=_) _ _ s;unfold Builtin.Dict.showsAll;rw[eG (by rw[hd];exact Vu)];refine ao (au ?_);refine ao (wpAny_dictEntries f a ?_);refine ao (wpAny_dictEpoch f a ?_);refine ao (Ae (au ⟨_,rfl, "dict_keyiterator",_,⟨_,jj _ rfl,rfl⟩,F.slot_dict_keyiterator_next.lookup,?_⟩));simpa[rawInt,b]using i
def QY(I:A.handled=none)(u:s.heap.IsKeyIter e d i ks.length ep)(H:cb d ks ep s.heap)
 (M:∀a k,ks[i]?=ε a->k.IsKeyIter e d (i+1) ks.length ep->Heap.SameBut e s.heap k->Q (ε (.ref a)) { s with heap:=k })
 (O:∀k,ks[i]?=none->Heap.ExtBut e s.heap k->Q none { s with heap:=k }):wpAny (model prog w) A (pyNext (.ref e)) Q E s:=by
 have g:=u.typeIs;obtain⟨o,y,L,hd⟩:=id u;obtain⟨P,n,q,J,x,C⟩:=H;have j:n.size=ks.length:=by have:=congrArg List.length C;simpa using this
 unfold pyNext;refine ao (wpAny_attempt (wpAny_callSpecial?_slot (name:=Str.ofString "__next__") g F.slot_dict_keyiterator_next (wpAny_call_entry F.slot_dict_keyiterator_next g F.entry_dict_keyiterator_next ?_ (F.args_dict_keyiterator_next_1 _))));refine ao (au ?_);refine ao ?_;refine ao ?_
 first | refine ao (wpAny_typeNameOfWhole_keyiter g (au ?_)) | refine ao (wpAny_typeNameOf_keyiter g (au ?_))
 refine ao (wpAny_fieldsOf y hd ?_);have own:Builtin.Dict_items.ownsTuple "dict_keyiterator" =false:=by decide
 rw[own];show wpAny _ _ (if(Value.ref d==Value.none)=true then _ else _) _ _ s;rw[eG (show ¬((Value.ref d==Value.none)=true)from Vu)];refine ao (au ?_);refine ao (wpAny_dictEntries q x ?_);rw[eG (by rw[j];simp)];refine ao (au ?_);refine ao (wpAny_dictEpoch q x ?_);rw[eG ⋯];refine au ?_;cases p:ks[i]? with
 | some a=>
  have r:i<n.size:=by rw[j];exact(Wk p).1
  have f:n[i].key=.ref a:=by
   have D:(n.toList.map (·.key))[i]?=(ks.map Value.ref)[i]?:=by rw[C]
   rw[uq,uq,p,Array.getElem?_toList,Array.getElem?_eq_getElem r]at D;exact ou D
  dsimp only;rw[eG (show ¬((i:Int)<0)from by omega),ni,Array.getElem?_eq_getElem r];dsimp only;refine ao ?_
  first | refine ao (wpAny_typeNameOfWhole_keyiter g (au ?_)) | refine ao (wpAny_typeNameOf_keyiter g (au ?_))
  refine ao (wpAny_isOneOf_keyiter g ?_);show wpAny _ _ (setField (.ref e) 1 (rawInt ((i:Int)+1)) >>=_) _ _ s;refine ao (wpAny_setField y hd ⋯ ?_);have h:(s.heap.update e (Obj.mapFields (·.setIfInBounds 1 (rawInt ((i:Int)+1))))).IsKeyIter e d (i+1) ks.length ep:=⟨_,Ge _ y (Obj.isFreed_of_fields (Obj.data_mapFields hd _)),(Obj.cls_mapFields ..).trans L,by rw[Obj.data_mapFields hd];simp[rawInt]⟩;refine ao (Es ?_);refine ao (wpAny_isOneOf_keyiter (s:={ s with heap:=s.heap.update e (Obj.mapFields (·.setIfInBounds 1 (rawInt ((i:Int)+1)))) }) h.typeIs ?_);show wpAny _ _ (pure n[i].key) _ _ _;rw[f];exact au (au ⟨_,rfl,au (M a _ p h (Heap.SameBut.update ..))⟩)
 | none=>
  have B:n.size<=i:=by rw[j];simpa using p
  dsimp only;rw[eG (show ¬((i:Int)<0)from by omega),ni,Array.getElem?_eq_none B];dsimp only;refine ao ?_
  first | refine ao (wpAny_typeNameOfWhole_keyiter g (au ?_)) | refine ao (wpAny_typeNameOf_keyiter g (au ?_))
  show wpAny _ _ (setField (.ref e) 0 .none >>=_) _ _ s;refine ao (wpAny_setField y hd ⋯ ?_);show wpAny _ _ (newExc (.type "StopIteration") [] >>=_) _ _ _;refine ao ?_;simp![newExc,newTuple];refine ao (Ae ?_ (by size_fits));refine ao (m:=firstArgMember _ _) (wpAny_of_eq (a:=Value.none) (by first | rfl | (simp![firstArgMember];rfl)) ?_);refine Ae ?_ (by size_fits);simp![raiseNew];refine ao (wpAny_handled ?_);rw[show A.in1.handled=none from I];refine ao (au (wpAny_throw ?_));refine ao (wpAny_isInstance (T := "StopIteration") (b:=true) ⟨_,jj _ rfl,rfl⟩ isSubtype_stop ?_);exact au (O _ p (((Heap.SameBut.update ..).extBut.push _).push _))
def yc(u:A.handled=none)(I d:O4)(p:d≠I)(ks:Oe O4)(ep:Nat):Walks prog w A I [I,d] [I] ks.length (fun i v=>∃a,ks[i]?=ε a/\v=.ref a) (fun i h=>h.IsKeyIter I d i ks.length ep/\cb d ks ep h) where
 sub:=fun b g=>by simp at g;simp[g]
 frame:=fun z z z st r=>⟨st.1.at fun o e=>r I ⋯ o e,st.2.to fun o e=>r d ⋯ o e⟩
 item:=fun i s Q E x st m=>QY u st.1 st.2 (fun a n f k j=>m _ n s.toks ⟨a,f,rfl⟩ ⟨k,st.2.to fun o e=>j.extBut d o p e⟩ fun b o g e=>j.extBut b o (fun h=>g (by simp[h])) e) (fun n f z=>by
  rw[ji x]at f;cases f)
 done:=fun s Q E st m=>QY u st.1 st.2 (fun a n f z z=>by
  rw[ju (Us _)]at f;cases f) fun n z q=>m n s.toks fun b o g e=>q b o (fun h=>g (by simp[h])) e
 self:=fun z z z z st m=>wpAny_pyIter_keyiter st.1 m
def oo {d:O4} {ks:Oe O4} {ep:Nat} (lo:(d==sysModules)=false):W.KdlSrc prog w "dict" d d ks.length (fun i v=>∃a,ks[i]?=ε a/\v=.ref a) (cb d ks ep) where
 type:=fun q b=>b.ty
 there:=fun q b=>⟨b.lt,b.lt⟩
 keep:=fun q q b g=>b.to fun o e=>g d (.inl rfl) o e
 notList:=by decide
 notTuple:=by decide
 hint:=fun q q q q b f=>W.kdl_hint_dict b.ty f
 iter:=fun q q h b=>⟨_,_,(fun q q f=>Cp lo b f),yc h _ d (nW b.lt) ks ep,⟨⟨_,jj _ rfl,rfl,rfl⟩,b.to fun o e=>cu _ e⟩⟩
end
end PySem
namespace L2
open PySem.W
theorem F0:∀{ks:Oe O4}{us:Oe Oi},us.length=ks.length->(∀(j:Nat)(v:Oi),us[j]?=ε v->∃a,ks[j]?=ε a/\v=.ref a)->va (ks.map V.ref) us
 | [],[],_,_=>.nil
 | [],_::_,h,_=>by simp at h
 | _::_,[],h,_=>by simp at h
 | p::ks,u::us,h,k=>by obtain⟨q,e,z⟩:=k 0 u rfl;cases (show p=q by simpa using e);exact .cons z (F0 (by simpa using h) fun j v e=>k (j+1) v (by simpa using e))
section
variable{X:Cx}
def Ik (W:X.calm=true):ae X (.type "list") (fun f H Q=>∃a d,f=[.ref a]/\H a=ε (.dT d)/\∀l ks,H l=none->Paired (fun(p:Oe MB×V) (b:O4)=>H b=ε (.tup (p.1.map kV))) d ks->Q (.ref l) (pB H l (.lst (ks.map V.ref)))):=by
 intro m s Z H f us Q I r y;obtain⟨a,d,ex,e,q⟩:=y;subst ex;obtain⟨u,rfl,D⟩:=va.one r;cases (show u=Value.ref a from D);obtain⟨i,E,f,F,o,T,ep,S,R,P,x,O⟩:=(show Ye X.prog X.w H s.heap a (.dT d)from I.hok a _ e);have k:Paired (fun(p:Oe MB×V) (b:O4)=>H b=ε (.tup (p.1.map kV))) d (f.map (·.2.1)):=by
  clear x O i e q
  induction F with
  | nil=>exact .nil
  | cons J t ih=>exact .cons J.2.1 ih
 have n:d.length=(f.map (·.2.1)).length:=Paired.length k;refine kdl_call (oo (ks:=f.map (·.2.1)) (ep:=ep) E) (I.ok.hd W) ⟨o,T,S,R,P,by rw[x,map_map,map_map];rfl⟩ (by rw[<- n];exact i) fun h' C h Y L M g=>?_
 have B:va ((f.map (·.2.1)).map V.ref) h.toList:=F0 (by rw[za,g.1]) fun j v U=>g.2 j v (by rw[<- Array.getElem?_toList];exact U)
 exact⟨.ref s.heap.objs.size,_,I.laid (a:=s.heap.objs.size) (o:=.lst ((f.map (·.2.1)).map V.ref)) (h':=h') (t':=C) L (Us _) ⟨by rw[mq,<- n];exact i,h.toList,Y,B,by rw[Array.toArray_toList];exact M⟩,rfl,q _ _ (I.hok.fresh (Us _)) k⟩
end
end L2
namespace SM
noncomputable def NM(d:Dt)(h:HI):Oo (Dt×HI):=match d with
 | .ref n=>match h[n]? with
  | some (.dt kvs)=>ε (.lst (kvs.map fun p=>.tup (p.1.map Dt.int)),h)
  | _=>none
 | _=>none
def Zb{K:Pb}(S:Ve K ρ h H){kvs:Oe (Oe Int×Dt)}(e:vs.map (·.1)=kvs.map (fun p=>p.1.map Sum.inl))
 (q:Paired (fun(p:Oe MB×V) (b:O4)=>H b=ε (.tup (p.1.map kV))) vs ks):Ti K H ρ (kvs.map fun p=>.tup (p.1.map Dt.int)) (ks.map V.ref):=by
 induction q generalizing kvs with
 | nil=>
  cases kvs with
  | nil=>exact Ti.nil
  | cons _ _=>cases e
 | @cons v k vs ks d t ih=>
  cases kvs with
  | nil=>cases e
  | cons p kvs=>
   rw[Uo,Uo]at e;injection e with f e2
   have a:H k=ε (.tup (p.1.map V.int)):=by rw[<- lK,<- f];exact d
   exact Ti.cons (ai.mpr ⟨k,_,rfl,.inl ⟨S.ia a,.inl a⟩,Ti.ints p.1⟩) (ih e2)
section
variable{X:Cx}{e:Pa}{f:RE}{p pos:Pos}
set_option tactic.hygienic true in
theorem Ab (u:X.calm=true) (r:Gl X "list") (o:X.mg "list" =none) (g:EM X e f) (hs:autoParam (ZA e=true) Æ):EM X (.Call (.Name "list" p) [e] [] pos) (VB NM f):=by
 unhygienic
  exact M4 (Ik u) (fun i h d v B y H Q S R e k=>by
   unfold NM at e;cases d with
   | ref n=>
    dsimp only at e;split at e
    . rename_i a q;cases e;obtain⟨j,z,g⟩:=ad.mp R;obtain⟨vs,s,g2⟩:=S.ob n j _ g q;have g3:KD X.K H i a vs:=g2;exact⟨j,vs,by rw[z],s,fun l x b m=>k i _ _ (mK S (Zb S g3.1 m) b) (S.fresh b) (vc.fresh b)⟩
    . cases e
   | _=>cases e) r o PyProof.Rows.boot_list g (hs:=hs)
end
noncomputable def xE(f:Dt->Dt->Bool):Oe Dt->Oe Dt->Bool
 | [],[]=>true
 | x::xs,y::ys=>f x y&&xE f xs ys
 | _,_=>false
def UF(h:HI):Nat->Dt->Dt->Bool
 | 0,_,_=>false
 | n+1,a,b=>match a,b with
  | .int i,.int j=>decide (i=j)
  | .str i,.str j=>decide (i=j)
  | .tup xs,.tup ys=>xE (UF h n) xs ys
  | a,b=>match BA h a,BA h b with
   | some xs,some ys=>xE (UF h n) xs ys
   | _,_=>false
def F6(h:HI)(a b:Dt):Bool:=match BA h a,BA h b with
 | some xs,some ys=>xE (UF h 6) xs ys
 | _,_=>false
theorem cP:∀{xs ys:Oe Dt},xE f xs ys=true->xs.length=ys.length
 | [],[],_=>rfl
 | x::xs,y::ys,e=>by rw[xE,vm]at e;rw[T4,T4,cP e.2]
 | [],_::_,e=>nomatch (show false=true from e)
 | _::_,[],e=>nomatch (show false=true from e)
section
variable{X:Cx}{g:Oe (O4×Obj)}{l:L2.St}{H:Hp}{s:Ou}{ρ:Rg}
theorem pP(p:∀d d'{v h:V}{u o:Oi},f d d'=true->T3 X.K H ρ d v->T3 X.K H ρ d' h->ve v u->ve h o->SeqAt.EqAt A s u o true) :
 ∀{xs ys:Oe Dt}{vs b:Oe V}{us a:Oe Oi},xE f xs ys=true->Ti X.K H ρ xs vs->Ti X.K H ρ ys b->va vs us->va b a->∀(j:Nat)(h1:j<us.length)(h2:j<a.length),SeqAt.EqAt A s us[j] a[j] true
 | [],[],_,_,_,_,_,r,_,q,_,j,h1,_=>by cases r.ba;cases q;exact Ea h1 ⋯
 | x::xs,y::ys,_,_,_,_,e,r,r',q,q',j,h1,h2=>by
  rw[xE,vm]at e;obtain⟨v,E,rfl,D,C⟩:=r.Zi;obtain⟨h,B,rfl,k,i⟩:=r'.Zi;cases q with
  | cons q1 q2=>
   cases q' with
   | cons n m=>
    cases j with
    | zero=>exact p x y e.1 D k q1 n
    | succ j=>exact pP p e.2 C i q2 m j (Nat.lt_of_succ_lt_succ h1) (Nat.lt_of_succ_lt_succ h2)
 | [],_::_,_,_,_,_,e,_,_,_,_,_,_,_=>nomatch (show false=true from e)
 | _::_,[],_,_,_,_,e,_,_,_,_,_,_,_=>nomatch (show false=true from e)
def qT(n):(List.range n).all (fun q=>true)=true:=by simp
set_option tactic.hygienic true in
theorem pT(I:u7 X g l H s)(S:Ve X.K ρ h H):∀n A,A.units+n<cLine->∀d d'{v J:V}{u L:Oi},UF h n d d'=true->T3 X.K H ρ d v->T3 X.K H ρ d' J->ve v u->ve J L->SeqAt.EqAt A s u L true
 | 0,_,_,_,_,_,_,_,_,e,_,_,_,_=>nomatch (show false=true from e)
 | n+1,A,hu,d,d',v,J,u,L,e,r,r',q,q'=>by
  have C:A.units<cLine:=by omega
  have P:A.in1.units+n<cLine:=by have:=iS A;omega
  unfold UF at e;split at e
  . rename_i i j;obtain rfl:=of_decide_eq_true e;cases Xa.mp r;cases Xa.mp r';obtain⟨t,rfl⟩:=q;obtain⟨p,rfl⟩:=q';have:=SeqAt.EqAt.int_int (A:=A) (s:=s) i t i p;rw[Ci]at this;exact this
  . rename_i i j;obtain rfl:=of_decide_eq_true e;cases cn.mp r;cases cn.mp r';obtain⟨t,rfl⟩:=q;obtain⟨p,rfl⟩:=q';have:=SeqAt.EqAt.str_str (A:=A) (s:=s) i t i p;rw[Ci]at this;exact this
  . obtain⟨a,R,z,t,y⟩:=ai.mp r;obtain⟨b,Q,F,p,k⟩:=ai.mp r';subst z F;cases q;cases q';obtain⟨O,x,M,_⟩:=I.tuple t.sq;obtain⟨B,f,o,_⟩:=I.tuple p.sq;by_cases m:a=b
    . subst m;exact SeqAt.EqAt.same _
    . refine .of_refs m ?_;have ih:=pP (fun d d'=>pT I S n A.in1 P d d') e y k x f;have z:=SeqAt.RcAt.tuples (e:=fun _=>true) (WJ M) (WJ o) C fun j E D=>by rw[cG]at E D;simpa using ih j E D
      rw[qT,cG,cG,<- x.length,<- f.length,y.length,k.length,cP e,Ci]at z;exact z
  . split at e
    . rename_i U T q1 q2;obtain⟨a,R,z,t,y⟩:=zC S r q1;obtain⟨b,Q,F,p,k⟩:=zC S r' q2;subst z F;cases q;cases q';obtain⟨O,x,M,_⟩:=I.list t;obtain⟨B,f,o,_⟩:=I.list p;by_cases m:a=b
      . subst m;exact SeqAt.EqAt.same _
      . refine .of_refs m ?_;have ih:=pP (fun d d'=>pT I S n A.in1 P d d') e y k x f;have z:=SeqAt.RcAt.lists (e:=fun _=>true) M.isList o.isList (by rw[cG,cG,<- x.length,<- f.length,y.length,k.length,cP e]) C fun j E D=>by rw[cG]at E D;simpa using ih j E D
        rw[qT]at z;exact z
    . cases e
def AJ:qD:=fun a b h=>if F6 h a b=true then ε (.bl false,h)else RC a b h
set_option tactic.hygienic true in
theorem yq(M:X.A.units+64<cLine):OM X (compareOp .NotEq) AJ:=by
 unhygienic
  intro g s l H x y v u Q I o n h;obtain⟨ρ,h,R,P,d,O,S,D,R2,e,k⟩:=h;unfold AJ at e;split at e
  . rename_i c;cases e;unfold F6 at c;split at c
    . rename_i W U q1 q2;obtain⟨a,Z,z,t,q⟩:=zC S D q1;obtain⟨b,Y,E,J,i⟩:=zC S R2 q2;subst z E;cases o;cases n;obtain⟨L,p,F,_⟩:=I.list t;obtain⟨r,f,m,_⟩:=I.list J;have ih:=pP (fun d T=>pT I S 6 X.A.in1 (by have:=iS X.A;omega) d T) c q i p f;refine fZ (e:=fun _=>true) F.isList m.isList (by rw[cG,cG,<- p.length,<- f.length,q.length,i.length,cP c]) nofun (fun j C B=>by
       rw[cG]at C B;simpa using ih j C B) ?_
      exact⟨.bl _,H,I,rfl,k ρ _ H (Za.mpr (congrArg V.bl (by rw[qT];rfl))) S (vc.refl _ _)⟩
    . cases c
  . exact oK M g s l H x y v u Q I o n ⟨ρ,h,R,P,d,O,S,D,R2,e,k⟩
end
section
variable{X:Cx}{a b c d:Pa}{fa fb e f:RE}
def eD(h:EM X a fa)(g:autoParam (ZA a=true) Æ):AM X [a] (bA fa dA):=DE h vF g
def sB(j:EM X a fa)(i:EM X b fb)(h:autoParam (ZA a=true) Æ)(g:autoParam (ZA b=true) Æ):AM X [a,b] (bA fa (bA fb dA)):=DE j (eD i g) h
def CF(m:EM X a fa)(k:EM X b fb)(j:EM X c e)(i:autoParam (ZA a=true) Æ)(h:autoParam (ZA b=true) Æ)(g:autoParam (ZA c=true) Æ):AM X [a,b,c] (bA fa (bA fb (bA e dA))):=DE m (sB k j h g) i
def MG(m:EM X a fa)(k:EM X b fb)(j:EM X c e)(hd:EM X d f)(i:autoParam (ZA a=true) Æ)(h:autoParam (ZA b=true) Æ)(g:autoParam (ZA c=true) Æ)(nd:autoParam (ZA d=true) Æ):AM X [a,b,c,d] (bA fa (bA fb (bA e (bA f dA)))):=DE m (CF k j hd h g nd) i
end
def Dn(s:Ra)(m:Nat):Oe Str:=((kB s).names.map Prod.fst).take m
end SM
namespace G
def top(i:Nat):Ra:=PySem.Challenge.pw_spanways_k22_whole_three_stretches.main.body.getD i (.Pass ⟨0,0,0,0⟩)
noncomputable abbrev fN:Dt:=(.int 8191)
noncomputable def oq:Oe Dt:=[(.tup [(.int 0),(.int 0)]),(.tup [(.int 0),(.int 1)]),(.tup [(.int 0),(.int 2)]),(.tup [(.int 0),(.int 3)]),(.tup [(.int 0),(.int 4)]),(.tup [(.int 1),(.int 2)]),(.tup [(.int 1),(.int 3)]),(.tup [(.int 1),(.int 4)]),(.tup [(.int 2),(.int 2)]),(.tup [(.int 2),(.int 3)]),(.tup [(.int 2),(.int 4)]),(.tup [(.int 3),(.int 4)]),(.tup [(.int 4),(.int 4)])]
abbrev uZ:Dt:=.tup oq
noncomputable def cv:Oe Dt:=[(.tup [(.int 1),(.int 1),(.int 1),(.int 1),(.int 1),(.int 1),(.int 1),(.int 1),(.int 295),(.int 295),(.int 295),(.int 295),(.int 8191)]),(.tup [(.int 1),(.int 1),(.int 1),(.int 1),(.int 1),(.int 2),(.int 2),(.int 2),(.int 292),(.int 292),(.int 292),(.int 584),(.int 7312)]),(.tup [(.int 1),(.int 1),(.int 7),(.int 7),(.int 31),(.int 4),(.int 4),(.int 28),(.int 292),(.int 292),(.int 2044),(.int 1168),(.int 7312)]),(.tup [(.int 1),(.int 2),(.int 4),(.int 8),(.int 16),(.int 4),(.int 8),(.int 16),(.int 292),(.int 584),(.int 1168),(.int 1168),(.int 7312)]),(.tup [(.int 31),(.int 28),(.int 28),(.int 16),(.int 16),(.int 28),(.int 16),(.int 16),(.int 2044),(.int 1168),(.int 1168),(.int 1168),(.int 7312)]),(.tup [(.int 1),(.int 1),(.int 7),(.int 7),(.int 31),(.int 32),(.int 32),(.int 224),(.int 256),(.int 256),(.int 1792),(.int 2048),(.int 4096)]),(.tup [(.int 1),(.int 2),(.int 4),(.int 8),(.int 16),(.int 32),(.int 64),(.int 128),(.int 256),(.int 512),(.int 1024),(.int 2048),(.int 4096)]),(.tup [(.int 31),(.int 28),(.int 28),(.int 16),(.int 16),(.int 224),(.int 128),(.int 128),(.int 1792),(.int 1024),(.int 1024),(.int 2048),(.int 4096)]),(.tup [(.int 1),(.int 1),(.int 295),(.int 295),(.int 8191),(.int 256),(.int 256),(.int 7936),(.int 256),(.int 256),(.int 7936),(.int 4096),(.int 4096)]),(.tup [(.int 1),(.int 2),(.int 292),(.int 584),(.int 7312),(.int 256),(.int 512),(.int 7168),(.int 256),(.int 512),(.int 7168),(.int 4096),(.int 4096)]),(.tup [(.int 31),(.int 28),(.int 2044),(.int 1168),(.int 7312),(.int 1792),(.int 1024),(.int 7168),(.int 1792),(.int 1024),(.int 7168),(.int 4096),(.int 4096)]),(.tup [(.int 31),(.int 224),(.int 1792),(.int 2048),(.int 4096),(.int 1792),(.int 2048),(.int 4096),(.int 1792),(.int 2048),(.int 4096),(.int 4096),(.int 4096)]),(.tup [(.int 8191),(.int 7936),(.int 7936),(.int 4096),(.int 4096),(.int 7936),(.int 4096),(.int 4096),(.int 7936),(.int 4096),(.int 4096),(.int 4096),(.int 4096)])]
abbrev MX:Dt:=.tup cv
noncomputable abbrev C1:Dt:=(.int 64)
abbrev ow:Ra:=top 3
def ox:RS:=wA (e2 kA (eC uZ) (eV 0))
def WS:oB:=IB 1 1 ox
abbrev Tf:Ra:=top 4
def DR:RE:=eV 0
def vR:RT:=vi (e2 mB (e2 KG (e2 uI (eV 1) (eV 0)) (wq 1)) (wq 1))
def gX:RS:=wA (lC (uH (wq 13)) (uA 0) vR DR [none,ε 0])
def fH:oB:=IB 1 1 gX
abbrev Ip:Ra:=top 5
def JR:RE:=e2 GH (wq 1) (eV 0)
def rY:RS:=wA (VB yJ (lC (FB (eV 0)) (uA 0) aB JR [none]))
def aP:oB:=IB 1 1 rY
abbrev Jp:Ra:=top 6
def KR:RE:=e2 zE (wq 12) (eV 0)
def sY:RS:=wA (rA aP [] (bA (lC (FB (rA fH [] (bA (eV 0) dA))) (uA 0) aB KR [none]) dA))
def bP:oB:=IB 1 1 sY
abbrev Lw:Ra:=top 9
def aR:RS:=CA 3 (e2 NQ (eV 3) (e2 kA (e2 kA (eC MX) (eV 4)) (eV 5)))
def WN:RS:=jC (FB (eV 2)) (uA 5) aR
def DV:RS:=jA (CA 2 (rA fH [] (bA (eV 1) dA))) (jA (CA 3 (wq 0)) (jA (jC (FB (rA fH [] (bA (eV 0) dA))) (uA 4) WN) (wA (eV 3))))
def aO:oB:=IB 2 6 DV
abbrev yt:Ra:=top 12
def RW:RS:=wA (e2 HD (e2 wG (wJ (eC fN) (eV 1)) (DC (bA (eC C1) dA))) (wJ (eC fN) (e2 zE (e2 zE (eV 0) (eV 1)) (wq 1))))
def qO:oB:=IB 2 2 RW
abbrev fj:Ra:=top 13
def rS:RE:=rA qO [] (bA (eV 1) (bA (eV 0) dA))
def B1:RS:=wA (PF (uH (eV 0)) (uA 0) aB rS [none,ε 0])
def LP:oB:=IB 1 1 B1
abbrev Zh:Ra:=top 14
def rR:RS:=yD (PD (eV 1) (SA (bA (eV 2) (bA (eV 3) dA))))
def sR:RS:=jC (OU (e2 dC (eV 2) (wq 1)) (eV 0)) (uA 3) rR
def QW:RS:=jA (CA 1 (nF dA)) (jA (jC (uH (eV 0)) (uA 2) sR) (wA (eV 1)))
def PH:oB:=IB 1 4 QW
abbrev Yh:Ra:=top 15
def iW:RE:=VB NE (eV 0)
def OW:RS:=jA (CA 4 (PF (FB (eV 0)) (uA 0) aB iW [none])) (jA (dJ (e2 KG (e2 kA (e2 kA (eV 0) (eV 1)) (eV 3)) (eV 2)) (e2 kA (eV 4) (eV 1)) (eV 3)) (jA (dJ (rA bP [] (bA (e2 kA (e2 kA (eV 4) (eV 1)) (eV 3)) dA)) (e2 kA (eV 4) (eV 3)) (eV 1)) (wA (eV 4))))
def AI:oB:=IB 4 5 OW
abbrev Lf:Ra:=top 16
def cX:RS:=jA (CA 2 (e2 kA (e2 kA (eV 0) (e2 kA (eV 1) (wq 0))) (e2 kA (eV 1) (wq 1)))) (jA (CA 3 (e2 kA (e2 kA (eV 0) (e2 kA (eV 1) (wq 1))) (e2 kA (eV 1) (wq 2)))) (wA (e2 KG (e2 kA (e2 kA (eV 0) (e2 kA (eV 1) (wq 0))) (e2 kA (eV 1) (wq 2))) (rA aO [] (bA (eV 2) (bA (eV 3) dA))))))
def YL:oB:=IB 2 4 cX
abbrev Nf:Ra:=top 17
def eX:RS:=wA (e2 rD (rA YL [] (bA (eV 0) (bA (eV 1) dA))) (e2 kA (e2 kA (eV 0) (e2 kA (eV 1) (wq 0))) (e2 kA (eV 1) (wq 2))))
def PL:oB:=IB 2 2 eX
abbrev Mf:Ra:=top 18
def dX:RS:=wA (rA AI [] (bA (eV 0) (bA (e2 kA (eV 1) (wq 0)) (bA (rA YL [] (bA (eV 0) (bA (eV 1) dA))) (bA (e2 kA (eV 1) (wq 2)) dA)))))
def OL:oB:=IB 2 2 dX
abbrev Wh:Ra:=top 19
def hW:RE:=e2 (OG false) (wq 0) (eV 0)
def NW:RS:=wA (VB xN (lC (FB (eV 0)) (uA 0) aB hW [none]))
def dG:oB:=IB 1 1 NW
abbrev Tw:Ra:=top 20
def cR:RS:=WB (vi (e2 (OG true) (eV 3) (eV 0))) (jA (yD (PD (eV 2) (SA (bA (e2 kA (eV 0) (wq 0)) (bA (e2 kA (eV 0) (wq 1)) (bA (eV 3) dA)))))) (yD (PD (eV 2) (SA (bA (e2 kA (eV 0) (wq 1)) (bA (e2 kA (eV 0) (wq 0)) (bA (eV 3) dA))))))) VA
def GV:RS:=jA (CA 2 (nF dA)) (jA (jC (uH (eV 1)) (uA 3) cR) (wA (eV 2)))
def cO:oB:=IB 2 4 GV
abbrev Rw:Ra:=top 21
def ZQ:RE:=VB NE (eV 0)
def GJ:RS:=WB (vi (rA PL [] (bA (eV 3) (bA (eV 6) dA)))) (jA (CA 3 (rA OL [] (bA (eV 3) (bA (eV 6) dA)))) (jA (yD (PD (eV 2) (eV 6))) (jA (WB (vi (e2 xG (e2 kA (e2 kA (eV 3) (e2 kA (eV 6) (wq 0))) (e2 kA (eV 6) (wq 2))) (wq 0))) (wA (SA (bA (eC .non) (bA (eV 2) dA)))) VA) (yD (PD (eV 4) (SA (bA (e2 kA (eV 6) (wq 0)) (bA (e2 kA (eV 6) (wq 2)) dA)))))))) VA
def XN:RS:=jA (CA 5 (FP (eV 4) (wq 0))) (jC (FB (rA cO [] (bA (eV 5) (bA (VB yB (eV 0)) dA)))) (uA 6) GJ)
def VN:RT:=vi (e2 RC (eV 4) (DC dA))
def iR:RS:=jA (CA 2 (nF dA)) (jA (WB (vi (rA dG [] (bA (eV 0) dA))) (wA (SA (bA (eC .non) (bA (eV 2) dA)))) VA) (jA (CA 3 (PF (FB (eV 0)) (uA 0) aB ZQ [none])) (jA (CA 4 (VB NE (eV 1))) (jA (KP 1000000 VN XN) (wA (SA (bA (eV 3) (bA (eV 2) dA))))))))
def xI:oB:=IB 2 7 iR
abbrev Rf:Ra:=top 22
def fX:RS:=wA (rA xI [] (bA (eV 0) (bA (rA PH [] (bA (VB yB (eV 0)) dA)) dA)))
def UJ:oB:=IB 1 1 fX
abbrev Uy:Ra:=top 24
def BL:RS:=WB (vi (e2 mB (e2 kA (eV 3) (wq 0)) (eC (.str "ways")))) (CA 2 (rA AI [] (bA (eV 2) (bA (e2 kA (eV 3) (wq 1)) (bA (e2 kA (eV 3) (wq 2)) (bA (e2 kA (eV 3) (wq 3)) dA)))))) VA
def tW:RS:=jA (CA 2 (rA LP [] (bA (eV 0) dA))) (jA (jC (FB (eV 1)) (uA 3) BL) (wA (eV 2)))
def OJ:oB:=IB 2 4 tW
abbrev Ey:Ra:=top 25
def HV:RE:=SA (bA (e2 kA (eV 0) (wq 1)) (bA (e2 kA (eV 0) (wq 2)) (bA (e2 kA (eV 0) (wq 3)) dA)))
def kR:RT:=vi (e2 mB (e2 kA (eV 0) (wq 0)) (eC (.str "long")))
def ZV:RS:=wA (lC (FB (eV 0)) (uA 0) kR HV [none])
def JL:oB:=IB 1 1 ZV
abbrev Vy:Ra:=top 26
def eW:RE:=e2 kA (eV 0) (wq 1)
def tR:RT:=vi (e2 mB (e2 kA (eV 0) (wq 0)) (eC (.str "one")))
def uW:RS:=wA (lC (FB (eV 0)) (uA 0) tR eW [none])
def PJ:oB:=IB 1 1 uW
abbrev Zk:Ra:=top 27
def QN:RS:=jA (CA 5 (WQ (vi (e2 mB (eV 3) (eV 2))) (e2 kA (eV 4) (wq 2)) (e2 KG (eC fN) (IN (e2 kA (eV 4) (wq 2)))))) (CA 0 (rA AI [] (bA (eV 0) (bA (e2 kA (eV 4) (wq 1)) (bA (eV 5) (bA (e2 kA (eV 4) (wq 3)) dA))))))
def cW:RS:=jA (jC (eQ (eV 1)) (OC 3 4) QN) (wA (eV 0))
def YN:oB:=IB 3 6 cW
abbrev Gv:Ra:=top 28
def ON:RS:=WB (vi (e2 OQ (VB yB (rA fH [] (bA (e2 kA (e2 kA (eV 0) (e2 kA (eV 1) (wq 0))) (e2 kA (eV 1) (wq 1))) dA))) (wq 1))) (wA (eV 1)) VA
def XQ:RS:=jA (jC (FB (rA PH [] (bA (VB yB (eV 0)) dA))) (uA 1) ON) (wA (eC .non))
def nL:oB:=IB 1 2 XQ
abbrev jt:Ra:=top 29
def iO:RE:=rA YN [] (bA (eV 1) (bA (eV 2) (bA (eV 0) dA)))
def jW:RE:=SA (bA (e2 kA (eV 0) (wq 1)) (bA (e2 kA (eV 0) (wq 3)) dA))
def jO:RE:=rA AI [] (bA (eV 1) (bA (e2 kA (eV 2) (wq 0)) (bA (e2 GH (wq 1) (eV 0)) (bA (e2 kA (eV 2) (wq 1)) dA))))
def IR:RS:=jA (WB (vi (e2 RC (eV 1) (DC dA))) (jA (CA 2 (e2 kA (eV 1) (wq 0))) (jA (CA 3 (lC (uH (VB yB (eV 2))) (uA 0) aB iO [none,ε 0,ε 2])) (wA (SA (bA (eC (.str "one")) (bA (SA dA) (bA (eV 3) (bA (lC (FB (eV 2)) (uA 0) aB jW [none]) dA)))))))) VA) (jA (CA 4 (rA nL [] (bA (eV 0) dA))) (jA (WB (vi (e2 yE (eV 4) (eC .non))) (wA (eC .non)) VA) (jA (CA 5 (e2 kA (e2 kA (eV 0) (e2 kA (eV 4) (wq 0))) (e2 kA (eV 4) (wq 1)))) (jA (CA 3 (lC (FB (rA fH [] (bA (eV 5) dA))) (uA 0) aB jO [none,ε 0,ε 4])) (wA (SA (bA (eC (.str "split")) (bA (eV 4) (bA (eV 3) (bA (DC (bA (eV 4) dA)) dA))))))))))
def tF:oB:=IB 2 6 IR
abbrev oy:Ra:=top 31
def rZ:RS:=wA (e2 dC (e2 KC (wq 2) (eV 0)) (wq 1))
def uM:oB:=IB 1 1 rZ
abbrev dw:Ra:=top 32
def OV:RS:=jA (CA 2 (e2 KC (wq 2) (e2 kA (eV 0) (wq 0)))) (wA (nF (bA (SA (bA (eV 2) (bA (e2 dC (eV 2) (wq 1)) (bA (e2 KC (fD (e2 kA (eV 0) (wq 1))) (eV 1)) dA)))) (bA (SA (bA (e2 dC (eV 2) (wq 1)) (bA (eV 2) (bA (e2 KC (e2 kA (eV 0) (wq 2)) (eV 1)) dA)))) dA))))
def sL:oB:=IB 2 3 OV
abbrev Ow:Ra:=top 33
def gR:RS:=jA (CA 4 (nF dA)) (jA (WB (vi (e2 N6 (VB UK (eV 3)) (eV 2))) (yD (PD (eV 4) (SA (bA (eV 0) (bA (eV 1) (bA (WQ (vi (e2 tI (VB UK (eV 3)) (eV 2))) (fD (wq 1)) (wq 0)) dA)))))) VA) (jA (WB (vi (e2 DU (VB xJ (eV 3)) (eV 2))) (yD (PD (eV 4) (SA (bA (eV 1) (bA (eV 0) (bA (WQ (vi (e2 OQ (VB xJ (eV 3)) (eV 2))) (fD (wq 1)) (wq 0)) dA)))))) VA) (wA (eV 4))))
def IJ:oB:=IB 4 5 gR
abbrev Fy:Ra:=top 34
def DL:RE:=e2 kA (rA WS [] (bA (eV 0) dA)) (eV 1)
def HL:RS:=jA (CA 5 (lC (FB (rA fH [] (bA (eV 1) dA))) (uA 0) aB DL [none,ε 4])) (jA (yD (MI (eV 3) (rA IJ [] (bA (e2 dC (e2 KC (wq 2) (eV 0)) (eV 4)) (bA (e2 KC (wq 2) (eV 2)) (bA (wq 1) (bA (eV 5) dA))))))) (yD (MI (eV 3) (rA IJ [] (bA (e2 dC (e2 KC (wq 2) (eV 0)) (eV 4)) (bA (e2 dC (e2 KC (wq 2) (eV 2)) (wq 1)) (bA (wq 3) (bA (eV 5) dA))))))))
def gW:RS:=jA (CA 3 (nF dA)) (jA (jC (uH (wq 2)) (uA 4) HL) (wA (eV 3)))
def ML:oB:=IB 3 6 gW
abbrev Gp:Ra:=top 35
def pO:RE:=SA (bA (e2 KC (wq 2) (eV 0)) (bA (e2 dC (e2 KC (wq 2) (eV 0)) (wq 1)) (bA (fD (wq 1)) dA)))
def rO:RS:=yD (MI (eV 2) (rA sL [] (bA (eV 3) (bA (rA uM [] (bA (VB yB (eV 0)) dA)) dA))))
def sO:RS:=yD (MI (eV 2) (rA ML [] (bA (e2 kA (eV 4) (wq 0)) (bA (e2 kA (e2 kA (eV 0) (e2 kA (eV 4) (wq 0))) (e2 kA (eV 4) (wq 1))) (bA (e2 kA (eV 4) (wq 1)) dA)))))
def qY:RS:=jA (CA 2 (PF (uH (VB yB (eV 0))) (uA 0) aB pO [none])) (jA (jC (FB (eV 1)) (uA 3) rO) (jA (jC (FB (rA PH [] (bA (VB yB (eV 0)) dA))) (uA 4) sO) (wA (eV 2))))
def QH:oB:=IB 2 5 qY
abbrev Mw:Ra:=top 36
def bR:RS:=jA (CA 3 (vN (bA (e2 kA (eV 2) (wq 0)) (bA (e2 kA (eV 2) (wq 1)) dA)))) (cN (J6 QM (sK (eV 1) (eV 3) (e2 kA (eV 2) (wq 2))) (e2 kA (eV 2) (wq 2))) (eV 1) (eV 3))
def EV:RS:=jA (CA 1 VP) (jA (jC (FB (eV 0)) (uA 2) bR) (wA (eV 1)))
def HJ:oB:=IB 1 4 EV
abbrev oz:Ra:=top 37
def II:RS:=WB (vi (e2 OQ (e2 kA (eV 1) (e2 kA (eV 4) (wq 0))) (e2 dC (e2 kA (eV 1) (e2 kA (eV 4) (wq 1))) (eV 5)))) (jA (dJ (e2 dC (e2 kA (eV 1) (e2 kA (eV 4) (wq 1))) (eV 5)) (eV 1) (e2 kA (eV 4) (wq 0))) (jA (dJ (e2 kA (eV 4) (wq 1)) (eV 2) (e2 kA (eV 4) (wq 0))) (CA 3 (e2 kA (eV 4) (wq 0))))) VA
def sZ:RS:=jA (CA 3 (eC .non)) (jA (jC (cJ (eV 0)) (OC 4 5) II) (wA (eV 3)))
def cK:oB:=IB 3 6 sZ
abbrev iy:Ra:=top 38
def oR:RS:=CA 0 (e2 kA (eV 1) (eV 0))
def pR:RS:=yD (PD (eV 3) (e2 kA (eV 1) (e2 kA (eV 3) (fD (wq 1)))))
def mR:RT:=vi (e2 rD (e2 kA (eV 3) (fD (wq 1))) (eV 0))
def dW:RS:=jA (jC (uH (VB yB (eV 1))) (uA 2) oR) (jA (CA 3 (nF (bA (eV 0) (bA (e2 kA (eV 1) (eV 0)) dA)))) (jA (KP 100 mR pR) (wA (eV 3))))
def ZN:oB:=IB 2 4 dW
abbrev oD:Ra:=top 39
def WL:RE:=e2 zE (eV 0) (eV 1)
def SJ:RS:=jA (CA 6 (rA cK [] (bA (eV 2) (bA (eV 3) (bA (eV 4) dA))))) (WB (vi (e2 yE (eV 6) (eC .non))) (jA (CA 7 (aU (eV 3) (wq 0))) (wA (SA (bA (eC (.str "times")) (bA (lC (FB (eV 3)) (uA 0) aB WL [none,ε 7]) dA))))) VA)
def FS:RS:=jA (CA 2 (rA HJ [] (bA (eV 1) dA))) (jA (CA 3 (zK (wq 0) (eV 0))) (jA (CA 4 (zK (eC .non) (eV 0))) (jA (jC (uH (e2 dC (eV 0) (wq 1))) (uA 5) SJ) (wA (SA (bA (eC (.str "ring")) (bA (rA ZN [] (bA (eV 6) (bA (eV 4) dA))) dA)))))))
def ZH:oB:=IB 2 8 FS
abbrev vL:Ra:=iT (top 41) 0
def eR:RS:=jA (gJ "Search" "lengths" (eV 0) (eV 1)) (jA (gJ "Search" "most" (eV 0) (eV 2)) (gJ "Search" "made" (eV 0) (wq 0)))
def uL:oB:=IB 3 3 eR
abbrev Sw:Ra:=top 42
def UN:RE:=SA (bA (e2 kA (eV 1) (eV 0)) (bA (e2 kA (eV 1) (e2 dC (eV 0) (wq 1))) dA))
def FV:RS:=wA (lC (K6 (wq 0) (VB yB (eV 0)) 2) (uA 0) aB UN [none,ε 0])
def bO:oB:=IB 1 1 FV
abbrev lL:Ra:=iT (top 41) 2
def mL (R:oB):RS:=jA (CA 6 (iJ "Search" "look" R (eV 0) (bA (eV 5) (bA (e2 kA (eV 1) (wq 3)) (bA (eV 3) dA))))) (jA (WB (vi (e2 rD (e2 kA (eV 6) (wq 0)) (eC (.str "clash")))) (wA (eV 6)) VA) (yD (PD (eV 4) (e2 kA (eV 6) (wq 1)))))
def kL (R:oB):RS:=jA (CA 4 (nF dA)) (jA (jC (FB (e2 kA (eV 1) (wq 2))) (uA 5) (mL R)) (wA (SA (bA (eC (.str "clash")) (bA (e2 eJ (e2 eJ (SA (bA (e2 kA (eV 1) (wq 0)) (bA (eV 2) dA))) (e2 kA (eV 1) (wq 1))) (SA (bA (eV 4) dA))) dA)))))
def JH(R:oB):oB:=IB 4 7 (kL R)
abbrev KJ:Ra:=iT (top 41) 1
def JJ (R:oB):RS:=jA (CA 4 (rA xI [] (bA (eV 1) (bA (eV 2) dA)))) (jA (CA 5 (e2 kA (eV 4) (wq 0))) (jA (CA 6 (e2 kA (eV 4) (wq 1))) (jA (WB (vi (e2 yE (eV 5) (eC .non))) (wA (SA (bA (eC (.str "clash")) (bA (SA (bA (eC (.str "threes")) (bA (eV 6) dA))) dA)))) VA) (jA (CA 7 (rA ZH [] (bA (e2 KC (wq 2) (VB yB (eV 5))) (bA (rA QH [] (bA (eV 5) (bA (YF "Search" "lengths" (eV 0)) dA))) dA)))) (jA (WB (vi (e2 mB (e2 kA (eV 7) (wq 0)) (eC (.str "ring")))) (wA (SA (bA (eC (.str "clash")) (bA (SA (bA (eC (.str "ring")) (bA (eV 6) (bA (e2 kA (eV 7) (wq 1)) dA)))) dA)))) VA) (jA (CA 8 (rA tF [] (bA (eV 5) (bA (eV 3) dA)))) (jA (WB (vi (e2 yE (eV 8) (eC .non))) (wA (SA (bA (eC (.str "laid")) (bA (rA bO [] (bA (e2 kA (eV 7) (wq 1)) dA)) dA)))) VA) (jA (WB (vi (e2 DU (YF "Search" "made" (eV 0)) (YF "Search" "most" (eV 0)))) (wA (SA (bA (eC (.str "open")) (bA (eC .non) dA)))) VA) (jA (gJ "Search" "made" (eV 0) (e2 dC (YF "Search" "made" (eV 0)) (wq 1))) (wA (iJ "Search" "look_at_branches" (JH R) (eV 0) (bA (eV 8) (bA (eV 6) (bA (JK (eV 3) (pF (wq 1)) qN) dA))))))))))))))
def aF(n:Nat):oB:=Nat.rec (fun _ _=>none) (fun _ R=>IB 4 9 (JJ R)) n
abbrev KI:Ra:=top 43
def FR:RS:=jA (CA 3 (ZP "Search" uL (bA (rA JL [] (bA (eV 1) dA)) (bA (eV 2) dA)))) (jA (CA 4 (iJ "Search" "look" (aF 12) (eV 3) (bA (rA OJ [] (bA (eV 0) (bA (eV 1) dA))) (bA (rA PH [] (bA (eV 0) dA)) (bA (rA PJ [] (bA (eV 1) dA)) dA))))) (wA (SA (bA (e2 kA (eV 4) (wq 0)) (bA (e2 kA (eV 4) (wq 1)) (bA (YF "Search" "made" (eV 3)) dA))))))
def bG:oB:=IB 3 5 FR
abbrev QI:Ra:=top 45
def ES:RS:=jA (CA 6 (rA bG [] (bA (eV 0) (bA (e2 HD (eV 1) (DC (bA (SA (bA (eC (.str "ways")) (bA (eV 2) (bA (eV 3) (bA (eV 4) dA))))) dA))) (bA (eV 5) dA))))) (jA (CA 7 (rA bG [] (bA (eV 0) (bA (e2 HD (eV 1) (DC (bA (SA (bA (eC (.str "ways")) (bA (eV 2) (bA (e2 zE (eC fN) (eV 3)) (bA (eV 4) dA))))) dA))) (bA (eV 5) dA))))) (jA (WB (yC (vi (e2 mB (e2 kA (eV 6) (wq 0)) (eC (.str "open")))) (vi (e2 mB (e2 kA (eV 7) (wq 0)) (eC (.str "open"))))) (wA (SA (bA (eC (.str "open")) (bA (eC .non) dA)))) VA) (jA (WB (tH (vi (e2 mB (e2 kA (eV 6) (wq 0)) (eC (.str "clash")))) (vi (e2 mB (e2 kA (eV 7) (wq 0)) (eC (.str "clash"))))) (wA (SA (bA (eC (.str "clash")) (bA (SA (bA (e2 kA (eV 6) (wq 1)) (bA (e2 kA (eV 7) (wq 1)) dA))) dA)))) VA) (jA (WB (vi (e2 mB (e2 kA (eV 7) (wq 0)) (eC (.str "clash")))) (wA (SA (bA (eC (.str "must")) (bA (e2 kA (eV 7) (wq 1)) dA)))) VA) (jA (WB (vi (e2 mB (e2 kA (eV 6) (wq 0)) (eC (.str "clash")))) (wA (SA (bA (eC (.str "never")) (bA (e2 kA (eV 6) (wq 1)) dA)))) VA) (wA (SA (bA (eC (.str "may")) (bA (SA (bA (e2 kA (eV 6) (wq 1)) (bA (e2 kA (eV 7) (wq 1)) dA))) dA)))))))))
def bK:oB:=IB 6 8 ES
abbrev Xh:Ra:=top 47
def gO:RE:=LM N6 tI (wq 0) (eV 0) (eV 1)
def uR:RS:=wA (ZD (e2 mB (VB jP (eV 0)) (wq 3)) (VB AH (lC (fQ (eV 0)) (uA 0) aB gO [none,ε 1])))
def ZL:oB:=IB 2 2 uR
abbrev Kw:Ra:=top 48
def aG:RS:=jA (WB (yC (vi (rA dG [] (bA (eV 0) dA))) (yC (qE (vi (rA ZL [] (bA (eV 2) (bA (VB yB (eV 0)) dA))))) (qE (vi (rA PL [] (bA (eV 0) (bA (eV 2) dA))))))) (wA (eC .non)) VA) (CA 0 (rA OL [] (bA (eV 0) (bA (eV 2) dA))))
def fR:RS:=jA (jC (FB (eV 1)) (uA 2) aG) (wA (eV 0))
def MJ:oB:=IB 2 3 fR
abbrev Kf:Ra:=top 49
def dO:RE:=EQ (eV 0) (eV 1)
def BR:RE:=bU (eV 1) (eV 0)
def ER:RS:=jA (WB (yC (vi (e2 tI (VB yB (eV 0)) (wq 3))) (yC (vi (e2 rD (e2 kA (eV 0) (wq 0)) (e2 kA (eV 0) (fD (wq 1))))) (vi (e2 rD (VB wM (eV 0)) (e2 zE (VB yB (eV 0)) (wq 1)))))) (wA (eC (.bl false))) VA) (jA (CA 2 (rA HJ [] (bA (eV 1) dA))) (jA (CA 3 (gP (eV 0) (JK (eV 0) (pF (wq 1)) qN))) (jA (WB (qE (vi (VB AH (lC (FB (eV 3)) (uA 0) aB dO [none,ε 2])))) (wA (eC (.bl false))) VA) (wA (e2 tI (VB yJ (lC (FB (eV 3)) (uA 0) aB BR [none,ε 2])) (wq 0))))))
def GI:oB:=IB 2 4 ER
abbrev bM:Ra:=top 51
def cH(R:oB):RS:=WB (qE (vi (rA R [] (bA (eV 4) (bA (eV 1) (bA (eV 2) (bA (eV 5) dA))))))) (wA (eC (.bl false))) VA
def IL(R:oB):RS:=jA (WB (vi (e2 rD (VB yB (eV 0)) (VB yB (eV 3)))) (wA (eC (.bl false))) VA) (jA (jC (GQ (eV 0) (eV 3)) (OC 4 5) (cH R)) (wA (eC (.bl true))))
def KH(R:oB):oB:=IB 4 6 (IL R)
abbrev iK:Ra:=top 50
def ZJ (R:oB):RS:=jA (CA 4 (rA MJ [] (bA (eV 0) (bA (e2 kA (eV 3) (wq 1)) dA)))) (jA (WB (vi (e2 yE (eV 4) (eC .non))) (wA (eC (.bl false))) VA) (jA (WB (vi (e2 xG (e2 kA (eV 3) (wq 0)) (eC (.str "threes")))) (wA (rA dG [] (bA (eV 4) dA))) VA) (jA (WB (yC (vi (rA dG [] (bA (eV 4) dA))) (vi (e2 RC (e2 kA (rA UJ [] (bA (eV 4) dA)) (wq 1)) (DC dA)))) (wA (eC (.bl false))) VA) (jA (WB (vi (e2 xG (e2 kA (eV 3) (wq 0)) (eC (.str "ring")))) (wA (rA GI [] (bA (e2 kA (eV 3) (wq 2)) (bA (rA QH [] (bA (eV 4) (bA (eV 2) dA))) dA)))) VA) (jA (CA 5 (rA tF [] (bA (eV 4) (bA (eV 1) dA)))) (jA (WB (yC (vi (e2 yE (eV 5) (eC .non))) (yC (vi (e2 RC (e2 kA (eV 5) (wq 0)) (e2 kA (eV 3) (wq 0)))) (vi (e2 RC (e2 kA (eV 5) (wq 1)) (lI (eV 3) (pF (wq 2)) (pF (fD (wq 1)))))))) (wA (eC (.bl false))) VA) (wA (rA (KH R) [] (bA (e2 kA (eV 5) (wq 2)) (bA (JK (eV 1) (pF (wq 1)) qN) (bA (eV 2) (bA (e2 kA (eV 3) (fD (wq 1))) dA))))))))))))
def YH(n:Nat):oB:=Nat.rec (fun _ _=>none) (fun _ R=>IB 4 6 (ZJ R)) n
abbrev Jf:Ra:=top 52
def bX:RS:=wA (rA (YH 12) [] (bA (rA OJ [] (bA (eV 0) (bA (eV 1) dA))) (bA (rA PJ [] (bA (eV 1) dA)) (bA (rA JL [] (bA (eV 1) dA)) (bA (eV 2) dA)))))
def bE:oB:=IB 3 3 bX
abbrev Gw:Ra:=top 54
def zV:RS:=jA (WB (vi (e2 tI (eV 1) (VB yB (eV 0)))) (wA (e2 kA (eV 0) (eV 1))) VA) (wA (wq 0))
def EL:oB:=IB 2 2 zV
abbrev Cy:Ra:=top 55
def WV:RS:=jA (CA 2 (e2 aD (e2 KC (e2 dC (e2 dC (e2 aD (eV 0) (wq 1000000007)) (e2 KC (wq 7) (eV 1))) (wq 1)) (wq 48271)) (wq 2147483647))) (wA (e2 aD (e2 KC (eV 2) (e2 dC (e2 dC (e2 aD (eV 2) (wq 1009)) (eV 1)) (wq 3))) (wq 998244353)))
def KF:oB:=IB 2 3 WV
abbrev Iw:Ra:=top 56
def BV:RS:=jA (CA 2 (e2 aD (eV 0) (eV 1))) (wA (SA (bA (eV 2) (bA (e2 aD (e2 dC (e2 dC (eV 2) (wq 1)) (e2 aD (e2 HF (eV 0) (eV 1)) (e2 zE (eV 1) (wq 1)))) (eV 1)) dA))))
def MH:oB:=IB 2 3 BV
abbrev Dy:Ra:=top 57
def YV:RS:=wA (ZD (VG "int" (eV 0)) (JN (VG "bool" (eV 0))))
def xL:oB:=IB 1 1 YV
abbrev Sy:Ra:=top 58
def AR:RS:=jA (WB (vi (e2 tI (eV 0) (e2 kA (eV 1) (wq 0)))) (wA (wq 0)) VA) (jA (WB (vi (e2 mB (eV 0) (e2 kA (eV 1) (wq 0)))) (wA (wq 1)) VA) (jA (WB (vi (e2 tI (eV 0) (e2 kA (eV 1) (wq 1)))) (wA (wq 2)) VA) (jA (WB (vi (e2 mB (eV 0) (e2 kA (eV 1) (wq 1)))) (wA (wq 3)) VA) (wA (wq 4)))))
def NJ:oB:=IB 2 2 AR
abbrev Dk:Ra:=top 59
def Zw:RS:=jA (CA 2 (DC (bA (SA (bA (wq 0) (bA (wq 0) dA))) (bA (SA (bA (wq 0) (bA (wq 1) dA))) (bA (SA (bA (wq 0) (bA (wq 2) dA))) (bA (SA (bA (wq 0) (bA (wq 3) dA))) (bA (SA (bA (wq 0) (bA (wq 4) dA))) (bA (SA (bA (wq 1) (bA (wq 2) dA))) (bA (SA (bA (wq 1) (bA (wq 3) dA))) (bA (SA (bA (wq 1) (bA (wq 4) dA))) (bA (SA (bA (wq 2) (bA (wq 2) dA))) (bA (SA (bA (wq 2) (bA (wq 3) dA))) (bA (SA (bA (wq 2) (bA (wq 4) dA))) (bA (SA (bA (wq 3) (bA (wq 4) dA))) (bA (SA (bA (wq 4) (bA (wq 4) dA))) dA))))))))))))))) (wA (WP (eV 2) (SA (bA (rA NJ [] (bA (e2 kA (eV 0) (wq 0)) (bA (eV 1) dA))) (bA (rA NJ [] (bA (e2 kA (eV 0) (wq 1)) (bA (eV 1) dA))) dA)))))
def AL:oB:=IB 2 3 Zw
abbrev Ry:Ra:=top 60
def sW:RS:=wA (e2 mB (e2 KG (e2 uI (e2 kA (eV 1) (wq 2)) (rA AL [] (bA (e2 kA (eV 0) (e2 kA (eV 1) (wq 1))) (bA (e2 kA (eV 0) (e2 kA (eV 1) (wq 3))) dA)))) (wq 1)) (wq 1))
def NL:oB:=IB 2 2 sW
abbrev Ay:Ra:=top 61
def jR:RE:=rA NL [] (bA (eV 1) (bA (eV 0) dA))
def NH:RS:=jA (WB (tH (vi (e2 mB (e2 kA (eV 3) (wq 0)) (eC (.str "ways")))) (qE (vi (rA NL [] (bA (eV 0) (bA (eV 3) dA)))))) (wA (eC (.bl false))) VA) (jA (WB (tH (vi (e2 mB (e2 kA (eV 3) (wq 0)) (eC (.str "one")))) (vi (e2 rD (rP (lC (FB (e2 kA (eV 3) (wq 1))) (uA 0) aB jR [none,ε 0]) (eC (.bl true))) (wq 1)))) (wA (eC (.bl false))) VA) (WB (vi (e2 mB (e2 kA (eV 3) (wq 0)) (eC (.str "long")))) (jA (CA 4 (e2 zE (e2 kA (e2 kA (eV 0) (e2 kA (eV 3) (wq 1))) (wq 1)) (e2 kA (e2 kA (eV 0) (e2 kA (eV 3) (wq 1))) (wq 0)))) (WB (yC (vi (e2 tI (eV 4) (e2 KC (e2 kA (eV 3) (wq 2)) (eV 2)))) (vi (e2 OQ (eV 4) (e2 KC (e2 kA (eV 3) (wq 3)) (eV 2))))) (wA (eC (.bl false))) VA)) VA))
def VV:RS:=jA (CA 2 (e2 dC (e2 KC (wq 2) (VB yB (eV 0))) (wq 1))) (jA (jC (FB (eV 1)) (uA 3) NH) (wA (eC (.bl true))))
def wL:oB:=IB 2 5 VV
abbrev bw:Ra:=top 62
def MN:RS:=jA (WB (yC (qE (vi (VG "tuple" (eV 3)))) (yC (vi (e2 rD (VB yB (eV 3)) (wq 2))) (yC (qE (vi (rA xL [] (bA (e2 kA (eV 3) (wq 0)) dA)))) (qE (vi (rA xL [] (bA (e2 kA (eV 3) (wq 1)) dA))))))) (wA (eC (.bl false))) VA) (WB (vi (e2 DU (e2 kA (eV 3) (wq 0)) (e2 kA (eV 3) (wq 1)))) (wA (eC (.bl false))) VA)
def LN:RE:=e2 kA (eV 0) (wq 0)
def xV:RS:=jA (WB (yC (qE (vi (VG "list" (eV 0)))) (vi (e2 rD (VB yB (eV 0)) (eV 1)))) (wA (eC (.bl false))) VA) (jA (jC (FB (eV 0)) (uA 3) MN) (wA (ZD (e2 mB (VB xJ (lC (FB (eV 0)) (uA 0) aB LN [none])) (wq 0)) (rA wL [] (bA (eV 0) (bA (eV 2) dA))))))
def zG:oB:=IB 3 4 xV
abbrev Jw:Ra:=top 63
def CV:RS:=jA (FJ (OC 1 2) (rA MH [] (bA (eV 0) (bA (wq 3) dA)))) (jA (CA 3 (e2 aL (wq 8191) (e2 GH (wq 1) (e2 aD (e2 HF (eV 0) (wq 6)) (wq 13))))) (jA (WB (vi (e2 mB (e2 aD (e2 HF (eV 0) (wq 78)) (wq 2)) (wq 1))) (CA 3 (e2 KG (eV 3) (e2 aL (wq 8191) (e2 GH (wq 1) (e2 aD (rA KF [] (bA (eV 0) (bA (wq 2) dA))) (wq 13)))))) VA) (jA (WB (vi (e2 mB (e2 aD (e2 HF (eV 0) (wq 156)) (wq 10)) (wq 3))) (CA 3 (e2 aD (rA KF [] (bA (eV 0) (bA (wq 3) dA))) (wq 8192))) VA) (wA (SA (bA (eC (.str "ways")) (bA (eV 1) (bA (eV 3) (bA (eV 2) dA)))))))))
def LJ:oB:=IB 1 4 CV
abbrev Mv:Ra:=top 64
def rV:RS:=jA (FJ (OC 1 2) (rA MH [] (bA (eV 0) (bA (wq 3) dA)))) (wA (SA (bA (eC (.str "ways")) (bA (eV 1) (bA (e2 aD (rA KF [] (bA (eV 0) (bA (wq 5) dA))) (wq 8192)) (bA (eV 2) dA))))))
def rL:oB:=IB 1 3 rV
abbrev yw:Ra:=top 65
def tL:RE:=rA rL [] (bA (rA KF [] (bA (eV 1) (bA (e2 dC (wq 10) (eV 0)) dA))) dA)
def yI:RS:=jA (CA 4 (rA KF [] (bA (eV 3) (bA (wq 1) dA)))) (WB (tH (vi (e2 mB (e2 aD (eV 4) (wq 12)) (wq 5))) (vi (e2 tI (eV 2) (wq 2)))) (jA (CA 2 (e2 dC (eV 2) (wq 1))) (jA (CA 5 (e2 dC (wq 1) (e2 aD (e2 HF (eV 4) (wq 12)) (wq 3)))) (yD (PD (eV 1) (SA (bA (eC (.str "one")) (bA (PF (uH (eV 5)) (uA 0) aB tL [none,ε 4]) dA))))))) (yD (PD (eV 1) (rA LJ [] (bA (e2 HF (eV 4) (wq 12)) dA)))))
def NV:RS:=jA (CA 1 (nF dA)) (jA (CA 2 (wq 0)) (jA (jC (FB (eV 0)) (uA 3) yI) (wA (eV 1))))
def SN:oB:=IB 1 6 NV
abbrev Ck:Ra:=top 66
def nR:RS:=yD (PD (eV 0) (SA (bA (eV 1) (bA (eV 2) dA))))
def pL:RS:=jC (OU (e2 dC (eV 1) (wq 1)) (wq 6)) (uA 2) nR
def lR:RE:=rA AL [] (bA (eV 1) (bA (eV 0) dA))
def RN:RE:=lC (FB (eV 1)) (uA 0) aB lR [none,ε 0]
def TN:RS:=cN (eC (.bl true)) (eV 4) (vN (bA (e2 kA (e2 kA (eV 3) (eV 5)) (eV 6)) (bA (e2 kA (e2 kA (eV 3) (eV 5)) (eV 7)) (bA (e2 kA (e2 kA (eV 3) (eV 6)) (eV 7)) dA))))
def PN:RS:=jC (uH (wq 15)) (uA 7) TN
def qL:RS:=jC (uH (wq 15)) (uA 6) PN
def bW:RS:=jA (CA 0 (nF dA)) (jA (jC (uH (wq 6)) (uA 1) pL) (jA (CA 3 (lC (FB (eV 0)) (uA 0) aB RN [none,ε 0])) (jA (CA 4 VP) (jA (jC (uH (wq 15)) (uA 5) qL) (wA (VB NM (eV 4)))))))
def zL:oB:=IB 0 8 bW
abbrev Hf:Ra:=top 67
def aX:RS:=jA (CA 2 (e2 kA (eV 1) (wq 1))) (jA (CA 3 (e2 kA (eV 1) (wq 3))) (jA (WB (vi (e2 OQ (eV 2) (eV 3))) (wA (e2 mB (e2 KG (e2 uI (e2 kA (eV 1) (wq 2)) (e2 zE (wq 12) (e2 kA (eV 0) (e2 zE (e2 dC (eV 2) (eV 3)) (wq 1))))) (wq 1)) (wq 1))) VA) (wA (e2 mB (e2 KG (e2 uI (e2 kA (eV 1) (wq 2)) (e2 kA (eV 0) (e2 zE (e2 dC (eV 2) (eV 3)) (wq 1)))) (wq 1)) (wq 1)))))
def zI:oB:=IB 2 4 aX
abbrev Bk:Ra:=top 68
def YQ:RE:=rA zI [] (bA (eV 1) (bA (eV 0) dA))
def LH:RS:=jA (WB (tH (vi (e2 mB (e2 kA (eV 2) (wq 0)) (eC (.str "ways")))) (qE (vi (rA zI [] (bA (eV 0) (bA (eV 2) dA)))))) (wA (eC (.bl false))) VA) (WB (tH (vi (e2 mB (e2 kA (eV 2) (wq 0)) (eC (.str "one")))) (vi (e2 rD (rP (lC (FB (e2 kA (eV 2) (wq 1))) (uA 0) aB YQ [none,ε 0]) (eC (.bl true))) (wq 1)))) (wA (eC (.bl false))) VA)
def aW:RS:=jA (jC (FB (eV 1)) (uA 2) LH) (wA (eC (.bl true)))
def yL:oB:=IB 2 3 aW
abbrev Hw:Ra:=top 69
def AV:RS:=wA (e2 kA (DC (bA (e2 aD (e2 HF (eV 0) (wq 5)) (wq 8192)) (bA (e2 GH (wq 1) (e2 aD (e2 HF (eV 0) (wq 5)) (wq 13))) (bA (wq 0) (bA (wq 8191) (bA (e2 aD (rA KF [] (bA (eV 0) (bA (wq 9) dA))) (wq 8192)) dA)))))) (e2 aD (eV 0) (wq 5)))
def GL:oB:=IB 1 1 AV
abbrev nQ:Ra:=top 70
def VS:RE:=eV 0
def uP:RT:=vi (rA yL [] (bA (eV 0) (bA (eV 1) dA)))
def tP:RE:=rA zI [] (bA (eV 0) (bA (eV 1) dA))
def aK:RE:=WQ (vi (e2 mB (e2 kA (eV 0) (wq 0)) (eC (.str "one")))) (SA (bA (eC (.str "one")) (bA (VB NE (e2 kA (eV 0) (wq 1))) dA))) (eV 0)
def dN:RS:=jA (CA 1 (rA SN [] (bA (JK (eV 0) (pF (wq 2)) (pF (wq 40))) dA))) (jA (CA 2 (rA KF [] (bA (rA EL [] (bA (eV 0) (bA (wq 0) dA))) (bA (wq 4) dA)))) (jA (FJ (OC 3 4) (rA MH [] (bA (eV 2) (bA (wq 3) dA)))) (jA (CA 5 (rA GL [] (bA (rA KF [] (bA (rA EL [] (bA (eV 0) (bA (wq 1) dA))) (bA (wq 5) dA))) dA))) (jA (CA 6 (SA (bA (eC (.str "ways")) (bA (eV 3) (bA (eV 5) (bA (eV 4) dA)))))) (jA (CA 7 (SA (bA (eC (.str "ways")) (bA (eV 3) (bA (e2 aL (wq 8191) (eV 5)) (bA (eV 4) dA)))))) (jA (CA 8 (lC (FB (OP zL [])) (uA 0) uP VS [none,ε 1])) (jA (CA 9 (lC (FB (eV 8)) (uA 0) aB tP [none,ε 6])) (jA (CA 10 (lC (FB (eV 1)) (uA 0) aB aK [none])) (jA (CA 11 (rA bK [(.int 200)] (bA (wq 3) (bA (eV 10) (bA (eV 3) (bA (eV 5) (bA (eV 4) dA))))))) (jA (WB (yC (vi (e2 AJ (eV 10) (eV 1))) (yC (qE (vi (VG "tuple" (eV 11)))) (vi (e2 rD (VB yB (eV 11)) (wq 2))))) (wA (eC (.bl false))) VA) (jA (WB (vi (e2 mB (VB yB (eV 8)) (wq 0))) (wA (ZD (e2 mB (e2 kA (eV 11) (wq 0)) (eC (.str "clash"))) (ZD (rA bE [] (bA (wq 3) (bA (e2 HD (eV 1) (DC (bA (eV 6) dA))) (bA (e2 kA (e2 kA (eV 11) (wq 1)) (wq 0)) dA)))) (rA bE [] (bA (wq 3) (bA (e2 HD (eV 1) (DC (bA (eV 7) dA))) (bA (e2 kA (e2 kA (eV 11) (wq 1)) (wq 1)) dA))))))) VA) (jA (WB (vi (e2 (OG true) (eC (.bl false)) (eV 9))) (wA (ZD (e2 mB (e2 kA (eV 11) (wq 0)) (eC (.str "must"))) (rA bE [] (bA (wq 3) (bA (e2 HD (eV 1) (DC (bA (eV 7) dA))) (bA (e2 kA (eV 11) (wq 1)) dA)))))) VA) (jA (WB (vi (e2 (OG true) (eC (.bl true)) (eV 9))) (wA (ZD (e2 mB (e2 kA (eV 11) (wq 0)) (eC (.str "never"))) (rA bE [] (bA (wq 3) (bA (e2 HD (eV 1) (DC (bA (eV 6) dA))) (bA (e2 kA (eV 11) (wq 1)) dA)))))) VA) (jA (WB (yC (vi (e2 rD (e2 kA (eV 11) (wq 0)) (eC (.str "may")))) (yC (qE (vi (VG "tuple" (e2 kA (eV 11) (wq 1))))) (vi (e2 rD (VB yB (e2 kA (eV 11) (wq 1))) (wq 2))))) (wA (eC (.bl false))) VA) (wA (ZD (rA zG [] (bA (e2 kA (e2 kA (eV 11) (wq 1)) (wq 0)) (bA (wq 3) (bA (e2 wG (eV 1) (DC (bA (eV 6) dA))) dA)))) (rA zG [] (bA (e2 kA (e2 kA (eV 11) (wq 1)) (wq 1)) (bA (wq 3) (bA (e2 wG (eV 1) (DC (bA (eV 7) dA))) dA))))))))))))))))))))
def fI:oB:=IB 1 12 dN
structure B6(K:Frag)(mg:Str->Option Value)(h:Heap)(dr:Addr)(ib:Value)(ie:Addr)(ii:Addr)(ij:Value):Prop where
 X:K.In h
 G:h.Ns mainGlobals mg
 q0:rN K "Search" dr
 q1:findIn K (.ref dr) "lengths" =ε none
 q2:findIn K (.ref dr) "most" =ε none
 q3:findIn K (.ref dr) "made" =ε none
 q4:eB K "zones" ow
 q5:eB K "ways_in" Tf
 q6:eB K "set_of" Ip
 q7:eB K "turned" Jp
 q8:eB K "chained_sets" Lw
 q9:eB K "wide_row" yt
 qa:eB K "wide" fj
 qb:eB K "pairs_of" Zh
 qc:eB K "narrowed" Yh
 qd:eB K "left_by" Lf
 qe:eB K "narrows" Nf
 qf:eB K "made_of" Mf
 qg:eB K "is_empty" Wh
 qh:eB K "threes_along" Tw
 qi:eB K "rounded_from" Rw
 qj:eB K "rounded" Rf
 qk:eB K "first_net" Uy
 ql:eB K "lengths_in" Ey
 qm:eB K "groups_in" Vy
 qn:eB K "only_member" Zk
 qo:eB K "first_loose_pair" Gv
 qp:eB K "split_of" jt
 qq:eB K "grain" oy
 qr:eB K "length_bounds" dw
 qs:eB K "point_bounds" Ow
 qt:eB K "set_bounds" Fy
 qu:eB K "bounds" Gp
 qv:eB K "least_bounds" Mw
 qw:eB K "moved" oz
 qx:eB K "ring_behind" iy
 qy:eB K "timed" oD
 qz:gN K dr "__init__" "Search.__init__" vL
 Q0:gN K dr "look" "Search.look" KJ
 Q1:gN K dr "look_at_branches" "Search.look_at_branches" lL
 Q2:eB K "stretches_at" Sw
 Q3:QP K "planned" KI 200
 Q4:QP K "asked" QI 200
 Q5:eB K "is_three" Xh
 Q6:eB K "behind_steps" Kw
 Q7:eB K "is_ring" Kf
 Q8:eB K "shows" iK
 Q9:eB K "all_show" bM
 Qa:eB K "follows" Jf
 Qb:eB K "_law_cell_at" Gw
 Qc:eB K "_law_mixed" Cy
 Qd:eB K "_law_pair_by" Iw
 Qe:eB K "_law_whole" Dy
 Qf:eB K "_law_zone" Sy
 Qg:eB K "_law_way_of" Dk
 Qh:eB K "_law_lies" Ry
 Qi:eB K "_law_keeps" Ay
 Qj:eB K "_law_plan_right" bw
 Qk:eB K "_law_ways_by" Jw
 Ql:eB K "_law_member_by" Mv
 Qm:eB K "_law_facts_by" yw
 Qn:eB K "_law_orders" Ck
 Qo:eB K "_law_so" Hf
 Qp:eB K "_law_all_so" Bk
 Qq:eB K "_law_mask_by" Hw
 Qr:eB K "law" nQ
 Qs:nsIn K mainGlobals "all" =ε none
 Qt:nsIn K mainGlobals "any" =ε none
 Qu:nsIn K mainGlobals "bool" =ε none
 Qv:nsIn K mainGlobals "enumerate" =ε none
 Qw:nsIn K mainGlobals "int" =ε none
 Qx:nsIn K mainGlobals "isinstance" =ε none
 Qy:nsIn K mainGlobals "len" =ε none
 Qz:nsIn K mainGlobals "list" =ε none
 U0:nsIn K mainGlobals "max" =ε none
 U1:nsIn K mainGlobals "min" =ε none
 U2:nsIn K mainGlobals "range" =ε none
 U3:nsIn K mainGlobals "set" =ε none
 U4:nsIn K mainGlobals "sum" =ε none
 U5:nsIn K mainGlobals "tuple" =ε none
 U6:nsIn K mainGlobals "zip" =ε none
 U7:nsIn K mainGlobals "ALL" =ε (ε ib)
 U8:uD K 6 ib=ε fN
 U9:nsIn K mainGlobals "ZONES" =ε (ε (.ref ie))
 Ua:uD K 6 (.ref ie)=ε uZ
 Ub:nsIn K mainGlobals "CHAINED" =ε (ε (.ref ii))
 Uc:uD K 6 (.ref ii)=ε MX
 Ud:nsIn K mainGlobals "SAME" =ε (ε ij)
 Ue:uD K 6 ij=ε C1
section
variable{P:Pu}{w:Ri}{K:Pb}{a:Str->Oo Oi}
def wV:Yu (Dn vL 3) (Dn vL 3) (kB vL):=XG
def oV:Yu (Dn lL 7) (Dn lL 4) (kB lL):=XG
def yV:Yu (Dn KJ 9) (Dn KJ 4) (kB KJ):=XG
def DW:Yu (Dn KI 5) (Dn KI 3) (kB KI):=XG
def AY:Yu (Dn QI 8) (Dn QI 6) (kB QI):=XG
def rW:Yu (Dn bM 6) (Dn bM 4) (kB bM):=XG
def BY:Yu (Dn iK 6) (Dn iK 4) (kB iK):=XG
def J3:Yu (Dn nQ 12) ["_law_script"] (kB nQ):=XG
def cT(T:B6 K a h l i d g j){st:Ra}(D:eB K x st)(B:∀{f:O4}{e:Oi}{A:Ro}{outer:Oe Env}{s:Ou}{H:Hp}{E:XK},(Dn st m).Nodup->Xi k (A.deeper (envOfC x (kB st) s.heap.objs.size f e))->iI (YE TF P w K a b (Dn st m) x (kB st) f e A outer s H E).nox (MC st) body)(y:∀(kV o q:Oi)(C:Oo O4)(e ct:Oi)(us:Oe Oi),us.length=n->bindArgs (fnOf x x (eE st) (MC st) (kB st) .none kV o q C e ct) ⟨us,[]⟩=pure (((Dn st m).take n).zip us):=by intro _ _ _ _ _ _;first | exact YK rfl | exact len1 fun z=>rfl | exact ZK fun z z=>rfl | exact zJ fun z z z=>rfl | exact EH fun z z z z=>rfl | exact IQ fun z z z z z=>rfl | exact L7 fun z z z z z z=>rfl)(S:Yu (Dn st m) ((Dn st m).take n) (kB st):=by exact XG)(p:autoParam (((Dn st m).take n).length=n) Æ)(u:autoParam ((Dn st m).length=m) Æ):cC P w K a b (k+1) n x (IB n m body):=uT (qP T.X T.G D (by rw[p];exact y)) S p u fun z z z z z z z r=>B S.nd r
def zN(T:B6 K a h l i d g j)(e:nsIn K mainGlobals x=ε none):a x=none:=mg_none_of T.X T.G e
variable{h:Ru}{l:O4}{i:Oi}{d:O4}{g:O4}{j:Oi}(T:B6 K a h l i d g j){b:Ru}
include T
def oh:cC P w K a b 1 1 "zones" WS:=cT T T.q4 fun S r=>oA (yA (fA (ZI rfl (⟨⟨_,6,PySem.W.mg_of T.X T.G T.U9,T.Ua⟩⟩)) (aA 0)))
def QJ:cC P w K a b 1 1 "ways_in" fH:=cT T T.q5 fun S r=>oA (yA (gE (dF rfl (zN T T.U2) cA) (lF 0) (NP (MA (bC r.units) (vA UH (vA IP (aA 1) (aA 0)) cA) cA)) (aA 0)))
def Jg:cC P w K a b 1 1 "set_of" aP:=cT T T.q6 fun S r=>oA (yA (X1 rfl rfl (zN T T.U4) (gE (OB (aA 0)) (lF 0) (WC) (vA FM cA (aA 0)))))
def Kg:cC P w K a b 2 1 "turned" bP:=cT T T.q7 fun S r=>oA (yA (DA (Jg T) r (eD (gE (OB (DA (QJ T) r (eD (aA 0)))) (lF 0) (WC) (vA oG cA (aA 0))))))
def Tv:cC P w K a b 2 2 "chained_sets" aO:=cT T T.q8 fun S r=>lA (KA 2 S (DA (QJ T) r (eD (aA 1)))) (lA (KA 3 S cA) (lA (sC m5 rfl (OB (DA (QJ T) r (eD (aA 0)))) (HC 4 S) (oA (sC m5 rfl (OB (aA 2)) (HC 5 S) (oA (KA 3 S (vA xq (aA 3) (fA (fA (ZI rfl (⟨⟨_,6,PySem.W.mg_of T.X T.G T.Ub,T.Uc⟩⟩)) (aA 4)) (aA 5)))))))) (oA (yA (aA 3)))))
def Vk:cC P w K a b 1 2 "wide_row" qO:=cT T T.q9 fun S r=>oA (yA (vA NI (vA xT (W1 (ZI rfl (⟨⟨_,6,PySem.W.mg_of T.X T.G T.U7,T.U8⟩⟩)) (aA 1)) (KE (eD (ZI rfl (⟨⟨_,6,PySem.W.mg_of T.X T.G T.Ud,T.Ue⟩⟩))))) (W1 (ZI rfl (⟨⟨_,6,PySem.W.mg_of T.X T.G T.U7,T.U8⟩⟩)) (vA oG (vA oG (aA 0) (aA 1)) cA))))
def Wn:cC P w K a b 2 1 "wide" LP:=cT T T.qa fun S r=>oA (yA (fY (dF rfl (zN T T.U2) (aA 0)) (lF 0) (WC) (DA (Vk T) r (sB (aA 1) (aA 0)))))
def mO:cC P w K a b 1 1 "pairs_of" PH:=cT T T.qb fun S r=>lA (KA 1 S (EG vF)) (lA (sC m5 rfl (dF rfl (zN T T.U2) (aA 0)) (HC 2 S) (oA (sC m5 rfl (mY rfl (zN T T.U2) (vA EC (aA 2) cA) (aA 0)) (HC 3 S) (oA (fE (LF (aA 1) (YA (sB (aA 2) (aA 3))))))))) (oA (yA (aA 1))))
def lO:cC P w K a b 3 4 "narrowed" AI:=cT T T.qc fun S r=>lA (zR 4 S (OB (aA 0)) (lF 0) (WC) (zO rfl (zN T T.Qz) (aA 0))) (lA (ZO (vA UH (fA (fA (aA 0) (aA 1)) (aA 3)) (aA 2)) (fA (aA 4) (aA 1)) (aA 3)) (lA (ZO (DA (Kg T) r (eD (fA (fA (aA 4) (aA 1)) (aA 3)))) (fA (aA 4) (aA 3)) (aA 1)) (oA (yA (aA 4)))))
def vW:cC P w K a b 3 2 "left_by" YL:=cT T T.qd fun S r=>lA (KA 2 S (fA (fA (aA 0) (fA (aA 1) cA)) (fA (aA 1) cA))) (lA (KA 3 S (fA (fA (aA 0) (fA (aA 1) cA)) (fA (aA 1) cA))) (oA (yA (vA UH (fA (fA (aA 0) (fA (aA 1) cA)) (fA (aA 1) cA)) (DA (Tv T) r (sB (aA 2) (aA 3)))))))
def xW:cC P w K a b 4 2 "narrows" PL:=cT T T.qe fun S r=>oA (yA (mG (xF r.units) (DA (vW T) r (sB (aA 0) (aA 1))) (fA (fA (aA 0) (fA (aA 1) cA)) (fA (aA 1) cA))))
def wW:cC P w K a b 4 2 "made_of" OL:=cT T T.qf fun S r=>oA (yA (DA (lO T) r (MG (aA 0) (fA (aA 1) cA) (DA (vW T) r (sB (aA 0) (aA 1))) (fA (aA 1) cA))))
def kO:cC P w K a b 1 1 "is_empty" dG:=cT T T.qg fun S r=>oA (yA (Z8 rfl rfl (zN T T.Qt) (gE (OB (aA 0)) (lF 0) (WC) (mG Jx cA (aA 0)))))
def Vv:cC P w K a b 1 2 "threes_along" cO:=cT T T.qh fun S r=>lA (KA 2 S (EG vF)) (lA (sC m5 rfl (dF rfl (zN T T.U2) (aA 1)) (HC 3 S) (oA (iB (MA CS (aA 3) (aA 0)) (lA (fE (LF (aA 2) (YA (CF (fA (aA 0) cA) (fA (aA 0) cA) (aA 3))))) (oA (fE (LF (aA 2) (YA (CF (fA (aA 0) cA) (fA (aA 0) cA) (aA 3))))))) jB))) (oA (yA (aA 2))))
def vV:cC P w K a b 5 2 "rounded_from" xI:=cT T T.qi fun S r=>lA (KA 2 S (EG vF)) (lA (iB (XD (DA (kO T) r (eD (aA 0)))) (oA (yA (YA (sB ME (aA 2))))) jB) (lA (zR 3 S (OB (aA 0)) (lF 0) (WC) (zO rfl (zN T T.Qz) (aA 0))) (lA (KA 4 S (zO rfl (zN T T.Qz) (aA 1))) (lA (PZ m5 (MA (oK r.units) (aA 4) (KE vF)) (lA (KA 5 S (Bb (aA 4) cA)) (oA (sC m5 rfl (OB (DA (Vv T) r (sB (aA 5) (bD rfl (zN T T.Qy) (aA 0))))) (HC 6 S) (oA (iB (XD (DA (xW T) r (sB (aA 3) (aA 6)))) (lA (KA 3 S (DA (wW T) r (sB (aA 3) (aA 6)))) (lA (fE (LF (aA 2) (aA 6))) (lA (iB (MA (yT r.units) (fA (fA (aA 3) (fA (aA 6) cA)) (fA (aA 6) cA)) cA) (oA (yA (YA (sB ME (aA 2))))) jB) (oA (fE (LF (aA 4) (YA (sB (fA (aA 6) cA) (fA (aA 6) cA))))))))) jB)))))) (oA (yA (YA (sB (aA 3) (aA 2)))))))))
def vg:cC P w K a b 6 1 "rounded" UJ:=cT T T.qj fun S r=>oA (yA (DA (vV T) r (sB (aA 0) (DA (mO T) r (eD (bD rfl (zN T T.Qy) (aA 0)))))))
def TV:cC P w K a b 4 2 "first_net" OJ:=cT T T.qk fun S r=>lA (KA 2 S (DA (Wn T) r (eD (aA 0)))) (lA (sC m5 rfl (OB (aA 1)) (HC 3 S) (oA (iB (MA (bC r.units) (fA (aA 3) cA) qB) (oA (KA 2 S (DA (lO T) r (MG (aA 2) (fA (aA 3) cA) (fA (aA 3) cA) (fA (aA 3) cA))))) jB))) (oA (yA (aA 2))))
def JV:cC P w K a b 1 1 "lengths_in" JL:=cT T T.ql fun S r=>oA (yA (gE (OB (aA 0)) (lF 0) (NP (MA (bC r.units) (fA (aA 0) cA) qB)) (YA (CF (fA (aA 0) cA) (fA (aA 0) cA) (fA (aA 0) cA)))))
def UV:cC P w K a b 1 1 "groups_in" PJ:=cT T T.qm fun S r=>oA (yA (gE (OB (aA 0)) (lF 0) (NP (MA (bC r.units) (fA (aA 0) cA) qB)) (fA (aA 0) cA)))
def Dw:cC P w K a b 4 3 "only_member" YN:=cT T T.qn fun S r=>lA (sC m5 rfl (my rfl (zN T T.Qv) (aA 1)) (uK 3 4 rfl S) (lA (KA 5 S (aQ (MA (bC r.units) (aA 3) (aA 2)) (fA (aA 4) cA) (vA UH (ZI rfl (⟨⟨_,6,PySem.W.mg_of T.X T.G T.U7,T.U8⟩⟩)) (a9 (fA (aA 4) cA))))) (oA (KA 0 S (DA (lO T) r (MG (aA 0) (fA (aA 4) cA) (aA 5) (fA (aA 4) cA))))))) (oA (yA (aA 0)))
def Fv:cC P w K a b 2 1 "first_loose_pair" nL:=cT T T.qo fun S r=>lA (sC m5 rfl (OB (DA (mO T) r (eD (bD rfl (zN T T.Qy) (aA 0))))) (HC 1 S) (oA (iB (MA YM (bD rfl (zN T T.Qy) (DA (QJ T) r (eD (fA (fA (aA 0) (fA (aA 1) cA)) (fA (aA 1) cA))))) cA) (oA (yA (aA 1))) jB))) (oA (yA ME))
def kW:cC P w K a b 5 2 "split_of" tF:=cT T T.qp fun S r=>lA (iB (MA (oK r.units) (aA 1) (KE vF)) (lA (KA 2 S (fA (aA 1) cA)) (lA (RJ 3 S (dF rfl (zN T T.U2) (bD rfl (zN T T.Qy) (aA 2))) (lF 0) (WC) (DA (Dw T) r (CF (aA 1) (aA 2) (aA 0)))) (oA (yA (YA (MG qB (YA vF) (aA 3) (gE (OB (aA 2)) (lF 0) (WC) (YA (sB (fA (aA 0) cA) (fA (aA 0) cA)))))))))) jB) (lA (KA 4 S (DA (Fv T) r (eD (aA 0)))) (lA (iB (MA nK (aA 4) ME) (oA (yA ME)) jB) (lA (KA 5 S (fA (fA (aA 0) (fA (aA 4) cA)) (fA (aA 4) cA))) (lA (RJ 3 S (OB (DA (QJ T) r (eD (aA 5)))) (lF 0) (WC) (DA (lO T) r (MG (aA 1) (fA (aA 2) cA) (vA FM cA (aA 0)) (fA (aA 2) cA)))) (oA (yA (YA (MG qB (aA 4) (aA 3) (KE (eD (aA 4)))))))))))
def dh:cC P w K a b 1 1 "grain" uM:=cT T T.qq fun S r=>oA (yA (vA EC (vA UD cA (aA 0)) cA))
def Xv:cC P w K a b 1 2 "length_bounds" sL:=cT T T.qr fun S r=>lA (KA 2 S (vA UD cA (fA (aA 0) cA))) (oA (yA (EG (sB (YA (CF (aA 2) (vA EC (aA 2) cA) (vA UD (mH (fA (aA 0) cA)) (aA 1)))) (YA (CF (vA EC (aA 2) cA) (aA 2) (vA UD (fA (aA 0) cA) (aA 1))))))))
def uV:cC P w K a b 1 4 "point_bounds" IJ:=cT T T.qs fun S r=>lA (KA 4 S (EG vF)) (lA (iB (MA F5 (K1 rfl rfl (zN T T.U0) (aA 3)) (aA 2)) (oA (fE (LF (aA 4) (YA (CF (aA 0) (aA 1) (aQ (MA pH (K1 rfl rfl (zN T T.U0) (aA 3)) (aA 2)) (mH cA) cA)))))) jB) (lA (iB (MA mU (CT rfl rfl (zN T T.U1) (aA 3)) (aA 2)) (oA (fE (LF (aA 4) (YA (CF (aA 1) (aA 0) (aQ (MA YM (CT rfl rfl (zN T T.U1) (aA 3)) (aA 2)) (mH cA) cA)))))) jB) (oA (yA (aA 4)))))
def Vw:cC P w K a b 2 3 "set_bounds" ML:=cT T T.qt fun S r=>lA (KA 3 S (EG vF)) (lA (sC m5 rfl (dF rfl (zN T T.U2) cA) (HC 4 S) (lA (RJ 5 S (OB (DA (QJ T) r (eD (aA 1)))) (lF 0) (WC) (fA (DA (oh T) r (eD (aA 0))) (aA 1))) (lA (fE (yO (aA 3) (DA (uV T) r (MG (vA EC (vA UD cA (aA 0)) (aA 4)) (vA UD cA (aA 2)) cA (aA 5))))) (oA (fE (yO (aA 3) (DA (uV T) r (MG (vA EC (vA UD cA (aA 0)) (aA 4)) (vA EC (vA UD cA (aA 2)) cA) cA (aA 5))))))))) (oA (yA (aA 3))))
def SW:cC P w K a b 3 2 "bounds" QH:=cT T T.qu fun S r=>lA (zR 2 S (dF rfl (zN T T.U2) (bD rfl (zN T T.Qy) (aA 0))) (lF 0) (WC) (YA (CF (vA UD cA (aA 0)) (vA EC (vA UD cA (aA 0)) cA) (mH cA)))) (lA (sC m5 rfl (OB (aA 1)) (HC 3 S) (oA (fE (yO (aA 2) (DA (Xv T) r (sB (aA 3) (DA (dh T) r (eD (bD rfl (zN T T.Qy) (aA 0)))))))))) (lA (sC m5 rfl (OB (DA (mO T) r (eD (bD rfl (zN T T.Qy) (aA 0))))) (HC 4 S) (oA (fE (yO (aA 2) (DA (Vw T) r (CF (fA (aA 4) cA) (fA (fA (aA 0) (fA (aA 4) cA)) (fA (aA 4) cA)) (fA (aA 4) cA))))))) (oA (yA (aA 2)))))
def tV:cC P w K a b 1 1 "least_bounds" HJ:=cT T T.qv fun S r=>lA (KA 1 S gZ) (lA (sC m5 rfl (OB (aA 0)) (HC 2 S) (lA (KA 3 S (L1 (sB (fA (aA 2) cA) (fA (aA 2) cA)))) (oA (QZ r.units (mr rfl rfl (zN T T.U1) (Zc r.units (aA 1) (aA 3) (fA (aA 2) cA)) (fA (aA 2) cA)) (aA 1) (aA 3))))) (oA (yA (aA 1))))
def jh:cC P w K a b 1 3 "moved" cK:=cT T T.qw fun S r=>lA (KA 3 S ME) (lA (sC m5 rfl (Jb (aA 0)) (uK 4 5 rfl S) (oA (iB (MA YM (fA (aA 1) (fA (aA 4) cA)) (vA EC (fA (aA 1) (fA (aA 4) cA)) (aA 5))) (lA (ZO (vA EC (fA (aA 1) (fA (aA 4) cA)) (aA 5)) (aA 1) (fA (aA 4) cA)) (lA (ZO (fA (aA 4) cA) (aA 2) (fA (aA 4) cA)) (oA (KA 3 S (fA (aA 4) cA))))) jB))) (oA (yA (aA 3))))
def Ew:cC P w K a b 1 2 "ring_behind" ZN:=cT T T.qx fun S r=>lA (sC m5 rfl (dF rfl (zN T T.U2) (bD rfl (zN T T.Qy) (aA 1))) (HC 2 S) (oA (KA 0 S (fA (aA 1) (aA 0))))) (lA (KA 3 S (EG (sB (aA 0) (fA (aA 1) (aA 0))))) (lA (PZ m5 (MA (xF r.units) (fA (aA 3) (mH cA)) (aA 0)) (oA (fE (LF (aA 3) (fA (aA 1) (fA (aA 3) (mH cA))))))) (oA (yA (aA 3)))))
def kh:cC P w K a b 2 2 "timed" ZH:=cT T T.qy fun S r=>lA (KA 2 S (DA (tV T) r (eD (aA 1)))) (lA (KA 3 S (iZ cA (aA 0))) (lA (KA 4 S (iZ ME (aA 0))) (lA (sC m5 rfl (dF rfl (zN T T.U2) (vA EC (aA 0) cA)) (HC 5 S) (lA (KA 6 S (DA (jh T) r (CF (aA 2) (aA 3) (aA 4)))) (oA (iB (MA nK (aA 6) ME) (lA (KA 7 S (mx rfl rfl (zN T T.U1) (aA 3) cA)) (oA (yA (YA (sB qB (gE (OB (aA 3)) (lF 0) (WC) (vA oG (aA 0) (aA 1)))))))) jB)))) (oA (yA (YA (sB qB (DA (Ew T) r (sB (aA 6) (aA 4))))))))))
def Ly:vQ P w K a b 1 3 "Search" uL:=
 by unfold uL;exact nb (k:=0) (body:=eR) (Lb (ps:=Dn vL 3) T.X T.G T.q0 T.qz fun q q q q q q=>zJ (fun q q q=>rfl)) wV rfl rfl fun q q q q q q q r=>have S:=Yu.nd wV;lA (DP (kH T.q0 T.q1) (aA 0) (aA 1)) (lA (DP (kH T.q0 T.q2) (aA 0) (aA 2)) (oA (DP (kH T.q0 T.q3) (aA 0) cA)))
def Uv:cC P w K a b 1 1 "stretches_at" bO:=cT T T.Q2 fun S r=>oA (yA (gE (Ar (c:=2) rfl (zN T T.U2) cA (bD rfl (zN T T.Qy) (aA 0)) cA) (lF 0) (WC) (YA (sB (fA (aA 1) (aA 0)) (fA (aA 1) (vA EC (aA 0) cA))))))
def Dv {R:oB} {k:Nat} (f:5<=k) (e:yH P w K a b k 4 "Search" "look" R):yH P w K a b (k+1) 4 "Search" "look_at_branches" (JH R):=
 by unfold JH;exact TZ (k:=k) (body:=kL R) (BS (ps:=Dn lL 4) T.q0 T.Q1 fun q q q q q q=>EH (fun q q q q=>rfl)) oV rfl rfl fun q q q q q q q r=>have S:=Yu.nd oV;lA (KA 4 S (EG vF)) (lA (sC m5 rfl (OB (fA (aA 1) cA)) (HC 5 S) (lA (KA 6 S (fT e r nofun (aA 0) (CF (aA 5) (fA (aA 1) cA) (aA 3)))) (lA (iB (MA (xF r.units) (fA (aA 6) cA) qB) (oA (yA (aA 6))) jB) (oA (fE (LF (aA 4) (fA (aA 6) cA))))))) (oA (yA (YA (sB qB (vA XZ (vA XZ (YA (sB (fA (aA 1) cA) (aA 2))) (fA (aA 1) cA)) (YA (eD (aA 4)))))))))
def Zv {R:oB} {k:Nat} (e:5<=k) (f:yH P w K a b k 4 "Search" "look" R):yH P w K a b (k+2) 4 "Search" "look" (IB 4 9 (JJ R)):=
 TZ (k:=k+1) (body:=JJ R) (BS (ps:=Dn KJ 4) T.q0 T.Q0 fun q q q q q q=>EH (fun q q q q=>rfl)) yV rfl rfl fun q q q q q q q r=>have S:=Yu.nd yV;lA (KA 4 S (FE (vV T) r nofun rfl (sB (aA 1) (aA 2)))) (lA (KA 5 S (fA (aA 4) cA)) (lA (KA 6 S (fA (aA 4) cA)) (lA (iB (MA nK (aA 5) ME) (oA (yA (YA (sB qB (YA (sB qB (aA 6))))))) jB) (lA (KA 7 S (FE (kh T) r nofun rfl (sB (vA UD cA (bD rfl (zN T T.Qy) (aA 5))) (FE (SW T) r nofun rfl (sB (aA 5) (MM (kH T.q0 T.q1) (aA 0))))))) (lA (iB (MA (bC r.units) (fA (aA 7) cA) qB) (oA (yA (YA (sB qB (YA (CF qB (aA 6) (fA (aA 7) cA))))))) jB) (lA (KA 8 S (FE (kW T) r nofun rfl (sB (aA 5) (aA 3)))) (lA (iB (MA nK (aA 8) ME) (oA (yA (YA (sB qB (FE (Uv T) r nofun rfl (eD (fA (aA 7) cA))))))) jB) (lA (iB (MA mU (MM (kH T.q0 T.q3) (aA 0)) (MM (kH T.q0 T.q2) (aA 0))) (oA (yA (YA (sB qB ME)))) jB) (lA (DP (kH T.q0 T.q3) (aA 0) (vA EC (MM (kH T.q0 T.q3) (aA 0)) cA)) (oA (yA (fT (Dv T e f) r nofun (aA 0) (CF (aA 8) (aA 6) (iP (aA 3) (OI cA) LS))))))))))))))
theorem qV:∀n:Nat,yH P w K a b (5+2*n) 4 "Search" "look" (aF n)
 | 0=>m4 (BS (ps:=Dn KJ 4) T.q0 T.Q0 fun q q q q q q=>EH (fun q q q q=>rfl))
 | n+1=>Zv T (Ma _ _) (qV n)
def Yk {dds:Oe Dt} (D:PK K a "planned" KI (Dn KI 3) dds):qJ P w K a b 30 3 "planned" bG dds:=
 by unfold bG;exact yZ (k:=29) (body:=FR) D DW rfl rfl fun q q q q q q q r=>have S:=Yu.nd DW;lA (KA 3 S (nc (Ly T) r (by decide) rfl (sB (DA (JV T) r (eD (aA 1))) (aA 2)))) (lA (KA 4 S (fT (qV T 12) r (by decide) (aA 3) (CF (DA (TV T) r (sB (aA 0) (aA 1))) (DA (mO T) r (eD (aA 0))) (DA (UV T) r (eD (aA 1)))))) (oA (yA (YA (CF (fA (aA 4) cA) (fA (aA 4) cA) (MM (kH T.q0 T.q3) (aA 3)))))))
def LV:qJ P w K a b 30 3 "planned" bG []:=Yk T (ng (ps:=Dn KI 3) T.X T.G T.Q3 fun q q q q q q q q q q q=>zJ fun q q q f e=>BindsTo.of_defaults rfl f e rfl rfl)
def Lg {dds:Oe Dt} (D:PK K a "asked" QI (Dn QI 6) dds):qJ P w K a b 31 6 "asked" bK dds:=
 by unfold bK;exact yZ (k:=30) (body:=ES) D AY rfl rfl fun q q q q q q q r=>have S:=Yu.nd AY;lA (KA 6 S (xS (LV T) r (by decide) rfl (CF (aA 0) (vA NI (aA 1) (KE (eD (YA (MG qB (aA 2) (aA 3) (aA 4)))))) (aA 5)))) (lA (KA 7 S (xS (LV T) r (by decide) rfl (CF (aA 0) (vA NI (aA 1) (KE (eD (YA (MG qB (aA 2) (vA oG (ZI rfl (⟨⟨_,6,PySem.W.mg_of T.X T.G T.U7,T.U8⟩⟩)) (aA 3)) (aA 4)))))) (aA 5)))) (lA (iB (WM.tm (TD (MA (bC r.units) (fA (aA 6) cA) qB) (GG (MA (bC r.units) (fA (aA 7) cA) qB)))) (oA (yA (YA (sB qB ME)))) jB) (lA (iB (WM.tm (rK (MA (bC r.units) (fA (aA 6) cA) qB) (kK (MA (bC r.units) (fA (aA 7) cA) qB)))) (oA (yA (YA (sB qB (YA (sB (fA (aA 6) cA) (fA (aA 7) cA))))))) jB) (lA (iB (MA (bC r.units) (fA (aA 7) cA) qB) (oA (yA (YA (sB qB (fA (aA 7) cA))))) jB) (lA (iB (MA (bC r.units) (fA (aA 6) cA) qB) (oA (yA (YA (sB qB (fA (aA 6) cA))))) jB) (oA (yA (YA (sB qB (YA (sB (fA (aA 6) cA) (fA (aA 7) cA))))))))))))
def Xk:qJ P w K a b 31 6 "asked" bK [(.int 200)]:=Lg T (nh (ps:=Dn QI 6) T.X T.G T.Q4 fun q q q q q q q q q q q=>M7 (n:=5) rfl (IQ fun q q q q q f e=>BindsTo.of_defaults rfl f e rfl rfl))
def Uk:cC P w K a b 1 2 "is_three" ZL:=cT T T.Q5 fun S r=>oA (yA (aI (mG (bC r.units) (Yg rfl rfl (zN T T.Qy) rfl (zN T T.U3) (aA 0)) cA) (aJ (D3 rfl rfl (zN T T.Qs) (gE (u9 (aA 0)) (lF 0) (WC) (Yc F5 pH cA (aA 0) (aA 1)))))))
def Sv:cC P w K a b 5 2 "behind_steps" MJ:=cT T T.Q6 fun S r=>lA (sC m5 rfl (OB (aA 1)) (HC 2 S) (lA (iB (WM.tm (TD (XD (DA (kO T) r (eD (aA 0)))) (TD (QF (XD (DA (Uk T) r (sB (aA 2) (bD rfl (zN T T.Qy) (aA 0)))))) (GG (QF (XD (DA (xW T) r (sB (aA 0) (aA 2))))))))) (oA (yA ME)) jB) (oA (KA 0 S (DA (wW T) r (sB (aA 0) (aA 2))))))) (oA (yA (aA 0)))
def ug:cC P w K a b 2 2 "is_ring" GI:=cT T T.Q7 fun S r=>lA (iB (WM.tm (TD (MA pH (bD rfl (zN T T.Qy) (aA 0)) cA) (TD (MA (xF r.units) (fA (aA 0) cA) (fA (aA 0) (mH cA))) (GG (MA (xF r.units) (Ut rfl rfl (zN T T.Qy) rfl (zN T T.U3) (aA 0)) (vA oG (bD rfl (zN T T.Qy) (aA 0)) cA)))))) (oA (yA NC)) jB) (lA (KA 2 S (DA (tV T) r (eD (aA 1)))) (lA (KA 3 S (Zg rfl rfl (zN T T.Qz) rfl (zN T T.U6) (aA 0) (iP (aA 0) (OI cA) LS))) (lA (iB (QF (XD (D3 rfl rfl (zN T T.Qs) (gE (OB (aA 3)) (lF 0) (WC) (b9 r.units (aA 0) (aA 1)))))) (oA (yA NC)) jB) (oA (yA (mG pH (X1 rfl rfl (zN T T.U4) (gE (OB (aA 3)) (lF 0) (WC) (om r.units (aA 1) (aA 0)))) cA))))))
def Rk {R:oB} {k:Nat} (f:6<=k) (e:cC P w K a b k 4 "shows" R):cC P w K a b (k+1) 4 "all_show" (KH R):=
 by unfold KH;exact uT (k:=k) (body:=IL R) (qP (ps:=Dn bM 4) T.X T.G T.Q9 fun q q q q q q=>EH (fun q q q q=>rfl)) rW rfl rfl fun q q q q q q q r=>have S:=Yu.nd rW;lA (iB (MA (xF r.units) (bD rfl (zN T T.Qy) (aA 0)) (bD rfl (zN T T.Qy) (aA 3))) (oA (yA NC)) jB) (lA (sC m5 rfl (x9 rfl (zN T T.U6) (aA 0) (aA 3)) (uK 4 5 rfl S) (oA (iB (QF (XD (FE e r nofun rfl (MG (aA 4) (aA 1) (aA 2) (aA 5))))) (oA (yA NC)) jB))) (oA (yA NC)))
def wg {R:oB} {k:Nat} (e:6<=k) (f:cC P w K a b k 4 "shows" R):cC P w K a b (k+2) 4 "shows" (IB 4 6 (ZJ R)):=
 uT (k:=k+1) (body:=ZJ R) (qP (ps:=Dn iK 4) T.X T.G T.Q8 fun q q q q q q=>EH (fun q q q q=>rfl)) BY rfl rfl fun q q q q q q q r=>have S:=Yu.nd BY;lA (KA 4 S (FE (Sv T) r nofun rfl (sB (aA 0) (fA (aA 3) cA)))) (lA (iB (MA nK (aA 4) ME) (oA (yA NC)) jB) (lA (iB (MA (yT r.units) (fA (aA 3) cA) qB) (oA (yA (FE (kO T) r nofun rfl (eD (aA 4))))) jB) (lA (iB (WM.tm (TD (XD (FE (kO T) r nofun rfl (eD (aA 4)))) (GG (MA (oK r.units) (fA (FE (vg T) r nofun rfl (eD (aA 4))) cA) (KE vF))))) (oA (yA NC)) jB) (lA (iB (MA (yT r.units) (fA (aA 3) cA) qB) (oA (yA (FE (ug T) r nofun rfl (sB (fA (aA 3) cA) (FE (SW T) r nofun rfl (sB (aA 4) (aA 2))))))) jB) (lA (KA 5 S (FE (kW T) r nofun rfl (sB (aA 4) (aA 1)))) (lA (iB (WM.tm (TD (MA nK (aA 5) ME) (TD (MA (oK r.units) (fA (aA 5) cA) (fA (aA 3) cA)) (GG (MA (oK r.units) (fA (aA 5) cA) (Vt (aA 3) (OI cA) (OI (mH cA)))))))) (oA (yA NC)) jB) (oA (yA (FE (Rk T e f) r nofun rfl (MG (fA (aA 5) cA) (iP (aA 1) (OI cA) LS) (aA 2) (fA (aA 3) (mH cA))))))))))))
theorem SX:∀n:Nat,cC P w K a b (6+2*n) 4 "shows" (YH n)
 | 0=>X9 (qP (ps:=Dn iK 4) T.X T.G T.Q8 fun q q q q q q=>EH (fun q q q q=>rfl))
 | n+1=>wg T (Ma _ _) (SX n)
def fO:cC P w K a b 31 3 "follows" bE:=cT T T.Qa fun S r=>oA (yA (DA (SX T 12) r (MG (DA (TV T) r (sB (aA 0) (aA 1))) (DA (UV T) r (eD (aA 1))) (DA (JV T) r (eD (aA 1))) (aA 2))))
def sV:cC P w K a b 1 2 "_law_cell_at" EL:=cT T T.Qb fun S r=>lA (iB (MA pH (aA 1) (bD rfl (zN T T.Qy) (aA 0))) (oA (yA (fA (aA 0) (aA 1)))) jB) (oA (yA cA))
def OH:cC P w K a b 1 2 "_law_mixed" KF:=cT T T.Qc fun S r=>lA (KA 2 S (vA AD (vA UD (vA EC (vA EC (vA AD (aA 0) cA) (vA UD cA (aA 1))) cA) cA) cA)) (oA (yA (vA AD (vA UD (aA 2) (vA EC (vA EC (vA AD (aA 2) cA) (aA 1)) cA)) cA)))
def dR:cC P w K a b 1 2 "_law_pair_by" MH:=cT T T.Qd fun S r=>lA (KA 2 S (vA AD (aA 0) (aA 1))) (oA (yA (YA (sB (aA 2) (vA AD (vA EC (vA EC (aA 2) cA) (vA AD (vA cI (aA 0) (aA 1)) (vA oG (aA 1) cA))) (aA 1))))))
def IV:cC P w K a b 1 1 "_law_whole" xL:=cT T T.Qe fun S r=>oA (yA (aI (tK rfl (zN T T.Qx) rfl (zN T T.Qw) PyProof.Rows.boot_int (by decide) (aA 0)) (aJ (e9 (tK rfl (zN T T.Qx) rfl (zN T T.Qu) PyProof.Rows.boot_bool (by decide) (aA 0))))))
def SV:cC P w K a b 1 2 "_law_zone" NJ:=cT T T.Qf fun S r=>lA (iB (MA pH (aA 0) (fA (aA 1) cA)) (oA (yA cA)) jB) (lA (iB (MA (bC r.units) (aA 0) (fA (aA 1) cA)) (oA (yA cA)) jB) (lA (iB (MA pH (aA 0) (fA (aA 1) cA)) (oA (yA cA)) jB) (lA (iB (MA (bC r.units) (aA 0) (fA (aA 1) cA)) (oA (yA cA)) jB) (oA (yA cA)))))
def PV:cC P w K a b 2 2 "_law_way_of" AL:=cT T T.Qg fun S r=>lA (KA 2 S (KE (DE (YA (sB cA cA)) (DE (YA (sB cA cA)) (DE (YA (sB cA cA)) (DE (YA (sB cA cA)) (DE (YA (sB cA cA)) (DE (YA (sB cA cA)) (DE (YA (sB cA cA)) (DE (YA (sB cA cA)) (DE (YA (sB cA cA)) (MG (YA (sB cA cA)) (YA (sB cA cA)) (YA (sB cA cA)) (YA (sB cA cA)))))))))))))) (oA (yA (gb r.units (aA 2) (YA (sB (DA (SV T) r (sB (fA (aA 0) cA) (aA 1))) (DA (SV T) r (sB (fA (aA 0) cA) (aA 1))))))))
def RV:cC P w K a b 3 2 "_law_lies" NL:=cT T T.Qh fun S r=>oA (yA (mG (bC r.units) (vA UH (vA IP (fA (aA 1) cA) (DA (PV T) r (sB (fA (aA 0) (fA (aA 1) cA)) (fA (aA 0) (fA (aA 1) cA))))) cA) cA))
def Uw:cC P w K a b 4 2 "_law_keeps" wL:=cT T T.Qi fun S r=>lA (KA 2 S (vA EC (vA UD cA (bD rfl (zN T T.Qy) (aA 0))) cA)) (lA (sC m5 rfl (OB (aA 1)) (HC 3 S) (lA (iB (WM.tm (rK (MA (bC r.units) (fA (aA 3) cA) qB) (kK (QF (XD (DA (RV T) r (sB (aA 0) (aA 3)))))))) (oA (yA NC)) jB) (lA (iB (WM.tm (rK (MA (bC r.units) (fA (aA 3) cA) qB) (kK (MA (xF r.units) (gY (gE (OB (fA (aA 3) cA)) (lF 0) (WC) (DA (RV T) r (sB (aA 1) (aA 0)))) NC) cA)))) (oA (yA NC)) jB) (oA (iB (MA (bC r.units) (fA (aA 3) cA) qB) (lA (KA 4 S (vA oG (fA (fA (aA 0) (fA (aA 3) cA)) cA) (fA (fA (aA 0) (fA (aA 3) cA)) cA))) (oA (iB (WM.tm (TD (MA pH (aA 4) (vA UD (fA (aA 3) cA) (aA 2))) (GG (MA YM (aA 4) (vA UD (fA (aA 3) cA) (aA 2)))))) (oA (yA NC)) jB))) jB))))) (oA (yA NC)))
def pV:cC P w K a b 5 3 "_law_plan_right" zG:=cT T T.Qj fun S r=>lA (iB (WM.tm (TD (QF (XD (tK rfl (zN T T.Qx) rfl (zN T T.Qz) PyProof.Rows.boot_list (by decide) (aA 0)))) (GG (MA (xF r.units) (bD rfl (zN T T.Qy) (aA 0)) (aA 1))))) (oA (yA NC)) jB) (lA (sC m5 rfl (OB (aA 0)) (HC 3 S) (lA (iB (WM.tm (TD (QF (XD (tK rfl (zN T T.Qx) rfl (zN T T.U5) PyProof.Rows.boot_tuple (by decide) (aA 3)))) (TD (MA (xF r.units) (bD rfl (zN T T.Qy) (aA 3)) cA) (TD (QF (XD (DA (IV T) r (eD (fA (aA 3) cA))))) (GG (QF (XD (DA (IV T) r (eD (fA (aA 3) cA)))))))))) (oA (yA NC)) jB) (oA (iB (MA mU (fA (aA 3) cA) (fA (aA 3) cA)) (oA (yA NC)) jB)))) (oA (yA (aI (mG (bC r.units) (CT rfl rfl (zN T T.U1) (gE (OB (aA 0)) (lF 0) (WC) (fA (aA 0) cA))) cA) (aJ (DA (Uw T) r (sB (aA 0) (aA 2))))))))
def Rv:cC P w K a b 2 1 "_law_ways_by" LJ:=cT T T.Qk fun S r=>lA (IS (DA (dR T) r (sB (aA 0) cA)) (uK 1 2 rfl S)) (lA (KA 3 S (vA zT cA (vA FM cA (vA AD (vA cI (aA 0) cA) cA)))) (lA (iB (MA (bC r.units) (vA AD (vA cI (aA 0) cA) cA) cA) (oA (KA 3 S (vA UH (aA 3) (vA zT cA (vA FM cA (vA AD (DA (OH T) r (sB (aA 0) cA)) cA)))))) jB) (lA (iB (MA (bC r.units) (vA AD (vA cI (aA 0) cA) cA) cA) (oA (KA 3 S (vA AD (DA (OH T) r (sB (aA 0) cA)) cA))) jB) (oA (yA (YA (MG qB (aA 1) (aA 3) (aA 2))))))))
def Iv:cC P w K a b 2 1 "_law_member_by" rL:=cT T T.Ql fun S r=>lA (IS (DA (dR T) r (sB (aA 0) cA)) (uK 1 2 rfl S)) (oA (yA (YA (MG qB (aA 1) (vA AD (DA (OH T) r (sB (aA 0) cA)) cA) (aA 2)))))
def Wv:cC P w K a b 3 1 "_law_facts_by" SN:=cT T T.Qm fun S r=>lA (KA 1 S (EG vF)) (lA (KA 2 S cA) (lA (sC m5 rfl (OB (aA 0)) (HC 3 S) (lA (KA 4 S (DA (OH T) r (sB (aA 3) cA))) (oA (iB (WM.tm (rK (MA (bC r.units) (vA AD (aA 4) cA) cA) (kK (MA pH (aA 2) cA)))) (lA (KA 2 S (vA EC (aA 2) cA)) (lA (KA 5 S (vA EC cA (vA AD (vA cI (aA 4) cA) cA))) (oA (fE (LF (aA 1) (YA (sB qB (fY (dF rfl (zN T T.U2) (aA 5)) (lF 0) (WC) (DA (Iv T) r (eD (DA (OH T) r (sB (aA 1) (vA EC cA (aA 0)))))))))))))) (oA (fE (LF (aA 1) (DA (Rv T) r (eD (vA cI (aA 4) cA)))))))))) (oA (yA (aA 1)))))
def Cw:cC P w K a b 3 0 "_law_orders" zL:=cT T T.Qn fun S r=>lA (KA 0 S (EG vF)) (lA (sC m5 rfl (dF rfl (zN T T.U2) cA) (HC 1 S) (oA (sC m5 rfl (mY rfl (zN T T.U2) (vA EC (aA 1) cA) cA) (HC 2 S) (oA (fE (LF (aA 0) (YA (sB (aA 1) (aA 2))))))))) (lA (Zy (x0 := "_law_one") (Nc:=["_law_one", "_law_spans"]) 3 rfl S (OB (aA 0)) ⟨fun _ _=>rfl,fun _=>rfl,by decide +kernel⟩ rfl (by decide +kernel) (by rfl) (by exact⟨⟨rfl,.inl rfl,.inl rfl,rfl⟩,trivial⟩) (by decide +kernel) (lF 0) (WC) (gE (OB (aA 1)) (lF 0) (WC) (DA (PV T) r (sB (aA 1) (aA 0)))) (by rfl)) (lA (KA 4 S gZ) (lA (sC m5 rfl (dF rfl (zN T T.U2) cA) (HC 5 S) (oA (sC m5 rfl (dF rfl (zN T T.U2) cA) (HC 6 S) (oA (sC m5 rfl (dF rfl (zN T T.U2) cA) (HC 7 S) (oA (QZ r.units NC (aA 4) (L1 (CF (fA (fA (aA 3) (aA 5)) (aA 6)) (fA (fA (aA 3) (aA 5)) (aA 7)) (fA (fA (aA 3) (aA 6)) (aA 7))))))))))) (oA (yA (Ab rfl rfl (zN T T.Qz) (aA 4))))))))
def wR:cC P w K a b 1 2 "_law_so" zI:=cT T T.Qo fun S r=>lA (KA 2 S (fA (aA 1) cA)) (lA (KA 3 S (fA (aA 1) cA)) (lA (iB (MA YM (aA 2) (aA 3)) (oA (yA (mG (bC r.units) (vA UH (vA IP (fA (aA 1) cA) (vA oG cA (fA (aA 0) (vA oG (vA EC (aA 2) (aA 3)) cA)))) cA) cA))) jB) (oA (yA (mG (bC r.units) (vA UH (vA IP (fA (aA 1) cA) (fA (aA 0) (vA oG (vA EC (aA 2) (aA 3)) cA))) cA) cA)))))
def Bw:cC P w K a b 2 2 "_law_all_so" yL:=cT T T.Qp fun S r=>lA (sC m5 rfl (OB (aA 1)) (HC 2 S) (lA (iB (WM.tm (rK (MA (bC r.units) (fA (aA 2) cA) qB) (kK (QF (XD (DA (wR T) r (sB (aA 0) (aA 2)))))))) (oA (yA NC)) jB) (oA (iB (WM.tm (rK (MA (bC r.units) (fA (aA 2) cA) qB) (kK (MA (xF r.units) (gY (gE (OB (fA (aA 2) cA)) (lF 0) (WC) (DA (wR T) r (sB (aA 1) (aA 0)))) NC) cA)))) (oA (yA NC)) jB)))) (oA (yA NC))
def Ov:cC P w K a b 2 1 "_law_mask_by" GL:=cT T T.Qq fun S r=>oA (yA (fA (KE (DE (vA AD (vA cI (aA 0) cA) cA) (MG (vA FM cA (vA AD (vA cI (aA 0) cA) cA)) cA cA (vA AD (DA (OH T) r (sB (aA 0) cA)) cA)))) (vA AD (aA 0) cA)))
def o9 {f:O4} {e:FuncData} (F:Fun K "law" "law" nQ f e):ab P w K a b TF 32 f e ["_law_script"] (oJ K 1 fI):=by unfold fI;exact p9 (k:=31) (body:=dN) F J3 rfl rfl fun m A outer s H E r=>have S:=Yu.nd J3;by(unfold dN aK tP uP VS;exact lA (KA 1 S (DA (Wv T) r (eD (iP (aA 0) (OI cA) (OI cA))))) (lA (KA 2 S (DA (OH T) r (sB (DA (sV T) r (sB (aA 0) cA)) cA))) (lA (IS (DA (dR T) r (sB (aA 2) cA)) (uK 3 4 rfl S)) (lA (KA 5 S (DA (Ov T) r (eD (DA (OH T) r (sB (DA (sV T) r (sB (aA 0) cA)) cA))))) (lA (KA 6 S (YA (MG qB (aA 3) (aA 5) (aA 4)))) (lA (KA 7 S (YA (MG qB (aA 3) (vA zT cA (aA 5)) (aA 4)))) (lA (RJ 8 S (OB (Xc (Cw T) r (by decide) rfl)) (lF 0) (NP (XD (DA (Bw T) r (sB (aA 0) (aA 1))))) (aA 0)) (lA (RJ 9 S (OB (aA 8)) (lF 0) (WC) (DA (wR T) r (sB (aA 0) (aA 1)))) (lA (RJ 10 S (OB (aA 1)) (lF 0) (WC) (aQ (MA (bC r.units) (fA (aA 0) cA) qB) (YA (sB qB (zO rfl (zN T T.Qz) (fA (aA 0) cA)))) (aA 0))) (lA (KA 11 S (xS (Xk T) r (by decide) rfl (DE cA (MG (aA 10) (aA 3) (aA 5) (aA 4))))) (lA (iB (WM.tm (TD (MA (yq r.units) (aA 10) (aA 1)) (TD (QF (XD (tK rfl (zN T T.Qx) rfl (zN T T.U5) PyProof.Rows.boot_tuple (by decide) (aA 11)))) (GG (MA (xF r.units) (bD rfl (zN T T.Qy) (aA 11)) cA))))) (oA (yA NC)) jB) (lA (iB (MA (bC r.units) (bD rfl (zN T T.Qy) (aA 8)) cA) (oA (yA (aI (mG (bC r.units) (fA (aA 11) cA) qB) (aI (DA (fO T) r (CF cA (vA NI (aA 1) (KE (eD (aA 6)))) (fA (fA (aA 11) cA) cA))) (aJ (DA (fO T) r (CF cA (vA NI (aA 1) (KE (eD (aA 7)))) (fA (fA (aA 11) cA) cA)))))))) jB) (lA (iB (MA CS NC (aA 9)) (oA (yA (aI (mG (bC r.units) (fA (aA 11) cA) qB) (aJ (DA (fO T) r (CF cA (vA NI (aA 1) (KE (eD (aA 7)))) (fA (aA 11) cA))))))) jB) (lA (iB (MA CS NC (aA 9)) (oA (yA (aI (mG (bC r.units) (fA (aA 11) cA) qB) (aJ (DA (fO T) r (CF cA (vA NI (aA 1) (KE (eD (aA 6)))) (fA (aA 11) cA))))))) jB) (lA (iB (WM.tm (TD (MA (xF r.units) (fA (aA 11) cA) qB) (TD (QF (XD (tK rfl (zN T T.Qx) rfl (zN T T.U5) PyProof.Rows.boot_tuple (by decide) (fA (aA 11) cA)))) (GG (MA (xF r.units) (bD rfl (zN T T.Qy) (fA (aA 11) cA)) cA))))) (oA (yA NC)) jB) (oA (yA (aI (DA (pV T) r (CF (fA (fA (aA 11) cA) cA) cA (vA xT (aA 1) (KE (eD (aA 6)))))) (aJ (DA (pV T) r (CF (fA (fA (aA 11) cA) cA) cA (vA xT (aA 1) (KE (eD (aA 7)))))))))))))))))))))))))
end
end G
namespace BF
noncomputable def put{α:Type}(f:Nat->α)(i:Nat)(a:α):Nat->α:=fun j=>if j=i then a else f j
def gG(f:Nat->b)(i)(a):put f i a i=a:=dz rfl
def OE(f:Nat->b)(a)(h:j≠i):put f i a j=f j:=eG h
noncomputable abbrev Bd:=Nat×Nat×Int
structure SG where
 t:Nat->Int
 c:Nat->Option Nat
 l:Option Nat
def step(s:SG)(e:Bd):SG:=if s.t e.1>s.t e.2.1+e.2.2 then⟨put s.t e.1 (s.t e.2.1+e.2.2),put s.c e.1 (ε e.2.1),ε e.1⟩else s
def turn(E:Oe Bd)(s:SG):SG:=E.foldl step ⟨s.t,s.c,none⟩
def WE(t:Nat->Int)(e:Bd):Prop:=t e.1<=t e.2.1+e.2.2
structure AU(n:Nat)(E:List Bd):Prop where
 lt:∀e∈E,e.1<n/\e.2.1<n/\e.1≠e.2.1
 un:∀e∈E,∀e'∈E,e.1=e'.1->e.2.1=e'.2.1->e.2.2=e'.2.2
def j7(w:Nat->Nat->Int)(c:Nat->Oo Nat):Prop:=
 ∀C:Oe Nat,C ≠ []->C.Nodup->(C.map c).Perm (C.map some)->(C.map fun x=>w x ((c x).getD 0)).sum<0
structure Ok(n:Nat)(E:List Bd)(w:Nat->Nat->Int)(r:Nat)(D:List Bd)(u:Nat->Nat)(s:SG):Prop where
 cau:∀x y,s.c x=ε y->(x,y,w x y)∈E/\s.t y+w x y<=s.t x/\1<=u x/\u x<=u y+1
 top:∀x,u x<=r+1
 has:∀x,1<=u x->∃y,s.c x=ε y
 old:∀e∈E,r<=u e.2.1\/WE s.t e
 new:∀e∈D,r+1<=u e.2.1\/WE s.t e
 neg:j7 w s.c
 lst:∀x,s.l=ε x->u x=r+1
theorem qK{f g:Nat->Int}:∀(D:Oe Nat),(∀x∈D,f x<=g x)->(D.map f).sum<=(D.map g).sum
 | [],_=>Int.le_refl _
 | x::D,h=>by
  simp![Uo,sum_cons];have d:=h x tu;have b:=qK D fun y a=>h y (nu _ a)
  omega
theorem R0{f g:Nat->Int}:∀(D:Oe Nat),(D.map fun x=>f x-g x).sum=(D.map f).sum-(D.map g).sum
 | []=>rfl
 | x::D=>by simp![Uo,sum_cons];have:=R0 (f:=f) (g:=g) D;omega
def LY{l l':Oe Int}(h:l.Perm l'):l.sum=l'.sum:=by
 induction h with
 | nil=>rfl
 | cons x _ ih=>simp![sum_cons,ih]
 | swap x y l=>simp![sum_cons];omega
 | trans _ _ b a=>exact b.trans a
def map_none{C:Oe Nat}(h:(C.map c).Perm (C.map some)):∀x∈C,∃y,c x=ε y:=by intro x a;have:c x∈C.map some:=h.subset (mem_map_of_mem a);obtain⟨y,_,e⟩:=Bs.mp this;exact⟨y,e.symm⟩
def VL{a b:Type}{f g:a->b}{C:Oe a}(h:∀x∈C,f x=g x):C.map f=C.map g:=map_congr_left h
def o1{t:Nat->Int}(s:j7 w c)(u:∀x y,c x=ε y->t y+w x y<=t x)(H:t p>t q+w p q):j7 w (put c p (ε q)):=by
 intro C F hd hp;by_cases b:p∈C
 . obtain⟨d,D2,rfl⟩:=append_of_mem b;have h:(d++p::D2).Perm (p::(d++D2)):=perm_middle;have nd:(p::(d++D2)).Nodup:=h.nodup_iff.mp hd;have j:p∉d++D2:=(Mi.mp nd).1;generalize d++D2=D at h j;have m:D.map (put c p (ε q))=D.map c:=VL fun x a=>OE c _ (fun z=>j (z ▸ a))
   have k:((p::D).map (put c p (ε q))).Perm ((p::D).map some):=((h.map _).symm.trans hp).trans (h.map _);rw[Uo,gG,m]at k;have i:∀x∈D,∃y,c x=ε y:=fun x a=>by have:c x∈(p::D).map some:=k.subset (nu _ (mem_map_of_mem a));obtain⟨y,_,e⟩:=Bs.mp this;exact⟨y,e.symm⟩
   have n:=LY (k.map fun o=>t (o.getD 0));simp![Uo,map_map,sum_cons,Function.comp_def,Option.getD_some]at n
   change t q+_=t p+(D.map t).sum at n
   have E:((d++p::D2).map fun x=>w x ((put c p (ε q) x).getD 0)).sum=w p q+(D.map fun x=>w x ((c x).getD 0)).sum:=by
    have:=LY (h.map fun x=>w x ((put c p (ε q) x).getD 0));rw[this,Uo,sum_cons,gG]
    congr 1
    rw[VL (f:=fun x=>w x ((put c p (ε q) x).getD 0)) (g:=fun x=>w x ((c x).getD 0)) fun x a=>by rw[OE c _ (fun z:x=p=>j (z ▸ a))]]
   have B:(D.map fun x=>w x ((c x).getD 0)).sum<=(D.map fun x=>t x-t ((c x).getD 0)).sum:=qK D fun x a=>by obtain⟨y,r⟩:=i x a;have:=u x y r;rw[r];simp![Option.getD_some];omega
   rw[R0]at B;rw[E];omega
 . have m:C.map (put c p (ε q))=C.map c:=VL fun x a=>OE c _ (fun z=>b (z ▸ a))
   rw[m]at hp;have:=s C F hd hp;rw[VL (f:=fun x=>w x ((put c p (ε q) x).getD 0)) (g:=fun x=>w x ((c x).getD 0)) fun x a=>by rw[OE c _ (fun z:x=p=>b (z ▸ a))]];exact this
def o2(T:AU n E)(hw:∀e∈E,w e.1 e.2.1=e.2.2)(I:Ok n E w r D u s)(he:e∈E) :
 ∃o,Ok n E w r (e::D) o (step s e):=by
 obtain⟨p,q,m⟩:=e;obtain⟨_,_,f⟩:=T.lt _ he;have j:w p q=m:=hw _ he;have b:q≠p:=fun z=>f z.symm
 by_cases g:s.t p>s.t q+m
 . have i:step s (p,q,m)=⟨put s.t p (s.t q+m),put s.c p (ε q),ε p⟩:=dz g;rw[i];have M:r<=u q:=by
    rcases I.old _ he with z | z
    . exact z
    . exact Ea z (by simp![WE];omega)
   have up:u p<=r+1:=I.top p;have d:∀x,put s.t p (s.t q+m) x<=s.t x:=fun x=>by
    by_cases a:x=p
    . rw[a,gG];omega
    . rw[OE _ _ a];exact Int.le_refl _
   have grow:∀x,u x<=put u p (r+1) x:=fun x=>by
    by_cases a:x=p
    . rw[a,gG];exact up
    . rw[OE _ _ a];exact Us _
   have keep:∀k,∀e:Bd,k<=r+1->(k<=u e.2.1\/WE s.t e)->(k<=put u p (r+1) e.2.1\/WE (put s.t p (s.t q+m)) e):=fun k e C h=>by
    by_cases a:e.2.1=p
    . exact .inl (by rw[a,gG];exact C)
    . rcases h with h | h
      . exact .inl (rz h (grow _))
      . refine .inr ?_;simp![WE]at h ⊢;rw[OE _ _ a];exact Int.le_trans (d _) h
   refine⟨put u p (r+1),⟨fun x y h=>?_,fun x=>?_,fun x h=>?_,fun e h=>keep r e (Nat.le_succ r) (I.old e h),fun e h=>?_,o1 I.neg (fun x y h=>(I.cau x y h).2.1) (by rw[j];exact g),fun x h=>?_⟩⟩
   . by_cases a:x=p
     . subst a;simp![gG]at h ⊢;cases h;rw[OE _ _ b,OE _ _ b,j];exact⟨he,Int.le_refl _,by omega,by omega⟩
     . simp![OE _ _ a]at h ⊢;obtain⟨L,J,H,F⟩:=I.cau x y h;exact⟨L,Int.le_trans (Int.add_le_add_right (d y) _) J,H,rz F (Nat.add_le_add_right (grow y) 1)⟩
   . by_cases a:x=p
     . rw[a,gG];exact Us _
     . rw[OE _ _ a];exact I.top x
   . by_cases a:x=p
     . subst a;exact⟨q,gG _ _ _⟩
     . rw[OE _ _ a]at h;obtain⟨y,B⟩:=I.has x h;exact⟨y,by simp![OE _ _ a];exact B⟩
   . rcases Ba.mp h with z | z
     . subst z;refine .inr ?_;simp![WE,gG,OE _ _ b];exact Int.le_refl _
     . exact keep (r+1) e (Us _) (I.new e z)
   . cases h;exact gG _ _ _
 . have i:step s (p,q,m)=s:=eG g;rw[i];refine⟨u,⟨I.cau,I.top,I.has,I.old,fun e h=>?_,I.neg,I.lst⟩⟩;rcases Ba.mp h with z | z
   . subst z;exact .inr (by simp![WE];omega)
   . exact I.new e z
theorem KS(T:AU n E)(hw:∀e∈E,w e.1 e.2.1=e.2.2):∀(L D:Oe Bd)(u:Nat->Nat)(s:SG),(∀e∈L,e∈E)->Ok n E w r D u s->∃i b,Ok n E w r b i (L.foldl step s)/\(∀e∈L,e∈b)/\∀e∈D,e∈b
 | [],D,u,s,_,I=>⟨u,D,I,(fun q h=>nomatch h),fun q h=>h⟩
 | e::L,D,u,s,hs,I=>by
  obtain⟨g,m⟩:=o2 T hw I (hs e tu);obtain⟨f,o,k,j,d⟩:=KS T hw L (e::D) g (step s e) (fun x a=>hs x (nu _ a)) m;refine⟨f,o,k,fun x a=>?_,fun x a=>d x (nu _ a)⟩;rcases Ba.mp a with z | z
  . rw[z];exact d e tu
  . exact j x z
def SE(E:Oe Bd):Nat->SG->SG
 | 0,s=>s
 | r+1,s=>turn E (SE E r s)
noncomputable def s0:SG:=⟨fun _=>0,fun _=>none,none⟩
theorem GY(T:AU n E)(hw:∀e∈E,w e.1 e.2.1=e.2.2):∀r,∃u D,Ok n E w r D u (SE E (r+1) s0)/\∀e∈E,e∈D
 | 0=>by
  have I:Ok n E w 0 [] (fun q=>0) ⟨s0.t,s0.c,none⟩:=by
   refine⟨fun x y h=>(by cases h),fun x=>m6 _,fun x h=>nofun,fun e h=>.inl (m6 _),(fun e h=>nomatch h),fun C f hd hp=>?_,fun x h=>(by cases h)⟩;cases C with
   | nil=>exact Ea rfl f
   | cons x C=>obtain⟨y,e⟩:=map_none hp x tu;cases e
  obtain⟨u,D,j,a,_⟩:=KS T hw E [] _ _ (fun q h=>h) I;exact⟨u,D,j,a⟩
 | r+1=>by
  obtain⟨u,D,I,d⟩:=GY T hw r;have i:Ok n E w (r+1) [] u ⟨(SE E (r+1) s0).t,(SE E (r+1) s0).c,none⟩:=
   ⟨I.cau,fun x=>Nat.le_succ_of_le (I.top x),I.has,fun e h=>I.new e (d e h),(fun e h=>nomatch h),I.neg,fun x h=>(by cases h)⟩
  obtain⟨b,k,g,a,_⟩:=KS T hw E [] _ _ (fun q h=>h) i;exact⟨b,k,g,a⟩
theorem rX:∀(L:Oe Bd)(s:SG),(L.foldl step s).l=none->s.l=none/\L.foldl step s=s/\∀e∈L,WE s.t e
 | [],s,h=>⟨h,rfl,(fun q h=>nomatch h)⟩
 | e::L,s,h=>by
  obtain⟨a,g,f⟩:=rX L (step s e) h;by_cases d:s.t e.1>s.t e.2.1+e.2.2
  . have b:step s e=⟨put s.t e.1 (s.t e.2.1+e.2.2),put s.c e.1 (ε e.2.1),ε e.1⟩:=dz d;rw[b]at a;cases a
  . have b:step s e=s:=eG d;rw[b]at a g f;refine⟨a,by rw[foldl_cons,b];exact g,fun x i=>?_⟩;rcases Ba.mp i with z | z
    . subst z;simp![WE];omega
    . exact f x z
noncomputable def zB(f:Nat->Nat):Nat->Nat->Nat
 | 0,x=>x
 | k+1,x=>f (zB f k x)
theorem CG(f)(x)(b):∀a,zB f (a+b) x=zB f a (zB f b x)
 | 0=>by rw[Aa];rfl
 | a+1=>by rw[Nat.add_right_comm];show f (zB f (a+b) x)=f (zB f a (zB f b x));rw[CG f x b a]
theorem pig:∀(n:Nat)(g:Nat->Nat),(∀k,k<=n->g k<n)->∃i j,i<j/\j<=n/\g i=g j
 | 0,g,h=>Ea (h 0 (Us _)) (Nat.not_lt_zero _)
 | n+1,g,h=>by
  by_cases f:∃k,k<=n/\g k=g (n+1)
  . obtain⟨k,d,a⟩:=f;exact⟨k,n+1,by omega,Us _,a⟩
  . have ne:∀k,k<=n->g k≠g (n+1):=fun k b e=>f ⟨k,b,e⟩
    have p:=h (n+1) (Us _);obtain⟨i,j,d,a,o⟩:=pig n (fun k=>if g k>g (n+1)then g k-1 else g k) fun k b=>by have d:=h k nofun;have a:=ne k b;show(if g k>g (n+1)then g k-1 else g k)<n;split<;>omega
    refine⟨i,j,d,by omega,?_⟩;have r:=ne i nofun;have q:=ne j a;have m:(if g i>g (n+1)then g i-1 else g i)=(if g j>g (n+1)then g j-1 else g j):=o;split at m<;>split at m<;>omega
def Ir{Q:Nat->Prop}:∀d,1<=d->Q d->∃k,1<=k/\k<=d/\Q k/\∀i,1<=i->i<k->¬Q i:=by
 intro d
 induction d using Nat.strongRecOn with
 | ind d ih=>
  intro m j;by_cases e:∃i,1<=i/\i<d/\Q i
  . obtain⟨i,a,b,c⟩:=e;obtain⟨k,h,n,g,f⟩:=ih i b a c;exact⟨k,h,by omega,g,f⟩
  . exact⟨d,m,Us _,j,fun i a b c=>e ⟨i,a,b,c⟩⟩
noncomputable def nxt(c:Nat->Oo Nat)(x:Nat):Nat:=(c x).getD 0
structure kI(n:Nat)(E:List Bd)(w:Nat->Nat->Int)(c:Nat->Option Nat)(P k:Nat):Prop where
 pos:1<=k
 le:k<=n
 back:zB (nxt c) k P=P
 first:∀i,1<=i->i<k->zB (nxt c) i P≠P
 edge:∀i,i<=k->(zB (nxt c) i P,zB (nxt c) (i+1) P,w (zB (nxt c) i P) (zB (nxt c) (i+1) P))∈E/\c (zB (nxt c) i P)=ε (zB (nxt c) (i+1) P)
 sum:((List.range k).map fun i=>w (zB (nxt c) i P) (zB (nxt c) (i+1) P)).sum<0
def apart(g:zB f k P=P)(d:∀i,1<=i->i<k->zB f i P≠P)(b:i<j)(a:j<=k)(m:i=0->j<k):zB f i P≠zB f j P:=by
 intro e;have e2:zB f ((k-j)+i) P=zB f ((k-j)+j) P:=by rw[CG,CG,e]
 rw[Nat.sub_add_cancel a,g]at e2;refine d (k-j+i) ?_ ?_ e2
 . by_cases h:i=0
   . have:=m h;omega
   . omega
 . omega
def jw{e:Type}{g:Nat->e}(k)(h:∀i j,i<j->j<k->g i≠g j):((List.range k).map g).Nodup:=by rw[nodup_iff_pairwise_ne,pairwise_map];refine List.Pairwise.imp_of_mem ?_ (pairwise_lt_range (n:=k));intro a b m f d;exact h a b d (Bu.mp f)
def pa(T:AU n E)(I:Ok n E w n D u s)(S:s.l=ε x):∃k,kI n E w s.c (zB (nxt s.c) n x) k/\
 ∀i,i<=n->s.c (zB (nxt s.c) i x)=ε (zB (nxt s.c) (i+1) x)/\zB (nxt s.c) i x<n:=by
 have ux:=I.lst x S;have o:∀y,1<=u y->s.c y=ε (nxt s.c y):=fun y R=>by obtain⟨z,e⟩:=I.has y R;unfold nxt;rw[e];rfl
 have ch:∀i,i<=n->n+1<=u (zB (nxt s.c) i x)+i:=by
  intro i
  induction i with
  | zero=>intro _;show n+1<=u x+0;omega
  | succ i ih=>intro f;have h1:=ih nofun;have Y:=o (zB (nxt s.c) i x) nofun;have h3:=(I.cau _ _ Y).2.2.2;show n+1<=u (nxt s.c (zB (nxt s.c) i x))+(i+1);omega
 have r:∀i,i<=n->s.c (zB (nxt s.c) i x)=ε (zB (nxt s.c) (i+1) x):=fun i f=>o _ (by have:=ch i f;omega)
 have lt:∀i,i<=n->zB (nxt s.c) i x<n:=fun i f=>(T.lt _ (I.cau _ _ (r i f)).1).1
 obtain⟨i,j,U,hj,e⟩:=pig n (fun i=>zB (nxt s.c) i x) lt;have B:zB (nxt s.c) (j-i) (zB (nxt s.c) n x)=zB (nxt s.c) n x:=by
  rw[<- CG];have L:j-i+n=(n-i)+j:=by omega
  rw[L,CG,<- e,<- CG]
  congr 1
  omega
 obtain⟨k,O,k2,C,M⟩:=Ir (Q:=fun d=>zB (nxt s.c) d (zB (nxt s.c) n x)=zB (nxt s.c) n x) (j-i) nofun B;have p:∀m,zB (nxt s.c) (j+m) x=zB (nxt s.c) (i+m) x:=fun m=>by rw[Nat.add_comm j m,Nat.add_comm i m,CG,CG,e]
 have J:∀m,m<=k->s.c (zB (nxt s.c) m (zB (nxt s.c) n x))=ε (zB (nxt s.c) (m+1) (zB (nxt s.c) n x)):=fun m q=>by
  rw[<- CG,<- CG];by_cases h:m+n<=n
  . have:m=0:=by omega
    subst this;rw[Aa,Nat.add_comm];exact r n (Us _)
  . have L:m+n=j+(m+n-j):=by omega
    have a2:m+1+n=j+(m+n-j+1):=by omega
    rw[L,a2,p,p];exact r _ nofun
 refine⟨k,⟨O,by omega,C,M,fun m q=>⟨(I.cau _ _ (J m q)).1,J m q⟩,?_⟩,fun i f=>⟨r i f,lt i f⟩⟩;generalize zB (nxt s.c) n x=P at *;have F:=I.neg ((List.range k).map fun m=>zB (nxt s.c) m P) (by
  intro z;have:=congrArg List.length z;simp at this;omega) (jw k fun a b H W=>apart C M H nofun (fun v=>W)) (by
  rw[map_map,map_map];have e1:(List.range k).map (s.c ∘ fun m=>zB (nxt s.c) m P)=(List.range k).map (fun m=>ε (zB (nxt s.c) (m+1) P)):=VL fun m q=>J m (Cu (Bu.mp q))
  rw[e1];obtain⟨g,rfl⟩:∃g,k=g+1:=⟨k-1,by omega⟩
  rw[Iu,Gi];have e2:(List.range g++[g]).map (some ∘ fun m=>zB (nxt s.c) m P)=ε P::(List.range g).map (fun m=>ε (zB (nxt s.c) (m+1) P)):=by rw[<- Iu,Ke,Uo,map_map];rfl
  rw[e2];have e3:[g].map (fun m=>ε (zB (nxt s.c) (m+1) P))=[ε P]:=by rw[Uo,Wo,C]
  rw[e3];exact perm_append_singleton _ _)
 rw[map_map]at F;have Z:(List.range k).map ((fun y=>w y ((s.c y).getD 0)) ∘ fun m=>zB (nxt s.c) m P)=(List.range k).map fun i=>w (zB (nxt s.c) i P) (zB (nxt s.c) (i+1) P):=rfl
 rw[Z]at F;exact F
end BF
namespace SM
section
variable{l:LI}{h:HI}{f g fo fy fx fe fa a:RE}
@[simp] def Vj:VP l h=ε (.ref h.length,h++[.dt []]):=by rfl
def MQ:Oe Dt×HI->Oo (Dt×HI):=fun r=>if r.1.length<=sizeLine then(TB r.1).map fun b=>(.ntp b,r.2)else none
@[simp] def T5(r:RA):vN r l h=gB (r l h) MQ:=by rfl
def Wc(i j):MQ ([.int i,.int j],h)=ε (.ntp [i,j],h):=by unfold MQ;rw[dz (show([Dt.int i,Dt.int j]:Oe Dt).length<=sizeLine by simp)];rfl
def y7(n:Nat)(k:Oe Int):Dt×HI->Oo (Dt×HI):=fun x=>match x.2[n]? with
 | some (.dt kvs)=>ε ((tE kvs k).getD x.1,x.2)
 | _=>none
def O8(e:h[n]?=ε (.dt kvs)):y7 n k (d,h)=ε ((tE kvs k).getD d,h):=by simp![y7,e]
def pb(d:fo l h=ε (.ref n,h))(e2:h[n]?=ε (.dt kvs))(b:fy l h=ε (.ntp k,h)):sK fo fy fx l h=gB (fx l h) (y7 n k):=by simp![sK,d,e2,b,Wi];rfl
def B4(i:fe l h=ε (d,h))(e:fo l h=ε (.ref n,h))(e2:h[n]?=ε (.dt kvs))(b:fy l h=ε (.ntp k,h))(c:kvs.length<sizeLine) :
 cN fe fo fy l h=ε (.nx l (h.set n (.dt (XF kvs k d)))):=by
 simp![cN,i,e,e2,b,Wi,dz c]
def Dr(b:f l h=ε (.ref n,h))(e2:h[n]?=ε (.dt kvs)):cJ f l h=ε (.it n,h.set n (.df kvs)):=by simp![cJ,b,e2,Wi]
def Cr(b:f l h=ε (.ref n,h))(e2:h[n]?=ε (.df kvs)):cJ f l h=ε (.it n,h):=by simp![cJ,b,e2,Wi]
def iU(a:RE)(l:LI):Dt×HI->Oo (Dt×HI):=fun r=>gB (a l r.2) fun q=>(BA q.2 r.1).bind fun b=>(TB b).bind fun ns=>if ns ≠ []then ε (.int (NB ns),q.2)else none
@[simp] def uv:aU fa a l h=gB (fa l h) (iU a l):=by rfl
end
def Vp{g:Type}(S:g->LI->HI->Prop)(F:g->Oe Int×Dt->g)(B:∀b l h,S b l h->h[n]?=ε (.df kvs))
 (H:∀x∈kvs,∀b l h,S b l h->∃r,body ((l.set i (ε (.tup (x.1.map Dt.int)))).set j (ε x.2)) h=ε r/\Pass (S (F b x)) r) :
 ∀m k b l h,m=(kvs.length-k)+1->k<=kvs.length->S b l h->∃u h',BB (OC i j) body (.it n) m k l h=ε (.nx u h')/\S ((kvs.drop k).foldl F b) u h':=by
 intro m
 induction m with
 | zero=>intro k b l h y;omega
 | succ m ih=>
  intro k b l h y I s;have e:=B b l h s;by_cases a:k<kvs.length
  . have q:kvs[k]?=ε kvs[k]:=ji a;obtain⟨r,E,p⟩:=H kvs[k] (getElem_mem a) b l h s;have D:(kvs.drop k).foldl F b=(kvs.drop (k+1)).foldl F (F b kvs[k]):=by rw[zu a,foldl_cons]
    rw[D];have C:BB (OC i j) body (.it n) (m+1) k l h=gB (body ((l.set i (ε (.tup (kvs[k].1.map Dt.int)))).set j (ε kvs[k].2)) h) (FU (BB (OC i j) body (.it n) m (k+1))):=by
     simp![BB,vj.at,e,q,Vs,gK,Wi];cases body ((l.set i (ε (.tup (kvs[k].1.map Dt.int)))).set j (ε kvs[k].2)) h with
     | none=>rfl
     | some r=>cases r<;>rfl
    rw[C,E,eA];cases r with
    | nx o f=>exact ih (k+1) _ o f nofun a p
    | ct o f=>exact ih (k+1) _ o f nofun a p
    | bk o f=>exact p.elim
    | rt d f=>exact p.elim
  . have q:kvs[k]?=none:=ju nofun;refine⟨l,h,by simp![BB,vj.at,e,q,Option.map_none],?_⟩;rw[Nu nofun];exact s
def pe{a:Type}(S:a->LI->HI->Prop)(F:a->Oe Int×Dt->a)(f:∀b l h,S b l h->h[n]?=ε (.df kvs))
 (H:∀x∈kvs,∀b l h,S b l h->∃r,body ((l.set i (ε (.tup (x.1.map Dt.int)))).set j (ε x.2)) h=ε r/\Pass (S (F b x)) r) (b) (s:S b l h) :
 ∃d h',wD (OC i j) body l (.it n,h)=ε (.nx d h')/\S (kvs.foldl F b) d h':=by
 have e:=f b l h s;have:=Vp (i:=i) (j:=j) S F f H (kvs.length+1) 0 b l h nofun (m6 _) s;rw[drop_zero]at this;obtain⟨d,h',k,e2⟩:=this;refine⟨d,h',?_,e2⟩;show BB (OC i j) body (.it n) (vj.fuel (.it n) h) 0 l h=_;have g:vj.fuel (.it n) h=kvs.length+1:=by simp![vj.fuel,e]
 rw[g];exact k
end SM
namespace G
noncomputable def CB(e:Bd):Oe Int×Dt:=([(e.1:Int),(e.2.1:Int)],.int e.2.2)
noncomputable def xA(e:Bd):Dt:=.tup [.int (e.1:Nat),.int (e.2.1:Nat),.int e.2.2]
noncomputable def ZC(p q:Nat)(x:Bd):Bool:=decide (x.1=p)&&decide (x.2.1=q)
def HK(E:Oe Bd)(p q:Nat):Oo Int:=(E.find? (ZC p q)).map (·.2.2)
def DJ(E:Oe Bd)(p q:Nat)(v:Int):Oe Bd:=if E.any (ZC p q)=true then E.map (fun x=>if ZC p q x=true then(x.1,x.2.1,v)else x)else E++[(p,q,v)]
def vE(E:Oe Bd)(e:Bd):Oe Bd:=DJ E e.1 e.2.1 (min ((HK E e.1 e.2.1).getD e.2.2) e.2.2)
def FT(p q:Nat)(x):decide ((CB x).1=[(p:Int),(q:Int)])=ZC p q x:=by unfold CB ZC;by_cases b:x.1=p<;>by_cases a:x.2.1=q<;>simp[b,a]<;>omega
theorem o3(p q:Nat):∀E,tE (E.map CB) [(p:Int),(q:Int)]=(HK E p q).map Dt.int
 | []=>rfl
 | x::E=>by
  have ih:=o3 p q E;unfold tE HK at ih ⊢;rw[Uo,Ja,Ja,FT];cases ZC p q x with
  | true=>rfl
  | false=>exact ih
def V9(p q:Nat)(E:Oe Bd):((E.map CB).any fun y=>decide (y.1=[(p:Int),(q:Int)]))=E.any (ZC p q):=by
 rw[any_map]
 congr 1
 funext x
 exact FT p q x
def pf(p q:Nat)(v)(E):XF (E.map CB) [(p:Int),(q:Int)] (.int v)=(DJ E p q v).map CB:=by
 unfold XF DJ;rw[V9];split
 . rw[map_map,map_map];refine map_congr_left fun x z=>?_
   have k:=FT p q x;simp![Function.comp_def];cases c:ZC p q x with
   | true=>rw[c]at k;rw[dz (of_decide_eq_true k),dz rfl];rfl
   | false=>rw[c]at k;rw[eG (of_decide_eq_false k),eG Vu]
 . rw[Gi];rfl
structure vK(told E:List Bd):Prop where
 mem:∀x∈E,x∈told
 low:∀e∈told,∃x∈E,x.1=e.1/\x.2.1=e.2.1/\x.2.2<=e.2.2
 un:∀x∈E,∀y∈E,x.1=y.1->x.2.1=y.2.1->x.2.2=y.2.2
 len:E.length<=told.length
def du:ZC p q x=true↔x.1=p/\x.2.1=q:=by simp[ZC]
def G9:vK [] []:=⟨fun q h=>h,fun q h=>(nomatch h),fun q h=>(nomatch h),Us _⟩
theorem E9(I:vK f E)(e):vK (f++[e]) (vE E e):=by
 obtain⟨p,q,m⟩:=e;unfold vE DJ;cases k:HK E p q with
 | none=>
  have s:∀x∈E,ZC p q x=false:=by unfold HK at k;simpa using k
  have u:E.any (ZC p q)=false:=by rw[any_eq_false];intro x hx;rw[s x hx];exact Vu
  simp![u,Ws,eO,Option.getD_none,Int.min_self];refine⟨fun x hx=>?_,fun n he=>?_,fun x hx y hy d b=>?_,by simp;exact I.len⟩
  . rcases Bo.mp hx with hx | hx
    . exact xu _ (I.mem x hx)
    . exact xr _ hx
  . rcases Bo.mp he with he | he
    . obtain⟨x,hx,r⟩:=I.low n he;exact⟨x,xu _ hx,r⟩
    . rw[Ao.mp he];exact⟨_,xr _ (Ao.mpr rfl),rfl,rfl,Int.le_refl _⟩
  . rcases Bo.mp hx with hx | hx<;>rcases Bo.mp hy with hy | hy
    . exact I.un x hx y hy d b
    . have:=s x hx;rw[Ao.mp hy]at d b;rw[du.mpr ⟨d,b⟩]at this;cases this
    . have:=s y hy;rw[Ao.mp hx]at d b;rw[du.mpr ⟨d.symm,b.symm⟩]at this;cases this
    . rw[Ao.mp hx,Ao.mp hy]
 | some v0=>
  obtain⟨a,M,rfl⟩:∃a,E.find? (ZC p q)=ε a/\a.2.2=v0:=by unfold HK at k;simpa using k
  have D:=find?_some M;have j:=Ai M;have u:E.any (ZC p q)=true:=any_eq_true.mpr ⟨a,j,D⟩;obtain⟨C,B⟩:=du.mp D;have o:∀x∈E,ZC p q x=true->x.2.2=a.2.2:=fun x hx h=>by obtain⟨d,b⟩:=du.mp h;exact I.un x hx a j (d.trans C.symm) (b.trans B.symm)
  simp![u,eH,Option.getD_some];have O:((p,q,min a.2.2 m):Bd)∈f++[(p,q,m)]:=by
   by_cases h:a.2.2<=m
   . rw[Int.min_eq_left h];refine xu _ ?_;have:=I.mem a j;rw[<- C,<- B];exact this
   . rw[Int.min_eq_right nofun];exact xr _ (Ao.mpr rfl)
  refine⟨fun x hx=>?_,fun n he=>?_,fun x hx y hy d b=>?_,by simp;have:=I.len;omega⟩
  . obtain⟨y,hy,rfl⟩:=Bs.mp hx;split
    . rename_i h;obtain⟨d,b⟩:=du.mp h;rw[d,b];exact O
    . exact xu _ (I.mem y hy)
  . have new:∀x∈E,(if ZC p q x=true then(x.1,x.2.1,min a.2.2 m)else x)∈E.map (fun x=>if ZC p q x=true then(x.1,x.2.1,min a.2.2 m)else x):=fun x hx=>mem_map_of_mem hx
    rcases Bo.mp he with he | he
    . obtain⟨x,hx,L,J,P⟩:=I.low n he;refine⟨_,new x hx,?_⟩;split
      . rename_i h;refine⟨L,J,?_⟩;have:=o x hx h;show min a.2.2 m<=n.2.2;have:=Int.min_le_left a.2.2 m;omega
      . exact⟨L,J,P⟩
    . rw[Ao.mp he];refine⟨_,new a j,?_⟩;rw[dz D];exact⟨C,B,Int.min_le_right _ _⟩
  . obtain⟨i,H,rfl⟩:=Bs.mp hx;obtain⟨y',F,rfl⟩:=Bs.mp hy;have g:∀z:Bd,(if ZC p q z=true then((z.1,z.2.1,min a.2.2 m):Bd)else z).1=z.1/\(if ZC p q z=true then((z.1,z.2.1,min a.2.2 m):Bd)else z).2.1=z.2.1:=fun z=>by split<;>exact⟨rfl,rfl⟩
    rw[(g i).1,(g y').1]at d;rw[(g i).2,(g y').2]at b;have Q:ZC p q i=ZC p q y':=by unfold ZC;rw[d,b]
    rw[Q];split
    . rfl
    . exact I.un i H y' F d b
theorem GZ:∀L a E,vK a E->vK (a++L) (L.foldl vE E)
 | [],a,E,I=>by rw[Ui];exact I
 | e::L,a,E,I=>by have:=GZ L (a++[e]) (vE E e) (E9 I e);rw[n7]at this;exact this
def nC(a:Oe Bd):Oe Bd:=a.foldl vE []
def KM(a):vK a (nC a):=by have:=GZ a [] [] G9;rwa[Wu]at this
def Bc(E)(p q)(v):(DJ E p q v).length<=E.length+1:=by
 unfold DJ;split
 . simp
 . simp
def jd{d a:Type}(f:a->d->a)(b){xs:Oe d}{x:d}(e:xs[k]?=ε x):(xs.take (k+1)).foldl f b=f ((xs.take k).foldl f b) x:=by rw[take_add_one,e,foldl_append];rfl
noncomputable def JE:Oo Nat->Dt
 | none=>.non
 | some q=>.int (q:Nat)
noncomputable def UB(n:Nat)(t:Nat->Int):Oe Dt:=(List.range n).map fun i=>.int (t i)
def dE(n:Nat)(c:Nat->Oo Nat):Oe Dt:=(List.range n).map fun i=>JE (c i)
def WR(n)(t):(UB n t).length=n:=by simp[UB]
def UW(n)(c):(dE n c).length=n:=by simp[dE]
def VO(t)(hp:p<n):(UB n t)[p]?=ε (.int (t p)):=by simp[UB,hp]
def cS(c)(hp:p<n):(dE n c)[p]?=ε (JE (c p)):=by simp[dE,hp]
def sX{a d:Type}(n p)(f:Nat->a)(D:a->d)(v):((List.range n).map fun i=>D (f i)).set p (D v)=(List.range n).map fun i=>D (put f p v i):=by
 apply ext_getElem?;intro i;rw[getElem?_set];simp![uq,mq,Fe];by_cases h:p=i
 . subst h;by_cases hp:p<n
   . simp[hp,gG]
   . simp[hp]
 . have e:i≠p:=fun z=>h z.symm
   rw[eG h];by_cases b:i<n
   . simp[b,OE _ _ e]
   . simp[b]
def ud(n p)(t)(v):(UB n t).set p (.int v)=UB n (put t p v):=sX n p t Dt.int v
def Og(n p q)(c):(dE n c).set p (.int (q:Nat))=dE n (put c p (ε q)):=sX n p c JE (ε q)
structure jI(h0:HI)(a b c n:Nat)(E:List Bd)(s:SG)(h:HI):Prop where
 len:h.length=h0.length
 da:h[a]?=ε (.df (E.map CB))
 db:h[b]?=ε (.lst (UB n s.t))
 dc:h[c]?=ε (.lst (dE n s.c))
 els:∀m,m≠a->m≠b->m≠c->h[m]?=h0[m]?
noncomputable def VQ(x:Oe Int×Dt):Bd:=match x with
 | ([p,q],.int m)=>(p.toNat,q.toNat,m)
 | _=>(0,0,0)
def j6(e):VQ (CB e)=e:=rfl
def ph(J:a≠b)(ac:a≠c)(D:b≠c)(he:e.1<n/\e.2.1<n)(M:jI B a b c n E s h) :
 ∃h',II [ε (.ref a),ε (.ref b),ε (.ref c),ε (JE s.l),ε (.tup [.int (e.1:Nat),.int (e.2.1:Nat)]),ε (.int e.2.2)] h=ε (.nx [ε (.ref a),ε (.ref b),ε (.ref c),ε (JE (step s e).l),ε (.tup [.int (e.1:Nat),.int (e.2.1:Nat)]),ε (.int e.2.2)] h')/\jI B a b c n E (step s e) h':=by
 obtain⟨p,q,m⟩:=e;obtain⟨hp,F⟩:=he;have o:=fun i=>AF M.db i
 have u:=VO s.t hp;have r:=VO s.t F;have blt:b<h.length:=(Wk M.db).1;have j:c<h.length:=(Wk M.dc).1;by_cases f:s.t p>s.t q+m
 . have g:step s (p,q,m)=⟨put s.t p (s.t q+m),put s.c p (ε q),ε p⟩:=dz f;rw[g];have d:decide (s.t q+m<s.t p)=true:=g8 f;have C:=SO (l:=[ε (.ref a),ε (.ref b),ε (.ref c),ε (JE s.l),ε (.tup [.int (p:Nat),.int (q:Nat)]),ε (.int m)]) (v:=.int (s.t q+m)) (k:=p) M.db (by rw[WR];exact hp);rw[ud]at C;have I:(h.set b (.lst (UB n (put s.t p (s.t q+m)))))[c]?=ε (.lst (dE n s.c)):=by rw[lu D];exact M.dc
   have g2:=SO (l:=[ε (.ref a),ε (.ref b),ε (.ref c),ε (JE s.l),ε (.tup [.int (p:Nat),.int (q:Nat)]),ε (.int m)]) (v:=.int (q:Nat)) (k:=p) I (by rw[UW];exact hp);rw[Og]at g2;refine⟨(h.set b (.lst (UB n (put s.t p (s.t q+m))))).set c (.lst (dE n (put s.c p (ε q)))),?_,?_⟩
   . simp![II,xB,HA,sA,gA,qA,Ss,Te,iA,eA,XB,BC,SF,Vs,o,SM.BD,u,r,UE,BJ,JA,d,eH,NA,C0,C,UA,g2,HB,Vi,Uu];rfl
   . refine⟨by simp[M.len],?_,?_,?_,fun k H y x=>?_⟩
     . rw[lu (m8 ac),lu (m8 J)];exact M.da
     . rw[lu (m8 D),su blt]
     . rw[su (by simp;exact j)]
     . rw[lu (m8 x),lu (m8 y)];exact M.els k H y x
 . have g:step s (p,q,m)=s:=eG f;rw[g];have d:decide (s.t q+m<s.t p)=false:=fu f;refine⟨h,?_,M⟩;simp![II,xB,HA,sA,gA,qA,Ss,Te,iA,eA,XB,BC,SF,Vs,o,SM.BD,u,r,UE,BJ,JA,d,Ws,eO,GC]
def pi(F:a≠b)(ac:a≠c)(D:b≠c)(y:∀e∈E,e.1<n/\e.2.1<n)(M:jI o a b c n E s h)(q p:Oo Dt) :
 ∃m k h',wD (OC 4 5) II [ε (.ref a),ε (.ref b),ε (.ref c),ε (JE s.l),q,p] (.it a,h)=ε (.nx [ε (.ref a),ε (.ref b),ε (.ref c),ε (JE (E.foldl step s).l),m,k] h')/\jI o a b c n E (E.foldl step s) h':=by
 obtain⟨H,h',e,⟨f,d,rfl⟩,g⟩:=pe (i:=4) (j:=5) (n:=a) (body:=II) (kvs:=E.map CB) (fun(s:SG) l h=>(∃f d,l=[ε (.ref a),ε (.ref b),ε (.ref c),ε (JE s.l),f,d])/\jI o a b c n E s h) (fun s x=>step s (VQ x)) (fun s l h ⟨_,M⟩=>M.da) (by
  rintro x r s l h ⟨⟨f,d,rfl⟩,M⟩;obtain⟨e,u,rfl⟩:=Bs.mp r;obtain⟨h',C,g⟩:=ph F ac D (y e u) M;rw[j6];exact⟨_,C,⟨_,_,rfl⟩,g⟩) s ⟨⟨q,p,rfl⟩,M⟩
 have B:(E.map CB).foldl (fun s x=>step s (VQ x)) s=E.foldl step s:=by simp![foldl_map,j6]
 rw[B]at e g;exact⟨f,d,h',e,g⟩
def pj(f:a≠b)(ac:a≠c)(k:b≠c)(g:∀e∈E,e.1<n/\e.2.1<n)(da:h[a]?=ε (.dt (E.map CB))\/h[a]?=ε (.df (E.map CB)))(db:h[b]?=ε (.lst (UB n s.t)))(dc:h[c]?=ε (.lst (dE n s.c))) :
 ∃h',cK [.ref a,.ref b,.ref c] h=ε (JE (turn E s).l,h')/\jI h a b c n E (turn E s) h':=by
 have d:a<h.length:=by rcases da with da | da<;>exact(Wk da).1
 obtain⟨h1,i,M⟩:∃h1,cJ (eV 0) [ε (.ref a),ε (.ref b),ε (.ref c),ε .non,none,none] h=ε (.it a,h1)/\jI h a b c n E ⟨s.t,s.c,none⟩ h1:=by
  rcases da with da | da
  . refine⟨_,Dr ⋯ da,⟨by simp,su d,?_,?_,fun m h1 z z=>lu (m8 h1)⟩⟩
    . rw[lu f];exact db
    . rw[lu ac];exact dc
  . exact⟨_,Cr ⋯ da,⟨rfl,da,db,dc,fun z z z z=>rfl⟩⟩
 obtain⟨q,p,h',e,o⟩:=pi f ac k g M none none;refine⟨h',?_,o⟩;have j:wD (OC 4 5) II [ε (.ref a),ε (.ref b),ε (.ref c),ε .non,none,none] (.it a,h1)=_:=e;simp![cK,sZ,nB,T4,Va,eH,Uo,Wo,List.replicate,Xe,Wu,NA,HB,qA,eA,Vi,Uu,UA,FC];simp[i,j];rfl
def Vm(l)(h)(b)(h')(e:WL l h=ε (b,h')):h'=h:=by
 simp![WL,sA,gA]at e;rcases h0:l[0]? with _ | _ | d0
 . rw[h0]at e;cases e
 . rw[h0]at e;cases e
 . rcases h1:l[1]? with _ | _ | d1
   . rw[h0,h1]at e;cases e
   . rw[h0,h1]at e;cases e
   . rw[h0,h1]at e;simp![iA,eA]at e;cases d0<;>cases d1<;>simp[zE,MK]at e;exact e.2.symm
def FW(n)(t):UB n t=((List.range n).map t).map Dt.int:=by unfold UB;rw[map_map];rfl
structure uJ(h0:HI)(n:Nat)(E:List Bd)(s:SG)(h:HI):Prop where
 len:h.length=h0.length+3
 da:h[h0.length]?=ε (.dt (E.map CB))\/h[h0.length]?=ε (.df (E.map CB))
 db:h[h0.length+1]?=ε (.lst (UB n s.t))
 dc:h[h0.length+2]?=ε (.lst (dE n s.c))
 els:∀m,m<h0.length->h[m]?=h0[m]?
def dB(n:Nat)(t:Nat->Int):Nat->Int:=fun i=>t i-NB ((List.range n).map t)
def J9(I:1<=n)(y:n<=1000)(C:∀e∈E,e.1<n/\e.2.1<n)(M:uJ d n E s h)(x0 k j u i:Oo Dt) :
 ∃f,uJ d n E (turn E s) f/\SJ [x0,k,ε (.ref d.length),ε (.ref (d.length+1)),ε (.ref (d.length+2)),j,u,i] h =
  (match(turn E s).l with
  | none=>ε (.rt (.tup [.str "times", .lst (UB n (dB n (turn E s).t))]) f)
  | some p=>ε (.nx [x0,k,ε (.ref d.length),ε (.ref (d.length+1)),ε (.ref (d.length+2)),j,ε (.int (p:Nat)),i] f)):=by
 obtain⟨f,e,g⟩:=pj (a:=d.length) (b:=d.length+1) (c:=d.length+2) nofun nofun nofun C M.da M.db M.dc;refine⟨f,⟨by rw[g.len,M.len],.inr g.da,g.db,g.dc,fun m B=>(g.els m nofun nofun nofun).trans (M.els m B)⟩,?_⟩;cases q:(turn E s).l with
 | some p=>rw[q]at e;have r:cK [.ref d.length,.ref (d.length+1),.ref (d.length+2)] h=ε (.int (p:Nat),f):=e;simp[SJ,r,lJ]
 | none=>
  rw[q]at e;have r:cK [.ref d.length,.ref (d.length+1),.ref (d.length+2)] h=ε (.non,f):=e;have o:(List.range n).map (turn E s).t ≠ []:=by intro z;have:=congrArg List.length z;simp at this;omega
  have D:iU (wq 0) [x0,k,ε (.ref d.length),ε (.ref (d.length+1)),ε (.ref (d.length+2)),j,ε .non,i] (.ref (d.length+1),f)=ε (.int (NB ((List.range n).map (turn E s).t)),f):=by unfold iU;simp![qA,eA];rw[jG g.db,FW];simp![Wi,SM.Nb];rw[dz o]
  have F:SD (uA 0) aB WL [none,ε (.int (NB ((List.range n).map (turn E s).t)))] (.rf (d.length+1),f)=ε (UB n (dB n (turn E s).t),f):=by
   rw[uS g.db (by rw[WR];simp;omega) (fun l h b f e q=>by simp at e;rw[<- e.2];exact q) (fun l h b f e q=>by rw[Vm l h b f e];exact q)];rw[FW,uF Dt.int (fun x=>Dt.int (x-NB ((List.range n).map (turn E s).t))) f _ _ (by
    intro x H;exact⟨by simp,by simp[WL]⟩)]
   unfold UB dB;rw[map_map];rfl
  simp[SJ,r,lJ,D,LD g.db,F]
theorem V0(C:1<=n)(j:n<=1000)(D:∀e∈E,e.1<n/\e.2.1<n)(x0 i:Oo Dt):∀xs k g f d h,uJ a n E (SE E k s0) h->(1<=k->∃p,(SE E k s0).l=ε p/\f=ε (.int (p:Nat)))->
 (∃s b,s.l=none/\(∀e∈E,WE s.t e)/\uJ a n E s b/\JB (uA 5) SJ xs [x0,i,ε (.ref a.length),ε (.ref (a.length+1)),ε (.ref (a.length+2)),g,f,d] h=ε (.rt (.tup [.str "times", .lst (UB n (dB n s.t))]) b))\/
 (∃r o b,uJ a n E (SE E (k+xs.length) s0) b/\(1<=k+xs.length->∃p,(SE E (k+xs.length) s0).l=ε p/\o=ε (.int (p:Nat)))/\
  JB (uA 5) SJ xs [x0,i,ε (.ref a.length),ε (.ref (a.length+1)),ε (.ref (a.length+2)),g,f,d] h=ε (.nx [x0,i,ε (.ref a.length),ε (.ref (a.length+1)),ε (.ref (a.length+2)),r,o,d] b))
 | [],k,g,f,d,h,M,q=>.inr ⟨g,f,h,M,q,rfl⟩
 | x::xs,k,g,f,d,h,M,q=>by
  obtain⟨F,M1,m⟩:=J9 C j D M x0 i (ε x) f d;cases ql:(turn E (SE E k s0)).l with
  | none=>
   rw[ql]at m;obtain⟨_,I,H⟩:=rX E _ ql;refine .inl ⟨turn E (SE E k s0),F,ql,?_,M1,by simp[JB,m]⟩;show ∀e∈E,WE (E.foldl step _).t e
   rw[I];exact H
  | some p=>
   rw[ql]at m;have:=V0 C j D x0 i xs (k+1) (ε x) (ε (.int (p:Nat))) d F M1 (fun z=>⟨p,ql,rfl⟩);rw[show k+(x::xs).length=k+1+xs.length by simp;omega];rcases this with⟨s,b,B,y,u,J⟩ | ⟨r,o,b,B,y,u⟩
   . exact .inl ⟨s,b,B,y,u,by simp[JB,m,J]⟩
   . exact .inr ⟨r,o,b,B,y,by simp[JB,m,u]⟩
def JC(c:Nat->Oo Nat)(P i:Nat):Oe Dt:=(List.range (i+1)).map fun m=>.int ((zB (nxt c) m P:Nat):Int)
def Gf(c)(P i):atI (JC c P i) (-1)=ε (.int ((zB (nxt c) i P:Nat):Int)):=by
 unfold JC atI sI;have b:(1:Int)<=(i:Int)+1:=by omega
 have a:(-1+((i:Int)+1)).toNat=i:=by omega
 simp[b,a]
def Ak(hn:1<=n)(a0:n<=90)(dc:h[a]?=ε (.lst (dE n c)))(T:AU n E)
 (R:kI n E w c (zB (nxt c) n x) k) (Y:∀i,i<=n->c (zB (nxt c) i x)=ε (zB (nxt c) (i+1) x)/\zB (nxt c) i x<n) :
 ZN [.int (x:Nat),.ref a] h=ε (.ref h.length,h++[.lst (JC c (zB (nxt c) n x) k)]):=by
 have M:=fun i=>AF dc i
 have W:=MF (h:=h) (show(-(2^62):Int)<=(n:Int) by omega) (show(n:Int)<2^62 by omega);simp![ni]at W;obtain⟨l',b,e,⟨y,rfl⟩,S⟩:=iH (i:=2) (body:=oR) (fun(k:Nat)=>Dt.int (k:Int)) (fun i l b=>(∃y,l=[ε (.int ((zB (nxt c) i x:Nat):Int)),ε (.ref a),y,none])/\b=h) n (by
  rintro i hi l b ⟨⟨y,rfl⟩,rfl⟩;obtain⟨q,p⟩:=Y i nofun;have o:=cS c p;rw[q]at o;refine⟨.nx [ε (.int ((zB (nxt c) (i+1) x:Nat):Int)),ε (.ref a),ε (.int (i:Nat)),none] b,?_,⟨_,rfl⟩,rfl⟩;simp![oR,HB,sA,gA,Vi,Uu,Ss,Te,iA,eA,M,SM.BD,o,Vs,JE]) [ε (.int (x:Nat)),ε (.ref a),none,none] h ⟨⟨_,rfl⟩,rfl⟩
 rw[S]at e;clear S;obtain⟨q,p⟩:=Y n (Us _);generalize hP:zB (nxt c) n x=P at R e q p;have I:c P=ε (zB (nxt c) (n+1) x):=q;have f:=cS c p;have f1:zB (nxt c) (n+1) x=nxt c P:=by show nxt c (zB (nxt c) n x)=_;rw[hP]
 rw[I,f1]at f;obtain⟨r,U,s⟩:=jX (t:=mR) (body:=pR) (fun m l b=>∃i,1<=i/\i<=k/\m=k-i/\l=[ε (.int (P:Nat)),ε (.ref a),y,ε (.ref h.length)]/\b=h++[.lst (JC c P i)])
  (fun l b=>l=[ε (.int (P:Nat)),ε (.ref a),y,ε (.ref h.length)]/\b=h++[.lst (JC c P k)]) (fun v v=>False) (by
  rintro m l b ⟨i,i1,Z,rfl,rfl,rfl⟩;have F:(h++[Ob.lst (JC c P i)])[h.length]?=ε (.lst (JC c P i)):=by simp
  have H:(h++[Ob.lst (JC c P i)])[a]?=ε (.lst (dE n c)):=by rw[Xo (Wk dc).1];exact dc
  have L:=fun j=>AF F j
  have u:=fun j=>AF H j
  have O:=Gf c P i;refine⟨!decide (((zB (nxt c) i P:Nat):Int)=(P:Int)),h++[.lst (JC c P i)],?_,?_⟩
  . simp![mR,HA,sA,gA,mQ,qA,NO,Ss,Te,iA,eA,L,O,Vs,oF,JA]
  . by_cases hk:i=k
    . subst hk;rw[R.back];simp
    . have ne:=R.first i i1 nofun;have B:¬(((zB (nxt c) i P:Nat):Int)=(P:Int)):=fun z=>ne nofun
      rw[fu B];obtain⟨g1,g2⟩:=R.edge i Z;have D:=(T.lt _ g1).1;have o:=cS c D;rw[g2]at o;have ea:e2 kA (eV 1) (e2 kA (eV 3) (fD (wq 1))) [ε (.int (P:Nat)),ε (.ref a),y,ε (.ref h.length)] (h++[.lst (JC c P i)])=ε (.int ((zB (nxt c) (i+1) P:Nat):Int),h++[.lst (JC c P i)]):=by simp![sA,gA,mQ,qA,NO,Ss,Te,iA,eA,L,O,Vs,u,SM.BD,o,JE]
      have J:=fG (l:=[ε (.int (P:Nat)),ε (.ref a),y,ε (.ref h.length)]) (g:=e2 kA (eV 1) (e2 kA (eV 3) (fD (wq 1)))) F ea F (by have:=R.le;simp[JC];omega);have en:JC c P i++[.int ((zB (nxt c) (i+1) P:Nat):Int)]=JC c P (i+1):=by unfold JC;rw[Iu (n:=i+1),Gi];rfl
      rw[en]at J;have es:(h++[Ob.lst (JC c P i)]).set h.length (.lst (JC c P (i+1)))=h++[.lst (JC c P (i+1))]:=by simp
      rw[es]at J;refine⟨.nx [ε (.int (P:Nat)),ε (.ref a),y,ε (.ref h.length)] (h++[.lst (JC c P (i+1))]),?_,k-(i+1),by omega,i+1,by omega,by omega,rfl,rfl,rfl⟩;simp![pR,gF,iG,gA,Ss,Te,iA,eA,J]) 100 (k-1) [ε (.int (P:Nat)),ε (.ref a),y,ε (.ref h.length)] (h++[.lst (JC c P 1)]) ⟨1,Us _,R.pos,rfl,rfl,rfl⟩ (by have:=R.le;omega)
 cases r with
 | nx Q C=>obtain⟨rfl,rfl⟩:=s;have e1:JC c P 1=[.int (P:Nat),.int ((nxt c P:Nat):Int)]:=rfl;rw[e1]at U;simp[ZN,dW,bJ dc,UW,W,e,M,f,JE,U]
 | rt d C=>exact s.elim
 | bk Q C=>exact s.elim
 | ct Q C=>exact s.elim
def iL(a:Oe Bd)(p q:Nat):Int:=(HK (nC a) p q).getD 0
def nV(he:e∈nC a):iL a e.1 e.2.1=e.2.2:=by
 unfold iL HK;cases q:(nC a).find? (ZC e.1 e.2.1)with
 | none=>have:=find?_eq_none.mp q e he;exact Ea (du.mpr ⟨rfl,rfl⟩) this
 | some x=>obtain⟨d,b⟩:=du.mp (find?_some q);exact(KM a).un x (Ai q) e he d b
def S0(d:∀e∈a,e.1<n/\e.2.1<n/\e.1≠e.2.1):AU n (nC a):=⟨fun e b=>d e ((KM a).mem e b),(KM a).un⟩
def QV(b)(C:b.length<=1000)(h)(da:h[a]?=ε (.lst (b.map xA))):HJ [.ref a] h=ε (.ref h.length,h++[.dt ((nC b).map CB)]):=by
 obtain⟨y,j,e,⟨g,f,rfl⟩,rfl,_⟩:=vU (i:=2) (n:=a) (body:=bR) xA (fun k l j=>(∃g f,l=[ε (.ref a),ε (.ref h.length),g,f])/\j=h++[.dt (((b.take k).foldl vE []).map CB)]/\((b.take k).foldl vE []).length<=k) b (by
  rintro k l j ⟨_,rfl,_⟩;rw[Xo (Wk da).1];exact da) (by
  rintro k x p l j ⟨⟨g,f,rfl⟩,rfl,q⟩;have B:k<b.length:=(Wk p).1;rw[jd vE [] p];generalize (b.take k).foldl vE []=E at q;have m:(h++[Ob.dt (E.map CB)])[h.length]?=ε (.dt (E.map CB)):=by simp
  have u:([ε (Dt.ref a),ε (.ref h.length),g,f]:LI).set 2 (ε (xA x))=[ε (Dt.ref a),ε (.ref h.length),ε (xA x),f]:=rfl;rw[u];refine⟨.nx [ε (.ref a),ε (.ref h.length),ε (xA x),ε (.ntp [(x.1:Int),(x.2.1:Int)])] (h++[.dt ((vE E x).map CB)]),?_,⟨_,_,rfl⟩,rfl,?_⟩
  . have r:sK (eV 1) (eV 3) (e2 kA (eV 2) (wq 2)) [ε (.ref a),ε (.ref h.length),ε (xA x),ε (.ntp [(x.1:Int),(x.2.1:Int)])] (h++[.dt (E.map CB)])=ε (.int ((HK E x.1 x.2.1).getD x.2.2),h++[.dt (E.map CB)]):=by rw[pb (n:=h.length) (k:=[(x.1:Int),(x.2.1:Int)]) (kvs:=E.map CB) ⋯ m ⋯];simp![sA,gA,qA,Ss,Te,iA,eA,xA,XB,iN,Vs];rw[O8 m,o3];cases HK E x.1 x.2.1<;>rfl
    have g2:=B4 (l:=[ε (.ref a),ε (.ref h.length),ε (xA x),ε (.ntp [(x.1:Int),(x.2.1:Int)])]) (h:=h++[.dt (E.map CB)]) (fe:=J6 QM (sK (eV 1) (eV 3) (e2 kA (eV 2) (wq 2))) (e2 kA (eV 2) (wq 2))) (fo:=eV 1) (fy:=eV 3) (n:=h.length) (k:=[(x.1:Int),(x.2.1:Int)]) (kvs:=E.map CB)
     (d:=.int (min ((HK E x.1 x.2.1).getD x.2.2) x.2.2)) (by
      rw[T7,r,eA];simp[xA]) ⋯ m ⋯ (by simp;omega)
    rw[pf]at g2;have s:(h++[Ob.dt (E.map CB)]).set h.length (.dt ((vE E x).map CB))=h++[.dt ((vE E x).map CB)]:=by simp
    simp![bR,NA,HB,T5,AA,zA,sA,gA,qA,Ss,Te,iA,eA,xA,XB,BC,SF,Vs,Wc,Vi,Uu,UA];have g3:=g2;simp![xA]at g3;rw[g3];show ε (Rs.nx _ ((h++[Ob.dt (E.map CB)]).set h.length (.dt ((vE E x).map CB))))=_;rw[s]
  . have:=Bc E x.1 x.2.1 (min ((HK E x.1 x.2.1).getD x.2.2) x.2.2);show(vE E x).length<=k+1;unfold vE;omega) [ε (.ref a),ε (.ref h.length),none,none] (h++[.dt []]) ⟨⟨_,_,rfl⟩,by simp,by simp⟩
 have o:(h++[Ob.dt []])[a]?=ε (.lst (b.map xA)):=by rw[Xo (Wk da).1];exact da
 rw[La]at e;simp[HJ,EV,LD o,e];rfl
def UY(F:1<=n)(S:n<=16)(b)(W:∀e∈b,e.1<n/\e.2.1<n/\e.1≠e.2.1)(U:b.length<=1000)(h)(da:h[a]?=ε (.lst (b.map xA))) :
 (∃t d,(∀e∈b,WE t e)/\(∀m,m<h.length->d[m]?=h[m]?)/\ZH [.int (n:Nat),.ref a] h=ε (.tup [.str "times", .lst (UB n (dB n t))],d))\/
 (∃c P k r d,kI n (nC b) (iL b) c P k/\(∀m,m<h.length->d[m]?=h[m]?)/\d[r]?=ε (.lst (JC c P k))/\ZH [.int (n:Nat),.ref a] h=ε (.tup [.str "ring", .ref r],d)/\h.length<=r):=by
 have T:=S0 W;have Y:∀e∈nC b,e.1<n/\e.2.1<n:=fun e f=>⟨(T.lt e f).1,(T.lt e f).2.1⟩
 have H:=QV b U h da;have q:=uX (h:=h++[.dt ((nC b).map CB)]) (Dt.int 0) (show n<=1000000 by omega);have o:=uX (h:=h++[.dt ((nC b).map CB)]++[.lst (List.replicate n (Dt.int 0))]) Dt.non (show n<=1000000 by omega);have O:List.replicate n (Dt.int 0)=UB n s0.t:=by unfold UB;rw[show(fun i=>Dt.int (s0.t i))=fun z=>Dt.int 0 from rfl,map_const',Fe]
 have c0:List.replicate n Dt.non=dE n s0.c:=by unfold dE;rw[show(fun i=>JE (s0.c i))=fun z=>Dt.non from rfl,map_const',Fe]
 rw[O]at q o;rw[c0]at o;simp![n7,Xe,Wu,je,T4,Va,Aa]at q o;have C:=fun h=>MF (h:=h) (show(-(2^62):Int)<=(n:Int)+1 by omega) (show(n:Int)+1<2^62 by omega)
 have Z:((n:Int)+1).toNat=n+1:=by omega
 rw[Z]at C;have M:uJ h n (nC b) (SE (nC b) 0 s0) (h++[.dt ((nC b).map CB),.lst (UB n s0.t),.lst (dE n s0.c)]):=by
  refine⟨by simp,.inl ?_,?_,?_,fun m B=>Xo B⟩
  . rw[Zu (Us _),Di];rfl
  . rw[Zu nofun,Jo];rfl
  . rw[Zu nofun,Jo];rfl
 rcases V0 F nofun Y (ε (.int (n:Nat))) (ε (.ref a)) ((List.range (n+1)).map fun(k:Nat)=>Dt.int (k:Int)) 0 none none none _ M (fun h=>Ea h nofun)with⟨s,d,j,y,E,a4⟩ | ⟨y5,y6,d,j,y,E⟩
 . refine .inl ⟨s.t,d,fun e f=>?_,E.els,?_⟩
   . obtain⟨x,Q,L,J,x3⟩:=(KM b).low e f;have:=y x Q;simp![WE]at this ⊢;rw[L,J]at this;omega
   . simp[ZH,FS,H,q,o,C,a4]
 . rw[mq,Fe,Aa]at j y;obtain⟨p,ql,rfl⟩:=y nofun;obtain⟨u,D,I,_⟩:=GY T (fun e f=>nV f) n;obtain⟨k,R,cd⟩:=pa T I ql;have g:=Ak F nofun j.dc T R cd;refine .inr ⟨(SE (nC b) (n+1) s0).c,zB (nxt (SE (nC b) (n+1) s0).c) n p,k,d.length,d++[.lst (JC (SE (nC b) (n+1) s0).c (zB (nxt (SE (nC b) (n+1) s0).c) n p) k)],R,fun m B=>?_,?_,?_,by rw[j.len];omega⟩
   . rw[Xo (by rw[j.len];omega)];exact j.els m B
   . rw[Zu (Us _),Di];rfl
   . simp[ZH,FS,H,q,o,C,E,g]
def WZ{b:Nat->Int}(f:∀e∈a,b e.1-b e.2.1<=e.2.2)(R:kI n (nC a) (iL a) c P k):False:=by
 have h:∀i,i<=k->b P-b (zB (nxt c) i P)<=((List.range i).map fun m=>iL a (zB (nxt c) m P) (zB (nxt c) (m+1) P)).sum:=by
  intro i
  induction i with
  | zero=>intro _;show b P-b P<=0;omega
  | succ i ih=>intro j;have d:=ih nofun;have g:=f _ ((KM a).mem _ (R.edge i nofun).1);rw[Iu,Gi,sum_append];simp![Uo,Wo,sum_cons,sum_nil,Int.add_zero]at g ⊢;omega
 have d:=h k (Us _);rw[R.back]at d;have:=R.sum;omega
def Mt(m:1<=n)(t):(List.range n).map (dB n t) ≠ []/\NB ((List.range n).map (dB n t))=0:=by
 have ne:∀g:Nat->Int,(List.range n).map g ≠ []:=fun g z=>by have:=congrArg List.length z;simp at this;omega
 refine⟨ne _,?_⟩;obtain⟨k,h⟩:=RH _ (ne t);obtain⟨f,d⟩:=RH _ (ne (dB n t));obtain⟨i,b,e⟩:=Bs.mp k;obtain⟨j,a,o⟩:=Bs.mp f;have s:=d (dB n t i) (mem_map_of_mem b);have r:=h (t j) (mem_map_of_mem a);have q:dB n t i=0:=by unfold dB;rw[e];omega
 have p:dB n t j=t j-NB ((List.range n).map t):=rfl;omega
noncomputable def PB(t a b:Int):Nat:=if t<a then 0 else if t=a then 1 else if t<b then 2 else if t=b then 3 else 4
noncomputable def be:Oe (Nat×Nat):=[(0,0),(0,1),(0,2),(0,3),(0,4),(1,2),(1,3),(1,4),(2,2),(2,3),(2,4),(3,4),(4,4)]
def FO(h1:a<b)(h2:c<d):(PB a c d,PB b c d)∈be:=by
 unfold PB
 repeat' split
 all_goals first | (exfalso;omega) | decide
noncomputable def pr(p:Nat×Nat):Dt:=.tup [.int (p.1:Int),.int (p.2:Int)]
noncomputable def tG(s:Int×Int):Dt:=.tup [.int s.1,.int s.2]
def bB(s o:Int×Int):Nat:=be.idxOf (PB s.1 o.1 o.2,PB s.2 o.1 o.2)
def QB(s:Int×Int):Prop:=s.1<s.2
def IE(h1:QB s)(h2:QB o):bB s o<13:=idxOf_lt_length_of_mem (FO h1 h2)
def yr:∀p∈be,kJ (be.map pr) (pr p)=true/\DF (be.map pr) (pr p)=ε (be.idxOf p):=by intro p hp;simp![be,Ba,not_mem_nil,or_false]at hp;rcases hp with rfl | rfl | rfl | rfl | rfl | rfl | rfl | rfl | rfl | rfl | rfl | rfl | rfl<;>exact⟨rfl,rfl⟩
noncomputable def mkS(n:Nat)(p:Nat->Bool):Nat:=match n with
 | 0=>0
 | n+1=>mkS n p+(if p n=true then 2^n else 0)
theorem JT(p):∀n,mkS n p<2^n
 | 0=>by simp[mkS]
 | n+1=>by have:=JT p n;simp![mkS];rw[Nat.pow_succ];split<;>omega
theorem VZ(p):∀n k,(mkS n p).testBit k=(decide (k<n)&&p k)
 | 0,k=>by simp[mkS]
 | n+1,k=>by
  have ih:=VZ p n k;have lt:=JT p n;simp![mkS];by_cases hp:p n=true
  . rw[dz hp,Nat.add_comm];rcases Nat.lt_trichotomy k n with h | h | h
    . rw[Nat.testBit_two_pow_add_gt h,ih];simp[h,Hu h]
    . subst h;rw[Nat.testBit_two_pow_add_eq,ih];simp[hp]
    . have:2^n+mkS n p<2^k:=jo (show 2^n+mkS n p<2^(n+1) by rw[Nat.pow_succ];omega) (Nat.pow_le_pow_right (by decide) h);rw[Nat.testBit_lt_two_pow this];have:¬k<n+1:=by omega
      simp[this]
  . rw[eG hp,Nat.add_zero,ih];by_cases h:k=n
    . subst h;simp[hp]
    . have:(k<n+1)=(k<n):=by apply propext;omega
      simp[this]
def SH(f:a<8192)(e:b<8192)(h:∀k<13,a.testBit k=b.testBit k):a=b:=by
 apply Io;intro k;by_cases d:k<13
 . exact h k d
 . have hp:8192<=2^k:=by have:=Nat.pow_le_pow_right (show 1<=2 by decide) (show 13<=k by omega);exact this
   rw[Nat.testBit_lt_two_pow nofun,Nat.testBit_lt_two_pow nofun]
def mk(p:Nat->Bool):Nat:=mkS 13 p
def Fx(p):mk p<8192:=JT p 13
def Zj(p)(a:k<13):(mk p).testBit k=p k:=by unfold mk;rw[VZ];simp[a]
noncomputable def QA(m:Nat):Oe Nat:=(List.range 13).filter m.testBit
def bm:k∈QA m↔k<13/\m.testBit k=true:=by simp[QA]
def Dh(g:Nat->Int)(p)(xs:Oe Nat):((xs.filter p).map g).sum=(xs.map fun k=>if p k=true then g k else 0).sum:=by
 induction xs with
 | nil=>rfl
 | cons x xs ih=>by_cases h:p x=true<;>simp[h,ih]
theorem P0(p):∀n,((List.range n).map fun k=>if p k=true then(2:Int)^k else 0).sum=(mkS n p:Int)
 | 0=>rfl
 | n+1=>by
  have f:(if p n=true then(2:Int)^n else 0)=((if p n=true then 2^n else 0:Nat):Int):=by cases p n<;>simp
  rw[Iu,Gi,sum_append,P0 p n,Uo,Wo,sum_cons,sum_nil,Int.add_zero,f];rfl
def Wm(p):((((List.range 13).filter p).map fun k=>(2:Int)^(12-k))).sum=(mk (fun j=>p (12-j)):Int):=by rw[Dh,<- sum_reverse,<- map_reverse,show(List.range 13).reverse=(List.range 13).map (12 - ·) by decide,map_map];refine Eq.trans (congrArg List.sum (map_congr_left fun k a=>?_)) (P0 _ 13);show(if p (12-k)=true then(2:Int)^(12-(12-k))else 0)=_;rw[Nat.sub_sub_self (Nat.le_of_lt_succ (Bu.mp a))]
def Zo(m:Nat):Nat:=mk fun j=>m.testBit (12-j)
def jK(m):Zo m<8192:=Fx _
def cF(m)(a:k<13):(Zo m).testBit k=m.testBit (12-k):=Zj _ a
def XR(a:m<8192):Zo (Zo m)=m:=SH (jK _) a fun k b=>by
 rw[cF _ b,cF _ nofun]
 congr 1
 omega
def nM(a b:Nat):Builtin.bitAnd (a:Int) (b:Int)=((a&&&b:Nat):Int):=by unfold Builtin.bitAnd;simp
def wZ(a b:Nat):Builtin.bitOr (a:Int) (b:Int)=((a|||b:Nat):Int):=by
 unfold Builtin.bitOr Builtin.bitAnd Builtin.bitNot;have f:decide (0<=-(a:Int)-1)=false:=by simp;omega
 have d:decide (0<=-(b:Int)-1)=false:=by simp;omega
 have e:∀x:Int,-(-x-1)-1=x:=by intro x;omega
 simp![f,d,e];simp
def Rn(a b:Nat):Builtin.bitXor (a:Int) (b:Int)=((a|||b:Nat):Int)-((a&&&b:Nat):Int):=by unfold Builtin.bitXor;rw[nM,wZ]
def rT(m k:Nat):decide (Builtin.bitAnd ((m:Int)/2^k) 1=1)=m.testBit k:=by
 have e:((m:Int)/2^k)=((m/2^k:Nat):Int):=by simp
 rw[e];have:=nM (m/2^k) 1;simp![Ie]at this;rw[this,Nat.testBit_eq_decide_div_mod_eq];have e2:(m/2^k&&&1)=m/2^k%2:=Nat.and_one_is_mod _;rw[e2]
 congr 1
 apply propext;omega
def QK{k:Nat}(a:k<13):pJ 1 (k:Int):=⟨by omega,by omega,by decide⟩
def r13(h):V6 (.int 13,h)=ε (.vals ((List.range 13).map fun(k:Nat)=>Dt.int (k:Int)),h):=MF (by decide) (by decide)
def l13{a:Type}(f:Nat->a):((List.range 13).map f).length<sizeLine:=by rw[mq,Fe];decide
def O7(h:i<13):i=0\/i=1\/i=2\/i=3\/i=4\/i=5\/i=6\/i=7\/i=8\/i=9\/i=10\/i=11\/i=12:=by revert i;decide
def pM(m):(QA m).length<=13:=by unfold QA;exact rz (length_filter_le _ _) ⋯
def SL(m:Nat)(h):fH [.int m] h=ε (.lst ((QA m).map fun(k:Nat)=>Dt.int (k:Int)),h):=by
 have a:=fP (te:=DR) (tc:=vR) (i:=0) (fun(k:Nat)=>Dt.int (k:Int)) m.testBit (fun(k:Nat)=>Dt.int (k:Int)) h (List.range 13) [none,ε (.int m)] fun k q=>⟨by
  simp[vR,iQ,rT],fun q=>by simp[DR]⟩
 simp[fH,gX,r13,MD _ _ _ (l13 _),a,QA]
def Jm(ks:Oe Nat)(e:∀k∈ks,k<13)(d:ks.length<=13)(h):aP [.lst (ks.map fun(k:Nat)=>Dt.int (k:Int))] h=ε (.int ((ks.map fun k=>(2:Int)^k).sum),h):=by
 have f:=uF (te:=JR) (tc:=aB) (i:=0) (fun(k:Nat)=>Dt.int (k:Int)) (fun(k:Nat)=>Dt.int ((2:Int)^k)) h ks [none] fun k b=>⟨rfl,by
  simp[JR,XM (QK (e k b))]⟩
 have hs:((ks.map fun(k:Nat)=>Dt.int (k:Int))).length<sizeLine:=by rw[mq];exact Ds d (by decide)
 have a:=V4 (h:=h) (ks.map fun k=>(2:Int)^k);rw[map_map]at a;have:(Dt.int ∘ fun k=>(2:Int)^k)=fun(k:Nat)=>Dt.int ((2:Int)^k):=rfl
 rw[this]at a;simp[aP,rY,MD _ _ _ hs,f,a]
def Om(m:Nat)(h):bP [.int m] h=ε (.int (Zo m),h):=by
 have e:=uF (te:=KR) (tc:=aB) (i:=0) (fun(k:Nat)=>Dt.int (k:Int)) (fun(k:Nat)=>Dt.int (((12-k:Nat):Nat):Int)) h (QA m) [none] fun k b=>⟨rfl,by
  have:=(bm.mp b).1;simp[KR];omega⟩
 have hs:((QA m).map fun(k:Nat)=>Dt.int (k:Int)).length<sizeLine:=by rw[mq];exact Ds (pM m) (by decide)
 have a:=Jm ((QA m).map fun k=>12-k) (by intro k d;obtain⟨j,_,rfl⟩:=Bs.mp d;omega) (by rw[mq];exact pM m) h;rw[map_map,map_map]at a;have g:((fun(k:Nat)=>Dt.int (k:Int)) ∘ fun k=>12-k)=fun(k:Nat)=>Dt.int (((12-k:Nat):Nat):Int):=rfl
 have e2:((fun(k:Nat)=>(2:Int)^k) ∘ fun k=>12-k)=fun(k:Nat)=>(2:Int)^(12-k):=rfl
 have f:((QA m).map fun k=>(2:Int)^(12-k)).sum=(Zo m:Int):=Wm _;rw[g,e2,f]at a;simp[bP,sY,SL,MD _ _ _ hs,e,a]
def Nh(t a b)(i:a<b):(t<a/\PB t a b=0)\/(t=a/\PB t a b=1)\/(a<t/\t<b/\PB t a b=2)\/(t=b/\PB t a b=3)\/(b<t/\PB t a b=4):=by
 unfold PB;rcases Int.lt_trichotomy t a with h | h | h
 . exact .inl ⟨h,dz h⟩
 . exact .inr (.inl ⟨h,by rw[eG (by rw[h];exact Int.lt_irrefl a),dz h]⟩)
 . have g:¬t<a:=fun z=>Int.lt_irrefl a (Int.lt_trans h z)
   have f:¬t=a:=fun z=>Int.lt_irrefl a (z ▸ h)
   rw[eG g,eG f];rcases Int.lt_trichotomy t b with k | k | k
   . exact .inr (.inr (.inl ⟨h,k,dz k⟩))
   . exact .inr (.inr (.inr (.inl ⟨k,by rw[eG (by rw[k];exact Int.lt_irrefl b),dz k]⟩)))
   . have e:¬t<b:=fun z=>Int.lt_irrefl b (Int.lt_trans k z)
     have d:¬t=b:=fun z=>Int.lt_irrefl b (z ▸ k)
     exact .inr (.inr (.inr (.inr ⟨k,by rw[eG e,eG d]⟩)))
def Al(hw:w<13):Zo (2^w)=2^(12-w):=by
 have b:2^(12-w)<8192:=Ds (Nat.pow_le_pow_right (by decide) (show 12-w<=12 by omega)) (by decide);refine SH (jK _) b fun k a=>?_
 rw[cF _ a,Nat.testBit_two_pow,Nat.testBit_two_pow]
 congr 1
 apply propext;omega
def CH(i j:Nat):Nat:=match cv[i]? with
 | some (.tup r)=>(match r[j]? with
  | some (.int n)=>n.toNat
  | _=>0)
 | _=>0
noncomputable def P7:Dt->Nat
 | .int n=>n.toNat
 | _=>0
def BN:Dt->Oe Nat
 | .tup r=>r.map P7
 | _=>[]
def S9:cv=(cv.map BN).map fun r=>.tup (r.map fun n:Nat=>.int (n:Int)):=by rfl
def Iz:(cv.map BN).length=13/\∀r∈cv.map BN,r.length=13:=by decide +kernel
def Jz(g:i<13)(f:j<13):∃r,cv[i]?=ε (.tup r)/\r[j]?=ε (.int (CH i j)):=by
 obtain⟨N,h⟩:∃N,cv.map BN=N:=⟨_,rfl⟩
 have T:=S9;have d:=Iz;rw[h]at T d;have a:i<N.length:=by rw[d.1];exact g
 have e:cv[i]?=ε (.tup (N[i].map fun n:Nat=>.int (n:Int))):=by rw[T,uq,ji a];rfl
 have b:j<N[i].length:=by rw[d.2 _ (getElem_mem a)];exact f
 have e2:(N[i].map fun n:Nat=>Dt.int (n:Int))[j]?=ε (.int (N[i][j]:Int)):=by rw[uq,ji b];rfl
 refine⟨_,e,?_⟩;rw[e2];unfold CH;rw[e];dsimp only;rw[e2];rfl
def R9:∀i<13,∀j<13,1<=CH i j/\CH i j<8192:=by decide +kernel
def tZ:∀i<13,∀j<13,∀k<13,(CH (12-j) (12-i)).testBit (12-k)=(CH i j).testBit k:=by decide +kernel
noncomputable def rk(l:Oe Int)(x:Int):Nat:=match l with
 | []=>0
 | z::l=>(if z<x then 1 else 0)+rk l x
theorem W5(h:x<=y):∀l,rk l x<=rk l y
 | []=>Us _
 | z::l=>by have:=W5 h l;unfold rk;split<;>split<;>omega
theorem sH(h:x<y):∀l,x∈l->rk l x<rk l y
 | z::l,m=>by
  unfold rk;rcases Ba.mp m with rfl | m
  . have:=W5 (Int.le_of_lt h) l;rw[eG (Int.lt_irrefl _),dz h];omega
  . have:=sH h l m;split<;>split<;>omega
theorem JM:∀l,x∈l->rk l x<l.length
 | z::l,m=>by
  have q:∀l,rk l x<=l.length:=by
   intro l;induction l with
   | nil=>exact Us _
   | cons z l ih=>unfold rk;rw[T4];split<;>omega
  unfold rk;rw[T4];rcases Ba.mp m with rfl | m
  . have:=q l;rw[eG (Int.lt_irrefl _)];omega
  . have:=JM l m;split<;>omega
def wX(b:x∈l)(a:y∈l):(x<y)=((rk l x:Int)<(rk l y:Int)):=by
 apply propext;constructor
 . intro h;have:=sH h l b;omega
 . intro h;rcases Int.lt_trichotomy x y with g | g | g
   . exact g
   . subst g;omega
   . have:=sH g l a;omega
def vX(b:x∈l)(a:y∈l):(x=y)=((rk l x:Int)=(rk l y:Int)):=by
 apply propext;constructor
 . intro h;rw[h]
 . intro h;rcases Int.lt_trichotomy x y with g | g | g
   . have:=sH g l b;omega
   . exact g
   . have:=sH g l a;omega
def XH(d:t∈l)(f:a∈l)(e:b∈l):PB t a b=PB (rk l t) (rk l a) (rk l b):=by unfold PB;simp![wX d f,vX d f,wX d e,vX d e]
noncomputable def sE(t a b:Nat):Nat:=if t<a then 0 else if t=a then 1 else if t<b then 2 else if t=b then 3 else 4
def UT(t a b:Nat):PB t a b=sE t a b:=by unfold PB sE;simp![Int.ofNat_lt,Int.ofNat_inj]
noncomputable def jL(z y:Nat):Nat:=[0,3,6,7,8].getD z 0+y
def Bv:∀z<5,∀y<5,(z,y)∈be->be.idxOf (z,y)=jL z y:=by decide +kernel
def Df:∀b<6,∀a<b,∀d<6,∀c<d,∀q<6,∀p<q,
 (CH (jL (sE a c d) (sE b c d)) (jL (sE c p q) (sE d p q))).testBit (jL (sE a p q) (sE b p q))=true:=by decide +kernel
def t6(t a b):PB t a b<5:=by
 unfold PB
 repeat' split
 all_goals decide
def tY(h1:QB s)(h2:QB o)(g:QB t):(CH (bB s o) (bB o t)).testBit (bB s t)=true:=by
 obtain⟨a,b⟩:=s;obtain⟨c,d⟩:=o;obtain⟨p,q⟩:=t;unfold QB at h1 h2 g;simp only at h1 h2 g;have W:∀{a b c d:Int},a<b->c<d->bB (a,b) (c,d)=jL (PB a c d) (PB b c d):=fun B g2=>Bv _ (t6 _ _ _) _ (t6 _ _ _) (FO B g2)
 rw[W h1 h2,W h2 g,W h1 g];have k:a ∈ [a,b,c,d,p,q]:=by simp
 have j:b ∈ [a,b,c,d,p,q]:=by simp
 have i:c ∈ [a,b,c,d,p,q]:=by simp
 have h:d ∈ [a,b,c,d,p,q]:=by simp
 have f:p ∈ [a,b,c,d,p,q]:=by simp
 have e:q ∈ [a,b,c,d,p,q]:=by simp
 have y:=sH h1 _ k;have x:=sH h2 _ i;have u:=sH g _ f;have r:=JM _ j;have n:=JM _ h;have m:=JM _ e;rw[XH k i h,XH j i h,XH i f e,XH h f e,XH k f e,XH j f e];generalize rk [a,b,c,d,p,q] a=a' at *;generalize rk [a,b,c,d,p,q] b=b' at *;generalize rk [a,b,c,d,p,q] c=c' at *;generalize rk [a,b,c,d,p,q] d=d' at *;generalize rk [a,b,c,d,p,q] p=p' at *;generalize rk [a,b,c,d,p,q] q=q' at *;simp![UT];exact Df _ r _ y _ n _ x _ m _ u
def pp:∀i<13,∀j<13,(CH i j).testBit 6=true->j=12-i:=by decide +kernel
def El(h:QB s):bB s s=6:=by obtain⟨a,b⟩:=s;have h:a<b:=h;unfold bB PB;simp[Int.ne_of_gt h,show ¬b<a by omega];rfl
def cM(h1:QB s)(h2:QB o):bB o s=12-bB s o:=by have:=tY h1 h2 h1;rw[El h1]at this;exact pp _ (IE h1 h2) _ (IE h2 h1) this
noncomputable def pN(f:Nat->Nat)(xs:Oe Nat)(a:Nat):Nat:=xs.foldl (fun b x=>b|||f x) a
theorem o0(f)(k):∀xs a,(pN f xs a).testBit k=(a.testBit k || xs.any fun x=>(f x).testBit k)
 | [],a=>by simp[pN]
 | x::xs,a=>by have:=o0 f k xs (a|||f x);unfold pN at this ⊢;rw[foldl_cons,this];simp[Nat.testBit_or,Bool.or_assoc]
theorem X3(f):∀xs a,a<8192->(∀x∈xs,f x<8192)->pN f xs a<8192
 | [],a,ha,_=>ha
 | x::xs,a,ha,h=>by unfold pN;rw[foldl_cons];exact X3 f xs (a|||f x) (Nat.or_lt_two_pow (n:=13) ha (h x ⋯)) fun y b=>h y (by simp[b])
def IK(a b:Nat):Nat:=(QA a).foldl (fun d i=>pN (CH i) (QA b) d) 0
theorem VW(b k):∀(xs:Oe Nat)(a:Nat),(xs.foldl (fun d i=>pN (CH i) (QA b) d) a).testBit k=(a.testBit k || xs.any fun i=>(QA b).any fun j=>(CH i j).testBit k)
 | [],a=>by simp
 | x::xs,a=>by rw[foldl_cons,VW b k xs,o0];simp[Bool.or_assoc]
def eK(a b k):(IK a b).testBit k=true↔∃i j,i<13/\a.testBit i=true/\j<13/\b.testBit j=true/\(CH i j).testBit k=true:=by
 unfold IK;rw[VW];simp![Nat.zero_testBit,Bool.false_or,any_eq_true,bm];constructor
 . rintro⟨i,⟨h,g⟩,j,⟨f,e⟩,d⟩;exact⟨i,j,h,g,f,e,d⟩
 . rintro⟨i,j,h,g,f,e,d⟩;exact⟨i,⟨h,g⟩,j,⟨f,e⟩,d⟩
theorem UX(b):∀(xs:Oe Nat)(a:Nat),a<8192->(∀i∈xs,i<13)->xs.foldl (fun d i=>pN (CH i) (QA b) d) a<8192
 | [],a,ha,_=>ha
 | x::xs,a,ha,h=>by rw[foldl_cons];exact UX b xs _ (X3 _ _ _ ha fun j f=>(R9 x (h x ⋯) j (bm.mp f).1).2) fun y e=>h y (by simp[e])
def Y9(a b):IK a b<8192:=UX b _ 0 (by decide) fun i d=>(bm.mp d).1
def Tn(h:a=true↔b=true):a=b:=by cases a<;>cases b<;>simp_all
def pu(f:a<8192)(e:b<8192)(h:∀k<13,a.testBit k=true↔b.testBit k=true):a=b:=SH f e fun k d=>Tn (h k d)
def Zn(a b):IK (Zo b) (Zo a)=Zo (IK a b):=by
 refine pu (Y9 _ _) (jK _) fun k m=>?_
 rw[cF _ m,eK,eK];constructor
 . rintro⟨i,j,g,f,e,d,h⟩;rw[cF _ g]at f;rw[cF _ e]at d;refine⟨12-j,12-i,by omega,d,by omega,f,?_⟩;have:=tZ i g j e k m;rw[this];exact h
 . rintro⟨i,j,g,f,e,d,h⟩;refine⟨12-j,12-i,by omega,?_,by omega,?_,?_⟩
   . rw[cF _ nofun,show 12-(12-j)=j by omega];exact d
   . rw[cF _ nofun,show 12-(12-i)=i by omega];exact f
   . have:=tZ i g j e (12-k) nofun;rw[show 12-(12-k)=k by omega]at this;rw[this];exact h
def pv{i:Nat}(n:i<13)(b d:Nat)(x y z:Oo Dt)(h):∃f,WN [x,y,ε (.lst ((QA b).map fun(k:Nat)=>Dt.int (k:Int))),ε (.int d),ε (.int i),z] h=ε (.nx [x,y,ε (.lst ((QA b).map fun(k:Nat)=>Dt.int (k:Int))),ε (.int (pN (CH i) (QA b) d)),ε (.int i),f] h):=by
 obtain⟨p,g,e,⟨f,rfl⟩,rfl⟩:=iX (i:=5) (body:=aR) (fun(k:Nat)=>Dt.int (k:Int)) (fun(a:Nat) l g=>(∃f,l=[x,y,ε (.lst ((QA b).map fun(k:Nat)=>Dt.int (k:Int))),ε (.int a),ε (.int i),f])/\g=h) (fun a j=>a|||CH i j) (QA b) (by
  rintro j m a l h ⟨⟨f,rfl⟩,rfl⟩;obtain⟨r,o,e2⟩:=Jz n (bm.mp m).1;refine⟨.nx [x,y,ε (.lst ((QA b).map fun(k:Nat)=>Dt.int (k:Int))),ε (.int ((a|||CH i j:Nat):Int)),some (.int i),some (.int j)] h,?_,⟨_,rfl⟩,rfl⟩;simp[aR,o,e2,wZ]) d [x,y,some (.lst ((QA b).map fun(k:Nat)=>Dt.int (k:Int))),ε (.int d),ε (.int i),z] h ⟨⟨z,rfl⟩,rfl⟩
 refine⟨f,?_⟩;simp[WN,e];rfl
def Ww(a b:Nat)(h):aO [.int a,.int b] h=ε (.int (IK a b),h):=by
 obtain⟨m,f,e,⟨z,w,rfl⟩,rfl⟩:=iX (i:=4) (body:=WN) (fun(k:Nat)=>Dt.int (k:Int)) (fun(c:Nat) l f=>(∃z w,l=[ε (.int a),ε (.int b),ε (.lst ((QA b).map fun(k:Nat)=>Dt.int (k:Int))),ε (.int c),z,w])/\f=h) (fun d i=>pN (CH i) (QA b) d) (QA a) (by
  rintro i g c l h ⟨⟨z,w,rfl⟩,rfl⟩;obtain⟨j,e⟩:=pv (bm.mp g).1 b c (ε (.int a)) (ε (.int b)) w h;exact⟨_,e,⟨_,_,rfl⟩,rfl⟩) 0 [ε (.int a),ε (.int b),ε (.lst ((QA b).map fun(k:Nat)=>Dt.int (k:Int))),ε (.int 0),none,none] h ⟨⟨none,none,rfl⟩,rfl⟩
 simp[aO,DV,SL,e];rfl
noncomputable def LC(c:Nat)(g:Nat->Nat):Oe Dt:=(List.range c).map fun(j:Nat)=>Dt.int (g j:Nat)
noncomputable def JF(b c:Nat):Oe Dt:=(List.range c).map fun(k:Nat)=>Dt.ref (b+k)
structure Vo(h:HI)(b c:Nat)(f:Nat->Nat->Nat):Prop where
 row:∀i<c,h[b+i]?=ε (.lst (LC c (f i)))
 top:h[b+c]?=ε (.lst (JF b c))
def XC(b c:Nat)(f:Nat->Nat->Nat):HI:=((List.range c).map fun i=>Ob.lst (LC c (f i)))++[.lst (JF b c)]
def Vo.lt(N:Vo h b c f):b+c<h.length:=(Wk N.top).1
def Vo.grow(N:Vo h b c f)(e):Vo (h++e) b c f:=by have:=N.lt;exact⟨fun i a=>by rw[Xo nofun];exact N.row i a,by rw[Xo nofun];exact N.top⟩
def kG(h)(c)(f):Vo (h++XC h.length c f) h.length c f:=by
 constructor
 . intro i a;rw[Zu nofun];unfold XC;rw[Xo (by simp;omega)];simp[a]
 . rw[Zu nofun];unfold XC;rw[Zu ⋯];simp
def QO(c)(g):(LC c g).length=c:=by simp[LC]
def BM(b c):(JF b c).length=c:=by simp[JF]
def xM(a:j<c)(g):(LC c g)[j]?=ε (.int (g j:Nat)):=by simp[LC,a]
def WO(a:j<c):(JF b c)[j]?=ε (.ref (b+j)):=by simp[JF,a]
def Vh(e:∀j<c,g j=g' j):LC c g=LC c g':=map_congr_left fun j a=>by rw[e j (Bu.mp a)]
def Ep(g)(v):(LC c g).set j (.int (v:Nat))=LC c (fun x=>if x=j then v else g x):=by
 apply ext_getElem?;intro k;rw[getElem?_set];simp![LC,mq,Fe,uq];by_cases a:k<c
 . rw[Ni a];by_cases b:j=k
   . subst b;simp[a]
   . have:¬k=j:=fun z=>b z.symm
     simp[b,this]
 . rw[ju (by simpa using a)];split
   . have:¬j<c:=by omega
     simp[this]
   . rfl
def Vo.congr(N:Vo h b c f)(e:∀i<c,∀j<c,f i j=g i j):Vo h b c g:=
 ⟨fun i a=>by rw[<- Vh (e i a)];exact N.row i a,N.top⟩
noncomputable def DB(f:Nat->Nat->Nat)(i j v:Nat):Nat->Nat->Nat:=fun a b=>if a=i then(if b=j then v else f a b)else f a b
def Vo.other(N:Vo h b c f)(d:n<b\/b+c<n)(o):Vo (h.set n o) b c f:=
 ⟨fun i a=>by rw[lu nofun];exact N.row i a,by rw[lu nofun];exact N.top⟩
def Vo.ix(N:Vo h b c f)(a:i<c):kA (.ref (b+c)) (.int (i:Nat)) h=ε (.ref (b+i),h):=by rw[AF N.top,SM.BD,WO a];rfl
def Vo.ix2(N:Vo h b c f)(d:i<c)(a:j<c):kA (.ref (b+i)) (.int (j:Nat)) h=ε (.int (f i j:Nat),h):=by rw[AF (N.row i d),SM.BD,xM a];rfl
def Vo.len(N:Vo h b c f):yB (.ref (b+c)) h=ε (.int (c:Nat),h):=by rw[bJ N.top,BM]
def Vo.seq(N:Vo h b c f):HH (.ref (b+c),h)=ε (.rf (b+c),h):=LD N.top
def Vo.len1(N:Vo h b c f)(a:i<c):yB (.ref (b+i)) h=ε (.int (c:Nat),h):=by rw[bJ (N.row i a),QO]
def Wr{i n:Nat}:∀l h b h',VB NE (eV i) l h=ε (b,h')->h[n]?=ε (.lst xs)->h'[n]?=ε (.lst xs):=by
 intro l h b h' e q;have a:=(Wk q).1;rw[RB,gA]at e;cases z:l[i]? with
 | none=>rw[z]at e;simp[nI]at e
 | some o=>
  rw[z]at e;cases o with
  | none=>simp[nI]at e
  | some d=>
   simp![iA,eA,NE]at e;cases y:sD h d with
   | none=>rw[y]at e;cases e
   | some f=>rw[y]at e;simp![Vs,Fo,vo]at e;obtain⟨_,rfl⟩:=e;rw[Xo a];exact q
def IX{n:Nat}:∀l h b h',aB l h=ε (b,h')->h[n]?=ε (.lst xs)->h'[n]?=ε (.lst xs):=by intro l h b h' e q;simp![qM,Fo,vo]at e;rw[<- e.2];exact q
def WX(d:te=VB NE (eV 0))(N:Vo h b c f)(j:c<=1000)(l)(g:0<l.length):SD (uA 0) aB te l (.rf (b+c),h)=ε (JF h.length c,h++(List.range c).map fun i=>Ob.lst (LC c (f i))):=by
 subst d;rw[uS N.top (by rw[BM];simp;omega) IX Wr];have:=eS (te:=VB NE (eV 0)) (i:=0) (fun(k:Nat)=>Dt.ref (b+k)) (fun i=>Ob.lst (LC c (f i))) h (List.range c) l [] (by
  intro k a e;have a:=Bu.mp a;have q:=(N.grow e).row k a;rw[RB,gA,su g,iA,eA];simp![NE,sD,BA,q,Vs])
 rw[Ui,Fe]at this;exact this
noncomputable def aC(i j:Nat):Nat:=if i=j then 64 else 8191
def LW(b c)(f):(XC b c f).length=c+1:=by simp[XC]
def MW(h)(b:i<c)(f)(j v):(h++XC h.length c f).set (h.length+i) (.lst ((LC c (f i)).set j (.int (v:Nat))))=h++XC h.length c (DB f i j v):=by
 rw[set_append_right _ _ nofun,Jo]
 congr 1
 unfold XC;rw[set_append_left _ _ (by simpa using b)]
 congr 1
 apply ext_getElem?;intro k;rw[getElem?_set];simp![mq,Fe,uq];by_cases a:k<c
 . rw[Ni a];by_cases e:i=k
   . subst e;have:(fun x=>if x=j then v else f i x)=DB f i j v i:=by funext x;simp[DB]
     simp[b,Ep,this]
   . have:¬k=i:=by omega
     have q:DB f i j v k=f k:=by funext x;simp[DB,this]
     simp[e,q]
 . rw[ju (by simpa using a)];have:¬i=k:=by omega
   simp[this]
def px(f)(i j v):DB f i j v i j=v:=by simp[DB]
def AB(f:Nat->Nat->Nat)(i m j:Nat):Nat->Nat->Nat:=DB (DB f i j (f i j&&&m)) j i (Zo (f i j&&&m))
def tO(N:Vo h b c f)(r:c<=1000)(a:i<c)(d:j<c)(m) :
 AI [.ref (b+c),.int (i:Nat),.int (m:Nat),.int (j:Nat)] h=ε (.ref (h.length+c),h++XC h.length c (AB f i m j)):=by
 have x:=WX (te:=iW) rfl N r [none] ⋯;have g:=N.grow (XC h.length c f);have M1:=kG h c f;have M2:=kG h c (DB f i j (f i j&&&m));have q:=MW h a f j (f i j&&&m);have p:=MW h d (DB f i j (f i j&&&m)) i (Zo (f i j&&&m));have k:=Om (f i j&&&m) (h++XC h.length c (DB f i j (f i j&&&m)));have o:=fun(l:LI)=>SO (l:=l) (v:=.int ((f i j&&&m:Nat):Nat)) (M1.row i a) (show j<(LC c (f i)).length by rw[QO];exact d)
 have n:=fun(l:LI)=>SO (l:=l) (v:=.int ((Zo (f i j&&&m):Nat):Nat)) (M2.row j d) (show i<(LC c (DB f i j (f i j&&&m) j)).length by rw[QO];exact a)
 have e:=M2.ix2 a d;rw[px]at e;have s:(h++(List.range c).map fun i=>Ob.lst (LC c (f i)))++[Ob.lst (JF h.length c)]=h++XC h.length c f:=by rw[n7];rfl
 have u:(h++(List.range c).map fun i=>Ob.lst (LC c (f i))).length=h.length+c:=by simp
 dsimp![AI,OW,NA,HB,OO,iC,Uo,Wo,Xe,Wu,Te,N.seq,jD,gD,x,s,u,UA,Vi,Uu,C0,sA,g.ix a,g.ix2 a d,M1.ix a,VI,nM,o,q,FA,AA,zA,M2.ix a,e,Ui,k,M2.ix d,n,p,cB,rB];rfl
def C8(c)(g)(z)(e:h[n]?=ε (.lst (LC c g))):OG false (.int (z:Nat)) (.ref n) h=ε (.bl ((List.range c).any fun j=>g j==z),h):=by
 have d:∀a:Oe Nat,mE (a.map fun(j:Nat)=>Dt.int (g j:Nat))=ε (a.map fun(j:Nat)=>V.int (g j:Nat)):=by
  intro a
  induction a with
  | nil=>rfl
  | cons x a ih=>simp[mE,vD,ih]
 have b:nN (V.int (z:Nat)) ((List.range c).map fun(j:Nat)=>V.int (g j:Nat))=(List.range c).any fun j=>g j==z:=by
  unfold nN;rw[any_map]
  congr 1
  funext j
  simp![Function.comp];unfold wN;by_cases q:g j=z
  . simp[q]
  . have:(g j:Int)≠(z:Int):=by omega
    show((g j:Int)==(z:Int))=(g j==z);rw[Eo.mpr this,Eo.mpr q]
 simp![OG,vD,sD,BA,e,Wi,LC,d,b];simp
noncomputable def uB(c:Nat)(f:Nat->Nat->Nat):Bool:=(List.range c).any fun i=>(List.range c).any fun j=>f i j==0
def Tp{n:Nat}(a)(i):∀l h b h',e2 (OG false) (eC a) (eV i) l h=ε (b,h')->h[n]?=ε (.lst xs)->h'[n]?=ε (.lst xs):=by
 intro l h b h' e q;rw[sA,qA,eA,gA]at e;cases z:l[i]? with
 | none=>rw[z]at e;simp[nI]at e
 | some o=>
  rw[z]at e;cases o with
  | none=>simp[nI]at e
  | some d=>
   simp![iA,eA,OG]at e;cases j:vD a with
   | none=>rw[j]at e;cases e
   | some p=>
    rw[j]at e;cases g:sD h d with
    | none=>rw[g]at e;cases e
    | some k=>
     rw[g]at e;cases f:mE k with
     | none=>simp[f]at e
     | some m=>simp![Wi,f,Fo,vo]at e;rw[<- e.2];exact q
def zm(a:te=e2 (OG false) (wq 0) (eV 0))(N:Vo h b c f)(e:c<=1000):SD (uA 0) aB te [none] (.rf (b+c),h)=ε (((List.range c).map fun i=>(List.range c).any fun j=>f i j==0).map Dt.bl,h):=by
 subst a;rw[uS N.top (by rw[BM];simp;omega) IX (Tp _ _)];have:=uF (te:=e2 (OG false) (wq 0) (eV 0)) (tc:=aB) (i:=0) (fun(k:Nat)=>Dt.ref (b+k)) (fun i=>Dt.bl ((List.range c).any fun j=>f i j==0)) h (List.range c) [none] (by
  intro k d;have:=C8 c (f k) 0 (N.row k (Bu.mp d));simp![Ie]at this;exact⟨rfl,by simp[this]⟩)
 rw[JF,this];simp[map_map]
def MR(N:Vo h b c f)(d:c<=1000):dG [.ref (b+c)] h=ε (.bl (uB c f),h):=by have e:=zm (te:=hW) rfl N d;have a:=Oz (h:=h) ((List.range c).map fun i=>(List.range c).any fun j=>f i j==0);simp![dG,NW,nB,cB,RB,GD,iC,gA,Uo,Wo,Xe,Wu,T4,Va,Ss,iA,eA,N.seq,jD,gD,e,a,eH,rB,Nat.reduceAdd];simp[uB,any_map]
noncomputable def pA(p:Nat×Nat):Dt:=.tup [.int (p.1:Nat),.int (p.2:Nat)]
noncomputable def GB(c:Nat)(n:Nat):Oe (Nat×Nat):=(List.range n).flatMap fun i=>(List.range (c-i-1)).map fun k=>(i,i+1+k)
def LA(c:Nat):Oe (Nat×Nat):=GB c c
def az:p∈LA c↔p.1<p.2/\p.2<c:=by
 obtain⟨i,j⟩:=p;unfold LA GB;simp![Mu,Bu,Bs,vo];constructor
 . rintro⟨a,d,k,b,rfl,rfl⟩;omega
 . rintro⟨f,e⟩;exact⟨i,by omega,j-i-1,by omega,rfl,by omega⟩
def JI(c n):(GB c n).length<=n*c:=by
 induction n with
 | zero=>simp[GB]
 | succ n ih=>
  have:GB c (n+1)=GB c n++(List.range (c-n-1)).map fun k=>(n,n+1+k):=by unfold GB;rw[Iu,flatMap_append];simp
  rw[this,je,mq,Fe,Nat.succ_mul];omega
def uO(p:c<=1000)(h):PH [.int (c:Nat)] h=ε (.ref h.length,h++[.lst ((LA c).map pA)]):=by
 have b:=MF (h:=h++[.lst []]) (show(-(2^62):Int)<=(c:Int) by omega) (show(c:Int)<2^62 by omega);simp![ni]at b;have s:c*c<=1000*1000:=Ji p p;obtain⟨q,a,e,⟨y,z,rfl⟩,rfl⟩:=iH (i:=2) (body:=sR) (fun(k:Nat)=>Dt.int (k:Int)) (fun(n:Nat) l a=>(∃y z,l=[ε (.int (c:Nat)),ε (.ref h.length),y,z])/\a=h++[.lst ((GB c n).map pA)]) c (by
  rintro n D l u ⟨⟨y,z,rfl⟩,rfl⟩;have F:=JI c n;have r:n*c<=c*c:=Nat.mul_le_mul_right _ nofun;obtain⟨q,a,e,⟨y,rfl⟩,rfl⟩:=iH (i:=3) (body:=rR) (fun(k:Nat)=>Dt.int ((n:Int)+1+(k:Int))) (fun(m:Nat) l a=>(∃y,l=[ε (.int (c:Nat)),ε (.ref h.length),ε (.int (n:Nat)),y])/\a=h++[.lst ((GB c n++(List.range m).map fun k=>(n,n+1+k)).map pA)]) (c-n-1) (by
   rintro m E l u ⟨⟨y,rfl⟩,rfl⟩;refine⟨.nx [ε (.int (c:Nat)),ε (.ref h.length),ε (.int (n:Nat)),ε (.int ((n:Int)+1+(m:Int)))] (h++[.lst ((GB c n++(List.range (m+1)).map fun k=>(n,n+1+k)).map pA)]),?_,⟨_,rfl⟩,rfl⟩;have C:=fun(l:LI) (g:RE) (d:Dt) (B:g l (h++[.lst ((GB c n++(List.range m).map fun k=>(n,n+1+k)).map pA)])=ε (d,h++[.lst ((GB c n++(List.range m).map fun k=>(n,n+1+k)).map pA)]))=>fG (h:=h++[.lst ((GB c n++(List.range m).map fun k=>(n,n+1+k)).map pA)]) (l:=l) (n:=h.length) (ys:=(GB c n++(List.range m).map fun k=>(n,n+1+k)).map pA) (xs:=(GB c n++(List.range m).map fun k=>(n,n+1+k)).map pA) ⋯ B ⋯ (by simp;omega)
   simp![rR,gF,iG,gA,Uu,Vi,Ss,Te,iA,eA];rw[C _ _ (pA (n,n+1+m))]
   . simp![eA];rw[show ∀(o f:Ob),(h++[o]).set h.length f=h++[f] by simp];simp[Iu]
   . simp[pA]) [ε (.int (c:Nat)),ε (.ref h.length),ε (.int (n:Nat)),z] (h++[.lst ((GB c n).map pA)]) ⟨⟨z,rfl⟩,by simp⟩
  have b:=D0 (h:=h++[.lst ((GB c n).map pA)]) (i:=(n:Int)+1) (j:=(c:Int)) nofun nofun nofun nofun;rw[show((c:Int)-((n:Int)+1)).toNat=c-n-1 by omega]at b;have x:GB c (n+1)=GB c n++(List.range (c-n-1)).map fun k=>(n,n+1+k):=by unfold GB;rw[Iu,flatMap_append];simp
  refine⟨.nx [ε (.int (c:Nat)),ε (.ref h.length),ε (.int (n:Nat)),y] (h++[.lst ((GB c (n+1)).map pA)]),?_,⟨_,_,rfl⟩,rfl⟩
  . simp![sR,FC,P5,sA,gA,qA,Uu,Vi,Ss,Te,iA,eA,UE,b,cE];rw[e,x]) [ε (.int (c:Nat)),ε (.ref h.length),none,none] (h++[.lst []]) ⟨⟨none,none,rfl⟩,by simp[GB]⟩
 dsimp![PH,QW,NA,HB,WI,zA,Uo,Wo,Xe,Wu,UA,Uu,Vi,FC,rH,Te,b,cE,UO,m6,e,cB,rB];rfl
structure WA(c:Nat)(f:Nat->Nat->Nat):Prop where
 lt:∀i<c,∀j<c,f i j<8192
 tn:∀i<c,∀j<c,f j i=Zo (f i j)
def WH(c):WA c aC:=by
 constructor
 . intro i _ j _;unfold aC;split<;>decide
 . intro i _ j _;unfold aC;by_cases h:i=j
   . subst h;rw[dz rfl];decide +kernel
   . have:¬j=i:=fun z=>h z.symm
     rw[eG h,eG this];decide +kernel
def nH(o:WA c f)(s:i<c)(r:j<c)(d:i≠j)(m):WA c (AB f i m j):=by
 have p:f i j&&&m<8192:=Ds Nat.and_le_left (o.lt i s j r);have q:¬j=i:=fun z=>d z.symm
 constructor
 . intro a g b e;unfold AB DB
   repeat' split
   all_goals first | exact jK _ | exact p | exact o.lt a g b e
 . intro a g b e;unfold AB DB;by_cases n:a=i
   . subst n;by_cases k:b=j
     . subst k;simp[d]
     . by_cases h:b=a
       . subst h;simp[d];exact o.tn _ g _ e
       . simp[k,h,d];exact o.tn _ g _ e
   . by_cases k:a=j
     . subst k;by_cases h:b=i
       . subst h;simp[d,XR p]
       . simp[n,h];exact o.tn _ g _ e
     . simp[n,k];exact o.tn _ g _ e
noncomputable def rC(i k j:Nat):Dt:=.tup [.int (i:Nat),.int (k:Nat),.int (j:Nat)]
def Wa(f:Nat->Nat->Nat)(i k j:Nat):Nat:=f i j&&&IK (f i k) (f k j)
def bY(N:Vo h b c f)(d:i<c)(a:k<c)(e:j<c):YL [.ref (b+c),rC i k j] h=ε (.int (Wa f i k j:Nat),h):=by dsimp![YL,cX,rC,NA,HB,sA,qA,Uo,Wo,Xe,Wu,Te,XB,BC,SF,iN,Vs,N.ix d,N.ix2 d a,N.ix a,N.ix2 a e,N.ix2 d e,UA,Uu,Vi,cB,FA,AA,zA,Ui,Ww,VI,nM,rB];rfl
def cY(N:Vo h b c f)(m:c<=1000)(d:i<c)(g:k<c)(a:j<c):OL [.ref (b+c),rC i k j] h=ε (.ref (h.length+c),h++XC h.length c (AB f i (Wa f i k j) j)):=by have e:=bY N d g a;have e2:=tO N m d a (Wa f i k j);unfold rC at e ⊢;dsimp![OL,dX,sA,qA,Uo,Wo,Te,XB,BC,iN,Vs,cB,FA,AA,zA,Ui,e,e2,rB]
def cZ(f)(i k j):f i j&&&Wa f i k j=Wa f i k j:=by unfold Wa;rw[<- Nat.and_assoc,Nat.and_self]
def HE{rest:RS}(e:f l h=ε (d,h1))(a:l.set i (ε d)=l'):jA (CA i f) rest l h=rest l' h1:=by simp![NA,HB,e,eA,UA,a]
def jE{a rest:RS}(e:t l h=ε (false,h1)):jA (WB t a VA) rest l h=rest l h1:=by simp![NA,xB,e,eA,Ws,eO,GC,UA]
def cj{rest:RS}(e:t l h=ε (true,h1))(a:f l h1=ε (d,h2)):jA (WB t (wA f) VA) rest l h=ε (.rt d h2):=by simp![NA,xB,e,eA,eH,cB,a,FD]
def dD{rest:RS}(e:t l h=ε (true,h1))(a:f l h1=ε (d,h2)):QC (jA (WB t (wA f) VA) rest l h)=ε (d,h2):=by rw[cj e a,rB]
def yP(e:f l h=ε (d,h1)):QC (wA f l h)=ε (d,h1):=by simp![cB,e,eA,rB]
def py{rest:RS}(e:l[i]?=ε (ε (.ref n)))(a:uN g l (.ref n,h)=ε (.non,h1)):jA (yD (PD (eV i) g)) rest l h=rest l h1:=by simp![NA,gF,iG,gA,e,iA,eA,a,UA]
section
variable{f:RE}{rest body:RS}{l l':LI}{h h1 h2:HI}{d:Dt}{R:Oo (Dt×HI)}{i:Nat}{t:RT}{g:RI}{bd:RG}{src:vj}
def fF(e:f l h=ε (d,h1))(a:l.set i (ε d)=l')(k:QC (rest l' h1)=R):QC (jA (CA i f) rest l h)=R:=by rw[HE e a];exact k
def JG(e:t l h=ε (false,h1))(k:QC (rest l h1)=R):QC (jA (WB t a VA) rest l h)=R:=by rw[jE e];exact k
end
def YB(f:Nat->Nat->Nat)(i k j:Nat):Nat->Nat->Nat:=AB f i (Wa f i k j) j
def lH(f)(a:i≠j):YB f i k j i j=Wa f i k j:=by unfold YB AB DB;simp[a,cZ]
def pS(f)(i k j):YB f i k j j i=Zo (Wa f i k j):=by unfold YB AB DB;simp[cZ]
def gH(f)(h1:¬(a=i/\b=j))(h2:¬(a=j/\b=i)):YB f i k j a b=f a b:=by
 unfold YB AB DB;by_cases q1:a=j
 . subst q1;have:¬b=i:=fun z=>h2 ⟨rfl,z⟩
   by_cases q2:a=i
   . subst q2;simp[this]
   . simp[this,q2]
 . by_cases q2:a=i
   . subst q2;have:¬b=j:=fun z=>h1 ⟨rfl,z⟩
     simp[q1,this]
   . simp[q1,q2]
def Xu(a b:Nat):Prop:=a&&&b=a
def bg:Xu a b↔∀k,a.testBit k=true->b.testBit k=true:=by
 unfold Xu;constructor
 . intro h k d;rw[<- h,zc,vm]at d;exact d.2
 . intro h;apply Io;intro k;rw[zc];cases q:a.testBit k with
   | false=>rfl
   | true=>rw[h k q];rfl
def Xu.refl(a):Xu a a:=Nat.and_self a
def Xu.trans(h1:Xu a b)(h2:Xu b c):Xu a c:=bg.mpr fun k d=>bg.mp h2 k (bg.mp h1 k d)
def CL(a b):Xu (a&&&b) a:=bg.mpr fun k d=>by rw[zc,vm]at d;exact d.1
def Um(h1:Xu a b)(h2:Xu a c):Xu a (b&&&c):=bg.mpr fun k d=>by rw[zc,bg.mp h1 k d,bg.mp h2 k d];rfl
def Yn(h1:Xu a e)(h2:Xu b d):Xu (IK a b) (IK e d):=bg.mpr fun k f=>by obtain⟨i,j,q1,q2,q3,q4,q5⟩:=(eK a b k).mp f;exact(eK e d k).mpr ⟨i,j,q1,bg.mp h1 i q2,q3,bg.mp h2 j q4,q5⟩
def IZ(a b):Zo (a&&&b)=Zo a&&&Zo b:=by
 refine SH (jK _) (Ds Nat.and_le_left (jK a)) fun k d=>?_
 rw[cF _ d,zc,zc,cF _ d,cF _ d]
def Zm(e:a<8192)(d:b<8192)(h:Zo a=Zo b):a=b:=by rw[<- XR e,h,XR d]
def rc:Zo 0=0:=by decide +kernel
def GX(h:Xu a b):Xu (Zo a) (Zo b):=by unfold Xu at h ⊢;rw[<- IZ,h]
def SZ(o:WA c f)(b:i<c)(a:j<c):Wa f i k j<8192:=Ds Nat.and_le_left (o.lt i b j a)
def Gn(o:WA c f)(d:i<c)(a:k<c)(b:j<c):Wa f j k i=Zo (Wa f i k j):=by unfold Wa;rw[o.tn i d j b,o.tn k a j b,o.tn i d k a,Zn,IZ]
def JS(o:WA c f)(b:i<c)(d:k<c)(a:j<c)(h:Wa f j k i≠f j i):Wa f i k j≠f i j:=by intro e;apply h;rw[Gn o b d a,e,<- o.tn i b j a]
def US(o:WA c f)(d:i<c)(b:j<c)(a:i≠j):WA c (YB f i k j):=nH o d b a _
def tD(W:Oe (Nat×Nat))(i k j:Nat):Prop:=(i,k)∈W\/(k,i)∈W\/(k,j)∈W\/(j,k)∈W
def WF(i k j:Nat):Prop:=i≠k/\k≠j/\i≠j
def lD(c:Nat)(f:Nat->Nat->Nat)(W:Oe (Nat×Nat))(R:Oe (Nat×Nat×Nat)):Prop:=
 ∀i<c,∀k<c,∀j<c,WF i k j->Wa f i k j≠f i j->tD W i k j\/(i,k,j)∈R\/(j,k,i)∈R
noncomputable def lG(a b c:Nat):Oe (Nat×Nat×Nat):=(List.range c).flatMap fun o=>if o=a\/o=b then []else [(a,b,o),(b,a,o)]
def fk:t∈lG a b c↔∃o,o<c/\o≠a/\o≠b/\(t=(a,b,o)\/t=(b,a,o)):=by
 unfold lG;simp![Mu,Bu];constructor
 . rintro⟨o,d,h⟩;by_cases q:o=a\/o=b
   . rw[dz q]at h;cases h
   . rw[eG q]at h;simp![Ba,not_mem_nil,or_false]at h;exact⟨o,d,fun z=>q (.inl z),fun z=>q (.inr z),h⟩
 . rintro⟨o,d,f,e,h⟩;refine⟨o,d,?_⟩;rw[eG (by rintro(z | z);exact f z;exact e z)];simpa using h
def Ed(h:lD c f ((a,b)::W) []):lD c f W (lG a b c):=by
 intro i m k q j g d n;obtain⟨p,o,e⟩:=d;rcases h i m k q j g ⟨p,o,e⟩ n with h | h | h
 . unfold tD at h ⊢;simp![Ba,vo]at h;rcases h with(⟨rfl,rfl⟩ | h) | (⟨rfl,rfl⟩ | h) | (⟨rfl,rfl⟩ | h) | (⟨rfl,rfl⟩ | h)
   . exact .inr (.inl (fk.mpr ⟨j,g,m8 e,m8 o,.inl rfl⟩))
   . exact .inl (.inl h)
   . exact .inr (.inl (fk.mpr ⟨j,g,m8 o,m8 e,.inr rfl⟩))
   . exact .inl (.inr (.inl h))
   . exact .inr (.inr (fk.mpr ⟨i,m,p,e,.inr rfl⟩))
   . exact .inl (.inr (.inr (.inl h)))
   . exact .inr (.inr (fk.mpr ⟨i,m,e,p,.inl rfl⟩))
   . exact .inl (.inr (.inr (.inr h)))
 . cases h
 . cases h
def Kh(o:WA c f)(b:x<c)(a:y<c)(hz:z<c)(h:lD c f W ((x,y,z)::R))(n:Wa f x y z=f x z):lD c f W R:=by
 intro i p k e j g d m;rcases h i p k e j g d m with h | h | h
 . exact .inl h
 . rcases Ba.mp h with h | h
   . cases h;exact Ea n m
   . exact .inr (.inl h)
 . rcases Ba.mp h with h | h
   . cases h;exact Ea n (JS o b a hz m)
   . exact .inr (.inr h)
def vY(h:Xu a b)(q:b&&&e=b):a&&&e=a:=Xu.trans h q
def Lh(o:WA c f)(J:x<c)(Q:y<c)(hz:z<c)(O:WF x y z)(h:lD c f W ((x,y,z)::R)):lD c (YB f x y z) (W++[(x,z)]) R:=by
 obtain⟨T,S,P⟩:=O;have F:=US (k:=y) o J hz P;have e:∀i<c,∀k<c,∀j<c,WF i k j->¬(i=z/\j=x)->Wa (YB f x y z) i k j≠YB f x y z i j->tD (W++[(x,z)]) i k j\/(i,k,j)∈R\/(j,k,i)∈R:=by
  intro i r k g j p d u m;obtain⟨s,e2,b⟩:=d;have grow:∀{i k j},tD W i k j->tD (W++[(x,z)]) i k j:=by
   intro i k j q;unfold tD at q ⊢;simp![Bo];rcases q with q | q | q | q
   . exact .inl (.inl q)
   . exact .inr (.inl (.inl q))
   . exact .inr (.inr (.inl (.inl q)))
   . exact .inr (.inr (.inr (.inl q)))
  by_cases D:i=x/\j=z
  . obtain⟨rfl,rfl⟩:=D;have C:YB f i y j i k=f i k:=gH f (fun q=>e2 q.2) (fun q=>s q.2.symm);have B:YB f i y j k j=f k j:=gH f (fun q=>s q.1.symm) (fun q=>e2 q.1);have E:Wa (YB f i y j) i k j=Wa f i y j&&&IK (f i k) (f k j):=by unfold Wa;rw[C,B,lH f b];rfl
    by_cases ky:k=y
    . subst ky;exfalso;apply m;rw[E,lH f b];unfold Wa;rw[Nat.and_assoc,Nat.and_self]
    . have n:Wa f i k j≠f i j:=by intro q;apply m;rw[E,lH f b];exact vY (CL (f i j) _) q
      rcases h i r k g j p ⟨s,e2,b⟩ n with q | q | q
      . exact .inl (grow q)
      . rcases Ba.mp q with q | q
        . cases q;exact Ea rfl ky
        . exact .inr (.inl q)
      . rcases Ba.mp q with q | q
        . simp![vo]at q;exact Ea q.1.symm b
        . exact .inr (.inr q)
  . by_cases a:tD [(x,z)] i k j
    . refine .inl ?_;unfold tD at a ⊢;simp![Bo];rcases a with q | q | q | q
      . exact .inl (.inr q)
      . exact .inr (.inl (.inr q))
      . exact .inr (.inr (.inl (.inr q)))
      . exact .inr (.inr (.inr (.inr q)))
    . unfold tD at a;simp![Ba,not_mem_nil,or_false,vo,not_or]at a;obtain⟨M,g2,g3,L⟩:=a;have I:YB f x y z i j=f i j:=gH f (fun q=>D q) (fun q=>u q);have C:YB f x y z i k=f i k:=gH f (fun q=>M q) (fun q=>g2 ⟨q.2,q.1⟩);have B:YB f x y z k j=f k j:=gH f (fun q=>g3 q) (fun q=>L ⟨q.2,q.1⟩);have n:Wa f i k j≠f i j:=by unfold Wa at m ⊢;rw[I,C,B]at m;exact m
      rcases h i r k g j p ⟨s,e2,b⟩ n with q | q | q
      . exact .inl (grow q)
      . rcases Ba.mp q with q | q
        . simp![vo]at q;exact Ea ⟨q.1,q.2.2⟩ D
        . exact .inr (.inl q)
      . rcases Ba.mp q with q | q
        . simp![vo]at q;exact Ea ⟨q.2.2,q.1⟩ u
        . exact .inr (.inr q)
 intro i r k g j p d m;by_cases u:i=z/\j=x
 . obtain⟨s,e2,b⟩:=d;have H:=JS F p g r m;rcases e j p k g i r ⟨m8 e2,m8 s,m8 b⟩ (fun q=>b nofun) H with q | q | q
   . refine .inl ?_;unfold tD at q ⊢;rcases q with q | q | q | q
     . exact .inr (.inr (.inr q))
     . exact .inr (.inr (.inl q))
     . exact .inr (.inl q)
     . exact .inl q
   . exact .inr (.inr q)
   . exact .inr (.inl q)
 . exact e i r k g j p d u m
def ND(c:Nat)(f:Nat->Nat->Nat):Prop:=∀i<c,∀k<c,∀j<c,WF i k j->Wa f i k j=f i j
def jg(h:lD c f [] []):ND c f:=by
 intro i e k a j b d;apply Classical.byContradiction;intro n;rcases h i e k a j b d n with q | q | q
 . unfold tD at q;simp at q
 . cases q
 . cases q
def YR(c)(f):lD c f (LA c) []:=by
 intro i b k a j g d _;refine .inl ?_;unfold tD;obtain⟨e,_,_⟩:=d;rcases Nat.lt_or_gt_of_ne e with h | h
 . exact .inl (az.mpr ⟨h,a⟩)
 . exact .inr (.inl (az.mpr ⟨h,b⟩))
def aH(m:Nat):Nat:=(QA m).length
theorem BO{b:Type}{p q:b->Bool}:∀(xs:Oe b),(∀x∈xs,p x=true->q x=true)->(xs.filter p).length<=(xs.filter q).length
 | [],_=>by simp
 | x::xs,H=>by
  have ih:=BO xs fun y e=>H y (by simp[e])
  have f:=H x ⋯;by_cases a:p x=true
  . simp[a,f a];exact ih
  . by_cases d:q x=true
    . simp[a,d];omega
    . simp[a,d];exact ih
theorem CO{e:Type}{p q:e->Bool}:∀(xs:Oe e),(∀x∈xs,p x=true->q x=true)->(∃x∈xs,p x=false/\q x=true)->(xs.filter p).length<(xs.filter q).length
 | [],_,h=>by obtain⟨x,h,_⟩:=h;cases h
 | x::xs,H,h=>by
  have g:=H x ⋯;have f:=BO xs fun y hy=>H y (by simp[hy])
  by_cases a:p x=true
  . obtain⟨y,hy,b,g2⟩:=h;rcases Ba.mp hy with rfl | hy
    . rw[a]at b;cases b
    . have:=CO xs (fun y hy=>H y (by simp[hy])) ⟨y,hy,b,g2⟩;simp[a,g a];exact this
  . by_cases d:q x=true
    . simp[a,d];omega
    . obtain⟨y,hy,b,g2⟩:=h;rcases Ba.mp hy with rfl | hy
      . rw[g2]at d;exact Ea rfl d
      . have:=CO xs (fun y hy=>H y (by simp[hy])) ⟨y,hy,b,g2⟩;simp[a,d];exact this
def CP(h:Xu a b):aH a<=aH b:=BO _ fun k q d=>bg.mp h k d
def O9(h:Xu a b)(g:a<8192)(f:b<8192)(n:a≠b):aH a<aH b:=by
 refine CO _ (fun k z e=>bg.mp h k e) ?_;apply Classical.byContradiction;intro d;apply n;refine SH g f fun k e=>?_
 cases q:b.testBit k with
 | true=>
  cases q2:a.testBit k with
  | true=>rfl
  | false=>exact Ea ⟨k,Bu.mpr e,q2,q⟩ d
 | false=>
  cases q2:a.testBit k with
  | false=>rfl
  | true=>rw[bg.mp h k q2]at q;cases q
theorem qK{a:Type}{u v:a->Nat}:∀(xs:Oe a),(∀x∈xs,u x<=v x)->(xs.map u).sum<=(xs.map v).sum
 | [],_=>by simp
 | x::xs,H=>by
  have:=qK xs fun y b=>H y (by simp[b])
  have:=H x ⋯;simp![Uo,sum_cons];omega
theorem QT{a:Type}{u v:a->Nat}:∀(xs:Oe a),(∀x∈xs,u x<=v x)->(∃x∈xs,u x<v x)->(xs.map u).sum<(xs.map v).sum
 | [],_,h=>by obtain⟨x,h,_⟩:=h;cases h
 | x::xs,H,h=>by
  have d:=qK xs fun y hy=>H y (by simp[hy])
  have b:=H x ⋯;simp![Uo,sum_cons];obtain⟨y,hy,g⟩:=h;rcases Ba.mp hy with rfl | hy
  . omega
  . have:=QT xs (fun y hy=>H y (by simp[hy])) ⟨y,hy,g⟩;omega
def rE(c:Nat)(f:Nat->Nat->Nat):Nat:=((List.range c).map fun i=>((List.range c).map fun j=>aH (f i j)).sum).sum
theorem yR{a:Type}{u:a->Nat}:∀(xs:Oe a),(∀x∈xs,u x<=m)->(xs.map u).sum<=xs.length*m
 | [],_=>by simp
 | x::xs,H=>by
  have:=yR xs fun y b=>H y (by simp[b])
  have:=H x ⋯;simp![Uo,sum_cons,T4,Nat.succ_mul];omega
def HZ(c)(f):rE c f<=c*(c*13):=by
 have:=yR (u:=fun i=>((List.range c).map fun j=>aH (f i j)).sum) (m:=c*13) (List.range c) fun i q=>by
  have:=yR (u:=fun j=>aH (f i j)) (m:=13) (List.range c) fun j q=>pM _
  simpa using this
 simpa[rE]using this
def qS(o:WA c f)(m:i<c)(h:j<c)(d:i≠j)(a b):Xu (YB f i k j a b) (f a b):=by
 by_cases g:a=i/\b=j
 . obtain⟨rfl,rfl⟩:=g;rw[lH f d];exact CL _ _
 . by_cases e:a=j/\b=i
   . obtain⟨rfl,rfl⟩:=e;rw[pS,o.tn b m a h];exact GX (CL _ _)
   . rw[gH f g e];exact Xu.refl _
def Eh(o:WA c f)(g:i<c)(e:j<c)(d:i≠j)(n:Wa f i k j≠f i j):rE c (YB f i k j)<rE c f:=by refine QT _ (fun a q=>qK _ fun b q=>CP (qS o g e d a b)) ⟨i,Bu.mpr g,QT _ (fun b q=>CP (qS o g e d i b)) ⟨j,Bu.mpr e,?_⟩⟩;rw[lH f d];exact O9 (CL _ _) (SZ o g e) (o.lt i g j e) n
inductive vk(c:Nat)(f:Nat->Nat->Nat):List (Nat×Nat×Nat)->(Nat->Nat->Nat)->Prop where
 | nil:vk c f [] f
 | snoc {st:List (Nat×Nat×Nat)} {g:Nat->Nat->Nat} {i k j:Nat} (h:vk c f st g) (hi:i<c) (hk:k<c) (hj:j<c) (d:WF i k j) (ne:uB c g=false) (n:Wa g i k j≠g i j):vk c f (st++[(i,k,j)]) (YB g i k j)
def vk.ok{st:Oe (Nat×Nat×Nat)}(h:vk c f st g)(o:WA c f):WA c g:=by
 induction h with
 | nil=>exact o
 | snoc h b e a d ne n ih=>exact US ih b a d.2.2
def fq:uB c f=true↔∃i<c,∃j<c,f i j=0:=by unfold uB;simp![any_eq_true,Bu,beq_iff_eq]
def cq(h:uB c f=false)(b:i<c)(a:j<c):f i j≠0:=fun e=>by have:=fq.mpr ⟨i,b,j,a,e⟩;rw[h]at this;cases this
def K9(b:a<8192)(h:a≠0):Zo a≠0:=fun e=>h (Zm b (by decide) (e.trans rc.symm))
def Ah(o:WA c f)(m:i<c)(g:j<c)(d:i≠j)(ne:uB c f=false):uB c (YB f i k j)=decide (Wa f i k j=0):=by
 by_cases h:Wa f i k j=0
 . rw[g8 h];exact fq.mpr ⟨i,m,j,g,by rw[lH f d];exact h⟩
 . rw[fu h];cases q:uB c (YB f i k j)with
   | false=>rfl
   | true=>
    obtain⟨a,s,b,r,e⟩:=fq.mp q;exfalso;by_cases p:a=i/\b=j
    . obtain⟨rfl,rfl⟩:=p;rw[lH f d]at e;exact h e
    . by_cases n:a=j/\b=i
      . obtain⟨rfl,rfl⟩:=n;rw[pS]at e;exact K9 (SZ o m g) h e
      . rw[gH f p n]at e;exact cq ne s r e
def pC(t:Nat×Nat×Nat):Dt:=rC t.1 t.2.1 t.2.2
def dY(N:Vo h b c f)(a:i<c)(g:k<c)(d:j<c):PL [.ref (b+c),rC i k j] h=ε (.bl (!decide (Wa f i k j=f i j)),h):=by
 have e:=bY N a g d;have q:decide (((Wa f i k j:Nat):Int)=((f i j:Nat):Int))=decide (Wa f i k j=f i j):=by
  congr 1
  apply propext;omega
 unfold rC at e ⊢;dsimp![PL,eX,sA,qA,Uo,Wo,Te,XB,BC,iN,Vs,cB,FA,AA,zA,Ui,e,N.ix a,N.ix2 a d,oF,q,rB]
def Rp(o a b)(h):OG true (.int (o:Nat)) (pA (a,b)) h=ε (.bl (!(decide (o=a) || decide (o=b))),h):=by
 have d:nN (V.int (o:Nat)) [V.int (a:Nat),V.int (b:Nat)]=(decide (o=a) || decide (o=b)):=by
  unfold nN;simp![Ko,any_nil,Bool.or_false];show(((a:Nat):Int)==((o:Nat):Int) || ((b:Nat):Int)==((o:Nat):Int))=_;have f:(((a:Nat):Int)==((o:Nat):Int))=decide (o=a):=by
   by_cases q:o=a
   . subst q;simp
   . have:((a:Nat):Int)≠((o:Nat):Int):=by omega
     simp[q,this]
  have e2:(((b:Nat):Int)==((o:Nat):Int))=decide (o=b):=by
   by_cases q:o=b
   . subst q;simp
   . have:((b:Nat):Int)≠((o:Nat):Int):=by omega
     simp[q,this]
  rw[f,e2]
 have e:mE [Dt.int (a:Nat),Dt.int (b:Nat)]=ε [V.int (a:Nat),V.int (b:Nat)]:=rfl;simp![OG,vD,sD,pA,Wi,e,d];rfl
noncomputable def kD(a b n:Nat):Oe (Nat×Nat×Nat):=(List.range n).flatMap fun o=>if o=a\/o=b then []else [(a,b,o),(b,a,o)]
def ig(a b n):(kD a b n).length<=2*n:=by
 induction n with
 | zero=>simp[kD]
 | succ n ih=>
  have:kD a b (n+1)=kD a b n++(if n=a\/n=b then []else [(a,b,n),(b,a,n)]):=by unfold kD;rw[Iu,flatMap_append];simp
  rw[this,je];split<;>simp<;>omega
def Nm(E:c<=1000)(h):cO [pA (a,b),.int (c:Nat)] h=ε (.ref h.length,h++[.lst ((lG a b c).map pC)]):=by
 have s:=MF (h:=h++[.lst []]) (show(-(2^62):Int)<=(c:Int) by omega) (show(c:Int)<2^62 by omega);simp![ni]at s;have d:∀(o p:Ob),(h++[o]).set h.length p=h++[p]:=by simp
 obtain⟨B,r,e,⟨y,rfl⟩,rfl⟩:=iH (i:=3) (body:=cR) (fun(k:Nat)=>Dt.int (k:Int)) (fun(n:Nat) l r=>(∃y,l=[ε (pA (a,b)),ε (.int (c:Nat)),ε (.ref h.length),y])/\r=h++[.lst ((kD a b n).map pC)]) c (by
  rintro n C l F ⟨⟨y,rfl⟩,rfl⟩;have D:=ig a b n;have u:kD a b (n+1)=kD a b n++(if n=a\/n=b then []else [(a,b,n),(b,a,n)]):=by unfold kD;rw[Iu,flatMap_append];simp
  refine⟨.nx [ε (pA (a,b)),ε (.int (c:Nat)),ε (.ref h.length),ε (.int (n:Nat))] (h++[.lst ((kD a b (n+1)).map pC)]),?_,⟨_,rfl⟩,rfl⟩;have x:=Rp n a b (h++[.lst ((kD a b n).map pC)]);have m:=fun(l:LI) (g:RE) (f:g l (h++[.lst ((kD a b n).map pC)])=ε (pC (a,b,n),h++[.lst ((kD a b n).map pC)]))=>fG (h:=h++[.lst ((kD a b n).map pC)]) (l:=l) (n:=h.length) (ys:=(kD a b n).map pC) (xs:=(kD a b n).map pC) ⋯ f ⋯ (by simp;omega)
  have j:=fun(l:LI) (g:RE) (f:g l (h++[.lst ((kD a b n).map pC++[pC (a,b,n)])])=ε (pC (b,a,n),h++[.lst ((kD a b n).map pC++[pC (a,b,n)])]))=>fG (h:=h++[.lst ((kD a b n).map pC++[pC (a,b,n)])]) (l:=l) (n:=h.length) (ys:=(kD a b n).map pC++[pC (a,b,n)]) (xs:=(kD a b n).map pC++[pC (a,b,n)]) ⋯ f ⋯ (by simp;omega)
  simp![cR,xB,HA,sA,gA,Uu,Vi,Ss,Te,iA,eA,x,JA,NA,gF,iG,GC];by_cases q:n=a\/n=b
  . have:(decide (n=a) || decide (n=b))=true:=by simpa using q
    rw[this,u,dz q];simp
  . have:(decide (n=a) || decide (n=b))=false:=by simpa using q
    rw[this,u,eG q];simp![um,eH];rw[m _ _ (by simp[pA,pC,rC])];simp![eA,UA,d,gF,iG,gA,Ss,Te,iA];rw[j _ _ (by simp[pA,pC,rC])];simp![eA,d];simp) [ε (pA (a,b)),ε (.int (c:Nat)),ε (.ref h.length),none] (h++[.lst []]) ⟨⟨_,rfl⟩,by simp[kD]⟩
 dsimp![cO,GV,NA,HB,WI,zA,Uo,Wo,Xe,Wu,UA,Uu,Vi,FC,rH,Te,s,cE,UO,m6,e,cB,rB];rfl
structure Rst(h0:HI)(c:Nat)(f:Nat->Nat->Nat)(s w b:Nat)(st:List (Nat×Nat×Nat))(W:List (Nat×Nat))(g:Nat->Nat->Nat)(h:HI):Prop where
 low:∀n,n<h0.length->h[n]?=h0[n]?
 len:h0.length<=h.length
 hs:h[s]?=ε (.lst (st.map pC))
 hw:h[w]?=ε (.lst (W.map pA))
 net:Vo h b c g
 s0:h0.length<=s
 w0:h0.length<=w
 b0:h0.length<=b
 sw:s≠w
 sb:s<b\/b+c<s
 wb:w<b\/b+c<w
 run:vk c f st g
 ne:uB c g=false
 sm:st.length+rE c g<=rE c f
 wc:∀p∈W,p.1<c/\p.2<c/\p.1≠p.2
def Rst.grow{st:Oe (Nat×Nat×Nat)}(R:Rst a c f s w b st W g h)(e):Rst a c f s w b st W g (h++e):=by
 have i:=(Wk R.hs).1;have d:=(Wk R.hw).1;exact { R with
  low:=fun n j=>by rw[Xo (by have:=R.len;omega)];exact R.low n j
  len:=by have:=R.len;rw[je];omega
  hs:=by rw[Xo i];exact R.hs
  hw:=by rw[Xo d];exact R.hw
  net:=R.net.grow e }
inductive sJ(h0:HI)(c:Nat)(f:Nat->Nat->Nat)(d:Dt)(h:HI):Prop
 | mk (x:Dt) (s:Nat) (st:List (Nat×Nat×Nat)) (g:Nat->Nat->Nat) (p0:d=.tup [x,.ref s]) (p1:h0.length<=s) (p2:h0.length<=h.length) (p3:∀n,n<h0.length->h[n]?=h0[n]?) (p4:h[s]?=ε (.lst (st.map pC))) (p5:vk c f st g) (p6:st.length<=rE c f)
  (p7:(x=.non/\uB c g=true)\/∃b,x=.ref (b+c)/\h0.length<=b/\Vo h b c g/\ND c g/\uB c g=false/\(s<b\/b+c<s)):sJ h0 c f d h
def rd(hc:c<=100)(of:WA c f){st:Oe (Nat×Nat×Nat)}(R:Rst O c f s w b st W g h)(C:x<c)(T:y<c)(hz:z<c)(d:WF x y z)(lW:W.length<=2000000)(x0 m j:Oo Dt) :
 ∃r,GJ [x0,m,ε (.ref s),ε (.ref (b+c)),ε (.ref w),j,ε (rC x y z)] h=ε r/\
  hJ (fun l' h'=>∃b' I W' P,l'=[x0,m,ε (.ref s),ε (.ref (b'+c)),ε (.ref w),j,ε (rC x y z)]/\Rst O c f s w b' I W' P h'/\(∀n,n<h.length->n≠s->n≠w->h'[n]?=h[n]?)/\h.length<=h'.length/\
   ((Wa g x y z=g x z/\b'=b/\I=st/\W'=W/\P=g/\h'=h)\/(W'=W++[(x,z)]/\P=YB g x y z/\rE c P<rE c g))) (sJ O c f) r:=by
 have og:=R.run.ok of;have tl:=HZ c f;have a4:c*(c*13)<=100*(100*13):=Ji hc (Nat.mul_le_mul_right 13 hc);have en:=dY R.net C T hz;by_cases q:Wa g x y z=g x z
 . refine⟨.nx [x0,m,ε (.ref s),ε (.ref (b+c)),ε (.ref w),j,ε (rC x y z)] h,?_,b,st,W,g,rfl,R,fun v v v v=>rfl,Us _,.inl ⟨q,rfl,rfl,rfl,rfl,rfl⟩⟩;simp![GJ,xB,HA,FA,AA,zA,gA,Ss,Te,iA,eA,Ui,en,JA,q,decide_true,uo,Ws,eO,GC]
 . have em:=cY R.net (show c<=1000 by omega) C T hz;obtain⟨B,e⟩:∃B,B=h++XC h.length c (YB g x y z):=⟨_,rfl⟩
   rw[show AB g x (Wa g x y z) z=YB g x y z from rfl,<- e]at em;have len1:B.length=h.length+(c+1):=by rw[e,je,LW]
   have M1:Vo B h.length c (YB g x y z):=e ▸ kG h c _;have ls:=(Wk R.hs).1;have Q:=(Wk R.hw).1;have L:B[s]?=ε (.lst (st.map pC)):=by rw[e,Xo ls];exact R.hs
   have U:B[w]?=ε (.lst (W.map pA)):=by rw[e,Xo Q];exact R.hw
   have sm:=R.sm;have ts:=Eh og C hz d.2.2 q;obtain⟨i,a⟩:∃i,i=B.set s (.lst (st.map pC++[rC x y z])):=⟨_,rfl⟩
   have ea:=fG (h:=B) (l:=[x0,m,ε (.ref s),ε (.ref (h.length+c)),ε (.ref w),j,ε (rC x y z)]) (g:=eV 6) (n:=s) (ys:=st.map pC) (xs:=st.map pC) (d:=rC x y z) (h':=B) L ⋯ L (by simp;omega);rw[<- a]at ea;have M2:Vo i h.length c (YB g x y z):=a ▸ M1.other (.inl ls) _;have J:i[s]?=ε (.lst ((st++[(x,y,z)]).map pC)):=by rw[a,su nofun];simp[pC]
   have D:i[w]?=ε (.lst (W.map pA)):=by rw[a,lu R.sw];exact U
   have F:=R.run.snoc C T hz d R.ne q;have H:∀n,n<O.length->i[n]?=O[n]?:=fun n M=>by have:=R.len;have:=R.s0;rw[a,lu nofun,e,Xo nofun];exact R.low n M
   have ZK:i.length=h.length+(c+1):=by rw[a,Ku];exact len1
   have S:=M2.ix C;have ix2:=M2.ix2 C hz;rw[lH g d.2.2]at ix2;have se:=Ah (k:=y) og C hz d.2.2 R.ne;have zi:(decide (((Wa g x y z:Nat):Int)=0))=decide (Wa g x y z=0):=by
    congr 1
    apply propext;omega
   generalize E:GJ [x0,m,ε (.ref s),ε (.ref (b+c)),ε (.ref w),j,ε (rC x y z)] h=X;simp![GJ,xB,HA,FA,AA,zA,gA,Ss,Te,iA,eA,Ui,en,JA,q,decide_false,um,eH]at E;have u:vi (e2 xG (e2 kA (e2 kA (eV 3) (e2 kA (eV 6) (wq 0))) (e2 kA (eV 6) (wq 2))) (wq 0)) [x0,m,ε (.ref s),ε (.ref (h.length+c)),ε (.ref w),j,ε (rC x y z)] i=ε (decide (Wa g x y z=0),i):=by simp![rC,HA,sA,gA,qA,Ss,Te,iA,eA,XB,BC,iN,Vs,S,ix2,B8,zi,JA]
   rw[HE (l':=[x0,m,ε (.ref s),ε (.ref (h.length+c)),ε (.ref w),j,ε (rC x y z)]) (by simp![FA,AA,zA,gA,Ss,Te,iA,eA,Ui];exact em) rfl,py (n:=s) rfl ea]at E;by_cases q0:Wa g x y z=0
   . refine⟨.rt (.tup [.non,.ref s]) i,?_,.non,s,st++[(x,y,z)],YB g x y z,rfl,R.s0,by have:=R.len;omega,H,J,F,by simp;omega,.inl ⟨rfl,by rw[se];simp[q0]⟩⟩;rw[g8 q0]at u;simp![NA,xB,u,eA,eH,cB,ED,AA,zA,qA,gA,Ss,Te,iA,T4,Va,Nat.reduceAdd]at E;rw[<- E,dz (by decide)];rfl
   . have a2:=fG (h:=i) (l:=[x0,m,ε (.ref s),ε (.ref (h.length+c)),ε (.ref w),j,ε (rC x y z)]) (g:=SA (bA (e2 kA (eV 6) (wq 0)) (bA (e2 kA (eV 6) (wq 2)) dA))) (n:=w) (ys:=W.map pA) (xs:=W.map pA) (d:=pA (x,z)) (h':=i) D (by simp[rC,pA]) D (by simp;omega);have zJ:∀o,(i.set w o).length=h.length+(c+1):=fun o=>by rw[Ku];exact ZK
     have Y:w<i.length:=(Wk D).1;have a3:=R.w0;have Z:=R.len;refine⟨.nx [x0,m,ε (.ref s),ε (.ref (h.length+c)),ε (.ref w),j,ε (rC x y z)] (i.set w (.lst (W.map pA++[pA (x,z)]))),?_,h.length,st++[(x,y,z)],W++[(x,z)],YB g x y z,rfl,?_,?_,by rw[zJ];omega,.inr ⟨rfl,rfl,ts⟩⟩
     . rw[fu q0]at u;rw[jE u]at E;rw[<- E];simp![gF,iG,gA,Ss,Te,iA,eA,a2]
     . exact {
        low:=fun n M=>by rw[lu nofun];exact H n M
        len:=by rw[zJ];omega
        hs:=by rw[lu (m8 R.sw)];exact J
        hw:=by rw[su Y];simp
        net:=M2.other (.inl Q) _
        s0:=R.s0
        w0:=R.w0
        b0:=Z
        sw:=R.sw
        sb:=.inl ls
        wb:=.inl Q
        run:=F
        ne:=by rw[se];simp[q0]
        sm:=by simp;omega
        wc:=fun p hp=>by
         rcases Bo.mp hp with hp | hp
         . exact R.wc p hp
         . rw[Ao.mp hp];exact⟨C,hz,d.2.2⟩ }
     . intro n M a1 a0;rw[lu (m8 a0),a,lu (m8 a1),e,Xo M]
def jq{W:Oe (Nat×Nat)}(e:h[w]?=ε (.lst (W.map pA))):RC (.ref w) (.lst []) h=ε (.bl (!W.isEmpty),h):=by rw[hU (xs:=W.map pA) (by simp![BA,e])];cases W<;>rfl
def re(hc:c<=100)(of:WA c f)(N0:Vo L I c f0){st:Oe (Nat×Nat×Nat)}(R:Rst L c f s w b st ((u,v)::W) g h)
 (wt:lD c g ((u,v)::W) []) (Q Z C:Oo Dt) (lM:2*rE c g+(W.length+1)<=1000000) :
 ∃r,XN [ε (.ref (I+c)),Q,ε (.ref s),ε (.ref (b+c)),ε (.ref w),Z,C] h=ε r/\
  hJ (fun S M=>∃J m E D Z C,S=[ε (.ref (I+c)),Q,ε (.ref s),ε (.ref (J+c)),ε (.ref w),Z,C]/\Rst L c f s w J m E D M/\lD c D E []/\2*rE c D+E.length<2*rE c g+(W.length+1)) (sJ L c f) r:=by
 have P:=R.wc (u,v) ⋯;simp only at P;have pk:=vp (fa:=eC (Dt.int 0)) (l:=[ε (.ref (I+c)),Q,ε (.ref s),ε (.ref (b+c)),ε (.ref w),Z,C]) (show h[w]?=ε (.lst (pA (u,v)::W.map pA))from R.hw) rfl;obtain⟨h1,B⟩:∃h1,h1=h.set w (.lst (W.map pA)):=⟨_,rfl⟩
 rw[<- B]at pk;have lw:=(Wk R.hw).1;have len1:h1.length=h.length:=by rw[B,Ku]
 have R1:Rst L c f s w b st W g h1:={ R with
  low:=fun n hn=>by rw[B,lu (Du (jo hn R.w0))];exact R.low n hn
  len:=by rw[len1];exact R.len
  hs:=by rw[B,lu (m8 R.sw)];exact R.hs
  hw:=by rw[B,su lw]
  net:=B ▸ R.net.other R.wb _
  wc:=fun p hp=>R.wc p (by simp[hp]) }
 have N1:yB (.ref (I+c)) h1=ε (.int (c:Nat),h1):=by have:=N0.lt;rw[bJ (xs:=JF I c) (by rw[R1.low _ this];exact N0.top),BM]
 have et:=Nm (a:=u) (b:=v) (rz hc (by decide)) h1;obtain⟨h2,F⟩:∃h2,h2=h1++[.lst ((lG u v c).map pC)]:=⟨_,rfl⟩
 rw[<- F]at et;have R2:Rst L c f s w b st W g h2:=F ▸ R1.grow _;have q2:h2[h1.length]?=ε (.lst ((lG u v c).map pC)):=by rw[F];simp
 have sk:=LD q2;have ls:=(Wk R1.hs).1;have a1:=(Wk R1.hw).1;obtain⟨r,e,H⟩:=F4 (i:=6) (n:=h1.length) (body:=GJ) pC (fun k S M=>∃J m E D C,S=[ε (.ref (I+c)),Q,ε (.ref s),ε (.ref (J+c)),ε (.ref w),ε (pA (u,v)),C]/\Rst L c f s w J m E D M/\lD c D E ((lG u v c).drop k)/\M[h1.length]?=ε (.lst ((lG u v c).map pC))/\h1.length<M.length/\2*rE c D+E.length<=2*rE c g+W.length) (sJ L c f) (lG u v c) (by
  rintro k S M ⟨J,m,E,D,C,rfl,Y,j,q',lq,mm⟩;exact q') (by
  rintro k t ht S M ⟨J,m,E,D,C,rfl,Y,j,q',lq,mm⟩;have hk:=(Wk ht).1;have dk:(lG u v c).drop k=t::(lG u v c).drop (k+1):=by rw[zu hk,(Wk ht).2]
  obtain⟨o,ho,U,T,hto⟩:=fk.mp (kj ht);obtain⟨x,y,z⟩:=t;have dd:x<c/\y<c/\z<c/\WF x y z:=by
   rcases hto with hto | hto<;>(simp![vo]at hto;obtain⟨rfl,rfl,rfl⟩:=hto)
   . exact⟨P.1,P.2.1,ho,P.2.2,m8 T,m8 U⟩
   . exact⟨P.2.1,P.1,ho,m8 P.2.2,m8 U,m8 T⟩
  obtain⟨hx,hy,hz,O⟩:=dd;rw[dk]at j;have og:=Y.run.ok of;obtain⟨r,e,H⟩:=rd hc of Y hx hy hz O nofun (ε (.ref (I+c))) Q (ε (pA (u,v)));refine⟨r,e,?_⟩;cases r with
  | nx l2 h2=>
   obtain⟨b2,a0,W2,g2,rfl,a2,kp,ll,q⟩:=H;refine⟨b2,a0,W2,g2,_,rfl,a2,?_,by rw[kp _ lq (Du ls) (Du a1)];exact q',jo lq ll,?_⟩
   . rcases q with⟨n,rfl,rfl,rfl,rfl,rfl⟩ | ⟨rfl,rfl,tt⟩
     . exact Kh og hx hy hz j n
     . exact Lh og hx hy hz O j
   . rcases q with⟨n,rfl,rfl,rfl,rfl,rfl⟩ | ⟨rfl,rfl,tt⟩
     . exact mm
     . simp![je,T4,Va];omega
  | rt d h2=>exact H
  | bk l2 h2=>exact H.elim
  | ct l2 h2=>exact H.elim) [ε (.ref (I+c)),Q,ε (.ref s),ε (.ref (b+c)),ε (.ref w),ε (pA (u,v)),C] h2 ⟨b,st,W,g,C,rfl,R2,Ed wt,q2,by rw[F];simp,Us _⟩
 refine⟨r,?_,?_⟩
 . simp![XN,NA,HB,oa,gA,Ss,Te,iA,eA,pk,UA,Uu,Vi,FC,iC,FA,AA,zA,RB,N1,Ui,et,sk];exact e
 . cases r with
   | nx S M=>obtain⟨J,m,E,D,C,rfl,Y,j,q',lq,mm⟩:=H;rw[drop_length]at j;exact⟨J,m,E,D,_,_,rfl,Y,j,by omega⟩
   | rt d h2=>exact H
   | bk l2 h2=>exact H.elim
   | ct l2 h2=>exact H.elim
def qR(U:c<=100)(of:WA c f)(N:Vo h q c f)(hp:∀e,sD (h++e) pd=ε (P.map pA))(pc:∀p∈P,p.1<c/\p.2<c/\p.1≠p.2)(wt:lD c f P [])(lP:P.length<=100000) :
 ∃d h',xI [.ref (q+c),pd] h=ε (d,h')/\sJ h c f d h':=by
 have tl:=HZ c f;have a0:c*(c*13)<=100*(100*13):=Ji U (Nat.mul_le_mul_right 13 U);have lN:=N.lt;have O:=N.grow [.lst []];have em:=MR O (show c<=1000 by omega);have ef:xI [.ref (q+c),pd] h=QC (iR [ε (.ref (q+c)),ε pd,none,none,none,none,none] h):=by rw[xI,nB];rfl
 have H:vi (rA dG [] (bA (eV 0) dA)) [ε (.ref (q+c)),ε pd,ε (.ref h.length),none,none,none,none] (h++[.lst []])=ε (uB c f,h++[.lst []]):=by simp![HA,FA,AA,zA,gA,Ss,iA,eA,Ui,em,JA]
 rw[ef,iR,HE (d:=.ref h.length) (h1:=h++[.lst []]) (l':=[ε (.ref (q+c)),ε pd,ε (.ref h.length),none,none,none,none]) rfl rfl];by_cases ne:uB c f=true
 . refine⟨.tup [.non,.ref h.length],h++[.lst []],?_,.non,h.length,[],f,rfl,Us _,by simp,fun n M=>by rw[Xo M],by simp,.nil,by simp,.inl ⟨rfl,ne⟩⟩;rw[ne]at H;exact dD H rfl
 . have I:uB c f=false:=by simpa using ne
   rw[I]at H;obtain⟨h1,o⟩:∃h1:HI,h1=h++[.lst []]:=⟨_,rfl⟩
   rw[<- o]at H O;have len1:h1.length=h.length+1:=by rw[o];simp
   have cp:=WX (te:=ZQ) rfl O (show c<=1000 by omega) [none] ⋯;have en:(h1++(List.range c).map fun i=>Ob.lst (LC c (f i)))++[Ob.lst (JF h1.length c)]=h1++XC h1.length c f:=by rw[n7];rfl
   have el:(h1++(List.range c).map fun i=>Ob.lst (LC c (f i))).length=h1.length+c:=by simp
   obtain⟨a,k⟩:∃a:HI,a=h1++XC h1.length c f:=⟨_,rfl⟩
   have ZK:a.length=h1.length+(c+1):=by rw[k,je,LW]
   have L:h.length<h1.length:=by rw[len1];exact yu _
   have D:h1.length+c<a.length:=by rw[ZK];exact yu _
   have J:=Nat.lt_trans L (Ds (Ma _ c) D);have C2:Vo a h1.length c f:=k ▸ kG h1 c f;have T:sD a pd=ε (P.map pA):=by rw[k,o,n7];exact hp _
   have Z:NE pd a=ε (.ref a.length,a++[.lst (P.map pA)]):=by simp![NE,T,Vs]
   obtain⟨h3,j⟩:∃h3:HI,h3=a++[.lst (P.map pA)]:=⟨_,rfl⟩
   rw[<- j]at Z;have R:Rst h c f h.length a.length h1.length [] P f h3:={
    low:=fun n M=>by rw[j,Xo (Nat.lt_trans M J),k,Xo (Nat.lt_trans M L),o,Xo M]
    len:=by rw[j,je];exact rz (Cu J) (Ma _ _)
    hs:=by rw[j,Xo J,k,Xo L,o];simp
    hw:=by rw[j];simp
    net:=j ▸ C2.grow _
    s0:=Us _
    w0:=Cu J
    b0:=Cu L
    sw:=nW J
    sb:=.inl L
    wb:=.inr D
    run:=.nil
    ne:=I
    sm:=by simp
    wc:=pc }
   obtain⟨r,e,y⟩:=jX (t:=VN) (body:=XN) (fun m l' h'=>∃s b E x C B,l'=[ε (.ref (q+c)),ε pd,ε (.ref h.length),ε (.ref (s+c)),ε (.ref a.length),C,B]/\Rst h c f h.length a.length s b E x h'/\lD c x E []/\m=2*rE c x+E.length/\m<=1000000)
    (fun l' h'=>∃s b x C B,l'=[ε (.ref (q+c)),ε pd,ε (.ref h.length),ε (.ref (s+c)),ε (.ref a.length),C,B]/\Rst h c f h.length a.length s b [] x h'/\ND c x) (sJ h c f) (by
    rintro m l' h' ⟨s,b,E,x,C,B,rfl,g,F,rfl,Y⟩;have W:=jq g.hw;cases E with
    | nil=>
     refine⟨false,h',?_,?_⟩
     . simp![VN,HA,sA,gA,pG,zA,Ss,Te,iA,eA,Va,UO,m6,eH,W,JA];rfl
     . rw[eG Vu];exact⟨s,b,x,C,B,rfl,g,jg F⟩
    | cons p E=>
     obtain⟨u,v⟩:=p;refine⟨true,h',?_,?_⟩
     . simp![VN,HA,sA,gA,pG,zA,Ss,Te,iA,eA,Va,UO,m6,eH,W,JA];rfl
     . rw[dz rfl];obtain⟨r,e,y⟩:=re U of N g F (ε pd) C B Y;refine⟨r,e,?_⟩;cases r with
       | nx D a=>obtain⟨b2,S,W2,g2,y5,y6,rfl,R2,Q,mm⟩:=y;exact⟨_,mm,b2,S,W2,g2,y5,y6,rfl,R2,Q,rfl,by simp![T4]at Y;omega⟩
       | rt d a=>exact y
       | bk D a=>exact y.elim
       | ct D a=>exact y.elim) 1000000 (2*rE c f+P.length) [ε (.ref (q+c)),ε pd,ε (.ref h.length),ε (.ref (h1.length+c)),ε (.ref a.length),none,none] h3 ⟨h1.length,[],P,f,none,none,rfl,R,wt,rfl,by omega⟩ nofun
   have s3:PF (FB (eV 0)) (uA 0) aB ZQ [none] [ε (.ref (q+c)),ε pd,ε (.ref h.length),none,none,none,none] h1=ε (.ref (h1.length+c),a):=by simp![OO,iC,gA,Ss,iA,eA,O.seq,jD,gD,cp,en,el,k]
   rw[<- o,jE H,HE (l':=[ε (.ref (q+c)),ε pd,ε (.ref h.length),ε (.ref (h1.length+c)),none,none,none]) s3 rfl,HE (l':=[ε (.ref (q+c)),ε pd,ε (.ref h.length),ε (.ref (h1.length+c)),ε (.ref a.length),none,none]) Z rfl];simp![NA,oe,e,eA];cases r with
   | nx l' h'=>obtain⟨s,b,x,C,B,rfl,g,cl⟩:=y;refine⟨.tup [.ref (s+c),.ref h.length],h',?_,.ref (s+c),h.length,b,x,rfl,g.s0,g.len,g.low,g.hs,g.run,by have:=g.sm;omega,.inr ⟨s,rfl,g.b0,g.net,cl,g.ne,g.sb⟩⟩;simp
   | rt d h'=>exact⟨d,h',by simp,y⟩
   | bk D a=>exact y.elim
   | ct D a=>exact y.elim
def tJ(c:Nat)(m f:Nat->Nat->Nat):Prop:=∀i<c,∀j<c,Xu (m i j) (f i j)
def Xu.antisymm(h1:Xu a b)(h2:Xu b a):a=b:=by unfold Xu at h1 h2;rw[Nat.and_comm]at h2;exact h1.symm.trans h2
def vk.sub{st:Oe (Nat×Nat×Nat)}(h:vk c f st g)(o:WA c f):tJ c g f:=by
 induction h with
 | nil=>exact fun i z j z=>Xu.refl _
 | snoc h k q e d ne n ih=>exact fun a p b m=>(qS (h.ok o) k e d.2.2 a b).trans (ih a p b m)
def vk.keeps{st:Oe (Nat×Nat×Nat)}(h:vk c f st g)(u:WA c m)(B:ND c m)(s:tJ c m f):tJ c m g:=by
 induction h with
 | nil=>exact s
 | @snoc st g i k j h o p e d ne n ih=>
  have l:Xu (m i j) (Wa g i k j):=by have:=B i o k p j e d;unfold Wa at this ⊢;exact Um (ih i o j e) ((show Xu (m i j) (IK (m i k) (m k j))from this).trans (Yn (ih i o k p) (ih k p j e)))
  intro a y b x;by_cases r:a=i/\b=j
  . obtain⟨rfl,rfl⟩:=r;rw[lH g d.2.2];exact l
  . by_cases q:a=j/\b=i
    . obtain⟨rfl,rfl⟩:=q;rw[pS,u.tn b o a e];exact GX l
    . rw[gH g r q];exact ih a y b x
def vk.diag{st:Oe (Nat×Nat×Nat)}(h:vk c f st g)(e:∀i<c,f i i=64):∀i<c,g i i=64:=by
 induction h with
 | nil=>exact e
 | snoc h m j k d ne n ih=>intro a b;rw[gH _ (fun q=>d.2.2 (q.1.symm.trans q.2)) (fun q=>d.2.2 (q.2.symm.trans q.1))];exact ih a b
structure gz(c:Nat)(p q:Nat->Nat):Prop where
 pl:∀i<c,p i<c
 ql:∀i<c,q i<c
 qp:∀i<c,q (p i)=i
 pq:∀i<c,p (q i)=i
def gz.symm{c:Nat}{p q:Nat->Nat}(P:gz c p q):gz c q p:=⟨P.ql,P.pl,P.pq,P.qp⟩
def Up(h h':HI):Prop:=h.length<=h'.length/\∀n,n<h.length->h'[n]?=h[n]?
def Up.refl(h):Up h h:=⟨Us _,fun q q=>rfl⟩
def Up.trans(a:Up h h1)(b:Up h1 h2):Up h h2:=⟨rz a.1 b.1,fun n d=>by rw[b.2 n (by have:=a.1;omega),a.2 n d]⟩
def Up.app(h e):Up h (h++e):=⟨by simp,fun n a=>Xo a⟩
def Up.net{h h':HI}(u:Up h h'){b c:Nat}{f:Nat->Nat->Nat}(N:Vo h b c f):Vo h' b c f:=by have:=N.lt;exact⟨fun i a=>by rw[u.2 _ nofun];exact N.row i a,by rw[u.2 _ this];exact N.top⟩
def Up.get{h h':HI}(u:Up h h'){n:Nat}{o:Ob}(e:h[n]?=ε o):h'[n]?=ε o:=by rw[u.2 n (Wk e).1];exact e
section
variable{a b c:RE}{l:LI}{h h1:HI}{A B C:Dt}
def ev(q:l[i]?=ε (ε A)):eV i l h=ε (A,h):=by rw[gA,q];rfl
def EU(x:a l h=ε (A,h))(y:b l h=ε (B,h))(r:op A B h=R):e2 op a b l h=R:=by rw[sA,x,eA,y,eA,r]
def TU(x:a l h=ε (A,h))(r:F A h=R):VB F a l h=R:=by rw[RB,x,eA,r]
def tb(v)(x:a l h=ε (.bl v,h)):vi a l h=ε (v,h):=by rw[HA,x];rfl
def jV(x:a l h=ε (A,h))(y:b l h=ε (B,h))(z:c l h=ε (C,h)):SA (bA a (bA b (bA c dA))) l h=ε (.tup [A,B,C],h):=by simp![ED,AA,zA,x,y,z,eA,T4,Va,Nat.reduceAdd,show 3<=sizeLine by decide,eH]
end
noncomputable def QG(p q:Nat)(a b d:Int):Oe Bd:=(if b<=a then [(p,q,if b<a then -1 else 0)]else [])++(if a<=d then [(q,p,if a<d then -1 else 0)]else [])
def Z0[Decidable C](a:l[4]?=ε (ε (.ref h.length)))(e:xs.length<5)(t:T l (h++[.lst (xs.map xA)])=ε (decide C,h++[.lst (xs.map xA)]))(g:G l (h++[.lst (xs.map xA)])=ε (xA d,h++[.lst (xs.map xA)])) :
 WB T (yD (PD (eV 4) G)) VA l (h++[.lst (xs.map xA)])=ε (.nx l (h++[.lst ((xs++if C then [d]else []).map xA)])):=by
 rw[xB,t,eA];by_cases c:C
 . have b:=fG (h:=h++[.lst (xs.map xA)]) (l:=l) (n:=h.length) (ys:=xs.map xA) (xs:=xs.map xA) (d:=xA d) ⋯ g ⋯ (by simp[sizeLine];omega);rw[g8 c,dz rfl,dz c,gF,iG,ev a,eA,b,eA,Gi];simp
 . rw[fu c,eG Vu,eG c,Ui];rfl
def mV[Decidable C](t:T l h=ε (decide C,h)):WQ T (fD (wq 1)) (wq 0) l h=ε (.int (if C then -1 else 0),h):=by
 rw[EK,t,eA];by_cases c:C
 . rw[g8 c,dz rfl,dz c];rfl
 . rw[fu c,eG Vu,eG c];rfl
def MV(p q)(a)(hs:b ≠ [])(h):IJ [.int (p:Nat),.int (q:Nat),.int a,.lst (b.map Dt.int)] h=ε (.ref h.length,h++[.lst ((QG p q a (wC b) (NB b)).map xA)]):=by
 have n:=fun h=>Rz (h:=h) hs
 have m:=fun h=>P4 (h:=h) hs
 obtain⟨l,e⟩:∃l:LI,l=[ε (.int (p:Nat)),ε (.int (q:Nat)),ε (.int a),ε (.lst (b.map Dt.int)),ε (.ref h.length)]:=⟨_,rfl⟩
 have k:l[0]?=ε (ε (.int (p:Nat))):=by rw[e];rfl
 have j:l[1]?=ε (ε (.int (q:Nat))):=by rw[e];rfl
 have g:l[2]?=ε (ε (.int a)):=by rw[e];rfl
 have f:l[3]?=ε (ε (.lst (b.map Dt.int))):=by rw[e];rfl
 have i:l[4]?=ε (ε (.ref h.length)):=by rw[e];rfl
 have s:=Z0 (xs:=[]) (C:=wC b<=a) (d:=(p,q,if wC b<a then -1 else 0)) i (by decide) (tb _ (EU (TU (ev f) (n _)) (ev g) (S7 _ _))) (jV (ev k) (ev j) (mV (tb _ (EU (TU (ev f) (n _)) (ev g) (CJ _ _)))));have r:=Z0 (xs:=[]++if wC b<=a then [(p,q,if wC b<a then -1 else 0)]else []) (C:=a<=NB b) (d:=(q,p,if a<NB b then -1 else 0)) i (by split<;>simp) (tb _ (EU (TU (ev f) (m _)) (ev g) (PQ _ _))) (jV (ev j) (ev k) (mV (tb _ (EU (TU (ev f) (m _)) (ev g) (BJ _ _)))));have o:nF dA [ε (.int (p:Nat)),ε (.int (q:Nat)),ε (.int a),ε (.lst (b.map Dt.int)),none] h=ε (.ref h.length,h++[.lst []]):=rfl;show QC (gR [ε (.int (p:Nat)),ε (.int (q:Nat)),ε (.int a),ε (.lst (b.map Dt.int)),none] h)=_;unfold QG gR;rw[NA,HB,o,eA,eA,UA,NA,show([ε (.int (p:Nat)),ε (.int (q:Nat)),ε (.int a),ε (.lst (b.map Dt.int)),none]:LI).set 4 (ε (.ref h.length))=l by rw[e];rfl];rw[show(h++[Ob.lst []])=h++[Ob.lst (([]:Oe Bd).map xA)]from rfl,s,eA,UA,NA,r,eA,UA,cB,ev i];rfl
def pz(w:Nat):Nat×Nat:=be.getD w (0,0)
def rg{w:Nat}(hw:w<13)(h):WS [.int w] h=ε (pr (pz w),h):=by rcases O7 hw with rfl | rfl | rfl | rfl | rfl | rfl | rfl | rfl | rfl | rfl | rfl | rfl | rfl<;>kernel_rfl
def zs(side w:Nat):Int:=if side=0 then((pz w).1:Int)else((pz w).2:Int)
def KB(side m:Nat):Oe Int:=(QA m).map (zs side)
def K0(a:QA m ≠ []):KB side m ≠ []:=by unfold KB;intro z;exact a (map_eq_nil_iff.mp z)
def QE(i j side m:Nat):Oe Bd:=QG (2*i+side) (2*j) 1 (wC (KB side m)) (NB (KB side m))++QG (2*i+side) (2*j+1) 3 (wC (KB side m)) (NB (KB side m))
def YZ[Decidable c](x:Bd):(if c then [x]else []).length<=1:=by split<;>simp
def NS(p q)(a b d):(QG p q a b d).length<=2:=by unfold QG;rw[je];exact Nat.add_le_add (YZ _) (YZ _)
def Z1{F G:Oe Bd}{rest:Oe Ob}(c:F.length+G.length<=100000)(b:g l (h++.lst (F.map xA)::rest)=ε (.ref (h++.lst (F.map xA)::rest).length,(h++.lst (F.map xA)::rest)++[.lst (G.map xA)])) :
 TK g l (.ref h.length,h++.lst (F.map xA)::rest)=ε (.non,h++.lst ((F++G).map xA)::(rest++[.lst (G.map xA)])):=by
 have a:(h++Ob.lst (F.map xA)::rest)[h.length]?=ε (.lst (F.map xA)):=by simp
 have d:((h++Ob.lst (F.map xA)::rest)++[Ob.lst (G.map xA)])[h.length]?=ε (.lst (F.map xA)):=by rw[Xo ⋯];exact a
 have e2:((h++Ob.lst (F.map xA)::rest)++[Ob.lst (G.map xA)])[(h++Ob.lst (F.map xA)::rest).length]?=ε (.lst (G.map xA)):=by rw[Zu (Us _),Di];rfl
 rw[YY a b d e2 (by simp;omega)];simp
def AX(i j m side)(hs:side=0\/side=1)(Q:i<=1000)(P:j<=1000)(f:QA m ≠ [])(h)(F)(R:F.length<=1000)(rest)(s:Oo Dt):∃y b,HL [ε (.int (i:Nat)),ε (.int (m:Nat)),ε (.int (j:Nat)),ε (.ref h.length),ε (.int (side:Nat)),s] (h++.lst (F.map xA)::rest) =
 ε (.nx [ε (.int (i:Nat)),ε (.int (m:Nat)),ε (.int (j:Nat)),ε (.ref h.length),ε (.int (side:Nat)),y] (h++.lst ((F++QE i j side m).map xA)::b)):=by
 have L:=fun h=>SL m h
 have C:∀k∈QA m,k<13:=fun k d=>Bu.mp (mem_filter.mp d).1
 have I:((QA m).map fun(k:Nat)=>Dt.int (k:Int)).length<sizeLine:=by have:(QA m).length<=13:=rz (length_filter_le _ _) ⋯;simp;omega
 have M:=uF (te:=DL) (tc:=aB) (i:=0) (fun(k:Nat)=>Dt.int (k:Int)) (fun k=>Dt.int (zs side k)) (h++.lst (F.map xA)::rest) (QA m) [none,ε (.int (side:Nat))] (by
  intro k d;have n:=rg (C k d) (h++.lst (F.map xA)::rest);refine⟨by simp,?_⟩;rcases hs with rfl | rfl
  . simp[DL,n,pr,zs]
  . simp[DL,n,pr,zs])
 have e:=MD (l:=[none,ε (.int (side:Nat))]) (h:=h++.lst (F.map xA)::rest) (uA 0) aB DL I;rw[M]at e;have D:(QA m).map (fun k=>Dt.int (zs side k))=(KB side m).map Dt.int:=by unfold KB;rw[map_map];rfl
 rw[D]at e;have hp:=fun h=>MV (2*i+side) (2*j) 1 (K0 (side:=side) f) h
 have J:=fun h=>MV (2*i+side) (2*j+1) 3 (K0 (side:=side) f) h
 have pl:∀p q a E H,(QG p q a E H).length<=2:=NS
 have u:=fun(i:Int) (h:HI)=>sG (h:=h) (i:=2) (j:=i) (Or.inl ⟨by decide,by decide⟩)
 have r:(2:Int)*(i:Int)+(side:Int)=((2*i+side:Nat):Int):=by omega
 have o:(2:Int)*(j:Int)=((2*j:Nat):Int):=by omega
 have O:((2*j:Nat):Int)+1=((2*j+1:Nat):Int):=by omega
 have B:=Z1 (h:=h) (F:=F) (G:=QG (2*i+side) (2*j) 1 (wC (KB side m)) (NB (KB side m))) (rest:=rest) (l:=[ε (.int (i:Nat)),ε (.int (m:Nat)),ε (.int (j:Nat)),ε (.ref h.length),ε (.int (side:Nat)),ε (.lst ((KB side m).map Dt.int))])
  (g:=rA IJ [] (bA (e2 dC (e2 KC (wq 2) (eV 0)) (eV 4)) (bA (e2 KC (wq 2) (eV 2)) (bA (wq 1) (bA (eV 5) (dA)))))) (by have:=pl (2*i+side) (2*j) 1 (wC (KB side m)) (NB (KB side m));omega) (by
   simp![FA,AA,zA,sA,qA,gA,Ss,Te,iA,eA,u,UE,r,o,Ui];exact hp _)
 have x:=Z1 (h:=h) (F:=F++QG (2*i+side) (2*j) 1 (wC (KB side m)) (NB (KB side m))) (G:=QG (2*i+side) (2*j+1) 3 (wC (KB side m)) (NB (KB side m))) (rest:=rest++[.lst ((QG (2*i+side) (2*j) 1 (wC (KB side m)) (NB (KB side m))).map xA)]) (l:=[ε (.int (i:Nat)),ε (.int (m:Nat)),ε (.int (j:Nat)),ε (.ref h.length),ε (.int (side:Nat)),ε (.lst ((KB side m).map Dt.int))])
  (g:=rA IJ [] (bA (e2 dC (e2 KC (wq 2) (eV 0)) (eV 4)) (bA (e2 dC (e2 KC (wq 2) (eV 2)) (wq 1)) (bA (wq 3) (bA (eV 5) (dA)))))) (by have:=pl (2*i+side) (2*j) 1 (wC (KB side m)) (NB (KB side m));have:=pl (2*i+side) (2*j+1) 3 (wC (KB side m)) (NB (KB side m));simp;omega) (by
   simp![FA,AA,zA,sA,qA,gA,Ss,Te,iA,eA,u,UE,r,o,O,Ui];exact J _)
 refine⟨ε (.lst ((KB side m).map Dt.int)),rest++[.lst ((QG (2*i+side) (2*j) 1 (wC (KB side m)) (NB (KB side m))).map xA)]++[.lst ((QG (2*i+side) (2*j+1) 3 (wC (KB side m)) (NB (KB side m))).map xA)],?_⟩;unfold QE;rw[<- n7];simp![HL,NA,HB,GD,iC,FA,AA,zA,gA,Ss,Te,iA,eA,Ui,L,sF,jD,bF,gD,Option.join,Wi,id,e,Vi,Uu,UA,gF,kS,B,x]
def oM(i j side m):(QE i j side m).length<=4:=by unfold QE;rw[je];have b:=NS (2*i+side) (2*j) 1 (wC (KB side m)) (NB (KB side m));have a:=NS (2*i+side) (2*j+1) 3 (wC (KB side m)) (NB (KB side m));omega
def zD(i m j:Nat):Oe Bd:=QE i j 0 m++QE i j 1 m
def Hy(i m j)(n:i<=1000)(k:j<=1000)(g:QA m ≠ [])(h):∃rest,ML [.int (i:Nat),.int (m:Nat),.int (j:Nat)] h=ε (.ref h.length,h++.lst ((zD i m j).map xA)::rest):=by
 obtain⟨a,b,q⟩:=AX i j m 0 (.inl rfl) n k g h [] ⋯ [] none;obtain⟨o,f,e2⟩:=AX i j m 1 (.inr rfl) n k g h (QE i j 0 m) (by have:=oM i j 0 m;omega) b a;have p:V6 (.int 2,h++[.lst []])=ε (.vals [.int 0,.int 1],h++[.lst []]):=by rw[MF (by decide) (by decide)];rfl
 refine⟨f,?_⟩;have e:HL [ε (.int (i:Nat)),ε (.int (m:Nat)),ε (.int (j:Nat)),ε (.ref h.length),ε (.int 0),none] (h++[.lst []])=ε (.nx [ε (.int (i:Nat)),ε (.int (m:Nat)),ε (.int (j:Nat)),ε (.ref h.length),ε (.int 0),a] (h++.lst ((QE i j 0 m).map xA)::b)):=q;have d:HL [ε (.int (i:Nat)),ε (.int (m:Nat)),ε (.int (j:Nat)),ε (.ref h.length),ε (.int 1),a] (h++.lst ((QE i j 0 m).map xA)::b)=ε (.nx [ε (.int (i:Nat)),ε (.int (m:Nat)),ε (.int (j:Nat)),ε (.ref h.length),ε (.int 1),o] (h++.lst ((zD i m j).map xA)::f)):=e2;simp[ML,gW,p,JB,e,d]
def gw(i)(lo a)(b:g<=1000)(h):sL [.tup [.int (i:Nat),.int lo,.int a],.int (g:Nat)] h=ε (.ref h.length,h++[.lst (([(2*i,2*i+1,-lo*g),(2*i+1,2*i,a*g)]:Oe Bd).map xA)]):=by
 have u:=fun(h:HI)=>sG (h:=h) (i:=2) (j:=(i:Int)) (Or.inl ⟨by decide,by decide⟩)
 have v:=fun(x:Int) (h:HI)=>sG (h:=h) (i:=x) (j:=(g:Int)) (Or.inr ⟨by omega,by omega⟩)
 simp[sL,OV,u,v,xA]
noncomputable abbrev Ln:=Nat×Int×Int
noncomputable def lB(x:Ln):Dt:=.tup [.int (x.1:Nat),.int x.2.1,.int x.2.2]
noncomputable def vC(g:Nat)(x:Ln):Oe Bd:=[(2*x.1,2*x.1+1,-x.2.1*g),(2*x.1+1,2*x.1,x.2.2*g)]
noncomputable def SC(c:Nat):Oe Bd:=(List.range c).map fun i=>(2*i,2*i+1,-1)
def fC(c:Nat)(N:Nat->Nat->Nat)(ls:Oe Ln):Oe Bd:=SC c++ls.flatMap (vC (2*c+1))++(LA c).flatMap fun p=>zD p.1 (N p.1 p.2) p.2
def jZ{F G:Oe Bd}{rest dy:Oe Ob}(c:F.length+G.length<=100000)(b:g l (h++.lst (F.map xA)::rest)=ε (.ref (h++.lst (F.map xA)::rest).length,(h++.lst (F.map xA)::rest)++.lst (G.map xA)::dy)) :
 TK g l (.ref h.length,h++.lst (F.map xA)::rest)=ε (.non,h++.lst ((F++G).map xA)::(rest++.lst (G.map xA)::dy)):=by
 have a:(h++Ob.lst (F.map xA)::rest)[h.length]?=ε (.lst (F.map xA)):=by simp
 have d:((h++Ob.lst (F.map xA)::rest)++Ob.lst (G.map xA)::dy)[h.length]?=ε (.lst (F.map xA)):=by rw[Xo ⋯];exact a
 have e2:((h++Ob.lst (F.map xA)::rest)++Ob.lst (G.map xA)::dy)[(h++Ob.lst (F.map xA)::rest).length]?=ε (.lst (G.map xA)):=by rw[Zu (Us _),Di];rfl
 rw[YY a b d e2 (by simp;omega)];simp
def DO{a b:Type}(f:a->Oe b){xs:Oe a}{x:a}(d:xs[k]?=ε x):(xs.take (k+1)).flatMap f=(xs.take k).flatMap f++f x:=by rw[take_add_one,d,flatMap_append];simp
def rh(c)(h):uM [.int (c:Nat)] h=ε (.int ((2*c+1:Nat):Int),h):=by
 have u:=fun(h:HI)=>sG (h:=h) (i:=2) (j:=(c:Int)) (Or.inl ⟨by decide,by decide⟩)
 simp[uM,rZ,u]
def DS(h:p∈LA c):p.1<c/\p.2<c:=by unfold LA GB at h;obtain⟨i,b,h⟩:=Mu.mp h;obtain⟨k,a,rfl⟩:=Bs.mp h;have:=Bu.mp b;have:=Bu.mp a;exact⟨by omega,by show i+1+k<c;omega⟩
def Xy(b:i<c):List.replicate i (Dt.int 8191)++[Dt.int 64]++List.replicate (c-i-1) (Dt.int 8191)=LC c (aC i):=by
 apply ext_getElem?;intro k;by_cases a:k<c
 . rw[xM a];rcases Nat.lt_trichotomy k i with h | h | h
   . rw[n7,Xo (by simpa using h)];have:¬i=k:=by omega
     simp[h,aC,this]
   . subst h;rw[n7,Zu ⋯];simp[aC]
   . rw[Zu (by simp;omega)];have:¬i=k:=by omega
     have q:k-(i+1)<c-i-1:=by omega
     simp[aC,this,q]
 . rw[ju (by simp;omega),ju (by rw[QO];omega)]
def Xg(b:i<c)(g:c<=1000)(h):qO [.int (c:Nat),.int (i:Nat)] h=ε (.ref h.length,h++[.lst (LC c (aC i))]):=by
 have f:=SY (h:=h) (Dt.int 8191) (show i<=1000000 by omega);have e2:=SY (h:=h) (Dt.int 8191) (show c-i-1<=1000000 by omega);have d:(c:Int)-(i:Int)-1=((c-i-1:Nat):Int):=by omega
 have e:=Hx (h:=h) (xs:=List.replicate i (Dt.int 8191)) (ys:=[Dt.int 64]) (by simp;omega);have a:HD (.lst (List.replicate i (Dt.int 8191)++[Dt.int 64])) (.lst (List.replicate (c-i-1) (Dt.int 8191))) h=ε (.ref h.length,h++[.lst (List.replicate i (Dt.int 8191)++[Dt.int 64]++List.replicate (c-i-1) (Dt.int 8191))]):=by simp![HD,BA,Wi];rw[dz (by simp;omega)]
 rw[Xy b]at a;simp[qO,RW,f,d,e2,e,a]
def X8(f:c<=1000)(h):LP [.int (c:Nat)] h=ε (.ref (h.length+c),h++XC h.length c aC):=by
 have b:=MF (h:=h) (show(-(2^62):Int)<=(c:Int) by omega) (show(c:Int)<2^62 by omega);simp![ni]at b;have a:=eS (te:=rS) (i:=0) (fun(k:Nat)=>Dt.int (k:Int)) (fun i=>Ob.lst (LC c (aC i))) h (List.range c) [none,ε (.int (c:Nat))] [] (by
  intro k d e;have:=Xg (Bu.mp d) f (h++e);simp[rS,this])
 rw[Ui,Fe]at a;have hs:((List.range c).map fun(k:Nat)=>Dt.int (k:Int)).length<sizeLine:=by simp;omega
 simp[LP,B1,b,MD _ _ _ hs,a,XC,JF]
structure vl(h h':HI):Prop where
 le:h.length<=h'.length
 ls:∀(n:Nat)(xs:List Dt),h[n]?=ε (.lst xs)->h'[n]?=ε (.lst xs)
 dk:∀(n:Nat)(kv:List (MB×Dt)),h[n]?=ε (.dk kv)->h'[n]?=ε (.dk kv)
def vl.refl(h):vl h h:=⟨Us _,fun q q e=>e,fun q q e=>e⟩
def vl.trans(a:vl h h1)(b:vl h1 h2):vl h h2:=⟨rz a.1 b.1,fun n d e=>b.2 n d (a.2 n d e),fun n d e=>b.3 n d (a.3 n d e)⟩
def Up.l(u:Up h h'):vl h h':=⟨u.1,fun q q e=>u.get e,fun q q e=>u.get e⟩
def vl.app(h e):vl h (h++e):=(Up.app h e).l
def vl.net{h h':HI}(u:vl h h'){b c:Nat}{f:Nat->Nat->Nat}(N:Vo h b c f):Vo h' b c f:=⟨fun i a=>u.2 _ _ (N.row i a),u.2 _ _ N.top⟩
def vl.set(e:h[n]?=ε (.ins x fs)):vl h (h.set n (.ins x a)):=by
 have g:∀(k:Nat)(o:Ob),(∀x fs,o≠.ins x fs)->h[k]?=ε o->(h.set n (.ins x a))[k]?=ε o:=fun k o no q=>by
  rw[getElem?_set];by_cases z:n=k
  . subst z;rw[e]at q;exact Ea (ou q).symm (no _ _)
  . rw[eG z];exact q
 exact⟨by simp,fun k b q=>g k _ (fun v v z=>by cases z) q,fun k b q=>g k _ (fun v v z=>by cases z) q⟩
noncomputable abbrev EB:=Nat×Nat×Nat
noncomputable def IA (m:EB):Dt:=.tup [.str "ways", .int (m.1:Nat),.int (m.2.1:Nat),.int (m.2.2:Nat)]
def kC(c:Nat)(m:EB):Prop:=m.1<c/\m.2.2<c/\m.1≠m.2.2/\m.2.1<8192
def zev(h:HI)(d:Dt)(g:Oe EB):Prop:=∃n,d=.ref n/\h[n]?=ε (.lst (g.map IA))
def zev.up(q:zev h d g)(u:vl h h'):zev h' d g:=by obtain⟨n,e,q⟩:=q;exact⟨n,e,u.2 _ _ q⟩
noncomputable def CC(c:Nat)(g:Nat->Nat->Nat):Nat->Nat->Nat:=fun i j=>if i<c/\j<c then g i j else 0
def eF(g)(b:i<c)(a:j<c):CC c g i j=g i j:=dz ⟨b,a⟩
theorem Xr(e:∀i<c,∀j<c,g i j=g' i j):CC c g=CC c g':=by
 funext i j
 unfold CC;split
 . rename_i q;exact e i q.1 j q.2
 . rfl
def zZ(N:Vo h b c g):Vo h b c (CC c g):=N.congr fun q d q a=>(eF g d a).symm
def X2(o:WA c g):WA c (CC c g):=⟨fun i b j a=>by rw[eF g b a];exact o.lt i b j a,fun i b j a=>by rw[eF g b a,eF g a b];exact o.tn i b j a⟩
def Bm(d:i<c)(a:k<c)(b:j<c):Wa (CC c g) i k j=Wa g i k j:=by unfold Wa;rw[eF g d b,eF g d a,eF g a b]
def Tg(o:ND c g):ND c (CC c g):=fun i b k e j a d=>by rw[Bm b e a,eF g b a];exact o i b k e j a d
theorem aS{a:Type}{p q:a->Bool}:∀{xs:Oe a},(∀x∈xs,p x=q x)->xs.any p=xs.any q
 | [],_=>rfl
 | x::xs,h=>by rw[Ko,Ko,h x ⋯,aS fun y b=>h y (by simp[b])]
def Ky(e:∀i<c,∀j<c,g i j=g' i j):uB c g=uB c g':=by unfold uB;exact aS fun i b=>aS fun j a=>by rw[e i (Bu.mp b) j (Bu.mp a)]
def YX(c)(g):uB c (CC c g)=uB c g:=Ky fun q b q a=>eF g b a
def bo(c:Nat)(f:Nat->Nat->Nat)(st:Oe (Nat×Nat×Nat))(g:Nat->Nat->Nat):Prop:=∃a,vk c f st a/\ND c a/\uB c a=false/\g=CC c a
def bo.ok{st:Oe (Nat×Nat×Nat)}(e:bo c f st g)(o:WA c f):WA c g/\ND c g/\uB c g=false:=by obtain⟨b,s,a,ne,rfl⟩:=e;exact⟨X2 (s.ok o),Tg a,by rw[YX];exact ne⟩
def bo.unique{st a:Oe (Nat×Nat×Nat)}(o:WA c f)(e:bo c f st g)(n:bo c f a g'):g=g':=by
 obtain⟨x,s,p,ne,rfl⟩:=e;obtain⟨u,b,d,m,rfl⟩:=n;refine Xr fun i k j h=>?_
 have r:=s.keeps (b.ok o) d (b.sub o) i k j h;have q:=b.keeps (s.ok o) p (s.sub o) i k j h;exact Xu.antisymm q r
def bo.cq{st a:Oe (Nat×Nat×Nat)}(o:WA c f)(e:bo c f st g)(h:vk c f a g'):uB c g'=false:=by
 obtain⟨m,s,n,ne,rfl⟩:=e;have p:=h.keeps (s.ok o) n (s.sub o);cases z:uB c g' with
 | false=>rfl
 | true=>
  obtain⟨i,d,j,b,e⟩:=fq.mp z;have:=p i d j b;rw[e]at this;have k:m i j=0:=by unfold Xu at this;rw[Nat.and_zero]at this;exact this.symm
  exact Ea k (G.cq ne d b)
noncomputable def wn(m:Nat):Nat:=8191-m
def VD(f:Nat->Nat->Nat)(k:Nat):Oe EB->Nat->(Nat->Nat->Nat)
 | [],_=>f
 | m::ms,p=>VD (AB f m.1 (if p=k then m.2.1 else wn m.2.1) m.2.2) k ms (p+1)
def aN(f:Nat->Nat->Nat)(g:Oe EB)(k:Nat):Nat->Nat->Nat:=VD f k g 0
theorem qW(k)(m):∀a f p,VD f k (a++[m]) p=AB (VD f k a p) m.1 (if p+a.length=k then m.2.1 else wn m.2.1) m.2.2
 | [],f,p=>by simp[VD]
 | x::a,f,p=>by show VD (AB f x.1 (if p=k then x.2.1 else wn x.2.1) x.2.2) k (a++[m]) (p+1)=_;rw[qW k m a _ (p+1),T4,show p+(a.length+1)=p+1+a.length by omega];rfl
theorem TR:∀(e:Oe EB)(_:∀m∈e,kC c m)(f:Nat->Nat->Nat)(p:Nat),WA c f->WA c (VD f k e p)
 | [],_,f,p,o=>o
 | m::e,h,f,p,o=>by obtain⟨a,b,d,_⟩:=h m ⋯;exact TR e (fun x g=>h x (by simp[g])) _ _ (nH o a b d _)
def iE(c:Nat)(g:Nat->Nat->Nat):Oo (Nat×Nat):=(LA c).find? fun p=>decide (1<(QA (g p.1 p.2)).length)
def ri(h:m<8192):Builtin.bitAnd 8191 (Builtin.bitNot ((m:Nat):Int))=((wn m:Nat):Int):=by
 have d:Builtin.bitNot (Builtin.bitNot ((m:Nat):Int))=(m:Int):=by unfold Builtin.bitNot;omega
 have b:¬(0<=Builtin.bitNot ((m:Nat):Int)):=by unfold Builtin.bitNot;omega
 have a:(8191:Nat)&&&m=m:=by rw[Nat.and_comm,show(8191:Nat)=2^13-1 from rfl,Nat.and_two_pow_sub_one_eq_mod];exact Nat.mod_eq_of_lt h
 unfold Builtin.bitAnd;have f:decide ((8191:Int) >=0)=true:=by decide
 have e:decide (Builtin.bitNot ((m:Nat):Int) >=0)=false:=fu b;simp![f,e,d];show(8191:Int)-(((8191:Int).toNat&&&(m:Int).toNat:Nat):Int)=_;rw[show(8191:Int).toNat=8191 from rfl,ni,a];unfold wn;omega
def Xm{a:Type}{xs:Oe a}(h:k<=xs.length):(xs.take k).length=k:=by rw[Ce];omega
def TJ{a:Type}{xs:Oe a}{x:a}(h:xs[k]?=ε x):xs.take (k+1)=xs.take k++[x]:=by rw[take_add_one,h];rfl
def wk(N:Vo h b c f)(F:c<=1000)(D:h[n]?=ε (.lst (g.map IA)))(ok:∀m∈g,kC c m)(k) :
 ∃d h',YN [.ref (b+c),.ref n,.int (k:Nat)] h=ε (.ref (d+c),h')/\Vo h' d c (aN f g k)/\Up h h':=by
 obtain⟨L,h',e,d,s,r,q,rfl,p,U⟩:=Nz (i:=3) (j:=4) (n:=n) (body:=QN) IA (fun a l h'=>∃d s r q,l=[ε (.ref (d+c)),ε (.ref n),ε (.int (k:Nat)),s,r,q]/\Vo h' d c (VD f k (g.take a) 0)/\Up h h') g (by
  rintro a l h' ⟨d,s,r,q,rfl,p,U⟩;exact U.get D) (by
  rintro a x u l h' ⟨d,s,r,q,rfl,p,U⟩;obtain⟨J,I,P,H⟩:=ok x (kj u);have O:a<g.length:=(Wk u).1;have eq:VD f k (g.take (a+1)) 0=AB (VD f k (g.take a) 0) x.1 (if a=k then x.2.1 else wn x.2.1) x.2.2:=by rw[TJ u,qW,Xm nofun,Aa]
  have o:=tO p F J I (if a=k then x.2.1 else wn x.2.1);rw[<- eq]at o;have M:=kG h' c (VD f k (g.take (a+1)) 0);refine⟨.nx [ε (.ref (h'.length+c)),ε (.ref n),ε (.int (k:Nat)),ε (.int (a:Nat)),ε (IA x),ε (.int ((if a=k then x.2.1 else wn x.2.1:Nat):Int))] (h'++XC h'.length c (VD f k (g.take (a+1)) 0)),?_,h'.length,_,_,_,rfl,M,U.trans (Up.app _ _)⟩;have B:atI [Dt.str "ways",Dt.int (x.1:Nat),Dt.int (x.2.1:Nat),Dt.int (x.2.2:Nat)] 2=ε (.int (x.2.1:Nat)):=rfl;have C:atI [Dt.str "ways",Dt.int (x.1:Nat),Dt.int (x.2.1:Nat),Dt.int (x.2.2:Nat)] 1=ε (.int (x.1:Nat)):=rfl;have y:atI [Dt.str "ways",Dt.int (x.1:Nat),Dt.int (x.2.1:Nat),Dt.int (x.2.2:Nat)] 3=ε (.int (x.2.2:Nat)):=rfl;by_cases z:a=k
  . subst z;rw[dz rfl]at o ⊢;have E:decide ((a:Int)=(a:Int))=true:=g8 rfl;simp![QN,NA,HB,EK,HA,sA,gA,qA,Vi,Uu,Ss,Te,iA,eA,JD,decide_true,JA,eH,IA,XB,C,B,y,Vs,UA,FA,AA,zA,Ui,o]
  . rw[eG z]at o ⊢;have E:decide ((a:Int)=(k:Int))=false:=fu nofun;simp![QN,NA,HB,EK,HA,sA,gA,qA,Vi,Uu,Ss,Te,iA,eA,JD,E,JA,Ws,eO,IA,XB,C,B,y,Vs,Zx,Rb,VI,ri H,UA,FA,AA,zA,Ui,o]) [ε (.ref (b+c)),ε (.ref n),ε (.int (k:Nat)),none,none,none] h ⟨b,_,_,_,rfl,N,Up.refl h⟩
 rw[La]at p;refine⟨d,h',?_,p,U⟩;dsimp![YN,cW,Uo,Wo,Xe,Wu,NA,FC,oi,Te,Wt D,e,UA,cB,rB]
def jk(N:Vo h b c g)(F:c<=1000) :
 ∃h',nL [.ref (b+c)] h=ε ((match iE c g with | none=>.non | some p=>pA p),h')/\Up h h':=by
 have C:=uO F h;have U:Up h (h++[.lst ((LA c).map pA)]):=Up.app _ _;have D:Vo (h++[.lst ((LA c).map pA)]) b c g:=U.net N;have m:(h++[Ob.lst ((LA c).map pA)])[h.length]?=ε (.lst ((LA c).map pA)):=by simp
 refine⟨h++[.lst ((LA c).map pA)],?_,U⟩;have body:∀p∈LA c,∀y,ON [ε (.ref (b+c)),ε (pA p)] (h++[.lst ((LA c).map pA)])=ε (if decide (1<(QA (g p.1 p.2)).length)=true then .rt (pA p) (h++[.lst ((LA c).map pA)])else .nx [ε (.ref (b+c)),ε (pA p)] (h++[.lst ((LA c).map pA)]))\/y:=by
  intro p hp y;obtain⟨o,E⟩:=DS hp
  left
  have u:=AF D.top (p.1:Int);rw[SM.BD,WO o,Vs]at u;have s:=AF (D.row _ o) (p.2:Int);rw[SM.BD,xM E,Vs]at s;have I:decide ((1:Int)<(((QA (g p.1 p.2)).map fun(k:Nat)=>Dt.int (k:Int)).length:Nat))=decide (1<(QA (g p.1 p.2)).length):=by
   rw[mq];by_cases z:1<(QA (g p.1 p.2)).length
   . rw[g8 z,g8 nofun]
   . rw[fu z,fu nofun]
  simp![ON,xB,HA,sA,RB,FA,AA,zA,gA,qA,Ss,Te,iA,eA,pA,XB,BC,SF,Vs,u,s,Ui,SL,PM,BJ,I,JA,cB,GC];split<;>rfl
 obtain⟨r,e,f⟩:=F4 (i:=1) (n:=h.length) (body:=ON) pA (fun k l h'=>(∃y,l=[ε (.ref (b+c)),y])/\h'=h++[.lst ((LA c).map pA)]/\((LA c).take k).find? (fun p=>decide (1<(QA (g p.1 p.2)).length))=none) (fun d h'=>h'=h++[.lst ((LA c).map pA)]/\∃p,iE c g=ε p/\d=pA p) (LA c) (by
  rintro k l h' ⟨_,rfl,_⟩;exact m) (by
  rintro k x j l h' ⟨⟨y,rfl⟩,rfl,a⟩;rcases body x (kj j) False with bb | bb
  . refine⟨_,bb,?_⟩;by_cases z:decide (1<(QA (g x.1 x.2)).length)=true
    . rw[dz z];refine⟨rfl,x,?_,rfl⟩;unfold iE;rw[<- take_append_drop k (LA c),find?_append,a,Option.none_or];have:(LA c).drop k=x::(LA c).drop (k+1):=by obtain⟨q1,q2⟩:=Wk j;rw[<- q2];exact zu q1
      rw[this,Ja,z]
    . rw[eG z];refine⟨⟨_,rfl⟩,rfl,?_⟩;rw[TJ j,find?_append,a,Option.none_or,Ja];simp![show decide (1<(QA (g x.1 x.2)).length)=false by simpa using z];rfl
  . exact bb.elim) [ε (.ref (b+c)),none] (h++[.lst ((LA c).map pA)]) ⟨⟨_,rfl⟩,rfl,rfl⟩
 have B:=N.len;cases r with
 | nx q h'=>obtain⟨_,rfl,a⟩:=f;rw[La]at a;have:iE c g=none:=a;rw[this];dsimp![nL,XQ,Uo,Wo,Xe,Wu,NA,FC,iC,FA,AA,zA,RB,B,Ui,C,LD m,e,UA,cB,qA,rB]
 | rt d h'=>obtain⟨rfl,p,H,rfl⟩:=f;rw[H];dsimp![nL,XQ,Uo,Wo,Xe,Wu,NA,FC,iC,FA,AA,zA,RB,B,Ui,C,LD m,e,FD,rB]
 | bk q h'=>exact f.elim
 | ct q h'=>exact f.elim
inductive vb where
 | ways (m:EB)
 | long (x:Ln)
 | one (g:List EB)
def al(h:HI)(d:Dt):vb->Prop
 | .ways m=>d=IA m
 | .long x=>d=.tup [.str "long", .int (x.1:Nat),.int x.2.1,.int x.2.2]
 | .one g=>∃a,d=.tup [.str "one",a]/\zev h a g
def al.up(q:al h d f)(u:vl h h'):al h' d f:=by
 cases f with
 | ways m=>exact q
 | long x=>exact q
 | one g=>obtain⟨a,e,q⟩:=q;exact⟨a,e,q.up u⟩
noncomputable def VC(c:Nat):vb->Prop
 | .ways m=>kC c m
 | .long x=>x.1<c
 | .one g=>∀m∈g,kC c m
inductive Yo(h:HI):List Dt->List vb->Prop where
 | nil:Yo h [] []
 | cons {d:Dt} {f:vb} {ds:List Dt} {fs:List vb} (a:al h d f) (r:Yo h ds fs):Yo h (d::ds) (f::fs)
def Yo.up(q:Yo h ds fs)(u:vl h h'):Yo h' ds fs:=by
 induction q with
 | nil=>exact .nil
 | cons a r ih=>exact .cons (a.up u) ih
def Yo.len(q:Yo h ds fs):ds.length=fs.length:=by
 induction q with
 | nil=>rfl
 | cons a r ih=>simp[ih]
def Yo.get{h:HI}{ds:Oe Dt}{fs:Oe vb}(q:Yo h ds fs):∀{k:Nat}{d:Dt},ds[k]?=ε d->∃f,fs[k]?=ε f/\al h d f:=by
 induction q with
 | nil=>intro k d e;simp at e
 | cons a r ih=>
  intro k d e;cases k with
  | zero=>simp at e;subst e;exact⟨_,by simp,a⟩
  | succ k=>exact(by obtain⟨f,b,e2⟩:=ih (k:=k) (by simpa using e);exact⟨f,by simpa using b,e2⟩)
def Yo.snoc{h:HI}{ds:Oe Dt}{fs:Oe vb}(q:Yo h ds fs){d:Dt}{f:vb}(a:al h d f):Yo h (ds++[d]) (fs++[f]):=by
 induction q with
 | nil=>exact .cons a .nil
 | cons b r ih=>exact .cons b ih
noncomputable def qI:vb->Bool
 | .ways _=>true
 | _=>false
noncomputable def LK:vb->Bool
 | .long _=>true
 | _=>false
noncomputable def vH:vb->Bool
 | .one _=>true
 | _=>false
def l_w:decide ((("long" :Str))=(("ways" :Str)))=false:=by decide +kernel
def o_w:decide ((("one" :Str))=(("ways" :Str)))=false:=by decide +kernel
def w_l:decide ((("ways" :Str))=(("long" :Str)))=false:=by decide +kernel
def o_l:decide ((("one" :Str))=(("long" :Str)))=false:=by decide +kernel
def w_o:decide ((("ways" :Str))=(("one" :Str)))=false:=by decide +kernel
def l_o:decide ((("long" :Str))=(("one" :Str)))=false:=by decide +kernel
def fU (q:al h d f) (l) (k) (i) (a:l[i]?=ε (ε d)):e2 mB (e2 kA (eV i) (wq 0)) (eC (.str "ways")) l k=ε (.bl (qI f),k):=by
 cases f with
 | ways m=>rw[show d=IA m from q]at a;simp![sA,gA,a,iA,eA,qA,IA,XB,BC,Ss,Vs,jF,decide_true,qI]
 | long x=>rw[show d=_ from q]at a;simp![sA,gA,a,iA,eA,qA,XB,BC,Ss,Vs,jF,l_w,qI]
 | one g=>obtain⟨b,rfl,_⟩:=q;simp![sA,gA,a,iA,eA,qA,XB,BC,Ss,Vs,jF,o_w,qI]
def Z5 (q:al h d f) (l) (k) (i) (a:l[i]?=ε (ε d)):e2 mB (e2 kA (eV i) (wq 0)) (eC (.str "long")) l k=ε (.bl (LK f),k):=by
 cases f with
 | ways m=>rw[show d=IA m from q]at a;simp![sA,gA,a,iA,eA,qA,IA,XB,BC,Ss,Vs,jF,w_l,LK]
 | long x=>rw[show d=_ from q]at a;simp![sA,gA,a,iA,eA,qA,XB,BC,Ss,Vs,jF,decide_true,LK]
 | one g=>obtain⟨b,rfl,_⟩:=q;simp![sA,gA,a,iA,eA,qA,XB,BC,Ss,Vs,jF,o_l,LK]
def oQ (q:al h d f) (l) (k) (i) (a:l[i]?=ε (ε d)):e2 mB (e2 kA (eV i) (wq 0)) (eC (.str "one")) l k=ε (.bl (vH f),k):=by
 cases f with
 | ways m=>rw[show d=IA m from q]at a;simp![sA,gA,a,iA,eA,qA,IA,XB,BC,Ss,Vs,jF,w_o,vH]
 | long x=>rw[show d=_ from q]at a;simp![sA,gA,a,iA,eA,qA,XB,BC,Ss,Vs,jF,l_o,vH]
 | one g=>obtain⟨b,rfl,_⟩:=q;simp![sA,gA,a,iA,eA,qA,XB,BC,Ss,Vs,jF,decide_true,vH]
def iD(f:Nat->Nat->Nat):Oe vb->(Nat->Nat->Nat)
 | []=>f
 | .ways m::fs=>iD (AB f m.1 m.2.1 m.2.2) fs
 | _::fs=>iD f fs
theorem nO(x):∀fs f,iD f (fs++[x])=iD (iD f fs) [x]
 | [],f=>rfl
 | .ways m::fs,f=>nO x fs _
 | .long m::fs,f=>nO x fs _
 | .one m::fs,f=>nO x fs _
theorem AG:∀(fs:Oe vb)(_:∀x∈fs,VC c x)(f:Nat->Nat->Nat),WA c f->WA c (iD f fs)
 | [],_,f,o=>o
 | .ways m::fs,h,f,o=>by obtain⟨a,b,d,_⟩:=h (.ways m) ⋯;exact AG fs (fun x e=>h x (by simp[e])) _ (nH o a b d _)
 | .long m::fs,h,f,o=>AG fs (fun x e=>h x (by simp[e])) _ o
 | .one m::fs,h,f,o=>AG fs (fun x e=>h x (by simp[e])) _ o
def zW(r:c<=1000)(s:h[a]?=ε (.lst ds))(F:Yo h ds fs)(ok:∀x∈fs,VC c x) :
 ∃b h',OJ [.int (c:Nat),.ref a] h=ε (.ref (b+c),h')/\Vo h' b c (iD aC fs)/\Up h h':=by
 have E:=X8 r h;have U0:Up h (h++XC h.length c aC):=Up.app _ _;have L:=kG h c aC;have u:ds=ds.map id:=by simp
 obtain⟨P,h',e,f,y,rfl,g,U⟩:=vU (i:=3) (n:=a) (body:=BL) id (fun k l h'=>∃f y,l=[ε (.int (c:Nat)),ε (.ref a),ε (.ref (f+c)),y]/\Vo h' f c (iD aC (fs.take k))/\Up h h') ds (by
  rintro k l h' ⟨f,y,rfl,g,U⟩;rw[<- u];exact U.get s) (by
  rintro k d hd l h' ⟨f,y,rfl,g,U⟩;obtain⟨x,p,q⟩:=F.get hd;have j:=fU q [ε (.int (c:Nat)),ε (.ref a),ε (.ref (f+c)),ε d] h' 3 rfl;have o:=ok x (kj p);have eq:iD aC (fs.take (k+1))=iD (iD aC (fs.take k)) [x]:=by rw[TJ p,nO]
  have O:([ε (.int (c:Nat)),ε (.ref a),ε (.ref (f+c)),y]:LI).set 3 (ε (id d))=[ε (.int (c:Nat)),ε (.ref a),ε (.ref (f+c)),ε d]:=rfl;rw[O];cases x with
  | ways m=>obtain⟨J,I,R,Q⟩:=o;have qd:d=IA m:=q;have H:=tO g r J I m.2.1;have M:=kG h' c (AB (iD aC (fs.take k)) m.1 m.2.1 m.2.2);refine⟨.nx [ε (.int (c:Nat)),ε (.ref a),ε (.ref (h'.length+c)),ε d] (h'++XC h'.length c (AB (iD aC (fs.take k)) m.1 m.2.1 m.2.2)),?_,h'.length,_,rfl,by rw[eq];exact M,U.trans (Up.app _ _)⟩;have C:atI [Dt.str "ways",Dt.int (m.1:Nat),Dt.int (m.2.1:Nat),Dt.int (m.2.2:Nat)] 2=ε (.int (m.2.1:Nat)):=rfl;have D:atI [Dt.str "ways",Dt.int (m.1:Nat),Dt.int (m.2.1:Nat),Dt.int (m.2.2:Nat)] 1=ε (.int (m.1:Nat)):=rfl;have B:atI [Dt.str "ways",Dt.int (m.1:Nat),Dt.int (m.2.1:Nat),Dt.int (m.2.2:Nat)] 3=ε (.int (m.2.2:Nat)):=rfl;unfold BL;rw[xB,HA,j];rw[qd];simp![qI,eA,JA,eH,HB,FA,AA,zA,sA,gA,qA,Ss,Te,iA,IA,XB,D,C,B,Vs,Ui,H,Vi,Uu]
  | long m=>refine⟨.nx [ε (.int (c:Nat)),ε (.ref a),ε (.ref (f+c)),ε d] h',?_,f,_,rfl,by rw[eq];exact g,U⟩;unfold BL;rw[xB,HA,j];simp![qI,eA,JA,Ws,eO,GC]
  | one m=>
   refine⟨.nx [ε (.int (c:Nat)),ε (.ref a),ε (.ref (f+c)),ε d] h',?_,f,_,rfl,by rw[eq];exact g,U⟩;unfold BL;rw[xB,HA,j];simp![qI,eA,JA,Ws,eO,GC]) [ε (.int (c:Nat)),ε (.ref a),ε (.ref (h.length+c)),none] (h++XC h.length c aC) ⟨h.length,_,rfl,L,U0⟩
 rw[F.len,La]at g;refine⟨f,h',?_,g,U⟩;dsimp![OJ,tW,Uo,Wo,Xe,Wu,NA,HB,FA,AA,zA,Te,Ui,E,UA,Vi,Uu,FC,iC,LD (U0.get s),e,cB,rB]
def VX(p:vb->Bool)(o:Dt->vb->Dt)(l)(h)(F:Yo h ds fs)(e:h[n]?=ε (.lst ds))(D:ds.length<sizeLine)
 (H:∀d f,al h d f->f∈fs->tc (l.set 0 (ε d)) h=ε (p f,h)/\(p f=true->te (l.set 0 (ε d)) h=ε (o d f,h))) :
 SD (uA 0) tc te l (.rf n,h)=ε (((ds.zip fs).filter fun x=>p x.2).map fun x=>o x.1 x.2,h):=by
 have go:∀(m k:Nat)(i:LI),(∀d,i.set 0 d=l.set 0 d)->m=ds.length-k+1->k<=ds.length->∀g:Oe Dt,g.length<=k->g=((((ds.zip fs).take k).filter fun x=>p x.2).map fun x=>o x.1 x.2)->xD (uA 0) tc te (.rf n) m k i h g=ε (((ds.zip fs).filter fun x=>p x.2).map fun x=>o x.1 x.2,h):=by
  intro m
  induction m with
  | zero=>intro k i _ e;omega
  | succ m ih=>
   intro k i r E I g B b;unfold xD;simp![vj.at,e];by_cases a:k<ds.length
   . obtain⟨f,j,q⟩:=F.get (ji a);have s:(ds.zip fs)[k]?=ε (ds[k],f):=by rw[getElem?_zip_eq_some];exact⟨ji a,j⟩
     obtain⟨y,u⟩:=H ds[k] f q (kj j);rw[ji a];simp![WD,Wi,r,y];by_cases z:p f=true
     . rw[dz z];simp![u z,Wi];rw[dz nofun];refine ih (k+1) _ (fun d=>by rw[set_set]) nofun nofun _ (by simp;omega) ?_;rw[TJ s,filter_append,Gi,<- b];simp[z]
     . rw[eG z];refine ih (k+1) _ (fun d=>by rw[set_set]) nofun nofun _ nofun ?_;rw[TJ s,filter_append,Gi,<- b];simp[z]
   . rw[ju nofun];have C:(ds.zip fs).length=ds.length:=by rw[length_zip,F.len];omega
     rw[Ka nofun]at b;rw[b]
 have j:vj.fuel (.rf n) h=ds.length-0+1:=by simp![vj.fuel,e];omega
 unfold SD;simp![j];exact go _ 0 l (fun v=>rfl) rfl (m6 _) [] ⋯ ⋯
def gC:Oe vb->Oe Ln
 | []=>[]
 | .long x::fs=>x::gC fs
 | _::fs=>gC fs
def vB:Oe vb->Oe (Oe EB)
 | []=>[]
 | .one g::fs=>g::vB fs
 | _::fs=>vB fs
def lfD:vb->Dt
 | .long x=>lB x
 | _=>.non
noncomputable def g1D:Dt->Dt
 | .tup [_,x]=>x
 | _=>.non
def oW(b:h[a]?=ε (.lst ds))(hz:ds.length<sizeLine)(F:Yo h ds fs):JL [.ref a] h=ε (.lst ((gC fs).map lB),h):=by
 have e:=VX (te:=HV) (tc:=kR) LK (fun v f=>lfD f) [none] h F b hz (by
  intro d f q _;refine⟨?_,fun z=>?_⟩
  . unfold kR;rw[HA,Z5 q _ _ 0 rfl];rfl
  . cases f with
    | long x=>rw[show d=_ from q];rfl
    | ways m=>cases z
    | one g=>cases z)
 have eq:∀(ds:Oe Dt)(fs:Oe vb),Yo h ds fs->((ds.zip fs).filter fun x=>LK x.2).map (fun x=>lfD x.2)=(gC fs).map lB:=by
  intro ds fs F
  induction F with
  | nil=>rfl
  | @cons d f ds fs a r ih=>
   rw[zip_cons_cons,filter_cons];cases f with
   | long x=>rw[dz (show LK (vb.long x)=true from rfl),Uo,ih];rfl
   | ways m=>rw[eG (show ¬LK (vb.ways m)=true from Vu),ih];rfl
   | one g=>rw[eG (show ¬LK (vb.one g)=true from Vu),ih];rfl
 rw[eq _ _ F]at e;dsimp![JL,ZV,Uo,Wo,Ui,cB,GD,iC,LD b,jD,gD,e,rB]
inductive ax(h:HI):List Dt->List (List EB)->Prop where
 | nil:ax h [] []
 | cons {d:Dt} {g:List EB} {ds:List Dt} {gs:List (List EB)} (a:zev h d g) (r:ax h ds gs):ax h (d::ds) (g::gs)
def ax.up(q:ax h ds gs)(u:vl h h'):ax h' ds gs:=by
 induction q with
 | nil=>exact .nil
 | cons a r ih=>exact .cons (a.up u) ih
def AW(e:h[a]?=ε (.lst ds))(hz:ds.length<sizeLine)(F:Yo h ds fs):∃b,ax h b (vB fs)/\PJ [.ref a] h=ε (.lst b,h):=by
 have i:=VX (te:=eW) (tc:=tR) vH (fun d v=>g1D d) [none] h F e hz (by
  intro d f q _;refine⟨?_,fun z=>?_⟩
  . unfold tR;rw[HA,oQ q _ _ 0 rfl];rfl
  . cases f with
    | one g=>obtain⟨j,rfl,_⟩:=q;rfl
    | ways m=>cases z
    | long x=>cases z)
 refine⟨((ds.zip fs).filter fun x=>vH x.2).map fun x=>g1D x.1,?_,?_⟩
 rotate_left
 . dsimp![PJ,uW,Uo,Wo,Ui,cB,GD,iC,LD e,jD,gD,i,rB]
 . clear i e hz
   induction F with
   | nil=>exact .nil
   | @cons d f ds fs a r ih=>
    rw[zip_cons_cons,filter_cons];cases f with
    | one g=>obtain⟨j,rfl,q⟩:=a;rw[dz (show vH (vb.one g)=true from rfl),Uo];exact .cons q ih
    | ways m=>rw[eG (show ¬vH (vb.ways m)=true from Vu)];exact ih
    | long x=>rw[eG (show ¬vH (vb.long x)=true from Vu)];exact ih
def QL{j:Type}(D F:j->Dt)(xs:Oe j)(l)(h)(e:h[n]?=ε (.lst (xs.map D)))(q:xs.length<sizeLine)(H:∀x∈xs,te (l.set i (ε (D x))) h=ε (F x,h)) :
 SD (uA i) aB te l (.rf n,h)=ε (xs.map F,h):=by
 have go:∀(m k:Nat)(b:LI),(∀d,b.set i d=l.set i d)->m=xs.length-k+1->k<=xs.length->xD (uA i) aB te (.rf n) m k b h ((xs.take k).map F)=ε (xs.map F,h):=by
  intro m
  induction m with
  | zero=>intro k b _ e;omega
  | succ m ih=>
   intro k b g r s;unfold xD;simp![vj.at,e,uq];by_cases a:k<xs.length
   . rw[ji a];have f:=H xs[k] (getElem_mem a);have o:((xs.take k).map F).length<sizeLine:=by rw[mq,Ce];omega
     simp![Vs,WD,Wi,qM,eH,g,f,dz o];have:=ih (k+1) (l.set i (ε (D xs[k]))) (fun d=>by rw[set_set]) nofun nofun;rw[take_add_one,ji a,Gi]at this;exact this
   . rw[ju nofun];have:k=xs.length:=by omega
     subst this;simp![Option.map_none,La]
 have p:vj.fuel (.rf n) h=xs.length-0+1:=by simp![vj.fuel,e,mq];omega
 unfold SD;have:=go (xs.length-0+1) 0 l (fun z=>rfl) rfl (m6 _);simp![p];exact this
inductive ah{α β:Type}(R:α->β->Prop):List α->List β->Prop where
 | nil:ah R [] []
 | cons {a:α} {b:β} {as:List α} {bs:List β} (h:R a b) (r:ah R as bs):ah R (a::as) (b::bs)
def ah.imp(i:∀a b,R a b->S a b)(h:ah R f bs):ah S f bs:=by
 induction h with
 | nil=>exact .nil
 | cons a r ih=>exact .cons (i _ _ a) ih
def ah.len(h:ah R e bs):e.length=bs.length:=by
 induction h with
 | nil=>rfl
 | cons a r ih=>simp[ih]
theorem ah.gS:∀{i:Oe g}{bs:Oe e},ah (fun a b=>R (f a) b) i bs->ah R (i.map f) bs
 | _,_,.nil=>.nil
 | _,_,.cons h r=>.cons h (ah.gS r)
theorem LR(D:e->Dt)(P:HI->e->Dt->Prop)(up:∀h a x d,Up h a->P h x d->P a x d):∀xs l h,(∀x∈xs,∀a,Up h a->∃d b,te (l.set 0 (ε (D x))) a=ε (d,b)/\Up a b/\P b x d)->
 ∃ds a,CD (uA 0) aB te (xs.map D) l h=ε (ds,a)/\Up h a/\ah (P a) xs ds
 | [],l,h,_=>⟨[],h,rfl,Up.refl h,.nil⟩
 | x::xs,l,h,H=>by
  obtain⟨d,m,n,g,j⟩:=H x ⋯ h (Up.refl h);obtain⟨ds,b,e2,f,i⟩:=LR D P up xs (l.set 0 (ε (D x))) m (fun y k a u=>by
   rw[set_set];exact H y (by simp[k]) a (g.trans u))
  refine⟨d::ds,b,?_,g.trans f,.cons (up _ _ _ _ f j) i⟩;simp![Uo,CD,WD,Wi,qM,eH,n,e2]
def ce(h:HI)(c:Nat)(f:Nat->Nat->Nat)(d:Dt):Prop:=∃b,d=.ref (b+c)/\Vo h b c f
def ce.up(n:ce h c f d)(u:vl h h'):ce h' c f d:=by obtain⟨b,e,N⟩:=n;exact⟨b,e,u.net N⟩
def qC(c:Nat)(g:Nat->Nat->Nat):Oe (Oe EB)->Oo (Oo (Nat×Nat)×Oe (Nat->Nat->Nat)×Oe (Nat×Nat))
 | grp::_=>ε (none,(List.range grp.length).map (aN g grp),grp.map fun m=>(m.1,m.2.2))
 | []=>match iE c g with
  | none=>none
  | some p=>ε (ε p,(QA (g p.1 p.2)).map fun w=>AB g p.1 (2^w) p.2,[p])
def TC(tag:Oo (Nat×Nat))(a:Oe Dt)(ps:Oe (Nat×Nat)):Dt:=match tag with
 | none=>.tup [.str "one", .tup [],.lst a,.lst (ps.map pA)]
 | some p=>.tup [.str "split",pA p,.lst a,.lst (ps.map pA)]
def rj(q:ax h ds a):RC (.lst ds) (.lst []) h=ε (.bl (!a.isEmpty),h):=by rw[hU (xs:=ds) rfl];cases q<;>rfl
def HW{h:HI}{b c:Nat}{g:Nat->Nat->Nat}(N:Vo h b c g)(og:WA c g)(hc:c<=100){gds:Oe Dt}{D:Oe (Oe EB)}(Q:ax h gds D)(ok:∀x∈D,∀m∈x,kC c m)(sm:∀x∈D,x.length<=1000) :
 ∃j,Up h j/\match qC c g D with
  | none=>tF [.ref (b+c),.lst gds] h=ε (.non,j)
  | some (tag,bs,ps)=>∃f,ah (ce j c) bs f/\tF [.ref (b+c),.lst gds] h=ε (TC tag f ps,j):=by
 have ne:=rj Q;cases Q with
 | @cons d grp ds a0 a r=>
  obtain⟨n,rfl,s⟩:=a;have gl:=sm grp ⋯;have I:=ok grp ⋯;have S:=fun h=>MF (h:=h) (show(-(2^62):Int)<=(grp.length:Int) by omega) (show(grp.length:Int)<2^62 by omega)
  simp![ni]at S;obtain⟨f,j,e,U,A⟩:=LR (te:=iO) (fun(k:Nat)=>Dt.int (k:Int)) (fun h k d=>ce h c (aN g grp k) d) (fun h j k d u q=>q.up u.l) (List.range grp.length) [none,ε (.ref (b+c)),ε (.ref n)] h (by
   intro k _ j u;obtain⟨b',h2,e,N',U'⟩:=wk (u.net N) nofun (u.get s) I k;refine⟨_,h2,?_,U',b',rfl,N'⟩;simp![iO,FA,AA,zA,gA,Uu,Ss,Te,iA,eA,Ui,e])
  have C:=MD (l:=[none,ε (.ref (b+c)),ε (.ref n)]) (h:=h) (uA 0) aB iO (xs:=(List.range grp.length).map fun(k:Nat)=>Dt.int (k:Int)) (by simp[sizeLine];omega);rw[e]at C;have B:=QL (te:=jW) (i:=0) IA (fun m:EB=>pA (m.1,m.2.2)) grp [none] j (U.get s) (by simp[sizeLine];omega) (by
   intro m _;rfl)
  have R:=bJ s;rw[mq]at R;refine⟨j,U,?_⟩;show ∃f,ah (ce j c) ((List.range grp.length).map (aN g grp)) f/\tF [.ref (b+c),.lst (.ref n::ds)] h=ε (TC none f (grp.map fun m=>(m.1,m.2.2)),j)
  refine⟨f,A.gS,?_⟩;have pm:grp.map (fun m:EB=>pA (m.1,m.2.2))=(grp.map fun m=>(m.1,m.2.2)).map pA:=by rw[map_map];rfl
  rw[pm]at B;have Y:=LD (U.get s);dsimp![tF,IR,Uo,Wo,Xe,Wu,NA,xB,HA,sA,qA,pG,zA,Te,m6,ne,isEmpty_cons,um,JA,HB,fJ,BC,Vs,Vi,Uu,UA,GD,rH,RB,R,S,jD,bF,gD,Ls,C,cB,ED,AA,iC,Y,B];rfl
 | nil=>
  obtain⟨o,E,U1⟩:=jk N (show c<=1000 by omega);generalize y:tF [.ref (b+c),.lst []] h=X;dsimp![tF,IR,Uo,Wo,Xe,Wu,NA,xB,HA,sA,qA,pG,zA,Te,m6,ne,isEmpty_nil,uo,JA,Ws,eO,GC,UA,HB,FA,AA,Ui]at y;cases lp:iE c g with
  | none=>
   rw[lp]at E;refine⟨o,U1,?_⟩;have F:qC c g []=none:=by simp![qC,lp]
   rw[F];simp![E,eA,UA,NA,xB,HA,sA,gA,qA,Ss,Te,iA,Vi,Uu,Y4,lJ,JA,eH,cB,FD,rB]at y;exact y.symm
  | some p=>
   rw[lp]at E;have F:qC c g []=ε (ε p,(QA (g p.1 p.2)).map (fun w=>AB g p.1 (2^w) p.2),[p]):=by simp![qC,lp]
   rw[F];have hp:p∈LA c:=Ai lp;obtain⟨H,M⟩:=DS hp;have J:=U1.net N;obtain⟨f,j,e,U,A⟩:=LR (te:=jO) (fun(w:Nat)=>Dt.int (w:Int)) (fun h w d=>ce h c (AB g p.1 (2^w) p.2) d) (fun h j k d u q=>q.up u.l) (QA (g p.1 p.2)) [none,ε (.ref (b+c)),ε (pA p)] o (by
    intro w hw j u;have L:=(bm.mp hw).1;have s:=tO (u.net J) (show c<=1000 by omega) H M (2^w);refine⟨_,_,?_,Up.app _ _,j.length,rfl,kG j c _⟩;have Z:=XM (h:=j) (QK L);have pw:(1:Int)*2^w=((2^w:Nat):Int):=by simp
    simp![jO,FA,AA,zA,sA,qA,gA,Uu,Ss,Te,iA,eA,pA,XB,BC,SF,Vs,Z,ni,pw,Ui,s])
   have L:=pM (g p.1 p.2);have C:=MD (l:=[none,ε (.ref (b+c)),ε (pA p)]) (h:=o) (uA 0) aB jO (xs:=(QA (g p.1 p.2)).map fun(w:Nat)=>Dt.int (w:Int)) (by simp[sizeLine];omega);rw[e]at C;have P:=AF J.top (p.1:Int);rw[SM.BD,WO H,Vs]at P;have O:=AF (J.row _ H) (p.2:Int);rw[SM.BD,xM M,Vs]at O;refine⟨j,U1.trans U,f,A.gS,?_⟩;have np:lJ (pA p)=false:=rfl;have W:kA (pA p) (.int 0) o=ε (.int (p.1:Nat),o):=rfl;have T:kA (pA p) (.int 1) o=ε (.int (p.2:Nat),o):=rfl;simp![E,eA,UA,NA,xB,HA,sA,gA,qA,Ss,Te,iA,Vi,Uu,Y4,np,JA,Ws,eO,GC,HB,FA,AA,zA,Ui,W,T,P,O,GD,iC,SL,sF,jD,bF,gD,Ls,C,cB,ED]at y;rw[<- y];rfl
def Bt(B:c<=100){ls:Oe Ln}(u:ls.length<=1000)(q:Vo h b c N)(a d:Oo Dt):∃y rest,JB (uA 3) rO (ls.map lB) [ε (.ref (b+c)),a,ε (.ref h.length),none,d] (h++[.lst ((SC c).map xA)]) =
 ε (.nx [ε (.ref (b+c)),a,ε (.ref h.length),y,d] (h++.lst ((SC c++ls.flatMap (vC (2*c+1))).map xA)::rest)):=by
 have n:(SC c).length=c:=by simp[SC]
 obtain⟨r,j,e,⟨y,rfl⟩,rest,rfl,_⟩:=BP (i:=3) (body:=rO) lB (fun k l j=>(∃y,l=[ε (.ref (b+c)),a,ε (.ref h.length),y,d])/\∃rest,j=h++.lst ((SC c++(ls.take k).flatMap (vC (2*c+1))).map xA)::rest/\((ls.take k).flatMap (vC (2*c+1))).length<=2*k) ls 0 (by
  rintro k x f l j ⟨⟨y,rfl⟩,rest,rfl,o⟩;rw[Aa]at o ⊢;have s:k<ls.length:=(Wk f).1;have m:(vC (2*c+1) x).length=2:=rfl;have nl:=(q.grow (.lst ((SC c++(ls.take k).flatMap (vC (2*c+1))).map xA)::rest)).len;have p:=gw x.1 x.2.1 x.2.2 (g:=2*c+1) nofun (h++.lst ((SC c++(ls.take k).flatMap (vC (2*c+1))).map xA)::rest);have a:=jZ (h:=h) (F:=SC c++(ls.take k).flatMap (vC (2*c+1))) (G:=vC (2*c+1) x) (rest:=rest) (dy:=[]) (l:=[ε (.ref (b+c)),a,ε (.ref h.length),ε (lB x),d]) (g:=rA sL [] (bA (eV 3) (bA (rA uM [] (bA (VB yB (eV 0)) (dA))) (dA)))) (by rw[je,n,m];omega) (by
   simp![FA,AA,zA,RB,gA,Ss,Te,iA,eA,nl,rh,Ui,lB];exact p)
  refine⟨.nx [ε (.ref (b+c)),_,ε (.ref h.length),ε (lB x),d] (h++.lst ((SC c++(ls.take (k+1)).flatMap (vC (2*c+1))).map xA)::(rest++[.lst ((vC (2*c+1) x).map xA)])),?_,⟨ε (lB x),rfl⟩,rest++[.lst ((vC (2*c+1) x).map xA)],rfl,?_⟩
  . rw[DO _ f,<- n7];simp![rO,gF,kS,gA,Vi,Uu,Ss,Te,iA,eA,a]
  . rw[DO _ f,je,m];omega) [ε (.ref (b+c)),a,ε (.ref h.length),none,d] (h++[.lst ((SC c).map xA)]) ⟨⟨_,rfl⟩,[],by simp,by simp⟩
 rw[Aa,La]at *;exact⟨y,rest,e⟩
def Wf(Q:c<=100)(H:∀i j,i<c->j<c->QA (N i j) ≠ [])(J:Vo h d c N)(R:F.length<=3000)(db:∀G:Oe Bd,∀a,(h++.lst (G.map xA)::(r0++a))[b]?=ε (.lst ((LA c).map pA)))(m f:Oo Dt)(pl:(LA c).length<=10000)(pin:∀p∈LA c,p.1<c/\p.2<c) :
 ∃y rest,wD (uA 4) sO [ε (.ref (d+c)),m,ε (.ref h.length),f,none] (.rf b,h++.lst (F.map xA)::r0) =
 ε (.nx [ε (.ref (d+c)),m,ε (.ref h.length),f,y] (h++.lst ((F++(LA c).flatMap fun p=>zD p.1 (N p.1 p.2) p.2).map xA)::rest)):=by
 obtain⟨M,q,e,⟨y,rfl⟩,a,rfl,_⟩:=vU (i:=4) (n:=b) (body:=sO) pA (fun k l q=>(∃y,l=[ε (.ref (d+c)),m,ε (.ref h.length),f,y])/\∃a,q=h++.lst ((F++((LA c).take k).flatMap fun p=>zD p.1 (N p.1 p.2) p.2).map xA)::(r0++a)/\(((LA c).take k).flatMap fun p=>zD p.1 (N p.1 p.2) p.2).length<=8*k) (LA c) (by
  rintro k l q ⟨_,a,rfl,_⟩;exact db _ a) (by
  rintro k x o l q ⟨⟨y,rfl⟩,a,rfl,P⟩;have O:k<(LA c).length:=(Wk o).1;obtain⟨r,u⟩:=pin x (kj o);have L:(zD x.1 (N x.1 x.2) x.2).length<=8:=by unfold zD;rw[je];have:=oM x.1 x.2 0 (N x.1 x.2);have:=oM x.1 x.2 1 (N x.1 x.2);omega
  have D:=J.grow (.lst ((F++((LA c).take k).flatMap fun p=>zD p.1 (N p.1 p.2) p.2).map xA)::(r0++a));obtain⟨s,I⟩:=Hy x.1 (N x.1 x.2) x.2 nofun nofun (H _ _ r u) (h++.lst ((F++((LA c).take k).flatMap fun p=>zD p.1 (N p.1 p.2) p.2).map xA)::(r0++a));have C:=AF D.top (x.1:Int);rw[SM.BD,WO r,Vs]at C;have B:=AF (D.row _ r) (x.2:Int);rw[SM.BD,xM u,Vs]at B;have E:=jZ (h:=h) (F:=F++((LA c).take k).flatMap fun p=>zD p.1 (N p.1 p.2) p.2) (G:=zD x.1 (N x.1 x.2) x.2) (rest:=r0++a) (dy:=s) (l:=[ε (.ref (d+c)),m,ε (.ref h.length),f,ε (pA x)]) (g:=rA ML [] (bA (e2 kA (eV 4) (wq 0)) (bA (e2 kA (e2 kA (eV 0) (e2 kA (eV 4) (wq 0))) (e2 kA (eV 4) (wq 1))) (bA (e2 kA (eV 4) (wq 1)) (dA))))) (by rw[je];omega) (by
   simp![FA,AA,zA,sA,qA,gA,Ss,Te,iA,eA,pA,XB,BC,SF,Vs,C,B,Ui];exact I)
  refine⟨.nx [ε (.ref (d+c)),m,ε (.ref h.length),f,ε (pA x)] (h++.lst ((F++((LA c).take (k+1)).flatMap fun p=>zD p.1 (N p.1 p.2) p.2).map xA)::(r0++(a++.lst ((zD x.1 (N x.1 x.2) x.2).map xA)::s))),?_,⟨_,rfl⟩,_,rfl,?_⟩
  . rw[DO _ o,<- n7,<- n7];simp![sO,gF,kS,gA,Vi,Uu,Ss,Te,iA,eA,E]
  . rw[DO _ o,je];omega) [ε (.ref (d+c)),m,ε (.ref h.length),f,none] (h++.lst (F.map xA)::r0) ⟨⟨_,rfl⟩,[],by simp,by simp⟩
 rw[La]at e;exact⟨y,_,e⟩
def aY(d:c<=100)(C:∀i j,i<c->j<c->QA (N i j) ≠ [])(o:ls.length<=1000)(f:Vo h m c N) :
 ∃rest,QH [.ref (m+c),.lst (ls.map lB)] h=ε (.ref h.length,h++.lst ((fC c N ls).map xA)::rest):=by
 have nl:=f.len;have r:=MF (h:=h) (show(-(2^62):Int)<=(c:Int) by omega) (show(c:Int)<2^62 by omega);simp![ni]at r;have u:=fun(i:Int) (h:HI)=>sG (h:=h) (i:=2) (j:=i) (Or.inl ⟨by decide,by decide⟩)
 have H:=uF (te:=pO) (tc:=aB) (i:=0) (fun(k:Nat)=>Dt.int (k:Int)) (fun k=>xA (2*k,2*k+1,-1)) h (List.range c) [none] (by
  intro k _;exact⟨by simp,by simp[pO,u,xA]⟩)
 have e:=MD (l:=[none]) (h:=h) (uA 0) aB pO (xs:=(List.range c).map fun(k:Nat)=>Dt.int (k:Int)) (by simp;omega);rw[H]at e;have E:(List.range c).map (fun k=>xA (2*k,2*k+1,-1))=(SC c).map xA:=by unfold SC;rw[map_map];rfl
 rw[E]at e;obtain⟨y,r0,s⟩:=Bt d o f (ε (.lst (ls.map lB))) none;have a:=(f.grow (.lst ((SC c++ls.flatMap (vC (2*c+1))).map xA)::r0)).len;have g:=uO (c:=c) nofun (h++.lst ((SC c++ls.flatMap (vC (2*c+1))).map xA)::r0);have D:(ls.flatMap (vC (2*c+1))).length<=2*ls.length:=by
  clear s g e a
  induction ls with
  | nil=>simp
  | cons x ls ih=>rw[flatMap_cons,je,T4];have:(vC (2*c+1) x).length=2:=rfl;have:=ih (by simp at o;omega);omega
 have pl:(LA c).length<=10000:=by have:=JI c c;have J:c*c<=100*100:=Ji d d;unfold LA;omega
 obtain⟨I,rest,e2⟩:=Wf (b:=(h++Ob.lst ((SC c++ls.flatMap (vC (2*c+1))).map xA)::r0).length) d C f (F:=SC c++ls.flatMap (vC (2*c+1))) (by simp[SC]at D ⊢;omega) (r0:=r0++[.lst ((LA c).map pA)]) (fun G r2=>by
  have:h++Ob.lst (G.map xA)::(r0++[Ob.lst ((LA c).map pA)]++r2)=(h++Ob.lst (G.map xA)::r0)++Ob.lst ((LA c).map pA)::r2:=by simp
  rw[this,Zu ⋯];simp) (ε (.lst (ls.map lB))) y pl (fun p hp=>DS hp)
 refine⟨rest,?_⟩;have q:(h++Ob.lst ((SC c++ls.flatMap (vC (2*c+1))).map xA)::r0)++[Ob.lst ((LA c).map pA)]=h++Ob.lst ((SC c++ls.flatMap (vC (2*c+1))).map xA)::(r0++[Ob.lst ((LA c).map pA)]):=by simp
 rw[q]at g;have B:=LD (h:=h++Ob.lst ((SC c++ls.flatMap (vC (2*c+1))).map xA)::(r0++[Ob.lst ((LA c).map pA)])) (n:=(h++Ob.lst ((SC c++ls.flatMap (vC (2*c+1))).map xA)::r0).length) (xs:=(LA c).map pA) (by
  rw[<- q,Zu (Us _),Di];rfl)
 unfold fC;dsimp![QH,qY,Uo,Wo,Xe,Wu,NA,HB,OO,rH,RB,Te,nl,a,r,jD,gD,e,Vi,Uu,UA,FC,iC,sF,cE,s,FA,AA,zA,Ui,g,B,e2,cB,rB]
def HP(f)(m)(a:i≠j):AB f i m j i j=f i j&&&m:=by unfold AB DB;have:¬i=j:=a;simp[this]
def aq(f)(i m j):AB f i m j j i=Zo (f i j&&&m):=by unfold AB DB;simp
def dH(f)(h1:¬(a=i/\b=j))(h2:¬(a=j/\b=i)):AB f i m j a b=f a b:=by
 unfold AB DB;by_cases g:a=j
 . by_cases e2:b=i
   . exact Ea ⟨g,e2⟩ h2
   . rw[dz g,eG e2];by_cases d:a=i
     . by_cases e:b=j
       . exact Ea ⟨d,e⟩ h1
       . rw[dz d,eG e]
     . rw[eG d]
 . rw[eG g];by_cases d:a=i
   . by_cases e:b=j
     . exact Ea ⟨d,e⟩ h1
     . rw[dz d,eG e]
   . rw[eG d]
def mW(h:ND c f):lD c f [] []:=fun i e k a j b d n=>Ea (h i e k a j b d) n
def LX(o:WA c f)(I:x<c)(hz:z<c)(M:x≠z)(b)(h:lD c f W []):lD c (AB f x b z) (W++[(x,z)]) []:=by
 have E:=nH o I hz M b;have e:∀i<c,∀k<c,∀j<c,WF i k j->¬(i=z/\j=x)->Wa (AB f x b z) i k j≠AB f x b z i j->tD (W++[(x,z)]) i k j:=by
  intro i r k g j p d y m;obtain⟨u,e2,s⟩:=d;have grow:∀{i k j},tD W i k j->tD (W++[(x,z)]) i k j:=by
   intro i k j q;unfold tD at q ⊢;simp![Bo];rcases q with q | q | q | q
   . exact .inl (.inl q)
   . exact .inr (.inl (.inl q))
   . exact .inr (.inr (.inl (.inl q)))
   . exact .inr (.inr (.inr (.inl q)))
  have un:∀{i k j},Wa f i k j≠f i j->i<c->k<c->j<c->WF i k j->tD W i k j:=by
   intro i k j n r g p d;rcases h i r k g j p d n with q | q | q
   . exact q
   . cases q
   . cases q
  by_cases D:i=x/\j=z
  . obtain⟨rfl,rfl⟩:=D;have C:AB f i b j i k=f i k:=dH f (fun q=>e2 q.2) (fun q=>u q.2.symm);have B:AB f i b j k j=f k j:=dH f (fun q=>u q.1.symm) (fun q=>e2 q.1);have n:Wa f i k j≠f i j:=by intro q;apply m;unfold Wa;rw[C,B,HP f b s];exact vY (CL (f i j) _) q
    exact grow (un n r g p ⟨u,e2,s⟩)
  . by_cases a:tD [(x,z)] i k j
    . unfold tD at a ⊢;simp![Bo];rcases a with q | q | q | q
      . exact .inl (.inr q)
      . exact .inr (.inl (.inr q))
      . exact .inr (.inr (.inl (.inr q)))
      . exact .inr (.inr (.inr (.inr q)))
    . unfold tD at a;simp![Ba,not_mem_nil,or_false,vo,not_or]at a;obtain⟨L,g2,g3,J⟩:=a;have H:AB f x b z i j=f i j:=dH f (fun q=>D q) (fun q=>y q);have C:AB f x b z i k=f i k:=dH f (fun q=>L q) (fun q=>g2 ⟨q.2,q.1⟩);have B:AB f x b z k j=f k j:=dH f (fun q=>g3 q) (fun q=>J ⟨q.2,q.1⟩);have n:Wa f i k j≠f i j:=by unfold Wa at m ⊢;rw[H,C,B]at m;exact m
      exact grow (un n r g p ⟨u,e2,s⟩)
 intro i r k g j p d m
 left
 by_cases y:i=z/\j=x
 . obtain⟨u,e2,s⟩:=d;have F:=JS E p g r m;have q:=e j p k g i r ⟨m8 e2,m8 u,m8 s⟩ (fun q=>s nofun) F;unfold tD at q ⊢;rcases q with q | q | q | q
   . exact .inr (.inr (.inr q))
   . exact .inr (.inr (.inl q))
   . exact .inr (.inl q)
   . exact .inl q
 . exact e i r k g j p d y m
theorem GW:∀(e:Oe EB)(_:∀m∈e,kC c m)(f:Nat->Nat->Nat)(p:Nat)(W:Oe (Nat×Nat)),WA c f->lD c f W []->lD c (VD f k e p) (W++e.map fun m=>(m.1,m.2.2)) []
 | [],_,f,p,W,o,h=>by simpa[VD]using h
 | m::e,hm,f,p,W,o,h=>by obtain⟨a,b,d,_⟩:=hm m ⋯;have:=GW (k:=k) e (fun x g=>hm x (by simp[g])) _ (p+1) _ (nH o a b d (if p=k then m.2.1 else wn m.2.1)) (LX o a b d (if p=k then m.2.1 else wn m.2.1) h);rw[n7]at this;exact this
inductive Tr where
 | ag (st:List (Nat×Nat×Nat))
 | ring (st:List (Nat×Nat×Nat)) (cs:Nat->Option Nat) (P k:Nat)
 | one (st:List (Nat×Nat×Nat)) (bs:List Tr)
 | split (st:List (Nat×Nat×Nat)) (p:Nat×Nat) (bs:List Tr)
inductive wm where
 | opn
 | laid (t:Nat->Int)
 | clash (tr:Tr)
inductive Wd where | opn | laid | clash
noncomputable def wm.wd:wm->Wd
 | .opn=>.opn
 | .laid _=>.laid
 | .clash _=>.clash
noncomputable def KQ(tag:Oo (Nat×Nat))(st:Oe (Nat×Nat×Nat))(bs:Oe Tr):Tr:=match tag with
 | none=>.one st bs
 | some p=>.split st p bs
noncomputable abbrev EA:=Nat->Nat->Nat
def uE(L:EA->Oe (Oe EB)->Nat->wm->Nat->Prop)(tag:Oo (Nat×Nat))(st:Oe (Nat×Nat×Nat))(e:Oe (Oe EB)):Oe EA->Nat->Oe Tr->wm->Nat->Prop
 | [],made,acc,a,cr=>a=.clash (KQ tag st acc)/\cr=made
 | b::bs,made,acc,a,cr=>(∃f d,L b e made (.clash f) d/\uE L tag st e bs d (acc++[f]) a cr)\/(a.wd≠.clash/\L b e made a cr)
def AC(c m:Nat)(ls:Oe Ln):Nat->EA->Oe (Oe EB)->Nat->wm->Nat->Prop
 | 0,_,_,_,_,_=>False
 | n+1,f,gs,made,a,cr=>
  (∃st g,vk c f st g/\uB c g=true/\a=.clash (.ag st)/\cr=made)\/
  ∃st g,bo c f st g/\
   ((∃d P k,kI (2*c) (nC (fC c g ls)) (iL (fC c g ls)) d P k/\a=.clash (.ring st d P k)/\cr=made)\/
    (∃t,(∀e∈fC c g ls,WE t e)/\
     ((qC c g gs=none/\a=.laid t/\cr=made)\/
      (∃b bs h,qC c g gs=ε (b,bs,h)/\
       ((m<=made/\a=.opn/\cr=made)\/(made<m/\uE (AC c m ls n) b st gs.tail bs (made+1) [] a cr))))))
def bc(c:Nat)(a:Oe (Oe EB)):Prop:=∀x∈a,∀m∈x,kC c m
def bc.tail(h:bc c a):bc c a.tail:=fun x b=>h x (mem_of_mem_tail b)
def yM(o:WA c g)(ok:bc c a)(h:qC c g a=ε (tag,bs,ps)):∀b∈bs,WA c b:=by
 cases a with
 | cons grp a=>simp![qC,Fo,vo]at h;obtain⟨_,rfl,_⟩:=h;intro b d;obtain⟨k,_,rfl⟩:=Bs.mp d;exact TR grp (ok grp ⋯) g 0 o
 | nil=>
  simp![qC]at h;cases lp:iE c g with
  | none=>rw[lp]at h;cases h
  | some p=>rw[lp]at h;simp![Fo,vo]at h;obtain⟨_,rfl,_⟩:=h;intro b d;obtain⟨w,_,rfl⟩:=Bs.mp d;have hp:p∈LA c:=Ai lp;obtain⟨q1,q2⟩:=az.mp hp;exact nH o nofun nofun nofun _
def lS(R:kI (2*c) (nC (fC c g ls)) (iL (fC c g ls)) cs P k)(a:∀e∈fC c g ls,WE t e):False:=
 WZ (b:=t) (fun e d=>by have:=a e d;unfold WE at this;omega) R
theorem CI:∀n f E made a y s s',WA c f->bc c E->AC c m ls n f E made a s->AC c m ls n f E made y s'->a.wd=y.wd/\s=s'
 | 0,_,_,_,_,_,_,_,_,_,h,_=>h.elim
 | n+1,f,E,made,a,y,s,s',of,og,h,e=>by
  rcases h with⟨st,g,L,h2,rfl,rfl⟩ | ⟨st,g,L,h⟩
  . rcases e with⟨p,U,D,k2,rfl,rfl⟩ | ⟨p,U,D,e⟩
    . exact⟨rfl,rfl⟩
    . have:=D.cq of L;rw[h2]at this;cases this
  . rcases e with⟨p,U,D,k2,rfl,rfl⟩ | ⟨p,U,D,e⟩
    . have:=L.cq of D;rw[k2]at this;cases this
    . have eg:=L.unique of D;subst eg;have Q:=(L.ok of).1;rcases h with⟨cs,P,k,R,rfl,rfl⟩ | ⟨t,ht,h⟩
      . rcases e with⟨W,P',k',R',rfl,rfl⟩ | ⟨t',J,e⟩
        . exact⟨rfl,rfl⟩
        . exact(lS R J).elim
      . rcases e with⟨W,P',k',R',rfl,rfl⟩ | ⟨t',J,e⟩
        . exact(lS R' ht).elim
        . rcases h with⟨I,rfl,rfl⟩ | ⟨H,bs,ps,I,h⟩
          . rcases e with⟨d,rfl,rfl⟩ | ⟨F,Y,O,d,e⟩
            . exact⟨rfl,rfl⟩
            . rw[I]at d;cases d
          . rcases e with⟨d,rfl,rfl⟩ | ⟨F,Y,O,d,e⟩
            . rw[I]at d;cases d
            . rw[I]at d;cases d;rcases h with⟨lm,rfl,rfl⟩ | ⟨lm,h⟩
              . rcases e with⟨B,rfl,rfl⟩ | ⟨B,e⟩
                . exact⟨rfl,rfl⟩
                . omega
              . rcases e with⟨B,rfl,rfl⟩ | ⟨B,e⟩
                . omega
                . have Z:=yM Q og I;have go:∀(bs:Oe EA),(∀b∈bs,WA c b)->∀(u:Nat)(C o:Oe Tr)(a y:wm)(s s':Nat),uE (AC c m ls n) H st E.tail bs u C a s->uE (AC c m ls n) H p E.tail bs u o y s'->a.wd=y.wd/\s=s':=by
                   intro bs
                   induction bs with
                   | nil=>rintro _ u C o a y s s' ⟨rfl,rfl⟩ ⟨rfl,rfl⟩;exact⟨rfl,rfl⟩
                   | cons b bs ih=>
                    intro hb u C o a y s s' q q';have r:=hb b ⋯;have T:∀x∈bs,WA c x:=fun x hx=>hb x (by simp[hx])
                    rcases q with⟨tr,m1,q1,q2⟩ | ⟨q1,q2⟩
                    . rcases q' with⟨M,S,j,i⟩ | ⟨j,i⟩
                      . obtain⟨_,rfl⟩:=CI n b _ u _ _ _ _ r og.tail q1 j;exact ih T _ _ _ _ _ _ _ q2 i
                      . obtain⟨z,_⟩:=CI n b _ u _ _ _ _ r og.tail q1 i;exact Ea z.symm j
                    . rcases q' with⟨M,S,j,i⟩ | ⟨j,i⟩
                      . obtain⟨z,_⟩:=CI n b _ u _ _ _ _ r og.tail q2 j;exact Ea z q1
                      . exact CI n b _ u _ _ _ _ r og.tail q2 i
                  exact go bs Z _ _ _ _ _ _ _ h e
mutual
noncomputable def Ze(lo:Nat)(h:HI):Tr->Dt->Prop
 | .ag st,d=>∃s,d=.tup [.str "threes", .ref s]/\lo<=s/\h[s]?=ε (.lst (st.map pC))
 | .ring st cs P k,d=>∃s r,d=.tup [.str "ring", .ref s,.ref r]/\lo<=s/\lo<=r/\h[s]?=ε (.lst (st.map pC))/\h[r]?=ε (.lst (JC cs P k))
 | .one st bs,d=>∃s r ds,d=.tup [.str "one", .ref s,.ref r]/\lo<=s/\lo<=r/\h[s]?=ε (.lst (st.map pC))/\h[r]?=ε (.lst ds)/\Ys lo h bs ds
 | .split st p bs,d=>∃s r ds,d=.tup [.str "split", .ref s,.int (p.1:Nat),.int (p.2:Nat),.ref r]/\lo<=s/\lo<=r/\h[s]?=ε (.lst (st.map pC))/\h[r]?=ε (.lst ds)/\Ys lo h bs ds
noncomputable def Ys(lo:Nat)(h:HI):Oe Tr->Oe Dt->Prop
 | [],ds=>ds=[]
 | t::ts,ds=>∃d r,ds=d::r/\Ze lo h t d/\Ys lo h ts r
end
def CU(lo:Nat)(h h':HI):Prop:=∀(n:Nat)(a:Oe Dt),lo<=n->h[n]?=ε (.lst a)->h'[n]?=ε (.lst a)
mutual
theorem Ze.up{lo a:Nat}(g:a<=lo){h h':HI}(u:CU lo h h'):∀(t:Tr){d:Dt},Ze lo h t d->Ze a h' t d
 | .ag st,d,q=>by simp![Ze]at q ⊢;obtain⟨s,e,l,q⟩:=q;exact⟨s,e,by omega,u _ _ l q⟩
 | .ring st cs P k,d,q=>by simp![Ze]at q ⊢;obtain⟨s,r,e,f,b,q1,q2⟩:=q;exact⟨s,r,e,by omega,by omega,u _ _ f q1,u _ _ b q2⟩
 | .one st bs,d,q=>by simp![Ze]at q ⊢;obtain⟨s,r,ds,e,f,b,q1,q2,q3⟩:=q;exact⟨s,r,ds,e,by omega,by omega,u _ _ f q1,u _ _ b q2,Ys.up g u bs q3⟩
 | .split st p bs,d,q=>by simp![Ze]at q ⊢;obtain⟨s,r,ds,e,f,b,q1,q2,q3⟩:=q;exact⟨s,r,ds,e,by omega,by omega,u _ _ f q1,u _ _ b q2,Ys.up g u bs q3⟩
theorem Ys.up{lo a:Nat}(f:a<=lo){h h':HI}(u:CU lo h h'):∀(b:Oe Tr){ds:Oe Dt},Ys lo h b ds->Ys a h' b ds
 | [],ds,q=>by simp![Ys]at q ⊢;exact q
 | t::b,ds,q=>by simp![Ys]at q ⊢;obtain⟨d,r,e,q1,q2⟩:=q;exact⟨d,r,e,Ze.up f u t q1,Ys.up f u b q2⟩
end
theorem Ys.snoc{lo:Nat}{h:HI}{t:Tr}{d:Dt}(a:Ze lo h t d):∀b{ds:Oe Dt},Ys lo h b ds->Ys lo h (b++[t]) (ds++[d])
 | [],ds,q=>by simp![Ys]at q;subst q;simp![Wu,Ys];exact⟨d,[],rfl,a,rfl⟩
 | t'::b,ds,q=>by simp![Ys]at q;obtain⟨e,r,rfl,q1,q2⟩:=q;simp![Xe,Ys];exact⟨e,r++[d],rfl,q1,Ys.snoc a b q2⟩
noncomputable def DD(c:Nat)(u:Nat->Int):Oe Dt:=(List.range c).map fun k=>.tup [.int (u (2*k)),.int (u (2*k+1))]
def bu(lo:Nat)(h:HI)(c:Nat):wm->Dt->Prop
 | .opn,d=>d=.tup [.str "open", .non]
 | .laid t,d=>d=.tup [.str "laid", .lst (DD c (dB (2*c) t))]
 | .clash tr,d=>∃x,d=.tup [.str "clash",x]/\Ze lo h tr x
def bu.up{lo b:Nat}(g:b<=lo)(u:CU lo h h')(q:bu lo h c a d):bu b h' c a d:=by
 cases a with
 | opn=>exact q
 | laid t=>exact q
 | clash f=>obtain⟨x,e,q⟩:=q;exact⟨x,e,Ze.up g u f q⟩
def Xw(p:c<=100)(u)(h):bO [.lst (UB (2*c) u)] h=ε (.lst (DD c u),h):=by
 have j:V7 2 (.int 0) (.int ((2*c:Nat):Int),h)=ε (.vals ((List.range c).map fun(k:Nat)=>Dt.int (0+(k:Int)*(2:Nat))),h):=by
  have n:((((2*c:Nat):Int)-0+((2:Nat):Int)-1)/((2:Nat):Int)).toNat=c:=by omega
  have o:(0:Int)<=0/\(0:Int)<2^61/\0<=((2*c:Nat):Int)/\((2*c:Nat):Int)<2^61/\0<2/\2<1000:=by omega
  simp![V7,dz o,n]
 have m:=uF (te:=UN) (tc:=aB) (i:=0) (fun(k:Nat)=>Dt.int (0+(k:Int)*(2:Nat))) (fun k=>Dt.tup [.int (u (2*k)),.int (u (2*k+1))]) h (List.range c) [none,ε (.lst (UB (2*c) u))] (by
  intro k a;have a:=Bu.mp a;refine⟨by simp,?_⟩;have g:(0:Int)+(k:Int)*((2:Nat):Int)=((2*k:Nat):Int):=by omega
  have g2:((2*k:Nat):Int)+1=((2*k+1:Nat):Int):=by omega
  have f:=VO u (show 2*k<2*c by omega);have e:=VO u (show 2*k+1<2*c by omega);rw[g];simp![UN,ED,AA,zA,sA,qA,gA,Uu,Ss,Te,iA,eA,UE,g2,fJ,SM.BD,f,e,Vs];rfl)
 have b:=MD (l:=[none,ε (.lst (UB (2*c) u))]) (h:=h) (uA 0) aB UN (xs:=(List.range c).map fun(k:Nat)=>Dt.int (0+(k:Int)*(2:Nat))) (by simp[sizeLine];omega);rw[m]at b;have d:=WR (2*c) u;dsimp![bO,FV,Uo,Wo,Ui,cB,GD,Yx,qA,RB,PM,d,j,jD,bF,gD,Ls,b,rB];rfl
def g6(h:HI)(d:Dt)(P:Oe (Nat×Nat)):Prop:=d=.lst (P.map pA)\/∃n,d=.ref n/\h[n]?=ε (.lst (P.map pA))
def g6.seq(q:g6 h d P)(e):sD (h++e) d=ε (P.map pA):=by
 rcases q with rfl | ⟨n,rfl,q⟩
 . rfl
 . have:=(Up.app h e).get q;simp![sD,BA,this]
def ar (h:HI) (o:Nat) (ls:Oe Ln) (m made:Nat):Prop:=h[o]?=ε (.ins "Search" [("lengths", .lst (ls.map lB)),("most", .int (m:Nat)),("made", .int (made:Nat))])
def ar.up(u:Up h h')(s:ar h o ls m made):ar h' o ls m made:=u.get s
def HS(a:m<8192)(h:m≠0):QA m ≠ []:=by
 intro e;apply h;refine SH a (by decide) fun k b=>?_
 cases z:m.testBit k with
 | false=>simp
 | true=>have:k∈QA m:=bm.mpr ⟨b,z⟩;rw[e]at this;cases this
def Kc(o:WA c g)(ne:uB c g=false):∀i j,i<c->j<c->QA (g i j) ≠ []:=fun i j b a=>HS (o.lt i b j a) (cq ne b a)
def HY(h:p∈LA c):p.1<p.2/\p.2<c:=by unfold LA GB at h;obtain⟨i,b,h⟩:=Mu.mp h;obtain⟨k,a,rfl⟩:=Bs.mp h;have:=Bu.mp b;have:=Bu.mp a;exact⟨by show i<i+1+k;omega,by show i+1+k<c;omega⟩
def Xd(h1:i<j)(h2:j<c):(i,j)∈LA c:=by unfold LA GB;refine Mu.mpr ⟨i,Bu.mpr nofun,Bs.mpr ⟨j-i-1,Bu.mpr nofun,?_⟩⟩;rw[show i+1+(j-i-1)=j by omega]
def Z3(h:e∈QG p q a b d):(e.1=p/\e.2.1=q)\/(e.1=q/\e.2.1=p):=by
 unfold QG at h;rcases Bo.mp h with h | h
 . split at h
   . rw[Ao.mp h];exact .inl ⟨rfl,rfl⟩
   . exact nomatch h
 . split at h
   . rw[Ao.mp h];exact .inr ⟨rfl,rfl⟩
   . exact nomatch h
def L0(h:e∈QE i j side m):∃z,z<2/\((e.1=2*i+side/\e.2.1=2*j+z)\/(e.1=2*j+z/\e.2.1=2*i+side)):=by
 unfold QE at h;rcases Bo.mp h with h | h
 . exact⟨0,by omega,Z3 h⟩
 . exact⟨1,by omega,Z3 h⟩
def aT(N)(g:∀x∈ls,x.1<c):∀e∈fC c N ls,e.1<2*c/\e.2.1<2*c/\e.1≠e.2.1:=by
 intro e he;unfold fC at he;rcases Bo.mp he with he | he
 . rcases Bo.mp he with he | he
   . obtain⟨i,h,rfl⟩:=Bs.mp he;have:=Bu.mp h;refine⟨?_,?_,?_⟩<;>simp only<;>omega
   . obtain⟨x,f,he⟩:=Mu.mp he;have:=g x f;unfold vC at he;simp![Ba,not_mem_nil,or_false]at he;rcases he with rfl | rfl
     . refine⟨?_,?_,?_⟩<;>simp only<;>omega
     . refine⟨?_,?_,?_⟩<;>simp only<;>omega
 . obtain⟨p,hp,he⟩:=Mu.mp he;obtain⟨k,j⟩:=HY hp;unfold zD at he;rcases Bo.mp he with he | he
   . obtain⟨z,d,⟨a,b⟩ | ⟨a,b⟩⟩:=L0 he
     . rw[a,b];omega
     . rw[a,b];omega
   . obtain⟨z,d,⟨a,b⟩ | ⟨a,b⟩⟩:=L0 he
     . rw[a,b];omega
     . rw[a,b];omega
theorem yS{a b:Type}(f:a->Oe b)(n):∀(xs:Oe a)(_:∀x∈xs,(f x).length<=n),(xs.flatMap f).length<=n*xs.length
 | [],_=>by simp
 | x::xs,h=>by have:=yS f n xs (fun y d=>h y (by simp[d]));have:=h x ⋯;rw[flatMap_cons,je,T4,Nat.mul_succ];omega
def sS(a:c<=8)(N)(b:ls.length<=100):(fC c N ls).length<=1000:=by
 unfold fC;rw[je,je];have i:(SC c).length=c:=by simp[SC]
 have h:=yS (vC (2*c+1)) 2 ls (fun x q=>Us _);have g:=yS (fun p:Nat×Nat=>zD p.1 (N p.1 p.2) p.2) 8 (LA c) (fun x q=>by
  unfold zD;rw[je];have:=oM x.1 x.2 0 (N x.1 x.2);have:=oM x.1 x.2 1 (N x.1 x.2);omega)
 have f:=JI c c;have d:c*c<=8*8:=Ji a a;have e:(LA c).length<=64:=by unfold LA;omega
 omega
def l6(f:∀m,m<h.length->h'[m]?=h[m]?):Up h h':=by refine⟨?_,f⟩;apply Classical.byContradiction;intro n;have e:=f h'.length nofun;rw[ju (Us _),ji nofun]at e;cases e
def rn(q:ax h ds b):ax h (ds.drop 1) b.tail:=by
 cases q with
 | nil=>exact .nil
 | cons a r=>exact r
def Pz:mD "lengths" [("lengths",x),("most",y),("made",z)]=ε x:=by rfl
def l9:mD "most" [("lengths",x),("most",y),("made",z)]=ε y:=by
 have:¬((("most" :Str))=(("lengths" :Str))):=by decide +kernel
 simp![mD,eG this,eH]
def A2:mD "made" [("lengths",x),("most",y),("made",z)]=ε z:=by
 have b:¬((("made" :Str))=(("lengths" :Str))):=by decide +kernel
 have a:¬((("made" :Str))=(("most" :Str))):=by decide +kernel
 simp![mD,eG b,eG a,eH]
def kZ:mD "look" [("lengths",x),("most",y),("made",z)]=none:=by
 have d:¬((("look" :Str))=(("lengths" :Str))):=by decide +kernel
 have b:¬((("look" :Str))=(("most" :Str))):=by decide +kernel
 have a:¬((("look" :Str))=(("made" :Str))):=by decide +kernel
 simp![mD,eG d,eG b,eG a]
def m9:mD "look_at_branches" [("lengths",x),("most",y),("made",z)]=none:=by
 have d:¬((("look_at_branches" :Str))=(("lengths" :Str))):=by decide +kernel
 have b:¬((("look_at_branches" :Str))=(("most" :Str))):=by decide +kernel
 have a:¬((("look_at_branches" :Str))=(("made" :Str))):=by decide +kernel
 simp![mD,eG d,eG b,eG a]
def Lq:AE "made" v [("lengths",x),("most",y),("made",z)]=([("lengths",x),("most",y),("made",v)]:Oe (Str×Dt)):=by
 have b:¬((("lengths" :Str))=(("made" :Str))):=by decide +kernel
 have a:¬((("most" :Str))=(("made" :Str))):=by decide +kernel
 simp![AE,eG b,eG a,eH]
def o_c:decide ((("open" :Str))=(("clash" :Str)))=false:=by decide +kernel
def K7:decide ((("laid" :Str))=(("clash" :Str)))=false:=by decide +kernel
def t_r:decide ((("times" :Str))=(("ring" :Str)))=false:=by decide +kernel
def ro(c m:Nat)(ls:Oe Ln)(n:Nat)(f:EA)(e:Oe (Oe EB))(made o:Nat)(h:HI)(r:Oo (Dt×HI)):Prop:=
 ∃d b a s,r=ε (d,b)/\AC c m ls n f e made a s/\bu h.length b c a d/\vl h b/\ar b o ls m s
structure Hz(c m:Nat)(ls:List Ln)(n:Nat)(f:EA)(gs:List (List EB))(gds:List Dt)(made b o:Nat)(pd:Dt)(P:List (Nat×Nat))(h:HI):Prop where
 ex:∃a s,AC c m ls n f gs made a s
 of:WA c f
 og:bc c gs
 sg:∀x∈gs,x.length<=1000
 net:Vo h b c f
 grp:ax h gds gs
 prs:g6 h pd P
 pc:∀p∈P,p.1<c/\p.2<c/\p.1≠p.2
 wt:lD c f P []
 lp:P.length<=1000
 ob:ar h o ls m made
def mT(c m:Nat)(ls:Oe Ln)(n:Nat):Prop:=∀(f:EA)(e:Oe (Oe EB))(a:Oe Dt)(made b o:Nat)(d:Dt)(P:Oe (Nat×Nat))(h:HI),Hz c m ls n f e a made b o d P h->ro c m ls n f e made o h (aF n [.ref o,.ref (b+c),d,.lst a] h)
def Rq(tag)(a)(ps)(k):kA (TC tag a ps) (.int 2) k=ε (.lst a,k):=by cases tag<;>rfl
def Sq(tag)(a)(ps)(k):kA (TC tag a ps) (.int 3) k=ε (.lst (ps.map pA),k):=by cases tag<;>rfl
def Vn(IH:mT c m ls n){st st0:Oe (Nat×Nat×Nat)}(og:bc c C)(sg:∀x∈C,x.length<=1000)(G0:ax hB gds C)(pc:∀p∈ps,p.1<c/\p.2<c/\p.1≠p.2)(lp:ps.length<=1000) :
 ∀bs M made i D f h y5 Y a0 s0,uE (AC c m ls n) tag st0 C bs made D a0 s0->(∀b∈bs,WA c b)->(∀b∈bs,lD c b ps [])->ah (ce hB c) bs M->vl hB h->h[hB.length]?=ε (.lst f)->Ys (hB.length+1) h i f->f.length+bs.length<=5000->ar h o ls m made->
  ∃r,JB (uA 5) (mL (aF n)) M [ε (.ref o),ε (TC tag ej ps),ε (.ref sr),ε (.lst gds),ε (.ref hB.length),y5,Y] h=ε r/\
   ((∃W S j u H I,r=.nx [ε (.ref o),ε (TC tag ej ps),ε (.ref sr),ε (.lst gds),ε (.ref hB.length),W,S] j/\vl hB j/\j[hB.length]?=ε (.lst H)/\Ys (hB.length+1) j u H/\ar j o ls m I/\uE (AC c m ls n) tag st C bs made i (.clash (KQ tag st u)) I)\/
    (∃d j a I,r=.rt d j/\vl hB j/\bu (hB.length+1) j c a d/\ar j o ls m I/\a.wd≠.clash/\uE (AC c m ls n) tag st C bs made i a I)):=by
 intro bs
 induction bs with
 | nil=>intro M made i D f h y5 Y a0 s0 q _ _ A U hb T _ O;cases A;exact⟨_,rfl,.inl ⟨y5,Y,h,i,f,made,rfl,U,hb,T,O,rfl,rfl⟩⟩
 | cons b bs ih=>
  intro M made i D f h y5 Y a0 s0 q J a2 A U hb T sz O;cases A with
  | @cons _ nd _ a3 a4 A=>
  have a5:hB.length+1<=h.length:=(Wk hb).1;obtain⟨b1,rfl,N1⟩:=a4;have a7:∃a s,AC c m ls n b C made a s:=by
   rcases q with⟨tr,m1,q1,_⟩ | ⟨_,q2⟩
   . exact⟨_,_,q1⟩
   . exact⟨_,_,q2⟩
  obtain⟨d,E,a,s,e,L,AN,U1,O1⟩:=IH b C gds made b1 o (.lst (ps.map pA)) ps h ⟨a7,J b ⋯,og,sg,U.net N1,G0.up U,.inl rfl,pc,a2 b ⋯,lp,O⟩;have mt:=SR (x := "Search") (m := "look") (F:=aF n) (ga:=bA (eV 5) (bA (e2 kA (eV 1) (wq 3)) (bA (eV 3) dA))) (l:=[ε (.ref o),ε (TC tag ej ps),ε (.ref sr),ε (.lst gds),ε (.ref hB.length),ε (.ref (b1+c)),Y]) O kZ;have ev:iJ "Search" "look" (aF n) (eV 0) (bA (eV 5) (bA (e2 kA (eV 1) (wq 3)) (bA (eV 3) dA))) [ε (.ref o),ε (TC tag ej ps),ε (.ref sr),ε (.lst gds),ε (.ref hB.length),ε (.ref (b1+c)),Y] h=ε (d,E):=by simp![AT,gA,Ss,iA,eA,mt,AA,zA,sA,qA,Te,Sq,e]
  cases a with
  | opn=>have dd:d=.tup [.str "open", .non]:=AN;refine⟨.rt d E,?_,.inr ⟨d,E,.opn,s,rfl,U.trans U1,AN,O1,(fun z=>by cases z),.inr ⟨(fun z=>by cases z),L⟩⟩⟩;subst dd;simp![JB,WD,Wi,Vi,Uu,mL,NA,HB,ev,eA,UA,xB,HA,sA,gA,qA,Ss,Te,iA,XB,BC,Vs,gQ,o_c,um,JA,eH,cB,FD,OT]
  | laid t=>have dd:d=.tup [.str "laid", .lst (DD c (dB (2*c) t))]:=AN;refine⟨.rt d E,?_,.inr ⟨d,E,.laid t,s,rfl,U.trans U1,AN,O1,(fun z=>by cases z),.inr ⟨(fun z=>by cases z),L⟩⟩⟩;subst dd;simp![JB,WD,Wi,Vi,Uu,mL,NA,HB,ev,eA,UA,xB,HA,sA,gA,qA,Ss,Te,iA,XB,BC,Vs,gQ,K7,um,JA,eH,cB,FD,OT]
  | clash tr=>
   obtain⟨x,rfl,TA⟩:=AN;have Q:=U1.2 _ _ hb;obtain⟨h2,P⟩:∃h2:HI,h2=E.set hB.length (.lst (f++[x])):=⟨_,rfl⟩
   have l1:hB.length<E.length:=(Wk Q).1;have g2:∀k,k≠hB.length->h2[k]?=E[k]?:=fun k B=>by rw[P,lu (m8 B)]
   have U2:vl hB h2:=⟨by rw[P,Ku];exact rz U.1 U1.1,fun k Z B=>by
    have kl:=(Wk B).1;rw[g2 k nofun];exact U1.2 _ _ (U.2 _ _ B),fun k Z B=>by
    have kl:=(Wk B).1;rw[g2 k nofun];exact U1.3 _ _ (U.3 _ _ B)⟩
   have F2:CU (hB.length+1) E h2:=fun k Z B hx=>by rw[g2 k nofun];exact hx
   have a6:h2[hB.length]?=ε (.lst (f++[x])):=by rw[P,su l1]
   have O2:ar h2 o ls m s:=by
    have:o≠hB.length:=by intro z;unfold ar at O1;rw[z,Q]at O1;cases O1
    unfold ar;rw[g2 o this];exact O1
   have T2:Ys (hB.length+1) h2 (i++[tr]) (f++[x]):=Ys.snoc (Ze.up a5 (fun k Z B hx=>F2 k Z nofun hx) tr TA) i (Ys.up (Us _) (fun k Z B hx=>F2 k Z B (U1.2 _ _ hx)) i T);have ap:=fG (l:=[ε (.ref o),ε (TC tag ej ps),ε (.ref sr),ε (.lst gds),ε (.ref hB.length),ε (.ref (b1+c)),ε (.tup [.str "clash",x])]) (h:=E) (g:=e2 kA (eV 6) (wq 1)) (d:=x) Q ⋯ Q (by simp at sz;simp[sizeLine];omega);rw[<- P]at ap;obtain⟨a1,s1,R,q3⟩:∃a1 s1 R,uE (AC c m ls n) tag st0 C bs s R a1 s1:=by
    rcases q with⟨a8,m1,q1,q2⟩ | ⟨q1,q2⟩
    . obtain⟨_,z⟩:=CI n b C made _ _ _ _ (J b ⋯) og q1 L;subst z;exact⟨_,_,_,q2⟩
    . obtain⟨z,_⟩:=CI n b C made _ _ _ _ (J b ⋯) og q2 L;exact Ea z q1
   obtain⟨r,e3,er⟩:=ih a3 s (i++[tr]) R (f++[x]) h2 (ε (.ref (b1+c))) (ε (.tup [.str "clash",x])) a1 s1 q3 (fun y hy=>J y (by simp[hy])) (fun y hy=>a2 y (by simp[hy])) A U2 a6 T2 (by simp at sz ⊢;omega) O2;refine⟨r,?_,?_⟩
   . simp![JB,WD,Wi,Vi,Uu,mL,NA,HB,ev,eA,UA,xB,HA,sA,gA,qA,Ss,Te,iA,XB,BC,Vs,gQ,decide_true,uo,JA,Ws,eO,GC,gF,iG,ap,L3];exact e3
   . rcases er with⟨W,S,j,u,H,I,z1,z2,z3,z4,z5,z6⟩ | ⟨d,j,a,I,z1,z2,z3,z4,z5,z6⟩
     . exact .inl ⟨W,S,j,u,H,I,z1,z2,z3,z4,z5,.inl ⟨tr,s,L,z6⟩⟩
     . exact .inr ⟨d,j,a,I,z1,z2,z3,z4,z5,.inl ⟨tr,s,L,z6⟩⟩
def tQ:1<=sizeLine:=by decide
def gL:2<=sizeLine:=by decide
def W6:3<=sizeLine:=by decide
def Mz(IH:mT c m ls n){st st0:Oe (Nat×Nat×Nat)}{o sr lo made:Nat}{s0:Nat}(og:bc c j)(sg:∀x∈j,x.length<=1000)(G0:ax hB gds j)(pc:∀p∈ps,p.1<c/\p.2<c/\p.1≠p.2)(lp:ps.length<=1000)
 (q:uE (AC c m ls n) tag st0 j bs made [] R s0) (H:∀b∈bs,WA c b) (E:∀b∈bs,lD c b ps []) (A:ah (ce hB c) bs f) (lb:bs.length<=4000) (O:ar hB o ls m made) (hs:hB[sr]?=ε (.lst (st.map pC))) (P:lo<=sr) (M:lo<=hB.length) :
 ∃d g a s,JH (aF n) [.ref o,TC tag f ps,.ref sr,.lst gds] hB=ε (d,g)/\uE (AC c m ls n) tag st j bs made [] a s/\bu lo g c a d/\vl hB g/\ar g o ls m s:=by
 have U0:vl hB (hB++[.lst []]):=vl.app _ _;obtain⟨r,e,er⟩:=Vn IH (tag:=tag) (st:=st) (st0:=st0) (ej:=f) (sr:=sr) og sg G0 pc lp bs f made [] [] [] (hB++[.lst []]) none none R s0 q H E A U0 ⋯ (by simp![Ys]) (by simp;omega) (ar.up (Up.app hB [.lst []]) O);have F:=fun k=>Rq tag f ps k
 rcases er with⟨y5,y6,g,h,g7,s,rfl,U,Q,T,u,B⟩ | ⟨d,g,a,s,rfl,U,AN,u,na,B⟩
 . have i:=U.2 _ _ hs;have S:Ys lo g h g7:=Ys.up nofun (fun k W hk I=>I) h T;cases tag with
   | none=>
    refine⟨.tup [.str "clash", .tup [.str "one", .ref sr,.ref hB.length]],g,_,s,?_,B,⟨_,rfl,?_⟩,U,u⟩
    . have L:∀k:HI,eJ (.tup [.str "one", .ref sr]) (.tup []) k=ε (.tup [.str "one", .ref sr],k):=fun z=>rfl
      have J:∀k:HI,eJ (.tup [.str "one", .ref sr]) (.tup [.ref hB.length]) k=ε (.tup [.str "one", .ref sr,.ref hB.length],k):=fun z=>rfl
      have Y:∀x y:Dt,[x,y].length<=sizeLine:=fun z z=>by simp[sizeLine]
      have Z:∀x:Dt,[x].length<=sizeLine:=fun z=>by simp[sizeLine]
      have D:∀k:HI,kA (TC none f ps) (.int 0) k=ε (.str "one",k):=fun z=>rfl
      have C:∀k:HI,kA (TC none f ps) (.int 1) k=ε (.tup [],k):=fun z=>rfl
      dsimp![JH,kL,Uo,Wo,Xe,Wu,NA,HB,WI,zA,m6,Vi,Uu,UA,FC,iC,sA,qA,Te,F,sF,cE,e,cB,ED,AA,D,C,tQ,gL,L,J,rB]
    . show Ze lo g (.one st h) _;simp![Ze];exact⟨sr,hB.length,g7,rfl,P,M,i,Q,S⟩
   | some p=>
    refine⟨.tup [.str "clash", .tup [.str "split", .ref sr,.int (p.1:Nat),.int (p.2:Nat),.ref hB.length]],g,_,s,?_,B,⟨_,rfl,?_⟩,U,u⟩
    . have L:∀k:HI,eJ (.tup [.str "split", .ref sr]) (pA p) k=ε (.tup [.str "split", .ref sr,.int (p.1:Nat),.int (p.2:Nat)],k):=fun z=>rfl
      have J:∀k:HI,eJ (.tup [.str "split", .ref sr,.int (p.1:Nat),.int (p.2:Nat)]) (.tup [.ref hB.length]) k=ε (.tup [.str "split", .ref sr,.int (p.1:Nat),.int (p.2:Nat),.ref hB.length],k):=fun z=>rfl
      have Y:∀x y:Dt,[x,y].length<=sizeLine:=fun z z=>by simp[sizeLine]
      have Z:∀x:Dt,[x].length<=sizeLine:=fun z=>by simp[sizeLine]
      have D:∀k:HI,kA (TC (ε p) f ps) (.int 0) k=ε (.str "split",k):=fun z=>rfl
      have C:∀k:HI,kA (TC (ε p) f ps) (.int 1) k=ε (pA p,k):=fun z=>rfl
      dsimp![JH,kL,Uo,Wo,Xe,Wu,NA,HB,WI,zA,m6,Vi,Uu,UA,FC,iC,sA,qA,Te,F,sF,cE,e,cB,ED,AA,D,C,tQ,gL,L,J,rB]
    . show Ze lo g (.split st p h) _;simp![Ze];exact⟨sr,hB.length,g7,rfl,P,M,i,Q,S⟩
 . refine⟨d,g,a,s,?_,B,AN.up nofun (fun k W hk I=>I),U,u⟩;dsimp![JH,kL,Uo,Wo,Xe,Wu,NA,HB,WI,zA,m6,Vi,Uu,UA,FC,iC,sA,qA,Te,F,sF,cE,e,FD,rB]
def Rm(o:WA c g)(m:ND c g)(ok:bc c e)(sg:∀x∈e,x.length<=1000)(h:qC c g e=ε (tag,bs,ps)):(∀p∈ps,p.1<c/\p.2<c/\p.1≠p.2)/\ps.length<=1000/\(∀b∈bs,lD c b ps [])/\bs.length<=1000:=by
 cases e with
 | cons grp e=>
  simp![qC,Fo,vo]at h;obtain⟨_,rfl,rfl⟩:=h;have j:=ok grp ⋯;refine⟨fun p hp=>?_,by simp;exact sg grp ⋯,fun b i=>?_,by simp;exact sg grp ⋯⟩
  . obtain⟨x,f,rfl⟩:=Bs.mp hp;obtain⟨a,b,d,_⟩:=j x f;exact⟨a,b,d⟩
  . obtain⟨k,_,rfl⟩:=Bs.mp i;have:=GW (k:=k) grp j g 0 [] o (mW m);rw[Wu]at this;exact this
 | nil=>
  simp![qC]at h;cases lp:iE c g with
  | none=>rw[lp]at h;cases h
  | some p=>
   rw[lp]at h;simp![Fo,vo]at h;obtain⟨_,rfl,rfl⟩:=h;have hp:p∈LA c:=Ai lp;obtain⟨q1,q2⟩:=az.mp hp;refine⟨fun x f=>?_,by simp,fun b i=>?_,by have:=pM (g p.1 p.2);simp;omega⟩
   . rw[Ao.mp f];omega
   . obtain⟨w,_,rfl⟩:=Bs.mp i;have:=LX o (show p.1<c by omega) (show p.2<c by omega) nofun (2^w) (mW m);rw[Wu]at this;exact this
def lg(n):aF (n+1)=IB 4 9 (JJ (aF n)):=rfl
noncomputable def VF(o:Nat)(n p g:Dt)(a b c d e:Oo Dt):LI:=[ε (.ref o),ε n,ε p,ε g,a,b,c,d,e]
section
variable{o:Nat}{n p g:Dt}{a b c d e:Oo Dt}
def N7:(VF o n p g a b c d e)[0]?=ε (ε (.ref o)):=rfl
def lk1:(VF o n p g a b c d e)[1]?=ε (ε n):=rfl
def lk2:(VF o n p g a b c d e)[2]?=ε (ε p):=rfl
def lk3:(VF o n p g a b c d e)[3]?=ε (ε g):=rfl
def lk5:(VF o n p g a b c d e)[5]?=ε b:=rfl
def lk6:(VF o n p g a b c d e)[6]?=ε c:=rfl
def lk7:(VF o n p g a b c d e)[7]?=ε d:=rfl
def lk8:(VF o n p g a b c d e)[8]?=ε e:=rfl
end
def T8(b5:1<=c)(hc:c<=8)(hl:ls.length<=100)(a2:∀x∈ls,x.1<c):∀n,mT c m ls n:=by
 intro n
 induction n with
 | zero=>intro f gs gds made b o pd P h K;obtain⟨a,s,q⟩:=K.ex;exact q.elim
 | succ n IH=>
  intro f gs gds made b o pd P h K;obtain⟨a0,s0,q0⟩:=K.ex;obtain⟨d,h1,e1,x,sr,st,g,rfl,r1,r2,r3,r4,r5,r6,r7⟩:=qR (show c<=100 by omega) K.of K.net (pd:=pd) (P:=P) (fun e=>K.prs.seq e) K.pc K.wt (by have:=K.lp;omega);have U1:Up h h1:=⟨r2,r3⟩;have ef:aF (n+1) [.ref o,.ref (b+c),pd,.lst gds] h=QC (JJ (aF n) (VF o (.ref (b+c)) pd (.lst gds) none none none none none) h):=by rw[lg,nB];rfl
  have s1:rA xI [] (bA (eV 1) (bA (eV 2) dA)) (VF o (.ref (b+c)) pd (.lst gds) none none none none none) h=ε (.tup [x,.ref sr],h1):=by simp![FA,AA,zA,gA,lk1,lk2,iA,eA,Ui,e1]
  generalize u:aF (n+1) [.ref o,.ref (b+c),pd,.lst gds] h=X;rw[ef,JJ,HE s1 (l':=VF o (.ref (b+c)) pd (.lst gds) (ε (.tup [x,.ref sr])) none none none none) rfl,HE (d:=x) (h1:=h1) rfl (l':=VF o (.ref (b+c)) pd (.lst gds) (ε (.tup [x,.ref sr])) (ε x) none none none) rfl,HE (d:=.ref sr) (h1:=h1) rfl (l':=VF o (.ref (b+c)) pd (.lst gds) (ε (.tup [x,.ref sr])) (ε x) (ε (.ref sr)) none none) rfl]at u;have O1:ar h1 o ls m made:=K.ob.up U1;rcases r7 with⟨rfl,em⟩ | ⟨p,rfl,bl,Ng,cl,ne,_⟩
  . refine⟨.tup [.str "clash", .tup [.str "threes", .ref sr]],h1,.clash (.ag st),made,?_,.inl ⟨st,g,r5,em,rfl,rfl⟩,⟨_,rfl,?_⟩,U1.l,O1⟩
    . rw[dD (h1:=h1) rfl (d:=.tup [.str "clash", .tup [.str "threes", .ref sr]]) (h2:=h1) rfl]at u;exact u.symm
    . show Ze h.length h1 (.ag st) _;simp![Ze];exact⟨sr,rfl,r1,r4⟩
  . have M:bo c f st (CC c g):=⟨g,r5,cl,ne,rfl⟩;obtain⟨D,Y,neg⟩:=M.ok K.of;have L:=zZ Ng;generalize CC c g=g' at M D Y neg L;obtain⟨rest,eb⟩:=aY (show c<=100 by omega) (Kc D neg) (show ls.length<=1000 by omega) L;obtain⟨h2,Q⟩:∃h2:HI,h2=h1++.lst ((fC c g' ls).map xA)::rest:=⟨_,rfl⟩
    rw[<- Q]at eb;have U2:Up h1 h2:=Q ▸ Up.app _ _;have a5:h2[h1.length]?=ε (.lst ((fC c g' ls).map xA)):=by rw[Q];simp
    have O2:=O1.up U2;have nl:=L.len;have u1:=fun(h:HI)=>sG (h:=h) (i:=2) (j:=(c:Int)) (Or.inl ⟨by decide,by decide⟩)
    have g2:(2:Int)*(c:Int)=((2*c:Nat):Int):=by omega
    have a6:=kP (x := "Search") (k := "lengths") O1 (Pz);have s4:∀(d:Dt) (h3:HI),ZH [.int ((2*c:Nat):Int),.ref h1.length] h2=ε (d,h3)->rA ZH [] (bA (e2 KC (wq 2) (VB yB (eV 5))) (bA (rA QH [] (bA (eV 5) (bA (YF "Search" "lengths" (eV 0)) dA))) dA)) (VF o (.ref (b+c)) pd (.lst gds) (ε (.tup [.ref (p+c),.ref sr])) (ε (.ref (p+c))) (ε (.ref sr)) none none) h1=ε (d,h3):=fun d h3 e=>by simp![FA,AA,zA,sA,RB,gA,qA,N7,lk5,iA,eA,nl,u1,g2,kQ,a6,eb,Ui,e]
    rw[jE (h1:=h1) rfl]at u;rcases UY (n:=2*c) (a:=h1.length) nofun nofun (fC c g' ls) (aT g' a2) (sS hc g' hl) h2 a5 with⟨t,h3,I,fr,et⟩ | ⟨cs,PP,k,r,h3,R,fr,hr,et,rl⟩
    . have U3:Up h2 h3:=l6 fr;have O3:=O2.up U3;obtain⟨h4,U4,U⟩:=HW ((U2.trans U3).net L) D (show c<=100 by omega) (K.grp.up (U1.trans (U2.trans U3)).l) K.og K.sg;have T:=O3.up U4;rw[HE (s4 _ _ et) (l':=VF o (.ref (b+c)) pd (.lst gds) (ε (.tup [.ref (p+c),.ref sr])) (ε (.ref (p+c))) (ε (.ref sr)) (ε (.tup [.str "times", .lst (UB (2*c) (dB (2*c) t))])) none) rfl]at u;have s5:vi (e2 mB (e2 kA (eV 7) (wq 0)) (eC (.str "ring"))) (VF o (.ref (b+c)) pd (.lst gds) (ε (.tup [.ref (p+c),.ref sr])) (ε (.ref (p+c))) (ε (.ref sr)) (ε (.tup [.str "times", .lst (UB (2*c) (dB (2*c) t))])) none) h3=ε (false,h3):=by simp![HA,sA,gA,qA,lk7,iA,eA,XB,BC,Ss,Vs,jF,t_r,JA]
      have s6:∀y,tF [.ref (p+c),.lst gds] h3=ε (y,h4)->rA tF [] (bA (eV 5) (bA (eV 3) dA)) (VF o (.ref (b+c)) pd (.lst gds) (ε (.tup [.ref (p+c),.ref sr])) (ε (.ref (p+c))) (ε (.ref sr)) (ε (.tup [.str "times", .lst (UB (2*c) (dB (2*c) t))])) none) h3=ε (y,h4):=fun y e=>by simp![FA,AA,zA,gA,lk5,lk3,iA,eA,Ui,e]
      rw[jE s5]at u;have S:Up h h4:=U1.trans (U2.trans (U3.trans U4));cases H:qC c g' gs with
      | none=>rw[H]at U;have a8:=Xw (c:=c) nofun (dB (2*c) t) h4;refine⟨.tup [.str "laid", .lst (DD c (dB (2*c) t))],h4,.laid t,made,?_,.inr ⟨st,g',M,.inr ⟨t,I,.inl ⟨H,rfl,rfl⟩⟩⟩,rfl,S.l,T⟩;rw[HE (s6 _ U) (l':=VF o (.ref (b+c)) pd (.lst gds) (ε (.tup [.ref (p+c),.ref sr])) (ε (.ref (p+c))) (ε (.ref sr)) (ε (.tup [.str "times", .lst (UB (2*c) (dB (2*c) t))])) (ε .non)) rfl,dD (h1:=h4) rfl (d:=.tup [.str "laid", .lst (DD c (dB (2*c) t))]) (h2:=h4) (by simp![ED,AA,zA,FA,sA,gA,qA,lk7,iA,eA,XB,SF,Te,Ss,Vs,Ui,a8,T4,Va,Nat.reduceAdd,gL,eH])]at u;exact u.symm
      | some v=>
       obtain⟨tag,bs,O⟩:=v;rw[H]at U;obtain⟨E,A,U⟩:=U;have fm:=kP (x := "Search") (k := "made") T (A2);have fM:=kP (x := "Search") (k := "most") T (l9);have Z:vi (e2 DU (YF "Search" "made" (eV 0)) (YF "Search" "most" (eV 0))) (VF o (.ref (b+c)) pd (.lst gds) (ε (.tup [.ref (p+c),.ref sr])) (ε (.ref (p+c))) (ε (.ref sr)) (ε (.tup [.str "times", .lst (UB (2*c) (dB (2*c) t))])) (ε (TC tag E O))) h4=ε (decide (((m:Nat):Int)<=((made:Nat):Int)),h4):=by simp![HA,sA,gA,kQ,N7,iA,eA,fm,fM,PQ,JA]
       rw[HE (s6 _ U) (l':=VF o (.ref (b+c)) pd (.lst gds) (ε (.tup [.ref (p+c),.ref sr])) (ε (.ref (p+c))) (ε (.ref sr)) (ε (.tup [.str "times", .lst (UB (2*c) (dB (2*c) t))])) (ε (TC tag E O))) rfl,jE (h1:=h4) (by cases tag<;>rfl)]at u;by_cases lm:m<=made
       . refine⟨.tup [.str "open", .non],h4,.opn,made,?_,.inr ⟨st,g',M,.inr ⟨t,I,.inr ⟨tag,bs,O,H,.inl ⟨lm,rfl,rfl⟩⟩⟩⟩,rfl,S.l,T⟩;have dg:decide (((m:Nat):Int)<=((made:Nat):Int))=true:=g8 nofun;rw[dg]at Z;rw[dD Z (d:=.tup [.str "open", .non]) (h2:=h4) rfl]at u;exact u.symm
       . have dg:decide (((m:Nat):Int)<=((made:Nat):Int))=false:=fu nofun;have b1:=yM D K.og H;obtain⟨pc,pl,wb,lb⟩:=Rm D Y K.og K.sg H;obtain⟨h5,J⟩:∃h5:HI,h5=h4.set o (.ins "Search" [("lengths", .lst (ls.map lB)),("most", .int (m:Nat)),("made", .int ((made+1:Nat):Int))]):=⟨_,rfl⟩
         have ol:=(Wk T).1;have O5:ar h5 o ls m (made+1):=by unfold ar;rw[J,su ol]
         have U5:vl h4 h5:=J ▸ vl.set T;have l5:h5.length=h4.length:=by rw[J,Ku]
         have sf:=JO (x := "Search") (k := "made") (v:=.int ((made+1:Nat):Int)) (l:=(VF o (.ref (b+c)) pd (.lst gds) (ε (.tup [.ref (p+c),.ref sr])) (ε (.ref (p+c))) (ε (.ref sr)) (ε (.tup [.str "times", .lst (UB (2*c) (dB (2*c) t))])) (ε (TC tag E O)))) T ⋯;rw[Lq,<- J]at sf;have m1:((made:Nat):Int)+1=((made+1:Nat):Int):=by omega
         have a4:h5[sr]?=ε (.lst (st.map pC)):=U5.2 _ _ ((U2.trans (U3.trans U4)).get r4);have qb:∃W,uE (AC c m ls n) tag W gs.tail bs (made+1) [] a0 s0:=by
          rcases q0 with⟨a1,g1,k1,k2,_,_⟩ | ⟨a1,g1,k1,k⟩
          . have:=M.cq K.of k1;rw[k2]at this;cases this
          . have eg:=M.unique K.of k1;subst eg;rcases k with⟨b6,P',k',R',_,_⟩ | ⟨t',b4,k⟩
            . exact(lS R' I).elim
            . rcases k with⟨C,_,_⟩ | ⟨b2,c0,b3,C,k⟩
              . rw[H]at C;cases C
              . rw[H]at C;cases C;rcases k with⟨a3,_,_⟩ | ⟨a3,k⟩
                . omega
                . exact⟨_,k⟩
         obtain⟨W,qb⟩:=qb;obtain⟨d,h',a,s,e6,B,AN,U6,O6⟩:=Mz IH (tag:=tag) (st:=st) (gds:=gds.drop 1) (sr:=sr) (lo:=h.length) (hB:=h5) K.og.tail (fun x hx=>K.sg x (mem_of_mem_tail hx)) (rn (K.grp.up (S.l.trans U5))) pc pl qb b1 wb (A.imp fun w w z=>z.up U5) nofun O5 a4 r1 (by have:=S.1;omega);refine⟨d,h',a,s,?_,.inr ⟨st,g',M,.inr ⟨t,I,.inr ⟨tag,bs,O,H,.inr ⟨by omega,B⟩⟩⟩⟩,AN,S.l.trans (U5.trans U6),O6⟩;have mt:=SR (x := "Search") (m := "look_at_branches") (F:=JH (aF n)) (ga:=bA (eV 8) (bA (eV 6) (bA (JK (eV 3) (pF (wq 1)) qN) dA))) (l:=(VF o (.ref (b+c)) pd (.lst gds) (ε (.tup [.ref (p+c),.ref sr])) (ε (.ref (p+c))) (ε (.ref sr)) (ε (.tup [.str "times", .lst (UB (2*c) (dB (2*c) t))])) (ε (TC tag E O)))) O5 m9;have cf:XE gds (ε 1) none=gds.drop 1:=vS gds 1;have a7:JK (eV 3) (pF (wq 1)) qN (VF o (.ref (b+c)) pd (.lst gds) (ε (.tup [.ref (p+c),.ref sr])) (ε (.ref (p+c))) (ε (.ref sr)) (ε (.tup [.str "times", .lst (UB (2*c) (dB (2*c) t))])) (ε (TC tag E O))) h5=ε (.lst (gds.drop 1),h5):=by simp![qU,gA,lk3,iA,eA,sU,qA,ZS,tU,jH,Vs,cf]
         rw[dg]at Z;rw[jE Z]at u;simp![NA,cB,AT,gA,sA,qA,N7,lk6,lk8,iA,eA,kQ,fm,D4,UE,m1,sf,UA,mt,AA,zA,a7,e6,rB]at u;exact u.symm
    . have U3:Up h2 h3:=l6 fr;have S:Up h h3:=U1.trans (U2.trans U3);refine⟨.tup [.str "clash", .tup [.str "ring", .ref sr,.ref r]],h3,.clash (.ring st cs PP k),made,?_,.inr ⟨st,g',M,.inl ⟨cs,PP,k,R,rfl,rfl⟩⟩,⟨_,rfl,?_⟩,S.l,O2.up U3⟩
      . rw[HE (s4 _ _ et) (l':=VF o (.ref (b+c)) pd (.lst gds) (ε (.tup [.ref (p+c),.ref sr])) (ε (.ref (p+c))) (ε (.ref sr)) (ε (.tup [.str "ring", .ref r])) none) rfl,dD (h1:=h3) rfl (d:=.tup [.str "clash", .tup [.str "ring", .ref sr,.ref r]]) (h2:=h3) rfl]at u;exact u.symm
      . show Ze h.length h3 (.ring st cs PP k) _;simp![Ze];refine⟨sr,r,rfl,r1,?_,(U2.trans U3).get r4,hr⟩;have:=(U1.trans U2).1;omega
def AO(b:c<=8)(of:WA c f):∃st,(∃g,vk c f st g/\uB c g=true)\/(∃g,bo c f st g):=by
 have N:=kG [] c f;have u:=JI c c;have i:c*c<=8*8:=Ji b b;obtain⟨d,y,B,x,m,st,g,rfl,s,r,q,o,a,n,h⟩:=qR (show c<=100 by omega) of N (pd:=.lst ((LA c).map pA)) (P:=LA c) (fun e=>rfl) (fun p hp=>by
  obtain⟨q1,q2⟩:=az.mp hp;omega) (YR c f) (by unfold LA;omega)
 rcases h with⟨rfl,j⟩ | ⟨D,rfl,C,E,k,ne,_⟩
 . exact⟨st,.inl ⟨g,a,j⟩⟩
 . exact⟨st,.inr ⟨_,g,a,k,ne,rfl⟩⟩
noncomputable def KN:Wd->Dt
 | .opn=>.str "open"
 | .laid=>.str "laid"
 | .clash=>.str "clash"
structure RP(c:Nat)(h:HI)(a:Nat)(fs:List vb):Prop where
 ds:∃ds,h[a]?=ε (.lst ds)/\Yo h ds fs
 ok:∀x∈fs,VC c x
 sg:∀x∈vB fs,x.length<=1000
 len:fs.length<=100
theorem UL:∀fs,(gC fs).length<=fs.length
 | []=>Us _
 | .long x::fs=>by have:=UL fs;simp![gC,T4];omega
 | .ways x::fs=>by have:=UL fs;simp![gC,T4];omega
 | .one x::fs=>by have:=UL fs;simp![gC,T4];omega
theorem dM:∀fs,(∀x∈fs,VC c x)->∀x∈gC fs,x.1<c
 | [],_,x,hx=>nomatch hx
 | .long y::fs,h,x,hx=>by
  simp![gC,Ba]at hx;rcases hx with rfl | hx
  . exact h (.long x) ⋯
  . exact dM fs (fun z a=>h z (by simp[a])) x hx
 | .ways y::fs,h,x,hx=>dM fs (fun z a=>h z (by simp[a])) x hx
 | .one y::fs,h,x,hx=>dM fs (fun z a=>h z (by simp[a])) x hx
theorem DG:∀fs,(∀x∈fs,VC c x)->bc c (vB fs)
 | [],_,x,hx=>nomatch hx
 | .one y::fs,h,x,hx=>by
  simp![vB,Ba]at hx;rcases hx with rfl | hx
  . exact h (.one x) ⋯
  . exact DG fs (fun z a=>h z (by simp[a])) x hx
 | .ways y::fs,h,x,hx=>DG fs (fun z a=>h z (by simp[a])) x hx
 | .long y::fs,h,x,hx=>DG fs (fun z a=>h z (by simp[a])) x hx
def iF(c m:Nat)(fs:Oe vb)(n:Nat)(a:wm)(s:Nat):Prop:=AC c m (gC fs) n (iD aC fs) (vB fs) 0 a s
def R8 (ls:Oe Ln) (m):uL [.ref h.length,.lst (ls.map lB),.int (m:Nat)] (h++[.ins "Search" []])=ε (.non,h++[.ins "Search" [("lengths", .lst (ls.map lB)),("most", .int (m:Nat)),("made", .int ((0:Nat):Int))]]):=by
 have o:¬((("lengths" :Str))=(("most" :Str))):=by decide +kernel
 have j:¬((("lengths" :Str))=(("made" :Str))):=by decide +kernel
 have i:¬((("most" :Str))=(("made" :Str))):=by decide +kernel
 have g:AE "lengths" (.lst (ls.map lB)) []=([("lengths", .lst (ls.map lB))]:Oe (Str×Dt)):=rfl;have f:AE "most" (.int (m:Nat)) [("lengths", .lst (ls.map lB))]=([("lengths", .lst (ls.map lB)),("most", .int (m:Nat))]:Oe (Str×Dt)):=by simp![AE,eG o]
 have e:AE "made" (.int 0) [("lengths", .lst (ls.map lB)),("most", .int (m:Nat))]=([("lengths", .lst (ls.map lB)),("most", .int (m:Nat)),("made", .int 0)]:Oe (Str×Dt)):=by simp![AE,eG j,eG i]
 have d:=JO (h:=h++[.ins "Search" []]) (n:=h.length) (x := "Search") (k := "lengths") (v:=.lst (ls.map lB)) (l:=[ε (.ref h.length),ε (.lst (ls.map lB)),ε (.int (m:Nat))]) (fs:=[]) ⋯ ⋯;have b:=JO (h:=h++[.ins "Search" [("lengths", .lst (ls.map lB))]]) (n:=h.length) (x := "Search") (k := "most") (v:=.int (m:Nat)) (l:=[ε (.ref h.length),ε (.lst (ls.map lB)),ε (.int (m:Nat))]) (fs:=[("lengths", .lst (ls.map lB))]) ⋯ ⋯;have a:=JO (h:=h++[.ins "Search" [("lengths", .lst (ls.map lB)),("most", .int (m:Nat))]]) (n:=h.length) (x := "Search") (k := "made") (v:=.int 0) (l:=[ε (.ref h.length),ε (.lst (ls.map lB)),ε (.int (m:Nat))]) (fs:=[("lengths", .lst (ls.map lB)),("most", .int (m:Nat))]) ⋯ ⋯;rw[g]at d;rw[f]at b;rw[e]at a;have hs:∀x y:Ob,(h++[x]).set h.length y=h++[y]:=fun x y=>by simp
 rw[hs]at d b a;dsimp![uL,eR,Uo,Wo,Ui,NA,D4,qA,Te,d,UA,b,a,nt];rfl
inductive A5(c m:Nat)(h:HI)(a:Nat)(fs:List vb):Prop
 | mk (A:wm) (s:Nat) (x:Dt) (h':HI) (p0:iF c m fs 12 A s) (p1:bG [.int (c:Nat),.ref a,.int (m:Nat)] h=ε (.tup [KN A.wd,x,.int (s:Nat)],h')) (p2:bu h.length h' c A (.tup [KN A.wd,x])) (p3:vl h h'):A5 c m h a fs
def eY(q:1<=c)(r:c<=8)(F:RP c h a fs)(ex:∃A s,iF c m fs 12 A s):A5 c m h a fs:=by
 obtain⟨ds,u,D⟩:=F.ds;have T:=D.len;have fl:=F.len;have B:ds.length<sizeLine:=by rw[T];simp[sizeLine];omega
 have R:=oW u B D;obtain⟨h1,g⟩:∃h1:HI,h1=h++[.ins "Search" [("lengths", .lst ((gC fs).map lB)),("most", .int (m:Nat)),("made", .int ((0:Nat):Int))]]:=⟨_,rfl⟩
 have C:=R8 (h:=h) (gC fs) m;rw[<- g]at C;have U1:Up h h1:=g ▸ Up.app _ _;have H:ar h1 h.length (gC fs) m 0:=by unfold ar;rw[g];simp
 obtain⟨b,i,Q,W,U2⟩:=zW (show c<=1000 by omega) (U1.get u) (D.up U1.l) F.ok;have E:=uO (show c<=1000 by omega) i;obtain⟨h3,f⟩:∃h3:HI,h3=i++[.lst ((LA c).map pA)]:=⟨_,rfl⟩
 rw[<- f]at E;have U3:Up i h3:=f ▸ Up.app _ _;have j:Up h h3:=U1.trans (U2.trans U3);obtain⟨y,Y,S⟩:=AW (j.get u) B (D.up j.l);have pl:=JI c c;have M:c*c<=8*8:=Ji r r;obtain⟨d,O,A,s,e,L,n,U4,U⟩:=T8 (m:=m) q r (show(gC fs).length<=100 by have:=UL fs;omega) (dM fs F.ok) 12 (iD aC fs) (vB fs) y 0 b h.length (.ref i.length) (LA c) h3
  ⟨ex,AG fs F.ok _ (WH c),DG fs F.ok,F.sg,U3.net W,Y,.inr ⟨i.length,rfl,by rw[f];simp⟩,(fun p hp=>by obtain⟨q1,q2⟩:=az.mp hp;omega),YR c _,by unfold LA;omega,(H.up U2).up U3⟩
 have J:h.length<=h3.length:=j.1;have P:=kP (x := "Search") (k := "made") U (A2);have I:=SR (h:=h1) (x := "Search") (m := "look") (F:=aF 12) (ga:=bA (rA OJ [] (bA (eV 0) (bA (eV 1) dA))) (bA (rA PH [] (bA (eV 0) dA)) (bA (rA PJ [] (bA (eV 1) dA)) dA))) (l:=[ε (.int (c:Nat)),ε (.ref a),ε (.int (m:Nat)),ε (.ref h.length),none]) H kZ;obtain⟨x,o⟩:∃x,d=.tup [KN A.wd,x]:=by
  cases A with
  | opn=>exact⟨_,n⟩
  | laid t=>exact⟨_,n⟩
  | clash tr=>obtain⟨x,e,_⟩:=n;exact⟨x,e⟩
 subst o;refine⟨A,s,x,O,L,?_,n.up J (fun k Z hk o=>o),(j.l).trans U4⟩;dsimp![bG,FR,Uo,Wo,Xe,Wu,NA,HB,Xj,FA,AA,zA,Te,Ui,R,C,Jt,Vi,Uu,UA,AT,I,Q,E,S,e,cB,ED,sA,qA,XB,BC,SF,Vs,kQ,P,W6,rB]
def wh(c:Nat)(f:EA)(s:Nat->Int×Int):Prop:=∀i<c,∀j<c,i≠j->(f i j).testBit (bB (s i) (s j))=true
def wh.nar(ok:∀i,i<c->QB (s i))(h:wh c f s)(n:i<c)(k:j<c)(d:i≠j)(r:m.testBit (bB (s i) (s j))=true):wh c (AB f i m j) s:=by
 have hw:=IE (ok i n) (ok j k);have o:(f i j&&&m).testBit (bB (s i) (s j))=true:=by rw[zc,h i n j k d,r];rfl
 intro a p b e g;by_cases q:a=i/\b=j
 . obtain⟨rfl,rfl⟩:=q;rw[HP f m d];exact o
 . by_cases e2:a=j/\b=i
   . obtain⟨rfl,rfl⟩:=e2;rw[aq,cM (ok b e) (ok a p),cF _ nofun,show 12-(12-bB (s b) (s a))=bB (s b) (s a) by omega];exact o
   . rw[dH f q e2];exact h a p b e g
def wh.hE(ok:∀i,i<c->QB (s i))(r:i<c)(q:j<c)(d:i≠j)(o:WA c f)(h:wh c (AB f i m j) s):wh c f s/\m.testBit (bB (s i) (s j))=true:=by
 have k:=h i r j q d;rw[HP f m d,zc,vm]at k;refine⟨fun a g b e n=>?_,k.2⟩;by_cases p:a=i/\b=j
 . obtain⟨rfl,rfl⟩:=p;exact k.1
 . by_cases e2:a=j/\b=i
   . obtain⟨rfl,rfl⟩:=e2;have hw:=IE (ok b e) (ok a g);rw[o.tn b e a g,cM (ok b e) (ok a g),cF _ nofun,show 12-(12-bB (s b) (s a))=bB (s b) (s a) by omega];exact k.1
   . have:=h a g b e n;rw[dH f p e2]at this;exact this
def wh.sub(h:wh c g s)(q:tJ c g f):wh c f s:=fun i d j b a=>bg.mp (q i d j b) _ (h i d j b a)
def wh.steps{st:Oe (Nat×Nat×Nat)}(ok:∀i,i<c->QB (s i))(h:vk c f st g)(q:wh c f s):wh c g s:=by
 induction h with
 | nil=>exact q
 | @snoc st g i k j h e a b d ne n ih=>refine wh.nar ok ih e b d.2.2 ?_;unfold Wa;rw[zc,ih i e j b d.2.2,Gs];exact(eK _ _ _).mpr ⟨_,_,IE (ok i e) (ok k a),ih i e k a d.1,IE (ok k a) (ok j b),ih k a j b d.2.1,tY (ok i e) (ok k a) (ok j b)⟩
def wh.cut(h:wh c f s):wh c (CC c f) s:=fun i d j b a=>by rw[eF f d b];exact h i d j b a
def wh.rp(h:wh c (CC c f) s):wh c f s:=fun i d j b a=>by have:=h i d j b a;rw[eF f d b]at this;exact this
def Fl(k):(0:Nat).testBit k=false:=by simp
def wh.ne(h:wh c f s)(d:∀i<c,f i i=64):uB c f=false:=by
 cases z:uB c f with
 | false=>rfl
 | true=>
  obtain⟨i,b,j,g,e⟩:=fq.mp z;by_cases a:i=j
  . subst a;rw[d i b]at e;cases e
  . have:=h i b j g a;rw[e,Fl]at this;cases this
def MO(d:∀i<c,f i i=64)(a:i≠j)(m):∀k<c,AB f i m j k k=64:=fun k b=>by rw[dH f (fun q=>a (q.1.symm.trans q.2)) (fun q=>a (q.2.symm.trans q.1))];exact d k b
theorem UR:∀(a:Oe EB)(_:∀m∈a,kC c m)(f:EA)(p:Nat),(∀i<c,f i i=64)->∀i<c,VD f k a p i i=64
 | [],_,f,p,d=>d
 | m::a,h,f,p,d=>UR a (fun x b=>h x (by simp[b])) _ _ (MO d (h m ⋯).2.2.1 _)
def FY(a:m<8192)(b:k<13):(wn m).testBit k=!m.testBit k:=by
 have:wn m=2^13-(m+1):=by unfold wn;omega
 rw[this,Nat.testBit_two_pow_sub_succ a];simp[b]
def OA(s:Nat->Int×Int)(m:EB):Bool:=m.2.1.testBit (bB (s m.1) (s m.2.2))
theorem wh.only(ok:∀i,i<c->QB (s i)):∀(g:Oe EB)(_:∀m∈g,kC c m)(f:EA)(p:Nat),wh c f s->(∀i m,g[i]?=ε m->OA s m=decide (p+i=k))->wh c (VD f k g p) s
 | [],_,f,p,q,_=>q
 | m::g,h,f,p,q,H=>by
  obtain⟨a,b,d,e⟩:=h m ⋯;have j:=H 0 m rfl;refine wh.only ok g (fun x n=>h x (by simp[n])) _ _ (q.nar ok a b d ?_) (fun i x n=>?_)
  . unfold OA at j;by_cases z:p=k
    . rw[dz z];rw[g8 (show p+0=k by omega)]at j;exact j
    . rw[eG z,FY e (IE (ok _ a) (ok _ b)),j,fu (show ¬p+0=k by omega)];rfl
  . rw[H (i+1) x (by simpa using n)]
    congr 1
    rw[show p+(i+1)=p+1+i by omega]
theorem wh.ik(ok:∀i,i<c->QB (s i)):∀(g:Oe EB)(_:∀m∈g,kC c m)(f:EA)(p:Nat),WA c f->wh c (VD f k g p) s->wh c f s/\∀i m,g[i]?=ε m->OA s m=decide (p+i=k)
 | [],_,f,p,o,q=>⟨q,fun i m h=>by simp at h⟩
 | m::g,h,f,p,o,q=>by
  obtain⟨a,b,d,e⟩:=h m ⋯;obtain⟨q1,H⟩:=wh.ik ok g (fun x j=>h x (by simp[j])) _ _ (nH o a b d _) q;obtain⟨q2,z⟩:=wh.hE ok a b d o q1;refine⟨q2,fun i x j=>?_⟩;cases i with
  | zero=>
   simp at j;subst j;unfold OA;by_cases y:p=k
   . rw[dz y]at z;rw[z,g8 (show p+0=k by omega)]
   . rw[eG y,FY e (IE (ok _ a) (ok _ b))]at z;rw[fu (show ¬p+0=k by omega)];simpa using z
  | succ i=>
   rw[H i x (by simpa using j)]
   congr 1
   rw[show p+(i+1)=p+1+i by omega]
def ZT(s:Nat->Int×Int)(g:Oe EB):Prop:=∃k,k<g.length/\∀(i:Nat) m,g[i]?=ε m->OA s m=decide (i=k)
noncomputable def nJ(s:Nat->Int×Int)(p:Nat):Int:=if p%2=0 then(s (p/2)).1 else(s (p/2)).2
def dL(s)(i):nJ s (2*i)=(s i).1:=by unfold nJ;rw[dz nofun,show 2*i/2=i by omega]
def fL(s)(i):nJ s (2*i+1)=(s i).2:=by unfold nJ;rw[eG nofun,show(2*i+1)/2=i by omega]
def Alike(T t:Nat->Int)(p q:Nat):Prop:=(T p<T q->t p<t q)/\(T p=T q->t p=t q)/\(T q<T p->t q<t p)
def Alike.symm{T t:Nat->Int}{p q:Nat}(h:Alike T t p q):Alike T t q p:=⟨h.2.2,fun e=>(h.2.1 e.symm).symm,h.1⟩
def pZ(a:1<=g)(h:x<y):g*x-g*y<=-1:=by rw[<- Int.mul_sub];have b:g*(x-y)<=g*(-1):=Int.mul_le_mul_of_nonneg_left nofun nofun;omega
def oZ{g x y:Int}(a:1<=g)(h:x<=y):g*x-g*y<=0:=by rw[<- Int.mul_sub];have b:g*(x-y)<=g*0:=Int.mul_le_mul_of_nonneg_left nofun nofun;omega
def JY(i:1<=g){T:Nat->Int}(m:z<=f)(k:h<=z)(lt:z<a->T p<T q)(eq:z=a->T p=T q)(j:a<z->T q<T p):∀e∈QG p q a f h,g*T e.1-g*T e.2.1<=e.2.2:=by
 intro e he;unfold QG at he;rcases Bo.mp he with he | he
 . by_cases d:f<=a
   . rw[dz d]at he;rw[Ao.mp he];by_cases b:f<a
     . rw[dz b];exact pZ i (lt nofun)
     . rw[eG b];refine oZ i (x:=T p) (y:=T q) ?_;rcases Int.lt_trichotomy z a with y | y | y
       . have:=lt y;omega
       . have:=eq y;omega
       . omega
   . rw[eG d]at he;exact nomatch he
 . by_cases d:a<=h
   . rw[dz d]at he;rw[Ao.mp he];by_cases b:a<h
     . rw[dz b];exact pZ i (j nofun)
     . rw[eG b];refine oZ i (x:=T q) (y:=T p) ?_;rcases Int.lt_trichotomy z a with y | y | y
       . omega
       . have:=eq y;omega
       . have:=j y;omega
   . rw[eG d]at he;exact nomatch he
def Tj:∀p∈be,pz (be.idxOf p)=p:=by decide +kernel
def Uj(h1:QB s)(h2:QB o):pz (bB s o)=(PB s.1 o.1 o.2,PB s.2 o.1 o.2):=Tj _ (FO h1 h2)
def Kp(h1:QB s)(h2:QB o)(a:m.testBit (bB s o)=true)(side)(hs:side<2):((PB (if side=0 then s.1 else s.2) o.1 o.2:Nat):Int)∈KB side m:=by unfold KB;refine Bs.mpr ⟨bB s o,bm.mpr ⟨IE h1 h2,a⟩,?_⟩;unfold zs;rw[Uj h1 h2];rcases(show side=0\/side=1 by omega)with rfl | rfl<;>rfl
def BX(ok:∀i,i<c->QB (s i))(q:wh c g s)(n:1<=G)(m:i<c)(b:j<c)(d:i≠j)(hs:side<2):∀e∈QE i j side (g i j),G*nJ s e.1-G*nJ s e.2.1<=e.2.2:=by
 have mem:=Kp (ok i m) (ok j b) (q i m j b d) side hs;have ne:KB side (g i j) ≠ []:=fun z=>by rw[z]at mem;cases mem
 have h:=(QR _ ne).2 _ mem;have k:=(RH _ ne).2 _ mem;have pt:nJ s (2*i+side)=(if side=0 then(s i).1 else(s i).2):=by
  rcases(show side=0\/side=1 by omega)with rfl | rfl
  . rw[Nat.add_zero,dL];rfl
  . rw[fL];rfl
 have a:(s j).1<(s j).2:=ok j b;intro e he;unfold QE at he;have f:=Nh (if side=0 then(s i).1 else(s i).2) (s j).1 (s j).2 a;rcases Bo.mp he with he | he
 . refine JY n h k ?_ ?_ ?_ e he<;>rw[pt,dL]<;>intro z<;>rcases f with⟨y,w⟩ | ⟨y,w⟩ | ⟨y,o,w⟩ | ⟨y,w⟩ | ⟨y,w⟩<;>rw[w]at z<;>omega
 . refine JY n h k ?_ ?_ ?_ e he<;>rw[pt,fL]<;>intro z<;>rcases f with⟨y,w⟩ | ⟨y,w⟩ | ⟨y,o,w⟩ | ⟨y,w⟩ | ⟨y,w⟩<;>rw[w]at z<;>omega
def KU(c:Nat)(s:Nat->Int×Int)(x:Ln):Prop:=x.1<c/\x.2.1*((2*c+1:Nat):Int)<=(s x.1).2-(s x.1).1/\(s x.1).2-(s x.1).1<=x.2.2*((2*c+1:Nat):Int)
def zS(ok:∀i,i<c->QB (s i))(q:wh c g s)(f:∀x∈ls,KU c s x):∀e∈fC c g ls,nJ s e.1-nJ s e.2.1<=e.2.2:=by
 intro e he;unfold fC at he;rcases Bo.mp he with he | he
 . rcases Bo.mp he with he | he
   . obtain⟨i,h,rfl⟩:=Bs.mp he;simp![dL,fL];have:(s i).1<(s i).2:=ok i (Bu.mp h);omega
   . obtain⟨x,d,he⟩:=Mu.mp he;obtain⟨a,m,k⟩:=f x d;unfold vC at he;simp![Ba,not_mem_nil,or_false]at he;rcases he with rfl | rfl
     . simp![dL,fL,Int.neg_mul];omega
     . simp![dL,fL];omega
 . obtain⟨p,hp,he⟩:=Mu.mp he;obtain⟨j,b⟩:=HY hp;have a:(1:Int)<=1:=by decide
   unfold zD at he;rcases Bo.mp he with he | he
   . have:=BX ok q a nofun b nofun nofun e he;rw[Int.one_mul,Int.one_mul]at this;exact this
   . have:=BX ok q a nofun b nofun nofun e he;rw[Int.one_mul,Int.one_mul]at this;exact this
theorem nX(ok:∀i,i<c->QB (s i))(d:∀g,wh c g s->∃T:Nat->Int,∀e∈fC c g ls,T e.1-T e.2.1<=e.2.2):∀n f j made a sp,AC c m ls n f j made a sp->WA c f->bc c j->(∀i<c,f i i=64)->wh c f s->(∀g∈j,ZT s g)->a.wd≠.clash
 | 0,_,_,_,_,_,h,_,_,_,_,_=>h.elim
 | n+1,f,j,made,a,sp,h,of,og,dg,q,hg=>by
  rcases h with⟨st,g,y,C,rfl,rfl⟩ | ⟨st,g,U,h⟩
  . have:=(q.steps ok y).ne (y.diag dg);rw[C]at this;cases this
  . obtain⟨u,Q,neg⟩:=U.ok of;obtain⟨D,s0,_,_,rfl⟩:=U;have qg:wh c (CC c D) s:=(q.steps ok s0).cut;have r:∀i<c,CC c D i i=64:=fun i M=>by rw[eF D M M];exact s0.diag dg i M
    generalize CC c D=g at u Q neg qg r h;rcases h with⟨cs,P,k,R,rfl,rfl⟩ | ⟨t,ht,h⟩
    . obtain⟨T,Z⟩:=d _ qg;exact(WZ (b:=T) Z R).elim
    . rcases h with⟨_,rfl,rfl⟩ | ⟨F,bs,ps,hs,h⟩
      . intro z;cases z
      . rcases h with⟨_,rfl,rfl⟩ | ⟨_,h⟩
        . intro z;cases z
        . have S:=yM u og hs;have ex:∃b∈bs,wh c b s:=by
           cases j with
           | cons grp j=>simp![qC,Fo,vo]at hs;obtain⟨_,rfl,_⟩:=hs;obtain⟨k,Y,H⟩:=hg grp ⋯;exact⟨_,Bs.mpr ⟨k,Bu.mpr Y,rfl⟩,wh.only ok grp (og grp ⋯) g 0 qg (fun i x o=>by rw[H i x o,Aa])⟩
           | nil=>
            simp![qC]at hs;cases lp:iE c g with
            | none=>rw[lp]at hs;cases hs
            | some p=>
             rw[lp]at hs;simp![Fo,vo]at hs;obtain⟨_,rfl,_⟩:=hs;obtain⟨q1,q2⟩:=az.mp (Ai lp);have J:p.1<c:=by omega
             have I:p.2<c:=by omega
             have d:=qg p.1 J p.2 I nofun;have W:=IE (ok _ J) (ok _ I);exact⟨_,Bs.mpr ⟨_,bm.mpr ⟨W,d⟩,rfl⟩,qg.nar ok J I nofun (by rw[Nat.testBit_two_pow];simp)⟩
          have O:∀b∈bs,∀i<c,b i i=64:=by
           cases j with
           | cons grp j=>simp![qC,Fo,vo]at hs;obtain⟨_,rfl,_⟩:=hs;intro b d;obtain⟨k,_,rfl⟩:=Bs.mp d;exact UR grp (og grp ⋯) g 0 r
           | nil=>
            simp![qC]at hs;cases lp:iE c g with
            | none=>rw[lp]at hs;cases hs
            | some p=>rw[lp]at hs;simp![Fo,vo]at hs;obtain⟨_,rfl,_⟩:=hs;obtain⟨q1,q2⟩:=az.mp (Ai lp);intro b d;obtain⟨w,_,rfl⟩:=Bs.mp d;exact MO r nofun _
          have go:∀(bs:Oe EA),(∀b∈bs,WA c b)->(∀b∈bs,∀i<c,b i i=64)->(∃b∈bs,wh c b s)->∀(L:Nat)(B:Oe Tr)(a:wm)(sp:Nat),uE (AC c m ls n) F st j.tail bs L B a sp->a.wd≠.clash:=by
           intro bs
           induction bs with
           | nil=>rintro _ _ ⟨b,d,_⟩;cases d
           | cons b bs ih=>
            rintro y C ⟨E,hb',qb⟩ L B a sp q;rcases q with⟨tr,m1,q1,q2⟩ | ⟨q1,q2⟩
            . rcases Ba.mp hb' with rfl | hb'
              . exact Ea rfl (nX ok d n E _ L _ _ q1 (y E ⋯) og.tail (C E ⋯) qb (fun x o=>hg x (mem_of_mem_tail o)))
              . exact ih (fun x o=>y x (by simp[o])) (fun x o=>C x (by simp[o])) ⟨E,hb',qb⟩ _ _ _ _ q2
            . exact q1
          exact go bs S O ex _ _ _ _ h
def XU(p j:Nat)(z:Int):Oe Bd:=QG p (2*j) 1 z z++QG p (2*j+1) 3 z z
def B0{p j z:Nat}(hz:z<5)(a:t (2*j)<t (2*j+1))(h:∀e∈XU p j (z:Int),WE t e):PB (t p) (t (2*j)) (t (2*j+1))=z:=by
 rcases(show z=0\/z=1\/z=2\/z=3\/z=4 by omega)with rfl | rfl | rfl | rfl | rfl<;>simp[XU,QG,WE]at h<;>unfold PB
 . rw[dz nofun]
 . rw[eG nofun,dz nofun]
 . rw[eG nofun,eG nofun,dz nofun]
 . rw[eG nofun,eG nofun,eG nofun,dz nofun]
 . rw[eG nofun,eG nofun,eG nofun,eG nofun]
def N5:∀w<13,(pz w).1<5/\(pz w).2<5/\be.idxOf (pz w)=w:=by decide +kernel
def NZ:∀w,w<13->QA (2^w)=[w]:=by decide +kernel
def Mp(hw:w<13)(hs:side<2):QE i j side (2^w)=XU (2*i+side) j ((if side=0 then(pz w).1 else(pz w).2:Nat):Int):=by unfold QE XU KB;rw[NZ w hw];rcases(show side=0\/side=1 by omega)with rfl | rfl<;>rfl
def rq(d:m<8192)(h:m≠0)(h1:¬1<(QA m).length):∃w,w<13/\m=2^w:=by
 have ne:=HS d h;obtain⟨w,hw⟩:∃w,QA m=[w]:=by
  cases e:QA m with
  | nil=>exact Ea e ne
  | cons w r=>
   cases r with
   | nil=>exact⟨w,rfl⟩
   | cons x r=>rw[e]at h1;simp at h1
 have f:w∈QA m:=by rw[hw];simp
 obtain⟨a,wb⟩:=bm.mp f;refine⟨w,a,SH d (rr a) fun k g=>?_⟩;rw[Nat.testBit_two_pow];by_cases z:w=k
 . subst z;rw[wb];simp
 . rw[fu z];cases b:m.testBit k with
   | false=>rfl
   | true=>have:k∈QA m:=bm.mpr ⟨g,b⟩;rw[hw]at this;exact Ea (Ao.mp this).symm z
where rr {w:Nat} (h:w<13):2^w<8192:=Nat.pow_lt_pow_right (by decide) h (m:=w) (n:=13)
noncomputable def IC(t:Nat->Int)(k:Nat):Int×Int:=(t (2*k),t (2*k+1))
def A0(a:∀e∈fC c g ls,WE t e):∀i,i<c->QB (IC t i):=by intro i b;have h:=a (2*i,2*i+1,-1) (Bo.mpr (.inl (Bo.mpr (.inl (Bs.mpr ⟨i,Bu.mpr b,rfl⟩)))));simp![WE]at h;show t (2*i)<t (2*i+1);omega
def rx(og:WA c g)(ne:uB c g=false)(lp:iE c g=none)(m:∀e∈fC c g ls,WE t e):wh c g (IC t):=by
 have ok:=A0 m;have up:∀i j,i<j->j<c->g i j=2^bB (IC t i) (IC t j):=by
  intro i j d b;have f:i<c:=by omega
  have hp:=Xd d b;have nl:¬1<(QA (g i j)).length:=by have:=find?_eq_none.mp lp (i,j) hp;simpa using this
  obtain⟨w,hw,e⟩:=rq (og.lt i f j b) (cq ne f b) nl;obtain⟨q,o,n⟩:=N5 w hw;have k:∀a,a<2->∀x∈XU (2*i+a) j ((if a=0 then(pz w).1 else(pz w).2:Nat):Int),WE t x:=by
   intro a hs x h;rw[<- Mp (i:=i) hw hs,<- e]at h;refine m x (Bo.mpr (.inr (Mu.mpr ⟨(i,j),hp,?_⟩)));unfold zD;rcases(show a=0\/a=1 by omega)with rfl | rfl
   . exact Bo.mpr (.inl h)
   . exact Bo.mpr (.inr h)
  have s:=B0 (p:=2*i) q (ok j b) (k 0 nofun);have r:=B0 (p:=2*i+1) o (ok j b) (k 1 nofun);have:bB (IC t i) (IC t j)=w:=by unfold bB IC;simp only;rw[s,r];exact n
  rw[this];exact e
 intro i f j b d;rcases Nat.lt_or_gt_of_ne d with z | z
 . rw[up i j z b,Nat.testBit_two_pow];simp
 . have hw:=IE (ok j b) (ok i f);rw[og.tn j b i f,up j i z f,cM (ok j b) (ok i f),Al hw,Nat.testBit_two_pow];simp
def sd(b:∀e∈fC c g ls,WE t e)(a:x∈ls):x.2.1*((2*c+1:Nat):Int)<=t (2*x.1+1)-t (2*x.1)/\t (2*x.1+1)-t (2*x.1)<=x.2.2*((2*c+1:Nat):Int):=by have f:=b (2*x.1,2*x.1+1,-x.2.1*((2*c+1:Nat):Int)) (Bo.mpr (.inl (Bo.mpr (.inr (Mu.mpr ⟨x,a,by simp[vC]⟩)))));have d:=b (2*x.1+1,2*x.1,x.2.2*((2*c+1:Nat):Int)) (Bo.mpr (.inl (Bo.mpr (.inr (Mu.mpr ⟨x,a,by simp[vC]⟩)))));simp![WE,Int.neg_mul]at f d;omega
structure wQ(c:Nat)(ls:List Ln)(f:EA)(gs:List (List EB))(t:Nat->Int):Prop where
 ok:∀i,i<c->QB (IC t i)
 net:wh c f (IC t)
 one:∀g∈gs,ZT (IC t) g
 len:∀x∈ls,x.2.1*((2*c+1:Nat):Int)<=t (2*x.1+1)-t (2*x.1)/\t (2*x.1+1)-t (2*x.1)<=x.2.2*((2*c+1:Nat):Int)
theorem PR:∀n f d made t sp,AC c m ls n f d made (.laid t) sp->WA c f->bc c d->wQ c ls f d t
 | 0,_,_,_,_,_,h,_,_=>h.elim
 | n+1,f,d,made,t,sp,h,of,og=>by
  rcases h with⟨st,g,C,W,e,_⟩ | ⟨st,g,J,h⟩
  . cases e
  . obtain⟨a,D,neg⟩:=J.ok of;obtain⟨I,s0,_,_,rfl⟩:=J;have sub:∀{s:Nat->Int×Int},wh c (CC c I) s->wh c f s:=fun q=>q.rp.sub (s0.sub of)
    generalize CC c I=g at a D neg sub h;rcases h with⟨Y,P,k,R,e,_⟩ | ⟨S,u,h⟩
    . cases e
    . rcases h with⟨hs,e,_⟩ | ⟨r,bs,T,hs,h⟩
      . cases e;cases d with
        | cons grp d=>simp![qC]at hs;cases hs
        | nil=>
         have lp:iE c g=none:=by
          simp![qC]at hs;cases lp:iE c g with
          | none=>rfl
          | some p=>rw[lp]at hs;cases hs
         exact⟨A0 u,sub (rx a neg lp u),(fun g y=>nomatch y),fun x hx=>sd u hx⟩
      . rcases h with⟨_,e,_⟩ | ⟨_,h⟩
        . cases e
        . have E:=yM a og hs;have go:∀(bs:Oe EA),(∀b∈bs,WA c b)->∀(o:Nat)(j:Oe Tr)(sp:Nat),uE (AC c m ls n) r st d.tail bs o j (.laid t) sp->∃b∈bs,wQ c ls b d.tail t:=by
           intro bs
           induction bs with
           | nil=>rintro _ o j sp ⟨q,_⟩;cases q
           | cons b bs ih=>
            intro C o j sp q;rcases q with⟨Q,U,q1,q2⟩ | ⟨q1,q2⟩
            . obtain⟨O,B,k⟩:=ih (fun x hx=>C x (by simp[hx])) _ _ _ q2;exact⟨O,by simp[B],k⟩
            . exact⟨b,by simp,PR n b _ o _ _ q2 (C b ⋯) og.tail⟩
          obtain⟨b,F,K⟩:=go bs E _ _ _ h;cases d with
          | cons grp d=>
           simp![qC,Fo,vo]at hs;obtain⟨_,rfl,_⟩:=hs;obtain⟨k,L,rfl⟩:=Bs.mp F;obtain⟨q1,H⟩:=wh.ik K.ok grp (og grp ⋯) g 0 a K.net;refine⟨K.ok,sub q1,fun x hx=>?_,K.len⟩;rcases Ba.mp hx with rfl | hx
           . exact⟨k,Bu.mp L,fun i m M=>by rw[H i m M,Aa]⟩
           . exact K.one x hx
          | nil=>
           simp![qC]at hs;cases lp:iE c g with
           | none=>rw[lp]at hs;cases hs
           | some p=>rw[lp]at hs;simp![Fo,vo]at hs;obtain⟨_,rfl,_⟩:=hs;obtain⟨w,_,rfl⟩:=Bs.mp F;obtain⟨q1,q2⟩:=az.mp (Ai lp);obtain⟨q3,_⟩:=wh.hE K.ok nofun nofun nofun a K.net;exact⟨K.ok,sub q3,(fun g y=>nomatch y),K.len⟩
def Av(a b c):decide ((LB [a,b,c]).length=3)=decide (a≠b/\b≠c/\a≠c):=by
 by_cases g:a=b
 . subst g;by_cases f:a=c
   . subst f;simp[LB]
   . have d:¬c=a:=fun z=>f z.symm
     simp[LB,d]
 . have e:¬b=a:=fun z=>g z.symm
   by_cases f:b=c
   . subst f;simp[LB,e]
   . have d:¬c=b:=fun z=>f z.symm
     by_cases i:a=c
     . subst i;simp[LB,g,e]
     . have h:¬c=a:=fun z=>i z.symm
       simp[LB,g,f,i,e,d,h]
noncomputable def ZF(c i k j:Nat):Bool:=decide (i≠k/\k≠j/\i≠j)&&decide (i<c/\k<c/\j<c)
def Wg(c i k j)(h):ZL [rC i k j,.int (c:Nat)] h=ε (.bl (ZF c i k j),h):=by
 have fs:jP (.tup [.int (i:Nat),.int (k:Nat),.int (j:Nat)]) h=ε (.int ((LB [(i:Int),(k:Int),(j:Int)]).length:Nat),h):=by simp![jP,TB,Wi,Vs];rw[dz (show [(i:Int),(k:Int),(j:Int)].length+1<4096 by simp)]
 have u:=Av (i:Int) (k:Int) (j:Int);have d:decide ((((LB [(i:Int),(k:Int),(j:Int)]).length:Nat):Int)=3)=decide (i≠k/\k≠j/\i≠j):=by have:decide ((((LB [(i:Int),(k:Int),(j:Int)]).length:Nat):Int)=3)=decide ((LB [(i:Int),(k:Int),(j:Int)]).length=3):=decide_eq_decide.mpr nofun;rw[this,u];exact decide_eq_decide.mpr (by simp![ne_eq,Int.natCast_inj])
 have g:=uF (te:=gO) (tc:=aB) (i:=0) (fun(x:Nat)=>Dt.int (x:Int)) (fun x=>Dt.bl (decide (x<c))) h [i,k,j] [none,ε (.int (c:Nat))] fun x q=>⟨rfl,by
  have a:decide ((0:Int)<=(x:Int))=true:=g8 nofun;have b:decide ((x:Int)<(c:Int))=decide (x<c):=decide_eq_decide.mpr nofun;simp[gO]⟩
 have g:CD (uA 0) aB gO [.int (i:Nat),.int (k:Nat),.int (j:Nat)] [none,ε (.int (c:Nat))] h=ε ([.bl (decide (i<c)),.bl (decide (k<c)),.bl (decide (j<c))],h):=g;have fa:AH (.lst [.bl (decide (i<c)),.bl (decide (k<c)),.bl (decide (j<c))]) h=ε (.bl (decide (i<c/\k<c/\j<c)),h):=by have:=N4 (h:=h) [decide (i<c),decide (k<c),decide (j<c)];simp![Uo,Wo]at this;rw[this];by_cases p:i<c<;>by_cases o:k<c<;>by_cases n:j<c<;>simp[p,o,n]
 have m:[Dt.int (i:Nat),.int (k:Nat),.int (j:Nat)].length<sizeLine:=show 3<sizeLine by decide
 unfold rC;by_cases e:i≠k/\k≠j/\i≠j
 . rw[g8 e]at d;dsimp![ZL,uR,Uo (f:=some),Wo (f:=some),Ui,cB,XI,sA,RB,qA,Te,fs,JD,d,FI,GD,nw,Ym,jD,bF,gD,Ls,MD _ _ _ m,g,fa,rB,ZF,g8 e,Gs]
 . rw[fu e]at d;dsimp![ZL,uR,Uo (f:=some),Wo (f:=some),Ui,cB,XI,sA,RB,qA,fs,JD,d,FI,Ws,eO,rB,ZF,fu e,Hi]
def uC(c:Nat):EA->Oe (Nat×Nat×Nat)->Oo EA
 | f,[]=>ε f
 | f,(i,k,j)::st=>if uB c f=true\/ZF c i k j=false\/Wa f i k j=f i j then none else uC c (YB f i k j) st
def wY(c)(f)(i k j)(st):uC c f ((i,k,j)::st)=if uB c f=true\/ZF c i k j=false\/Wa f i k j=f i j then none else uC c (YB f i k j) st:=rfl
def hF:ZF c i k j=true↔WF i k j/\i<c/\k<c/\j<c:=by unfold ZF WF;simp
theorem xZ:∀st a f g,uC c f st=ε g->uC c f (st++a)=uC c g a
 | [],_,f,g,e=>by cases e;rfl
 | (i,k,j)::st,a,f,g,e=>by
  rw[Xe,wY];rw[wY]at e;split at e
  . cases e
  . rename_i n;rw[eG n];exact xZ st a _ _ e
def NX{st:Oe (Nat×Nat×Nat)}(S:vk c f st g):uC c f st=ε g:=by
 induction S with
 | nil=>rfl
 | @snoc st g i k j h e a b d ne n ih=>rw[xZ _ _ _ _ ih];unfold uC;have t:ZF c i k j=true:=hF.mpr ⟨d,e,a,b⟩;rw[eG (by rw[ne,t];simp[n])];rfl
theorem A1:∀st f g,WA c f->uC c f st=ε g->WA c g
 | [],f,g,o,e=>by cases e;exact o
 | (i,k,j)::st,f,g,o,e=>by
  unfold uC at e;split at e
  . cases e
  . rename_i n;have t:ZF c i k j=true:=by
     cases q:ZF c i k j with
     | true=>rfl
     | false=>exact Ea (.inr (.inl q)) n
    obtain⟨d,b,h,a⟩:=hF.mp t;exact A1 st _ _ (US o b a d.2.2) e
inductive XT(c:Nat)(f:EA)(st:List (Nat×Nat×Nat))(h':HI):Dt->Prop
 | no:uC c f st=none->XT c f st h' .non
 | net {g:EA} {b:Nat}:uC c f st=ε g->Vo h' b c g->XT c f st h' (.ref (b+c))
def sh(N:Vo h b c f):yB (.ref (b+c)) h=ε (.int (c:Nat),h):=by have:=bJ N.top;rwa[BM]at this
def xY(N:Vo h b c f)(u:c<=100)(n r:Oo Dt)(i k j) :
 aG ([ε (.ref (b+c)),n,r].set 2 (ε (rC i k j))) h=if uB c f=true\/ZF c i k j=false\/Wa f i k j=f i j then ε (.rt .non h)else ε (.nx [ε (.ref (h.length+c)),n,ε (rC i k j)] (h++XC h.length c (AB f i (Wa f i k j) j))):=by
 have e:=MR N nofun;have a:=Wg c i k j h;have m:=sh N;cases q1:uB c f with
 | true=>rw[q1]at e;rw[dz (.inl rfl)];simp![aG,Vi,Uu,NA,xB,ID,HA,FA,AA,zA,gA,qA,Ss,iA,eA,Ui,e,JA,eH,cB,FD]
 | false=>
  rw[q1]at e;cases q2:ZF c i k j with
  | false=>rw[q2]at a;rw[dz (.inr (.inl rfl))];simp![aG,Vi,Uu,NA,xB,ID,yF,HA,FA,AA,zA,RB,gA,qA,Ss,Te,iA,eA,Ui,e,m,a,JA,Ws,eO,um,eH,cB,FD]
  | true=>
   rw[q2]at a;obtain⟨d,q,o,p⟩:=hF.mp q2;have g:=dY N q o p;have s:=cY N nofun q o p;by_cases q3:Wa f i k j=f i j
   . rw[g8 q3]at g;rw[dz (.inr (.inr q3))];simp![aG,Vi,Uu,NA,xB,ID,yF,HA,FA,AA,zA,RB,gA,qA,Ss,Te,iA,eA,Ui,e,m,a,g,JA,Ws,eO,uo,um,eH,cB,FD]
   . rw[fu q3]at g;rw[eG (by simp[q3])];simp![aG,Vi,Uu,NA,xB,ID,yF,HA,FA,AA,zA,RB,gA,Ss,Te,iA,eA,Ui,e,m,a,g,s,JA,Ws,eO,uo,um,GC,UA,HB]
theorem yY(p:c<=100)(m:Oo Dt):∀st h b f d,Vo h b c f->
 ∃a,(∀(n:Nat)(o:Ob),h[n]?=ε o->a[n]?=ε o)/\((uC c f st=none/\JB (uA 2) aG (st.map pC) [ε (.ref (b+c)),m,d] h=ε (.rt .non a))\/
  ∃g s u,uC c f st=ε g/\Vo a s c g/\JB (uA 2) aG (st.map pC) [ε (.ref (b+c)),m,d] h=ε (.nx [ε (.ref (s+c)),m,u] a))
 | [],h,b,f,d,N=>⟨h,fun z z e=>e,.inr ⟨f,b,d,rfl,N,rfl⟩⟩
 | (i,k,j)::st,h,b,f,d,N=>by
  have t:=xY N p m d i k j;by_cases q:uB c f=true\/ZF c i k j=false\/Wa f i k j=f i j
  . rw[dz q]at t;refine⟨h,fun z z e=>e,.inl ⟨by unfold uC;rw[dz q],?_⟩⟩;simp![Uo,pC,JB,WD,Wi,t,OT]
  . rw[eG q]at t;obtain⟨a,x,r⟩:=yY p m st (h++XC h.length c (AB f i (Wa f i k j) j)) h.length (YB f i k j) (ε (rC i k j)) (kG h c _);have kp:∀(n:Nat)(o:Ob),h[n]?=ε o->a[n]?=ε o:=fun n o e=>x n o (by rw[Xo (Wk e).1];exact e)
    have y:uC c f ((i,k,j)::st)=uC c (YB f i k j) st:=by rw[uC,eG q]
    refine⟨a,kp,?_⟩;rw[y];simp![Uo,pC,JB,WD,Wi,t];exact r
theorem Gm(N:Vo h b c f)(C:c<=100){st:Oe (Nat×Nat×Nat)}(e:BA h d=ε (st.map pC)) :
 ∃x h2,MJ [.ref (b+c),d] h=ε (x,h2)/\(∀(n:Nat)(o:Ob),h[n]?=ε o->h2[n]?=ε o)/\XT c f st h2 x:=by
 obtain⟨h2,kp,r⟩:=yY C (ε d) st h b f none N;have E:∃src,HH (d,h)=ε (src,h)/\wD (uA 2) aG [ε (.ref (b+c)),ε d,none] (src,h)=JB (uA 2) aG (st.map pC) [ε (.ref (b+c)),ε d,none] h:=by
  cases d with
  | lst M=>cases e;exact⟨.vals (st.map pC),rfl,cE _ _ _⟩
  | ref s=>
   have hs:h[s]?=ε (.lst (st.map pC)):=by
    simp![BA]at e;split at e
    . rename_i q;cases e;exact q
    . cases e
   refine⟨.rf s,LD hs,nS (fun l H=>H[s]?=ε (.lst (st.map pC))/\∃b f m,l=[ε (.ref (b+c)),ε (.ref s),m]/\Vo H b c f) (fun _ _ q=>q.1) ?_ ⟨hs,b,f,none,rfl,N⟩⟩;rintro x F l H r ⟨q1,J,P,m,rfl,L⟩ a;obtain⟨⟨i,k,j⟩,_,rfl⟩:=Bs.mp F;have t:=xY L C (ε (.ref s)) m i k j;have a:aG ([ε (.ref (J+c)),ε (.ref s),m].set 2 (ε (rC i k j))) H=ε r:=a;rw[t]at a;split at a
   . cases a;trivial
   . cases a;exact⟨by rw[Xo (Wk q1).1];exact q1,_,_,_,rfl,kG H c _⟩
  | _=>cases e
 obtain⟨src,B,p⟩:=E;rcases r with⟨y,u⟩ | ⟨g,I,O,y,u,D⟩
 . rw[u]at p;refine⟨.non,h2,?_,kp,.no y⟩;dsimp![MJ,fR,Uo (f:=some),Wo (f:=some),Xe,Wu,NA,FC,iC,Te,B,p,FD,rB]
 . rw[D]at p;refine⟨.ref (I+c),h2,?_,kp,.net y u⟩;dsimp![MJ,fR,Uo (f:=some),Wo (f:=some),Xe,Wu,NA,FC,iC,Te,B,p,UA,cB,rB]
def E8:kA (.lst (xs++[d])) (.int (-1)) h=ε (d,h):=by
 rw[fJ];have:L2.atI (xs++[d]) (-1)=ε d:=by unfold L2.atI L2.sI;rw[eG (by decide),dz (by simp![je,T4,Va];omega)];rw[show((-1:Int)+((xs++[d]).length:Nat)).toNat=xs.length by simp![je,T4,Va];omega];simp
 rw[this];rfl
def D8:kA (.lst (d::xs)) (.int 0) h=ε (d,h):=by rw[fJ,show(0:Int)=((0:Nat):Int)from rfl,SM.BD];rfl
set_option tactic.hygienic true in
theorem kU(e:BA h d=ε xs)(i):kA d (.int i) h=(L2.atI xs i).map fun d=>(d,h):=by
 cases d with
 | lst a=>cases e;rfl
 | ref n=>
  simp![BA]at e;split at e
  . rename_i zs q;cases e;exact AF q i
  . cases e
 | _=>cases e
set_option tactic.hygienic true in
theorem ET(e:BA h d=ε xs):yB d h=ε (.int xs.length,h):=by
 cases d with
 | lst a=>cases e;rfl
 | ref n=>
  simp![BA]at e;split at e
  . rename_i zs q;cases e;exact bJ q
  . cases e
 | _=>cases e
def si(e:BA h a=ε (xs++[d])):kA a (.int (-1)) h=ε (d,h):=by rw[kU e,<- fJ (h:=h)];exact E8
def Yp(e:BA h a=ε (d::xs)):kA a (.int 0) h=ε (d,h):=by rw[kU e,<- fJ (h:=h)];exact D8
def RM(e:BA h a=ε xs)(b:xs[k]?=ε d):kA a (.int (k:Nat)) h=ε (d,h):=by rw[kU e,SM.BD,b];rfl
def wT(T:Oe (Oe Int×Dt))(p:Int×Int):Int:=match tE T [p.1,p.2]with
 | some (.int w)=>w
 | _=>0
def BG(r:Oe Int)(T:Oe (Oe Int×Dt)):Bool:=
 (decide (3<=r.length)&&(decide (r.head?=r.getLast?)&&decide ((LB r).length+1=r.length)))&&(((r.zip r.tail).all fun p=>(tE T [p.1,p.2]).isSome)&&decide (((r.zip r.tail).map (wT T)).sum<0))
def uf(e:BA h d=ε (r.map Dt.int))(R:r.length<=1000)(g:BA h2 d=ε (r.map Dt.int))(el:HJ [x] h=ε (.ref n,h2))(S:h2[n]?=ε (.dt T))(U:∀k v,tE T k=ε v->∃w,v=.int w) :
 ∃H,GI [d,x] h=ε (.bl (BG r T),H)/\(H=h\/H=h2):=by
 have D:=ET e;rw[mq]at D;have ef:GI [d,x] h=QC (ER [ε d,ε x,none,none] h):=by rw[GI,nB];rfl
 rw[ef];unfold ER;have j:vi (e2 tI (VB yB (eV 0)) (wq 3)) [ε d,ε x,none,none] h=ε (decide (((r.length:Nat):Int)<3),h):=by simp![HA,sA,RB,gA,qA,Ss,iA,eA,D,CJ,JA]
 by_cases o:3<=r.length
 . rw[fu (show ¬((r.length:Nat):Int)<3 by omega)]at j;obtain⟨a,m,b,rfl⟩:∃a m b,r=a::(m++[b]):=by
    cases r with
    | nil=>simp at o
    | cons a t=>
     rcases eq_nil_or_concat t with z | ⟨m,b,z⟩
     . rw[z]at o;simp at o
     . exact⟨a,m,b,by rw[z,concat_eq_append]⟩
   have Y:kA d (.int 0) h=ε (.int a,h):=Yp (xs:=(m++[b]).map Dt.int) e;have W:kA d (.int (-1)) h=ε (.int b,h):=si (xs:=(a::m).map Dt.int) (by rw[e];simp);have fs:wM d h=ε (.int ((LB (a::(m++[b]))).length:Nat),h):=by simp![wM,e,Wi,IW];rw[dz nofun]
   obtain⟨r,f⟩:∃r,r=a::(m++[b]):=⟨_,rfl⟩
   have hd:r.head?=ε a:=by rw[f];rfl
   have y:r.getLast?=ε b:=by rw[f,<- Xe];exact getLast?_concat
   rw[<- f]at e R D fs g o ⊢;have u:vi (e2 rD (e2 kA (eV 0) (wq 0)) (e2 kA (eV 0) (fD (wq 1)))) [ε d,ε x,none,none] h=ε (!decide (a=b),h):=by simp![HA,sA,mQ,NO,gA,qA,Ss,iA,eA,Y,W,oF,JA]
   have B:vi (e2 rD (VB wM (eV 0)) (e2 zE (VB yB (eV 0)) (wq 1))) [ε d,ε x,none,none] h=ε (!decide (((LB r).length:Int)=(r.length:Int)-1),h):=by simp![HA,sA,RB,gA,qA,Ss,iA,eA,fs,D,DK,oF,JA]
   by_cases E:a=b
   . rw[g8 E]at u;by_cases O:(LB r).length+1=r.length
     . rw[g8 (show(((LB r).length:Nat):Int)=((r.length:Nat):Int)-1 by omega)]at B;have zs:XE (r.map Dt.int) (ε 1) none=r.tail.map Dt.int:=by have:=SM.vS (r.map Dt.int) 1;rw[show((1:Nat):Int)=1 from rfl]at this;rw[this,<- map_drop,drop_one]
       have Q:∀l:LI,l[0]?=ε (ε d)->gP (eV 0) (JK (eV 0) (pF (wq 1)) qN) l h2=ε (.lst ((r.zip r.tail).map fun p=>Dt.ntp [p.1,p.2]),h2):=by
        intro l M;have P:JK (eV 0) (pF (wq 1)) qN l h2=ε (.lst (r.tail.map Dt.int),h2):=by simp![qU,gA,M,iA,eA,sU,qA,ZS,tU,g,Vs,zs]
        have s0:eV 0 l h2=ε (d,h2):=by simp![gA,M,iA]
        simp![gP,s0,P,Wi,g,jH,IW]
       have lp:(r.zip r.tail).length<=1000:=by rw[length_zip];omega
       have hs:((r.zip r.tail).map fun p=>Dt.ntp [p.1,p.2]).length<sizeLine:=by rw[mq];exact Ds lp (by decide)
       have L:vJ h2 (.ref n)=ε T:=by simp![vJ,S]
       have ec:=uF (te:=dO) (tc:=aB) (i:=0) (fun(p:Int×Int)=>Dt.ntp [p.1,p.2]) (fun p=>Dt.bl (tE T [p.1,p.2]).isSome) h2 (r.zip r.tail) [none,ε (.ref n)] fun p c=>⟨rfl,by
        simp![dO,EQ,gA,Uu,Ss,Te,iA,Wi,VM,L,Vs]⟩
       have fa:AH (.lst ((r.zip r.tail).map fun p=>Dt.bl (tE T [p.1,p.2]).isSome)) h2=ε (.bl ((r.zip r.tail).all fun p=>(tE T [p.1,p.2]).isSome),h2):=by have:=N4 (h:=h2) ((r.zip r.tail).map fun p=>(tE T [p.1,p.2]).isSome);rw[map_map,all_map]at this;exact this
       have C:qE (vi (VB AH (lC (FB (eV 3)) (uA 0) aB dO [none,ε 2]))) [ε d,ε x,ε (.ref n),ε (.lst ((r.zip r.tail).map fun p=>Dt.ntp [p.1,p.2]))] h2=ε (!((r.zip r.tail).all fun p=>(tE T [p.1,p.2]).isSome),h2):=by simp![yF,HA,RB,GD,iC,gA,Ss,Te,iA,eA,sF,jD,bF,gD,Ls,MD _ _ _ hs,ec,fa,JA]
       refine⟨h2,?_,.inr rfl⟩;refine JG (h1:=h) (by simp![ID,j,u,B,eA,uo,Ws,eO]) (fF (d:=.ref n) (h1:=h2) (l':=[ε d,ε x,ε (.ref n),none]) (by simp![FA,AA,zA,gA,Ss,Te,iA,eA,Ui,el]) rfl (fF (Q _ rfl) rfl ?_));unfold BG;rw[g8 o,hd,y,E,g8 rfl,g8 O,Gs,Gs,Gs];cases q:(r.zip r.tail).all fun p=>(tE T [p.1,p.2]).isSome with
       | false=>rw[q]at C;exact dD C rfl
       | true=>
        rw[q]at C;have J:=uF (te:=BR) (tc:=aB) (i:=0) (fun(p:Int×Int)=>Dt.ntp [p.1,p.2]) (fun p=>Dt.int (wT T p)) h2 (r.zip r.tail) [none,ε (.ref n)] fun p hp=>⟨rfl,by
         have s:=all_eq_true.mp q p hp;obtain⟨v,F⟩:=Option.isSome_iff_exists.mp s;obtain⟨w,rfl⟩:=U _ _ F;have Z:wT T p=w:=by unfold wT;rw[F]
         simp![BR,bU,gA,Uu,Ss,Te,iA,Wi,VM,L,F,Vs,Z]⟩
        have I:yJ (.lst ((r.zip r.tail).map fun p=>Dt.int (wT T p))) h2=ε (.int ((r.zip r.tail).map (wT T)).sum,h2):=by have:=V4 (h:=h2) ((r.zip r.tail).map (wT T));rw[map_map]at this;exact this
        exact JG C (yP (by simp![sA,RB,GD,iC,gA,qA,Uu,Vi,Ss,Te,iA,eA,sF,jD,bF,gD,Ls,MD _ _ _ hs,J,I,CJ,Gs]))
     . rw[fu (show ¬(((LB r).length:Nat):Int)=((r.length:Nat):Int)-1 by omega)]at B;refine⟨h,?_,.inl rfl⟩;unfold BG;rw[fu O,Ho,Ho,Hi];exact dD (h1:=h) (by simp![ID,j,u,B,eA,uo,um,Ws,eO]) rfl
   . rw[fu E]at u;refine⟨h,?_,.inl rfl⟩;unfold BG;rw[hd,y,fu (show ¬ε a=ε b from fun z=>E (by injection z)),Hi,Ho,Hi];exact dD (h1:=h) (by simp![ID,j,u,eA,um,Ws,eO,eH]) rfl
 . rw[g8 (show((r.length:Nat):Int)<3 by omega)]at j;refine⟨h,?_,.inl rfl⟩;unfold BG;rw[fu o,Hi,Hi];exact dD (h1:=h) (by simp![ID,j,eA,eH]) rfl
def vk.shut{st:Oe (Nat×Nat×Nat)}(h:vk c f st g)(i:ND c f):st=[]/\g=f:=by
 induction h with
 | nil=>exact⟨rfl,rfl⟩
 | snoc h e a b d ne n ih=>obtain⟨rfl,rfl⟩:=ih;exact Ea (i _ e _ a _ b d) n
def Gx{st:Oe (Nat×Nat×Nat)}(e:h[w]?=ε (.lst (st.map pC))):RC (.ref w) (.lst []) h=ε (.bl (!st.isEmpty),h):=by rw[hU (xs:=st.map pC) (by simp![BA,e])];cases st<;>rfl
inductive C5(h:HI)(c:Nat)(f:EA)(bn:Nat):Prop
 | mk (x:Dt) (s:Nat) (h':HI) (v:Bool) (p0:UJ [.ref (bn+c)] h=ε (.tup [x,.ref s],h')) (p1:vl h h') (p2:RC (.ref s) (.lst []) h'=ε (.bl v,h')) (p3:(v=false↔ND c f)):C5 h c f bn
def W8(m:c<=100)(of:WA c f)(N:Vo h bn c f)(ne:uB c f=false):C5 h c f bn:=by
 have J:=uO (show c<=1000 by omega) h;have Q:=JI c c;have H:c*c<=100*100:=Ji m m;obtain⟨d,y,e,x,s,st,g,rfl,O,F,E,D,j,M,u⟩:=qR m of (N.grow [.lst ((LA c).map pA)]) (pd:=.ref h.length) (P:=LA c) (fun z=>by simp[sD,BA]) (fun p hp=>by
  obtain⟨q1,q2⟩:=az.mp hp;omega) (YR c f) (by unfold LA;omega)
 have up:∀(n:Nat)(o:Ob),h[n]?=ε o->y[n]?=ε o:=fun n o i=>by have k:n<h.length:=(Wk i).1;rw[E n (by simp;omega),Xo k];exact i
 refine⟨x,s,y,!st.isEmpty,?_,⟨by simp at F;omega,fun n B i=>up n _ i,fun n B i=>up n _ i⟩,Gx D,?_⟩
 . simp![UJ,fX,nB,cB,FA,AA,zA,RB,gA,Uo,Wo,Xe,Wu,T4,Va,eH,Ss,iA,eA,N.len,Ui,J,e,rB,Nat.reduceAdd]
 . constructor
   . intro z;have C:st=[]:=by
      cases st with
      | nil=>rfl
      | cons a r=>cases z
     subst C;have I:g=f:=by
      generalize hs:([]:Oe (Nat×Nat×Nat))=st at j;cases j with
      | nil=>rfl
      | snoc=>simp at hs
     rw[I]at u;rcases u with⟨_,q⟩ | ⟨b,_,_,_,q,_⟩
     . rw[ne]at q;cases q
     . exact q
   . intro L;rw[(j.shut L).1];rfl
noncomputable abbrev BU:=Nat×Nat×Nat
inductive vw where
 | ag (st:List BU)
 | ring (st:List BU) (r:List Int)
 | one (st:List BU) (bs:List vw)
 | split (st:List BU) (p:Nat×Nat) (bs:List vw)
noncomputable def vw.st:vw->Oe BU
 | .ag st=>st
 | .ring st _=>st
 | .one st _=>st
 | .split st _ _=>st
noncomputable def vw.kids:vw->Oe vw
 | .one _ bs=>bs
 | .split _ _ bs=>bs
 | _=>[]
noncomputable def vw.wd:vw->Str
 | .ag _ => "threes"
 | .ring _ _ => "ring"
 | .one _ _ => "one"
 | .split _ _ _ => "split"
mutual
noncomputable def zF:vw->Nat
 | .ag _=>1
 | .ring _ _=>1
 | .one _ bs=>wF bs+1
 | .split _ _ bs=>wF bs+1
noncomputable def wF:Oe vw->Nat
 | []=>0
 | t::ts=>max (zF t) (wF ts)
end
mutual
noncomputable def vv(h:HI):vw->Dt->Prop
 | .ag st,d=>∃s,d=.tup [.str "threes",s]/\BA h s=ε (st.map pC)
 | .ring st r,d=>∃s x,d=.tup [.str "ring",s,x]/\BA h s=ε (st.map pC)/\BA h x=ε (r.map Dt.int)/\r.length<=1000
 | .one st bs,d=>∃s x ds,d=.tup [.str "one",s,x]/\BA h s=ε (st.map pC)/\BA h x=ε ds/\zdt h bs ds
 | .split st p bs,d=>∃s x ds,d=.tup [.str "split",s,.int (p.1:Nat),.int (p.2:Nat),x]/\BA h s=ε (st.map pC)/\BA h x=ε ds/\zdt h bs ds
noncomputable def zdt(h:HI):Oe vw->Oe Dt->Prop
 | [],ds=>ds=[]
 | t::ts,ds=>∃d r,ds=d::r/\vv h t d/\zdt h ts r
end
set_option tactic.hygienic true in
theorem rG(u:vl h h')(e:BA h d=ε xs):BA h' d=ε xs:=by
 cases d with
 | lst a=>exact e
 | ref n=>
  simp![BA]at e;split at e
  . rename_i zs q;cases e;simp![BA,u.2 _ _ q]
  . cases e
 | _=>cases e
mutual
theorem vv.up{h h':HI}(u:vl h h'):∀(t:vw){d:Dt},vv h t d->vv h' t d
 | .ag st,d,q=>by simp![vv]at q ⊢;obtain⟨s,e,q⟩:=q;exact⟨s,e,rG u q⟩
 | .ring st r,d,q=>by simp![vv]at q ⊢;obtain⟨s,x,e,q1,q2,q3⟩:=q;exact⟨s,x,e,rG u q1,rG u q2,q3⟩
 | .one st bs,d,q=>by simp![vv]at q ⊢;obtain⟨s,x,ds,e,q1,q2,q3⟩:=q;exact⟨s,x,ds,e,rG u q1,rG u q2,zdt.up u bs q3⟩
 | .split st p bs,d,q=>by simp![vv]at q ⊢;obtain⟨s,x,ds,e,q1,q2,q3⟩:=q;exact⟨s,x,ds,e,rG u q1,rG u q2,zdt.up u bs q3⟩
theorem zdt.up{h h':HI}(u:vl h h'):∀(a:Oe vw){ds:Oe Dt},zdt h a ds->zdt h' a ds
 | [],ds,q=>by simp![zdt]at q ⊢;exact q
 | t::a,ds,q=>by simp![zdt]at q ⊢;obtain⟨d,r,e,q1,q2⟩:=q;exact⟨d,r,e,vv.up u t q1,zdt.up u a q2⟩
end
theorem zdt.len:∀a{ds:Oe Dt},zdt h a ds->ds.length=a.length
 | [],ds,q=>by simp![zdt]at q;rw[q];rfl
 | t::a,ds,q=>by simp![zdt]at q;obtain⟨d,r,rfl,_,q2⟩:=q;simp![T4,zdt.len a q2]
def vv.hd(q:vv h t d):∃s,(∀H,kA d (.int 0) H=ε (.str t.wd,H))/\(∀H,kA d (.int 1) H=ε (s,H))/\BA h s=ε (t.st.map pC):=by
 cases t with
 | ag st=>simp![vv]at q;obtain⟨s,rfl,q⟩:=q;exact⟨s,fun z=>rfl,fun z=>rfl,q⟩
 | ring st r=>simp![vv]at q;obtain⟨s,x,rfl,q,_⟩:=q;exact⟨s,fun z=>rfl,fun z=>rfl,q⟩
 | one st bs=>simp![vv]at q;obtain⟨s,x,ds,rfl,q,_⟩:=q;exact⟨s,fun z=>rfl,fun z=>rfl,q⟩
 | split st p bs=>simp![vv]at q;obtain⟨s,x,ds,rfl,q,_⟩:=q;exact⟨s,fun z=>rfl,fun z=>rfl,q⟩
def Gz(kp:∀(n:Nat)(o:Ob),h[n]?=ε o->h2[n]?=ε o):vl h h2:=by
 refine⟨?_,fun n a e=>kp n _ e,fun n a e=>kp n _ e⟩;rcases Nat.eq_zero_or_pos h.length with z | z
 . omega
 . have:h[h.length-1]?=ε h[h.length-1]:=by simp
   have:=(Wk (kp _ _ this)).1;omega
noncomputable def wI:vw->Oo (Nat×Nat)
 | .split _ p _=>ε p
 | _=>none
noncomputable def VT:vw->Prop
 | .one _ _=>True
 | .split _ _ _=>True
 | _=>False
def vI(c:Nat)(g:EA)(ls:Oe Ln):Oe (Oe Int×Dt):=(nC (fC c g ls)).map CB
mutual
inductive Sh(c:Nat)(ls:List Ln):Nat->EA->List (List EB)->vw->Bool->Prop
 | no {n f gs t}:uC c f t.st=none->Sh c ls (n+1) f gs t false
 | ag {n f gs st g}:uC c f st=ε g->Sh c ls (n+1) f gs (.ag st) (uB c g)
 | loose {n f gs t g}:t.wd≠("threes" :Str)->uC c f t.st=ε g->(uB c g=true\/¬ND c g)->Sh c ls (n+1) f gs t false
 | ring {n f gs st r g}:uC c f st=ε g->uB c g=false->ND c g->Sh c ls (n+1) f gs (.ring st r) (BG r (vI c (CC c g) ls))
 | odd {n f gs t g}:VT t->uC c f t.st=ε g->uB c g=false->ND c g->(∀bs ps,qC c (CC c g) gs=ε (wI t,bs,ps)->bs.length≠t.kids.length)->Sh c ls (n+1) f gs t false
 | cut {n f gs t g bs ps v}:VT t->uC c f t.st=ε g->uB c g=false->ND c g->qC c (CC c g) gs=ε (wI t,bs,ps)->bs.length=t.kids.length->qQ c ls n bs gs.tail t.kids v->Sh c ls (n+1) f gs t v
inductive qQ(c:Nat)(ls:List Ln):Nat->List EA->List (List EB)->List vw->Bool->Prop
 | nil {n gs}:qQ c ls n [] gs [] true
 | no {n f fs gs t ts}:Sh c ls n f gs t false->qQ c ls n (f::fs) gs (t::ts) false
 | yes {n f fs gs t ts v}:Sh c ls n f gs t true->qQ c ls n fs gs ts v->qQ c ls n (f::fs) gs (t::ts) v
end
def NU(a b)(h):xG (.str a) (.str b) h=ε (.bl (decide (a=b)),h):=Cv a b
def R7(a b)(h):RC (.str a) (.str b) h=ε (.bl (!decide (a=b)),h):=gQ a b
def F9(c)(g)(ls):∀k v,tE (vI c g ls) k=ε v->∃w,v=.int w:=by intro k v e;unfold tE at e;obtain⟨p,hp,rfl⟩:=Ga.mp e;have:=Ai hp;unfold vI at this;obtain⟨x,_,rfl⟩:=Bs.mp this;exact⟨_,rfl⟩
inductive B5(h:HI)(b c:Nat)(g:EA)(ls:List Ln)(x:Dt)(r:List Int):Prop
 | mk (y:Dt) (h1:HI) (h':HI) (p0:QH [.ref (b+c),.lst (ls.map lB)] h=ε (y,h1)) (p1:GI [x,y] h1=ε (.bl (BG r (vI c g ls)),h')) (p2:vl h h'):B5 h b c g ls x r
def Pk(N:Vo h b c g)(n:c<=8)(og:WA c g)(ne:uB c g=false)(m:ls.length<=100)(e:BA h x=ε (r.map Dt.int))(k:r.length<=1000):B5 h b c g ls x r:=by
 obtain⟨rest,q⟩:=aY nofun (fun i j f d=>HS (og.lt i f j d) (cq ne f d)) (ls:=ls) nofun N;have u:(fC c g ls).length<=1000:=sS n g m;have da:(h++.lst ((fC c g ls).map xA)::rest)[h.length]?=ε (.lst ((fC c g ls).map xA)):=by simp
 have p:=QV (fC c g ls) u _ da;have a:vl h (h++.lst ((fC c g ls).map xA)::rest):=vl.app _ _;obtain⟨o,s,e2⟩:=uf (rG a e) k (rG (a.trans (vl.app _ _)) e) p (T:=vI c g ls) (by unfold vI;simp) (F9 c g ls);refine⟨_,_,o,q,s,?_⟩;rcases e2 with rfl | rfl
 . exact a
 . exact a.trans (vl.app _ _)
def oT(c:Nat)(ls:Oe Ln)(n:Nat)(R:oB):Prop:=∀(f:EA)(e:Oe (Oe EB))(t:vw)(h:HI)(b:Nat)(a:Oe Dt)(d:Dt),Vo h b c f->WA c f->ax h a e->bc c e->(∀x∈e,x.length<=1000)->vv h t d->zF t<=n->
 ∃v g,R [.ref (b+c),.lst a,.lst (ls.map lB),d] h=ε (.bl v,g)/\vl h g/\Sh c ls n f e t v
theorem uY(E:oT c ls n R)(go:bc c p)(B:∀x∈p,x.length<=1000)(x):∀nr i bs g e dp h k j,e.length=dp.length->BA h x=ε (dp++i)->ah (ce h c) bs nr->(∀b∈bs,WA c b)->zdt h g i->bs.length=g.length->wF g<=n->ax h gds p->
 ∃v s,vl h s/\qQ c ls n bs p g v/\((v=false/\BB (OC 4 5) (cH R) (.zp (.lst (e++nr)) x) (nr.length+1) e.length [ε (.lst (e++nr)),ε (.lst gds),ε (.lst (ls.map lB)),ε x,k,j] h=ε (.rt (.bl false) s))\/
  (v=true/\∃H F,BB (OC 4 5) (cH R) (.zp (.lst (e++nr)) x) (nr.length+1) e.length [ε (.lst (e++nr)),ε (.lst gds),ε (.lst (ls.map lB)),ε x,k,j] h=ε (.nx [ε (.lst (e++nr)),ε (.lst gds),ε (.lst (ls.map lB)),ε x,H,F] s)))
 | [],i,bs,g,e,dp,h,k,j,hl,hx,a,ob,ft,bl,dp',Q=>by
  cases a;have tn:g=[]:=by cases g with | nil=>rfl | cons=>simp at bl
  subst tn;have Y:i=[]:=by simpa only[zdt]using ft
  subst Y;refine⟨true,h,vl.refl h,.nil,.inr ⟨rfl,k,j,?_⟩⟩;unfold BB;rw[Ui]at hx;simp![vj.at,jH,hx,Ui,hl,ju (Us dp.length)];rw[ju nofun]
 | nd::nr,i,bs,g,e,dp,h,k,j,hl,hx,a,ob,ft,bl,dpp,Q=>by
  cases a with
  | @cons D _ u _ a1 a2=>
   obtain⟨f,rfl,N⟩:=a1;cases g with
   | nil=>simp at bl
   | cons t g=>
    simp![zdt]at ft;obtain⟨d,i,rfl,T,S⟩:=ft;have C:zF t<=n/\wF g<=n:=by simp![wF]at dpp;omega
    obtain⟨v,o,W,m,y⟩:=E D p t h f gds d N (ob D ⋯) Q go B T C.1;have P:(e++Dt.ref (f+c)::nr)[e.length]?=ε (.ref (f+c)):=by simp
    have g2:(dp++d::i)[e.length]?=ε d:=by rw[hl];simp
    have Z:cH R [ε (.lst (e++Dt.ref (f+c)::nr)),ε (.lst gds),ε (.lst (ls.map lB)),ε x,ε (.ref (f+c)),ε d] h=if v=true then ε (.nx [ε (.lst (e++Dt.ref (f+c)::nr)),ε (.lst gds),ε (.lst (ls.map lB)),ε x,ε (.ref (f+c)),ε d] o)else ε (.rt (.bl false) o):=by cases v<;>simp![cH,xB,yF,HA,FA,AA,zA,gA,qA,Ss,Te,iA,eA,Ui,W,JA,uo,um,Ws,eO,eH,cB,GC]
    have st:∀K,(BB (OC 4 5) (cH R) (.zp (.lst (e++Dt.ref (f+c)::nr)) x) (K+1) e.length [ε (.lst (e++Dt.ref (f+c)::nr)),ε (.lst gds),ε (.lst (ls.map lB)),ε x,k,j] h)=if v=true then BB (OC 4 5) (cH R) (.zp (.lst (e++Dt.ref (f+c)::nr)) x) K (e.length+1) [ε (.lst (e++Dt.ref (f+c)::nr)),ε (.lst gds),ε (.lst (ls.map lB)),ε x,ε (.ref (f+c)),ε d] o else ε (.rt (.bl false) o):=by intro K;rw[BB];simp![vj.at,jH,hx,P,g2,gK,Wi,Vi,Uu,Z];cases v<;>rfl
    cases v with
    | false=>refine⟨false,o,m,.no y,.inl ⟨rfl,?_⟩⟩;rw[T4,st];rfl
    | true=>
     obtain⟨I,O,J,L,r⟩:=uY E go B x nr i u g (e++[.ref (f+c)]) (dp++[d]) o (ε (.ref (f+c))) (ε d) (by simp[hl]) (by rw[rG m hx];simp) (a2.imp fun z z q=>q.up m) (fun b M=>ob b (by simp[M])) (zdt.up m g S) (by simpa using bl) C.2 (Q.up m);refine⟨I,O,m.trans J,.yes y L,?_⟩;have U:e++[Dt.ref (f+c)]++nr=e++Dt.ref (f+c)::nr:=by simp
     rw[U,je,length_singleton]at r;rw[T4,st];exact r
def Cm(t):1<=zF t:=by cases t<;>simp[zF]
def nq(p q):RC (pA p) (.tup [.int (q.1:Nat),.int (q.2:Nat)]) h=ε (.bl (!decide (p=q)),h):=by
 have e:decide ([(p.1:Int),p.2]=[(q.1:Int),q.2])=decide (p=q):=by obtain⟨a,b⟩:=p;obtain⟨f,d⟩:=q;rw[Bool.eq_iff_iff];simp;omega
 rw[<- e];rfl
def sj:RC (.tup []) (.tup []) h=ε (.bl false,h):=rfl
def Y2(a s x):SM.XE [a,s,x] (ε 2) (ε (-1))=[]/\¬(HT.sIx [a,s,x].length 0 (ε 2)=0/\HT.sIx [a,s,x].length [a,s,x].length (ε (-1))=[a,s,x].length):=⟨rfl,show ¬(HT.sIx 3 0 (ε 2)=0/\HT.sIx 3 3 (ε (-1))=3) by decide⟩
def Z2(a s p q x):SM.XE [a,s,p,q,x] (ε 2) (ε (-1))=[p,q]/\¬(HT.sIx [a,s,p,q,x].length 0 (ε 2)=0/\HT.sIx [a,s,p,q,x].length [a,s,p,q,x].length (ε (-1))=[a,s,p,q,x].length):=⟨rfl,show ¬(HT.sIx 5 0 (ε 2)=0/\HT.sIx 5 5 (ε (-1))=5) by decide⟩
def O0(hd:d=.tup xs)(h1:SM.XE xs (ε 2) (ε (-1))=ys)(h2:¬(HT.sIx xs.length 0 (ε 2)=0/\HT.sIx xs.length xs.length (ε (-1))=xs.length))(a:l[3]?=ε (ε d)):lI (eV 3) (pF (wq 2)) (pF (fD (wq 1))) l h=ε (.tup ys,h):=by
 have f:eV 3 l h=ε (.tup xs,h):=by simp![gA,a,iA,hd]
 have e:pF (wq 2) l h=ε (ε 2,h):=rfl;have b:pF (fD (wq 1)) l h=ε (ε (-1),h):=rfl;simp![lI,f,e,b,Wi,i6,dz h2,h1]
def Ug(D:oT c ls n R)(go:bc c i)(C:∀x∈i,x.length<=1000)(k:BA h x=ε ds)(a:ah (ce h c) bs d)(ob:∀b∈bs,WA c b)(y:zdt h e ds)(dp:wF e<=n)(Q:ax h gds i) :
 ∃v g,KH R [.lst d,.lst gds,.lst (ls.map lB),x] h=ε (.bl v,g)/\vl h g/\((v=false/\bs.length≠e.length)\/(bs.length=e.length/\qQ c ls n bs i e v)):=by
 have o:=PM (xs:=d) (h:=h);have m:=ET k;have I:=a.len;have H:=zdt.len e y;by_cases q:bs.length=e.length
 . have j:decide (((d.length:Nat):Int)=((ds.length:Nat):Int))=true:=g8 nofun;obtain⟨v,g,u,s,r⟩:=uY D go C x d ds bs e [] [] h none none rfl k a ob y q dp Q;have p:=Af (r:=.lst d) (q:=x) (jH d) k;have B:wD (OC 4 5) (cH R) [ε (.lst d),ε (.lst gds),ε (.lst (ls.map lB)),ε x,none,none] (.zp (.lst d) x,h)=BB (OC 4 5) (cH R) (.zp (.lst d) x) (d.length+1) 0 [ε (.lst d),ε (.lst gds),ε (.lst (ls.map lB)),ε x,none,none] h:=by unfold wD;simp![vj.fuel,jH]
   simp![Wu,Va]at r;rcases r with⟨rfl,r⟩ | ⟨rfl,F,E,r⟩
   . refine⟨false,g,?_,u,.inr ⟨q,s⟩⟩;dsimp![KH,IL,Uo (f:=some),Wo (f:=some),Xe,Wu,NA,xB,HA,sA,RB,Te,o,m,oF,j,uo,JA,Ws,eO,GC,UA,FC,C4,p,B,r,FD,rB]
   . refine⟨true,g,?_,u,.inr ⟨q,s⟩⟩;dsimp![KH,IL,Uo (f:=some),Wo (f:=some),Xe,Wu,NA,xB,HA,sA,RB,Te,o,m,oF,j,uo,JA,Ws,eO,GC,UA,FC,C4,p,B,r,cB,qA,rB]
 . have j:decide (((d.length:Nat):Int)=((ds.length:Nat):Int))=false:=fu nofun;refine⟨false,h,?_,vl.refl h,.inl ⟨rfl,q⟩⟩;dsimp![KH,IL,Uo (f:=some),Wo (f:=some),Xe,Wu,NA,xB,HA,sA,RB,qA,Te,o,m,oF,j,um,JA,cB,FD,rB]
noncomputable def ZG:Oo (Nat×Nat)->Str
 | none => "one"
 | some _ => "split"
def HN:Oo (Nat×Nat)->Dt
 | none=>.tup []
 | some p=>pA p
theorem Zf:∀a,¬ZG a=Str.ofString "ring"
 | none=>show ¬(Str.ofString "one" =Str.ofString "ring") by decide
 | some _=>show ¬(Str.ofString "split" =Str.ofString "ring") by decide
theorem sn:∀{a b:Oo (Nat×Nat)},ZG a=ZG b->RC (HN a) (HN b) h=ε (.bl (!decide (a=b)),h)
 | none,none,_=>sj
 | some p,some q,_=>by
  have e:decide (ε p=ε q)=decide (p=q):=by simp
  rw[e];exact nq p q
 | none,some _,w=>Ea w (show ¬(Str.ofString "one" =Str.ofString "split") by decide)
 | some _,none,w=>Ea w (show ¬(Str.ofString "split" =Str.ofString "one") by decide)
def so(hc:c<=8)(hl:ls.length<=100):∀n,oT c ls n (YH n):=by
 intro n
 induction n with
 | zero=>intro f gs t h b m d _ _ _ _ _ _ dp;have:=Cm t;omega
 | succ n IH=>
  intro f gs t h b m d N of Q go gl F dp;obtain⟨s,i0,i1,es⟩:=F.hd;obtain⟨x,u,eb,kp,B⟩:=Gm N nofun es;have u1:=Gz kp;obtain⟨L,R⟩:∃L:Dt->Oo Dt->LI,∀y z,L y z=[ε (.ref (b+c)),ε (.lst m),ε (.lst (ls.map lB)),ε d,ε y,z]:=⟨_,fun V V=>rfl⟩
  have l0:∀y z,(L y z)[0]?=ε (ε (.ref (b+c))):=fun y z=>by rw[R];rfl
  have l1:∀y z,(L y z)[1]?=ε (ε (.lst m)):=fun y z=>by rw[R];rfl
  have l2:∀y z,(L y z)[2]?=ε (ε (.lst (ls.map lB))):=fun y z=>by rw[R];rfl
  have l3:∀y z,(L y z)[3]?=ε (ε d):=fun y z=>by rw[R];rfl
  have l4:∀y z,(L y z)[4]?=ε (ε y):=fun y z=>by rw[R];rfl
  have l5:∀y z,(L y (ε z))[5]?=ε (ε z):=fun y z=>by rw[R];rfl
  have wd:∀(y:Dt)(z:Oo Dt)(H:HI),e2 kA (eV 3) (wq 0) (L y z) H=ε (.str t.wd,H):=fun y z H=>by simp![sA,gA,qA,l3,iA,eA,i0]
  have no:∀(y:Dt)(z:Oo Dt)(H:HI),eC (.bl false) (L y z) H=ε (.bl false,H):=fun V V V=>rfl
  obtain⟨Y,k⟩:∃Y,YH (n+1) [.ref (b+c),.lst m,.lst (ls.map lB),d] h=Y:=⟨_,rfl⟩
  rw[k];have out:∀(v:Bool)(P:HI),Y=ε (.bl v,P)->vl h P->Sh c ls (n+1) f gs t v->∃v P,Y=ε (.bl v,P)/\vl h P/\Sh c ls (n+1) f gs t v:=fun v P a b d=>⟨v,P,a,b,d⟩
  have ef:YH (n+1) [.ref (b+c),.lst m,.lst (ls.map lB),d] h=QC (ZJ (YH n) [ε (.ref (b+c)),ε (.lst m),ε (.lst (ls.map lB)),ε d,none,none] h):=by show IB 4 6 (ZJ (YH n)) _ h=_;rw[nB];rfl
  have s1:rA MJ [] (bA (eV 0) (bA (e2 kA (eV 3) (wq 1)) dA)) [ε (.ref (b+c)),ε (.lst m),ε (.lst (ls.map lB)),ε d,none,none] h=ε (x,u):=by simp![FA,AA,zA,sA,gA,qA,Ss,Te,iA,eA,Ui,i1,eb]
  rw[ef,ZJ,HE (i:=4) (l':=L x none) s1 (R x none).symm]at k;cases B with
  | no q=>
   have s2:vi (e2 yE (eV 4) (eC .non)) (L .non none) u=ε (true,u):=by simp![HA,sA,gA,qA,l4,iA,eA];rfl
   rw[dD s2 (no _ _ _)]at k;exact out false u k.symm u1 (.no q)
  | @net g o q N1=>
   have og:=A1 _ _ _ of q;have s2:vi (e2 yE (eV 4) (eC .non)) (L (.ref (o+c)) none) u=ε (false,u):=by simp![HA,sA,gA,qA,l4,iA,eA];rfl
   have em:=MR N1 nofun;have ee:rA dG [] (bA (eV 4) dA) (L (.ref (o+c)) none) u=ε (.bl (uB c g),u):=by simp![FA,AA,zA,gA,l4,iA,eA,Ui,em]
   have I:vi (e2 xG (e2 kA (eV 3) (wq 0)) (eC (.str "threes"))) (L (.ref (o+c)) none) u=ε (decide (t.wd = "threes"),u):=by rw[HA,sA,wd];simp![qA,eA,NU,JA]
   rw[jE s2]at k;by_cases S:t.wd = "threes"
   . rw[g8 S]at I;rw[dD I ee]at k;cases t with
     | ag st=>exact out _ u k.symm u1 (.ag q)
     | ring st r=>exact Ea S (by show ¬(("ring" :Str) = "threes");decide)
     | one st bs=>exact Ea S (by show ¬(("one" :Str) = "threes");decide)
     | split st p bs=>exact Ea S (by show ¬(("split" :Str) = "threes");decide)
   . rw[fu S]at I;rw[jE I]at k;cases ne:uB c g with
     | true=>
      rw[ne]at ee;have s4:yC (vi (rA dG [] (bA (eV 4) dA))) (vi (e2 RC (e2 kA (rA UJ [] (bA (eV 4) dA)) (wq 1)) (DC dA))) (L (.ref (o+c)) none) u=ε (true,u):=by rw[ID,HA,ee];simp![eA,JA,eH]
      rw[dD s4 (no _ _ _)]at k;exact out false u k.symm u1 (.loose S q (.inl ne))
     | false=>
      rw[ne]at ee;obtain⟨x2,a1,E,v2,er,u2,en,cl⟩:=W8 nofun og N1 ne;have j1:kA (.tup [x2,.ref a1]) (.int 1) E=ε (.ref a1,E):=rfl;have s4:yC (vi (rA dG [] (bA (eV 4) dA))) (vi (e2 RC (e2 kA (rA UJ [] (bA (eV 4) dA)) (wq 1)) (DC dA))) (L (.ref (o+c)) none) u=ε (v2,E):=by rw[ID,HA,ee];simp![eA,JA,Ws,eO,HA,sA,FA,AA,zA,gA,qA,pG,Va,m6,eH,l4,iA,Ui,er,j1,en]
      have J:=u1.trans u2;cases hv:v2 with
      | true=>rw[hv]at s4;rw[dD s4 (no _ _ _)]at k;exact out false E k.symm J (.loose S q (.inr fun z=>by rw[cl.mpr z]at hv;cases hv))
      | false=>
       have O:=cl.mp hv;rw[hv]at s4;have N2:=zZ (u2.net N1);have W:=X2 og;have a7:uB c (CC c g)=false:=by rw[YX];exact ne
       have s5:vi (e2 xG (e2 kA (eV 3) (wq 0)) (eC (.str "ring"))) (L (.ref (o+c)) none) E=ε (decide (t.wd = "ring"),E):=by rw[HA,sA,wd];simp![qA,eA,NU,JA]
       have F2:=vv.up J t F;have Q2:=Q.up J;rw[jE s4]at k;have a0:∀(C:Dt)(ds:Oe Dt),VT t->BA E C=ε ds->zdt E t.kids ds->wF t.kids<=n->(∀H,kA d (.int (-1)) H=ε (C,H))->(∀(l:LI)(H:HI),l[3]?=ε (ε d)->lI (eV 3) (pF (wq 2)) (pF (fD (wq 1))) l H=ε (HN (wI t),H))->t.wd=ZG (wI t)->∃v P,Y=ε (.bl v,P)/\vl h P/\Sh c ls (n+1) f gs t v:=by
        intro C ds ic f2 Z M lst sl tg;rw[show decide (t.wd=("ring" :Str))=false by rw[tg];exact fu (Zf _)]at s5;obtain⟨h3,U3,ms⟩:=HW N2 W nofun Q2 go gl;have u3:vl h h3:=J.trans U3.l;rw[jE s5]at k;have gt:ax h3 m.tail gs.tail:=by
         have:=Q2.up U3.l;cases this with
         | nil=>exact .nil
         | cons a r=>exact r
        have s6:∀y,tF [.ref (o+c),.lst m] E=ε (y,h3)->rA tF [] (bA (eV 4) (bA (eV 1) dA)) (L (.ref (o+c)) none) E=ε (y,h3):=fun y e=>by simp![FA,AA,zA,gA,l4,l1,iA,eA,Ui,e]
        have a3:∀y,(L (.ref (o+c)) none).set 5 (ε y)=L (.ref (o+c)) (ε y):=fun y=>by rw[R,R];rfl
        cases hs:qC c (CC c g) gs with
        | none=>
         rw[hs]at ms;rw[HE (s6 _ ms) (a3 _)]at k;have U:yC (vi (e2 yE (eV 5) (eC .non))) (yC (vi (e2 RC (e2 kA (eV 5) (wq 0)) (e2 kA (eV 3) (wq 0)))) (vi (e2 RC (e2 kA (eV 5) (wq 1)) (lI (eV 3) (pF (wq 2)) (pF (fD (wq 1))))))) (L (.ref (o+c)) (ε .non)) h3=ε (true,h3):=by rw[ID,HA,sA];simp![gA,qA,l5,iA,eA];rfl
         rw[dD U (no _ _ _)]at k;exact out false h3 k.symm u3 (.odd ic q ne O fun a4 ps z=>by rw[hs]at z;cases z)
        | some z=>
         obtain⟨j,b2,ps⟩:=z;rw[hs]at ms;obtain⟨D,a2,e3⟩:=ms;have a6:=yM W go hs;have a8:=rG U3.l f2;obtain⟨v,h4,e4,u4,r4⟩:=Ug IH go.tail (fun y hy=>gl y (mem_of_mem_tail hy)) a8 a2 a6 (zdt.up U3.l _ Z) M gt;have kn:yE (TC j D ps) .non h3=ε (.bl false,h3):=by cases j<;>rfl
         have k0:kA (TC j D ps) (.int 0) h3=ε (.str (ZG j),h3):=by cases j<;>rfl
         have k2:kA (TC j D ps) (.int 1) h3=ε (HN j,h3):=by cases j<;>rfl
         have k3:kA (TC j D ps) (.int 2) h3=ε (.lst D,h3):=by cases j<;>rfl
         generalize TC j D ps=T at e3 kn k0 k2 k3;rw[HE (s6 _ e3) (a3 _)]at k;have U:∀z,(ZG j=t.wd->z=!decide (j=wI t))->(ZG j≠t.wd->z=true)->yC (vi (e2 yE (eV 5) (eC .non))) (yC (vi (e2 RC (e2 kA (eV 5) (wq 0)) (e2 kA (eV 3) (wq 0)))) (vi (e2 RC (e2 kA (eV 5) (wq 1)) (lI (eV 3) (pF (wq 2)) (pF (fD (wq 1))))))) (L (.ref (o+c)) (ε T)) h3=ε (z,h3):=by
          intro z z1 z2;have t1:vi (e2 yE (eV 5) (eC .non)) (L (.ref (o+c)) (ε T)) h3=ε (false,h3):=by simp![HA,sA,gA,qA,l5,iA,eA,kn,JA]
          have t2:vi (e2 RC (e2 kA (eV 5) (wq 0)) (e2 kA (eV 3) (wq 0))) (L (.ref (o+c)) (ε T)) h3=ε (!decide (ZG j=t.wd),h3):=by simp![HA,sA,gA,qA,l5,l3,iA,eA,k0,i0,R7,JA]
          rw[ID,t1];simp![eA,Ws,eO];rw[ID,t2];by_cases we:ZG j=t.wd
          . rw[z1 we,g8 we];simp![uo,eA,Ws,eO,HA,sA,gA,qA,l5,iA,k2,sl _ h3 (l3 _ _),sn (we.trans tg),JA]
          . rw[z2 we,fu we];simp![um,eA,eH]
         by_cases te:j=wI t
         . have U:=U false (fun V=>by rw[g8 te];rfl) (fun w=>Ea (by rw[te];exact tg.symm) w);have s8:rA (KH (YH n)) [] (bA (e2 kA (eV 5) (wq 2)) (bA (JK (eV 1) (pF (wq 1)) qN) (bA (eV 2) (bA (e2 kA (eV 3) (fD (wq 1))) dA)))) (L (.ref (o+c)) (ε T)) h3=ε (.bl v,h4):=by have:=SM.vS m 1;rw[show((1:Nat):Int)=1 from rfl]at this;simp![FA,AA,zA,sA,gA,qA,qU,sU,ZS,tU,mQ,NO,l1,l2,l3,l5,iA,eA,k3,jH,Vs,this,drop_one,lst,Ui,e4]
           rw[jE U,yP s8]at k;rw[te]at hs;refine out v h4 k.symm (u3.trans u4) ?_;rcases r4 with⟨rfl,r4⟩ | ⟨r4,r5⟩
           . exact .odd ic q ne O fun a4 a5 z=>by rw[hs]at z;cases z;exact r4
           . exact .cut ic q ne O hs r4 r5
         . have U:=U true (fun V=>by rw[fu te];rfl) (fun V=>rfl);rw[dD U (no _ _ _)]at k;exact out false h3 k.symm u3 (.odd ic q ne O fun a4 a5 z=>by rw[hs]at z;cases z;exact Ea rfl te)
       cases t with
       | ag st=>exact Ea rfl S
       | ring st r=>
        simp![vv]at F2;obtain⟨I,C,rfl,_,f2,Z⟩:=F2;obtain⟨y,h3,h4,e3,e4,u4⟩:=Pk N2 hc W a7 hl f2 Z;have k2:kA (.tup [.str "ring",I,C]) (.int 2) E=ε (C,E):=rfl;rw[show decide ((vw.ring st r).wd=("ring" :Str))=true from g8 rfl]at s5;have s6:rA GI [] (bA (e2 kA (eV 3) (wq 2)) (bA (rA QH [] (bA (eV 4) (bA (eV 2) dA))) dA)) (L (.ref (o+c)) none) E=ε (.bl (BG r (vI c (CC c g) ls)),h4):=by simp![FA,AA,zA,sA,gA,qA,l2,l3,l4,iA,eA,Ui,k2,e3,e4]
        rw[dD s5 s6]at k;exact out _ h4 k.symm (J.trans u4) (.ring q ne O)
       | one st bs=>
        simp![vv]at F2;obtain⟨I,C,ds,rfl,_,f2,Z⟩:=F2;have M:wF bs<=n:=by simp![zF]at dp;omega
        exact a0 C ds trivial f2 Z M (fun V=>rfl) (fun l H hl=>O0 (l:=l) (h:=H) rfl (Y2 (.str "one") I C).1 (Y2 (.str "one") I C).2 hl) rfl
       | split st p bs=>
        simp![vv]at F2;obtain⟨I,C,ds,rfl,_,f2,Z⟩:=F2;have M:wF bs<=n:=by simp![zF]at dp;omega
        exact a0 C ds trivial f2 Z M (fun V=>rfl) (fun l H hl=>O0 (l:=l) (h:=H) rfl (Z2 (.str "split") I (.int (p.1:Nat)) (.int (p.2:Nat)) C).1 (Z2 (.str "split") I (.int (p.1:Nat)) (.int (p.2:Nat)) C).2 hl) rfl
def L9(xs):∀a:Oe Int,(a++xs).Nodup->xs.foldl (fun a k=>if a.any (· ==k)then a else a++[k]) a=a++xs:=by
 induction xs with
 | nil=>intro a _;rw[Ui];rfl
 | cons x xs ih=>
  intro a nd;have b:¬a.any (· ==x)=true:=by
   intro z;obtain⟨y,d,e⟩:=any_eq_true.mp z;have e:y=x:=by simpa using e
   subst e;rw[nodup_append]at nd;exact nd.2.2 y d y ⋯ rfl
  rw[foldl_cons,eG b,ih (a++[x]) (by rw[n7];exact nd),n7];rfl
def M9(h:xs.Nodup):LB xs=xs:=by have:=L9 xs [] (by rw[Wu];exact h);rw[Wu]at this;exact this
def Cd(h:xs.Nodup)(m:x∈xs):LB (xs++[x])=xs:=by
 have e:LB (xs++[x])=if(LB xs).any (· ==x)then LB xs else LB xs++[x]:=by unfold LB;rw[foldl_append];rfl
 rw[e,M9 h,dz (any_eq_true.mpr ⟨x,m,by simp⟩)]
def FK(cs:Nat->Oo Nat)(P k:Nat):Oe Int:=(List.range (k+1)).map fun m=>((zB (nxt cs) m P:Nat):Int)
def ss(cs)(P k):JC cs P k=(FK cs P k).map Dt.int:=by unfold JC FK;rw[map_map];rfl
def wz(he:e∈nC a):tE ((nC a).map CB) [(e.1:Int),(e.2.1:Int)]=ε (.int (iL a e.1 e.2.1)):=by
 unfold tE;cases q:((nC a).map CB).find? fun p=>decide (p.1=[(e.1:Int),(e.2.1:Int)])with
 | none=>have:=find?_eq_none.mp q (CB e) (Bs.mpr ⟨e,he,rfl⟩);exact Ea (g8 rfl) this
 | some p=>
  obtain⟨z,f,rfl⟩:=Bs.mp (Ai q);have k:=find?_some q;have k:(CB z).1=[(e.1:Int),(e.2.1:Int)]:=of_decide_eq_true k;unfold CB at k;simp![Ms,and_true]at k;have d:z.1=e.1:=by omega
  have b:z.2.1=e.2.1:=by omega
  have w:=nV f;rw[d,b]at w;rw[w];rfl
def Hl(F:Nat->Int)(k):((List.range (k+1)).map F).zip ((List.range (k+1)).map F).tail=(List.range k).map fun i=>(F i,F (i+1)):=by
 apply ext_getElem
 . simp
 . intro i b a;simp
def Dp(s:∀e∈d,e.1<n/\e.2.1<n/\e.1≠e.2.1)(R:kI n (nC d) (iL d) cs P k):BG (FK cs P k) ((nC d).map CB)=true:=by
 have T:=S0 s;have E:2<=k:=by
  rcases Nat.lt_or_ge k 2 with z | z
  . have r:k=1:=by have:=R.pos;omega
    have e:=(T.lt _ (R.edge 0 nofun).1).2.2;have b:=R.back;rw[r]at b;exact Ea b.symm e
  . exact z
 obtain⟨F,g⟩:∃F:Nat->Int,F=fun m=>((zB (nxt cs) m P:Nat):Int):=⟨_,rfl⟩
 have u:FK cs P k=(List.range (k+1)).map F:=by rw[g];rfl
 have q:F 0=F k:=by rw[g];show((P:Nat):Int)=((zB (nxt cs) k P:Nat):Int);rw[R.back]
 have o:(List.range (k+1)).map F=(List.range k).map F++[F k]:=by rw[Iu,Gi];rfl
 have nd:((List.range k).map F).Nodup:=by unfold List.Nodup;rw[pairwise_map];refine List.Pairwise.imp_of_mem ?_ pairwise_lt_range;intro a b H h lt e;have h:=Bu.mp h;rw[g]at e;have e:((zB (nxt cs) a P:Nat):Int)=((zB (nxt cs) b P:Nat):Int):=e;exact apart R.back R.first lt nofun (fun v=>h) nofun
 have mem:F k∈(List.range k).map F:=Bs.mpr ⟨0,Bu.mpr nofun,q⟩;have edge:∀i,i<k->tE ((nC d).map CB) [F i,F (i+1)]=ε (.int (iL d (zB (nxt cs) i P) (zB (nxt cs) (i+1) P))):=fun i f=>by have:=wz (R.edge i nofun).1;rw[g];exact this
 unfold BG;rw[u,Hl];have D:decide (3<=((List.range (k+1)).map F).length)=true:=g8 (by simp;omega);have C:decide (((List.range (k+1)).map F).head?=((List.range (k+1)).map F).getLast?)=true:=by
  apply g8;rw[o,getLast?_concat,<- q];obtain⟨j,rfl⟩:∃j,k=j+1:=⟨k-1,by omega⟩
  rw[Ke];rfl
 have B:decide ((LB ((List.range (k+1)).map F)).length+1=((List.range (k+1)).map F).length)=true:=g8 (by
  rw[o,Cd nd mem];simp)
 have y:(((List.range k).map fun i=>(F i,F (i+1))).all fun p=>(tE ((nC d).map CB) [p.1,p.2]).isSome)=true:=by rw[all_eq_true];intro p hp;obtain⟨i,f,rfl⟩:=Bs.mp hp;rw[edge i (Bu.mp f)];rfl
 have x:(((List.range k).map fun i=>(F i,F (i+1))).map (wT ((nC d).map CB)))=(List.range k).map fun i=>iL d (zB (nxt cs) i P) (zB (nxt cs) (i+1) P):=by
  rw[map_map];refine map_congr_left fun i f=>?_
  show wT _ (F i,F (i+1))=_;unfold wT;rw[edge i (Bu.mp f)]
 rw[D,C,B,y,x,g8 R.sum];rfl
mutual
noncomputable def lE:Tr->vw
 | .ag st=>.ag st
 | .ring st a P k=>.ring st (FK a P k)
 | .one st bs=>.one st (OD bs)
 | .split st p bs=>.split st p (OD bs)
noncomputable def OD:Oe Tr->Oe vw
 | []=>[]
 | t::ts=>lE t::OD ts
end
theorem YW:∀a,(OD a).length=a.length
 | []=>by simp![OD,Va]
 | t::a=>by simp![OD,T4,YW a]
theorem bS{st:Oe BU}:∀bs i d g sp,uE L tag st m bs i d (.clash g) sp->
 ∃f,g=KQ tag st (d++f)/\ah (fun b t=>∃j n,L b m j (.clash t) n) bs f
 | [],i,d,g,sp,h=>by
  obtain⟨e,_⟩:=h;injection e with e
  exact⟨[],by rw[Ui];exact e,.nil⟩
 | b::bs,i,d,g,sp,h=>by
  rcases h with⟨t,j,k,o⟩ | ⟨k,_⟩
  . obtain⟨f,e,a⟩:=bS bs j (d++[t]) g sp o;exact⟨t::f,by rw[e,n7];rfl,.cons ⟨_,_,k⟩ a⟩
  . exact Ea rfl k
theorem KW(J:∀x∈ls,x.1<c):∀n f s made o sp,AC c m ls n f s made (.clash o) sp->∀N v,Sh c ls N f s (lE o) v->v=true
 | 0,_,_,_,_,_,h=>h.elim
 | n+1,f,s,made,o,sp,h=>by
  intro N v S;rcases h with⟨st,g,s0,em,e,_⟩ | ⟨st,g,EN,h⟩
  . injection e with e
    subst e;have bs:=NX s0;simp![lE]at S;cases S with
    | no q=>have q:uC c f st=none:=q;rw[bs]at q;cases q
    | ag q=>rw[bs]at q;cases q;exact em
    | loose D _ _=>exact Ea rfl D
    | odd i _ _ _ _=>exact i.elim
    | cut i _ _ _ _ _ _=>exact i.elim
  . obtain⟨g0,s0,Q,ne,rfl⟩:=EN;have d:=NX s0;rcases h with⟨cs,P,k,R,e,_⟩ | ⟨t,ht,h⟩
    . injection e with e
      subst e;simp![lE]at S;cases S with
      | no q=>have q:uC c f st=none:=q;rw[d]at q;cases q
      | loose D q z=>
       have q:uC c f st=ε _:=q;rw[d]at q;cases q;rcases z with z | z
       . rw[ne]at z;cases z
       . exact Ea Q z
      | ring q _ _=>rw[d]at q;cases q;exact Dp (aT (CC c g0) J) R
      | odd i _ _ _ _=>exact i.elim
      | cut i _ _ _ _ _ _=>exact i.elim
    . rcases h with⟨_,e,_⟩ | ⟨u,bs,Z,hs,h⟩
      . cases e
      . rcases h with⟨_,e,_⟩ | ⟨_,h⟩
        . cases e
        . obtain⟨trs,j,a⟩:=bS bs _ [] o sp h;rw[Wu]at j;have ln:bs.length=(OD trs).length:=by rw[YW];exact a.len
          have go:∀(bs:Oe EA)(trs:Oe Tr)(N:Nat)(v:Bool),ah (fun b t=>∃H F,AC c m ls n b s.tail H (.clash t) F) bs trs->qQ c ls N bs s.tail (OD trs) v->v=true:=by
           intro bs
           induction bs with
           | nil=>intro trs N v a S;cases a;simp![OD]at S;cases S;rfl
           | cons b bs ih=>
            intro trs N v a S;cases a with
            | @cons _ t _ W a1 a2=>
             simp![OD]at S;obtain⟨H,F,L⟩:=a1;cases S with
             | no I=>exact KW J n b _ H t F L N _ I
             | yes I Y=>exact ih W N v a2 Y
          have B:∀T:vw,T.st=st->T.kids=OD trs->wI T=u->T.wd≠("threes" :Str)->(∀E r,T≠.ring E r)->Sh c ls N f s T v->v=true:=by
           intro T C O M h4 h5 S;cases S with
           | no q=>rw[C,d]at q;cases q
           | ag q=>exact Ea rfl h4
           | loose D q z=>
            rw[C,d]at q;cases q;rcases z with z | z
            . rw[ne]at z;cases z
            . exact Ea Q z
           | ring q _ _=>exact Ea rfl (h5 _ _)
           | odd i q _ _ z=>rw[C,d]at q;cases q;rw[M,O]at z;exact Ea ln (z bs Z hs)
           | cut i q _ _ y _ U=>rw[C,d]at q;cases q;rw[M,hs]at y;cases y;rw[O]at U;exact go bs trs _ v a U
          cases u with
          | none=>have j:o=.one st trs:=j;subst j;simp![lE]at S;exact B _ rfl rfl rfl (by show("one" :Str) ≠ "threes";decide) (fun l l z=>by cases z) S
          | some p=>have j:o=.split st p trs:=j;subst j;simp![lE]at S;exact B _ rfl rfl rfl (by show("split" :Str) ≠ "threes";decide) (fun l l z=>by cases z) S
mutual
noncomputable def FG:Tr->Prop
 | .ag _=>True
 | .ring _ _ _ k=>k<=100
 | .one _ bs=>VH bs
 | .split _ _ bs=>VH bs
noncomputable def VH:Oe Tr->Prop
 | []=>True
 | t::ts=>FG t/\VH ts
end
theorem dZ(B:c<=8):∀n f r made d sp,AC c m ls n f r made (.clash d) sp->FG d/\zF (lE d)<=n
 | 0,_,_,_,_,_,h=>h.elim
 | n+1,f,r,made,d,sp,h=>by
  rcases h with⟨st,g,s0,M,e,_⟩ | ⟨st,g,Q,h⟩
  . injection e with e
    subst e;simp![FG,lE,zF];exact⟨trivial,by omega⟩
  . rcases h with⟨O,P,k,R,e,_⟩ | ⟨t,J,h⟩
    . injection e with e
      subst e;have:=R.le;simp![FG,lE,zF];exact⟨by omega,by omega⟩
    . rcases h with⟨_,e,_⟩ | ⟨j,bs,I,hs,h⟩
      . cases e
      . rcases h with⟨_,e,_⟩ | ⟨_,h⟩
        . cases e
        . obtain⟨trs,i,a⟩:=bS bs _ [] d sp h;rw[Wu]at i;have go:∀(bs:Oe EA)(trs:Oe Tr),ah (fun b t=>∃q o,AC c m ls n b r.tail q (.clash t) o) bs trs->VH trs/\wF (OD trs)<=n:=by
           intro bs
           induction bs with
           | nil=>intro trs a;cases a;simp![VH,OD,wF];exact⟨trivial,by omega⟩
           | cons b bs ih=>
            intro trs a;cases a with
            | @cons _ t _ y D C=>obtain⟨q,o,L⟩:=D;obtain⟨x,H⟩:=dZ B n b _ q t o L;obtain⟨u,F⟩:=ih y C;simp![VH,OD,wF];exact⟨⟨x,u⟩,by omega⟩
          obtain⟨s,E⟩:=go bs trs a;cases j with
          | none=>have i:d=.one st trs:=i;subst i;simp![FG,lE,zF];exact⟨s,by omega⟩
          | some p=>have i:d=.split st p trs:=i;subst i;simp![FG,lE,zF];exact⟨s,by omega⟩
mutual
theorem iV{lo:Nat}{h:HI}:∀(t:Tr){d:Dt},FG t->Ze lo h t d->vv h (lE t) d
 | .ag st,d,_,q=>by simp![Ze]at q;obtain⟨s,e,_,q⟩:=q;simp![lE,vv];exact⟨_,e,jG q⟩
 | .ring st cs P k,d,sm,q=>by simp![Ze]at q;simp![FG]at sm;obtain⟨s,r,e,_,_,q1,q2⟩:=q;simp![lE,vv];rw[ss]at q2;exact⟨_,_,e,jG q1,jG q2,by unfold FK;simp;omega⟩
 | .one st bs,d,sm,q=>by simp![Ze]at q;simp![FG]at sm;obtain⟨s,r,ds,e,_,_,q1,q2,q3⟩:=q;simp![lE,vv];exact⟨_,_,ds,e,jG q1,jG q2,gU bs sm q3⟩
 | .split st p bs,d,sm,q=>by simp![Ze]at q;simp![FG]at sm;obtain⟨s,r,ds,e,_,_,q1,q2,q3⟩:=q;simp![lE,vv];exact⟨_,_,ds,e,jG q1,jG q2,gU bs sm q3⟩
theorem gU{lo:Nat}{h:HI}:∀(a:Oe Tr){ds:Oe Dt},VH a->Ys lo h a ds->zdt h (OD a) ds
 | [],ds,_,q=>by simp![Ys]at q;simp![OD,zdt];exact q
 | t::a,ds,sm,q=>by simp![Ys]at q;simp![VH]at sm;obtain⟨d,r,e,q1,q2⟩:=q;simp![OD,zdt];exact⟨d,r,e,iV t sm.1 q1,gU a sm.2 q2⟩
end
def jf(m:c<=8)(F:RP c h a fs)(p:vv h t d)(dp:zF t<=12) :
 ∃v j,bE [.int (c:Nat),.ref a,d] h=ε (.bl v,j)/\vl h j/\Sh c (gC fs) 12 (iD aC fs) (vB fs) t v:=by
 obtain⟨ds,e,D⟩:=F.ds;have x:=D.len;have C:=F.len;have i:ds.length<sizeLine:=by rw[x];simp[sizeLine];omega
 obtain⟨b,o,r,y,U1⟩:=zW (show c<=1000 by omega) e D F.ok;obtain⟨g,B,u⟩:=AW (U1.get e) i (D.up U1.l);have s:=oW (U1.get e) i (D.up U1.l);obtain⟨v,n,q,k,S⟩:=so m (show(gC fs).length<=100 by have:=UL fs;omega) 12 (iD aC fs) (vB fs) t o b g d y (AG fs F.ok _ (WH c)) B (DG fs F.ok) F.sg (vv.up U1.l t p) dp;refine⟨v,n,?_,U1.l.trans k,S⟩;dsimp![bE,bX,Uo (f:=some),Wo (f:=some),Ui,cB,FA,AA,zA,Te,r,u,s,q,rB]
def TH(x k):∃N,∀h,KF [.int x,.int k] h=ε (.int (N:Nat),h):=by
 have n:=fun(i:Int) (h:HI)=>nE (h:=h) (i:=i) (show(0:Int)<1000000007 by decide)
 have m:=fun(i:Int) (h:HI)=>nE (h:=h) (i:=i) (show(0:Int)<2147483647 by decide)
 have g:=fun(i:Int) (h:HI)=>nE (h:=h) (i:=i) (show(0:Int)<1009 by decide)
 have f:=fun(i:Int) (h:HI)=>nE (h:=h) (i:=i) (show(0:Int)<998244353 by decide)
 have e:=fun(h:HI)=>sG (h:=h) (i:=7) (j:=k) (Or.inl ⟨by decide,by decide⟩)
 have d:=fun(i:Int) (h:HI)=>sG (h:=h) (i:=i) (j:=48271) (Or.inr ⟨by decide,by decide⟩)
 obtain⟨v,a⟩:=Int.eq_ofNat_of_zero_le (Int.emod_nonneg ((x%1000000007+7*k+1)*48271) (show(2147483647:Int)≠0 by decide));have o:(v:Int)<2147483647:=by rw[<- a];exact Int.emod_lt_of_pos _ (by decide)
 have b:=fun(i:Int) (h:HI)=>sG (h:=h) (i:=(v:Int)) (j:=i) (Or.inl ⟨by omega,by omega⟩)
 obtain⟨w,hw⟩:=Int.eq_ofNat_of_zero_le (Int.emod_nonneg ((v:Int)*((v:Int)%1009+k+3)) (show(998244353:Int)≠0 by decide));refine⟨w,fun h=>?_⟩;dsimp![KF,WV,Uo,Wo,Xe,Wu,NA,HB,sA,qA,Te,n,e,UE,d,m,a,Vi,Uu,UA,cB,g,b,f,hw,rB]
def Az(b:2<=c)(n k:Nat):∃i j:Nat,i<c/\j<c/\i≠j/\((n:Int)%(c:Int))=(i:Int)/\((i:Int)+1+(n:Int)/(k:Int)%((c:Int)-1))%(c:Int)=(j:Int):=by
 refine⟨n%c,(n%c+1+n/k%(c-1))%c,Js _ nofun,Js _ nofun,?_,by simp,?_⟩
 . have t:n/k%(c-1)<c-1:=Js _ nofun;have a:n%c<c:=Js _ nofun;generalize n/k%(c-1)=q at t;generalize n%c=i at a;by_cases w:i+1+q<c
   . rw[Nat.mod_eq_of_lt w];omega
   . rw[Nat.mod_eq_sub_mod nofun,Nat.mod_eq_of_lt nofun];omega
 . rw[show(c:Int)-1=((c-1:Nat):Int) by omega];simp
def fS(d:2<=c)(o:c<=8)(n):∃i j,i<c/\j<c/\i≠j/\∀h,MH [.int (n:Nat),.int (c:Nat)] h=ε (.tup [.int (i:Nat),.int (j:Nat)],h):=by
 obtain⟨i,j,k,g,b,m,e⟩:=Az d n c;refine⟨i,j,k,g,b,fun h=>?_⟩;have f:=fun(x:Int) (h:HI)=>nE (h:=h) (i:=x) (show(0:Int)<(c:Int) by omega)
 have a:=fun(x:Int) (h:HI)=>nE (h:=h) (i:=x) (show(0:Int)<(c:Int)-1 by omega)
 have dc:=fun(x:Int) (h:HI)=>CK (h:=h) (i:=x) (j:=(c:Int)) ⟨by omega,by omega⟩
 dsimp![MH,BV,Uo,Wo,Xe,Wu,NA,HB,sA,qA,AA,zA,Te,f,m,Vi,Uu,UA,cB,ED,UE,DK,dc,a,e,gL,rB]
def EZ(t)(n:a<b)(h):NJ [.int t,.tup [.int a,.int b]] h=ε (.int (PB t a b),h):=by
 have m:vi (e2 tI (eV 0) (e2 kA (eV 1) (wq 0))) [ε (.int t),ε (.tup [.int a,.int b])] h=ε (decide (t<a),h):=rfl;have k:vi (e2 mB (eV 0) (e2 kA (eV 1) (wq 0))) [ε (.int t),ε (.tup [.int a,.int b])] h=ε (decide (t=a),h):=by show gB (mB (.int t) (.int a) h) X6=_;rw[JD,eA,JA]
 have j:vi (e2 tI (eV 0) (e2 kA (eV 1) (wq 1))) [ε (.int t),ε (.tup [.int a,.int b])] h=ε (decide (t<b),h):=rfl;have i:vi (e2 mB (eV 0) (e2 kA (eV 1) (wq 1))) [ε (.int t),ε (.tup [.int a,.int b])] h=ε (decide (t=b),h):=by show gB (mB (.int t) (.int b) h) X6=_;rw[JD,eA,JA]
 show QC (AR [ε (.int t),ε (.tup [.int a,.int b])] h)=_;unfold PB AR;by_cases g:t<a
 . rw[g8 g]at m;rw[dz g];exact dD m rfl
 . rw[fu g]at m;rw[eG g,jE m];by_cases f:t=a
   . rw[g8 f]at k;rw[dz f];exact dD k rfl
   . rw[fu f]at k;rw[eG f,jE k];by_cases e:t<b
     . rw[g8 e]at j;rw[dz e];exact dD j rfl
     . rw[fu e]at j;rw[eG e,jE j];by_cases d:t=b
       . rw[g8 d]at i;rw[dz d];exact dD i rfl
       . rw[fu d]at i;rw[eG d,jE i];rfl
def C3(h1:QB s)(h2:QB o)(h):AL [tG s,tG o] h=ε (.int (bB s o),h):=by
 obtain⟨g,f⟩:=yr _ (FO h1 h2);refine fF (l':=[ε (tG s),ε (tG o),ε (.lst (be.map pr))]) (d:=.lst (be.map pr)) (h1:=h) rfl rfl (yP ?_);have b:NJ [.int s.1,tG o] h=_:=EZ s.1 h2 h;have a:NJ [.int s.2,tG o] h=_:=EZ s.2 h2 h;have j:∀H,kA (tG s) (.int 0) H=ε (.int s.1,H):=fun q=>rfl
 have i:∀H,kA (tG s) (.int 1) H=ε (.int s.2,H):=fun q=>rfl
 have e:Dt.tup [.int (PB s.1 o.1 o.2),.int (PB s.2 o.1 o.2)]=pr (PB s.1 o.1 o.2,PB s.2 o.1 o.2):=rfl;simp![Wj,ED,AA,zA,FA,sA,gA,qA,Ss,Te,iA,eA,Ui,j,i,b,a,T4,Va,Nat.reduceAdd,gL,eH,e,Ib,g,f];rfl
def dI(s:Nat->Int×Int)(c:Nat):Oe Dt:=(List.range c).map fun k=>tG (s k)
def mS(a:k<c):(dI s c)[k]?=ε (tG (s k)):=by simp[dI,a]
def Xf(s)(c):(dI s c).length=c:=by simp[dI]
def B3(ok:∀i,i<c->QB (s i))(f:BA h x=ε (dI s c))(r:kC c m):NL [x,IA m] h=ε (.bl (OA s m),h):=by
 obtain⟨a,b,d,e⟩:=r;have q:=RM f (mS (s:=s) a);have p:=RM f (mS (s:=s) b);have u:=fun h=>C3 (ok _ a) (ok _ b) h
 have y:=rT m.2.1 (bB (s m.1) (s m.2.2));have o:∀k:HI,kA (IA m) (.int 1) k=ε (.int (m.1:Nat),k):=fun z=>rfl
 have n:∀k:HI,kA (IA m) (.int 2) k=ε (.int (m.2.1:Nat),k):=fun z=>rfl
 have j:∀k:HI,kA (IA m) (.int 3) k=ε (.int (m.2.2:Nat),k):=fun z=>rfl
 have g:=fun(h:HI)=>iQ (h:=h) (i:=(m.2.1:Int)) (show(0:Int)<=((bB (s m.1) (s m.2.2):Nat):Int) by omega)
 dsimp![NL,sW,Uo,Wo,Ui,cB,sA,qA,FA,AA,zA,Te,o,n,j,q,p,u,g,ni,VI,JD,y,rB];rfl
def UP(c:Nat)(s:Nat->Int×Int):vb->Prop
 | .ways m=>kC c m/\OA s m=true
 | .long x=>KU c s x
 | .one g=>(∀m∈g,kC c m)/\ZT s g/\g.length<=6
theorem oP(ok:∀i,i<c->QB (s i)):∀fs f,(∀x∈fs,UP c s x)->wh c f s->wh c (iD f fs) s
 | [],f,_,q=>q
 | x::fs,f,h,q=>by
  have j:∀y∈fs,UP c s y:=fun y n=>h y (by simp[n])
  cases x with
  | ways m=>obtain⟨⟨a,b,d,e⟩,k⟩:=h (.ways m) ⋯;exact oP ok fs _ j (q.nar ok a b d k)
  | long y=>exact oP ok fs _ j q
  | one g=>exact oP ok fs _ j q
theorem aM:∀fs f,(∀x∈fs,VC c x)->(∀i<c,f i i=64)->∀i<c,iD f fs i i=64
 | [],f,_,q=>q
 | x::fs,f,h,q=>by
  have j:∀y∈fs,VC c y:=fun y k=>h y (by simp[k])
  cases x with
  | ways m=>obtain⟨a,b,d,e⟩:kC c m:=h (.ways m) ⋯;exact aM fs _ j (MO q d _)
  | long y=>exact aM fs _ j q
  | one g=>exact aM fs _ j q
theorem LO:∀{fs:Oe vb}{g:Oe EB},g∈vB fs->vb.one g∈fs
 | [],g,h=>by cases h
 | f::fs,g,h=>by
  cases f with
  | one x=>
   rcases Ba.mp h with rfl | h
   . simp
   . simp[LO h]
  | ways m=>exact nu _ (LO h)
  | long m=>exact nu _ (LO h)
theorem EO:∀{fs:Oe vb}{x:Ln},x∈gC fs->vb.long x∈fs
 | [],g,h=>by cases h
 | f::fs,g,h=>by
  cases f with
  | long x=>
   rcases Ba.mp h with rfl | h
   . simp
   . simp[EO h]
  | ways m=>exact nu _ (EO h)
  | one m=>exact nu _ (EO h)
def P9(ok:∀i,i<c->QB (s i)):wh c aC s:=fun i d j b a=>by
 have w:=IE (ok i d) (ok j b);have t:∀k<13,(8191:Nat).testBit k=true:=by decide
 unfold aC;rw[eG a];exact t _ w
structure am(c:Nat)(h:HI)(x:Dt)(ds:List Dt)(fs:List vb):Prop where
 at':x=.lst ds\/∃a,x=.ref a/\h[a]?=ε (.lst ds)
 fa:Yo h ds fs
 ok:∀x∈fs,VC c x
 sg:∀x∈vB fs,x.length<=1000
 len:fs.length<=100
def am.up(q:am c h x ds fs)(u:vl h h'):am c h' x ds fs:=
 ⟨q.at'.imp id fun⟨a,e,k⟩=>⟨a,e,u.2 _ _ k⟩,q.fa.up u,q.ok,q.sg,q.len⟩
def am.lt(q:am c h x ds fs):ds.length<sizeLine:=by have:=q.len;rw[q.fa.len];simp[sizeLine];omega
theorem am.src(q:am c h x ds fs):∃src,HH (x,h)=ε (src,h)/\(∀b,Up h b->∀k,src.at b k=ε ds[k]?)/\src.fuel h=ds.length+1:=by
 rcases q.at' with rfl | ⟨a,rfl,e⟩
 . exact⟨.vals ds,by rw[sF],fun z z z=>rfl,rfl⟩
 . exact⟨.rf a,LD e,fun b u k=>by simp![vj.at,u.get e],by simp![vj.fuel,e]⟩
inductive o5(c:Nat)(h:HI)(x:Dt)(ds:List Dt)(fs:List vb)(m:EB):Prop
 | mk (a:Nat) (h':HI) (p0:HD x (.lst [IA m]) h=ε (.ref a,h')) (p1:wG x (.lst [IA m]) h=ε (.lst (ds++[IA m]),h)) (p2:Up h h') (p3:RP c h' a (fs++[.ways m])) (p4:am c h (.lst (ds++[IA m])) (ds++[IA m]) (fs++[.ways m])):o5 c h x ds fs m
def am.more(q:am c h x ds fs)(g:kC c m)(i:fs.length<=99):o5 c h x ds fs m:=by
 have lt:=q.fa.len;have b:BA h x=ε ds:=by
  rcases q.at' with rfl | ⟨a,rfl,e⟩
  . rfl
  . exact jG e
 have of:∀fs:Oe vb,vB (fs++[.ways m])=vB fs:=by
  intro fs
  induction fs with
  | nil=>rfl
  | cons f fs ih=>cases f<;>simp[vB,ih]
 have d:ds.length+(0+1)<=sizeLine:=by simp[sizeLine];omega
 have ok:∀y∈fs++[.ways m],VC c y:=fun y hy=>by
  rcases Bo.mp hy with hy | hy
  . exact q.ok y hy
  . rw[Ao.mp hy];exact g
 have sg:∀y∈vB (fs++[.ways m]),y.length<=1000:=fun y hy=>by rw[of]at hy;exact q.sg y hy
 have u:Up h (h++[Ob.lst (ds++[IA m])]):=Up.app _ _;have F:Yo h (ds++[IA m]) (fs++[.ways m]):=q.fa.snoc rfl;refine⟨h.length,h++[.lst (ds++[IA m])],?_,?_,u,⟨⟨_,by simp,F.up u.l⟩,ok,sg,by simp;omega⟩,.inl rfl,F,ok,sg,by simp;omega⟩
 . simp![HD,b,jH,Wi,T4,Va,dz d]
 . simp![wG,b,jH,Wi,T4,Va,dz d]
theorem pX:∀(g:Oe EB)(a k:Nat),(∀i m,g[i]?=ε m->OA s m=decide (a+i=k))->(g.map (OA s)).countP (· ==true)=if a<=k/\k<a+g.length then 1 else 0
 | [],a,k,_=>by rw[eG (show ¬(a<=k/\k<a+([]:Oe EB).length) by simp)];rfl
 | m::g,a,k,H=>by
  have d:=H 0 m rfl;have ih:=pX g (a+1) k (fun i x b=>by rw[H (i+1) x (by simpa using b)];congr 1;rw[show a+(i+1)=a+1+i by omega]);rw[Uo,countP_cons,ih,d,T4];by_cases z:a=k
  . have A:¬(a+1<=k/\k<a+1+g.length):=by omega
    have B:a<=k/\k<a+(g.length+1):=by omega
    have C:decide (a+0=k)=true:=g8 nofun;rw[eG A,dz B,C];rfl
  . have C:decide (a+0=k)=false:=fu nofun;by_cases y:a+1<=k/\k<a+1+g.length
    . have B:a<=k/\k<a+(g.length+1):=by omega
      rw[dz y,dz B,C];rfl
    . have B:¬(a<=k/\k<a+(g.length+1)):=by omega
      rw[eG y,eG B,C];rfl
def yh(m:1<=c)(ok:∀i,i<c->QB (IC t i)):(List.range c).map (fun k=>dB (2*c) t (2*k)) ≠ []/\NB ((List.range c).map fun k=>dB (2*c) t (2*k))=0:=by
 obtain⟨g,f⟩:=Mt (n:=2*c) nofun t;have ne:(List.range c).map (fun k=>dB (2*c) t (2*k)) ≠ []:=fun z=>by have:=congrArg List.length z;simp at this;omega
 refine⟨ne,?_⟩;obtain⟨d,b⟩:=RH _ g;obtain⟨j,h⟩:=RH _ ne;rw[f]at d b;obtain⟨p,hp,q⟩:=Bs.mp d;obtain⟨k,a,r⟩:=Bs.mp j;have hp:=Bu.mp hp;have a:=Bu.mp a;have x:=b (dB (2*c) t (2*k)) (mem_map_of_mem (Bu.mpr nofun));have u:=h (dB (2*c) t (2*(p/2))) (Bs.mpr ⟨p/2,Bu.mpr nofun,rfl⟩);have s:dB (2*c) t (2*(p/2))<=dB (2*c) t p:=by
  rcases(show p=2*(p/2)\/p=2*(p/2)+1 by omega)with z | z
  . rw[<- z];exact Int.le_refl _
  . have o:=ok (p/2) nofun;have e:t (2*(p/2))<t (2*(p/2)+1):=o;rw[<- z]at e;unfold dB;omega
 omega
def CY(n)(ok:∀i,i<c->QB (IC t i)):∀i,i<c->QB (IC (dB n t) i):=fun i a=>by have:t (2*i)<t (2*i+1):=ok i a;show dB n t (2*i)<dB n t (2*i+1);unfold dB;omega
def Oh(x a b d):PB (x-d) (a-d) (b-d)=PB x a b:=by have i:(x-d<a-d)=(x<a):=propext ⟨fun h=>by omega,fun h=>by omega⟩;have g:(x-d=a-d)=(x=a):=propext ⟨fun h=>by omega,fun h=>by omega⟩;have f:(x-d<b-d)=(x<b):=propext ⟨fun h=>by omega,fun h=>by omega⟩;have e:(x-d=b-d)=(x=b):=propext ⟨fun h=>by omega,fun h=>by omega⟩;unfold PB;simp![i,g,f,e]
def Gd(t)(n i j):bB (IC (dB n t) i) (IC (dB n t) j)=bB (IC t i) (IC t j):=by unfold bB IC dB;simp![Oh]
theorem mP(ok:∀i,i<c->QB (s i)):∀(fs:Oe vb)(_:∀x∈fs,VC c x)(f:EA),WA c f->wh c (iD f fs) s->wh c f s/\∀m,vb.ways m∈fs->OA s m=true
 | [],_,f,_,q=>⟨q,fun m n=>by cases n⟩
 | x::fs,h,f,o,q=>by
  have k:∀y∈fs,VC c y:=fun y j=>h y (by simp[j])
  cases x with
  | ways m=>
   obtain⟨a,b,d,e⟩:kC c m:=h (.ways m) ⋯;obtain⟨q1,H⟩:=mP ok fs k (AB f m.1 m.2.1 m.2.2) (nH o a b d _) q;obtain⟨q2,p⟩:=q1.hE ok a b d o;refine⟨q2,fun y j=>?_⟩;rcases Ba.mp j with z | z
   . cases z;exact p
   . exact H y z
  | long y=>obtain⟨q1,H⟩:=mP ok fs k f o q;exact⟨q1,fun y j=>(Ba.mp j).elim (fun z=>by cases z) (H y)⟩
  | one g=>obtain⟨q1,H⟩:=mP ok fs k f o q;exact⟨q1,fun y j=>(Ba.mp j).elim (fun z=>by cases z) (H y)⟩
def zX(t)(n)(m):OA (IC (dB n t)) m=OA (IC t) m:=by unfold OA;rw[Gd]
theorem kM:∀{fs:Oe vb}{g:Oe EB},vb.one g∈fs->g∈vB fs
 | f::fs,g,h=>by
  rcases Ba.mp h with rfl | h
  . simp[vB]
  . have:=kM h;cases f<;>simp[vB,this]
theorem mX:∀{fs:Oe vb}{x:Ln},vb.long x∈fs->x∈gC fs
 | f::fs,x,h=>by
  rcases Ba.mp h with rfl | h
  . simp[gC]
  . have:=mX h;cases f<;>simp[gC,this]
def pD(c:Nat)(s:Nat->Int×Int):vb->Bool
 | .ways m=>OA s m
 | .long x=>decide (x.2.1*((2*c+1:Nat):Int)<=(s x.1).2-(s x.1).1)&&decide ((s x.1).2-(s x.1).1<=x.2.2*((2*c+1:Nat):Int))
 | .one g=>decide ((g.map (OA s)).countP (· ==true)=1)
theorem ZW:∀g:Oe EB,(g.map f).countP (· ==true)=0->∀m∈g,f m=false
 | [],_,m,hm=>by cases hm
 | x::g,h,m,hm=>by
  rw[Uo,countP_cons]at h;cases e:f x with
  | true=>rw[e]at h;simp at h
  | false=>
   rw[e]at h;rcases Ba.mp hm with rfl | hm
   . exact e
   . exact ZW g (by simpa using h) m hm
theorem XX:∀g:Oe EB,(g.map f).countP (· ==true)=1->∃k,k<g.length/\∀i m,g[i]?=ε m->f m=decide (i=k)
 | [],h=>by simp at h
 | x::g,h=>by
  rw[Uo,countP_cons]at h;cases e:f x with
  | true=>
   rw[e]at h;have z:=ZW g (by simpa using h);refine⟨0,by simp,fun i m a=>?_⟩;cases i with
   | zero=>simp at a;rw[<- a,e];rfl
   | succ i=>rw[z m (kj (by simpa using a))];rfl
  | false=>
   rw[e]at h;obtain⟨k,b,H⟩:=XX g (by simpa using h);refine⟨k+1,by simpa using b,fun i m a=>?_⟩;cases i with
   | zero=>simp at a;rw[<- a,e];simp
   | succ i=>rw[H i m (by simpa using a)];simp
def sv(ok:VC c f)(sg:∀g,f=.one g->g.length<=6)(k:pD c s f=true):UP c s f:=by
 cases f with
 | ways m=>exact⟨ok,k⟩
 | long x=>simp![pD,vm,decide_eq_true_eq]at k;exact⟨ok,k.1,k.2⟩
 | one g=>exact⟨ok,XX g (of_decide_eq_true k),sg g rfl⟩
def NY(fo:∀x∈fs,VC c x)(K:wQ c (gC fs) (iD aC fs) (vB fs) t):fs.all (pD c (IC (dB (2*c) t)))=true:=by
 obtain⟨_,H⟩:=mP K.ok fs fo aC (WH c) K.net;refine all_eq_true.mpr fun f a=>?_
 cases f with
 | ways m=>show OA _ m=true;rw[zX];exact H m a
 | long x=>
  have q:=K.len x (mX a);have e:dB (2*c) t (2*x.1+1)-dB (2*c) t (2*x.1)=t (2*x.1+1)-t (2*x.1):=by unfold dB;omega
  show(decide (x.2.1*((2*c+1:Nat):Int)<=dB (2*c) t (2*x.1+1)-dB (2*c) t (2*x.1))&&decide (dB (2*c) t (2*x.1+1)-dB (2*c) t (2*x.1)<=x.2.2*((2*c+1:Nat):Int)))=true;rw[e,g8 q.1,g8 q.2];rfl
 | one g=>obtain⟨k,h,d⟩:=K.one g (kM a);refine g8 ?_;rw[pX g 0 k (fun i m b=>by rw[zX,d i m b,Aa])];rw[dz nofun]
def Cg(ok:∀i,i<c->QB (s i))(S:c<=100)(r:BA h x=ε (dI s c))(q:al h d f)(fo:VC c f)(sg:∀g,f=.one g->g.length<=1000)(y:Oo Dt) :
 ∃J,NH [ε x,ε fx,ε (.int ((2*c+1:Nat):Int)),ε d,y] h=ε (if pD c s f=true then .nx [ε x,ε fx,ε (.int ((2*c+1:Nat):Int)),ε d,J] h else .rt (.bl false) h):=by
 have p:=fun(l:LI) (k:l[3]?=ε (ε d))=>fU q l h 3 k
 have e:=fun(l:LI) (k:l[3]?=ε (ε d))=>Z5 q l h 3 k
 have to:=fun(l:LI) (k:l[3]?=ε (ε d))=>oQ q l h 3 k
 have p:=p [ε x,ε fx,ε (.int ((2*c+1:Nat):Int)),ε d,y] rfl;have e:=e [ε x,ε fx,ε (.int ((2*c+1:Nat):Int)),ε d,y] rfl;have to:=to [ε x,ε fx,ε (.int ((2*c+1:Nat):Int)),ε d,y] rfl;generalize a:NH [ε x,ε fx,ε (.int ((2*c+1:Nat):Int)),ε d,y] h=X;simp![NH,NA,xB,qG,HA,p,eA,JA]at a;cases f with
 | ways m=>
  have qd:d=IA m:=q;subst qd;have o:=B3 ok r fo;refine⟨y,?_⟩;cases z:OA s m with
  | true=>rw[z]at o;simp![qI,eH,yF,HA,FA,AA,zA,gA,Ss,Te,iA,eA,Ui,o,JA,uo,Ws,eO,GC,UA,NA,xB,qG,to,vH,e,LK]at a;rw[show pD c s (.ways m)=true from z,dz rfl];exact a.symm
  | false=>rw[z]at o;simp![qI,eH,yF,HA,FA,AA,zA,gA,qA,Ss,Te,iA,eA,Ui,o,JA,um,cB,FD]at a;rw[show pD c s (.ways m)=false from z,eG Vu];exact a.symm
 | long v=>
  have qd:d=.tup [.str "long", .int (v.1:Nat),.int v.2.1,.int v.2.2]:=q;have L:=RM r (mS (s:=s) (show v.1<c from fo));have B:∀H:HI,kA d (.int 1) H=ε (.int (v.1:Nat),H):=fun H=>by rw[qd];rfl
  have Q:∀H:HI,kA d (.int 2) H=ε (.int v.2.1,H):=fun H=>by rw[qd];rfl
  have P:∀H:HI,kA d (.int 3) H=ε (.int v.2.2,H):=fun H=>by rw[qd];rfl
  have E:=fun(i:Int) (h:HI)=>sG (h:=h) (i:=i) (j:=((2*c+1:Nat):Int)) (Or.inr ⟨by omega,by omega⟩)
  refine⟨ε (.int ((s v.1).2-(s v.1).1)),?_⟩;simp![qI,Ws,eO,GC,eA,UA,NA,xB,qG,HA,to,vH,JA,e,LK,eH,HB,sA,gA,qA,Ss,Te,iA,B,L,tG,XB,BC,SF,Vs,DK,Vi,Uu,ID,Q,E,CJ]at a;by_cases D:(s v.1).2-(s v.1).1<v.2.1*((2*c+1:Nat):Int)
  . rw[g8 D]at a;simp![eH,eA,cB,qA]at a;rw[eG (by simp![pD,vm,decide_eq_true_eq];omega)];exact a.symm
  . rw[fu D]at a;simp![Ws,eO,eA,P,E,BJ,JA]at a;by_cases C:v.2.2*((2*c+1:Nat):Int)<(s v.1).2-(s v.1).1
    . rw[g8 C]at a;simp![eH,cB,qA,eA]at a;rw[eG (by simp![pD,vm,decide_eq_true_eq];omega)];exact a.symm
    . rw[fu C]at a;simp![Ws,eO]at a;rw[dz (by simp![pD,vm,decide_eq_true_eq];omega)];exact a.symm
 | one g=>
  obtain⟨U,qd,n,rfl,F⟩:=q;have B:∀H:HI,kA d (.int 1) H=ε (.ref n,H):=fun H=>by rw[qd];rfl
  have T:=sg g rfl;have I:=QL (te:=jR) (i:=0) IA (fun m=>Dt.bl (OA s m)) g [none,ε x] h F (by simp[sizeLine];omega) (by
   intro m M;simp![jR,FA,AA,zA,gA,Uu,Ss,Te,iA,eA,Ui,B3 ok r (fo m M)])
  have O:g.map (fun m=>Dt.bl (OA s m))=(g.map (OA s)).map Dt.bl:=by rw[map_map];rfl
  rw[O]at I;have R:=fun(l:LI)=>oY (l:=l) (h:=h) (fb:=eC (.bl true)) (bs:=g.map (OA s)) (b:=true) rfl
  refine⟨y,?_⟩;simp![qI,Ws,eO,GC,eA,UA,NA,xB,qG,HA,to,vH,JA,eH,sA,OY,GD,iC,gA,qA,Ss,Te,iA,B,LD F,jD,bF,gD,Ls,I,R,oF]at a;by_cases z:(g.map (OA s)).countP (· ==true)=1
  . have u:decide ((((g.map (OA s)).countP (· ==true):Nat):Int)=1)=true:=g8 nofun;rw[u]at a;simp![uo,Ws,eO,GC,eA,UA,xB,HA,e,LK,JA]at a;rw[dz (show pD c s (.one g)=true from g8 z)];exact a.symm
  . have u:decide ((((g.map (OA s)).countP (· ==true):Nat):Int)=1)=false:=fu nofun;rw[u]at a;simp![um,eH,cB,qA,eA,FD]at a;rw[eG (by rw[show pD c s (.one g)=false from fu z];exact Vu)];exact a.symm
def Dg(ok:∀i,i<c->QB (s i))(D:c<=100)(C:BA h x=ε (dI s c))(hs:∀k,src.at h k=ε ds[k]?)(F:Yo h ds fs)(fo:∀f∈fs,VC c f)(sg:∀g∈vB fs,g.length<=1000) :
 ∀n k d a,n=ds.length-k+1->k<=ds.length->∃m j,BB (uA 3) NH src n k [ε x,ε fx,ε (.int ((2*c+1:Nat):Int)),d,a] h=ε (if(fs.drop k).all (pD c s)=true then .nx [ε x,ε fx,ε (.int ((2*c+1:Nat):Int)),m,j] h else .rt (.bl false) h):=by
 intro n
 induction n with
 | zero=>intro k _ _ e;omega
 | succ n ih=>
  intro k d a J L;by_cases b:k<ds.length
  . obtain⟨f,p,q⟩:=F.get (ji b);have u:=kj p;obtain⟨o,E⟩:=Cg ok D C (fx:=fx) q (fo f u) (fun g e=>sg g (kM (e ▸ u))) a;have I:fs.drop k=f::fs.drop (k+1):=by obtain⟨q1,q2⟩:=Wk p;rw[<- q2];exact zu q1
    obtain⟨B,y,e2⟩:=ih (k+1) (ε ds[k]) o nofun nofun;have st:∀r,BB (uA 3) NH src (n+1) k [ε x,ε fx,ε (.int ((2*c+1:Nat):Int)),d,a] h=r->(if pD c s f=true then BB (uA 3) NH src n (k+1) [ε x,ε fx,ε (.int ((2*c+1:Nat):Int)),ε ds[k],o] h else ε (.rt (.bl false) h))=r:=by intro r e;rw[<- e];simp![BB,hs k,ji b,WD,Wi,Vi,Uu,E];cases pD c s f<;>rfl
    have:=st _ rfl;rw[I,Ks];cases z:pD c s f with
    | true=>rw[z,dz rfl,e2]at this;exact⟨B,y,this.symm⟩
    | false=>rw[z,eG Vu]at this;exact⟨none,none,by rw[<- this];rfl⟩
  . have H:fs.drop k=[]:=Nu (by rw[<- F.len];omega);refine⟨d,a,?_⟩;simp![BB,hs k,ju (show ds.length<=k by omega),H,all_nil,eH]
def sx(ok:∀i,i<c->QB (s i))(p:c<=100)(b:BA h x=ε (dI s c))(q:am c h fx ds fs):wL [x,fx] h=ε (.bl (fs.all (pD c s)),h):=by
 obtain⟨src,o,n,m⟩:=q.src;have d:=ET b;rw[Xf]at d;have k:=fun(h:HI)=>sG (h:=h) (i:=2) (j:=(c:Int)) (Or.inl ⟨by decide,by decide⟩)
 have u:2*(c:Int)+1=((2*c+1:Nat):Int):=by omega
 obtain⟨g,e,lp⟩:=Dg ok p b (fx:=fx) (n h (Up.refl h)) q.fa q.ok q.sg (ds.length+1) 0 none none nofun (m6 _);rw[drop_zero,<- m]at lp;have r:wD (uA 3) NH [ε x,ε fx,ε (.int ((2*c+1:Nat):Int)),none,none] (src,h)=ε (if fs.all (pD c s)=true then .nx [ε x,ε fx,ε (.int ((2*c+1:Nat):Int)),g,e] h else .rt (.bl false) h):=lp;generalize a:wL [x,fx] h=X;dsimp![wL,VV,Uo (f:=some),Wo (f:=some),Xe,Wu,NA,HB,sA,RB,qA,Te,d,k,UE,u,Vi,Uu,UA,FC,iC,o,r]at a;cases z:fs.all (pD c s)with
 | true=>rw[z,dz rfl]at a;simp![eA,UA,cB,qA,rB]at a;exact a.symm
 | false=>rw[z,eG Vu]at a;simp![FD,rB]at a;exact a.symm
def Nk(d:1<=c)(H:c<=100)(ok:∀i,i<c->QB (IC t i))(q:am c h fx ds fs)(k:fs.all (pD c (IC (dB (2*c) t)))=true):zG [.lst (DD c (dB (2*c) t)),.int (c:Nat),fx] h=ε (.bl true,h):=by
 have a:=CY (2*c) ok;obtain⟨m,j⟩:=yh d ok;generalize dB (2*c) t=u at a m j k;have p:=sx a H (x:=.lst (DD c u)) (h:=h) rfl q;rw[k]at p;have pl:(DD c u).length=c:=by simp[DD]
 have I:∀(i:Int)(h:HI),xL [.int i] h=ε (.bl true,h):=fun i h=>by simp[xL,YV]
 obtain⟨O,b,e,⟨y,rfl⟩,F⟩:=Dl (i:=3) (body:=MN) (fun k:Nat=>Dt.tup [.int (u (2*k)),.int (u (2*k+1))]) (fun l b=>(∃y,l=[ε (.lst (DD c u)),ε (.int (c:Nat)),ε fx,y])/\b=h) (List.range c) (by
  rintro k E l b ⟨⟨y,rfl⟩,rfl⟩;have o:u (2*k)<u (2*k+1):=a k (Bu.mp E);have L:decide (u (2*k+1)<=u (2*k))=false:=fu nofun;have D:∀xs,yG b (.tup xs)=ε "tuple" :=fun z=>rfl
  have B:SM.ZF "tuple" "tuple" =true:=by decide
  refine⟨.nx [ε (.lst (DD c u)),ε (.int (c:Nat)),ε fx,ε (.tup [.int (u (2*k)),.int (u (2*k+1))])] b,?_,⟨_,rfl⟩,rfl⟩;simp![MN,NA,xB,ID,yF,HA,lQ,sA,gA,qA,RB,Vi,Uu,Ss,Te,iA,eA,D,B,Vs,JA,uo,Ws,eO,j9,T4,Va,Nat.reduceAdd,Ie,oF,decide_true,FA,AA,zA,XB,BC,SF,Ui,I,GC,UA,PQ,L]) [ε (.lst (DD c u)),ε (.int (c:Nat)),ε fx,none] h ⟨⟨_,rfl⟩,rfl⟩
 rw[F]at e;have J:JB (uA 3) MN (DD c u) [ε (.lst (DD c u)),ε (.int (c:Nat)),ε fx,none] h=ε (.nx [ε (.lst (DD c u)),ε (.int (c:Nat)),ε fx,y] h):=e;have M:=uF (te:=LN) (i:=0) (tc:=aB) (fun k:Nat=>Dt.tup [.int (u (2*k)),.int (u (2*k+1))]) (fun k=>Dt.int (u (2*k))) h (List.range c) [none] (by
  intro k _;exact⟨by simp,rfl⟩)
 have r:=MD (l:=[none]) (h:=h) (uA 0) aB LN (xs:=DD c u) (by rw[pl];simp[sizeLine];omega);have g:CD (uA 0) aB LN (DD c u) [none] h=ε (((List.range c).map fun k=>u (2*k)).map Dt.int,h):=by rw[map_map];exact M
 rw[g]at r;have n:=P4 (h:=h) m;rw[j]at n;have C:∀xs,yG h (.lst xs)=ε "list" :=fun z=>rfl
 have s:SM.ZF "list" "list" =true:=by decide
 dsimp![zG,xV,Uo (f:=some),Wo (f:=some),Xe,Wu,NA,xB,ID,yF,HA,lQ,sA,qA,RB,Te,C,s,Vs,JA,uo,Ws,eO,PM,pl,oF,decide_true,GC,UA,FC,iC,sF,cE,J,cB,XI,GD,jD,gD,r,n,JD,FI,FA,AA,zA,Ui,p,rB]
def cz(lo:Nat)(h:HI)(d:Dt):vb->Prop
 | .one g=>∃n,d=.tup [.str "one", .ref n]/\lo<=n/\h[n]?=ε (.lst (g.map IA))/\g.length<=6
 | f=>al h d f
def cz.at{lo:Nat}(q:cz lo h d f):al h d f:=by
 cases f with
 | one g=>obtain⟨n,e,_,q,_⟩:=q;exact⟨_,e,n,rfl,q⟩
 | ways m=>exact q
 | long x=>exact q
def cz.up{lo a:Nat}(b:a<=lo)(u:CU lo h h')(q:cz lo h d f):cz a h' d f:=by
 cases f with
 | one g=>obtain⟨n,e,l,q,s⟩:=q;exact⟨n,e,by omega,u _ _ l q,s⟩
 | ways m=>exact q
 | long x=>exact q
inductive bi(lo:Nat)(h:HI):List Dt->List vb->Prop where
 | nil:bi lo h [] []
 | cons {d:Dt} {f:vb} {ds:List Dt} {fs:List vb} (a:cz lo h d f) (r:bi lo h ds fs):bi lo h (d::ds) (f::fs)
def bi.up{lo b:Nat}(d:b<=lo)(u:CU lo h h')(q:bi lo h ds fs):bi b h' ds fs:=by
 induction q with
 | nil=>exact .nil
 | cons a r ih=>exact .cons (a.up d u) ih
def bi.at{lo:Nat}(q:bi lo h ds fs):Yo h ds fs:=by
 induction q with
 | nil=>exact .nil
 | cons a r ih=>exact .cons a.at ih
def bi.snoc{lo:Nat}{h:HI}{ds:Oe Dt}{fs:Oe vb}(q:bi lo h ds fs){d:Dt}{f:vb}(a:cz lo h d f):bi lo h (ds++[d]) (fs++[f]):=by
 induction q with
 | nil=>exact .cons a .nil
 | cons b r ih=>exact .cons b ih
def oS(w:Nat):Nat:=[3,9,12,18,21].getD (pz w).1 0
def oE(w:Nat):Nat:=[6,9,15,18,24].getD (pz w).2 0
def shw(a b c:Nat):Bool:=(List.range 27).any fun s=>decide (sE s (oS b) (oE b)=(pz a).1)&&decide (sE s 9 18=(pz c).1)&&(List.range 27).any fun e=>decide (s<e)&&decide (sE e (oS b) (oE b)=(pz a).2)&&decide (sE e 9 18=(pz c).2)
def td:∀a<13,∀b<13,∀c<13,(CH a b).testBit c=true->shw a b c=true:=by decide +kernel
def vq:∀b<13,oS b<oE b/\(sE (oS b) 9 18,sE (oE b) 9 18)=pz b:=by decide +kernel
def GS(hw:w<13)(h1:sE p r t=(pz w).1)(h2:sE q r t=(pz w).2):bB ((p:Int),(q:Int)) ((r:Int),(t:Int))=w:=by unfold bB;rw[UT,UT,h1,h2];exact(N5 w hw).2.2
def Bf(i:a<13)(d:b<13)(g:c<13)(h:(CH a b).testBit c=true):∃s o t,QB s/\QB o/\QB t/\bB s o=a/\bB o t=b/\bB s t=c:=by have z:=td a i b d c g h;unfold shw at z;obtain⟨s,_,z⟩:=any_eq_true.mp z;simp![vm,decide_eq_true_eq]at z;obtain⟨⟨p,n⟩,z⟩:=z;obtain⟨e,_,z⟩:=any_eq_true.mp z;simp![vm,decide_eq_true_eq]at z;obtain⟨⟨m,k⟩,j⟩:=z;obtain⟨q,f⟩:=vq b d;exact⟨((s:Nat),(e:Nat)),((oS b:Nat),(oE b:Nat)),((9:Nat),(18:Nat)),Int.ofNat_lt.mpr m,Int.ofNat_lt.mpr q,Int.ofNat_lt.mpr (by decide),GS i p k,GS d (congrArg Prod.fst f) (congrArg Prod.snd f),GS g n j⟩
def jT(o:WA c g)(e:i<c)(d:j<c)(b:QB x)(a:QB y)(h:(g i j).testBit (bB x y)=true):(g j i).testBit (bB y x)=true:=by have hw:=IE b a;rw[o.tn i e j d,cM b a,cF _ nofun,show 12-(12-bB x y)=bB x y by omega];exact h
def HX(o:WA 3 g)(W:ND 3 g)(D:i<3)(C:j<3)(a:i≠j)(d:(g i j).testBit w=true):∃s,(∀i,QB (s i))/\wh 3 g s/\bB (s i) (s j)=w:=by
 have B:=(show ∀i<3,∀j<3,i≠j->3-i-j<3/\i≠3-i-j/\3-i-j≠j by decide) i D j C a;have L:=(show ∀i<3,∀j<3,i≠j->∀n<3,n=i\/n=3-i-j\/n=j by decide) i D j C a;generalize 3-i-j=k at B L;obtain⟨B,P,I⟩:=B;have q:=W i D k B j C ⟨P,I,a⟩;have J:(IK (g i k) (g k j)).testBit w=true:=by rw[<- q,Wa,zc,vm]at d;exact d.2
 obtain⟨u,v,S,O,R,M,Y⟩:=(eK _ _ _).mp J;have hw:w<13:=Nat.lt_of_not_le fun T=>by have:=Nat.testBit_lt_two_pow (jo (o.lt i D j C) (Nat.pow_le_pow_right (n:=2) (by decide) T:2^13<=2^w));rw[this]at d;cases d
 obtain⟨x,y,z,H,F,E,U,e2,Q⟩:=Bf S R hw Y;rw[<- U]at O;rw[<- e2]at M;rw[<- Q]at d;refine⟨fun n=>if n=i then x else if n=k then y else z,fun n=>?_,?_,?_⟩
 . show QB (if n=i then x else if n=k then y else z);split
   . exact H
   . split
     . exact F
     . exact E
 . have h:(if i=i then x else if i=k then y else z)=x:=dz rfl;have e:(if k=i then x else if k=k then y else z)=y:=by rw[eG (m8 P),dz rfl]
   have f:(if j=i then x else if j=k then y else z)=z:=by rw[eG (m8 a),eG (m8 I)]
   intro p hp r m b;show(g p r).testBit (bB (if p=i then x else if p=k then y else z) (if r=i then x else if r=k then y else z))=true;rcases L p hp with rfl | rfl | rfl<;>rcases L r m with rfl | rfl | rfl
   . exact Ea rfl b
   . rw[h,e];exact O
   . rw[h,f];exact d
   . rw[h,e];exact jT o m hp H F O
   . exact Ea rfl b
   . rw[e,f];exact M
   . rw[h,f];exact jT o m hp H E d
   . rw[e,f];exact jT o m hp F E M
   . exact Ea rfl b
 . show bB (if i=i then x else if i=k then y else z) (if j=i then x else if j=k then y else z)=w;rw[dz rfl,eG (m8 a),eG (m8 I)];exact Q
def JQ(f:EA):Nat:=((LA 3).filter fun p=>decide (1<(QA (f p.1 p.2)).length)).length
def J1(h:tJ 3 g f):JQ g<=JQ f:=BO _ fun p hp q=>by obtain⟨a,b⟩:=az.mp hp;have:=CP (h p.1 nofun p.2 b);unfold aH at this;have q:=of_decide_eq_true q;exact g8 nofun
def tf(hp:p∈LA 3)(f:1<(QA (g p.1 p.2)).length)(hw:w<13):JQ (AB g p.1 (2^w) p.2)<JQ g:=by
 obtain⟨a,b⟩:=az.mp hp;have one:(QA (AB g p.1 (2^w) p.2 p.1 p.2)).length<=1:=by rw[HP g _ nofun];have:=CP (a:=g p.1 p.2&&&2^w) (b:=2^w) (bg.mpr fun k h=>by rw[zc,vm]at h;exact h.2);unfold aH at this;rw[NZ w hw]at this;exact this
 refine CO _ (fun q i z=>?_) ⟨p,hp,fu nofun,g8 f⟩;obtain⟨c,d⟩:=az.mp i;by_cases e:q.1=p.1/\q.2=p.2
 . rw[e.1,e.2];exact g8 f
 . rw[dH g e nofun]at z;exact z
def DT{st:Oe (Nat×Nat×Nat)}(of:WA 3 f)(e:bo 3 f st g):tJ 3 g f:=by obtain⟨d,s0,_,_,rfl⟩:=e;intro i b j a;rw[eF d b a];exact s0.sub of i b j a
def WY{st:Oe (Nat×Nat×Nat)}(d:∀i<3,f i i=64)(e:bo 3 f st g):∀i<3,g i i=64:=by obtain⟨b,s0,_,_,rfl⟩:=e;intro i a;rw[eF b a a];exact s0.diag d i a
def XY{st:Oe (Nat×Nat×Nat)}(ok:∀i,i<3->QB (s i))(q:wh 3 f s)(a:bo 3 f st g):wh 3 g s:=by obtain⟨b,s0,_,_,rfl⟩:=a;exact(q.steps ok s0).cut
def zx:∀k n f made s,WA 3 f->(∀i<3,f i i=64)->(∀i,QB (s i))->wh 3 f s->JQ f<=k->made+k<=m->k<n->∃t o,AC 3 m [] n f [] made (.laid t) o/\o<=made+k:=by
 intro k
 induction k with
 | zero=>
  intro n f made s of r ok q O M J;obtain⟨n,rfl⟩:∃y,n=y+1:=⟨n-1,by omega⟩
  obtain⟨st,⟨g,j,D⟩ | ⟨g,a⟩⟩:=AO (by decide) of
  . have:=(q.steps (fun i v=>ok i) j).ne (j.diag r);rw[D]at this;cases this
  . have qg:=XY (fun i v=>ok i) q a;have b:∀e∈fC 3 g [],WE (nJ s) e:=fun e C=>by have:=zS (fun i v=>ok i) qg (ls:=[]) (fun x B=>by cases B) e C;unfold WE;omega
    refine⟨nJ s,made,.inr ⟨st,g,a,.inr ⟨_,b,.inl ⟨?_,rfl,rfl⟩⟩⟩,Us _⟩;simp![qC];cases lp:iE 3 g with
    | none=>rfl
    | some p=>have hp:p∈LA 3:=Ai lp;have z:0<JQ g:=length_pos_of_mem (mem_filter.mpr ⟨hp,find?_some (p:=fun p:Nat×Nat=>decide (1<(QA (g p.1 p.2)).length)) lp⟩);have:=J1 (DT of a);omega
 | succ k ih=>
  intro n f made s of r ok q O M J;obtain⟨n,rfl⟩:∃y,n=y+1:=⟨n-1,by omega⟩
  obtain⟨st,⟨g,j,D⟩ | ⟨g,a⟩⟩:=AO (by decide) of
  . have:=(q.steps (fun i v=>ok i) j).ne (j.diag r);rw[D]at this;cases this
  . have qg:=XY (fun i v=>ok i) q a;obtain⟨d,F,neg⟩:=a.ok of;have b:∀e∈fC 3 g [],WE (nJ s) e:=fun e C=>by have:=zS (fun i v=>ok i) qg (ls:=[]) (fun x B=>by cases B) e C;unfold WE;omega
    cases lp:iE 3 g with
    | none=>exact⟨nJ s,made,.inr ⟨st,g,a,.inr ⟨_,b,.inl ⟨by simp![qC,lp],rfl,rfl⟩⟩⟩,by omega⟩
    | some p=>
     have hp:p∈LA 3:=Ai lp;have pl:1<(QA (g p.1 p.2)).length:=of_decide_eq_true (find?_some (p:=fun p:Nat×Nat=>decide (1<(QA (g p.1 p.2)).length)) lp);obtain⟨S,u⟩:=az.mp hp;cases E:QA (g p.1 p.2)with
     | nil=>rw[E]at pl;cases pl
     | cons w R=>obtain⟨hw,P⟩:=bm.mp (show w∈QA (g p.1 p.2) by rw[E];simp);obtain⟨H,h,I,Q⟩:=HX d F (show p.1<3 by omega) u nofun P;have lt:=tf hp pl hw;have le:=J1 (DT of a);obtain⟨t,o,L,hs⟩:=ih n (AB g p.1 (2^w) p.2) (made+1) H (nH d nofun u nofun _) (MO (WY r a) nofun _) h (I.nar (fun i v=>h i) nofun u nofun (by rw[Q,Nat.testBit_two_pow];simp)) nofun nofun nofun;refine⟨t,o,.inr ⟨st,g,a,.inr ⟨_,b,.inr ⟨ε p,_,_,by simp![qC,lp];rfl,.inr ⟨by omega,?_⟩⟩⟩⟩,by omega⟩;rw[E];exact .inr ⟨(fun z=>by cases z),L⟩
noncomputable def kN:Oe (Oe EB)->Nat
 | []=>3
 | _::gs=>1+3*kN gs
def Ax(f):JQ f<=3:=rz (length_filter_le _ _) (by decide)
def gq(a:m<8192)(b:m≠0):∃w,m.testBit w=true:=by
 refine Classical.byContradiction fun z=>b (SH a (by decide) fun k q=>?_)
 rw[Nat.zero_testBit];cases e:m.testBit k with
 | false=>rfl
 | true=>exact Ea ⟨k,e⟩ z
def Bx:∀gs n f made,WA 3 f->bc 3 gs->(∀i<3,f i i=64)->(∀g∈gs,g.length<=3)->made+kN gs<=m->gs.length+4<=n->∃a s,AC 3 m [] n f gs made a s/\a.wd≠.opn/\s<=made+kN gs:=by
 intro gs
 induction gs with
 | nil=>
  intro n f made of og O sg F u;obtain⟨n,rfl⟩:∃C,n=C+1:=⟨n-1,by simp at u;omega⟩
  obtain⟨st,⟨g,M,J⟩ | ⟨g,h⟩⟩:=AO (by decide) of
  . exact⟨_,_,.inl ⟨st,g,M,J,rfl,rfl⟩,(fun z=>by cases z),Ma _ _⟩
  . obtain⟨d,y,neg⟩:=h.ok of;obtain⟨w,o⟩:=gq (d.lt 0 (by decide) 1 (by decide)) (cq neg (by decide) (by decide));obtain⟨s,ok,q,_⟩:=HX d y (by decide) (by decide) (by decide) o;obtain⟨t,sp,L,hs⟩:=zx (m:=m) 3 (n+1) f made s of O ok (q.sub (DT of h)) (Ax f) F (by simp at u;omega);exact⟨_,_,L,(fun z=>by cases z),hs⟩
 | cons grp gs ih=>
  intro n f made of og O sg F u;obtain⟨n,rfl⟩:∃C,n=C+1:=⟨n-1,by simp at u;omega⟩
  obtain⟨st,⟨g,M,J⟩ | ⟨g,h⟩⟩:=AO (by decide) of
  . exact⟨_,_,.inl ⟨st,g,M,J,rfl,rfl⟩,(fun z=>by cases z),Ma _ _⟩
  . obtain⟨d,y,neg⟩:=h.ok of;rcases UY (n:=2*3) (a:=0) (by decide) (by decide) (fC 3 g []) (aT g (fun x p=>by cases p)) (sS (by decide) g (m6 _)) [.lst ((fC 3 g []).map xA)] rfl with⟨t,U,B,fr,Y⟩ | ⟨Z,PP,k,r,U,R,fr,hr,Y,rl⟩
    . have go:∀(bs:Oe EA),(∀b∈bs,WA 3 b/\∀i<3,b i i=64)->∀(j:Nat)(e:Oe Tr),j+bs.length*kN gs<=m->∃a s,uE (AC 3 m [] n) none st gs bs j e a s/\a.wd≠.opn/\s<=j+bs.length*kN gs:=by
       intro bs
       induction bs with
       | nil=>intro _ j e _;exact⟨_,_,⟨rfl,rfl⟩,(fun z=>by cases z),Ma _ _⟩
       | cons b bs D=>
        intro o j e E;rw[T4,Nat.succ_mul]at E ⊢;obtain⟨b1,b2⟩:=o b ⋯;obtain⟨a,s,L,I,hs⟩:=ih n b j b1 (og.tail) b2 (fun x p=>sg x (by simp[p])) nofun (by simp at u;omega);cases a with
        | clash P=>obtain⟨a',Q,L',H,S⟩:=D (fun x p=>o x (by simp[p])) s (e++[P]) nofun;exact⟨a',Q,.inl ⟨P,s,L,L'⟩,H,by omega⟩
        | opn=>exact Ea rfl I
        | laid t=>exact⟨_,_,.inr ⟨(fun z=>by cases z),L⟩,(fun z=>by cases z),by omega⟩
      have W:=sg grp ⋯;have gm:grp.length*kN gs<=3*kN gs:=Nat.mul_le_mul_right _ W;have T:made+(1+3*kN gs)<=m:=F;obtain⟨a,s,L,I,hs⟩:=go ((List.range grp.length).map (aN g grp)) (fun b o=>by
       obtain⟨k,_,rfl⟩:=Bs.mp o;exact⟨TR grp (og grp ⋯) g 0 d,UR grp (og grp ⋯) g 0 (WY O h)⟩) (made+1) [] (by rw[mq,Fe];omega)
      rw[mq,Fe]at hs;exact⟨a,s,.inr ⟨st,g,h,.inr ⟨t,B,.inr ⟨none,_,_,rfl,.inr ⟨by omega,L⟩⟩⟩⟩,I,by show s<=made+(1+3*kN gs);omega⟩
    . exact⟨_,_,.inr ⟨st,g,h,.inl ⟨Z,PP,k,R,rfl,rfl⟩⟩,(fun z=>by cases z),Ma _ _⟩
def xR(ok:∀x∈fs,VC 3 x)(nl:gC fs=[])(g2:(vB fs).length<=2)(g3:∀g∈vB fs,g.length<=3):∃A s,iF 3 200 fs 12 A s/\A.wd≠.opn:=by
 have d:kN (vB fs)<=200:=by
  match vB fs,g2 with
  | [],_=>show 3<=200;decide
  | [_],_=>show 1+3*3<=200;decide
  | [_,_],_=>show 1+3*(1+3*3)<=200;decide
 obtain⟨a,s,L,b,_⟩:=Bx (m:=200) (vB fs) 12 (iD aC fs) 0 (AG fs ok _ (WH 3)) (DG fs ok) (aM fs aC ok (fun i q=>by unfold aC;rw[dz rfl])) g3 nofun nofun;refine⟨a,s,?_,b⟩;unfold iF;rw[nl];exact L
def M5(h:k<13):2^k<8192:=Nat.pow_lt_pow_right (by decide) h (m:=k) (n:=13)
def W0{k:Nat}(h:k<8192):Builtin.bitXor 8191 (k:Int)=((8191-k:Nat):Int):=by
 have b:(8191:Nat)&&&k=k:=by rw[Nat.and_comm,show(8191:Nat)=2^13-1 from rfl,Nat.and_two_pow_sub_one_eq_mod];exact Nat.mod_eq_of_lt h
 have d:(8191:Nat)|||k=8191:=Io fun i=>by
  have:=congrArg (fun x=>x.testBit i) b;simp![zc]at this;rw[Nat.testBit_or];cases a:(8191:Nat).testBit i with
  | true=>rfl
  | false=>rw[a,Hi]at this;rw[<- this];rfl
 have:=Rn 8191 k;rw[b,d]at this;rw[show((8191:Nat):Int)=8191 from rfl]at this;rw[this];omega
def J2(i)(a:t l h=ε (b,h))(he:e l h=ε (v,h))(f:l[i]?=ε (ε d))(k:Rs->Oo Rs):gB (WB t (CA i e) VA l h) k=k (.nx (l.set i (ε (if b=true then v else d))) h):=by
 cases b with
 | true=>simp![xB,a,eA,eH,HB,he]
 | false=>
  have ls:l.set i (ε d)=l:=by obtain⟨lt,e⟩:=Wk f;rw[<- e,set_getElem_self]
  simp![xB,a,eA,Ws,eO,GC,ls]
def N3(h:k<13):Builtin.bitXor 8191 ((2^k:Nat):Int)=((8191-2^k:Nat):Int):=W0 (M5 h)
def zf(N):∃m,kC 3 m/\∀h,LJ [.int (N:Nat)] h=ε (IA m,h):=by
 obtain⟨i,j,J,I,n,Q⟩:=fS (c:=3) (by decide) (by decide) N;obtain⟨A,P⟩:=TH (N:Int) 2;obtain⟨B,O⟩:=TH (N:Int) 3;have q:N/6%13<13:=Js _ (by decide);have p:A%13<13:=Js _ (by decide);have S:=fun(x:Int) (h:HI)=>CK (h:=h) (i:=x) (j:=6) ⟨by decide,by decide⟩
 have o:=fun(x:Int) (h:HI)=>CK (h:=h) (i:=x) (j:=78) ⟨by decide,by decide⟩
 have f:=fun(x:Int) (h:HI)=>CK (h:=h) (i:=x) (j:=156) ⟨by decide,by decide⟩
 have e:=fun(x:Int) (h:HI)=>nE (h:=h) (i:=x) (show(0:Int)<13 by decide)
 have H:=fun(x:Int) (h:HI)=>nE (h:=h) (i:=x) (show(0:Int)<2 by decide)
 have k:=fun(x:Int) (h:HI)=>nE (h:=h) (i:=x) (show(0:Int)<10 by decide)
 have F:=fun(x:Int) (h:HI)=>nE (h:=h) (i:=x) (show(0:Int)<8192 by decide)
 have U:(N:Int)/6%13=((N/6%13:Nat):Int):=rfl;have T:(A:Int)%13=((A%13:Nat):Int):=rfl;have C:=fun h=>XM (h:=h) (QK q)
 have y:=fun h=>XM (h:=h) (QK p)
 have E:(1:Int)*2^(N/6%13)=((2^(N/6%13):Nat):Int):=by simp
 have D:(1:Int)*2^(A%13)=((2^(A%13):Nat):Int):=by simp
 have s:=N3 q;have r:=N3 p;have g:4<=sizeLine:=by decide
 generalize N/6%13=u at *;generalize A%13=v at *;obtain⟨M,L,R⟩:∃M:Nat,M<8192/\(if decide ((N:Int)/156%10=3)=true then Dt.int ((B:Int)%8192)else if decide ((N:Int)/78%2=1)=true then Dt.int ((8191-2^u&&&(8191-2^v):Nat):Int)else Dt.int ((8191-2^u:Nat):Int))=.int (M:Nat):=by
  split
  . exact⟨B%8192,Js _ (by decide),rfl⟩
  . split
    . exact⟨_,Ds Nat.and_le_left (Ds (Nat.sub_le _ _) (by decide)),rfl⟩
    . exact⟨_,Ds (Nat.sub_le _ _) (by decide),rfl⟩
 refine⟨(i,M,j),⟨J,I,n,L⟩,fun h=>?_⟩;generalize a:LJ [.int (N:Nat)] h=X;dsimp![LJ,CV,Uo,Wo,Xe,Wu,NA,HB,pU,FA,AA,zA,sA,qA,Te,Ui,(show ∀h,MH [.int (N:Nat),.int 3] h=_ from Q),gK,Vi,Uu,UA,S,e,U,C,ni,E,lU,s]at a;rw[J2 3 (b:=decide ((N:Int)/78%2=1)) (v:=.int ((8191-2^u&&&(8191-2^v):Nat):Int)) (d:=.int ((8191-2^u:Nat):Int)) (by simp![HA,sA,gA,qA,Ss,iA,eA,o,H,JD,JA]) (by
  simp![sA,gA,qA,FA,AA,zA,Ss,Te,iA,eA,Ui,P,e,T,y,ni,D,lU,r,VI,nM]) rfl]at a
 simp![Vi,Uu,UA,NA]at a;rw[J2 3 (b:=decide ((N:Int)/156%10=3)) (v:=.int ((B:Int)%8192)) (by simp![HA,sA,gA,qA,Ss,iA,eA,f,k,JD,JA]) (by
  simp![sA,gA,qA,FA,AA,zA,Ss,Te,iA,eA,Ui,O,F]) rfl,R]at a
 simp![Vi,Uu,UA,cB,ED,AA,zA,gA,qA,Ss,Te,iA,eA,T4,Va,Nat.reduceAdd,g,eH,rB]at a;exact a.symm
def yg(N):∃m,kC 3 m/\∀h,rL [.int (N:Nat)] h=ε (IA m,h):=by
 obtain⟨i,j,f,e,b,k⟩:=fS (c:=3) (by decide) (by decide) N;obtain⟨A,g⟩:=TH (N:Int) 5;have d:=fun(x:Int) (h:HI)=>nE (h:=h) (i:=x) (show(0:Int)<8192 by decide)
 have a:4<=sizeLine:=by decide
 refine⟨(i,A%8192,j),⟨f,e,b,Js _ (by decide)⟩,fun h=>?_⟩;dsimp![rL,rV,Uo,Wo,Xe,Wu,NA,pU,FA,AA,zA,sA,qA,Te,Ui,(show ∀h,MH [.int (N:Nat),.int 3] h=_ from k),gK,Vi,Uu,UA,cB,ED,g,d,a,rB];rfl
def vf(N):∃M,M<8192/\∀h,GL [.int (N:Nat)] h=ε (.int (M:Nat),h):=by
 obtain⟨A,s⟩:=TH (N:Int) 9;have d:N/5%13<13:=Js _ (by decide);have y:=fun(x:Int) (h:HI)=>CK (h:=h) (i:=x) (j:=5) ⟨by decide,by decide⟩
 have b:=fun(x:Int) (h:HI)=>nE (h:=h) (i:=x) (show(0:Int)<13 by decide)
 have m:=fun(x:Int) (h:HI)=>nE (h:=h) (i:=x) (show(0:Int)<8192 by decide)
 have n:=fun(x:Int) (h:HI)=>nE (h:=h) (i:=x) (show(0:Int)<5 by decide)
 have D:(N:Int)/5%13=((N/5%13:Nat):Int):=rfl;have C:(N:Int)/5%8192=((N/5%8192:Nat):Int):=rfl;have B:(A:Int)%8192=((A%8192:Nat):Int):=rfl;have f:=fun h=>XM (h:=h) (QK d)
 have g:(1:Int)*2^(N/5%13)=((2^(N/5%13):Nat):Int):=by simp
 have a:5<=sizeLine:=by decide
 have q:=M5 d;have p:N/5%8192<8192:=Js _ (by decide);have o:A%8192<8192:=Js _ (by decide);generalize N/5%13=u at *;generalize N/5%8192=v at *;generalize A%8192=w at *;have go:∀M:Nat,M<8192->atI [Dt.int (v:Nat),.int ((2^u:Nat):Int),.int 0,.int 8191,.int (w:Nat)] ((N:Int)%5)=ε (.int (M:Nat))->∃M:Nat,M<8192/\∀h,GL [.int (N:Nat)] h=ε (.int (M:Nat),h):=by intro M r e;refine⟨M,r,fun h=>?_⟩;dsimp![GL,AV,Uo,Wo,Ui,cB,sA,pG,AA,zA,FA,qA,y,b,m,D,C,B,f,ni,g,s,a,n,fJ,e,Vs,rB]
 rw[show(N:Int)%5=((N%5:Nat):Int)from rfl]at go;rcases(show ∀k<5,k=0\/k=1\/k=2\/k=3\/k=4 by decide) _ (Js N (by decide:5>0))with z | z | z | z | z<;>rw[z]at go
 . exact go v p rfl
 . exact go (2^u) q rfl
 . exact go 0 (by decide) rfl
 . exact go 8191 (by decide) rfl
 . exact go w o rfl
def n9(x)(b):∃f o,VC 3 f/\gC [f]=[]/\((vB [f]).length+b=o/\(b<=2->o<=2))/\(∀g∈vB [f],g.length<=3)/\∀h r ds x0 B p,h[r]?=ε (.lst ds)->ds.length<=1000->
 ∃d e F E,yI [x0,ε (.ref r),ε (.int (b:Nat)),ε (.int x),B,p] h=ε (.nx [x0,ε (.ref r),ε (.int (o:Nat)),ε (.int x),F,E] ((h++e).set r (.lst (ds++[d]))))/\cz h.length (h++e) d f:=by
 obtain⟨N,W⟩:=TH x 1;have n:=fun(x:Int) (h:HI)=>nE (h:=h) (i:=x) (show(0:Int)<12 by decide)
 have m3:=fun(x:Int) (h:HI)=>nE (h:=h) (i:=x) (show(0:Int)<3 by decide)
 have u:=fun(i:Int) (h:HI)=>CK (h:=h) (i:=i) (j:=12) ⟨by decide,by decide⟩
 have H:(N:Int)/12=((N/12:Nat):Int):=rfl;generalize J:(N:Int)%12=kd;by_cases y:kd=5/\b<2
 . have q3:=g8 y.1;have q4:decide (((b:Nat):Int)<2)=true:=g8 (by have:=y.2;omega);have R:1+(N:Int)/12%3=((1+N/12%3:Nat):Int):=rfl;have Q:1+N/12%3<=3:=by omega
   generalize 1+N/12%3=t at R Q;have mem:∀k:Nat,∃m,kC 3 m/\∃v:Nat,(∀h,KF [.int (N:Nat),.int (10+(k:Int))] h=ε (.int (v:Nat),h))/\∀h,rL [.int (v:Nat)] h=ε (IA m,h):=fun k=>by obtain⟨v,I⟩:=TH (N:Int) (10+(k:Int));obtain⟨m,a,e⟩:=yg v;exact⟨m,a,v,I,e⟩
   obtain⟨M,S⟩:=Classical.axiomOfChoice mem;refine⟨.one ((List.range t).map M),b+1,fun m hm=>?_,rfl,⟨by simp[vB];omega,by have:=y.2;omega⟩,fun g C=>?_,fun h r ds x0 B p s dl=>?_⟩
   . obtain⟨k,_,rfl⟩:=Bs.mp hm;exact(S k).1
   . simp![vB,Ba,not_mem_nil,or_false]at C;subst C;simpa using Q
   . have U:=fun h=>MF (h:=h) (show(-(2^62):Int)<=(t:Int) by omega) (show(t:Int)<2^62 by omega)
     simp![ni]at U;have ca:=uF (te:=tL) (i:=0) (tc:=aB) (fun k:Nat=>Dt.int (k:Int)) (fun k=>IA (M k)) h (List.range t) [none,ε (.int (N:Nat))] (by
      intro k _;obtain⟨_,v,I,L⟩:=S k;refine⟨by simp,?_⟩;simp![tL,FA,AA,zA,sA,gA,qA,Uu,Ss,Te,iA,eA,UE,Ui,I,L])
     have Y:=MD (l:=[none,ε (.int (N:Nat))]) (h:=h) (uA 0) aB tL (xs:=(List.range t).map fun(k:Nat)=>Dt.int (k:Int)) (by simp[sizeLine];omega);rw[ca]at Y;have Z:=(Wk s).1;have O:(h++[Ob.lst ((List.range t).map fun k=>IA (M k))])[r]?=ε (.lst ds):=by rw[Xo Z];exact s
     have P:=fG (l:=[x0,ε (.ref r),ε (.int ((b+1:Nat):Int)),ε (.int x),ε (.int (N:Nat)),ε (.int (t:Nat))]) (h:=h) (h':=h++[Ob.lst ((List.range t).map fun k=>IA (M k))]) (g:=SA (bA (eC (.str "one")) (bA (PF (uH (eV 5)) (uA 0) aB tL [none,ε 4]) dA))) (d:=.tup [.str "one", .ref h.length]) s (by
      simp![ED,AA,zA,qA,gA,OO,rH,U,jD,bF,gD,Ls,Ss,Te,iA,eA,Y,T4,Va,Nat.reduceAdd,gL,eH]) O (by simp[sizeLine];omega)
     refine⟨.tup [.str "one", .ref h.length],[.lst ((List.range t).map fun k=>IA (M k))],ε (.int (N:Nat)),ε (.int (t:Nat)),?_,h.length,rfl,Us _,by rw[map_map];simp,by simp;omega⟩;have g1:((b:Nat):Int)+1=((b+1:Nat):Int):=rfl;simp![yI,NA,HB,FA,AA,zA,sA,gA,qA,Ss,Te,iA,eA,Ui,W,Vi,Uu,UA,xB,qG,HA,n,J,JD,q3,JA,eH,CJ,q4,UE,g1,u,m3,R,gF,iG,P]
 . obtain⟨m,m1,L⟩:=zf (N/12);refine⟨.ways m,b,m1,rfl,⟨by simp[vB],fun z=>z⟩,fun g C=>by simp[vB]at C,fun h r ds x0 B p s dl=>?_⟩;have first:∀(k:Bool×HI->Oo Rs)(l:LI)(h:HI),l[4]?=ε (ε (.int (N:Nat)))->l[2]?=ε (ε (.int (b:Nat)))->gB (tH (vi (e2 mB (e2 aD (eV 4) (wq 12)) (wq 5))) (vi (e2 tI (eV 2) (wq 2))) l h) k=k (false,h):=by
    intro k l h T h2;by_cases q:kd=5
    . have q1:decide (((b:Nat):Int)<2)=false:=fu (fun z=>y ⟨q,by omega⟩);have q0:decide (kd=5)=true:=g8 q;simp![qG,HA,sA,gA,T,h2,iA,eA,qA,n,J,JD,q0,JA,eH,CJ,q1]
    . have q0:decide (kd=5)=false:=fu q;simp![qG,HA,sA,gA,T,iA,eA,qA,n,J,JD,q0,JA,Ws,eO]
   have P:=fG (l:=[x0,ε (.ref r),ε (.int (b:Nat)),ε (.int x),ε (.int (N:Nat)),p]) (h:=h) (h':=h) (g:=rA LJ [] (bA (e2 HF (eV 4) (wq 12)) dA)) (d:=IA m) s (by
    simp![FA,AA,zA,sA,qA,gA,Ss,Te,iA,eA,u,H,Ui,L]) s (by simp[sizeLine];omega)
   refine⟨IA m,[],ε (.int (N:Nat)),p,?_,by rw[Ui];rfl⟩;generalize D:yI [x0,ε (.ref r),ε (.int (b:Nat)),ε (.int x),B,p] h=X;simp![yI,NA,HB,FA,AA,zA,gA,qA,Ss,Te,iA,eA,Ui,W,Vi,Uu,UA]at D;rw[xB,first _ _ _ rfl rfl]at D;simp![Ws,eO,gF,iG,gA,Ss,Te,iA,eA,P]at D;rw[Ui];exact D.symm
def UpX(r:Nat)(h h':HI):Prop:=h.length<=h'.length/\∀(n:Nat)(o:Ob),n≠r->h[n]?=ε o->h'[n]?=ε o
theorem TL:∀a b,gC (a++b)=gC a++gC b
 | [],_=>rfl
 | .one _::a,b=>TL a b
 | .ways _::a,b=>TL a b
 | .long x::a,b=>by rw[Xe,gC,gC,TL a b,Xe]
theorem DI:∀a b,vB (a++b)=vB a++vB b
 | [],_=>rfl
 | .one g::a,b=>by rw[Xe,vB,vB,DI a b,Xe]
 | .ways _::a,b=>DI a b
 | .long x::a,b=>DI a b
structure IU(fs:List vb)(gr:Nat):Prop where
 ok:∀f∈fs,VC 3 f
 nl:gC fs=[]
 g2:gr<=2->(vB fs).length+gr<=2
 g3:∀g∈vB fs,g.length<=3
theorem lZ:∀(m:Oe Int)(o:Nat),∃fs,IU fs o/\fs.length=m.length/\∀h r ds a x0 I s p,h[r]?=ε (.lst ds)->ds.length+m.length<=1000->bi (r+1) h ds a->
 ∃i H E D j b,JB (uA 3) yI (m.map Dt.int) [x0,ε (.ref r),ε (.int (o:Nat)),I,s,p] h=ε (.nx [x0,ε (.ref r),i,H,E,D] j)/\j[r]?=ε (.lst b)/\bi (r+1) j b (a++fs)/\UpX r h j
 | [],o=>⟨[],⟨(fun v h=>nomatch h),rfl,(fun z=>by simpa[vB]using z),fun g hg=>by simp[vB]at hg⟩,rfl,fun h r ds a x0 I s p B R F=>⟨_,_,_,_,h,ds,rfl,B,by rw[Ui];exact F,Us _,fun v v v e=>e⟩⟩
 | x::m,o=>by
  obtain⟨f,O,fo,fn,⟨g1,g2⟩,g3,bd⟩:=n9 x o;obtain⟨fs,C,fl,lp⟩:=lZ m O;have P:f::fs=[f]++fs:=rfl;refine⟨f::fs,⟨fun y hy=>?_,by rw[P,TL,fn,C.nl];rfl,fun z=>?_,fun g hg=>?_⟩,by simp[fl],fun h r ds a x0 I s p B R F=>?_⟩
  . rcases Ba.mp hy with rfl | hy
    . exact fo
    . exact C.ok y hy
  . have:=C.g2 (g2 z);rw[P,DI,je];omega
  . rw[P,DI]at hg;rcases Bo.mp hg with hg | hg
    . exact g3 g hg
    . exact C.g3 g hg
  . rw[T4]at R;obtain⟨d,e,U,T,eb,FN⟩:=bd h r ds x0 s p B nofun;have rl:=(Wk B).1;have L:r<(h++e).length:=by rw[je];omega
    have q3:∀k,k≠r->((h++e).set r (.lst (ds++[d])))[k]?=(h++e)[k]?:=fun k M=>by rw[lu (m8 M)]
    have U1:UpX r h ((h++e).set r (.lst (ds++[d]))):=⟨by simp,fun n J u q=>by rw[q3 n u];exact(Up.app h e).get q⟩;obtain⟨i,Z,Y,W,j,b,ew,Q,S,U2⟩:=lp ((h++e).set r (.lst (ds++[d]))) r (ds++[d]) (a++[f]) x0 (ε (.int x)) U T (by rw[su L]) (by simp;omega) (by
     refine bi.snoc (F.up (Us _) (fun k J M q=>?_)) (FN.up nofun (fun k J M q=>?_))
     . exact U1.2 _ _ nofun q
     . rw[q3 k nofun];exact q)
    rw[n7]at S;refine⟨i,Z,Y,W,j,b,?_,Q,S,rz U1.1 U2.1,fun n J u q=>U2.2 _ _ u (U1.2 _ _ u q)⟩;simp![Uo,JB,WD,Wi,Vi,Uu,eb,L3,ew]
def Vg(a:Oe Int)(u:a.length<=63):∃fs,IU fs 0/\fs.length<=63/\∀h,∃ds h',SN [.lst (a.map Dt.int)] h=ε (.ref h.length,h')/\h'[h.length]?=ε (.lst ds)/\bi (h.length+1) h' ds fs/\vl h h':=by
 obtain⟨fs,r,x,lp⟩:=lZ a 0;refine⟨fs,r,by omega,fun h=>?_⟩;obtain⟨b,k,j,i,h',e,p,g,s,U2⟩:=lp (h++[.lst []]) h.length [] [] (ε (.lst (a.map Dt.int))) none none none ⋯ (by simp;omega) .nil;have up:∀(n:Nat)(o:Ob),h[n]?=ε o->h'[n]?=ε o:=fun n o q=>by have nl:=(Wk q).1;exact U2.2 n o nofun ((Up.app h _).get q)
 refine⟨e,h',?_,g,s,by have:=U2.1;simp at this;omega,fun n m q=>up n _ q,fun n m q=>up n _ q⟩;have d:JB (uA 3) yI (a.map Dt.int) [ε (.lst (a.map Dt.int)),ε (.ref h.length),ε (.int 0),none,none,none] (h++[.lst []])=ε (.nx [ε (.lst (a.map Dt.int)),ε (.ref h.length),b,k,j,i] h'):=p;dsimp![SN,NV,Uo (f:=some),Wo (f:=some),Xe,Wu,NA,HB,WI,zA,qA,m6,Vi,Uu,UA,FC,iC,Te,sF,cE,d,cB,rB]
def WU(s:Nat->Int×Int):Oe Nat:=[bB (s 0) (s 1),bB (s 0) (s 2),bB (s 1) (s 2)]
def xC(s:Nat->Int×Int):Dt:=.tup ((WU s).map fun w=>Dt.int (w:Nat))
def SK(ok:∀i,QB (s i))(B:kC 3 m)(h):zI [xC s,IA m] h=ε (.bl (OA s m),h):=by
 obtain⟨a,b,d,_⟩:=B;have y:∀k:HI,kA (IA m) (.int 1) k=ε (.int (m.1:Nat),k):=fun c=>rfl
 have q:∀k:HI,kA (IA m) (.int 2) k=ε (.int (m.2.1:Nat),k):=fun c=>rfl
 have x:∀k:HI,kA (IA m) (.int 3) k=ε (.int (m.2.2:Nat),k):=fun c=>rfl
 have n:∃v:Nat,(∀H,kA (xC s) (.int ((m.1:Int)+(m.2.2:Int)-1)) H=ε (.int (v:Nat),H))/\v<=12/\bB (s m.1) (s m.2.2)=if m.2.2<m.1 then 12-v else v:=by
  have t:=fun i j=>cM (ok i) (ok j)
  have l:=fun i j=>Nat.le_of_lt_succ (IE (ok i) (ok j))
  generalize m.1=i at a d;generalize m.2.2=j at b d;have r:∀i<3,i=0\/i=1\/i=2:=by decide
  rcases r i a with rfl | rfl | rfl<;>rcases r j b with rfl | rfl | rfl
  . exact Ea rfl d
  . exact⟨_,fun c=>rfl,l 0 1,rfl⟩
  . exact⟨_,fun c=>rfl,l 0 2,rfl⟩
  . exact⟨_,fun c=>rfl,l 0 1,t 0 1⟩
  . exact Ea rfl d
  . exact⟨_,fun c=>rfl,l 1 2,rfl⟩
  . exact⟨_,fun c=>rfl,l 0 2,t 0 2⟩
  . exact⟨_,fun c=>rfl,l 1 2,t 1 2⟩
  . exact Ea rfl d
 obtain⟨v,u,C,f⟩:=n;have p:=rT m.2.1 (bB (s m.1) (s m.2.2));generalize e:zI [xC s,IA m] h=X;dsimp![zI,aX,Uo,Wo,Xe,Wu,NA,HB,sA,qA,Te,y,x,Vi,Uu,UA,xB,HA,BJ,JA]at e;by_cases z:m.2.2<m.1
 . rw[dz z]at f;have g:=fun(h:HI)=>iQ (h:=h) (i:=(m.2.1:Int)) (show(0:Int)<=((bB (s m.1) (s m.2.2):Nat):Int) by omega)
   have o:(12:Int)-(v:Int)=((bB (s m.1) (s m.2.2):Nat):Int):=by omega
   rw[g8 (show(m.2.2:Int)<(m.1:Int) by omega)]at e;simp![eH,cB,sA,gA,qA,Ss,Te,iA,eA,q,UE,DK,u,o,g,ni,VI,JD,p,FD,rB]at e;exact e.symm
 . rw[eG z]at f;have g:=fun(h:HI)=>iQ (h:=h) (i:=(m.2.1:Int)) (show(0:Int)<=(v:Int) by omega)
   rw[f]at p;rw[fu (show ¬(m.2.2:Int)<(m.1:Int) by omega)]at e;simp![Ws,eO,GC,eA,UA,cB,sA,gA,qA,Ss,Te,iA,q,UE,DK,u,g,ni,VI,JD,p,rB]at e;rw[<- e,OA,f]
def YD(s:Nat->Int×Int):vb->Bool
 | .ways m=>OA s m
 | .one g=>decide ((g.map (OA s)).countP (· ==true)=1)
 | .long _=>true
def A9(ok:∀i,QB (s i))(q:al h d f)(fo:VC 3 f)(sg:∀g,f=.one g->g.length<=1000) :
 LH [ε (xC s),ε fx,ε d] h=ε (if YD s f=true then .nx [ε (xC s),ε fx,ε d] h else .rt (.bl false) h):=by
 have p:=fU q [ε (xC s),ε fx,ε d] h 2 rfl;have to:=oQ q [ε (xC s),ε fx,ε d] h 2 rfl;generalize a:LH [ε (xC s),ε fx,ε d] h=X;simp![LH,NA,xB,qG,HA,p,eA,JA]at a;cases f with
 | ways m=>
  have qd:d=IA m:=q;subst qd;have e:=SK ok fo h;cases z:OA s m with
  | true=>rw[z]at e;simp![qI,eH,yF,HA,FA,AA,zA,gA,Ss,Te,iA,eA,Ui,e,JA,uo,Ws,eO,GC,UA,xB,qG,to,vH]at a;rw[show YD s (.ways m)=true from z,dz rfl];exact a.symm
  | false=>rw[z]at e;simp![qI,eH,yF,HA,FA,AA,zA,gA,qA,Ss,Te,iA,eA,Ui,e,JA,um,cB,FD]at a;rw[show YD s (.ways m)=false from z,eG Vu];exact a.symm
 | long v=>simp![qI,Ws,eO,GC,eA,UA,xB,qG,HA,to,vH,JA]at a;exact a.symm
 | one g=>
  obtain⟨C,qd,n,rfl,k⟩:=q;have x:∀H:HI,kA d (.int 1) H=ε (.ref n,H):=fun H=>by rw[qd];rfl
  have B:=sg g rfl;have o:=QL (te:=YQ) (i:=0) IA (fun m=>Dt.bl (OA s m)) g [none,ε (xC s)] h k (by simp[sizeLine];omega) (by
   intro m r;simp![YQ,FA,AA,zA,gA,Uu,Ss,Te,iA,eA,Ui,SK ok (fo m r) h])
  have u:g.map (fun m=>Dt.bl (OA s m))=(g.map (OA s)).map Dt.bl:=by rw[map_map];rfl
  rw[u]at o;have y:=fun(l:LI)=>oY (l:=l) (h:=h) (fb:=eC (.bl true)) (bs:=g.map (OA s)) (b:=true) rfl
  simp![qI,Ws,eO,GC,eA,UA,xB,qG,HA,to,vH,JA,eH,sA,OY,GD,iC,gA,qA,Ss,Te,iA,x,LD k,jD,bF,gD,Ls,o,y,oF]at a;by_cases z:(g.map (OA s)).countP (· ==true)=1
  . have j:decide ((((g.map (OA s)).countP (· ==true):Nat):Int)=1)=true:=g8 nofun;rw[j]at a;simp![uo,Ws,eO,GC]at a;rw[dz (show YD s (.one g)=true from g8 z)];exact a.symm
  . have j:decide ((((g.map (OA s)).countP (· ==true):Nat):Int)=1)=false:=fu nofun;rw[j]at a;simp![um,eH,cB,qA,eA]at a;rw[eG (by rw[show YD s (.one g)=false from fu z];exact Vu)];exact a.symm
def B9(ok:∀i,QB (s i))(hs:∀k,src.at h k=ε ds[k]?)(F:Yo h ds fs)(fo:∀f∈fs,VC 3 f)(sg:∀g∈vB fs,g.length<=1000) :
 ∀n k y,n=ds.length-k+1->k<=ds.length->∃m,BB (uA 2) LH src n k [ε (xC s),ε fx,y] h=ε (if(fs.drop k).all (YD s)=true then .nx [ε (xC s),ε fx,m] h else .rt (.bl false) h):=by
 intro n
 induction n with
 | zero=>intro k _ e;omega
 | succ n ih=>
  intro k y x B;by_cases a:k<ds.length
  . obtain⟨f,d,q⟩:=F.get (ji a);have j:=kj d;have o:=A9 ok (fx:=fx) q (fo f j) (fun g e=>sg g (kM (e ▸ j)));have u:fs.drop k=f::fs.drop (k+1):=by obtain⟨q1,q2⟩:=Wk d;rw[<- q2];exact zu q1
    obtain⟨z,e2⟩:=ih (k+1) (ε ds[k]) nofun nofun;have st:∀r,BB (uA 2) LH src (n+1) k [ε (xC s),ε fx,y] h=r->(if YD s f=true then BB (uA 2) LH src n (k+1) [ε (xC s),ε fx,ε ds[k]] h else ε (.rt (.bl false) h))=r:=by intro r e;rw[<- e];simp![BB,hs k,ji a,WD,Wi,Vi,Uu,o];cases YD s f<;>rfl
    have:=st _ rfl;rw[u,Ks];cases b:YD s f with
    | true=>rw[b,dz rfl,e2]at this;exact⟨z,this.symm⟩
    | false=>rw[b,eG Vu]at this;exact⟨none,by rw[<- this];rfl⟩
  . have p:fs.drop k=[]:=Nu (by rw[<- F.len];omega);refine⟨y,?_⟩;simp![BB,hs k,ju (show ds.length<=k by omega),p,all_nil,eH]
def Em(ok:∀i,QB (s i))(q:am 3 h fx ds fs):yL [xC s,fx] h=ε (.bl (fs.all (YD s)),h):=by
 obtain⟨src,e,d,b⟩:=q.src;obtain⟨y,lp⟩:=B9 ok (fx:=fx) (d h (Up.refl h)) q.fa q.ok q.sg (ds.length+1) 0 none nofun (m6 _);rw[drop_zero,<- b]at lp;have g:wD (uA 2) LH [ε (xC s),ε fx,none] (src,h)=ε (if fs.all (YD s)=true then .nx [ε (xC s),ε fx,y] h else .rt (.bl false) h):=lp;generalize a:yL [xC s,fx] h=X;dsimp![yL,aW,Uo (f:=some),Wo (f:=some),Xe,Wu,NA,Te,FC,iC,e,g]at a;cases z:fs.all (YD s)with
 | true=>rw[z,dz rfl]at a;simp![eA,UA,cB,qA,rB]at a;exact a.symm
 | false=>rw[z,eG Vu]at a;simp![eA,FD,rB]at a;exact a.symm
theorem SS:∀{fs:Oe vb},gC fs=[]->fs.all (YD s)=fs.all (pD 3 s)
 | [],_=>rfl
 | .ways m::fs,h=>by rw[Ks,Ks,SS (fs:=fs) h];rfl
 | .one g::fs,h=>by rw[Ks,Ks,SS (fs:=fs) h];rfl
 | .long x::fs,h=>by cases h
def P6:Oe (Nat×Nat):=LA 6
def MP:P6.length=15:=by decide +kernel
noncomputable def pI(p:Nat×Nat):Int×Int:=((p.1:Nat),(p.2:Nat))
def wH(k:Nat):Int×Int:=pI (P6.getD k (0,1))
def NT(k):QB (wH k):=by
 unfold wH P6;rw[getD_eq_getElem?_getD];cases e:(LA 6)[k]? with
 | none=>exact Int.ofNat_lt.mpr (by decide)
 | some p=>exact Int.ofNat_lt.mpr (az.mp (kj e)).1
def Y0(a:k<15):P6[k]?=ε (P6.getD k (0,1)):=by rw[getD_eq_getElem?_getD,ji (by rw[MP];exact a)];rfl
def ky(a b c:Nat):Oe Int:=[(bB (wH a) (wH b):Nat),(bB (wH a) (wH c):Nat),(bB (wH b) (wH c):Nat)]
def EJ(p:Nat×Nat):Dt:=.lst (P6.map fun q=>.int (bB (pI p) (pI q):Nat))
def w5(h:p∈P6):QB (pI p):=Int.ofNat_lt.mpr (az.mp h).1
def V8(a:h[n]?=ε (.lst (P6.map pA)))(hp:p∈P6):RN [ε (pA p),ε (.ref n)] h=ε (EJ p,h):=by
 have e:=QL (te:=lR) (i:=0) pA (fun q=>Dt.int (bB (pI p) (pI q):Nat)) P6 [none,ε (pA p)] h a (by rw[MP];decide) (by
  intro q b;have d:AL [pA p,pA q] h=_:=C3 (w5 hp) (w5 b) h;simp![lR,FA,AA,zA,gA,Uu,Ss,Te,iA,eA,Ui,d])
 simp![RN,GD,iC,gA,Ss,Te,iA,eA,LD a,jD,bF,gD,Ls,e];rfl
def Km(h)(r:Oe (Oo Dt)):∃y z,JB (uA 1) pL ((List.range 6).map fun(k:Nat)=>Dt.int (k:Int)) (ε (.ref h.length)::none::none::r) (h++[.lst []])=ε (.nx (ε (.ref h.length)::y::z::r) (h++[.lst (P6.map pA)])):=by
 obtain⟨p,a,e,⟨y,z,rfl⟩,rfl⟩:=iH (i:=1) (body:=pL) (fun(k:Nat)=>Dt.int (k:Int)) (fun(n:Nat) l a=>(∃y z,l=ε (.ref h.length)::y::z::r)/\a=h++[.lst ((GB 6 n).map pA)]) 6 (by
  rintro n B l q ⟨⟨y,z,rfl⟩,rfl⟩;have D:=JI 6 n;obtain⟨p,a,e,⟨y,rfl⟩,rfl⟩:=iH (i:=2) (body:=nR) (fun(k:Nat)=>Dt.int ((n:Int)+1+(k:Int))) (fun(m:Nat) l a=>(∃y,l=ε (.ref h.length)::ε (.int (n:Nat))::y::r)/\a=h++[.lst ((GB 6 n++(List.range m).map fun k=>(n,n+1+k)).map pA)]) (6-n-1) (by
   rintro m C l q ⟨⟨y,rfl⟩,rfl⟩;refine⟨.nx (ε (.ref h.length)::ε (.int (n:Nat))::ε (.int ((n:Int)+1+(m:Int)))::r) (h++[.lst ((GB 6 n++(List.range (m+1)).map fun k=>(n,n+1+k)).map pA)]),?_,⟨_,rfl⟩,rfl⟩;have x:=fun(l:LI) (g:RE) (d:Dt) (u:g l (h++[.lst ((GB 6 n++(List.range m).map fun k=>(n,n+1+k)).map pA)])=ε (d,h++[.lst ((GB 6 n++(List.range m).map fun k=>(n,n+1+k)).map pA)]))=>fG (h:=h++[.lst ((GB 6 n++(List.range m).map fun k=>(n,n+1+k)).map pA)]) (l:=l) (n:=h.length) (ys:=(GB 6 n++(List.range m).map fun k=>(n,n+1+k)).map pA) (xs:=(GB 6 n++(List.range m).map fun k=>(n,n+1+k)).map pA) ⋯ u ⋯ (by simp[sizeLine];omega)
   simp![nR,gF,iG,gA,Uu,Vi,Ss,Te,iA,eA];rw[x _ _ (pA (n,n+1+m))]
   . simp![eA];rw[show ∀(o b:Ob),(h++[o]).set h.length b=h++[b] by simp];simp[Iu]
   . simp[pA]) (ε (.ref h.length)::ε (.int (n:Nat))::z::r) (h++[.lst ((GB 6 n).map pA)]) ⟨⟨z,rfl⟩,by simp⟩
  have f:=D0 (h:=h++[.lst ((GB 6 n).map pA)]) (i:=(n:Int)+1) (j:=6) nofun nofun nofun nofun;rw[show((6:Int)-((n:Int)+1)).toNat=6-n-1 by omega]at f;have s:GB 6 (n+1)=GB 6 n++(List.range (6-n-1)).map fun k=>(n,n+1+k):=by unfold GB;rw[Iu,flatMap_append];simp
  refine⟨.nx (ε (.ref h.length)::ε (.int (n:Nat))::y::r) (h++[.lst ((GB 6 (n+1)).map pA)]),?_,⟨_,_,rfl⟩,rfl⟩;simp![pL,FC,P5,sA,gA,qA,Uu,Vi,Ss,Te,iA,eA,UE,f,cE];rw[e,s]) (ε (.ref h.length)::none::none::r) (h++[.lst []]) ⟨⟨none,none,rfl⟩,by simp[GB]⟩
 exact⟨y,z,e⟩
set_option tactic.hygienic true in
theorem Yr(kvs)(k)(d):(∀x,x∈(XF kvs k d).map Prod.fst↔x=k\/x∈kvs.map Prod.fst)/\(XF kvs k d).length<=kvs.length+1:=by
 unfold XF;split
 . rename_i z;obtain⟨p,hp,e⟩:=any_eq_true.mp z;have e:=of_decide_eq_true e;have a:(kvs.map fun p=>if p.1=k then(p.1,d)else p).map Prod.fst=kvs.map Prod.fst:=by
    rw[map_map];refine map_congr_left fun q _=>?_
    show(if q.1=k then(q.1,d)else q).1=q.1;split<;>rfl
   rw[a];refine⟨fun x=>⟨.inr,fun h=>h.elim (fun q=>?_) fun q=>q⟩,by rw[mq];omega⟩;rw[q,<- e];exact mem_map_of_mem hp
 . refine⟨fun x=>?_,by simp⟩;rw[Gi,Bo];exact⟨fun h=>h.elim .inr fun q=>.inl (by simpa using q),fun h=>h.elim (fun q=>.inr (by simp[q])) .inl⟩
structure mN(kvs:List (List Int×Dt))(n:Nat)(D:Nat->Nat->Nat->Prop):Prop where
 of:∀k∈kvs.map Prod.fst,∃a b c,k=ky a b c
 all:∀a b c,D a b c->ky a b c∈kvs.map Prod.fst
 len:kvs.length<=n
def rF:Dt:=.lst (P6.map EJ)
def Im(h):∃kvs,zL [] h=ε (.lst (kvs.map fun p=>.tup (p.1.map Dt.int)),h++[.lst (P6.map pA),.dt kvs])/\mN kvs 3375 fun a b c=>a<15/\b<15/\c<15:=by
 have r6:=MF (h:=h++[.lst []]) (show(-(2^62):Int)<=6 by decide) (by decide);obtain⟨T,S,e1⟩:=Km h [none,none,none,none,none];have P:(h++[Ob.lst (P6.map pA)])[h.length]?=ε (.lst (P6.map pA)):=by simp
 have ck:=QL (te:=RN) (i:=0) pA EJ P6 [none,ε (.ref h.length)] (h++[.lst (P6.map pA)]) P (by rw[MP];decide) (fun p hp=>by
  rw[Uu];exact V8 P hp)
 have J:=fun H=>MF (h:=H) (show(-(2^62):Int)<=15 by decide) (by decide)
 have ix:∀(a b:Nat),a<15->b<15->∀H:HI,∃row,kA rF (.int (a:Nat)) H=ε (row,H)/\kA row (.int (b:Nat)) H=ε (.int (bB (wH a) (wH b):Nat),H):=fun a b C M H=>by refine⟨EJ (P6.getD a (0,1)),RM (xs:=P6.map EJ) rfl (by rw[uq,Y0 C];rfl),?_⟩;exact RM (xs:=P6.map fun q=>.int (bB (pI (P6.getD a (0,1))) (pI q):Nat)) rfl (by rw[uq,Y0 M];rfl)
 have body:∀(a b c:Nat),a<15->b<15->c<15->∀(kvs:Oe (Oe Int×Dt)),kvs.length<3375->∀s r,TN [ε (.ref h.length),s,r,ε rF,ε (.ref (h.length+1)),ε (.int (a:Nat)),ε (.int (b:Nat)),ε (.int (c:Nat))] (h++[.lst (P6.map pA),.dt kvs])=ε (.nx [ε (.ref h.length),s,r,ε rF,ε (.ref (h.length+1)),ε (.int (a:Nat)),ε (.int (b:Nat)),ε (.int (c:Nat))] (h++[.lst (P6.map pA),.dt (XF kvs (ky a b c) (.bl true))])):=by
  intro a b c C M hc kvs hl s r;have ge:(h++[Ob.lst (P6.map pA),.dt kvs])[h.length+1]?=ε (.dt kvs):=by rw[Zu (Ma _ _),Jo];rfl
  obtain⟨ra,i1,i2⟩:=ix a b C M (h++[Ob.lst (P6.map pA),.dt kvs]);obtain⟨a0,O,i3⟩:=ix a c C hc (h++[Ob.lst (P6.map pA),.dt kvs]);rw[i1]at O;cases O;obtain⟨rb,j1,j2⟩:=ix b c M hc (h++[Ob.lst (P6.map pA),.dt kvs]);unfold TN;rw[B4 (n:=h.length+1) (k:=ky a b c) (kvs:=kvs) (d:=.bl true) rfl rfl ge (by
   simp![T5,AA,zA,sA,gA,Ss,Te,iA,eA,i1,i2,i3,j1,j2];rfl) (by simp[sizeLine];omega)]
  rw[show ∀(o Y p:Ob),(h++[p,o]).set (h.length+1) Y=h++[p,Y]from fun o Y p=>by simp]
 have l1:∀(a b:Nat),a<15->b<15->∀(kvs:Oe (Oe Int×Dt))(n:Nat)(D:Nat->Nat->Nat->Prop),mN kvs n D->n+15<=3375->∀s r B,∃g I,PN [ε (.ref h.length),s,r,ε rF,ε (.ref (h.length+1)),ε (.int (a:Nat)),ε (.int (b:Nat)),B] (h++[.lst (P6.map pA),.dt kvs])=ε (.nx [ε (.ref h.length),s,r,ε rF,ε (.ref (h.length+1)),ε (.int (a:Nat)),ε (.int (b:Nat)),I] (h++[.lst (P6.map pA),.dt g]))/\mN g (n+15) fun i j k=>D i j k\/(i=a/\j=b/\k<15):=by
  intro a b C M kvs n D K P s r B;obtain⟨l',E,e,⟨g,y,rfl,rfl,u⟩⟩:=iH (i:=7) (body:=TN) (fun(k:Nat)=>Dt.int (k:Int)) (fun(m:Nat) l E=>∃g y,l=[ε (.ref h.length),s,r,ε rF,ε (.ref (h.length+1)),ε (.int (a:Nat)),ε (.int (b:Nat)),y]/\E=h++[.lst (P6.map pA),.dt g]/\mN g (n+m) fun i j k=>D i j k\/(i=a/\j=b/\k<m)) 15 (by
   rintro m Q l h1 ⟨g,y,rfl,rfl,u⟩;obtain⟨d1,d2⟩:=Yr g (ky a b m) (.bl true);refine⟨_,body a b m C M Q g (by have:=u.len;omega) s r,XF g (ky a b m) (.bl true),_,rfl,rfl,fun k hk=>?_,fun i j k q=>?_,by have:=u.len;omega⟩
   . rcases(d1 k).mp hk with rfl | hk
     . exact⟨a,b,m,rfl⟩
     . exact u.of k hk
   . refine(d1 _).mpr ?_;by_cases z:i=a/\j=b/\k=m
     . obtain⟨rfl,rfl,rfl⟩:=z;exact .inl rfl
     . exact .inr (u.all i j k (q.elim .inl fun q=>.inr ⟨q.1,q.2.1,by have:=q.2.2;omega⟩))) [ε (.ref h.length),s,r,ε rF,ε (.ref (h.length+1)),ε (.int (a:Nat)),ε (.int (b:Nat)),B] (h++[.lst (P6.map pA),.dt kvs]) ⟨kvs,B,rfl,rfl,K.of,fun i j k q=>K.all i j k (q.elim (fun q=>q) fun q=>Ea q.2.2 (Nat.not_lt_zero _)),K.len⟩
  refine⟨g,y,?_,u⟩;simp![PN,FC,rH,qA,eA,J,cE];exact e
 have l2:∀a:Nat,a<15->∀(kvs:Oe (Oe Int×Dt))(n:Nat)(D:Nat->Nat->Nat->Prop),mN kvs n D->n+225<=3375->∀s r U B,∃g W I,qL [ε (.ref h.length),s,r,ε rF,ε (.ref (h.length+1)),ε (.int (a:Nat)),U,B] (h++[.lst (P6.map pA),.dt kvs])=ε (.nx [ε (.ref h.length),s,r,ε rF,ε (.ref (h.length+1)),ε (.int (a:Nat)),W,I] (h++[.lst (P6.map pA),.dt g]))/\mN g (n+225) fun i j k=>D i j k\/(i=a/\j<15/\k<15):=by
  intro a C kvs n D K P s r U B;obtain⟨l',E,e,⟨g,y,z,rfl,rfl,u⟩⟩:=iH (i:=6) (body:=PN) (fun(k:Nat)=>Dt.int (k:Int)) (fun(m:Nat) l E=>∃g y z,l=[ε (.ref h.length),s,r,ε rF,ε (.ref (h.length+1)),ε (.int (a:Nat)),y,z]/\E=h++[.lst (P6.map pA),.dt g]/\mN g (n+15*m) fun i j k=>D i j k\/(i=a/\j<m/\k<15)) 15 (by
   rintro m Q l h1 ⟨g,y,z,rfl,rfl,u⟩;obtain⟨F,z',e,L⟩:=l1 a m C Q g (n+15*m) _ u nofun s r z;refine⟨_,e,F,_,_,rfl,rfl,L.of,fun i j k q=>L.all i j k ?_,by have:=L.len;omega⟩;rcases q with q | ⟨q1,q2,q3⟩
   . exact .inl (.inl q)
   . by_cases w:j=m
     . exact .inr ⟨q1,w,q3⟩
     . exact .inl (.inr ⟨q1,by omega,q3⟩)) [ε (.ref h.length),s,r,ε rF,ε (.ref (h.length+1)),ε (.int (a:Nat)),U,B] (h++[.lst (P6.map pA),.dt kvs]) ⟨kvs,U,B,rfl,rfl,K.of,fun i j k q=>K.all i j k (q.elim (fun q=>q) fun q=>Ea q.2.1 (Nat.not_lt_zero _)),K.len⟩
  refine⟨g,y,z,?_,u⟩;simp![qL,FC,rH,qA,eA,J,cE];exact e
 obtain⟨l',E,e3,⟨g,x,y,z,rfl,rfl,u⟩⟩:=iH (i:=5) (body:=qL) (fun(k:Nat)=>Dt.int (k:Int)) (fun(m:Nat) l E=>∃g x y z,l=[ε (.ref h.length),T,S,ε rF,ε (.ref (h.length+1)),x,y,z]/\E=h++[.lst (P6.map pA),.dt g]/\mN g (225*m) fun i j k=>i<m/\j<15/\k<15) 15 (by
  rintro m Q l h1 ⟨g,x,y,z,rfl,rfl,u⟩;obtain⟨F,y',z',e,L⟩:=l2 m Q g (225*m) _ u nofun T S y z;refine⟨_,e,F,_,_,_,rfl,rfl,L.of,fun i j k q=>L.all i j k ?_,by have:=L.len;omega⟩;by_cases w:i=m
  . exact .inr ⟨w,q.2⟩
  . exact .inl ⟨by omega,q.2⟩) [ε (.ref h.length),T,S,ε rF,ε (.ref (h.length+1)),none,none,none] (h++[.lst (P6.map pA),.dt []]) ⟨[],none,none,none,rfl,rfl,(fun k hk=>by cases hk),(fun i j k q=>Ea q.1 (Nat.not_lt_zero _)),m6 _⟩
 refine⟨g,?_,u⟩;have ls:NM (.ref (h.length+1)) (h++[.lst (P6.map pA),.dt g])=ε (.lst (g.map fun p=>.tup (p.1.map Dt.int)),h++[.lst (P6.map pA),.dt g]):=by
  have ge:(h++[Ob.lst (P6.map pA),.dt g])[h.length+1]?=ε (.dt g):=by rw[Zu (Ma _ _),Jo];rfl
  simp![NM,ge]
 have Z:(h++[Ob.lst (P6.map pA)]).length=h.length+1:=by simp
 generalize R:zL [] h=X;simp![zL,bW,nB,Va,eH,Wo (f:=some),Nat.reduceAdd,Nat.reduceSub,List.replicate,Wu,NA,HB,WI,zA,eA,Va,m6,Uu,UA,FC,rH,qA,r6,cE,(show JB (uA 1) pL ((List.range (6:Int).toNat).map fun(k:Nat)=>Dt.int (k:Int)) [ε (.ref h.length),none,none,none,none,none,none,none] (h++[.lst []])=_ from e1)]at R;simp![GD,iC,gA,Ss,Te,iA,eA,LD P,jD,bF,gD,Ls,ck,Vi,Uu,UA,NA,HB,Vj,Z,n7,Xe,Wu,FC,rH,qA,J,cE]at R;rw[show JB (uA 5) qL ((List.range (15:Int).toNat).map fun(k:Nat)=>Dt.int (k:Int)) [ε (.ref h.length),T,S,ε (.lst (P6.map EJ)),ε (.ref (h.length+1)),none,none,none] (h++[.lst (P6.map pA),.dt []])=_ from e3]at R;simp![eA,UA,cB,RB,gA,Ss,Te,iA,ls,rB]at R;exact R.symm
noncomputable def vG(m:EB):EB:=(m.1,8191-m.2.1,m.2.2)
def fK(h:kC c m):kC c (vG m):=⟨h.1,h.2.1,h.2.2.1,Ds (Nat.sub_le _ _) (by decide)⟩
def th(ok:∀i,i<c->QB (s i))(h:kC c m):OA s (vG m)=!OA s m:=by
 have w:=IE (ok _ h.1) (ok _ h.2.1);have e:8191-m.2.1=2^13-(m.2.1+1):=by omega
 unfold OA vG;simp only;rw[e,Nat.testBit_two_pow_sub_succ h.2.2.2,g8 w,Gs]
def ti(ok:∀x∈fs,VC c x)(p:iF c 200 fs 12 A s)(q:iF c 200 fs 12 B r):A.wd=B.wd:=(CI 12 _ _ 0 A B s r (AG fs ok _ (WH c)) (DG fs ok) p q).1
def jm{lo c:Nat}(b:bu lo h c A (.tup [KN A.wd,x]))(w:A.wd=.clash):∃a,A=.clash a/\Ze lo h a x:=by
 cases A with
 | opn=>cases w
 | laid t=>cases w
 | clash a=>
  obtain⟨x',e,TA⟩:=b;obtain rfl:x=x':=by injection e with e;injection e with _ e;injection e
  exact⟨a,rfl,TA⟩
def oO(d:c<=8){a lo:Nat}(F:RP c h a fs)(P:iF c 200 fs 12 A s)(k:bu lo f c A (.tup [KN A.wd,x]))(w:A.wd=.clash)(u:vl f h):∃h',bE [.int (c:Nat),.ref a,x] h=ε (.bl true,h')/\vl h h':=by obtain⟨b,rfl,TA⟩:=jm k w;obtain⟨j,i⟩:=dZ d 12 _ _ 0 b s P;obtain⟨v,h',e,g,S⟩:=jf d F (vv.up u _ (iV b j TA)) i;rw[KW (dM fs F.ok) 12 _ _ 0 b s P 12 v S]at e;exact⟨h',e,g⟩
def Rc(ok:∀x∈fs,VC c x)(sg:∀g∈vB fs,g.length<=6)(P:iF c 200 fs 12 A r)(a:∀i,i<c->QB (s i))(k:fs.all (pD c s)=true):A.wd≠.clash:=by
 have b:∀f∈fs,UP c s f:=fun f d=>sv (ok f d) (fun g e=>sg g (kM (e ▸ d))) (all_eq_true.mp k f d)
 exact nX a (fun g q=>⟨nJ s,zS a q fun y h=>b _ (EO h)⟩) 12 _ _ 0 A r P (AG fs ok _ (WH c)) (DG fs ok) (aM fs aC ok (fun i z=>by unfold aC;rw[dz rfl])) (oP a fs _ b (P9 a)) (fun g j=>(b _ (LO j)).2.1)
def JW(a:1<=c)(g:c<=8){lo:Nat}(q:am c h fx ds fs)(P:iF c 200 fs 12 A r)(d:bu lo b c A (.tup [KN A.wd,x]))(w:A.wd=.laid):zG [x,.int (c:Nat),fx] h=ε (.bl true,h):=by
 cases A with
 | opn=>cases w
 | clash f=>cases w
 | laid t=>
  have K:=PR 12 _ _ 0 t r P (AG fs q.ok _ (WH c)) (DG fs q.ok);have e:Dt.tup [KN (wm.laid t).wd,x]=.tup [.str "laid", .lst (DD c (dB (2*c) t))]:=d;obtain rfl:x=.lst (DD c (dB (2*c) t)):=by injection e with e;injection e with _ e;injection e
  exact Nk a nofun K.ok q (NY q.ok K)
noncomputable def uG:Wd->Wd->Dt->Dt->Dt
 | .opn,_,_,_=>.tup [.str "open", .non]
 | .laid,.opn,_,_=>.tup [.str "open", .non]
 | .clash,.opn,_,_=>.tup [.str "open", .non]
 | .clash,.clash,x,y=>.tup [.str "clash", .tup [x,y]]
 | .laid,.clash,_,y=>.tup [.str "must",y]
 | .clash,.laid,x,_=>.tup [.str "never",x]
 | .laid,.laid,x,y=>.tup [.str "may", .tup [x,y]]
inductive HU(c:Nat)(h:HI)(fx:Dt)(fs:List vb)(m:EB):Prop
 | mk (A:wm) (r:Nat) (x:Dt) (B:wm) (t:Nat) (y:Dt) (h1:HI) (h':HI) (p0:iF c 200 (fs++[.ways m]) 12 A r) (p1:iF c 200 (fs++[.ways (vG m)]) 12 B t) (p2:bK [.int (c:Nat),fx,.int (m.1:Nat),.int (m.2.1:Nat),.int (m.2.2:Nat),.int 200] h=ε (uG A.wd B.wd x y,h')) (p3:(∃lo,bu lo h1 c A (.tup [KN A.wd,x]))) (p4:(∃lo,bu lo h' c B (.tup [KN B.wd,y]))) (p5:vl h h') (p6:vl h1 h'):HU c h fx fs m
def tj(i:1<=c)(J:c<=8)(q:am c h fx ds fs)(P:fs.length<=99)(n:kC c m)(p:∃A s,iF c 200 (fs++[.ways m]) 12 A s)(o:∃A s,iF c 200 (fs++[.ways (vG m)]) 12 A s):HU c h fx fs m:=by
 obtain⟨a,O,C,_,Y,F1,_⟩:=q.more n P;obtain⟨A,r,x,h2,P1,g,F,U2⟩:=eY (m:=200) i J F1 p;have j:vl h h2:=Y.l.trans U2;obtain⟨b,L,u,_,I,F3,_⟩:=(q.up j).more (fK n) P;obtain⟨B,t,y,h4,P2,d,E,U4⟩:=eY (m:=200) i J F3 o;refine⟨A,r,x,B,t,y,h2,h4,P1,P2,?_,⟨_,F⟩,⟨_,E⟩,j.trans (I.l.trans U4),I.l.trans U4⟩;have sb:(8191:Int)-(m.2.1:Int)=((8191-m.2.1:Nat):Int):=by have:=n.2.2.2;omega
 have g:bG [.int (c:Nat),.ref a,.int 200] O=_:=g;have d:bG [.int (c:Nat),.ref b,.int 200] L=_:=d;have mk:∀(f:RE)(l:LI)(H:HI)(M:EB),l[0]?=ε (ε (.int (c:Nat)))->l[1]?=ε (ε fx)->l[2]?=ε (ε (.int (m.1:Nat)))->l[4]?=ε (ε (.int (m.2.2:Nat)))->l[5]?=ε (ε (.int 200))->M.1=m.1->M.2.2=m.2.2->f l H=ε (.int (M.2.1:Nat),H)->∀(a:Nat)(D:HI)(R:Oo (Dt×HI)),HD fx (.lst [IA M]) H=ε (.ref a,D)->bG [.int (c:Nat),.ref a,.int 200] D=R->
  rA bG [] (bA (eV 0) (bA (e2 HD (eV 1) (DC (bA (SA (bA (eC (.str "ways")) (bA (eV 2) (bA f (bA (eV 4) dA))))) dA))) (bA (eV 5) dA))) l H=R:=by
  intro f l H M W U T S Q e1 e2 ef a D R ec ep;have k:4<=sizeLine:=by decide
  have Z:Dt.tup [.str "ways", .int (m.1:Nat),.int (M.2.1:Nat),.int (m.2.2:Nat)]=IA M:=by rw[<- e1,<- e2];rfl
  simp![FA,AA,zA,sA,gA,qA,ED,pG,W,U,T,S,Q,iA,eA,ef,T4,Va,Nat.reduceAdd,k,tQ,eH,Z,ec,Ui,ep]
 have fn:∀R,QC (ES [ε (.int (c:Nat)),ε fx,ε (.int (m.1:Nat)),ε (.int (m.2.1:Nat)),ε (.int (m.2.2:Nat)),ε (.int 200),none,none] h)=R->bK [.int (c:Nat),fx,.int (m.1:Nat),.int (m.2.1:Nat),.int (m.2.2:Nat),.int 200] h=R:=fun R e=>e
 refine fn _ (fF (mk _ _ _ m rfl rfl rfl rfl rfl rfl rfl rfl a O _ C g) rfl (fF (mk _ _ _ (vG m) rfl rfl rfl rfl rfl rfl rfl ?_ b L _ u d) rfl ?_))
 . simp![sA,qA,gA,Vi,Uu,Ss,Te,iA,eA,DK,sb];rfl
 . generalize A.wd=wa;generalize B.wd=wb;cases wa<;>cases wb<;>rfl
def cV(l:Oe Int)(x:Int×Int):Nat×Nat:=(rk l x.1,rk l x.2)
def ST(a:x.1∈l)(b:x.2∈l)(c:y.1∈l)(d:y.2∈l):bB x y=bB (pI (cV l x)) (pI (cV l y)):=by unfold bB pI cV;rw[XH a c d,XH b c d]
def wU(g:l.length=6)(ok:QB x)(a:x.1∈l)(b:x.2∈l):∃k,k<15/\wH k=pI (cV l x):=by have f:cV l x∈P6:=az.mpr ⟨sH ok _ a,by have:=JM _ b;rw[g]at this;exact this⟩;obtain⟨k,d,e⟩:=getElem_of_mem f;refine⟨k,by rw[<- MP];exact d,?_⟩;unfold wH;rw[getD_eq_getElem?_getD,ji d,e];rfl
noncomputable def mJ(p:Oe Int×Dt):Dt:=.tup (p.1.map Dt.int)
def Kq(K:mN kvs n fun a b c=>a<15/\b<15/\c<15)(hp:p∈kvs):∃s,(∀i,QB (s i))/\mJ p=xC s:=by
 obtain⟨a,b,c,e⟩:=K.of p.1 (mem_map_of_mem hp);refine⟨fun n=>if n=0 then wH a else if n=1 then wH b else wH c,fun i=>?_,?_⟩
 . show QB (if i=0 then wH a else if i=1 then wH b else wH c);split
   . exact NT a
   . split
     . exact NT b
     . exact NT c
 . unfold mJ;rw[e];rfl
def tq(K:mN kvs n fun a b c=>a<15/\b<15/\c<15)(ok:∀i,QB (s i)):∃p∈kvs,mJ p=xC s:=by
 have f:[(s 0).1,(s 0).2,(s 1).1,(s 1).2,(s 2).1,(s 2).2].length=6:=rfl;generalize d:[(s 0).1,(s 0).2,(s 1).1,(s 1).2,(s 2).1,(s 2).2]=l at f;have o:(s 0).1∈l:=by rw[<- d];simp
 have m:(s 0).2∈l:=by rw[<- d];simp
 have k:(s 1).1∈l:=by rw[<- d];simp
 have j:(s 1).2∈l:=by rw[<- d];simp
 have h:(s 2).1∈l:=by rw[<- d];simp
 have g:(s 2).2∈l:=by rw[<- d];simp
 obtain⟨a,u,B⟩:=wU f (ok 0) o m;obtain⟨b,r,y⟩:=wU f (ok 1) k j;obtain⟨c,q,x⟩:=wU f (ok 2) h g;obtain⟨p,hp,e⟩:=Bs.mp (K.all a b c ⟨u,r,q⟩);refine⟨p,hp,?_⟩;unfold mJ xC WU;rw[e,ST o m k j,ST o m h g,ST k j h g,<- B,<- y,<- x];rfl
def MS(ok:∀i,QB (s i))(d:∀i,QB (b i))(e:xC s=xC b)(f:kC 3 m):OA s m=OA b m:=by
 have a:=SK ok f [];rw[e,SK d f []]at a;injection a with a
 injection a with a
 injection a with a
 exact a.symm
theorem Y3(ok:∀i,QB (s i))(a:∀i,QB (b i))(e:xC s=xC b):∀{fs:Oe vb},(∀f∈fs,VC 3 f)->fs.all (YD s)=fs.all (YD b)
 | [],_=>rfl
 | f::fs,h=>by
  rw[Ks,Ks,Y3 ok a e (fun x j=>h x (by simp[j]))];have d:=h f ⋯;cases f with
  | ways m=>rw[show YD s (.ways m)=YD b (.ways m)from MS ok a e d]
  | long x=>rfl
  | one g=>
   have:g.map (OA s)=g.map (OA b):=map_congr_left fun m k=>MS ok a e (d m k)
   rw[show YD s (.one g)=YD b (.one g) by show decide _=decide _;rw[this]]
def Vr(s:∀h d f,al h d f->∃o b,te [ε d] h=ε (o,b)/\Up h b/\al b o f)(hs:∀b,Up h b->∀k,src.at b k=ε ds[k]?)(D:src.fuel h=ds.length+1)(hz:ds.length<sizeLine)(F:Yo h ds fs) :
 ∃g b,SD (uA 0) aB te [none] (src,h)=ε (g,b)/\Up h b/\Yo b g fs:=by
 have go:∀(m k:Nat)(y:Oo Dt)(a:HI)(i:Oe Dt),Up h a->m=ds.length-k+1->k<=ds.length->i.length<=k->Yo a i (fs.take k)->∃g j,xD (uA 0) aB te src m k [y] a i=ε (g,j)/\Up a j/\Yo j g fs:=by
  intro m
  induction m with
  | zero=>intro k y a i _ e;omega
  | succ m ih=>
   intro k y a i u J L I p;unfold xD;simp![hs a u k];by_cases n:k<ds.length
   . obtain⟨f,x,q⟩:=F.get (ji n);obtain⟨o,j,H,r,q1⟩:=s a ds[k] f (q.up u.l);have B:=(p.up r.l).snoc q1;rw[<- TJ x]at B;obtain⟨g,E,e2,C,q2⟩:=ih (k+1) (ε ds[k]) j (i++[o]) (u.trans r) nofun nofun (by simp;omega) B;refine⟨g,E,?_,r.trans C,q2⟩;rw[ji n];simp![WD,Wi,qM,eH,Uu,H];rw[dz nofun];exact e2
   . rw[ju nofun];rw[Ka (by rw[<- F.len];omega)]at p;exact⟨i,a,rfl,Up.refl a,p⟩
 obtain⟨g,j,e,u,q⟩:=go (ds.length+1) 0 none h [] (Up.refl h) nofun (m6 _) (Us _) .nil;refine⟨g,j,?_,u,q⟩;unfold SD;simp![D];exact e
def Y8(h)(d)(f)(q:al h d f):∃e b,aK [ε d] h=ε (e,b)/\Up h b/\al b e f:=by
 have a:=oQ q [ε d] h 0 rfl;cases f with
 | ways m=>refine⟨d,h,?_,Up.refl h,q⟩;simp![aK,EK,HA,a,vH,gA,Ss,iA,eA,JA,Ws,eO]
 | long x=>refine⟨d,h,?_,Up.refl h,q⟩;simp![aK,EK,HA,a,vH,gA,Ss,iA,eA,JA,Ws,eO]
 | one g=>
  obtain⟨j,rfl,n,rfl,i⟩:=q;have fn:NE (.ref n) h=ε (.ref h.length,h++[.lst (g.map IA)]):=by simp![NE,sD,BA,i,Vs]
  refine⟨.tup [.str "one", .ref h.length],h++[.lst (g.map IA)],?_,Up.app _ _,_,rfl,_,rfl,by simp⟩;simp![aK,EK,HA,a,vH,sA,gA,qA,RB,ED,AA,zA,Ss,iA,eA,XB,SF,Te,decide_true,Vs,JA,eH,fn,T4,Va,Nat.reduceAdd,gL]
def UZ(h)(n)(m):UF h (n+2) (IA m) (IA m)=true:=by simp[IA,UF,xE]
theorem eZ(h)(n):∀g:Oe EB,xE (UF h (n+2)) (g.map IA) (g.map IA)=true
 | []=>rfl
 | m::g=>by show(UF h (n+2) (IA m) (IA m)&&xE (UF h (n+2)) (g.map IA) (g.map IA))=true;rw[UZ,eZ h n g];rfl
def Eb(q:al h d f)(b:al h d' f):UF h 6 d d'=true:=by
 cases f with
 | ways m=>rw[show d=IA m from q,show d'=IA m from b];exact UZ h 4 m
 | long x=>rw[show d=.tup [.str "long", .int (x.1:Nat),.int x.2.1,.int x.2.2]from q,show d'=.tup [.str "long", .int (x.1:Nat),.int x.2.1,.int x.2.2]from b];simp[UF,xE]
 | one g=>
  obtain⟨o,rfl,n,rfl,j⟩:=q;obtain⟨k,rfl,a,rfl,i⟩:=b;have e:UF h 5 (.ref n) (.ref a)=true:=by
   have e:UF h 5 (.ref n) (.ref a)=xE (UF h 4) (g.map IA) (g.map IA):=by simp[UF,BA,j,i]
   rw[e,eZ h 2 g]
  have t:UF h 6 (.tup [.str "one", .ref n]) (.tup [.str "one", .ref a])=(UF h 5 (.str "one") (.str "one")&&(UF h 5 (.ref n) (.ref a)&&true)):=rfl;rw[t,e,show UF h 5 (.str "one") (.str "one")=true by simp[UF]];rfl
def Yt(a:Yo h ds fs):Yo h g fs->xE (UF h 6) ds g=true:=by
 induction a generalizing g with
 | nil=>intro b;cases b;rfl
 | @cons d f ds fs a r ih=>
  intro b;cases b with
  | @cons e _ g _ j i=>show(UF h 6 d e&&xE (UF h 6) ds g)=true;rw[Eb a j,ih i];rfl
def Jc(q:am c h x ds fs)(b:am g h y es fs):AJ x y h=ε (.bl false,h):=by
 have f:BA h x=ε ds:=by
  rcases q.at' with rfl | ⟨a,rfl,e⟩
  . rfl
  . exact jG e
 have d:BA h y=ε es:=by
  rcases b.at' with rfl | ⟨a,rfl,e⟩
  . rfl
  . exact jG e
 unfold AJ;rw[dz (show F6 h x y=true by unfold F6;rw[f,d];exact Yt q.fa b.fa)]
def Np(b)(bs:Oe Bool)(h):OG true (.bl b) (.lst (bs.map Dt.bl)) h=ε (.bl (!bs.any fun x=>x==b),h):=by
 have d:mE (bs.map Dt.bl)=ε (bs.map V.bl):=by
  induction bs with
  | nil=>rfl
  | cons x e ih=>simp[mE,vD,ih]
 have a:nN (V.bl b) (bs.map V.bl)=bs.any fun x=>x==b:=by unfold nN;rw[any_map];refine congrArg (fun f=>bs.any f) (funext fun j=>?_);cases j<;>cases b<;>rfl
 simp![OG,vD,sD,BA,Wi,d,a];simp
def A3(ns:Oe Int)(k:Nat)(h):EL [.lst (ns.map Dt.int),.int (k:Int)] h=ε (.int (ns[k]?.getD 0),h):=by
 simp[EL,zV];by_cases a:k<ns.length
 . simp[a]
 . simp[a]
def Am(ns:Oe Int)(lo b):∃a:Oe Int,XE (ns.map Dt.int) lo b=a.map Dt.int/\a.length<=ns.length:=by unfold SM.XE;rw[<- map_drop,<- map_take];refine⟨_,rfl,?_⟩;rw[Ce,length_drop];omega
def W9 (a b:Wd) (x y) (h):yG h (uG a b x y)=ε "tuple" /\ yB (uG a b x y) h=ε (.int 2,h):=by cases a<;>cases b<;>exact⟨rfl,rfl⟩
theorem K3(H:∀m,kC 3 m->OA s m=OA a m):∀{fs:Oe vb},(∀f∈fs,VC 3 f)->fs.all (YD s)=fs.all (YD a)
 | [],_=>rfl
 | f::fs,h=>by
  rw[Ks,Ks,K3 H (fun x d=>h x (by simp[d]))];have b:=h f ⋯;cases f with
  | ways m=>rw[show YD s (.ways m)=YD a (.ways m)from H m b]
  | long x=>rfl
  | one g=>
   have:g.map (OA s)=g.map (OA a):=map_congr_left fun m e=>H m (b m e)
   rw[show YD s (.one g)=YD a (.one g) by show decide _=decide _;rw[this]]
def MT(a:IU fs 0)(d:kC 3 m):IU (fs++[.ways m]) 0:=by
 refine⟨fun f hf=>?_,by rw[TL,a.nl];rfl,fun z=>?_,fun g b=>?_⟩
 . rcases Bo.mp hf with hf | hf
   . exact a.ok f hf
   . rw[Ao.mp hf];exact d
 . have:=a.g2 z;rw[DI];simpa[vB]using this
 . rw[DI]at b;exact a.g3 g (by simpa[vB]using b)
set_option tactic.hygienic true in
theorem XS(h:IU fs 0)(d:kC 3 m)(P:iF 3 200 (fs++[.ways m]) 12 A r) :
 (A.wd=.clash/\∀s,(∀i,QB (s i))->fs.all (YD s)=true->OA s m=false)\/(A.wd=.laid/\∃s,(∀i,QB (s i))/\fs.all (YD s)=true/\OA s m=true):=by
 have a:=MT h d;have f:∀s:Nat->Int×Int,(fs++[vb.ways m]).all (pD 3 s)=(fs.all (YD s)&&OA s m):=fun s=>by rw[<- SS a.nl,all_append];show(_&&(YD s (.ways m)&&true))=_;rw[Bool.and_true];rfl
 cases A with
 | opn=>obtain⟨u,q,o,w⟩:=xR a.ok a.nl (by have:=a.g2 (by decide);omega) a.g3;exact Ea (ti a.ok o P) w
 | clash p=>
  refine .inl ⟨rfl,fun s ok k=>?_⟩;cases e:OA s m with
  | false=>rfl
  | true=>exact Ea rfl (Rc a.ok (fun g j=>rz (a.g3 g j) (by decide)) P (fun i _=>ok i) (by rw[f,k,e];rfl))
 | laid t=>
  have K:=PR 12 _ _ 0 t r P (AG _ a.ok _ (WH 3)) (DG _ a.ok);have k:=NY a.ok K;have ok:=CY (2*3) K.ok;have H:∀n,kC 3 n->OA (IC (dB (2*3) t)) n=OA (fun i=>if i<3 then IC (dB (2*3) t) i else(0,1)) n:=fun n b=>by unfold OA;simp![dz b.1,dz b.2.1]
  rw[f,vm,K3 H h.ok,H m d]at k;refine .inr ⟨rfl,_,fun i=>?_,k.1,k.2⟩;show QB (if i<3 then IC (dB (2*3) t) i else(0,1));split
  . rename_i z;exact ok i z
  . exact Int.ofNat_lt.mpr (by decide:(0:Nat)<1)
def tv{rest:RS}(e:f l h=ε (.tup [x,y],h1))(d:(l.set a (ε x)).set b (ε y)=l')(k:QC (rest l' h1)=R):QC (jA (FJ (OC a b) f) rest l h)=R:=by rw[<- k];simp![NA,pU,e,eA,gK,UA,d]
def law_true(ns:Oe Int)(hl:ns.length<=63):∃h',fI [.lst (ns.map Dt.int)] []=ε (.bl true,h'):=by
 have c0:=fun h=>A3 ns 0 h
 have c1:=fun h=>A3 ns 1 h
 simp![Ie]at c0 c1;obtain⟨ms,ec,hm⟩:=Am ns (ε 2) (ε 40);obtain⟨fs,P,fl,ef⟩:=Vg ms nofun;obtain⟨ds,h1,ef,hd,FL,U1⟩:=ef [];have hd:h1[0]?=ε (.lst ds):=hd;obtain⟨N,eN⟩:=TH (ns[0]?.getD 0) 4;obtain⟨i,j,hi,hj,c3,ep⟩:=fS (c:=3) (by decide) (by decide) N;obtain⟨N2,d3⟩:=TH (ns[1]?.getD 0) 5;obtain⟨M,hM,eM⟩:=vf N2;have mk:kC 3 (i,M,j):=⟨hi,hj,c3,hM⟩;have xo:=W0 hM;have q1:am 3 h1 (.ref 0) ds fs:=⟨.inr ⟨0,rfl,hd⟩,FL.at,P.ok,fun g hg=>rz (P.g3 g hg) (by decide),by omega⟩;obtain⟨n,eo,K⟩:=Im h1;have b2:vl h1 (h1++[.lst (P6.map pA),.dt n]):=vl.app _ _;have q2:=q1.up b2;generalize h1++[Ob.lst (P6.map pA),.dt n]=F at eo b2 q2;have hh:∀p,∃s:Nat->Int×Int,p∈n->(∀i,QB (s i))/\mJ p=xC s:=fun p=>by
  by_cases hp:p∈n
  . obtain⟨s,a,b⟩:=Kq K hp;exact⟨s,fun w=>⟨a,b⟩⟩
  . exact⟨fun w=>(0,1),fun z=>Ea z hp⟩
 obtain⟨S,hS⟩:=Classical.axiomOfChoice hh;obtain⟨KL,Y⟩:∃KL,n.filter (fun p=>fs.all (YD (S p)))=KL:=⟨_,rfl⟩
 have kl:∀p,p∈KL↔p∈n/\fs.all (YD (S p))=true:=fun p=>by rw[<- Y,mem_filter]
 have kz:n.length<sizeLine:=by have:=K.len;simp[sizeLine];omega
 have b6:KL.length<sizeLine:=by rw[<- Y];exact Ds (length_filter_le _ _) kz
 have ck:=MD (l:=[none,ε (.ref 0)]) (h:=F) (uA 0) uP VS (xs:=n.map mJ) (by rw[mq];exact kz);rw[fP (i:=0) mJ (fun p=>fs.all (YD (S p))) mJ F n [none,ε (.ref 0)] (fun p hp=>by
  obtain⟨a,b⟩:=hS p hp;rw[Uu,b];refine⟨?_,fun w=>rfl⟩;simp![uP,HA,Vi,Uu,Ss,Te,iA,eA,gA,qA,sA,FA,AA,zA,Ui,Em a q2,JA]),Y]at ck
 have cs:=MD (l:=[none,ε (IA (i,M,j))]) (h:=F) (uA 0) aB tP (xs:=KL.map mJ) (by rw[mq];exact b6);rw[uF (i:=0) mJ (fun p=>Dt.bl (OA (S p) (i,M,j))) F KL [none,ε (IA (i,M,j))] (fun p hp=>by
  obtain⟨a,b⟩:=hS p ((kl p).mp hp).1;rw[Uu,b];refine⟨rfl,?_⟩;simp![tP,Vi,Uu,Ss,Te,iA,eA,gA,qA,sA,FA,AA,zA,Ui,SK a mk F])]at cs
 obtain⟨src,s1,s2,s3⟩:=q2.src;obtain⟨es,h3,d2,u3,E3⟩:=Vr Y8 s2 s3 q2.lt q2.fa;have q3:am 3 h3 (.lst es) es fs:=⟨.inl rfl,E3,q2.ok,q2.sg,q2.len⟩;have F1:=MT P mk;have F3:=MT P (fK mk);have c9:=xR F1.ok F1.nl (by have:=F1.g2 (by decide);omega) F1.g3;have c7:=xR F3.ok F3.nl (by have:=F3.g2 (by decide);omega) F3.g3;obtain⟨A,r,x,B,t,y,g1,m,P1,P2,ea,⟨d9,a3⟩,⟨d4,a0⟩,b1,V1⟩:=tj (c:=3) (by decide) (by decide) q3 nofun mk (c9.imp fun w q=>q.imp fun w q=>q.1) (c7.imp fun w q=>q.imp fun w q=>q.1);have q4:am 3 m (.ref 0) ds fs:=(q2.up u3.l).up b1;have ne:AJ (.lst es) (.ref 0) m=ε (.bl false,m):=Jc (q3.up b1) q4;obtain⟨b4,b3⟩:=W9 A.wd B.wd x y m;have tt:SM.ZF "tuple" "tuple" =true:=by decide
 have d0:∀(l:LI)(H:HI),l[0]?=ε (ε (.lst (ns.map Dt.int)))->JK (eV 0) (pF (wq 2)) (pF (wq 40)) l H=ε (.lst (ms.map Dt.int),H):=fun l H e=>by simp[e,ec]
 have a4:4<=sizeLine:=by decide
 have tQ:1<=sizeLine:=by decide
 have U:∀s:Nat->Int×Int,(∀i,QB (s i))->fs.all (YD s)=true->∃p∈KL,OA (S p) (i,M,j)=OA s (i,M,j):=fun s ok k=>by obtain⟨p,hp,e⟩:=tq K ok;obtain⟨a,b⟩:=hS p hp;have e2:xC s=xC (S p):=e.symm.trans b;exact⟨p,(kl p).mpr ⟨hp,by rw[<- Y3 ok a e2 P.ok];exact k⟩,(MS ok a e2 mk).symm⟩
 have u:∀p∈KL,(∀i,QB (S p i))/\fs.all (YD (S p))=true:=fun p hp=>⟨(hS p ((kl p).mp hp).1).1,((kl p).mp hp).2⟩
 have mi:=fun(s:Nat->Int×Int) (ok:∀i,QB (s i))=>th (c:=3) (fun i w=>ok i) mk
 obtain⟨a5,h5,c5,d5,u5,G5,S5⟩:=q4.more mk nofun;obtain⟨a6,h6,c6,d6,u6,G6,S6⟩:=q4.more (fK mk) nofun;have c4:∀R,QC (dN [ε (.lst (ns.map Dt.int)),none,none,none,none,none,none,none,none,none,none,none] [])=R->fI [.lst (ns.map Dt.int)] []=R:=fun R e=>by rw[<- e];simp![fI,nB,T4,Va,eH,Uo (f:=some),Wo (f:=some),Nat.reduceAdd,Nat.reduceSub,List.replicate,Xe,Wu]
 obtain⟨L,W⟩:∃L:LI,L=[ε (.lst (ns.map Dt.int)),ε (.ref 0),ε (.int (N:Nat)),ε (.int (i:Nat)),ε (.int (j:Nat)),ε (.int (M:Nat)),ε (IA (i,M,j)),ε (IA (vG (i,M,j))),ε (.lst (KL.map mJ)),ε (.lst ((KL.map fun p=>OA (S p) (i,M,j)).map Dt.bl)),ε (.lst es),ε (uG A.wd B.wd x y)]:=⟨_,rfl⟩
 have v1:L[1]?=ε (ε (.ref 0)):=by rw[W];rfl
 have v6:L[6]?=ε (ε (IA (i,M,j))):=by rw[W];rfl
 have v7:L[7]?=ε (ε (IA (vG (i,M,j)))):=by rw[W];rfl
 have v8:L[8]?=ε (ε (.lst (KL.map mJ))):=by rw[W];rfl
 have v9:L[9]?=ε (ε (.lst ((KL.map fun p=>OA (S p) (i,M,j)).map Dt.bl))):=by rw[W];rfl
 have D:L[11]?=ε (ε (uG A.wd B.wd x y)):=by rw[W];rfl
 have pE:∀R,QC ((jA (WB (vi (e2 mB (VB yB (eV 8)) (wq 0))) (wA (ZD (e2 mB (e2 kA (eV 11) (wq 0)) (eC (.str "clash"))) (ZD (rA bE [] (bA (wq 3) (bA (e2 HD (eV 1) (DC (bA (eV 6) dA))) (bA (e2 kA (e2 kA (eV 11) (wq 1)) (wq 0)) dA)))) (rA bE [] (bA (wq 3) (bA (e2 HD (eV 1) (DC (bA (eV 7) dA))) (bA (e2 kA (e2 kA (eV 11) (wq 1)) (wq 1)) dA))))))) VA) (jA (WB (vi (e2 (OG true) (eC (.bl false)) (eV 9))) (wA (ZD (e2 mB (e2 kA (eV 11) (wq 0)) (eC (.str "must"))) (rA bE [] (bA (wq 3) (bA (e2 HD (eV 1) (DC (bA (eV 7) dA))) (bA (e2 kA (eV 11) (wq 1)) dA)))))) VA) (jA (WB (vi (e2 (OG true) (eC (.bl true)) (eV 9))) (wA (ZD (e2 mB (e2 kA (eV 11) (wq 0)) (eC (.str "never"))) (rA bE [] (bA (wq 3) (bA (e2 HD (eV 1) (DC (bA (eV 6) dA))) (bA (e2 kA (eV 11) (wq 1)) dA)))))) VA) (jA (WB (yC (vi (e2 rD (e2 kA (eV 11) (wq 0)) (eC (.str "may")))) (yC (qE (vi (VG "tuple" (e2 kA (eV 11) (wq 1))))) (vi (e2 rD (VB yB (e2 kA (eV 11) (wq 1))) (wq 2))))) (wA (eC (.bl false))) VA) (wA (ZD (rA zG [] (bA (e2 kA (e2 kA (eV 11) (wq 1)) (wq 0)) (bA (wq 3) (bA (e2 wG (eV 1) (DC (bA (eV 6) dA))) dA)))) (rA zG [] (bA (e2 kA (e2 kA (eV 11) (wq 1)) (wq 1)) (bA (wq 3) (bA (e2 wG (eV 1) (DC (bA (eV 7) dA))) dA)))))))))) L m)=R->fI [.lst (ns.map Dt.int)] []=R:=fun R e=>by
  refine c4 R ?_;unfold dN;refine fF (d:=.ref 0) (h1:=h1) (by simp![FA,AA,zA,d0 [ε (.lst (ns.map Dt.int)),none,none,none,none,none,none,none,none,none,none,none] [] rfl,eA,Ui,ef];rfl) rfl ?_;refine fF (d:=.int (N:Nat)) (h1:=h1) (by simp![Vi,Uu,Ss,Te,iA,eA,gA,qA,sA,FA,AA,zA,Ui,c0,eN]) rfl ?_;refine tv (x:=.int (i:Nat)) (y:=.int (j:Nat)) (h1:=h1) (by simp![Vi,Uu,Ss,Te,iA,eA,gA,qA,sA,FA,AA,zA,Ui];exact ep _) rfl ?_;refine fF (d:=.int (M:Nat)) (h1:=h1) (by simp![Vi,Uu,Ss,Te,iA,eA,gA,qA,sA,FA,AA,zA,Ui,c1,d3,eM]) rfl ?_;refine fF (d:=IA (i,M,j)) (h1:=h1) (by simp![Vi,Uu,Ss,Te,iA,eA,gA,qA,sA,FA,AA,zA,Ui,ED,T4,Va,Nat.reduceAdd,a4,eH];rfl) rfl ?_;refine fF (d:=IA (vG (i,M,j))) (h1:=h1) (by simp![Vi,Uu,Ss,Te,iA,eA,gA,qA,sA,FA,AA,zA,Ui,ED,lU,xo,T4,Va,Nat.reduceAdd,a4,eH];rfl) rfl ?_;refine fF (d:=.lst (KL.map mJ)) (h1:=F) (by
   simp![Vi,Uu,GD,iC,nv,eo,eA,sF,jD,bF,gD,Ss,Te,Ls];rw[show(n.map fun p=>Dt.tup (p.1.map Dt.int))=n.map mJ from rfl,ck];rfl) rfl ?_
  refine fF (d:=.lst ((KL.map fun p=>OA (S p) (i,M,j)).map Dt.bl)) (h1:=F) (by
   simp![Vi,Uu,GD,iC,gA,Ss,Te,iA,eA,sF,jD,bF,gD,Ls,cs];rw[map_map];rfl) rfl ?_
  refine fF (d:=.lst es) (h1:=h3) (by
   simp![Vi,Uu,GD,iC,gA,Ss,Te,iA,eA,s1,jD,gD,d2]) rfl ?_
  refine fF (d:=uG A.wd B.wd x y) (h1:=m) (by
   simp![Vi,Uu,Ss,Te,iA,eA,gA,qA,sA,FA,AA,zA,Ui,Xe,Wu];exact ea) rfl ?_
  refine JG (h1:=m) (by
   simp![ID,HA,Vi,Uu,Ss,Te,iA,eA,gA,qA,sA,FA,AA,zA,Ui,ne,JA,Ws,eO,yF,lQ,b4,tt,Vs,uo,RB,b3,oF,decide_true]) ?_
  rw[W]at e;exact e
 have C:∀H:HI,vi (e2 mB (VB yB (eV 8)) (wq 0)) L H=ε (decide ((KL.length:Int)=0),H):=fun H=>tb _ (EU (TU (ev v8) (PM _)) rfl (by rw[mq];exact JD _ _))
 have nf:∀(b:Bool)(H:HI),vi (e2 (OG true) (eC (.bl b)) (eV 9)) L H=ε (!(KL.map fun p=>OA (S p) (i,M,j)).any fun x=>x==b,H):=fun b H=>tb _ (EU rfl (ev v9) (Np _ _ _))
 have j0:∀(a b:Dt)(H:HI),kA (.tup [a,b]) (.int 0) H=ε (a,H):=fun w w w=>rfl
 have j1:∀(a b:Dt)(H:HI),kA (.tup [a,b]) (.int 1) H=ε (b,H):=fun w w w=>rfl
 rcases XS P mk P1 with⟨J,a1⟩ | ⟨J,s',b5,k',b'⟩
 . rcases XS P (fK mk) P2 with⟨E,a2⟩ | ⟨E,Q,I,T,Z⟩
   ·
    have z:KL=[]:=by
     cases e:KL with
     | nil=>rfl
     | cons p _=>obtain⟨o,k⟩:=u p (by rw[e];simp);have:=a1 _ o k;have F:=a2 _ o k;rw[mi _ o,this]at F;cases F
    obtain⟨h7,f7,U7⟩:=oO (c:=3) (by decide) G5 P1 a3 J (V1.trans u5.l);obtain⟨a8,h8,c8,d8,u8,G8,S8⟩:=(q4.up (u5.l.trans U7)).more (fK mk) nofun;obtain⟨h9,f9,U9⟩:=oO (c:=3) (by decide) G8 P2 a0 E ((u5.l.trans U7).trans u8.l);refine⟨h9,pE _ ?_⟩;have C:=C m;rw[g8 (show(KL.length:Int)=0 by rw[z];rfl)]at C;have v:(uG A.wd B.wd x y)=.tup [.str "clash", .tup [x,y]]:=by rw[J,E];rfl
    refine dD (h1:=m) C ?_;simp![XI,v1,v6,v7,D,iA,eA,gA,qA,sA,FA,AA,zA,Ui,v,j0,j1,jF,decide_true,FI,eH,pG,T4,Va,Nat.reduceAdd,tQ,c5,(show bE [.int 3,.ref a5,x] h5=_ from f7),c8,(show bE [.int 3,.ref a8,y] h8=_ from f9)]
   ·
    obtain⟨h7,f7,U7⟩:=oO (c:=3) (by decide) G5 P1 a3 J (V1.trans u5.l);obtain⟨p,hp,a7⟩:=U Q I T;have af:∀p∈KL,OA (S p) (i,M,j)=false:=fun p hp=>a1 _ (u p hp).1 (u p hp).2
    refine⟨h7,pE _ ?_⟩;have C:=C m;rw[fu (show ¬(KL.length:Int)=0 by have:=length_pos_of_mem hp;omega)]at C;have O:=nf false m;rw[show((KL.map fun p=>OA (S p) (i,M,j)).any fun x=>x==false)=true from any_eq_true.mpr ⟨_,mem_map_of_mem hp,by rw[af p hp];rfl⟩]at O;have n2:=nf true m;rw[show((KL.map fun p=>OA (S p) (i,M,j)).any fun x=>x==true)=false from any_eq_false.mpr fun b hb=>by
     obtain⟨p,hp,rfl⟩:=Bs.mp hb;rw[af p hp];decide]at n2
    have v:(uG A.wd B.wd x y)=.tup [.str "never",x]:=by rw[J,E];rfl
    refine JG C (JG O (dD (h1:=m) n2 ?_));simp![XI,v1,v6,v7,D,iA,eA,gA,qA,sA,FA,AA,zA,Ui,v,j0,j1,jF,decide_true,FI,eH,pG,T4,Va,Nat.reduceAdd,tQ,c5,(show bE [.int 3,.ref a5,x] h5=_ from f7)]
 . obtain⟨p,hp,d1⟩:=U s' b5 k';have C:=C m;rw[fu (show ¬(KL.length:Int)=0 by have:=length_pos_of_mem hp;omega)]at C;rcases XS P (fK mk) P2 with⟨E,a2⟩ | ⟨E,Q,I,T,Z⟩
   ·
    obtain⟨h7,f7,U7⟩:=oO (c:=3) (by decide) G6 P2 a0 E u6.l;have af:∀p∈KL,OA (S p) (i,M,j)=true:=fun p hp=>by have:=a2 _ (u p hp).1 (u p hp).2;rw[mi _ (u p hp).1]at this;exact(Bool.not_eq_false' ..).mp this
    have O:=nf false m;rw[show((KL.map fun p=>OA (S p) (i,M,j)).any fun x=>x==false)=false from any_eq_false.mpr fun b hb=>by
     obtain⟨p,hp,rfl⟩:=Bs.mp hb;rw[af p hp];decide]at O
    have v:(uG A.wd B.wd x y)=.tup [.str "must",y]:=by rw[J,E];rfl
    refine⟨h7,pE _ (JG C (dD (h1:=m) O ?_))⟩;simp![XI,v1,v6,v7,D,iA,eA,gA,qA,sA,FA,AA,zA,Ui,v,j0,j1,jF,decide_true,FI,eH,pG,T4,Va,Nat.reduceAdd,tQ,c6,(show bE [.int 3,.ref a6,y] h6=_ from f7)]
   ·
    obtain⟨p',c2,a7⟩:=U Q I T;have O:=nf false m;rw[show((KL.map fun p=>OA (S p) (i,M,j)).any fun x=>x==false)=true from any_eq_true.mpr ⟨_,mem_map_of_mem c2,by
     rw[mi _ I]at Z;rw[a7,(Bool.not_eq_true' ..).mp Z];rfl⟩]at O
    have n2:=nf true m;rw[show((KL.map fun p=>OA (S p) (i,M,j)).any fun x=>x==true)=true from any_eq_true.mpr ⟨_,mem_map_of_mem hp,by rw[d1,b'];rfl⟩]at n2;have l1:=JW (c:=3) (by decide) (by decide) S5 P1 a3 J;have l2:=JW (c:=3) (by decide) (by decide) S6 P2 a0 E;have v:(uG A.wd B.wd x y)=.tup [.str "may", .tup [x,y]]:=by rw[J,E];rfl
    refine⟨m,pE _ (JG C (JG O (JG n2 (JG (h1:=m) ?_ (yP ?_)))))⟩
    . have ty:yG m (.tup [x,y])=ε "tuple" :=rfl;have ln:yB (.tup [x,y]) m=ε (.int 2,m):=rfl;have xm:rD (.str "may") (.str "may") m=ε (.bl false,m):=rfl;simp![ID,HA,v1,v6,v7,D,iA,eA,gA,qA,sA,FA,AA,zA,Ui,v,j0,j1,xm,JA,Ws,eO,yF,lQ,ty,tt,Vs,uo,RB,ln,oF,decide_true]
    . simp![XI,v1,v6,v7,D,iA,eA,gA,qA,sA,FA,AA,zA,Ui,v,j0,j1,pG,T4,Va,Nat.reduceAdd,tQ,eH,d5,(show zG [x,.int 3,.lst (ds++[IA (i,M,j)])] m=_ from l1),FI,d6,(show zG [y,.int 3,.lst (ds++[IA (vG (i,M,j))])] m=_ from l2)]
set_option maxHeartbeats 0 in
def T9 {l:PySem.W.OpenLaw} {K:Pb} (T:B6 K mg h j g b d i) (k:mg "law" =ε (.ref fa))
 :∃m,(∀s v,BindsTo s m ⟨[v],[]⟩ [("_law_script",v)])/\∀base,K.In base->base.Ns mainGlobals mg->ab l.prog w K mg base TF 32 fa m ["_law_script"] (oJ K 1 fI):=by
 obtain⟨f,x,u,kV,dc,r,B,y,ct,q,a,n,p,o⟩:=T.Qr;have e:=k.symm.trans (PySem.W.mg_of T.X T.G a);cases e;exact⟨_,fun s v=>.of_eq rfl,fun base z z=>o9 T (GP n p o)⟩
end G
open PySem.W
set_option maxRecDepth 100000 in
set_option maxHeartbeats 0 in
theorem PySem.Challenge.cw_spanways_k22_whole_three_stretches_holds : PySem.Challenge.rw_spanways_k22_whole_three_stretches.Holds := by
 w_on;o_law;k_head;(case hw=>w_witness2)
 k_fill
 refine SM.En (l:=PySem.Challenge.rw_spanways_k22_whole_three_stretches) (F:=G.fI) (k:=32) (x := "_law_script") rfl rfl ⟨rfl,by decide,by decide⟩ (fun w h Y=>PySem.W.kIn_of Y) ?F G.law_true
 case F=>
  intro w mg fa h b d a
  refine' G.T9 ⟨b,d,?q0,?q1,?q2,?q3,?q4,?q5,?q6,?q7,?q8,?q9,?qa,?qb,?qc,?qd,?qe,?qf,?qg,?qh,?qi,?qj,?qk,?ql,?qm,?qn,?qo,?qp,?qq,?qr,?qs,?qt,?qu,?qv,?qw,?qx,?qy,?qz,?Q0,?Q1,?Q2,?Q3,?Q4,?Q5,?Q6,?Q7,?Q8,?Q9,?Qa,?Qb,?Qc,?Qd,?Qe,?Qf,?Qg,?Qh,?Qi,?Qj,?Qk,?Ql,?Qm,?Qn,?Qo,?Qp,?Qq,?Qr,?Qs,?Qt,?Qu,?Qv,?Qw,?Qx,?Qy,?Qz,?U0,?U1,?U2,?U3,?U4,?U5,?U6,?U7,?U8,?U9,?Ua,?Ub,?Uc,?Ud,?Ue⟩ a
  (case q0=>exact⟨by k_is,by k_is,by k_is,by k_is,by k_is,by k_is,by k_is⟩)
  (case q1 | q2 | q3=>k_is)
  (case q4 | q5 | q6 | q7 | q8 | q9 | qa | qb | qc | qd | qe | qf | qg | qh | qi | qj | qk | ql | qm | qn | qo | qp | qq | qr | qs | qt | qu | qv | qw | qx | qy=>exact⟨_,_,_,_,_,_,_,_,_,_,by k_is,by k_is,by k_is,by k_is⟩)
  (case qz | Q0 | Q1=>exact⟨_,_,_,_,_,_,_,_,_,_,by k_is,by k_is,by k_is,by k_is,by k_is⟩)
  (case Q2=>exact⟨_,_,_,_,_,_,_,_,_,_,by k_is,by k_is,by k_is,by k_is⟩)
  (case Q3 | Q4=>exact⟨_,_,_,_,_,_,_,_,_,_,_,_,_,_,by k_is,by k_is,by k_is,by k_is,by k_is,by rfl⟩)
  (case Q5 | Q6 | Q7 | Q8 | Q9 | Qa | Qb | Qc | Qd | Qe | Qf | Qg | Qh | Qi | Qj | Qk | Ql | Qm | Qn | Qo | Qp | Qq | Qr=>exact⟨_,_,_,_,_,_,_,_,_,_,by k_is,by k_is,by k_is,by k_is⟩)
  (case Qs | Qt | Qu | Qv | Qw | Qx | Qy | Qz | U0 | U1 | U2 | U3 | U4 | U5 | U6 | U7=>k_is)
  (case U8=>kernel_rfl)
  (case U9=>k_is)
  (case Ua=>kernel_rfl)
  (case Ub=>k_is)
  (case Uc=>kernel_rfl)
  (case Ud=>k_is)
  (case Ue=>kernel_rfl)
end
