import PyProof.Rows.All
import Wide.All
import OpenK.AllK
import Wide.FinOn
import Lean
import PyProof.EqAt
import PyProof.EqKinds
import PyProof.TupleCall
import PyProof.Rows.SetFrom
import PySem.Challenge.RW_spanways_k17_whole_plan_or_tree
set_option Elab.async false
set_option linter.all false
set_option maxRecDepth 100000
set_option tactic.hygienic false
set_option bootstrap.genMatcherCode false
noncomputable section
set_option compiler.extract_closed false
structure PySem.W.Fast:Prop where(tw14154576771017652235 tw5701258029412080294 tw9859216442476587126 tw796405246723853855 tw8640012497902662676 tw4115696009876022182 tw9332631679777412710 tw729077190865851117 tw15830115942870994286 tw15474842958199378048 tw12228266385837679566 tw11640533517131781323 tw15290279189755258760 tw14010280114743855412 tw2044181606749722030 tw540814061133364567 tw280345139450091448 tw662724794763796832 tw12740747090157592423 tw6126095634256863623 tw6701245990245252312 tw10883989873834453103 tw15138006325637148851 tw17643150706883472981 tw9935464290497555411 tw12052333036270112343 tw16083206920377099507 tw13993981537767216974 tw3151125582696353873 tw2203108553192861215 tw6238111604780161258 tw16179004271608765815 tw145262770861174018 tw4921381039126748804 tw4680478858450932240 tw4363210504121827169 tw14455231860276657935 tw9504643740138012366 tw12741102756674012437 tw17529492006117174564 tw5458024084294082987 tw13295598145392221078 tw4803846102582535298 tw3790362993492316937 tw16248163702162060470 tw13104771223681712426 tw1426533275638906628 tw666200320699820845 tw8033342496174069914 tw2235685266075106289 tw7757395314909789393 tw17597333333867084666 tw11843759932074074887 tw17441793061922918963 tw3659052064802185452 tw10998808933142086090 tw2906324861998430991 tw17324243939388527363 tw3235701932118505204 tw3995584040769787047 tw7133329643461448567 tw9040538433863062254 tw11619698356949189151 tw7092862030173093770 tw1007231308699313820 tw4183763654307988469 tw14504759439275816119 tw1595701968469573950 tw11047223724852185748 tw8319662552041105587 tw9131227758583285004 tw18339655933395884395 tw16622073061636129791 tw14010344976719195777 tw8134706749052535001 tw15485314173603479407 tw10029234470052362335 tw4457150078809390177 tw3617426068607456879 tw52985891081174171 tw12152723256625919966 tw15065058005318649765 tw10442584480425936728 tw10491410830903757442 tw6263967797021769734 tw12676546850840508515 tw9010829524000954687 tw12187418467053310200 tw3063432092903438606 tw16232759635119705965 tw5290617217664942520 tw3984694565974377102 tw746753432468724259 tw13754570284908011533 tw10286921663664960698 tw6467343921282434170 tw13216996734656598492 tw15126061303449389827 tw3325203117901585012 tw16094649780897279497 tw9982663588327391301 tw15269243948309293814 tw489992936397124133 tw2994815194166535769 tw18325828700430903473 tw584905647237889589 tw12635044569386711890 tw12880558649111067256 tw7217100423207729759 tw334526946980420575 tw14786250496171487759 tw12681869294188426647 tw8844443740389451911 tw15761729440171344167 tw1066141298467658943 tw13486849959132338954 tw16767194229741904086 tw1938997207140029002 tw8616735306095679302 tw1842368881106850622 tw14753366223735479273 tw17270171588334978449 tw6162349333627321784 tw13021856505396639902 tw12685465298745552056 tw7594053630030622838 tw6505677659890451468 tw10731177593010750714 tw3898261522807680899 tw16245369715232574831 tw3882533563176481195 tw17373819432857896258 tw15428738220682257427 tw4885058625484601483 tw14437701858858567839 tw5357903800802671807 tw5198334146970162681 tw17087595021468045696 tw17577851338386588706 tw298199050856317570 tw16894480462480477733 tw1402558974711752655 tw16867267153706010482 tw4044989753241316350 tw6767913362753874538 tw15813085907250535799 tw4204422148580420211 tw10656512741324565962 tw16747594973127255897 tw15929635365250169840 tw2157504575763196767 tw35042576084296572 tw1673554585056991219 tw14658420945386945959 tw15327409055311200673 tw4332871830153289709 tw14606346225084871929 tw12385833457890913351 tw1066782218433295166 tw4467294419280206628 tw11132609092730697095 tw17110093689526764776 tw10592520536014467785 tw6475014768319514417 tw13259514238276569369 tw3103380989329083630 tw15692327827130367982 tw2693399063238549102 tw15655865320567579120 tw11668453769428416309 tw10128963808336309185 tw12986974814957014086 tw4128694770085067049 tw11188255196874367968 tw15627603762192179631 tw16644494574073990929 tw9471099858794336333 tw4036502146931421149 tw13946898141445794466 tw5154035205241617428 tw10630483953651387899 tw6801801864500769972 tw16666067589677186000 tw1198066811529321862 tw9202430884245206486 tw7115025948141843985 tw2385110455795400728 tw5996946706216670718 tw14863801641526697832 tw16488865062604288869 tw9233724043574207327 tw7037832055564493702 tw14550517748898936058 tw618634243156872837 tw4393983056601064031 tw9488629924246286290 tw2775045986366288446 tw16332184051087282655 tw2936498637309390490 tw11310410546283833650 tw16417006578748066259 tw477110443322228223 tw13544467344172806796 tw399903158245019604 tw3232799228706054244 tw12484713092920509543 tw2832522856284847380 tw8194523428566410114 tw11804395709455990208 tw10518972968834027694 tw9759027387514348304 tw8464089566269969899 tw16069687489259645995 tw17500384952812850813 tw8827266234408041075 tw10158828614243567976 tw16987962386092591725 tw11741399219640400634 tw5250988700507646321 tw43123024897341040 tw3462799247163994049 tw14477564956570081062 tw2746104344702409097 tw2589276430948036555 tw820973736976027090 tw15025791531641874692 tw17785070265625759545 tw1580450012059509104 tw96469615212572231 tw4286939857967709792 tw17743571911352857181 tw6398716328876246041 tw14100295535828946021 tw11225480371592876962 tw7220784589582510083 tw3452102081277734647 tw10820785341128344492 tw6605074768986945065 tw774820339992174566 tw8605455209145367336 tw9042963372347242882 tw10838396108976392054 tw2741163239380830069 tw13543614458096227634 tw4672452736266719736 tw6856485903946330775 tw2422578049253547877 tw2300843110719655679 tw10195916111983469273 tw6673412547761768444 tw10539999304406484126 tw2549079793768101587 tw1611417804965979485 tw7239931354353506882 tw3374627214499716910 tw13885045837097074553 tw2163564573470039130 tw13437560666103264063 tw16785477199256232940 tw975561628354022615 tw12826248576902535670 tw13846894192299513322 tw17181068000250693439 tw15291343220361555475 tw13192965754258090109 tw10145024469900023577 tw1043272212667145608 tw5968621218970423446 tw15005632702783367735 tw1955459928689451997 tw11958160984963641311 tw6042009738461327195 tw6883182537886221146 tw3829924245087871478 tw18430944584528464605 tw5740993232902584789 tw6651955741535612994 tw16215277530164308840 tw3985194545055891689 tw15730155477437881124 tw10786333544856489930 tw10067486358938437420 tw16211893164821744400 tw16130918036556854983 tw8087382187444024241 tw4034312731206807536 tw5376663473874866710 tw2679576632250710025 tw5088802978876606540 tw9936851860181642826 tw4216937337377105514 tw3152856147886692602:True)
namespace L2
end L2
namespace SM
end SM
namespace BF
end BF
namespace G
end G
open PySem PySem.Spec PyProof.Rows L2 SM BF G List
universe u
def ao:=@wpAny_bind
def au:=@wpAny_pure
def cu:=@Heap.get?_push_of_some
def dh:=@size_toArray
def eG:=@if_pos
def eH:=@if_neg
def eN:=@if_true
def eO:=@if_false
def fu:=@decide_eq_false
def iu:=@decide_eq_true
def je:=@Heap.lt_size
def ji:=@length_append
def jj:=@getElem?_eq_getElem
def jl:=@Heap.get?_push_size
def jo:=@Nat.lt_of_lt_of_le
def ju:=@getElem?_eq_none
def lu:=@mem_of_getElem?
def m8:=@getElem?_set_ne
def ni:=@length_map
def nq:=@PassesOwn.never
def nu:=@Nat.zero_le
def nW:=@Ne.symm
def n7:=@Int.toNat_natCast
def ou:=@mem_cons_of_mem
def rz:=@Nat.ne_of_lt
def su:=@append_assoc
def tu:=@Option.some.inj
def um:=@Nat.le_trans
def uo:=@getElem?_set_self
def uq:=@mem_cons_self
def vm:=@Bool.not_false
def vo:=@Bool.not_true
def wu:=@getElem?_map
def xr:=@Bool.and_eq_true
def xu:=@Prod.mk.injEq
def yu:=@Heap.get?_update_other
def za:=@mem_append_right
def zc:=@mem_append_left
def zu:=@Nat.lt_succ_self
def z7:=@Array.length_toList
def z8:=@Nat.testBit_and
def Aa:=@drop_eq_getElem_cons
def Ae:=@Nat.zero_add
def Ai:=@wpAny_newObj_type
def Ao:=@mem_of_find?_eq_some
def Ba:=@mem_singleton
def Bo:=@mem_cons
def Bs:=@mem_append
def Bu:=@mem_map
def Ca:=@mem_range
def Ce:=@sizeLine_eq
def Ci:=@length_take
def Cu:=@beq_self_eq_true
def Di:=@Nat.le_of_lt
def Ds:=@Nat.sub_self
def Du:=@Nat.lt_of_le_of_lt
def Ea:=@Nat.ne_of_gt
def Ei:=@absurd
def Eo:=@List.getElem?_eq_none_iff
def Es:=@beq_eq_false_iff_ne
def Eu:=@wpAny_holding
def Fd:=@Nat.lt_irrefl
def Fe:=@False.elim
def Fi:=@length_range
def Fo:=@wpAny_truthy_bool
def Ga:=@Option.some.injEq
def Ge:=@Heap.get?_update_self
def Gi:=@map_append
def Gs:=@Bool.true_and
def Gu:=@wpAny_field
def Hi:=@Bool.false_and
def Ho:=@Around.under_plainId
def Hs:=@wpAny_mono
def Hu:=@Int.cast_ofNat_Int
def Ia:=@codeAny_builtin
def Ie:=@range_succ
def Ii:=@find?_cons
def Io:=@Nat.not_lt
def Iu:=@Nat.mul_le_mul
def Ja:=@Nat.add_sub_cancel_left
def Je:=@Nat.mod_lt
def Ji:=@True.intro
def Jo:=@range_succ_eq_map
def Js:=@any_cons
def Ju:=@all_cons
def Ka:=@length_set
def Ke:=@take_length
def Ko:=@replicate_succ
def Ks:=@Heap.size_push
def Ku:=@Option.join_some
def La:=@Nat.le_add_right
def Le:=@nodup_cons
def Li:=@List.cons.injEq
def Ls:=@mem_flatMap
def Ma:=@getElem?_range
def Mi:=@drop_eq_nil_of_le
abbrev Ms(a:Type u):=List a
abbrev Mu:=Value
abbrev Ni(a:Type u):=Option a
abbrev Nu:=Shared
abbrev Oa:=Addr
abbrev Oe:=Expr
abbrev Oi:=PySem.W.Frag
abbrev Oo:=Program
abbrev Ou:=Stmt
abbrev O4:=World
abbrev Pa:=Around
abbrev Pb(a:Type u):=Array a
abbrev Pu:=Heap
set_option hygiene false
local macro_rules|`(ε $x*)=>`(some $x*)
local macro_rules|`(tactic|dsimp![$x,*]$[$l]?)=>`(tactic|simp only[List.replicate,Nat.reduceAdd,Nat.reduceSub,Ra,Ru,Ve,dA,eB,eN,kA,nA,$x,*]$[$l]?)
set_option hygiene true
local macro_rules|`(tactic|unhygienic $t)=>`(tactic|with_unfolding_all $t)
local macro_rules|`(nofun)=>`(by omega)
local macro_rules|`(⋯)=>`(by simp)
local macro_rules|`(tactic|simp![$x,*]$[$l]?)=>`(tactic|simp only[$x,*]$[$l]?)
theorem Å(_:True:=by rfl):True:=⟨⟩
def Æ:=Å._auto_1
theorem Ð(_:True:=by decide):True:=⟨⟩
def Ñ:=Ð._auto_1
theorem Ö(_:True:=by first | exact .inl rfl | exact .inr rfl | assumption):True:=⟨⟩
def Ø:=Ö._auto_1
theorem Þ(_:True:=by intro _;rfl):True:=⟨⟩
def å:=Þ._auto_1
theorem æ(_:True:=by decide +kernel):True:=⟨⟩
def ð:=æ._auto_1
theorem ñ(_:True:=by first | exact Or.inl rfl | exact Or.inr rfl):True:=⟨⟩
def ö:=ñ._auto_1
theorem ø(_:True:=by exact rfl):True:=⟨⟩
def þ:=ø._auto_1
theorem Ra{b:Type _}{a:b}{l:Ms b}:(a::l)[0]?=ε a:=rfl
theorem Ri{b:Type _}{a:b}{l:Ms b}{i:Nat}:(a::l)[i+1]?=l[i]?:=rfl
theorem Ru{b:Type _}{a:b}{l:Ms b}:(a::l).length=l.length+1:=rfl
theorem Ve{a:Type _}:([]:Ms a).length=0:=rfl
theorem Ss{b d:Type _}{f:b->d}{a:b}{l:Ms b}:(a::l).map f=f a::l.map f:=rfl
theorem Vs{b a:Type _}{f:b->a}:[].map f=[]:=rfl
theorem Ti{d:Type _}{a b:d}{l:Ms d}:(a::l).set 0 b=b::l:=rfl
theorem Va{d:Type _}{a b:d}{l:Ms d}{i:Nat}:(a::l).set (i+1) b=a::l.set i b:=rfl
theorem Vi{b d:Type _}{f:b->d}{a:b}:(ε a).map f=ε (f a):=rfl
theorem Wa{b d:Type _}{a:b}{f:b->Ni d}:(ε a).bind f=f a:=rfl
theorem Vu{a:Type _}{l:Ms a}:[]++l=l:=rfl
theorem Wu{b:Type _}{a:b}{l k:Ms b}:a::l++k=a::(l++k):=rfl
theorem Wi{b:Type _}{l:Ms b}{i:Nat}{a:b}:l[i]?=ε a->∃h:i<l.length,l[i]=a:=List.getElem?_eq_some_iff.mp
theorem Xo{a:Type _}{l k:Ms a}{i:Nat}(h:i<l.length):(l++k)[i]?=l[i]?:=List.getElem?_append_left h
theorem Wk:false≠true:=Bool.false_ne_true
theorem Uo(n:Nat):n<=n:=Nat.le_refl n
theorem ab{a:Type _}{l k:Ms a}{i:Nat}(h:l.length<=i):(l++k)[i]?=k[i-l.length]?:=List.getElem?_append_right h
theorem Us{a:Type _}(l:Ms a):l++[]=l:=List.append_nil l
theorem Wo:(false=true)=False:=Bool.false_eq_true
open PySem.W (Frag nsIn findIn keepIn fnOf mg_none_of)
namespace L2
noncomputable abbrev kC:=Sum Int Str
noncomputable def oK:kC->Mu->Bool
 | .inl k,v=>Value.isInt k v
 | .inr x,v=>Value.isStrOf x v
noncomputable def F6(w:O4):kC->Int
 | .inl k=>hashInt k
 | .inr x=>hashStr w x
theorem EG:∀{k:kC}{v:Mu},oK k v=true->(∃i t,k=Sum.inl i/\v=Value.int i t)\/(∃x t,k=Sum.inr x/\v=Value.str x t)
 | .inl i,v,h=>by obtain⟨t,e⟩:=Value.isInt_shape (k:=i) (v:=v) h;exact .inl ⟨i,t,rfl,e⟩
 | .inr x,v,h=>by obtain⟨t,e⟩:=Value.isStrOf_shape (x:=x) (v:=v) h;exact .inr ⟨x,t,rfl,e⟩
theorem Sd(i:Int)(t:Tok):oK (.inl i) (.int i t)=true:=by simp[oK,Value.isInt]
theorem Td(x:Str)(t:Tok):oK (.inr x) (.str x t)=true:=by simp[oK,Value.isStrOf]
theorem Cj(a b:Int):decide ((Sum.inl a:kC)=Sum.inl b)=(a==b):=by
 by_cases e:a=b
 . subst e;simp
 . have h:¬(Sum.inl a:kC)=Sum.inl b:=fun q=>e (Sum.inl.inj q)
   rw[fu h];exact(Es.mpr e).symm
theorem Fj(a b:Str):decide ((Sum.inr a:kC)=Sum.inr b)=decide (a=b):=by
 by_cases e:a=b
 . subst e;simp
 . have h:¬(Sum.inr a:kC)=Sum.inr b:=fun q=>e (Sum.inr.inj q)
   rw[fu h,fu e]
theorem Dj(a:Int)(b:Str):decide ((Sum.inl a:kC)=Sum.inr b)=false:=fu (fun q=>nomatch q)
theorem Ej(a:Str)(b:Int):decide ((Sum.inr a:kC)=Sum.inl b)=false:=fu (fun q=>nomatch q)
def bE(prog:Oo)(w:O4):PySem.KeyKind prog w kC where
 is:=oK
 hash:=F6 w
 inj:=fun v a b o m=>by
  rcases EG o with⟨i,t,rfl,rfl⟩ | ⟨x,t,rfl,rfl⟩
  . rcases EG m with⟨j,u,rfl,e⟩ | ⟨y,u,rfl,e⟩
    . injection e with d _;rw[d]
    . exact nomatch e
  . rcases EG m with⟨j,u,rfl,e⟩ | ⟨y,u,rfl,e⟩
    . exact nomatch e
    . injection e with d _;rw[d]
 byValue:=fun k v h=>by rcases EG h with⟨i,t,rfl,rfl⟩ | ⟨x,t,rfl,rfl⟩<;>rfl
 pyHash:=fun g h=>by
  rcases EG g with⟨i,t,rfl,rfl⟩ | ⟨x,t,rfl,rfl⟩
  . exact wpAny_pyHash_int h
  . exact wpAny_pyHash_str h
 eqBool:=fun n g h=>by
  rcases EG n with⟨i,t,rfl,rfl⟩ | ⟨x,t,rfl,rfl⟩
  . rcases EG g with⟨j,u,rfl,rfl⟩ | ⟨y,u,rfl,rfl⟩
    . rw[Cj]at h;exact wpAny_eqBool_int h
    . rw[Dj]at h;exact SeqAt.EqAt.int_str i t y u _ _ _ _ h
  . rcases EG g with⟨j,u,rfl,rfl⟩ | ⟨y,u,rfl,rfl⟩
    . rw[Ej]at h;exact SeqAt.EqAt.str_int x t j u _ _ _ _ h
    . rw[Fj]at h;exact wpAny_eqBool_str h
 «strs»:=fun k x t v h=>by
  rcases EG h with⟨i,u,rfl,e⟩ | ⟨y,u,rfl,e⟩
  . exact nomatch e
  . injection e with d _
    subst d;cases v<;>rfl
theorem Ky(prog:Oo)(w:O4)(i:Int)(t:Tok):(bE prog w).is (.inl i) (.int i t)=true:=Sd i t
theorem Ly(prog:Oo)(w:O4)(x:Str)(t:Tok):(bE prog w).is (.inr x) (.str x t)=true:=Td x t
inductive V where
 | non | bl (b:Bool) | int (i:Int) | str (x:Str) | byt (b:Array UInt8) | flt (b:UInt64) | ref (a:Addr) | ty (n:String)
 deriving DecidableEq
noncomputable def td:V->Mu->Prop
 | .non,u=>u=Value.none
 | .bl b,u=>u=Value.bool b
 | .int i,u=>∃t,u=Value.int i t
 | .str x,u=>∃t,u=Value.str x t
 | .byt b,u=>∃t,u=Value.bytes b t
 | .flt b,u=>∃t,u=Value.float b t
 | .ref a,u=>u=Value.ref a
 | .ty n,u=>u=Value.type n
abbrev ss:Ms V->Ms Mu->Prop:=Paired td
theorem ss.length{xs:Ms V}{us:Ms Mu}(r:ss xs us):xs.length=us.length:=Paired.length r
theorem ss.get:∀{xs:Ms V}{us:Ms Mu}{i:Nat}{x:V},ss xs us->xs[i]?=ε x->∃u,us[i]?=ε u/\td x u
 | _,_,_,_,.nil,e=>by simp at e
 | _,_,0,_,.cons r _,e=>by simp at e;subst e;exact⟨_,rfl,r⟩
 | _,_,i+1,x,.cons _ t,e=>by obtain⟨u,b,a⟩:=ss.get (i:=i) (x:=x) t (by simpa using e);exact⟨u,by simpa using b,a⟩
theorem ss.set{x:V}{u:Mu}(r:td x u):∀{xs:Ms V}{us:Ms Mu}(i:Nat),ss xs us->ss (xs.set i x) (us.set i u)
 | _,_,_,.nil=>.nil
 | _,_,0,.cons _ t=>.cons r t
 | _,_,i+1,.cons q t=>.cons q (ss.set r i t)
theorem ss.append:∀{xs ys:Ms V}{us ws:Ms Mu},ss xs us->ss ys ws->ss (xs++ys) (us++ws)
 | _,_,_,_,.nil,s=>s
 | _,_,_,_,.cons r t,s=>.cons r (ss.append t s)
theorem ss.take:∀{xs:Ms V}{us:Ms Mu}(n:Nat),ss xs us->ss (xs.take n) (us.take n)
 | _,_,0,_=>.nil
 | _,_,_+1,.nil=>.nil
 | _,_,n+1,.cons r t=>.cons r (ss.take n t)
theorem ss.drop:∀{xs:Ms V}{us:Ms Mu}(n:Nat),ss xs us->ss (xs.drop n) (us.drop n)
 | _,_,0,r=>r
 | _,_,_+1,.nil=>.nil
 | _,_,n+1,.cons _ t=>ss.drop n t
theorem ss.none_of:∀{xs:Ms V}{us:Ms Mu}{i:Nat},ss xs us->xs[i]?=none->us[i]?=none:=fun {xs us i} r e=>by have b:=r.length;have a:xs.length<=i:=Eo.mp e;exact Eo.mpr nofun
def ax:Ni V->Ni Mu->Prop
 | some v,some u=>td v u
 | none,none=>True
 | _,_=>False
def KV{a:Type}:Ms (a×V)->Ms (a×Mu)->Prop:=Paired fun(p:a×V) (q:a×Mu)=>p.1=q.1/\td p.2 q.2
noncomputable def kV:kC->V
 | .inl i=>.int i
 | .inr x=>.str x
inductive HO where
 | lst (xs:List V)
 | tup (xs:List V)
 | dK (kvs:List (kC×V)) | dT (kvs:List (List kC×V))
 | set (S:Int->Bool) (n:Nat)
 | ins (C dx:Addr) (fs:List (Str×V))
 | own (x:Addr)
 | xd (fs:List (Str×V))
 | met (f x:Addr)
 | rng (lo hi:Int)
 | frz (o:Obj) (u:HO)
 | tbl (ps:Array Value)
 | ext (φ:Heap->Prop)
noncomputable abbrev Hp:=Oa->Ni HO
noncomputable def IB(H:Hp)(a:Oa)(o:HO):Hp:=fun b=>if b=a then ε o else H b
theorem IC{H:Hp}{a:Oa}{o:HO}:IB H a o a=ε o:=by unfold IB;rw[eG rfl]
theorem dB{H:Hp}{a b:Oa}{o:HO}(h:b≠a):IB H a o b=H b:=by unfold IB;rw[eH h]
theorem gU{H:Hp}{a b:Oa}{o u:HO}(h:H a=ε o)(h':H b=ε u)(d:o≠u):a≠b:=by intro e;subst e;rw[h]at h';exact d (tu h')
theorem TC{H:Hp}{a b:Oa}{o:HO}(h:H a=ε o)(h':H b=none):a≠b:=by intro e;subst e;rw[h]at h';cases h'
section
variable(P:Oo)(w:O4)
def Yu(H:Hp)(h:Pu)(a:Oa):HO->Prop
 | .lst e=>e.length<=sizeLine/\∃(d:Ms Mu) (n:Nat),ss e d/\h.get? a=ε { cls:=.type "list",data:=.seq d.toArray n }
 | .tup e=>e.length<=sizeLine/\∃d:Ms Mu,ss e d/\IsTup h a d.toArray
 | .dK b=>b.length<=sizeLine/\(a==sysModules)=false/\∃k,KV b k/\h.DictOf (bE P w) a k
 | .dT b=>b.length<=sizeLine/\(a==sysModules)=false/\∃e:Ms (Ms kC×Oa×Mu),
  Paired (fun(p:Ms kC×V) (q:Ms kC×Oa×Mu)=>p.1=q.1/\H q.2.1=ε (.tup (p.1.map kV))/\td p.2 q.2.2) b e/\
  ∃o s E,h.get? a=ε o/\o.ExactDict/\o.data=.dict s E/\s.toList=e.map (entryOfKey (tupleKind (bE P w)))/\(e.map (·.1)).Nodup
 | .set S n=>h.SetOf (intKind P w) a S n
 | .ins C i fs=>H i=ε (.own a)/\fs.length<=1000/\i≠a/\h.get? a=ε (PySem.W.instObj C i)/\
  ∃g,h.Ns1 i g/\(∀f,ax (fs.lookup f) (g f))/\PySem.Within g (fs.map (·.1))
 | .own _=>∃o,h.get? a=ε o
 | .xd fs=>∃g,h.Ns1 a g/\∀f,ax (fs.lookup f) (g f)
 | .rng B D=>∃t u v,h.get? a=ε { cls:=.type "range",data:=.fields #[.int B t,.int D u,.int 1 v] }
 | .frz o u=>h.get? a=ε o/\Yu H h a u
 | .tbl y=>h.get? a=ε { cls:=.none,data:=.fields y }
 | .met f x=>h.get? a=ε (PySem.W.methodObj (.ref f) (.ref x))
 | .ext j=>j h/\(∃o,h.get? a=ε o)/\∀r m:Pu,j r->(∀o,r.get? a=ε o->m.get? a=ε o)->j m
def tA(H:Hp)(h:Pu):Prop:=∀a o,H a=ε o->Yu P w H h a o
end
section
variable{P:Oo}{w:O4}{H g:Hp}{h h':Pu}{a:Oa}{o:HO}
theorem Yu.lt(x:Yu P w H h a o):a<h.objs.size:=by
 cases o with
 | lst d=>obtain⟨_,_,_,_,e⟩:=x;exact je e
 | tup d=>obtain⟨_,_,_,p⟩:=x;exact p.lt
 | dK b=>obtain⟨_,_,_,_,o,_,_,e,_⟩:=x;exact je e
 | dT b=>obtain⟨_,_,_,_,o,_,_,e,_⟩:=x;exact je e
 | set S n=>obtain⟨o,_,_,_,e,_⟩:=x;exact je e
 | ins C q fs=>obtain⟨_,_,_,e,_⟩:=x;exact je e
 | own y=>obtain⟨_,e⟩:=x;exact je e
 | xd fs=>obtain⟨_,⟨_,_,_,e,_⟩,_⟩:=x;exact je e
 | rng k m=>obtain⟨_,_,_,e⟩:=x;exact je e
 | frz ob u=>obtain⟨e,_⟩:=x;exact je e
 | tbl j=>exact je (show h.get? a=ε _ from x)
 | met f y=>exact je (show h.get? a=ε _ from x)
 | ext i=>obtain⟨_,⟨_,e⟩,_⟩:=x;exact je e
theorem Paired.ff{j i:Type}{F G:j->i->Prop}:∀{e:Ms j}{d:Ms i},Paired F e d->(∀a b,F a b->G a b)->Paired G e d
 | _,_,.nil,_=>.nil
 | _,_,.cons r t,f=>.cons (f _ _ r) (Paired.ff t f)
theorem Yu.stay(x:Yu P w H h a o)(k:∀b u,(b=a\/H b=ε (.own a))->h.get? b=ε u->h'.get? b=ε u)
 (M:∀b,H b=ε (.own a)->g b=ε (.own a)) (L:∀b s,H b=ε (.tup s)->g b=ε (.tup s)):Yu P w g h' a o:=by
 induction o with
 | lst s=>obtain⟨z,m,n,r,e⟩:=x;exact⟨z,m,n,r,k _ _ (.inl rfl) e⟩
 | tup s=>obtain⟨z,m,r,ob,e,c⟩:=x;exact⟨z,m,r,ob,k _ _ (.inl rfl) e,c⟩
 | dK E=>obtain⟨z,y,J,r,ob,i,j,e,c⟩:=x;exact⟨z,y,J,r,ob,i,j,k _ _ (.inl rfl) e,c⟩
 | dT E=>obtain⟨z,y,s,r,ob,i,j,e,c⟩:=x;exact⟨z,y,s,Paired.ff r fun p q z=>⟨z.1,L _ _ z.2.1,z.2.2⟩,ob,i,j,k _ _ (.inl rfl) e,c⟩
 | set S n=>obtain⟨ob,i,j,t,e,c⟩:=x;exact⟨ob,i,j,t,k _ _ (.inl rfl) e,c⟩
 | ins C T fs=>obtain⟨d,z,ne,e,D,⟨B,i,j,e2,c⟩,r⟩:=x;exact⟨M _ d,z,ne,k _ _ (.inl rfl) e,D,⟨B,i,j,k _ _ (.inr d) e2,c⟩,r⟩
 | own y=>obtain⟨ob,e⟩:=x;exact⟨ob,k _ _ (.inl rfl) e⟩
 | xd fs=>obtain⟨D,⟨B,i,j,e,c⟩,r⟩:=x;exact⟨D,⟨B,i,j,k _ _ (.inl rfl) e,c⟩,r⟩
 | rng Q R=>obtain⟨t,u,v,e⟩:=x;exact⟨t,u,v,k _ _ (.inl rfl) e⟩
 | frz ob u ih=>obtain⟨e,q⟩:=x;exact⟨k _ _ (.inl rfl) e,ih q⟩
 | tbl I=>have e:h.get? a=ε { cls:=.none,data:=.fields I }:=x;show h'.get? a=ε { cls:=.none,data:=.fields I };exact k a _ (.inl rfl) e
 | met f y=>have e:h.get? a=ε (PySem.W.methodObj (.ref f) (.ref y)):=x;show h'.get? a=ε (PySem.W.methodObj (.ref f) (.ref y));exact k a _ (.inl rfl) e
 | ext O=>obtain⟨p,⟨o,e⟩,F⟩:=x;exact⟨F _ _ p fun o q=>k _ _ (.inl rfl) q,⟨o,k _ _ (.inl rfl) e⟩,F⟩
theorem tA.lt(x:tA P w H h)(e:H a=ε o):a<h.objs.size:=(x a o e).lt
theorem tA.fresh(x:tA P w H h)(e:h.objs.size<=a):H a=none:=by
 cases q:H a with
 | none=>rfl
 | some u=>exact Ei (jo (x.lt q) e) (Fd _)
theorem tA.kept(x:tA P w H h)(k:∀b u,h.get? b=ε u->h'.get? b=ε u):tA P w H h':=fun a o e=>(x a o e).stay (fun b u z q=>k b u q) (fun z q=>q) fun z z q=>q
theorem tA.laid(x:tA P w H h)(k:∀b u,h.get? b=ε u->h'.get? b=ε u)(hp:h.objs.size<=a)(new:Yu P w (IB H a o) h' a o):tA P w (IB H a o) h':=fun b u e=>by
 have d:=x.fresh hp;by_cases i:b=a
 . subst i;rw[IC]at e;cases e;exact new
 . rw[dB i]at e;exact(x b u e).stay (fun c v z q=>k c v q) (fun c q=>by rw[dB (TC q d)];exact q) fun c j q=>by rw[dB (TC q d)];exact q
end
def Rd(H:Hp)(a:Oa)(u:HO):Prop:=H a=ε u\/∃o,H a=ε (.frz o u)
theorem Rd.ok{P:Oo}{w:O4}{H:Hp}{h:Pu}{a:Oa}{u:HO}(r:Rd H a u)(x:tA P w H h):Yu P w H h a u:=by
 rcases r with r | ⟨o,r⟩
 . exact x a u r
 . obtain⟨_,q⟩:=x a _ r;exact q
noncomputable def MU:Ni HO->Prop
 | some (.lst _)=>True
 | some (.dK _)=>True
 | some (.dT _)=>True
 | some (.set _ _)=>True
 | some (.ins _ _ _)=>True
 | some (.ext _)=>True
 | _=>False
section
variable{P:Oo}{w:O4}{H:Hp}{h h':Pu}{x e:Oa}{a:HO}
theorem tA.write(ok:tA P w H h)(j:MU (H x))(he:e=x\/H e=ε (.own x))(k:∀b u,b≠e->h.get? b=ε u->h'.get? b=ε u)(o:∃u,h'.get? e=ε u)
 (new:Yu P w (IB H x a) h' x a):tA P w (IB H x a) h':=fun b u q=>by
 have g:∀c y,H c=ε (.own y)->c≠x:=fun c y r z=>by subst z;rw[r]at j;exact j
 have n:∀c i,H c=ε (.tup i)->c≠x:=fun c i r z=>by subst z;rw[r]at j;exact j
 by_cases m:b=x
 . subst m;rw[IC]at q;cases q;exact new
 . rw[dB m]at q;by_cases d:b=e
   . have p:H b=ε (.own x):=by
      rcases he with z | z
      . exact Ei (d.trans z) m
      . rw[d];exact z
     rw[q]at p;cases p;obtain⟨v,s⟩:=o;exact⟨v,by rw[d];exact s⟩
   . refine(ok b u q).stay (fun c v hc r=>k c v ?_ r) (fun c r=>by rw[dB (g c b r)];exact r) fun c i r=>by rw[dB (n c i r)];exact r
     rcases hc with rfl | hc
     . exact d
     . rintro rfl;rcases he with z | z
       . exact g c b hc z
       . rw[hc]at z;cases z;exact m rfl
end
structure Un(fs ex:List Addr)(H H':Hp)(h h':Heap):Prop where
 keep:∀b o,h.get? b=ε o->H b=none->b∉fs->b∉ex->h'.get? b=ε o
 slot:∀b o,h.get? b=ε o->H b=none->b∈fs->b∉ex->∃sl,h'.get? b=ε { o with slots:=sl }
 free:∀b o,h.get? b=ε o->H b=none->b∉ex->H' b=none
 there:∀b o,h.get? b=ε o->b∉ex->∃o',h'.get? b=ε o'
 tups:∀b xs,H b=ε (.tup xs)->H' b=ε (.tup xs)
 bg:∀b o u,H b=ε (.frz o u)->H' b=ε (.frz o u)
 bi:∀b ps,H b=ε (.tbl ps)->∃more,H' b=ε (.tbl (ps++more))
section
variable{fs d ex f:Ms Oa}{H g i:Hp}{h h1 h2 h':Pu}{a x e:Oa}{o:HO}
theorem Un.any(u:Un fs ex H g h h1){b:Oa}{ob:Obj}(q:h.get? b=ε ob)(n:H b=none)(j:b∉ex):∃m,h1.get? b=ε { ob with slots:=m }:=by
 by_cases k:b∈fs
 . exact u.slot b ob q n k j
 . exact⟨ob.slots,u.keep b ob q n k j⟩
theorem Un.trans(a:Un fs ex H g h h1)(b:Un fs ex g i h1 h2):Un fs ex H i h h2 where
 keep:=fun c ob q n p j=>b.keep c ob (a.keep c ob q n p j) (a.free c ob q n j) p j
 slot:=fun c ob q n p j=>by obtain⟨C,k⟩:=a.slot c ob q n p j;obtain⟨r,e2⟩:=b.slot c _ k (a.free c ob q n j) p j;exact⟨r,e2⟩
 free:=fun c ob q n j=>by obtain⟨s,k⟩:=a.there c ob q j;exact b.free c s k (a.free c ob q n j) j
 there:=fun c ob q j=>by obtain⟨s,k⟩:=a.there c ob q j;exact b.there c s k j
 tups:=fun c m q=>b.tups c m (a.tups c m q)
 bg:=fun c ob m q=>b.bg c ob m (a.bg c ob m q)
 bi:=fun c u q=>by obtain⟨B,k⟩:=a.bi c u q;obtain⟨y,e2⟩:=b.bi c _ k;exact⟨B++y,by rw[e2,Array.append_assoc]⟩
theorem Un.kept(k:∀b u,h.get? b=ε u->h'.get? b=ε u):Un fs ex H H h h':=
 ⟨fun b ob q z z z=>k b ob q,fun b ob q z z z=>⟨ob.slots,k b ob q⟩,fun z z z n z=>n,fun b ob q z=>⟨ob,k b ob q⟩,fun z z q=>q,fun z z z q=>q,fun z j q=>⟨#[],by rw[q];simp⟩⟩
theorem Un.refl:Un fs ex H H h h:=Un.kept fun z z q=>q
theorem Un.laid(k:∀b u,h.get? b=ε u->h'.get? b=ε u)(hp:h.objs.size<=a)(j:H a=none):Un fs ex H (IB H a o) h h' where
 keep:=fun b u q z z z=>k b u q
 slot:=fun b u q z z z=>⟨u.slots,k b u q⟩
 free:=fun b u q n z=>by rw[dB (rz (jo (je q) hp))];exact n
 there:=fun b u q z=>⟨u,k b u q⟩
 tups:=fun b m q=>by rw[dB (TC q j)];exact q
 bg:=fun b u m q=>by rw[dB (TC q j)];exact q
 bi:=fun b p q=>⟨#[],by rw[dB (TC q j),q];simp⟩
theorem Un.write(m:MU (H x))(he:e=x\/H e=ε (.own x))(k:∀b u,b≠e->h.get? b=ε u->h'.get? b=ε u)(s:∃u,h'.get? e=ε u):Un fs ex H (IB H x o) h h':=by
 have y:∀b,H b=none->b≠x:=fun b n z=>by subst z;rw[n]at m;exact m
 have B:∀b,H b=none->b≠e:=fun b n z=>by
  subst z;rcases he with r | r
  . exact y b n r
  . rw[n]at r;cases r
 have p:∀b u,H b=ε u->¬MU (ε u)->b≠x:=fun b u q D z=>by subst z;rw[q]at m;exact D m
 refine⟨fun b u q n v v=>k b u (B b n) q,fun b u q n v v=>⟨u.slots,k b u (B b n) q⟩,fun b u q n v=>by rw[dB (y b n)];exact n,fun b u q v=>?_,
  fun b C q=>by rw[dB (p b _ q fun z=>z)];exact q,fun b u C q=>by rw[dB (p b _ q fun z=>z)];exact q,fun b E q=>⟨#[],by rw[dB (p b _ q fun z=>z),q];simp⟩⟩
 by_cases j:b=e
 . subst j;exact s
 . exact⟨u,k b u j q⟩
theorem Un.mono(u:Un fs ex H g h h1)(hs:∀b∈fs,b∈d)(k:∀b∈ex,b∈f):Un d f H g h h1:=
 ⟨fun b ob q n m j=>u.keep b ob q n (fun z=>m (hs b z)) fun z=>j (k b z),fun v v q n v j=>u.any q n fun z=>j (k _ z),fun b ob q n j=>u.free b ob q n fun z=>j (k b z),fun b ob q j=>u.there b ob q fun z=>j (k b z),u.tups,u.bg,u.bi⟩
end
noncomputable def F5(h:Pu)(H:Hp):Ms Oa:=(List.range h.objs.size).filter fun a=>(H a).isSome
def yG(h:Pu)(H:Hp):Pu:=PySem.W.hideAll h (F5 h H)
theorem Cd(h:Pu)(H:Hp):(yG h H).objs.size=h.objs.size:=PySem.W.hideAll_size _ _
theorem Wc{h:Pu}{H:Hp}{b:Oa}{o:Obj}(e:h.get? b=ε o)(n:H b=none):(yG h H).get? b=ε o:=
 PySem.W.hideAll_get _ e fun a=>by have q:(H b).isSome=true:=(mem_filter.mp a).2;rw[n]at q;simp at q
theorem hI{h:Pu}{H:Hp}{b:Oa}{o:Obj}(e:(yG h H).get? b=ε o):h.get? b=ε o/\H b=none:=by
 have a:h.get? b=ε o:=PySem.W.of_hideAll (F5 h H) e;refine⟨a,?_⟩;cases q:H b with
 | none=>rfl
 | some x=>have d:b∈F5 h H:=mem_filter.mpr ⟨Ca.mpr (je a),by simp[q]⟩;have z:(yG h H).get? b=none:=PySem.W.hideAll_none (F5 h H) d;rw[z]at e;cases e
noncomputable def hL(g h:Pu)(L:Oa):Ms (Oa×Obj):=(List.range h.objs.size).filterMap fun a=>if a=L\/(g.get? a).isSome=true then none else(h.get? a).map fun o=>(a,o)
def rest(g h:Pu)(L d:Oa):Ms (Oa×Obj):=(hL g h L).filter fun p=>decide (p.1≠d)
structure Mod(K:Frag)(mg:Str->Option Value)(base:Heap):Prop where
 kin:K.In base
 glob:base.Ns mainGlobals mg
 blt:∃mb,base.Ns builtinsNs mb/\∀x:Str,x ≠ "__name__" ->mb x=bootBuiltins x
 nolimit:base.NoLimit
structure Cx where
 prog:Program
 w:World
 K:Frag
 mg:Str->Option Value
 base:Heap
 A:Around
 N:List Str
 s₀:Shared
 H₀:Hp
 env:Env
 outer:List Env
 stack:List Env
 ex:List Addr
 fn:Str->Bool
 calm:Bool
 pn:List (Addr×Obj)
 xe:Value->Shared->Prop
noncomputable def FK(l:Ms Env):Ms Oa:=l.filterMap (·.frame)
abbrev Cx.fs(X:Cx):Ms Oa:=FK X.outer
def Z4(a:Scope)(x:Str):Prop:=a.names.lookup x=ε .local\/a.names.lookup x=ε .cell\/a.names.lookup x=ε .free
def xK(a:Scope)(x:Str):Prop:=a.names.lookup x=ε .local\/a.names.lookup x=ε .cell
def P5(env:Env)(h:Pu)(m:Str->Ni Mu)(x:Str)(u:Mu):Prop:=
 (env.kindOf x=ε .local/\m x=ε u)\/((env.kindOf x=ε .cell\/env.kindOf x=ε .free)/\∃c,env.cells.lookup x=ε c/\h.IsCell c (ε u))
structure Cx.Ok(X:Cx):Prop where
 mod:Mod X.K X.mg X.base
 kind:X.env.scope.kind=.function
 glob:X.env.globals=mainGlobals
 blt:X.env.builtins=builtinsNs
 above:X.s₀.heap.objs.size<=X.env.locals
 inj:∀x y c,X.env.cells.lookup x=ε c->X.env.cells.lookup y=ε c->x=y
 has:∀x,(X.env.kindOf x=ε .cell\/X.env.kindOf x=ε .free)->∃c,X.env.cells.lookup x=ε c
 cab:∀x c,X.fn x=true->X.env.cells.lookup x=ε c->X.s₀.heap.objs.size<=c
 hd:X.calm=true->X.A.handled=none
 frames:X.A.frames=ε X.stack
 stk:X.stack=X.outer\/(X.stack=X.env::X.outer/\X.env.frame=ε X.env.locals)
 exf:∀b∈X.ex,b≠X.env.locals/\∀x c,X.env.cells.lookup x=ε c->c≠b
 bs:∀b o,X.base.get? b=ε o->X.s₀.heap.get? b=ε o/\X.H₀ b=none
 bsz:X.base.objs.size<=X.s₀.heap.objs.size
 de:∀b o,X.base.get? b=ε o->b∉X.ex
 dl:∀b∈X.ex,b∉X.fs
 bj:X.s₀.heap.FunFrames X.base X.outer
 frf:∀b∈X.fs,X.H₀ b=none
structure so(X:Cx)(pins:List (Addr×Obj))(σ:List (Option V))(H:Hp)(s:Shared):Prop where
 ok:X.Ok
 os:s.os=X.s₀.os
 bare:AllBare s.gens
 base:Un X.fs X.ex X.H₀ H X.s₀.heap s.heap
 loc:∃m,s.heap.Ns X.env.locals m/\∀(i:Nat)(x:Str)(v:V),X.N[i]?=ε x->σ[i]?=ε (ε v)->Z4 X.env.scope x->∃u,td v u/\P5 X.env s.heap m x u
 cell:∀x c,X.env.cells.lookup x=ε c->∃v,s.heap.IsCell c v
 free:H X.env.locals=none
 bq:∀x c,X.env.cells.lookup x=ε c->H c=none
 pin:∀p∈X.pn++pins,s.heap.get? p.1=ε p.2/\H p.1=none/\p.1≠X.env.locals/\p.1∉X.fs/\∀v,p.2.data≠.cell v
 hok:tA X.prog X.w H s.heap
 len:σ.length=X.N.length
section
variable{X:Cx}{f:Ms (Oa×Obj)}{g:Ms (Ni V)}{H w:Hp}{s:Nu}{h':Pu}
theorem Cx.Ok.hQ(ok:X.Ok){b:Oa}{o:Obj}(e:X.base.get? b=ε o):b∉X.fs:=fun a=>by have:=(ok.bj.mem a).1;rw[e]at this;cases this
theorem so.bs(I:so X f g H s):∀b o,X.base.get? b=ε o->s.heap.get? b=ε o/\H b=none:=fun b o e=>⟨I.base.keep b o (I.ok.bs b o e).1 (I.ok.bs b o e).2 (I.ok.hQ e) (I.ok.de b o e),I.base.free b o (I.ok.bs b o e).1 (I.ok.bs b o e).2 (I.ok.de b o e)⟩
theorem so.bk(I:so X f g H s):∀b o,X.base.get? b=ε o->s.heap.get? b=ε o:=fun b o e=>(I.bs b o e).1
theorem so.mod(I:so X f g H s):Mod X.K X.mg X.base:=I.ok.mod
theorem so.kIn(I:so X f g H s):X.K.In s.heap:=I.ok.mod.kin.keeps I.bk
theorem so.nolimit(I:so X f g H s):s.heap.NoLimit:=I.ok.mod.nolimit.keeps I.bk
theorem so.lt(I:so X f g H s):X.env.locals<s.heap.objs.size:=let ⟨_,hn,_⟩:=I.loc;hn.lt
theorem so.sz(I:so X f g H s):X.s₀.heap.objs.size<=s.heap.objs.size:=um I.ok.above (Di I.lt)
theorem so.hX(I:so X f g H s){a:Oa}(h:s.heap.objs.size<=a):a∉X.fs:=fun d=>by obtain⟨_,o,b,_⟩:=I.ok.bj.mem d;exact Ei (jo (je b) (um I.sz h)) (Fd _)
theorem so.cne(I:so X f g H s):∀x c,X.env.cells.lookup x=ε c->c≠X.env.locals:=fun x c e z=>by obtain⟨v,o,d,hd⟩:=I.cell x c e;obtain⟨m,⟨h,i,j,a,b,_⟩,_⟩:=I.loc;rw[z,a]at d;cases d;rw[b]at hd;cases hd
theorem so.bj(I:so X f g H s):s.heap.FunFrames X.base X.outer:=by
 have all:∀(l:Ms Env),(∀b∈FK l,b∈X.fs)->X.s₀.heap.FunFrames X.base l->s.heap.FunFrames X.base l:=by
  intro l
  induction l with
  | nil=>intro _ _;trivial
  | cons env r ih=>
   intro hs m;obtain⟨n,⟨L,o,a,k,j,hd⟩,i⟩:=m;have h:L∈X.fs:=hs L (by unfold FK;rw[filterMap_cons,a];exact uq);obtain⟨p,e⟩:=I.base.slot L o j (I.ok.frf L h) h fun z=>I.ok.dl L z h
   exact⟨n,⟨L,_,a,k,e,hd⟩,ih (fun b d=>hs b (by unfold FK;rw[filterMap_cons,a];exact ou _ d)) i⟩
 exact all X.outer (fun q d=>d) I.ok.bj
theorem so.stack(I:so X f g H s):s.heap.FunFrames X.base X.stack:=by
 rcases I.ok.stk with e | ⟨e,b⟩
 . rw[e];exact I.bj
 . rw[e];obtain⟨m,a,_⟩:=I.loc;refine .cons (by rw[I.ok.kind];decide) b a ?_ I.bj;exact Heap.get?_none_of_le (um I.ok.bsz I.ok.above)
theorem so.fg(I:so X f g H s):∀b∈FK X.stack,b∈X.env.locals::X.fs:=fun b a=>by
 rcases I.ok.stk with e | ⟨e,d⟩
 . rw[e]at a;exact ou _ a
 . rw[e]at a;unfold FK at a;rw[filterMap_cons,d]at a;exact a
theorem so.gm(I:so X f g H s):∀b∈FK X.stack,H b=none:=fun b hb=>by
 rcases Bo.mp (I.fg b hb)with e | hb
 . rw[e];exact I.free
 . obtain⟨_,o,a,_⟩:=I.ok.bj.mem hb;exact I.base.free b o a (I.ok.frf b hb) fun z=>I.ok.dl b z hb
theorem so.step{g':Pb GenState}{t':Nat}{d':Drawn}{ch:Ms Oa}(I:so X f g H s)
 (j:∀b∈ch,(b∈X.ex\/X.s₀.heap.objs.size<=b)/\b≠X.env.locals/\(∀x c,X.env.cells.lookup x=ε c->c≠b)/\∀p∈X.pn++f,p.1≠b)
 (keep:∀b o,b≠X.env.locals->b∉X.fs->b∉ch->s.heap.get? b=ε o->H b=none->h'.get? b=ε o)
 (slot:∀b o,b≠X.env.locals->b∈X.fs->b∉ch->s.heap.get? b=ε o->H b=none->∃P,h'.get? b=ε { o with slots:=P }) (free:∀b o,b∉ch->s.heap.get? b=ε o->H b=none->w b=none)
 (there:∀b o,b∉ch->s.heap.get? b=ε o->∃J,h'.get? b=ε J)
 (tups:∀b D,H b=ε (.tup D)->w b=ε (.tup D)) (bg:∀b o u,H b=ε (.frz o u)->w b=ε (.frz o u)) (bi:∀b M,H b=ε (.tbl M)->∃more,w b=ε (.tbl (M++more)))
 (ns:∀m,s.heap.Ns X.env.locals m->h'.Ns X.env.locals m) (hok:tA X.prog X.w w h') (Z:AllBare g') :
 so X f g w { s with heap:=h',gens:=g',drawn:=d',toks:=t' }:=by
 have L:∀b o,X.s₀.heap.get? b=ε o->b≠X.env.locals:=fun b o e=>rz (jo (je e) I.ok.above)
 have B:∀b o,X.s₀.heap.get? b=ε o->b∉X.ex->b∉ch:=fun b o e a E=>by
  rcases(j b E).1 with z | z
  . exact a z
  . exact Ei (jo (je e) z) (Fd _)
 have y:∀x c,X.env.cells.lookup x=ε c->∀v,s.heap.IsCell c v->h'.IsCell c v:=fun x c e v S=>by
  obtain⟨o,F,hd⟩:=S;have h:c∉ch:=fun z=>(j c z).2.2.1 x c e rfl
  by_cases R:c∈X.fs
  . obtain⟨P,q⟩:=slot c o (I.cne x c e) R h F (I.bq x c e);exact⟨_,q,hd⟩
  . exact⟨o,keep c o (I.cne x c e) R h F (I.bq x c e),hd⟩
 refine⟨I.ok,I.os,Z,⟨fun b o e n E a=>?_,fun b o e n E a=>?_,fun b o e n a=>?_,fun b o e a=>?_,fun b D e=>tups b D (I.base.tups b D e),fun b o D e=>bg b o D (I.base.bg b o D e),fun b M e=>?_⟩,?_,fun x c e=>?_,?_,fun x c e=>?_,fun p hp=>?_,hok,I.len⟩
 . exact keep b o (L b o e) E (B b o e a) (I.base.keep b o e n E a) (I.base.free b o e n a)
 . obtain⟨P,C⟩:=I.base.slot b o e n E a;obtain⟨O,e2⟩:=slot b _ (L b o e) E (B b o e a) C (I.base.free b o e n a);exact⟨O,e2⟩
 . obtain⟨J,C⟩:=I.base.there b o e a;exact free b J (B b o e a) C (I.base.free b o e n a)
 . obtain⟨J,C⟩:=I.base.there b o e a;exact there b J (B b o e a) C
 . obtain⟨U,C⟩:=I.base.bi b M e;obtain⟨T,e2⟩:=bi b _ C;exact⟨U++T,by rw[e2,Array.append_assoc]⟩
 . obtain⟨m,W,Y⟩:=I.loc;refine⟨m,ns m W,fun i x v C e2 e3=>?_⟩;obtain⟨u,r,l⟩:=Y i x v C e2 e3;refine⟨u,r,?_⟩;rcases l with l | ⟨k,c,e,z⟩
   . exact .inl l
   . exact .inr ⟨k,c,e,y x c e _ z⟩
 . obtain⟨v,z⟩:=I.cell x c e;exact⟨v,y x c e v z⟩
 . obtain⟨m,⟨o,_,_,F,_⟩,_⟩:=I.loc;exact free _ o (fun z=>(j _ z).2.1 rfl) F I.free
 . obtain⟨v,o,F,hd⟩:=I.cell x c e;exact free c o (fun z=>(j c z).2.2.1 x c e rfl) F (I.bq x c e)
 . obtain⟨e,n,ne,Q,d⟩:=I.pin p hp;have h:p.1∉ch:=fun z=>(j p.1 z).2.2.2 p hp rfl
   exact⟨keep p.1 p.2 ne Q h e n,free p.1 p.2 h e n,ne,Q,d⟩
theorem so.un{t':Nat}(I:so X f g H s)(u:Un X.fs [] H w s.heap h')(hok:tA X.prog X.w w h'):so X f g w { s with heap:=h',toks:=t' }:=by
 obtain⟨m,⟨o,C,D,j,r⟩,_⟩:=id I.loc;obtain⟨x,q⟩:=u.any j I.free ⋯;exact I.step (g':=s.gens) (d':=s.drawn) (ch:=[]) (fun v z=>nomatch z) (fun b o v d v e n=>u.keep b o e n d ⋯) (fun b o v d v e n=>u.slot b o e n d ⋯) (fun b o v e n=>u.free b o e n ⋯) (fun b o v e=>u.there b o e ⋯) u.tups u.bg u.bi (fun B p=>by
  obtain⟨y,h,i,a,k⟩:=p;rw[j]at a;cases a;exact⟨_,h,i,q,k⟩) hok I.bare
theorem so.call{g':Pb GenState}{t':Nat}{d':Drawn}{ch:Ms Oa}(I:so X f g H s)(u:Un (FK X.stack) ch H w s.heap h')(hok:tA X.prog X.w w h')(C:AllBare g')
 (h:∀b∈ch,(b∈X.ex\/X.s₀.heap.objs.size<=b)/\b≠X.env.locals/\(∀x c,X.env.cells.lookup x=ε c->c≠b)/\∀p∈X.pn++f,p.1≠b) :
 so X f g w { s with heap:=h',gens:=g',drawn:=d',toks:=t' }:=by
 obtain⟨m,⟨o,L,M,q,r⟩,_⟩:=id I.loc;obtain⟨E,i⟩:=u.any q I.free fun z=>(h _ z).2.1 rfl
 exact I.step (ch:=ch) h (fun b o i D a e n=>u.keep b o e n (fun z=>(Bo.mp (I.fg b z)).elim i D) a) (fun b o v v a e n=>u.any e n a) (fun b o a e n=>u.free b o e n a) (fun b o a e=>u.there b o e a) u.tups u.bg u.bi (fun J B=>by
  obtain⟨F,j,k,d,y⟩:=B;rw[q]at d;cases d;exact⟨_,j,k,i,y⟩) hok C
theorem so.turned{t':Nat}{it:Oa}(I:so X f g H s)(k:∀b o,b≠it->s.heap.get? b=ε o->h'.get? b=ε o)(j:H it=none)(h:it≠X.env.locals)
 (h1:it∈X.ex\/X.s₀.heap.objs.size<=it) (h2:∀x c,X.env.cells.lookup x=ε c->c≠it) (C:∀p∈X.pn++f,p.1≠it):so X f g H { s with heap:=h',toks:=t' }:=by
 have d:∀b u,H b=ε u->b≠it:=fun b u e z=>by rw[z,j]at e;cases e
 refine I.step (g':=s.gens) (d':=s.drawn) (ch:=[it]) (fun b B=>?_) (fun b o t t a e t=>k b o (fun z=>a (by simp[z])) e) (fun b o t t a e t=>⟨o.slots,k b o (fun z=>a (by simp[z])) e⟩) (fun t t t t n=>n)
  (fun b o a e=>⟨o,k b o (fun z=>a (by simp[z])) e⟩) (fun t t e=>e) (fun t t t e=>e) (fun b F e=>⟨#[],by rw[e];simp⟩) (fun m y=>?_) (fun b u e=>?_) I.bare
 . have e:b=it:=by simpa using B
   subst e;exact⟨h1,h,h2,C⟩
 . obtain⟨o,D,E,i,r⟩:=y;exact⟨o,D,E,k _ o (nW h) i,r⟩
 . refine(I.hok b u e).stay (fun c v a q=>k c v ?_ q) (fun t q=>q) fun t t q=>q
   rcases a with z | z
   . rw[z];exact d b u e
   . exact d c _ z
theorem so.tok(I:so X f g H s)(t:Nat):so X f g H { s with toks:=t }:=I.un (h':=s.heap) (t':=t) Un.refl I.hok
theorem so.kept{t':Nat}(I:so X f g H s)(k:∀b u,s.heap.get? b=ε u->h'.get? b=ε u):so X f g H { s with heap:=h',toks:=t' }:=I.un (Un.kept k) (I.hok.kept k)
theorem so.laid{a:Oa}{o:HO}{t':Nat}(I:so X f g H s)(k:∀b u,s.heap.get? b=ε u->h'.get? b=ε u)(hp:s.heap.objs.size<=a)(new:Yu X.prog X.w (IB H a o) h' a o) :
 so X f g (IB H a o) { s with heap:=h',toks:=t' }:=I.un (Un.laid k hp (I.hok.fresh hp)) (I.hok.laid k hp new)
theorem so.write{x e:Oa}{o:HO}{t':Nat}(I:so X f g H s)(d:MU (H x))(he:e=x\/H e=ε (.own x))(k:∀b u,b≠e->s.heap.get? b=ε u->h'.get? b=ε u)(a:∃u,h'.get? e=ε u)
 (new:Yu X.prog X.w (IB H x o) h' x o):so X f g (IB H x o) { s with heap:=h',toks:=t' }:=I.un (Un.write d he k a) (I.hok.write d he k a new)
theorem so.gp{a:Ms (Oa×Obj)}(I:so X f g H s)(h:∀p∈a,s.heap.get? p.1=ε p.2/\H p.1=none/\p.1≠X.env.locals/\p.1∉X.fs/\∀v,p.2.data≠.cell v):so X a g H s:=
 ⟨I.ok,I.os,I.bare,I.base,I.loc,I.cell,I.free,I.bq,fun p hp=>(Bs.mp hp).elim (fun z=>I.pin p (zc _ z)) (h p),I.hok,I.len⟩
theorem FY{N:Ms Str}(d:N.Nodup){i j:Nat}{x:Str}(a:N[i]?=ε x)(b:N[j]?=ε x):i=j:=by obtain⟨k,e⟩:=Wi a;obtain⟨h,e2⟩:=Wi b;exact(getElem_inj d).mp (e.trans e2.symm)
theorem jY{M:Model}{A:Pa}{E:Mu->Nu->Prop}{i:Nat}{x:Str}{v:V}{u:Mu}{Q:Unit->Nu->Prop}(I:so X f g H s)(hN:X.N.Nodup)(R:X.N[i]?=ε x)(C:xK X.env.scope x)(r:td v u)
 (h:∀s',so X f (g.set i (ε v)) H s'->(∃a,Heap.SameBut a s.heap s'.heap/\(a=X.env.locals\/X.env.cells.lookup x=ε a))->Q () s') (hf:autoParam (X.fn x=true\/X.env.scope.names.lookup x=ε .local) Ø):wpAny M A (storeName X.env x u) Q E s:=by
 obtain⟨m,hn,hl⟩:=id I.loc;have S:(X.env.scope.kind==.class || (X.env.scope.kind==.module&&X.env.locals !=X.env.globals))=false:=by rw[I.ok.kind];rfl
 have F:i<g.length:=by rw[I.len];exact(Wi R).1
 have cne:=I.cne;have tracked:∀{a:Oa}{h':Pu},(∃o,s.heap.get? a=ε o/\H a=none)->Heap.SameBut a s.heap h'->tA X.prog X.w H h':=fun {a h'} ha hs b ob e=>by
  obtain⟨_,_,D⟩:=ha;refine(I.hok b ob e).stay (fun c W hc q=>(hs.2 c ?_).trans q) (fun t q=>q) fun t t q=>q
  rintro rfl;rcases hc with rfl | hc
  . rw[D]at e;cases e
  . rw[D]at hc;cases hc
 rcases C with hk | hk
 . refine wpAny_storeName_local hk hn (fun h' a1 hs=>?_) S;obtain⟨oL,_,_,a0,_⟩:=id hn;refine h _ ⟨I.ok,I.os,I.bare,⟨fun b o e n O C=>?_,fun b o e n O C=>?_,I.base.free,fun b o e C=>?_,I.base.tups,I.base.bg,I.base.bi⟩,⟨_,a1,fun j y v' B e2 e3=>?_⟩,fun y c e=>?_,I.free,I.bq,fun p hp=>?_,tracked ⟨oL,a0,I.free⟩ hs,by simpa using I.len⟩ ⟨_,hs,.inl rfl⟩
   . exact(hs.2 b (rz (jo (je e) I.ok.above))).trans (I.base.keep b o e n O C)
   . obtain⟨sl,B⟩:=I.base.slot b o e n O C;exact⟨sl,(hs.2 b (rz (jo (je e) I.ok.above))).trans B⟩
   . obtain⟨o',B⟩:=I.base.there b o e C;exact⟨o',(hs.2 b (rz (jo (je e) I.ok.above))).trans B⟩
   . by_cases J:j=i
     . subst J;rw[R]at B;cases B;rw[uo F]at e2;cases e2;exact⟨u,r,.inl ⟨hk,by simp⟩⟩
     . rw[m8 (nW J)]at e2;obtain⟨u',r',q⟩:=hl j y v' B e2 e3;refine⟨u',r',?_⟩;rcases q with⟨k,e⟩ | ⟨k,c,e,z⟩
       . refine .inl ⟨k,?_⟩;have:y≠x:=fun e=>J (FY hN B (e ▸ R))
         simp[this,e]
       . exact .inr ⟨k,c,e,z.sameBut hs (cne y c e)⟩
   . obtain⟨W,z⟩:=I.cell y c e;exact⟨W,z.sameBut hs (cne y c e)⟩
   . obtain⟨e,n,ne,nf,d⟩:=I.pin p hp;exact⟨(hs.2 p.1 ne).trans e,n,ne,nf,d⟩
 . have L:X.fn x=true:=by
    rcases hf with z | z
    . exact z
    . rw[z]at hk;cases hk
   obtain⟨c,hc⟩:=I.ok.has x (.inl hk);obtain⟨W,z⟩:=I.cell x c hc;refine wpAny_storeName_cell I.ok.kind hk hc z (fun h' U hs=>?_);obtain⟨oc,P,Z⟩:=id z;refine h { s with heap:=h' } ⟨I.ok,I.os,I.bare,⟨fun b o e n O C=>?_,fun b o e n O C=>?_,I.base.free,fun b o e C=>?_,I.base.tups,I.base.bg,I.base.bi⟩,⟨m,hn.sameBut hs (nW (cne x c hc)),fun j y v' B e2 e3=>?_⟩,fun y Y e=>?_,I.free,I.bq,fun p hp=>?_,tracked ⟨oc,P,I.bq x c hc⟩ hs,by simpa using I.len⟩ ⟨c,hs,.inr hc⟩
   . exact(hs.2 b (rz (jo (je e) (I.ok.cab x c L hc)))).trans (I.base.keep b o e n O C)
   . obtain⟨sl,B⟩:=I.base.slot b o e n O C;exact⟨sl,(hs.2 b (rz (jo (je e) (I.ok.cab x c L hc)))).trans B⟩
   . obtain⟨o',B⟩:=I.base.there b o e C;exact⟨o',(hs.2 b (rz (jo (je e) (I.ok.cab x c L hc)))).trans B⟩
   . by_cases J:j=i
     . subst J;rw[R]at B;cases B;rw[uo F]at e2;cases e2;exact⟨u,r,.inr ⟨.inl hk,c,hc,U⟩⟩
     . rw[m8 (nW J)]at e2;obtain⟨u',r',q⟩:=hl j y v' B e2 e3;refine⟨u',r',?_⟩;rcases q with q | ⟨k,Y,e,z'⟩
       . exact .inl q
       . refine .inr ⟨k,Y,e,z'.sameBut hs ?_⟩;rintro rfl;exact J (FY hN B (I.ok.inj _ _ _ e hc ▸ R))
   . by_cases T:Y=c
     . subst T;exact⟨_,U⟩
     . obtain⟨w2,z2⟩:=I.cell y Y e;exact⟨w2,z2.sameBut hs T⟩
   . obtain⟨e,n,ne,nf,d⟩:=I.pin p hp;refine⟨(hs.2 p.1 ?_).trans e,n,ne,nf,d⟩;intro q;rw[q,P]at e;have q':oc=p.2:=tu e;exact d W (by rw[<- q'];exact Z)
theorem gZ{M:Model}{A:Pa}{E:Mu->Nu->Prop}{i:Nat}{x:Str}{v:V}{u:Mu}{Q:Unit->Nu->Prop}(I:so X f g H s)(j:X.N.Nodup)(d:X.N[i]?=ε x)(b:xK X.env.scope x)(r:td v u)
 (h:∀a,so X f (g.set i (ε v)) H a->Q () a) (e:autoParam (X.fn x=true\/X.env.scope.names.lookup x=ε .local) Ø):wpAny M A (storeName X.env x u) Q E s:=
 jY I j d b r (fun a k q=>h a k) e
theorem so.call'{s':Nu}{ch:Ms Oa}(I:so X f g H s)(h:s'.os=s.os)(u:Un (FK X.stack) ch H w s.heap s'.heap)(hok:tA X.prog X.w w s'.heap)(i:AllBare s'.gens)
 (a:∀b∈ch,(b∈X.ex\/X.s₀.heap.objs.size<=b)/\b≠X.env.locals/\(∀x c,X.env.cells.lookup x=ε c->c≠b)/\∀p∈X.pn++f,p.1≠b):so X f g w s':=by
 obtain⟨h',g',d',t',d⟩:=s';have e:d=s.os:=h;subst e;exact I.call (g':=g') (t':=t') (d':=d') u hok i a
end
abbrev XK:=Mu->Ni Oa->Hp->Prop
noncomputable abbrev St:=Ms (Ni V)
abbrev VK:=V->Hp->Prop
abbrev TE:=St->Hp->VK->Prop
abbrev TT:=St->Hp->(Bool->Hp->Prop)->Prop
abbrev TA:=St->Hp->(Ms V->Hp->Prop)->Prop
structure ZG where
 nx:St->Hp->Prop
 rt:VK
 bk:St->Hp->Prop:=fun _ _=>False
 ct:St->Hp->Prop:=fun _ _=>False
abbrev TS:=ZG->St->Hp->Prop
def EP(X:Cx)(a:Ms (Oa×Obj))(d:St)(Q:VK)(u:Mu)(e:Nu):Prop:=∃v b,so X a d b e/\td v u/\Q v b
def TP(X:Cx)(a:Ms (Oa×Obj))(e:St)(Q:Bool->Hp->Prop)(b:Bool)(g:Nu):Prop:=∃d,so X a e d g/\Q b d
def AP(X:Cx)(a:Ms (Oa×Obj))(e:St)(Q:Ms V->Hp->Prop)(us:Ms Mu)(g:Nu):Prop:=∃b d,so X a e d g/\ss b us/\Q b d
set_option tactic.hygienic true in
def SP(X:Cx)(b:Ms (Oa×Obj))(D:ZG)(f:Flow)(e:Nu):Prop:=
 match f with
 | .next=>∃a d,so X b a d e/\D.nx a d
 | .brk=>∃a d,so X b a d e/\D.bk a d
 | .cont=>∃a d,so X b a d e/\D.ct a d
 | .ret u=>∃v a d,so X b a d e/\td v u/\D.rt v d
def PE(X:Cx)(e:Oe)(t:TE):Prop:=
 ∀(a:Ms (Oa×Obj))(s:Nu)(b:St)(H:Hp)(Q:VK),so X a b H s->t b H Q->wpAny (model X.prog X.w) X.A (eval e X.env) (EP X a b Q) X.xe s
def PT(X:Cx)(e:Oe)(t:TT):Prop:=
 ∀(a:Ms (Oa×Obj))(s:Nu)(b:St)(H:Hp)(Q:Bool->Hp->Prop),so X a b H s->t b H Q->wpAny (model X.prog X.w) X.A (isTrue e X.env (eval e X.env)) (TP X a b Q) X.xe s
def PW(X:Cx)(e:Oe)(t:TT):Prop:=
 ∀(b:Sem Mu)(a:Ms (Oa×Obj))(s:Nu)(d:St)(H:Hp)(Q:Bool->Hp->Prop),so X a d H s->t d H Q->wpAny (model X.prog X.w) X.A (isTrue e X.env b) (TP X a d Q) X.xe s
theorem PW.pt{X:Cx}{e:Oe}{t:TT}(h:PW X e t):PT X e t:=h _
def PA(X:Cx)(d:Ms Oe)(t:TA):Prop:=
 ∀(pos:Pos)(a:Ms (Oa×Obj))(s:Nu)(b:St)(H:Hp)(Q:Ms V->Hp->Prop),so X a b H s->t b H Q->wpAny (model X.prog X.w) X.A (spliced (backTo pos (starEach d X.env))) (AP X a b Q) X.xe s
def PS(X:Cx)(st:Ou)(t:TS):Prop:=
 ∀(a:Ms (Oa×Obj))(s:Nu)(b:St)(H:Hp)(D:ZG),so X a b H s->t D b H->wpAny (model X.prog X.w) X.A (exec st X.env) (SP X a D) X.xe s
def PSs(X:Cx)(st:Ms Ou)(t:TS):Prop:=
 ∀(a:Ms (Oa×Obj))(s:Nu)(b:St)(H:Hp)(D:ZG),so X a b H s->t D b H->wpAny (model X.prog X.w) X.A (execs st X.env) (SP X a D) X.xe s
theorem HB{b:Type}{t:Sem b}{Q d:b->Nu->Prop}{M:Model}{A:Pa}{E:Mu->Nu->Prop}{s:Nu}(h:wpAny M A t Q E s)(e:∀a s,Q a s->d a s):wpAny M A t d E s:=Hs h e fun q q x=>x
section
variable{X:Cx}
noncomputable def D7(i:Nat):TE:=fun a H Q=>∃v,a[i]?=ε (ε v)/\Q v H
noncomputable def tC(v:V):TE:=fun _ H Q=>Q v H
theorem X9 {i:Nat} {x:Str} {pos:Pos} (y:X.N[i]?=ε x) (n:Z4 X.env.scope x) (hd:autoParam ((x==("__debug__" :Str))=false) Ñ) (g:autoParam ((x==("__classdict__" :Str))=false) Ñ):PE X (.Name x pos) (D7 i):=by
 intro d s k H Q I h;obtain⟨v,e,h⟩:=h;obtain⟨m,o,q⟩:=I.loc;obtain⟨u,r,l⟩:=q i x v y e n;have b:EP X d k Q u s:=⟨v,H,I,r,h⟩;rcases l with⟨hk,p⟩ | ⟨hk,c,j,a⟩
 . exact wpAny_Name (wpAny_loadName_local I.ok.kind hk o p b) hd
 . rcases hk with hk | hk
   . exact wpAny_Name (wpAny_loadName_cell I.ok.kind hk j a b) hd
   . exact wpAny_Name (wpAny_loadName_free I.ok.kind hk j a b g) hd
theorem R9{i j pos}:PE X (.Constant (.int i) j pos) (tC (.int i)):=fun q q q H q I h=>wpAny_Constant_int ⟨.int i,H,I.tok _,⟨_,rfl⟩,h⟩
theorem Yq{b j pos}:PE X (.Constant (.bool b) j pos) (tC (.bl b)):=fun q q q H q I h=>Constant_bool ⟨.bl b,H,I,rfl,h⟩
theorem S9{j pos}:PE X (.Constant .none j pos) (tC .non):=fun q q q H q I h=>Constant_none ⟨.non,H,I,rfl,h⟩
theorem W9{x j pos}:PE X (.Constant (.str x) j pos) (tC (.str x)):=fun q q q H q I h=>Calls.Constant_str ⟨.str x,H,I.tok _,⟨_,rfl⟩,h⟩
def Gl(X:Cx)(x:Str):Prop:=X.env.kindOf x=ε .globalImplicit
theorem uP{E:Mu->Nu->Prop}{a:Ms (Oa×Obj)}{s:Nu}{b:St}{H:Hp}{x:Str}{u:Mu}{pos:Pos}{Q:Mu->Nu->Prop}(I:so X a b H s)(e:Gl X x)(d:X.mg x=ε u)(h:Q u s)
 (hd:autoParam ((x==("__debug__" :Str))=false) Ñ):wpAny (model X.prog X.w) X.A (eval (.Name x pos) X.env) Q E s:=
 Calls.Name_function_global I.ok.kind e (Calls.loadGlobal_global (by rw[I.ok.glob];exact I.mod.glob.keeps I.bk) d h) hd
theorem LG{E:Mu->Nu->Prop}{a:Ms (Oa×Obj)}{s:Nu}{b:St}{H:Hp}{x:Str}{u:Mu}{pos:Pos}{Q:Mu->Nu->Prop}(I:so X a b H s)(i:Gl X x)(g:X.mg x=none)(d:bootBuiltins x=ε u)(h:Q u s)
 (e:autoParam (x ≠ "__name__" ) Ñ) (hd:autoParam ((x==("__debug__" :Str))=false) Ñ):wpAny (model X.prog X.w) X.A (eval (.Name x pos) X.env) Q E s:=by
 obtain⟨m,k,j⟩:=I.mod.blt;exact Calls.Name_function_global I.ok.kind i (Calls.loadGlobal_builtin (by rw[I.ok.glob];exact I.mod.glob.keeps I.bk) g (by rw[I.ok.blt];exact k.keeps I.bk) ((j x e).trans d) h) hd
theorem hY {x:Str} {v:V} {u:Mu} {pos:Pos} (b:Gl X x) (a:X.mg x=ε u) (r:td v u) (hd:autoParam ((x==("__debug__" :Str))=false) Ñ):PE X (.Name x pos) (tC v):=
 fun q q q H q I h=>uP I b a ⟨v,H,I,r,h⟩ hd
theorem hZ {x:Str} {v:V} {u:Mu} {pos:Pos} (e:Gl X x) (d:X.mg x=none) (a:bootBuiltins x=ε u) (r:td v u) (b:autoParam (x ≠ "__name__" ) Ñ) (hd:autoParam ((x==("__debug__" :Str))=false) Ñ):PE X (.Name x pos) (tC v):=
 fun q q q H q I h=>LG I e d a ⟨v,H,I,r,h⟩ b hd
variable{a b:Oe}{f n:TE}{pos:Pos}
noncomputable def tB(t:TE):TT:=fun d H Q=>t d H fun x e=>∃c,x=.bl c/\Q c e
theorem n9{e:Oe}{t:TE}(h:PE X e t)(he:autoParam (∀g,isTrue e X.env g=(do let v <- g;standAt e.pos;holding [v] (truthy v))) å):PT X e (tB t):=by intro i s j H Q I hw;refine isTrue_plain (HB (h i s j H _ I hw) fun v r k=>?_) (he _);obtain⟨x,p,o,m,q1⟩:=k;obtain⟨d,rfl,q⟩:=q1;cases m;exact Fo ⟨p,o,q⟩
variable{g k:TT}{rest:Ms Oe}
noncomputable def l7(t u:TT):TT:=fun d H Q=>t d H fun c e=>if c=true then u d e Q else Q false e
noncomputable def tOr(t u:TT):TT:=fun d H Q=>t d H fun c e=>if c=true then Q true e else u d e Q
noncomputable def v7(t:TT):TT:=fun d H Q=>t d H fun c e=>Q (!c) e
theorem ia(j:PT X a g):PW X (.BoolOp .And [a] pos) g:=by
 intro m d s i H Q I h;refine isTrue_and (HB (j d s i H Q I h) fun c o e=>?_);cases c with
 | true=>exact isTrue_and_nil e
 | false=>exact e
theorem p9(j:PT X a g):PW X (.BoolOp .Or [a] pos) g:=by
 intro m d s i H Q I h;refine isTrue_or (HB (j d s i H Q I h) fun c o e=>?_);cases c with
 | false=>exact isTrue_or_nil e
 | true=>exact e
theorem o9(r:PT X a g)(q:PW X (.BoolOp .And (b::rest) pos) k):PW X (.BoolOp .And (a::b::rest) pos) (l7 g k):=by
 intro o d s e H Q I h;refine isTrue_and (HB (r d s e H _ I h) fun c p m=>?_);obtain⟨j,i,q1⟩:=m;cases c with
 | true=>exact q o d p e j Q i q1
 | false=>exact⟨j,i,q1⟩
theorem Wj(r:PT X a g)(q:PW X (.BoolOp .Or (b::rest) pos) k):PW X (.BoolOp .Or (a::b::rest) pos) (tOr g k):=by
 intro o d s e H Q I h;refine isTrue_or (HB (r d s e H _ I h) fun c p m=>?_);obtain⟨j,i,q1⟩:=m;cases c with
 | true=>exact⟨j,i,q1⟩
 | false=>exact q o d p e j Q i q1
theorem mj(i:PT X a g):PT X (.UnaryOp .Not a pos) (v7 g):=by intro d s e H Q I h;exact isTrue_not (i d s e H (fun c j=>Q (!c) j) I h)
noncomputable def jz(f n:TE):TE:=fun d H Q=>f d H fun x e=>∃c,x=.bl c/\if c=true then n d e Q else Q (.bl false) e
noncomputable def Dz(f:TE):TE:=fun d H Q=>f d H fun x e=>∃c,x=.bl c/\Q (.bl (!c)) e
theorem V9{op}{t:TE}(h:PE X a t):PE X (.BoolOp op [a] pos) t:=fun d s e H Q I hw=>BoolOp_one (h d s e H Q I hw)
theorem O9(r:PE X a f)(q:PE X (.BoolOp .And (b::rest) pos) n):PE X (.BoolOp .And (a::b::rest) pos) (jz f n):=by
 intro d s e H Q I h;refine BoolOp_and (HB (r d s e H _ I h) fun v o m=>?_);obtain⟨x,j,i,p,q1⟩:=m;obtain⟨c,rfl,q1⟩:=q1;cases p;refine Fo ?_;cases c with
 | true=>exact q d o e j Q i q1
 | false=>exact⟨.bl false,j,i,rfl,q1⟩
theorem T9(m:PE X a f):PE X (.UnaryOp .Not a pos) (Dz f):=by intro d s e H Q I h;refine UnaryOp_ (HB (m d s e H _ I h) fun v q i=>?_);obtain⟨x,p,o,j,q1⟩:=i;obtain⟨c,rfl,q1⟩:=q1;cases j;exact not_of (Fo ⟨.bl (!c),p,o,rfl,q1⟩)
noncomputable def tIf(t:TT)(f n:TE):TE:=fun d H Q=>t d H fun c e=>if c=true then f d e Q else n d e Q
theorem Ym{c:Oe}(q:PT X c g)(u:PE X a f)(r:PE X b n):PE X (.IfExp c a b pos) (tIf g f n):=by
 intro e s i H Q I h;refine wpAny_IfExp (HB (q e s i H _ I h) fun d j p=>?_);obtain⟨o,m,q1⟩:=p;cases d with
 | true=>exact u e j i o Q m q1
 | false=>exact r e j i o Q m q1
end
def to(K:Oi)(H:Hp)(a:Oa)(xs:Ms V):Prop:=
 Rd H a (.lst xs)\/
  ∃(o:Obj) (b:Pb Mu) (n:Nat),K.lookup a=ε o/\o.cls=.type "list" /\ o.dict=none/\o.data=.seq b n/\b.size<=sizeLine/\ss xs b.toList
def tG(K:Oi)(H:Hp)(a:Oa)(xs:Ms V):Prop:=
 Rd H a (.tup xs)\/
  ∃(o:Obj) (b:Pb Mu) (n:Nat),K.lookup a=ε o/\o.cls=.type "tuple" /\ o.data=.seq b n/\b.size<=sizeLine/\ss xs b.toList
noncomputable def Z5:Mu->Ni V
 | .none=>ε .non
 | .bool b=>ε (.bl b)
 | .int i _=>ε (.int i)
 | .str x _=>ε (.str x)
 | .bytes b _=>ε (.byt b)
 | .float b _=>ε (.flt b)
 | .ref a=>ε (.ref a)
 | .type n=>ε (.ty n)
 | _=>none
theorem td.abs{x:V}{u:Mu}(r:td x u):Z5 u=ε x:=by
 cases x with
 | non=>cases r;rfl
 | bl _=>cases r;rfl
 | int _=>obtain⟨t,rfl⟩:=r;rfl
 | str _=>obtain⟨t,rfl⟩:=r;rfl
 | byt _=>obtain⟨t,rfl⟩:=r;rfl
 | flt _=>obtain⟨t,rfl⟩:=r;rfl
 | ref _=>cases r;rfl
 | ty _=>cases r;rfl
theorem td.inj{x y:V}{u:Mu}(r:td x u)(q:td y u):x=y:=tu (r.abs.symm.trans q.abs)
theorem ss.inj:∀{xs ys:Ms V}{us:Ms Mu},ss xs us->ss ys us->xs=ys
 | _,_,_,.nil,.nil=>rfl
 | _,_,_,.cons r t,.cons r' t'=>by rw[r.inj r',ss.inj t t']
section
variable{X:Cx}{b:Ms (Oa×Obj)}{c:St}{H:Hp}{s:Nu}{a:Oa}{xs ys:Ms V}
theorem to.of{K:Oi}(h:H a=ε (.lst xs)):to K H a xs:=.inl (.inl h)
theorem so.list(I:so X b c H s)(h:to X.K H a xs):∃d:Ms Mu,ss xs d/\PlainL s.heap a d.toArray/\xs.length<=sizeLine:=by
 rcases h with h | ⟨o,d,n,g,i,hd,hs,j,r⟩
 . obtain⟨z,d,n,r,e⟩:=h.ok I.hok;exact⟨d,r,⟨_,n,e,rfl,rfl,rfl⟩,z⟩
 . refine⟨d.toList,r,⟨o,n,I.kIn a o g,i,hd,by simpa using hs⟩,?_⟩;have e:=r.length;simp![z7]at e;omega
theorem so.tuple(I:so X b c H s)(h:tG X.K H a xs):∃d:Ms Mu,ss xs d/\IsTup s.heap a d.toArray/\xs.length<=sizeLine:=by
 rcases h with h | ⟨o,d,n,g,i,hs,j,r⟩
 . obtain⟨z,d,r,p⟩:=h.ok I.hok;exact⟨d,r,p,z⟩
 . refine⟨d.toList,r,⟨o,I.kIn a o g,i,n,by simpa using hs⟩,?_⟩;have e:=r.length;simp![z7]at e;omega
theorem so.ey(I:so X b c H s)(h:to X.K H a xs)(h':to X.K H a ys):xs=ys:=by
 obtain⟨g,r,⟨o,n,e,_,_,d⟩,_⟩:=I.list h;obtain⟨its',k,⟨p,q,i,_,_,j⟩,_⟩:=I.list h';rw[e]at i;cases i;rw[d]at j;injection j with m _
 have:g=its':=by simpa using congrArg Array.toList m
 subst this;exact r.inj k
theorem so.gr(I:so X b c H s)(h:tG X.K H a xs)(h':tG X.K H a ys):xs=ys:=by
 obtain⟨g,r,⟨o,e,_,n,d⟩,_⟩:=I.tuple h;obtain⟨its',k,⟨p,i,_,q,j⟩,_⟩:=I.tuple h';rw[e]at i;cases i;rw[d]at j;injection j with m _
 have:g=its':=by simpa using congrArg Array.toList m
 subst this;exact r.inj k
end
noncomputable abbrev Cx.wish(X:Cx)(E:Mu->Nu->Prop):Cx:={ X with xe:=E }
abbrev Cx.nox(X:Cx):Cx:=X.wish fun _ _=>False
theorem Cx.Ok.wish{X:Cx}(ok:X.Ok)(E:Mu->Nu->Prop):(X.wish E).Ok:=
 ⟨ok.mod,ok.kind,ok.glob,ok.blt,ok.above,ok.inj,ok.has,ok.cab,ok.hd,ok.frames,ok.stk,ok.exf,ok.bs,ok.bsz,ok.de,ok.dl,ok.bj,ok.frf⟩
theorem Cx.Ok.bz{X:Cx}{E:Mu->Nu->Prop}(ok:(X.wish E).Ok):X.Ok:=
 ⟨ok.mod,ok.kind,ok.glob,ok.blt,ok.above,ok.inj,ok.has,ok.cab,ok.hd,ok.frames,ok.stk,ok.exf,ok.bs,ok.bsz,ok.de,ok.dl,ok.bj,ok.frf⟩
section
variable{X:Cx}{a:Ms (Oa×Obj)}{b:St}{H:Hp}{s:Nu}{E:Mu->Nu->Prop}
theorem so.wish(I:so X a b H s)(E:Mu->Nu->Prop):so (X.wish E) a b H s:=⟨I.ok.wish E,I.os,I.bare,I.base,I.loc,I.cell,I.free,I.bq,I.pin,I.hok,I.len⟩
theorem so.bz(I:so (X.wish E) a b H s):so X a b H s:=⟨I.ok.bz,I.os,I.bare,I.base,I.loc,I.cell,I.free,I.bq,I.pin,I.hok,I.len⟩
set_option tactic.hygienic true in
theorem SP.bz{D:ZG}{f:Flow}{s':Nu}(h:SP (X.wish E) a D f s'):SP X a D f s':=by
 cases f with
 | next=>obtain⟨d,e,I,q⟩:=h;exact⟨d,e,I.bz,q⟩
 | brk=>obtain⟨d,e,I,q⟩:=h;exact⟨d,e,I.bz,q⟩
 | cont=>obtain⟨d,e,I,q⟩:=h;exact⟨d,e,I.bz,q⟩
 | ret u=>obtain⟨v,d,e,I,r,q⟩:=h;exact⟨v,d,e,I.bz,r,q⟩
theorem PSs.nox{st:Ms Ou}{t:TS}(h:PSs X.nox st t):PSs X st t:=fun a s b H D I hw=>Hs (h a s b H D (I.wish _) hw) (fun v v q=>q.bz) fun v v z=>Fe z
end
section
variable{X:Cx}{st:Ou}{rest:Ms Ou}{t u:TS}{e:Oe}{te:TE}{pos:Pos}
noncomputable def Cz:TS:=fun D a H=>D.nx a H
noncomputable def B7(t u:TS):TS:=fun D a H=>t { D with nx:=u D } a H
theorem ib:PSs X [] Cz:=fun q q a H q I h=>wpAny_execs_nil ⟨a,H,I,h⟩
theorem Il(h1:PS X st t)(h2:PSs X rest u):PSs X (st::rest) (B7 t u):=by
 intro a s d H D I h;refine wpAny_execs_cons (HB (h1 a s d H { D with nx:=u D } I h) fun f g q=>?_);cases f with
 | next=>obtain⟨b,j,i,q⟩:=q;exact h2 a g b j D i q
 | ret v=>exact q
 | brk=>exact q
 | cont=>exact q
theorem ic(h1:PS X st t):PSs X [st] t:=by
 intro a s b H D I h;refine wpAny_execs_cons (HB (h1 a s b H D I h) fun f d q=>?_);cases f with
 | next=>exact wpAny_execs_nil q
 | ret v=>exact q
 | brk=>exact q
 | cont=>exact q
theorem so.quiet{a:Ms (Oa×Obj)}{b:St}{H:Hp}{s:Nu}(I:so X a b H s):interactive X.env=false:=by simp[interactive,I.ok.kind]
noncomputable def mz(te:TE):TS:=fun D a H=>te a H fun _ b=>D.nx a b
theorem ie(he:PE X e te)(hs:autoParam (swapsWith e none pos.line X.env=pure false) Æ):PS X (.Expr e pos) (mz te):=by intro a s b H D I h;exact wpAny_Expr_any (HB (he a s b H _ I h) fun v i ⟨x,g,d,j,q1⟩=>⟨b,g,d,q1⟩) I.quiet hs
noncomputable def A7(te:TE):TS:=fun D a H=>te a H D.rt
theorem gj(he:PE X e te):PS X (.Return (ε e) pos) (A7 te):=by intro a s b H D I h;exact wpAny_Return_some (HB (he a s b H _ I h) fun v j ⟨x,i,g,d,q1⟩=>⟨x,b,i,g,d,q1⟩)
noncomputable def u7(c:TT)(t u:TS):TS:=fun D a H=>c a H fun b d=>if b=true then t D a d else u D a d
theorem Vj{c:Oe}{a b:Ms Ou}{tc:TT}(o:PT X c tc)(q:PSs X a t)(p:PSs X b u):PS X (.If c a b pos) (u7 tc t u):=by
 intro g s i H D I h;refine wpAny_If (HB (o g s i H _ I h) fun d j n=>?_);obtain⟨m,k,q1⟩:=n;cases d with
 | true=>exact q g j i m D k q1
 | false=>exact p g j i m D k q1
end
abbrev TG:=V->St->Hp->(St->Hp->Prop)->Prop
abbrev FQ:=Ms V->St->Hp->(St->Hp->Prop)->Prop
def PG(X:Cx)(a:Oe)(t:TG):Prop:=
 ∀(b:Ms (Oa×Obj))(s:Nu)(e:St)(H:Hp)(v:V)(u:Mu)(Q:St->Hp->Prop),so X b e H s->td v u->t v e H Q->
  wpAny (model X.prog X.w) X.A (assign a X.env u) (fun _ h=>∃d g,so X b d g h/\Q d g) X.xe s
def W4(X:Cx)(i:Ms Oe)(t:FQ):Prop:=
 ∀(a:Ms (Oa×Obj))(s:Nu)(d:St)(H:Hp)(e:Ms V)(g:Ms Mu)(Q:St->Hp->Prop),so X a d H s->ss e g->t e d H Q->
  wpAny (model X.prog X.w) X.A (assignInOrder ((assignEach i X.env).map (·.2)) g) (fun _ j=>∃b h,so X a b h j/\Q b h) X.xe s
abbrev GQ:=V->V->V->Hp->(Hp->Prop)->Prop
def NU(X:Cx)(t:GQ):Prop:=
 ∀(a:Ms (Oa×Obj))(s:Nu)(b:St)(H:Hp)(o i v:V)(d e u:Mu)(Q:Hp->Prop),so X a b H s->td o d->td i e->td v u->t o i v H Q->
  wpAny (model X.prog X.w) X.A (setItem d e u) (fun _ h=>∃g,so X a b g h/\Q g) X.xe s
section
variable{X:Cx}{pos:Pos}
noncomputable def kQ(i:Nat):TG:=fun v a H Q=>Q (a.set i (ε v)) H
theorem XJ{i:Nat}{x:Str}(g:X.N.Nodup)(d:X.N[i]?=ε x)(b:xK X.env.scope x)(e:autoParam (X.fn x=true\/X.env.scope.names.lookup x=ε .local) Ø):PG X (.Name x pos) (kQ i):=by intro a s k H v u Q I r h;exact wpAny_assign_Name (gZ I g d b r (fun m j=>⟨_,H,j,h⟩) e)
noncomputable def t6:FQ:=fun b a H Q=>b=[]/\Q a H
noncomputable def Fq(t:TG)(u:FQ):FQ:=fun d b H Q=>∃v r,d=v::r/\t v b H fun a e=>u r a e Q
theorem D0:W4 X [] t6:=by intro a s b H d g Q I r h;obtain⟨e,h⟩:=h;subst e;cases r;exact assignInOrder_nil ⟨b,H,I,h⟩
theorem SL{e:Oe}{b:Ms Oe}{t:TG}{u:FQ}(h1:PG X e t)(h2:W4 X b u)
 (hs:autoParam ((assignEach (e::b) X.env).map (·.2)=assign e X.env::(assignEach b X.env).map (·.2)) Æ):W4 X (e::b) (Fq t u):=by
 intro a s g H p x Q I r h;obtain⟨v,q,m,h⟩:=h;subst m;cases r with
 | cons r k=>rw[hs];refine assignInOrder_cons (HB (h1 a s g H _ _ _ I r h) fun z j i=>?_);obtain⟨d,o,n,q1⟩:=i;exact h2 a j d o _ _ Q n k q1
noncomputable def A6(K:Oi)(n:Nat)(t:FQ):TG:=fun v d H Q=>∃a b,v=.ref a/\tG K H a b/\b.length=n/\t b d H Q
theorem Y1{g:Ms Oe}{k:Nat}{t:FQ}{n:Nat}(E:X.calm=true)(h:W4 X g t)
 (C:autoParam ((assignEach g X.env).length=n) Æ) (i:autoParam ((assignEach g X.env).findIdx? (·.1)=none) Æ):PG X (.Tuple g k pos) (A6 X.K n t):=by
 intro d s j H v u Q I r hw;obtain⟨a,p,J,B,D,hw⟩:=hw;subst J;cases r;obtain⟨q,m,y,M⟩:=I.tuple B;refine assign_Tuple_tuple (I.ok.hd E) y (by simp[C,<- D,m.length]) i fun F x=>?_
 have L:so X d j H { s with heap:=F }:=I.kept (t':=s.toks) fun b o e=>x b o (rz (je e)) e
 exact h d _ j H p _ Q L (by simpa using m) hw
noncomputable def w6(b d:TE)(t:GQ):TG:=fun v a H Q=>b a H fun o h=>d a h fun i g=>t o i v g fun e=>Q a e
theorem Y9{o i:Oe}{j k:TE}{t:GQ}(B:PE X o j)(C:PE X i k)(hs:NU X t)
 (D:∀v,assign (.Subscript o i pos) X.env v=(do
  let b <- holding [v] (eval o X.env)
  let e <- holding [v,b] (eval i X.env)
  standAt pos
  holding [v,b,e] (setItem b e v)
  release [v,b,e] []):=by intro _;rfl):PG X (.Subscript o i pos) (w6 j k t):=by
 intro a s g H v u Q I r h;rw[D];refine ao (Eu (HB (B a s g H _ I h) fun b n d=>?_));obtain⟨x,O,J,q,q1⟩:=d;refine ao (Eu (HB (C a n g O _ J q1) fun e m d=>?_));obtain⟨y,M,F,p,q2⟩:=d;refine ao (wpAny_standAt (ao (Eu (HB (hs a m g M x y v b e u _ F q p r q2) fun z P d=>?_))));obtain⟨L,E,q3⟩:=d;exact wpAny_release ⟨g,L,E,q3⟩
noncomputable def YQ(te:TE)(g:TG):TS:=fun D a H=>te a H fun x b=>g x a b D.nx
theorem Z1{b e:Oe}{te:TE}{g:TG}(he:PE X e te)(m:PG X b g)(hs:autoParam (swapsWithSole [b] e pos.line X.env=pure false) Æ)(hw:autoParam (swappedStores [b] e X.env=pure none) Æ)
 (h1:autoParam ((assignEach [b] X.env).map (·.2)=[assign b X.env]) Æ):PS X (.Assign [b] e pos) (YQ te g):=by
 intro a s d H D I h;refine wpAny_Assign_stores (HB (he a s d H _ I h) fun v j i=>?_) hs hw;obtain⟨x,o,n,k,q1⟩:=i;rw[h1];exact HB (m a j d o x v _ n k q1) fun z p q=>q
theorem kj{i:Nat}{x:Str}{e:Oe}{te:TE}{a:Pos}(o:X.N.Nodup)(m:X.N[i]?=ε x)(k:xK X.env.scope x)(he:PE X e te)(hs:autoParam (swapsWith e (ε (.Name x a)) pos.line X.env=pure false) Æ)(n:autoParam (X.fn x=true\/X.env.scope.names.lookup x=ε .local) Ø) :
 PS X (.Assign [.Name x a] e pos) (YQ te (kQ i)):=by
 intro b s d H D I h;refine wpAny_Assign_Name (HB (he b s d H _ I h) fun v B g=>?_) hs;obtain⟨y,r,q,j,q1⟩:=g;exact gZ q o m k j (fun u p=>⟨_,r,p,q1⟩) n
def Hx(c:TT)(tb:TS):TS:=fun D a H=>∃W:Nat->St->Hp->Prop,(∃m,W m a H)/\∀m a H,W m a H->
 c a H fun b g=>if b=true then ∃N:St->Hp->Prop,(∀d h,N d h->∃e,e<m/\W e d h)/\tb { D with nx:=N,ct:=N,bk:=D.nx } a g else D.nx a g
theorem Hl{c:Oe}{body:Ms Ou}{tc:TT}{tb:TS}(hp:PassesOwn (model X.prog X.w) X.A X.env X.xe)(O:PT X c tc)(P:PSs X body tb):PS X (.While c body [] pos) (Hx tc tb):=by
 intro d s B H D I h;obtain⟨W,⟨M,w0⟩,turn⟩:=h;refine wpAny_While (codeAny_whileLoop (fun n L=>∃g y,so X d g y L/\W n g y) ?_ M ⟨B,H,I,w0⟩);rintro n J ⟨e,x,Q,E⟩;refine wpAny_passesOwn hp (HB (O d J e x _ Q (turn n e x E)) fun b F C=>?_);obtain⟨u,r,q2⟩:=C;cases b with
 | true=>
  obtain⟨N,q,q2⟩:=q2;rw[eG rfl];refine wpAny_passesOwn hp (HB (P d F e u _ r q2) fun f R q3=>?_);cases f with
  | next=>obtain⟨a,i,p,k⟩:=q3;obtain⟨m,o,j⟩:=q a i k;exact⟨m,o,a,i,p,j⟩
  | cont=>obtain⟨a,i,p,k⟩:=q3;obtain⟨m,o,j⟩:=q a i k;exact⟨m,o,a,i,p,j⟩
  | brk=>exact q3
  | ret v=>exact q3
 | false=>rw[eH Wk];exact wpAny_execs_nil ⟨e,u,r,q2⟩
end
structure It where
 go:Nat->Hp->Prop
 yld:Nat->Hp->V->Hp->Prop
 stop:Nat->Hp->Prop
def XE(X:Cx)(a:Ms (Oa×Obj))(H:Hp)(b:Oa):Prop:=
 H b=none/\b≠X.env.locals/\b∉X.fs/\(b∈X.ex\/X.s₀.heap.objs.size<=b)/\(∀x c,X.env.cells.lookup x=ε c->c≠b)/\∀p∈X.pn++a,p.1≠b
theorem so.ca{X:Cx}{a:Ms (Oa×Obj)}{h:St}{H g:Hp}{s:Nu}{b:Oa}(I:so X a h H s)(d:s.heap.objs.size<=b)(i:g b=none):XE X a g b:=by
 refine⟨i,Ea (jo I.lt d),I.hX d,.inr (um I.sz d),fun x c e z=>?_,fun p hp z=>?_⟩
 . obtain⟨v,q⟩:=I.cell x c e;exact Ei (jo q.lt (by rw[z];exact d)) (Fd _)
 . exact Ei (jo (je (I.pin p hp).1) (by rw[z];exact d)) (Fd _)
structure xG(P:Program)(w:World)(K:Frag)(tg:Expr)(J:It)(fp:List Addr)(it:Addr)(tn:Nat->Heap->Prop):Prop where
 mem:it∈fp
 obj:∀i h,tn i h->∀b∈fp,∃o,h.get? b=ε o/\∀v,o.data≠.cell v
 keep:∀i h h',tn i h->(∀b∈fp,∀o,h.get? b=ε o->h'.get? b=ε o)->tn i h'
 item:∀(X:Cx),X.prog=P->X.w=w->X.K=K->X.calm=true->∀(i:Nat)(pins:List (Addr×Obj))(s:Shared)(σ:St)(H:Hp)(E:Value->Shared->Prop),so X pins σ H s->(∀b∈fp,XE X pins H b)->tn i s.heap->J.go i H->
  wpAny (model P w) X.A (pyNext (.ref it)) (fun r s1=>∃u,r=ε u/\
   wpAny (model P w) X.A (letOwnedTupleGo tg (.ref it) u) (fun _ s2=>∃x H',so X pins σ H' s2/\td x u/\J.yld i H x H'/\tn (i+1) s2.heap/\∀b∈fp,H' b=none) E s1) E s
 done:∀(X:Cx),X.prog=P->X.w=w->X.K=K->X.calm=true->∀(i:Nat)(pins:List (Addr×Obj))(s:Shared)(σ:St)(H:Hp)(E:Value->Shared->Prop),so X pins σ H s->(∀b∈fp,XE X pins H b)->tn i s.heap->J.stop i H->
  wpAny (model P w) X.A (pyNext (.ref it)) (fun r s1=>r=none/\so X pins σ H s1) E s
 self:∀(A:Around)(i:Nat)(s:Shared)(Q:Value->Shared->Prop)(E:Value->Shared->Prop),tn i s.heap->Q (.ref it) s->wpAny (model P w) A (pyIter (.ref it)) Q E s
abbrev TI:=St->Hp->(It->Hp->Prop)->Prop
def X5(X:Cx)(a:Ms (Oa×Obj))(j:St)(k:Oe)(R:It->Hp->Prop)(d:Mu)(g:Nu):Prop:=
 ∃(h:Oa)(i:Ms Oa)(tn:Nat->Pu->Prop)(J:It)(e:Hp),d=.ref h/\so X a j e g/\xG X.prog X.w X.K k J i h tn/\tn 0 g.heap/\(∀b∈i,XE X a e b)/\R J e
def PI(X:Cx)(g b:Oe)(e:TI):Prop:=
 ∀(a:Ms (Oa×Obj))(s:Nu)(d:St)(H:Hp)(R:It->Hp->Prop),so X a d H s->e d H R->
  wpAny (model X.prog X.w) X.A (eval b X.env) (fun v h=>wpAny (model X.prog X.w) X.A (pyIter v) (X5 X a d g R) X.xe h) X.xe s
theorem lQ{M:Model}{A:Pa}{E:Mu->Nu->Prop}{s:Nu}{b:Oe}{d:Oa}{u:Mu}{o:Obj}{n:String}{vs:Pb Mu}{Q:Unit->Nu->Prop}(e:s.heap.get? d=ε o)(i:o.cls=.type n)(hd:o.data=.fields vs)
 (g:["enumerate", "zip", "dict_itemiterator", "dict_reverseitemiterator", "odict_iterator", "itertools.zip_longest", "itertools.pairwise"].contains n=false) (a:Q () s):wpAny M A (letOwnedTupleGo b (.ref d) u) Q E s:=by
 unfold letOwnedTupleGo;cases b<;>first
  | exact au a
  | (cases u<;>first
   | exact au a
   | (refine ao (wpAny_load e ?_);rw[i,hd];show wpAny M A (if(["enumerate", "zip", "dict_itemiterator", "dict_reverseitemiterator", "odict_iterator", "itertools.zip_longest", "itertools.pairwise"].contains n&&vs[0]?==ε (rawInt _))=true then _ else _) Q E s;rw[eH (by intro h;rw[g,Hi]at h;cases h)];exact au a))
noncomputable def Itl(K:Oi)(a:Oa):It:=
 ⟨fun i H=>∃b x,to K H a b/\b[i]?=ε x,fun i H x d=>d=H/\∀b,to K H a b->b[i]?=ε x,fun i H=>∃b,to K H a b/\b.length<=i⟩
noncomputable def Itt(K:Oi)(a:Oa):It:=
 ⟨fun i H=>∃b x,tG K H a b/\b[i]?=ε x,fun i H x d=>d=H/\∀b,tG K H a b->b[i]?=ε x,fun i H=>∃b,tG K H a b/\b.length<=i⟩
noncomputable def V4(lo:Int)(n:Nat):It:=⟨fun i _=>i<n,fun i H x a=>a=H/\x=.int (lo+i),fun i _=>n<=i⟩
theorem Yn{P:Oo}{w:O4}{K:Oi}{Y:Oe}(a it:Oa):xG P w K Y (Itl K a) [it] it (fun i h=>h.IsListIter it a i) where
 mem:=by simp
 obj:=fun i h g b m=>by
  have e:b=it:=by simpa using m
  subst e;obtain⟨o,e,c,d⟩:=g;exact⟨o,e,fun v z=>by rw[d]at z;cases z⟩
 keep:=fun i h y g k=>g.at fun o e=>k it ⋯ o e
 item:=by
  intro X J hw L U i j s T H E I r g F;subst J hw L;obtain⟨W,x,q,D⟩:=F;obtain⟨C,B,p,hz⟩:=I.list q;obtain⟨u,hu,Z⟩:=B.get D;obtain⟨S,R,f2,Q,O,M⟩:=r it ⋯;refine wpAny_pyNext_list_item g p.isList (x:=u) (by simpa using hu) fun y n sb=>?_
  have I1:so X j T H { s with heap:=y }:=I.turned (t':=s.toks) (fun b o m e=>(sb.2 b m).trans e) S R Q O M;obtain⟨o,e,c,d⟩:=id n;exact⟨u,rfl,lQ (s:={ s with heap:=y }) e c d (by decide) ⟨x,H,I1,Z,⟨rfl,fun ys hy=>by rw[I.ey hy q];exact D⟩,n,fun b m=>(r b m).1⟩⟩
 done:=by intro X J hw L U i j s T H E I r g F;subst J hw L;obtain⟨W,q,D⟩:=F;obtain⟨C,B,p,hz⟩:=I.list q;obtain⟨S,R,f2,Q,O,M⟩:=r it ⋯;have hl:=B.length;exact wpAny_pyNext_list_end (I.ok.hd U) g p.isList (by simp;omega) fun y eb=>⟨rfl,I.turned (t':=s.toks) (fun b o m e=>eb b o m e) S R Q O M⟩
 self:=fun t t t t t g h=>wpAny_pyIter_listiter g h
theorem Ir{P:Oo}{w:O4}{K:Oi}{Y:Oe}(a it:Oa):xG P w K Y (Itt K a) [it] it (fun i h=>h.IsTupleIter it a i) where
 mem:=by simp
 obj:=fun i h g b n=>by
  have e:b=it:=by simpa using n
  subst e;obtain⟨o,e,c,d⟩:=g;exact⟨o,e,fun v z=>by rw[d]at z;cases z⟩
 keep:=fun i h B g k=>g.at fun o e=>k it ⋯ o e
 item:=by
  intro X J hw L U i j s T H E I y g F;subst J hw L;obtain⟨W,x,r,D⟩:=F;obtain⟨m,C,p,hz⟩:=I.tuple r;obtain⟨u,hu,Z⟩:=C.get D;obtain⟨S,R,f2,Q,O,M⟩:=y it ⋯;refine wpAny_pyNext_tuple_item g (show s.heap.IsTuple a m.toArray from p) (x:=u) (by simpa using hu) fun B q sb=>?_
  have I1:so X j T H { s with heap:=B }:=I.turned (t':=s.toks) (fun b o n e=>(sb.2 b n).trans e) S R Q O M;obtain⟨o,e,c,d⟩:=id q;exact⟨u,rfl,lQ (s:={ s with heap:=B }) e c d (by decide) ⟨x,H,I1,Z,⟨rfl,fun ys hy=>by rw[I.gr hy r];exact D⟩,q,fun b n=>(y b n).1⟩⟩
 done:=by intro X J hw L U i j s T H E I y g F;subst J hw L;obtain⟨W,r,D⟩:=F;obtain⟨m,C,p,hz⟩:=I.tuple r;obtain⟨S,R,f2,Q,O,M⟩:=y it ⋯;have hl:=C.length;exact wpAny_pyNext_tuple_end (I.ok.hd U) g (show s.heap.IsTuple a m.toArray from p) (by simp;omega) fun B eb=>⟨rfl,I.turned (t':=s.toks) (fun b o n e=>eb b o n e) S R Q O M⟩
 self:=fun t t t t t g h=>wpAny_pyIter_tupleiter g h
theorem Hr{P:Oo}{w:O4}{K:Oi}{O:Oe}(it:Oa)(lo:Int)(n:Nat):xG P w K O (V4 lo n) [it] it (fun i h=>IsRangeIter h it (lo+(i:Nat)*1) ((n:Int)-(i:Nat)) 1) where
 mem:=by simp
 obj:=fun i h a b g=>by
  have e:b=it:=by simpa using g
  subst e;exact⟨_,a,fun v z=>by
   have M:Data.fields _=Data.cell v:=z;cases M⟩
 keep:=fun i h p a k=>k it ⋯ _ a
 item:=by
  intro X u hw x r i d s J H E I m a q;subst u hw x;obtain⟨F,D,S,C,B,y⟩:=m it ⋯;have W:=Walks.range (prog:=X.prog) (w:=X.w) (I.ok.hd r) it lo 1 n;refine W.item i s _ _ q a fun v p L R j Q=>?_
  obtain⟨t,rfl⟩:=R;have U:so X d J H { s with heap:=p,toks:=L }:=I.turned (fun b o g e=>Q b o (by simpa using g) e) F D C B y;refine⟨_,rfl,lQ (s:={ s with heap:=p,toks:=L }) (n := "range_iterator") j rfl rfl (by decide) ⟨.int (lo+i),H,U,⟨t,?_⟩,⟨rfl,rfl⟩,j,fun b g=>(m b g).1⟩⟩;rw[Int.mul_one]
 done:=by intro X u hw x r i d s J H E I m a q;subst u hw x;obtain⟨F,D,S,C,B,y⟩:=m it ⋯;exact wpAny_pyNext_range_end (I.ok.hd r) a (by have:n<=i:=q;omega) fun p T=>⟨rfl,I.turned (t':=s.toks) (fun b o g e=>T b o g e) F D C B y⟩
 self:=fun _ _ _ _ _ a h=>wpAny_pyIter_rangeiter a h
section
variable{X:Cx}{c:Oe}
def Gq(K:Oi)(g:TE):TI:=fun d H R=>g d H fun x b=>∃a,x=.ref a/\(∃e,to K b a e)/\R (Itl K a) b
def D6(K:Oi)(g:TE):TI:=fun d H R=>g d H fun x b=>∃a,x=.ref a/\(∃e,tG K b a e)/\R (Itt K a) b
theorem ii{l:Oe}{j:TE}(y:PE X l j):PI X c l (Gq X.K j):=by
 intro d s k H R I h;refine HB (y d s k H _ I h) fun v g m=>?_
 obtain⟨x,C,i,n,q1⟩:=m;obtain⟨a,e,⟨D,u⟩,q⟩:=q1;subst e;cases n;obtain⟨r,E,p,F⟩:=i.list u;refine wpAny_pyIter_list p.isList ?_;refine⟨g.heap.objs.size,[g.heap.objs.size],_,_,C,rfl,i.kept (t':=g.toks) fun b o e=>cu _ e,Yn a _,⟨_,jl _ rfl,rfl,rfl⟩,fun b B=>?_,q⟩;have e:b=g.heap.objs.size:=by simpa using B
 subst e;exact i.ca (Uo _) (i.hok.fresh (Uo _))
theorem Z9{l:Oe}{k:TE}(y:PE X l k):PI X c l (D6 X.K k):=by
 intro g s m H R I h;refine HB (y g s m H _ I h) fun v d n=>?_
 obtain⟨x,C,i,r,q1⟩:=n;obtain⟨a,e,⟨D,u⟩,q⟩:=q1;subst e;cases r;obtain⟨j,E,p,F⟩:=i.tuple u;refine wpAny_pyIter_tuple (show d.heap.IsTuple a j.toArray from p) ?_;refine⟨d.heap.objs.size,[d.heap.objs.size],_,_,C,rfl,i.kept (t':=d.toks) fun b o e=>cu _ e,Ir a _,⟨_,jl _ rfl,rfl,rfl⟩,fun b B=>?_,q⟩;have e:b=d.heap.objs.size:=by simpa using B
 subst e;exact i.ca (Uo _) (i.hok.fresh (Uo _))
theorem vY{d:Ms (Oa×Obj)}{g:St}{H:Hp}{s:Nu}{R:It->Hp->Prop}{E:Mu->Nu->Prop}{lo a:Int}{t u v:Tok}{h:Nat}(I:so X d g H s)(h1:-(2^62)<=lo)(h2:lo<2^62)(m:-(2^62)<=a)(k:a<2^62)
 (q:R (V4 lo (a-lo).toNat) H):wpAny (model X.prog X.w) X.A (pyIter (.ref s.heap.objs.size)) (X5 X d g c R) E { s with heap:=s.heap.push { cls:=.type "range",data:=.fields #[.int lo t,.int a u,.int 1 v] },toks:=h }:=by
 refine wpAny_pyIter_range (IsRange.new ..) (small_one h1 h2 m k) ?_;have i:so X d g H { s with heap:=s.heap.push { cls:=.type "range",data:=.fields #[.int lo t,.int a u,.int 1 v] },toks:=h }:=I.kept fun b o e=>cu _ e
 refine⟨(s.heap.push { cls:=.type "range",data:=.fields #[.int lo t,.int a u,.int 1 v] }).objs.size,[(s.heap.push { cls:=.type "range",data:=.fields #[.int lo t,.int a u,.int 1 v] }).objs.size],_,_,H,rfl,
  i.kept (t':=h) fun b o e=>cu _ e,Hr _ lo (a-lo).toNat,?_,fun b j=>?_,q⟩
 . have n:lo+((0:Nat):Int)*1=lo:=by simp
   have e2:(((a-lo).toNat:Nat):Int)-((0:Nat):Int)=Builtin.Range.rangeSize lo a 1:=by rw[rangeSize_one];split<;>omega
   show IsRangeIter _ _ (lo+((0:Nat):Int)*1) ((((a-lo).toNat:Nat):Int)-((0:Nat):Int)) 1;rw[n,e2];exact jl _ rfl
 . have e:b=(s.heap.push { cls:=.type "range",data:=.fields #[.int lo t,.int a u,.int 1 v] }).objs.size:=by simpa using j
   subst e;exact i.ca (Uo _) (i.hok.fresh (Uo _))
def Hq(d:TA):TI:=fun a H R=>d a H fun b e=>∃j:Int,b=[.int j]/\-(2^62)<=j/\j<2^62/\R (V4 0 j.toNat) e
def Jq(d:TA):TI:=fun a H R=>d a H fun b e=>∃i j:Int,b=[.int i,.int j]/\(-(2^62)<=i/\i<2^62/\-(2^62)<=j/\j<2^62)/\R (V4 i (j-i).toNat) e
theorem Xf {a:Oe} {d:TA} {p pos:Pos} (o:Gl X "range") (n:X.mg "range" =none) (u:PA X [a] d) (hs:autoParam (starEach [a] X.env=[(false,eval a X.env)]) Æ):PI X c (.Call (.Name "range" p) [a] [] pos) (Hq d):=by
 intro b s g H R I h;refine Call_ (LG I o n boot_range (PyProof.Rows.callWith_type1 (HB (u pos b s g H _ I h) fun B C i=>?_) hs rfl));obtain⟨y,D,x,m,q1⟩:=i;obtain⟨j,e,q1,q2,q⟩:=q1;subst e;cases m with
 | cons r k=>cases k;obtain⟨t,rfl⟩:=r;exact call_range_1 (vY x nofun nofun q1 q2 (by simpa using q))
theorem Zf {a b:Oe} {m:TA} {p pos:Pos} (B:Gl X "range") (y:X.mg "range" =none) (C:PA X [a,b] m) (hs:autoParam (starEach [a,b] X.env=[(false,eval a X.env),(false,eval b X.env)]) Æ) (g:autoParam (starEach [b] X.env=[(false,eval b X.env)]) Æ) :
 PI X c (.Call (.Name "range" p) [a,b] [] pos) (Jq m):=by
 intro d s n H R I h;refine Call_ (LG I B y boot_range (PyProof.Rows.callWith_type1 (HB (C pos d s n H _ I h) fun F L o=>?_) (by rw[hs,g]) (by rw[g];rfl)));obtain⟨E,M,D,u,q1⟩:=o;obtain⟨i,j,e,⟨q1,q2,q3,q4⟩,q⟩:=q1;subst e;cases u with
 | cons r k=>
  cases k with
  | cons x k=>cases k;obtain⟨t,rfl⟩:=r;obtain⟨J,rfl⟩:=x;exact call_range_2 (vY D q1 q2 q3 q4 q)
def t7(j:TI)(g:TG)(tb:TS):TS:=fun D a H=>j a H fun J n=>∃W:Nat->Nat->St->Hp->Prop,(∃m,W 0 m a n)/\∀i m a H,W i m a H->
 (J.stop i H/\D.nx a H)\/(J.go i H/\∃N:St->Hp->Prop,(∀b d,N b d->∃h,h<m/\W (i+1) h b d)/\∀x d,J.yld i H x d->g x a d fun e k=>tb { D with nx:=N,ct:=N,bk:=D.nx } e k)
noncomputable def uM(fp:Ms Oa)(h:Pu):Ms (Oa×Obj):=fp.filterMap fun b=>(h.get? b).map fun o=>(b,o)
theorem yO{fp:Ms Oa}{h:Pu}{b:Oa}{o:Obj}(a:b∈fp)(e:h.get? b=ε o):(b,o)∈uM fp h:=mem_filterMap.mpr ⟨b,a,by rw[e];rfl⟩
theorem Vf{fp:Ms Oa}{h:Pu}{p:Oa×Obj}(hp:p∈uM fp h):p.1∈fp/\h.get? p.1=ε p.2:=by
 obtain⟨b,a,e⟩:=mem_filterMap.mp hp;cases q:h.get? b with
 | none=>rw[q]at e;cases e
 | some o=>rw[q]at e;have d:(b,o)=p:=tu e;subst d;exact⟨a,q⟩
theorem so.pinned{a:Ms (Oa×Obj)}{g:St}{H:Hp}{s:Nu}{fp:Ms Oa}(I:so X a g H s)(k:∀b∈fp,XE X a H b)(j:∀b∈fp,∃o,s.heap.get? b=ε o/\∀v,o.data≠.cell v):so X (a++uM fp s.heap) g H s:=
 I.gp fun p hp=>(Bs.mp hp).elim (fun z=>I.pin p (za _ z)) fun z=>by obtain⟨h,e⟩:=Vf z;obtain⟨q,n,m,_⟩:=k p.1 h;obtain⟨o,i,d⟩:=j p.1 h;rw[e]at i;cases i;exact⟨e,q,n,m,d⟩
theorem so.ez{a pl:Ms (Oa×Obj)}{b:St}{H:Hp}{s:Nu}(I:so X (a++pl) b H s):so X a b H s:=I.gp fun p hp=>I.pin p (za _ (zc _ hp))
theorem fj{y:Oe}{body:Ms Ou}{wi:TI}{g:TG}{tb:TS}{pos:Pos}(hp:PassesOwn (model X.prog X.w) X.A X.env X.xe)(hc:X.calm=true)(hi:PI X c y wi)(hg:PG X c g)(B:PSs X body tb)
 (hs:autoParam (∀x,foldedSetIterable y X.env x=pure x) å):PS X (.For c y body [] pos) (t7 wi g tb):=by
 intro j s σ H D I h;refine wpAny_For (HB (hi j s σ H _ I h) fun v s1 h1=>HB h1 fun a2 s2 h2=>?_) hs;obtain⟨it,R,tn,J,H2,e,I2,T,Y,f2,W,⟨m0,w0⟩,turn⟩:=h2;subst e;have q:∀{H':Hp},(∀b∈R,H' b=none)->∀b∈R,XE X j H' b:=fun hn b B=>⟨hn b B,(f2 b B).2⟩
 refine codeAny_forLoop_any (fun n s'=>∃i p H',so X j p H' s'/\tn i s'.heap/\(∀b∈R,H' b=none)/\W i n p H') ?_ m0 ⟨0,σ,H2,I2,Y,fun b B=>(f2 b B).1,w0⟩;rintro n s3 ⟨i,k,S,I3,O,Q,w3⟩;rcases turn i n k S w3 with⟨stop,qn⟩ | ⟨go,N,hN,step⟩
 . refine wpAny_passesOwn hp (HB (T.done X rfl rfl rfl hc i j s3 k S X.xe I3 (q Q) O stop) fun r s4 L=>?_);obtain⟨hr,I4⟩:=L;subst hr;exact wpAny_execs_nil ⟨k,S,I4,qn⟩
 . refine wpAny_passesOwn hp (HB (T.item X rfl rfl rfl hc i j s3 k S X.xe I3 (q Q) O go) fun r s4 L=>?_);obtain⟨u,hr,h4⟩:=L;subst hr;refine wpAny_passesOwn hp (HB h4 fun _ s5 L=>?_);obtain⟨x,H5,I5,r5,y5,M,a0⟩:=L;have a1:=I5.pinned (q a0) (T.obj _ _ M);refine wpAny_passesOwn hp (HB (hg _ s5 k H5 x u _ a1 r5 (step x H5 y5)) fun _ s6 L=>?_);obtain⟨U,H6,I6,q6⟩:=L;refine wpAny_passesOwn hp (HB (B _ s6 U H6 _ I6 q6) fun f Z q7=>?_);have C:∀{a:St}{F:Hp},so X (j++uM R s5.heap) a F Z->N a F->∃m,m<n/\∃i p H',so X j p H' Z/\tn i Z.heap/\(∀b∈R,H' b=none)/\W i m p H':=fun {a F} E P=>by obtain⟨m',hm,w7⟩:=hN a F P;refine⟨m',hm,i+1,a,F,E.ez,T.keep _ _ _ M fun b B o e=>(E.pin (b,o) (za _ (za _ (yO B e)))).1,fun b B=>?_,w7⟩;obtain⟨o,e,d⟩:=T.obj _ _ M b B;exact(E.pin (b,o) (za _ (za _ (yO B e)))).2.1
   cases f with
   | next=>obtain⟨a,F,E,P⟩:=q7;exact C E P
   | cont=>obtain⟨a,F,E,P⟩:=q7;exact C E P
   | brk=>obtain⟨a,F,E,q7⟩:=q7;exact⟨a,F,E.ez,q7⟩
   | ret v=>obtain⟨x7,a,F,E,r7,q7⟩:=q7;exact⟨x7,a,F,E.ez,r7,q7⟩
end
abbrev R2:=V->V->Hp->VK->Prop
def tv(X:Cx)(f:Mu->Mu->Sem Mu)(r:R2):Prop:=
 ∀(a:Ms (Oa×Obj))(s:Nu)(b:St)(H:Hp)(x y:V)(v u:Mu)(Q:VK),so X a b H s->td x v->td y u->r x y H Q->
  wpAny (model X.prog X.w) X.A (f v u) (EP X a b Q) X.xe s
def Y4(X:Cx)(f:Mu->Sem Mu)(r:V->Hp->VK->Prop):Prop:=
 ∀(a:Ms (Oa×Obj))(s:Nu)(b:St)(H:Hp)(x:V)(v:Mu)(Q:VK),so X a b H s->td x v->r x H Q->
  wpAny (model X.prog X.w) X.A (f v) (EP X a b Q) X.xe s
def ae(X:Cx)(f:Mu)(r:Ms V->Hp->VK->Prop):Prop:=
 ∀(a:Ms (Oa×Obj))(s:Nu)(b:St)(H:Hp)(d:Ms V)(e:Ms Mu)(Q:VK),so X a b H s->ss d e->r d H Q->
  wpAny (model X.prog X.w) X.A (call f e) (EP X a b Q) X.xe s
noncomputable def jV(r:R2)(b tb:TE):TE:=fun a H Q=>b a H fun x e=>tb a e fun y d=>r x y d Q
noncomputable def tUn(r:V->Hp->VK->Prop)(b:TE):TE:=fun a H Q=>b a H fun x d=>r x d Q
noncomputable def rI(C:Int->Int->Prop)(g:Int->Int->V):R2:=fun x y H Q=>∃i j,x=.int i/\y=.int j/\C i j/\Q (g i j) H
noncomputable def RK(g:Int->Int->V):R2:=fun x y H Q=>∃i j,x=.int i/\y=.int j/\Q (g i j) H
noncomputable def rU(g:Int->V):V->Hp->VK->Prop:=fun x H Q=>∃i,x=.int i/\Q (g i) H
section
variable{X:Cx}{a b c:Oe}{d e tc:TE}{pos:Pos}
theorem JQ(E:PE X a d)(D:PE X b e){g:Ms (Oa×Obj)}{s:Nu}{i:St}{H:Hp}{R:V->V->Hp->Prop}(I:so X g i H s)
 (h:d i H fun x p=>e i p fun y j=>R x y j) {Q:Mu->Nu->Prop} {f:Mu->Mu->Sem Mu}
 (C:∀v u n x y j,so X g i j n->td x v->td y u->R x y j->wpAny (model X.prog X.w) X.A (f v u) Q X.xe n) :
 wpAny (model X.prog X.w) X.A (eval a X.env) (fun v m=>wpAny (model X.prog X.w) X.A (eval b X.env) (fun u k=>wpAny (model X.prog X.w) X.A (f v u) Q X.xe k) X.xe m) X.xe s:=by
 refine HB (E g s i H _ I h) fun v q o=>?_
 obtain⟨x,p,J,B,q1⟩:=o;refine HB (D g q i p _ J q1) fun u n o=>?_
 obtain⟨y,j,F,r,q2⟩:=o;exact C v u n x y j F B r q2
theorem lU{op:Operator}{r:R2}(n:tv X (binaryOp op) r)(p:PE X a d)(o:PE X b e):PE X (.BinOp a op b pos) (jV r d e):=by intro g s i H Q I h;exact wpAny_BinOp (JQ p o I h fun v u j x y C B m k q=>n g j i C x y v u Q B m k q)
theorem P4{op:UnaryOp}{r:V->Hp->VK->Prop}(m:Y4 X (unaryOp op) r)(n:PE X a d):PE X (.UnaryOp op a pos) (tUn r d):=by intro g s i H Q I h;exact UnaryOp_ (HB (n g s i H _ I h) fun v j ⟨x,p,o,k,q1⟩=>m g j i p x v Q o k q1)
theorem XU{f:Mu->Mu->Sem Mu}{C:Int->Int->Prop}{g:Int->Int->Int}
 (k:∀(i j:Int)(t u:Tok)(s:Nu)(Q:Mu->Nu->Prop)(E:Mu->Nu->Prop),C i j->Q (.int (g i j) s.toks) { s with toks:=s.toks+1 }->wpAny (model X.prog X.w) X.A (f (.int i t) (.int j u)) Q E s) :
 tv X f (rI C fun i j=>.int (g i j)):=by
 intro m s B H x y v u Q I p o h;obtain⟨i,j,rfl,rfl,r,q⟩:=h;obtain⟨t,rfl⟩:=p;obtain⟨n,rfl⟩:=o;exact k i j t n s _ _ r ⟨.int (g i j),H,I.tok _,⟨_,rfl⟩,q⟩
theorem iN{f:Mu->Mu->Sem Mu}{g:Int->Int->Int}
 (k:∀(i j:Int)(t u:Tok)(s:Nu)(Q:Mu->Nu->Prop)(E:Mu->Nu->Prop),Q (.int (g i j) s.toks) { s with toks:=s.toks+1 }->wpAny (model X.prog X.w) X.A (f (.int i t) (.int j u)) Q E s) :
 tv X f (RK fun i j=>.int (g i j)):=by
 intro m s r H x y v u Q I p o h;obtain⟨i,j,rfl,rfl,q⟩:=h;obtain⟨t,rfl⟩:=p;obtain⟨n,rfl⟩:=o;exact k i j t n s _ _ ⟨.int (g i j),H,I.tok _,⟨_,rfl⟩,q⟩
theorem gN{f:Mu->Mu->Sem Mu}{g:Int->Int->Bool}
 (k:∀(i j:Int)(t u:Tok)(s:Nu)(Q:Mu->Nu->Prop)(E:Mu->Nu->Prop),Q (.bool (g i j)) s->wpAny (model X.prog X.w) X.A (f (.int i t) (.int j u)) Q E s) :
 tv X f (RK fun i j=>.bl (g i j)):=by
 intro m s r H x y v u Q I p o h;obtain⟨i,j,rfl,rfl,q⟩:=h;obtain⟨t,rfl⟩:=p;obtain⟨n,rfl⟩:=o;exact k i j t n s _ _ ⟨.bl (g i j),H,I,rfl,q⟩
def zK(i j:Int):Prop:=0<j/\j<1073741824
def YI(i j:Int):Prop:=0<=j/\j<=1000000/\i.natAbs<2^64
def cb(i j:Int):Prop:=(-(2^64)<i/\i<2^64)\/(-(2^64)<j/\j<2^64)
theorem cb.ok{i j:Int}(h:cb i j):IntMulOk i j:=by
 rcases h with⟨k,g⟩ | ⟨k,g⟩
 . exact .of_left (intBits_le_64 k g)
 . exact .of_right (intBits_le_64 k g)
theorem Jr(k:Nat):(0:Int)<=2^k:=by rw[two_pow_cast];exact Int.natCast_nonneg _
theorem D9:tv X (binaryOp .Add) (RK fun i j=>.int (i+j)):=iN fun z z z z z z z q=>add_int q
theorem M9:tv X (binaryOp .Sub) (RK fun i j=>.int (i-j)):=iN fun z z z z z z z q=>sub_int q
theorem J9:tv X (binaryOp .Mult) (rI cb fun i j=>.int (i*j)):=XU fun z z z z z z z g q=>mul_int q g.ok
theorem ij:tv X (binaryOp .FloorDiv) (rI zK fun i j=>.int (i/j)):=XU fun i j z z z z z g q=>by have k:(0:Int)<j:=g.1;have h:j<1073741824:=g.2;exact floordiv_int nofun (by rw[Int.fdiv_eq_ediv_of_nonneg i nofun];exact q) (.inl (PyProof.noPylong_small nofun))
theorem G9:tv X (binaryOp .Mod) (rI (fun z j=>0<j) fun i j=>.int (i%j)):=XU fun i j z z z z z g q=>by have h:(0:Int)<j:=g;exact mod_int' nofun (by rw[Int.fmod_eq_emod_of_nonneg i nofun];exact q)
theorem K9:tv X (binaryOp .LShift) (rI YI fun i j=>.int (i*2^j.toNat)):=XU fun z z z z z z z g q=>lshift_int_small g.1 g.2.1 g.2.2 q
theorem L9:tv X (binaryOp .RShift) (rI (fun z j=>0<=j) fun i j=>.int (i/2^j.toNat)):=XU fun i j z z z z z g q=>rshift_int g (by rw[Int.fdiv_eq_ediv_of_nonneg i (Jr _)];exact q)
theorem E9:tv X (binaryOp .BitAnd) (RK fun i j=>.int (Builtin.bitAnd i j)):=iN fun z z z z z z z q=>and_int q
theorem Xq:tv X (binaryOp .BitOr) (RK fun i j=>.int (Builtin.bitOr i j)):=iN fun z z z z z z z q=>or_int q
theorem unI{f:Mu->Sem Mu}{g:Int->Int}
 (j:∀(i:Int)(t:Tok)(s:Nu)(Q:Mu->Nu->Prop)(E:Mu->Nu->Prop),Q (.int (g i) s.toks) { s with toks:=s.toks+1 }->wpAny (model X.prog X.w) X.A (f (.int i t)) Q E s) :
 Y4 X f (rU fun i=>.int (g i)):=by
 intro k s n H x v Q I m h;obtain⟨i,rfl,q⟩:=h;obtain⟨t,rfl⟩:=m;exact j i t s _ _ ⟨.int (g i),H,I.tok _,⟨_,rfl⟩,q⟩
theorem Px:Y4 X (unaryOp .USub) (rU fun i=>.int (-i)):=unI fun z z z z z q=>neg_int q
theorem Ox:Y4 X (unaryOp .Invert) (rU fun i=>.int (Builtin.bitNot i)):=unI fun z z z z z q=>invert_int q
end
noncomputable def mN:V->V->Bool
 | .non,.non=>true | .non,.int _=>true | .int _,.non=>true | .non,.bl _=>true | .bl _,.non=>true | .non,.str _=>true | .str _,.non=>true
 | .int _,.int _=>true | .bl _,.bl _=>true | .str _,.str _=>true | .byt _,.byt _=>true
 | .int _,.str _=>true | .str _,.int _=>true | .bl _,.str _=>true | .str _,.bl _=>true
 | _,_=>false
def rEq:R2:=fun x y H Q=>mN x y=true/\Q (.bl (decide (x=y))) H
def rNe:R2:=fun x y H Q=>mN x y=true/\Q (.bl (!decide (x=y))) H
theorem JZ{i j:Int}:decide (V.int i=V.int j)=(i==j):=by rw[Bool.eq_iff_iff];simp
theorem P0{i j:Bool}:decide (V.bl i=V.bl j)=(i==j):=by rw[Bool.eq_iff_iff];simp
theorem KZ{i j:Str}:decide (V.str i=V.str j)=(i==j):=by rw[Bool.eq_iff_iff];simp
theorem cZ{i j:Pb UInt8}:decide (V.byt i=V.byt j)=(i.toList==j.toList):=by rw[Bool.eq_iff_iff];cases i;cases j;simp
section
variable{X:Cx}{a b c:Oe}{g f tc:TE}{pos:Pos}
theorem qC{d:Ms (Oa×Obj)}{h:St}{H:Hp}{s:Nu}{Q:VK}{k i:Bool}(I:so X d h H s)(q:Q (.bl k) H)(e:k=i):EP X d h Q (.bool i) s:=by subst e;exact⟨.bl k,H,I,rfl,q⟩
theorem Rq:tv X (compareOp .Eq) rEq:=by
 intro m s n H x y v u Q I k d h;obtain⟨hs,q⟩:=h;cases x with
 | non=>
  cases k;cases y with
  | non=>cases d;exact PySem.EqNone.eq_none_none (qC I q ⋯)
  | bl j=>cases d;exact PySem.EqNone.eq_none_bool (qC I q ⋯)
  | int j=>obtain⟨e,rfl⟩:=d;exact PySem.EqNone.eq_none_int (qC I q ⋯)
  | str j=>obtain⟨e,rfl⟩:=d;exact PySem.EqNone.eq_none_str (qC I q ⋯)
  | _=>exact Ei (show false=true from hs) Wk
 | bl i=>
  cases k;cases y with
  | non=>cases d;exact PySem.EqNone.eq_bool_none (qC I q ⋯)
  | bl j=>cases d;exact eq_bool (qC I q P0)
  | str j=>obtain⟨e,rfl⟩:=d;exact PySem.EqMixed.eq_bool_str (qC I q ⋯)
  | _=>exact Ei (show false=true from hs) Wk
 | int i=>
  obtain⟨t,rfl⟩:=k;cases y with
  | non=>cases d;exact PySem.EqNone.eq_int_none (qC I q ⋯)
  | int j=>obtain⟨e,rfl⟩:=d;exact eq_int (qC I q JZ)
  | str j=>obtain⟨e,rfl⟩:=d;exact PySem.EqMixed.eq_int_str (qC I q ⋯)
  | _=>exact Ei (show false=true from hs) Wk
 | str i=>
  obtain⟨t,rfl⟩:=k;cases y with
  | non=>cases d;exact PySem.EqNone.eq_str_none (qC I q ⋯)
  | bl j=>cases d;exact PySem.EqMixed.eq_str_bool (qC I q ⋯)
  | int j=>obtain⟨e,rfl⟩:=d;exact PySem.EqMixed.eq_str_int (qC I q ⋯)
  | str j=>obtain⟨e,rfl⟩:=d;exact eq_str (qC I q KZ)
  | _=>exact Ei (show false=true from hs) Wk
 | byt i=>
  obtain⟨t,rfl⟩:=k;cases y with
  | byt j=>obtain⟨e,rfl⟩:=d;exact PySem.W.eq_bytes (qC I q cZ)
  | _=>exact Ei (show false=true from hs) Wk
 | _=>cases y<;>exact Ei (show false=true from hs) Wk
theorem Wq:tv X (compareOp .NotEq) rNe:=by
 intro m s n H x y v u Q I k d h;obtain⟨hs,q⟩:=h;cases x with
 | non=>
  cases k;cases y with
  | non=>cases d;exact PySem.EqNone.ne_none_none (qC I q ⋯)
  | bl j=>cases d;exact PySem.EqNone.ne_none_bool (qC I q ⋯)
  | int j=>obtain⟨e,rfl⟩:=d;exact PySem.EqNone.ne_none_int (qC I q ⋯)
  | str j=>obtain⟨e,rfl⟩:=d;exact PySem.EqNone.ne_none_str (qC I q ⋯)
  | _=>exact Ei (show false=true from hs) Wk
 | bl i=>
  cases k;cases y with
  | non=>cases d;exact PySem.EqNone.ne_bool_none (qC I q ⋯)
  | bl j=>cases d;exact ne_bool (qC I q (congrArg not P0))
  | str j=>obtain⟨e,rfl⟩:=d;exact PySem.EqMixed.ne_bool_str (qC I q ⋯)
  | _=>exact Ei (show false=true from hs) Wk
 | int i=>
  obtain⟨t,rfl⟩:=k;cases y with
  | non=>cases d;exact PySem.EqNone.ne_int_none (qC I q ⋯)
  | int j=>obtain⟨e,rfl⟩:=d;exact ne_int (qC I q (congrArg not JZ))
  | str j=>obtain⟨e,rfl⟩:=d;exact PySem.EqMixed.ne_int_str (qC I q ⋯)
  | _=>exact Ei (show false=true from hs) Wk
 | str i=>
  obtain⟨t,rfl⟩:=k;cases y with
  | non=>cases d;exact PySem.EqNone.ne_str_none (qC I q ⋯)
  | bl j=>cases d;exact PySem.EqMixed.ne_str_bool (qC I q ⋯)
  | int j=>obtain⟨e,rfl⟩:=d;exact PySem.EqMixed.ne_str_int (qC I q ⋯)
  | str j=>obtain⟨e,rfl⟩:=d;exact ne_str (qC I q (congrArg not KZ))
  | _=>exact Ei (show false=true from hs) Wk
 | byt i=>
  obtain⟨t,rfl⟩:=k;cases y with
  | byt j=>obtain⟨e,rfl⟩:=d;exact PySem.W.ne_bytes (qC I q (congrArg not cZ))
  | _=>exact Ei (show false=true from hs) Wk
 | _=>cases y<;>exact Ei (show false=true from hs) Wk
theorem Vq:tv X (compareOp .Lt) (RK fun i j=>.bl (decide (i<j))):=gN fun z z z z z z z q=>lt_int q
theorem Uq:tv X (compareOp .LtE) (RK fun i j=>.bl (decide (i<=j))):=gN fun z z z z z z z q=>le_int q
theorem Tq:tv X (compareOp .Gt) (RK fun i j=>.bl (decide (j<i))):=gN fun z z z z z z z q=>gt_int q
theorem Sq:tv X (compareOp .GtE) (RK fun i j=>.bl (decide (j<=i))):=gN fun z z z z z z z q=>ge_int q
theorem F9:tv X (compareOp .Is) (fun x y H Q=>y=.non/\Q (.bl (decide (x=.non))) H):=by
 intro e s j H x y v u Q I d i h;obtain⟨rfl,q⟩:=h;cases i;refine is_none_gen (qC I q ?_);cases x<;>first
  | (cases d;rfl)
  | (obtain⟨t,rfl⟩:=d;rfl)
theorem L1(b:Oe){op:CmpOp}(h:autoParam (op≠.In) Ñ)(h2:autoParam (op≠.NotIn) Ñ):behindInMarks op b=false:=by
 have d:(op==CmpOp.In)=false:=by cases op<;>first | rfl | exact Ei rfl h
 have e2:(op==CmpOp.NotIn)=false:=by cases op<;>first | rfl | exact Ei rfl h2
 cases b<;>simp[behindInMarks,d,e2]
theorem ik{op:CmpOp}{r:R2}(m:tv X (compareOp op) r)(p:PE X a g)(o:PE X b f)(n:behindInMarks op b=false):PE X (.Compare a [op] [b] pos) (jV r g f):=by intro d s e H Q I h;exact wpAny_Compare1 (JQ p o I h fun v u i x y C B k j q=>m d i e C x y v u Q B k j q) n
noncomputable def F3(t:TE):TT:=fun d H Q=>t d H fun x e=>∃k,x=.bl k/\Q k e
theorem im{op:CmpOp}{r:R2}(q:tv X (compareOp op) r)(D:PE X a g)(C:PE X b f)(B:behindInMarks op b=false):PT X (.Compare a [op] [b] pos) (F3 (jV r g f)):=by
 intro d s i H Q I h;refine wpAny_isTrue_Compare1 (HB (D d s i H _ I h) fun v m ⟨x,O,J,p,q1⟩=>HB (C d m i O _ J q1) fun u j ⟨y,M,F,o,q2⟩=>
  HB (q d j i M x y v u _ F p o q2) fun c P ⟨z,L,E,n,k,e,q3⟩=>?_) B
 subst e;cases n;exact Fo ⟨L,E,q3⟩
noncomputable def XT(r i:R2)(g f tc:TE):TE:=fun d H Q=>g d H fun x n=>f d n fun y m=>r x y m fun z e=>∃k,z=.bl k/\
 (if k=true then tc d e fun h j=>i y h j Q else Q (.bl false) e)
theorem Vm{op j:CmpOp}{r p:R2}(R:tv X (compareOp op) r)(n:tv X (compareOp j) p)(W:PE X a g)(U:PE X b f)(T:PE X c tc)
 (S:lastMarks [op,j] [b,c]=false:=by unhygienic rfl):PE X (.Compare a [op,j] [b,c] pos) (XT r p g f tc):=by
 intro i s m H Q I h;refine Compare_chain (HB (W i s m H _ I h) fun v L ⟨x,H1,I1,P,q1⟩=>chain_link (HB (U i L m H1 _ I1 q1) fun u J ⟨y,H2,Z,o,q2⟩=>
  HB (R i J m H2 x y v u _ Z P o q2) fun d F ⟨z,B,q,O,k,e,q3⟩=>?_)) S
 subst e;cases O;refine Fo ?_;cases k with
 | false=>exact ite_ff ⟨.bl false,B,q,rfl,q3⟩
 | true=>exact ite_tt (chain_last (HB (T i F m B _ q q3) fun D E ⟨C,H4,Y,M,q4⟩=>n i E m H4 y C u D Q Y o M q4))
theorem Jl{op j:CmpOp}{r p:R2}(U:tv X (compareOp op) r)(n:tv X (compareOp j) p)(ha:PE X a g)(Z:PE X b f)(Y:PE X c tc)
 (W:lastMarks [op,j] [b,c]=false:=by unhygienic rfl):PT X (.Compare a [op,j] [b,c] pos) (F3 (XT r p g f tc)):=by
 intro i s m H Q I h;refine isTrue_chain (HB (ha i s m H _ I h) fun v M ⟨x,H1,I1,S,q1⟩=>test_link (HB (Z i M m H1 _ I1 q1) fun u L ⟨y,H2,I2,o,q2⟩=>
  HB (U i L m H2 x y v u _ I2 S o q2) fun d J ⟨z,B,q,R,k,e,q3⟩=>?_)) W
 subst e;cases R;refine Fo ?_;cases k with
 | false=>obtain⟨k',e',T⟩:=q3;cases e';exact ite_ff ⟨B,q,T⟩
 | true=>refine ite_tt (test_last (HB (Y i J m B _ q q3) fun E F ⟨D,H4,I4,P,q4⟩=>HB (n i F m H4 y D u E _ I4 o P q4) fun d' s5 C=>?_));obtain⟨z2,H5,I5,O,k2,e2,q5⟩:=C;subst e2;cases O;exact Fo ⟨H5,I5,q5⟩
theorem yI:(sizeLine:Nat)<2^63:=by rw[Ce];decide
theorem WE{x:V}{us:Ms Mu}(r:ss [x] us):∃u,us=[u]/\td x u:=by
 cases r with
 | cons e d=>cases d;exact⟨_,rfl,e⟩
theorem uQ{x y:V}{us:Ms Mu}(r:ss [x,y] us):∃u w',us=[u,w']/\td x u/\td y w':=by
 cases r with
 | cons i h=>
  cases h with
  | cons e d=>cases d;exact⟨_,_,rfl,i,e⟩
theorem Et (n:X.calm=true):ae X (.builtin "max") (fun e H Q=>∃i j,e=[.int i,.int j]/\Q (.int (if j>i then j else i)) H):=by
 intro m s o H e x Q I r h;obtain⟨i,j,rfl,q⟩:=h;obtain⟨u,p,rfl,⟨t,rfl⟩,⟨B,rfl⟩⟩:=uQ r;refine max_two_ints (I.ok.hd n) fun C y k=>⟨_,H,I.kept k,?_,q⟩
 by_cases d:j>i
 . rw[eG d,eG d];exact⟨_,rfl⟩
 . rw[eH d,eH d];exact⟨_,rfl⟩
theorem Ht (n:X.calm=true):ae X (.builtin "min") (fun e H Q=>∃i j,e=[.int i,.int j]/\Q (.int (if j<i then j else i)) H):=by
 intro m s o H e x Q I r h;obtain⟨i,j,rfl,q⟩:=h;obtain⟨u,p,rfl,⟨t,rfl⟩,⟨B,rfl⟩⟩:=uQ r;refine min_two_ints (I.ok.hd n) fun C y k=>⟨_,H,I.kept k,?_,q⟩
 by_cases d:j<i
 . rw[eG d,eG d];exact⟨_,rfl⟩
 . rw[eH d,eH d];exact⟨_,rfl⟩
theorem Bt:ae X (.type "int") (fun d H Q=>(∃i,d=[.int i]/\Q (.int i) H)\/∃k,d=[.bl k]/\Q (.int (if k then 1 else 0)) H):=by
 intro e s m H d n Q I r h;rcases h with⟨i,rfl,q⟩ | ⟨k,rfl,q⟩
 . obtain⟨u,rfl,t,rfl⟩:=WE r;exact call_int_int ⟨.int i,H,I,⟨_,rfl⟩,q⟩
 . obtain⟨u,rfl,j⟩:=WE r;cases j;exact call_int_bool ⟨.int (if k then 1 else 0),H,I.tok _,⟨_,rfl⟩,q⟩
end
structure cq(h:Heap)(x dx C:Addr)(mA:Str->Option Value):Prop where
 obj:h.get? x=ε (PySem.W.instObj C dx)
 ns:h.Ns1 dx mA
 ne:dx≠x
set_option tactic.hygienic true in
theorem uc{h:Pu}{k:Oa}{i:Str->Ni Mu}(n:h.Ns1 k i):∃g,h.get? k=ε g/\∀b,PySem.W.lookIn b g=ε (i b):=by
 obtain⟨o,j,x,p,hd,s,_,r⟩:=n;refine⟨o,p,fun b=>?_⟩;have e:=r b;unfold nsFind findBy at e;rw[<- Array.find?_toList]at e;unfold PySem.W.lookIn;rw[hd];dsimp only;split
 . rename_i y q;rw[q]at e;exact congrArg some e
 . rename_i q;rw[q]at e;have a:j.toList.any (·.refKey)=false:=by rw[any_eq_false];intro y m;obtain⟨z,t,d⟩:=s y (Array.mem_toList_iff.mp m);simp[DictEntry.refKey,d]
   have u:¬j.toList.any (·.refKey)=true:=by rw[a];exact Wk
   rw[eH u];exact congrArg some e
theorem cq.look{h:Pu}{x e C:Oa}{d:Str->Ni Mu}(I:cq h x e C d):∃b,PySem.W.InstAt h x (PySem.W.instObj C e) C (ε b)/\∀a,PySem.W.lookIn a b=ε (d a):=
 let ⟨b,ho,hl⟩:=uc I.ns
 ⟨b,⟨I.obj,rfl,rfl,ho⟩,hl⟩
section
variable{prog:Oo}{w:O4}{A:Pa}{E:Mu->Nu->Prop}{s:Nu}{K:Oi}{x e C f:Oa}{c:Str->Ni Mu}{name:Str}{v:Mu}
theorem io{a:Bool}{Q:Mu->Nu->Prop}(X:K.In s.heap)(I:cq s.heap x e C c)(j:PySem.W.plainGet K C name=true)(i:PySem.W.hasDictIn K C=true)
 (k:findIn K (.ref C) name=ε none) (d:c name=ε v) (b:PySem.W.handedIn v=true) (h:Q v { s with toks:=s.toks+1 }) :
 wpAny (model prog w) A (getAttr (.ref x) name a) Q E s:=by
 obtain⟨m,J,g⟩:=I.look;exact PySem.W.get_value X J (PySem.W.plainGet_of j).1 (PySem.W.findObj_own i k rfl (by rw[g,d])) b h
theorem Vc{pl:Sem Bool}{Q:Mu×Ms Mu->Nu->Prop}(X:K.In s.heap)(I:cq s.heap x e C c)(a:PySem.W.plainGet K C name=true)
 (j:findIn K (.ref C) name=ε (ε (.ref f))) (g:PySem.W.isFn K (.ref f)=true) (d:c name=none) (h:Q (.ref f,[.ref x]) s) :
 wpAny (model prog w) A (getMethod (.ref x) name pl) Q E s:=by
 obtain⟨b,J,i⟩:=I.look;exact PySem.W.method_fn X J (PySem.W.plainGet_of a).1 (PySem.W.plainGet_of a).2 j (beq_iff_eq.mp g) (by show(PySem.W.lookIn name b).map (·.isSome)=ε false;rw[i,d];rfl) h
theorem Y8{ns:Ms Str}{Q:Unit->Nu->Prop}(X:K.In s.heap)(I:cq s.heap x e C c)
 (hs:findIn K (.ref C) "__setattr__" =ε (ε (.builtin "object.__setattr__"))) (hp:PySem.W.plainOver K C=true) (p:PySem.W.takerIn K C name=ε none) (q:PySem.W.hasDictIn K C=true)
 (hw:PySem.Within c ns) (hsz:ns.length<=sizeLine)
 (h:∀i,cq i x e C (fun y=>if y=name then ε v else c y)->Heap.SameBut e s.heap i->Q () { s with heap:=i,toks:=s.toks+2 }) :
 wpAny (model prog w) A (setAttr (.ref x) name v) Q E s:=by
 obtain⟨F,J,L⟩:=I.look;refine PySem.W.set_plain X J hs (PySem.W.osa_open (s:={ s with toks:=s.toks+1 }) (r:=none) X J hp p fun b=>?_);obtain⟨M,u,m⟩:=PySem.W.any_some q;have o:s.heap.get? x=ε ⟨.ref C,ε e,.plain,#[]⟩:=I.obj;refine ao (au (ao (ao (wpAny_loadPart o (ao (PySem.W.Looks.here (s:={ s with toks:=s.toks+1 }) (PySem.W.looks_clsIn X u) ?_))))));rw[m];refine au (a:=ε e) (ao (au (ao ?_)));refine wpAny_nsSet1 (s:={ s with toks:=s.toks+1 }) I.ns fun i g d=>?_
 obtain⟨H,B,D,j,k,n⟩:=g.count (PySem.Within.cons name v hw);refine ao (wpAny_lookBehind j (by rw[k];exact pastItsLine_dict (um n (by rw[Ru];omega))) ?_);exact au (h _ ⟨(d.2 _ (nW I.ne)).trans I.obj,g,I.ne⟩ d)
theorem Tp{R:Result->Nu->Prop}{vs:Ms Mu}{a:Ms (Str×Mu)}(X:K.In s.heap)(b:PySem.W.makesIn K C=true)
 (i:findIn K (.ref C) "__init__" =ε (ε (.ref f))) (j:PySem.W.typeIn K (.ref f)=ε (.type "function"))
 (h:codeAny (model prog w) (A.under (.builtin "type.__call__" ⟨.ref C::vs,a⟩)) (.call (.ref f) ⟨.ref (s.heap.objs.size+1)::vs,a⟩) (PySem.W.InitBack (s.heap.objs.size+1) R)
  { s with heap:=(s.heap.push PySem.W.emptyDict).push (PySem.W.instObj C s.heap.objs.size) }) :
 codeAny (model prog w) A (.call (.ref C) ⟨vs,a⟩) R s:=by
 obtain⟨k,g,d,t,os⟩:=s;exact PySem.W.make_core (PySem.W.makes_of X b) (PySem.W.looks_findIn X i) (fun self=>PySem.W.bind_fn X self j) (.inl rfl) h
end
noncomputable def EB(f:Str)(v:V):Ms (Str×V)->Ms (Str×V)
 | []=>[(f,v)]
 | (g,x)::r=>if g=f then(g,v)::r else(g,x)::EB f v r
theorem EW(f g:Str)(v:V):∀fs:Ms (Str×V),(EB f v fs).lookup g=if g=f then ε v else fs.lookup g
 | []=>by
  show List.lookup g [(f,v)]=_;by_cases h:g=f
  . have a:(g==f)=true:=beq_iff_eq.mpr h;simp![List.lookup,a,eG h]
  . have a:(g==f)=false:=Es.mpr h;simp![List.lookup,a,eH h]
 | (k,x)::r=>by
  have ih:=EW f g v r;rw[show EB f v ((k,x)::r)=(if k=f then(k,v)::r else(k,x)::EB f v r)from rfl];by_cases b:k=f
  . rw[eG b];by_cases h:g=k
    . have a:(g==k)=true:=beq_iff_eq.mpr h;simp![List.lookup,a,eG (h.trans b)]
    . have a:(g==k)=false:=Es.mpr h;simp![List.lookup,a,eH (fun e:g=f=>h (e.trans b.symm))]
  . rw[eH b];by_cases h:g=k
    . have a:(g==k)=true:=beq_iff_eq.mpr h;simp![List.lookup,a,eH (fun e:g=f=>b (h.symm.trans e))]
    . have a:(g==k)=false:=Es.mpr h;simp![List.lookup,a];exact ih
theorem oS(f:Str)(v:V):∀fs:Ms (Str×V),f∈(EB f v fs).map (·.1)/\∀g,g∈fs.map (·.1)->g∈(EB f v fs).map (·.1)
 | []=>⟨by simp[EB],fun g h=>by simp at h⟩
 | (k,x)::r=>by
  obtain⟨d,b⟩:=oS f v r;rw[show EB f v ((k,x)::r)=(if k=f then(k,v)::r else(k,x)::EB f v r)from rfl];by_cases a:k=f
  . rw[eG a];subst a;exact⟨by simp,fun g h=>by simpa using h⟩
  . rw[eH a];refine⟨?_,fun g h=>?_⟩
    . rw[Ss];exact ou _ d
    . rw[Ss]at h ⊢;rcases Bo.mp h with e | e
      . exact Bo.mpr (.inl e)
      . exact ou _ (b g e)
theorem CW(f:Str)(v:V):∀fs:Ms (Str×V),(EB f v fs).length<=fs.length+1
 | []=>by simp[EB]
 | (k,x)::r=>by
  have ih:=CW f v r;rw[show EB f v ((k,x)::r)=(if k=f then(k,v)::r else(k,x)::EB f v r)from rfl];by_cases a:k=f
  . rw[eG a,Ru,Ru];omega
  . rw[eH a,Ru,Ru];omega
theorem ax.some_of{v:V}{o:Ni Mu}(r:ax (ε v) o):∃u,o=ε u/\td v u:=by
 cases o with
 | none=>exact(show False from r).elim
 | some u=>exact⟨u,rfl,r⟩
theorem ax.none_of{o:Ni Mu}(r:ax none o):o=none:=by
 cases o with
 | none=>rfl
 | some u=>exact(show False from r).elim
theorem Ad{v:V}{u:Mu}(r:td v u):PySem.W.handedIn u=true:=by
 cases v with
 | non=>cases (show u=Value.none from r);rfl
 | bl b=>cases (show u=Value.bool b from r);rfl
 | int i=>obtain⟨t,e⟩:=(show ∃t,u=Value.int i t from r);cases e;rfl
 | str x=>obtain⟨t,e⟩:=(show ∃t,u=Value.str x t from r);cases e;rfl
 | byt b=>obtain⟨t,e⟩:=(show ∃t,u=Value.bytes b t from r);cases e;rfl
 | flt b=>obtain⟨t,e⟩:=(show ∃t,u=Value.float b t from r);cases e;rfl
 | ref a=>cases (show u=Value.ref a from r);rfl
 | ty n=>cases (show u=Value.type n from r);rfl
section
variable{P:Oo}{w:O4}{H H':Hp}{h h':Pu}{a C b:Oa}{fs fs':Ms (Str×V)}
theorem YS(hok:tA P w H h)(e:H a=ε (.ins C b fs)):∃g,cq h a b C g/\(∀f,ax (fs.lookup f) (g f))/\PySem.Within g (fs.map (·.1))/\fs.length<=1000/\H b=ε (.own a):=by obtain⟨d,z,ne,ob,g,n,r,q⟩:=(show Yu P w H h a (.ins C b fs)from hok a _ e);exact⟨g,⟨ob,n,ne⟩,r,q,z,d⟩
end
structure Cls(K:Frag)(C:Addr):Prop where
 pg:PySem.W.plainGet K C Str.empty=true
 hd:PySem.W.hasDictIn K C=true
 po:PySem.W.plainOver K C=true
 sa:findIn K (.ref C) "__setattr__" =ε (ε (.builtin "object.__setattr__"))
theorem Cls.get{K:Oi}{C:Oa}(c:Cls K C)(f:Str):PySem.W.plainGet K C f=true:=c.pg
def cr(K:Oi)(C:Oa)(f:Str):Prop:=findIn K (.ref C) f=ε none
theorem cr.taker{K:Oi}{C:Oa}{f:Str}(n:cr K C f):PySem.W.takerIn K C f=ε none:=by unfold PySem.W.takerIn;rw[show findIn K (.ref C) f=ε none from n];rfl
structure YM(K:Frag)(C:Addr)(m:Str)(f:Addr):Prop where
 at_:findIn K (.ref C) m=ε (ε (.ref f))
 fn:PySem.W.isFn K (.ref f)=true
 kp:keepIn K (.ref f)=true
section
variable{X:Cx}{d:Ms (Oa×Obj)}{i:St}{H:Hp}{s:Nu}{a C j:Oa}{fs:Ms (Str×V)}{f:Str}{v:V}{A:Pa}{E:Mu->Nu->Prop}
theorem Kh{b:Bool}{Q:Mu->Nu->Prop}(I:so X d i H s)(e:H a=ε (.ins C j fs))(c:Cls X.K C)(n:cr X.K C f)(l:fs.lookup f=ε v)
 (h:∀u g,so X d i H g->td v u->Q u g):wpAny (model X.prog X.w) A (getAttr (.ref a) f b) Q E s:=by
 obtain⟨m,O,r,_,_,_⟩:=YS I.hok e;obtain⟨u,p,k⟩:=ax.some_of (v:=v) (o:=m f) (by rw[<- l];exact r f);exact io I.kIn O (c.get f) c.hd n p (Ad k) (h u _ (I.tok _) k)
theorem Lh{m:Str}{g:Oa}{pl:Sem Bool}{Q:Mu×Ms Mu->Nu->Prop}(I:so X d i H s)(e:H a=ε (.ins C j fs))(c:Cls X.K C)(k:YM X.K C m g)(l:fs.lookup m=none)
 (h:Q (.ref g,[.ref a]) s):wpAny (model X.prog X.w) A (getMethod (.ref a) m pl) Q E s:=by
 obtain⟨b,O,r,_,_,_⟩:=YS I.hok e;have n:b m=none:=ax.none_of (by rw[<- l];exact r m);exact Vc I.kIn O (c.get m) k.at_ k.fn n h
theorem Mg{y:V}{u:Mu}{Q:Unit->Nu->Prop}(I:so X d i H s)(e:H a=ε (.ins C j fs))(c:Cls X.K C)(n:cr X.K C f)(R:fs.length<1000)(F:td y u)
 (h:∀p,so X d i (IB H a (.ins C j (EB f y fs))) p->Q () p):wpAny (model X.prog X.w) A (setAttr (.ref a) f u) Q E s:=by
 obtain⟨B,O,r,m,_,D⟩:=YS I.hok e;have J:(fs.map (·.1)).length<=sizeLine:=by rw[ni,Ce];omega
 refine Y8 I.kIn O c.sa c.po n.taker c.hd m J fun P k sb=>h _ ?_
 have hd:∃o,P.get? j=ε o:=let ⟨o,_,_,e',_⟩:=k.ns;⟨o,e'⟩
 refine I.write (x:=a) (e:=j) (by rw[e];exact Ji) (.inr D) (fun b q M z=>(sb.2 b M).trans z) hd ?_;refine⟨by rw[dB O.ne];exact D,?_,O.ne,k.obj,_,k.ns,fun g=>?_,fun g L=>?_⟩
 . have:=CW f y fs;omega
 . show ax ((EB f y fs).lookup g) (if g=f then ε u else B g);rw[EW];by_cases q:g=f
   . rw[eG q,eG q];exact F
   . rw[eH q,eH q];exact r g
 . by_cases q:g=f
   . rw[q];exact(oS f y fs).1
   . refine(oS f y fs).2 g (m g fun z=>L ?_);show(if g=f then ε u else B g)=none;rw[eH q];exact z
theorem so.made(I:so X d i H s):so X d i (IB (IB H s.heap.objs.size (.own (s.heap.objs.size+1))) (s.heap.objs.size+1) (.ins C s.heap.objs.size []))
 { s with heap:=(s.heap.push PySem.W.emptyDict).push (PySem.W.instObj C s.heap.objs.size) }:=by
 have g:(s.heap.push PySem.W.emptyDict).get? s.heap.objs.size=ε PySem.W.emptyDict:=jl s.heap rfl;have e2:((s.heap.push PySem.W.emptyDict).push (PySem.W.instObj C s.heap.objs.size)).get? (s.heap.objs.size+1)=ε (PySem.W.instObj C s.heap.objs.size):=by have:=jl (s.heap.push PySem.W.emptyDict) (o:=PySem.W.instObj C s.heap.objs.size) rfl;rwa[Ks]at this
 have m:(s.heap.push PySem.W.emptyDict).Ns s.heap.objs.size (fun z=>none):=⟨PySem.W.emptyDict,#[],_,g,rfl,(fun e k=>Ei k ⋯),fun z=>rfl⟩;have n:=I.laid (a:=s.heap.objs.size) (o:=.own (s.heap.objs.size+1)) (h':=s.heap.push PySem.W.emptyDict) (t':=s.toks) (fun b u q=>cu _ q) (Uo _) ⟨_,g⟩;refine n.laid (a:=s.heap.objs.size+1) (o:=.ins C s.heap.objs.size []) (t':=s.toks) (fun b u q=>cu _ q) (Nat.le_of_eq (Ks _ _)) ?_;have ne:s.heap.objs.size≠s.heap.objs.size+1:=rz (zu _);refine⟨by rw[dB ne,IC],nu _,ne,e2,fun z=>none,(Heap.Ns1.of_empty m).at fun o q=>cu _ q,fun z=>Ji,fun y h=>Ei rfl h⟩
theorem ip{prog:Oo}{w:O4}{env:Env}{e:Oe}{f:Str}{pos:Pos}{s:Nu}{Q:Mu->Nu->Prop}(g:attributeBase e f env (eval e env)=eval e env)
 (h:wpAny (model prog w) A (eval e env) (fun o b=>wpAny (model prog w) A (getAttr o f true) Q E b) E s):wpAny (model prog w) A (eval (.Attribute e f pos) env) Q E s:=
 Attribute_any_ h (by rw[arm_eval_Attribute,g])
end
def o7(K:Oi)(e:TE)(f:Str):TE:=fun d H Q=>e d H fun x b=>∃a C g fs v,x=.ref a/\b a=ε (.ins C g fs)/\Cls K C/\cr K C f/\fs.lookup f=ε v/\Q v b
def i7(K:Oi)(h g:TE)(f:Str):TS:=fun D b H=>g b H fun y i=>h b i fun x e=>∃a C d fs,x=.ref a/\e a=ε (.ins C d fs)/\Cls K C/\cr K C f/\fs.length<1000/\
 D.nx b (IB e a (.ins C d (EB f y fs)))
section
variable{X:Cx}{o e b:Oe}{f:Str}{pos d tpos:Pos}{g i:TE}
theorem P9(he:PE X e g)(y:attributeBase e f X.env (eval e X.env)=eval e X.env):PE X (.Attribute e f pos) (o7 X.K g f):=by intro j s k H Q I h;refine ip y (HB (he j s k H _ I h) fun u M m=>?_);obtain⟨x,F,E,p,a,C,O,fs,v,ex,B,c,n,l,q⟩:=m;subst ex;obtain rfl:u=Value.ref a:=p;exact Kh E B c n l fun J L D r=>⟨v,F,D,r,q⟩
theorem cj(J:PE X o g)(F:PE X b i)(hs:swapsWith b (ε (.Attribute o f d)) pos.line X.env=pure false):PS X (.Assign [.Attribute o f d] b pos) (i7 X.K g i f):=by intro j s k H D I h;refine plainObj_wpAny_Assign_Attribute (HB (F j s k H _ I h) fun u p ⟨y,Q,P,r,q⟩=>HB (J j p k Q _ P q) fun E S m=>?_) hs;obtain⟨x,U,O,B,a,C,T,fs,ex,L,c,n,l,q2⟩:=m;subst ex;obtain rfl:E=Value.ref a:=B;exact Mg O L c n l r fun R M=>⟨k,_,M,q2⟩
end
section
variable{X:Cx}{pins:Ms (Oa×Obj)}{σ:St}{H:Hp}{s:Nu}{A:Pa}{E:Mu->Nu->Prop}{Q:Mu->Nu->Prop}{c:Mu}{b:Bool}
end
structure Xu(k:Nat)(A:Around):Prop where
 hd:A.handled=none
 dp:A.depth+3*k+5<recursionLimit
 un:A.units+16*k+200<cLine
theorem Xu.mono{j k:Nat}{A:Pa}(r:Xu k A)(h:j<=k):Xu j A:=⟨r.hd,by have:=r.dp;omega,by have:=r.un;omega⟩
theorem Xu.deeper{k:Nat}{A:Pa}(r:Xu (k+1) A)(env:Env):Xu k (A.deeper env):=
 ⟨r.hd,by have:=r.dp;show A.depth+1+3*k+5<_;omega,by have:=r.un;show A.units+3+16*k+200<_;omega⟩
theorem Ph {A:Pa} {C:Oa} {us:Ms Mu} {a:Ms (Str×Mu)}:(A.under (.builtin "type.__call__" ⟨.ref C::us,a⟩)).depth=A.depth+1:=by first | rfl | simp[Around.under,Code.weight,Code.isCreation,Code.isGuard,Code.isCaller,Code.frames,Code.isFrame,guardIds]
theorem Rh {A:Pa} {C:Oa} {us:Ms Mu} {a:Ms (Str×Mu)}:(A.under (.builtin "type.__call__" ⟨.ref C::us,a⟩)).units=A.units+1:=by first | rfl | simp[Around.under,Code.cUnits,Code.frames,Code.isFrame]
theorem Xu.make {k:Nat} {A:Pa} (r:Xu (k+1) A) (C:Oa) (us:Ms Mu) (a:Ms (Str×Mu)):Xu k (A.under (.builtin "type.__call__" ⟨.ref C::us,a⟩)):=
 ⟨r.hd,by have:=r.dp;rw[Ph];omega,by have:=r.un;rw[Rh];omega⟩
theorem Xu.depth{k:Nat}{A:Pa}(r:Xu k A):A.depth<recursionLimit:=by have:=r.dp;omega
theorem Xu.units{k:Nat}{A:Pa}(r:Xu k A):A.units+64<cLine:=by have:=r.un;omega
noncomputable def ZQ:TA:=fun _ H Q=>Q [] H
noncomputable def D3(e:TE)(d:TA):TA:=fun a H Q=>e a H fun x h=>d a h fun b g=>Q (x::b) g
section
variable{X:Cx}{e:Oe}{a:Ms Oe}{te:TE}{t:TA}{pos:Pos}
theorem bD:PA X [] ZQ:=fun q q q q H Q I h=>Calls.spliced_nil ⟨[],H,I,.nil,h⟩
theorem wC(o:PE X e te)(n:PA X a t)(hs:autoParam (starEach (e::a) X.env=(false,eval e X.env)::starEach a X.env) Æ):PA X (e::a) (D3 te t):=by intro pos b s d H Q I h;rw[hs];show wpAny _ _ (spliced ((false,eval e X.env)::backTo pos (starEach a X.env))) _ _ s;refine Calls.spliced_cons (HB (o b s d H _ I h) fun u j g=>?_);obtain⟨x,y,q,m,q1⟩:=g;exact HB (n pos b j d y _ q q1) fun B C ⟨i,r,p,k,q2⟩=>⟨x::i,r,p,.cons m k,q2⟩
def C7(t:TA):TE:=fun g H Q=>t g H fun b d=>b.length<=sizeLine/\∀p,d p=none->Q (.ref p) (IB d p (.tup b))
def iV(t:TA):TE:=fun g H Q=>t g H fun b d=>b.length<=sizeLine/\∀p,d p=none->Q (.ref p) (IB d p (.lst b))
theorem X1{x1}(h:PA X a t):PE X (.Tuple a x1 pos) (C7 t):=by intro d s k H Q I o;refine wpAny_Tuple_spliced (HB (h pos d s k H _ I o) fun n g ⟨m,j,i,r,z,q⟩=>⟨by rw[<- r.length];exact z,?_⟩);have p:j g.heap.objs.size=none:=i.hok.fresh (Uo _);refine⟨.ref g.heap.objs.size,IB j g.heap.objs.size (.tup m),i.laid (t':=g.toks) (fun b u e=>cu _ e) (Uo _) ?_,rfl,q _ p⟩;exact⟨z,n,r,⟨_,jl _ rfl,rfl,_,rfl⟩⟩
theorem VP(h:PA X a t):PE X (.List a pos) (iV t):=by intro d s k H Q I o;refine wpAny_List_spliced (HB (h pos d s k H _ I o) fun n g ⟨m,j,i,r,z,q⟩=>⟨by rw[<- r.length];exact z,?_⟩);have p:j g.heap.objs.size=none:=i.hok.fresh (Uo _);refine⟨.ref g.heap.objs.size,IB j g.heap.objs.size (.lst m),i.laid (t':=g.toks) (fun b u e=>cu _ e) (Uo _) ?_,rfl,q _ p⟩;exact⟨z,n,0,r,jl _ rfl⟩
end
abbrev Sp:=Ms V->Hp->VK->XK->Prop
abbrev wK:=Ms Env->Hp->Nu->XK->Mu->Nu->Prop
structure cv(P:Program)(w:World)(K:Frag)(mg:Str->Option Value)(base:Heap)(A:Around)(outer:List Env)(s:Shared)(H:Hp):Prop where
 frames:A.frames=ε outer
 mod:Mod K mg base
 bs:∀b o,base.get? b=ε o->s.heap.get? b=ε o/\H b=none
 bsz:base.objs.size<=s.heap.objs.size
 bj:s.heap.FunFrames base outer
 frf:∀b∈FK outer,H b=none
 hok:tA P w H s.heap
 bare:AllBare s.gens
def CE(outer:Ms Env)(P:Oo)(w:O4)(H:Hp)(s:Nu)(Q:VK)(u:Mu)(a:Nu):Prop:=
 ∃v b,a.os=s.os/\AllBare a.gens/\Un (FK outer) [] H b s.heap a.heap/\tA P w b a.heap/\td v u/\Q v b
def CR(CX:wK)(outer:Ms Env)(P:Oo)(w:O4)(H:Hp)(s:Nu)(Q:VK)(E:XK)(r:Result)(a:Nu):Prop:=
 match r with
 | .ok (.ret u)=>CE outer P w H s Q u a
 | .ok _=>False
 | .error e=>CX outer H s E e a
structure Zu(P:Program)(w:World)(K:Frag)(mg:Str->Option Value)(base:Heap)(CX:wK)(k:Nat)(f:Addr)(fd:FuncData)(ps:List Str)(sp:Sp):Prop where
 len:∀vs H Q E,sp vs H Q E->vs.length=ps.length
 run:∀(A:Around)(outer:List Env)(s:Shared)(H:Hp)(args:Args)(us:List Value)(vs:List V)(Q:VK)(E:XK),Xu k A->cv P w K mg base A outer s H->BindsTo s fd args (ps.zip us)->ss vs us->sp vs H Q E->
  codeAny (model P w) A (.call (.ref f) args) (CR CX outer P w H s Q E) s
theorem Zu.mono{P:Oo}{w:O4}{K:Oi}{mg:Str->Ni Mu}{base:Pu}{CX:wK}{j k:Nat}{f:Oa}{b:FuncData}{ps:Ms Str}{sp:Sp}(F:Zu P w K mg base CX j f b ps sp)(h:j<=k) :
 Zu P w K mg base CX k f b ps sp:=⟨F.len,fun A outer s H a e d Q E g=>F.run A outer s H a e d Q E (g.mono h)⟩
theorem cv.make{P:Oo}{w:O4}{K:Oi}{mg:Str->Ni Mu}{base:Pu}{A:Pa}{outer:Ms Env}{s:Nu}{H:Hp}(e:cv P w K mg base A outer s H)(C:Oa)(us:Ms Mu)(a:Ms (Str×Mu)) :
 cv P w K mg base (A.under (.builtin "type.__call__" ⟨.ref C::us,a⟩)) outer s H:=⟨by first | exact e.frames | (simpa[Around.under,Code.envs,Code.isFrame,pushEnvs]using e.frames),e.mod,e.bs,e.bsz,e.bj,e.frf,e.hok,e.bare⟩
section
variable{X:Cx}{a:Ms (Oa×Obj)}{c:St}{H:Hp}{s e:Nu}
theorem so.env0(I:so X a c H s):cv X.prog X.w X.K X.mg X.base X.A X.stack s H:=
 ⟨I.ok.frames,I.ok.mod,I.bs,um I.ok.bsz I.sz,I.stack,I.gm,I.hok,I.bare⟩
theorem so.after{Q:VK}{u:Mu}(I:so X a c H s)(h:CE X.stack X.prog X.w H s Q u e):EP X a c Q u e:=by obtain⟨v,k,os,bare,un,hok,r,q⟩:=h;obtain⟨j,g,d,t,i⟩:=e;obtain rfl:i=s.os:=os;exact⟨v,k,I.call (h':=j) (g':=g) (d':=d) (t':=t) (ch:=[]) un hok bare (fun b z=>Ei z ⋯),r,q⟩
end
noncomputable def C3(sp:Sp)(a:Ms V)(E:XK)(t:TA):TE:=fun b H Q=>t b H fun d e=>sp (d++a) e Q E
def wz(C:Oa)(m:Str)(sp:Sp)(b:Ms V)(E:XK)(h:TE)(t:TA):TE:=fun d H Q=>h d H fun x e=>∃a i fs,x=.ref a/\e a=ε (.ins C i fs)/\fs.lookup m=none/\
 t d e fun g j=>sp (x::(g++b)) j Q E
def uz(C:Oa)(sp:Sp)(b:Ms V)(E:XK)(t:TA):TE:=fun e H Q=>t e H fun g d=>∀x a,d x=none->d a=none->a≠x->
 sp (.ref x::(g++b)) (IB (IB d a (.own x)) x (.ins C a [])) (fun v h=>v=.non/\Q (.ref x) h) E
def tq(K:Oi)(b:FuncData)(ps:Ms Str)(ds:Ms Mu):Prop:=
 ∀(s:Nu)(a:Ms Mu),K.In s.heap->(a++ds).length=ps.length->BindsTo s b ⟨a,[]⟩ (ps.zip (a++ds))
theorem tq.all{K:Oi}{d:FuncData}{ps:Ms Str}(h:∀a:Ms Mu,a.length=ps.length->bindArgs d ⟨a,[]⟩=pure (ps.zip a)):tq K d ps []:=fun s a q b=>by rw[Us]at b ⊢;exact .of_eq (h a b)
def DI(CX:wK)(X:Cx)(E:XK):Prop:=∀(a:Ms (Oa×Obj))(d:St)(H:Hp)(s:Nu)(e:Mu)(b:Nu),so X a d H s->CX X.stack H s E e b->X.xe e b
section
variable{X:Cx}{CX:wK}{k:Nat}{f C:Oa}{fd:FuncData}{ps:Ms Str}{sp:Sp}{dvs:Ms V}{ds:Ms Mu}{E:XK}{x m:Str}{p pos apos:Pos}{e o:Oe}{es:Ms Oe}{ta:TE}{t:TA}
theorem CT{a:Ms (Oa×Obj)}{d:St}{H:Hp}{s:Nu}{Q:VK}{us:Ms Mu}{vs:Ms V}(F:Zu X.prog X.w X.K X.mg X.base CX k f fd ps sp)(n:Xu k X.A)(y:tq X.K fd ps ds)(hd:ss dvs ds)(j:DI CX X E)
 (I:so X a d H s) (r:ss vs us) (h:sp (vs++dvs) H Q E):wpAny (model X.prog X.w) X.A (call (.ref f) us) (EP X a d Q) X.xe s:=by
 have g:ss (vs++dvs) (us++ds):=r.append hd;have q:(us++ds).length=ps.length:=by rw[<- g.length];exact F.len _ _ _ _ h
 refine wpAny_call (codeAny_mono (F.run X.A X.stack s H ⟨us,[]⟩ (us++ds) (vs++dvs) Q E n I.env0 (y s us I.kIn q) g h) fun r i b=>?_);cases r with
 | error e=>exact j a d H s e i I b
 | ok B=>
  cases B with
  | ret u=>exact I.after b
  | next=>exact Fe b
  | brk=>exact Fe b
  | cont=>exact Fe b
theorem iq(F:Zu X.prog X.w X.K X.mg X.base CX k f fd ps sp)(j:Xu k X.A)(y:Gl X x)(n:X.mg x=ε (.ref f))(u:keepIn X.K (.ref f)=true)(B:tq X.K fd ps ds)(hd:ss dvs ds)(i:DI CX X E)
 (D:PA X (e::es) t) (b:autoParam ((x==("__debug__" :Str))=false) Ñ) (he:autoParam (starEach (e::es) X.env=(false,eval e X.env)::starEach es X.env) Æ) (hpl:autoParam ((backTo pos (starEach es X.env)).any (·.1)=false) Æ) :
 PE X (.Call (.Name x p) (e::es) [] pos) (C3 sp dvs E t):=by
 intro a s g H Q I h;refine wpAny_Call_Name_kw (uP I y n ?_ b);refine PySem.W.callWith_K (h₀:=X.base) I.ok.mod.kin u (HB (D pos a s g H _ I h) fun L M ⟨J,O,d,r,q⟩=>⟨d.kIn,?_⟩) he hpl;exact CT F j B hd i d r q
theorem Um(F:Zu X.prog X.w X.K X.mg X.base CX k f fd ps sp)(g:Xu k X.A)(n:Gl X x)(i:X.mg x=ε (.ref f))(j:keepIn X.K (.ref f)=true)(q:tq X.K fd ps ds)(hd:ss dvs ds)(d:DI CX X E)
 (a:autoParam ((x==("__debug__" :Str))=false) Ñ):PE X (.Call (.Name x p) [] [] pos) (C3 sp dvs E ZQ):=by
 intro b s r H Q I h;refine wpAny_Call_Name_kw (uP I n i ?_ a);exact PySem.W.callWith_K0 I.kIn j (CT (us:=[]) F g q hd d I .nil h)
theorem ir{pl:Sem Bool}(he:PE X o ta)(c:Cls X.K C)(i:YM X.K C m f)(F:Zu X.prog X.w X.K X.mg X.base CX k f fd ps sp)(M:Xu k X.A)(O:tq X.K fd ps ds)(hd:ss dvs ds)(J:DI CX X E)(P:PA X (e::es) t)
 (d:autoParam (starEach (e::es) X.env=(false,eval e X.env)::starEach es X.env) Æ) (hpl:autoParam ((backTo pos (starEach es X.env)).any (·.1)=false) Æ)
 (L:eval (.Call (.Attribute o m apos) (e::es) [] pos) X.env=(do
  let ov <- eval o X.env
  standAt apos.atName
  let (f,first) <- holding [ov] (getMethod ov m pl)
  callWith pos f first (backTo pos (starEach (e::es) X.env)) (backToKw pos (keywordEach [] X.env))):=by rfl) :
 PE X (.Call (.Attribute o m apos) (e::es) [] pos) (wz C m sp dvs E ta t):=by
 intro b s g H Q I h;refine PySem.W.methodCall_KW (pl:=pl) (HB (he b s g H _ I h) fun u B y=>?_) L;obtain⟨x,S,n,D,a,U,fs,ex,R,l,q⟩:=y;subst ex;obtain rfl:u=Value.ref a:=D;refine Lh n R c i l ?_;refine PySem.W.callWith_K (first:=[.ref a]) (h₀:=X.base) I.ok.mod.kin i.kp (HB (P pos b B g S _ n q) fun us T ⟨vs,W,j,r,q2⟩=>⟨j.kIn,?_⟩) d hpl;exact CT (us:=.ref a::us) (vs:=.ref a::vs) F M O hd J j (.cons rfl r) q2
structure Mk(K:Frag)(C f:Addr):Prop where
 makes:PySem.W.makesIn K C=true
 init:findIn K (.ref C) "__init__" =ε (ε (.ref f))
 fn:PySem.W.isFn K (.ref f)=true
 kp:keepIn K (.ref C)=true
theorem Ol{a:Ms (Oa×Obj)}{i:St}{H:Hp}{s:Nu}{Q:VK}{us:Ms Mu}{vs:Ms V}(M:Mk X.K C f)(F:Zu X.prog X.w X.K X.mg X.base CX k f fd ps sp)(D:Xu (k+1) X.A)(L:tq X.K fd ps ds)(hd:ss dvs ds)
 (B:DI CX X E) (I:so X a i H s) (r:ss vs us)
 (h:∀x d,H x=none->H d=none->d≠x->sp (.ref x::(vs++dvs)) (IB (IB H d (.own x)) x (.ins C d [])) (fun v R=>v=.non/\Q (.ref x) R) E) :
 wpAny (model X.prog X.w) X.A (call (.ref C) us) (EP X a i Q) X.xe s:=by
 have n:=h (s.heap.objs.size+1) s.heap.objs.size (I.hok.fresh (Nat.le_succ _)) (I.hok.fresh (Uo _)) (rz (zu _));have g:=so.made (C:=C) I;have j:ss (V.ref (s.heap.objs.size+1)::(vs++dvs)) (Value.ref (s.heap.objs.size+1)::(us++ds)):=.cons rfl (r.append hd);have J:(Value.ref (s.heap.objs.size+1)::us++ds).length=ps.length:=by have e:=j.length;rw[F.len _ _ _ _ n]at e;exact e.symm
 refine wpAny_call (Tp (f:=f) I.kIn M.makes M.init (beq_iff_eq.mp M.fn) (codeAny_mono (F.run _ X.stack _ _ ⟨Value.ref (s.heap.objs.size+1)::us,[]⟩ (Value.ref (s.heap.objs.size+1)::(us++ds)) _ _ E (D.make C us [])
  (g.env0.make C us []) (L _ (Value.ref (s.heap.objs.size+1)::us) g.kIn J) j n) fun r q b=>?_))
 cases r with
 | error e=>exact B a i _ _ e q g b
 | ok O=>
  cases O with
  | ret u=>obtain⟨v,S,P,y,ev,q3⟩:=g.after b;subst ev;exact⟨y,⟨V.ref (s.heap.objs.size+1),S,P,rfl,q3⟩⟩
  | next=>exact Fe b
  | brk=>exact Fe b
  | cont=>exact Fe b
theorem i0(M:Mk X.K C f)(F:Zu X.prog X.w X.K X.mg X.base CX k f fd ps sp)(j:Xu (k+1) X.A)(u:Gl X x)(n:X.mg x=ε (.ref C))(y:tq X.K fd ps ds)(hd:ss dvs ds)(i:DI CX X E)
 (B:PA X (e::es) t) (b:autoParam ((x==("__debug__" :Str))=false) Ñ) (he:autoParam (starEach (e::es) X.env=(false,eval e X.env)::starEach es X.env) Æ) (hpl:autoParam ((backTo pos (starEach es X.env)).any (·.1)=false) Æ) :
 PE X (.Call (.Name x p) (e::es) [] pos) (uz C sp dvs E t):=by
 intro a s g H Q I h;refine wpAny_Call_Name_kw (uP I u n ?_ b);refine PySem.W.callWith_K (h₀:=X.base) I.ok.mod.kin M.kp (HB (B pos a s g H _ I h) fun J L ⟨D,O,d,r,q⟩=>⟨d.kIn,?_⟩) he hpl;exact Ol M F j y hd i d r q
end
section
variable{X:Cx}{CX:wK}{k:Nat}{f C:Oa}{fd:FuncData}{ps ks:Ms Str}{sp:Sp}{E:XK}{x m:Str}{p pos apos kpos:Pos}{e o:Oe}{es:Ms Oe}{kws:Ms Keyword}{te ta:TE}{t tk:TA}{nm:Ni Str}
variable{g:Ms Mu->Ms Mu->Ms Mu}{gV:Ms V->Ms V->Ms V}
end
structure Ze(N P:List Str)(sc:Scope):Prop where
 kind:sc.kind=.function
 co:sc.isCoroutine=false
 gen:sc.isGenerator=false
 nd:N.Nodup
 pre:N.take P.length=P
 par:∀x∈P,sc.names.lookup x=ε .local\/sc.names.lookup x=ε .cell
 i3:∀y∈sc.names,y.2≠.free
theorem rX{a:Str->Ni NameKind}{x:Str}:∀{binds:Ms (Str×Mu)}{m:Str->Ni Mu},(∀v,(x,v)∉binds)->bindL a binds m x=m x
 | [],_,_=>rfl
 | (n,v)::r,m,h=>by
  unfold bindL;rw[rX fun w hw=>h w (ou _ hw)];split
  . have:x≠n:=by rintro rfl;exact h v uq
    simp[this]
  . rfl
theorem YX{a:Str->Ni NameKind}{x:Str}:∀{binds:Ms (Str×Mu)}{m:Str->Ni Mu},(∀v,(x,v)∉binds)->bindC a binds m x=m x
 | [],_,_=>rfl
 | (n,v)::r,m,h=>by
  unfold bindC;rw[YX fun w hw=>h w (ou _ hw)];split
  . rfl
  . have:x≠n:=by rintro rfl;exact h v uq
    simp[this]
theorem qX{a:Str->Ni NameKind}{x:Str}{v:Mu}:∀{P:Ms Str}{vs:Ms Mu}{i:Nat}{m:Str->Ni Mu},P.Nodup->P[i]?=ε x->vs[i]?=ε v->a x=ε .local->
 bindL a (P.zip vs) m x=ε v
 | [],_,_,_,_,h,_,_=>by simp at h
 | _::_,[],_,_,_,_,h,_=>by simp at h
 | p::P,w::vs,0,m,nd,h1,h2,hk=>by simp at h1 h2;subst h1;subst h2;show bindL a ((p,w)::P.zip vs) m p=_;unfold bindL;rw[rX fun v b=>(Le.mp nd).1 (of_mem_zip b).1,eG hk];simp
 | p::P,w::vs,i+1,m,nd,h1,h2,hk=>by show bindL a ((p,w)::P.zip vs) m x=_;unfold bindL;exact qX (i:=i) (Le.mp nd).2 (by simpa using h1) (by simpa using h2) hk
theorem XX{a:Str->Ni NameKind}{x:Str}{v:Mu}:∀{P:Ms Str}{vs:Ms Mu}{i:Nat}{m:Str->Ni Mu},P.Nodup->P[i]?=ε x->vs[i]?=ε v->a x≠ε .local->
 bindC a (P.zip vs) m x=ε v
 | [],_,_,_,_,h,_,_=>by simp at h
 | _::_,[],_,_,_,_,h,_=>by simp at h
 | p::P,w::vs,0,m,nd,h1,h2,hk=>by simp at h1 h2;subst h1;subst h2;show bindC a ((p,w)::P.zip vs) m p=_;unfold bindC;rw[YX fun v b=>(Le.mp nd).1 (of_mem_zip b).1,eH hk];simp
 | p::P,w::vs,i+1,m,nd,h1,h2,hk=>by show bindC a ((p,w)::P.zip vs) m x=_;unfold bindC;exact XX (i:=i) (Le.mp nd).2 (by simpa using h1) (by simpa using h2) hk
noncomputable def aG(N:Ms Str)(vs:Ms V):St:=vs.map some++List.replicate (N.length-vs.length) none
noncomputable def YE(CX:wK)(P:Oo)(w:O4)(K:Oi)(mg:Str->Ni Mu)(base:Pu)(N:Ms Str)(b:Str)(a:Scope)(f:Oa)(g:Mu)(A:Pa)(outer:Ms Env)(s:Nu)(H:Hp)(E:XK):Cx where
 prog:=P
 w:=w
 K:=K
 mg:=mg
 base:=base
 A:=A.deeper (envOfC b a s.heap.objs.size f g)
 N:=N
 s₀:=s
 H₀:=H
 env:=envOfC b a s.heap.objs.size f g
 outer:=outer
 stack:=envOfC b a s.heap.objs.size f g::outer
 ex:=[]
 calm:=true
 fn:=fun _=>true
 pn:=[]
 xe:=fun e h=>wpAny (model P w) (A.deeper (envOfC b a s.heap.objs.size f g)) (leaving (envOfC b a s.heap.objs.size f g) e) (fun _ d=>CX outer H s E e d) (fun i d=>CX outer H s E i d) h
theorem LY{a:Scope}{n:Nat}{x:Str}(h:a.names.lookup x=ε .cell):∃c,(cellsFrom n a.names []).lookup x=ε c:=by have q:=PySem.W.cellsFrom_some a.names n [] (.inl h);exact Option.isSome_iff_exists.mp q
theorem Jd{CX:wK}{P:Oo}{w:O4}{K:Oi}{mg:Str->Ni Mu}{base:Pu}{N ps:Ms Str}{g:Str}{d:Scope}{f:Oa}{F:Mu}{A:Pa}{outer:Ms Env}{s s1:Nu}{H:Hp}{E:XK}{us:Ms Mu}{vs:Ms V}
 (S:Ze N ps d) (hd:A.handled=none) (m:cv P w K mg base A outer s H) (R:vs.length=ps.length) (r:ss vs us)
 (x:InCallC s s.heap.objs.size (bindL (envOfC g d s.heap.objs.size f F).kindOf (ps.zip us) fun t=>none) (cellsFrom (s.heap.objs.size+1) d.names []) (bindC (envOfC g d s.heap.objs.size f F).kindOf (ps.zip us) fun t=>none) s1) :
 so (YE CX P w K mg base N g d f F A outer s H E) [] (aG N vs) H s1:=by
 have M:ps.length<=N.length:=by have:=congrArg List.length S.pre;rw[Ci]at this;omega
 obtain⟨D,Q,rfl,J⟩:=x.done;have o:∀b:Oa,b∉(YE CX P w K mg base N g d f F A outer s H E).ex:=fun b z=>Ei (show b∈([]:Ms Oa)from z) ⋯
 refine⟨⟨m.mod,S.kind,rfl,rfl,Uo _,fun y z c D j=>?_,fun y hy=>?_,fun y c t h=>?_,fun t=>hd,Around.frames_deeper m.frames,.inr ⟨rfl,rfl⟩,fun b z=>Ei z (o b),m.bs,m.bsz,fun b t t=>o b,fun b z=>Ei z (o b),m.bj,m.frf⟩,
  rfl,m.bare,Un.kept J,⟨_,x.toInCall.ns,fun i y v D j T=>?_⟩,fun y c h=>⟨_,x.cell y c h⟩,m.hok.fresh (Uo _),fun y c h=>?_,fun p hp=>Ei (show p∈([]:Ms (Oa×Obj))from hp) ⋯,m.hok.kept J,?_⟩
 . exact name_of_addr x.apart (PySem.mem_of_lookup D) (PySem.mem_of_lookup j)
 . have hy:d.names.lookup y=ε .cell\/d.names.lookup y=ε .free:=hy;rcases hy with hy | hy
   . exact LY hy
   . exact Ei rfl (S.i3 _ (PySem.mem_of_lookup hy))
 . exact Di (x.above y c (PySem.mem_of_lookup h))
 . have C:i<vs.length:=by
    unfold aG at j;by_cases C:i<vs.length
    . exact C
    . rw[ab (by simpa using C)]at j;rw[getElem?_replicate]at j;split at j<;>cases j
   have O:vs[i]?=ε v:=by
    unfold aG at j;rw[Xo (by simpa using C),wu]at j;cases e:vs[i]? with
    | none=>rw[e]at j;cases j
    | some a=>rw[e]at j;cases j;rfl
   obtain⟨u,I,L⟩:=r.get O;have hp:ps[i]?=ε y:=by rw[<- S.pre,getElem?_take_of_lt nofun];exact D
   have B:ps.Nodup:=by rw[<- S.pre];exact S.nd.sublist (take_sublist _ _)
   refine⟨u,L,?_⟩;rcases S.par y (lu hp)with k | k
   . exact .inl ⟨k,qX B hp I k⟩
   . obtain⟨c,e⟩:=LY (n:=s.heap.objs.size+1) k;refine .inr ⟨.inl k,c,e,?_⟩;have q:=x.cell y c e;rw[XX B hp I (by show d.names.lookup y≠_;rw[k];decide)]at q;exact q
 . exact m.hok.fresh (Di (x.above y c (PySem.mem_of_lookup h)))
 . unfold aG;show _=N.length;rw[ji,ni,length_replicate];omega
theorem F4{CX:wK}{P:Oo}{w:O4}{K:Oi}{mg:Str->Ni Mu}{base:Pu}{k:Nat}{f:Oa}{name d:Str}{h:Arguments}{body:Ms Ou}{a:Scope}{W kV F U g ct oc:Mu}{Z od:Ni Oa}
 {M:Pb (Ni Mu)} {N ps:Ms Str} {sp:Sp} (lk:K.lookup f=ε ⟨oc,od,.func (fnOf name d h body a W kV F U Z g ct),M⟩) (T:PySem.W.codeIn K g d=true) (S:Ze N ps a)
 (len:∀vs H Q E,sp vs H Q E->vs.length=ps.length)
 (p:∀(A:Pa)(outer:Ms Env)(s:Nu)(H:Hp)(vs:Ms V)(Q:VK)(E:XK),Xu k (A.deeper (envOfC d a s.heap.objs.size f g))->sp vs H Q E->
  ∃t,PSs (YE CX P w K mg base N d a f g A outer s H E) body t/\t { nx:=fun _ j=>Q .non j,rt:=Q } (aG N vs) H) :
 Zu P w K mg base CX (k+1) f (fnOf name d h body a W kV F U Z g ct) ps sp:=by
 refine⟨len,fun A outer s H Y us vs Q E R D hb r B=>?_⟩;have hl:=len _ _ _ _ B;have KX:K.In s.heap:=D.mod.kin.keeps fun b o e=>(D.bs b o e).1
 have O:s.heap.NoLimit:=D.mod.nolimit.keeps fun b o e=>(D.bs b o e).1
 have m:∀y∈ps.zip us,a.names.lookup y.1=ε .local\/(a.names.lookup y.1=ε .cell/\((cellsFrom (s.heap.objs.size+1) a.names []).lookup y.1).isSome=true):=fun zz hy=>by
  obtain⟨n,v⟩:=zz;rcases S.par n (of_mem_zip hy).1 with q | q
  . exact .inl q
  . exact .inr ⟨q,PySem.W.cellsFrom_some _ _ _ (.inl q)⟩
 refine codeAny_call_function R.depth (KX _ _ lk) rfl S.co S.gen rfl (PySem.W.codeRec_of KX T) (hb _ _ _ _ ?_);refine wpAny_newFunctionEnv_cells S.kind m fun env he s1 x=>?_
 subst he;refine⟨O.keeps x.toInCall.keep,codeAny_func ?_⟩;obtain⟨t,ht,hq⟩:=p A outer s H vs Q E (R.deeper _) B;have I:so (YE CX P w K mg base N d a f g A outer s H E) [] (aG N vs) H s1:=Jd S R.hd D hl r x;refine Hs (ht [] s1 (aG N vs) H _ I hq) (fun fl s' hs=>?_) fun e s' hs=>hs
 have C:∀{i:St}{j:Hp}{v:V}{u:Mu},so (YE CX P w K mg base N d a f g A outer s H E) [] i j s'->td v u->Q v j->CE outer P w H s Q u s':=
  fun {i j v u} J L q=>⟨v,j,J.os,J.bare,J.base,J.hok,L,q⟩
 cases fl with
 | ret u=>obtain⟨v,i,j,J,L,q⟩:=hs;exact C J L q
 | next=>obtain⟨i,j,J,q⟩:=hs;exact C (v:=V.non) (u:=Value.none) J rfl q
 | brk=>obtain⟨_,_,_,q⟩:=hs;exact Fe q
 | cont=>obtain⟨_,_,_,q⟩:=hs;exact Fe q
section
variable{X:Cx}{x:Str}{p pos:Pos}{e:Oe}{a:Ms Oe}{t:TA}{b T:String}{r:Ms V->Hp->VK->Prop}
noncomputable def tCB(r:Ms V->Hp->VK->Prop)(t:TA):TE:=fun d H Q=>t d H fun g h=>r g h Q
theorem GJ (B:ae X (.builtin b) r) (y:Gl X x) (u:X.mg x=none) (o:bootBuiltins x=ε (.builtin b)) (C:PA X (e::a) t) (q:autoParam (x ≠ "__name__" ) Ñ) (g:autoParam ((x==("__debug__" :Str))=false) Ñ)
 (he:autoParam (starEach (e::a) X.env=(false,eval e X.env)::starEach a X.env) Æ) (hpl:autoParam ((backTo pos (starEach a X.env)).any (·.1)=false) Æ):PE X (.Call (.Name x p) (e::a) [] pos) (tCB r t):=by
 intro d s i H Q I h;refine wpAny_Call_Name_kw (LG I y u o ?_ q g);exact PyProof.Rows.callWith_builtin1 (HB (C pos d s i H _ I h) fun k m ⟨j,E,D,n,q1⟩=>B d m i E j k Q D n q1) he hpl
theorem rS (B:ae X (.type T) r) (y:Gl X x) (u:X.mg x=none) (o:bootBuiltins x=ε (.type T)) (C:PA X (e::a) t) (q:autoParam (x ≠ "__name__" ) Ñ) (g:autoParam ((x==("__debug__" :Str))=false) Ñ)
 (he:autoParam (starEach (e::a) X.env=(false,eval e X.env)::starEach a X.env) Æ) (hpl:autoParam ((backTo pos (starEach a X.env)).any (·.1)=false) Æ):PE X (.Call (.Name x p) (e::a) [] pos) (tCB r t):=by
 intro d s i H Q I h;refine wpAny_Call_Name_kw (LG I y u o ?_ q g);exact PyProof.Rows.callWith_type1 (HB (C pos d s i H _ I h) fun k m ⟨j,E,D,n,q1⟩=>B d m i E j k Q D n q1) he hpl
end
end L2
namespace HT
section
open PySem.SeqAt
open PySem.AutoSeq1 (wpAny_loadPart')
open PySem.MeetsSeq PySem.MeetsSeq2 PySem.MeetsSeq3
end
section
variable{prog:Oo}{w:O4}{A:Pa}{E:Mu->Nu->Prop}{s:Nu}
theorem i4{t b:Oa}{vs ws:Ms Mu}{Q:Mu->Nu->Prop}(x:IsTup s.heap t vs.toArray)(y:IsTup s.heap b ws.toArray)(p:vs ≠ [])
 (h1:ws=[]->Q (.ref t) s) (h2:ws ≠ []->Q (.ref s.heap.objs.size) { s with heap:=s.heap.push { cls:=.type "tuple",data:=.seq (vs++ws).toArray } })
 (hsz:vs.length+ws.length<=sizeLine):wpAny (model prog w) A (binaryOp .Add (.ref t) (.ref b)) Q E s:=by
 obtain⟨⟨cls,r,data,m⟩,j,q,n,hd⟩:=id x;obtain⟨⟨u,i,k,d⟩,a,h,o,g⟩:=id y;simp only at q hd h g;subst q hd h g;have e:vs.toArray++ws.toArray=(vs++ws).toArray:=by simp
 by_cases hw:ws=[]
 . exact concat_meets ⟨_,j,rfl⟩ ⟨_,a,rfl⟩ noFill_tuple_add seq_tuple_add PySem.F.slot_tuple_add PySem.F.entry_tuple_add (PySem.F.args_tuple_add_2 _ _)
    (tuple_addW1 t b vs.toArray ws.toArray n o r i m d (by simpa using p) (by simp[hw])) ⟨j,a,h1 hw⟩
 . refine concat_meets ⟨_,j,rfl⟩ ⟨_,a,rfl⟩ noFill_tuple_add seq_tuple_add PySem.F.slot_tuple_add PySem.F.entry_tuple_add (PySem.F.args_tuple_add_2 _ _)
    (tuple_addW2 t b vs.toArray ws.toArray n o r i m d (by simpa using p) (by simpa using hw) (by rw[dh,dh];exact hsz)) ⟨j,a,?_⟩
   rw[e];exact h2 hw
noncomputable def sIx(n d:Nat):Ni Int->Nat
 | none=>d
 | some v=>if v<0 then(v+(n:Int)).toNat else min v.toNat n
theorem yx(n d:Nat)(hd:d<=n)(o:Ni Int):sIx n d o<=n:=by
 cases o with
 | none=>exact hd
 | some v=>
  show(if v<0 then(v+(n:Int)).toNat else min v.toNat n)<=n;by_cases a:v<0
  . rw[eG a];omega
  . rw[eH a];exact Nat.min_le_right _ _
theorem fh(v:Int)(n d:Nat):(if v<0 then max (v+(n:Int)) 0 else min v (n:Int))=((sIx n d (ε v):Nat):Int):=by
 show _=(((if v<0 then(v+(n:Int)).toNat else min v.toNat n):Nat):Int);by_cases a:v<0
 . rw[eG a,eG a,Int.ofNat_toNat]
 . obtain⟨k,rfl⟩:=Int.eq_ofNat_of_zero_le (Int.not_lt.mp a);rw[eH a,eH a,n7];rcases Nat.le_total k n with h | h
   . rw[Nat.min_eq_left h,Int.min_eq_left (Int.ofNat_le.mpr h)]
   . rw[Nat.min_eq_right h,Int.min_eq_right (Int.ofNat_le.mpr h)]
theorem Cg(lo a:Ni Int)(n:Nat):Builtin.Slice.sliceAdjust lo a 1 (n:Int)=(((sIx n 0 lo:Nat):Int),((sIx n n a:Nat):Int)):=by
 have b:¬((1:Int)<0):=by omega
 unfold Builtin.Slice.sliceAdjust;simp![b,eO];refine Prod.ext ?_ ?_
 . cases lo with
   | none=>rfl
   | some v=>exact fh v n 0
 . cases a with
   | none=>rfl
   | some v=>exact fh v n n
theorem Yg(i j:Nat):Builtin.Slice.slicePlaces (i:Int) (j:Int) 1=j-i:=by
 unfold Builtin.Slice.slicePlaces;have a:(1:Int)>0:=by omega
 simp![a,eN,Int.ediv_one];split<;>omega
theorem eX{v:Mu}{o:Ni Int}{Q:Ni Int->Nu->Prop}(p:IsPart v o)(h:Q o s):wpAny (model prog w) A (Builtin.Slice.slicePartIndex v) Q E s:=by
 cases p with
 | none=>exact slicePart_none h
 | int i t=>exact slicePart_int h
theorem Iv{i:Oa}{g e:Mu}{lo b:Ni Int}{n:Nat}{Q:Int×Int×Nat->Nu->Prop}(hs:s.heap.IsSliceOf i g e .none)(pl:IsPart g lo)(j:IsPart e b)
 (h:Q (((sIx n 0 lo:Nat):Int),1,sIx n n b-sIx n 0 lo) s):wpAny (model prog w) A (Builtin.Slice.sliceApplied (.ref i) (pure (n:Int))) Q E s:=by
 obtain⟨os,a,k,d⟩:=id hs;unfold Builtin.Slice.sliceApplied Builtin.Slice.sliceFields;refine ao (ao (Gu a d (x:=g) rfl (ao (Gu a d (x:=e) rfl (ao (Gu a d (x:=.none) rfl (au ?_)))))));refine ao (slicePart_none ?_);show wpAny _ _ (if((1:Int)==0)=true then _ else _) _ _ s;rw[eH (by decide)];refine ao (eX pl (ao (eX j (ao (au ?_)))));show wpAny _ _ (match Builtin.Slice.sliceAdjust lo b 1 (n:Int)with | (lo,b)=>pure (lo,(1:Int),Builtin.Slice.slicePlaces lo b 1)) _ _ s;rw[Cg lo b n];show wpAny _ _ (pure (((sIx n 0 lo:Nat):Int),(1:Int),Builtin.Slice.slicePlaces ((sIx n 0 lo:Nat):Int) ((sIx n n b:Nat):Int) 1)) _ _ s;rw[Yg];exact au h
theorem Al(xs:Pb Mu)(i k:Nat):((List.range k).filterMap fun(m:Nat)=>xs[((i:Int)+(m:Int)*1).toNat]?).toArray=((xs.toList.drop i).take k).toArray:=by
 have e:(fun(m:Nat)=>xs[((i:Int)+(m:Int)*1).toNat]?)=fun m=>xs[i+m]?:=by
  funext m
  have:((i:Int)+(m:Int)*1).toNat=i+m:=by omega
  rw[this]
 rw[e];have:=pick_run xs i k;rw[filterMap_map]at this;have e2:((fun x=>xs[x]?) ∘ fun x=>i+x)=fun m=>xs[i+m]?:=rfl
 rw[e2]at this;rw[this]
theorem i5{t e:Oa}{items:Pb Mu}{o n:Mu}{lo a:Ni Int}{Q:Mu->Nu->Prop}(d:IsTup s.heap t items)(hs:s.heap.IsSliceOf e o n .none)(pl:IsPart o lo)(p:IsPart n a)
 (hw:¬(sIx items.size 0 lo=0/\sIx items.size items.size a=items.size))
 (h:Q (.ref s.heap.objs.size) { s with heap:=s.heap.push { cls:=.type "tuple",data:=.seq ((items.toList.drop (sIx items.size 0 lo)).take (sIx items.size items.size a-sIx items.size 0 lo)).toArray } })
 (hsz:items.size<=sizeLine):wpAny (model prog w) A (getItem (.ref t) (.ref e)) Q E s:=by
 have b:sizeOk (.seq ((items.toList.drop (sIx items.size 0 lo)).take (sIx items.size items.size a-sIx items.size 0 lo)).toArray):=by show((items.toList.drop (sIx items.size 0 lo)).take (sIx items.size items.size a-sIx items.size 0 lo)).toArray.size<=sizeLine;rw[dh,Ci,length_drop,z7];omega
 have u:sIx items.size items.size a<=items.size:=yx _ _ (Uo _) a;obtain⟨os,g,j,r⟩:=id hs;have k:s.TypeIs (.ref e) "slice" :=⟨os,g,j⟩;unfold getItem
 try with_reducible refine Eu ?_
 first | refine ao (au ?_) | skip
 refine ao (wpAny_sequenceKey d.typeIs (by decide) ?_);refine ao (wpAny_callSpecial?_slot (name:=Str.ofString "__getitem__") d.typeIs PyProof.Rows.slot_tuple_getitem
  (wpAny_call_entry PyProof.Rows.slot_tuple_getitem d.typeIs entry_tuple_getitem ?_ (args_tuple_getitem _ _)))
 show wpAny _ _ (Builtin.Tuple.tupleItemsOf (.ref t) >>=_) _ _ s;refine ao (tupleItemsOf_ d ?_);refine ao (wpAny_typeOf k ?_);rw[eG (by decide)];refine ao (Iv hs pl p ?_);have i:¬((((sIx items.size 0 lo:Nat):Int)==0&&(1:Int)==1&&(sIx items.size items.size a-sIx items.size 0 lo)==items.size)=true):=by intro q;rw[xr,xr]at q;have q1:((sIx items.size 0 lo:Nat):Int)=0:=eq_of_beq q.1.1;have q2:sIx items.size items.size a-sIx items.size 0 lo=items.size:=eq_of_beq q.2;exact hw ⟨by omega,by omega⟩
 show wpAny _ _ (if(((sIx items.size 0 lo:Nat):Int)==0&&(1:Int)==1&&(sIx items.size items.size a-sIx items.size 0 lo)==items.size)=true then _ else _) _ _ s;rw[eH i,Al]
 first
  | exact ao (m:=Builtin.Tuple.tupleExact _) (Ai (au ⟨_,rfl,au h⟩) b)
  | exact ao (m:=Builtin.Tuple.tupleExact _) (Ai (ao (au (au ⟨_,rfl,au h⟩))) b)
  | exact ao (ao (m:=Builtin.Tuple.tupleExact _) (Ai (au (au ⟨_,rfl,au h⟩)) b))
  | exact ao (ao (m:=Builtin.Tuple.tupleExact _) (Ai (au ⟨_,rfl,au h⟩) b))
end
end HT
namespace L2
abbrev TO:=St->Hp->(Ni Int->Hp->Prop)->Prop
def PO(X:Cx)(e:Ni Oe)(t:TO):Prop:=
 ∀(a:Ms (Oa×Obj))(s:Nu)(b:St)(H:Hp)(Q:Ni Int->Hp->Prop),so X a b H s->t b H Q->
  wpAny (model X.prog X.w) X.A (evalPart e X.env) (fun u g=>∃o d,so X a b d g/\IsPart u o/\Q o d) X.xe s
noncomputable def e9:TO:=fun _ H Q=>Q none H
noncomputable def Ez(t:TE):TO:=fun a H Q=>t a H fun x b=>∃i,x=.int i/\Q (ε i) b
theorem CJ{ns:Ms Int}:∀{us:Ms Mu},ss (ns.map V.int) us->IntsAre us ns:=by
 induction ns with
 | nil=>intro us r;rw[Vs]at r;cases r;exact .nil
 | cons n ns ih=>
  intro us r;rw[Ss]at r;cases r with
  | cons b a=>obtain⟨t,e⟩:=b;subst e;exact .cons n t (ih a)
section
variable{X:Cx}{e:Oe}{te:TE}{lo c:Ni Oe}{d f:TO}{pos g:Pos}
theorem ja:PO X none e9:=by intro a s b H Q I h;rw[evalPart_none];exact au ⟨none,H,I,.none,h⟩
theorem jb(h:PE X e te):PO X (ε e) (Ez te):=by
 intro a s b H Q I hw;rw[evalPart_some];refine HB (h a s b H _ I hw) fun u o j=>?_
 obtain⟨x,n,m,k,q1⟩:=j;obtain⟨i,rfl,q⟩:=q1;obtain⟨t,rfl⟩:=k;exact⟨ε i,n,m,.int i t,q⟩
def Y5(X:Cx)(r:V->Ni Int->Ni Int->Hp->VK->Prop):Prop:=
 ∀(a:Ms (Oa×Obj))(s:Nu)(b:St)(H:Hp)(x:V)(v i h:Mu)(lo c:Ni Int)(j:Oa)(Q:VK),so X a b H s->td x v->s.heap.IsSliceOf j i h .none->IsPart i lo->IsPart h c->r x lo c H Q->
  ∃T k,typeLookup (.type T) "__getitem__" =pure (ε (.builtin k))/\s.TypeIs v T/\wpAny (model X.prog X.w) X.A (getItem v (.ref j)) (EP X a b Q) X.xe s
noncomputable def tSl(r:V->Ni Int->Ni Int->Hp->VK->Prop)(te:TE)(d f:TO):TE:=fun a H Q=>te a H fun x i=>d a i fun l h=>f a h fun u b=>r x l u b Q
theorem tY{r:V->Ni Int->Ni Int->Hp->VK->Prop}(F:Y5 X r)(he:PE X e te)(J:PO X lo d)(D:PO X c f):PE X (.Subscript e (.Slice lo c none g) pos) (tSl r te d f):=by
 intro a s j H Q I h;refine Subscript_ (HB (he a s j H _ I h) fun v y n=>?_);obtain⟨x,W,S,B,q1⟩:=n;refine wpAny_Slice (HB (J a y j W _ S q1) fun m p ⟨l,U,R,pl,q2⟩=>HB (D a p j U _ R q2) fun k i n=>?_);obtain⟨u,o,P,C,q3⟩:=n;rw[evalPart_none];refine au ?_;have O:so X a j o { i with heap:=i.heap.push { cls:=.type "slice",data:=.fields #[m,k,.none] } }:=P.kept (t':=i.toks) fun b ob q=>cu _ q
 obtain⟨T,Y,M,E,L⟩:=F a { i with heap:=i.heap.push { cls:=.type "slice",data:=.fields #[m,k,.none] } } j o x v m k l u i.heap.objs.size Q O B (Heap.IsSliceOf.new ..) pl C q3;show wpAny (model X.prog X.w) X.A (subscriptTail e (.Slice lo c none g) v (.ref i.heap.objs.size)) (EP X a j Q) X.xe { i with heap:=i.heap.push { cls:=.type "slice",data:=.fields #[m,k,.none] } };exact tail_any (ops:=[.ref i.heap.objs.size,v]) E M L (by unhygienic rfl)
def cH(xs:Ms V)(lo c:Ni Int):Ms V:=(xs.drop (HT.sIx xs.length 0 lo)).take (HT.sIx xs.length xs.length c-HT.sIx xs.length 0 lo)
theorem AW(xs:Ms V)(lo c:Ni Int):(cH xs lo c).length<=xs.length:=by unfold cH;rw[Ci,length_drop];omega
def h7(K:Oi):V->Ni Int->Ni Int->Hp->VK->Prop:=fun x lo c H Q=>∃a b,x=.ref a/\tG K H a b/\
 ¬(HT.sIx b.length 0 lo=0/\HT.sIx b.length b.length c=b.length)/\∀p,H p=none->Q (.ref p) (IB H p (.tup (cH b lo c)))
theorem Ax:Y5 X (h7 X.K):=by
 intro m s C H x v E D lo c F Q I u hs pl y h;obtain⟨a,j,rfl,B,hw,q⟩:=h;cases u;obtain⟨k,r,p,n⟩:=I.tuple B;have i:k.toArray.size=j.length:=by rw[dh];exact r.length.symm
 refine⟨"tuple",_,PyProof.Rows.slot_tuple_getitem.lookup,p.typeIs,?_⟩;refine HT.i5 p hs pl y (by rw[i];exact hw) ?_ (by rw[i];exact n);rw[i];refine⟨.ref s.heap.objs.size,_,I.laid (t':=s.toks) (o:=.tup (cH j lo c)) (fun b ob q=>cu _ q) (Uo _) ?_,rfl,q _ (I.hok.fresh (Uo _))⟩;exact⟨um (AW j lo c) n,_,(r.drop (HT.sIx j.length 0 lo)).take (HT.sIx j.length j.length c-HT.sIx j.length 0 lo),IsTup.new _ _⟩
def Wx(K:Oi):R2:=fun x y H Q=>∃a b i h,x=.ref a/\y=.ref b/\tG K H a i/\tG K H b h/\i ≠ []/\i.length+h.length<=sizeLine/\
 (h=[]->Q (.ref a) H)/\(h ≠ []->∀p,H p=none->Q (.ref p) (IB H p (.tup (i++h))))
theorem ss.fk{xs:Ms V}{us:Ms Mu}(r:ss xs us):us=[]↔xs=[]:=by
 cases r with
 | nil=>simp
 | cons _ _=>simp
theorem jn:tv X (binaryOp .Add) (Wx X.K):=by intro k s M H x y v u Q I C B h;obtain⟨a,b,r,p,rfl,rfl,L,J,F,n,q1,q2⟩:=h;cases C;cases B;obtain⟨E,j,D,_⟩:=I.tuple L;obtain⟨m,i,g,_⟩:=I.tuple J;refine HT.i4 D g (fun z=>F (j.fk.mp z)) (fun z=>⟨.ref a,H,I,rfl,q1 (i.fk.mp z)⟩) (fun z=>?_) (by rw[<- j.length,<- i.length];exact n);refine⟨.ref s.heap.objs.size,_,I.laid (t':=s.toks) (o:=.tup (r++p)) (fun b ob q=>cu _ q) (Uo _) ?_,rfl,q2 (fun w=>z (i.fk.mpr w)) _ (I.hok.fresh (Uo _))⟩;exact⟨by rw[ji];exact n,_,j.append i,IsTup.new _ _⟩
end
noncomputable def VI(n:Nat)(i:Int):Ni Nat:=if 0<=i then(if i<n then ε i.toNat else none)else if -(n:Int)<=i then ε (i+n).toNat else none
def atI{α:Type}(xs:Ms α)(i:Int):Ni α:=(VI xs.length i).bind fun j=>xs[j]?
theorem WZ{n:Nat}{i:Int}{j:Nat}(h:VI n i=ε j):seqIndex? i n=ε j/\j<n/\-(n:Int)<=i/\i<n:=by
 unfold VI at h;by_cases b:0<=i
 . rw[eG b]at h;by_cases a:i<n
   . rw[eG a]at h;have e:i.toNat=j:=tu h;exact⟨by rw[seqIndex_of b a,e],by omega,by omega,a⟩
   . rw[eH a]at h;cases h
 . rw[eH b]at h;by_cases a:-(n:Int)<=i
   . rw[eG a]at h;have e:(i+n).toNat=j:=tu h;exact⟨by rw[seqIndex_neg nofun a,e],by omega,a,by omega⟩
   . rw[eH a]at h;cases h
theorem eT{a:Type}{xs:Ms a}{i:Int}{v:a}(h:atI xs i=ε v):∃j,seqIndex? i xs.length=ε j/\xs[j]?=ε v/\j<xs.length/\-(xs.length:Int)<=i/\i<xs.length:=by
 unfold atI at h;cases e:VI xs.length i with
 | none=>rw[e]at h;cases h
 | some j=>rw[e]at h;obtain⟨k,g,d,b⟩:=WZ e;exact⟨j,k,h,g,d,b⟩
theorem YC{a:Type}{xs:Ms a}{j:Nat}{v:a}(h:xs[j]?=ε v):atI xs (j:Int)=ε v:=by
 have b:j<xs.length:=(Wi h).1;have e:VI xs.length (j:Int)=ε j:=by unfold VI;rw[eG nofun,eG nofun];simp
 unfold atI;rw[e];exact h
def YY(b:Oe):Prop:=∀o i,subscripted b false o i=operate [o,i] (getItem o i)
def IxR(X:Cx)(r:R2):Prop:=
 ∀(d a:Oe)(b:Ms (Oa×Obj))(s:Nu)(e:St)(H:Hp)(x y:V)(v u:Mu)(Q:VK),so X b e H s->td x v->td y u->r x y H Q->
  subscripted a false v u=operate [v,u] (getItem v u)->wpAny (model X.prog X.w) X.A (subscriptTail d a v u) (EP X b e Q) X.xe s
def V5(X:Cx)(g:String)(r:V->Ms V->Hp->VK->Prop):Prop:=
 ∀(a:Ms (Oa×Obj))(s:Nu)(b:St)(H:Hp)(x:V)(d:Ms V)(v:Mu)(e:Ms Mu)(Q:VK),so X a b H s->td x v->ss d e->r x d H Q->
  wpAny (model X.prog X.w) X.A (call (.builtin g) (v::e)) (EP X a b Q) X.xe s
section
variable{X:Cx}{a b:Oe}{F E:TE}{pos:Pos}
theorem IxR.or{r m:R2}(h:IxR X r)(h':IxR X m):IxR X (fun x y H Q=>r x y H Q\/m x y H Q):=by
 intro d e g s i H x y v u Q I k j q hs;rcases q with q | q
 . exact h d e g s i H x y v u Q I k j q hs
 . exact h' d e g s i H x y v u Q I k j q hs
theorem Zq{r:R2}(k:IxR X r)(n:PE X a F)(m:PE X b E)(hs:YY b):PE X (.Subscript a b pos) (jV r F E):=by intro d s e H Q I h;exact Subscript_ (JQ n m I h fun v u g x y p o j i q=>k a b d g e p x y v u Q o j i q (hs _ _))
def bV(K:Oi):R2:=fun x y H Q=>∃p d i v,x=.ref p/\y=.int i/\to K H p d/\atI d i=ε v/\Q v H
def fV(K:Oi):R2:=fun x y H Q=>∃p d i v,x=.ref p/\y=.int i/\tG K H p d/\atI d i=ε v/\Q v H
def cV:R2:=fun x y H Q=>∃z i c,x=.str z/\y=.int i/\z.length<=sizeLine/\atI z.cps.toList i=ε c/\Q (.str ⟨#[c]⟩) H
theorem jp:IxR X (bV X.K):=by
 intro k m d s C H x y v u Q I O M h hs;obtain⟨p,Y,i,z,rfl,rfl,P,S,q⟩:=h;cases O;obtain⟨t,rfl⟩:=M;obtain⟨o,r,pl,Z⟩:=I.list P;obtain⟨j,g,W,h3,U,T⟩:=eT S;obtain⟨w,J,n⟩:=r.get W;have R:=r.length;have hn:=yI;have e:EP X d C Q w s:=⟨z,H,I,n,q⟩;by_cases D:0<=i
 . have B:i.toNat=j:=by rw[seqIndex_of D T]at g;exact tu g
   exact item_listR pl.isList D nofun (by rw[B];simpa using J) e hs
 . have B:(i+(o.toArray.size:Int)).toNat=j:=by rw[seqIndex_neg nofun U]at g;rw[dh,<- R];exact tu g
   exact subscriptTail_builtinR (x:=w) pl.isList.typeIs slot_list_getitem.lookup
    (wpAny_getItem_list_neg (Q:=fun r L=>r=w/\EP X d C Q r L) pl.isList nofun (by rw[dh]<;>omega) nofun (by rw[B];simpa using J) ⟨rfl,e⟩) hs
theorem js:IxR X (fV X.K):=by
 intro e g d s n H x y v u Q I C B h hs;obtain⟨p,S,i,z,rfl,rfl,J,M,q⟩:=h;cases C;obtain⟨t,rfl⟩:=B;obtain⟨D,r,pl,T⟩:=I.tuple J;obtain⟨j,P,O,Z,Y,W⟩:=eT M;obtain⟨w,R,k⟩:=r.get O;have L:=r.length;have U:=yI;have m:EP X d n Q w s:=⟨z,H,I,k,q⟩;exact subscriptTail_builtinR (x:=w) pl.typeIs slot_tuple_getitem.lookup
  (getItem_tuple (j:=j) (Q:=fun r o=>r=w/\EP X d n Q r o) pl nofun nofun (by rw[dh,<- L];exact P) (by simpa using R) ⟨rfl,m⟩) hs
theorem Bj:IxR X cV:=by
 intro d e g s J H x y v u Q I n m h hs;obtain⟨z,i,c,rfl,rfl,M,p,q⟩:=h;obtain⟨t,rfl⟩:=n;obtain⟨L,rfl⟩:=m;obtain⟨j,k,C,P,B,r⟩:=eT p;have o:z.cps.toList.length=z.length:=by simp[Str.length]
 rw[o]at k B r;have O:=yI;exact tail_any (typeIs_str s z t) slot_str_getitem.lookup (getItem_str (c:=c) (by
  have D:decide (i < -(2^63:Int))=false:=fu nofun;have e2:decide (i >=2^63)=false:=fu nofun;rw[D,e2,Bool.or_false]) (by rw[k];simpa using C) ⟨.str ⟨#[c]⟩,H,I.tok _,⟨_,rfl⟩,q⟩) hs
def rIx(K:Oi):R2:=fun x y H Q=>bV K x y H Q\/fV K x y H Q\/cV x y H Q
theorem Aj:IxR X (rIx X.K):=jp.or (js.or Bj)
theorem Sh (its:Ms Mu) (n j:Nat) (u:Mu):Obj.mapSeq (·.setIfInBounds j u) { cls:=.type "list",data:=.seq its.toArray n }={ cls:=.type "list",data:=.seq (its.set j u).toArray n }:=by simp[Obj.mapSeq]
theorem so.lst{d:Ms (Oa×Obj)}{g:St}{H:Hp}{s:Nu}{p:Oa}{xs:Ms V}(I:so X d g H s)(h:H p=ε (.lst xs)) :
 ∃(its:Ms Mu) (n:Nat),ss xs its/\s.heap.get? p=ε { cls:=.type "list",data:=.seq its.toArray n }/\xs.length<=sizeLine:=by
 obtain⟨z,its,n,r,e⟩:=I.hok p _ h;exact⟨its,n,r,e,z⟩
theorem so.jv{d:Ms (Oa×Obj)}{i:St}{H:Hp}{s:Nu}{p:Oa}{xs ys:Ms V}{its its':Ms Mu}{n g:Nat}{f:Obj->Obj}(I:so X d i H s)(h:H p=ε (.lst xs))
 (m:s.heap.get? p=ε { cls:=.type "list",data:=.seq its.toArray n }) (j:f { cls:=.type "list",data:=.seq its.toArray n }={ cls:=.type "list",data:=.seq its'.toArray g }) (r:ss ys its') (k:ys.length<=sizeLine) (t:Nat) :
 so X d i (IB H p (.lst ys)) { s with heap:=s.heap.update p f,toks:=t }:=by
 have e:(s.heap.update p f).get? p=ε { cls:=.type "list",data:=.seq its'.toArray g }:=by rw[Ge f m (by rw[j]<;>rfl),j]
 refine I.write (x:=p) (e:=p) (by rw[h];trivial) (.inl rfl) (fun b u o q=>(yu _ _ (nW o)).trans q) ⟨_,e⟩ ?_;exact⟨k,its',g,r,e⟩
def Yx:V->V->V->Hp->(Hp->Prop)->Prop:=fun o i v H Q=>∃p d k j,o=.ref p/\i=.int k/\H p=ε (.lst d)/\VI d.length k=ε j/\Q (IB H p (.lst (d.set j v)))
theorem Em:NU X Yx:=by
 intro d s L H o i v U W u Q I P R O h;obtain⟨p,M,k,j,rfl,rfl,hp,T,q⟩:=h;cases P;obtain⟨t,rfl⟩:=R;obtain⟨e,n,r,m,S⟩:=I.lst hp;obtain⟨g,Z,C,B⟩:=WZ T;have x:=r.length;have Y:=yI;have J:so X d L (IB H p (.lst (M.set j v))) { s with heap:=s.heap.update p (Obj.mapSeq (·.setIfInBounds j u)) }:=
  I.jv hp m (Sh e n j u) (r.set O j) (by rw[Ka];exact S) s.toks
 by_cases D:0<=k
 . have y:k.toNat=j:=by rw[seqIndex_of D B]at g;exact tu g
   exact PySem.W.ki_setAt m D nofun (by rw[dh,<- x];exact B) (by rw[y];exact⟨_,J,q⟩)
 . have y:(k+(e.toArray.size:Int)).toNat=j:=by rw[seqIndex_neg nofun C]at g;rw[dh,<- x];exact tu g
   exact PySem.W.ki_setBack m nofun (by rw[dh,<- x];exact C) nofun (by rw[y];exact⟨_,J,q⟩)
theorem Ag(lo e:Ni Int)(n:Nat):(sliceBounds lo e none n).1=((HT.sIx n 0 lo:Nat):Int)/\(sliceBounds lo e none n).2.1=((HT.sIx n n e:Nat):Int)/\(sliceBounds lo e none n).2.2=1:=by
 have q:∀(i:Int)(d:Nat),max 0 (min (if i<0 then i+n else i) (n:Int))=((HT.sIx n d (ε i):Nat):Int):=fun i d=>by
  rw[<- HT.fh i n d];by_cases h:i<0
  . rw[eG h,eG h,Int.min_eq_left (show i+n<=(n:Int) by omega),Int.max_comm]
  . rw[eH h,eH h,Int.max_eq_right (Int.le_min.mpr ⟨Int.not_lt.mp h,Int.natCast_nonneg n⟩)]
 refine⟨?_,?_,rfl⟩
 . cases lo with
   | none=>rfl
   | some i=>exact q i 0
 . cases e with
   | none=>rfl
   | some i=>exact q i n
theorem Ow(its:Ms Mu)(lo d:Ni Int):slicePick its.toArray lo d none=((its.drop (HT.sIx its.length 0 lo)).take (HT.sIx its.length its.length d-HT.sIx its.length 0 lo)).toArray:=by obtain⟨h,g,e⟩:=Ag lo d its.toArray.size;unfold slicePick;rw[h,g,e];simp![sliceRange_one,pick_run,dh]<;>rfl
def f7(K:Oi):V->Ni Int->Ni Int->Hp->VK->Prop:=fun x e g H Q=>∃a d,x=.ref a/\to K H a d/\∀p,H p=none->Q (.ref p) (IB H p (.lst (cH d e g)))
theorem a9:Y5 X (f7 X.K):=by intro j s B H x v D C g i J Q I m hs pl n h;obtain⟨a,d,rfl,y,q⟩:=h;cases m;obtain⟨p,r,k,u⟩:=I.list y;have e:=r.length;refine⟨"list",_,slot_list_getitem.lookup,k.isList.typeIs,?_⟩;refine wpAny_getItem_list_slice k.isList hs pl n .none ⋯ ?_ (by rw[dh]<;>omega);rw[Ow,<- e];refine⟨.ref s.heap.objs.size,_,I.laid (t':=s.toks) (o:=.lst (cH d g i)) (fun b ob q=>cu _ q) (Uo _) ?_,rfl,q _ (I.hok.fresh (Uo _))⟩;exact⟨um (AW d g i) u,_,0,(r.drop (HT.sIx d.length 0 g)).take (HT.sIx d.length d.length i-HT.sIx d.length 0 g),jl _ rfl⟩
noncomputable def rG:V->Bool
 | .non=>true
 | .bl _=>true
 | .int _=>true
 | .str _=>true
 | _=>false
noncomputable def CK:V->V->Bool
 | .non,.non=>true
 | .bl a,.bl b=>a==b
 | .bl a,.int b=>(if a then 1 else 0)==b
 | .int a,.bl b=>a==(if b then 1 else 0)
 | .int a,.int b=>a==b
 | .str a,.str b=>a==b
 | _,_=>false
theorem P7{A:Pa}{s:Nu}{y x:V}{u v:Mu}(g:td y u)(d:td x v)(fy:rG y=true)(h:rG x=true):SeqAt.EqAt A s u v (CK y x):=by
 cases y with
 | non=>
  cases g;cases x with
  | non=>cases d;exact SeqAt.EqAt.same _
  | bl b=>cases d;exact SeqAt.EqAt.none_bool b
  | int b=>obtain⟨t,rfl⟩:=d;exact SeqAt.EqAt.none_int b t
  | str b=>obtain⟨t,rfl⟩:=d;exact SeqAt.EqAt.none_str b t
  | _=>exact Ei (show false=true from h) Wk
 | bl a=>
  cases g;cases x with
  | non=>cases d;exact SeqAt.EqAt.bool_none a
  | bl b=>cases d;exact SeqAt.EqAt.bool_bool a b
  | int b=>obtain⟨t,rfl⟩:=d;exact SeqAt.EqAt.bool_int a b t
  | str b=>obtain⟨t,rfl⟩:=d;exact SeqAt.EqAt.bool_str a b t
  | _=>exact Ei (show false=true from h) Wk
 | int a=>
  obtain⟨e,rfl⟩:=g;cases x with
  | non=>cases d;exact SeqAt.EqAt.int_none a e
  | bl b=>cases d;exact SeqAt.EqAt.int_bool a e b
  | int b=>obtain⟨t,rfl⟩:=d;exact SeqAt.EqAt.int_int a e b t
  | str b=>obtain⟨t,rfl⟩:=d;exact SeqAt.EqAt.int_str a e b t
  | _=>exact Ei (show false=true from h) Wk
 | str a=>
  obtain⟨e,rfl⟩:=g;cases x with
  | non=>cases d;exact SeqAt.EqAt.str_none a e
  | bl b=>cases d;exact SeqAt.EqAt.str_bool a e b
  | int b=>obtain⟨t,rfl⟩:=d;exact SeqAt.EqAt.str_int a e b t
  | str b=>obtain⟨t,rfl⟩:=d;exact SeqAt.EqAt.str_str a e b t
  | _=>exact Ei (show false=true from h) Wk
 | _=>exact Ei (show false=true from fy) Wk
def UH(x:V)(u:Mu):Bool:=match u with
 | .none=>CK .non x
 | .bool b=>CK (.bl b) x
 | .int i _=>CK (.int i) x
 | .str z _=>CK (.str z) x
 | _=>false
theorem K0{x y:V}{u:Mu}(r:td y u)(f:rG y=true):UH x u=CK y x:=by
 cases y with
 | non=>cases r;rfl
 | bl b=>cases r;rfl
 | int i=>obtain⟨t,rfl⟩:=r;rfl
 | str z=>obtain⟨t,rfl⟩:=r;rfl
 | _=>exact Ei (show false=true from f) Wk
theorem mM{x:V}:∀{xs:Ms V}{us:Ms Mu},ss xs us->xs.all rG=true->us.any (UH x)=xs.any fun y=>CK y x
 | _,_,.nil,_=>rfl
 | y::xs,u::us,.cons r t,f=>by rw[Ju,xr]at f;rw[Js,Js,K0 r f.1,mM t f.2]
theorem PL{A:Pa}{s:Nu}{x:V}{v:Mu}(d:td x v)(e:rG x=true):∀{xs:Ms V}{us:Ms Mu},ss xs us->xs.all rG=true->∀u∈us,SeqAt.EqAt A s u v (UH x u)
 | _,_,.nil,_=>fun u hu=>by cases hu
 | y::xs,u::us,.cons r t,f=>fun g hu=>by
  rw[Ju,xr]at f;rcases Bo.mp hu with rfl | hu
  . rw[K0 r f.1];exact P7 r d f.1 e
  . exact PL d e t f.2 g hu
def LM(x:V)(xs:Ms V):Bool:=xs.any fun y=>CK y x
def e7(K:Oi)(neg:Bool):R2:=fun x y H Q=>∃p d,y=.ref p/\(to K H p d\/tG K H p d)/\rG x=true/\d.all rG=true/\Q (.bl (if neg then !LM x d else LM x d)) H
theorem Wf:tv X (compareOp .In) (e7 X.K false):=by
 intro g s m H x y v u Q I e j h;obtain⟨p,n,rfl,hq,i,fs,q⟩:=h;cases j;rcases hq with hq | hq
 . obtain⟨d,r,pl,k⟩:=I.list hq;refine SeqAt.in_listAt (UH x) pl.isList (fun w hw=>PL e i r fs w (by simpa using hw)) ⟨.bl _,H,I,rfl,?_⟩;rw[show d.toArray.any (UH x)=d.any (UH x) by simp,mM r fs];exact q
 . obtain⟨d,r,pl,k⟩:=I.tuple hq;refine SeqAt.in_tupleAt (UH x) pl (fun w hw=>PL e i r fs w (by simpa using hw)) ⟨.bl _,H,I,rfl,?_⟩;rw[show d.toArray.any (UH x)=d.any (UH x) by simp,mM r fs];exact q
theorem Gk:tv X (compareOp .NotIn) (e7 X.K true):=by
 intro g s m H x y v u Q I e j h;obtain⟨p,n,rfl,hq,i,fs,q⟩:=h;cases j;rcases hq with hq | hq
 . obtain⟨d,r,pl,k⟩:=I.list hq;refine SeqAt.notIn_listAt (UH x) pl.isList (fun w hw=>PL e i r fs w (by simpa using hw)) ⟨.bl _,H,I,rfl,?_⟩;rw[show d.toArray.any (UH x)=d.any (UH x) by simp,mM r fs];exact q
 . obtain⟨d,r,pl,k⟩:=I.tuple hq;refine SeqAt.notIn_tupleAt (UH x) pl (fun w hw=>PL e i r fs w (by simpa using hw)) ⟨.bl _,H,I,rfl,?_⟩;rw[show d.toArray.any (UH x)=d.any (UH x) by simp,mM r fs];exact q
theorem Pk:ae X (.builtin "len") (fun j H Q=>∃p e,j=[.ref p]/\(to X.K H p e\/tG X.K H p e)/\Q (.int e.length) H):=by
 intro k s o H j x Q I r h;obtain⟨p,e,rfl,hq,q⟩:=h;obtain⟨u,rfl,m⟩:=WE r;cases m;have y:=yI;rcases hq with hq | hq
 . obtain⟨i,g,pl,n⟩:=I.list hq;have d:=g.length;exact Calls.call_len_list pl.isList (by simp![dh]<;>omega) ⟨.int e.length,H,I.tok _,⟨s.toks+1,by rw[dh,d]⟩,q⟩
 . obtain⟨i,g,pl,n⟩:=I.tuple hq;have d:=g.length;exact len_tuple pl (by simp![dh]<;>omega) ⟨.int e.length,H,I.tok _,⟨s.toks+1,by rw[dh,d]⟩,q⟩
theorem Rk:ae X (.builtin "len") (fun d H Q=>∃z,d=[.str z]/\z.length<=sizeLine/\Q (.int z.length) H):=by intro e s g H d i Q I r h;obtain⟨z,rfl,j,q⟩:=h;obtain⟨u,rfl,t,rfl⟩:=WE r;have k:=yI;exact len_str nofun ⟨.int z.length,H,I.tok _,⟨_,rfl⟩,q⟩
theorem ae.or{f:Mu}{r k:Ms V->Hp->VK->Prop}(h:ae X f r)(h':ae X f k):ae X f (fun e H Q=>r e H Q\/k e H Q):=by
 intro d s g H e i Q I j q;rcases q with q | q
 . exact h d s g H e i Q I j q
 . exact h' d s g H e i Q I j q
theorem Vk:ae X (.type "list") (fun J H Q=>∃p i,J=[.ref p]/\(to X.K H p i\/tG X.K H p i)/\∀l,H l=none->Q (.ref l) (IB H l (.lst i))):=by
 intro m s M H J P Q I r h;obtain⟨p,i,rfl,hq,q⟩:=h;obtain⟨u,rfl,O⟩:=WE r;cases O;have B:∀(d:Ms Mu),ss i d->i.length<=sizeLine->∀(g:Pu)(k:Nat),(∀b L,s.heap.get? b=ε L->g.get? b=ε L)->
  g.get? s.heap.objs.size=ε { cls:=.type "list",dict:=none,data:=.seq d.toArray k,slots:=#[] }->EP X m M Q (.ref s.heap.objs.size) { s with heap:=g }:=fun d j x g k kp e=>
  ⟨.ref s.heap.objs.size,_,I.laid (t':=s.toks) kp (Uo _) (show Yu X.prog X.w _ g _ (.lst i)from⟨x,d,k,j,e⟩),rfl,q _ (I.hok.fresh (Uo _))⟩
 rcases hq with hq | hq
 . obtain⟨d,j,pl,x⟩:=I.list hq;have y:=j.length;obtain⟨o,C,D,n,hd⟩:=pl.isList;exact call_list_seq p (.inl rfl) C D hd (fun g k kp e=>B d j x g k kp e) (by simp![dh]<;>omega)
 . obtain⟨d,j,pl,x⟩:=I.tuple hq;have y:=j.length;obtain⟨o,C,D,n,hd⟩:=pl;exact call_list_seq p (.inr rfl) C D hd (fun g k kp e=>B d j x g k kp e) (by simp![dh]<;>omega)
def F7(K:Oi)(T:String)(x:V)(H:Hp):Prop:=match x with
 | .str _=>T = "str"
 | .int _=>T = "int"
 | .ref p=>(T = "list" /\ ∃e,to K H p e)\/(T = "tuple" /\ ∃o,K.lookup p=ε o/\o.cls=.type "tuple" /\ o.dict=none)\/
  (T = "dict" /\ ((∃d,H p=ε (.dK d))\/∃d,H p=ε (.dT d)))\/(T = "set" /\ ∃S n,H p=ε (.set S n))
 | _=>False
theorem Nx{g:Ms (Oa×Obj)}{k:St}{H:Hp}{s:Nu}{T:String}{x:V}{v:Mu}(I:so X g k H s)(r:td x v)(h:F7 X.K T x H) :
 s.TypeIs v T/\∀a,v=.ref a->∃ob,s.heap.get? a=ε ob/\ob.dict=none:=by
 cases x with
 | str z=>obtain⟨t,rfl⟩:=r;cases (show T = "str" from h);exact⟨typeIs_str s z t,fun l e=>nomatch e⟩
 | int i=>obtain⟨t,rfl⟩:=r;cases (show T = "int" from h);exact⟨typeIs_int s i t,fun l e=>nomatch e⟩
 | ref p=>
  cases r;rcases h with⟨rfl,y,q⟩ | ⟨rfl,o,d,u,hd⟩ | ⟨rfl,d⟩ | ⟨rfl,S,n,d⟩
  . obtain⟨m,_,pl,_⟩:=I.list q;refine⟨pl.isList.typeIs,fun a e=>?_⟩;cases e;obtain⟨o,n,e,c,hd,_⟩:=pl;exact⟨o,e,hd⟩
  . refine⟨⟨o,I.kIn p o d,u⟩,fun a e=>?_⟩;cases e;exact⟨o,I.kIn _ o d,hd⟩
  . have z:∃o,s.heap.get? p=ε o/\o.ExactDict:=by
     rcases d with⟨j,d⟩ | ⟨j,d⟩
     . obtain⟨_,_,_,_,o,_,_,e,ex,_⟩:=I.hok p _ d;exact⟨o,e,ex⟩
     . obtain⟨_,_,_,_,o,_,_,e,ex,_⟩:=I.hok p _ d;exact⟨o,e,ex⟩
    obtain⟨o,e,ex⟩:=z;refine⟨⟨o,e,ex.1⟩,fun a e2=>?_⟩;cases e2;exact⟨o,e,ex.2.1⟩
  . obtain⟨o,_,_,_,e,ex,_⟩:=I.hok p _ d;refine⟨⟨o,e,ex.1⟩,fun a e2=>?_⟩;cases e2;exact⟨o,e,ex.2.1⟩
 | _=>exact Fe h
noncomputable def tBM(K:Oi)(T:String)(r:V->Ms V->Hp->VK->Prop)(C:TE)(t:TA):TE:=fun d H Q=>C d H fun x e=>F7 K T x e/\t d e fun g h=>r x g h Q
variable{o e:Oe}{m:Ms Oe}{C:TE}{t:TA}{name:Str}{B g:Pos}{T D:String}{r:V->Ms V->Hp->VK->Prop}
theorem HM (W:PlainAttrs T) (slot:Slot T name D) (q:typeOf (.builtin D)=pure (.type "method_descriptor")) (Z:V5 X D r) (Y:PE X o C) (ha:PA X (e::m) t)
 (k:autoParam (attributeBase o name X.env (eval o X.env)=eval o X.env) Æ)
 (n:((backTo g (starEach (e::m) X.env)).all (fun x=>!x.1)&&(backToKw g (keywordEach [] X.env)).all (fun x=>x.1.isSome)
  && decide ((e::m).length+([]:Ms Keyword).length+(if([]:Ms Keyword).isEmpty then 0 else 1)<30))=true:=by rfl)
 (j:autoParam ((B.endLine==g.line)=true) Æ) (hs:autoParam (starEach (e::m) X.env=(false,eval e X.env)::starEach m X.env) Æ) (i:autoParam ((backTo g (starEach m X.env)).any (·.1)=false) Æ) :
 PE X (.Call (.Attribute o name B) (e::m) [] g) (tBM X.K T r C t):=by
 intro d s p H Q I h;refine wpAny_Call_method_late k n j rfl (HB (Y d s p H _ I h) fun v S L=>?_);obtain⟨x,H1,J,u,P,q1⟩:=L;obtain⟨h1,h2⟩:=Nx J u P;refine⟨T,D,W,slot,q,h1,h2,?_⟩;have y:=ha g d S p H1 _ J q1;rw[hs]at y ⊢;refine Calls.callWith_builtin (by show(false || (backTo g (starEach m X.env)).any (·.1))=false;rw[i]<;>rfl) (Calls.evalArgs_plain ?_);exact HB y fun O R ⟨M,H2,I2,U,q2⟩=>Z d R p H2 x M v O Q I2 u U q2
end
def T5(X:Cx)(g:String)(r:V->Ms V->Hp->VK->Prop):Prop:=
 ∀(a:Ms (Oa×Obj))(s:Nu)(b:St)(H:Hp)(x:V)(d:Ms V)(v:Mu)(e:Ms Mu)(Q:VK),so X a b H s->td x v->ss d e->r x d H Q->
  wpAny (model X.prog X.w) X.A (call (.builtin g) (v::e)) (EP X a b Q) X.xe s
theorem ss.one:∀{x:V}{us:Ms Mu},ss [x] us->∃u,us=[u]/\td x u
 | _,_,.cons r .nil=>⟨_,rfl,r⟩
theorem ss.zero:∀{us:Ms Mu},ss [] us->us=[]
 | _,.nil=>rfl
theorem ss.eraseIdx:∀{xs:Ms V}{us:Ms Mu}(i:Nat),ss xs us->ss (xs.eraseIdx i) (us.eraseIdx i)
 | _,_,_,.nil=>.nil
 | _,_,0,.cons _ t=>t
 | _,_,i+1,.cons r t=>.cons r (ss.eraseIdx i t)
theorem ss.reverse{xs:Ms V}{us:Ms Mu}(h:ss xs us):ss xs.reverse us.reverse:=by
 induction h with
 | nil=>exact .nil
 | cons r t ih=>rw[reverse_cons,reverse_cons];exact ss.append ih (.cons r .nil)
theorem ss.rep{xs:Ms V}{us:Ms Mu}(h:ss xs us):∀k:Nat,ss (List.replicate k xs).flatten (List.replicate k us).flatten
 | 0=>.nil
 | k+1=>by rw[Ko,Ko,flatten_cons,flatten_cons];exact ss.append h (ss.rep h k)
theorem HX{a:Type}:∀(l:Ms a)(i:Nat),(l.eraseIdx i).length<=l.length
 | [],_=>Uo _
 | _::_,0=>Nat.le_succ _
 | _::r,i+1=>Nat.succ_le_succ (HX r i)
theorem DX(its:Ms Mu):∀(k:Nat)(a:Ms Mu),
 List.foldl (fun d b=>d++b) a.toArray (List.replicate k its.toArray)=(a++(List.replicate k its).flatten).toArray
 | 0,a=>by simp
 | k+1,a=>by
  have e:a.toArray++its.toArray=(a++its).toArray:=by simp
  have e2:(a++its)++(List.replicate k its).flatten=a++(List.replicate (k+1) its).flatten:=by rw[Ko,flatten_cons,su]
  rw[<- e2,<- DX its k (a++its),<- e,Ko,foldl_cons]
section
variable{X:Cx}{a:Ms (Oa×Obj)}{c:St}{H:Hp}{s:Nu}{l b:Oa}{xs ys zs:Ms V}
theorem so.fq{its its':Ms Mu}{n:Nat}{f:Pb Mu->Pb Mu}{t':Nat}(I:so X a c H s)(k:H l=ε (.lst xs))
 (e:s.heap.get? l=ε { cls:=.type "list",data:=.seq its.toArray n }) (i:f its.toArray=its'.toArray) (g:ss ys its') (d:ys.length<=sizeLine) :
 so X a c (IB H l (.lst ys)) { s with heap:=s.heap.update l (Obj.mapSeq f),toks:=t' }:=by
 have q:=PySem.IsL.update e f;rw[i]at q;refine I.write (x:=l) (e:=l) (by rw[k];exact trivial) (.inl rfl) (fun m u j h=>(yu s.heap (Obj.mapSeq f) (nW j)).trans h) ⟨_,q⟩ ?_;exact⟨d,its',_,g,q⟩
theorem so.fw{its:Ms Mu}{t':Nat}(I:so X a c H s)(e:ss ys its)(d:ys.length<=sizeLine) :
 so X a c (IB H s.heap.objs.size (.lst ys)) { s with heap:=s.heap.push { cls:=.type "list",data:=.seq its.toArray },toks:=t' }:=
 I.laid (fun z z q=>cu _ q) (Uo _) ⟨d,its,0,e,jl _ rfl⟩
theorem so.fresh(I:so X a c H s):H s.heap.objs.size=none:=I.hok.fresh (Uo _)
theorem so.dm (I:so X a c H s) (d:H l=ε (.lst xs)):xs.length<=sizeLine/\∃(its:Ms Mu) (n:Nat),ss xs its/\xs.length=its.length/\s.heap.get? l=ε { cls:=.type "list",data:=.seq its.toArray n }:=by obtain⟨z,its,n,r,e⟩:=I.hok l _ d;exact⟨z,its,n,r,r.length,e⟩
theorem GY{n:Nat}(h:n<=sizeLine):Builtin.List.listTooLong n=false:=by unfold Builtin.List.listTooLong;exact fu nofun
end
section
variable{X:Cx}
def M8:V->Ms V->Hp->VK->Prop:=fun x b H Q=>∃l a y,x=.ref l/\b=[y]/\H l=ε (.lst a)/\a.length<sizeLine/\Q .non (IB H l (.lst (a++[y])))
theorem NX:T5 X "list.append" M8:=by intro b s k H x o v p Q I g i h;obtain⟨l,m,y,rfl,rfl,d,B,q⟩:=h;cases g;obtain⟨u,rfl,j⟩:=i.one;obtain⟨z,a,n,r,C,e⟩:=I.dm d;refine call_meets F.slot_list_append ⟨_,e,rfl⟩ F.entry_list_append (F.args_list_append_2 _ _) (PySem.list_append l a.toArray n u (by rw[dh];omega)) ⟨e,?_⟩;refine⟨.non,_,I.fq (its':=a++[u]) d e ⋯ (r.append (.cons j .nil)) ?_,rfl,q⟩;rw[ji,length_singleton];omega
def N8:V->Ms V->Hp->VK->Prop:=fun x d H Q=>∃l b a zs,x=.ref l/\d=[.ref b]/\H l=ε (.lst a)/\H b=ε (.lst zs)/\a.length+zs.length<=sizeLine/\Q .non (IB H l (.lst (a++zs)))
theorem Mf:T5 X "list.extend" N8:=by
 intro j s E H x M v O Q I m o h;obtain⟨l,b,L,zs,rfl,rfl,k,D,P,q⟩:=h;cases m;obtain⟨u,rfl,p⟩:=o.one;cases p;obtain⟨z,d,n,r,R,e⟩:=I.dm k;obtain⟨J,a,B,y,C,e2⟩:=I.dm D;have i:d.toArray.size+a.toArray.size<=sizeLine:=by rw[dh,dh];omega
 have g:¬(!d.toArray.isEmpty&&Builtin.List.listTooLong (d.toArray.size+a.toArray.size))=true:=by rw[GY i,Bool.and_false];exact Wk
 refine call_meets F.slot_list_extend ⟨_,e,rfl⟩ F.entry_list_extend (F.args_list_extend_2 _ _)
  (AutoSeq1.list_extend_list_list_0 l d.toArray n b a.toArray B g (by rw[dh];omega) nofun) ⟨e,e2,?_⟩
 refine⟨.non,_,I.fq (its':=d++a) k e ⋯ (r.append y) ?_,rfl,q⟩;rw[ji];omega
def bx:V->Ms V->Hp->VK->Prop:=fun x b H Q=>∃l a i k y,x=.ref l/\b=[.int i]/\H l=ε (.lst a)/\-(2^63)<=i/\i<2^63/\seqIndex? i a.length=ε k/\a[k]?=ε y/\Q y (IB H l (.lst (a.eraseIdx k)))
theorem Xp:T5 X "list.pop" bx:=by
 intro d s L H x M v O Q I m o h;obtain⟨l,j,i,k,y,rfl,rfl,g,J,E,D,B,q⟩:=h;cases m;obtain⟨u,rfl,p⟩:=o.one;obtain⟨t,rfl⟩:=p;obtain⟨z,a,n,r,C,e⟩:=I.dm g;obtain⟨w,hw,b⟩:=r.get B;refine call_meets F.slot_list_pop ⟨_,e,rfl⟩ F.entry_list_pop (F.args_list_pop_2 _ _)
  (MeetsSeq.list_pop_at l a.toArray n i t k w (fitsIndex_both J E) (by rw[dh,<- C];exact D) (by rw[<- Array.getElem?_toList];exact hw) (by rw[dh];omega)) ⟨e,?_⟩
 refine⟨y,_,I.fq (its':=a.eraseIdx k) g e ?_ (r.eraseIdx k) ?_,b,q⟩
 . show a.toArray.eraseIdxIfInBounds k=(a.eraseIdx k).toArray;rw[eraseIdxIfInBounds_toArray]
 . have:=HX j k;omega
def hV:R2:=fun x y H Q=>∃l k a,x=.ref l/\y=.int k/\H l=ε (.lst a)/\-(2^63)<=k/\k<2^63/\a.length*k.toNat<=sizeLine/\
 ∀p,H p=none->Q (.ref p) (IB H p (.lst (List.replicate k.toNat a).flatten))
theorem j2{a:Type}(xs:Ms a)(k:Nat):(List.replicate k xs).flatten.length=k*xs.length:=by
 induction k with
 | zero=>simp
 | succ k ih=>rw[Ko,flatten_cons,ji,ih,Nat.succ_mul,Nat.add_comm]
theorem T1:tv X (binaryOp .Mult) hV:=by
 intro C s W H x y v u Q I L J h;obtain⟨l,k,Y,rfl,rfl,O,R,P,D,q⟩:=h;cases L;obtain⟨t,rfl⟩:=J;obtain⟨z,b,n,r,M,e⟩:=I.dm O;have g:b.toArray.size*k.toNat<=sizeLine:=by rw[dh,<- M];exact D
 have j:¬b.toArray.size*k.toNat>(2^63-1)/8:=by
  have:(sizeLine:Nat)<=(2^63-1)/8:=by decide
  omega
 have i:¬(!Builtin.List.listFitsIndex k)=true:=by rw[fitsIndex_both R P];exact Wk
 have o:¬Builtin.List.listTooLong (b.toArray.size*k.toNat)=true:=by rw[GY g];exact Wk
 have d:List.foldl (fun B p=>B++p) #[] (List.replicate (if b.toArray.isEmpty=true then 0 else k.toNat) b.toArray)=(List.replicate k.toNat b).flatten.toArray:=by
  have S:∀m:Nat,List.foldl (fun B p=>B++p) #[] (List.replicate m b.toArray)=(List.replicate m b).flatten.toArray:=fun m=>by have:=DX b m [];rw[Vu]at this;exact this
  rw[S];cases b with
  | nil=>simp
  | cons a Z=>rw[eH ⋯]
 refine wpAny_binaryOp_repeat_ref (T := "list") (U := "int") (by decide) ⟨_,e,rfl⟩ (fun E=>typeIs_int E k t) noFill_list_mul F.fills_int_mul F.slot_int_rmul repeat_list F.slot_int_index.lookup
  (call_meets F.slot_int_rmul (typeIs_int s k t) F.entry_int_rmul (F.args_int_rmul_2 _ _) (int___rmul___int_list k t l b.toArray n)
   ⟨e,rfl,⟨_,e,rfl⟩,call_meets F.slot_list_mul ⟨_,e,rfl⟩ F.entry_list_mul (F.args_list_mul_2 _ _) (AutoListH.list___mul___list_int_3 l b.toArray n k t i j o) ⟨e,?_⟩⟩)
 rw[d];exact⟨.ref _,_,I.fw (t':=s.toks) (r.rep k.toNat) (by rw[j2,Nat.mul_comm];exact D),rfl,q _ I.fresh⟩
end
section
variable{prog:Oo}{w:O4}{A:Pa}{E:Mu->Nu->Prop}{s:Nu}
end
section
variable{X:Cx}
end
end L2
namespace Att
open PySem.W PySem.Calls
theorem jw{P:Params}{h:Pu}:∀(ns:Ms Int)(vs:Ms Mu),WellAll P h vs (ns.map WData.int)->IntsAre vs ns:=by
 intro ns
 induction ns with
 | nil=>intro vs w;rw[Vs]at w;cases w;exact .nil
 | cons n ns ih=>
  intro vs w;rw[Ss]at w;cases w with
  | cons a b=>cases a;exact .cons _ _ (ih _ b)
theorem Pn{l:OpenLaw}{n:Nat}(C:l.most=ε n){P:Params}{h:Pu}{args:Ms WData}{b:Ms Mu}
 (e:l.row.toRowW.claim.pre args=true) (m:WellAll P h b args) :
 ∃a p ns,b=[Value.ref a]/\args=[WData.list (ns.map WData.int)]/\h.get? a=ε { cls:=.type "list",data:=.seq p.toArray }/\IntsAre p ns/\ns.length<=n:=by
 have o:WShape.hasAll [] args [.list .int]=true:=(pre_splitW e).1;have s:l.pre.holds [] { args:=args }=true:=(pre_splitW e).2;obtain⟨d,r,rfl,F,E⟩:=hasAllW_cons o;obtain rfl:=hasAllW_nil E;obtain⟨H,rfl,D⟩:=hasW_list F;obtain⟨ns,rfl⟩:=items_int D;have g:ns.length<=n:=by
  unfold OpenLaw.pre at s;have k:(WTm.not (.lt (.lit (.int (n:Int))) (.len (.arg 0)))).holds [] { args:=[.list (ns.map .int)] }=true:=by have k:=(holds_andW s).1;rw[C]at k;exact k
  have j:=condW_of k (w_not (w_lt w_lit (w_len_list (w_arg rfl))));rw[ni]at j;refine Nat.le_of_not_lt fun q=>?_
  have y:(n:Int)<((ns.length:Nat):Int):=by omega
  first
   | (rw[iu y]at j;exact Ei j (by decide))
   | (simp at j;omega)
 cases m with
 | cons x u=>
  cases u;cases x with
  | list B i=>exact⟨_,_,ns,rfl,rfl,B,jw ns _ i,g⟩
theorem ud(l:OpenLaw)(args:Ms WData):l.row.toRowW.claim.post args (.bool true) args=true:=
 postW_of (r:=l.row.toRowW) (X:=(true==true))
  (show WShape.has [] (.bool true) .bool=true by first | rfl | decide | simp[WShape.has,WShape.arms,WShape.armsAll])
  (show(WTm.eq .res (.lit (.bool true))).value [] { args:=args,res:=ε (.bool true),after:=args }=ε (.bool (true==true))from w_eq_bool (w_res rfl) w_lit) rfl
theorem j3{l:OpenLaw}{n:Nat}{q:Oo}{e:Ms Str}{J:(Str->Ni Mu)->Pu->Prop}{I:O4->Pu->Prop}{d:DefRec}
 (P:l.most=ε n) (B:d.params.defaults=[])
 (call:∀(w:O4)(s₀ b:Nu)(mg u:Str->Ni Mu)(fa:Oa)(o:Obj)(s p h:Mu)(a:Oa)(vs:Ms Mu)(ns:Ms Int),
  Ground q e [] J w s₀ mg u b.heap->I w b.heap->
  b.heap.get? fa=ε o->o.data=.func (docDef d.name d.params d.body d.scope s p h)->b.heap.CodeRec p d.name->mg d.name=ε (.ref fa)->
  b.heap.get? a=ε { cls:=.type "list",data:=.seq vs.toArray }->IntsAre vs ns->ns.length<=n->b.gens=#[]->
  codeAny (model l.prog w) callerA (.call (.ref fa) ⟨[.ref a],[]⟩) (fun r m=>r=.ok (.ret (.bool true))/\OldK b.heap m.heap/\m.os=b.os/\AllBare m.gens) b) :
 WalkO q e J I l.row.toRowW d [] (fun f vs=>PySem.call f vs):=by
 intro w s₀ b mg u G Y fa o s p h Z kV O hd C F y S H D as i E L x R;obtain rfl:Z=.none:=Dflts.none F B;obtain rfl:kV=.none:=Dflts.noKw F;obtain⟨a,vs,ns,rfl,rfl,j,g,k⟩:=Pn P i x;refine enter_call (codeAny_mono (call w s₀ b mg u fa o s p h a vs ns G Y O (fd_plain hd) C y j g k S) fun r m M=>?_);obtain⟨rfl,W,U,T⟩:=M;exact⟨.inl ⟨.bool true,.bool true,[],rfl,fun z=>rfl,.bool true,ud l _,fun z=>⟨List.Pairwise.nil,fun z Q=>(nomatch Q)⟩⟩,W,U,T⟩
section
variable{prog:Oo}{w:O4}{A:Pa}{E:Mu->Nu->Prop}{s:Nu}{K:Oi}
end
end Att
namespace L2
theorem nY:∀{vs:Ms Mu}{ns:Ms Int},IntsAre vs ns->ss (ns.map V.int) vs
 | _,_,.nil=>.nil
 | _,_,.cons n t h=>.cons ⟨t,rfl⟩ (nY h)
def EQ(H:Hp):Prop:=∀b,H b=none\/∃o a,H b=ε (.frz o (.lst a))
theorem Lp{P:Oo}{w:O4}{K:Oi}{mg R:Str->Ni Mu}{CX:wK}{k:Nat}{fa a:Oa}{fd:FuncData}{x:Str}{sp:Sp}{s₁:Nu}{vs:Ms Mu}{ns:Ms Int}
 (KX:K.In s₁.heap) (I:s₁.heap.Ns mainGlobals mg) (g:s₁.heap.Ns builtinsNs R) (U:∀x:Str,x ≠ "__name__" ->R x=bootBuiltins x) (J:s₁.heap.NoLimit) (hg:s₁.gens=#[])
 (O:s₁.heap.get? a=ε { cls:=.type "list",data:=.seq vs.toArray }) (hi:IntsAre vs ns) (hl:ns.length<=sizeLine) (hr:Xu k callerA)
 (F:∀base:Pu,K.In base->base.Ns mainGlobals mg->Zu P w K mg base CX k fa fd [x] sp) (y:∀(s:Nu)(u:Mu),BindsTo s fd ⟨[u],[]⟩ [(x,u)])
 (S:∀H:Hp,EQ H->to K H a (ns.map V.int)->sp [.ref a] H (fun v _=>v=.bl true) fun _ _ _=>False)
 (W:∀H e i,CX [] H s₁ (fun _ _ _=>False) e i->False) :
 codeAny (model P w) callerA (.call (.ref fa) ⟨[.ref a],[]⟩) (fun r i=>r=.ok (.ret (.bool true))/\OldK s₁.heap i.heap/\i.os=s₁.os/\AllBare i.gens) s₁:=by
 have Z:=nY hi;have D:=hi.length;have p:∀H:Hp,EQ H->to K H a (ns.map V.int)->tA P w H s₁.heap->(∀b,H b≠none->b=a)->(H a≠none->K.lookup a=none)->
  codeAny (model P w) callerA (.call (.ref fa) ⟨[.ref a],[]⟩) (fun r i=>r=.ok (.ret (.bool true))/\OldK s₁.heap i.heap/\i.os=s₁.os/\AllBare i.gens) s₁:=by
  intro H hO hS hok hA hK;have B:∀{b:Oa}{o:Obj},s₁.heap.get? b=ε o->H b=none->(yG s₁.heap H).get? b=ε o:=fun e n=>Wc e n
  have Q:∀{b:Oa}{o:Obj}{M:Pb DictEntry}{ep:Nat},s₁.heap.get? b=ε o->o.data=.dict M ep->H b=none:=fun {b o M ep} e d=>by
   cases q:H b with
   | none=>rfl
   | some u=>have Y:b=a:=hA b (by rw[q];simp);subst Y;rw[O]at e;cases e;have d':Data.seq vs.toArray _=Data.dict M ep:=d;cases d'
  have j:∀{b:Oa}{m:Str->Ni Mu},s₁.heap.Ns b m->(yG s₁.heap H).Ns b m:=fun {b m} ⟨o,M,ep,e,d,r⟩=>⟨o,M,ep,B e (Q e d),d,r⟩
  have L:K.In (yG s₁.heap H):=fun b o e=>B (KX b o e) (by
   cases q:H b with
   | none=>rfl
   | some u=>
    have Y:b=a:=hA b (by rw[q];simp);subst Y;rw[hK (by rw[q];simp)]at e;cases e)
  have hM:Mod K mg (yG s₁.heap H):=⟨L,j I,⟨R,j g,U⟩,let ⟨mc,h1,h2⟩:=J;⟨mc,j h1,h2⟩⟩;have e0:cv P w K mg (yG s₁.heap H) callerA [] s₁ H:=⟨rfl,hM,fun b o e=>hI e,Nat.le_of_eq (Cd _ _),trivial,fun b g=>Ei (show b∈([]:Ms Oa)from g) ⋯,hok,.of_eq hg⟩;refine codeAny_mono ((F _ L (j I)).run callerA [] s₁ H ⟨[.ref a],[]⟩ [.ref a] [.ref a] _ _ hr e0 (y s₁ (.ref a)) (.cons rfl .nil) (S H hO hS)) fun r i h=>?_
  cases r with
  | error e=>exact(W H e i h).elim
  | ok fl=>
   cases fl with
   | next=>exact Fe h
   | brk=>exact Fe h
   | cont=>exact Fe h
   | ret u=>
    obtain⟨v,H',os,bare,un,E,r',q⟩:=h;have q':v=.bl true:=q;subst q';obtain rfl:u=Value.bool true:=r';refine⟨rfl,OldK.of_keep fun b o e=>?_,os,bare⟩;cases q:H b with
    | none=>exact un.keep b o e q (by intro z;exact Ei (show b∈([]:Ms Oa)from z) ⋯) ⋯
    | some u=>
     rcases hO b with z | ⟨ob,xs,z⟩
     . rw[q]at z;cases z
     . have z2:=un.bg b ob _ z;obtain⟨e1,_⟩:=hok b _ z;obtain⟨e2,_⟩:=E b _ z2;rw[e]at e1;cases e1;exact e2
 cases T:K.lookup a with
 | some o=>have e:=KX a o T;rw[O]at e;cases e;refine p (fun _=>none) (fun _=>.inl rfl) (.inr ⟨_,vs.toArray,_,T,rfl,rfl,rfl,by rw[dh,D];exact hl,by simpa using Z⟩) (fun b u z=>by have C:(none:Ni HO)=ε u:=z;cases C) (fun b z=>Ei rfl z) fun z=>Ei rfl z
 | none=>
  refine p (fun b=>if b=a then ε (.frz { cls:=.type "list",data:=.seq vs.toArray } (.lst (ns.map V.int)))else none) (fun b=>?_) (.inl (.inr ⟨{ cls:=.type "list",data:=.seq vs.toArray },eG rfl⟩)) (fun b u z=>?_) (fun b z=>?_) fun _=>T
  . by_cases g:b=a
    . exact .inr ⟨_,_,eG g⟩
    . exact .inl (eH g)
  . by_cases g:b=a
    . have C:=(eG g).symm.trans z;cases C;subst g;exact⟨O,by rw[ni];exact hl,vs,_,Z,O⟩
    . have C:=(eH g).symm.trans z;cases C
  . by_cases g:b=a
    . exact g
    . exact Ei (eH g) z
theorem m9{l:PySem.W.OpenLaw}{n k:Nat}{q:Oo}{g:Ms Str}{XP:(Str->Ni Mu)->Pu->Prop}{J:O4->Pu->Prop}{d:DefRec}{K:Params->Oi}{CX:O4->wK}{sp:O4->Sp}{x:Str}
 (O:l.most=ε n) (y:n<=sizeLine) (C:d.params.defaults=[]) (M:Xu k callerA)
 (S:∀(w:O4)(h:Pu),J w h->(K w.params).In h)
 (F:∀(w:O4)(mg:Str->Ni Mu)(fa:Oa)(h:Pu),(K w.params).In h->h.Ns mainGlobals mg->mg d.name=ε (.ref fa)->
  ∃E:FuncData,(∀(s:Nu)(u:Mu),BindsTo s E ⟨[u],[]⟩ [(x,u)])/\
   ∀base:Pu,(K w.params).In base->base.Ns mainGlobals mg->Zu l.prog w (K w.params) mg base (CX w) k fa E [x] (sp w))
 (r:∀(w:O4)(H:Hp)(a:Oa)(ns:Ms Int),ns.length<=n->EQ H->to (K w.params) H a (ns.map V.int)->sp w [.ref a] H (fun v z=>v=.bl true) fun z z z=>False)
 (D:∀(w:O4)(H:Hp)(s:Nu)(e:Mu)(p:Nu),CX w [] H s (fun z z z=>False) e p->False) :
 PySem.W.WalkO q g XP J l.row.toRowW d [] (fun f I=>PySem.call f I):=by
 refine Att.j3 O C fun w s₀ j mg mb fa o pm cd Z a I ns G Y ho hd Q B m i b P=>?_
 have L:=S w _ Y;obtain⟨E,R,W⟩:=F w mg fa _ L G.T.g B;exact Lp L G.T.g G.T.b G.T.builtins G.T.nolimit P m i (um b y) M W R (fun H U T=>r w H a ns b U T) fun H e p=>D w H j e p
noncomputable def WS(s:Ou)(j:Nat):Ou:=match s with
 | .ClassDef _ _ _ a _ _ _ _ _ _ _=>a.getD j (.Pass ⟨0,0,0,0⟩)
 | _=>.Pass ⟨0,0,0,0⟩
noncomputable def IE(s:Ou):Arguments:=match s with
 | .FunctionDef _ a _ _ _ _ _ _ _ _=>a
 | _=>{ posonlyargs:=[],args:=[],vararg:=none,kwonlyargs:=[],kw_defaults:=[],kwarg:=none,defaults:=[] }
noncomputable def RC(s:Ou):Ms Ou:=match s with
 | .FunctionDef _ _ b _ _ _ _ _ _ _=>b
 | _=>[]
noncomputable def sB(s:Ou):Scope:=match s with
 | .FunctionDef _ _ _ _ _ _ a _ _ _=>a
 | _=>{ kind:=.function,names:=[],isGenerator:=false,isCoroutine:=false }
noncomputable abbrev PF:wK:=fun _ _ _ _ _ _=>False
noncomputable abbrev E0:XK:=fun _ _ _=>False
theorem pQ{X:Cx}:DI PF X E0:=fun q q q q q q q h=>h.elim
structure Fun(K:Frag)(x qual:Str)(st:Stmt)(f:Addr)(fd:FuncData):Prop where
 ex:∃(oc:Value)(od:Option Addr)(kV doc pm:Value)(an:Option Addr)(cdv ct:Value)(osl:Array (Option Value)),
  fd=fnOf x qual (IE st) (RC st) (sB st) .none kV doc pm an cdv ct/\K.lookup f=ε ⟨oc,od,.func fd,osl⟩/\PySem.W.codeIn K cdv qual=true
 kp:keepIn K (.ref f)=true
section
variable{P:Oo}{w:O4}{K:Oi}{b:Str->Ni Mu}{a:Pu}
theorem Fun.ok{x d:Str}{st:Ou}{f:Oa}{m:FuncData}{N ps:Ms Str}{k:Nat}{sp:Sp}(F:Fun K x d st f m)(S:Ze N ps (sB st))(len:∀vs H Q E,sp vs H Q E->vs.length=ps.length)
 (g:∀(e:Mu)(A:Pa)(outer:Ms Env)(s:Nu)(H:Hp)(vs:Ms V)(Q:VK)(E:XK),Xu k (A.deeper (envOfC d (sB st) s.heap.objs.size f e))->sp vs H Q E->
  ∃t,PSs (YE PF P w K b a N d (sB st) f e A outer s H E).nox (RC st) t/\t { nx:=fun z u=>Q .non u,rt:=Q } (aG N vs) H):Zu P w K b a PF (k+1) f m ps sp:=by
 obtain⟨C,B,kV,r,y,D,e,ct,n,rfl,o,j⟩:=F.ex;refine F4 o j S len fun A outer s H vs Q E p i=>?_
 obtain⟨t,h,q⟩:=g e A outer s H vs Q E p i;exact⟨t,h.nox,q⟩
theorem Fun.binds{x d:Str}{st:Ou}{f:Oa}{k:FuncData}{ps:Ms Str}(F:Fun K x d st f k)
 (h:∀(kV e i:Mu)(j:Ni Oa)(g ct:Mu)(us:Ms Mu),us.length=ps.length->bindArgs (fnOf x d (IE st) (RC st) (sB st) .none kV e i j g ct) ⟨us,[]⟩=pure (ps.zip us)):tq K k ps []:=by
 obtain⟨p,o,kV,e,i,j,g,ct,m,rfl,q,n⟩:=F.ex;exact .all (h kV e i j g ct)
theorem QP{x d:Str}{st:Ou}{f:Oa}{m:Mu}{od j:Ni Oa}{h:Pb (Ni Mu)}{kV g i e ct:Mu}(l:K.lookup f=ε ⟨m,od,.func (fnOf x d (IE st) (RC st) (sB st) .none kV g i j e ct),h⟩)
 (c:PySem.W.codeIn K e d=true) (k:keepIn K (.ref f)=true):Fun K x d st f (fnOf x d (IE st) (RC st) (sB st) .none kV g i j e ct):=⟨⟨m,od,kV,g,i,j,e,ct,h,rfl,l,c⟩,k⟩
end
section
variable{X:Cx}
end
theorem dH{A B:Prop}(h:B):if false=true then A else B:=by rw[eH Wk];exact h
theorem fH{A B:Prop}(h:A):if true=true then A else B:=by rw[eG rfl];exact h
def Same(H a:Hp):Prop:=∀b o,H b=ε o->a b=ε o
theorem Same.refl(H:Hp):Same H H:=fun q q h=>h
theorem Same.trans{H d H2:Hp}(a:Same H d)(b:Same d H2):Same H H2:=fun c o h=>b c o (a c o h)
theorem Same.free{H a:Hp}(e:Same H a){l:Oa}(h:a l=Option.none):H l=Option.none:=by
 cases q:H l with
 | none=>rfl
 | some o=>rw[e l o q]at h;cases h
open PySem.AutoSeq1 (wpAny_loadPart')
open PySem.SeqAt PySem.MeetsSeq PySem.MeetsSeq2 PySem.MeetsSeq3
theorem Zd(l b:Oa)(items a:Pb Mu)(n k:Nat)(q i:Ni Oa)(j e:Pb (Ni Mu))(o:items.size+a.size<=sizeLine) :
 Meets (Builtin.«list.__add__» ⟨[.ref l,.ref b],[]⟩) (fun z R s=>s.heap.get? l=ε { cls:=.type "list",dict:=q,data:=.seq items n,slots:=j }/\s.heap.get? b=ε { cls:=.type "list",dict:=i,data:=.seq a k,slots:=e }/\R (.ok (.ret (Value.ref s.heap.objs.size))) { s with heap:=s.heap.push { cls:=Value.type "list",data:=Data.seq (items++a) },toks:=s.toks }):=
 .of_wp fun prog w A R s h=>by obtain⟨hp,g,d,r,os⟩:=s;obtain⟨m,p,h⟩:=h;have C:=AutoSeq1.idx_int;have B:=AutoSeq1.sub_tuple_tuple;have y:=AutoSeq1.sub_list_list;have x:=AutoSeq1.sub_tuple_list;have u:=AutoSeq1.sub_list_tuple;wp_walk using wpAny_loadPart' m,wpAny_loadPart' p;exact⟨_,rfl,h⟩
section
variable{X:Cx}
theorem A0:tv X (binaryOp .Add) (fun x y H Q=>∃l b g zs,x=.ref l/\y=.ref b/\to X.K H l g/\to X.K H b zs/\g.length+zs.length<=sizeLine/\∀p,H p=none->Q (.ref p) (IB H p (.lst (g++zs)))):=by
 intro m s U H x y v u Q I M L h;obtain⟨l,b,g,zs,rfl,rfl,R,S,hz,q⟩:=h;cases M;cases L;obtain⟨d,r,⟨⟨c1,d1,Z,j⟩,n,e,J,E,D⟩,z⟩:=I.list R;obtain⟨a,k,⟨⟨c2,d2,Y,i⟩,O,e2,C,B,o⟩,W⟩:=I.list S;simp only at J E D C B o;subst J E D C B o;have hl:=r.length;have P:=k.length;refine concat_meets ⟨_,e,rfl⟩ ⟨_,e2,rfl⟩ noFill_list_add seq_list_add F.slot_list_add F.entry_list_add (F.args_list_add_2 _ _) (Zd l b d.toArray a.toArray n O none none j i (by rw[dh,dh];omega)) ⟨e,e2,?_⟩;have T:d.toArray++a.toArray=(d++a).toArray:=by simp
 rw[T];exact⟨.ref _,_,I.fw (t':=s.toks) (r.append k) (by rw[ji];omega),rfl,q _ I.fresh⟩
theorem xO{us:Ms Mu}{ns:Ms Int}(h:IntsAre us ns):∃a:Pb (Int×Tok),us.toArray=intItems a/\a.toList.map (·.1)=ns:=by obtain⟨a,e⟩:=h.allInts.items;refine⟨a,e,?_⟩;have e2:=h.numsOf;rw[<- nums_intItems,<- e];exact e2
theorem Ot (o:X.calm=true):ae X (.builtin "sum") (fun a H Q=>∃(p:Oa) (ns:Ms Int),a=[.ref p]/\to X.K H p (ns.map V.int)/\Q (.int ns.sum) H):=by
 intro b s x H a B Q I r h;obtain⟨p,ns,rfl,n,q⟩:=h;obtain⟨u,rfl,i⟩:=WE r;cases i;obtain⟨m,j,pl,D⟩:=I.list n;obtain⟨y,e,e2⟩:=xO (CJ j);have d:=pl.isList;rw[e]at d;refine sum_intListG (I.ok.hd o) d fun E C g k=>⟨.int ns.sum,H,I.kept k,⟨g,?_⟩,q⟩
 rw[preSum_eq,take_of_length_le ⋯,e2]
theorem Ft (F:X.calm=true):ae X (.builtin "max") (fun i H Q=>∃(p:Oa) (ns:Ms Int),i=[.ref p]/\to X.K H p (ns.map V.int)/\ns ≠ []/\∀M,M∈ns->(∀a∈ns,a<=M)->Q (.int M) H):=by
 intro m s L H i O Q I r h;obtain⟨p,ns,rfl,D,g,q⟩:=h;obtain⟨u,rfl,x⟩:=WE r;cases x;obtain⟨B,y,pl,R⟩:=I.list D;obtain⟨b,e,e2⟩:=xO (CJ y);have n:=pl.isList;rw[e]at n;have d:0<b.size:=by
  rcases Nat.eq_zero_or_pos b.size with z | z
  . exfalso;apply g;rw[<- e2];have:b.toList=[]:=by apply eq_nil_of_length_eq_zero;simpa using z
    rw[this];rfl
  . exact z
 refine max_intList (I.ok.hd F) n d fun v T P C k=>?_
 obtain⟨t,rfl⟩:=intItems_at C;obtain⟨S,J⟩:=argBest_gt (numAt b) (b.size-1);refine⟨.int _,H,I.kept k,⟨t,rfl⟩,q _ ?_ fun a o=>?_⟩
 . rw[numAt_eq,<- e2];exact getD_mem (by rw[ni,z7];omega)
 . rw[<- e2]at o;obtain⟨j,E,rfl⟩:=mem_getD o;rw[ni,z7]at E;rw[<- numAt_eq];exact J j nofun
theorem Jt (F:X.calm=true):ae X (.builtin "min") (fun i H Q=>∃(p:Oa) (ns:Ms Int),i=[.ref p]/\to X.K H p (ns.map V.int)/\ns ≠ []/\∀M,M∈ns->(∀a∈ns,M<=a)->Q (.int M) H):=by
 intro m s L H i O Q I r h;obtain⟨p,ns,rfl,D,g,q⟩:=h;obtain⟨u,rfl,x⟩:=WE r;cases x;obtain⟨B,y,pl,R⟩:=I.list D;obtain⟨b,e,e2⟩:=xO (CJ y);have n:=pl.isList;rw[e]at n;have d:0<b.size:=by
  rcases Nat.eq_zero_or_pos b.size with z | z
  . exfalso;apply g;rw[<- e2];have:b.toList=[]:=by apply eq_nil_of_length_eq_zero;simpa using z
    rw[this];rfl
  . exact z
 refine min_intList (I.ok.hd F) n d fun v T P C k=>?_
 obtain⟨t,rfl⟩:=intItems_at C;obtain⟨S,J⟩:=argBest_lt (numAt b) (b.size-1);refine⟨.int _,H,I.kept k,⟨t,rfl⟩,q _ ?_ fun a o=>?_⟩
 . rw[numAt_eq,<- e2];exact getD_mem (by rw[ni,z7];omega)
 . rw[<- e2]at o;obtain⟨j,E,rfl⟩:=mem_getD o;rw[ni,z7]at E;rw[<- numAt_eq];exact J j nofun
def TyD(K:Oi)(H:Hp)(x:V)(t:String):Prop:=match x with
 | .non=>t = "NoneType"
 | .bl _=>t = "bool"
 | .int _=>t = "int"
 | .str _=>t = "str"
 | .ref a=>(t = "list" /\ ∃b,to K H a b)\/(t = "tuple" /\ ∃b,tG K H a b)
 | _=>False
theorem Zc {T:String}:ae X (.builtin "isinstance") (fun C H Q=>∃x t b,C=[x,.ty T]/\TyD X.K H x t/\PySem.W.kitOne X.K (.type t) (.type T)=ε b/\Q (.bl b) H):=by
 intro j s D H C J Q I r h;obtain⟨x,t,b,rfl,ty,e,q⟩:=h;obtain⟨u,L,rfl,g,F⟩:=uQ r;cases F;have d:∀k,EP X j D Q (.bool b) { s with toks:=k }:=fun k=>⟨.bl b,H,I.tok k,rfl,q⟩
 cases x with
 | non=>cases (show t = "NoneType" from ty);cases g;exact PySem.W.kia_one PySem.W.kitx_none I.kIn Ji e (fun z=>nomatch z) d
 | bl y=>cases (show t = "bool" from ty);cases g;exact PySem.W.kia_one PySem.W.kitx_bool I.kIn Ji e (fun z=>nomatch z) d
 | int i=>cases (show t = "int" from ty);obtain⟨_,rfl⟩:=g;exact PySem.W.kia_one PySem.W.kitx_int I.kIn Ji e (fun z=>nomatch z) d
 | str y=>cases (show t = "str" from ty);obtain⟨_,rfl⟩:=g;exact PySem.W.kia_one PySem.W.kitx_str I.kIn Ji e (fun z=>nomatch z) d
 | ref a=>
  cases g;rcases ty with⟨rfl,E,sq⟩ | ⟨rfl,E,sq⟩
  . obtain⟨m,_,⟨o,n,B,p,_,_⟩,_⟩:=I.list sq;exact PySem.W.kia_one PySem.W.kitx_list I.kIn ⟨o,B,p⟩ e (fun z=>nomatch z) d
  . obtain⟨m,_,⟨o,B,p,_⟩,_⟩:=I.tuple sq;exact PySem.W.kia_one PySem.W.kitx_tuple I.kIn ⟨o,B,p⟩ e (fun z=>nomatch z) d
 | byt _=>exact Fe ty
 | flt _=>exact Fe ty
 | ty _=>exact Fe ty
end
open PySem.AutoSeq1 (wpAny_loadPart')
open PySem.SeqAt PySem.MeetsSeq PySem.MeetsSeq2 PySem.MeetsSeq3
theorem Cr(l b:Oa)(items a:Pb Mu)(n M:Nat)(T F:Ni Oa)(L B:Pb (Ni Mu))(e:Nat->Bool) :
 Meets (Builtin.«tuple.__ne__» ⟨[.ref l,.ref b],[]⟩)
  (fun A R s=>s.heap.get? l=ε { cls:=.type "tuple",dict:=T,data:=.seq items n,slots:=L }/\s.heap.get? b=ε { cls:=.type "tuple",dict:=F,data:=.seq a M,slots:=B }/\
   (∀j (J:j<items.size) (h2:j<a.size),EqAt A.in1 s items[j] a[j] (e j))/\
   R (.ok (.ret (.bool (!((List.range (min items.size a.size)).all e&&items.size==a.size))))) s):=
 .of_wp fun prog w A R s h=>by
  obtain⟨hp,g,d,H,os⟩:=s;obtain⟨P,S,Q,h⟩:=h;have U:=AutoSeq1.sub_tuple_tuple;have I:(items.toList.zip a.toList).length=min items.size a.size:=by simp
  wp_walk using wpAny_loadPart' P,wpAny_loadPart' S,wpAny_forIn_list _ (fun rest b C=>b.1=none/\C=⟨hp,g,d,H,os⟩/\∃i,rest=(items.toList.zip a.toList).drop i/\
   R (.ok (.ret (.bool (!(((List.range (min items.size a.size)).drop i).all e&&items.size==a.size))))) ⟨hp,g,d,H,os⟩) _
  case turn=>
   rintro⟨y,x⟩ rest b C ⟨p,rfl,i,m,k⟩;have r:i<(items.toList.zip a.toList).length:=by
    rcases Nat.lt_or_ge i (items.toList.zip a.toList).length with h' | h'
    . exact h'
    . rw[drop_of_length_le h']at m;cases m
   have D:i<min items.size a.size:=I ▸ r;have J:i<items.size:=jo D (Nat.min_le_left _ _);have h2:i<a.size:=jo D (Nat.min_le_right _ _);rw[Aa r]at m;injection m with q o
   have u:y=items[i]:=by have:=congrArg Prod.fst q;simpa using this
   have O:x=a[i]:=by have:=congrArg Prod.snd q;simpa using this
   subst u O;have hd:(List.range (min items.size a.size)).drop i=i::(List.range (min items.size a.size)).drop (i+1):=by simp[Aa,D]
   rw[hd,Ju]at k;refine ao (Q i J h2 prog w _ _ ?_);cases u:e i with
   | true=>
    rw[u]at k
    wp_walk
    exact⟨rfl,rfl,i+1,o,by simpa only[Gs]using k⟩
   | false=>
    rw[u]at k
    wp_walk
    exact⟨_,rfl,by simpa only[Hi,vm]using k⟩
  case fin=>
   rintro⟨Y,W⟩ C ⟨p,rfl,i,m,k⟩;simp only at p;subst p;have E:min items.size a.size<=i:=by
    rcases Nat.lt_or_ge i (items.toList.zip a.toList).length with h' | h'
    . rw[Aa h']at m;cases m
    . exact I ▸ h'
   rw[drop_of_length_le (by simpa using E)]at k
   wp_walk
   exact⟨_,rfl,by simpa[Builtin.Tuple.tupleCompareSizes,bne]using k⟩
  case h=>exact⟨rfl,rfl,0,rfl,by simpa only[drop_zero]using h⟩
theorem Rf(l b:Oa)(items a:Pb Mu)(n F:Nat)(J C:Ni Oa)(E y:Pb (Ni Mu))(hsz:items.size=a.size)(e:Nat->Bool)(k:Nat) :
 ∀i:Nat,items.size-i=k->Meets (Builtin.«list.__eq__.loop» ⟨[.ref l,.ref b,rawInt i,rawInt 3],[]⟩)
  (fun A R s=>s.heap.get? l=ε { cls:=.type "list",dict:=J,data:=.seq items n,slots:=E }/\s.heap.get? b=ε { cls:=.type "list",dict:=C,data:=.seq a F,slots:=y }/\
   (∀j (L:j<items.size) (h2:j<a.size),EqAt A.in1 s items[j] a[j] (e j))/\
   R (.ok (.ret (.bool (!(((List.range items.size).drop i).all e))))) s):=by
 induction k with
 | zero=>
  intro i H prog w A R s h;obtain⟨hp,g,d,D,os⟩:=s;obtain⟨r,u,B,h⟩:=h
  wp_walk using wpAny_loadPart' r,wpAny_loadPart' u
  have o:items[((i:Nat):Int).toNat]?=none:=by simp;omega
  have m:a[((i:Nat):Int).toNat]?=none:=by simp;omega
  have hd:(List.range items.size).drop i=[]:=by simp;omega
  rw[hd]at h;rw[o,m]
  wp_walk using wpAny_loadPart' r,wpAny_loadPart' u
  show R (.ok (.ret (.bool (items.size !=a.size)))) _;rw[hsz];simpa using h
 | succ k ih=>
  intro i H prog w A R s h;obtain⟨hp,g,d,D,os⟩:=s;obtain⟨r,u,B,h⟩:=h
  wp_walk using wpAny_loadPart' r,wpAny_loadPart' u
  have q:i<items.size:=by omega
  have p:i<a.size:=by omega
  have o:items[((i:Nat):Int).toNat]?=ε items[i]:=by simp[q]
  have m:a[((i:Nat):Int).toNat]?=ε a[i]:=by simp[p]
  have hd:(List.range items.size).drop i=i::(List.range items.size).drop (i+1):=by simp[Aa,q]
  have I:((i:Int)+1)=((i+1:Nat):Int):=by push_cast;rfl
  rw[hd,Ju]at h;rw[o,m];refine ao (B i q p prog w _ _ ?_);cases x:e i with
  | true=>
   rw[x]at h
   wp_walk
   rw[I];exact⟨plainId_quiet plain_eq_loop _,Ia entry_eq_loop (by
    rw[Ho plain_eq_loop _];exact ih (i+1) nofun prog w A R _ ⟨r,u,B,by simpa only[Gs]using h⟩)⟩
  | false=>
   rw[x]at h
   wp_walk using wpAny_loadPart' r,wpAny_loadPart' u
   rw[o,m]
   wp_walk
   simpa using h
theorem jc(l b:Oa)(items a:Pb Mu)(n o:Nat)(r k:Ni Oa)(m i:Pb (Ni Mu))(hsz:items.size=a.size)(e:Nat->Bool) :
 Meets (Builtin.«list.__ne__» ⟨[.ref l,.ref b],[]⟩)
  (fun A R s=>s.heap.get? l=ε { cls:=.type "list",dict:=r,data:=.seq items n,slots:=m }/\s.heap.get? b=ε { cls:=.type "list",dict:=k,data:=.seq a o,slots:=i }/\
   (∀j (B:j<items.size) (h2:j<a.size),EqAt A.in1 s items[j] a[j] (e j))/\
   R (.ok (.ret (.bool (!((List.range items.size).all e))))) s):=by
 intro prog w A R s h;obtain⟨hp,g,d,y,os⟩:=s;obtain⟨p,q,x,h⟩:=h;have C:=AutoSeq1.sub_list_list;have u:¬(items.size !=a.size)=true:=by simp[hsz]
 wp_walk using wpAny_loadPart' p,wpAny_loadPart' q
 exact⟨plainId_quiet plain_eq_loop _,Ia entry_eq_loop (by
  rw[Ho plain_eq_loop _];exact Rf l b items a n o r k m i hsz e _ 0 rfl prog w A R _ ⟨p,q,x,by simpa only[drop_zero]using h⟩)⟩
theorem Av(l b:Oa)(items a:Pb Mu)(n k:Nat)(q i:Ni Oa)(j e:Pb (Ni Mu))(o:(items.size !=a.size)=true) :
 Meets (Builtin.«list.__ne__» ⟨[.ref l,.ref b],[]⟩)
  (fun z R s=>s.heap.get? l=ε { cls:=.type "list",dict:=q,data:=.seq items n,slots:=j }/\s.heap.get? b=ε { cls:=.type "list",dict:=i,data:=.seq a k,slots:=e }/\
   R (.ok (.ret (.bool true))) s):=
 .of_wp fun prog w A R s h=>by
  obtain⟨hp,g,d,r,os⟩:=s;obtain⟨m,p,h⟩:=h;have u:=AutoSeq1.sub_list_list
  wp_walk using wpAny_loadPart' m,wpAny_loadPart' p
  exact⟨_,rfl,h⟩
section
variable{prog:Oo}{w:O4}{A:Pa}{E:Mu->Nu->Prop}{s:Nu}{Q:Mu->Nu->Prop}
theorem Tf{l b:Oa}{items a:Pb Mu}{e:Nat->Bool}(D:s.heap.IsTuple l items)(H:s.heap.IsTuple b a)(C:A.units<cLine)
 (he:∀j (L:j<items.size) (h2:j<a.size),EqAt A.in1 s items[j] a[j] (e j)) (h:Q (.bool (!((List.range (min items.size a.size)).all e&&items.size==a.size))) s):wpAny (model prog w) A (compareOp .NotEq (.ref l) (.ref b)) Q E s:=by
 obtain⟨⟨J,I,r,y⟩,p,q,n,hd⟩:=id D;obtain⟨⟨u,m,o,k⟩,d,i,B,g⟩:=id H;simp only at q hd i g;subst q hd i g;exact richCompare_meets_room (op:=.NotEq) ⟨_,p,rfl⟩ ⟨_,d,rfl⟩ F.slot_tuple_ne F.entry_tuple_ne (F.args_tuple_ne_2 _ _) (Cr l b items a n B I m y k e) ⟨p,d,he,⟨(fun x=>nomatch x),h⟩⟩ C
theorem EY{l b:Oa}{items a:Pb Mu}{e:Nat->Bool}(D:s.heap.IsList l items)(H:s.heap.IsList b a)(hsz:items.size=a.size)(C:A.units<cLine)
 (he:∀j (L:j<items.size) (h2:j<a.size),EqAt A.in1 s items[j] a[j] (e j)) (h:Q (.bool (!((List.range items.size).all e))) s):wpAny (model prog w) A (compareOp .NotEq (.ref l) (.ref b)) Q E s:=by
 obtain⟨⟨J,I,r,y⟩,p,q,n,hd⟩:=id D;obtain⟨⟨u,m,o,k⟩,d,i,B,g⟩:=id H;simp only at q hd i g;subst q hd i g;exact richCompare_meets_room (op:=.NotEq) ⟨_,p,rfl⟩ ⟨_,d,rfl⟩ F.slot_list_ne F.entry_list_ne (F.args_list_ne_2 _ _) (jc l b items a n B I m y k hsz e) ⟨p,d,he,⟨(fun x=>nomatch x),h⟩⟩ C
theorem Ek{l b:Oa}{items a:Pb Mu}(B:s.heap.IsList l items)(C:s.heap.IsList b a)(hsz:(items.size !=a.size)=true)(y:A.units<cLine)
 (h:Q (.bool true) s):wpAny (model prog w) A (compareOp .NotEq (.ref l) (.ref b)) Q E s:=by
 obtain⟨⟨H,D,p,r⟩,m,o,n,hd⟩:=id B;obtain⟨⟨q,j,k,i⟩,d,g,u,e⟩:=id C;simp only at o hd g e;subst o hd g e;exact richCompare_meets_room (op:=.NotEq) ⟨_,m,rfl⟩ ⟨_,d,rfl⟩ F.slot_list_ne F.entry_list_ne (F.args_list_ne_2 _ _) (Av l b items a n u D j r i hsz) ⟨m,d,⟨(fun x=>nomatch x),h⟩⟩ y
end
end L2
namespace SM
inductive Dt where
 | non | bl (b:Bool) | int (i:Int) | str (x:Str) | tup (xs:List Dt) | lst (xs:List Dt) | ref (n:Nat) | ntp (xs:List Int)
inductive Ob where
 | lst (xs:List Dt)
 | ins (x:Str) (fs:List (Str×Dt))
 | dk (kvs:List (kC×Dt))
 | dt (kvs:List (List Int×Dt))
 | df (kvs:List (List Int×Dt))
noncomputable abbrev HI:=Ms Ob
noncomputable abbrev LI:=Ms (Ni Dt)
structure Rg where
 v:List Addr
 z:List Addr
def Rg.no(ρ:Rg)(a:Oa):Prop:=a∉ρ.v/\a∉ρ.z
noncomputable def Rg.add(ρ:Rg)(p:Oa):Rg:=⟨ρ.v++[p],ρ.z⟩
noncomputable def Rg.hide(ρ:Rg)(p:Oa):Rg:=⟨ρ.v,p::ρ.z⟩
noncomputable def Rg.nil:Rg:=⟨[],[]⟩
def tw(K:Oi)(H:Hp)(ρ:Rg)(a:Oa)(vs:Ms V):Prop:=
 (ρ.no a/\Rd H a (.tup vs))\/
  ∃(o:Obj) (b:Pb Mu) (n:Nat),K.lookup a=ε o/\o.cls=.type "tuple" /\ o.data=.seq b n/\b.size<=sizeLine/\ss vs b.toList
def tx(K:Oi)(H:Hp)(ρ:Rg)(a:Oa)(vs:Ms V):Prop:=
 (ρ.no a/\Rd H a (.lst vs))\/
  ∃(o:Obj) (b:Pb Mu) (n:Nat),K.lookup a=ε o/\o.cls=.type "list" /\ o.dict=none/\o.data=.seq b n/\b.size<=sizeLine/\ss vs b.toList
theorem tw.sq{K:Oi}{H:Hp}{ρ:Rg}{a:Oa}{vs:Ms V}(h:tw K H ρ a vs):tG K H a vs:=by
 rcases h with⟨_,h⟩ | h
 . exact .inl h
 . exact .inr h
theorem tx.sq{K:Oi}{H:Hp}{ρ:Rg}{a:Oa}{vs:Ms V}(h:tx K H ρ a vs):to K H a vs:=by
 rcases h with⟨_,h⟩ | h
 . exact .inl h
 . exact .inr h
mutual
noncomputable def Te(K:Oi)(H:Hp)(ρ:Rg):Dt->V->Prop
 | .non,v=>v=.non
 | .bl b,v=>v=.bl b
 | .int i,v=>v=.int i
 | .str x,v=>v=.str x
 | .tup xs,v=>∃a d,v=.ref a/\tw K H ρ a d/\Ro K H ρ xs d
 | .lst xs,v=>∃a d,v=.ref a/\tx K H ρ a d/\Ro K H ρ xs d
 | .ref n,v=>∃a,v=.ref a/\ρ.v[n]?=ε a
 | .ntp xs,v=>∃a,v=.ref a/\ρ.no a/\H a=ε (.tup (xs.map V.int))
noncomputable def Ro(K:Oi)(H:Hp)(ρ:Rg):Ms Dt->Ms V->Prop
 | [],vs=>vs=[]
 | x::xs,vs=>∃v r,vs=v::r/\Te K H ρ x v/\Ro K H ρ xs r
end
structure sx(ρ ρ':Rg)(H H':Hp):Prop where
 pre:∃e,ρ'.v=ρ.v++e/\∀a∈e,H a=none
 hid:ρ'.z=ρ.z
 keep:∀a o,H a=ε o->a∉ρ.v->H' a=ε o
 live:∀a,H' a=none->H a=none
 fz:∀a o u,H a=ε (.frz o u)->H' a=ε (.frz o u)
theorem sx.refl(ρ:Rg)(H:Hp):sx ρ ρ H H:=⟨⟨[],by simp,by simp⟩,rfl,fun q q h q=>h,fun q h=>h,fun q q q h=>h⟩
theorem sx.gt{ρ b:Rg}{H i:Hp}(x:sx ρ b H i){a:Oa}{o:HO}(h:H a=ε o)(n:a∉ρ.v):a∉b.v:=by
 obtain⟨e,g,d⟩:=x.pre;rw[g];intro hm;rcases Bs.mp hm with hm | hm
 . exact n hm
 . have:=d a hm;rw[h]at this;cases this
theorem sx.fx{ρ b:Rg}{H d:Hp}(x:sx ρ b H d){a:Oa}{o:HO}(h:H a=ε o)(n:ρ.no a):b.no a:=⟨x.gt h n.1,by rw[x.hid];exact n.2⟩
theorem sx.trans{ρ d b:Rg}{H g H2:Hp}(x:sx ρ d H g)(y:sx d b g H2):sx ρ b H H2:=by
 refine⟨?_,y.hid.trans x.hid,fun a o h n=>y.keep a o (x.keep a o h n) (x.gt h n),fun a h=>x.live a (y.live a h),fun a o u h=>y.fz a o u (x.fz a o u h)⟩;obtain⟨e,q1,j⟩:=x.pre;obtain⟨k,q2,i⟩:=y.pre;refine⟨e++k,by rw[q2,q1,su],fun a ha=>?_⟩;rcases Bs.mp ha with ha | ha
 . exact j a ha
 . exact x.live a (i a ha)
theorem sx.get{ρ b:Rg}{H g:Hp}(x:sx ρ b H g){n:Nat}{a:Oa}(h:ρ.v[n]?=ε a):b.v[n]?=ε a:=by obtain⟨e,d,_⟩:=x.pre;have:=(Wi h).1;rw[d,Xo this];exact h
theorem sx.fresh{ρ:Rg}{H:Hp}{p:Oa}{o:HO}(h:H p=none):sx ρ ρ H (IB H p o):=by
 refine⟨⟨[],by simp,by simp⟩,rfl,fun a u e q=>?_,fun a e=>?_,fun a o u e=>by rw[dB (TC e h)];exact e⟩
 . rw[dB (TC e h)];exact e
 . by_cases b:a=p
   . subst b;exact h
   . rw[dB b]at e;exact e
theorem sx.own{ρ:Rg}{H:Hp}{p:Oa}{o:HO}(h:H p=none):sx ρ (ρ.add p) H (IB H p o):=by refine⟨⟨[p],rfl,fun a b=>?_⟩,rfl,(sx.fresh (ρ:=ρ) h).keep,(sx.fresh (ρ:=ρ) h).live,(sx.fresh (ρ:=ρ) h).fz⟩;rw[Ba.mp b];exact h
def BU(H:Hp)(a:Oa):Prop:=∀o u,H a≠ε (.frz o u)
theorem iH{H:Hp}{a:Oa}{vs:Ms V}(h:H a=ε (.lst vs)):BU H a:=fun q q e=>by rw[h]at e;cases e
theorem sx.write{ρ:Rg}{H:Hp}{a:Oa}{o:HO}(h:a∈ρ.v)(g:BU H a):sx ρ ρ H (IB H a o):=by
 refine⟨⟨[],by simp,by simp⟩,rfl,fun b u e n=>?_,fun b e=>?_,fun b q u e=>by rw[dB (fun z:b=a=>g q u (by rw[<- z];exact e))];exact e⟩
 . rw[dB (fun z=>n (by rw[z];exact h))];exact e
 . by_cases d:b=a
   . subst d;rw[IC]at e;cases e
   . rw[dB d]at e;exact e
structure ar(ρ ρ':Rg)(H H':Hp):Prop where
 no:∀a u,H a=ε u->ρ.no a->ρ'.no a
 eq:∀a u,H a=ε u->ρ.no a->H' a=ε u
 ix:∀(n:Nat) a,ρ.v[n]?=ε a->ρ'.v[n]?=ε a
 fz:∀a o u,H a=ε (.frz o u)->H' a=ε (.frz o u)
theorem sx.same{ρ a:Rg}{H H':Hp}(x:sx ρ a H H'):ar ρ a H H':=⟨fun q q e n=>x.fx e n,fun q q e n=>x.keep _ _ e n.1,fun q q e=>x.get e,x.fz⟩
theorem ar.trans{ρ d b:Rg}{H g H2:Hp}(x:ar ρ d H g)(y:ar d b g H2):ar ρ b H H2:=
 ⟨fun a u e n=>y.no a u (x.eq a u e n) (x.no a u e n),fun a u e n=>y.eq a u (x.eq a u e n) (x.no a u e n),fun n a e=>y.ix n a (x.ix n a e),fun a o u e=>y.fz a o u (x.fz a o u e)⟩
theorem tw.same{K:Oi}{ρ b:Rg}{H d:Hp}(x:ar ρ b H d){a:Oa}{vs:Ms V}(h:tw K H ρ a vs):tw K d b a vs:=by
 rcases h with⟨n,t | ⟨y,t⟩⟩ | t
 . exact .inl ⟨x.no _ _ t n,.inl (x.eq _ _ t n)⟩
 . exact .inl ⟨x.no _ _ t n,.inr ⟨y,x.eq _ _ t n⟩⟩
 . exact .inr t
theorem tx.same{K:Oi}{ρ b:Rg}{H d:Hp}(x:ar ρ b H d){a:Oa}{vs:Ms V}(h:tx K H ρ a vs):tx K d b a vs:=by
 rcases h with⟨n,t | ⟨y,t⟩⟩ | t
 . exact .inl ⟨x.no _ _ t n,.inl (x.eq _ _ t n)⟩
 . exact .inl ⟨x.no _ _ t n,.inr ⟨y,x.eq _ _ t n⟩⟩
 . exact .inr t
mutual
theorem Te.same{K:Oi}{ρ b:Rg}{H i:Hp}(x:ar ρ b H i):∀(d:Dt){v:V},Te K H ρ d v->Te K i b d v
 | .non,_,h=>by simp![Te]at h ⊢;exact h
 | .bl _,_,h=>by simp![Te]at h ⊢;exact h
 | .int _,_,h=>by simp![Te]at h ⊢;exact h
 | .str _,_,h=>by simp![Te]at h ⊢;exact h
 | .tup xs,_,h=>by simp![Te]at h ⊢;obtain⟨a,g,e,t,r⟩:=h;exact⟨a,g,e,t.same x,Ro.same x xs r⟩
 | .lst xs,_,h=>by simp![Te]at h ⊢;obtain⟨a,g,e,t,r⟩:=h;exact⟨a,g,e,t.same x,Ro.same x xs r⟩
 | .ref _,_,h=>by simp![Te]at h ⊢;obtain⟨a,e,t⟩:=h;exact⟨a,e,x.ix _ _ t⟩
 | .ntp _,_,h=>by simp![Te]at h ⊢;obtain⟨a,e,n,t⟩:=h;exact⟨a,e,x.no _ _ t n,x.eq _ _ t n⟩
theorem Ro.same{K:Oi}{ρ a:Rg}{H b:Hp}(x:ar ρ a H b):∀(ds:Ms Dt){vs:Ms V},Ro K H ρ ds vs->Ro K b a ds vs
 | [],_,h=>by simp![Ro]at h ⊢;exact h
 | d::ds,_,h=>by simp![Ro]at h ⊢;obtain⟨v,r,e,i,g⟩:=h;exact⟨v,r,e,Te.same x d i,Ro.same x ds g⟩
end
theorem Te.ext{K:Oi}{ρ a:Rg}{H b:Hp}(x:sx ρ a H b)(d:Dt){v:V}(h:Te K H ρ d v):Te K b a d v:=Te.same x.same d h
theorem Ro.ext{K:Oi}{ρ a:Rg}{H b:Hp}{ds:Ms Dt}{vs:Ms V}(h:Ro K H ρ ds vs)(x:sx ρ a H b):Ro K b a ds vs:=Ro.same x.same ds h
section
variable{K:Oi}{H:Hp}{ρ:Rg}
theorem Ro.nil:Ro K H ρ [] []:=by simp![Ro]
theorem Ro.cons{d:Dt}{v:V}{ds:Ms Dt}{vs:Ms V}(h:Te K H ρ d v)(r:Ro K H ρ ds vs):Ro K H ρ (d::ds) (v::vs):=by simp![Ro];exact⟨v,vs,rfl,h,r⟩
theorem Ro.Za{d:Dt}{ds:Ms Dt}{vs:Ms V}(h:Ro K H ρ (d::ds) vs):∃v r,vs=v::r/\Te K H ρ d v/\Ro K H ρ ds r:=by simpa only[Ro]using h
theorem Ro.av{vs:Ms V}(h:Ro K H ρ [] vs):vs=[]:=by simpa only[Ro]using h
theorem Ro.length:∀{ds:Ms Dt}{vs:Ms V},Ro K H ρ ds vs->vs.length=ds.length
 | [],_,h=>by rw[h.av];rfl
 | d::ds,_,h=>by obtain⟨v,r,rfl,_,a⟩:=h.Za;rw[Ru,Ru,Ro.length a]
theorem Ro.get:∀{ds:Ms Dt}{vs:Ms V}{i:Nat}{d:Dt},Ro K H ρ ds vs->ds[i]?=ε d->∃v,vs[i]?=ε v/\Te K H ρ d v
 | [],_,_,_,_,e=>by simp at e
 | d::ds,_,0,_,h,e=>by obtain⟨v,r,rfl,b,_⟩:=h.Za;simp at e;subst e;exact⟨v,rfl,b⟩
 | d::ds,_,i+1,d',h,e=>by obtain⟨v,r,rfl,_,a⟩:=h.Za;obtain⟨u,q1,q2⟩:=Ro.get (i:=i) a (by simpa using e);exact⟨u,by simpa using q1,q2⟩
theorem Ro.append:∀{ds a:Ms Dt}{vs us:Ms V},Ro K H ρ ds vs->Ro K H ρ a us->Ro K H ρ (ds++a) (vs++us)
 | [],_,_,_,h,h'=>by rw[h.av];exact h'
 | d::ds,_,_,_,h,h'=>by obtain⟨v,r,rfl,e,b⟩:=h.Za;exact .cons e (Ro.append b h')
theorem Ro.set:∀{ds:Ms Dt}{vs:Ms V}{d:Dt}{v:V}(i:Nat),Ro K H ρ ds vs->Te K H ρ d v->Ro K H ρ (ds.set i d) (vs.set i v)
 | [],_,_,_,_,h,_=>by rw[h.av];exact .nil
 | d::ds,_,_,_,0,h,q=>by obtain⟨v,r,rfl,b,a⟩:=h.Za;exact .cons q a
 | d::ds,_,_,_,i+1,h,q=>by obtain⟨v,r,rfl,b,a⟩:=h.Za;exact .cons b (Ro.set i a q)
theorem Ro.take:∀{ds:Ms Dt}{vs:Ms V}(n:Nat),Ro K H ρ ds vs->Ro K H ρ (ds.take n) (vs.take n)
 | [],_,n,h=>by rw[h.av];simp;exact .nil
 | d::ds,_,0,h=>.nil
 | d::ds,_,n+1,h=>by obtain⟨v,r,rfl,b,a⟩:=h.Za;exact .cons b (Ro.take n a)
theorem Ro.drop:∀{ds:Ms Dt}{vs:Ms V}(n:Nat),Ro K H ρ ds vs->Ro K H ρ (ds.drop n) (vs.drop n)
 | [],_,n,h=>by rw[h.av];simp;exact .nil
 | d::ds,_,0,h=>h
 | d::ds,_,n+1,h=>by obtain⟨v,r,rfl,b,a⟩:=h.Za;exact Ro.drop n a
theorem Ro.ints(ns:Ms Int):Ro K H ρ (ns.map Dt.int) (ns.map V.int):=by
 induction ns with
 | nil=>exact .nil
 | cons n ns ih=>exact .cons (by simp![Te]) ih
theorem Ro.ce:∀{ns:Ms Int}{vs:Ms V},Ro K H ρ (ns.map Dt.int) vs->vs=ns.map V.int
 | [],_,h=>h.av
 | n::ns,_,h=>by obtain⟨v,r,rfl,a,b⟩:=Ro.Za h;simp![Te]at a;rw[a,Ro.ce b];rfl
theorem Xa{i:Int}{v:V}:Te K H ρ (.int i) v↔v=.int i:=by simp![Te]
theorem Zi{i:Bool}{v:V}:Te K H ρ (.bl i) v↔v=.bl i:=by simp![Te]
theorem br{i:Str}{v:V}:Te K H ρ (.str i) v↔v=.str i:=by simp![Te]
theorem bo{v:V}:Te K H ρ .non v↔v=.non:=by simp![Te]
theorem ag{xs:Ms Dt}{v:V}:Te K H ρ (.tup xs) v↔∃a vs,v=.ref a/\tw K H ρ a vs/\Ro K H ρ xs vs:=by simp![Te]
theorem bm{xs:Ms Dt}{v:V}:Te K H ρ (.lst xs) v↔∃a vs,v=.ref a/\tx K H ρ a vs/\Ro K H ρ xs vs:=by simp![Te]
theorem eI{xs:Ms Int}{v:V}:Te K H ρ (.ntp xs) v↔∃a,v=.ref a/\ρ.no a/\H a=ε (.tup (xs.map V.int)):=by simp![Te]
theorem af{n:Nat}{v:V}:Te K H ρ (.ref n) v↔∃a,v=.ref a/\ρ.v[n]?=ε a:=by simp![Te]
end
def bp(K:Oi)(H:Hp)(ρ:Rg)(a:Oa):Ob->Prop
 | .lst e=>∃b,H a=ε (.lst b)/\Ro K H ρ e b
 | .ins x fs=>∃C g b,nsIn K mainGlobals x=ε (ε (.ref C))/\H a=ε (.ins C g b)/\fs.map (·.1)=b.map (·.1)/\Ro K H ρ (fs.map (·.2)) (b.map (·.2))
 | .dk d=>∃b,H a=ε (.dK b)/\d.map (·.1)=b.map (·.1)/\Ro K H ρ (d.map (·.2)) (b.map (·.2))
 | .dt d=>∃b:Ms (Ms kC×V),H a=ε (.dT b)/\b.map (·.1)=d.map (fun p=>p.1.map Sum.inl)/\Ro K H ρ (d.map (·.2)) (b.map (·.2))
 | .df d=>∃(o:Obj)(b:Ms (Ms kC×V)),H a=ε (.frz o (.dT b))/\b.map (·.1)=d.map (fun p=>p.1.map Sum.inl)/\Ro K H ρ (d.map (·.2)) (b.map (·.2))
structure Vo(K:Frag)(ρ:Rg)(h:HI)(H:Hp):Prop where
 nd:ρ.v.Nodup
 len:ρ.v.length=h.length
 ob:∀(n:Nat) a o,ρ.v[n]?=ε a->h[n]?=ε o->bp K H ρ a o
 zt:∀a∈ρ.z,a∉ρ.v/\∃vs,H a=ε (.lst vs)
theorem bp.ext{K:Oi}{H m:Hp}{ρ j:Rg}{a:Oa}{o:Ob}(x:sx ρ j H m)(e:m a=H a)(h:bp K H ρ a o):bp K m j a o:=by
 cases o with
 | lst q=>obtain⟨b,g,d⟩:=h;exact⟨b,e.trans g,d.ext x⟩
 | ins y fs=>obtain⟨C,p,b,n,g,d,i⟩:=h;exact⟨C,p,b,n,e.trans g,d,i.ext x⟩
 | dk k=>obtain⟨b,g,d,i⟩:=h;exact⟨b,e.trans g,d,i.ext x⟩
 | dt k=>obtain⟨b,g,d,i⟩:=h;exact⟨b,e.trans g,d,i.ext x⟩
 | df k=>obtain⟨o,b,g,d,i⟩:=h;exact⟨o,b,e.trans g,d,i.ext x⟩
theorem bp.some{K:Oi}{H:Hp}{ρ:Rg}{a:Oa}{o:Ob}(h:bp K H ρ a o):∃u,H a=ε u:=by
 cases o with
 | lst g=>obtain⟨e,b,_⟩:=h;exact⟨_,b⟩
 | ins y fs=>obtain⟨C,i,e,_,b,_⟩:=h;exact⟨_,b⟩
 | dk d=>obtain⟨e,b,_⟩:=h;exact⟨_,b⟩
 | dt d=>obtain⟨e,b,_⟩:=h;exact⟨_,b⟩
 | df d=>obtain⟨o,e,b,_⟩:=h;exact⟨_,b⟩
section
variable{K:Oi}{H H':Hp}{ρ:Rg}{h:HI}
theorem Vo.nil:Vo K .nil [] H:=⟨nodup_nil,rfl,fun q q q e=>by simp[Rg.nil]at e,fun q h=>nomatch h⟩
theorem Vo.tracked(S:Vo K ρ h H){a:Oa}(e:a∈ρ.v):∃u,H a=ε u:=by
 obtain⟨n,b⟩:=mem_iff_getElem?.mp e;have d:n<h.length:=by rw[<- S.len];exact(Wi b).1
 exact(S.ob n a _ b (jj d)).some
theorem Vo.out(S:Vo K ρ h H){p:Oa}(hp:H p=none):ρ.no p:=by
 refine⟨fun a=>?_,fun a=>?_⟩
 . obtain⟨u,e⟩:=S.tracked a;rw[hp]at e;cases e
 . obtain⟨_,u,e⟩:=S.zt p a;rw[hp]at e;cases e
theorem Vo.fresh(S:Vo K ρ h H){p:Oa}{o:HO}(hp:H p=none):Vo K ρ h (IB H p o):=
 ⟨S.nd,S.len,fun n a u b e2=>(S.ob n a u b e2).ext (sx.fresh hp) (dB (fun z=>(S.out hp).1 (z ▸ lu b))),fun a d=>by
  obtain⟨n,u,e⟩:=S.zt a d;exact⟨n,u,by rw[dB (TC e hp)];exact e⟩⟩
theorem Vo.own(S:Vo K ρ h H){p:Oa}{o:HO}{u:Ob}(hp:H p=none)(q:bp K (IB H p o) (ρ.add p) p u):Vo K (ρ.add p) (h++[u]) (IB H p o):=by
 refine⟨?_,by simp![Rg.add];rw[ji,ji,S.len];rfl,fun n a ob d e2=>?_,fun a j=>?_⟩
 . simp![Rg.add];rw[nodup_append];refine⟨S.nd,Le.mpr ⟨by simp,nodup_nil⟩,fun a j b r=>?_⟩;rw[Ba.mp r];intro z;exact(S.out hp).1 (z ▸ j)
 . simp![Rg.add]at d;by_cases i:n<h.length
   . rw[Xo i]at e2;rw[Xo (by rw[S.len];exact i)]at d;exact(S.ob n a ob d e2).ext (sx.own hp) (dB (fun z=>(S.out hp).1 (z ▸ lu d)))
   . have g:h.length<=n:=Io.mp i;rw[ab g]at e2;rw[ab (by rw[S.len];exact g),S.len]at d;cases m:n-h.length with
     | zero=>rw[m]at d e2;simp at d e2;subst d e2;exact q
     | succ k=>rw[m]at e2;simp at e2
 . obtain⟨n,u,e⟩:=S.zt a j;refine⟨fun hm=>?_,u,by rw[dB (TC e hp)];exact e⟩;simp![Rg.add]at hm;rcases Bs.mp hm with hm | hm
   . exact n hm
   . rw[Ba.mp hm,hp]at e;cases e
theorem Vo.write(S:Vo K ρ h H){n:Nat}{p:Oa}{o:HO}{u:Ob}(b:ρ.v[n]?=ε p)(i:BU H p)(j:bp K (IB H p o) ρ p u):Vo K ρ (h.set n u) (IB H p o):=by
 refine⟨S.nd,by rw[Ka];exact S.len,fun m a ob d e2=>?_,fun a q=>?_⟩
 . by_cases g:m=n
   . subst g;rw[b]at d;cases d;have k:m<h.length:=by rw[<- S.len];exact(Wi b).1
     rw[uo k]at e2;cases e2;exact j
   . rw[m8 (nW g)]at e2;refine(S.ob m a ob d e2).ext (sx.write (lu b) i) (dB fun z=>g ?_);subst z;obtain⟨s,q1⟩:=Wi d;obtain⟨r,q2⟩:=Wi b;exact(getElem_inj S.nd).mp (q1.trans q2.symm)
 . obtain⟨m,w,e⟩:=S.zt a q;exact⟨m,w,by rw[dB (fun z=>m (by rw[z];exact lu b))];exact e⟩
theorem Vo.lst(S:Vo K ρ h H){n:Nat}{a:Oa}{xs:Ms Dt}(b:ρ.v[n]?=ε a)(e:h[n]?=ε (.lst xs)):∃vs,H a=ε (.lst vs)/\Ro K H ρ xs vs:=S.ob n a _ b e
end
structure Ys(K:Frag)(H:Hp)(ρ:Rg)(l:LI)(σ:L2.St):Prop where
 len:l.length=σ.length
 val:∀(i:Nat) d,l[i]?=ε (ε d)->∃v,σ[i]?=ε (ε v)/\Te K H ρ d v
theorem Ys.ext{K:Oi}{H b:Hp}{ρ a:Rg}{l:LI}{σ:L2.St}(L:Ys K H ρ l σ)(x:sx ρ a H b):Ys K b a l σ:=
 ⟨L.len,fun i d e=>let ⟨v,e1,r⟩:=L.val i d e;⟨v,e1,Te.ext x d r⟩⟩
theorem Ys.set{K:Oi}{H:Hp}{ρ:Rg}{l:LI}{b:L2.St}(L:Ys K H ρ l b){d:Dt}{v:V}(i:Nat)(r:Te K H ρ d v):Ys K H ρ (l.set i (ε d)) (b.set i (ε v)):=by
 refine⟨by rw[Ka,Ka];exact L.len,fun j h e=>?_⟩;by_cases a:j=i
 . subst a;have g:j<l.length:=by have:=(Wi e).1;rwa[Ka]at this
   rw[uo g]at e;cases e;exact⟨v,uo (by rw[<- L.len];exact g),r⟩
 . rw[m8 (nW a)]at e;rw[m8 (nW a)];exact L.val j h e
abbrev RE:=LI->HI->Ni (Dt×HI)
abbrev RT:=LI->HI->Ni (Bool×HI)
abbrev RA:=LI->HI->Ni (Ms Dt×HI)
inductive Rs where
 | nx (l:LI) (h:HI) | rt (d:Dt) (h:HI) | bk (l:LI) (h:HI) | ct (l:LI) (h:HI)
abbrev RS:=LI->HI->Ni Rs
abbrev qD:=Dt->Dt->HI->Ni (Dt×HI)
abbrev gB:=Ms Dt->HI->Ni (Dt×HI)
noncomputable def fB:Oe->Bool
 | .Starred _ _=>false
 | _=>true
theorem kB{e:Oe}(h:fB e=true)(a:Ms Oe)(env:Env):starEach (e::a) env=(false,eval e env)::starEach a env:=by cases e<;>first | rfl | (exact Ei h Wk)
theorem vI{pos:Pos}{env:Env}:∀{a:Ms Oe},a.all fB=true->(backTo pos (starEach a env)).any (·.1)=false
 | [],_=>rfl
 | e::a,h=>by rw[Ju,xr]at h;have ih:=vI (pos:=pos) (env:=env) h.2;rw[kB h.1];unfold backTo at ih ⊢;simp![Ss,Js,Bool.false_or];exact ih
theorem UL{pos:Pos}{env:Env}{b:Oe}(h:fB b=true):((backTo pos (starEach [b] env)).all (fun x=>!x.1)&&(backToKw pos (keywordEach [] env)).all (fun x=>x.1.isSome)
 && decide ([b].length+([]:Ms Keyword).length+(if([]:Ms Keyword).isEmpty then 0 else 1)<30))=true:=by
 rw[kB h];rfl
def Out(K:Oi)(ρ:Rg)(H:Hp)(d:Dt)(h':HI)(Q:VK):Prop:=
 ∀a v b,Te K b a d v->Vo K a h' b->sx ρ a H b->Q v b
def dn(K:Oi)(ρ:Rg)(H:Hp)(h':HI)(Q:Hp->Prop):Prop:=
 ∀a b,Vo K a h' b->sx ρ a H b->Q b
inductive tM(K:Frag)(f:RE)(σ:L2.St)(H:Hp)(Q:VK):Prop where
 | mk (ρ:Rg) (l:LI) (h:HI) (d:Dt) (h':HI) (S:Vo K ρ h H) (L:Ys K H ρ l σ) (e:f l h=ε (d,h')) (k:Out K ρ H d h' Q)
inductive oN(K:Frag)(f:RT)(σ:L2.St)(H:Hp)(Q:Bool->Hp->Prop):Prop where
 | mk (ρ:Rg) (l:LI) (h:HI) (b:Bool) (h':HI) (S:Vo K ρ h H) (L:Ys K H ρ l σ) (e:f l h=ε (b,h')) (k:dn K ρ H h' (Q b))
inductive tMA(K:Frag)(f:RA)(σ:L2.St)(H:Hp)(Q:List V->Hp->Prop):Prop where
 | mk (ρ:Rg) (l:LI) (h:HI) (ds:List Dt) (h':HI) (S:Vo K ρ h H) (L:Ys K H ρ l σ) (e:f l h=ε (ds,h')) (k:∀ρ' vs H',Ro K H' ρ' ds vs->Vo K ρ' h' H'->sx ρ ρ' H H'->Q vs H')
inductive rM(K:Frag)(op:qD)(x y:V)(H:Hp)(Q:VK):Prop where
 | mk (ρ:Rg) (h:HI) (d1 d2 d:Dt) (h':HI) (S:Vo K ρ h H) (r1:Te K H ρ d1 x) (r2:Te K H ρ d2 y) (e:op d1 d2 h=ε (d,h')) (k:Out K ρ H d h' Q)
noncomputable def eL(K:Oi)(ρ:Rg)(H:Hp)(D:ZG):Rs->Prop
 | .nx l h=>∀a b e,Vo K a h e->Ys K e a l b->sx ρ a H e->D.nx b e
 | .bk l h=>∀a b e,Vo K a h e->Ys K e a l b->sx ρ a H e->D.bk b e
 | .ct l h=>∀a b e,Vo K a h e->Ys K e a l b->sx ρ a H e->D.ct b e
 | .rt d h=>Out K ρ H d h D.rt
inductive sM(K:Frag)(f:RS)(D:ZG)(σ:L2.St)(H:Hp):Prop where
 | mk (ρ:Rg) (l:LI) (h:HI) (r:Rs) (S:Vo K ρ h H) (L:Ys K H ρ l σ) (e:f l h=ε r) (k:eL K ρ H D r)
theorem Out.ext{K:Oi}{ρ a:Rg}{H g:Hp}{d:Dt}{h':HI}{Q:VK}(k:Out K ρ H d h' Q)(x:sx ρ a H g):Out K a g d h' Q:=fun b v h r s e=>k b v h r s (x.trans e)
theorem dn.ext{K:Oi}{ρ a:Rg}{H d:Hp}{h':HI}{Q:Hp->Prop}(k:dn K ρ H h' Q)(x:sx ρ a H d):dn K a d h' Q:=fun b g s e=>k b g s (x.trans e)
theorem eL.ext{K:Oi}{ρ g:Rg}{H j:Hp}{D:ZG}{r:Rs}(k:eL K ρ H D r)(x:sx ρ g H j):eL K g j D r:=by
 cases r with
 | nx l h=>exact fun b a i s l e=>k b a i s l (x.trans e)
 | bk l h=>exact fun b a i s l e=>k b a i s l (x.trans e)
 | ct l h=>exact fun b a i s l e=>k b a i s l (x.trans e)
 | rt d h=>exact Out.ext k x
@[irreducible] def EM(X:Cx)(e:Oe)(f:RE):Prop:=PE X e (tM X.K f)
@[irreducible] def TM(X:Cx)(e:Oe)(f:RT):Prop:=PT X e (oN X.K f)
@[irreducible] def WM(X:Cx)(e:Oe)(f:RT):Prop:=PW X e (oN X.K f)
@[irreducible] def AM(X:Cx)(a:Ms Oe)(f:RA):Prop:=PA X a (tMA X.K f)
@[irreducible] def OM(X:Cx)(f:Mu->Mu->Sem Mu)(op:qD):Prop:=tv X f (rM X.K op)
@[irreducible] def ZM(X:Cx)(st:Ou)(f:RS):Prop:=PS X st (sM X.K f)
@[irreducible] def RH(X:Cx)(st:Ms Ou)(f:RS):Prop:=PSs X st (sM X.K f)
theorem PE.imp{X:Cx}{e:Oe}{t t':TE}(h:PE X e t)(i:∀a H Q,t' a H Q->t a H Q):PE X e t':=fun b s a H Q I q=>h b s a H Q I (i a H Q q)
theorem PT.imp{X:Cx}{e:Oe}{t t':TT}(h:PT X e t)(i:∀a H Q,t' a H Q->t a H Q):PT X e t':=fun b s a H Q I q=>h b s a H Q I (i a H Q q)
theorem PW.imp{X:Cx}{e:Oe}{t t':TT}(h:PW X e t)(i:∀a H Q,t' a H Q->t a H Q):PW X e t':=fun d b s a H Q I q=>h d b s a H Q I (i a H Q q)
theorem PA.imp{X:Cx}{e:Ms Oe}{t t':TA}(h:PA X e t)(i:∀a H Q,t' a H Q->t a H Q):PA X e t':=fun pos b s a H Q I q=>h pos b s a H Q I (i a H Q q)
theorem PS.imp{X:Cx}{e:Ou}{t t':TS}(h:PS X e t)(i:∀D a H,t' D a H->t D a H):PS X e t':=fun b s a H D I q=>h b s a H D I (i D a H q)
theorem PSs.imp{X:Cx}{e:Ms Ou}{t t':TS}(h:PSs X e t)(i:∀D a H,t' D a H->t D a H):PSs X e t':=fun b s a H D I q=>h b s a H D I (i D a H q)
theorem tv.imp{X:Cx}{f:Mu->Mu->Sem Mu}{t t':R2}(h:tv X f t)(i:∀x y H Q,t' x y H Q->t x y H Q):tv X f t':=fun a s b H x y v u Q I e d q=>h a s b H x y v u Q I e d (i x y H Q q)
noncomputable def eC(d:Dt):RE:=fun _ h=>ε (d,h)
abbrev ua(i:Int):=eC (.int i)
noncomputable def eV(i:Nat):RE:=fun l h=>match l[i]? with | some (some d)=>ε (d,h) | _=>none
noncomputable def e2(op:qD)(fa fb:RE):RE:=fun l h=>(fa l h).bind fun r=>(fb l r.2).bind fun q=>op r.1 q.1 q.2
noncomputable def fA:RA:=fun _ h=>ε ([],h)
noncomputable def bA(f:RE)(g:RA):RA:=fun l h=>(f l h).bind fun r=>(g l r.2).bind fun q=>ε (r.1::q.1,q.2)
section
variable{X:Cx}{a b c:Oe}{fa fb s:RE}{pos:Pos}
theorem cA{i j pos}:EM X (.Constant (.int i) j pos) (eC (.int i)):=by unhygienic exact PE.imp R9 fun n H Q m=>by obtain⟨g,l,h,d,o,S,L,e,k⟩:=m;cases e;exact k g _ H (Xa.mpr rfl) S (sx.refl _ _)
theorem zD{i j pos}:EM X (.Constant (.bool i) j pos) (eC (.bl i)):=by unhygienic exact PE.imp Yq fun n H Q m=>by obtain⟨g,l,h,d,o,S,L,e,k⟩:=m;cases e;exact k g _ H (Zi.mpr rfl) S (sx.refl _ _)
theorem jC{i j pos}:EM X (.Constant (.str i) j pos) (eC (.str i)):=by unhygienic exact PE.imp W9 fun n H Q m=>by obtain⟨g,l,h,d,o,S,L,e,k⟩:=m;cases e;exact k g _ H (br.mpr rfl) S (sx.refl _ _)
theorem vD{j pos}:EM X (.Constant .none j pos) (eC .non):=by unhygienic exact PE.imp S9 fun m H Q i=>by obtain⟨g,l,h,d,n,S,L,e,k⟩:=i;cases e;exact k g _ H (bo.mpr rfl) S (sx.refl _ _)
set_option tactic.hygienic true in
theorem aA (i:Nat) {x:Str} {pos:Pos} (o:autoParam (X.N[i]?=ε x) Æ) (n:Z4 X.env.scope x:=by first | exact Or.inl rfl | exact Or.inr (Or.inl rfl) | exact Or.inr (Or.inr rfl)) (hd:autoParam ((x==("__debug__" :Str))=false) Ñ)
 (g:autoParam ((x==("__classdict__" :Str))=false) Ñ):EM X (.Name x pos) (eV i):=by
 unhygienic
  exact PE.imp (X9 o n hd g) fun u H Q m=>by
   obtain⟨j,l,h,d,y,S,L,e,k⟩:=m;unfold eV at e;split at e
   . rename_i B q;cases e;obtain⟨v,p,r⟩:=L.val i _ q;exact⟨v,p,k j v H r S (sx.refl _ _)⟩
   . cases e
theorem ka {x:Str} {v:V} {u:Mu} {d:Dt} {pos:Pos} (n:Gl X x) (m:X.mg x=ε u) (r:td v u) (j:∀H g,Te X.K H g d v) (hd:autoParam ((x==("__debug__" :Str))=false) Ñ):EM X (.Name x pos) (eC d):=by unhygienic exact PE.imp (hY n m r hd) fun o H Q i=>by obtain⟨g,l,h,q,p,S,L,e,k⟩:=i;cases e;exact k g v H (j H g) S (sx.refl _ _)
theorem qA{e d:Type}{o:Ni e}{f:e->Ni d}{b:d}(h:o.bind f=ε b):∃a,o=ε a/\f a=ε b:=by
 cases o with
 | none=>cases h
 | some a=>exact⟨a,rfl,h⟩
theorem iA{op:Operator}{o:qD}(C:OM X (binaryOp op) o)(E:EM X a fa)(D:EM X b fb):EM X (.BinOp a op b pos) (e2 o fa fb):=by
 unhygienic
  exact PE.imp (lU C E D) fun P H Q B=>by
   obtain⟨u,l,h,d,F,S,L,e,k⟩:=B;obtain⟨⟨p,m⟩,I,e⟩:=qA e;obtain⟨⟨n,j⟩,e2,e⟩:=qA e;exact⟨u,l,h,p,m,S,L,I,fun i x T O M r=>⟨i,l,m,n,j,M,L.ext r,e2,fun g y R R2 J q=>
    ⟨g,j,p,n,d,F,J,Te.ext q _ O,R2,e,k.ext (r.trans q)⟩⟩⟩
theorem eE{op:CmpOp}{o:qD}(C:OM X (compareOp op) o)(F:EM X a fa)(E:EM X b fb)(D:behindInMarks op b=false:=by first | exact L1 _ | unhygienic rfl):EM X (.Compare a [op] [b] pos) (e2 o fa fb):=by
 unhygienic
  exact PE.imp (ik C F E D) fun R H Q B=>by
   obtain⟨u,l,h,d,I,S,L,e,k⟩:=B;obtain⟨⟨p,m⟩,J,e⟩:=qA e;obtain⟨⟨n,j⟩,e2,e⟩:=qA e;exact⟨u,l,h,p,m,S,L,J,fun i x U P O r=>⟨i,l,m,n,j,O,L.ext r,e2,fun g y T R2 M q=>
    ⟨g,j,p,n,d,I,M,Te.ext q _ P,R2,e,k.ext (r.trans q)⟩⟩⟩
noncomputable def tf(f:RE):RT:=fun l h=>(f l h).bind fun r=>match r.1 with | .bl b=>ε (b,r.2) | _=>none
theorem HA{op:CmpOp}{o:qD}(F:OM X (compareOp op) o)(M:EM X a fa)(J:EM X b fb)(I:behindInMarks op b=false:=by first | exact L1 _ | unhygienic rfl):TM X (.Compare a [op] [b] pos) (tf (e2 o fa fb)):=by
 unhygienic
  exact PT.imp (im F M J I) fun σ H Q E=>by
   obtain⟨D,l,h,R,h',S,L,e,k⟩:=E;obtain⟨⟨d,O⟩,g,e⟩:=qA e;obtain⟨⟨u,p⟩,P,g⟩:=qA g;obtain⟨⟨r,n⟩,e2,g⟩:=qA g;refine⟨D,l,h,u,p,S,L,P,fun m x H1 Z W C=>⟨m,l,p,r,n,W,L.ext C,e2,fun j y H2 R2 U B=>
    ⟨j,n,u,r,d,O,U,Te.ext B _ Z,R2,g,fun i v H3 Y T E3=>?_⟩⟩⟩
   cases d with
   | bl q=>cases e;exact⟨R,Zi.mp Y,k i H3 T (C.trans (B.trans E3))⟩
   | _=>cases e
theorem pD{e:Oe}{f:RE}(h:EM X e f)(he:autoParam (∀g,isTrue e X.env g=(do let v <- g;standAt e.pos;holding [v] (truthy v))) å):TM X e (tf f):=by
 unhygienic
  exact PT.imp (n9 h he) fun B H Q m=>by
   obtain⟨j,l,h,p,C,S,L,e,k⟩:=m;obtain⟨⟨d,n⟩,o,e⟩:=qA e;refine⟨j,l,h,d,n,S,L,o,fun i v x u r y=>?_⟩;cases d with
   | bl q=>cases e;exact⟨p,Zi.mp u,k i x r y⟩
   | _=>cases e
noncomputable def EH(o d:qD)(fa fb s:RE):RE:=fun l h=>(fa l h).bind fun r=>(fb l r.2).bind fun q=>(o r.1 q.1 q.2).bind fun z=>match z.1 with
 | .bl true=>(s l z.2).bind fun y=>d q.1 y.1 y.2
 | .bl false=>ε (.bl false,z.2)
 | _=>none
theorem WW{r D:qD}{C:L2.St}{H:Hp}{Q:VK}(h:tM X.K (EH r D fa fb s) C H Q):XT (rM X.K r) (rM X.K D) (tM X.K fa) (tM X.K fb) (tM X.K s) C H Q:=by
 obtain⟨U,l,h,d,W,S,L,e,k⟩:=h;obtain⟨⟨P,J⟩,e1,e⟩:=qA e;obtain⟨⟨B,I⟩,e2,e⟩:=qA e;obtain⟨⟨O,F⟩,Z,e⟩:=qA e;refine⟨U,l,h,P,J,S,L,e1,fun p x H1 R1 S1 m=>⟨p,l,J,B,I,S1,L.ext m,e2,fun o y H2 R2 S2 j=>
  ⟨o,I,P,B,O,F,S2,Te.ext j _ R1,R2,Z,fun g v H3 R3 R i=>?_⟩⟩⟩
 cases O with
 | bl q=>
  refine⟨q,Zi.mp R3,?_⟩;cases q with
  | true=>dsimp only at e;obtain⟨⟨M,E⟩,Y,e⟩:=qA e;refine fH ⟨g,l,F,M,E,R,(L.ext (m.trans (j.trans i))),Y,fun n u H4 R4 S4 T=>⟨n,E,B,M,d,W,S4,Te.ext (i.trans T) _ R2,R4,e,k.ext (m.trans (j.trans (i.trans T)))⟩⟩
  | false=>cases e;exact dH (k g _ H3 (Zi.mpr rfl) R (m.trans (j.trans i)))
 | _=>cases e
theorem Bc{op d:CmpOp}{r g:qD}(i:OM X (compareOp op) r)(e:OM X (compareOp d) g)(n:EM X a fa)(m:EM X b fb)(k:EM X c s)
 (j:lastMarks [op,d] [b,c]=false:=by unhygienic rfl):EM X (.Compare a [op,d] [b,c] pos) (EH r g fa fb s):=by
 unhygienic exact PE.imp (Vm i e n m k j) fun q q q h=>WW h
theorem lZ{op g:CmpOp}{r m:qD}(p:OM X (compareOp op) r)(j:OM X (compareOp g) m)(B:EM X a fa)(y:EM X b fb)(x:EM X c s)
 (u:lastMarks [op,g] [b,c]=false:=by unhygienic rfl):TM X (.Compare a [op,g] [b,c] pos) (tf (EH r m fa fb s)):=by
 unhygienic
  exact PT.imp (Jl p j B y x u) fun O H Q o=>by
   obtain⟨n,l,h,E,P,S,L,e,k⟩:=o;obtain⟨⟨d,C⟩,D,e⟩:=qA e;refine WW ⟨n,l,h,d,C,S,L,D,fun i v J I F M=>?_⟩;cases d with
   | bl q=>cases e;exact⟨E,Zi.mp I,k i J F M⟩
   | _=>cases e
noncomputable def zF(t u:RT):RT:=fun l h=>(t l h).bind fun r=>if r.1=true then u l r.2 else ε (false,r.2)
noncomputable def HC(t u:RT):RT:=fun l h=>(t l h).bind fun r=>if r.1=true then ε (true,r.2)else u l r.2
noncomputable def aD(t:RT):RT:=fun l h=>(t l h).bind fun r=>ε (!r.1,r.2)
variable{m n:RT}{rest:Ms Oe}
theorem WM.tm{e:Oe}{f:RT}(h:WM X e f):TM X e f:=by unhygienic exact PW.pt h
theorem bK(d:TM X a m):WM X (.BoolOp .And [a] pos) m:=by unhygienic exact ia d
theorem jF(d:TM X a m):WM X (.BoolOp .Or [a] pos) m:=by unhygienic exact p9 d
theorem DH(u:TM X a m)(r:WM X (.BoolOp .And (b::rest) pos) n):WM X (.BoolOp .And (a::b::rest) pos) (zF m n):=by
 unhygienic
  exact PW.imp (o9 u r) fun D H Q q=>by
   obtain⟨p,l,h,B,x,S,L,e,k⟩:=q;obtain⟨⟨j,i⟩,y,e⟩:=qA e;refine⟨p,l,h,j,i,S,L,y,fun d C o g=>?_⟩;cases j with
   | true=>rw[eG rfl]at e;exact fH ⟨d,l,i,B,x,o,L.ext g,e,k.ext g⟩
   | false=>rw[eH Wk]at e;cases e;exact dH (k d C o g)
theorem jD(u:TM X a m)(r:WM X (.BoolOp .Or (b::rest) pos) n):WM X (.BoolOp .Or (a::b::rest) pos) (HC m n):=by
 unhygienic
  exact PW.imp (Wj u r) fun D H Q q=>by
   obtain⟨p,l,h,B,x,S,L,e,k⟩:=q;obtain⟨⟨j,i⟩,y,e⟩:=qA e;refine⟨p,l,h,j,i,S,L,y,fun d C o g=>?_⟩;cases j with
   | true=>rw[eG rfl]at e;cases e;exact fH (k d C o g)
   | false=>rw[eH Wk]at e;exact dH ⟨d,l,i,B,x,o,L.ext g,e,k.ext g⟩
theorem QD(j:TM X a m):TM X (.UnaryOp .Not a pos) (aD m):=by unhygienic exact PT.imp (mj j) fun y H Q i=>by obtain⟨g,l,h,C,B,S,L,e,k⟩:=i;obtain⟨⟨q,o⟩,p,e⟩:=qA e;cases e;exact⟨g,l,h,q,o,S,L,p,fun d u r x=>k d u r x⟩
noncomputable def BG(t u:RE):RE:=fun l h=>(t l h).bind fun r=>match r.1 with | .bl true=>u l r.2 | .bl false=>ε (.bl false,r.2) | _=>none
noncomputable def qN(t:RE):RE:=fun l h=>(t l h).bind fun r=>match r.1 with | .bl b=>ε (.bl (!b),r.2) | _=>none
theorem iK{op}(h:EM X a fa):EM X (.BoolOp op [a] pos) fa:=by unhygienic exact V9 h
theorem gK(y:EM X a fa)(x:EM X (.BoolOp .And (b::rest) pos) fb):EM X (.BoolOp .And (a::b::rest) pos) (BG fa fb):=by
 unhygienic
  exact PE.imp (O9 y x) fun F H Q u=>by
   obtain⟨r,l,h,d,B,S,L,e,k⟩:=u;obtain⟨⟨o,j⟩,C,e⟩:=qA e;refine⟨r,l,h,o,j,S,L,C,fun g v E D p i=>?_⟩;cases o with
   | bl q=>
    refine⟨q,Zi.mp D,?_⟩;cases q with
    | true=>exact fH ⟨g,l,j,d,B,p,L.ext i,e,k.ext i⟩
    | false=>cases e;exact dH (k g _ E (Zi.mpr rfl) p i)
   | _=>cases e
theorem L7(p:EM X a fa):EM X (.UnaryOp .Not a pos) (qN fa):=by
 unhygienic
  exact PE.imp (T9 p) fun D H Q o=>by
   obtain⟨j,l,h,d,E,S,L,e,k⟩:=o;obtain⟨⟨i,r⟩,u,e⟩:=qA e;refine⟨j,l,h,i,r,S,L,u,fun g v B y x C=>?_⟩;cases i with
   | bl q=>cases e;exact⟨q,Zi.mp y,k g _ B (Zi.mpr rfl) x C⟩
   | _=>cases e
noncomputable def IU(t:RT)(f g:RE):RE:=fun l h=>(t l h).bind fun r=>if r.1=true then f l r.2 else g l r.2
theorem wU{c:Oe}(x:TM X c m)(B:EM X a fa)(y:EM X b fb):EM X (.IfExp c a b pos) (IU m fa fb):=by
 unhygienic
  exact PE.imp (Ym x B y) fun D H Q u=>by
   obtain⟨r,l,h,d,o,S,L,e,k⟩:=u;obtain⟨⟨p,j⟩,C,e⟩:=qA e;refine⟨r,l,h,p,j,S,L,C,fun g E q i=>?_⟩;cases p with
   | true=>rw[eG rfl]at e;exact fH ⟨g,l,j,d,o,q,L.ext i,e,k.ext i⟩
   | false=>rw[eH Wk]at e;exact dH ⟨g,l,j,d,o,q,L.ext i,e,k.ext i⟩
theorem iF:AM X [] fA:=by unhygienic exact PA.imp bD fun i H Q g=>by obtain⟨d,l,h,ds,j,S,L,e,k⟩:=g;cases e;exact k d [] H .nil S (sx.refl _ _)
theorem vF{e:Oe}{j:Ms Oe}{f:RE}{g:RA}(C:EM X e f)(B:AM X j g)(hs:autoParam (fB e=true) Æ):AM X (e::j) (bA f g):=by unhygienic exact PA.imp (wC C B (kB hs j X.env)) fun P H Q y=>by obtain⟨u,l,h,ds,T,S,L,e,k⟩:=y;obtain⟨⟨F,p⟩,E,e⟩:=qA e;obtain⟨⟨o,D⟩,e2,e⟩:=qA e;cases e;exact⟨u,l,h,F,p,S,L,E,fun i x U M J r=>⟨i,l,p,o,D,J,L.ext r,e2,fun d R O R2 I q=>k d _ O (.cons (Te.ext q _ M) R2) I (r.trans q)⟩⟩
noncomputable def aB(g:RA):RE:=fun l h=>(g l h).bind fun r=>if r.1.length<=sizeLine then ε (.tup r.1,r.2)else none
noncomputable def dG(g:RA):RE:=fun l h=>(g l h).bind fun r=>if r.1.length<=sizeLine then ε (.lst r.1,r.2)else none
noncomputable def DE(g:RA):RE:=fun l h=>(g l h).bind fun r=>if r.1.length<=sizeLine then ε (.ref r.2.length,r.2++[.lst r.1])else none
theorem zI{K:Oi}{H:Hp}{ρ:Rg}{h:HI}{ds:Ms Dt}{vs:Ms V}{p:Oa}(S:Vo K ρ h H)(R:Ro K H ρ ds vs)(hp:H p=none):Te K (IB H p (.tup vs)) ρ (.tup ds) (.ref p):=
 ag.mpr ⟨p,vs,rfl,.inl ⟨S.out hp,.inl IC⟩,R.ext (sx.fresh hp)⟩
theorem UP{K:Oi}{H:Hp}{ρ:Rg}{h:HI}{ds:Ms Dt}{vs:Ms V}{p:Oa}(S:Vo K ρ h H)(R:Ro K H ρ ds vs)(hp:H p=none):Te K (IB H p (.lst vs)) ρ (.lst ds) (.ref p):=
 bm.mpr ⟨p,vs,rfl,.inl ⟨S.out hp,.inl IC⟩,R.ext (sx.fresh hp)⟩
theorem xH{K:Oi}{H:Hp}{ρ:Rg}{h:HI}{ds:Ms Dt}{vs:Ms V}{p:Oa}(S:Vo K ρ h H)(R:Ro K H ρ ds vs)(hp:H p=none) :
 Te K (IB H p (.lst vs)) (ρ.add p) (.ref h.length) (.ref p)/\Vo K (ρ.add p) (h++[.lst ds]) (IB H p (.lst vs)):=by
 refine⟨af.mpr ⟨p,rfl,?_⟩,S.own hp ⟨vs,IC,R.ext (sx.own hp)⟩⟩;simp![Rg.add];rw[<- S.len,ab (Uo _),Ds];rfl
theorem GF{e:Type}{c:Prop}[Decidable c]{a b:e}(h:(if c then ε a else none)=ε b):c/\a=b:=by
 by_cases d:c
 . rw[eG d]at h;exact⟨d,tu h⟩
 . rw[eH d]at h;cases h
theorem oB{j:Ms Oe}{g:RA}{x1}(h:AM X j g):EM X (.Tuple j x1 pos) (aB g):=by unhygienic exact PE.imp (X1 h) fun D H Q u=>by obtain⟨r,l,h,d,F,S,L,e,k⟩:=u;obtain⟨⟨ds,y⟩,B,e⟩:=qA e;obtain⟨x,e⟩:=GF e;cases e;exact⟨r,l,h,ds,y,S,L,B,fun i E I q o C=>⟨by rw[q.length];exact x,fun p hp=>k i _ _ (zI o q hp) (o.fresh hp) (C.trans (sx.fresh hp))⟩⟩
theorem GH{j:Ms Oe}{g:RA}(h:AM X j g):EM X (.List j pos) (dG g):=by unhygienic exact PE.imp (VP h) fun D H Q u=>by obtain⟨r,l,h,d,F,S,L,e,k⟩:=u;obtain⟨⟨ds,y⟩,B,e⟩:=qA e;obtain⟨x,e⟩:=GF e;cases e;exact⟨r,l,h,ds,y,S,L,B,fun i E I q o C=>⟨by rw[q.length];exact x,fun p hp=>k i _ _ (UP o q hp) (o.fresh hp) (C.trans (sx.fresh hp))⟩⟩
theorem NF{j:Ms Oe}{g:RA}(h:AM X j g):EM X (.List j pos) (DE g):=by unhygienic exact PE.imp (VP h) fun D H Q u=>by obtain⟨r,l,h,d,F,S,L,e,k⟩:=u;obtain⟨⟨ds,y⟩,B,e⟩:=qA e;obtain⟨x,e⟩:=GF e;cases e;exact⟨r,l,h,ds,y,S,L,B,fun q E I i o C=>⟨by rw[i.length];exact x,fun p hp=>k _ _ _ (xH o i hp).1 (xH o i hp).2 (C.trans (sx.own hp))⟩⟩
end
noncomputable def oI(C:Int->Int->Prop)[∀i j,Decidable (C i j)](g:Int->Int->Dt):qD:=fun a b h=>match a,b with
 | .int i,.int j=>if C i j then ε (g i j,h)else none
 | _,_=>none
noncomputable def MK(g:Int->Int->Dt):qD:=fun a b h=>match a,b with
 | .int i,.int j=>ε (g i j,h)
 | _,_=>none
instance:∀i j,Decidable (zK i j):=fun i j=>by unfold zK;infer_instance
instance:∀i j,Decidable (cb i j):=fun i j=>by unfold cb;infer_instance
instance:∀i j,Decidable (YI i j):=fun i j=>by unfold YI;infer_instance
noncomputable def DD:Dt->Ni V
 | .non=>ε .non
 | .bl b=>ε (.bl b)
 | .int i=>ε (.int i)
 | .str x=>ε (.str x)
 | _=>none
theorem QY{K:Oi}{H:Hp}{ρ:Rg}{d:Dt}{v:V}(e:DD d=ε v):Te K H ρ d v:=by cases d<;>simp![DD]at e<;>first | (cases e;simp![Te]) | cases e
theorem OJ{K:Oi}{H:Hp}{ρ:Rg}{d:Dt}{v u:V}(e:DD d=ε v)(r:Te K H ρ d u):u=v:=by cases d<;>simp![DD]at e<;>first | (cases e;simpa only[Te]using r) | cases e
section
variable{X:Cx}
set_option tactic.hygienic true in
theorem OK{f:Mu->Mu->Sem Mu}{C:Int->Int->Prop}[∀i j,Decidable (C i j)]{g:Int->Int->Dt}{g':Int->Int->V}(m:tv X f (rI C g'))(n:∀i j,DD (g i j)=ε (g' i j)):OM X f (oI C g):=by
 unhygienic
  exact tv.imp m fun x y H Q b=>by
   obtain⟨a,h,s,r,d,q,S,p,R2,e,k⟩:=b;unfold oI at e;split at e
   . rename_i i j;obtain⟨o,e⟩:=GF e;cases e;exact⟨i,j,Xa.mp p,Xa.mp R2,o,k a _ H (QY (n i j)) S (sx.refl _ _)⟩
   . cases e
set_option tactic.hygienic true in
theorem KH{f:Mu->Mu->Sem Mu}{g:Int->Int->Dt}{g':Int->Int->V}(m:tv X f (RK g'))(n:∀i j,DD (g i j)=ε (g' i j)):OM X f (MK g):=by
 unhygienic
  exact tv.imp m fun x y H Q b=>by
   obtain⟨a,h,r,q,d,p,S,o,R2,e,k⟩:=b;unfold MK at e;split at e
   . rename_i i j;cases e;exact⟨i,j,Xa.mp o,Xa.mp R2,k a _ H (QY (n i j)) S (sx.refl _ _)⟩
   . cases e
def iB:qD:=MK fun i j=>.int (i+j)
def GC:qD:=MK fun i j=>.int (i-j)
def ZA:qD:=oI cb fun i j=>.int (i*j)
def cD:qD:=oI zK fun i j=>.int (i/j)
def cC:qD:=oI (fun _ j=>0<j) fun i j=>.int (i%j)
def UF:qD:=oI YI fun i j=>.int (i*2^j.toNat)
def gG:qD:=oI (fun _ j=>0<=j) fun i j=>.int (i/2^j.toNat)
def xE:qD:=MK fun i j=>.int (Builtin.bitAnd i j)
def WH:qD:=MK fun i j=>.int (Builtin.bitOr i j)
def YH:qD:=MK fun i j=>.bl (decide (i<j))
def NK:qD:=MK fun i j=>.bl (decide (i<=j))
def PM:qD:=MK fun i j=>.bl (decide (j<i))
def GU:qD:=MK fun i j=>.bl (decide (j<=i))
theorem KB:OM X (binaryOp .Add) iB:=by unhygienic exact KH D9 fun q q=>rfl
theorem mD:OM X (binaryOp .Sub) GC:=by unhygienic exact KH M9 fun q q=>rfl
theorem OB:OM X (binaryOp .Mult) ZA:=by unhygienic exact OK J9 fun q q=>rfl
theorem tE:OM X (binaryOp .FloorDiv) cD:=by unhygienic exact OK ij fun q q=>rfl
theorem EC:OM X (binaryOp .Mod) cC:=by unhygienic exact OK G9 fun q q=>rfl
theorem zH:OM X (binaryOp .LShift) UF:=by unhygienic exact OK K9 fun q q=>rfl
theorem AI:OM X (binaryOp .RShift) gG:=by unhygienic exact OK L9 fun q q=>rfl
theorem gF:OM X (binaryOp .BitAnd) xE:=by unhygienic exact KH E9 fun q q=>rfl
theorem qM:OM X (binaryOp .BitOr) WH:=by unhygienic exact KH Xq fun q q=>rfl
theorem ZF:OM X (compareOp .Lt) YH:=by unhygienic exact KH Vq fun q q=>rfl
theorem UG:OM X (compareOp .LtE) NK:=by unhygienic exact KH Uq fun q q=>rfl
theorem qK:OM X (compareOp .Gt) PM:=by unhygienic exact KH Tq fun q q=>rfl
theorem iU:OM X (compareOp .GtE) GU:=by unhygienic exact KH Sq fun q q=>rfl
def B5:qD:=fun a b h=>match DD a,DD b with
 | some x,some y=>if mN x y=true then ε (.bl (decide (x=y)),h)else none
 | _,_=>none
def C5:qD:=fun a b h=>match DD a,DD b with
 | some x,some y=>if mN x y=true then ε (.bl (!decide (x=y)),h)else none
 | _,_=>none
set_option tactic.hygienic true in
theorem M4:OM X (compareOp .Eq) B5:=by
 unhygienic
  exact tv.imp Rq fun x y H Q b=>by
   obtain⟨a,h,o,n,d,m,S,j,R2,e,k⟩:=b;unfold B5 at e;split at e
   . rename_i u v i e2;obtain⟨g,e⟩:=GF e;cases e;rw[OJ i j,OJ e2 R2];exact⟨g,k a _ H (Zi.mpr rfl) S (sx.refl _ _)⟩
   . cases e
set_option tactic.hygienic true in
theorem N4:OM X (compareOp .NotEq) C5:=by
 unhygienic
  exact tv.imp Wq fun x y H Q b=>by
   obtain⟨a,h,o,n,d,m,S,j,R2,e,k⟩:=b;unfold C5 at e;split at e
   . rename_i u v i e2;obtain⟨g,e⟩:=GF e;cases e;rw[OJ i j,OJ e2 R2];exact⟨g,k a _ H (Zi.mpr rfl) S (sx.refl _ _)⟩
   . cases e
noncomputable def yF:Dt->Bool
 | .non=>true
 | _=>false
def qF:qD:=fun a b h=>match b with
 | .non=>ε (.bl (yF a),h)
 | _=>none
theorem bf{K:Oi}{H:Hp}{ρ:Rg}{d:Dt}{v:V}(r:Te K H ρ d v):decide (v=.non)=yF d:=by
 cases d with
 | non=>have e:=bo.mp r;subst e;rfl
 | bl b=>have e:=Zi.mp r;subst e;rfl
 | int i=>have e:=Xa.mp r;subst e;rfl
 | str x=>have e:=br.mp r;subst e;rfl
 | tup g=>obtain⟨a,h,e,_⟩:=ag.mp r;subst e;rfl
 | lst g=>obtain⟨a,h,e,_⟩:=bm.mp r;subst e;rfl
 | ref n=>obtain⟨a,e,_⟩:=af.mp r;subst e;rfl
 | ntp n=>obtain⟨a,e,_⟩:=eI.mp r;subst e;rfl
theorem MG:OM X (compareOp .Is) qF:=by
 unhygienic
  exact tv.imp F9 fun x y H Q b=>by
   obtain⟨a,h,m,j,d,i,S,g,R2,e,k⟩:=b;unfold qF at e;split at e
   . cases e;exact⟨bo.mp R2,k a _ H (Zi.mpr (by rw[bf g])) S (sx.refl _ _)⟩
   . cases e
noncomputable def JC(f:RE):RE:=fun l h=>(f l h).bind fun r=>match r.1 with | .int i=>ε (.int (-i),r.2) | _=>none
theorem sE{a:Oe}{fa:RE}{pos:Pos}(n:EM X a fa):EM X (.UnaryOp .USub a pos) (JC fa):=by
 unhygienic
  exact PE.imp (P4 Px n) fun y H Q m=>by
   obtain⟨j,l,h,d,B,S,L,e,k⟩:=m;obtain⟨⟨g,o⟩,p,e⟩:=qA e;refine⟨j,l,h,g,o,S,L,p,fun b x s r q u=>?_⟩;cases g with
   | int i=>cases e;exact⟨i,Xa.mp r,k b _ s (Xa.mpr rfl) q u⟩
   | _=>cases e
end
noncomputable def KA(h:HI):Dt->Ni (Ms Dt)
 | .lst a=>ε a
 | .ref n=>match h[n]? with | some (.lst a)=>ε a | _=>none
 | _=>none
def FD(h:HI):Dt->Ni (Ms Dt)
 | .tup a=>ε a
 | d=>KA h d
set_option tactic.hygienic true in
theorem SC{K:Oi}{H:Hp}{ρ:Rg}{h:HI}{d:Dt}{v:V}{xs:Ms Dt}(S:Vo K ρ h H)(R:Te K H ρ d v)(e:KA h d=ε xs):∃a vs,v=.ref a/\to K H a vs/\Ro K H ρ xs vs:=by
 cases d with
 | lst b=>cases e;obtain⟨a,vs,e,q,r⟩:=bm.mp R;exact⟨a,vs,e,q.sq,r⟩
 | ref n=>
  simp![KA]at e;split at e
  . rename_i b q;cases e;obtain⟨a,rfl,g⟩:=af.mp R;obtain⟨vs,j,i⟩:=S.lst g q;exact⟨a,vs,rfl,to.of j,i⟩
  . cases e
 | _=>simp![KA]at e<;>cases e
theorem xP{K:Oi}{H:Hp}{ρ:Rg}{h:HI}{d:Dt}{v:V}{xs:Ms Dt}(S:Vo K ρ h H)(R:Te K H ρ d v)(e:FD h d=ε xs):∃a vs,v=.ref a/\(to K H a vs\/tG K H a vs)/\Ro K H ρ xs vs:=by
 cases d with
 | tup b=>cases e;obtain⟨a,vs,e,q,r⟩:=ag.mp R;exact⟨a,vs,e,.inr q.sq,r⟩
 | lst b=>obtain⟨a,vs,e,q,r⟩:=SC S R (show KA h (.lst b)=ε xs from e);exact⟨a,vs,e,.inl q,r⟩
 | ref n=>obtain⟨a,vs,e,q,r⟩:=SC S R (show KA h (.ref n)=ε xs from e);exact⟨a,vs,e,.inl q,r⟩
 | _=>cases e
theorem Ro.atI{K:Oi}{H:Hp}{ρ:Rg}{ds:Ms Dt}{vs:Ms V}{i:Int}{d:Dt}(r:Ro K H ρ ds vs)(e:L2.atI ds i=ε d):∃v,L2.atI vs i=ε v/\Te K H ρ d v:=by
 unfold L2.atI at e ⊢;rw[r.length];cases q:VI ds.length i with
 | none=>rw[q]at e;cases e
 | some j=>rw[q]at e;exact r.get e
def pA:qD:=fun a b h=>match b with
 | .int i=>match a with
  | .str z=>if z.length<=sizeLine then(L2.atI z.cps.toList i).map fun c=>(.str ⟨#[c]⟩,h)else none
  | _=>(FD h a).bind fun e=>(L2.atI e i).map fun d=>(d,h)
 | _=>none
section
variable{X:Cx}{a b c:Oe}{fa fb fc:RE}{pos:Pos}
set_option tactic.hygienic true in
theorem ke{x y:V}{H:Hp}{Q:VK}(h:rM X.K pA x y H Q):rIx X.K x y H Q:=by
 obtain⟨g,h,E,D,d,C,S,n,R2,e,k⟩:=h;unfold pA at e;split at e
 . rename_i i;have j:=Xa.mp R2;split at e
   . rename_i z;split at e
     . rename_i s;cases q:L2.atI z.cps.toList i with
       | none=>rw[q]at e;cases e
       | some c=>rw[q]at e;cases e;exact .inr (.inr ⟨z,i,c,br.mp n,j,s,q,k g _ H (br.mpr rfl) S (sx.refl _ _)⟩)
     . cases e
   . obtain⟨o,B,e⟩:=qA e;cases q:L2.atI o i with
     | none=>rw[q]at e;cases e
     | some u=>
      rw[q]at e;cases e;obtain⟨p,m,e2,sq,r⟩:=xP S n B;obtain⟨v,q1,q2⟩:=r.atI q;rcases sq with sq | sq
      . exact .inl ⟨p,m,i,v,e2,j,sq,q1,k g _ H q2 S (sx.refl _ _)⟩
      . exact .inr (.inl ⟨p,m,i,v,e2,j,sq,q1,k g _ H q2 S (sx.refl _ _)⟩)
 . cases e
theorem eA(B:EM X a fa)(u:EM X b fb)(hs:YY b:=by intro _ _;rfl):EM X (.Subscript a b pos) (e2 pA fa fb):=by
 unhygienic
  exact PE.imp (Zq Aj B u hs) fun J H Q s=>by
   obtain⟨r,l,h,d,C,S,L,e,k⟩:=s;obtain⟨⟨o,m⟩,D,e⟩:=qA e;obtain⟨⟨n,j⟩,e2,e⟩:=qA e;exact⟨r,l,h,o,m,S,L,D,fun i x O I F q=>⟨i,l,m,n,j,F,L.ext q,e2,fun g y M R2 E p=>
    ke ⟨g,j,o,n,d,C,E,Te.ext p _ I,R2,e,k.ext (q.trans p)⟩⟩⟩
end
noncomputable def MA:RS:=fun l h=>ε (.nx l h)
noncomputable def gA(f g:RS):RS:=fun l h=>(f l h).bind fun r=>match r with | .nx a b=>g a b | r=>ε r
noncomputable def zA(i:Nat)(f:RE):RS:=fun l h=>(f l h).bind fun r=>ε (.nx (l.set i (ε r.1)) r.2)
noncomputable def VC(f:RE):RS:=fun l h=>(f l h).bind fun r=>ε (.nx l r.2)
noncomputable def uA(f:RE):RS:=fun l h=>(f l h).bind fun r=>ε (.rt r.1 r.2)
noncomputable def VB(t:RT)(f g:RS):RS:=fun l h=>(t l h).bind fun r=>if r.1=true then f l r.2 else g l r.2
section
variable{X:Cx}{st:Ou}{rest:Ms Ou}{e:Oe}{f:RE}{t u:RS}{c:RT}{pos:Pos}
theorem VA:RH X [] MA:=by unhygienic exact PSs.imp ib fun D a H d=>by obtain⟨b,l,h,r,S,L,e,k⟩:=d;cases e;exact k b a H S L (sx.refl _ _)
theorem jA(h1:ZM X st t)(h2:RH X rest u):RH X (st::rest) (gA t u):=by
 unhygienic
  exact PSs.imp (Il h1 h2) fun D x H n=>by
   obtain⟨m,l,h,r,S,L,e,k⟩:=n;obtain⟨i,o,e⟩:=qA e;refine⟨m,l,h,i,S,L,o,?_⟩;cases i with
   | nx g a=>exact fun b j y p q s=>⟨b,g,a,r,p,q,e,k.ext s⟩
   | rt d a=>cases e;exact k
   | bk g a=>cases e;exact k
   | ct g a=>cases e;exact k
theorem lA(h1:ZM X st t):RH X [st] t:=by unhygienic exact ic h1
theorem ID(he:EM X e f)(hs:autoParam (swapsWith e none pos.line X.env=pure false) Æ):ZM X (.Expr e pos) (VC f):=by unhygienic exact PS.imp (ie he hs) fun D d H i=>by obtain⟨g,l,h,r,S,L,e,k⟩:=i;obtain⟨⟨n,j⟩,m,e⟩:=qA e;cases e;exact⟨g,l,h,n,j,S,L,m,fun a v p q o b=>k a d p o (L.ext b) b⟩
theorem yA(he:EM X e f):ZM X (.Return (ε e) pos) (uA f):=by unhygienic exact PS.imp (gj he) fun D j H b=>by obtain⟨a,l,h,r,S,L,e,k⟩:=b;obtain⟨⟨i,d⟩,g,e⟩:=qA e;cases e;exact⟨a,l,h,i,d,S,L,g,k⟩
theorem YA{b:Oe}{j d:Ms Ou}(q:TM X b c)(x:RH X j t)(s:RH X d u):ZM X (.If b j d pos) (VB c t u):=by
 unhygienic
  exact PS.imp (Vj q x s) fun D B H p=>by
   obtain⟨o,l,h,r,S,L,e,k⟩:=p;obtain⟨⟨m,i⟩,y,e⟩:=qA e;refine⟨o,l,h,m,i,S,L,y,fun a C n g=>?_⟩;cases m with
   | true=>rw[eG rfl]at e;exact fH ⟨a,l,i,r,n,L.ext g,e,k.ext g⟩
   | false=>rw[eH Wk]at e;exact dH ⟨a,l,i,r,n,L.ext g,e,k.ext g⟩
theorem CA(i:Nat){x:Str}{a:Pos}(p:X.N.Nodup)(he:EM X e f)(n:autoParam (X.N[i]?=ε x) Æ)(m:autoParam (xK X.env.scope x) ö)
 (hs:autoParam (swapsWith e (ε (.Name x a)) pos.line X.env=pure false) Æ) (o:autoParam (X.fn x=true\/X.env.scope.names.lookup x=ε .local) Ø) :
 ZM X (.Assign [.Name x a] e pos) (zA i f):=by
 unhygienic exact PS.imp (kj p n m he hs o) fun D F H j=>by obtain⟨g,l,h,r,S,L,e,k⟩:=j;obtain⟨⟨y,q⟩,s,e⟩:=qA e;cases e;exact⟨g,l,h,y,q,S,L,s,fun b v E C B d=>k b _ E B ((L.ext d).set i C) d⟩
end
inductive th where
 | vals (xs:List Dt)
 | rf (n:Nat)
 | zp (a b:Dt)
 | it (n:Nat)
 | en (n:Nat)
def th.at(s:th)(h:HI)(i:Nat):Ni (Ni Dt):=match s with
 | .vals d=>ε d[i]?
 | .rf n=>match h[n]? with | some (.lst d)=>ε d[i]? | _=>none
 | .zp a b=>match KA h a,KA h b with
  | some d,some ys=>ε (match d[i]?,ys[i]? with | some x,some y=>ε (.tup [x,y]) | _,_=>none)
  | _,_=>none
 | .it n=>match h[n]? with | some (.df kvs)=>ε (kvs[i]?.map fun p=>.tup [.tup (p.1.map Dt.int),p.2]) | _=>none
 | .en n=>match h[n]? with | some (.lst d)=>ε (d[i]?.map fun x=>.tup [.int (i:Int),x]) | _=>none
def th.fuel(s:th)(h:HI):Nat:=match s with
 | .vals b=>b.length+1
 | .rf n=>match h[n]? with | some (.lst b)=>b.length+1 | _=>0
 | .zp a _=>match KA h a with | some b=>b.length+1 | _=>0
 | .it n=>match h[n]? with | some (.df kvs)=>kvs.length+1 | _=>0
 | .en n=>match h[n]? with | some (.lst b)=>b.length+1 | _=>0
abbrev RI:=LI->HI->Ni (th×HI)
def o4(K:Oi)(H:Hp)(ρ:Rg)(s:th)(J:It):Prop:=
 ∀b a g,ar ρ a H b->Vo K a g b->∀i:Nat,match s.at g i with
  | none=>True
  | some none=>J.stop i b
  | some (some d)=>J.go i b/\∀v e,J.yld i b v e->Te K e a d v/\sx a a b e/\Vo K a g e
inductive iM(K:Frag)(g:RI)(σ:L2.St)(H:Hp)(R:It->Hp->Prop):Prop where
 | mk (ρ:Rg) (l:LI) (h:HI) (s:th) (h':HI) (S:Vo K ρ h H) (L:Ys K H ρ l σ) (e:g l h=ε (s,h')) (k:∀ρ' J H',o4 K H' ρ' s J->Vo K ρ' h' H'->sx ρ ρ' H H'->R J H')
@[irreducible] def IM(X:Cx)(b a:Oe)(g:RI):Prop:=PI X b a (iM X.K g)
theorem PI.imp{X:Cx}{d e:Oe}{t t':TI}(h:PI X d e t)(i:∀a H Q,t' a H Q->t a H Q):PI X d e t':=fun b s a H Q I q=>h b s a H Q I (i a H Q q)
abbrev RG:=Dt->LI->Ni LI
inductive gM(K:Frag)(g:RG)(v:V)(σ:L2.St)(H:Hp)(Q:L2.St->Hp->Prop):Prop where
 | mk (ρ:Rg) (l:LI) (h:HI) (d:Dt) (l':LI) (S:Vo K ρ h H) (L:Ys K H ρ l σ) (r:Te K H ρ d v) (e:g d l=ε l') (k:∀σ',Ys K H ρ l' σ'->Q σ' H)
@[irreducible] def GM(X:Cx)(a:Oe)(g:RG):Prop:=PG X a (gM X.K g)
theorem PG.imp{X:Cx}{e:Oe}{t t':TG}(h:PG X e t)(i:∀v a H Q,t' v a H Q->t v a H Q):PG X e t':=fun b s a H v u Q I r q=>h b s a H v u Q I r (i v a H Q q)
noncomputable def rA(i:Nat):RG:=fun d l=>ε (l.set i (ε d))
def iC(bd:RG)(body:RS)(s:th):Nat->Nat->RS
 | 0,_,_,_=>none
 | k+1,i,l,h=>match s.at h i with
  | none=>none
  | some none=>ε (.nx l h)
  | some (some d)=>(bd d l).bind fun e=>(body e h).bind fun r=>match r with
   | .nx b a=>iC bd body s k (i+1) b a
   | .ct b a=>iC bd body s k (i+1) b a
   | .bk b a=>ε (.nx b a)
   | .rt d a=>ε (.rt d a)
def AB(g:RI)(bd:RG)(body:RS):RS:=fun l h=>(g l h).bind fun r=>iC bd body r.1 (r.1.fuel r.2) 0 l r.2
section
variable{X:Cx}{w t:Oe}{pos:Pos}
theorem NB(i:Nat){x:Str}{pos:Pos}(m:X.N.Nodup)(g:autoParam (X.N[i]?=ε x) Æ)(b:autoParam (xK X.env.scope x) ö)
 (j:autoParam (X.fn x=true\/X.env.scope.names.lookup x=ε .local) Ø):GM X (.Name x pos) (rA i):=by
 unhygienic exact PG.imp (XJ m g b j) fun v n H Q a=>by obtain⟨o,l,h,d,p,S,L,R,e,k⟩:=a;cases e;exact k _ (L.set i R)
noncomputable def kE(f:RE):RI:=fun l h=>(f l h).bind fun r=>match r.1 with | .int j=>if -(2^62)<=j/\j<2^62 then ε (.vals ((List.range j.toNat).map fun(k:Nat)=>Dt.int (k:Int)),r.2)else none | _=>none
noncomputable def FU(f g:RE):RI:=fun l h=>(f l h).bind fun r=>(g l r.2).bind fun q=>match r.1,q.1 with
 | .int i,.int j=>if -(2^62)<=i/\i<2^62/\-(2^62)<=j/\j<2^62 then ε (.vals ((List.range (j-i).toNat).map fun(k:Nat)=>Dt.int (i+(k:Int))),q.2)else none | _,_=>none
theorem AC {a:Oe} {f:RE} {p pos:Pos} (u:Gl X "range") (r:X.mg "range" =none) (x:EM X a f) (hs:autoParam (fB a=true) Æ) :
 IM X w (.Call (.Name "range" p) [a] [] pos) (kE f):=by
 unhygienic
  exact PI.imp (Xf u r (wC x bD (kB hs _ _)) (kB hs _ _)) fun O H R o=>by
   obtain⟨n,l,h,s,Q,S,L,e,k⟩:=o;obtain⟨⟨g,y⟩,B,e⟩:=qA e;refine⟨n,l,h,g,y,S,L,B,fun d v J I F M=>?_⟩;cases g with
   | int j=>
    obtain⟨⟨D,C⟩,e⟩:=GF e;cases e;refine⟨j,by rw[Xa.mp I],D,C,k d _ J (fun U m P W E i=>?_) F M⟩;simp![th.at,wu];by_cases b:i<j.toNat
    . rw[Ma b];refine⟨b,fun v T q=>?_⟩;obtain⟨rfl,rfl⟩:=q;exact⟨Xa.mpr ⋯,sx.refl _ _,E⟩
    . rw[ju (by simpa using Io.mp b)];exact Io.mp b
   | _=>cases e
theorem WR {a b:Oe} {f g:RE} {p pos:Pos} (J:Gl X "range") (I:X.mg "range" =none) (O:EM X a f) (M:EM X b g) (hs:autoParam (fB a=true) Æ) (d:autoParam (fB b=true) Æ) :
 IM X w (.Call (.Name "range" p) [a,b] [] pos) (FU f g):=by
 unhygienic
  exact PI.imp (Zf J I (wC O (wC M bD (kB d _ _)) (kB hs _ _)) (by rw[kB hs,kB d];rfl) (kB d _ _)) fun σ H R F=>by
   obtain⟨E,l,h,s,h',S,L,e,k⟩:=F;obtain⟨⟨B,x⟩,Q,e⟩:=qA e;obtain⟨⟨y,P⟩,e2,e⟩:=qA e;refine⟨E,l,h,B,x,S,L,Q,fun r v H1 Y W C=>⟨r,l,x,y,P,W,L.ext C,e2,fun o u Z R2 U E2=>?_⟩⟩;cases B with
   | int i=>
    cases y with
    | int j=>
     obtain⟨c,e⟩:=GF e;cases e;refine⟨i,j,by rw[Xa.mp Y,Xa.mp R2],c,k o _ Z (fun H3 D h3 E3 T n=>?_) U (C.trans E2)⟩;simp![th.at,wu];by_cases m:n<(j-i).toNat
     . rw[Ma m];refine⟨m,fun v H4 q=>?_⟩;obtain⟨rfl,rfl⟩:=q;exact⟨Xa.mpr rfl,sx.refl _ _,T⟩
     . rw[ju (by simpa using Io.mp m)];exact Io.mp m
    | _=>cases e
   | _=>cases e
noncomputable def QU(f:RE):RI:=fun l h=>(f l h).bind fun r=>match r.1 with | .lst a=>ε (.vals a,r.2) | .ref n=>ε (.rf n,r.2) | _=>none
def JB(f:RE):RI:=fun l h=>(QU f l h).bind fun r=>if 0<r.1.fuel r.2 then ε r else none
theorem dC{a:Oe}{f:RE}(x:EM X a f):IM X w a (JB f):=by
 unhygienic
  exact PI.imp (ii x) fun σ H R Z=>by
   obtain⟨Y,l,h,s,h',S,L,e,k⟩:=Z;obtain⟨⟨s1,h1⟩,e,I⟩:=qA e;obtain⟨E,I⟩:=GF I;cases I;obtain⟨⟨Q,F⟩,e1,e⟩:=qA e;refine⟨Y,l,h,Q,F,S,L,e1,fun j v U T J W=>?_⟩;cases Q with
   | lst O=>
    cases e;obtain⟨a,b,rfl,q,r⟩:=bm.mp T;refine⟨a,rfl,⟨b,q.sq⟩,k j _ U (fun H2 C F B p i=>?_) J W⟩;have q2:=q.same B;have r2:=Ro.same B _ r;simp![th.at];cases P:O[i]? with
    | none=>refine⟨b,q2.sq,?_⟩;rw[r.length];exact Eo.mp P
    | some d=>obtain⟨v,g,g2⟩:=r2.get P;refine⟨⟨b,v,q2.sq,g⟩,fun u H3 y=>?_⟩;obtain⟨rfl,y⟩:=y;have m:=y b q2.sq;rw[g]at m;cases m;exact⟨g2,sx.refl _ _,p⟩
   | ref n=>
    cases e;obtain⟨a,rfl,x⟩:=af.mp T;simp![th.fuel]at E;split at E
    . rename_i O q0;obtain⟨D,g0,_⟩:=J.lst x q0;refine⟨a,rfl,⟨D,to.of g0⟩,k j _ U (fun H2 C F B p i=>?_) J W⟩;have o:=B.ix _ _ x;simp![th.at];split
      . trivial
      . rename_i y;split at y
        . rename_i ys q2;obtain⟨b,g,r⟩:=p.lst o q2;refine⟨b,to.of g,?_⟩;rw[r.length];exact Eo.mp (tu y)
        . cases y
      . rename_i d y;split at y
        . rename_i ys q2;obtain⟨b,g,r⟩:=p.lst o q2;obtain⟨v,M,z2⟩:=r.get (tu y);refine⟨⟨b,v,to.of g,M⟩,fun u H3 y=>?_⟩;obtain⟨rfl,y⟩:=y;have m:=y b (to.of g);rw[M]at m;cases m;exact⟨z2,sx.refl _ _,p⟩
        . cases y
    . exact Ei E nofun
   | _=>cases e
noncomputable def mQ(f:RE):RI:=fun l h=>(f l h).bind fun r=>match r.1 with | .tup a=>ε (.vals a,r.2) | _=>none
theorem yj{a:Oe}{f:RE}(I:EM X a f):IM X w a (mQ f):=by
 unhygienic
  exact PI.imp (Z9 I) fun U H R D=>by
   obtain⟨C,l,h,s,W,S,L,e,k⟩:=D;obtain⟨⟨p,m⟩,J,e⟩:=qA e;refine⟨C,l,h,p,m,S,L,J,fun g v Q P O T=>?_⟩;cases p with
   | tup E=>
    cases e;obtain⟨a,b,rfl,q,r⟩:=ag.mp P;refine⟨a,rfl,⟨b,q.sq⟩,k g _ Q (fun Z B m x M i=>?_) O T⟩;have q2:=q.same x;have F:=Ro.same x _ r;simp![th.at];cases o:E[i]? with
    | none=>refine⟨b,q2.sq,?_⟩;rw[r.length];exact Eo.mp o
    | some d=>obtain⟨v,n,g2⟩:=F.get o;refine⟨⟨b,v,q2.sq,n⟩,fun u Y y=>?_⟩;obtain⟨rfl,y⟩:=y;have j:=y b q2.sq;rw[n]at j;cases j;exact⟨g2,sx.refl _ _,M⟩
   | _=>cases e
theorem GB{body:Ms Ou}{g:RI}{bd:RG}{f:RS}(hp:PassesOwn (model X.prog X.w) X.A X.env X.xe)(hc:X.calm=true)(hi:IM X w t g)(hg:GM X w bd)(hb:RH X body f)
 (hs:autoParam (∀x,foldedSetIterable t X.env x=pure x) å):ZM X (.For w t body [] pos) (AB g bd f):=by
 unhygienic
  exact PS.imp (fj hp hc hi hg hb hs) fun D σ H zz=>by
   obtain⟨ρ,l,h,r,S,L,e,k⟩:=zz;obtain⟨⟨s,h1⟩,e1,e⟩:=qA e;refine⟨ρ,l,h,s,h1,S,L,e1,fun C J H1 ok S1 Z=>?_⟩;refine⟨fun i m B M=>∃a E n,Vo X.K a n M/\Ys X.K M a E B/\sx C a H1 M/\iC bd f s m i E n=ε r,⟨_,C,l,h1,S1,L.ext Z,sx.refl _ _,e⟩,?_⟩;rintro i m B M ⟨a,E,n,S',L',O,b⟩;cases m with
   | zero=>simp![iC]at b;cases b
   | succ m=>
    simp![iC]at b;have p:=ok M a n O.same S' i;cases q:s.at n i with
    | none=>rw[q]at b;cases b
    | some o=>
     rw[q]at b p;cases o with
     | none=>cases b;exact .inl ⟨p,k a B M S' L' (Z.trans O)⟩
     | some d=>
      dsimp only at b;obtain⟨l1,b1,b⟩:=qA b;obtain⟨r1,b2,b⟩:=qA b;refine .inr ⟨p.1,fun P Y=>∃m',m'<m+1/\∃a E n,Vo X.K a n Y/\Ys X.K Y a E P/\sx C a H1 Y/\iC bd f s m' (i+1) E n=ε r,fun P Y q=>q,fun v H3 y=>?_⟩;obtain⟨R3,U,S3⟩:=p.2 v H3 y;refine⟨a,E,n,d,l1,S3,L'.ext U,R3,b1,fun a0 L4=>⟨a,l1,n,r1,S3,L4,b2,?_⟩⟩;cases r1 with
      | nx W Q=>exact fun j u T F R I=>⟨m,zu _,j,W,Q,F,R,O.trans (U.trans I),b⟩
      | ct W Q=>exact fun j u T F R I=>⟨m,zu _,j,W,Q,F,R,O.trans (U.trans I),b⟩
      | bk W Q=>cases b;exact fun j u T F R I=>k j u T F R (Z.trans (O.trans (U.trans I)))
      | rt d2 Q=>cases b;exact fun j v5 T R5 F I=>k j v5 T R5 F (Z.trans (O.trans (U.trans I)))
end
noncomputable def DB(n N:Nat)(body:RS):gB:=fun ds h=>if ds.length=n then match body (ds.map some++List.replicate (N-n) none) h with
 | some (.rt d h')=>ε (d,h')
 | some (.nx _ h')=>ε (.non,h')
 | _=>none
 else none
inductive XI(K:Frag)(n:Nat)(F:gB)(vs:List V)(H:Hp)(Q:VK)(E:XK):Prop where
 | mk (ρ:Rg) (ds:List Dt) (h:HI) (d:Dt) (h':HI) (S:Vo K ρ h H) (r:Ro K H ρ ds vs) (n:ds.length=n) (e:F ds h=ε (d,h')) (k:Out K ρ H d h' Q)
section
variable{P:Oo}{w:O4}{K:Oi}{b:Str->Ni Mu}{a:Pu}
theorem kP{H:Hp}{ρ:Rg}{N:Ms Str}{ds:Ms Dt}{vs:Ms V}(R:Ro K H ρ ds vs):Ys K H ρ (ds.map some++List.replicate (N.length-ds.length) none) (L2.aG N vs):=by
 have h:=R.length;refine⟨by simp[L2.aG,h],fun i d e=>?_⟩;by_cases g:i<ds.length
 . rw[Xo (by simpa using g),wu]at e;cases q:ds[i]? with
   | none=>rw[q]at e;cases e
   | some k=>rw[q]at e;cases e;obtain⟨v,j,g2⟩:=R.get q;refine⟨v,?_,g2⟩;unfold L2.aG;rw[Xo (by simpa[h]using g),wu,j];rfl
 . rw[ab (by simpa using Io.mp g),getElem?_replicate]at e;split at e<;>cases e
theorem jQ{x g:Str}{st:Ou}{f:Oa}{o:FuncData}{N ps:Ms Str}{k:Nat}{body:RS}(F:Fun K x g st f o)(S:Ze N ps (sB st))
 (y:∀(i:Mu)(A:Pa)(outer:Ms Env)(s:Nu)(H:Hp)(E:XK),Xu k (A.deeper (envOfC g (sB st) s.heap.objs.size f i))->
  RH (YE PF P w K b a N g (sB st) f i A outer s H E).nox (RC st) body):Zu P w K b a PF (k+1) f o ps (XI K ps.length (DB ps.length N.length body)):=by
 unhygienic
  refine F.ok S (fun r H Q E h=>?_) (fun i A outer s H r Q E u h=>?_)
  . obtain⟨n,ds,h,d,C,S,R,j,_⟩:=h;rw[R.length,j]
  . obtain⟨n,ds,h,d,C,S,R,j,e,k⟩:=h;refine⟨_,y i A outer s H E u,?_⟩;unfold DB at e;rw[eG j]at e;rw[<- j]at e;split at e
    . rename_i M B q;cases e;exact⟨n,_,h,_,S,kP R,q,k⟩
    . rename_i L B q;cases e;exact⟨n,_,h,_,S,kP R,q,fun m p I D O J=>k m _ I (bo.mpr rfl) D J⟩
    . cases e
end
noncomputable def xA(F:gB)(a:Ms Dt)(g:RA):RE:=fun l h=>(g l h).bind fun r=>F (r.1++a) r.2
section
variable{X:Cx}{k n:Nat}{f:Oa}{i:FuncData}{ps:Ms Str}{F:gB}{x:Str}{p pos:Pos}{e:Oe}{j:Ms Oe}{g:RA}{c:Ms V}{b:Ms Mu}{a:Ms Dt}
theorem OY(T:Zu X.prog X.w X.K X.mg X.base PF k f i ps (XI X.K n F))(D:Xu k X.A)(O:Gl X x)(J:X.mg x=ε (.ref f))(M:keepIn X.K (.ref f)=true)(P:tq X.K i ps b)(hd:ss c b)(q:∀H o,Ro X.K H o a c)
 (R:AM X (e::j) g) (I:∀(B:Ms Dt->HI->Ni (Dt×HI)),B=F->∀b h r,B b h=ε r->b.length=n) (s:autoParam ((x==("__debug__" :Str))=false) Ñ) (he:autoParam (fB e=true) Æ) (hpl:autoParam (j.all fB=true) Æ) :
 EM X (.Call (.Name x p) (e::j) [] pos) (xA F a g):=by
 unhygienic exact PE.imp (iq T D O J M P hd (E:=E0) pQ R s (kB he _ _) (vI hpl)) fun σ H Q C=>by obtain⟨o,l,h,d,U,S,L,e,k⟩:=C;obtain⟨⟨u,y⟩,W,e⟩:=qA e;exact⟨o,l,h,u,y,S,L,W,fun m vs H1 Z Y E1=>⟨m,_,y,d,U,Y,Z.append (q H1 m),I F rfl _ _ _ e,e,k.ext E1⟩⟩
theorem HP{n N:Nat}{body:RS}{b:Ms Dt}{h:HI}{r:Dt×HI}(e:DB n N body b h=ε r):b.length=n:=by
 unfold DB at e;split at e
 . assumption
 . cases e
noncomputable def eK(F:gB)(a:Ms Dt):RE:=fun _ h=>F a h
theorem Wh(M:Zu X.prog X.w X.K X.mg X.base PF k f i ps (XI X.K n F))(y:Xu k X.A)(I:Gl X x)(C:X.mg x=ε (.ref f))(D:keepIn X.K (.ref f)=true)(J:tq X.K i ps b)(hd:ss c b)(o:∀H m,Ro X.K H m a c)
 (B:∀(s:Ms Dt->HI->Ni (Dt×HI)),s=F->∀b h r,s b h=ε r->b.length=n) (q:autoParam ((x==("__debug__" :Str))=false) Ñ) :
 EM X (.Call (.Name x p) [] [] pos) (eK F a):=by
 unhygienic exact PE.imp (Um M y I C D J hd (E:=E0) pQ q) fun P H Q u=>by obtain⟨m,l,h,d,O,S,L,e,k⟩:=u;exact⟨m,a,h,d,O,S,o H m,B F rfl _ _ _ e,e,k⟩
end
end SM
namespace L2
noncomputable def gE(b:Ms (Str×Oa)):Ms (Str×NameKind)->Ms (Str×Oa)->Ni (Ms (Str×Oa))
 | [],cs=>ε cs
 | (n,k)::r,cs=>if k==.free then match b.lookup n with
  | some a=>gE b r ((n,a)::cs)
  | none=>none
  else gE b r cs
theorem BS{env:Env}:∀{l:Ms (Str×NameKind)}{cs d:Ms (Str×Oa)},gE env.cells l cs=ε d->
 (forIn l cs fun(x:Str×NameKind) (r:Ms (Str×Oa))=>if(x.2==NameKind.free)=true then(do let a <- cellOf env x.1;pure (ForInStep.yield ((x.1,a)::r)):Sem _)else pure (ForInStep.yield r))=pure d
 | [],cs,d,h=>by simp![gE]at h;cases h;rfl
 | (n,k)::r,cs,d,h=>by
  simp![gE]at h;rw[forIn_cons];cases b:k==NameKind.free with
  | true=>
   rw[b,eG rfl]at h;cases g:env.cells.lookup n with
   | none=>rw[g]at h;cases h
   | some a=>
    rw[g]at h;have ih:=BS (env:=env) h;simp![b,eN];have e:cellOf env n=pure a:=by unfold cellOf;rw[g]
    rw[e];simp![pure_bind];exact ih
  | false=>rw[b,eH (by decide)]at h;have ih:=BS (env:=env) h;simp![b,Wo,eO,pure_bind];exact ih
theorem HW{a:Scope}{env:Env}{cl:Ms (Str×Oa)}(h:gE env.cells a.names []=ε cl):closureFor a env=pure cl:=by have e:=BS (env:=env) h;unfold closureFor;simp![bind_pure];exact e
theorem dS{b:Ms (Str×Oa)}:∀{l:Ms (Str×NameKind)}{cs g:Ms (Str×Oa)},gE b l cs=ε g->(∀x c,cs.lookup x=ε c->b.lookup x=ε c)->
 (∀x c,g.lookup x=ε c->b.lookup x=ε c)/\(∀x c,cs.lookup x=ε c->∃C,g.lookup x=ε C)/\∀n,(n,NameKind.free)∈l->∃c,g.lookup n=ε c
 | [],cs,g,h,i=>by simp![gE]at h;cases h;exact⟨i,fun x c e=>⟨c,e⟩,fun n B=>nomatch B⟩
 | (n,k)::r,cs,g,h,i=>by
  simp![gE]at h;cases p:k==NameKind.free with
  | true=>
   rw[p,eG rfl]at h;cases q:b.lookup n with
   | none=>rw[q]at h;cases h
   | some a=>
    rw[q]at h;have y:∀x c,((n,a)::cs).lookup x=ε c->b.lookup x=ε c:=fun x c e=>by
     rw[lookup_cons]at e;cases d:x==n with
     | true=>rw[d]at e;cases e;rw[eq_of_beq d];exact q
     | false=>rw[d]at e;exact i x c e
    obtain⟨u,j,s⟩:=dS h y;refine⟨u,fun x c e=>?_,fun m o=>?_⟩
    . cases d:x==n with
      | true=>exact j x a (by rw[lookup_cons,d])
      | false=>exact j x c (by rw[lookup_cons,d];exact e)
    . rcases Bo.mp o with z | z
      . cases z;exact j _ a (by rw[lookup_cons,Cu])
      . exact s m z
  | false=>
   rw[p,eH (by decide)]at h;obtain⟨u,j,s⟩:=dS h i;refine⟨u,j,fun m o=>?_⟩;rcases Bo.mp o with z | z
   . cases z;cases p
   . exact s m z
noncomputable def tgN:Oe->Ms Str
 | .Name x _=>[x]
 | .Tuple a _ _=>a.filterMap fun | .Name x _=>ε x | _=>none
 | _=>[]
def QH(b:Oe)(N:Ms Str)(a:Ms (Ni Nat)):Ms Str:=tgN b++a.filterMap fun o=>o.bind fun i=>N[i]?
noncomputable def zM:Ni Str->Oa->Ms (Str×Oa)->Ms (Str×Oa)
 | none,_,cl=>cl
 | some x,n,cl=>(x,n)::cl
noncomputable def mU:Ni Str->Pu->Pu
 | none,h=>h
 | some _,h=>h.push { cls:=.type "cell",data:=.cell none }
structure ci(names:List (Str×NameKind))(x:Option Str):Prop where
 fr:∀n cl,cellsFrom n names cl=zM x n cl
 hp:∀h:Heap,pushCells h names=mU x h
 ne:∀y∈names,y.2=.cell->x=ε y.1
theorem ci.no:∀{a:Ms (Str×NameKind)},(∀y∈a,y.2≠.cell)->ci a none
 | [],_=>⟨fun q q=>rfl,fun q=>rfl,fun q h=>nomatch h⟩
 | (n,k)::r,h=>by
  have i:=ci.no fun y b=>h y (ou _ b)
  have e:¬(k==NameKind.cell)=true:=fun z=>h _ uq (eq_of_beq z)
  exact⟨fun m d=>by rw[cellsFrom,eH e];exact i.fr m d,fun H=>by rw[pushCells,eH e];exact i.hp H,fun y b z=>Ei z (h y b)⟩
theorem Rw{M:Model}{A:Pa}{E:Mu->Nu->Prop}{s:Nu}{b:Scope}{a:Oa}{j:Ms (Str×Oa)}{d:Str}{env:Env}{x:Ni Str}{Q:Env->Nu->Prop}(one:ci b.names x)
 (h:Q (newEnv b s.heap.objs.size a (zM x (s.heap.objs.size+1) j) d none .none (ε env) builtinsNs) { s with heap:=mU x (s.heap.push { cls:=.type "dict",data:=.dict #[] }) }) :
 wpAny M A (newFunctionEnv b a j [] d none .none (ε env)) Q E s:=by
 simp![newFunctionEnv,Option.isSome_some,eN];refine ao (wpAny_alloc ?_);refine ao (wpAny_layCells _ (fun i kind g=>by cases e:kind==NameKind.cell<;>simp[e]) _ _ _ _ ?_);rw[one.fr,one.hp];rw[show({ s with heap:=s.heap.push { cls:=.type "dict",data:=.dict #[] } }:Nu).heap.objs.size=s.heap.objs.size+1 from Ks ..];rw[forIn_nil];exact ao (au (au h))
def MY(scope:Scope)(a:Ms (Str×Oa))(C:Oa)(x:Ni Str)(env:Env):Env:=
 { scope:=relabel scope env,locals:=C,globals:=env.globals,cells:=zM x (C+1) a,qual:=env.qual,func:=none,code:=env.code,frame:=env.frame,builtins:=env.builtins }
def QC(X:Cx)(Nc:Ms Str)(a:Scope)(b:Ms (Str×Oa))(C:Oa)(x:Ni Str)(s0:Nu)(d:Hp)(fp:Ms Oa):Cx:=
 { X with N:=Nc,s₀:=s0,H₀:=d,env:=MY a b C x X.env,outer:=X.stack,stack:=X.stack,ex:=fp,fn:=fun y=>x==ε y,pn:=[],xe:=fun _ _=>False }
abbrev MF(X:Cx)(Nc:Ms Str)(a:Scope)(b:Ms (Str×Oa))(C:Oa)(s0:Nu)(d:Hp)(fp:Ms Oa):Cx:=QC X Nc a b C none s0 d fp
theorem FW{env:Env}{x0:Ni Str}:∀{a:Ms (Str×NameKind)}{x:Str},(∀y∈a,y.2=.cell->x0=ε y.1)->x0≠ε x->
 ((a.map fun(n,k)=>if(k==NameKind.free&&env.scope.kind==.function&&env.kindOf n==ε .cell)then(n,NameKind.cell)else(n,k)).lookup x=ε .cell\/
  (a.map fun(n,k)=>if(k==NameKind.free&&env.scope.kind==.function&&env.kindOf n==ε .cell)then(n,NameKind.cell)else(n,k)).lookup x=ε .free)->(x,NameKind.free)∈a
 | [],_,_,_,h=>by simp at h
 | (n,k)::r,x,hc,hx0,h=>by
  have ih:=@FW env x0 r x (fun y g=>hc y (ou _ g)) hx0;rw[Ss]at h;cases b:x==n with
  | true=>
   have ex:=eq_of_beq b;subst ex;have i:k≠.cell:=fun z=>hx0 (hc (x,k) uq z)
   by_cases e:k=.free
   . subst e;exact uq
   . have j:(k==NameKind.free)=false:=by simpa using e
     simp![j,Hi,Wo,eO,lookup_cons,Cu]at h;rcases h with h | h
     . exact Ei (tu h) i
     . exact Ei (tu h) e
  | false=>
   refine ou _ (ih ?_);by_cases d:(k==NameKind.free&&env.scope.kind==.function&&env.kindOf n==ε .cell)=true
   . simp![d,eN,lookup_cons,b]at h;exact h
   . rw[Bool.not_eq_true]at d;simp![d,Wo,eO,lookup_cons,b]at h;exact h
noncomputable def al(X:Cx)(a:Scope)(b:Ms (Str×Oa)):Ms Str->Ms (Ni Nat)->Prop
 | [],[]=>True
 | _::N,none::cs=>al X a b N cs
 | x::N,some j::cs=>(X.N[j]?=ε x/\(X.env.kindOf x=ε .cell\/X.env.kindOf x=ε .free)/\((relabel a X.env).names.lookup x=ε .cell\/(relabel a X.env).names.lookup x=ε .free)/\
  b.lookup x=X.env.cells.lookup x)/\al X a b N cs
 | _,_=>False
noncomputable def qG(b:St)(a:Ms (Ni Nat)):St:=a.map fun o=>match o with | some j=>(b[j]?).join | none=>none
theorem al.get{X:Cx}{a:Scope}{b:Ms (Str×Oa)}:∀{N:Ms Str}{cs:Ms (Ni Nat)},al X a b N cs->∀{i j:Nat}{x:Str},N[i]?=ε x->cs[i]?=ε (ε j)->
 X.N[j]?=ε x/\(X.env.kindOf x=ε .cell\/X.env.kindOf x=ε .free)/\((relabel a X.env).names.lookup x=ε .cell\/(relabel a X.env).names.lookup x=ε .free)/\b.lookup x=X.env.cells.lookup x
 | [],[],_,i,j,x,h,_=>by simp at h
 | y::N,none::cs,h,0,j,x,_,e=>by simp at e
 | y::N,none::cs,h,i+1,j,x,e1,e2=>al.get (N:=N) (cs:=cs) h (i:=i) (by simpa using e1) (by simpa using e2)
 | y::N,some k::cs,h,0,j,x,e1,e2=>by simp at e1 e2;subst e1 e2;exact h.1
 | y::N,some k::cs,h,i+1,j,x,e1,e2=>al.get (N:=N) (cs:=cs) h.2 (i:=i) (by simpa using e1) (by simpa using e2)
 | [],_::_,h,_,_,_,_,_=>h.elim
 | _::_,[],h,_,_,_,_,_=>h.elim
theorem al.length{X:Cx}{a:Scope}{b:Ms (Str×Oa)}:∀{N:Ms Str}{cs:Ms (Ni Nat)},al X a b N cs->cs.length=N.length
 | [],[],_=>rfl
 | y::N,none::cs,h=>by rw[Ru,Ru,al.length (N:=N) (cs:=cs) h]
 | y::N,some k::cs,h=>by rw[Ru,Ru,al.length (N:=N) (cs:=cs) h.2]
 | [],_::_,h=>h.elim
 | _::_,[],h=>h.elim
def ZI(X:Cx)(d:Ms Oe)(t:TT):Prop:=
 ∀(a:Ms (Oa×Obj))(s:Nu)(b:St)(H:Hp)(Q:Bool->Hp->Prop),so X a b H s->t b H Q->
  wpAny (model X.prog X.w) X.A (forIn d true fun c r=>if r=true then do let ok <- isTrue c X.env (eval c X.env);pure (ForInStep.yield ok)else pure (ForInStep.yield r)) (TP X a b Q) X.xe s
theorem Bl{X:Cx}:ZI X [] (fun z H Q=>Q true H):=fun z z z H z I q=>wpAny_tests_nil ⟨H,I,q⟩
theorem Dl{X:Cx}{c:Oe}{t:TT}(h:PT X c t):ZI X [c] t:=fun a s b H Q I q=>wpAny_tests_one (h a s b H Q I q)
def eU(s:TI)(g:TG)(tc:TT)(te:TE)(k:Ms (Ni Nat)):TE:=fun n H Q=>s n H fun J r=>∀D,r D=none->∃W:Nat->Nat->St->Ms V->Hp->Prop,
 (∃m,W 0 m (qG n k) [] (IB r D (.lst [])))/\∀i m e d j,W i m e d j->
  (J.stop i j/\Q (.ref D) j)\/(J.go i j/\∀x q,J.yld i j x q->g x e q fun a u=>tc a u fun b p=>if b=true then te a p fun y o=>
   o D=ε (.lst d)/\d.length<sizeLine/\∃h,h<m/\W (i+1) h a (d++[y]) (IB o D (.lst (d++[y])))else ∃h,h<m/\W (i+1) h a d p)
section
variable{prog:Oo}{w:O4}{A:Pa}{R:Result->Nu->Prop}{s:Nu}
theorem Xk{C a p:Oe}{y:Ms Oe}{g:Scope}{pos:Pos}{J D:Mu}{env:Env}(I:Nat->Nu->Prop)
 (turn:∀n s,I n s->wpAny (model prog w) A (pyNext J) (fun r e=>match r with
  | none=>R (.ok .next) e
  | some v=>wpAny (model prog w) A (letOwnedTupleGo a J v) (fun _ d=>wpAny (model prog w) A (assign a env v) (fun _ o=>
   wpAny (model prog w) A (forIn y true fun c r=>if r=true then do let ok <- isTrue c env (eval c env);pure (ForInStep.yield ok)else pure (ForInStep.yield r)) (fun ok b=>
    if ok=true then wpAny (model prog w) A (eval C env) (fun x k=>
     wpAny (model prog w) A (call (.builtin "list.append") [D,x]) (fun _ j=>∃m,m<n/\I m j) (fun _ _=>False) k) (fun _ _=>False) b
    else ∃m,m<n/\I m b) (fun _ _=>False) o) (fun _ _=>False) d) (fun _ _=>False) e) (fun _ _=>False) s)
 (n:Nat) (h:I n s):codeAny (model prog w) A (.compLoop (.ListComp C [⟨a,p,y,0⟩] g pos) 0 J D env) R s:=by
 refine codeAny_loop rfl I (fun n s L=>?_) n h;show wpAny _ A ((compTurn (.ListComp C [⟨a,p,y,0⟩] g pos) 0 J D env).onRaise (fun x=>do noteFrame x env;theTreesLotGoes x)) _ _ s;refine wpAny_noted ?_;rw[compTurn_list];refine ao (wpAny_standAt (ao (Hs (turn n s L) (fun r e u=>?_) fun _ _ i=>i.elim)));cases r with
 | none=>exact au u
 | some v=>
  refine ao (Hs u (fun _ d B=>?_) fun _ _ i=>i.elim);refine ao (Hs B (fun _ o H=>ao (Hs H (fun ok b q=>?_) fun _ _ i=>i.elim)) fun _ _ i=>i.elim);cases ok with
  | false=>exact au ⟨rfl,q⟩
  | true=>exact ao (ao (Hs q (fun x k F=>ao (Hs F (fun _ j E=>au (au ⟨rfl,E⟩)) fun _ _ i=>i.elim)) fun _ _ i=>i.elim))
end
section
variable{X:Cx}{A f B:Oe}{w:Ms Oe}{scope:Scope}{l:Ms (Str×Oa)}{pos:Pos}{Nc:Ms Str}{F:TI}{g:TG}{tc:TT}{te:TE}{t:Ms (Ni Nat)}{x0:Ni Str}
theorem IW{L:Ms (Oa×Obj)}{Z:St}{H:Hp}{s:Nu}{it:Oa}{fp:Ms Oa}{tn:Nat->Pu->Prop}{J:It}{Q:VK}{RR:Mu->Oa->Result->Nu->Prop}{E:Mu->Nu->Prop}
 (hc:X.calm=true) (f1:gE X.env.cells scope.names []=ε l) (one:ci scope.names x0) (c1:scope.kind=.function) (b1:al X scope l Nc t) (e5:∀x,x0=ε x->∀(i j:Nat),Nc[i]?=ε x->t[i]?=ε (ε j)->False)
 (hg:∀C s0 H0 fp,PG (QC X Nc scope l C x0 s0 H0 fp) B g) (ht:∀C s0 H0 fp,ZI (QC X Nc scope l C x0 s0 H0 fp) w tc) (he:∀C s0 H0 fp,PE (QC X Nc scope l C x0 s0 H0 fp) A te)
 (I:so X L Z H s) (T:xG X.prog X.w X.K B J fp it tn) (st:tn 0 s.heap) (hf:∀b∈fp,XE X L H b)
 (d0:∀D,H D=none->∃W:Nat->Nat->St->Ms V->Hp->Prop,
  (∃m,W 0 m (qG Z t) [] (IB H D (.lst [])))/\∀i m O ys H',W i m O ys H'->
   (J.stop i H'/\Q (.ref D) H')\/(J.go i H'/\∀x H2,J.yld i H' x H2->g x O H2 fun a3 P=>tc a3 P fun b H4=>if b=true then te a3 H4 fun y H5=>
    H5 D=ε (.lst ys)/\ys.length<sizeLine/\∃Y,Y<m/\W (i+1) Y a3 (ys++[y]) (IB H5 D (.lst (ys++[y])))else ∃Y,Y<m/\W (i+1) Y a3 ys H4))
 (f2:∀(C D:Oa)(s':Nu)(H':Hp) m,so X L Z H' s'->s'.heap.Ns C m->H' C=none->C≠X.env.locals->X.s₀.heap.objs.size<=C->(∀x c,X.env.cells.lookup x=ε c->c≠C)->(∀p∈X.pn++L,p.1≠C)->Q (.ref D) H'->RR (.ref D) C (.ok .next) s') :
 wpAny (model X.prog X.w) X.A (newList []) (fun d5 c7=>wpAny (model X.prog X.w) X.A (newFunctionEnv scope X.env.globals l [] X.env.qual none .none (ε X.env)) (fun b2 c6=>
  codeAny (model X.prog X.w) X.A (.compStart (.ListComp A [⟨B,f,w,0⟩] scope pos) 0 (.ref it) d5 { b2 with scope:=relabel scope X.env }) (RR d5 b2.locals) c6) E c7) E s:=by
 obtain⟨sub,_,d7⟩:=dS f1 (fun _ _ e=>by simp at e);refine Ai (Rw one ?_);have hD:=I.fresh;have h:so X L Z (IB H s.heap.objs.size (.lst [])) { s with heap:=s.heap.push { cls:=.type "list",data:=.seq ([]:Ms Mu).toArray } }:=I.fw (ys:=[]) (its:=[]) (t':=s.toks) .nil (nu _);generalize d1:({ s with heap:=s.heap.push { cls:=.type "list",data:=.seq ([]:Ms Mu).toArray } }:Nu)=s3 at h;generalize d3:IB H s.heap.objs.size (.lst [])=P at h;have d2:s3.heap=s.heap.push { cls:=.type "list",dict:=none,data:=.seq ([]:Ms Mu).toArray }:=by rw[<- d1]
 have g7:({ s with heap:=s.heap.push { cls:=.type "list",dict:=none,data:=.seq ([]:Ms Mu).toArray } }:Nu)=s3:=d1;obtain⟨h₁,R⟩:∃h₁,h₁=mU x0 (s3.heap.push { cls:=.type "dict",data:=.dict #[] }):=⟨_,rfl⟩
 rw[<- R];have c4:∀b o,(s3.heap.push { cls:=.type "dict",data:=.dict #[] }).get? b=ε o->h₁.get? b=ε o:=fun b o e=>by
  rw[R];cases x0 with
  | none=>exact e
  | some _=>exact cu _ e
 have a5:h₁.Ns s3.heap.objs.size (fun _=>none):=(Heap.Ns.new s3.heap (.type "dict")).keeps c4;have f4:P s3.heap.objs.size=none:=h.fresh;have d8:P (s3.heap.objs.size+1)=none:=h.hok.fresh (Nat.le_succ _);have f6:s3.heap.objs.size≠X.env.locals:=fun z=>by have:=h.lt;rw[<- z]at this;exact Fd _ this
 have f8:X.s₀.heap.objs.size<=s3.heap.objs.size:=h.sz;have c5:∀x c,X.env.cells.lookup x=ε c->c<s3.heap.objs.size:=fun x c e=>by obtain⟨v,o,ho,_⟩:=h.cell x c e;exact je ho
 have f5:∀x c,X.env.cells.lookup x=ε c->c≠s3.heap.objs.size:=fun x c e z=>by have:=c5 x c e;rw[z]at this;exact Fd _ this
 have f3:∀p∈X.pn++L,p.1≠s3.heap.objs.size:=fun p hp z=>by have:=je (h.pin p hp).1;rw[z]at this;exact Fd _ this
 have b4:∀b∈fp,b<s.heap.objs.size:=fun b a=>by obtain⟨o,e,_⟩:=T.obj 0 _ st b a;exact je e
 have D5:s3.heap.objs.size=s.heap.objs.size+1:=by rw[d2,Ks]
 have old:∀b o,s3.heap.get? b=ε o->h₁.get? b=ε o:=fun b o e=>c4 b o (cu _ e)
 have e0:∀b o,s.heap.get? b=ε o->s3.heap.get? b=ε o:=fun b o e=>by rw[d2];exact cu _ e
 have g1:∀b∈fp,P b=none:=fun b a=>by rw[<- d3,dB (rz (b4 b a))];exact(hf b a).1
 have lk:∀x c,(zM x0 (s3.heap.objs.size+1) l).lookup x=ε c->(x0=ε x/\c=s3.heap.objs.size+1/\h₁.IsCell c none)\/(x0≠ε x/\l.lookup x=ε c):=fun x c e=>by
  cases x0 with
  | none=>exact .inr ⟨(fun z=>nomatch z),e⟩
  | some y=>
   have e:((y,s3.heap.objs.size+1)::l).lookup x=ε c:=e;rw[lookup_cons]at e;cases hx:x==y with
   | true=>rw[hx]at e;cases e;refine .inl ⟨by rw[eq_of_beq hx],rfl,{ cls:=.type "cell",data:=.cell none },?_,rfl⟩;rw[R,show s3.heap.objs.size+1=(s3.heap.push { cls:=.type "dict",data:=.dict #[] }).objs.size from(Ks ..).symm];exact jl _ rfl
   | false=>
    rw[hx]at e;refine .inr ⟨fun z=>?_,e⟩;injection z with z
    rw[z,Cu]at hx;cases hx
 have kl:∀x,x0≠ε x->(zM x0 (s3.heap.objs.size+1) l).lookup x=l.lookup x:=fun x n=>by
  cases x0 with
  | none=>rfl
  | some y=>show((y,s3.heap.objs.size+1)::l).lookup x=_;rw[lookup_cons,show(x==y)=false from Es.mpr fun z=>n (by rw[z])]
 have c3:∀x c,l.lookup x=ε c->c≠s3.heap.objs.size+1:=fun x c e z=>by have:=c5 x c (sub x c e);rw[z]at this;exact Ei this (Io.mpr (Nat.le_succ _))
 have a4:(QC X Nc scope l s3.heap.objs.size x0 s3 P fp).Ok:=by
  refine⟨h.ok.mod,c1,h.ok.glob,h.ok.blt,Uo _,fun x y c e1 e2=>?_,fun x hx=>?_,fun x c e1 e2=>?_,h.ok.hd,h.ok.frames,.inl rfl,fun b a=>⟨?_,fun x c e=>?_⟩,fun b o e=>h.bs b o e,?_,fun b o e=>?_,fun b a=>?_,h.stack,h.gm⟩
  . rcases lk x c e1 with⟨p1,M,_⟩ | ⟨p1,M⟩<;>rcases lk y c e2 with⟨q1,q2,_⟩ | ⟨q1,q2⟩
    . rw[p1]at q1;injection q1
    . exact Ei M (c3 y c q2)
    . exact Ei q2 (c3 x c M)
    . exact h.ok.inj x y c (sub x c M) (sub y c q2)
  . by_cases c0:x0=ε x
    . exact⟨s3.heap.objs.size+1,by rw[c0];show((x,s3.heap.objs.size+1)::l).lookup x=_;rw[lookup_cons,Cu]⟩
    . obtain⟨c,e⟩:=d7 x (FW one.ne c0 hx);exact⟨c,(kl x c0).trans e⟩
  . rcases lk x c e2 with⟨p1,M,_⟩ | ⟨p1,M⟩
    . rw[M];exact Nat.le_succ _
    . exact Ei (eq_of_beq e1) p1
  . intro z;have:=b4 b a;have z':b=s3.heap.objs.size:=z;rw[z',D5]at this;exact Ei this (Io.mpr (Nat.le_succ _))
  . rcases lk x c e with⟨p1,M,_⟩ | ⟨p1,M⟩
    . intro z;have:=b4 b a;rw[<- z,M,D5]at this;exact Ei this (Io.mpr (Nat.le_succ_of_le (Nat.le_succ _)))
    . exact(hf b a).2.2.2.2.1 x c (sub x c M)
  . exact um h.ok.bsz h.sz
  . intro a;have h1:=(hf b a).2.2.2.1;have h2:=h.ok.bs b o e;rcases h1 with z | z
    . exact h.ok.de b o e z
    . exact Ei (jo (je h2.1) z) (Fd _)
  . intro z;rcases Bo.mp (h.fg b z)with z | z
    . exact(hf b a).2.1 z
    . exact(hf b a).2.2.1 z
 have IY:so (QC X Nc scope l s3.heap.objs.size x0 s3 P fp) [] (qG Z t) P { s3 with heap:=h₁ }:=by
  refine⟨a4,rfl,h.bare,Un.kept old,⟨_,a5,fun i x v e1 e2 _=>?_⟩,fun x c e=>?_,f4,fun x c e=>?_,fun p hp=>Ei hp (by simp[QC]),h.hok.kept old,?_⟩
  . have S:(qG Z t)[i]?=ε (ε v):=e2;unfold qG at S;rw[wu]at S;cases q:t[i]? with
    | none=>rw[q]at S;cases S
    | some o=>
     rw[q]at S;cases o with
     | none=>cases S
     | some j=>
      have e3:(Z[j]?).join=ε v:=by simpa using S
      have e4:Z[j]?=ε (ε v):=by
       cases z:Z[j]? with
       | none=>rw[z]at e3;cases e3
       | some y=>rw[z]at e3;simpa using e3
      have f0:x0≠ε x:=fun z=>e5 x z i j e1 q
      obtain⟨n1,n2,n3,n4⟩:=b1.get e1 q;obtain⟨m,_,hl⟩:=h.loc;have hv:Z4 X.env.scope x:=.inr n2;obtain⟨u,r,e6⟩:=hl j x v n1 e4 hv;refine⟨u,r,.inr ⟨n3,?_⟩⟩;rcases e6 with⟨k,_⟩ | ⟨_,c,ec,ob,z1,z2⟩
      . rcases n2 with n2 | n2<;>rw[k]at n2<;>cases n2
      . exact⟨c,(kl x f0).trans (n4.trans ec),ob,old c ob z1,z2⟩
  . rcases lk x c e with⟨p1,M,p3⟩ | ⟨p1,M⟩
    . exact⟨none,p3⟩
    . obtain⟨v,o,z1,z2⟩:=h.cell x c (sub x c M);exact⟨v,o,old c o z1,z2⟩
  . rcases lk x c e with⟨p1,M,_⟩ | ⟨p1,M⟩
    . rw[M];exact d8
    . exact h.bq x c (sub x c M)
  . show(qG Z t).length=Nc.length;unfold qG;rw[ni];exact b1.length
 obtain⟨W,⟨m0,w0⟩,turn⟩:=d0 s.heap.objs.size hD;rw[d3]at w0;have c9:tn 0 h₁:=T.keep 0 _ _ st fun b _ o e=>old b o (e0 b o e)
 have c2:∀{H':Hp},(∀b∈fp,H' b=none)->∀b∈fp,XE (QC X Nc scope l s3.heap.objs.size x0 s3 P fp) [] H' b:=fun hn b a=>⟨hn b a,(a4.exf b a).1,a4.dl b a,.inl a,fun x c e=>(a4.exf b a).2 x c e,fun p hp=>Ei hp (by simp[QC])⟩
 have a6:codeAny (model X.prog X.w) X.A (.compLoop (.ListComp A [⟨B,f,w,0⟩] scope pos) 0 (.ref it) (.ref s.heap.objs.size) (MY scope l s3.heap.objs.size x0 X.env)) (RR (.ref s.heap.objs.size) s3.heap.objs.size)
  { s3 with heap:=h₁ }:=by
  refine Xk (fun n s'=>∃i O ys H',so (QC X Nc scope l s3.heap.objs.size x0 s3 P fp) [] O H' s'/\tn i s'.heap/\(∀b∈fp,H' b=none)/\W i n O ys H') ?_ m0 ⟨0,_,[],P,IY,c9,g1,w0⟩;rintro n s4 ⟨i,a2,ys,H4,I4,c8,d4,w4⟩;rcases turn i n a2 ys H4 w4 with⟨stop,qn⟩ | ⟨go,step⟩
  . refine HB (T.done (QC X Nc scope l s3.heap.objs.size x0 s3 P fp) rfl rfl rfl hc i [] s4 a2 H4 _ I4 (c2 d4) c8 stop) fun r s5 U=>?_
    obtain⟨hr,I5⟩:=U;subst hr;have I6:so X L Z H4 s5:=h.call' (ch:=fp) I5.os I5.base I5.hok I5.bare fun b a=>⟨(hf b a).2.2.2.1,(hf b a).2.1,(hf b a).2.2.2.2.1,(hf b a).2.2.2.2.2⟩
    obtain⟨m,hn,_⟩:=I5.loc;exact f2 _ _ s5 H4 m I6 hn I5.free f6 f8 f5 f3 qn
  . refine HB (T.item (QC X Nc scope l s3.heap.objs.size x0 s3 P fp) rfl rfl rfl hc i [] s4 a2 H4 _ I4 (c2 d4) c8 go) fun r s5 U=>?_
    obtain⟨u,hr,h5⟩:=U;subst hr;refine HB h5 fun _ s6 U=>?_
    obtain⟨x,H6,I6,r6,y6,b6,g0⟩:=U;have g5:=I6.pinned (c2 g0) (T.obj _ _ b6);refine HB (hg _ _ _ _ _ s6 a2 H6 x u _ g5 r6 (step x H6 y6)) fun _ s7 U=>?_
    obtain⟨b3,H7,I7,q7⟩:=U;refine HB (ht _ _ _ _ _ s7 b3 H7 _ I7 q7) fun b s8 U=>?_
    obtain⟨H8,I8,q8⟩:=U;have a0:∀{a1:St}{H9:Hp}{s9:Nu}{b5:Ms V},so (QC X Nc scope l s3.heap.objs.size x0 s3 P fp) ([]++uM fp s6.heap) a1 H9 s9->(∃Y,Y<n/\W (i+1) Y a1 b5 H9)->
     ∃Y,Y<n/\∃i O ys H',so (QC X Nc scope l s3.heap.objs.size x0 s3 P fp) [] O H' s9/\tn i s9.heap/\(∀b∈fp,H' b=none)/\W i Y O ys H':=fun {a1 H9 s9 b5} I9 ⟨Y,hm,w9⟩=>by
     refine⟨Y,hm,i+1,a1,b5,H9,I9.ez,T.keep _ _ _ b6 fun b a o e=>(I9.pin (b,o) (za _ (za _ (yO a e)))).1,fun b a=>?_,w9⟩;obtain⟨o,e,d⟩:=T.obj _ _ b6 b a;exact(I9.pin (b,o) (za _ (za _ (yO a e)))).2.1
    cases b with
    | false=>rw[eH Wk]at q8 ⊢;exact a0 I8 q8
    | true=>
     rw[eG rfl]at q8 ⊢;refine HB (he _ _ _ _ _ s8 b3 H8 _ I8 q8) fun y s9 U=>?_
     obtain⟨v,H9,I9,r9,d9,z9,w9⟩:=U;refine HB (NX (X:=QC X Nc scope l s3.heap.objs.size x0 s3 P fp) _ s9 b3 H9 (.ref s.heap.objs.size) [v] (.ref s.heap.objs.size) [y] (fun _ H'=>H'=IB H9 s.heap.objs.size (.lst (ys++[v]))) I9 rfl (.cons r9 .nil) ⟨_,ys,v,rfl,rfl,d9,z9,rfl⟩) fun _ g8 U=>?_
     obtain⟨_,h0,g6,_,g4⟩:=U;subst g4;exact a0 g6 w9
 exact codeAny_compStart_list a6 (T.self X.A 0 _ _ _ c9 a6)
theorem C0(hc:X.calm=true)(hi:PI X B f F)(r:gE X.env.cells scope.names []=ε l)(one:ci scope.names x0)(a:scope.kind=.function)
 (d:∀y∈scope.names,y.2=.local->scope.names.lookup y.1=ε .local) (u:al X scope l Nc t) (L:∀x,x0=ε x->∀(i j:Nat),Nc[i]?=ε x->t[i]?=ε (ε j)->False)
 (hg:∀C s0 E k,PG (QC X Nc scope l C x0 s0 E k) B g) (ht:∀C s0 E k,ZI (QC X Nc scope l C x0 s0 E k) w tc) (he:∀C s0 E k,PE (QC X Nc scope l C x0 s0 E k) A te)
 (hs:autoParam (∀x,foldedSetIterable f X.env x=pure x) å):PE X (.ListComp A [⟨B,f,w,0⟩] scope pos) (eU F g tc te t):=by
 intro p s P H Q I h;rw[eval_ListComp];refine wpAny_comprehension_free (use:=none) rfl hs (HW r) a d (HB (hi p s P H _ I h) fun v s1 h1=>HB h1 fun a0 s2 h2=>?_);obtain⟨it,k,tn,J,H2,e,I2,T,M,f2,n⟩:=h2;subst e;refine IW hc r one a u L hg ht he I2 T M f2 n fun C D R H' m I' hn Z Y W U S q=>?_
 refine⟨m,hn,fun h' O=>⟨.ref D,H',?_,rfl,q⟩⟩;exact I'.turned (t':=R.toks) (fun b o hb e=>O.extBut b o hb e) Z Y (.inr W) U S
theorem iS{i:Nat}{y:Str}{E n:Pos}(hc:X.calm=true)(hN:X.N.Nodup)(Y:X.N[i]?=ε y)(hy:X.env.scope.names.lookup y=ε .local)(hi:PI X B f F)(L:gE X.env.cells scope.names []=ε l)(one:ci scope.names x0)(d:scope.kind=.function)
 (k:∀y∈scope.names,y.2=.local->scope.names.lookup y.1=ε .local) (M:al X scope l Nc t) (P:∀x,x0=ε x->∀(i j:Nat),Nc[i]?=ε x->t[i]?=ε (ε j)->False)
 (hg:∀C s0 O r,PG (QC X Nc scope l C x0 s0 O r) B g) (ht:∀C s0 O r,ZI (QC X Nc scope l C x0 s0 O r) w tc) (he:∀C s0 O r,PE (QC X Nc scope l C x0 s0 O r) A te)
 (U:swapsWith (.ListComp A [⟨B,f,w,0⟩] scope pos) (ε (.Name y E)) n.line X.env=pure true)
 (hs:autoParam (∀x,foldedSetIterable f X.env x=pure x) å):PS X (.Assign [.Name y E] (.ListComp A [⟨B,f,w,0⟩] scope pos) n) (YQ (eU F g tc te t) (kQ i)):=by
 intro p s σ H D I h;rw[exec_Assign_Name_used _ _ _ _ U];refine ao (wpAny_standAt (ao ?_));show wpAny _ X.A (do let _ <- comprehension (.ListComp A [⟨B,f,w,0⟩] scope pos) scope X.env _ (newList []) false (eval f X.env) (ε (assign (.Name y E) X.env))) _ _ s;refine ao (Hs (wpAny_comprehension_free (use:=ε (assign (.Name y E) X.env)) (Q:=fun _ S=>SP X p D .next S) rfl hs (HW L) d k
  (HB (hi p s σ H _ I h) fun v s1 h1=>HB h1 fun a0 s2 h2=>?_)) (fun _ S hq=>au (au hq)) fun _ _ e=>e)
 obtain⟨it,r,tn,J,H2,e,I2,T,R,f2,u⟩:=h2;subst e;refine IW (Q:=fun x H1=>kQ i x σ H1 D.nx) hc L one d M P hg ht he I2 T R f2 u fun C Dd S H' m I' hn n1 n2 n3 n4 n5 q=>?_
 show wpAny _ X.A (assign (.Name y E) X.env (.ref Dd)) _ _ _;refine wpAny_assign_Name (jY I' hN Y (.inl hy) (v:=.ref Dd) rfl (fun s4 I4 zz=>?_) (.inr hy));obtain⟨a,sb,ha⟩:=zz;have Z:C≠a:=by
  rcases ha with ha | ha
  . rw[ha];exact n2
  . exact fun z=>n4 _ _ ha z.symm
 refine⟨m,hn.sameBut sb Z,fun h' W=>⟨_,H',?_,q⟩⟩;exact I4.turned (t':=s4.toks) (fun b o hb e=>W.extBut b o hb e) n1 n2 (.inr n3) n4 n5
end
end L2
namespace SM
def WD(bd:RG)(tc:RT)(te:RE)(s:th):Nat->Nat->LI->HI->Ms Dt->Ni (Ms Dt×HI)
 | 0,_,_,_,_=>none
 | k+1,i,l,h,ys=>match s.at h i with
  | none=>none
  | some none=>ε (ys,h)
  | some (some d)=>(bd d l).bind fun a=>(tc a h).bind fun b=>if b.1=true then(te a b.2).bind fun r=>if ys.length<sizeLine then WD bd tc te s k (i+1) a r.2 (ys++[r.1])else none
   else WD bd tc te s k (i+1) a b.2 ys
noncomputable def oF(l:LI)(a:Ms (Ni Nat)):LI:=a.map fun o=>match o with | some j=>(l[j]?).join | none=>none
def xC(g:RI)(bd:RG)(tc:RT)(te:RE)(a:Ms (Ni Nat)):RE:=fun l h=>(g l h).bind fun r=>(WD bd tc te r.1 (r.1.fuel r.2) 0 (oF l a) r.2 []).bind fun q=>ε (.lst q.1,q.2)
def rE(g:RI)(bd:RG)(tc:RT)(te:RE)(a:Ms (Ni Nat)):RE:=fun l h=>(g l h).bind fun r=>(WD bd tc te r.1 (r.1.fuel r.2) 0 (oF l a) r.2 []).bind fun q=>ε (.ref q.2.length,q.2++[.lst q.1])
noncomputable def nB:RT:=fun _ h=>ε (true,h)
theorem kf{K:Oi}{H:Hp}{ρ:Rg}{l:LI}{g:L2.St}(L:Ys K H ρ l g)(a:Ms (Ni Nat)):Ys K H ρ (oF l a) (qG g a):=by
 refine⟨by simp[oF,qG],fun i d e=>?_⟩;unfold oF at e;unfold qG;rw[wu]at e ⊢;cases q:a[i]? with
 | none=>rw[q]at e;cases e
 | some o=>
  rw[q]at e;cases o with
  | none=>cases e
  | some j=>
   have b:(l[j]?).join=ε d:=by simpa using e
   have k:l[j]?=ε (ε d):=by
    cases z:l[j]? with
    | none=>rw[z]at b;cases b
    | some y=>rw[z]at b;simpa using b
   obtain⟨v,h,g2⟩:=L.val j d k;refine⟨v,?_,g2⟩;simp[h]
section
variable{X:Cx}{elt iter tg:Oe}{a:Ms Oe}{scope:Scope}{cl:Ms (Str×Oa)}{pos:Pos}{Nc:Ms Str}{g:RI}{bd:RG}{tc:RT}{te:RE}{cap:Ms (Ni Nat)}
@[irreducible] def CM(X:Cx)(a:Ms Oe)(f:RT):Prop:=ZI X a (oN X.K f)
theorem uD:CM X [] nB:=by unhygienic exact fun d s i H Q I q=>by obtain⟨j,l,h,b,m,S,L,e,k⟩:=q;cases e;exact Bl d s i H Q I (k j H S (sx.refl _ _))
theorem FH{c:Oe}{f:RT}(h:TM X c f):CM X [c] f:=by unhygienic exact Dl h
end
section
variable{K:Oi}{H:Hp}{ρ:Rg}{p:Oa}{o:HO}{h:HI}
theorem kg{a:Oa}{u:HO}(hp:H p=none)(e:H a=ε u)(n:ρ.no a):(ρ.hide p).no a:=
 ⟨n.1,fun z=>by
  rcases Bo.mp z with z | z
  . rw[z,hp]at e;cases e
  . exact n.2 z⟩
theorem sx.gu{b:Rg}{H':Hp}(x:sx (ρ.hide p) b H H'):∃a,b=a.hide p/\sx ρ a H H':=by
 refine⟨⟨b.v,ρ.z⟩,?_,⟨x.pre,rfl,x.keep,x.live,x.fz⟩⟩;have e:=x.hid;cases b with
 | mk v z=>have d:z=p::ρ.z:=e;subst d;rfl
theorem sx.ki{b:Rg}{g:Hp}(x:sx ρ b H g)(hp:H p=none):sx ρ b H (IB g p o):=
 ⟨x.pre,x.hid,fun a u e n=>by rw[dB (TC e hp)];exact x.keep a u e n,fun a e=>by
  by_cases d:a=p
  . rw[d];exact hp
  . rw[dB d]at e;exact x.live a e,fun a q u e=>by rw[dB (TC e hp)];exact x.fz a q u e⟩
theorem bp.same{j:Rg}{m:Hp}{a:Oa}{u:Ob}(x:ar ρ j H m)(e:m a=H a)(q:bp K H ρ a u):bp K m j a u:=by
 cases u with
 | lst s=>obtain⟨b,g,d⟩:=q;exact⟨b,e.trans g,Ro.same x _ d⟩
 | ins y fs=>obtain⟨C,r,b,n,g,d,i⟩:=q;exact⟨C,r,b,n,e.trans g,d,Ro.same x _ i⟩
 | dk k=>obtain⟨b,g,d,i⟩:=q;exact⟨b,e.trans g,d,Ro.same x _ i⟩
 | dt k=>obtain⟨b,g,d,i⟩:=q;exact⟨b,e.trans g,d,Ro.same x _ i⟩
 | df k=>obtain⟨o,b,g,d,i⟩:=q;exact⟨o,b,e.trans g,d,Ro.same x _ i⟩
theorem Ys.same{a:Rg}{b:Hp}{l:LI}{σ:L2.St}(x:ar ρ a H b)(L:Ys K H ρ l σ):Ys K b a l σ:=
 ⟨L.len,fun i d e=>let ⟨v,e1,r⟩:=L.val i d e;⟨v,e1,Te.same x d r⟩⟩
theorem mX(hp:H p=none):ar ρ (ρ.hide p) H (IB H p o):=
 ⟨fun z z e n=>kg hp e n,fun a u e z=>by rw[dB (TC e hp)];exact e,fun z z e=>e,fun a q u e=>by rw[dB (TC e hp)];exact e⟩
theorem jS{o:HO}(b:BU H p):ar (ρ.hide p) (ρ.hide p) H (IB H p o):=
 ⟨fun v v v n=>n,fun a u e n=>by rw[dB (fun z=>n.2 (by rw[z];exact uq))];exact e,fun v v e=>e,fun a q u e=>by rw[dB (fun z:a=p=>b q u (by rw[<- z];exact e))];exact e⟩
theorem nX:ar (ρ.hide p) ρ H H:=⟨fun q q q n=>⟨n.1,fun z=>n.2 (ou _ z)⟩,fun q q e q=>e,fun q q e=>e,fun q q q e=>e⟩
theorem eZ:ar (ρ.hide p) (ρ.add p) H H:=
 ⟨fun a q q n=>⟨fun z=>(Bs.mp z).elim n.1 fun z=>n.2 (by rw[Ba.mp z];exact uq),fun z=>n.2 (ou _ z)⟩,fun q q e q=>e,fun n a e=>by
  have b:ρ.v[n]?=ε a:=e;have:=(Wi b).1;show(ρ.v++[p])[n]?=ε a;rw[Xo this];exact b,fun q q q e=>e⟩
theorem Vo.hide{xs:Ms V}(S:Vo K ρ h H)(hp:H p=none):Vo K (ρ.hide p) h (IB H p (.lst xs)):=
 ⟨S.nd,S.len,fun n a u b e2=>(S.ob n a u b e2).same (mX hp) (dB (fun z=>(S.out hp).1 (z ▸ lu b))),fun a d=>by
  rcases Bo.mp d with z | z
  . rw[z];exact⟨(S.out hp).1,xs,IC⟩
  . obtain⟨m,u,e⟩:=S.zt a z;exact⟨m,u,by rw[dB (TC e hp)];exact e⟩⟩
theorem Vo.km{xs:Ms V}(S:Vo K (ρ.hide p) h H):Vo K (ρ.hide p) h (IB H p (.lst xs)):=
 ⟨S.nd,S.len,fun n a u d e2=>(S.ob n a u d e2).same (jS (iH (S.zt p uq).2.choose_spec)) (dB (fun z=>(S.zt p uq).1 (z ▸ lu d))),fun a g=>by
  obtain⟨m,u,e⟩:=S.zt a g;by_cases b:a=p
  . subst b;exact⟨m,xs,IC⟩
  . exact⟨m,u,by rw[dB b];exact e⟩⟩
theorem Vo.show(S:Vo K (ρ.hide p) h H):Vo K ρ h H:=
 ⟨S.nd,S.len,fun n a u d e2=>(S.ob n a u d e2).same nX rfl,fun a b=>S.zt a (ou _ b)⟩
theorem Vo.ko(S:Vo K (ρ.hide p) h H)(s:p∉ρ.z){ds:Ms Dt}{vs:Ms V}(e:H p=ε (.lst vs))(R:Ro K H (ρ.hide p) ds vs):Vo K (ρ.add p) (h++[.lst ds]) H:=by
 have r:=(S.zt p uq).1;refine⟨?_,by simp![Rg.add];rw[ji,ji,<- S.len];rfl,fun n a ob d e2=>?_,fun a i=>?_⟩
 . simp![Rg.add];rw[nodup_append];refine⟨S.nd,Le.mpr ⟨by simp,nodup_nil⟩,fun a i b x=>?_⟩;rw[Ba.mp x];intro z;exact r (z ▸ i)
 . simp![Rg.add]at d;have m:ρ.v.length=h.length:=S.len;by_cases j:n<h.length
   . rw[Xo j]at e2;rw[Xo (by rw[m];exact j)]at d;exact(S.ob n a ob d e2).same eZ rfl
   . have g:h.length<=n:=Io.mp j;rw[ab g]at e2;rw[ab (by rw[m];exact g),m]at d;cases q:n-h.length with
     | zero=>rw[q]at d e2;simp at d e2;subst d e2;exact⟨vs,e,Ro.same eZ _ R⟩
     | succ k=>rw[q]at e2;simp at e2
 . obtain⟨n,u,y⟩:=S.zt a (ou _ i);refine⟨fun hm=>?_,u,y⟩;rcases Bs.mp hm with hm | hm
   . exact n hm
   . exact s ((Ba.mp hm) ▸ i)
end
section
variable{X:Cx}{s f j:Oe}{p:Ms Oe}{scope:Scope}{t:Ms (Str×Oa)}{pos:Pos}{Nc:Ms Str}{g:RI}{bd:RG}{tc:RT}{te:RE}{c:Ms (Ni Nat)}
theorem KL{σ:L2.St}{H:Hp}{Q:VK}(own:Bool){d:Dt}{h':HI}{ρ:Rg}{l:LI}{h:HI}(S:Vo X.K ρ h H)(L:Ys X.K H ρ l σ)
 (e:(if own=true then rE g bd tc te c else xC g bd tc te c) l h=ε (d,h')) (k:Out X.K ρ H d h' Q):eU (iM X.K g) (gM X.K bd) (oN X.K tc) (tM X.K te) c σ H Q:=by
 have e0:∃I M,g l h=ε (I,M)/\∃E F,WD bd tc te I (I.fuel M) 0 (oF l c) M []=ε (E,F)/\h'=(if own=true then F++[.lst E]else F)/\d=(if own=true then .ref F.length else .lst E):=by
  cases own with
  | true=>rw[eG rfl]at e;obtain⟨⟨I,M⟩,e1,e⟩:=qA e;obtain⟨⟨E,F⟩,e2,e⟩:=qA e;cases e;exact⟨I,M,e1,E,F,e2,rfl,rfl⟩
  | false=>rw[eH Wk]at e;obtain⟨⟨I,M⟩,e1,e⟩:=qA e;obtain⟨⟨E,F⟩,e2,e⟩:=qA e;cases e;exact⟨I,M,e1,E,F,e2,rfl,rfl⟩
 obtain⟨I,M,e1,zs,F,e2,eh,ed⟩:=e0;refine⟨ρ,l,h,I,M,S,L,e1,fun O J H1 ok S1 E1 D W=>?_⟩;have a3:D∉O.z:=(S1.out W).2;refine⟨fun i m a0 E H'=>∃r l' h' ds,Vo X.K (r.hide D) h' H'/\Ys X.K H' (r.hide D) l' a0/\sx O r H1 H'/\H' D=ε (.lst E)/\Ro X.K H' (r.hide D) ds E/\WD bd tc te I m i l' h' ds=ε (zs,F),?_,?_⟩
 . exact⟨_,O,_,M,[],S1.hide W,kf (Ys.same (mX W) (L.ext E1)) c,sx.fresh W,IC,.nil,e2⟩
 . rintro i m a0 E H' ⟨r,l',h3,ds,Z,L',C,R,R',B⟩;cases m with
   | zero=>simp![WD]at B;cases B
   | succ m=>
    simp![WD]at B;have sm:ar O (r.hide D) H1 H':=⟨fun a u z n=>⟨(C.fx z n).1,fun w=>by
     rcases Bo.mp w with w | w
     . rw[w,W]at z;cases z
     . exact(C.fx z n).2 w⟩,fun a u z n=>C.keep a u z n.1,fun n a z=>C.get z,C.fz⟩
    have P:=ok H' (r.hide D) h3 sm Z i;cases q:I.at h3 i with
    | none=>rw[q]at B;cases B
    | some o=>
     rw[q]at B P;cases o with
     | none=>
      cases B;refine .inl ⟨P,?_⟩;have nD:r.no D:=⟨(Z.zt D uq).1,by rw[C.hid];exact a3⟩;cases own with
      | false=>rw[eH Wk]at eh ed;subst eh ed;exact k r _ H' (bm.mpr ⟨D,E,rfl,.inl ⟨nD,.inl R⟩,Ro.same nX _ R'⟩) Z.show (E1.trans C)
      | true=>
       rw[eG rfl]at eh ed;subst eh ed;refine k (r.add D) _ H' (af.mpr ⟨D,rfl,?_⟩) (Z.ko nD.2 R R') (E1.trans ⟨?_,C.hid,C.keep,C.live,C.fz⟩)
       . have hl:r.v.length=F.length:=Z.len;show(r.v++[D])[F.length]?=ε D;rw[<- hl,ab (Uo _),Ds];rfl
       . obtain⟨x,q1,q2⟩:=C.pre;refine⟨x++[D],by show r.v++[D]=_;rw[q1,su],fun a ha=>?_⟩;rcases Bs.mp ha with ha | ha
         . exact q2 a ha
         . rw[Ba.mp ha];exact W
     | some d0=>
      dsimp only at B;obtain⟨l1,b1,B⟩:=qA B;obtain⟨⟨b,h4⟩,b2,B⟩:=qA B;refine .inr ⟨P.1,fun v H3 y=>?_⟩;obtain⟨R3,Y,S3⟩:=P.2 v H3 y;have a1:=(Z.zt D uq).1;refine⟨r.hide D,l',h3,d0,l1,S3,L'.ext Y,R3,b1,fun a4 L4=>⟨r.hide D,l1,h3,b,h4,S3,L4,b2,fun a2 H5 S5 T=>?_⟩⟩;cases b with
      | true=>
       dsimp only at B;rw[eG rfl]at B;obtain⟨⟨d5,h5⟩,b3,B⟩:=qA B;by_cases hz:ds.length<sizeLine
       . rw[eG hz]at B;refine fH ⟨a2,l1,h4,d5,h5,S5,L4.ext T,b3,fun a5 v6 H6 R6 S6 E6=>⟨?_,by rw[R'.length];exact hz,m,zu _,?_⟩⟩
         . exact(Y.trans (T.trans E6)).keep D _ R a1
         . obtain⟨U,rfl,E7⟩:=(Y.trans (T.trans E6)).gu;refine⟨U,l1,h5,ds++[d5],S6.km,Ys.same (jS (iH (S6.zt D uq).2.choose_spec)) (L4.ext (T.trans E6)),(C.trans E7).ki W,IC,?_,B⟩;exact Ro.same (jS (iH (S6.zt D uq).2.choose_spec)) _ ((R'.ext (Y.trans (T.trans E6))).append (.cons R6 .nil))
       . rw[eH hz]at B;cases B
      | false=>dsimp only at B;rw[eH Wk]at B;refine dH ⟨m,zu _,?_⟩;obtain⟨U,rfl,E7⟩:=(Y.trans T).gu;exact⟨U,l1,h4,ds,S5,L4.ext T,C.trans E7,(Y.trans T).keep D _ R a1,R'.ext (Y.trans T),B⟩
theorem ZE(i:Nat){x:Str}{pos:Pos}(e:decide X.N.Nodup=true:=by kernel_rfl)(b:autoParam (X.N[i]?=ε x) Æ)(a:autoParam (xK X.env.scope x) ö)(d:autoParam (X.fn x=true\/X.env.scope.names.lookup x=ε .local) Ø):GM X (.Name x pos) (rA i):=NB i (of_decide_eq_true e) b a d
theorem uF(q:IM X j f g)(r:∀{C s0 H0 fp},GM (MF X (QH j X.N c) scope t C s0 H0 fp) j bd)(o:∀{C s0 H0 fp},CM (MF X (QH j X.N c) scope t C s0 H0 fp) p tc)(he:∀{C s0 H0 fp},EM (MF X (QH j X.N c) scope t C s0 H0 fp) s te)
 (u:autoParam (X.calm=true) Æ) (i:autoParam (∀y∈scope.names,y.2≠.cell) ð) (b:autoParam (scope.kind=.function) Æ)
 (a:autoParam (∀y∈scope.names,y.2=.local->scope.names.lookup y.1=ε .local) ð) (n:autoParam (gE X.env.cells scope.names []=ε t) Æ) (m:al X scope t (QH j X.N c) c:=by repeat' first | exact trivial | exact⟨rfl,.inl rfl,.inl rfl,rfl⟩ | refine⟨?_,?_⟩)
 (hs:autoParam (∀x,foldedSetIterable f X.env x=pure x) å):EM X (.ListComp s [⟨j,f,p,0⟩] scope pos) (xC g bd tc te c):=by
 unhygienic exact PE.imp (C0 (g:=gM X.K bd) (tc:=oN X.K tc) (te:=tM X.K te) u q n (.no i) b a m (fun v z=>nomatch z) (fun v v v v=>r) (fun v v v v=>o) (fun v v v v=>he) hs) fun B H Q ⟨D,l,h,d,E,S,L,e,k⟩=>KL (X:=X) false S L e k
theorem yX(q:IM X j f g)(r:∀{C s0 H0 fp},GM (MF X (QH j X.N c) scope t C s0 H0 fp) j bd)(o:∀{C s0 H0 fp},CM (MF X (QH j X.N c) scope t C s0 H0 fp) p tc)(he:∀{C s0 H0 fp},EM (MF X (QH j X.N c) scope t C s0 H0 fp) s te)
 (u:autoParam (X.calm=true) Æ) (i:autoParam (∀y∈scope.names,y.2≠.cell) ð) (b:autoParam (scope.kind=.function) Æ)
 (a:autoParam (∀y∈scope.names,y.2=.local->scope.names.lookup y.1=ε .local) ð) (n:autoParam (gE X.env.cells scope.names []=ε t) Æ) (m:al X scope t (QH j X.N c) c:=by repeat' first | exact trivial | exact⟨rfl,.inl rfl,.inl rfl,rfl⟩ | refine⟨?_,?_⟩)
 (hs:autoParam (∀x,foldedSetIterable f X.env x=pure x) å):EM X (.ListComp s [⟨j,f,p,0⟩] scope pos) (rE g bd tc te c):=by
 unhygienic exact PE.imp (C0 (g:=gM X.K bd) (tc:=oN X.K tc) (te:=tM X.K te) u q n (.no i) b a m (fun v z=>nomatch z) (fun v v v v=>r) (fun v v v v=>o) (fun v v v v=>he) hs) fun B H Q ⟨D,l,h,d,E,S,L,e,k⟩=>KL (X:=X) true S L e k
theorem nH(i:Nat){y:Str}{E b:Pos}(R:X.N.Nodup)(O:IM X j f g)(P:∀{C s0 H0 fp},GM (MF X (QH j X.N c) scope t C s0 H0 fp) j bd)(M:∀{C s0 H0 fp},CM (MF X (QH j X.N c) scope t C s0 H0 fp) p tc)(he:∀{C s0 H0 fp},EM (MF X (QH j X.N c) scope t C s0 H0 fp) s te)
 (Q:autoParam (X.calm=true) Æ) (m:autoParam (∀y∈scope.names,y.2≠.cell) ð) (d:autoParam (scope.kind=.function) Æ)
 (a:autoParam (∀y∈scope.names,y.2=.local->scope.names.lookup y.1=ε .local) ð) (B:autoParam (gE X.env.cells scope.names []=ε t) Æ) (n:al X scope t (QH j X.N c) c:=by repeat' first | exact trivial | exact⟨rfl,.inl rfl,.inl rfl,rfl⟩ | refine⟨?_,?_⟩)
 (q:autoParam (swapsWith (.ListComp s [⟨j,f,p,0⟩] scope pos) (ε (.Name y E)) b.line X.env=pure true) Æ)
 (u:autoParam (X.N[i]?=ε y) Æ) (J:autoParam (X.env.scope.names.lookup y=ε .local) Æ) (hs:autoParam (∀x,foldedSetIterable f X.env x=pure x) å) :
 ZM X (.Assign [.Name y E] (.ListComp s [⟨j,f,p,0⟩] scope pos) b) (zA i (xC g bd tc te c)):=by
 unhygienic exact PS.imp (iS (g:=gM X.K bd) (tc:=oN X.K tc) (te:=tM X.K te) Q R u J O B (.no m) d a n (fun w z=>nomatch z) (fun w w w w=>P) (fun w w w w=>M) (fun w w w w=>he) q hs) fun D Z H I=>by obtain⟨ρ,l,h,r,S,L,e,k⟩:=I;obtain⟨⟨d1,h1⟩,T,e⟩:=qA e;cases e;exact KL (X:=X) false S L T fun o v Y W U F=>k o _ Y U ((L.ext F).set i W) F
theorem CL(i:Nat){y:Str}{E b:Pos}(R:X.N.Nodup)(O:IM X j f g)(P:∀{C s0 H0 fp},GM (MF X (QH j X.N c) scope t C s0 H0 fp) j bd)(M:∀{C s0 H0 fp},CM (MF X (QH j X.N c) scope t C s0 H0 fp) p tc)(he:∀{C s0 H0 fp},EM (MF X (QH j X.N c) scope t C s0 H0 fp) s te)
 (Q:autoParam (X.calm=true) Æ) (m:autoParam (∀y∈scope.names,y.2≠.cell) ð) (d:autoParam (scope.kind=.function) Æ)
 (a:autoParam (∀y∈scope.names,y.2=.local->scope.names.lookup y.1=ε .local) ð) (B:autoParam (gE X.env.cells scope.names []=ε t) Æ) (n:al X scope t (QH j X.N c) c:=by repeat' first | exact trivial | exact⟨rfl,.inl rfl,.inl rfl,rfl⟩ | refine⟨?_,?_⟩)
 (q:autoParam (swapsWith (.ListComp s [⟨j,f,p,0⟩] scope pos) (ε (.Name y E)) b.line X.env=pure true) Æ)
 (u:autoParam (X.N[i]?=ε y) Æ) (J:autoParam (X.env.scope.names.lookup y=ε .local) Æ) (hs:autoParam (∀x,foldedSetIterable f X.env x=pure x) å) :
 ZM X (.Assign [.Name y E] (.ListComp s [⟨j,f,p,0⟩] scope pos) b) (zA i (rE g bd tc te c)):=by
 unhygienic exact PS.imp (iS (g:=gM X.K bd) (tc:=oN X.K tc) (te:=tM X.K te) Q R u J O B (.no m) d a n (fun w z=>nomatch z) (fun w w w w=>P) (fun w w w w=>M) (fun w w w w=>he) q hs) fun D Z H I=>by obtain⟨ρ,l,h,r,S,L,e,k⟩:=I;obtain⟨⟨d1,h1⟩,T,e⟩:=qA e;cases e;exact KL (X:=X) true S L T fun o v Y W U F=>k o _ Y U ((L.ext F).set i W) F
end
noncomputable def iT(Nc:Ms Str)(a:Ms (Ni Nat))(x:Str):Bool:=(Nc.zip a).all fun p=>!(p.1==x&&p.2.isSome)
theorem Hg{Nc:Ms Str}{cap:Ms (Ni Nat)}{x:Str}(h:iT Nc cap x=true):∀(i j:Nat),Nc[i]?=ε x->cap[i]?=ε (ε j)->False:=fun i j b e2=>by
 unfold iT at h;rw[all_eq_true]at h;have a:(x,ε j)∈Nc.zip cap:=by rw[mem_iff_getElem?];exact⟨i,by rw[getElem?_zip_eq_some];exact⟨b,e2⟩⟩
 have:=h _ a;simp at this
section
variable{X:Cx}{c a j:Oe}{b:Ms Oe}{scope:Scope}{f:Ms (Str×Oa)}{pos:Pos}{Nc:Ms Str}{g:RI}{bd:RG}{tc:RT}{te:RE}{d:Ms (Ni Nat)}{x0:Str}
theorem jy(i:Nat){y:Str}{F n:Pos}(R:X.calm=true)(T:X.N.Nodup)(P:IM X j a g)(one:ci scope.names (ε x0))(o:scope.kind=.function)
 (m:∀y∈scope.names,y.2=.local->scope.names.lookup y.1=ε .local) (E:gE X.env.cells scope.names []=ε f) (p:al X scope f Nc d) (s:iT Nc d x0=true)
 (Q:∀{C s0 H0 fp},GM (QC X Nc scope f C (ε x0) s0 H0 fp) j bd) (O:∀{C s0 H0 fp},CM (QC X Nc scope f C (ε x0) s0 H0 fp) b tc) (he:∀{C s0 H0 fp},EM (QC X Nc scope f C (ε x0) s0 H0 fp) c te)
 (u:swapsWith (.ListComp c [⟨j,a,b,0⟩] scope pos) (ε (.Name y F)) n.line X.env=pure true)
 (B:autoParam (X.N[i]?=ε y) Æ) (M:autoParam (X.env.scope.names.lookup y=ε .local) Æ) (hs:autoParam (∀x,foldedSetIterable a X.env x=pure x) å) :
 ZM X (.Assign [.Name y F] (.ListComp c [⟨j,a,b,0⟩] scope pos) n) (zA i (rE g bd tc te d)):=by
 unhygienic exact PS.imp (iS (g:=gM X.K bd) (tc:=oN X.K tc) (te:=tM X.K te) R T B M P E one o m p (fun t z=>by cases z;exact Hg s) (fun t t t t=>Q) (fun t t t t=>O) (fun t t t t=>he) u hs) fun D σ H J=>by obtain⟨ρ,l,h,r,S,L,e,k⟩:=J;obtain⟨⟨d1,h1⟩,U,e⟩:=qA e;cases e;exact KL (X:=X) true S L U fun q v Z Y W I=>k q _ Z W ((L.ext I).set i Y) I
end
noncomputable def BC:Ms Dt->Ni (Ms Int)
 | []=>ε []
 | .int i::ds=>(BC ds).map fun ns=>i::ns
 | _::_=>none
theorem fF:∀{ds:Ms Dt}{ns:Ms Int},BC ds=ε ns->ds=ns.map Dt.int
 | [],_,e=>by simp![BC]at e;cases e;rfl
 | d::ds,_,e=>by
  cases d with
  | int i=>
   simp![BC]at e;cases q:BC ds with
   | none=>rw[q]at e;cases e
   | some ns=>rw[q]at e;cases e;rw[fF q];rfl
  | _=>simp![BC]at e<;>cases e
theorem XR(A:Pa):A.in1.units<=A.units+1:=by first | exact Uo _ | simp[Around.in1]
theorem DJ{h:Pu}{a:Oa}{its:Pb Mu}(p:IsTup h a its):h.IsTuple a its:=by obtain⟨o,e,d,n,b⟩:=p;exact⟨o,e,d,n,b⟩
def wQ:Dt->Dt->Bool
 | .tup xs,.tup ys=>decide (BC xs=BC ys)
 | _,_=>false
def WG:Dt->Bool
 | .tup a=>(BC a).isSome
 | _=>false
def lK:Ms Dt->Bool
 | []=>true
 | x::xs=>WG x&&lK xs
noncomputable def LQ(_:Dt):Nat:=1
def uK:Ms Dt->Nat
 | []=>0
 | x::xs=>max (LQ x) (uK xs)
theorem iP:∀{d:Dt},WG d=true->∃a ns,d=.tup a/\BC a=ε ns
 | .tup a,p=>by obtain⟨ns,e⟩:=Option.isSome_iff_exists.mp (show(BC a).isSome=true from p);exact⟨a,ns,rfl,e⟩
 | .non,p=>nomatch (show false=true from p)
 | .bl _,p=>nomatch (show false=true from p)
 | .int _,p=>nomatch (show false=true from p)
 | .str _,p=>nomatch (show false=true from p)
 | .lst _,p=>nomatch (show false=true from p)
 | .ref _,p=>nomatch (show false=true from p)
 | .ntp _,p=>nomatch (show false=true from p)
section
variable{X:Cx}{c:Ms (Oa×Obj)}{f:L2.St}{H:Hp}{s:Nu}{ρ:Rg}
theorem lI:∀{ns:Ms Int}{vs:Ms V},Ro X.K H ρ (ns.map Dt.int) vs->vs=ns.map V.int
 | [],_,r=>r.av
 | n::ns,_,r=>by obtain⟨v,d,rfl,b,a⟩:=r.Za;rw[Xa.mp b,lI a];rfl
theorem YR{A:Pa}:∀{ns b:Ms Int}{us a:Ms Mu},ss (ns.map V.int) us->ss (b.map V.int) a->∀(j:Nat)(h1:j<us.length)(h2:j<a.length),SeqAt.EqAt A s us[j] a[j] (decide (ns[j]?=b[j]?))
 | [],_,_,_,.nil,_,_,h1,_=>Ei h1 ⋯
 | _::_,[],_,_,_,.nil,_,_,h2=>Ei h2 ⋯
 | n::ns,m::b,_,_,.cons q1 _,.cons q2 _,0,_,_=>by
  obtain⟨t,rfl⟩:=q1;obtain⟨d,rfl⟩:=q2;have e:decide ((n::ns)[0]?=(m::b)[0]?)=(n==m):=by rw[Bool.eq_iff_iff];simp
  rw[e];exact SeqAt.EqAt.int_int n t m d
 | _::_,_::_,_,_,.cons _ q1,.cons _ q2,j+1,h1,h2=>YR q1 q2 j (Nat.lt_of_succ_lt_succ h1) (Nat.lt_of_succ_lt_succ h2)
theorem zY(ns d:Ms Int):((List.range (min ns.length d.length)).all (fun j=>decide (ns[j]?=d[j]?))&&ns.length==d.length)=decide (ns=d):=by
 rw[Bool.eq_iff_iff];simp![xr,all_eq_true,Ca,decide_eq_true_eq,beq_iff_eq];constructor
 . rintro⟨a,b⟩;refine ext_getElem? fun j=>?_
   by_cases e:j<ns.length
   . exact a j nofun
   . rw[ju nofun,ju nofun]
 . rintro rfl;exact⟨fun q q=>rfl,rfl⟩
theorem wZ(I:so X c f H s)(d d':Dt){v:V}(p:WG d=true)(n:WG d'=true)(r:Te X.K H ρ d v)(k:Te X.K H ρ d' v):d=d':=by obtain⟨x,ns,rfl,e⟩:=iP p;obtain⟨u,C,rfl,o⟩:=iP n;obtain⟨a,B,z,q,j⟩:=ag.mp r;obtain⟨b,y,i,m,g⟩:=ag.mp k;rw[z]at i;cases i;cases I.gr q.sq m.sq;rw[fF e]at j ⊢;rw[fF o]at g ⊢;have:=(lI j).symm.trans (lI g);rw[map_inj_right (fun t t h=>by cases h;rfl)]at this;rw[this]
theorem O7(I:so X c f H s)(d d':Dt){v y:V}{u B:Mu}(A:Pa)(p:WG d=true)(F:WG d'=true)(T:A.units+LQ d<cLine)(r:Te X.K H ρ d v)(E:Te X.K H ρ d' y)(q:td v u)(R:td y B):SeqAt.EqAt A s u B (wQ d d'):=by
 obtain⟨x,ns,rfl,e⟩:=iP p;obtain⟨o,J,rfl,n⟩:=iP F;obtain⟨a,Z,z,t,D⟩:=ag.mp r;obtain⟨b,Y,O,Q,h⟩:=ag.mp E;subst z O;cases q;cases R;have m:A.units<cLine:=Du (La _ _) T;have M:wQ (.tup x) (.tup o)=decide (ns=J):=by show decide (BC x=BC o)=_;rw[e,n,Bool.eq_iff_iff];simp
 by_cases i:a=b
 . subst i;cases wZ I _ _ p F r E;cases e.symm.trans n;rw[M,iu rfl];exact SeqAt.EqAt.same _
 . refine .of_refs i ?_;obtain⟨S,C,P,_⟩:=I.tuple t.sq;obtain⟨L,g,k,_⟩:=I.tuple Q.sq;rw[fF e]at D;rw[fF n]at h;cases lI D;cases lI h;have z:=SeqAt.RcAt.tuples (e:=fun j=>decide (ns[j]?=J[j]?)) (DJ P) (DJ k) m fun j W U=>YR C g j W U
   rw[dh,dh,<- C.length,<- g.length,ni,ni,zY]at z;rw[M];exact z
end
section
variable{X:Cx}{a b c e:Oe}{es:Ms Oe}{fa fb fc f:RE}{g:RA}{p p2 pos:Pos}
def FB:qD:=B5
def ED:qD:=C5
theorem hC(_:X.A.units+64<cLine):OM X (compareOp .Eq) FB:=M4
theorem fE(_:X.A.units+64<cLine):OM X (compareOp .NotEq) ED:=N4
def vE:Ms Dt->Ni (Ms V)
 | []=>ε []
 | d::ds=>(DD d).bind fun v=>(vE ds).map fun h=>v::h
theorem BX{K:Oi}{H:Hp}{ρ:Rg}:∀{ds:Ms Dt}{ws vs:Ms V},vE ds=ε ws->Ro K H ρ ds vs->vs=ws
 | [],_,_,e,r=>by simp![vE]at e;cases e;exact r.av
 | d::ds,_,_,e,r=>by
  simp![vE]at e;obtain⟨v,j,e⟩:=qA e;cases q:vE ds with
  | none=>rw[q]at e;cases e
  | some vs=>rw[q]at e;cases e;obtain⟨k,m,z,i,h⟩:=r.Za;subst z;rw[OJ j i,BX q h]
theorem A2{d:Dt}{v:V}(e:DD d=ε v):rG v=true:=by cases d<;>simp![DD]at e<;>first | (cases e;rfl) | cases e
theorem RZ:∀{ds:Ms Dt}{ws:Ms V},vE ds=ε ws->ws.all rG=true
 | [],_,e=>by simp![vE]at e;cases e;rfl
 | d::ds,_,e=>by
  simp![vE]at e;obtain⟨v,h,e⟩:=qA e;cases q:vE ds with
  | none=>rw[q]at e;cases e
  | some i=>rw[q]at e;cases e;rw[Ju,A2 h,RZ q];rfl
def XG(neg:Bool):qD:=fun a b h=>(DD a).bind fun x=>(FD h b).bind fun d=>(vE d).bind fun zs=>ε (.bl (if neg then !LM x zs else LM x zs),h)
theorem VZ{neg:Bool}{x y:V}{H:Hp}{Q:VK}(h:rM X.K (XG neg) x y H Q):e7 X.K neg x y H Q:=by obtain⟨m,h,F,E,d,D,S,u,R2,e,k⟩:=h;obtain⟨C,j,e⟩:=qA e;obtain⟨B,e2,e⟩:=qA e;obtain⟨zs,i,e⟩:=qA e;cases e;obtain⟨p,n,s,sq,r⟩:=xP S R2 e2;have q:=BX i r;subst q;have o:=OJ j u;subst o;exact⟨p,n,s,sq,A2 j,RZ i,k m _ H (Zi.mpr rfl) S (sx.refl _ _)⟩
theorem jU:OM X (compareOp .In) (XG false):=by unhygienic exact tv.imp Wf fun q q q q h=>VZ h
theorem kq:OM X (compareOp .NotIn) (XG true):=by unhygienic exact tv.imp Gk fun q q q q h=>VZ h
def XH:qD:=fun a b h=>(KA h a).bind fun i=>(KA h b).bind fun d=>if i.length+d.length<=sizeLine then ε (.lst (i++d),h)else none
def pK:qD:=fun a b h=>(KA h a).bind fun i=>(KA h b).bind fun d=>if i.length+d.length<=sizeLine then ε (.ref h.length,h++[.lst (i++d)])else none
theorem P1:OM X (binaryOp .Add) XH:=by unhygienic exact tv.imp A0 fun x y H Q n=>by obtain⟨m,h,J,I,d,F,S,C,R2,e,k⟩:=n;obtain⟨E,B,e⟩:=qA e;obtain⟨D,e2,e⟩:=qA e;obtain⟨u,e⟩:=GF e;cases e;obtain⟨l,s,q,q1,j⟩:=SC S C B;obtain⟨b,r,o,q2,i⟩:=SC S R2 e2;exact⟨l,b,s,r,q,o,q1,q2,by rw[j.length,i.length];exact u,fun p hp=>k m _ _ (UP S (j.append i) hp) (S.fresh hp) (sx.fresh hp)⟩
theorem kr:OM X (binaryOp .Add) pK:=by unhygienic exact tv.imp A0 fun x y H Q m=>by obtain⟨C,h,J,I,d,F,S,B,R2,e,k⟩:=m;obtain⟨E,u,e⟩:=qA e;obtain⟨D,e2,e⟩:=qA e;obtain⟨s,e⟩:=GF e;cases e;obtain⟨l,r,o,q1,j⟩:=SC S B u;obtain⟨b,q,n,q2,i⟩:=SC S R2 e2;exact⟨l,b,r,q,o,n,q1,q2,by rw[j.length,i.length];exact s,fun p hp=>k _ _ _ (xH S (j.append i) hp).1 (xH S (j.append i) hp).2 (sx.own hp)⟩
noncomputable def QB(F:Dt->HI->Ni (Dt×HI))(f:RE):RE:=fun l h=>(f l h).bind fun r=>F r.1 r.2
theorem wM{x:Str}{o:String}{r:Ms V->Hp->VK->Prop}{F:Dt->HI->Ni (Dt×HI)}(I:ae X (.builtin o) r)(M:∀i h d v u j H Q,Vo X.K i h H->Te X.K H i d v->F d h=ε (u,j)->Out X.K i H u j Q->r [v] H Q)
 (E:Gl X x) (D:X.mg x=none) (B:bootBuiltins x=ε (.builtin o)) (J:EM X e f) (C:autoParam (x ≠ "__name__" ) Ñ) (n:autoParam ((x==("__debug__" :Str))=false) Ñ) (hs:autoParam (fB e=true) Æ) :
 EM X (.Call (.Name x p) [e] [] pos) (QB F f):=by
 unhygienic exact PE.imp (GJ I E D B (wC J bD (kB hs _ _)) C n (he:=kB hs _ _)) fun W H Q y=>by obtain⟨i,l,h,d,j,S,L,e,k⟩:=y;obtain⟨⟨s,q⟩,O,e⟩:=qA e;exact⟨i,l,h,s,q,S,L,O,fun m v T R P U=>M m q s v d j T Q P R e (k.ext U)⟩
theorem B4{x:Str}{T:String}{r:Ms V->Hp->VK->Prop}{F:Dt->HI->Ni (Dt×HI)}(E:ae X (.type T) r)(J:∀i h d v s j H Q,Vo X.K i h H->Te X.K H i d v->F d h=ε (s,j)->Out X.K i H s j Q->r [v] H Q)
 (D:Gl X x) (C:X.mg x=none) (y:bootBuiltins x=ε (.type T)) (I:EM X e f) (B:autoParam (x ≠ "__name__" ) Ñ) (n:autoParam ((x==("__debug__" :Str))=false) Ñ) (hs:autoParam (fB e=true) Æ) :
 EM X (.Call (.Name x p) [e] [] pos) (QB F f):=by
 unhygienic exact PE.imp (rS E D C y (wC I bD (kB hs _ _)) B n (he:=kB hs _ _)) fun W H Q u=>by obtain⟨i,l,h,d,j,S,L,e,k⟩:=u;obtain⟨⟨q,o⟩,M,e⟩:=qA e;exact⟨i,l,h,q,o,S,L,M,fun m v R P O U=>J m o q v d j R Q O P e (k.ext U)⟩
def qB:Dt->HI->Ni (Dt×HI):=fun d h=>match d with
 | .str z=>if z.length<=sizeLine then ε (.int z.length,h)else none
 | d=>(FD h d).map fun i=>(.int i.length,h)
theorem UB (o:Gl X "len") (n:X.mg "len" =none) (s:EM X e f) (hs:autoParam (fB e=true) Æ):EM X (.Call (.Name "len" p) [e] [] pos) (QB qB f):=by
 unhygienic
  exact wM (ae.or Pk Rk) (fun i h d v y x H Q S R e k=>by
   unfold qB at e;split at e
   . rename_i z;obtain⟨m,e⟩:=GF e;cases e;exact .inr ⟨z,by rw[br.mp R],m,k i _ H (Xa.mpr rfl) S (sx.refl _ _)⟩
   . cases q:FD h d with
     | none=>rw[q]at e;cases e
     | some u=>
      rw[q]at e;cases e;obtain⟨a,j,z,sq,r⟩:=xP S R q;exact .inl ⟨a,j,by rw[z],sq,by rw[r.length];exact k i _ H (Xa.mpr rfl) S (sx.refl _ _)⟩) o n PySem.boot_len s (hs:=hs)
noncomputable def fG:Dt->HI->Ni (Dt×HI):=fun d h=>match d with
 | .int i=>ε (.int i,h)
 | .bl b=>ε (.int (if b then 1 else 0),h)
 | _=>none
theorem VJ (n:Gl X "int") (m:X.mg "int" =none) (o:EM X e f) (hs:autoParam (fB e=true) Æ):EM X (.Call (.Name "int" p) [e] [] pos) (QB fG f):=by
 unhygienic
  exact B4 Bt (fun j h d v r q H Q S R e k=>by
   unfold fG at e;split at e
   . rename_i i;cases e;exact .inl ⟨i,by rw[Xa.mp R],k j _ H (Xa.mpr rfl) S (sx.refl _ _)⟩
   . rename_i b;cases e;exact .inr ⟨b,by rw[Zi.mp R],k j _ H (Xa.mpr rfl) S (sx.refl _ _)⟩
   . cases e) n m PyProof.Rows.boot_int o (hs:=hs)
def xF:Dt->HI->Ni (Dt×HI):=fun d h=>(FD h d).map fun i=>(.ref h.length,h++[.lst i])
theorem OO (n:Gl X "list") (m:X.mg "list" =none) (o:EM X e f) (hs:autoParam (fB e=true) Æ):EM X (.Call (.Name "list" p) [e] [] pos) (QB xF f):=by
 unhygienic
  exact B4 Vk (fun s h d v y x H Q S R e k=>by
   unfold xF at e;cases q:FD h d with
   | none=>rw[q]at e;cases e
   | some u=>
    rw[q]at e;cases e;obtain⟨a,j,z,sq,r⟩:=xP S R q;exact⟨a,j,by rw[z],sq,fun l i=>k _ _ _ (xH S r i).1 (xH S r i).2 (sx.own i)⟩) n m PyProof.Rows.boot_list o (hs:=hs)
def dN:Dt->HI->Ni (Dt×HI):=fun d h=>(KA h d).bind fun i=>(BC i).map fun ns=>(.int ns.sum,h)
theorem N7 (o:X.calm=true) (n:Gl X "sum") (m:X.mg "sum" =none) (s:EM X e f) (hs:autoParam (fB e=true) Æ):EM X (.Call (.Name "sum" p) [e] [] pos) (QB dN f):=by
 unhygienic
  exact wM (Ot o) (fun i h d v B y H Q S R e k=>by
   obtain⟨j,u,e⟩:=qA e;cases q:BC j with
   | none=>rw[q]at e;cases e
   | some ns=>
    rw[q]at e;cases e;obtain⟨a,x,z,sq,r⟩:=SC S R u;rw[fF q]at r;rw[r.ce]at sq;exact⟨a,ns,by rw[z],sq,k i _ H (Xa.mpr rfl) S (sx.refl _ _)⟩) n m PyProof.Rows.boot_sum s (hs:=hs)
noncomputable def uC:Ms Int->Int
 | []=>0
 | [a]=>a
 | a::b::r=>max a (uC (b::r))
noncomputable def TB:Ms Int->Int
 | []=>0
 | [a]=>a
 | a::b::r=>min a (TB (b::r))
theorem OL:∀(ns:Ms Int),ns ≠ []->uC ns∈ns/\∀a∈ns,a<=uC ns
 | [],h=>Ei rfl h
 | [a],_=>by simp[uC]
 | a::b::r,_=>by
  obtain⟨j,i⟩:=OL (b::r) ⋯;simp![uC];refine⟨?_,fun c d=>?_⟩
  . rcases Int.le_total a (uC (b::r))with z | z
    . rw[Int.max_eq_right z];exact ou _ j
    . rw[Int.max_eq_left z];exact uq
  . rcases Bo.mp d with z | z
    . rw[z];exact Int.le_max_left _ _
    . exact Int.le_trans (i c z) (Int.le_max_right _ _)
theorem lG:∀(ns:Ms Int),ns ≠ []->TB ns∈ns/\∀a∈ns,TB ns<=a
 | [],h=>Ei rfl h
 | [a],_=>by simp[TB]
 | a::b::r,_=>by
  obtain⟨j,i⟩:=lG (b::r) ⋯;simp![TB];refine⟨?_,fun c d=>?_⟩
  . rcases Int.le_total a (TB (b::r))with z | z
    . rw[Int.min_eq_left z];exact uq
    . rw[Int.min_eq_right z];exact ou _ j
  . rcases Bo.mp d with z | z
    . rw[z];exact Int.min_le_left _ _
    . exact Int.le_trans (Int.min_le_right _ _) (i c z)
def EK:Dt->HI->Ni (Dt×HI):=fun d h=>(KA h d).bind fun i=>(BC i).bind fun ns=>if ns ≠ []then ε (.int (uC ns),h)else none
def fJ:Dt->HI->Ni (Dt×HI):=fun d h=>(KA h d).bind fun i=>(BC i).bind fun ns=>if ns ≠ []then ε (.int (TB ns),h)else none
theorem I0 (u:X.calm=true) (s:Gl X "max") (o:X.mg "max" =none) (x:EM X e f) (hs:autoParam (fB e=true) Æ):EM X (.Call (.Name "max" p) [e] [] pos) (QB EK f):=by
 unhygienic
  exact wM (Ft u) (fun j h d v I F H Q S R e k=>by
   obtain⟨D,C,e⟩:=qA e;obtain⟨ns,q,e⟩:=qA e;obtain⟨i,e⟩:=GF e;cases e;obtain⟨a,E,z,sq,r⟩:=SC S R C;rw[fF q]at r;rw[r.ce]at sq;obtain⟨n,m⟩:=OL ns i;refine⟨a,ns,by rw[z],sq,i,fun M B y=>?_⟩;have:M=uC ns:=Int.le_antisymm (m M B) (y _ n);rw[this];exact k j _ H (Xa.mpr rfl) S (sx.refl _ _)) s o PyProof.Rows.boot_max x (hs:=hs)
theorem ST (u:X.calm=true) (s:Gl X "min") (o:X.mg "min" =none) (x:EM X e f) (hs:autoParam (fB e=true) Æ):EM X (.Call (.Name "min" p) [e] [] pos) (QB fJ f):=by
 unhygienic
  exact wM (Jt u) (fun j h d v I F H Q S R e k=>by
   obtain⟨D,C,e⟩:=qA e;obtain⟨ns,q,e⟩:=qA e;obtain⟨i,e⟩:=GF e;cases e;obtain⟨a,E,z,sq,r⟩:=SC S R C;rw[fF q]at r;rw[r.ce]at sq;obtain⟨n,m⟩:=lG ns i;refine⟨a,ns,by rw[z],sq,i,fun M B y=>?_⟩;have:M=TB ns:=Int.le_antisymm (y _ n) (m M B);rw[this];exact k j _ H (Xa.mpr rfl) S (sx.refl _ _)) s o PyProof.Rows.boot_min x (hs:=hs)
noncomputable def SF(h:HI):Dt->Ni String
 | .non=>ε "NoneType"
 | .bl _=>ε "bool"
 | .int _=>ε "int"
 | .str _=>ε "str"
 | .tup _=>ε "tuple"
 | .lst _=>ε "list"
 | .ref n=>match h[n]? with | some (.lst _)=>ε "list" | _=>none
 | .ntp _=>none
noncomputable def UI (t T:String):Bool:=t==T || (t == "bool" && T == "int")
def pF(T:String)(f:RE):RE:=fun l h=>(f l h).bind fun r=>(SF r.2 r.1).map fun t=>(.bl (UI t T),r.2)
theorem kt (K:Oi):∀t ∈ ["NoneType", "bool", "int", "str", "tuple", "list"],∀T ∈ ["bool", "int", "str", "tuple", "list"],PySem.W.kitOne K (.type t) (.type T)=ε (UI t T):=by intro t d T h;simp![Bo,mem_nil_iff,or_false]at d h;rcases d with rfl | rfl | rfl | rfl | rfl | rfl<;>rcases h with rfl | rfl | rfl | rfl | rfl<;>unhygienic rfl
theorem Mx {h:HI} {d:Dt} {t:String} (e:SF h d=ε t):t ∈ ["NoneType", "bool", "int", "str", "tuple", "list"]:=by
 cases d with
 | ref n=>
  simp![SF]at e;split at e
  . cases e;decide
  . cases e
 | ntp n=>simp![SF]at e;cases e
 | _=>simp![SF]at e<;>cases e<;>decide
set_option tactic.hygienic true in
theorem Fz{K:Oi}{H:Hp}{ρ:Rg}{h:HI}{d:Dt}{v:V}{t:String}(S:Vo K ρ h H)(R:Te K H ρ d v)(e:SF h d=ε t):TyD K H v t:=by
 cases d with
 | non=>cases bo.mp R;simp![SF]at e;cases e;rfl
 | bl b=>cases Zi.mp R;simp![SF]at e;cases e;rfl
 | int b=>cases Xa.mp R;simp![SF]at e;cases e;rfl
 | str b=>cases br.mp R;simp![SF]at e;cases e;rfl
 | tup j=>obtain⟨a,i,z,t,k⟩:=ag.mp R;subst z;simp![SF]at e;cases e;exact .inr ⟨rfl,i,t.sq⟩
 | lst j=>obtain⟨a,i,z,t,k⟩:=bm.mp R;subst z;simp![SF]at e;cases e;exact .inl ⟨rfl,i,t.sq⟩
 | ref n=>
  obtain⟨a,z,m⟩:=af.mp R;subst z;simp![SF]at e;split at e
  . rename_i j q;cases e;obtain⟨i,o,_⟩:=S.lst m q;exact .inl ⟨rfl,i,to.of o⟩
  . cases e
 | ntp n=>simp![SF]at e;cases e
theorem pG {T:Str} {TT:String} (D:Gl X "isinstance") (C:X.mg "isinstance" =none) (n:Gl X T) (m:X.mg T=none) (B:bootBuiltins T=ε (.type TT)) (F:TT ∈ ["bool", "int", "str", "tuple", "list"]) (E:EM X e f)
 (j:autoParam (T ≠ "__name__" ) Ñ) (o:autoParam ((T==("__debug__" :Str))=false) Ñ)
 (hs:autoParam (fB e=true) Æ) :
 EM X (.Call (.Name "isinstance" p) [e,.Name T p2] [] pos) (pF TT f):=by
 unhygienic
  exact PE.imp (GJ (Zc (T:=TT)) D C PyProof.Rows.boot_isinstance (wC E (wC (hZ n m B (v:=.ty TT) rfl j o) bD (kB rfl _ _)) (kB hs _ _)) (he:=kB hs _ _)) fun P H Q y=>by
   obtain⟨x,l,h,d,R,S,L,e,k⟩:=y;obtain⟨⟨s,r⟩,I,e⟩:=qA e;refine⟨x,l,h,s,r,S,L,I,fun i v M J u O=>?_⟩;cases q:SF r s with
   | none=>rw[q]at e;cases e
   | some t=>rw[q]at e;cases e;exact⟨v,t,UI t TT,rfl,Fz u J q,kt X.K t (Mx q) TT F,k i _ M (Zi.mpr rfl) u O⟩
abbrev RO:=LI->HI->Ni (Ni Int×HI)
noncomputable def jN:RO:=fun _ h=>ε (none,h)
noncomputable def vG(f:RE):RO:=fun l h=>(f l h).bind fun r=>match r.1 with | .int i=>ε (ε i,r.2) | _=>none
inductive tMO(K:Frag)(f:RO)(σ:L2.St)(H:Hp)(Q:Option Int->Hp->Prop):Prop where
 | mk (ρ:Rg) (l:LI) (h:HI) (o:Option Int) (h':HI) (S:Vo K ρ h H) (L:Ys K H ρ l σ) (e:f l h=ε (o,h')) (k:dn K ρ H h' (Q o))
@[irreducible] def CU(X:Cx)(e:Ni Oe)(f:RO):Prop:=PO X e (tMO X.K f)
theorem PO.imp{X:Cx}{e:Ni Oe}{t t':TO}(h:PO X e t)(i:∀d H Q,t' d H Q->t d H Q):PO X e t':=fun j s d H Q I q=>h j s d H Q I (i d H Q q)
theorem nT:CU X none jN:=by unhygienic exact PO.imp ja fun j H Q i=>by obtain⟨d,l,h,o,m,S,L,e,k⟩:=i;cases e;exact k d H S (sx.refl _ _)
theorem uI(q:EM X a fa):CU X (ε a) (vG fa):=by
 unhygienic
  exact PO.imp (jb q) fun C H Q n=>by
   obtain⟨m,l,h,o,D,S,L,e,k⟩:=n;obtain⟨⟨j,r⟩,s,e⟩:=qA e;refine⟨m,l,h,j,r,S,L,s,fun d v y x u B=>?_⟩;cases j with
   | int i=>cases e;exact⟨i,Xa.mp x,k d y u B⟩
   | _=>cases e
def CF(xs:Ms Dt)(lo d:Ni Int):Ms Dt:=(xs.drop (HT.sIx xs.length 0 lo)).take (HT.sIx xs.length xs.length d-HT.sIx xs.length 0 lo)
def KM(f:RE)(lo i:RO):RE:=fun l h=>(f l h).bind fun r=>(lo l r.2).bind fun o=>(i l o.2).bind fun u=>(KA u.2 r.1).map fun d=>(.lst (CF d o.1 u.1),u.2)
theorem bZ{K:Oi}{H:Hp}{ρ:Rg}{xs:Ms Dt}{vs:Ms V}(r:Ro K H ρ xs vs)(lo d:Ni Int):Ro K H ρ (CF xs lo d) (cH vs lo d):=by unfold CF cH;rw[r.length];exact(r.drop _).take _
theorem YO{lo B:Ni Oe}{F I:RO}(W:EM X a fa)(T:CU X lo F)(U:CU X B I):EM X (.Subscript a (.Slice lo B none p2) pos) (KM fa F I):=by
 unhygienic
  exact PE.imp (tY a9 W T U) fun σ H Q P=>by
   obtain⟨O,l,h,d,h',S,L,e,k⟩:=P;obtain⟨⟨J,E⟩,Z,e⟩:=qA e;obtain⟨⟨o,D⟩,e2,e⟩:=qA e;obtain⟨⟨u,C⟩,Y,e⟩:=qA e;refine⟨O,l,h,J,E,S,L,Z,fun m v H1 R1 S1 y=>⟨m,l,E,o,D,S1,L.ext y,e2,fun j H2 S2 s=>⟨j,l,D,u,C,S2,L.ext (y.trans s),Y,fun i H3 n M=>?_⟩⟩⟩;cases q:KA C J with
   | none=>dsimp only at e;rw[q]at e;cases e
   | some xs=>dsimp only at e;rw[q]at e;cases e;obtain⟨x,R,z,sq,r⟩:=SC n (Te.ext (s.trans M) _ R1) q;exact⟨x,R,z,sq,fun p hp=>k i _ _ (UP n (bZ r o u) hp) (n.fresh hp) (y.trans (s.trans (M.trans (sx.fresh hp))))⟩
noncomputable def o6(fo fa:RE):RE:=fun l h=>(fo l h).bind fun r=>match r.1 with
 | .ref n=>(fa l r.2).bind fun q=>match q.2[n]? with
  | some (.lst xs)=>if xs.length<sizeLine then ε (.non,q.2.set n (.lst (xs++[q.1])))else none
  | _=>none
 | _=>none
theorem IT {K:Oi} {H:Hp} {ρ:Rg} {h:HI} {n:Nat} {xs:Ms Dt} {v:V} (S:Vo K ρ h H) (R:Te K H ρ (.ref n) v) (e:h[n]?=ε (.lst xs)):F7 K "list" v H:=by obtain⟨a,z,i⟩:=af.mp R;subst z;obtain⟨d,j,_⟩:=S.lst i e;exact .inl ⟨rfl,d,to.of j⟩
def sD(fa fb:RE):RE:=fun l h=>(fa l h).bind fun r=>match r.1 with
 | .ref n=>match r.2[n]? with
  | some (.lst _)=>o6 (eC (.ref n)) fb l r.2
  | _=>none
 | _=>none
theorem pE {j i:Pos} (Y:EM X a fa) (Z:EM X b fb) (o:autoParam (attributeBase a "append" X.env (eval a X.env)=eval a X.env) Æ)
 (m:autoParam ((j.endLine==i.line)=true) Æ) (hs:autoParam (fB b=true) Æ) :
 EM X (.Call (.Attribute a "append" j) [b] [] i) (sD fa fb):=by
 unhygienic
  exact PE.imp (HM PySem.F.plainAttrs_list PySem.F.slot_list_append PySem.F.type_list_append NX Y (wC Z bD (kB hs _ _)) o (UL hs) m (kB hs _ _)) fun σ H Q P=>by
   obtain⟨O,l,h,d,h',S,L,e,k⟩:=P;obtain⟨⟨D,C⟩,e1,e⟩:=qA e;refine⟨O,l,h,D,C,S,L,e1,fun x v H1 I F M=>?_⟩;cases D with
   | ref n=>
    dsimp only at e;split at e
    . rename_i T q0;obtain⟨⟨d0,h0⟩,R,e⟩:=qA e;cases R;dsimp only at e;obtain⟨⟨d2,h2⟩,e2,e⟩:=qA e;refine⟨IT F I q0,x,l,C,d2,h2,F,L.ext M,e2,fun u y H2 R2 E J=>?_⟩;dsimp only at e;split at e
      . rename_i xs q;obtain⟨W,e⟩:=GF e;cases e;obtain⟨a,z,ha⟩:=af.mp I;subst z;have r:=J.get ha;obtain⟨U,s,g2⟩:=E.lst r q;have B:=lu r;refine⟨a,U,y,rfl,rfl,s,by rw[g2.length];exact W,k u _ _ (bo.mpr rfl) (E.write r (iH s) ⟨_,IC,?_⟩) (M.trans (J.trans (sx.write B (iH s))))⟩;exact(g2.append (.cons R2 .nil)).ext (sx.write B (iH s))
      . cases e
    . cases e
   | _=>cases e
end
def EF:Ms Dt->Dt->Ni Nat
 | [],_=>none
 | y::ys,x=>if wQ y x=true then ε 0 else(EF ys x).map (· + 1)
theorem EX:∀{ys:Ms Dt}{x:Dt}{j:Nat},EF ys x=ε j->(∃y,ys[j]?=ε y/\wQ y x=true)/\∀(m:Nat),m<j->∃y,ys[m]?=ε y/\wQ y x=false
 | [],_,_,e=>by simp![EF]at e;cases e
 | y::ys,x,j,e=>by
  simp![EF]at e;by_cases h:wQ y x=true
  . rw[eG h]at e;cases e;exact⟨⟨y,rfl,h⟩,fun m a=>Ei a (Nat.not_lt_zero _)⟩
  . rw[eH h]at e;cases q:EF ys x with
    | none=>rw[q]at e;cases e
    | some k=>
     rw[q]at e;cases e;obtain⟨⟨z,d,b⟩,no⟩:=EX q;refine⟨⟨z,by simpa using d,b⟩,fun m a=>?_⟩;cases m with
     | zero=>exact⟨y,rfl,by simpa using h⟩
     | succ m=>obtain⟨u,i,g⟩:=no m (Nat.lt_of_succ_lt_succ a);exact⟨u,by simpa using i,g⟩
section
variable{X:Cx}{pins:Ms (Oa×Obj)}{σ:L2.St}{H:Hp}{s:Nu}{ρ:Rg}
def BK(xs:Ms Dt)(d:Dt)(k:Nat):Bool:=match xs[k]? with | some z=>wQ z d | none=>false
theorem XO:∀{xs:Ms Dt}{k:Nat}{z:Dt},lK xs=true->xs[k]?=ε z->WG z=true
 | [],_,_,_,e=>by simp at e
 | x::xs,0,z,h,e=>by simp![lK,xr]at h;simp at e;subst e;exact h.1
 | x::xs,k+1,z,h,e=>by simp![lK,xr]at h;exact XO h.2 (by simpa using e)
theorem wX:∀{xs:Ms Dt}{k:Nat}{z:Dt},xs[k]?=ε z->LQ z<=uK xs
 | [],_,_,e=>by simp at e
 | x::xs,0,z,e=>by simp at e;subst e;simp![uK];exact Nat.le_max_left _ _
 | x::xs,k+1,z,e=>by simp![uK];exact um (wX (xs:=xs) (k:=k) (by simpa using e)) (Nat.le_max_right _ _)
open Classical in
theorem Lq(I:so X pins σ H s){xs:Ms Dt}{d:Dt}{ws:Ms V}{v:V}{its:Ms Mu}{u:Mu}(A:Pa)(p:lK xs=true)(L:WG d=true)(Y:A.units+uK xs<cLine)(x:Ro X.K H ρ xs ws)(J:Te X.K H ρ d v)(r:ss ws its)(F:td v u) :
 ∃e:Mu->Bool,(∀(k:Nat)(b:k<its.length),e its[k]=BK xs d k)/\∀y∈its,SeqAt.EqAt A s y u (e y):=by
 have g:∀(k:Nat)(y:Mu),its[k]?=ε y->∃z w,xs[k]?=ε z/\ws[k]?=ε w/\Te X.K H ρ z w/\td w y:=fun k y e=>by
  have Z:=r.length;have b:k<xs.length:=by have:=(Wi e).1;have h2:=x.length;omega
  obtain⟨w,q,E⟩:=x.get (jj b);obtain⟨U,o,D⟩:=r.get q;rw[e]at o;cases o;exact⟨_,w,jj b,q,E,D⟩
 have same:∀(k m:Nat)(y:Mu),its[k]?=ε y->its[m]?=ε y->BK xs d k=BK xs d m:=fun k m y R e2=>by obtain⟨z,w,i,_,n,j⟩:=g k y R;obtain⟨C,W,B,_,T,S⟩:=g m y e2;have P:=td.inj j S;subst P;have O:=wZ I z C (XO p i) (XO p B) n T;unfold BK;rw[i,B,O]
 refine⟨fun y=>if h:∃k,its[k]?=ε y then BK xs d h.choose else false,fun k b=>?_,fun y M=>?_⟩
 . have a:∃m,its[m]?=ε its[k]:=⟨k,jj b⟩
   dsimp only;rw[dif_pos a];exact same _ _ _ a.choose_spec (jj b)
 . obtain⟨k,b⟩:=mem_iff_getElem?.mp M;have a:∃m,its[m]?=ε y:=⟨k,b⟩
   dsimp only;rw[dif_pos a];obtain⟨z,w,i,_,n,j⟩:=g _ y a.choose_spec;have Q:BK xs d a.choose=wQ z d:=by unfold BK;rw[i]
   rw[Q];exact O7 I z d A (XO p i) L (by have:=wX i;omega) n J j F
theorem ku{xs:Ms Dt}{d:Dt}{j:Nat}(h:EF xs d=ε j):j<xs.length/\BK xs d j=true/\∀m,m<j->BK xs d m=false:=by obtain⟨⟨y,a,g⟩,no⟩:=EX h;refine⟨(Wi a).1,by unfold BK;rw[a];exact g,fun m i=>?_⟩;obtain⟨z,e,b⟩:=no m i;unfold BK;rw[e];exact b
end
def II(xs:Ms Dt)(d:Dt):Bool:=lK xs&&WG d&&decide (uK xs<=50)
def b7(K:Oi)(g:Bool):V->Ms V->Hp->VK->Prop:=fun x i H Q=>∃h b d y a e j,x=.ref a/\i=[y]/\(if g=true then tG K H a e else to K H a e)/\Ro K H h b e/\Te K H h d y/\II b d=true/\EF b d=ε j/\Q (.int (j:Nat)) H
section
variable{X:Cx}{a b:Oe}{fa fb:RE}
theorem Nf (hu:X.A.units+64<cLine):V5 X "list.index" (b7 X.K false):=by
 intro B s σ H x vs v us Q I P R h;obtain⟨ρ,O,d,y,p,ws,j,rfl,rfl,sq,r,T,ok,Z,q⟩:=h;rw[eH Wk]at sq;cases P;obtain⟨u,rfl,S⟩:=WE R;simp![II,xr,decide_eq_true_eq]at ok;obtain⟨i,g,⟨⟨c1,d1,t1,k⟩,n,M,E,D,C⟩,z⟩:=I.list sq;simp only at E D C;subst E D C;obtain⟨e,L,e2⟩:=Lq I X.A.in1 ok.1.1 ok.1.2 (by have:=XR X.A;omega) r T g S;obtain⟨j1,W,U⟩:=ku Z;have hl:i.length=O.length:=by rw[<- g.length,r.length]
 have F:j<i.length:=by omega
 have hn:=yI;refine call_meets PySem.F.slot_list_index ⟨_,M,rfl⟩ PySem.F.entry_list_index (PySem.F.args_list_index_2 _ _)
  (SeqAt.list_indexAt p i.toArray n none k u e j (by rw[dh];exact F) (by have:=g.length;omega) ?_ ?_) ⟨M,fun y Y=>e2 y (by simpa using Y),⟨.int (j:Nat),H,I.tok _,⟨_,rfl⟩,q⟩⟩
 . have:=L j F;rw[W]at this;simpa using this
 . intro m J o;rw[dh]at J;have:=L m J;rw[U m o]at this;simpa using this
def eQ(fo fa:RE):RE:=fun l h=>(fo l h).bind fun r=>(fa l r.2).bind fun q=>match r.1 with
 | .lst d=>if II d q.1=true then(EF d q.1).map fun j=>(.int (j:Nat),q.2)else none
 | _=>none
theorem Ec {i g:Pos} (M:X.A.units+64<cLine) (O:EM X a fa) (P:EM X b fb) (n:autoParam (attributeBase a "index" X.env (eval a X.env)=eval a X.env) Æ)
 (m:autoParam ((i.endLine==g.line)=true) Æ) (hs:autoParam (fB b=true) Æ) :
 EM X (.Call (.Attribute a "index" i) [b] [] g) (eQ fa fb):=by
 unhygienic
  exact PE.imp (HM PySem.F.plainAttrs_list PySem.F.slot_list_index PySem.F.type_list_index (Nf M) O (wC P bD (kB hs _ _)) n (UL hs) m (kB hs _ _)) fun σ H Q I=>by
   obtain⟨F,l,h,d,h',S,L,e,k⟩:=I;obtain⟨⟨D,C⟩,T,e⟩:=qA e;obtain⟨⟨p,R⟩,e2,e⟩:=qA e;refine⟨F,l,h,D,C,S,L,T,fun r v H1 Y W E=>?_⟩;cases D with
   | lst s=>
    obtain⟨x,B,z,t,J⟩:=bm.mp Y;subst z;refine⟨.inl ⟨rfl,B,t.sq⟩,r,l,C,p,R,W,L.ext E,e2,fun o y Z R2 U u=>?_⟩;dsimp only at e;by_cases ok:II s p=true
    . rw[eG ok]at e;cases q:EF s p with
      | none=>rw[q]at e;cases e
      | some j=>rw[q]at e;cases e;exact⟨o,s,p,y,x,B,j,rfl,rfl,by rw[eH Wk];exact(t.same u.same).sq,J.ext u,R2,ok,q,k o _ Z (Xa.mpr rfl) U (E.trans u)⟩
    . rw[eH ok]at e;cases e
   | _=>cases e
noncomputable def CD(K:Oi):Nat->Mu->Ni Dt
 | _,.none=>ε .non
 | _,.bool b=>ε (.bl b)
 | _,.int i _=>ε (.int i)
 | _,.str x _=>ε (.str x)
 | 0,_=>none
 | n+1,.ref a=>match K.lookup a with
  | some ⟨.type T,dd,.seq its _,_⟩=>if its.size<=sizeLine then
   if T = "tuple" then(its.toList.mapM (CD K n)).map .tup
   else if T = "list" then match dd with | none=>(its.toList.mapM (CD K n)).map .lst | some _=>none
   else none
   else none
  | _=>none
 | _,_=>none
noncomputable def JU:Mu->V
 | .none=>.non
 | .bool b=>.bl b
 | .int i _=>.int i
 | .str x _=>.str x
 | .ref a=>.ref a
 | _=>.non
theorem HS{K:Oi}{H:Hp}{ρ:Rg}{f:Mu->Ni Dt}(h:∀u d,f u=ε d->td (JU u) u/\Te K H ρ d (JU u)):∀{us:Ms Mu}{ds:Ms Dt},us.mapM f=ε ds->ss (us.map JU) us/\Ro K H ρ ds (us.map JU)
 | [],_,e=>by simp at e;subst e;exact⟨.nil,.nil⟩
 | u::us,ds,e=>by
  rw[mapM_cons]at e;cases q:f u with
  | none=>rw[q]at e;cases e
  | some d=>
   rw[q]at e;cases q2:us.mapM f with
   | none=>rw[q2]at e;cases e
   | some m=>rw[q2]at e;cases e;obtain⟨k,j⟩:=h u d q;obtain⟨i,g⟩:=HS h q2;exact⟨.cons k i,.cons j g⟩
set_option tactic.hygienic true in
theorem gX{K:Oi}{H:Hp}{ρ:Rg}:∀(n:Nat)(u:Mu)(d:Dt),CD K n u=ε d->td (JU u) u/\Te K H ρ d (JU u):=by
 intro n
 induction n with
 | zero=>
  intro u d e;cases u with
  | none=>simp![CD]at e;cases e;exact⟨rfl,bo.mpr rfl⟩
  | bool b=>simp![CD]at e;cases e;exact⟨rfl,Zi.mpr rfl⟩
  | int i t=>simp![CD]at e;cases e;exact⟨⟨_,rfl⟩,Xa.mpr rfl⟩
  | str x t=>simp![CD]at e;cases e;exact⟨⟨_,rfl⟩,br.mpr rfl⟩
  | _=>simp![CD]at e<;>cases e
 | succ n ih=>
  intro u d e;cases u with
  | none=>simp![CD]at e;cases e;exact⟨rfl,bo.mpr rfl⟩
  | bool b=>simp![CD]at e;cases e;exact⟨rfl,Zi.mpr rfl⟩
  | int i t=>simp![CD]at e;cases e;exact⟨⟨_,rfl⟩,Xa.mpr rfl⟩
  | str x t=>simp![CD]at e;cases e;exact⟨⟨_,rfl⟩,br.mpr rfl⟩
  | ref a=>
   simp![CD]at e;split at e
   . rename_i T s g m r q;by_cases j:g.size<=sizeLine
     . rw[eG j]at e;by_cases k:T = "tuple"
       . rw[eG k]at e;cases q2:g.toList.mapM (CD K n)with
         | none=>rw[q2]at e;cases e
         | some ds=>rw[q2]at e;cases e;obtain⟨p,o⟩:=HS (K:=K) (H:=H) (ρ:=ρ) ih q2;subst k;exact⟨rfl,ag.mpr ⟨a,_,rfl,.inr ⟨_,g,m,q,rfl,rfl,j,p⟩,o⟩⟩
       . rw[eH k]at e;by_cases h:T = "list"
         . rw[eG h]at e;split at e
           . cases q2:g.toList.mapM (CD K n)with
             | none=>rw[q2]at e;cases e
             | some ds=>rw[q2]at e;cases e;obtain⟨p,o⟩:=HS (K:=K) (H:=H) (ρ:=ρ) ih q2;subst h;exact⟨rfl,bm.mpr ⟨a,_,rfl,.inr ⟨_,g,m,q,rfl,rfl,rfl,j,p⟩,o⟩⟩
           . cases e
         . rw[eH h]at e;cases e
     . rw[eH j]at e;cases e
   . cases e
  | _=>simp![CD]at e<;>cases e
structure J5(K:Frag)(mg:Str->Option Value)(x:Str)(d:Dt):Prop where
 ex:∃u n,mg x=ε u/\CD K n u=ε d
theorem wI {x:Str} {d:Dt} {pos:Pos} (g:Gl X x) (c:J5 X.K X.mg x d) (hd:autoParam ((x==("__debug__" :Str))=false) Ñ):EM X (.Name x pos) (eC d):=by unhygienic obtain⟨u,n,h,e⟩:=c.ex;exact ka g h (gX (H:=fun q=>none) (ρ:=.nil) n u d e).1 (fun H ρ=>(gX n u d e).2) hd
end
theorem Hj{K:Oi}{F:gB}{n:Nat}(h:∀ns:Ms Int,ns.length<=n->∃b,F [.lst (ns.map Dt.int)] []=ε (.bl true,b))(H:Hp)(a:Oa)(ns:Ms Int)(g:ns.length<=n)(hS:to K H a (ns.map V.int)) :
 XI K 1 F [.ref a] H (fun v q=>v=.bl true) fun q q q=>False:=by
 obtain⟨b,e⟩:=h ns g;have R:Te K H .nil (.lst (ns.map Dt.int)) (.ref a):=bm.mpr ⟨a,_,rfl,by
  rcases hS with hS | hS
  . exact .inl ⟨⟨by simp[Rg.nil],by simp[Rg.nil]⟩,hS⟩
  . exact .inr hS,Ro.ints ns⟩
 exact⟨.nil,[.lst (ns.map Dt.int)],[],.bl true,b,Vo.nil,.cons R .nil,rfl,e,fun d v k i j m=>Zi.mp i⟩
structure YB(P:Program)(w:World)(K:Frag)(mg:Str->Option Value)(base:Heap)(k n:Nat)(x:Str)(F:gB):Prop where
 ex:∃f fd ps,Zu P w K mg base PF k f fd ps (XI K n F)/\mg x=ε (.ref f)/\keepIn K (.ref f)=true/\tq K fd ps []
 len:∀ds h r,F ds h=ε r->ds.length=n
structure ZT(K:Frag)(mg:Str->Option Value)(x:Str)(st:Stmt)(ps:List Str):Prop where
 ex:∃f fd,Fun K x x st f fd/\mg x=ε (.ref f)/\tq K fd ps []
section
variable{P:Oo}{w:O4}{K:Oi}{b:Str->Ni Mu}{a:Pu}
theorem nj{x d:Str}{st:Ou}{f:Oa}{g:FuncData}{N ps:Ms Str}{k n m:Nat}{body:RS}(F:Fun K x d st f g)(S:Ze N ps (sB st))(h:ps.length=n)(i:N.length=m)
 (j:∀(e:Mu)(A:Pa)(outer:Ms Env)(s:Nu)(H:Hp)(E:XK),Xu k (A.deeper (envOfC d (sB st) s.heap.objs.size f e))->
  RH (YE PF P w K b a N d (sB st) f e A outer s H E).nox (RC st) body):Zu P w K b a PF (k+1) f g ps (XI K n (DB n m body)):=by
 unhygienic subst h i;exact jQ F S j
theorem LP{x:Str}{st:Ou}{N ps:Ms Str}{k n m:Nat}{body:RS}(D:ZT K b x st ps)(S:Ze N ps (sB st))(o:ps.length=n)(g:N.length=m)
 (p:∀(f:Oa)(d:Mu)(A:Pa)(outer:Ms Env)(s:Nu)(H:Hp)(E:XK),Xu k (A.deeper (envOfC x (sB st) s.heap.objs.size f d))->
  RH (YE PF P w K b a N x (sB st) f d A outer s H E).nox (RC st) body):YB P w K b a (k+1) n x (DB n m body):=by
 unhygienic subst o g;obtain⟨f,u,i,g,q⟩:=D.ex;exact⟨⟨f,u,ps,jQ i S fun d A outer s H E j=>p f d A outer s H E j,g,i.kp,q⟩,fun ds h r e=>HP e⟩
end
section
variable{X:Cx}{k a n:Nat}{F:gB}{x:Str}{p pos:Pos}{e:Oe}{b:Ms Oe}{g:RA}
theorem HD (c:YB X.prog X.w X.K X.mg X.base k n x F) (i:Xu a X.A) (j:k<=a) (m:Gl X x) (o:AM X (e::b) g) (d:autoParam ((x==("__debug__" :Str))=false) Ñ)
 (he:autoParam (fB e=true) Æ) (hpl:autoParam (b.all fB=true) Æ) :
 EM X (.Call (.Name x p) (e::b) [] pos) (xA F [] g):=by
 unhygienic obtain⟨f,D,C,B,y,u,s⟩:=c.ex;exact OY B (i.mono j) m y u s .nil (fun z z=>.nil) o (fun E e ds h r q=>c.len ds h r (e ▸ q)) d he hpl
theorem FS (c:YB X.prog X.w X.K X.mg X.base k n x F) (i:Xu a X.A) (j:k<=a) (m:Gl X x) (d:autoParam ((x==("__debug__" :Str))=false) Ñ) :
 EM X (.Call (.Name x p) [] [] pos) (eK F []):=by
 unhygienic obtain⟨f,C,B,y,u,s,o⟩:=c.ex;exact Wh y (i.mono j) m u s o .nil (fun z z=>.nil) (fun D e ds h r q=>c.len ds h r (e ▸ q)) d
end
theorem Mp{l:PySem.W.OpenLaw}{q:Oo}{b:Ms Str}{D:(Str->Ni Mu)->Pu->Prop}{i:O4->Pu->Prop}{d:DefRec}{K:Params->Oi}{F:gB}{k:Nat}{x:Str}(o:l.most=ε 63)(e:d.params.defaults=[])(m:Xu k callerA)
 (r:∀(w:O4)(h:Pu),i w h->(K w.params).In h)
 (B:∀(w:O4)(mg:Str->Ni Mu)(fa:Oa)(h:Pu),(K w.params).In h->h.Ns mainGlobals mg->mg d.name=ε (.ref fa)->
  ∃g:FuncData,(∀(s:Nu)(u:Mu),BindsTo s g ⟨[u],[]⟩ [(x,u)])/\∀base:Pu,(K w.params).In base->base.Ns mainGlobals mg->Zu l.prog w (K w.params) mg base PF k fa g [x] (XI (K w.params) 1 F))
 (h:∀ns:Ms Int,ns.length<=63->∃C,F [.lst (ns.map Dt.int)] []=ε (.bl true,C)):PySem.W.WalkO q b D i l.row.toRowW d [] (fun f j=>PySem.call f j):=
 L2.m9 (n:=63) (k:=k) (x:=x) (CX:=fun v=>PF) (sp:=fun w=>XI (K w.params) 1 F) o (by decide) e m r B (fun w H a ns p v y=>Hj h H a ns p y) fun v v v v v z=>z
end SM
namespace L2
section
variable{X:Cx}
theorem A1:∀{bs:Ms Bool}{us:Ms Mu},ss (bs.map V.bl) us->∀(i:Nat)(v:Mu),us[i]?=ε v->v=.bool (bs.getD i false)
 | [],us,r,i,v,e=>by cases r;simp at e
 | b::bs,us,r,i,v,e=>by
  cases r with
  | cons r a=>
   cases i with
   | zero=>simp at e;subst e;exact r
   | succ i=>simpa using A1 a i v (by simpa using e)
end
end L2
namespace SM
noncomputable def lF:Ms Dt->Ni (Ms Bool)
 | []=>ε []
 | .bl b::ds=>(lF ds).map fun bs=>b::bs
 | _::_=>none
theorem mS:∀{ds:Ms Dt}{bs:Ms Bool},lF ds=ε bs->ds=bs.map Dt.bl
 | [],bs,e=>by simp![lF]at e;cases e;rfl
 | d::ds,bs,e=>by
  cases d with
  | bl b=>
   simp![lF]at e;cases q:lF ds with
   | none=>rw[q]at e;cases e
   | some a=>rw[q]at e;cases e;rw[mS q];rfl
  | _=>simp![lF]at e<;>cases e
theorem Ro.gc{K:Oi}{H:Hp}{ρ:Rg}:∀{bs:Ms Bool}{vs:Ms V},Ro K H ρ (bs.map Dt.bl) vs->vs=bs.map V.bl
 | [],_,h=>h.av
 | n::ns,_,h=>by obtain⟨v,r,rfl,a,b⟩:=Ro.Za h;simp![Te]at a;rw[a,Ro.gc b];rfl
section
variable{X:Cx}{e:Oe}{f:RE}{p pos:Pos}
end
noncomputable def FI:Nat->Ms Dt->Ms Dt
 | _,[]=>[]
 | k,x::xs=>.tup [.int (k:Int),x]::FI (k+1) xs
noncomputable def JD(i j:Nat):RG:=fun d l=>match d with
 | .tup [a,b]=>ε ((l.set i (ε a)).set j (ε b))
 | _=>none
end SM
namespace L2
section
variable{X:Cx}{a:Ms (Oa×Obj)}{d:Ms (Ni V)}{H:Hp}{s:Nu}{h':Pu}
theorem so.kw{t':Nat}{e it p:Oa}{xs:Ms V}(I:so X a d H s)(k:∀b o,b≠e->b≠it->s.heap.get? b=ε o->h'.get? b=ε o)(fe:XE X a H e)(P:XE X a H it)(hp:s.heap.objs.size<=p)
 (new:Yu X.prog X.w (IB H p (.tup xs)) h' p (.tup xs)):so X a d (IB H p (.tup xs)) { s with heap:=h',toks:=t' }:=by
 obtain⟨W,C,e2,U,T,S⟩:=fe;obtain⟨L,B,Z,J,F,E⟩:=P;have i:H p=none:=I.hok.fresh hp;have ne:∀b u,H b=ε u->b≠e:=fun b u q z=>by rw[z,W]at q;cases q
 have y:∀b u,H b=ε u->b≠it:=fun b u q z=>by rw[z,L]at q;cases q
 have h:∀{b},b ∉ [e,it]->b≠e/\b≠it:=fun g=>⟨fun z=>g (by simp[z]),fun z=>g (by simp[z])⟩
 refine I.step (g':=s.gens) (d':=s.drawn) (ch:=[e,it]) (fun b j=>?_) (fun b o t t g q t=>k b o (h g).1 (h g).2 q) (fun b o t t g q t=>⟨o.slots,k b o (h g).1 (h g).2 q⟩)
  (fun b o t q n=>by rw[dB (rz (jo (je q) hp))];exact n)
  (fun b o g q=>⟨o,k b o (h g).1 (h g).2 q⟩) (fun b D q=>by rw[dB (TC q i)];exact q) (fun b o u q=>by rw[dB (TC q i)];exact q)
  (fun b Y q=>⟨#[],by rw[dB (TC q i),q];simp⟩) (fun m O=>?_) (fun b u q=>?_) I.bare
 . have z:b=e\/b=it:=by simpa using j
   rcases z with rfl | rfl
   . exact⟨U,C,T,S⟩
   . exact⟨J,B,F,E⟩
 . obtain⟨o,Q,R,M,r⟩:=O;exact⟨o,Q,R,k _ o (nW C) (nW B) M,r⟩
 . by_cases j:b=p
   . subst j;rw[IC]at q;cases q;exact new
   . rw[dB j]at q;refine(I.hok b u q).stay (fun c v g x=>?_) (fun c q=>by rw[dB (TC q i)];exact q) fun c D q=>by rw[dB (TC q i)];exact q
     rcases g with z | z
     . subst z;exact k c v (ne c u q) (y c u q) x
     . exact k c v (ne c _ z) (y c _ z) x
theorem so.kx{t':Nat}{e it:Oa}(I:so X a d H s)(k:∀b o,b≠e->b≠it->s.heap.get? b=ε o->h'.get? b=ε o)(fe:XE X a H e)(M:XE X a H it):so X a d H { s with heap:=h',toks:=t' }:=by
 obtain⟨T,x,e2,S,R,Q⟩:=fe;obtain⟨E,p,W,D,C,B⟩:=M;have ne:∀b u,H b=ε u->b≠e:=fun b u q z=>by rw[z,T]at q;cases q
 have j:∀b u,H b=ε u->b≠it:=fun b u q z=>by rw[z,E]at q;cases q
 have h:∀{b},b ∉ [e,it]->b≠e/\b≠it:=fun g=>⟨fun z=>g (by simp[z]),fun z=>g (by simp[z])⟩
 refine I.step (g':=s.gens) (d':=s.drawn) (ch:=[e,it]) (fun b L=>?_) (fun b o t t g q t=>k b o (h g).1 (h g).2 q) (fun b o t t g q t=>⟨o.slots,k b o (h g).1 (h g).2 q⟩)
  (fun b o t q n=>n) (fun b o g q=>⟨o,k b o (h g).1 (h g).2 q⟩) (fun b y q=>q) (fun b o u q=>q)
  (fun b U q=>⟨#[],by rw[q];simp⟩) (fun m J=>?_) (fun b u q=>?_) I.bare
 . have z:b=e\/b=it:=by simpa using L
   rcases z with rfl | rfl
   . exact⟨S,x,R,Q⟩
   . exact⟨D,p,C,B⟩
 . obtain⟨o,O,P,F,r⟩:=J;exact⟨o,O,P,k _ o (nW x) (nW p) F,r⟩
 . refine(I.hok b u q).stay (fun c v g i=>?_) (fun c q=>q) fun c y q=>q
   rcases g with z | z
   . subst z;exact k c v (ne c u q) (j c u q) i
   . exact k c v (ne c _ z) (j c _ z) i
end
def Ite(K:Oi)(a:Oa):It:=
 ⟨fun i H=>∃b x,to K H a b/\b[i]?=ε x,fun i H x d=>∃p y,H p=none/\x=.ref p/\(∀b,to K H a b->b[i]?=ε y)/\d=IB H p (.tup [.int (i:Nat),y]),fun i H=>∃b,to K H a b/\b.length<=i⟩
theorem Xn{P:Oo}{w:O4}{K:Oi}{D:Ms Oe}{x1}{pos:Pos}(a e it:Oa)(B:e≠it):xG P w K (.Tuple D x1 pos) (Ite K a) [e,it] e (fun i h=>(∃old,IsEnum h e it i old)/\h.IsListIter it a i) where
 mem:=by simp
 obj:=fun i h j b T=>by
  obtain⟨⟨old,g⟩,m⟩:=j;have z:b=e\/b=it:=by simpa using T
  rcases z with rfl | rfl
  . exact⟨_,g,fun v z=>by cases z⟩
  . obtain⟨o,e,c,d⟩:=m;exact⟨o,e,fun v z=>by rw[d]at z;cases z⟩
 keep:=fun i h h' j k=>by obtain⟨⟨old,g⟩,m⟩:=j;exact⟨⟨old,k e ⋯ _ g⟩,m.at fun o e=>k it ⋯ o e⟩
 item:=by
  intro X U hw W Z i r s σ H E I C j R;subst U hw W;obtain⟨⟨old,g⟩,m⟩:=j;obtain⟨xs,x,F,O⟩:=R;obtain⟨L,J,p,hz⟩:=I.list F;obtain⟨u,hu,ru⟩:=J.get O;have fe:=C e ⋯;have fi:=C it ⋯;refine wpAny_pyNext_enum_item g m p.isList (x:=u) (by simpa using hu) B fun h' out M n sz kp=>?_
  refine⟨_,rfl,wpAny_letOwnedTupleGo_enum out fun h2 S sb=>?_⟩;have y:s.heap.objs.size≠e:=(rz (je g)).symm;have Q:s.heap.objs.size≠it:=by obtain⟨o,q,_⟩:=m;exact(rz (je q)).symm
  have t2:h2.get? s.heap.objs.size=ε { cls:=.type "tuple",data:=.seq #[.int i s.toks,u] }:=(sb.2 _ y).trans n;refine⟨.ref s.heap.objs.size,IB H s.heap.objs.size (.tup [.int (i:Nat),x]),I.kw (fun b o h1 Y q=>(sb.2 b h1).trans (kp b o h1 Y q)) fe fi (Uo _) ⟨by simp![Ru,Ve];rw[Ce];decide,[.int i s.toks,u],.cons ⟨_,rfl⟩ (.cons ru .nil),⟨_,t2,rfl,_,rfl⟩⟩,rfl,⟨_,x,I.hok.fresh (Uo _),rfl,fun ys hy=>by rw[I.ey hy F];exact O,rfl⟩,⟨⟨_,S⟩,M.at fun o q=>(sb.2 it (nW B)).trans q⟩,fun b T=>?_⟩;have z:b=e\/b=it:=by simpa using T
  rcases z with rfl | rfl
  . rw[dB (nW y)];exact fe.1
  . rw[dB (nW Q)];exact fi.1
 done:=by intro X U hw W Z i r s σ H E I C j R;subst U hw W;obtain⟨⟨old,g⟩,m⟩:=j;obtain⟨xs,F,O⟩:=R;obtain⟨L,J,p,hz⟩:=I.list F;have hl:=J.length;exact wpAny_pyNext_enum_end (I.ok.hd Z) g m p.isList (by simp;omega) fun h' eb=>⟨rfl,I.kx (t':=s.toks) (fun b o t Y q=>eb b o Y q) (C e ⋯) (C it ⋯)⟩
 self:=fun t t t t t j h=>by obtain⟨⟨old,g⟩,_⟩:=j;exact wpAny_pyIter_enum g h
section
variable{X:Cx}
def B6(K:Oi)(h:TA):TI:=fun d H R=>h d H fun g b=>∃a,g=[.ref a]/\(∃e,to K b a e)/\R (Ite K a) b
theorem ky {j:Ms Oe} {x1} {B:Pos} {a:Oe} {o:TA} {p pos:Pos} (M:Gl X "enumerate") (L:X.mg "enumerate" =none) (P:PA X [a] o) (hs:autoParam (starEach [a] X.env=[(false,eval a X.env)]) Æ) :
 PI X (.Tuple j x1 B) (.Call (.Name "enumerate" p) [a] [] pos) (B6 X.K o):=by
 intro g s n H R I h;refine Call_ (LG I M L boot_enumerate (PyProof.Rows.callWith_type1 (HB (P pos g s n H _ I h) fun W d y=>?_) hs rfl));obtain⟨U,x,i,D,q1⟩:=y;obtain⟨b,e,⟨T,J⟩,q⟩:=q1;subst e;cases D with
 | cons r C=>
  cases C;cases r;obtain⟨E,Y,pl,Z⟩:=i.list J;refine call_enumerate_list pl.isList fun Q u m F k=>?_
  have S:so X g n x { d with heap:=Q }:=i.kept (t':=d.toks) k;refine wpAny_pyIter_enum u ?_;refine⟨d.heap.objs.size+1,[d.heap.objs.size+1,d.heap.objs.size],_,_,x,rfl,S,Xn b (d.heap.objs.size+1) d.heap.objs.size (Nat.succ_ne_self _),⟨⟨_,u⟩,m⟩,fun c O=>?_,q⟩;have z:c=d.heap.objs.size+1\/c=d.heap.objs.size:=by simpa using O
  rcases z with rfl | rfl
  . exact i.ca (Nat.le_succ _) (i.hok.fresh (Nat.le_succ _))
  . exact i.ca (Uo _) (i.hok.fresh (Uo _))
end
end L2
namespace SM
theorem AX:∀(xs:Ms Dt)(k i:Nat),(FI k xs)[i]?=(xs[i]?).map fun x=>.tup [.int ((k+i:Nat):Int),x]
 | [],_,_=>by simp[FI]
 | x::xs,k,0=>by simp[FI]
 | x::xs,k,i+1=>by
  simp![FI,Ri];rw[AX xs (k+1) i];have:k+1+i=k+(i+1):=by omega
  rw[this]
section
variable{X:Cx}
theorem RP(i j:Nat){x y:Str}{u s pos:Pos}{x1}(I:X.calm=true)(o:X.N.Nodup)(E:autoParam (X.N[i]?=ε x) Æ)(D:autoParam (X.N[j]?=ε y) Æ)
 (C:autoParam (xK X.env.scope x) ö) (B:autoParam (xK X.env.scope y) ö)
 (F:autoParam (X.fn x=true\/X.env.scope.names.lookup x=ε .local) Ø)
 (g:autoParam (X.fn y=true\/X.env.scope.names.lookup y=ε .local) Ø):GM X (.Tuple [.Name x u,.Name y s] x1 pos) (JD i j):=by
 unhygienic
  refine PG.imp (Y1 (n:=2) I (SL (XJ o E C F) (SL (XJ o D B g) D0))) fun v M H Q p=>?_
  obtain⟨O,l,h,d,W,S,L,R,e,k⟩:=p;unfold JD at e;split at e
  . cases e;obtain⟨a,P,rfl,q,r⟩:=ag.mp R;obtain⟨m,U,rfl,J,r⟩:=r.Za;obtain⟨b,T,rfl,R2,r⟩:=r.Za;cases r.av;exact⟨a,[m,b],rfl,q.sq,rfl,m,[b],rfl,b,[],rfl,rfl,k _ ((L.set i J).set j R2)⟩
  . cases e
end
def SG(fe fo a:RE):RS:=fun l h=>(fe l h).bind fun v=>(fo l v.2).bind fun o=>(a l o.2).bind fun i=>match o.1,i.1 with
 | .ref n,.int k=>match i.2[n]? with
  | some (.lst xs)=>(VI xs.length k).bind fun j=>ε (.nx l (i.2.set n (.lst (xs.set j v.1))))
  | _=>none
 | _,_=>none
noncomputable def WQ(g:RG)(fe:RE):RS:=fun l h=>(fe l h).bind fun v=>(g v.1 l).bind fun a=>ε (.nx a v.2)
noncomputable def GI(i j k:Nat):RG:=fun d l=>match d with
 | .tup [a,b,c]=>ε (((l.set i (ε a)).set j (ε b)).set k (ε c))
 | _=>none
noncomputable def AG(d:Dt)(k:Int):Ms Dt:=List.replicate k.toNat d
def eJ(fa fb:RE):RE:=fun l h=>(fa l h).bind fun a=>(fb l a.2).bind fun k=>match k.1 with
 | .int i=>if -(2^62)<=i/\i<=1000000 then ε (.lst (AG a.1 i),k.2)else none
 | _=>none
def vK(fa fb:RE):RE:=fun l h=>(fa l h).bind fun a=>(fb l a.2).bind fun k=>match k.1 with
 | .int i=>if -(2^62)<=i/\i<=1000000 then ε (.ref k.2.length,k.2++[.lst (AG a.1 i)])else none
 | _=>none
def cN:Dt->HI->Ni (Dt×HI):=fun d h=>(KA h d).bind fun a=>(lF a).map fun bs=>(.bl (bs.any id),h)
def PQ(fa fb:RE):RI:=fun l h=>(fa l h).bind fun r=>(fb l r.2).bind fun q=>match KA q.2 r.1,KA q.2 q.1 with
 | some _,some _=>ε (.zp r.1 q.1,q.2)
 | _,_=>none
def aF:qD:=B5
def rF:qD:=fun a b h=>match a,b with
 | .tup d,.tup ys=>(BC d).bind fun ns=>(BC ys).bind fun e=>ε (.bl (!decide (ns=e)),h)
 | a,.lst []=>(KA h a).bind fun d=>ε (.bl (!d.isEmpty),h)
 | a,b=>C5 a b h
noncomputable def OF(t:RT)(body:RS):Nat->RS
 | 0,_,_=>none
 | n+1,l,h=>(t l h).bind fun c=>if c.1=true then(body l c.2).bind fun r=>match r with
  | .nx b a=>OF t body n b a
  | .ct b a=>OF t body n b a
  | .bk b a=>ε (.nx b a)
  | .rt d a=>ε (.rt d a)
  else ε (.nx l c.2)
def ZP(n:Nat)(t:RT)(body:RS):RS:=fun l h=>OF t body n l h
noncomputable def tI(fo fa:RE):RE:=fun l h=>(fo l h).bind fun r=>match r.1 with
 | .ref n=>match r.2[n]? with
  | some (.lst _)=>(fa l r.2).bind fun q=>match q.1 with
   | .ref m=>match q.2[n]?,q.2[m]? with
    | some (.lst xs),some (.lst ys)=>if xs.length+ys.length<=sizeLine then ε (.non,q.2.set n (.lst (xs++ys)))else none
    | _,_=>none
   | _=>none
  | _=>none
 | _=>none
noncomputable def JP(fo fa:RE):RE:=fun l h=>(fo l h).bind fun r=>match r.1 with
 | .ref n=>match r.2[n]? with
  | some (.lst _)=>(fa l r.2).bind fun q=>match q.1 with
   | .int 0=>match q.2[n]? with
    | some (.lst (x::xs))=>ε (x,q.2.set n (.lst xs))
    | _=>none
   | _=>none
  | _=>none
 | _=>none
noncomputable def EU(F:Dt->Dt->Ni Dt)(fa fb:RE):RE:=fun l h=>(fa l h).bind fun r=>(fb l r.2).bind fun q=>(F r.1 q.1).map fun d=>(d,q.2)
noncomputable def iQ:Dt->Dt->Ni Dt:=fun a b=>match a,b with | .int i,.int j=>ε (.int (if j>i then j else i)) | _,_=>none
noncomputable def BM:Dt->Dt->Ni Dt:=fun a b=>match a,b with | .int i,.int j=>ε (.int (if j<i then j else i)) | _,_=>none
noncomputable def pN(f:RE):RE:=fun l h=>(f l h).bind fun r=>match r.1 with | .int i=>ε (.int (Builtin.bitNot i),r.2) | _=>none
end SM
namespace L2
section
variable{X:Cx}
theorem Cm(bs:Ms Bool):(List.range bs.length).any (fun i=>bs.getD i false)=bs.any id:=by
 induction bs with
 | nil=>rfl
 | cons b bs ih=>
  rw[Ru,Jo,Js,any_map,Js];have:((fun i=>(b::bs).getD i false) ∘ Nat.succ)=fun i=>bs.getD i false:=by
   funext i
   simp
  rw[this,ih];simp
theorem yt (y:X.calm=true):ae X (.builtin "any") (fun d H Q=>∃(p:Oa) (bs:Ms Bool),d=[.ref p]/\to X.K H p (bs.map V.bl)/\Q (.bl (bs.any id)) H):=by
 intro j s C H d D Q I r h;obtain⟨p,bs,rfl,o,q⟩:=h;obtain⟨u,rfl,m⟩:=WE r;cases m;obtain⟨a,g,pl,J⟩:=I.list o;have b:p<s.heap.objs.size:=by obtain⟨_,e,_⟩:=pl.isList;exact je e
 refine call_any_walk (wpAny_pyIter_list pl.isList ?_);refine⟨_,_,_,_,_,_,fun i=>bs.getD i false,rfl,Walks.list (A:=X.A.in1) (I.ok.hd y) s.heap.objs.size p (rz b) a.toArray,⟨⟨_,jl _ rfl,rfl,rfl⟩,pl.isList.push _⟩,?_,fun L E k=>?_⟩
 . intro i v F Q2 M n B;have e:=A1 g i v (by simpa using n);subst e;exact Fo B
 . have x:=g.length;have e:(List.range a.toArray.size).any (fun i=>bs.getD i false)=bs.any id:=by rw[show a.toArray.size=bs.length by simp at x ⊢;omega,Cm]
   rw[e];exact⟨.bl (bs.any id),H,I.kept (old_kept k),rfl,q⟩
end
section
variable{X:Cx}{a:Ms (Oa×Obj)}{d:Ms (Ni V)}{H:Hp}{s:Nu}{h':Pu}
theorem so.gv{t':Nat}{fp:Ms Oa}{p:Oa}{xs:Ms V}(I:so X a d H s)(k:∀b o,b∉fp->s.heap.get? b=ε o->h'.get? b=ε o)(i:∀b∈fp,XE X a H b)(hp:s.heap.objs.size<=p)
 (new:Yu X.prog X.w (IB H p (.tup xs)) h' p (.tup xs)):so X a d (IB H p (.tup xs)) { s with heap:=h',toks:=t' }:=by
 have g:H p=none:=I.hok.fresh hp;have x:∀b u,H b=ε u->b∉fp:=fun b u q z=>by rw[(i b z).1]at q;cases q
 refine I.step (g':=s.gens) (d':=s.drawn) (ch:=fp) (fun b h=>?_) (fun b o t t e q t=>k b o e q) (fun b o t t e q t=>⟨o.slots,k b o e q⟩)
  (fun b o t q n=>by rw[dB (rz (jo (je q) hp))];exact n)
  (fun b o e q=>⟨o,k b o e q⟩) (fun b y q=>by rw[dB (TC q g)];exact q) (fun b o u q=>by rw[dB (TC q g)];exact q)
  (fun b O q=>⟨#[],by rw[dB (TC q g),q];simp⟩) (fun m C=>?_) (fun b u q=>?_) I.bare
 . obtain⟨P,M,e2,L,J,F⟩:=i b h;exact⟨L,M,J,F⟩
 . obtain⟨o,D,E,B,r⟩:=C;exact⟨o,D,E,k _ o (fun z=>(i _ z).2.1 rfl) B,r⟩
 . by_cases h:b=p
   . subst h;rw[IC]at q;cases q;exact new
   . rw[dB h]at q;refine(I.hok b u q).stay (fun c v e j=>?_) (fun c q=>by rw[dB (TC q g)];exact q) fun c y q=>by rw[dB (TC q g)];exact q
     rcases e with z | z
     . subst z;exact k c v (x c u q) j
     . exact k c v (x c _ z) j
theorem so.gx{t':Nat}{fp:Ms Oa}(I:so X a d H s)(k:∀b o,b∉fp->s.heap.get? b=ε o->h'.get? b=ε o)(g:∀b∈fp,XE X a H b):so X a d H { s with heap:=h',toks:=t' }:=by
 have i:∀b u,H b=ε u->b∉fp:=fun b u q z=>by rw[(g b z).1]at q;cases q
 refine I.step (g':=s.gens) (d':=s.drawn) (ch:=fp) (fun b y=>?_) (fun b o t t e q t=>k b o e q) (fun b o t t e q t=>⟨o.slots,k b o e q⟩)
  (fun b o t q n=>n) (fun b o e q=>⟨o,k b o e q⟩) (fun b j q=>q) (fun b o u q=>q)
  (fun b L q=>⟨#[],by rw[q];simp⟩) (fun m x=>?_) (fun b u q=>?_) I.bare
 . obtain⟨M,J,e2,F,E,D⟩:=g b y;exact⟨F,J,E,D⟩
 . obtain⟨o,B,C,p,r⟩:=x;exact⟨o,B,C,k _ o (fun z=>(g _ z).2.1 rfl) p,r⟩
 . refine(I.hok b u q).stay (fun c v e h=>?_) (fun c q=>q) fun c j q=>q
   rcases e with z | z
   . subst z;exact k c v (i c u q) h
   . exact k c v (i c _ z) h
end
def Izp(K:Oi)(a b:Oa):It:=
 ⟨fun i H=>∃e d x y,to K H a e/\to K H b d/\e[i]?=ε x/\d[i]?=ε y,
  fun i H v g=>∃p x y,H p=none/\v=.ref p/\(∀e,to K H a e->e[i]?=ε x)/\(∀d,to K H b d->d[i]?=ε y)/\g=IB H p (.tup [x,y]),
  fun i H=>∃e d,to K H a e/\to K H b d/\(e.length<=i\/d.length<=i)⟩
theorem sY{h:Pu}{z TI TO k i2 m l2 n:Oa}{P:Mu}{x y a b:Mu}{I H:Nat}{xs ys:Pb Mu}(Q:z=n+4)(S:TI=n+2)(R:TO=n+3)(T:k=n)(e2:i2=n+1)(J:IsZip h z TI TO P)(s:IsPair h TO a b)
 (h1:h.IsListIter k m I) (h2:h.IsListIter i2 l2 H) (q:h.IsList m xs) (p:h.IsList l2 ys):ZipApart z TI TO k i2 m l2:=by
 obtain⟨Z,O,W,_⟩:=h1;obtain⟨Y,g2,U,_⟩:=h2;have B:∀{l:Oa}{u:Pb Mu},h.IsList l u->l≠z/\l≠TO/\l≠k/\l≠i2:=by
  intro l u L;obtain⟨o,g,c,_⟩:=L;refine⟨fun e=>?_,fun e=>?_,fun e=>?_,fun e=>?_⟩
  . subst e;rw[J]at g;cases g;simp at c
  . subst e;rw[s]at g;cases g;simp at c
  . subst e;rw[O]at g;cases g;rw[W]at c;simp at c
  . subst e;rw[g2]at g;cases g;rw[U]at c;simp at c
 obtain⟨q1,q2,q3,q4⟩:=B q;obtain⟨F,E,D,C⟩:=B p;have ne:∀(i j:Nat),i≠j->n+i≠n+j:=fun i j r e=>r (Nat.add_left_cancel e)
 have d:∀(i:Nat),i≠0->n+i≠n:=fun i M e=>M (Nat.add_left_cancel (e:n+i=n+0))
 subst Q S R T e2;exact⟨ne _ _ (by decide),ne _ _ (by decide),(d _ (by decide)).symm,ne _ _ (by decide),ne _ _ (by decide),d _ (by decide),ne _ _ (by decide),d _ (by decide),ne _ _ (by decide),(d _ (by decide)).symm,q1,q2,q3,q4,F,E,D,C⟩
theorem kz{P:Oo}{w:O4}{K:Oi}{W:Ms Oe}{x1}{pos:Pos}(a b n:Oa):xG P w K (.Tuple W x1 pos) (Izp K a b) [n+4,n+2,n+3,n,n+1] (n+4)
 (fun i h=>IsZip h (n+4) (n+2) (n+3) .none/\IsPair h (n+2) (.ref n) (.ref (n+1))/\(∃u v,IsPair h (n+3) u v)/\h.IsListIter n a i/\h.IsListIter (n+1) b i) where
 mem:=by simp
 obj:=fun i h F c j=>by
  obtain⟨C,J,⟨u,v,B⟩,r,m⟩:=F;have z:c=n+4\/c=n+2\/c=n+3\/c=n\/c=n+1:=by simpa using j
  rcases z with z | z | z | z | z<;>subst z
  . exact⟨_,C,fun v z=>by cases z⟩
  . exact⟨_,J,fun v z=>by cases z⟩
  . exact⟨_,B,fun v z=>by cases z⟩
  . obtain⟨o,e,c,d⟩:=r;exact⟨o,e,fun v z=>by rw[d]at z;cases z⟩
  . obtain⟨o,e,c,d⟩:=m;exact⟨o,e,fun v z=>by rw[d]at z;cases z⟩
 keep:=fun i h h' F k=>by obtain⟨C,J,⟨u,v,B⟩,r,m⟩:=F;exact⟨k _ ⋯ _ C,k _ ⋯ _ J,⟨u,v,k _ ⋯ _ B⟩,r.at fun o e=>k _ ⋯ o e,m.at fun o e=>k _ ⋯ o e⟩
 item:=by
  intro X hP hw hK j i Q s σ H E I Z F hg;subst hP hw hK;obtain⟨C,J,⟨u,v,B⟩,r,m⟩:=F;obtain⟨xs,ys,x,y,Y,L,hx,hy⟩:=hg;obtain⟨a2,rv,p,T⟩:=I.list Y;obtain⟨S,M,R,a3⟩:=I.list L;obtain⟨ux,a5,a1⟩:=rv.get hx;obtain⟨uy,a4,a0⟩:=M.get hy;have D:=sY (x:=.none) (y:=.none) rfl rfl rfl rfl rfl C B r m p.isList R.isList;refine wpAny_pyNext_zip_item D C J B r m p.isList R.isList (x:=ux) (y:=uy) (by simpa using a5) (by simpa using a4) fun h' z1 z2 z3 z4 O sz kp=>?_
  refine⟨_,rfl,wpAny_letOwnedTupleGo_zip z1 fun h2 a6 sb=>?_⟩;have U:∀c ∈ [n+4,n+2,n+3,n,n+1],s.heap.objs.size≠c:=fun c j e=>by
   have z:c=n+4\/c=n+2\/c=n+3\/c=n\/c=n+1:=by simpa using j
   have:∃o,s.heap.get? c=ε o:=by
    rcases z with z | z | z | z | z<;>subst z
    . exact⟨_,C⟩
    . exact⟨_,J⟩
    . exact⟨_,B⟩
    . obtain⟨o,g,_⟩:=r;exact⟨_,g⟩
    . obtain⟨o,g,_⟩:=m;exact⟨_,g⟩
   obtain⟨o,g⟩:=this;exact Ei (je g) (by rw[e];exact Fd _)
  have t2:h2.get? s.heap.objs.size=ε { cls:=.type "tuple",data:=.seq #[ux,uy] }:=(sb.2 _ (U _ ⋯)).trans O;have kk:∀c o,c ∉ [n+4,n+2,n+3,n,n+1]->s.heap.get? c=ε o->h2.get? c=ε o:=fun c o j q=>by simp![Bo,not_mem_nil,or_false,not_or]at j;exact(sb.2 c j.1).trans (kp c o j.1 j.2.2.1 j.2.2.2.1 j.2.2.2.2 q)
  have n2:IsPair h2 (n+2) (.ref n) (.ref (n+1)):=(sb.2 _ D.TIz).trans (kp _ _ D.TIz D.TITO D.TIi1 D.TIi2 J);refine⟨.ref s.heap.objs.size,IB H s.heap.objs.size (.tup [x,y]),I.gv kk Z (Uo _) ⟨by simp![Ru,Ve];rw[Ce];decide,[ux,uy],.cons a1 (.cons a0 .nil),⟨_,t2,rfl,_,rfl⟩⟩,rfl,
   ⟨_,x,y,I.hok.fresh (Uo _),rfl,fun zs T=>by rw[I.ey T Y];exact hx,fun zs T=>by rw[I.ey T L];exact hy,rfl⟩,
   ⟨a6,n2,⟨_,_,(sb.2 _ D.TOz).trans z2⟩,z3.at fun o q=>(sb.2 _ D.i1z).trans q,z4.at fun o q=>(sb.2 _ D.i2z).trans q⟩,fun c j=>?_⟩
  rw[dB (nW (U c j))];exact(Z c j).1
 done:=by
  intro X hP hw hK j i Q s σ H E I Z F hg;subst hP hw hK;obtain⟨C,J,⟨u,v,B⟩,r,m⟩:=F;obtain⟨xs,ys,Y,L,hx⟩:=hg;obtain⟨a2,rv,p,T⟩:=I.list Y;obtain⟨S,M,R,a3⟩:=I.list L;have hl:=rv.length;have b1:=M.length;have D:=sY (x:=.none) (y:=.none) rfl rfl rfl rfl rfl C B r m p.isList R.isList;refine wpAny_pyNext_zip_end (I.ok.hd j) D C J B r m p.isList R.isList ?_ fun h' eb=>⟨rfl,I.gx (t':=s.toks) (fp:=[n+4,n+2,n+3,n,n+1]) (fun c o j q=>?_) Z⟩
  . rcases hx with hx | hx
    . exact .inl (by simp;omega)
    . exact .inr (by simp;omega)
  . simp![Bo,not_mem_nil,or_false,not_or]at j;exact eb c o j.1 j.2.2.1 j.2.2.2.1 j.2.2.2.2 q
 self:=fun t t t t t F h=>wpAny_pyIter_zip F.1 h
section
variable{X:Cx}
def iZp(K:Oi)(j:TA):TI:=fun e H R=>j e H fun i d=>∃a b,i=[.ref a,.ref b]/\(∃h,to K d a h)/\(∃g,to K d b g)/\R (Izp K a b) d
theorem aj {j:Ms Oe} {x1} {O:Pos} {a b:Oe} {B:TA} {p pos:Pos} (hg:Gl X "zip") (Z:X.mg "zip" =none) (ha:PA X [a,b] B) (hs:autoParam (starEach [a,b] X.env=(false,eval a X.env)::starEach [b] X.env) Æ) (hpl:autoParam ((backTo pos (starEach [b] X.env)).any (·.1)=false) Æ) :
 PI X (.Tuple j x1 O) (.Call (.Name "zip" p) [a,b] [] pos) (iZp X.K B):=by
 intro i s x H R I h;refine Call_ (LG I hg Z boot_zip (PyProof.Rows.callWith_type1 (HB (ha pos i s x H _ I h) fun us g E=>?_) hs hpl));obtain⟨vs,D,m,Q,q1⟩:=E;obtain⟨c,d,e,⟨xs,Y⟩,⟨ys,o⟩,q⟩:=q1;subst e;obtain⟨u,u',rfl,r,S⟩:=uQ Q;cases r;cases S;obtain⟨T,rv,pl,hz⟩:=m.list Y;obtain⟨C,P,n,U⟩:=m.list o;refine call_zip_2 pl.isList n.isList fun h' y M L J F W k=>?_
 have I2:so X i x D { g with heap:=h' }:=m.kept (t':=g.toks) k;refine wpAny_pyIter_zip y ?_;refine⟨g.heap.objs.size+4,[g.heap.objs.size+4,g.heap.objs.size+2,g.heap.objs.size+3,g.heap.objs.size,g.heap.objs.size+1],_,_,D,rfl,I2,kz c d g.heap.objs.size,⟨y,M,⟨_,_,L⟩,J,F⟩,fun c hc=>?_,q⟩;have z:g.heap.objs.size<=c:=by
  have z:c=g.heap.objs.size+4\/c=g.heap.objs.size+2\/c=g.heap.objs.size+3\/c=g.heap.objs.size\/c=g.heap.objs.size+1:=by simpa using hc
  rcases z with z | z | z | z | z<;>rw[z]<;>first | exact Uo _ | exact La _ _
 exact m.ca z (m.hok.fresh z)
end
end L2
namespace SM
section
variable{X:Cx}{e o i a b:Oe}{f g fe fo A fa fb:RE}{p pos w:Pos}
theorem F8 (u:X.calm=true) (s:Gl X "any") (n:X.mg "any" =none) (x:EM X e f) (hs:autoParam (fB e=true) Æ):EM X (.Call (.Name "any" p) [e] [] pos) (QB cN f):=by
 unhygienic
  exact wM (yt u) (fun j h d v D C H Q S R e k=>by
   obtain⟨m,y,e⟩:=qA e;cases q:lF m with
   | none=>rw[q]at e;cases e
   | some ns=>
    rw[q]at e;cases e;obtain⟨a,B,z,sq,r⟩:=SC S R y;rw[mS q]at r;rw[r.gc]at sq;exact⟨a,ns,by rw[z],sq,k j _ H (Zi.mpr rfl) S (sx.refl _ _)⟩) s n PyProof.Rows.boot_any x (hs:=hs)
theorem SJ(he:EM X e fe)(Y:EM X o fo)(hi:EM X i A)
 (hs:autoParam (swapsWithSole [.Subscript o i w] e pos.line X.env=pure false) Æ) (hw:autoParam (swappedStores [.Subscript o i w] e X.env=pure none) Æ) (h1:autoParam ((assignEach [.Subscript o i w] X.env).map (·.2)=[assign (.Subscript o i w) X.env]) Æ)
 (m:∀v,assign (.Subscript o i w) X.env v=(do
  let ov <- holding [v] (eval o X.env)
  let iv <- holding [v,ov] (eval i X.env)
  standAt w
  holding [v,ov,iv] (setItem ov iv v)
  release [v,ov,iv] []):=by intro _;rfl):ZM X (.Assign [.Subscript o i w] e pos) (SG fe fo A):=by
 unhygienic
  exact PS.imp (Z1 he (Y9 Y hi Em m) hs hw h1) fun D R H J=>by
   obtain⟨T,l,h,r,S,L,e,k⟩:=J;obtain⟨⟨v,P⟩,e1,e⟩:=qA e;obtain⟨⟨d,hd⟩,e2,e⟩:=qA e;obtain⟨⟨j,Z⟩,e3,e⟩:=qA e;refine⟨T,l,h,v,P,S,L,e1,fun I u H1 R1 S1 C=>⟨I,l,P,d,hd,S1,L.ext C,e2,fun F y H2 R2 S2 B=>⟨F,l,hd,j,Z,S2,L.ext (C.trans B),e3,fun E z H3 R3 Q x=>?_⟩⟩⟩;cases d with
   | ref n=>
    cases j with
    | int W=>
     dsimp only at e;split at e
     . rename_i xs q;obtain⟨O,e4,e⟩:=qA e;cases e;obtain⟨aa,J,m⟩:=af.mp (Te.ext x _ R2);obtain⟨U,s,g2⟩:=Q.lst m q;have M:=lu m;refine⟨aa,U,W,O,J,Xa.mp R3,s,by rw[g2.length];exact e4,?_⟩;exact k E R _ (Q.write m (iH s) ⟨_,IC,(g2.set O (Te.ext (B.trans x) _ R1)).ext (sx.write M (iH s))⟩) (L.ext (C.trans (B.trans (x.trans (sx.write M (iH s)))))) (C.trans (B.trans (x.trans (sx.write M (iH s)))))
     . cases e
    | _=>cases e
   | _=>cases e
theorem Y7{d:Oe}{t:RG}(he:EM X e fe)(C:GM X d t)(hs:autoParam (swapsWithSole [d] e pos.line X.env=pure false) Æ)(hw:autoParam (swappedStores [d] e X.env=pure none) Æ)
 (h1:autoParam ((assignEach [d] X.env).map (·.2)=[assign d X.env]) Æ):ZM X (.Assign [d] e pos) (WQ t fe):=by
 unhygienic exact PS.imp (Z1 he C hs hw h1) fun D M H y=>by obtain⟨x,l,h,r,S,L,e,k⟩:=y;obtain⟨⟨v,n⟩,E,e⟩:=qA e;obtain⟨B,e2,e⟩:=qA e;cases e;exact⟨x,l,h,v,n,S,L,E,fun j u J F q s=>⟨j,l,n,v,B,q,L.ext s,F,e2,fun m I=>k j m J q I s⟩⟩
theorem SY(i j m:Nat){x y z:Str}{J I pz pos:Pos}{x1}(Z:X.calm=true)(D:X.N.Nodup)(W:autoParam (X.N[i]?=ε x) Æ)(U:autoParam (X.N[j]?=ε y) Æ)(T:autoParam (X.N[m]?=ε z) Æ)
 (P:autoParam (xK X.env.scope x) ö) (O:autoParam (xK X.env.scope y) ö) (M:autoParam (xK X.env.scope z) ö)
 (Y:autoParam (X.fn x=true\/X.env.scope.names.lookup x=ε .local) Ø)
 (C:autoParam (X.fn y=true\/X.env.scope.names.lookup y=ε .local) Ø)
 (B:autoParam (X.fn z=true\/X.env.scope.names.lookup z=ε .local) Ø):GM X (.Tuple [.Name x J,.Name y I,.Name z pz] x1 pos) (GI i j m):=by
 unhygienic
  refine PG.imp (Y1 (n:=3) Z (SL (XJ D W P Y) (SL (XJ D U O C) (SL (XJ D T M B) D0)))) fun v σ H Q F=>?_
  obtain⟨ρ,l,h,d,l',S,L,R,e,k⟩:=F;unfold GI at e;split at e
  . cases e;obtain⟨a,vs,rfl,q,r⟩:=ag.mp R;obtain⟨E,r1,rfl,R1,r⟩:=r.Za;obtain⟨u,r2,rfl,R2,r⟩:=r.Za;obtain⟨s,r3,rfl,R3,r⟩:=r.Za;cases r.av;exact⟨a,[E,u,s],rfl,q.sq,rfl,E,[u,s],rfl,u,[s],rfl,s,[],rfl,rfl,k _ (((L.set i R1).set j R2).set m R3)⟩
  . cases e
theorem RY{d:Type}(v:d):∀k:Nat,(List.replicate k [v]).flatten=List.replicate k v
 | 0=>rfl
 | k+1=>by rw[Ko,flatten_cons,RY v k];rfl
theorem xZ{K:Oi}{H:Hp}{ρ:Rg}{d:Dt}{v:V}(r:Te K H ρ d v):∀k:Nat,Ro K H ρ (List.replicate k d) (List.replicate k v)
 | 0=>.nil
 | k+1=>.cons r (xZ r k)
theorem yY{J:L2.St}{H:Hp}{Q:VK}(own:Bool)(h:tM X.K (if own=true then vK fa fb else eJ fa fb) J H Q):jV hV (iV (D3 (tM X.K fa) ZQ)) (tM X.K fb) J H Q:=by
 obtain⟨R,l,h,d,U,S,L,e,k⟩:=h;have W:∃n r s m i,fa l h=ε (n,r)/\fb l r=ε (s,m)/\s=.int i/\(-(2^62)<=i/\i<=1000000)/\(if own=true then(Dt.ref m.length,m++[.lst (AG n i)])else(Dt.lst (AG n i),m))=(d,U):=by
  cases own with
  | true=>
   rw[eG rfl]at e;obtain⟨⟨n,r⟩,B,e⟩:=qA e;obtain⟨⟨s,m⟩,e2,e⟩:=qA e;cases s with
   | int i=>obtain⟨c,e⟩:=GF e;exact⟨n,r,_,m,i,B,e2,rfl,c,e⟩
   | _=>cases e
  | false=>
   rw[eH Wk]at e;obtain⟨⟨n,r⟩,B,e⟩:=qA e;obtain⟨⟨s,m⟩,e2,e⟩:=qA e;cases s with
   | int i=>obtain⟨c,e⟩:=GF e;exact⟨n,r,_,m,i,B,e2,rfl,c,e⟩
   | _=>cases e
 obtain⟨n,r,s,m,i,B,e2,rfl,c,C⟩:=W;refine⟨R,l,h,n,r,S,L,B,fun E v H1 Y M P=>⟨by simp![Ru,Ve];rw[Ce];decide,fun q x=>?_⟩⟩;refine⟨E,l,r,.int i,m,M.fresh x,L.ext (P.trans (sx.fresh x)),e2,fun u y Z R2 D I=>?_⟩;have T:=I.keep q _ IC (M.out x).1;have hi:i.toNat<=1000000:=by omega
 refine⟨q,i,[v],rfl,Xa.mp R2,T,by omega,by omega,by simp![Ru,Ve];rw[Ce];omega,fun q2 j=>?_⟩;rw[RY];have F:Ro X.K Z u (AG n i) (List.replicate i.toNat v):=xZ (Te.ext ((sx.fresh x).trans I) _ Y) _;have O:=P.trans ((sx.fresh x).trans I);cases own with
 | true=>rw[eG rfl]at C;cases C;exact k _ _ _ (xH D F j).1 (xH D F j).2 (O.trans (sx.own j))
 | false=>rw[eH Wk]at C;cases C;exact k u _ _ (UP D F j) (D.fresh j) (O.trans (sx.fresh j))
theorem J0(j:EM X a fa)(d:EM X b fb)(hs:autoParam (fB a=true) Æ):EM X (.BinOp (.List [a] p) .Mult b pos) (eJ fa fb):=by unhygienic exact PE.imp (lU T1 (VP (wC j bD (kB hs _ _))) d) fun k H Q h=>yY (fa:=fa) (fb:=fb) false h
theorem NZ(j:EM X a fa)(d:EM X b fb)(hs:autoParam (fB a=true) Æ):EM X (.BinOp (.List [a] p) .Mult b pos) (vK fa fb):=by unhygienic exact PE.imp (lU T1 (VP (wC j bD (kB hs _ _))) d) fun k H Q h=>yY (fa:=fa) (fb:=fb) true h
set_option tactic.hygienic true in
theorem zj {I:Ms Oe} {x1} {tp:Pos} (hg:Gl X "zip") (hm:X.mg "zip" =none) (ha:EM X a fa) (hb:EM X b fb) (hs:autoParam (fB a=true) Æ) (F:autoParam (fB b=true) Æ):IM X (.Tuple I x1 tp) (.Call (.Name "zip" p) [a,b] [] pos) (PQ fa fb):=by
 unhygienic
  refine PI.imp (aj hg hm (wC ha (wC hb bD (kB F _ _)) (kB hs _ _)) (kB hs _ _) (vI (by rw[Ju,F];rfl))) fun σ H R zz=>?_
  obtain⟨ρ,l,h,s,h',S,L,e,k⟩:=zz;obtain⟨⟨d1,h1⟩,e1,e⟩:=qA e;obtain⟨⟨d2,h2⟩,e2,e⟩:=qA e;refine⟨ρ,l,h,d1,h1,S,L,e1,fun W v H1 R1 S1 E1=>⟨W,l,h1,d2,h2,S1,L.ext E1,e2,fun U u H2 R2 S2 E2=>?_⟩⟩;dsimp only at e;split at e
  . rename_i xs ys q1 q2;cases e;have J:=Te.ext E2 _ R1;obtain⟨c,vs,Z,t1,_⟩:=SC S2 J q1;obtain⟨d,ws,Y,t2,_⟩:=SC S2 R2 q2;refine⟨c,d,by rw[Z,Y],⟨vs,t1⟩,⟨ws,t2⟩,k U _ H2 (fun H3 a1 h3 E3 q n=>?_) S2 (E1.trans E2)⟩;have x:=Te.same E3 _ J;have r:=Te.same E3 _ R2;simp![th.at];split
    . trivial
    . rename_i y;split at y
      . rename_i E D w1 w2;obtain⟨c2,m,C,O,r3⟩:=SC q x w1;obtain⟨d2,j,B,M,r4⟩:=SC q r w2;rw[Z]at C;rw[Y]at B;cases C;cases B;refine⟨m,j,O,M,?_⟩;have y:=tu y;rw[r3.length,r4.length];split at y
        . cases y
        . rename_i a0;by_cases T:E.length<=n
          . exact .inl T
          . by_cases g2:D.length<=n
            . exact .inr g2
            . exact Ei (jj (Nat.lt_of_not_le g2)) (a0 _ _ (jj (Nat.lt_of_not_le T)))
      . cases y
    . rename_i dd y;split at y
      . rename_i E D w1 w2;obtain⟨c2,m,C,O,r3⟩:=SC q x w1;obtain⟨d2,j,B,M,r4⟩:=SC q r w2;rw[Z]at C;rw[Y]at B;cases C;cases B;have y:=tu y;split at y
        . rename_i x' y' T g2;cases y;obtain⟨vx,m1,n1⟩:=r3.get T;obtain⟨vy,m2,n2⟩:=r4.get g2;refine⟨⟨m,j,vx,vy,O,M,m1,m2⟩,fun u H4 y=>?_⟩;obtain⟨p0,x0,y0,hp,rfl,Q,P,rfl⟩:=y;have Q:=Q m O;have P:=P j M;rw[m1]at Q;rw[m2]at P;cases Q;cases P;exact⟨zI q (.cons n1 (.cons n2 .nil)) hp,sx.fresh hp,q.fresh hp⟩
        . cases y
      . cases y
  . cases e
end
section
variable{X:Cx}{c:Ms (Oa×Obj)}{f:L2.St}{H:Hp}{s:Nu}{ρ:Rg}
theorem yH(_:X.A.units+64<cLine):OM X (compareOp .Eq) aF:=M4
theorem kK(hu:X.A.units+64<cLine):OM X (compareOp .NotEq) rF:=by
 unhygienic
  intro c s f H x y v u Q I F E h;obtain⟨ρ,h,Z,Y,d,W,S,M,R2,e,k⟩:=h;unfold rF at e;split at e
  . obtain⟨ns,q1,e⟩:=qA e;obtain⟨U,q2,e⟩:=qA e;cases e;obtain⟨a,T,z,t,B⟩:=ag.mp M;obtain⟨b,R,C,D,m⟩:=ag.mp R2;rw[fF q1]at B;rw[fF q2]at m;subst z C;cases lI B;cases lI m;cases F;cases E;obtain⟨o,r,p,_⟩:=I.tuple t.sq;obtain⟨n,i,g,_⟩:=I.tuple D.sq;refine Tf (e:=fun j=>decide (ns[j]?=U[j]?)) (DJ p) (DJ g) nofun (fun j P L=>YR r i j P L) ?_;refine⟨.bl _,H,I,rfl,k ρ _ H (Zi.mpr (congrArg V.bl ?_)) S (sx.refl _ _)⟩;rw[dh,dh,<- r.length,<- i.length,ni,ni,zY]
  . obtain⟨O,q,e⟩:=qA e;cases e;obtain⟨a,T,z,t,B⟩:=SC S M q;obtain⟨b,R,C,D,m⟩:=bm.mp R2;subst z C;cases m.av;cases F;cases E;obtain⟨o,r,p,_⟩:=I.list t;obtain⟨n,i,g,_⟩:=I.list D.sq;cases i;have J:o.length=O.length:=by rw[<- r.length,B.length]
    cases O with
    | nil=>refine EY (e:=fun l=>true) p.isList g.isList J nofun (fun j P L=>Ei L ⋯) ?_;refine⟨.bl _,H,I,rfl,k ρ _ H (Zi.mpr (congrArg V.bl ?_)) S (sx.refl _ _)⟩;rw[dh,J];rfl
    | cons _ _=>exact Ek p.isList g.isList (by rw[dh,J];rfl) nofun ⟨.bl _,H,I,rfl,k ρ _ H (Zi.mpr rfl) S (sx.refl _ _)⟩
  . exact N4 c s f H x y v u Q I F E ⟨ρ,h,Z,Y,d,W,S,M,R2,e,k⟩
end
section
variable{X:Cx}{e o i a b:Oe}{f g fe fo fi fa fb:RE}{p pos pos' w s:Pos}
set_option tactic.hygienic true in
theorem NO (ho:EM X a fa) (hb:EM X b fb) (q:autoParam (attributeBase a "extend" X.env (eval a X.env)=eval a X.env) Æ)
 (j:autoParam ((w.endLine==s.line)=true) Æ) (hs:autoParam (fB b=true) Æ) :
 EM X (.Call (.Attribute a "extend" w) [b] [] s) (tI fa fb):=by
 unhygienic
  exact PE.imp (HM PySem.F.plainAttrs_list PySem.F.slot_list_extend PySem.F.type_list_extend Mf ho (wC hb bD (kB hs _ _)) q (UL hs) j (kB hs _ _)) fun σ H Q W=>by
   obtain⟨U,l,h,d,h',S,L,e,k⟩:=W;obtain⟨⟨M,F⟩,e1,e⟩:=qA e;refine⟨U,l,h,M,F,S,L,e1,fun C v H1 P O T=>?_⟩;cases M with
   | ref n=>
    dsimp only at e;split at e
    . rename_i Z q0;obtain⟨⟨J,h2⟩,e2,e⟩:=qA e;refine⟨IT O P q0,C,l,F,J,h2,O,L.ext T,e2,fun B y H2 R2 D R=>?_⟩;dsimp only at e;cases J with
      | ref m=>
       dsimp only at e;split at e
       . rename_i xs ys q1 q2;obtain⟨hz,e⟩:=GF e;cases e;obtain⟨a,z,ha⟩:=af.mp P;subst z;obtain⟨a2,Y,u⟩:=af.mp R2;subst Y;have r:=R.get ha;obtain⟨vs,x,g2⟩:=D.lst r q1;obtain⟨ws,g3,I⟩:=D.lst u q2;have E:=lu r;refine⟨a,a2,vs,ws,rfl,rfl,x,g3,by rw[g2.length,I.length];exact hz,k B _ _ (bo.mpr rfl) (D.write r (iH x) ⟨_,IC,?_⟩) (T.trans (R.trans (sx.write E (iH x))))⟩;exact(g2.append I).ext (sx.write E (iH x))
       . cases e
      | _=>cases e
    . cases e
   | _=>cases e
set_option tactic.hygienic true in
theorem Jc (ho:EM X a fa) (hb:EM X b fb) (m:autoParam (attributeBase a "pop" X.env (eval a X.env)=eval a X.env) Æ)
 (j:autoParam ((w.endLine==s.line)=true) Æ) (hs:autoParam (fB b=true) Æ) :
 EM X (.Call (.Attribute a "pop" w) [b] [] s) (JP fa fb):=by
 unhygienic
  exact PE.imp (HM PySem.F.plainAttrs_list PySem.F.slot_list_pop PySem.F.type_list_pop Xp ho (wC hb bD (kB hs _ _)) m (UL hs) j (kB hs _ _)) fun σ H Q T=>by
   obtain⟨R,l,h,d,h',S,L,e,k⟩:=T;obtain⟨⟨I,F⟩,e1,e⟩:=qA e;refine⟨R,l,h,I,F,S,L,e1,fun B v H1 M J P=>?_⟩;cases I with
   | ref n=>
    dsimp only at e;split at e
    . rename_i U q0;obtain⟨⟨d2,h2⟩,e2,e⟩:=qA e;refine⟨IT J M q0,B,l,F,d2,h2,J,L.ext P,e2,fun u y H2 R2 D O=>?_⟩;dsimp only at e;split at e
      . rename_i z0;split at e
        . rename_i x xs q1;cases e;obtain⟨a,z,ha⟩:=af.mp M;subst z;have q:=O.get ha;obtain⟨vs,r,g2⟩:=D.lst q q1;have C:=lu q;obtain⟨E,W,rfl,Z,Y⟩:=g2.Za;have a0:=D.len;refine⟨a,E::W,0,0,E,rfl,by rw[Xa.mp R2],r,by decide,by decide,?_,rfl,k u _ _ (Te.ext (sx.write C (iH r)) _ Z) (D.write q (iH r) ⟨_,IC,?_⟩) (P.trans (O.trans (sx.write C (iH r))))⟩
          . rw[seqIndex_of (by decide) (by simp![Ru];omega)];rfl
          . exact Y.ext (sx.write C (iH r))
        . cases e
      . cases e
    . cases e
   | _=>cases e
theorem K7(r:EM X a fa):EM X (.UnaryOp .Invert a pos) (pN fa):=by
 unhygienic
  exact PE.imp (P4 Ox r) fun F H Q q=>by
   obtain⟨n,l,h,d,I,S,L,e,k⟩:=q;obtain⟨⟨m,u⟩,y,e⟩:=qA e;refine⟨n,l,h,m,u,S,L,y,fun j x D C B E=>?_⟩;cases m with
   | int i=>cases e;exact⟨i,Xa.mp C,k j _ D (Xa.mpr rfl) B E⟩
   | _=>cases e
theorem dZ{c:Oe}{body:Ms Ou}{t:RT}{u:RS}{n:Nat}(hp:PassesOwn (model X.prog X.w) X.A X.env X.xe)(hc:TM X c t)(hb:RH X body u):ZM X (.While c body [] pos) (ZP n t u):=by
 unhygienic
  exact PS.imp (Hl hp hc hb) fun D σ H zz=>by
   obtain⟨Z,l,h,r,S,L,e,k⟩:=zz;refine⟨fun m C Y=>∃d y E,Vo X.K d E Y/\Ys X.K Y d y C/\sx Z d H Y/\OF t u m y E=ε r,⟨n,Z,l,h,S,L,sx.refl _ _,e⟩,?_⟩;rintro m C Y ⟨d,y,E,S',L',T,x⟩;cases m with
   | zero=>simp![OF]at x;cases x
   | succ m=>
    simp![OF]at x;obtain⟨⟨b,h1⟩,e1,x⟩:=qA x;refine⟨d,y,E,b,h1,S',L',e1,fun O H2 S2 J=>?_⟩;cases b with
    | true=>
     rw[eG rfl]at x;obtain⟨r1,e2,x⟩:=qA x;refine fH ⟨fun M W=>∃m',m'<m+1/\∃d y E,Vo X.K d E W/\Ys X.K W d y M/\sx Z d H W/\OF t u m' y E=ε r,fun M W q=>q,O,y,h1,r1,S2,L'.ext J,e2,?_⟩;cases r1 with
     | nx U P=>exact fun j B R F Q I=>⟨m,zu _,j,U,P,F,Q,T.trans (J.trans I),x⟩
     | ct U P=>exact fun j B R F Q I=>⟨m,zu _,j,U,P,F,Q,T.trans (J.trans I),x⟩
     | bk U P=>cases x;exact fun j B R F Q I=>k j B R F Q (T.trans (J.trans I))
     | rt d2 P=>cases x;exact fun j v5 R R5 F I=>k j v5 R R5 F (T.trans (J.trans I))
    | false=>rw[eH Wk]at x;cases x;exact dH (k O C H2 S2 (L'.ext J) (T.trans J))
theorem k0 (I:X.calm=true) (F:Gl X "max") (E:X.mg "max" =none) (M:EM X a fa) (J:EM X b fb) (hs:autoParam (fB a=true) Æ) (m:autoParam (fB b=true) Æ):EM X (.Call (.Name "max" p) [a,b] [] pos) (EU iQ fa fb):=by
 unhygienic
  exact PE.imp (GJ (Et I) F E PyProof.Rows.boot_max (wC M (wC J bD (kB m _ _)) (kB hs _ _)) (he:=kB hs _ _) (hpl:=vI (by rw[Ju,m];rfl))) fun Z H Q D=>by
   obtain⟨C,l,h,d,h',S,L,e,k⟩:=D;obtain⟨⟨y,r⟩,P,e⟩:=qA e;obtain⟨⟨x,O⟩,e2,e⟩:=qA e;refine⟨C,l,h,y,r,S,L,P,fun q v H1 U T B=>⟨q,l,r,x,O,T,L.ext B,e2,fun n u W R2 R Y=>?_⟩⟩;cases y with
   | int i=>
    cases x with
    | int j=>cases e;exact⟨i,j,by rw[Xa.mp U,Xa.mp R2],k n _ W (Xa.mpr rfl) R (B.trans Y)⟩
    | _=>cases e
   | _=>cases e
theorem la (I:X.calm=true) (F:Gl X "min") (E:X.mg "min" =none) (M:EM X a fa) (J:EM X b fb) (hs:autoParam (fB a=true) Æ) (m:autoParam (fB b=true) Æ):EM X (.Call (.Name "min" p) [a,b] [] pos) (EU BM fa fb):=by
 unhygienic
  exact PE.imp (GJ (Ht I) F E PyProof.Rows.boot_min (wC M (wC J bD (kB m _ _)) (kB hs _ _)) (he:=kB hs _ _) (hpl:=vI (by rw[Ju,m];rfl))) fun Z H Q D=>by
   obtain⟨C,l,h,d,h',S,L,e,k⟩:=D;obtain⟨⟨y,r⟩,P,e⟩:=qA e;obtain⟨⟨x,O⟩,e2,e⟩:=qA e;refine⟨C,l,h,y,r,S,L,P,fun q v H1 U T B=>⟨q,l,r,x,O,T,L.ext B,e2,fun n u W R2 R Y=>?_⟩⟩;cases y with
   | int i=>
    cases x with
    | int j=>cases e;exact⟨i,j,by rw[Xa.mp U,Xa.mp R2],k n _ W (Xa.mpr rfl) R (B.trans Y)⟩
    | _=>cases e
   | _=>cases e
end
end SM
namespace L2
section
variable{X:Cx}
end
end L2
namespace SM
section
variable{X:Cx}{e o i a b:Oe}{f g fe fo fi fa fb:RE}{p pos pos' apos cpos:Pos}
end
end SM
namespace L2
section
variable{c:Type}[DecidableEq c]
noncomputable def cF(kvs:Ms (c×V))(k:c):Ni V:=(kvs.find? fun a=>decide (a.1=k)).map (·.2)
noncomputable def sF(kvs:Ms (c×V))(k:c)(v:V):Ms (c×V):=
 if(kvs.any fun a=>decide (a.1=k))=true then kvs.map (fun a=>if a.1=k then(a.1,v)else a)else kvs++[(k,v)]
noncomputable def A4(kvs:Ms (c×V))(k:c):Ms (c×V):=kvs.filter fun a=>decide (a.1≠k)
theorem tP{p:c×V}{r:Ms (c×V)}{k:c}(e:p.1=k):cF (p::r) k=ε p.2:=by simp[cF,Ii,e]
theorem sP{p:c×V}{r:Ms (c×V)}{k:c}(e:¬p.1=k):cF (p::r) k=cF r k:=by simp[cF,Ii,e]
theorem pZ(k:c):∀a:Ms (c×V),(a.any fun b=>decide (b.1=k))=(cF a k).isSome
 | []=>rfl
 | p::r=>by
  rw[Js];by_cases e:p.1=k
  . simp![tP e,iu e,Bool.true_or,Option.isSome_some]
  . rw[sP e,fu e,Bool.false_or];exact pZ k r
theorem DW(kvs:Ms (c×V))(k:c)(v:V):(sF kvs k v).length<=kvs.length+1:=by
 unfold sF;split
 . rw[ni];omega
 . rw[ji,Ru,Ve];omega
theorem ax.lc{o:Ni V}{u:Ni Mu}(r:ax o u):o.isSome=u.isSome:=by
 cases o with
 | none=>cases u with
  | none=>rfl
  | some _=>exact(show False from r).elim
 | some _=>cases u with
  | none=>exact(show False from r).elim
  | some _=>rfl
theorem ax.getD{o:Ni V}{u:Ni Mu}{d:V}{d':Mu}(r:ax o u)(a:td d d'):td (o.getD d) (u.getD d'):=by
 cases o with
 | none=>cases u with
  | none=>exact a
  | some _=>exact(show False from r).elim
 | some _=>cases u with
  | none=>exact(show False from r).elim
  | some _=>exact r
theorem KV.val{kvs:Ms (c×V)}{vs:Ms (c×Mu)}(r:KV kvs vs)(k:c):ax (cF kvs k) (valueAt vs k):=by
 unfold KV at r
 induction r with
 | nil=>exact Ji
 | @cons p q i qs h t ih=>
  obtain⟨d,g⟩:=h;by_cases e:p.1=k
  . have a:q.1=k:=d.symm.trans e;have b:valueAt (q::qs) k=ε q.2:=by simp[valueAt,Ii,a]
    rw[tP e,b];exact g
  . have a:¬q.1=k:=fun z=>e (d.trans z)
    have b:valueAt (q::qs) k=valueAt qs k:=by simp[valueAt,Ii,a]
    rw[sP e,b];exact ih
theorem KV.any{kvs:Ms (c×V)}{vs:Ms (c×Mu)}(r:KV kvs vs)(k:c):(kvs.any fun a=>decide (a.1=k))=vs.any fun a=>decide (a.1=k):=by
 unfold KV at r
 induction r with
 | nil=>rfl
 | cons h t ih=>rw[Js,Js,ih,h.1]
theorem KV.repl{kvs:Ms (c×V)}{vs:Ms (c×Mu)}(r:KV kvs vs)(k:c){y:V}{u:Mu}(d:td y u) :
 KV (kvs.map fun a=>if a.1=k then(a.1,y)else a) (vs.map fun a=>if a.1=k then(a.1,u)else a):=by
 unfold KV at r ⊢
 induction r with
 | nil=>exact .nil
 | @cons p q i qs h t ih=>
  rw[Ss,Ss];refine .cons ?_ ih;obtain⟨b,g⟩:=h;by_cases e:p.1=k
  . rw[eG e,eG (b.symm.trans e)];exact⟨b,d⟩
  . rw[eH e,eH (fun z=>e (b.trans z))];exact⟨b,g⟩
theorem KV.put{kvs:Ms (c×V)}{vs:Ms (c×Mu)}(r:KV kvs vs)(k:c){y:V}{u:Mu}(a:td y u):KV (sF kvs k y) (stored vs k u):=by
 unfold sF stored;rw[r.any k];by_cases e:(vs.any fun b=>decide (b.1=k))=true
 . rw[eG e,eG e];exact r.repl k a
 . rw[eH e,eH e];exact Paired.snoc r ⟨rfl,a⟩
theorem KV.drop{kvs:Ms (c×V)}{vs:Ms (c×Mu)}(r:KV kvs vs)(k:c):KV (A4 kvs k) (without vs k):=by
 unfold KV at r ⊢;unfold A4 without
 induction r with
 | nil=>exact .nil
 | @cons p q j qs h t ih=>
  obtain⟨d,g⟩:=h;rw[filter_cons,filter_cons];by_cases e:p.1=k
  . have a:¬decide (p.1≠k)=true:=by simp[e]
    have b:¬decide (q.1≠k)=true:=by simp[d.symm.trans e]
    rw[eH a,eH b];exact ih
  . have i:¬q.1=k:=fun z=>e (d.trans z)
    have a:decide (p.1≠k)=true:=by simp[e]
    have b:decide (q.1≠k)=true:=by simp[i]
    rw[eG a,eG b];exact .cons ⟨d,g⟩ ih
theorem KV.keys{kvs:Ms (c×V)}{vs:Ms (c×Mu)}(r:KV kvs vs):kvs.map (·.1)=vs.map (·.1):=by
 unfold KV at r
 induction r with
 | nil=>rfl
 | cons h t ih=>rw[Ss,Ss,ih,h.1]
theorem KV.length{kvs:Ms (c×V)}{vs:Ms (c×Mu)}(r:KV kvs vs):kvs.length=vs.length:=Paired.length r
end
theorem xU{P:Oo}{w:O4}{k:kC}{u:Mu}(r:td (kV k) u):(bE P w).is k u=true:=by
 cases k with
 | inl i=>obtain⟨t,e⟩:=(show ∃t,u=Value.int i t from r);subst e;exact Ky P w i t
 | inr x=>obtain⟨t,e⟩:=(show ∃t,u=Value.str x t from r);subst e;exact Ly P w x t
theorem FX{P:Oo}{w:O4}:∀{a:Ms kC}{us:Ms Mu},ss (a.map kV) us->ItemsAre (bE P w) a us
 | [],_,r=>by rw[Vs]at r;cases r;exact .nil
 | k::a,_,r=>by
  rw[Ss]at r;cases r with
  | cons h t=>exact .cons (xU h) (FX t)
abbrev KT(H:Hp):Ms (Ms kC×V)->Ms (Ms kC×Oa×Mu)->Prop:=Paired fun p q=>p.1=q.1/\H q.2.1=ε (.tup (p.1.map kV))/\td p.2 q.2.2
theorem KT.val{H:Hp}{kvs:Ms (Ms kC×V)}{xs:Ms (Ms kC×Oa×Mu)}(r:KT H kvs xs)(k:Ms kC):ax (cF kvs k) ((atKey xs k).map (·.2)):=by
 induction r with
 | nil=>exact Ji
 | @cons p q i qs h t ih=>
  obtain⟨d,_,g⟩:=h;by_cases e:p.1=k
  . have a:q.1=k:=d.symm.trans e;have b:atKey (q::qs) k=ε q.2:=by simp[atKey,Ii,a]
    rw[tP e,b];exact g
  . have a:¬q.1=k:=fun z=>e (d.trans z)
    have b:atKey (q::qs) k=atKey qs k:=by simp[atKey,Ii,a]
    rw[sP e,b];exact ih
theorem KT.repl{H:Hp}{kvs:Ms (Ms kC×V)}{xs:Ms (Ms kC×Oa×Mu)}(r:KT H kvs xs)(k:Ms kC){y:V}{u:Mu}(g:td y u) :
 KT H (kvs.map fun b=>if b.1=k then(b.1,y)else b) (xs.map (putAt k u)):=by
 induction r with
 | nil=>exact .nil
 | @cons p q j qs h t ih=>
  rw[Ss,Ss];refine .cons ?_ ih;obtain⟨a,d,i⟩:=h;unfold putAt;by_cases e:p.1=k
  . rw[eG e,eG (a.symm.trans e)];exact⟨a,d,g⟩
  . rw[eH e,eH (fun z=>e (a.trans z))];exact⟨a,d,i⟩
theorem KT.put{H:Hp}{kvs:Ms (Ms kC×V)}{xs:Ms (Ms kC×Oa×Mu)}(r:KT H kvs xs)(k:Ms kC){b:Oa}{y:V}{u:Mu}(g:H b=ε (.tup (k.map kV)))(a:td y u) :
 KT H (sF kvs k y) (storedH xs k b u):=by
 have e:(kvs.any fun d=>decide (d.1=k))=(atKey xs k).isSome:=by rw[pZ,(r.val k).lc,Option.isSome_map]
 unfold sF storedH;rw[e];by_cases q:(atKey xs k).isSome=true
 . rw[eG q,eG q];exact r.repl k a
 . rw[eH q,eH q];exact Paired.snoc r ⟨rfl,g,a⟩
theorem KT.keeps{H d:Hp}{kvs:Ms (Ms kC×V)}{xs:Ms (Ms kC×Oa×Mu)}(r:KT H kvs xs)(e:∀b a,H b=ε (.tup a)->d b=ε (.tup a)):KT d kvs xs:=
 Paired.ff r fun q q z=>⟨z.1,e _ _ z.2.1,z.2.2⟩
section
variable{P:Oo}{w:O4}{H:Hp}{h:Pu}{a:Oa}
theorem o3{u:HO}(ok:tA P w H h)(e:Rd H a u):Yu P w H h a u:=e.ok ok
theorem sU{kvs:Ms (kC×V)}(ok:tA P w H h)(e:Rd H a (.dK kvs)):kvs.length<=sizeLine/\(a==sysModules)=false/\∃vs,KV kvs vs/\h.DictOf (bE P w) a vs:=
 show Yu P w H h a (.dK kvs)from o3 ok e
theorem Vx{kvs:Ms (kC×V)}(ok:tA P w H h)(e:H a=ε (.dK kvs)):kvs.length<=sizeLine/\(a==sysModules)=false/\∃vs,KV kvs vs/\h.DictOf (bE P w) a vs:=sU ok (.inl e)
theorem ET{b:Ms kC}(ok:tA P w H h)(e:H a=ε (.tup (b.map kV))):(tupleKind (bE P w)).is h b a:=by obtain⟨_,d,r,o,j,i,n,g⟩:=(show Yu P w H h a (.tup (b.map kV))from ok a _ e);exact⟨o,d.toArray,n,j,i,g,by simpa using FX r⟩
theorem tU{kvs:Ms (Ms kC×V)}(ok:tA P w H h)(e:Rd H a (.dT kvs)):kvs.length<=sizeLine/\(a==sysModules)=false/\
 ∃xs,KT H kvs xs/\h.DictOfH (tupleKind (bE P w)) a xs:=by
 obtain⟨z,y,xs,r,o,n,s,k,j,i,g,d⟩:=(show Yu P w H h a (.dT kvs)from o3 ok e);refine⟨z,y,xs,r,o,n,s,k,j,i,g,fun x hx=>?_,d⟩;have all:∀{l:Ms (Ms kC×V)}{m:Ms (Ms kC×Oa×Mu)},KT H l m->∀x∈m,(tupleKind (bE P w)).is h x.1 x.2.1:=by
  intro l m q
  induction q with
  | nil=>intro x hx;exact nomatch hx
  | @cons p q u qs b t ih=>
   intro x hx;rcases Bo.mp hx with e | hx
   . subst e;exact ET ok (by rw[<- b.1];exact b.2.1)
   . exact ih x hx
 exact all r x hx
theorem xq{kvs:Ms (Ms kC×V)}(ok:tA P w H h)(e:H a=ε (.dT kvs)):kvs.length<=sizeLine/\(a==sysModules)=false/\
 ∃xs,KT H kvs xs/\h.DictOfH (tupleKind (bE P w)) a xs:=tU ok (.inl e)
end
def dq(H:Hp)(a:Oa)(y:V)(r:Ni V):Prop:=
 (∃d k,Rd H a (.dK d)/\y=kV k/\r=cF d k)\/∃d k b,Rd H a (.dT d)/\y=.ref b/\H b=ε (.tup (k.map kV))/\r=cF d k
def dr(H:Hp)(a:Oa)(y v:V)(e:Hp):Prop:=
 (∃d k,H a=ε (.dK d)/\y=kV k/\d.length<sizeLine/\e=IB H a (.dK (sF d k v)))\/
 ∃d k b,H a=ε (.dT d)/\y=.ref b/\H b=ε (.tup (k.map kV))/\d.length<sizeLine/\e=IB H a (.dT (sF d k v))
theorem dq.t{H:Hp}{a b:Oa}{kvs:Ms (Ms kC×V)}{k:Ms kC}(e:H a=ε (.dT kvs))(d:H b=ε (.tup (k.map kV))):dq H a (.ref b) (cF kvs k):=.inr ⟨kvs,k,b,.inl e,rfl,d,rfl⟩
theorem dr.t{H:Hp}{a b:Oa}{kvs:Ms (Ms kC×V)}{k:Ms kC}{v:V}(e:H a=ε (.dT kvs))(g:H b=ε (.tup (k.map kV)))(d:kvs.length<sizeLine) :
 dr H a (.ref b) v (IB H a (.dT (sF kvs k v))):=.inr ⟨kvs,k,b,e,rfl,g,d,rfl⟩
section
variable{X:Cx}{d:Ms (Oa×Obj)}{f:St}{H:Hp}{s:Nu}{a:Oa}{y v:V}{u r:Mu}{o:Ni V}{A:Pa}{E:Mu->Nu->Prop}
theorem so.big(I:so X d f H s):sysModules<s.heap.objs.size:=by have h:mainGlobals<s.heap.objs.size:=(I.mod.glob.keeps I.bk).lt;exact Nat.lt_trans (by decide) h
theorem jT{h':Pu}{t':Nat}{ob:HO}(I:so X d f H s)(g:MU (H a))(hs:Heap.SameBut a s.heap h')(he:∃q,h'.get? a=ε q)(new:Yu X.prog X.w (IB H a ob) h' a ob) :
 so X d f (IB H a ob) { s with heap:=h',toks:=t' }:=
 I.write (x:=a) (e:=a) g (.inl rfl) (fun b q h z=>(hs.2 b h).trans z) he new
theorem v8{P:Oo}{w:O4}{g:Hp}{h':Pu}{kvs:Ms (kC×V)}{vs:Ms (kC×Mu)}(z:kvs.length<=sizeLine)(hd:(a==sysModules)=false)(b:KV kvs vs)(e:h'.DictOf (bE P w) a vs) :
 Yu P w g h' a (.dK kvs):=⟨z,hd,vs,b,e⟩
theorem Wt{R:Hp}{Q:Unit->Nu->Prop}(U:A.units+1<cLine)(I:so X d f H s)(g:dr H a y v R)(J:td y u)(L:td v r)(h:∀F,so X d f R F->Q () F) :
 wpAny (model X.prog X.w) A (setItem (.ref a) u r) Q E s:=by
 rcases g with⟨j,k,e,B,l,C⟩ | ⟨j,k,b,e,B,P,l,C⟩
 . subst B C;obtain⟨z,hd,T,i,D⟩:=Vx I.hok e;have p:T.length<=sizeLine:=by rw[<- i.length];exact z
   have x:(sF j k v).length<=sizeLine:=by have:=DW j k v;omega
   refine wpAny_setItem_pairs (hsz:=p) (xU J) D fun M m hs=>h _ ?_
   have W:∃q,M.get? a=ε q:=let ⟨q,_,_,n,_⟩:=m;⟨q,n⟩
   exact jT I (by rw[e];exact Ji) hs W (v8 x hd (i.put k L) m)
 . subst B C;cases (show u=Value.ref b from J);obtain⟨z,hd,S,i,D⟩:=xq I.hok e;have p:S.length<=sizeLine:=by rw[<- Paired.length i];exact z
   have x:(sF j k v).length<=sizeLine:=by have:=DW j k v;omega
   refine wpAny_setItem_heap (hsz:=p) (tupleKind_room_in1 U) (ET I.hok P) D fun M m hs=>h _ ?_
   obtain⟨q,es,ep,n,h2,h3,Z,_,Y⟩:=m;refine jT I (by rw[e];exact Ji) hs ⟨q,n⟩ ⟨x,hd,_,(i.put k P L).keeps fun c ys O=>?_,q,es,ep,n,h2,h3,Z,Y⟩;rw[dB (gU O e (fun z=>nomatch z))];exact O
end
section
variable{X:Cx}{pins:Ms (Oa×Obj)}{σ:St}{H:Hp}{s:Nu}{a:Oa}{kvs:Ms (kC×V)}{k:kC}{u:Mu}{A:Pa}{E:Mu->Nu->Prop}
end
noncomputable def Zx(h e g:TE):TS:=fun D b H=>g b H fun v k=>h b k fun x j=>e b j fun y i=>∃a d,x=.ref a/\dr i a y v d/\D.nx b d
section
variable{X:Cx}{o i e b:Oe}{pos c tpos:Pos}{j d f:TE}
theorem ld(J:X.A.units+1<cLine)(L:PE X o j)(M:PE X i d)(F:PE X b f)(hs:swapsWith b (ε (.Subscript o i c)) pos.line X.env=pure false) :
 PS X (.Assign [.Subscript o i c] b pos) (Zx j d f):=by
 intro k s m H D I h;refine wpAny_Assign_Subscript (HB (F k s m H _ I h) fun r q ⟨v,U,R,E,q1⟩=>HB (L k q m U _ R q1) fun u p ⟨x,T,Q,C,q2⟩=>HB (M k p m T _ Q q2) fun Z Y n=>?_) hs;obtain⟨y,H3,P,B,a,S,ex,g,q3⟩:=n;subst ex;obtain rfl:u=Value.ref a:=C;exact Wt J P g B E fun W O=>⟨m,S,O,q3⟩
end
theorem Lb {P:Oo} {w:O4} {H:Hp} (h:Pu) (a:sysModules<h.objs.size):Yu P w H (h.push { cls:=.type "dict",data:=.dict #[] }) h.objs.size (.dT []):=
 ⟨nu _,Es.mpr (nW (rz a)),[],.nil,_,#[],0,jl _ rfl,⟨rfl,rfl,rfl⟩,rfl,rfl,nodup_nil⟩
def Gx:TE:=fun _ H Q=>∀p,H p=none->Q (.ref p) (IB H p (.dT []))
section
variable{X:Cx}{pos:Pos}
theorem Xm:PE X (.Dict [] [] pos) Gx:=fun b s d H Q I h=>wpAny_Dict_empty ⟨.ref s.heap.objs.size,_,I.laid (a:=s.heap.objs.size) (o:=.dT []) (t':=s.toks) (fun z z q=>cu _ q) (Uo _) (Lb s.heap I.big),rfl,h _ (I.hok.fresh (Uo _))⟩
end
structure M1(X:Cx)(o:Expr)(m:Str)(apos:Pos)(e:Expr)(cpos:Pos):Prop where
 base:attributeBase o m X.env (eval o X.env)=eval o X.env
 few:((backTo cpos (starEach [e] X.env)).all (fun x=>!x.1)&&(backToKw cpos (keywordEach [] X.env)).all (fun x=>x.1.isSome)
  && decide (([e]:List Expr).length+([]:List Keyword).length+(if([]:List Keyword).isEmpty then 0 else 1)<30))=true
 line:(apos.endLine==cpos.line)=true
 trees:backTo cpos (starEach [e] X.env)=[(false,eval e X.env)]
structure M2(X:Cx)(o:Expr)(m:Str)(apos:Pos)(e f:Expr)(cpos:Pos):Prop where
 base:attributeBase o m X.env (eval o X.env)=eval o X.env
 few:((backTo cpos (starEach [e,f] X.env)).all (fun x=>!x.1)&&(backToKw cpos (keywordEach [] X.env)).all (fun x=>x.1.isSome)
  && decide (([e,f]:List Expr).length+([]:List Keyword).length+(if([]:List Keyword).isEmpty then 0 else 1)<30))=true
 line:(apos.endLine==cpos.line)=true
 trees:backTo cpos (starEach [e,f] X.env)=[(false,eval e X.env),(false,eval f X.env)]
def M5(H:Hp)(a:Oa):Prop:=(∃b,Rd H a (.dK b))\/∃b,Rd H a (.dT b)
theorem J2{X:Cx}{g:Ms (Oa×Obj)}{m:St}{H:Hp}{s:Nu}{a:Oa}(I:so X g m H s)(d:M5 H a) :
 s.TypeIs (.ref a) "dict" /\ (∀b,Value.ref a=.ref b->∃ob,s.heap.get? b=ε ob/\ob.dict=none)/\(a==sysModules)=false:=by
 rcases d with⟨i,e⟩ | ⟨i,e⟩
 . obtain⟨_,hd,o,_,h⟩:=sU I.hok e;refine⟨h.typeIs,fun b q=>?_,hd⟩;cases q;obtain⟨ob,_,_,k,j,_⟩:=h;exact⟨ob,k,j.2.1⟩
 . obtain⟨_,hd,n,_,h⟩:=tU I.hok e;refine⟨h.typeIs,fun b q=>?_,hd⟩;cases q;obtain⟨ob,_,_,k,j,_⟩:=h;exact⟨ob,k,j.2.1⟩
section
variable{X:Cx}{c:Ms (Oa×Obj)}{f:St}{H:Hp}{s:Nu}{a:Oa}{y d:V}{u r:Mu}{o:Ni V}{A:Pa}{E:Mu->Nu->Prop}
theorem o8{Q:Mu->Nu->Prop}(D:A.units+1<cLine)(I:so X c f H s)(g:dq H a y o)(x:td y u)(B:td d r)(h:∀p q,so X c f H q->td (o.getD d) p->Q p q) :
 wpAny (model X.prog X.w) A (call (.builtin "dict.get") [.ref a,u,r]) Q E s:=by
 rcases g with⟨m,k,e,n,l⟩ | ⟨m,k,b,e,n,F,l⟩
 . subst n;obtain⟨z,hd,J,i,j⟩:=sU I.hok e;refine call_meetsIn PySem.F.slot_dict_get j.typeIs PySem.F.entry_dict_get (PySem.F.args_dict_get_3 _ _ _) (meets_dict_get_default (bE X.prog X.w) a (xU x) hd r) ⟨_,j.mapOf,h _ _ (I.tok _) ?_⟩;rw[l];exact(i.val k).getD B
 . subst n;cases (show u=Value.ref b from x);obtain⟨z,hd,C,i,j⟩:=tU I.hok e;refine call_meetsIn PySem.F.slot_dict_get j.typeIs PySem.F.entry_dict_get (PySem.F.args_dict_get_3 _ _ _) (meetsH_dict_get_default (tupleKind (bE X.prog X.w)) a b hd r) ⟨tupleKind_room_in1 D,k,C,ET I.hok F,j,h _ _ (I.tok _) ?_⟩;rw[l];exact(i.val k).getD B
end
noncomputable def Fx(i g h:TE):TE:=fun b H Q=>i b H fun x e=>∃a,x=.ref a/\M5 e a/\g b e fun y j=>h b j fun z d=>∃o,dq d a y o/\Q (o.getD z) d
section
variable{X:Cx}{o e f:Oe}{c b:Pos}{k i j:TE}
theorem Wm (O:X.A.units+1<cLine) (P:PE X o k) (he:PE X e i) (R:PE X f j) (m:M2 X o "get" c e f b):PE X (.Call (.Attribute o "get" c) [e,f] [] b) (Fx k i j):=by
 intro n s p H Q I h;refine wpAny_Call_method m.base m.few m.line PySem.F.plainAttrs_dict PySem.F.slot_dict_get PySem.F.type_dict_get (HB (P n s p H _ I h) fun u F B=>?_);obtain⟨x,Z,r,M,a,ex,d,q1⟩:=B;subst ex;obtain rfl:u=Value.ref a:=M;obtain⟨D,C,_⟩:=J2 r d;refine⟨D,C,?_⟩;rw[m.trees];refine Calls.callWith_builtin rfl (Calls.evalArgs_plain (Calls.spliced_cons (HB (he n F p Z _ r q1) fun iv E ⟨y,Y,U,L,q2⟩=>
  Calls.spliced_cons (HB (R n E p Y _ U q2) fun fv s3 ⟨z,W,T,J,ov,g,q3⟩=>Calls.spliced_nil ?_))))
 exact o8 O T g L J fun w' s4 S q=>⟨_,W,S,q,q3⟩
end
section
variable{X:Cx}{pins:Ms (Oa×Obj)}{σ:St}{H:Hp}{s:Nu}{a:Oa}{kvs:Ms (kC×V)}{A:Pa}{E:Mu->Nu->Prop}
end
section
variable{X:Cx}{pins:Ms (Oa×Obj)}{σ:St}{H:Hp}{s:Nu}{a:Oa}{y:V}{u:Mu}{A:Pa}{E:Mu->Nu->Prop}
end
section
variable{prog:Oo}{w:O4}{A:Pa}{E:Mu->Nu->Prop}{s:Nu}
theorem cP {a:Oa} {R:String->Nu->Prop} (b:s.TypeIs (.ref a) "dict_itemiterator") (q:R "dict_itemiterator" s) :
 wpAny (model prog w) A (typeNameOfWhole (.ref a)) R E s:=wpAny_typeNameOfWhole_itemiter b q
theorem Kp{d:Oa}{h:Pb DictEntry}{i:Nat}{od:Obj}{v:Oa}{R:Mu->Nu->Prop}(b:s.heap.IsItemsView v d)(g:s.heap.get? d=ε od)(e:od.data=.dict h i)
 (q:R (.ref s.heap.objs.size) { s with heap:=s.heap.push { cls:=.type "dict_itemiterator",data:=.fields #[.none,.bool false,.ref d,.int 0 0,.int h.size 0,.int i 0,.none,.none] } }) :
 wpAny (model prog w) A (pyIter (.ref v)) R E s:=by
 obtain⟨k,j,g2,g3⟩:=id b;refine wpAny_pyIter_slot b.typeIs F.slot_dict_items_iter (wpAny_call_entry F.slot_dict_items_iter b.typeIs F.entry_dict_items_iter ?c1 (F.args_dict_items_iter_1 _));unfold Builtin.«dict_items.__iter__»;refine ao (au (ao ?c2));unfold Builtin.Dict_items.dictOf;refine ao (Gu j g3 (x:=.ref d) rfl (au (ao ?c3)));unfold Builtin.Dict_items.newIterator;refine ao (wpAny_dictEntries g e (ao (wpAny_dictEpoch g e ?c4)));have a:Builtin.Dict_items.ownsTuple "dict_itemiterator" =true:=by decide
 simp![a,eN];refine Ai (au ⟨_,rfl, "dict_itemiterator",_,⟨_,jl _ rfl,rfl⟩,F.slot_dict_itemiterator_next.lookup,?c5⟩) ?c6
 . simpa[rawInt,Builtin.Dict_items.ownedTupleFields]using q
 . simp![sizeOk,Builtin.Dict_items.ownedTupleFields,dh,ji,Ru,Ve,Ce];omega
theorem Ip{g d:Oa}{i j:Nat}{a:Pb DictEntry}{od:Obj}{H v0:Mu}{R:Ni Mu->Nu->Prop}
 (I:IsItemIter s.heap g d i a.size j H v0) (gd:s.heap.get? d=ε od) (Z:od.data=.dict a j) (lt:i<a.size)
 (Q:∀q,IsItemIterOut q g d (i+1) a.size j a[i].key a[i].val s.heap.objs.size->
  q.get? s.heap.objs.size=ε { cls:=.type "tuple",data:=.seq #[a[i].key,a[i].val] }->q.objs.size=s.heap.objs.size+1->
  (∀b o,b≠g->s.heap.get? b=ε o->q.get? b=ε o)->R (ε (.ref s.heap.objs.size)) { s with heap:=q }) :
 wpAny (model prog w) A (pyNext (.ref g)) R E s:=by
 obtain⟨G,r,B,n,os⟩:=s;have m:Shared.TypeIs ⟨G,r,B,n,os⟩ (.ref g) "dict_itemiterator" :=⟨_,I,rfl⟩;unfold pyNext;refine ao (wpAny_attempt (wpAny_callSpecial?_slot (name:=Str.ofString "__next__") m F.slot_dict_itemiterator_next (wpAny_call_entry F.slot_dict_itemiterator_next m F.entry_dict_itemiterator_next ?c1 (F.args_dict_itemiterator_next_1 _))));refine ao (au (ao (ao ?c2)))
 first | refine ao (cP m (au ?c3)) | refine ao (wpAny_typeNameOf_itemiter m (au ?c3))
 refine ao (wpAny_fieldsOf I rfl ?c4);have p:Builtin.Dict_items.ownsTuple "dict_itemiterator" =true:=by decide
 rw[p];show wpAny _ _ (if(Value.ref d==Value.none)=true then _ else _) _ _ _;rw[eH (show ¬((Value.ref d==Value.none)=true)from fun z=>Wk z)];refine ao (au (ao (wpAny_dictEntries gd Z ?c5)));rw[eH ⋯];refine ao (au (ao (wpAny_dictEpoch gd Z ?c6)));rw[eH ⋯];refine au ?c7;dsimp only;rw[eH (show ¬((i:Int)<0)from by omega),n7,Array.getElem?_eq_getElem lt];dsimp only;refine ao ?c8
 first | refine ao (cP m (au ?c9)) | refine ao (wpAny_typeNameOf_itemiter m (au ?c9))
 refine ao (wpAny_isOneOf_itemiter m ?c10);show wpAny _ _ (setField (.ref g) 3 (rawInt ((i:Int)+1)) >>=_) _ _ ⟨G,r,B,n,os⟩;refine ao (wpAny_setField_rec I ⋯ fun G1 y C=>?c11)
 replace C:Heap.SameBut g G G1:=C
 replace y:IsItemIter G1 g d (i+1) a.size j H v0:=by
  have z:((i+1:Nat):Int)=(i:Int)+1:=by omega
  unfold IsItemIter;rw[z];simpa[rawInt]using y
 have k:Shared.TypeIs ⟨G1,r,B,n,os⟩ (.ref g) "dict_itemiterator" :=⟨_,y,rfl⟩;refine ao (Eu (ao (wpAny_isOneOf_itemiter k (ao (wpAny_isOneOf_itemiter k ?c12)))));show wpAny _ _ (Builtin.Dict_items.pairFromOwner (.ref g) 6 a[i].key a[i].val) _ _ ⟨G1,r,B,n,os⟩;unfold Builtin.Dict_items.pairFromOwner;refine ao (wpAny_newTuple ?c13);have u:IsItemIter (G1.push { cls:=.type "tuple",data:=.seq #[a[i].key,a[i].val] }) g d (i+1) a.size j H v0:=cu _ y;generalize J:G1.push { cls:=.type "tuple",data:=.seq #[a[i].key,a[i].val] }=G2 at u;have D:G1.objs.size=G.objs.size:=C.1;have il:g<G.objs.size:=je I;have t2:G2.get? G.objs.size=ε { cls:=.type "tuple",data:=.seq #[a[i].key,a[i].val] }:=by rw[<- J,<- D];exact jl _ rfl
 have z2:G2.objs.size=G.objs.size+1:=by rw[<- J,Ks,D]
 have k2:∀b o,b≠g->G.get? b=ε o->G2.get? b=ε o:=fun b o h e=>by rw[<- J];exact cu _ (C.extBut b o h e)
 show wpAny _ _ (Builtin.Dict_items.ownedTupleIsFree (.ref g) >>=_) _ _ ⟨G2,r,B,n,os⟩;rw[D];clear J y C k D G1;refine ao ?c14;unfold Builtin.Dict_items.ownedTupleIsFree;refine ao (Gu u rfl (x:=.none) rfl (au ?c15));simp![eN];refine ao (Gu u rfl (x:=H) rfl (ao (Gu u rfl (x:=v0) rfl ?c16)));refine ao (wpAny_setField_rec u ⋯ fun G3 W P=>?c17)
 replace P:Heap.SameBut g G2 G3:=P
 replace W:IsItemIter G3 g d (i+1) a.size j a[i].key v0:=W
 refine ao (wpAny_setField_rec W ⋯ fun G4 U O=>?c18)
 replace O:Heap.SameBut g G3 G4:=O
 replace U:IsItemIter G4 g d (i+1) a.size j a[i].key a[i].val:=U
 refine ao (wpAny_setField_rec U ⋯ fun G5 T M=>?c19)
 replace M:Heap.SameBut g G4 G5:=M
 replace T:IsItemIterOut G5 g d (i+1) a.size j a[i].key a[i].val G.objs.size:=T
 refine ao (wpAny_setField_rec T ⋯ fun G6 S L=>?c20)
 replace L:Heap.SameBut g G5 G6:=L
 replace S:IsItemIterOut G6 g d (i+1) a.size j a[i].key a[i].val G.objs.size:=S
 have Y:∀b o,b≠g->G2.get? b=ε o->G6.get? b=ε o:=fun b o h e=>L.extBut b o h (M.extBut b o h (O.extBut b o h (P.extBut b o h e)))
 refine ao (wpAny_letGo (au (au ⟨_,rfl,au (Q G6 S (Y _ _ (Ea il) t2) ?c21 fun b o h e=>Y b o h (k2 b o h e))⟩)));show G6.objs.size=G.objs.size+1;rw[L.1,M.1,O.1,P.1,z2]
theorem lf{h d:Oa}{i r:Nat}{n:Pb DictEntry}{od:Obj}{x u:Mu}{R:Ni Mu->Nu->Prop}(y:A.handled=none)
 (j:IsItemIter s.heap h d i n.size r x u) (q:s.heap.get? d=ε od) (p:od.data=.dict n r) (B:n.size<=i)
 (k:∀o,Heap.ExtBut h s.heap o->R none { s with heap:=o }):wpAny (model prog w) A (pyNext (.ref h)) R E s:=by
 have e:s.TypeIs (.ref h) "dict_itemiterator" :=⟨_,j,rfl⟩;unfold pyNext;refine ao (wpAny_attempt (wpAny_callSpecial?_slot (name:=Str.ofString "__next__") e F.slot_dict_itemiterator_next (wpAny_call_entry F.slot_dict_itemiterator_next e F.entry_dict_itemiterator_next ?c1 (F.args_dict_itemiterator_next_1 _))));refine ao (au (ao (ao ?c2)))
 first | refine ao (cP e (au ?c3)) | refine ao (wpAny_typeNameOf_itemiter e (au ?c3))
 refine ao (wpAny_fieldsOf j rfl ?c4);have g:Builtin.Dict_items.ownsTuple "dict_itemiterator" =true:=by decide
 rw[g];show wpAny _ _ (if(Value.ref d==Value.none)=true then _ else _) _ _ _;rw[eH (show ¬((Value.ref d==Value.none)=true)from fun z=>Wk z)];refine ao (au (ao (wpAny_dictEntries q p ?c5)));rw[eH ⋯];refine ao (au (ao (wpAny_dictEpoch q p ?c6)));rw[eH ⋯];refine au ?c7;dsimp only;rw[eH (show ¬((i:Int)<0)from by omega),n7,Array.getElem?_eq_none B];dsimp only;refine ao ?c8
 first | refine ao (cP e (au ?c9)) | refine ao (wpAny_typeNameOf_itemiter e (au ?c9))
 show wpAny _ _ (setField (.ref h) 2 .none >>=_) _ _ _;refine ao (wpAny_setField j rfl ⋯ ?c10);show wpAny _ _ (newExc (.type "StopIteration") [] >>=_) _ _ _;refine ao ?c11;simp![newExc,newTuple];refine ao (Ai (ao (m:=firstArgMember _ _) (wpAny_of_eq (a:=Value.none) (by first | rfl | (simp![firstArgMember];rfl)) ?c12)) (by size_fits));refine Ai ?c13 (by size_fits);simp![raiseNew];refine ao (wpAny_handled ?c14);rw[show A.in1.handled=none from y];refine ao (au (wpAny_throw ?c15));refine ao (wpAny_isInstance (T := "StopIteration") (b:=true) ⟨_,jl _ rfl,rfl⟩ isSubtype_stop (au ?c16));exact k _ (((Heap.SameBut.update ..).extBut.push _).push _)
theorem Gp {d:Oa} {R:Mu->Nu->Prop} (a:s.TypeIs (.ref d) "dict") (h:(d==sysModules)=false)
 (q:R (.ref s.heap.objs.size) { s with heap:=s.heap.push { cls:=.type "dict_items",data:=.fields #[.ref d] } }):wpAny (model prog w) A (call (.builtin "dict.items") [.ref d]) R E s:=by
 have m:MeetsIn prog w (Builtin.«dict.items» ⟨[.ref d],[]⟩) (fun z R s=>s.TypeIs (.ref d) "dict" /\ R (.ok (.ret (.ref s.heap.objs.size))) { s with heap:=s.heap.push { cls:=.type "dict_items",data:=.fields #[.ref d] } }):=
  .of_wp fun A R s b=>by obtain⟨e,g⟩:=b;unfold Builtin.«dict.items»;refine ao ?c1;unfold Builtin.Dict.noArgs;refine ao (wpAny_notOrdered_dict e ?c2);show wpAny _ _ (pure d) _ _ s;refine au ?c3;show wpAny _ _ (Builtin.Dict.showsAll d >>=_) _ _ s;unfold Builtin.Dict.showsAll;rw[eH (by rw[h];exact Wk)];exact ao (au (ao (Ai (au ⟨_,rfl,g⟩))))
 exact call_meetsIn PySem.F.slot_dict_items a PySem.F.entry_dict_items (PySem.F.args_dict_items_1 _) m ⟨a,q⟩
theorem Wv:entryFor table "dict_itemiterator.__iter__" =ε Builtin.«dict_keyiterator.__iter__»:=entryFor_alias (id' := "dict_keyiterator.__iter__") (by kernel_rfl) rfl (by decide +kernel) (by kernel_rfl)
theorem Jp{a d:Oa}{i n j:Nat}{g e:Mu}{R:Mu->Nu->Prop}(h:IsItemIter s.heap a d i n j g e)(q:R (.ref a) s):wpAny (model prog w) A (pyIter (.ref a)) R E s:=by have b:s.TypeIs (.ref a) "dict_itemiterator" :=⟨_,h,rfl⟩;refine wpAny_pyIter_slot b F.slot_dict_itemiterator_iter (wpAny_call_entry F.slot_dict_itemiterator_iter b Wv ?c1 (F.args_dict_itemiterator_iter_1 _));show wpAny _ _ (ret (.ref a)) _ _ s;exact au ⟨_,rfl, "dict_itemiterator",_,b,F.slot_dict_itemiterator_next.lookup,q⟩
end
theorem Paired.atI{a b:Type}{F:a->b->Prop}:∀{xs:Ms a}{ys:Ms b}{i:Nat}{x:a},Paired F xs ys->xs[i]?=ε x->∃y,ys[i]?=ε y/\F x y
 | _,_,i,x,.nil,e=>by simp at e
 | _,_,0,x,.cons r t,e=>by simp at e;subst e;exact⟨_,rfl,r⟩
 | _,_,i+1,x,.cons r t,e=>by obtain⟨y,d,e2⟩:=Paired.atI t (i:=i) (x:=x) (by simpa using e);exact⟨y,by simpa using d,e2⟩
def KU(a:Oa)(o:Obj):It:=
 ⟨fun i H=>∃b p,H a=ε (.frz o (.dT b))/\b[i]?=ε p,
  fun i H x e=>∃q d p,H q=none/\x=.ref q/\H d=ε (.tup (p.1.map kV))/\(∀b,H a=ε (.frz o (.dT b))->b[i]?=ε p)/\e=IB H q (.tup [.ref d,p.2]),
  fun i H=>∃b,H a=ε (.frz o (.dT b))/\b.length<=i⟩
theorem lh{P:Oo}{w:O4}{K:Oi}{O:Ms Oe}{x1}{pos:Pos}(a it:Oa){o:Obj}{B:Pb DictEntry}{ep:Nat}(S:o.data=.dict B ep) :
 xG P w K (.Tuple O x1 pos) (KU a o) [it] it (fun i h=>∃n m,IsItemIter h it a i B.size ep n m) where
 mem:=by simp
 obj:=fun i h zz c b=>by obtain⟨n,m,d⟩:=zz;rw[Ba.mp b];exact⟨_,d,fun v z=>by cases z⟩
 keep:=fun i h h' ⟨n,m,d⟩ k=>⟨n,m,k it ⋯ _ d⟩
 item:=by
  intro X W hw Y b i C s σ H E I Q d T;subst W hw Y;obtain⟨n,m,x⟩:=d;obtain⟨j,p,e,hp⟩:=T;obtain⟨go,z,y,xs,r,ob,a0,a1,M,R,L,Z,h5⟩:=(show Yu X.prog X.w H s.heap a (.frz o (.dT j))from I.hok a _ e);rw[go]at M;cases M;rw[S]at L;cases L;obtain⟨q,hq,f1,f2,f3⟩:=Paired.atI r hp;have e0:B.toList[i]?=ε (entryOfKey (tupleKind (bE X.prog X.w)) q):=by rw[Z,wu,hq];rfl
  have F:i<B.size:=by have:=(Wi e0).1;simpa using this
  have ei:B[i]=entryOfKey (tupleKind (bE X.prog X.w)) q:=by rw[Array.getElem?_toList,Array.getElem?_eq_getElem F]at e0;exact tu e0
  refine Ip x go S F fun h' z1 tp sz kp=>⟨_,rfl,wpAny_letOwnedTupleGo_items z1 fun R U sb=>?_⟩
  have D:s.heap.objs.size≠it:=Ea (je x);have t2:R.get? s.heap.objs.size=ε { cls:=.type "tuple",data:=.seq #[.ref q.2.1,q.2.2] }:=by rw[sb.2 _ D,tp,ei];rfl
  have kk:∀c u,c ∉ [it]->s.heap.get? c=ε u->R.get? c=ε u:=fun c u b g=>by
   have J:c≠it:=fun z=>b (by rw[z];simp)
   exact(sb.2 c J).trans (kp c u J g)
  refine⟨.ref s.heap.objs.size,IB H s.heap.objs.size (.tup [.ref q.2.1,p.2]),I.gv kk Q (Uo _) ⟨by simp![Ru,Ve];rw[Ce];decide,[.ref q.2.1,q.2.2],.cons rfl (.cons f3 .nil),⟨_,t2,rfl,_,rfl⟩⟩,rfl,
   ⟨_,q.2.1,p,I.hok.fresh (Uo _),rfl,f2,fun a2 e'=>by rw[e]at e';cases e';exact hp,rfl⟩,⟨_,_,U⟩,fun c b=>?_⟩
  rw[Ba.mp b,dB (nW D)];exact(Q it ⋯).1
 done:=by
  intro X W hw Y b i C s σ H E I Q d T;subst W hw Y;obtain⟨n,m,x⟩:=d;obtain⟨j,e,hp⟩:=T;obtain⟨go,z,y,xs,r,ob,a0,a1,M,R,L,Z,h5⟩:=(show Yu X.prog X.w H s.heap a (.frz o (.dT j))from I.hok a _ e);rw[go]at M;cases M;rw[S]at L;cases L;have hs:B.size=j.length:=by rw[<- z7,Z,ni,<- Paired.length r]
  refine lf (I.ok.hd b) x go S nofun fun h' eb=>⟨rfl,I.gx (t':=s.toks) (fp:=[it]) (fun c u b q=>eb c u (fun z=>b (by rw[z];simp)) q) Q⟩
 self:=fun t t t t t d h=>by obtain⟨n,m,x⟩:=d;exact Jp x h
section
variable{X:Cx}
theorem so.freeze{d:Ms (Oa×Obj)}{h:St}{H:Hp}{s:Nu}{a:Oa}{o:Obj}{kvs:Ms (Ms kC×V)}(I:so X d h H s)(e:H a=ε (.dT kvs))(go:s.heap.get? a=ε o) :
 so X d h (IB H a (.frz o (.dT kvs))) s:=by
 refine jT (t':=s.toks) I (by rw[e];exact Ji) (Heap.SameBut.refl _ _) ⟨o,go⟩ ⟨go,?_⟩;refine Yu.stay (show Yu X.prog X.w H s.heap a (.dT kvs)from I.hok a _ e) (fun v v v g=>g) (fun b q=>?_) fun b i q=>?_
 . rw[dB (gU q e (fun z=>nomatch z))];exact q
 . rw[dB (gU q e (fun z=>nomatch z))];exact q
def C6(g:TE):TI:=fun e H R=>g e H fun x d=>∃a,x=.ref a/\((∃b,d a=ε (.dT b)/\∀o,R (KU a o) (IB d a (.frz o (.dT b))))\/∃o b,d a=ε (.frz o (.dT b))/\R (KU a o) d)
theorem Zm {k:Ms Oe} {x1} {O:Pos} {d:Oe} {P:TE} {n m:Pos} (Z:PE X d P) (r:autoParam (attributeBase d "items" X.env (eval d X.env)=eval d X.env) Æ) (p:autoParam ((n.endLine==m.line)=true) Æ) :
 PI X (.Tuple k x1 O) (.Call (.Attribute d "items" n) [] [] m) (C6 P):=by
 intro j s F H R I h;refine wpAny_Call_method0_late r p (HB (Z j s F H _ I h) fun v s1 T=>?_);obtain⟨x,M,D,Y,a,ex,q⟩:=T;subst ex;obtain rfl:v=Value.ref a:=Y;have dd:M5 M a:=by
  rcases q with⟨i,e,_⟩ | ⟨o,i,e,_⟩
  . exact .inr ⟨i,.inl e⟩
  . exact .inr ⟨i,.inr ⟨o,e⟩⟩
 obtain⟨Q,W,U⟩:=J2 D dd;have base:∀(o:Obj)(y:Pb DictEntry)(B:Nat)(E:Hp),s1.heap.get? a=ε o->o.data=.dict y B->so X j F E s1->R (KU a o) E->
  wpAny (model X.prog X.w) X.A (call (.builtin "dict.items") [.ref a]) (fun v s1=>wpAny (model X.prog X.w) X.A (pyIter v) (X5 X j F (.Tuple k x1 O) R) X.xe s1) X.xe s1:=by
  intro o y B E go S I2 q2;refine Gp Q U ?_;have L:so X j F E { s1 with heap:=s1.heap.push { cls:=.type "dict_items",data:=.fields #[.ref a] } }:=I2.kept (t':=s1.toks) fun b u g=>cu _ g
  refine Kp (od:=o) ⟨_,jl _ rfl,rfl,rfl⟩ (cu _ go) S ?_;have I4:=L.kept (t':=s1.toks) (h':=(s1.heap.push { cls:=.type "dict_items",data:=.fields #[.ref a] }).push { cls:=.type "dict_itemiterator",data:=.fields #[.none,.bool false,.ref a,.int 0 0,.int y.size 0,.int B 0,.none,.none] }) fun b u g=>cu _ g
  refine⟨_,[_],_,_,E,rfl,I4,lh a _ S,⟨.none,.none,jl _ rfl⟩,fun c hc=>?_,q2⟩;rw[Ba.mp hc];exact L.ca (Uo _) (L.hok.fresh (Uo _))
 refine⟨"dict", "dict.items",PySem.F.plainAttrs_dict,PySem.F.slot_dict_items,PySem.F.type_dict_items,Q,W,Calls.callWith_builtin rfl (PySem.evalArgs_none ?_)⟩;rcases q with⟨i,e,q⟩ | ⟨o,i,e,q⟩
 . obtain⟨_,_,_,_,o,y,B,C,_,J,_⟩:=(show Yu X.prog X.w M s1.heap a (.dT i)from D.hok a _ e);exact base o y B _ C J (D.freeze e C) (q o)
 . obtain⟨go,_,_,_,_,o',y,B,C,_,J,_⟩:=(show Yu X.prog X.w M s1.heap a (.frz o (.dT i))from D.hok a _ e);rw[go]at C;cases C;exact base o y B _ go J D q
end
end L2
namespace SM
noncomputable def QI(kvs:Ms (Ms Int×Dt))(k:Ms Int):Ni Dt:=(kvs.find? fun p=>decide (p.1=k)).map (·.2)
noncomputable def dJ(kvs:Ms (Ms Int×Dt))(k:Ms Int)(d:Dt):Ms (Ms Int×Dt):=
 if(kvs.any fun p=>decide (p.1=k))=true then kvs.map (fun p=>if p.1=k then(p.1,d)else p)else kvs++[(k,d)]
noncomputable def uU:RE:=fun _ h=>ε (.ref h.length,h++[.dt []])
def NQ(g:RA):RE:=fun l h=>(g l h).bind fun r=>if r.1.length<=sizeLine then(BC r.1).map fun a=>(.ntp a,r.2)else none
def fK(fo fy a:RE):RE:=fun l h=>(fo l h).bind fun o=>match o.1 with
 | .ref n=>match o.2[n]? with
  | some (.dt _)=>(fy l o.2).bind fun y=>match y.1 with
   | .ntp k=>(a l y.2).bind fun x=>match x.2[n]? with
    | some (.dt kvs)=>ε ((QI kvs k).getD x.1,x.2)
    | _=>none
   | _=>none
  | _=>none
 | _=>none
def sQ(fe fo fy:RE):RS:=fun l h=>(fe l h).bind fun v=>(fo l v.2).bind fun o=>(fy l o.2).bind fun y=>match o.1,y.1 with
 | .ref n,.ntp k=>match y.2[n]? with
  | some (.dt kvs)=>if kvs.length<sizeLine then ε (.nx l (y.2.set n (.dt (dJ kvs k v.1))))else none
  | _=>none
 | _,_=>none
noncomputable def xI(f:RE):RI:=fun l h=>(f l h).bind fun r=>match r.1 with
 | .ref n=>match r.2[n]? with
  | some (.dt kvs)=>ε (.it n,r.2.set n (.df kvs))
  | some (.df _)=>ε (.it n,r.2)
  | _=>none
 | _=>none
section
variable{K:Oi}{H:Hp}{ρ:Rg}
abbrev KD(K:Oi)(H:Hp)(ρ:Rg)(kvs:Ms (Ms Int×Dt))(vs:Ms (Ms kC×V)):Prop:=vs.map (·.1)=kvs.map (fun p=>p.1.map Sum.inl)/\Ro K H ρ (kvs.map (·.2)) (vs.map (·.2))
theorem du{k k':Ms Int}:k.map (Sum.inl:Int->kC)=k'.map Sum.inl↔k=k':=⟨fun h=>(map_inj_right (fun q q z=>Sum.inl.inj z)).mp h,fun h=>by rw[h]⟩
theorem DT(k:Ms Int):(k.map (Sum.inl:Int->kC)).map kV=k.map V.int:=by rw[map_map];rfl
theorem KD.av{vs:Ms (Ms kC×V)}(r:KD K H ρ [] vs):vs=[]:=by have:=r.1;simpa using this
theorem KD.Za{p:Ms Int×Dt}{kvs:Ms (Ms Int×Dt)}{vs:Ms (Ms kC×V)}(r:KD K H ρ (p::kvs) vs):∃v rs,vs=(p.1.map Sum.inl,v)::rs/\Te K H ρ p.2 v/\KD K H ρ kvs rs:=by
 obtain⟨a,d⟩:=r;cases vs with
 | nil=>simp at a
 | cons q rs=>simp![Ss,Li]at a;obtain⟨v,i,e,g,g2⟩:=Ro.Za (by simpa only[Ss]using d);simp![Ss,Li]at e;obtain⟨q1,q2⟩:=q;have b:q1=p.1.map Sum.inl:=a.1;have h:q2=v:=e.1;subst h;exact⟨q2,rs,by rw[b],g,a.2,by rw[e.2];exact g2⟩
theorem KD.cons{p:Ms Int×Dt}{v:V}{kvs:Ms (Ms Int×Dt)}{vs:Ms (Ms kC×V)}(g:Te K H ρ p.2 v)(r:KD K H ρ kvs vs):KD K H ρ (p::kvs) ((p.1.map Sum.inl,v)::vs):=
 ⟨by simp![Ss];rw[r.1],.cons g r.2⟩
theorem KD.length{kvs:Ms (Ms Int×Dt)}{vs:Ms (Ms kC×V)}(r:KD K H ρ kvs vs):vs.length=kvs.length:=by have:=congrArg List.length r.1;simpa using this
theorem KD.get:∀{kvs:Ms (Ms Int×Dt)}{vs:Ms (Ms kC×V)}{i:Nat}{p:Ms Int×Dt},KD K H ρ kvs vs->kvs[i]?=ε p->∃v,vs[i]?=ε (p.1.map Sum.inl,v)/\Te K H ρ p.2 v
 | [],_,_,_,_,e=>by simp at e
 | q::kvs,_,0,p,r,e=>by obtain⟨v,a,rfl,g,_⟩:=r.Za;simp at e;subst e;exact⟨v,rfl,g⟩
 | q::kvs,_,i+1,p,r,e=>by obtain⟨v,a,rfl,_,b⟩:=r.Za;obtain⟨u,d,e2⟩:=KD.get (i:=i) b (by simpa using e);exact⟨u,by simpa using d,e2⟩
theorem KD.val(k:Ms Int):∀{kvs:Ms (Ms Int×Dt)}{vs:Ms (Ms kC×V)},KD K H ρ kvs vs->(∀d,QI kvs k=ε d->∃v,cF vs (k.map Sum.inl)=ε v/\Te K H ρ d v)/\(QI kvs k=none->cF vs (k.map Sum.inl)=none)
 | [],_,r=>by rw[r.av];exact⟨fun d e=>by simp[QI]at e,fun q=>rfl⟩
 | p::kvs,_,r=>by
  obtain⟨v,h,rfl,g,b⟩:=r.Za;by_cases c:p.1=k
  . have a:QI (p::kvs) k=ε p.2:=by simp[QI,Ii,c]
    rw[a,tP (du.mpr c)];exact⟨fun d e=>by cases e;exact⟨v,rfl,g⟩,fun e=>by cases e⟩
  . have a:QI (p::kvs) k=QI kvs k:=by simp[QI,Ii,c]
    rw[a,sP (fun z=>c (du.mp z))];exact KD.val k b
theorem KD.any(k:Ms Int):∀{kvs:Ms (Ms Int×Dt)}{vs:Ms (Ms kC×V)},KD K H ρ kvs vs->(vs.any fun p=>decide (p.1=k.map Sum.inl))=kvs.any fun p=>decide (p.1=k)
 | [],_,r=>by rw[r.av];rfl
 | p::kvs,_,r=>by
  obtain⟨v,b,rfl,g,a⟩:=r.Za;rw[Js,Js,KD.any k a]
  congr 1
  exact decide_eq_decide.mpr du
theorem KD.repl(k:Ms Int){d:Dt}{v:V}(g:Te K H ρ d v):∀{kvs:Ms (Ms Int×Dt)}{vs:Ms (Ms kC×V)},KD K H ρ kvs vs->
 KD K H ρ (kvs.map fun p=>if p.1=k then(p.1,d)else p) (vs.map fun p=>if p.1=k.map Sum.inl then(p.1,v)else p)
 | [],_,r=>by rw[r.av];exact⟨rfl,.nil⟩
 | p::kvs,_,r=>by
  obtain⟨u,e,rfl,b,a⟩:=r.Za;rw[Ss,Ss];by_cases c:p.1=k
  . rw[eG c,eG (du.mpr c)];exact KD.cons (p:=(p.1,d)) g (KD.repl k g a)
  . rw[eH c,eH (fun z=>c (du.mp z))];exact KD.cons b (KD.repl k g a)
theorem KD.put(k:Ms Int){d:Dt}{v:V}(g:Te K H ρ d v){kvs:Ms (Ms Int×Dt)}{vs:Ms (Ms kC×V)}(r:KD K H ρ kvs vs):KD K H ρ (dJ kvs k d) (sF vs (k.map Sum.inl) v):=by
 unfold dJ sF;rw[r.any k];split
 . exact r.repl k g
 . refine⟨by rw[Gi,Gi,r.1];rfl,?_⟩;rw[Gi,Gi];exact r.2.append (.cons g .nil)
theorem KD.ext{a:Rg}{b:Hp}{kvs:Ms (Ms Int×Dt)}{vs:Ms (Ms kC×V)}(r:KD K H ρ kvs vs)(x:sx ρ a H b):KD K b a kvs vs:=⟨r.1,r.2.ext x⟩
theorem Vo.li{h:HI}(S:Vo K ρ h H){a:Oa}{vs:Ms V}(e:H a=ε (.tup vs)):ρ.no a:=by
 refine⟨fun d=>?_,fun d=>?_⟩
 . obtain⟨n,i⟩:=mem_iff_getElem?.mp d;have j:n<h.length:=by rw[<- S.len];exact(Wi i).1
   have ob:=S.ob n a _ i (jj j);cases q:h[n]with
   | lst k=>rw[q]at ob;obtain⟨_,g,_⟩:=ob;rw[e]at g;cases g
   | ins y fs=>rw[q]at ob;obtain⟨_,_,_,_,g,_⟩:=ob;rw[e]at g;cases g
   | dk b=>rw[q]at ob;obtain⟨_,g,_⟩:=ob;rw[e]at g;cases g
   | dt b=>rw[q]at ob;obtain⟨_,g,_⟩:=ob;rw[e]at g;cases g
   | df b=>rw[q]at ob;obtain⟨_,_,g,_⟩:=ob;rw[e]at g;cases g
 . obtain⟨_,_,g⟩:=S.zt a d;rw[e]at g;cases g
theorem RQ{a:Oa}{kvs:Ms (Ms kC×V)}(h:H a=ε (.dT kvs)):BU H a:=fun q q e=>by rw[h]at e;cases e
end
section
variable{X:Cx}{e o i d a b f:Oe}{fe fo C fa fb fy B:RE}{pos A w t:Pos}
theorem lj:EM X (.Dict [] [] pos) uU:=by unhygienic exact PE.imp Xm fun m H Q j=>by obtain⟨g,l,h,d,n,S,L,e,k⟩:=j;cases e;intro p hp;refine k (g.add p) _ _ (af.mpr ⟨p,rfl,?_⟩) (S.own hp ⟨[],IC,rfl,.nil⟩) (sx.own hp);simp![Rg.add];rw[<- S.len,ab (Uo _),Ds];rfl
theorem M7{r:Ms Oe}{g:RA}{x1}(h:AM X r g):EM X (.Tuple r x1 pos) (NQ g):=by
 unhygienic
  exact PE.imp (X1 h) fun E H Q x=>by
   obtain⟨u,l,h,d,M,S,L,e,k⟩:=x;obtain⟨⟨ds,J⟩,y,e⟩:=qA e;dsimp only at e;by_cases m:ds.length<=sizeLine
   . rw[eG m]at e;cases q:BC ds with
     | none=>rw[q]at e;cases e
     | some I=>rw[q]at e;cases e;refine⟨u,l,h,ds,_,S,L,y,fun j F O n s D=>⟨by rw[n.length];exact m,fun p hp=>k j _ _ (eI.mpr ⟨p,rfl,s.out hp,?_⟩) (s.fresh hp) (D.trans (sx.fresh hp))⟩⟩;rw[fF q]at n;rw[IC,n.ce]
   . rw[eH m]at e;cases e
set_option tactic.hygienic true in
theorem Dc (hu:X.A.units+64<cLine) (ho:EM X o fo) (hy:EM X e fy) (hx:EM X f B) (m:M2 X o "get" w e f t:=by exact⟨rfl,rfl,rfl,rfl⟩) :
 EM X (.Call (.Attribute o "get" w) [e,f] [] t) (fK fo fy B):=by
 unhygienic
  exact PE.imp (Wm nofun ho hy hx m) fun σ H Q W=>by
   obtain⟨U,l,h,dd,h',S,L,e,k⟩:=W;obtain⟨⟨P,O⟩,e1,e⟩:=qA e;refine⟨U,l,h,P,O,S,L,e1,fun r x H1 R1 T I=>?_⟩;cases P with
   | ref n=>
    dsimp only at e;split at e
    . rename_i a0 q0;obtain⟨⟨y,M⟩,e2,e⟩:=qA e;dsimp only at e;cases y with
      | ntp g=>
       obtain⟨⟨dx,h3⟩,e3,e⟩:=qA e;dsimp only at e;split at e
       . rename_i u q;cases e;obtain⟨D,z,J⟩:=af.mp R1;obtain⟨s,g0,_⟩:=T.ob n D _ J q0;refine⟨D,z,.inr ⟨s,.inl g0⟩,r,l,O,.ntp g,M,T,L.ext I,e2,fun p y H2 R2 S2 F=>⟨p,l,M,dx,_,S2,L.ext (I.trans F),e3,fun j x3 H3 R3 R E=>?_⟩⟩;obtain⟨kb,Y,nk,gk⟩:=eI.mp (Te.ext E _ R2);obtain⟨Z,g1,g2⟩:=R.ob n D _ ((F.trans E).get J) q;refine⟨cF Z (g.map Sum.inl),by rw[Y];exact dq.t g1 (by rw[DT];exact gk),?_⟩;obtain⟨v1,v2⟩:=KD.val (K:=X.K) g g2;refine k j _ H3 ?_ R (I.trans (F.trans E));cases c:QI u g with
         | none=>rw[v2 c];exact R3
         | some d4=>obtain⟨v4,e4,r4⟩:=v1 d4 c;rw[e4];exact r4
       . cases e
      | _=>cases e
    . cases e
   | _=>cases e
set_option tactic.hygienic true in
theorem Z7(hu:X.A.units+64<cLine)(he:EM X e fe)(ho:EM X o fo)(hi:EM X i C)(hs:autoParam (swapsWith e (ε (.Subscript o i A)) pos.line X.env=pure false) Æ) :
 ZM X (.Assign [.Subscript o i A] e pos) (sQ fe fo C):=by
 unhygienic
  exact PS.imp (ld nofun ho hi he hs) fun D T H I=>by
   obtain⟨U,l,h,r,S,L,e,k⟩:=I;obtain⟨⟨v,P⟩,e1,e⟩:=qA e;obtain⟨⟨d,hd⟩,e2,e⟩:=qA e;obtain⟨⟨j,hj⟩,e3,e⟩:=qA e;refine⟨U,l,h,v,P,S,L,e1,fun F u H1 R1 S1 x=>⟨F,l,P,d,hd,S1,L.ext x,e2,fun E y H2 R2 S2 s=>⟨E,l,hd,j,hj,S2,L.ext (x.trans s),e3,fun g z H3 R3 R p=>?_⟩⟩⟩;cases d with
   | ref n=>
    cases j with
    | ntp Y=>
     dsimp only at e;split at e
     . rename_i J q;obtain⟨Z,e⟩:=GF e;cases e;obtain⟨Q,I,O⟩:=af.mp (Te.ext p _ R2);obtain⟨vs,m,g2⟩:=R.ob n Q _ O q;obtain⟨kb,W,nk,gk⟩:=eI.mp R3;have M:=lu O;have g3:KD X.K H3 g J vs:=g2;refine⟨Q,_,I,by rw[W];exact dr.t m (by rw[DT];exact gk) (by rw[g3.length];exact Z),?_⟩;exact k g T _ (R.write O (RQ m) ⟨_,IC,(g3.put Y (Te.ext (s.trans p) _ R1)).ext (sx.write M (RQ m))⟩) (L.ext (x.trans (s.trans (p.trans (sx.write M (RQ m)))))) (x.trans (s.trans (p.trans (sx.write M (RQ m)))))
     . cases e
    | _=>cases e
   | _=>cases e
theorem gY{K:Oi}{H:Hp}{ρ:Rg}{n:Nat}{h:Oa}{ob:Obj}{g:Ms (Ms kC×V)}(Q:ρ.v[n]?=ε h)(e:H h=ε (.frz ob (.dT g))):o4 K H ρ (.it n) (KU h ob):=by
 intro T r R sm m i;have k:=sm.fz h ob _ e;have D:=sm.ix n h Q;simp![th.at];cases q:R[n]? with
 | none=>trivial
 | some u=>
  cases u with
  | df j=>
   obtain⟨W,vs,F,g2⟩:=m.ob n h _ D q;have g3:KD K T r j vs:=g2;rw[k]at F;cases F;dsimp only;cases E:j[i]? with
   | none=>exact⟨g,k,by rw[g3.length];exact Eo.mp E⟩
   | some p=>obtain⟨v,J,M⟩:=g3.get E;refine⟨⟨g,_,k,J⟩,fun x Y L=>?_⟩;obtain⟨qq,O,U,s,ex,y,P,S⟩:=L;have I:=P g k;rw[J]at I;cases I;subst ex S;rw[DT]at y;exact⟨zI m (.cons (ag.mpr ⟨O,_,rfl,.inl ⟨m.li y,.inl y⟩,Ro.ints p.1⟩) (.cons M .nil)) s,sx.fresh s,m.fresh s⟩
  | _=>trivial
set_option tactic.hygienic true in
theorem Bp {x:Ms Oe} {x1} {O:Pos} (P:EM X d fa) (m:autoParam (attributeBase d "items" X.env (eval d X.env)=eval d X.env) Æ) (j:autoParam ((w.endLine==t.line)=true) Æ) :
 IM X (.Tuple x x1 O) (.Call (.Attribute d "items" w) [] [] t) (xI fa):=by
 unhygienic
  exact PI.imp (Zm P m j) fun Y H R M=>by
   obtain⟨J,l,h,s,Z,S,L,e,k⟩:=M;obtain⟨⟨F,Q⟩,T,e⟩:=qA e;refine⟨J,l,h,F,Q,S,L,T,fun g v W U y I=>?_⟩;cases F with
   | ref n=>
    obtain⟨D,z,r⟩:=af.mp U;have E:=lu r;refine⟨D,z,?_⟩;dsimp only at e;split at e
    . rename_i u q;cases e;obtain⟨vs,p,g2⟩:=y.ob n D _ r q;have g3:KD X.K W g u vs:=g2;refine .inl ⟨vs,p,fun ob=>k g _ _ (gY r IC) (y.write r (RQ p) ⟨ob,vs,IC,g3.ext (sx.write E (RQ p))⟩) (I.trans (sx.write E (RQ p)))⟩
    . rename_i u q;cases e;obtain⟨ob,vs,p,g2⟩:=y.ob n D _ r q;exact .inr ⟨ob,vs,p,k g _ _ (gY r p) y I⟩
    . cases e
   | _=>cases e
end
end SM
namespace L2
section
variable{prog:Oo}{w:O4}{A:Pa}{R:Result->Nu->Prop}{I:Oa}{fp a:Ms Oa}{n:Nat}{P:Nat->Mu->Prop}{d:Nat->Pu->Prop}
noncomputable abbrev vQ (b:Mu):Ms (Str×Mu):=[(Str.ofString "default",b)]
theorem Jf(dv:Mu)(H:Walks prog w A.in1 I fp a n P d)(y:Nat->Nat->Bool)(Q:CmpOf prog w A.in1 .Lt P y)(S:Oa)(W:S∉fp) :
 ∀(k j:Nat)(s:Nu)(m:Mu)(c:Nat),n-(j+1)=k->j+1<=n->d (j+1) s.heap->P (argBest y j) m->
 s.heap.get? S=ε { cls:=.type "list",dict:=none,data:=.seq #[m,m] c,slots:=#[] }->
 (∀v E D,P (argBest y (n-1)) v->(∀b o,b∉a->b≠S->s.heap.get? b=ε o->E.get? b=ε o)->R (.ok (.ret v)) { s with heap:=E,toks:=D })->
 codeAny (model prog w) A (.builtin "min.loop" ⟨[.ref I,.none,.ref S],vQ dv⟩) R s:=by
 have U:S∉a:=fun h=>W (H.sub _ h)
 have T:(toString "min" ++ toString ".loop" :String) = "min.loop" :=by decide
 intro k
 induction k with
 | zero=>
  intro j s m c ek hj M J C p;have Y:j+1=n:=by omega
  refine Ia F.entry_min_loop ?_;rw[Ho F.plain_min_loop _];show wpAny _ A.in1 (seqItems? (.ref S) >>=_) _ _ s;refine ao (wpAny_seqItems C rfl ?_);show wpAny _ A.in1 (tryCatch (pyNext (.ref I)) _ >>=_) _ _ s;refine ao (wpAny_tryCatch (H.done s _ _ (Y ▸ M) fun E D kp=>?_));have i:=kp S _ U C;show wpAny _ A.in1 (updateSeq S (fun t=>#[]) >>=_) _ _ _;refine ao (wpAny_updateSeq i rfl (ao (wpAny_letGo (au ?_))));exact p m _ D (by rw[<- Y];exact J) fun b o q ns e=>(yu _ _ (nW ns)).trans (kp b o q e)
 | succ k ih=>
  intro j s m c ek hj M J C p;have lt:j+1<n:=by omega
  refine Ia F.entry_min_loop ?_;rw[Ho F.plain_min_loop _];show wpAny _ A.in1 (seqItems? (.ref S) >>=_) _ _ s;refine ao (wpAny_seqItems C rfl ?_);show wpAny _ A.in1 (tryCatch (pyNext (.ref I)) _ >>=_) _ _ s;refine ao (wpAny_tryCatch (H.item (j+1) s _ _ lt M fun v E D Pv B kp=>?_));have i:=kp S _ U C;show wpAny _ A.in1 (tryCatch (holding [v,v] (richCompare .Lt v m >>=_)) _ >>=_) _ _ _;refine ao (wpAny_tryCatch (Eu (ao (Q (j+1) (argBest y j) v m _ _ _ Pv J ?_))));refine ao (Eu (Fo (ao (wpAny_letGo (au ?_)))));cases Z:y (j+1) (argBest y j)with
  | true=>
   simp![eN];refine ao (wpAny_updateSeq i rfl (ao (wpAny_letGo ?_)));rw[T];refine au ⟨plainId_quiet F.plain_min_loop _,ih (j+1) _ v _ nofun lt (H.frame _ _ _ B fun b O o e=>?_) (by simp![argBest,Z,eN];exact Pv) (Ge _ i rfl) fun L u g x r=>?_⟩
   . exact(yu _ _ (fun z:S=b=>W (by rw[z];exact O))).trans e
   . exact p L u g x fun b o q ns e=>r b o q ns ((yu _ _ (nW ns)).trans (kp b o q e))
  | false=>simp![Wo,eO];refine ao (wpAny_letGo ?_);rw[T];refine au ⟨plainId_quiet F.plain_min_loop _,ih (j+1) _ m c nofun lt B (by simp![argBest,Z,Wo,eO];exact J) i fun L u g x r=>?_⟩;exact p L u g x fun b o q ns e=>r b o q ns (kp b o q e)
theorem Xg(L:Mu)(j:Walks prog w A.in1 I fp a n P d)(B:Nat->Nat->Bool)(y:CmpOf prog w A.in1 .Lt P B)(S:Oa)(m:S∉fp)(H:0<n){s:Nu}{c:Nat}(st:d 0 s.heap)
 (J:s.heap.get? S=ε { cls:=.type "list",dict:=none,data:=.seq #[] c,slots:=#[] })
 (x:∀v u D,P (argBest B (n-1)) v->(∀b o,b∉a->b≠S->s.heap.get? b=ε o->u.get? b=ε o)->R (.ok (.ret v)) { s with heap:=u,toks:=D }) :
 codeAny (model prog w) A (.builtin "min.loop" ⟨[.ref I,.none,.ref S],vQ L⟩) R s:=by
 have Q:S∉a:=fun h=>m (j.sub _ h)
 have O:(toString "min" ++ toString ".loop" :String) = "min.loop" :=by decide
 refine Ia F.entry_min_loop ?_;rw[Ho F.plain_min_loop _];show wpAny _ A.in1 (seqItems? (.ref S) >>=_) _ _ s;refine ao (wpAny_seqItems J rfl ?_);show wpAny _ A.in1 (tryCatch (pyNext (.ref I)) _ >>=_) _ _ s;refine ao (wpAny_tryCatch (j.item 0 s _ _ H st fun v u D T k kp=>?_));have i:=kp S _ Q J;show wpAny _ A.in1 (updateSeq S (fun t=>#[v,v]) >>=_) _ _ _;refine ao (wpAny_updateSeq i rfl ?_);rw[O];refine au ⟨plainId_quiet F.plain_min_loop _,Jf L j B y S m _ 0 _ v _ rfl H (j.frame _ _ _ k fun b q o e=>?_) T (Ge _ i rfl) fun M r g C p=>?_⟩
 . exact(yu _ _ (fun z:S=b=>m (by rw[z];exact q))).trans e
 . exact x M r g C fun b o E ns e=>p b o E ns ((yu _ _ (nW ns)).trans (kp b o E e))
end
section
variable{prog:Oo}{w:O4}{A:Pa}{E:Mu->Nu->Prop}{s:Nu}
theorem Vr (x d:Mu):argsOk "min" ⟨[x],vQ d⟩:=by unfold argsOk;kernel_rfl
theorem Kf{x d:Mu}{R:Mu->Nu->Prop}
 (h:wpAny (model prog w) A.in1 (pyIter x) (fun q a=>∃I fp j n P St i,q=.ref I/\Walks prog w A.in1 I fp j n P St/\St 0 a.heap/\(∀b∈fp,b<a.heap.objs.size)/\0<n/\CmpOf prog w A.in1 .Lt P i/\
  ∀v g k,P (argBest i (n-1)) v->(∀b o,b∉j->a.heap.get? b=ε o->g.get? b=ε o)->R v { a with heap:=g,toks:=k }) E s) :
 wpAny (model prog w) A (call (.builtin "min") [x] (vQ d)) R E s:=by
 have y:(toString "min" ++ toString ".loop" :String) = "min.loop" :=by decide
 refine kmk_tree PySem.F.kind_min PySem.F.plain_min PySem.F.entry_min (Vr _ _) ?_;show wpAny _ A.in1 (Builtin.Builtins.bindParams "min" ["key", "default"] 0 ⟨[],vQ d⟩ >>=_) _ _ s;refine ao (wpAny_of_eq (show Builtin.Builtins.bindParams "min" ["key", "default"] 0 ⟨[],vQ d⟩=pure [none,ε d]from rfl) (ao (au ?_)));refine ao (Hs h (fun q a L=>?_) fun z z e=>e);obtain⟨I,fp,j,n,P,St,i,rfl,r,u,D,H,p,m⟩:=L;refine ao (Ai ?_);have C:a.heap.objs.size∉fp:=fun J=>Fd _ (D _ J)
 rw[y];refine au ⟨plainId_quiet F.plain_min_loop _,Xg d r i p a.heap.objs.size C H (r.frame _ _ _ u fun b z o e=>cu _ e) (jl _ rfl) fun v g k M kp=>?_⟩;exact m v g k M fun b o B e=>kp b o B (rz (je e)) (cu _ e)
theorem Hf{l:Oa}{xs:Pb (Int×Tok)}{r:Mu}{R:Mu->Nu->Prop}(q:A.handled=none)(p:s.heap.IsList l (intItems xs))(g:0<xs.size)
 (h:∀v a d,(intItems xs)[argBest (fun i j=>decide (numAt xs i<numAt xs j)) (xs.size-1)]?=ε v->(∀b o,s.heap.get? b=ε o->a.get? b=ε o)->R v { s with heap:=a,toks:=d }) :
 wpAny (model prog w) A (call (.builtin "min") [.ref l] (vQ r)) R E s:=by
 refine Kf (iter_intList p fun x e m n k=>?_);subst e;refine⟨_,_,_,_,_,_,_,rfl,Walks.list (A:=A.in1) q _ l k (intItems xs),m,n,by simpa[intItems]using g,CmpOf.ints_lt (numAt xs) (fun z z=>intItems_at),fun v a d u kp=>?_⟩;exact h v a d (by simpa[intItems]using u) (old_kept kp)
end
section
variable{X:Cx}{e d:Oe}{c:TA}{b:TE}{p pos kp:Pos}
noncomputable def Az(K:Oi)(c:TA)(b:TE):TE:=fun g H Q=>c g H fun i j=>b g j fun _ h=>∃(q:Oa)(ns:Ms Int),i=[.ref q]/\to K h q (ns.map V.int)/\ns ≠ []/\∀M,M∈ns->(∀a∈ns,M<=a)->Q (.int M) h
theorem ln (U:X.calm=true) (T:Gl X "min") (R:X.mg "min" =none) (m:PA X [e] c) (hd:PE X d b) (he:autoParam (starEach [e] X.env=[(false,eval e X.env)]) Æ) :
 PE X (.Call (.Name "min" p) [e] [⟨ε "default",d,kp⟩] pos) (Az X.K c b):=by
 intro g s B H Q I h;refine wpAny_Call_Name_kw (LG I T R PyProof.Rows.boot_min ?_);refine callWith_kw ?z1 (by rw[he];rfl) (by rw[he];rfl) rfl rfl;refine HB (m pos g s B H _ I h) fun D E ⟨vs,H1,Z,J,q1⟩=>?z2
 refine kws_cons ?z3;refine HB (hd g E B H1 _ Z q1) fun v s2 ⟨y,H2,x,ry,q2⟩=>?z4
 refine kws_nil ?z5;show wpAny _ _ (call (.builtin "min") D (vQ v)) _ _ _;obtain⟨q,ns,rfl,P,o,r⟩:=q2;obtain⟨u,rfl,F⟩:=WE J;cases F;obtain⟨M,L,pl,hz⟩:=x.list P;obtain⟨i,Y,e2⟩:=xO (CJ L);have C:=pl.isList;rw[Y]at C;have n:0<i.size:=by
  rcases Nat.eq_zero_or_pos i.size with z | z
  . exfalso;apply o;rw[<- e2];have:i.toList=[]:=eq_nil_of_length_eq_zero (by simpa using z);rw[this];rfl
  . exact z
 refine Hf (x.ok.hd U) C n fun v h' tk O k=>?_
 obtain⟨t,rfl⟩:=intItems_at O;obtain⟨h1,W⟩:=argBest_lt (numAt i) (i.size-1);refine⟨.int _,H2,x.kept k,⟨t,rfl⟩,r _ ?_ fun a m=>?_⟩
 . rw[numAt_eq,<- e2];exact getD_mem (by rw[ni,z7];omega)
 . rw[<- e2]at m;obtain⟨j,S,rfl⟩:=mem_getD m;rw[ni,z7]at S;rw[<- numAt_eq];exact W j nofun
end
end L2
namespace SM
def vU(fa b:RE):RE:=fun l h=>(fa l h).bind fun r=>(b l r.2).bind fun q=>(KA q.2 r.1).bind fun a=>(BC a).bind fun ns=>if ns ≠ []then ε (.int (TB ns),q.2)else none
section
variable{X:Cx}{e d:Oe}{fa b:RE}{p pos kp:Pos}
theorem lr (E:X.calm=true) (D:Gl X "min") (C:X.mg "min" =none) (F:EM X e fa) (hd:EM X d b) (hs:autoParam (fB e=true) Æ):EM X (.Call (.Name "min" p) [e] [⟨ε "default",d,kp⟩] pos) (vU fa b):=by unhygienic exact PE.imp (ln E D C (wC F bD (kB hs _ _)) hd (kB hs _ _)) fun Y H Q x=>by obtain⟨u,l,h,dd,h',S,L,e,k⟩:=x;obtain⟨⟨R,m⟩,O,e⟩:=qA e;obtain⟨⟨P,h2⟩,e2,e⟩:=qA e;obtain⟨Z,J,e⟩:=qA e;obtain⟨ns,q,e⟩:=qA e;obtain⟨g,e⟩:=GF e;cases e;refine⟨u,l,h,R,m,S,L,O,fun j v H1 U T s=>⟨j,l,m,P,_,T,L.ext s,e2,fun i v2 W R2 n o=>?_⟩⟩;obtain⟨a,vs,z,sq,r⟩:=SC n (Te.ext o _ U) J;rw[fF q]at r;rw[r.ce]at sq;obtain⟨B,y⟩:=lG ns g;refine⟨a,ns,by rw[z],sq,g,fun M I g2=>?_⟩;have:M=TB ns:=Int.le_antisymm (g2 _ B) (y M I);rw[this];exact k i _ W (Xa.mpr rfl) n (s.trans o)
end
end SM
namespace L2
noncomputable def iE(ns:Ms Int):Ms Int:=ns.foldl (fun a k=>if a.any (· ==k)then a else a++[k]) []
theorem oZ(ns:Ms Int)(n:Nat)(h:n=ns.length):firstMet (fun i=>ns.getD i 0) n=iE ns:=by
 subst h;have e:(List.range ns.length).map (fun i=>ns.getD i 0)=ns:=by
  apply ext_getElem
  . simp
  . intro i b a;simp[a]
 unfold firstMet iE;rw[e];rfl
section
variable{X:Cx}
theorem Mt (F:X.calm=true):ae X (.type "set") (fun j H Q=>∃(q:Oa) (ns:Ms Int),j=[.ref q]/\to X.K H q (ns.map V.int)/\ns.length+1<4096/\
 ∀p,H p=none->Q (.ref p) (IB H p (.set (fun k=>(iE ns).any (· ==k)) (iE ns).length))):=by
 intro m s J H j L Q I r h;obtain⟨q,ns,rfl,D,O,i⟩:=h;obtain⟨u,rfl,B⟩:=WE r;cases B;obtain⟨d,C,pl,M⟩:=I.list D;have n:=CJ C;have E:d.length=ns.length:=IntsAre.length n;have e:d.toArray.size=ns.length:=by rw[dh,E]
 refine PySem.call_set_list (items:=d.toArray) (ns:=ns) (I.ok.hd F) pl.isList (by simpa using n) (by rw[e];unfold scanBound;omega) fun P y x kp=>?_
 rw[oZ ns _ e]at x;exact⟨.ref s.heap.objs.size,_,I.laid (a:=s.heap.objs.size) (o:=.set (fun k=>(iE ns).any (· ==k)) (iE ns).length) (t':=y) (fun b u g=>kp b u (je g) g) (Uo _) x,rfl,i _ (I.hok.fresh (Uo _))⟩
theorem sX:ae X (.builtin "len") (fun d H Q=>∃(p:Oa) (S:Int->Bool) (n:Nat),d=[.ref p]/\H p=ε (.set S n)/\Q (.int n) H):=by
 intro e s B H d C Q I r h;obtain⟨q,S,n,rfl,j,a⟩:=h;obtain⟨u,rfl,i⟩:=WE r;cases i;obtain⟨o,b,F,t,y,g2,g3,E,D,g,x,m⟩:=(show s.heap.SetOf (intKind X.prog X.w) q S n from I.hok q _ j);subst m;refine call_len_set y g2 g3 x ?_ ⟨.int b.size,H,I.tok _,⟨_,rfl⟩,a⟩;have:b.size<4096:=by unfold scanBound at g;exact g
 have k:(b.size:Int)<4096:=by omega
 exact Int.lt_trans k (by decide)
end
end L2
namespace SM
def GP:Dt->HI->Ni (Dt×HI):=fun d h=>(KA h d).bind fun a=>(BC a).bind fun ns=>if ns.length+1<4096 then ε (.int (iE ns).length,h)else none
section
variable{X:Cx}{e:Oe}{f:RE}{p p' pos pos':Pos}
theorem Yh (x:X.calm=true) (u:Gl X "len") (s:X.mg "len" =none) (i:Gl X "set") (g:X.mg "set" =none) (y:EM X e f) (hs:autoParam (fB e=true) Æ) :
 EM X (.Call (.Name "len" p) [.Call (.Name "set" p') [e] [] pos'] [] pos) (QB GP f):=by
 unhygienic exact PE.imp (GJ sX u s PySem.boot_len (wC (rS (Mt x) i g boot_set (wC y bD (kB hs _ _)) (he:=kB hs _ _)) bD rfl)) fun F H Q n=>by obtain⟨m,l,h,d,O,S,L,e,k⟩:=n;obtain⟨⟨C,M⟩,B,e⟩:=qA e;obtain⟨I,e2,e⟩:=qA e;obtain⟨ns,q,e⟩:=qA e;obtain⟨o,e⟩:=GF e;cases e;refine⟨m,l,h,C,_,S,L,B,fun b v P D j E=>?_⟩;obtain⟨a,J,z,sq,r⟩:=SC j D e2;rw[fF q]at r;rw[r.ce]at sq;exact⟨a,ns,by rw[z],sq,o,fun w hw=>⟨w,_,_,rfl,IC,k b _ _ (Xa.mpr rfl) (j.fresh hw) (E.trans (sx.fresh hw))⟩⟩
end
end SM
namespace L2
noncomputable def Its(lo c:Int)(n:Nat):It:=⟨fun i _=>i<n,fun i H x a=>a=H/\x=.int (lo+(i:Int)*c),fun i _=>n<=i⟩
theorem Zn{P:Oo}{w:O4}{K:Oi}{O:Oe}(it:Oa)(lo c:Int)(n:Nat):xG P w K O (Its lo c n) [it] it (fun i h=>IsRangeIter h it (lo+(i:Nat)*c) ((n:Int)-(i:Nat)) c) where
 mem:=by simp
 obj:=fun i h a b g=>by
  have e:b=it:=by simpa using g
  subst e;exact⟨_,a,fun v z=>by
   have M:Data.fields _=Data.cell v:=z;cases M⟩
 keep:=fun i h p a k=>k it ⋯ _ a
 item:=by
  intro X u hw x r i d s J H E I m a q;subst u hw x;obtain⟨F,D,S,C,B,y⟩:=m it ⋯;have W:=Walks.range (prog:=X.prog) (w:=X.w) (I.ok.hd r) it lo c n;refine W.item i s _ _ q a fun v p L R j Q=>?_
  obtain⟨t,rfl⟩:=R;have U:so X d J H { s with heap:=p,toks:=L }:=I.turned (fun b o g e=>Q b o (by simpa using g) e) F D C B y;exact⟨_,rfl,lQ (s:={ s with heap:=p,toks:=L }) (n := "range_iterator") j rfl rfl (by decide) ⟨.int (lo+(i:Int)*c),H,U,⟨t,rfl⟩,⟨rfl,rfl⟩,j,fun b g=>(m b g).1⟩⟩
 done:=by intro X u hw x r i d s J H E I m a q;subst u hw x;obtain⟨F,D,S,C,B,y⟩:=m it ⋯;exact wpAny_pyNext_range_end (I.ok.hd r) a (by have:n<=i:=q;omega) fun p T=>⟨rfl,I.turned (t':=s.toks) (fun b o g e=>T b o g e) F D C B y⟩
 self:=fun _ _ _ _ _ a h=>wpAny_pyIter_rangeiter a h
section
variable{X:Cx}{tg:Oe}
def Kq(d:TA):TI:=fun a H R=>d a H fun b e=>∃(i j:Int)(c:Nat),b=[.int i,.int j,.int (c:Int)]/\(0<=i/\i<2^61/\0<=j/\j<2^61/\0<c/\c<1000)/\R (Its i c ((j-i+(c:Int)-1)/(c:Int)).toNat) e
theorem iY{i j:Int}{c:Nat}(b:0<c):Builtin.Range.rangeSize i j (c:Int)=(((j-i+(c:Int)-1)/(c:Int)).toNat:Int):=by
 have a:(c:Int)>0:=by omega
 unfold Builtin.Range.rangeSize;rw[eG a];by_cases h:i<j
 . rw[eG h,show j-i+(c:Int)-1=(j-i-1)+1*(c:Int) by omega,Int.add_mul_ediv_right _ _ nofun];have:0<=(j-i-1)/(c:Int):=Int.ediv_nonneg nofun nofun;omega
 . rw[eH h];have:(j-i+(c:Int)-1)/(c:Int)<=0:=by have d:(j-i+(c:Int)-1)/(c:Int)<1:=Int.ediv_lt_of_lt_mul nofun nofun;omega
   omega
theorem Tg{i j:Int}{c:Nat}(q:0<=i/\i<2^61/\0<=j/\j<2^61/\0<c/\c<1000):Builtin.Range.small i j (c:Int)=true:=by
 obtain⟨n,m,k,h,b,g⟩:=q;have a:(c:Int)>0:=by omega
 have sz:Builtin.Range.rangeSize i j (c:Int)<=2^61+1/\0<=Builtin.Range.rangeSize i j (c:Int):=by
  rw[iY b];refine⟨?_,by omega⟩;have e:(j-i+(c:Int)-1)/(c:Int)<2^61+1:=Int.ediv_lt_of_lt_mul nofun (by
   have:(2^61+1:Int)*(c:Int)=2^61*(c:Int)+(c:Int):=by rw[Int.add_mul,Int.one_mul]
   have d:(2^61:Int)*1<=2^61*(c:Int):=Int.mul_le_mul_of_nonneg_left nofun (by decide);omega)
  omega
 unfold Builtin.Range.small;simp![Builtin.Range.rangeFitsLong,xr,Bool.or_eq_true,decide_eq_true_eq,beq_iff_eq,a,eN];omega
theorem jd {a b d:Oe} {C:TA} {p pos:Pos} (M:Gl X "range") (L:X.mg "range" =none) (P:PA X [a,b,d] C) (hs:starEach [a,b,d] X.env=[(false,eval a X.env),(false,eval b X.env),(false,eval d X.env)]) (u:starEach [b,d] X.env=[(false,eval b X.env),(false,eval d X.env)]) :
 PI X tg (.Call (.Name "range" p) [a,b,d] [] pos) (Kq C):=by
 intro k s B H R I h;refine Call_ (LG I M L boot_range (PyProof.Rows.callWith_type1 (HB (P pos k s B H _ I h) fun W m E=>?_) (by rw[hs,u]) (by rw[u];rfl)));obtain⟨U,D,T,F,q1⟩:=E;obtain⟨i,j,c,e,qq,q⟩:=q1;subst e;cases F with
 | cons r n=>
  cases n with
  | cons J n=>
   cases n with
   | cons x n=>
    cases n;obtain⟨t,rfl⟩:=r;obtain⟨t',rfl⟩:=J;obtain⟨g,rfl⟩:=x;have S:=qq.2.2.2.2.1;have Y:=qq.2.2.2.2.2;refine call_range_3 (show((c:Nat):Int)≠0 by omega) ?_ (Or.inl (PyProof.noPylong_small nofun));refine wpAny_pyIter_range (IsRange.new ..) (Tg qq) ?_;have y:so X k B D { m with heap:=m.heap.push { cls:=.type "range",data:=.fields #[.int i t,.int j t',.int (c:Int) g] },toks:=m.toks }:=T.kept fun b o e=>cu _ e
    refine⟨(m.heap.push { cls:=.type "range",data:=.fields #[.int i t,.int j t',.int (c:Int) g] }).objs.size,[(m.heap.push { cls:=.type "range",data:=.fields #[.int i t,.int j t',.int (c:Int) g] }).objs.size],_,_,D,rfl,
     y.kept (t':=m.toks) fun b o e=>cu _ e,Zn _ i c ((j-i+(c:Int)-1)/(c:Int)).toNat,?_,fun b O=>?_,q⟩
    . have Q:i+((0:Nat):Int)*(c:Int)=i:=by simp
      have e2:((((j-i+(c:Int)-1)/(c:Int)).toNat:Nat):Int)-((0:Nat):Int)=Builtin.Range.rangeSize i j (c:Int):=by rw[iY S];omega
      show IsRangeIter _ _ (i+((0:Nat):Int)*(c:Int)) (((((j-i+(c:Int)-1)/(c:Int)).toNat:Nat):Int)-((0:Nat):Int)) (c:Int);rw[Q,e2];exact jl _ rfl
    . have e:b=(m.heap.push { cls:=.type "range",data:=.fields #[.int i t,.int j t',.int (c:Int) g] }).objs.size:=by simpa using O
      subst e;exact y.ca (Uo _) (y.hok.fresh (Uo _))
end
end L2
namespace SM
noncomputable def t5(f g:RE)(c:Nat):RI:=fun l h=>(f l h).bind fun r=>(g l r.2).bind fun q=>match r.1,q.1 with
 | .int i,.int j=>if 0<=i/\i<2^61/\0<=j/\j<2^61/\0<c/\c<1000 then ε (.vals ((List.range ((j-i+(c:Int)-1)/(c:Int)).toNat).map fun(k:Nat)=>Dt.int (i+(k:Int)*(c:Int))),q.2)else none | _,_=>none
noncomputable def MI:qD:=fun a b h=>match a,b with
 | .tup xs,.tup ys=>if xs ≠ []/\xs.length+ys.length<=sizeLine then ε (.tup (xs++ys),h)else none
 | _,_=>none
noncomputable def FE(f:Str)(v:Dt):Ms (Str×Dt)->Ms (Str×Dt)
 | []=>[(f,v)]
 | (g,x)::r=>if g=f then(g,v)::r else(g,x)::FE f v r
noncomputable def iD(f:Str):Ms (Str×Dt)->Ni Dt
 | []=>none
 | (g,x)::r=>if f=g then ε x else iD f r
def TF(x f:Str)(fo:RE):RE:=fun l h=>(fo l h).bind fun r=>match r.1 with
 | .ref n=>(match r.2[n]? with
  | some (.ins y fs)=>if y=x then(iD f fs).bind fun d=>ε (d,r.2)else none
  | _=>none)
 | _=>none
def OI(x f:Str)(fo fe:RE):RS:=fun l h=>(fe l h).bind fun r=>(fo l r.2).bind fun q=>match q.1 with
 | .ref n=>(match q.2[n]? with
  | some (.ins y fs)=>if y=x/\fs.length<1000 then ε (.nx l (q.2.set n (.ins y (FE f r.1 fs))))else none
  | _=>none)
 | _=>none
noncomputable def fQ(x:Str)(F:gB)(g:RA):RE:=fun l h=>(g l h).bind fun r=>(F (.ref r.2.length::r.1) (r.2++[.ins x []])).bind fun q=>match q.1 with
 | .non=>ε (.ref r.2.length,q.2)
 | _=>none
def KI(x m:Str)(F:gB)(fo:RE)(g:RA):RE:=fun l h=>(fo l h).bind fun r=>match r.1 with
 | .ref n=>(match r.2[n]? with
  | some (.ins y fs)=>if y=x/\iD m fs=none then(g l r.2).bind fun q=>F (.ref n::q.1) q.2 else none
  | _=>none)
 | _=>none
section
variable{X:Cx}{tg:Oe}
theorem Gd {a b:Oe} {f g:RE} {c:Nat} {p pos:Pos} {d:Oe} (T:Gl X "range") (Q:X.mg "range" =none) (W:EM X a f) (U:EM X b g) (hd:EM X d (eC (.int (c:Int)))) (hs:autoParam (fB a=true) Æ) (o:autoParam (fB b=true) Æ) (m:autoParam (fB d=true) Æ) :
 IM X tg (.Call (.Name "range" p) [a,b,d] [] pos) (t5 f g c):=by
 unhygienic
  exact PI.imp (jd T Q (wC W (wC U (wC hd bD (kB m _ _)) (kB o _ _)) (kB hs _ _)) (by rw[kB hs,kB o,kB m];rfl) (by rw[kB o,kB m];rfl)) fun σ H R P=>by
   obtain⟨O,l,h,s,h',S,L,e,k⟩:=P;obtain⟨⟨I,E⟩,Y,e⟩:=qA e;obtain⟨⟨F,C⟩,e2,e⟩:=qA e;refine⟨O,l,h,I,E,S,L,Y,fun B v H1 R1 S1 D=>⟨B,l,E,F,C,S1,L.ext D,e2,fun y u H2 R2 S2 J=>⟨y,l,C,.int (c:Int),C,S2,L.ext (D.trans J),rfl,fun x u3 H3 R3 S3 E3=>?_⟩⟩⟩;cases I with
   | int i=>
    cases F with
    | int j=>
     obtain⟨Z,e⟩:=GF e;cases e;refine⟨i,j,c,by rw[Xa.mp R1,Xa.mp R2,Xa.mp R3],Z,k x _ H3 (fun H4 M h4 E4 S4 n=>?_) S3 (D.trans (J.trans E3))⟩;simp![th.at,wu];by_cases r:n<((j-i+(c:Int)-1)/(c:Int)).toNat
     . rw[Ma r];refine⟨r,fun v H5 q=>?_⟩;obtain⟨rfl,rfl⟩:=q;exact⟨Xa.mpr rfl,sx.refl _ _,S4⟩
     . rw[ju (by simpa using Io.mp r)];exact Io.mp r
    | _=>cases e
   | _=>cases e
theorem o0:OM X (binaryOp .Add) MI:=by
 unhygienic
  exact tv.imp jn fun x y H Q q=>by
   obtain⟨j,h,I,F,d,L,S,o,R2,e,k⟩:=q;cases I with
   | tup J=>
    cases F with
    | tup s=>
     obtain⟨⟨E,C⟩,e⟩:=GF e;cases e;obtain⟨a,B,m,q1,i⟩:=ag.mp o;obtain⟨b,u,r,q2,g⟩:=ag.mp R2;refine⟨a,b,B,u,m,r,q1.sq,q2.sq,fun z=>?_,by rw[i.length,g.length];exact C,fun z=>?_,fun z p hp=>k j _ _ (zI S (i.append g) hp) (S.fresh hp) (sx.fresh hp)⟩
     . have:=i.length;rw[z]at this;exact E (length_eq_zero_iff.mp this.symm)
     . have n:=g.length;rw[z]at n;have D:s=[]:=length_eq_zero_iff.mp n.symm;subst D;rw[Us]at k;exact k j _ _ (m ▸ o) S (sx.refl _ _)
    | _=>cases e
   | _=>cases e
end
def DM(f:RE):RI:=fun l h=>(f l h).bind fun r=>match r.1 with
 | .lst a=>ε (.vals (FI 0 a),r.2)
 | .ref n=>(match r.2[n]? with
  | some (.lst _)=>ε (.en n,r.2)
  | _=>none)
 | _=>none
theorem UZ {X:Cx} {B:Ms Oe} {x1} {tp p pos:Pos} {a:Oe} {f:RE} (hg:Gl X "enumerate") (hm:X.mg "enumerate" =none) (ha:EM X a f) (hs:autoParam (fB a=true) Æ):IM X (.Tuple B x1 tp) (.Call (.Name "enumerate" p) [a] [] pos) (DM f):=by
 unhygienic
  refine PI.imp (ky hg hm (wC ha bD (kB hs _ _)) (kB hs _ _)) fun σ H R zz=>?_
  obtain⟨ρ,l,h,s,h',S,L,e,k⟩:=zz;obtain⟨⟨U,D⟩,e1,e⟩:=qA e;refine⟨ρ,l,h,U,D,S,L,e1,fun x v Y W P Z=>?_⟩;cases U with
  | lst I=>
   cases e;obtain⟨b,g,rfl,q,r⟩:=bm.mp W;refine⟨b,rfl,⟨g,q.sq⟩,k x _ Y (fun H2 F D E m i=>?_) P Z⟩;have q2:=q.same E;have r2:=Ro.same E _ r;simp![th.at,AX,Ae];cases C:I[i]? with
   | none=>refine⟨g,q2.sq,?_⟩;rw[r.length];exact Eo.mp C
   | some d=>obtain⟨v,j,g2⟩:=r2.get C;refine⟨⟨g,v,q2.sq,j⟩,fun u H3 y=>?_⟩;obtain⟨p0,y0,hp,rfl,O,rfl⟩:=y;have g3:=O g q2.sq;rw[j]at g3;cases g3;exact⟨zI m (.cons (Xa.mpr rfl) (.cons g2 .nil)) hp,sx.fresh hp,m.fresh hp⟩
  | ref n=>
   dsimp only at e;split at e
   . rename_i a0 q0;cases e;obtain⟨b,rfl,Q⟩:=af.mp W;obtain⟨J,g0,_⟩:=P.lst Q q0;refine⟨b,rfl,⟨J,to.of g0⟩,k x _ Y (fun H2 F D E m i=>?_) P Z⟩;have M:=E.ix _ _ Q;simp![th.at];cases q:D[n]? with
     | none=>trivial
     | some o=>
      cases o with
      | lst I=>
       obtain⟨g,j,r⟩:=m.lst M q;dsimp only;cases C:I[i]? with
       | none=>refine⟨g,to.of j,?_⟩;rw[r.length];exact Eo.mp C
       | some d=>obtain⟨v,g2,g3⟩:=r.get C;refine⟨⟨g,v,to.of j,g2⟩,fun u H3 y=>?_⟩;obtain⟨p0,y0,hp,rfl,O,rfl⟩:=y;have T:=O g (to.of j);rw[g2]at T;cases T;exact⟨zI m (.cons (Xa.mpr rfl) (.cons g3 .nil)) hp,sx.fresh hp,m.fresh hp⟩
      | _=>trivial
   . cases e
  | _=>cases e
theorem QQ{c:Prop}[Decidable c]{a:Type}{x:Ni a}{b:a}(e:(if c then x else none)=ε b):c/\x=ε b:=by
 by_cases h:c
 . rw[eG h]at e;exact⟨h,e⟩
 . rw[eH h]at e;cases e
def t4(K:Oi)(x:Str)(C:Oa):Prop:=nsIn K mainGlobals x=ε (ε (.ref C))
theorem t4.inj{K:Oi}{x:Str}{C C':Oa}(h:t4 K x C)(h':t4 K x C'):C=C':=by have:=h.symm.trans h';cases this;rfl
theorem sT{K:Oi}{H:Hp}{ρ:Rg}{f:Str}:∀{fs:Ms (Str×Dt)}{vs:Ms (Str×V)},fs.map (·.1)=vs.map (·.1)->Ro K H ρ (fs.map (·.2)) (vs.map (·.2))->
 (∀d,iD f fs=ε d->∃v,vs.lookup f=ε v/\Te K H ρ d v)/\(iD f fs=none->vs.lookup f=none)
 | [],[],_,_=>⟨(fun u h=>by cases h),fun u=>rfl⟩
 | [],_::_,e,_=>by cases e
 | _::_,[],e,_=>by cases e
 | (x,d)::fs,(y,v)::vs,e,r=>by
  simp![Ss,Li]at e;obtain⟨o,e⟩:=e;subst o;obtain⟨p,s,q,n,m⟩:=Ro.Za r;cases q;obtain⟨k,j⟩:=sT (f:=f) e m;by_cases z:f=x
  . have a:(f==x)=true:=beq_iff_eq.mpr z;refine⟨fun b h=>?_,fun h=>?_⟩
    . simp![iD,eG z]at h;cases h;exact⟨v,by simp![List.lookup,a],n⟩
    . simp![iD,eG z]at h;cases h
  . have a:(f==x)=false:=by rw[<- Bool.not_eq_true,beq_iff_eq];exact z
    refine⟨fun b h=>?_,fun h=>?_⟩
    . simp![iD,eH z]at h;obtain⟨w,i,g⟩:=k b h;exact⟨w,by simp![List.lookup,a];exact i,g⟩
    . simp![iD,eH z]at h;simp![List.lookup,a];exact j h
theorem wY{K:Oi}{H:Hp}{ρ:Rg}{f:Str}{d:Dt}{v:V}(a:Te K H ρ d v):∀{fs:Ms (Str×Dt)}{vs:Ms (Str×V)},fs.map (·.1)=vs.map (·.1)->Ro K H ρ (fs.map (·.2)) (vs.map (·.2))->
 (FE f d fs).map (·.1)=(L2.EB f v vs).map (·.1)/\Ro K H ρ ((FE f d fs).map (·.2)) ((L2.EB f v vs).map (·.2))
 | [],[],_,_=>⟨rfl,.cons a .nil⟩
 | [],_::_,e,_=>by cases e
 | _::_,[],e,_=>by cases e
 | (x,d0)::fs,(y,v0)::vs,e,r=>by
  simp![Ss,Li]at e;obtain⟨j,e⟩:=e;subst j;obtain⟨k,m,q,i,b⟩:=Ro.Za r;cases q;by_cases z:x=f
  . simp![FE,L2.EB,eG z,Ss];exact⟨by rw[e],.cons a b⟩
  . obtain⟨h,g⟩:=wY a (f:=f) e b;simp![FE,L2.EB,eH z,Ss];exact⟨by rw[h],.cons i g⟩
structure uT(K:Frag)(x f:Str):Prop where
 ex:∃C,t4 K x C/\Cls K C/\cr K C f
structure aH(P:Program)(w:World)(K:Frag)(mg:Str->Option Value)(base:Heap)(k n:Nat)(x m:Str)(F:gB):Prop where
 ex:∃C f fd ps,t4 K x C/\Cls K C/\YM K C m f/\Zu P w K mg base PF k f fd ps (XI K n F)/\tq K fd ps []
 len:∀ds h r,F ds h=ε r->ds.length=n
structure xT(K:Frag)(x m qual:Str)(st:Stmt)(ps:List Str):Prop where
 ex:∃C f fd,t4 K x C/\Cls K C/\YM K C m f/\Fun K m qual st f fd/\tq K fd ps []
structure BQ(P:Program)(w:World)(K:Frag)(mg:Str->Option Value)(base:Heap)(k n:Nat)(x:Str)(F:gB):Prop where
 ex:∃C f fd ps,t4 K x C/\Mk K C f/\Zu P w K mg base PF k f fd ps (XI K n F)/\mg x=ε (.ref C)/\tq K fd ps []
 len:∀ds h r,F ds h=ε r->ds.length=n
structure Y0(K:Frag)(mg:Str->Option Value)(x qual:Str)(st:Stmt)(ps:List Str):Prop where
 ex:∃C f fd,t4 K x C/\Mk K C f/\Fun K "__init__" qual st f fd/\mg x=ε (.ref C)/\tq K fd ps []
section
variable{P:Oo}{w:O4}{K:Oi}{b:Str->Ni Mu}{a:Pu}
theorem YZ{x m d:Str}{st:Ou}{N ps:Ms Str}{k n i:Nat}{body:RS}(D:xT K x m d st ps)(S:Ze N ps (sB st))(o:ps.length=n)(p:N.length=i)
 (q:∀(f:Oa)(g:Mu)(A:Pa)(outer:Ms Env)(s:Nu)(H:Hp)(E:XK),Xu k (A.deeper (envOfC d (sB st) s.heap.objs.size f g))->
  RH (YE PF P w K b a N d (sB st) f g A outer s H E).nox (RC st) body):aH P w K b a (k+1) n x m (DB n i body):=by
 unhygienic subst o p;obtain⟨C,f,B,J,I,F,u,y⟩:=D.ex;exact⟨⟨C,f,B,ps,J,I,F,jQ u S fun g A outer s H E j=>q f g A outer s H E j,y⟩,fun ds h r e=>HP e⟩
theorem lv{x m g:Str}{st:Ou}{ps:Ms Str}{k n:Nat}(D:xT K x m g st ps):aH P w K b a k n x m (fun z z=>none):=by
 unhygienic
  obtain⟨C,f,u,F,B,y,R,p⟩:=D.ex;refine⟨⟨C,f,u,ps,F,B,y,⟨fun o H Q E h=>?_,fun A outer s H i I o Q E L M O J h=>?_⟩,p⟩,fun ds h r e=>by cases e⟩
  . obtain⟨j,ds,h,d,q,_,_,_,e,_⟩:=h;cases e
  . obtain⟨j,ds,h,d,q,_,_,_,e,_⟩:=h;cases e
theorem lx{x d:Str}{st:Ou}{N ps:Ms Str}{k n i:Nat}{body:RS}(D:Y0 K b x d st ps)(S:Ze N ps (sB st))(m:ps.length=n)(o:N.length=i)
 (p:∀(f:Oa)(g:Mu)(A:Pa)(outer:Ms Env)(s:Nu)(H:Hp)(E:XK),Xu k (A.deeper (envOfC d (sB st) s.heap.objs.size f g))->
  RH (YE PF P w K b a N d (sB st) f g A outer s H E).nox (RC st) body):BQ P w K b a (k+1) n x (DB n i body):=by
 unhygienic subst m o;obtain⟨C,f,y,I,F,q,B,u⟩:=D.ex;exact⟨⟨C,f,y,ps,I,F,jQ q S fun g A outer s H E j=>p f g A outer s H E j,B,u⟩,fun ds h r e=>HP e⟩
end
theorem A5{H:Hp}{a C b:Oa}{vs:Ms (Str×V)}(h:H a=ε (.ins C b vs)):BU H a:=fun q q e=>by rw[h]at e;cases e
section
variable{X:Cx}{e o b:Oe}{s:Ms Oe}{x f m:Str}{fo fe:RE}{g:RA}{pos j i p:Pos}{k t n:Nat}{F:gB}
theorem nM(cl:uT X.K x f)(u:EM X e fo)(U:autoParam (attributeBase e f X.env (eval e X.env)=eval e X.env) Æ):EM X (.Attribute e f pos) (TF x f fo):=by
 unhygienic
  exact PE.imp (P9 u U) fun σ H Q J=>by
   obtain⟨I,l,h,d,h',S,L,e,k⟩:=J;obtain⟨⟨B,W⟩,e1,e⟩:=qA e;refine⟨I,l,h,B,W,S,L,e1,fun r v H1 R1 D E1=>?_⟩;cases B with
   | ref n=>
    dsimp only at e;split at e
    . rename_i y fs q;obtain⟨T,e3⟩:=QQ e;subst T;obtain⟨d2,q2,Z⟩:=qA e3;cases Z;obtain⟨a,z,u⟩:=af.mp R1;obtain⟨C,dx,P,c1,Y,g2,g3⟩:=D.ob n a _ u q;obtain⟨E,c2,c3,c4⟩:=cl.ex;have cc:E=C:=t4.inj c2 c1;subst cc;obtain⟨R,O,M⟩:=(sT g2 g3).1 _ q2;exact⟨a,E,dx,P,R,z,Y,c3,c4,O,k r _ _ M D E1⟩
    . cases e
   | _=>cases e
set_option tactic.hygienic true in
theorem NP(cl:uT X.K x f)(E:EM X o fo)(J:EM X b fe)(hs:autoParam (swapsWith b (ε (.Attribute o f j)) pos.line X.env=pure false) Æ):ZM X (.Assign [.Attribute o f j] b pos) (OI x f fo fe):=by
 unhygienic
  exact PS.imp (cj E J hs) fun D σ H P=>by
   obtain⟨ρ,l,h,r,S,L,e,k⟩:=P;obtain⟨⟨v,J⟩,e1,e⟩:=qA e;obtain⟨⟨d,hd⟩,e2,e⟩:=qA e;refine⟨ρ,l,h,v,J,S,L,e1,fun O u H1 R1 S1 T=>⟨O,l,J,d,hd,S1,L.ext T,e2,fun M y H2 R2 S2 R=>?_⟩⟩;cases d with
   | ref n=>
    dsimp only at e;split at e
    . rename_i y fs q;obtain⟨⟨hy,hl⟩,e⟩:=GF e;cases e;subst hy;obtain⟨a,P,E⟩:=af.mp R2;obtain⟨C,Y,W,Z,I,g2,g3⟩:=S2.ob n a _ E q;obtain⟨U,c2,c3,c4⟩:=cl.ex;have cc:U=C:=t4.inj c2 Z;subst cc;have Q:=lu E;have B:W.length=fs.length:=by have:=congrArg List.length g2;simpa using this.symm
      obtain⟨p1,p2⟩:=wY (f:=f) (Te.ext R _ R1) g2 g3;refine⟨a,U,Y,W,P,I,c3,c4,by rw[B];exact hl,?_⟩;exact k M σ _ (S2.write E (A5 I) ⟨U,Y,_,Z,IC,p1,p2.ext (sx.write Q (A5 I))⟩) (L.ext (T.trans (R.trans (sx.write Q (A5 I))))) (T.trans (R.trans (sx.write Q (A5 I))))
    . cases e
   | _=>cases e
theorem ly (c:BQ X.prog X.w X.K X.mg X.base k n x F) (hr:Xu t X.A) (hk:k+1<=t) (hg:Gl X x) (ha:AM X (e::s) g) (P:autoParam ((x==("__debug__" :Str))=false) Ñ)
 (he:autoParam (fB e=true) Æ) (hpl:autoParam (s.all fB=true) Æ):EM X (.Call (.Name x p) (e::s) [] pos) (fQ x F g):=by
 unhygienic
  obtain⟨C,f,fd,ps,c1,c2,c3,c4,c5⟩:=c.ex;exact PE.imp (i0 c2 c3 (hr.mono hk) hg c4 c5 .nil (E:=E0) pQ ha P (kB he _ _) (vI hpl)) fun σ H Q Y=>by
   obtain⟨W,l,h,d,h',S,L,e,k⟩:=Y;obtain⟨⟨B,J⟩,e1,e⟩:=qA e;obtain⟨⟨d2,h2⟩,e2,e⟩:=qA e;cases d2 with
   | non=>
    cases e;refine⟨W,l,h,B,J,S,L,e1,fun a Z I R1 R E1 xa q hx y O=>?_⟩;have S2:Vo X.K a J (IB I q (.own xa)):=R.fresh y;have r:IB I q (.own xa) xa=none:=by rw[dB (nW O)];exact hx
    have S3:=S2.own (p:=xa) (o:=.ins C q []) (u:=.ins x []) r ⟨C,q,[],c1,IC,rfl,.nil⟩;have T:sx a (a.add xa) I (IB (IB I q (.own xa)) xa (.ins C q [])):=(sx.fresh y).trans (sx.own r);have D:(a.add xa).v[J.length]?=ε xa:=by simp[Rg.add,<- R.len]
    have R3:Ro X.K (IB (IB I q (.own xa)) xa (.ins C q [])) (a.add xa) (.ref J.length::B) (.ref xa::(Z++[])):=.cons (af.mpr ⟨xa,rfl,D⟩) (by rw[Us];exact R1.ext T);exact⟨a.add xa,_,_,.non,h2,S3,R3,c.len _ _ _ e2,e2,fun M v H' R' S' U=>⟨bo.mp R',k M _ H' (af.mpr ⟨xa,rfl,U.get D⟩) S' (E1.trans (T.trans U))⟩⟩
   | _=>cases e
theorem VS{pl:Sem Bool}(c:aH X.prog X.w X.K X.mg X.base k n x m F)(hr:Xu t X.A)(hk:k<=t)(ho:EM X o fo)(B:AM X (e::s) g)
 (he:autoParam (fB e=true) Æ) (hpl:autoParam (s.all fB=true) Æ)
 (ht:eval (.Call (.Attribute o m i) (e::s) [] pos) X.env=(do
  let ov <- eval o X.env
  standAt i.atName
  let (f,first) <- holding [ov] (getMethod ov m pl)
  callWith pos f first (backTo pos (starEach (e::s) X.env)) (backToKw pos (keywordEach [] X.env))):=by rfl):EM X (.Call (.Attribute o m i) (e::s) [] pos) (KI x m F fo g):=by
 unhygienic
  obtain⟨C,f,fd,ps,c1,c2,c3,c4,c5⟩:=c.ex;exact PE.imp (ir (pl:=pl) ho c2 c3 c4 (hr.mono hk) c5 .nil (E:=E0) pQ B (kB he _ _) (vI hpl) ht) fun σ H Q Y=>by
   obtain⟨W,l,h,d,h',S,L,e,k⟩:=Y;obtain⟨⟨O,J⟩,e1,e⟩:=qA e;refine⟨W,l,h,O,J,S,L,e1,fun u v H1 R P U=>?_⟩;cases O with
   | ref nn=>
    dsimp only at e;split at e
    . rename_i y fs q;obtain⟨⟨hy,hl⟩,e3⟩:=QQ e;subst hy;obtain⟨⟨ds,I⟩,e2,M⟩:=qA e3;obtain⟨a,z,B⟩:=af.mp R;obtain⟨C',dx,Z,D,g1,g2,g3⟩:=P.ob nn a _ B q;have cc:C'=C:=t4.inj D c1;subst cc;refine⟨a,dx,Z,z,g1,(sT g2 g3).2 hl,u,l,J,ds,I,P,L.ext U,e2,fun r us H2 R2 S2 T=>?_⟩;exact⟨r,_,I,d,h',S2,.cons (Te.ext T _ R) (by rw[Us];exact R2),c.len _ _ _ M,M,(k.ext U).ext T⟩
    . cases e
   | _=>cases e
end
structure AQ(K:Frag)(x qual:Str)(st:Stmt)(dV:Value)(f:Addr)(fd:FuncData):Prop where
 ex:∃(oc:Value)(od:Option Addr)(kV doc pm:Value)(an:Option Addr)(cdv ct:Value)(osl:Array (Option Value)),
  fd=fnOf x qual (IE st) (RC st) (sB st) dV kV doc pm an cdv ct/\K.lookup f=ε ⟨oc,od,.func fd,osl⟩/\PySem.W.codeIn K cdv qual=true
 kp:keepIn K (.ref f)=true
section
variable{P:Oo}{w:O4}{K:Oi}{mg:Str->Ni Mu}{base:Pu}
theorem lz{x a:Str}{st:Ou}{f:Oa}{j h:Mu}{od i:Ni Oa}{e:Pb (Ni Mu)}{kV d g b ct:Mu}(l:K.lookup f=ε ⟨j,od,.func (fnOf x a (IE st) (RC st) (sB st) h kV d g i b ct),e⟩)
 (c:PySem.W.codeIn K b a=true) (k:keepIn K (.ref f)=true):AQ K x a st h f (fnOf x a (IE st) (RC st) (sB st) h kV d g i b ct):=⟨⟨j,od,kV,d,g,i,b,ct,e,rfl,l,c⟩,k⟩
theorem wj{x a:Str}{st:Ou}{J:Mu}{f:Oa}{n:FuncData}{N ps:Ms Str}{k:Nat}{body:RS}(F:AQ K x a st J f n)(S:Ze N ps (sB st))
 (B:∀(b:Mu)(A:Pa)(outer:Ms Env)(s:Nu)(H:Hp)(E:XK),Xu k (A.deeper (envOfC a (sB st) s.heap.objs.size f b))->
  RH (YE PF P w K mg base N a (sB st) f b A outer s H E).nox (RC st) body):Zu P w K mg base PF (k+1) f n ps (XI K ps.length (DB ps.length N.length body)):=by
 unhygienic
  obtain⟨W,U,kV,I,T,an,b,ct,r,rfl,u,m⟩:=F.ex;refine F4 u m S (fun p H Q E h=>?_) fun A outer s H p Q E y h=>?_
  . obtain⟨j,ds,h,d,D,S,R,g,_⟩:=h;rw[R.length,g]
  . obtain⟨j,ds,h,d,D,S,R,g,e,k⟩:=h;refine⟨_,(B b A outer s H E y).nox,?_⟩;unfold DB at e;rw[eG g]at e;rw[<- g]at e;split at e
    . rename_i Z C q;cases e;exact⟨j,_,h,_,S,kP R,q,k⟩
    . rename_i Y C q;cases e;exact⟨j,_,h,_,S,kP R,q,fun i o M L L' O=>k i _ M (bo.mpr rfl) L O⟩
    . cases e
structure zQ(K:Frag)(mg:Str->Option Value)(x:Str)(st:Stmt)(ps:List Str)(dds:List Dt):Prop where
 ex:∃dV f fd ds dvs,AQ K x x st dV f fd/\mg x=ε (.ref f)/\tq K fd ps ds/\ss dvs ds/\∀H ρ,Ro K H ρ dds dvs
structure UM(P:Program)(w:World)(K:Frag)(mg:Str->Option Value)(base:Heap)(k n:Nat)(x:Str)(F:gB)(dds:List Dt):Prop where
 ex:∃f fd ps ds dvs,Zu P w K mg base PF k f fd ps (XI K n F)/\mg x=ε (.ref f)/\keepIn K (.ref f)=true/\tq K fd ps ds/\ss dvs ds/\∀H ρ,Ro K H ρ dds dvs
 len:∀ds h r,F ds h=ε r->ds.length=n
theorem l0{x:Str}{st:Ou}{N ps:Ms Str}{k n m:Nat}{body:RS}{dds:Ms Dt}(D:zQ K mg x st ps dds)(S:Ze N ps (sB st))(i:ps.length=n)(j:N.length=m)
 (o:∀(f:Oa)(a:Mu)(A:Pa)(outer:Ms Env)(s:Nu)(H:Hp)(E:XK),Xu k (A.deeper (envOfC x (sB st) s.heap.objs.size f a))->
  RH (YE PF P w K mg base N x (sB st) f a A outer s H E).nox (RC st) body):UM P w K mg base (k+1) n x (DB n m body) dds:=by
 unhygienic subst i j;obtain⟨C,f,B,ds,b,d,y,u,q,p⟩:=D.ex;exact⟨⟨f,B,ps,ds,b,wj d S fun a A outer s H E g=>o f a A outer s H E g,y,d.kp,u,q,p⟩,fun ds h r e=>HP e⟩
end
section
variable{X:Cx}{k d n:Nat}{F:gB}{x:Str}{p pos:Pos}{e:Oe}{b:Ms Oe}{g:RA}{a:Ms Dt}
theorem Ac (c:UM X.prog X.w X.K X.mg X.base k n x F a) (j:Xu d X.A) (m:k<=d) (o:Gl X x) (s:AM X (e::b) g) (i:autoParam ((x==("__debug__" :Str))=false) Ñ)
 (he:autoParam (fB e=true) Æ) (hpl:autoParam (b.all fB=true) Æ) :
 EM X (.Call (.Name x p) (e::b) [] pos) (xA F a g):=by
 unhygienic obtain⟨f,J,I,ds,H,E,D,C,B,y,u⟩:=c.ex;exact OY E (j.mono m) o D C B y u s (fun L e ds h r q=>c.len ds h r (e ▸ q)) i he hpl
end
def SA(K:Oi)(x:Str)(st:Ou):Prop:=∃(f:Oa)(g:Mu)(e:Ni Oa)(kV dc d:Mu)(h:Ni Oa)(a ct:Mu)(b:Pb (Ni Mu)),nsIn K mainGlobals x=ε (ε (.ref f))/\
 K.lookup f=ε ⟨g,e,.func (fnOf x x (IE st) (RC st) (sB st) .none kV dc d h a ct),b⟩/\PySem.W.codeIn K a x=true/\keepIn K (.ref f)=true
def Y3(K:Oi)(x:Str)(st:Ou)(d:Int):Prop:=∃(f:Oa)(j:Mu)(i:Ni Oa)(a:Oa)(kV dc h:Mu)(m:Ni Oa)(e ct:Mu)(g:Pb (Ni Mu))(b:Obj)(t:Tok)(k:Nat),nsIn K mainGlobals x=ε (ε (.ref f))/\
 K.lookup f=ε ⟨j,i,.func (fnOf x x (IE st) (RC st) (sB st) (.ref a) kV dc h m e ct),g⟩/\PySem.W.codeIn K e x=true/\keepIn K (.ref f)=true/\K.lookup a=ε b/\b.data=.seq #[.int d t] k
def xM(K:Oi)(C:Oa)(m a:Str)(st:Ou):Prop:=∃(f:Oa)(h:Mu)(g:Ni Oa)(kV dc e:Mu)(i:Ni Oa)(b ct:Mu)(d:Pb (Ni Mu)),findIn K (.ref C) m=ε (ε (.ref f))/\PySem.W.isFn K (.ref f)=true/\
 K.lookup f=ε ⟨h,g,.func (fnOf m a (IE st) (RC st) (sB st) .none kV dc e i b ct),d⟩/\PySem.W.codeIn K b a=true/\keepIn K (.ref f)=true
structure VM(K:Frag)(x:Str)(C:Addr):Prop where
 ac:nsIn K mainGlobals x=ε (ε (.ref C))
 pg:PySem.W.plainGet K C Str.empty=true
 hd:PySem.W.hasDictIn K C=true
 po:PySem.W.plainOver K C=true
 sa:findIn K (.ref C) "__setattr__" =ε (ε (.builtin "object.__setattr__"))
 mkk:PySem.W.makesIn K C=true
 kc:keepIn K (.ref C)=true
section
variable{K:Oi}{h:Pu}{b:Str->Ni Mu}{x m qual:Str}{st:Ou}{ps:Ms Str}{C:Oa}{d:Int}
theorem UJ(X:K.In h)(G:h.Ns mainGlobals b)(D:SA K x st)(n:∀(kV e i:Mu)(j:Ni Oa)(g ct:Mu)(us:Ms Mu),us.length=ps.length->bindArgs (fnOf x x (IE st) (RC st) (sB st) .none kV e i j g ct) ⟨us,[]⟩=pure (ps.zip us)):ZT K b x st ps:=by obtain⟨f,q,p,kV,dc,i,j,r,ct,o,a,l,c,k⟩:=D;have F:=QP l c k;exact⟨⟨f,_,F,PySem.W.mg_of X G a,F.binds n⟩⟩
theorem l4(X:K.In h)(G:h.Ns mainGlobals b)(D:Y3 K x st d)(u:∀(s:Nu)(e:Oa)(g:Obj)(t:Tok)(i:Nat)(kV j o:Mu)(p:Ni Oa)(n ct:Mu)(us:Ms Mu),us.length=ps.length->s.heap.get? e=ε g->g.data=.seq #[.int d t] i->BindsTo s (fnOf x x (IE st) (RC st) (sB st) (.ref e) kV j o p n ct) ⟨us,[]⟩ (ps.zip (us++[]))):zQ K b x st ps []:=by obtain⟨f,F,E,e,kV,dc,o,p,H,ct,B,g,t,i,a,l,c,k,q,e2⟩:=D;exact⟨⟨_,f,_,[],[],lz l c k,PySem.W.mg_of X G a,fun s us y r=>u s e g t i _ _ _ _ _ _ us (by simpa using r) (y _ _ q) e2,.nil,fun z z=>.nil⟩⟩
theorem JS(k:VM K x C)(D:xM K C m qual st)(p:∀(kV e j:Mu)(o:Ni Oa)(g ct:Mu)(us:Ms Mu),us.length=ps.length->bindArgs (fnOf m qual (IE st) (RC st) (sB st) .none kV e j o g ct) ⟨us,[]⟩=pure (ps.zip us)):xT K x m qual st ps:=by obtain⟨f,s,r,kV,dc,j,o,u,ct,q,a,i,l,c,n⟩:=D;have F:=QP l c n;exact⟨⟨C,f,_,k.ac,⟨k.pg,k.hd,k.po,k.sa⟩,⟨a,i,n⟩,F,F.binds p⟩⟩
theorem Dp (X:K.In h) (G:h.Ns mainGlobals b) (k:VM K x C) (D:xM K C "__init__" qual st) (p:∀(kV e j:Mu) (n:Ni Oa) (g ct:Mu) (us:Ms Mu),us.length=ps.length->bindArgs (fnOf "__init__" qual (IE st) (RC st) (sB st) .none kV e j n g ct) ⟨us,[]⟩=pure (ps.zip us)):Y0 K b x qual st ps:=by obtain⟨f,s,r,kV,dc,j,n,u,ct,q,a,i,l,c,o⟩:=D;have F:=QP l c o;exact⟨⟨C,f,_,k.ac,⟨k.mkk,a,i,k.kc⟩,F,PySem.W.mg_of X G k.ac,F.binds p⟩⟩
theorem IG{f:Str}(k:VM K x C)(n:findIn K (.ref C) f=ε none):uT K x f:=⟨⟨C,k.ac,⟨k.pg,k.hd,k.po,k.sa⟩,n⟩⟩
end
section
variable{Q:Ms Mu->Prop}
theorem GK(h:Q []):∀a:Ms Mu,a.length=0->Q a | [],_=>h
theorem HF{n:Nat}(h:∀a b,b.length=n->Q (a::b)):∀b:Ms Mu,b.length=n+1->Q b | a::b,e=>h a b (Nat.succ.inj e)
theorem len1(h:∀a,Q [a]):∀us:Ms Mu,us.length=1->Q us:=HF fun a=>GK (h a)
theorem HK(h:∀a b,Q [a,b]):∀us:Ms Mu,us.length=2->Q us:=HF fun a=>HF fun b=>GK (h a b)
theorem gH(h:∀a b c,Q [a,b,c]):∀us:Ms Mu,us.length=3->Q us:=HF fun a=>HF fun b=>HF fun c=>GK (h a b c)
theorem IK(h:∀a b c d,Q [a,b,c,d]):∀us:Ms Mu,us.length=4->Q us:=HF fun a=>HF fun b=>HF fun c=>HF fun d=>GK (h a b c d)
theorem JK(h:∀a b c d e,Q [a,b,c,d,e]):∀us:Ms Mu,us.length=5->Q us:=HF fun a=>IK (h a)
theorem M6(h:∀a b c d e f,Q [a,b,c,d,e,f]):∀us:Ms Mu,us.length=6->Q us:=HF fun a=>JK (h a)
end
theorem zG{N P:Ms Str}{sc:Scope}(a:autoParam (sc.kind=.function) þ)(b:autoParam (sc.isCoroutine=false) þ)(c:autoParam (sc.isGenerator=false) þ)(d:autoParam N.Nodup ð)(e:autoParam (N.take P.length=P) þ)
 (f:autoParam (∀x∈P,sc.names.lookup x=ε .local\/sc.names.lookup x=ε .cell) ð) (g:autoParam (∀y∈sc.names,y.2≠.free) ð):Ze N P sc:=⟨a,b,c,d,e,f,g⟩
theorem LA {X:Cx} {k k' n:Nat} {x:Str} {F:gB} {e:Oe} {b:Ms Oe} {g:RA} {p pos:Pos} (c:YB X.prog X.w X.K X.mg X.base k n x F) (d:Xu k' X.A) (j:AM X (e::b) g) (h:autoParam (k<=k') Ñ) (i:autoParam (Gl X x) þ) (a:autoParam ((x==("__debug__" :Str))=false) Ñ)
 (he:autoParam (fB e=true) Æ) (hpl:autoParam (b.all fB=true) Æ):EM X (.Call (.Name x p) (e::b) [] pos) (xA F [] g):=HD c d h i j a he hpl
end SM
namespace L2
theorem qZ:∀{bs:Ms Bool}{us:Ms Mu},ss (bs.map V.bl) us->us=bs.map Value.bool
 | [],_,h=>by cases h;rfl
 | b::bs,_,h=>by
  cases h with
  | cons r a=>rw[qZ a];cases r;rfl
noncomputable def Xx(K:Oi):V->Ms V->Hp->VK->Prop:=fun x d H Q=>∃(a:Oa)(bs:Ms Bool)(b:Bool),x=.ref a/\d=[.bl b]/\to K H a (bs.map V.bl)/\Q (.int ((bs.countP (· ==b):Nat):Int)) H
section
variable{X:Cx}
theorem Lf:V5 X "list.count" (Xx X.K):=by
 intro g s F H x J v L Q I r B h;obtain⟨p,bs,b,rfl,rfl,sq,q⟩:=h;cases r;obtain⟨u,rfl,C⟩:=WE B;cases C;obtain⟨its,e,⟨⟨P,O,M,d⟩,n,o,k,j,i⟩,z⟩:=I.list sq;simp only at k j i;subst k j i;have m:=qZ e;refine call_meets PySem.F.slot_list_count ⟨_,o,rfl⟩ PySem.F.entry_list_count (PySem.F.args_list_count_2 _ _) (SeqAt.list_countAt p its.toArray n none d (.bool b) (isBoolOf b)) ⟨o,fun y D=>?_,?_⟩
 . have a:y∈its:=by simpa using D
   rw[m]at a;obtain⟨c,_,rfl⟩:=Bu.mp a;exact SeqAt.EqAt.bool_bool c b
 . have E:its.toArray.toList.countP (isBoolOf b)=bs.countP (· ==b):=by rw[show its.toArray.toList=its from rfl,m,countP_map];rfl
   rw[E];exact⟨.int _,H,I.tok _,⟨_,rfl⟩,q⟩
end
end L2
namespace SM
def lT(fa fb:RE):RE:=fun l h=>(fa l h).bind fun r=>(fb l r.2).bind fun q=>match r.1,q.1 with
 | .lst xs,.bl b=>(lF xs).bind fun bs=>ε (.int ((bs.countP (· ==b):Nat):Int),q.2)
 | _,_=>none
section
variable{X:Cx}{a b:Oe}{fa fb:RE}
theorem Xh {i g:Pos} (F:EM X a fa) (I:EM X b fb) (m:autoParam (attributeBase a "count" X.env (eval a X.env)=eval a X.env) Æ)
 (j:autoParam ((i.endLine==g.line)=true) Æ) (hs:autoParam (fB b=true) Æ) :
 EM X (.Call (.Attribute a "count" i) [b] [] g) (lT fa fb):=by
 unhygienic
  exact PE.imp (HM PySem.F.plainAttrs_list PySem.F.slot_list_count PySem.F.type_list_count Lf F (wC I bD (kB hs _ _)) m (UL hs) j (kB hs _ _)) fun Y H Q D=>by
   obtain⟨C,l,h,d,h',S,L,e,k⟩:=D;obtain⟨⟨s,r⟩,O,e⟩:=qA e;obtain⟨⟨P,J⟩,e2,e⟩:=qA e;refine⟨C,l,h,s,r,S,L,O,fun o v H1 U T B=>?_⟩;cases s with
   | lst Z=>
    cases P with
    | bl b=>obtain⟨bs,q,e⟩:=qA e;cases e;obtain⟨x,E,z,t,p⟩:=bm.mp U;subst z;refine⟨.inl ⟨rfl,E,t.sq⟩,o,l,r,.bl b,J,T,L.ext B,e2,fun n y W R2 R u=>?_⟩;rw[mS q]at p;have M:=p.gc;rw[M]at t;exact⟨x,bs,b,rfl,by rw[Zi.mp R2],(t.same u.same).sq,k n _ W (Xa.mpr rfl) R (B.trans u)⟩
    | _=>cases e
   | _=>cases e
end
theorem B1{P:Oo}{w:O4}{K:Oi}{mg:Str->Ni Mu}{base:Pu}{x:Str}{st:Ou}{ps:Ms Str}{k n:Nat}(D:ZT K mg x st ps):YB P w K mg base k n x (fun z z=>none):=by
 unhygienic
  obtain⟨f,p,j,i,m⟩:=D.ex;refine⟨⟨f,p,ps,⟨fun g H Q E h=>?_,fun A outer s H a q g Q E y B C u h=>?_⟩,i,j.kp,m⟩,fun ds h r e=>by cases e⟩
  . obtain⟨b,ds,h,d,o,_,_,_,e,_⟩:=h;cases e
  . obtain⟨b,ds,h,d,o,_,_,_,e,_⟩:=h;cases e
end SM
namespace L2
section
variable{X:Cx}
end
end L2
namespace SM
noncomputable def mB{a β:Type}(o:Ni a)(f:a->Ni β):Ni β:=o.bind f
@[simp] theorem dA{b d:Type}(a:b)(f:b->Ni d):mB (ε a) f=f a:=by rfl
@[simp] theorem rb{b a:Type}(f:b->Ni a):mB none f=none:=by rfl
@[simp] theorem rc{d e:Type}{c:Prop}[Decidable c](a b:Ni d)(k:d->Ni e):mB (if c then a else b) k=if c then mB a k else mB b k:=by split<;>rfl
section
variable{l:LI}{h:HI}{f g fa fb m:RE}
@[simp] theorem sA(d:Dt):eC d l h=ε (d,h):=by rfl
noncomputable def VH(h:HI):Ni (Ni Dt)->Ni (Dt×HI)
 | some (some d)=>ε (d,h)
 | _=>none
@[simp] theorem nA(d:Dt):VH h (ε (ε d))=ε (d,h):=by rfl
@[simp] theorem kA(i:Nat):eV i l h=VH h l[i]?:=by unfold eV VH;rfl
@[simp] theorem wA(op:qD):e2 op fa fb l h=mB (fa l h) fun r=>mB (fb l r.2) fun q=>op r.1 q.1 q.2:=by rfl
@[simp] theorem BA:fA l h=ε ([],h):=by rfl
@[simp] theorem DA(r:RA):bA f r l h=mB (f l h) fun a=>mB (r l a.2) fun q=>ε (a.1::q.1,q.2):=by rfl
noncomputable def tbK:Dt×HI->Ni (Bool×HI)
 | (.bl b,h)=>ε (b,h)
 | _=>none
@[simp] theorem OA(b:Bool):tbK (.bl b,h)=ε (b,h):=by rfl
@[simp] theorem JA:tf f l h=mB (f l h) tbK:=by
 unfold mB;unfold tf
 congr 1
 funext r
 obtain⟨d,h⟩:=r;cases d<;>rfl
@[simp] theorem QG(t u:RT):zF t u l h=mB (t l h) fun r=>if r.1=true then u l r.2 else ε (false,r.2):=by rfl
@[simp] theorem UE(t u:RT):HC t u l h=mB (t l h) fun r=>if r.1=true then ε (true,r.2)else u l r.2:=by rfl
@[simp] theorem uE(t:RT):aD t l h=mB (t l h) fun r=>ε (!r.1,r.2):=by rfl
noncomputable def T3(u:RE)(l:LI):Dt×HI->Ni (Dt×HI)
 | (.bl true,h)=>u l h
 | (.bl false,h)=>ε (.bl false,h)
 | _=>none
@[simp] theorem WL(u:RE)(b:Bool):T3 u l (.bl b,h)=if b=true then u l h else ε (.bl false,h):=by cases b<;>rfl
@[simp] theorem vM(u:RE):BG f u l h=mB (f l h) (T3 u l):=by
 unfold mB;unfold BG
 congr 1
 funext r
 obtain⟨d,h⟩:=r;cases d<;>(try rfl);rename_i b;cases b<;>rfl
noncomputable def V3:Dt×HI->Ni (Dt×HI)
 | (.bl b,h)=>ε (.bl (!b),h)
 | _=>none
@[simp] theorem rd(b:Bool):V3 (.bl b,h)=ε (.bl (!b),h):=by rfl
@[simp] theorem re:qN f l h=mB (f l h) V3:=by
 unfold mB;unfold qN
 congr 1
 funext r
 obtain⟨d,h⟩:=r;cases d<;>rfl
@[simp] theorem oU(t:RT):IU t f g l h=mB (t l h) fun r=>if r.1=true then f l r.2 else g l r.2:=by rfl
noncomputable def chK(a:qD)(m:RE)(l:LI)(q:Dt):Dt×HI->Ni (Dt×HI)
 | (.bl true,h)=>(m l h).bind fun r=>a q r.1 r.2
 | (.bl false,h)=>ε (.bl false,h)
 | _=>none
@[simp] theorem NT(a:qD)(q:Dt)(b:Bool):chK a m l q (.bl b,h)=if b=true then mB (m l h) fun r=>a q r.1 r.2 else ε (.bl false,h):=by cases b<;>rfl
@[simp] theorem pT(o a:qD):EH o a fa fb m l h=mB (fa l h) fun r=>mB (fb l r.2) fun q=>mB (o r.1 q.1 q.2) (chK a m l q.1):=by
 unfold mB;unfold EH
 congr 1
 funext r
 congr 1
 funext q
 congr 1
 funext z
 obtain⟨d,h⟩:=z;cases d<;>(try rfl);rename_i b;cases b<;>rfl
@[simp] theorem xD(r:RA):aB r l h=mB (r l h) fun r=>if r.1.length<=sizeLine then ε (.tup r.1,r.2)else none:=by rfl
@[simp] theorem AH(r:RA):dG r l h=mB (r l h) fun r=>if r.1.length<=sizeLine then ε (.lst r.1,r.2)else none:=by rfl
@[simp] theorem OG(r:RA):DE r l h=mB (r l h) fun r=>if r.1.length<=sizeLine then ε (.ref r.2.length,r.2++[.lst r.1])else none:=by rfl
noncomputable def WU:Dt×HI->Ni (Dt×HI)
 | (.int b,h)=>ε (.int (-b),h)
 | _=>none
@[simp] theorem QL(b:Int):WU (.int b,h)=ε (.int (-b),h):=by rfl
@[simp] theorem JM:JC f l h=mB (f l h) WU:=by
 unfold mB;unfold JC
 congr 1
 funext r
 obtain⟨d,h⟩:=r;cases d<;>rfl
@[simp] theorem yC(i j:Int):iB (.int i) (.int j) h=ε (.int (i+j),h):=by rfl
@[simp] theorem SD(i j:Int):GC (.int i) (.int j) h=ε (.int (i-j),h):=by rfl
@[simp] theorem ME(i j:Int):xE (.int i) (.int j) h=ε (.int (Builtin.bitAnd i j),h):=by rfl
@[simp] theorem hU(i j:Int):WH (.int i) (.int j) h=ε (.int (Builtin.bitOr i j),h):=by rfl
@[simp] theorem jJ(i j:Int):YH (.int i) (.int j) h=ε (.bl (decide (i<j)),h):=by rfl
@[simp] theorem iJ(i j:Int):NK (.int i) (.int j) h=ε (.bl (decide (i<=j)),h):=by rfl
@[simp] theorem ZH(i j:Int):PM (.int i) (.int j) h=ε (.bl (decide (j<i)),h):=by rfl
@[simp] theorem TQ(i j:Int):GU (.int i) (.int j) h=ε (.bl (decide (j<=i)),h):=by rfl
theorem UC{i j:Int}(c:cb i j):ZA (.int i) (.int j) h=ε (.int (i*j),h):=by simp![ZA,oI,eG c]
theorem SE{i j:Int}(c:zK i j):cD (.int i) (.int j) h=ε (.int (i/j),h):=by simp![cD,oI,eG c]
theorem LD{i j:Int}(c:0<j):cC (.int i) (.int j) h=ε (.int (i%j),h):=by simp![cC,oI,eG c]
theorem NI{i j:Int}(c:YI i j):UF (.int i) (.int j) h=ε (.int (i*2^j.toNat),h):=by simp![UF,oI,eG c]
theorem JH{i j:Int}(c:0<=j):gG (.int i) (.int j) h=ε (.int (i/2^j.toNat),h):=by simp![gG,oI,eG c]
@[simp] theorem LC(i j:Int):FB (.int i) (.int j) h=ε (.bl (decide (i=j)),h):=by show ε (Dt.bl (decide (V.int i=V.int j)),h)=_;simp
@[simp] theorem aE(i j:Int):ED (.int i) (.int j) h=ε (.bl (!decide (i=j)),h):=by show ε (Dt.bl (!decide (V.int i=V.int j)),h)=_;simp
@[simp] theorem RD(i j:Str):FB (.str i) (.str j) h=ε (.bl (decide (i=j)),h):=by show ε (Dt.bl (decide (V.str i=V.str j)),h)=_;simp
@[simp] theorem oQ(i j:Str):ED (.str i) (.str j) h=ε (.bl (!decide (i=j)),h):=by show ε (Dt.bl (!decide (V.str i=V.str j)),h)=_;simp
@[simp] theorem FM(d:Dt):qF d .non h=ε (.bl (yF d),h):=by rfl
@[simp] theorem YC{a:Type}(xs:Ms a)(k:Nat):atI xs (k:Int)=xs[k]?:=by
 unfold atI VI;rw[eG nofun];by_cases b:k<xs.length
 . rw[eG nofun];simp
 . rw[eH nofun];simp;omega
@[simp] theorem oC{a:Type}(xs:Ms a):atI xs 0=xs[0]?:=YC xs 0
@[simp] theorem kF{a:Type}(xs:Ms a):atI xs 1=xs[1]?:=YC xs 1
@[simp] theorem yM{a:Type}(xs:Ms a):atI xs 2=xs[2]?:=YC xs 2
@[simp] theorem LB(xs:Ms Dt)(i:Int):pA (.tup xs) (.int i) h=(atI xs i).map fun d=>(d,h):=by rfl
@[simp] theorem nQ(xs:Ms Dt)(i:Int):pA (.lst xs) (.int i) h=(atI xs i).map fun d=>(d,h):=by rfl
theorem mF{n:Nat}{xs:Ms Dt}(e:h[n]?=ε (.lst xs))(i:Int):pA (.ref n) (.int i) h=(atI xs i).map fun d=>(d,h):=by simp![pA,FD,KA,e,Wa]
noncomputable def j7(g:RS):Rs->Ni Rs
 | .nx l h=>g l h
 | r=>ε r
@[simp] theorem NA(g:RS):j7 g (.nx l h)=g l h:=by rfl
@[simp] theorem wF(g:RS)(d:Dt):j7 g (.rt d h)=ε (.rt d h):=by rfl
@[simp] theorem EA(f g:RS):gA f g l h=mB (f l h) (j7 g):=by
 unfold mB;unfold gA
 congr 1
@[simp] theorem BB:MA l h=ε (.nx l h):=by rfl
@[simp] theorem bB(i:Nat):zA i f l h=mB (f l h) fun r=>ε (.nx (l.set i (ε r.1)) r.2):=by rfl
@[simp] theorem cE:VC f l h=mB (f l h) fun r=>ε (.nx l r.2):=by rfl
@[simp] theorem jB:uA f l h=mB (f l h) fun r=>ε (.rt r.1 r.2):=by rfl
@[simp] theorem XA(t:RT)(f g:RS):VB t f g l h=mB (t l h) fun r=>if r.1=true then f l r.2 else g l r.2:=by rfl
noncomputable def TD:Ni Rs->Ni (Dt×HI)
 | some (.rt d h')=>ε (d,h')
 | some (.nx _ h')=>ε (.non,h')
 | _=>none
@[simp] theorem uB(d:Dt):TD (ε (.rt d h))=ε (d,h):=by rfl
@[simp] theorem l8:TD (ε (.nx l h))=ε (.non,h):=by rfl
@[simp] theorem rg{c:Prop}[Decidable c](a b:Ni Rs):TD (if c then a else b)=if c then TD a else TD b:=by split<;>rfl
@[simp] theorem eB(n N:Nat)(body:RS)(ds:Ms Dt):DB n N body ds h=if ds.length=n then TD (body (ds.map some++List.replicate (N-n) none) h)else none:=by unfold DB TD;rfl
@[simp] theorem QA(F:gB)(a:Ms Dt)(g:RA):xA F a g l h=mB (g l h) fun r=>F (r.1++a) r.2:=by rfl
@[simp] theorem tZ(F:gB)(a:Ms Dt):eK F a l h=F a h:=by rfl
noncomputable def HU(go:LI->HI->Ni Rs):Rs->Ni Rs
 | .nx l h=>go l h
 | .ct l h=>go l h
 | .bk l h=>ε (.nx l h)
 | .rt d h=>ε (.rt d h)
@[simp] theorem mK(go:LI->HI->Ni Rs):HU go (.nx l h)=go l h:=by rfl
@[simp] theorem rh(go:LI->HI->Ni Rs):HU go (.ct l h)=go l h:=by rfl
@[simp] theorem aQ(go:LI->HI->Ni Rs)(d:Dt):HU go (.rt d h)=ε (.rt d h):=by rfl
def zB(bd:RG)(body:RS):Ms Dt->LI->HI->Ni Rs
 | [],l,h=>ε (.nx l h)
 | x::xs,l,h=>(bd x l).bind fun a=>(body a h).bind (HU (zB bd body xs))
theorem yd(bd:RG)(body:RS)(xs:Ms Dt):∀(n k:Nat)(l:LI)(h:HI),n=(xs.length-k)+1->k<=xs.length->iC bd body (.vals xs) n k l h=zB bd body (xs.drop k) l h:=by
 intro n
 induction n with
 | zero=>intro k l h e;omega
 | succ n ih=>
  intro k l h e j;unfold iC;simp![th.at];by_cases i:k<xs.length
  . rw[jj i,Aa i];simp![zB]
    congr 1
    funext l1
    congr 1
    funext r
    cases r with
    | nx b a=>exact ih (k+1) b a nofun nofun
    | ct b a=>exact ih (k+1) b a nofun nofun
    | bk b a=>rfl
    | rt d a=>rfl
  . rw[ju nofun,Mi nofun];rfl
@[simp] theorem VD(i:Nat)(d:Dt):rA i d l=ε (l.set i (ε d)):=by rfl
def ND(bd:RG)(body:RS)(l:LI):th×HI->Ni Rs:=fun r=>iC bd body r.1 (r.1.fuel r.2) 0 l r.2
@[simp] theorem XB(g:RI)(bd:RG)(body:RS):AB g bd body l h=mB (g l h) (ND bd body l):=by rfl
@[simp] theorem PC(bd:RG)(body:RS)(xs:Ms Dt):ND bd body l (.vals xs,h)=zB bd body xs l h:=by unfold ND;simp![th.fuel];exact yd bd body xs _ 0 _ _ nofun nofun
noncomputable def yQ:Dt×HI->Ni (th×HI)
 | (.int j,h)=>if -(2^62)<=j/\j<2^62 then ε (.vals ((List.range j.toNat).map fun(k:Nat)=>Dt.int (k:Int)),h)else none
 | _=>none
@[simp] theorem YD:kE f l h=mB (f l h) yQ:=by
 unfold mB;unfold kE
 congr 1
 funext r
 obtain⟨d,h⟩:=r;cases d<;>rfl
theorem oE{j:Int}(a:-(2^62)<=j)(b:j<2^62):yQ (.int j,h)=ε (.vals ((List.range j.toNat).map fun(k:Nat)=>Dt.int (k:Int)),h):=eG ⟨a,b⟩
noncomputable def Z6:Dt->Dt×HI->Ni (th×HI)
 | .int i,(.int j,h)=>if -(2^62)<=i/\i<2^62/\-(2^62)<=j/\j<2^62 then ε (.vals ((List.range (j-i).toNat).map fun(k:Nat)=>Dt.int (i+(k:Int))),h)else none
 | _,_=>none
@[simp] theorem nU:FU f g l h=mB (f l h) fun r=>mB (g l r.2) (Z6 r.1):=by
 unfold mB;unfold FU
 congr 1
 funext r
 obtain⟨d,h⟩:=r
 congr 1
 funext q
 obtain⟨a,b⟩:=q;cases d<;>cases a<;>rfl
theorem vZ{i j:Int}(a:-(2^62)<=i)(e:i<2^62)(b:-(2^62)<=j)(d:j<2^62):Z6 (.int i) (.int j,h)=ε (.vals ((List.range (j-i).toNat).map fun(k:Nat)=>Dt.int (i+(k:Int))),h):=eG ⟨a,e,b,d⟩
def mJ:Dt×HI->Ni (th×HI)
 | (.lst xs,h)=>ε (.vals xs,h)
 | (.ref n,h)=>if 0<th.fuel (.rf n) h then ε (.rf n,h)else none
 | _=>none
@[simp] theorem WF(xs:Ms Dt):mJ (.lst xs,h)=ε (.vals xs,h):=by rfl
@[simp] theorem rC:JB f l h=mB (f l h) mJ:=by
 unfold mB;unfold JB QU;cases f l h with
 | none=>rfl
 | some r=>obtain⟨d,h⟩:=r;cases d<;>first | rfl | (simp[mJ,th.fuel];done)
noncomputable def mV:Dt×HI->Ni (th×HI)
 | (.tup xs,h)=>ε (.vals xs,h)
 | _=>none
@[simp] theorem Nm(xs:Ms Dt):mV (.tup xs,h)=ε (.vals xs,h):=by rfl
@[simp] theorem J8:mQ f l h=mB (f l h) mV:=by
 unfold mB;unfold mQ
 congr 1
 funext r
 obtain⟨d,h⟩:=r;cases d<;>rfl
noncomputable def XD(bd:RG)(tc:RT)(te:RE):Ms Dt->LI->HI->Ni (Ms Dt×HI)
 | [],_,h=>ε ([],h)
 | x::xs,l,h=>(bd x l).bind fun a=>(tc a h).bind fun b=>if b.1=true then(te a b.2).bind fun r=>(XD bd tc te xs a r.2).bind fun q=>ε (r.1::q.1,q.2)
  else XD bd tc te xs a b.2
theorem Kg(bd:RG)(tc:RT)(te:RE)(xs:Ms Dt)(o:xs.length<sizeLine):∀(n k:Nat)(l:LI)(h:HI)(ys:Ms Dt),n=(xs.length-k)+1->k<=xs.length->ys.length<=k->
 WD bd tc te (.vals xs) n k l h ys=(XD bd tc te (xs.drop k) l h).bind fun q=>ε (ys++q.1,q.2):=by
 intro n
 induction n with
 | zero=>intro k l h ys e;omega
 | succ n ih=>
  intro k l h ys e p j;unfold WD;simp![th.at];by_cases d:k<xs.length
  . rw[jj d,Aa d];simp![XD];cases bd xs[k] l with
    | none=>rfl
    | some a=>
     simp![Wa];cases tc a h with
     | none=>rfl
     | some b=>
      simp![Wa];by_cases i:b.1=true
      . simp![eG i];cases te a b.2 with
        | none=>rfl
        | some r=>
         simp![Wa];rw[eG nofun,ih (k+1) a r.2 _ nofun nofun (by simp;omega)];cases XD bd tc te (xs.drop (k+1)) a r.2 with
         | none=>rfl
         | some q=>simp
      . simp![eH i];exact ih (k+1) a b.2 ys nofun nofun nofun
  . rw[ju nofun,Mi nofun];simp[XD]
def OE(bd:RG)(tc:RT)(te:RE)(l:LI):th×HI->Ni (Ms Dt×HI):=fun r=>WD bd tc te r.1 (r.1.fuel r.2) 0 l r.2 []
theorem UD(bd:RG)(tc:RT)(te:RE){xs:Ms Dt}(a:xs.length<sizeLine):OE bd tc te l (.vals xs,h)=XD bd tc te xs l h:=by unfold OE;simp![th.fuel];rw[Kg bd tc te xs a _ 0 _ _ _ nofun nofun ⋯];rw[drop_zero];cases XD bd tc te xs l h<;>simp
@[simp] theorem nE(g:RI)(bd:RG)(tc:RT)(te:RE)(a:Ms (Ni Nat)):xC g bd tc te a l h=mB (mB (g l h) (OE bd tc te (oF l a))) fun q=>ε (.lst q.1,q.2):=by unfold mB;unfold xC OE;rw[Option.bind_assoc]
@[simp] theorem mI(g:RI)(bd:RG)(tc:RT)(te:RE)(a:Ms (Ni Nat)):rE g bd tc te a l h=mB (mB (g l h) (OE bd tc te (oF l a))) fun q=>ε (.ref q.2.length,q.2++[.lst q.1]):=by unfold mB;unfold rE OE;rw[Option.bind_assoc]
@[simp] theorem vP:nB l h=ε (true,h):=by rfl
@[simp] theorem eD:oF l []=[]:=by rfl
@[simp] theorem fD(cap:Ms (Ni Nat)):oF l (none::cap)=none::oF l cap:=by rfl
@[simp] theorem FG(j:Nat)(cap:Ms (Ni Nat)):oF l (ε j::cap)=(l[j]?).join::oF l cap:=by rfl
theorem ZL{a:Type}{te:RE}{i:Nat}{tc:RT}(D:a->Dt)(p:a->Bool)(F:a->Dt)(h:HI):∀(xs:Ms a)(l:LI),(∀x∈xs,tc (l.set i (ε (D x))) h=ε (p x,h)/\(p x=true->te (l.set i (ε (D x))) h=ε (F x,h)))->
 XD (rA i) tc te (xs.map D) l h=ε ((xs.filter p).map F,h)
 | [],_,_=>rfl
 | x::xs,l,H=>by
  have b:=H x ⋯;have ih:=ZL D p F h xs (l.set i (ε (D x))) (te:=te) (tc:=tc) (i:=i) (fun y d=>by
   rw[set_set];exact H y (by simp[d]))
  simp![Ss,XD,VD,Wa,b.1];by_cases hp:p x=true
  . simp![hp,eN,b.2 hp,Wa,ih];simp[hp]
  . simp![hp];rw[eH ⋯,ih];simp[hp]
theorem XF{a:Type}{te:RE}{i:Nat}{tc:RT}(D:a->Dt)(F:a->Dt)(h:HI)(xs:Ms a)(l:LI)(H:∀x∈xs,tc (l.set i (ε (D x))) h=ε (true,h)/\te (l.set i (ε (D x))) h=ε (F x,h)) :
 XD (rA i) tc te (xs.map D) l h=ε (xs.map F,h):=by
 rw[ZL D (fun q=>true) F h xs l fun x b=>⟨(H x b).1,fun q=>(H x b).2⟩,filter_eq_self.mpr ⋯]
@[simp] theorem fC(F:Dt->HI->Ni (Dt×HI)):QB F f l h=mB (f l h) fun r=>F r.1 r.2:=by rfl
@[simp] theorem OP(xs:Ms Dt):qB (.lst xs) h=ε (.int xs.length,h):=by rfl
@[simp] theorem jK(xs:Ms Dt):qB (.tup xs) h=ε (.int xs.length,h):=by rfl
theorem HH{n:Nat}{xs:Ms Dt}(e:h[n]?=ε (.lst xs)):qB (.ref n) h=ε (.int xs.length,h):=by simp![qB,FD,KA,e,Vi]
@[simp] theorem oM(b:Bool):fG (.bl b) h=ε (.int (if b=true then 1 else 0),h):=by rfl
@[simp] theorem Ep(ns:Ms Int):BC (ns.map Dt.int)=ε ns:=by
 induction ns with
 | nil=>rfl
 | cons n ns ih=>simp[BC,ih]
theorem Dq(ns:Ms Int):dN (.lst (ns.map Dt.int)) h=ε (.int ns.sum,h):=by simp[dN,KA]
theorem Cq{ns:Ms Int}(c:ns ≠ []):EK (.lst (ns.map Dt.int)) h=ε (.int (uC ns),h):=by simp[EK,KA,c]
theorem D4{ns:Ms Int}(c:ns ≠ []):fJ (.lst (ns.map Dt.int)) h=ε (.int (TB ns),h):=by simp[fJ,KA,c]
@[simp] theorem MH(T:String):pF T f l h=mB (f l h) fun r=>(SF r.2 r.1).map fun t=>(.bl (UI t T),r.2):=by rfl
@[simp] theorem ri (b:Int):SF h (.int b)=ε "int" :=by rfl
@[simp] theorem Z2 (b:Ms Dt):SF h (.tup b)=ε "tuple" :=by rfl
theorem YT {n:Nat} {xs:Ms Dt} (e:h[n]?=ε (.lst xs)):SF h (.ref n)=ε "list" :=by simp![SF,e]
@[simp] theorem rj:UI "int" "int" =true:=by decide +kernel
@[simp] theorem rn:UI "int" "bool" =false:=by decide +kernel
@[simp] theorem ro:UI "list" "list" =true:=by decide +kernel
@[simp] theorem vq:jN l h=ε (none,h):=by rfl
noncomputable def atK:Dt×HI->Ni (Ni Int×HI)
 | (.int i,h)=>ε (ε i,h)
 | _=>none
@[simp] theorem ma(i:Int):atK (.int i,h)=ε (ε i,h):=by rfl
@[simp] theorem jq:vG f l h=mB (f l h) atK:=by
 unfold mB;unfold vG
 congr 1
 funext r
 obtain⟨d,h⟩:=r;cases d<;>rfl
@[simp] theorem T4(lo a:RO):KM f lo a l h=mB (f l h) fun r=>mB (lo l r.2) fun o=>mB (a l o.2) fun u=>(KA u.2 r.1).map fun b=>(.lst (CF b o.1 u.1),u.2):=by rfl
@[simp] theorem SS(xs:Ms Dt):KA h (.lst xs)=ε xs:=by rfl
theorem GG{n:Nat}{xs:Ms Dt}(e:h[n]?=ε (.lst xs)):KA h (.ref n)=ε xs:=by simp![KA,e]
theorem DS(xs:Ms Dt)(k:Nat):CF xs (ε (k:Int)) none=xs.drop k:=by
 unfold CF HT.sIx;have e:(if(k:Int)<0 then((k:Int)+(xs.length:Int)).toNat else min (k:Int).toNat xs.length)=min k xs.length:=by rw[eH nofun,n7]
 simp![e];rw[take_of_length_le (by rw[length_drop];omega)];by_cases a:k<=xs.length
 . rw[Nat.min_eq_left a]
 . rw[Nat.min_eq_right nofun,Mi (Uo _),Mi nofun]
theorem Oq{xs ys:Ms Dt}(c:xs.length+ys.length<=sizeLine):XH (.lst xs) (.lst ys) h=ε (.lst (xs++ys),h):=by simp![XH,KA,Wa,eG c]
def RU(q:Dt×HI):Dt->Ni (Dt×HI)
 | .lst a=>if II a q.1=true then(EF a q.1).map fun j=>(.int (j:Nat),q.2)else none
 | _=>none
@[simp] theorem rq(q:Dt×HI)(xs:Ms Dt):RU q (.lst xs)=if II xs q.1=true then(EF xs q.1).map fun j=>(.int (j:Nat),q.2)else none:=by rfl
@[simp] theorem rr:eQ f g l h=mB (f l h) fun r=>mB (g l r.2) fun q=>RU q r.1:=by
 unfold mB;unfold eQ
 congr 1
@[simp] theorem pP:sizeLine=16777216:=by rfl
noncomputable def AK(g:RE)(l:LI):Dt×HI->Ni (Dt×HI)
 | (.ref n,h)=>(match h[n]? with
  | some (.lst _)=>(g l h).bind fun q=>match q.2[n]? with
   | some (.lst xs)=>if xs.length<sizeLine then ε (.non,q.2.set n (.lst (xs++[q.1])))else none
   | _=>none
  | _=>none)
 | _=>none
@[simp] theorem eF:sD f g l h=mB (f l h) (AK g l):=by
 unfold mB;unfold sD
 congr 1
 funext r
 obtain⟨d,h⟩:=r;cases d<;>(try rfl)
theorem tF{n:Nat}{xs ys:Ms Dt}{d:Dt}{h':HI}(e:h[n]?=ε (.lst ys))(a:g l h=ε (d,h'))(b:h'[n]?=ε (.lst xs))(c:xs.length<sizeLine):AK g l (.ref n,h)=ε (.non,h'.set n (.lst (xs++[d]))):=by simp![AK,e,a,Wa,b,eG c]
end
noncomputable def Pass(I:LI->HI->Prop):Rs->Prop
 | .nx l h=>I l h
 | .ct l h=>I l h
 | _=>False
theorem md{n:Type}{i:Nat}{body:RS}(D:n->Dt)(I:LI->HI->Prop)(xs:Ms n)(H:∀x∈xs,∀l h,I l h->∃r,body (l.set i (ε (D x))) h=ε r/\Pass I r) :
 ∀l h,I l h->∃a h',zB (rA i) body (xs.map D) l h=ε (.nx a h')/\I a h':=by
 induction xs with
 | nil=>intro l h i;exact⟨l,h,rfl,i⟩
 | cons x xs ih=>
  intro l h i;obtain⟨r,e,p⟩:=H x ⋯ l h i;cases r with
  | nx g b=>obtain⟨a,h',m,j⟩:=ih (fun y k=>H y (by simp[k])) g b p;exact⟨a,h',by simp[zB,e,m],j⟩
  | ct g b=>obtain⟨a,h',m,j⟩:=ih (fun y k=>H y (by simp[k])) g b p;exact⟨a,h',by simp[zB,e,m],j⟩
  | bk g b=>exact p.elim
  | rt d b=>exact p.elim
theorem MJ{m k:Type}{i:Nat}{body:RS}(D:m->Dt)(S:k->LI->HI->Prop)(f:k->m->k)(xs:Ms m)(H:∀x∈xs,∀b l h,S b l h->∃r,body (l.set i (ε (D x))) h=ε r/\Pass (S (f b x)) r) :
 ∀b l h,S b l h->∃a h',zB (rA i) body (xs.map D) l h=ε (.nx a h')/\S (xs.foldl f b) a h':=by
 induction xs with
 | nil=>intro b l h i;exact⟨l,h,rfl,i⟩
 | cons x xs ih=>
  intro b l h i;obtain⟨r,e,p⟩:=H x ⋯ b l h i;cases r with
  | nx j g=>obtain⟨a,h',q,n⟩:=ih (fun y o=>H y (by simp[o])) _ j g p;exact⟨a,h',by simp[zB,e,q],n⟩
  | ct j g=>obtain⟨a,h',q,n⟩:=ih (fun y o=>H y (by simp[o])) _ j g p;exact⟨a,h',by simp[zB,e,q],n⟩
  | bk j g=>exact p.elim
  | rt d g=>exact p.elim
section
variable{l:LI}{h:HI}{f g:RE}
@[simp] theorem rx(bs:Ms Bool):lF (bs.map Dt.bl)=ε bs:=by
 induction bs with
 | nil=>rfl
 | cons n ns ih=>simp[lF,ih]
@[simp] theorem qT(i j:Nat)(a b:Dt):JD i j (.tup [a,b]) l=ε ((l.set i (ε a)).set j (ε b)):=by rfl
end
theorem PD{h:HI}{n:Nat}{xs:Ms Dt}(e:h[n]?=ε (.lst xs)):mJ (.ref n,h)=ε (.rf n,h):=by
 have:0<th.fuel (.rf n) h:=by simp![th.fuel,e];omega
 simp![mJ,eG this]
section
variable{l:LI}{h:HI}{f g fe fo b fa fb:RE}
def XQ(l:LI)(v o:Dt):Dt×HI->Ni Rs
 | (.int k,h)=>(match o with
  | .ref n=>(match h[n]? with
   | some (.lst xs)=>(VI xs.length k).bind fun j=>ε (.nx l (h.set n (.lst (xs.set j v))))
   | _=>none)
  | _=>none)
 | _=>none
@[simp] theorem rT:SG fe fo b l h=mB (fe l h) fun v=>mB (fo l v.2) fun o=>mB (b l o.2) (XQ l v.1 o.1):=by
 unfold mB SG
 congr 1
 funext v
 congr 1
 funext o
 congr 1
 funext i
 obtain⟨d,h⟩:=o;obtain⟨k,h⟩:=i;cases k<;>cases d<;>rfl
theorem me{n k:Nat}(a:k<n):VI n (k:Int)=ε k:=by unfold VI;rw[eG nofun,eG nofun];simp
theorem QJ{n k:Nat}{xs:Ms Dt}{v:Dt}(e:h[n]?=ε (.lst xs))(a:k<xs.length):XQ l v (.ref n) (.int (k:Int),h)=ε (.nx l (h.set n (.lst (xs.set k v)))):=by simp![XQ,e,me a,Wa]
@[simp] theorem Yj(t:RG):WQ t fe l h=mB (fe l h) fun v=>mB (t v.1 l) fun a=>ε (.nx a v.2):=by rfl
def VQ(a:Dt):Dt×HI->Ni (Dt×HI)
 | (.int i,h)=>if -(2^62)<=i/\i<=1000000 then ε (.lst (AG a i),h)else none
 | _=>none
def pU(a:Dt):Dt×HI->Ni (Dt×HI)
 | (.int i,h)=>if -(2^62)<=i/\i<=1000000 then ε (.ref h.length,h++[.lst (AG a i)])else none
 | _=>none
@[simp] theorem sd:eJ fa fb l h=mB (fa l h) fun a=>mB (fb l a.2) (VQ a.1):=by
 unfold mB eJ
 congr 1
 funext v
 congr 1
 funext o
 obtain⟨d,h⟩:=o;cases d<;>rfl
@[simp] theorem sh:vK fa fb l h=mB (fa l h) fun a=>mB (fb l a.2) (pU a.1):=by
 unfold mB vK
 congr 1
 funext v
 congr 1
 funext o
 obtain⟨d,h⟩:=o;cases d<;>rfl
theorem xY(a:Dt){k:Nat}(d:k<=1000000):VQ a (.int (k:Int),h)=ε (.lst (List.replicate k a),h):=by unfold VQ;simp only;rw[eG ⟨by omega,by omega⟩];simp[AG]
theorem iX(a:Dt){k:Nat}(d:k<=1000000):pU a (.int (k:Int),h)=ε (.ref h.length,h++[.lst (List.replicate k a)]):=by unfold pU;simp only;rw[eG ⟨by omega,by omega⟩];simp[AG]
theorem Aq(bs:Ms Bool):cN (.lst (bs.map Dt.bl)) h=ε (.bl (bs.any id),h):=by simp[cN,KA]
def AU(r:Dt):Dt×HI->Ni (th×HI):=fun q=>match KA q.2 r,KA q.2 q.1 with
 | some _,some _=>ε (.zp r q.1,q.2)
 | _,_=>none
@[simp] theorem A9:PQ fa fb l h=mB (fa l h) fun r=>mB (fb l r.2) (AU r.1):=by rfl
theorem Am{r q:Dt}{xs ys:Ms Dt}(a:KA h r=ε xs)(e2:KA h q=ε ys):AU r (q,h)=ε (.zp r q,h):=by simp![AU,a,e2]
@[simp] theorem rN(i j:Int):aF (.int i) (.int j) h=ε (.bl (decide (i=j)),h):=LC i j
@[simp] theorem J7(i j:Int):rF (.int i) (.int j) h=ε (.bl (!decide (i=j)),h):=aE i j
theorem Jz(i j:Str):aF (.str i) (.str j) h=ε (.bl (decide (i=j)),h):=RD i j
theorem W3{a:Dt}{xs:Ms Dt}(e:KA h a=ε xs):rF a (.lst []) h=ε (.bl (!xs.isEmpty),h):=by
 cases a with
 | lst d=>cases e;rfl
 | ref n=>show(KA h (.ref n)).bind _=_;rw[e];rfl
 | _=>exact nomatch (show none=ε xs from e)
def whK(go:RS)(body:RS)(l:LI):Bool×HI->Ni Rs:=fun c=>if c.1=true then(body l c.2).bind (HU go)else ε (.nx l c.2)
theorem Yy(t:RT)(body:RS)(n:Nat):OF t body (n+1) l h=mB (t l h) (whK (OF t body n) body l):=by
 unfold mB;rw[OF]
 congr 1
noncomputable def DK(fa:RE)(l:LI):Dt×HI->Ni (Dt×HI)
 | (.ref n,h)=>(match h[n]? with
  | some (.lst _)=>(fa l h).bind fun q=>match q.1 with
   | .ref m=>(match q.2[n]?,q.2[m]? with
    | some (.lst xs),some (.lst ys)=>if xs.length+ys.length<=sizeLine then ε (.non,q.2.set n (.lst (xs++ys)))else none
    | _,_=>none)
   | _=>none
  | _=>none)
 | _=>none
@[simp] theorem OS:tI fo fa l h=mB (fo l h) (DK fa l):=by
 unfold mB tI
 congr 1
 funext r
 obtain⟨d,h⟩:=r;cases d<;>(try rfl)
theorem PY{n m:Nat}{xs ys zs:Ms Dt}{h':HI}(e:h[n]?=ε (.lst zs))(a:fa l h=ε (.ref m,h'))(d:h'[n]?=ε (.lst xs))(e2:h'[m]?=ε (.lst ys))(c:xs.length+ys.length<=sizeLine):DK fa l (.ref n,h)=ε (.non,h'.set n (.lst (xs++ys))):=by simp![DK,e,a,Wa,d,e2,eG c]
@[simp] theorem ZU(F:Dt->Dt->Ni Dt):EU F fa fb l h=mB (fa l h) fun r=>mB (fb l r.2) fun q=>(F r.1 q.1).map fun d=>(d,q.2):=by rfl
@[simp] theorem R7(i j:Int):iQ (.int i) (.int j)=ε (.int (max i j)):=by
 unfold iQ;simp only
 congr 2
 split<;>omega
@[simp] theorem si(i j:Int):BM (.int i) (.int j)=ε (.int (min i j)):=by
 unfold BM;simp only
 congr 2
 split<;>omega
end
theorem Eb{bd:RG}{tc:RT}{te:RE}{n:Nat}{xs:Ms Dt}(o:∀l h b a,tc l h=ε (b,a)->h[n]?=ε (.lst xs)->a[n]?=ε (.lst xs))(j:∀l h b a,te l h=ε (b,a)->h[n]?=ε (.lst xs)->a[n]?=ε (.lst xs)) :
 ∀(m k:Nat)(l:LI)(h:HI)(ys:Ms Dt),h[n]?=ε (.lst xs)->WD bd tc te (.rf n) m k l h ys=WD bd tc te (.vals xs) m k l h ys:=by
 intro m
 induction m with
 | zero=>intros;rfl
 | succ m ih=>
  intro k l h ys e;unfold WD;simp![th.at,e];cases xs[k]? with
  | none=>rfl
  | some d=>
   simp only;cases bd d l with
   | none=>rfl
   | some g=>
    simp![Wa];cases q:tc g h with
    | none=>rfl
    | some b=>
     obtain⟨b,p⟩:=b;have i:=o _ _ _ _ q e;simp![Wa];split
     . cases q2:te g p with
       | none=>rfl
       | some r=>
        obtain⟨r,s⟩:=r;have e2:=j _ _ _ _ q2 i;simp![Wa];split
        . exact ih _ _ _ _ e2
        . rfl
     . exact ih _ _ _ _ i
theorem CS{bd:RG}{tc:RT}{te:RE}{n:Nat}{xs:Ms Dt}{l:LI}{h:HI}(e:h[n]?=ε (.lst xs))(i:xs.length<sizeLine)(g:∀l h b a,tc l h=ε (b,a)->h[n]?=ε (.lst xs)->a[n]?=ε (.lst xs))(d:∀l h b a,te l h=ε (b,a)->h[n]?=ε (.lst xs)->a[n]?=ε (.lst xs)) :
 OE bd tc te l (.rf n,h)=XD bd tc te xs l h:=by
 rw[<- UD bd tc te i];unfold OE;have j:th.fuel (.rf n) h=xs.length+1:=by simp![th.fuel,e]
 have e2:th.fuel (.vals xs) h=xs.length+1:=by simp![th.fuel]
 simp![j,e2];exact Eb g d _ _ _ _ _ e
theorem LO{b:Type}{te:RE}{i:Nat}(D:b->Dt)(O:b->Ob)(a:HI):∀(xs:Ms b)(l:LI)(e:HI),(∀x∈xs,∀e,te (l.set i (ε (D x))) (a++e)=ε (.ref (a++e).length,a++e++[O x]))->
 XD (rA i) nB te (xs.map D) l (a++e)=ε ((List.range xs.length).map (fun(k:Nat)=>Dt.ref ((a++e).length+k)),a++e++xs.map O)
 | [],_,e,_=>by simp[XD]
 | x::xs,l,e,H=>by
  have g:=H x ⋯ e;have ih:=LO D O a xs (l.set i (ε (D x))) (e++[O x]) (te:=te) (i:=i) (fun y d e=>by
   rw[set_set];exact H y (by simp[d]) e)
  simp![Ss,XD,VD,Wa,vP,g,eN];rw[<- su]at ih;rw[ih];simp![Wa,Ru,Jo,Ss,map_map,su,Wu,Vu]
  congr 2
  rw[Nat.add_zero]
  congr 1
  refine map_congr_left fun k q=>?_
  simp;omega
theorem yP{q:Type}{i:Nat}{body:RS}(D:q->Dt)(S:Nat->LI->HI->Prop):∀(xs:Ms q)(a:Nat)(_:∀(k:Nat) x,xs[k]?=ε x->∀l h,S (a+k) l h->∃r,body (l.set i (ε (D x))) h=ε r/\Pass (S (a+k+1)) r)(l:LI)(h:HI),S a l h->
 ∃b g,zB (rA i) body (xs.map D) l h=ε (.nx b g)/\S (a+xs.length) b g
 | [],a,_,l,h,s=>⟨l,h,rfl,s⟩
 | x::xs,a,H,l,h,s=>by
  obtain⟨r,e,p⟩:=H 0 x rfl l h s;have u:∀(k:Nat) y,xs[k]?=ε y->∀l h,S (a+1+k) l h->∃r,body (l.set i (ε (D y))) h=ε r/\Pass (S (a+1+k+1)) r:=by intro k y B l h s;have:=H (k+1) y (by simpa using B) l h (by rw[show a+(k+1)=a+1+k by omega];exact s);rw[show a+(k+1)+1=a+1+k+1 by omega]at this;exact this
  cases r with
  | nx m j=>obtain⟨b,g,o,n⟩:=yP D S xs (a+1) u m j p;exact⟨b,g,by simp[zB,e,o],by rw[Ru,show a+(xs.length+1)=a+1+xs.length by omega];exact n⟩
  | ct m j=>obtain⟨b,g,o,n⟩:=yP D S xs (a+1) u m j p;exact⟨b,g,by simp[zB,e,o],by rw[Ru,show a+(xs.length+1)=a+1+xs.length by omega];exact n⟩
  | bk m j=>exact p.elim
  | rt d j=>exact p.elim
theorem HE{i:Nat}{body:RS}(D:Nat->Dt)(S:Nat->LI->HI->Prop)(n:Nat)(H:∀k<n,∀l h,S k l h->∃r,body (l.set i (ε (D k))) h=ε r/\Pass (S (k+1)) r)(l:LI)(h:HI)(s:S 0 l h) :
 ∃a h',zB (rA i) body ((List.range n).map D) l h=ε (.nx a h')/\S n a h':=by
 obtain⟨a,h',e,g⟩:=yP (i:=i) (body:=body) D S (List.range n) 0 (fun k x j l h s=>by
  obtain⟨d,b⟩:=Wi j;simp at d b;subst b;rw[Ae]at s ⊢;exact H k d l h s) l h s
 exact⟨a,h',e,by simpa using g⟩
theorem rK{o:Type}{i n:Nat}{body:RS}(D:o->Dt)(S:Nat->LI->HI->Prop)(xs:Ms o)(q:∀k l h,S k l h->h[n]?=ε (.lst (xs.map D)))(H:∀(k:Nat) x,xs[k]?=ε x->∀l h,S k l h->∃r,body (l.set i (ε (D x))) h=ε r/\Pass (S (k+1)) r)
 (l:LI) (h:HI) (s:S 0 l h):∃a h',ND (rA i) body l (.rf n,h)=ε (.nx a h')/\S xs.length a h':=by
 have go:∀(f k:Nat)(l:LI)(h:HI),S k l h->f=xs.length-k+1->k<=xs.length->∃a h',iC (rA i) body (.rf n) f k l h=ε (.nx a h')/\S xs.length a h':=by
  intro f
  induction f with
  | zero=>intro k l h _ e;omega
  | succ f ih=>
   intro k l h m e B;unfold iC;simp![th.at,q k l h m,wu];by_cases p:k<xs.length
   . rw[jj p];obtain⟨r,y,g⟩:=H k xs[k] (jj p) l h m;simp![Vi,VD,Wa,y];cases r with
     | nx j b=>exact ih (k+1) j b g nofun nofun
     | ct j b=>exact ih (k+1) j b g nofun nofun
     | bk j b=>exact g.elim
     | rt d b=>exact g.elim
   . rw[ju nofun];have:k=xs.length:=by omega
     subst this;exact⟨l,h,rfl,m⟩
 have u:th.fuel (.rf n) h=xs.length-0+1:=by simp![th.fuel,q 0 l h s,ni];omega
 unfold ND;exact go _ 0 l h s u (nu _)
section
variable{l:LI}{h:HI}{fo fi fe f fa:RE}
noncomputable def UQ(fa:RE)(l:LI):Dt×HI->Ni (Dt×HI)
 | (.ref n,h)=>(match h[n]? with
  | some (.lst _)=>(fa l h).bind fun q=>match q.1 with
   | .int 0=>(match q.2[n]? with
    | some (.lst (x::xs))=>ε (x,q.2.set n (.lst xs))
    | _=>none)
   | _=>none
  | _=>none)
 | _=>none
@[simp] theorem K8:JP fo fa l h=mB (fo l h) (UQ fa l):=by
 unfold mB JP
 congr 1
 funext r
 obtain⟨d,h⟩:=r;cases d<;>(try rfl)
theorem Fl{n:Nat}{x:Dt}{xs:Ms Dt}(e:h[n]?=ε (.lst (x::xs)))(a:fa l h=ε (.int 0,h)):UQ fa l (.ref n,h)=ε (x,h.set n (.lst xs)):=by simp![UQ,e,a,Wa]
noncomputable def SU:Dt×HI->Ni (Dt×HI)
 | (.int b,h)=>ε (.int (Builtin.bitNot b),h)
 | _=>none
@[simp] theorem Fp(b:Int):SU (.int b,h)=ε (.int (Builtin.bitNot b),h):=by rfl
@[simp] theorem aq:pN f l h=mB (f l h) SU:=by
 unfold mB pN
 congr 1
 funext r
 obtain⟨d,h⟩:=r;cases d<;>rfl
@[simp] theorem L8(n:Nat)(t:RT)(body:RS):ZP n t body l h=OF t body n l h:=by rfl
end
noncomputable def JI(I:LI->HI->Prop)(E:Dt->HI->Prop):Rs->Prop
 | .nx l h=>I l h
 | .rt d h=>E d h
 | _=>False
theorem rY{t:RT}{body:RS}(I:Nat->LI->HI->Prop)(N:LI->HI->Prop)(E:Dt->HI->Prop)
 (H:∀m l h,I m l h->∃b j,t l h=ε (b,j)/\if b=true then ∃r,body l j=ε r/\JI (fun e a=>∃g,g<m/\I g e a) E r else N l j) :
 ∀(n m:Nat)(l:LI)(h:HI),I m l h->m<n->∃r,OF t body n l h=ε r/\JI N E r:=by
 intro n
 induction n with
 | zero=>intro m l h _ o;omega
 | succ n ih=>
  intro m l h i o;obtain⟨b,j,p,q⟩:=H m l h i;rw[Yy,p,dA];unfold whK;cases b with
  | false=>rw[eH Wk]at q ⊢;exact⟨_,rfl,q⟩
  | true=>
   rw[eG rfl]at q ⊢;obtain⟨r,e2,q⟩:=q;simp![e2,Wa];cases r with
   | nx e a=>obtain⟨g,s,k⟩:=q;exact ih g e a k nofun
   | rt d a=>exact⟨_,rfl,q⟩
   | bk e a=>exact q.elim
   | ct e a=>exact q.elim
theorem J1{m:Type}{i n:Nat}{body:RS}(D:m->Dt)(S:Nat->LI->HI->Prop)(E:Dt->HI->Prop)(xs:Ms m)(p:∀k l h,S k l h->h[n]?=ε (.lst (xs.map D)))(H:∀(k:Nat) x,xs[k]?=ε x->∀l h,S k l h->∃r,body (l.set i (ε (D x))) h=ε r/\JI (S (k+1)) E r)
 (l:LI) (h:HI) (q:S 0 l h):∃r,ND (rA i) body l (.rf n,h)=ε r/\JI (S xs.length) E r:=by
 have go:∀(f k:Nat)(l:LI)(h:HI),S k l h->f=xs.length-k+1->k<=xs.length->∃r,iC (rA i) body (.rf n) f k l h=ε r/\JI (S xs.length) E r:=by
  intro f
  induction f with
  | zero=>intro k l h _ e;omega
  | succ f ih=>
   intro k l h j e y;unfold iC;simp![th.at,p k l h j,wu];by_cases o:k<xs.length
   . rw[jj o];obtain⟨r,u,a⟩:=H k xs[k] (jj o) l h j;simp![Vi,VD,Wa,u];cases r with
     | nx g b=>exact ih (k+1) g b a nofun nofun
     | rt d b=>exact⟨_,rfl,a⟩
     | bk g b=>exact a.elim
     | ct g b=>exact a.elim
   . rw[ju nofun];have:k=xs.length:=by omega
     subst this;exact⟨_,rfl,j⟩
 have s:th.fuel (.rf n) h=xs.length-0+1:=by simp![th.fuel,p 0 l h q,ni];omega
 unfold ND;exact go _ 0 l h q s (nu _)
section
variable{l:LI}{h:HI}{f g fo fe:RE}{ga:RA}
noncomputable def a7(c:Nat):Dt->Dt×HI->Ni (th×HI)
 | .int i,(.int j,h)=>if 0<=i/\i<2^61/\0<=j/\j<2^61/\0<c/\c<1000 then ε (.vals ((List.range ((j-i+(c:Int)-1)/(c:Int)).toNat).map fun(k:Nat)=>Dt.int (i+(k:Int)*(c:Int))),h)else none
 | _,_=>none
@[simp] theorem Zj(c:Nat):t5 f g c l h=mB (f l h) fun r=>mB (g l r.2) (a7 c r.1):=by
 unfold mB;unfold t5
 congr 1
 funext r
 obtain⟨d,h⟩:=r
 congr 1
 funext q
 obtain⟨a,b⟩:=q;cases d<;>cases a<;>rfl
def OQ(x f:Str):Dt×HI->Ni (Dt×HI)
 | (.ref n,h)=>(match h[n]? with
  | some (.ins y fs)=>if y=x then(iD f fs).bind fun d=>ε (d,h)else none
  | _=>none)
 | _=>none
@[simp] theorem rQ(x k:Str):TF x k fo l h=mB (fo l h) (OQ x k):=by
 unfold mB TF
 congr 1
 funext r
 obtain⟨d,h⟩:=r;cases d<;>(try rfl)
theorem aP{x k:Str}{n:Nat}{fs:Ms (Str×Dt)}{d:Dt}(e:h[n]?=ε (.ins x fs))(a:iD k fs=ε d):OQ x k (.ref n,h)=ε (d,h):=by simp![OQ,e,eN,a,Wa]
def dU(x f:Str)(v:Dt)(l:LI):Dt×HI->Ni Rs
 | (.ref n,h)=>(match h[n]? with
  | some (.ins y fs)=>if y=x/\fs.length<1000 then ε (.nx l (h.set n (.ins y (FE f v fs))))else none
  | _=>none)
 | _=>none
@[simp] theorem C1(x k:Str):OI x k fo fe l h=mB (fe l h) fun r=>mB (fo l r.2) (dU x k r.1 l):=by
 unfold mB OI
 congr 1
 funext r
 congr 1
 funext q
 obtain⟨d,h⟩:=q;cases d<;>(try rfl)
theorem jP{x k:Str}{n:Nat}{fs:Ms (Str×Dt)}{v:Dt}(e:h[n]?=ε (.ins x fs))(a:fs.length<1000):dU x k v l (.ref n,h)=ε (.nx l (h.set n (.ins x (FE k v fs)))):=by simp![dU,e,true_and,eG a]
noncomputable def K4(n:Nat):Dt×HI->Ni (Dt×HI)
 | (.non,h)=>ε (.ref n,h)
 | _=>none
@[simp] theorem Ef(n:Nat):K4 n (.non,h)=ε (.ref n,h):=by rfl
@[simp] theorem B9(x:Str)(F:gB):fQ x F ga l h=mB (ga l h) fun r=>mB (F (.ref r.2.length::r.1) (r.2++[.ins x []])) (K4 r.2.length):=by
 unfold mB fQ
 congr 1
 funext r
 congr 1
 funext q
 obtain⟨d,h⟩:=q;cases d<;>(try rfl)
def yU(x m:Str)(F:gB)(ga:RA)(l:LI):Dt×HI->Ni (Dt×HI)
 | (.ref n,h)=>(match h[n]? with
  | some (.ins y fs)=>if y=x/\iD m fs=none then(ga l h).bind fun q=>F (.ref n::q.1) q.2 else none
  | _=>none)
 | _=>none
@[simp] theorem AT(x m:Str)(F:gB):KI x m F fo ga l h=mB (fo l h) (yU x m F ga l):=by
 unfold mB KI
 congr 1
 funext r
 obtain⟨d,h⟩:=r;cases d<;>(try rfl)
theorem pS{x m:Str}{F:gB}{n:Nat}{fs:Ms (Str×Dt)}(e:h[n]?=ε (.ins x fs))(a:iD m fs=none):yU x m F ga l (.ref n,h)=mB (ga l h) fun q=>F (.ref n::q.1) q.2:=by simp![yU,e,true_and,eG a];rfl
def KQ(fb:RE)(l:LI):Dt×HI->Ni (Dt×HI):=fun r=>(fb l r.2).bind fun q=>match r.1,q.1 with
 | .lst xs,.bl b=>(lF xs).bind fun bs=>ε (.int ((bs.countP (· ==b):Nat):Int),q.2)
 | _,_=>none
@[simp] theorem Kl(fa fb:RE):lT fa fb l h=mB (fa l h) (KQ fb l):=by rfl
theorem Bb{fb:RE}{bs:Ms Bool}{b:Bool}(e:fb l h=ε (.bl b,h)):KQ fb l (.lst (bs.map Dt.bl),h)=ε (.int ((bs.countP (· ==b):Nat):Int),h):=by
 have q:lF (bs.map Dt.bl)=ε bs:=by
  induction bs with
  | nil=>rfl
  | cons n ns ih=>simp![Ss,lF,ih,Vi]
 simp![KQ,e,Wa,q]
def gQ:Dt×HI->Ni (th×HI)
 | (.lst xs,h)=>ε (.vals (FI 0 xs),h)
 | (.ref n,h)=>(match h[n]? with
  | some (.lst _)=>ε (.en n,h)
  | _=>none)
 | _=>none
@[simp] theorem uZ:DM f l h=mB (f l h) gQ:=by
 unfold mB DM
 congr 1
 funext r
 obtain⟨d,h⟩:=r;cases d<;>(try rfl)
theorem zX{n:Nat}{xs:Ms Dt}(e:h[n]?=ε (.lst xs)):gQ (.ref n,h)=ε (.en n,h):=by simp![gQ,e]
end
theorem C4{p:Type}{i j n:Nat}{body:RS}(D:p->Dt)(S:Nat->LI->HI->Prop)(xs:Ms p)(s:∀k l h,S k l h->h[n]?=ε (.lst (xs.map D)))(H:∀(k:Nat) x,xs[k]?=ε x->∀l h,S k l h->∃r,body ((l.set i (ε (.int (k:Int)))).set j (ε (D x))) h=ε r/\Pass (S (k+1)) r)
 (l:LI) (h:HI) (u:S 0 l h):∃a h',ND (JD i j) body l (.en n,h)=ε (.nx a h')/\S xs.length a h':=by
 have go:∀(f k:Nat)(l:LI)(h:HI),S k l h->f=xs.length-k+1->k<=xs.length->∃a h',iC (JD i j) body (.en n) f k l h=ε (.nx a h')/\S xs.length a h':=by
  intro f
  induction f with
  | zero=>intro k l h _ e;omega
  | succ f ih=>
   intro k l h o e C;unfold iC;simp![th.at,s k l h o,wu];by_cases q:k<xs.length
   . rw[jj q];obtain⟨r,B,g⟩:=H k xs[k] (jj q) l h o;simp![Vi,qT,Wa,B];cases r with
     | nx m b=>exact ih (k+1) m b g nofun nofun
     | ct m b=>exact ih (k+1) m b g nofun nofun
     | bk m b=>exact g.elim
     | rt d b=>exact g.elim
   . rw[ju nofun];have:k=xs.length:=by omega
     subst this;exact⟨l,h,rfl,o⟩
 have y:th.fuel (.en n) h=xs.length-0+1:=by simp![th.fuel,s 0 l h u,ni];omega
 unfold ND;exact go _ 0 l h u y (nu _)
end SM
namespace PySem
open PySem.Sem (wp)
section
variable{prog:Oo}{w:O4}{A:Pa}{E:Mu->Nu->Prop}{s:Nu}
abbrev e8(h:Pu)(z TI TO:Oa)(b a:Mu):Prop:=
 h.get? z=ε { cls:=.type "zip",dict:=none,data:=.fields #[b,a,.bool false,.ref TI,.ref TO],slots:=#[] }
end
section
variable{prog:Oo}{w:O4}{A:Pa}{E:Mu->Nu->Prop}{s:Nu}
end
section
variable{prog:Oo}{w:O4}{A:Pa}{E:Mu->Nu->Prop}{s:Nu}
end
section
variable{prog:Oo}{w:O4}{A:Pa}{R:Result->Nu->Prop}
def ge(h:Pu)(z TI TO j g e d:Oa)(xs ys:Pb Mu)(i:Nat):Prop:=
 ((IsZip h z TI TO .none/\∃a b,IsPair h TO a b)\/∃(T:Oa)(k:Bool),e8 h z TI TO (rawInt T) (.bool k)/\∃o,h.get? T=ε o)/\IsPair h TI (.ref j) (.ref g)/\h.IsListIter j e i/\h.IsListIter g d i/\h.IsList e xs/\h.IsList d ys
theorem ge.keep {h h':Pu} {z TI TO D C u s:Oa} {xs ys:Pb Mu} {i:Nat} (x:ge h z TI TO D C u s xs ys i) (k:∀b o,h.get? b=ε o->(∃j n,o.data=.seq j n/\o.cls=.type "list" /\ b≠u/\b≠s)\/h'.get? b=ε o) (M:∀b o,h.get? b=ε o->∃J,h'.get? b=ε J):ge h' z TI TO D C u s xs ys i:=by
 obtain⟨a,b,c,d,e,f⟩:=x;have go:∀{b:Oa} {o:Obj},h.get? b=ε o->((∀j n,o.data≠.seq j n)\/o.cls≠.type "list" \/ b=u\/b=s)->h'.get? b=ε o:=fun {b o} e q=>by
  rcases k b o e with⟨j,n,I,H,F,E⟩ | y
  . rcases q with q | q | q | q
    . exact Ei I (q j n)
    . exact Ei H q
    . exact Ei q F
    . exact Ei q E
  . exact y
 refine⟨?_,go b (.inr (.inl (by intro z;simp at z))),?_,?_,?_,?_⟩
 . rcases a with⟨a,p,q,r⟩ | ⟨T,L,a,o,r⟩
   . exact .inl ⟨go a (.inl (by intro _ _ z;cases z)),p,q,go r (.inr (.inl (by intro z;simp at z)))⟩
   . exact .inr ⟨T,L,go a (.inl (by intro _ _ z;cases z)),M _ _ r⟩
 . obtain⟨o,g,B,m⟩:=c;exact⟨o,go g (.inl (by intro _ _ z;rw[m]at z;cases z)),B,m⟩
 . obtain⟨o,g,B,m⟩:=d;exact⟨o,go g (.inl (by intro _ _ z;rw[m]at z;cases z)),B,m⟩
 . obtain⟨o,g,r⟩:=e;exact⟨o,go g (.inr (.inr (.inl rfl))),r⟩
 . obtain⟨o,g,r⟩:=f;exact⟨o,go g (.inr (.inr (.inr rfl))),r⟩
end
section
variable{prog:Oo}{w:O4}{A:Pa}{E:Mu->Nu->Prop}{s:Nu}{R:Result->Nu->Prop}
end
end PySem
namespace L2
section
variable{X:Cx}{pins:Ms (Oa×Obj)}{σ:Ms (Ni V)}{H:Hp}{s:Nu}{h':Pu}
end
section
variable{X:Cx}
end
end L2
namespace SM
section
variable{K:Oi}{ρ:Rg}{H:Hp}
end
section
variable{X:Cx}{o i:Oe}{fo fy:RE}{pos:Pos}
end
end SM
namespace PySem
noncomputable def NM (a:Bool):Obj:={ cls:=.type "set",dict:=none,data:=.set #[] 0 (.fresh 0 0 a) }
section
variable{prog:Oo}{w:O4}{A:Pa}{E:Mu->Nu->Prop}{s:Nu}
set_option maxHeartbeats 3200000 in
theorem mf{l:Oa}{items:Pb Mu}{ns:Ms Int}{Q:Mu->Nu->Prop}(hh:A.handled=none)(hl:s.heap.IsTuple l items)(hi:IntsAre items.toList ns)(D:items.size+1<scanBound)
 (h:∀(h':Pu)(B:Nat),h'.SetOf (intKind prog w) s.heap.objs.size (fun J=>(firstMet (fun i=>ns.getD i 0) items.size).any (· ==J)) (firstMet (fun i=>ns.getD i 0) items.size).length->(∀b o,b<s.heap.objs.size->s.heap.get? b=ε o->h'.get? b=ε o)->Q (.ref s.heap.objs.size) { s with heap:=h',toks:=B }) :
 wpAny (model prog w) A (call (.type "set") [.ref l]) Q E s:=by
 obtain⟨c,tl,a0⟩:=PySem.F.called_set.mro;have M:=PySem.F.called_set.made;have Z:=PySem.F.called_set.sub;refine wpAny_call (codeAny_of_tree ?_);show wpAny _ _ (callAny (.type "set") _) _ _ _;refine au ⟨Code.quiet_builtin _ (by decide +kernel),Ia PySem.F.entry_type_call ?_⟩;rw[Around.under_plain (weight_type_call_type "set" [.ref l] []) rfl];have k1:=PySem.F.called_set.notType;have k2:=PySem.F.called_set.canCreate;have k3:=PySem.F.typeCall_set_1 (.ref l)
 repeat (any_goals (first | assumption | wp_step))
 refine codeAny_mono (code_set_new_1 (.ref l) (E:=E) (Q₁:=fun ob k=>∃a:Bool,ob=.ref s.heap.objs.size/\k={ s with heap:=s.heap.push (NM a) }) fun a=>⟨a,rfl,rfl⟩) fun r k L=>?_
 cases r with
 | error e=>exact L
 | ok fl=>
  cases fl with
  | ret ob=>
   obtain⟨a,rfl,rfl⟩:=L;have gS:(s.heap.push (NM a)).get? s.heap.objs.size=ε (NM a):=jl _ rfl;have gT:Shared.TypeIs { s with heap:=s.heap.push (NM a) } (.ref s.heap.objs.size) "set" :=⟨_,gS,rfl⟩;have k4:=PySem.F.called_set.init.lookup;have k5:=PySem.F.called_set.init.bind (.ref s.heap.objs.size)
   repeat (any_goals (first | assumption | wp_step))
   refine codeAny_mono (codeAny_call_builtin (R:=wants (fun r j=>r=.none/\∃h' B,j={ s with heap:=h',toks:=B }/\h'.SetOf (intKind prog w) s.heap.objs.size (fun J=>(firstMet (fun i=>ns.getD i 0) items.size).any (· ==J)) (firstMet (fun i=>ns.getD i 0) items.size).length/\(∀b o,b<s.heap.objs.size->s.heap.get? b=ε o->h'.get? b=ε o)) E)
    PySem.F.called_set.init.plain PySem.F.entry_set_init (check_set_init_1 gT ?_)) fun q j d=>?_
   . obtain⟨ol,u,y,W,x⟩:=hl;obtain⟨U,m,I,g⟩:=ol;dsimp only at y x;subst y x;have g2:(s.heap.push (NM a)).get? l=ε { cls:=.type "tuple",dict:=m,data:=.seq items W,slots:=g }:=cu _ u;have k6:=PySem.F.sub_tuple_set;have k7:=PySem.F.sub_tuple_frozenset;have k8:(Value.type "tuple" ==Value.type "dict")=false:=by decide
     have g3:(s.heap.push (NM a)).IsTuple l items:=⟨_,g2,rfl,W,rfl⟩;unfold Builtin.«set.__init__» noKeywords Builtin.Frozenset.updateFrom;generalize T:pyIter=PI
     wp_walk
     subst T;refine wpAny_pyIter_tuple g3 ?_;refine ao (wpAny_runValue ?_);have Y:l<s.heap.objs.size:=je u;have nN:(s.heap.push (NM a)).objs.size=s.heap.objs.size+1:=Ks _ _;have k9:l≠(s.heap.push (NM a)).objs.size:=by rw[nN];exact rz (Nat.lt_succ_of_lt Y)
     have hf:s.heap.objs.size ∉ [(s.heap.push (NM a)).objs.size,l]:=by rw[nN];simp![Bo,not_mem_nil,or_false,not_or];exact⟨rz (zu _),Ea Y⟩
     refine codeAny_set_update_loopS ((Walks.tuple (by simp[hh]) _ l k9 items).toS) s.heap.objs.size hf (fun i=>ns.getD i 0) (fun i v hv=>IntsAre.int_at hi i v (by rw[Array.getElem?_toList];exact hv)) D (items.size-0) 0 _ nofun (nu _) ⟨⟨_,jl _ rfl,rfl,rfl⟩,(g3.push _)⟩ ?hS0 ?hR
     case hS0=>refine SetOf_congr (Obj.SetObjOf.setOf (knd:=intKind prog w) (o:=(NM a)) (S:=fun z=>false) (n:=0) (setObjOf_fresh a) (cu _ gS) (by unfold scanBound;omega)) (fun z=>rfl) rfl
     case hR=>intro s' C hS;obtain⟨h',g',d',F,H⟩:=s';have eg:g'=s.gens:=C.gens;have ed:d'=s.drawn:=C.drawn;have eo:H=s.os:=C.os;subst eg ed eo;show wpAny _ _ _ _ _ _;refine au ?_;show wpAny _ _ (ret Value.none) _ _ _;refine au ⟨rfl,h',F,rfl,hS,fun b o D e=>C.heap b o ?_ (cu _ (cu _ e))⟩;rw[nN];simp![Bo,not_mem_nil,or_false,not_or];exact⟨rz D,rz (Nat.lt_succ_of_lt D)⟩
   . cases q with
     | error e=>exact d
     | ok p=>
      cases p with
      | ret r=>
       obtain⟨rfl,h',B,rfl,P,O⟩:=d
       repeat (any_goals (first | assumption | wp_step))
       exact h _ _ P O
      | _=>exact d.elim
  | _=>exact L.elim
end
end PySem
namespace L2
section
variable{X:Cx}
theorem Nt (F:X.calm=true):ae X (.type "set") (fun j H Q=>∃(q:Oa) (ns:Ms Int),j=[.ref q]/\tG X.K H q (ns.map V.int)/\ns.length+1<4096/\
 ∀p,H p=none->Q (.ref p) (IB H p (.set (fun k=>(iE ns).any (· ==k)) (iE ns).length))):=by
 intro m s J H j L Q I r h;obtain⟨q,ns,rfl,D,O,i⟩:=h;obtain⟨u,rfl,B⟩:=WE r;cases B;obtain⟨d,C,pl,M⟩:=I.tuple D;have n:=CJ C;have E:d.length=ns.length:=IntsAre.length n;have e:d.toArray.size=ns.length:=by rw[dh,E]
 refine PySem.mf (items:=d.toArray) (ns:=ns) (I.ok.hd F) pl (by simpa using n) (by rw[e];unfold scanBound;omega) fun P y x kp=>?_
 rw[oZ ns _ e]at x;exact⟨.ref s.heap.objs.size,_,I.laid (a:=s.heap.objs.size) (o:=.set (fun k=>(iE ns).any (· ==k)) (iE ns).length) (t':=y) (fun b u g=>kp b u (je g) g) (Uo _) x,rfl,i _ (I.hok.fresh (Uo _))⟩
end
end L2
namespace SM
def ZO:Dt->HI->Ni (Dt×HI):=fun d h=>match d with
 | .tup a=>(BC a).bind fun ns=>if ns.length+1<4096 then ε (.int (iE ns).length,h)else none
 | _=>none
section
variable{X:Cx}{e:Oe}{f:RE}{p p' pos pos':Pos}
theorem Jh (u:X.calm=true) (s:Gl X "len") (o:X.mg "len" =none) (i:Gl X "set") (g:X.mg "set" =none) (x:EM X e f) (hs:autoParam (fB e=true) Æ) :
 EM X (.Call (.Name "len" p) [.Call (.Name "set" p') [e] [] pos'] [] pos) (QB ZO f):=by
 unhygienic
  exact PE.imp (GJ sX s o PySem.boot_len (wC (rS (Nt u) i g boot_set (wC x bD (kB hs _ _)) (he:=kB hs _ _)) bD rfl)) fun F H Q m=>by
   obtain⟨j,l,h,d,O,S,L,e,k⟩:=m;obtain⟨⟨B,M⟩,y,e⟩:=qA e;cases B with
   | tup I=>obtain⟨ns,q,e⟩:=qA e;obtain⟨n,e⟩:=GF e;cases e;refine⟨j,l,h,_,_,S,L,y,fun b v P D C E=>?_⟩;obtain⟨a,J,z,sq,r⟩:=ag.mp D;rw[fF q]at r;rw[r.ce]at sq;exact⟨a,ns,by rw[z],sq.sq,n,fun w hw=>⟨w,_,_,rfl,IC,k b _ _ (Xa.mpr rfl) (C.fresh hw) (E.trans (sx.fresh hw))⟩⟩
   | _=>cases e
end
noncomputable def L3:Dt->Ni (Ms Dt)
 | .tup a=>ε a
 | _=>none
def bN(f:RE)(lo b:RO):RE:=fun l h=>(f l h).bind fun r=>(lo l r.2).bind fun o=>(b l o.2).bind fun u=>(L3 r.1).bind fun a=>if ¬(HT.sIx a.length 0 o.1=0/\HT.sIx a.length a.length u.1=a.length)then ε (.tup (CF a o.1 u.1),u.2)else none
section
variable{X:Cx}{a:Oe}{fa:RE}{pos p2:Pos}
theorem Zh{lo n:Ni Oe}{y B:RO}(R:EM X a fa)(O:CU X lo y)(P:CU X n B):EM X (.Subscript a (.Slice lo n none p2) pos) (bN fa y B):=by
 unhygienic
  exact PE.imp (tY Ax R O P) fun σ H Q J=>by
   obtain⟨I,l,h,d,h',S,L,e,k⟩:=J;obtain⟨⟨D,s⟩,U,e⟩:=qA e;obtain⟨⟨o,q⟩,e2,e⟩:=qA e;obtain⟨⟨u,h3⟩,T,e⟩:=qA e;obtain⟨xs,C,e⟩:=qA e;obtain⟨c,e⟩:=QQ e;cases e;refine⟨I,l,h,D,s,S,L,U,fun i v H1 Z Y m=>⟨i,l,s,o,q,Y,L.ext m,e2,fun g H2 W j=>⟨g,l,q,u,_,W,L.ext (m.trans j),T,fun b H3 E F=>?_⟩⟩⟩;cases D with
   | tup ys=>cases C;obtain⟨x,M,z,sq,r⟩:=ag.mp (Te.ext (j.trans F) _ Z);exact⟨x,M,z,sq.sq,by rw[r.length];exact c,fun p hp=>k b _ _ (zI E (bZ r o u) hp) (E.fresh hp) (m.trans (j.trans (F.trans (sx.fresh hp))))⟩
   | _=>cases C
end
noncomputable def BE(f:Dt->Dt->Bool):Ms Dt->Ms Dt->Bool
 | [],[]=>true
 | x::xs,y::ys=>f x y&&BE f xs ys
 | _,_=>false
def QF(h:HI):Nat->Dt->Dt->Bool
 | 0,_,_=>false
 | n+1,a,b=>match a,b with
  | .int i,.int j=>decide (i=j)
  | .str i,.str j=>decide (i=j)
  | .tup xs,.tup ys=>BE (QF h n) xs ys
  | a,b=>match KA h a,KA h b with
   | some xs,some ys=>BE (QF h n) xs ys
   | _,_=>false
def j5(h:HI)(a b:Dt):Bool:=match KA h a,KA h b with
 | some xs,some ys=>BE (QF h 6) xs ys
 | _,_=>false
theorem gP{f:Dt->Dt->Bool}:∀{xs ys:Ms Dt},BE f xs ys=true->xs.length=ys.length
 | [],[],_=>rfl
 | x::xs,y::ys,e=>by rw[BE,xr]at e;rw[Ru,Ru,gP e.2]
 | [],_::_,e=>nomatch (show false=true from e)
 | _::_,[],e=>nomatch (show false=true from e)
section
variable{X:Cx}{g:Ms (Oa×Obj)}{l:L2.St}{H:Hp}{s:Nu}{ρ:Rg}
theorem DP{f:Dt->Dt->Bool}{A:Pa}(p:∀(d d':Dt){v h:V}{u o:Mu},f d d'=true->Te X.K H ρ d v->Te X.K H ρ d' h->td v u->td h o->SeqAt.EqAt A s u o true) :
 ∀{xs ys:Ms Dt}{vs b:Ms V}{us a:Ms Mu},BE f xs ys=true->Ro X.K H ρ xs vs->Ro X.K H ρ ys b->ss vs us->ss b a->∀(j:Nat)(h1:j<us.length)(h2:j<a.length),SeqAt.EqAt A s us[j] a[j] true
 | [],[],_,_,_,_,_,r,_,q,_,j,h1,_=>by cases r.av;cases q;exact Ei h1 ⋯
 | x::xs,y::ys,_,_,_,_,e,r,r',q,q',j,h1,h2=>by
  rw[BE,xr]at e;obtain⟨v,E,rfl,D,C⟩:=r.Za;obtain⟨h,B,rfl,k,i⟩:=r'.Za;cases q with
  | cons q1 q2=>
   cases q' with
   | cons n m=>
    cases j with
    | zero=>exact p x y e.1 D k q1 n
    | succ j=>exact DP p e.2 C i q2 m j (Nat.lt_of_succ_lt_succ h1) (Nat.lt_of_succ_lt_succ h2)
 | [],_::_,_,_,_,_,e,_,_,_,_,_,_,_=>nomatch (show false=true from e)
 | _::_,[],_,_,_,_,e,_,_,_,_,_,_,_=>nomatch (show false=true from e)
theorem zT(n:Nat):(List.range n).all (fun q=>true)=true:=by simp
set_option tactic.hygienic true in
theorem yT{h:HI}(I:so X g l H s)(S:Vo X.K ρ h H):∀(n:Nat)(A:Pa),A.units+n<cLine->∀(d d':Dt){v L:V}{u M:Mu},QF h n d d'=true->Te X.K H ρ d v->Te X.K H ρ d' L->td v u->td L M->SeqAt.EqAt A s u M true
 | 0,_,_,_,_,_,_,_,_,e,_,_,_,_=>nomatch (show false=true from e)
 | n+1,A,hu,d,d',v,L,u,M,e,r,r',q,q'=>by
  have D:A.units<cLine:=by omega
  have Q:A.in1.units+n<cLine:=by have:=XR A;omega
  unfold QF at e;split at e
  . rename_i i j;obtain rfl:=of_decide_eq_true e;cases Xa.mp r;cases Xa.mp r';obtain⟨t,rfl⟩:=q;obtain⟨x,rfl⟩:=q';have:=SeqAt.EqAt.int_int (A:=A) (s:=s) i t i x;rw[Cu]at this;exact this
  . rename_i i j;obtain rfl:=of_decide_eq_true e;cases br.mp r;cases br.mp r';obtain⟨t,rfl⟩:=q;obtain⟨x,rfl⟩:=q';have:=SeqAt.EqAt.str_str (A:=A) (s:=s) i t i x;rw[Cu]at this;exact this
  . obtain⟨a,T,z,t,B⟩:=ag.mp r;obtain⟨b,R,J,x,m⟩:=ag.mp r';subst z J;cases q;cases q';obtain⟨P,y,O,_⟩:=I.tuple t.sq;obtain⟨C,k,p,_⟩:=I.tuple x.sq;by_cases o:a=b
    . subst o;exact SeqAt.EqAt.same _
    . refine .of_refs o ?_;have ih:=DP (fun d d'=>yT I S n A.in1 Q d d') e B m y k;have z:=SeqAt.RcAt.tuples (e:=fun _=>true) (DJ O) (DJ p) D fun j F E=>by rw[dh]at F E;simpa using ih j F E
      rw[zT,dh,dh,<- y.length,<- k.length,B.length,m.length,gP e,Cu]at z;exact z
  . split at e
    . rename_i W U q1 q2;obtain⟨a,T,z,t,B⟩:=SC S r q1;obtain⟨b,R,J,x,m⟩:=SC S r' q2;subst z J;cases q;cases q';obtain⟨P,y,O,_⟩:=I.list t;obtain⟨C,k,p,_⟩:=I.list x;by_cases o:a=b
      . subst o;exact SeqAt.EqAt.same _
      . refine .of_refs o ?_;have ih:=DP (fun d d'=>yT I S n A.in1 Q d d') e B m y k;have z:=SeqAt.RcAt.lists (e:=fun _=>true) O.isList p.isList (by rw[dh,dh,<- y.length,<- k.length,B.length,m.length,gP e]) D fun j F E=>by rw[dh]at F E;simpa using ih j F E
        rw[zT]at z;exact z
    . cases e
def hJ:qD:=fun a b h=>if j5 h a b=true then ε (.bl false,h)else rF a b h
set_option tactic.hygienic true in
theorem C9(O:X.A.units+64<cLine):OM X (compareOp .NotEq) hJ:=by
 unhygienic
  intro g s l H x y v u Q I p o h;obtain⟨ρ,h,T,R,d,P,S,E,R2,e,k⟩:=h;unfold hJ at e;split at e
  . rename_i c;cases e;unfold j5 at c;split at c
    . rename_i Y W q1 q2;obtain⟨a,vs,z,t,r⟩:=SC S E q1;obtain⟨b,Z,F,L,m⟩:=SC S R2 q2;subst z F;cases p;cases o;obtain⟨M,q,J,_⟩:=I.list t;obtain⟨B,i,n,_⟩:=I.list L;have ih:=DP (fun d U=>yT I S 6 X.A.in1 (by have:=XR X.A;omega) d U) c r m q i;refine EY (e:=fun _=>true) J.isList n.isList (by rw[dh,dh,<- q.length,<- i.length,r.length,m.length,gP c]) nofun (fun j D C=>by
       rw[dh]at D C;simpa using ih j D C) ?_
      exact⟨.bl _,H,I,rfl,k ρ _ H (Zi.mpr (congrArg V.bl (by rw[zT];rfl))) S (sx.refl _ _)⟩
    . cases c
  . exact kK O g s l H x y v u Q I p o ⟨ρ,h,T,R,d,P,S,E,R2,e,k⟩
end
section
variable{X:Cx}{a b c d:Oe}{fa fb e f:RE}
theorem jE(h:EM X a fa)(g:autoParam (fB a=true) Æ):AM X [a] (bA fa fA):=vF h iF g
theorem bC(j:EM X a fa)(i:EM X b fb)(h:autoParam (fB a=true) Æ)(g:autoParam (fB b=true) Æ):AM X [a,b] (bA fa (bA fb fA)):=vF j (jE i g) h
theorem ZD(m:EM X a fa)(k:EM X b fb)(j:EM X c e)(i:autoParam (fB a=true) Æ)(h:autoParam (fB b=true) Æ)(g:autoParam (fB c=true) Æ):AM X [a,b,c] (bA fa (bA fb (bA e fA))):=vF m (bC k j h g) i
theorem cG(m:EM X a fa)(k:EM X b fb)(j:EM X c e)(hd:EM X d f)(i:autoParam (fB a=true) Æ)(h:autoParam (fB b=true) Æ)(g:autoParam (fB c=true) Æ)(nd:autoParam (fB d=true) Æ):AM X [a,b,c,d] (bA fa (bA fb (bA e (bA f fA)))):=vF m (ZD k j hd h g nd) i
end
def Dn(s:Ou)(m:Nat):Ms Str:=((sB s).names.map Prod.fst).take m
end SM
namespace G
def top(i:Nat):Ou:=PySem.Challenge.pw_spanways_k17_whole_plan_or_tree.main.body.getD i (.Pass ⟨0,0,0,0⟩)
noncomputable abbrev cQ:Dt:=(.int 8191)
noncomputable def mh:Ms Dt:=[(.tup [(.int 0),(.int 0)]),(.tup [(.int 0),(.int 1)]),(.tup [(.int 0),(.int 2)]),(.tup [(.int 0),(.int 3)]),(.tup [(.int 0),(.int 4)]),(.tup [(.int 1),(.int 2)]),(.tup [(.int 1),(.int 3)]),(.tup [(.int 1),(.int 4)]),(.tup [(.int 2),(.int 2)]),(.tup [(.int 2),(.int 3)]),(.tup [(.int 2),(.int 4)]),(.tup [(.int 3),(.int 4)]),(.tup [(.int 4),(.int 4)])]
abbrev WY:Dt:=.tup mh
noncomputable def bv:Ms Dt:=[(.tup [(.int 1),(.int 1),(.int 1),(.int 1),(.int 1),(.int 1),(.int 1),(.int 1),(.int 295),(.int 295),(.int 295),(.int 295),(.int 8191)]),(.tup [(.int 1),(.int 1),(.int 1),(.int 1),(.int 1),(.int 2),(.int 2),(.int 2),(.int 292),(.int 292),(.int 292),(.int 584),(.int 7312)]),(.tup [(.int 1),(.int 1),(.int 7),(.int 7),(.int 31),(.int 4),(.int 4),(.int 28),(.int 292),(.int 292),(.int 2044),(.int 1168),(.int 7312)]),(.tup [(.int 1),(.int 2),(.int 4),(.int 8),(.int 16),(.int 4),(.int 8),(.int 16),(.int 292),(.int 584),(.int 1168),(.int 1168),(.int 7312)]),(.tup [(.int 31),(.int 28),(.int 28),(.int 16),(.int 16),(.int 28),(.int 16),(.int 16),(.int 2044),(.int 1168),(.int 1168),(.int 1168),(.int 7312)]),(.tup [(.int 1),(.int 1),(.int 7),(.int 7),(.int 31),(.int 32),(.int 32),(.int 224),(.int 256),(.int 256),(.int 1792),(.int 2048),(.int 4096)]),(.tup [(.int 1),(.int 2),(.int 4),(.int 8),(.int 16),(.int 32),(.int 64),(.int 128),(.int 256),(.int 512),(.int 1024),(.int 2048),(.int 4096)]),(.tup [(.int 31),(.int 28),(.int 28),(.int 16),(.int 16),(.int 224),(.int 128),(.int 128),(.int 1792),(.int 1024),(.int 1024),(.int 2048),(.int 4096)]),(.tup [(.int 1),(.int 1),(.int 295),(.int 295),(.int 8191),(.int 256),(.int 256),(.int 7936),(.int 256),(.int 256),(.int 7936),(.int 4096),(.int 4096)]),(.tup [(.int 1),(.int 2),(.int 292),(.int 584),(.int 7312),(.int 256),(.int 512),(.int 7168),(.int 256),(.int 512),(.int 7168),(.int 4096),(.int 4096)]),(.tup [(.int 31),(.int 28),(.int 2044),(.int 1168),(.int 7312),(.int 1792),(.int 1024),(.int 7168),(.int 1792),(.int 1024),(.int 7168),(.int 4096),(.int 4096)]),(.tup [(.int 31),(.int 224),(.int 1792),(.int 2048),(.int 4096),(.int 1792),(.int 2048),(.int 4096),(.int 1792),(.int 2048),(.int 4096),(.int 4096),(.int 4096)]),(.tup [(.int 8191),(.int 7936),(.int 7936),(.int 4096),(.int 4096),(.int 7936),(.int 4096),(.int 4096),(.int 7936),(.int 4096),(.int 4096),(.int 4096),(.int 4096)])]
abbrev aS:Dt:=.tup bv
noncomputable abbrev X0:Dt:=(.int 64)
abbrev W8:Ou:=top 3
def mi:RS:=uA (e2 pA (eC WY) (eV 0))
def bT:gB:=DB 1 1 mi
abbrev Af:Ou:=top 4
def PR:RE:=eV 0
def QR:RT:=tf (e2 FB (e2 xE (e2 gG (eV 1) (eV 0)) (ua 1)) (ua 1))
def WX:RS:=uA (xC (kE (ua 13)) (rA 0) QR PR [none,ε 0])
def HG:gB:=DB 1 1 WX
abbrev Xl:Ou:=top 5
def LR:RE:=e2 UF (ua 1) (eV 0)
def cY:RS:=uA (QB dN (xC (JB (eV 0)) (rA 0) nB LR [none]))
def dP:gB:=DB 1 1 cY
abbrev Yl:Ou:=top 6
def MR:RE:=e2 GC (ua 12) (eV 0)
def dY:RS:=uA (xA dP [] (bA (xC (JB (xA HG [] (bA (eV 0) fA))) (rA 0) nB MR [none]) fA))
def fP:gB:=DB 1 1 dY
abbrev jf:Ou:=top 9
def SX:RS:=uA (e2 pA (e2 pA (eC aS) (eV 0)) (eV 1))
def UO:gB:=DB 2 2 SX
abbrev Fw:Ou:=top 10
def kR:RS:=zA 3 (e2 WH (eV 3) (e2 pA (e2 pA (eC aS) (eV 4)) (eV 5)))
def yN:RS:=AB (JB (eV 2)) (rA 5) kR
def PV:RS:=gA (zA 2 (xA HG [] (bA (eV 1) fA))) (gA (zA 3 (ua 0)) (gA (AB (JB (xA HG [] (bA (eV 0) fA))) (rA 4) yN) (uA (eV 3))))
def ZN:gB:=DB 2 6 PV
abbrev Ah:Ou:=top 13
def RW:RS:=uA (e2 pK (e2 XH (eJ (eC cQ) (eV 1)) (dG (bA (eC X0) fA))) (eJ (eC cQ) (e2 GC (e2 GC (eV 0) (eV 1)) (ua 1))))
def DO:gB:=DB 2 2 RW
abbrev zx:Ou:=top 14
def lS:RE:=xA DO [] (bA (eV 1) (bA (eV 0) fA))
def W0:RS:=uA (rE (kE (eV 0)) (rA 0) nB lS [none,ε 0])
def KP:gB:=DB 1 1 W0
abbrev vh:Ou:=top 15
def GR:RS:=VC (sD (eV 1) (aB (bA (eV 2) (bA (eV 3) fA))))
def HR:RS:=AB (FU (e2 iB (eV 2) (ua 1)) (eV 0)) (rA 3) GR
def QW:RS:=gA (zA 1 (DE fA)) (gA (AB (kE (eV 0)) (rA 2) HR) (uA (eV 1)))
def kI:gB:=DB 1 4 QW
abbrev uh:Ou:=top 16
def fW:RE:=QB xF (eV 0)
def OW:RS:=gA (zA 4 (rE (JB (eV 0)) (rA 0) nB fW [none])) (gA (SG (e2 xE (e2 pA (e2 pA (eV 0) (eV 1)) (eV 3)) (eV 2)) (e2 pA (eV 4) (eV 1)) (eV 3)) (gA (SG (xA fP [] (bA (e2 pA (e2 pA (eV 4) (eV 1)) (eV 3)) fA)) (e2 pA (eV 4) (eV 3)) (eV 1)) (uA (eV 4))))
def jI:gB:=DB 4 5 OW
abbrev uf:Ou:=top 17
def TX:RS:=gA (zA 2 (e2 pA (e2 pA (eV 0) (e2 pA (eV 1) (ua 0))) (e2 pA (eV 1) (ua 1)))) (gA (zA 3 (e2 pA (e2 pA (eV 0) (e2 pA (eV 1) (ua 1))) (e2 pA (eV 1) (ua 2)))) (uA (e2 xE (e2 pA (e2 pA (eV 0) (e2 pA (eV 1) (ua 0))) (e2 pA (eV 1) (ua 2))) (xA ZN [] (bA (eV 2) (bA (eV 3) fA))))))
def IL:gB:=DB 2 4 TX
abbrev zf:Ou:=top 18
def VX:RS:=uA (e2 ED (xA IL [] (bA (eV 0) (bA (eV 1) fA))) (e2 pA (e2 pA (eV 0) (e2 pA (eV 1) (ua 0))) (e2 pA (eV 1) (ua 2))))
def WO:gB:=DB 2 2 VX
abbrev vf:Ou:=top 19
def UX:RS:=uA (xA jI [] (bA (eV 0) (bA (e2 pA (eV 1) (ua 0)) (bA (xA IL [] (bA (eV 0) (bA (eV 1) fA))) (bA (e2 pA (eV 1) (ua 2)) fA)))))
def VO:gB:=DB 2 2 UX
abbrev oh:Ou:=top 20
def eW:RE:=e2 (XG false) (ua 0) (eV 0)
def NW:RS:=uA (QB cN (xC (JB (eV 0)) (rA 0) nB eW [none]))
def EL:gB:=DB 1 1 NW
abbrev Kw:Ou:=top 21
def cR:RS:=VB (tf (e2 (XG true) (eV 3) (eV 0))) (gA (VC (sD (eV 2) (aB (bA (e2 pA (eV 0) (ua 0)) (bA (e2 pA (eV 0) (ua 1)) (bA (eV 3) fA)))))) (VC (sD (eV 2) (aB (bA (e2 pA (eV 0) (ua 1)) (bA (e2 pA (eV 0) (ua 0)) (bA (eV 3) fA))))))) MA
def SV:RS:=gA (zA 2 (DE fA)) (gA (AB (kE (eV 1)) (rA 3) cR) (uA (eV 2)))
def cO:gB:=DB 2 4 SV
abbrev Iw:Ou:=top 22
def iR:RE:=QB xF (eV 0)
def qJ:RS:=VB (tf (xA WO [] (bA (eV 3) (bA (eV 6) fA)))) (gA (zA 3 (xA VO [] (bA (eV 3) (bA (eV 6) fA)))) (gA (VC (sD (eV 2) (eV 6))) (gA (VB (tf (e2 aF (e2 pA (e2 pA (eV 3) (e2 pA (eV 6) (ua 0))) (e2 pA (eV 6) (ua 2))) (ua 0))) (uA (aB (bA (eC .non) (bA (eV 2) fA)))) MA) (VC (sD (eV 4) (aB (bA (e2 pA (eV 6) (ua 0)) (bA (e2 pA (eV 6) (ua 2)) fA)))))))) MA
def BN:RS:=gA (zA 5 (JP (eV 4) (ua 0))) (AB (JB (xA cO [] (bA (eV 5) (bA (QB qB (eV 0)) fA)))) (rA 6) qJ)
def xN:RT:=tf (e2 rF (eV 4) (dG fA))
def sR:RS:=gA (zA 2 (DE fA)) (gA (VB (tf (xA EL [] (bA (eV 0) fA))) (uA (aB (bA (eC .non) (bA (eV 2) fA)))) MA) (gA (zA 3 (rE (JB (eV 0)) (rA 0) nB iR [none])) (gA (zA 4 (QB xF (eV 1))) (gA (ZP 1000000 xN BN) (uA (aB (bA (eV 3) (bA (eV 2) fA))))))))
def yJ:gB:=DB 2 7 sR
abbrev Wy:Ou:=top 24
def nL:RS:=VB (tf (e2 FB (e2 pA (eV 3) (ua 0)) (eC (.str "ways")))) (zA 2 (xA jI [] (bA (eV 2) (bA (e2 pA (eV 3) (ua 1)) (bA (e2 pA (eV 3) (ua 2)) (bA (e2 pA (eV 3) (ua 3)) fA)))))) MA
def xW:RS:=gA (zA 2 (xA KP [] (bA (eV 0) fA))) (gA (AB (JB (eV 1)) (rA 3) nL) (uA (eV 2)))
def yL:gB:=DB 2 4 xW
abbrev xg:Ou:=top 25
def TV:RE:=aB (bA (e2 pA (eV 0) (ua 1)) (bA (e2 pA (eV 0) (ua 2)) (bA (e2 pA (eV 0) (ua 3)) fA)))
def uR:RT:=tf (e2 FB (e2 pA (eV 0) (ua 0)) (eC (.str "long")))
def cW:RS:=uA (xC (JB (eV 0)) (rA 0) uR TV [none])
def oO:gB:=DB 1 1 cW
abbrev Xy:Ou:=top 26
def oW:RE:=e2 pA (eV 0) (ua 1)
def BR:RT:=tf (e2 FB (e2 pA (eV 0) (ua 0)) (eC (.str "one")))
def yW:RS:=uA (xC (JB (eV 0)) (rA 0) BR oW [none])
def zL:gB:=DB 1 1 yW
abbrev Bk:Ou:=top 27
def WN:RS:=gA (zA 5 (IU (tf (e2 FB (eV 3) (eV 2))) (e2 pA (eV 4) (ua 2)) (e2 xE (eC cQ) (pN (e2 pA (eV 4) (ua 2)))))) (zA 0 (xA jI [] (bA (eV 0) (bA (e2 pA (eV 4) (ua 1)) (bA (eV 5) (bA (e2 pA (eV 4) (ua 3)) fA))))))
def kW:RS:=gA (AB (DM (eV 1)) (JD 3 4) WN) (uA (eV 0))
def MN:gB:=DB 3 6 kW
abbrev Dv:Ou:=top 28
def tN:RS:=VB (tf (e2 PM (QB qB (xA HG [] (bA (e2 pA (e2 pA (eV 0) (e2 pA (eV 1) (ua 0))) (e2 pA (eV 1) (ua 1))) fA))) (ua 1))) (uA (eV 1)) MA
def lR:RS:=gA (AB (JB (xA kI [] (bA (QB qB (eV 0)) fA))) (rA 1) tN) (uA (eC .non))
def cL:gB:=DB 1 2 lR
abbrev yh:Ou:=top 29
def iO:RE:=xA MN [] (bA (eV 1) (bA (eV 2) (bA (eV 0) fA)))
def gW:RE:=aB (bA (e2 pA (eV 0) (ua 1)) (bA (e2 pA (eV 0) (ua 3)) fA))
def jO:RE:=xA jI [] (bA (eV 1) (bA (e2 pA (eV 2) (ua 0)) (bA (e2 UF (ua 1) (eV 0)) (bA (e2 pA (eV 2) (ua 1)) fA))))
def KR:RS:=gA (VB (tf (e2 rF (eV 1) (dG fA))) (gA (zA 2 (e2 pA (eV 1) (ua 0))) (gA (zA 3 (xC (kE (QB qB (eV 2))) (rA 0) nB iO [none,ε 0,ε 2])) (uA (aB (bA (eC (.str "one")) (bA (aB fA) (bA (eV 3) (bA (xC (JB (eV 2)) (rA 0) nB gW [none]) fA)))))))) MA) (gA (zA 4 (xA cL [] (bA (eV 0) fA))) (gA (VB (tf (e2 qF (eV 4) (eC .non))) (uA (eC .non)) MA) (gA (zA 5 (e2 pA (e2 pA (eV 0) (e2 pA (eV 4) (ua 0))) (e2 pA (eV 4) (ua 1)))) (gA (zA 3 (xC (JB (xA HG [] (bA (eV 5) fA))) (rA 0) nB jO [none,ε 0,ε 4])) (uA (aB (bA (eC (.str "split")) (bA (eV 4) (bA (eV 3) (bA (dG (bA (eV 4) fA)) fA))))))))))
def mG:gB:=DB 2 6 KR
abbrev S8:Ou:=top 31
def TY:RS:=uA (e2 iB (e2 ZA (ua 2) (eV 0)) (ua 1))
def eM:gB:=DB 1 1 TY
abbrev Cw:Ou:=top 32
def DV:RS:=gA (zA 2 (e2 ZA (ua 2) (e2 pA (eV 0) (ua 0)))) (uA (DE (bA (aB (bA (eV 2) (bA (e2 iB (eV 2) (ua 1)) (bA (e2 ZA (JC (e2 pA (eV 0) (ua 1))) (eV 1)) fA)))) (bA (aB (bA (e2 iB (eV 2) (ua 1)) (bA (eV 2) (bA (e2 ZA (e2 pA (eV 0) (ua 2)) (eV 1)) fA)))) fA))))
def qL:gB:=DB 2 3 DV
abbrev Hw:Ou:=top 33
def rR:RS:=gA (zA 4 (DE fA)) (gA (VB (tf (e2 NK (QB EK (eV 3)) (eV 2))) (VC (sD (eV 4) (aB (bA (eV 0) (bA (eV 1) (bA (IU (tf (e2 YH (QB EK (eV 3)) (eV 2))) (JC (ua 1)) (ua 0)) fA)))))) MA) (gA (VB (tf (e2 GU (QB fJ (eV 3)) (eV 2))) (VC (sD (eV 4) (aB (bA (eV 1) (bA (eV 0) (bA (IU (tf (e2 PM (QB fJ (eV 3)) (eV 2))) (JC (ua 1)) (ua 0)) fA)))))) MA) (uA (eV 4))))
def xJ:gB:=DB 4 5 rR
abbrev yg:Ou:=top 34
def sL:RE:=e2 pA (xA bT [] (bA (eV 0) fA)) (eV 1)
def uL:RS:=gA (zA 5 (xC (JB (xA HG [] (bA (eV 1) fA))) (rA 0) nB sL [none,ε 4])) (gA (VC (tI (eV 3) (xA xJ [] (bA (e2 iB (e2 ZA (ua 2) (eV 0)) (eV 4)) (bA (e2 ZA (ua 2) (eV 2)) (bA (ua 1) (bA (eV 5) fA))))))) (VC (tI (eV 3) (xA xJ [] (bA (e2 iB (e2 ZA (ua 2) (eV 0)) (eV 4)) (bA (e2 iB (e2 ZA (ua 2) (eV 2)) (ua 1)) (bA (ua 3) (bA (eV 5) fA))))))))
def dW:RS:=gA (zA 3 (DE fA)) (gA (AB (kE (ua 2)) (rA 4) uL) (uA (eV 3)))
def AL:gB:=DB 3 6 dW
abbrev Vl:Ou:=top 35
def AO:RE:=aB (bA (e2 ZA (ua 2) (eV 0)) (bA (e2 iB (e2 ZA (ua 2) (eV 0)) (ua 1)) (bA (JC (ua 1)) fA)))
def sO:RS:=VC (tI (eV 2) (xA qL [] (bA (eV 3) (bA (xA eM [] (bA (QB qB (eV 0)) fA)) fA))))
def tO:RS:=VC (tI (eV 2) (xA AL [] (bA (e2 pA (eV 4) (ua 0)) (bA (e2 pA (e2 pA (eV 0) (e2 pA (eV 4) (ua 0))) (e2 pA (eV 4) (ua 1))) (bA (e2 pA (eV 4) (ua 1)) fA)))))
def bY:RS:=gA (zA 2 (rE (kE (QB qB (eV 0))) (rA 0) nB AO [none])) (gA (AB (JB (eV 1)) (rA 3) sO) (gA (AB (JB (xA kI [] (bA (QB qB (eV 0)) fA))) (rA 4) tO) (uA (eV 2))))
def YL:gB:=DB 2 5 bY
abbrev Gw:Ou:=top 36
def bR:RS:=gA (zA 3 (NQ (bA (e2 pA (eV 2) (ua 0)) (bA (e2 pA (eV 2) (ua 1)) fA)))) (sQ (EU BM (fK (eV 1) (eV 3) (e2 pA (eV 2) (ua 2))) (e2 pA (eV 2) (ua 2))) (eV 1) (eV 3))
def QV:RS:=gA (zA 1 uU) (gA (AB (JB (eV 0)) (rA 2) bR) (uA (eV 1)))
def aO:gB:=DB 1 4 QV
abbrev T8:Ou:=top 37
def pI:RS:=VB (tf (e2 PM (e2 pA (eV 1) (e2 pA (eV 4) (ua 0))) (e2 iB (e2 pA (eV 1) (e2 pA (eV 4) (ua 1))) (eV 5)))) (gA (SG (e2 iB (e2 pA (eV 1) (e2 pA (eV 4) (ua 1))) (eV 5)) (eV 1) (e2 pA (eV 4) (ua 0))) (gA (SG (e2 pA (eV 4) (ua 1)) (eV 2) (e2 pA (eV 4) (ua 0))) (zA 3 (e2 pA (eV 4) (ua 0))))) MA
def UY:RS:=gA (zA 3 (eC .non)) (gA (AB (xI (eV 0)) (JD 4 5) pI) (uA (eV 3)))
def TJ:gB:=DB 3 6 UY
abbrev Ck:Ou:=top 38
def pR:RS:=zA 0 (e2 pA (eV 1) (eV 0))
def qR:RS:=VC (sD (eV 3) (e2 pA (eV 1) (e2 pA (eV 3) (JC (ua 1)))))
def zR:RT:=tf (e2 ED (e2 pA (eV 3) (JC (ua 1))) (eV 0))
def mW:RS:=gA (AB (kE (QB qB (eV 1))) (rA 2) pR) (gA (zA 3 (DE (bA (eV 0) (bA (e2 pA (eV 1) (eV 0)) fA)))) (gA (ZP 100 zR qR) (uA (eV 3))))
def ON:gB:=DB 2 4 mW
abbrev V8:Ou:=top 39
def HL:RE:=e2 GC (eV 0) (eV 1)
def IJ:RS:=gA (zA 6 (xA TJ [] (bA (eV 2) (bA (eV 3) (bA (eV 4) fA))))) (VB (tf (e2 qF (eV 6) (eC .non))) (gA (zA 7 (vU (eV 3) (ua 0))) (uA (aB (bA (eC (.str "times")) (bA (xC (JB (eV 3)) (rA 0) nB HL [none,ε 7]) fA))))) MA)
def aT:RS:=gA (zA 2 (xA aO [] (bA (eV 1) fA))) (gA (zA 3 (vK (ua 0) (eV 0))) (gA (zA 4 (vK (eC .non) (eV 0))) (gA (AB (kE (e2 iB (eV 0) (ua 1))) (rA 5) IJ) (uA (aB (bA (eC (.str "ring")) (bA (xA ON [] (bA (eV 6) (bA (eV 4) fA))) fA)))))))
def tH:gB:=DB 2 8 aT
abbrev ZK:Ou:=WS (top 41) 0
def fR:RS:=gA (OI "Search" "lengths" (eV 0) (eV 1)) (gA (OI "Search" "most" (eV 0) (eV 2)) (OI "Search" "made" (eV 0) (ua 0)))
def fL:gB:=DB 3 3 fR
abbrev Jw:Ou:=top 42
def uN:RE:=aB (bA (e2 pA (eV 1) (eV 0)) (bA (e2 pA (eV 1) (e2 iB (eV 0) (ua 1))) fA))
def RV:RS:=uA (xC (t5 (ua 0) (QB qB (eV 0)) 2) (rA 0) nB uN [none,ε 0])
def bO:gB:=DB 1 1 RV
abbrev YK:Ou:=WS (top 41) 2
def UK (R:gB):RS:=gA (zA 6 (KI "Search" "look" R (eV 0) (bA (eV 5) (bA (e2 pA (eV 1) (ua 3)) (bA (eV 3) fA))))) (gA (VB (tf (e2 ED (e2 pA (eV 6) (ua 0)) (eC (.str "clash")))) (uA (eV 6)) MA) (VC (sD (eV 4) (e2 pA (eV 6) (ua 1)))))
def WK (R:gB):RS:=gA (zA 4 (DE fA)) (gA (AB (JB (e2 pA (eV 1) (ua 2))) (rA 5) (UK R)) (uA (aB (bA (eC (.str "clash")) (bA (e2 MI (e2 MI (aB (bA (e2 pA (eV 1) (ua 0)) (bA (eV 2) fA))) (e2 pA (eV 1) (ua 1))) (aB (bA (eV 4) fA))) fA)))))
def kH(R:gB):gB:=DB 4 7 (WK R)
abbrev vJ:Ou:=WS (top 41) 1
def uJ (R:gB):RS:=gA (zA 4 (xA yJ [] (bA (eV 1) (bA (eV 2) fA)))) (gA (zA 5 (e2 pA (eV 4) (ua 0))) (gA (zA 6 (e2 pA (eV 4) (ua 1))) (gA (VB (tf (e2 qF (eV 5) (eC .non))) (uA (aB (bA (eC (.str "clash")) (bA (aB (bA (eC (.str "threes")) (bA (eV 6) fA))) fA)))) MA) (gA (zA 7 (xA tH [] (bA (e2 ZA (ua 2) (QB qB (eV 5))) (bA (xA YL [] (bA (eV 5) (bA (TF "Search" "lengths" (eV 0)) fA))) fA)))) (gA (VB (tf (e2 FB (e2 pA (eV 7) (ua 0)) (eC (.str "ring")))) (uA (aB (bA (eC (.str "clash")) (bA (aB (bA (eC (.str "ring")) (bA (eV 6) (bA (e2 pA (eV 7) (ua 1)) fA)))) fA)))) MA) (gA (zA 8 (xA mG [] (bA (eV 5) (bA (eV 3) fA)))) (gA (VB (tf (e2 qF (eV 8) (eC .non))) (uA (aB (bA (eC (.str "laid")) (bA (xA bO [] (bA (e2 pA (eV 7) (ua 1)) fA)) fA)))) MA) (gA (VB (tf (e2 GU (TF "Search" "made" (eV 0)) (TF "Search" "most" (eV 0)))) (uA (aB (bA (eC (.str "open")) (bA (eC .non) fA)))) MA) (gA (OI "Search" "made" (eV 0) (e2 iB (TF "Search" "made" (eV 0)) (ua 1))) (uA (KI "Search" "look_at_branches" (kH R) (eV 0) (bA (eV 8) (bA (eV 6) (bA (KM (eV 3) (vG (ua 1)) jN) fA))))))))))))))
def dF(n:Nat):gB:=Nat.rec (fun _ _=>none) (fun _ R=>DB 4 9 (uJ R)) n
abbrev qI:Ou:=top 43
def ZR:RS:=gA (zA 3 (fQ "Search" fL (bA (xA oO [] (bA (eV 1) fA)) (bA (eV 2) fA)))) (gA (zA 4 (KI "Search" "look" (dF 12) (eV 3) (bA (xA yL [] (bA (eV 0) (bA (eV 1) fA))) (bA (xA kI [] (bA (eV 0) fA)) (bA (xA zL [] (bA (eV 1) fA)) fA))))) (uA (aB (bA (e2 pA (eV 4) (ua 0)) (bA (e2 pA (eV 4) (ua 1)) (bA (TF "Search" "made" (eV 3)) fA))))))
def HJ:gB:=DB 3 5 ZR
abbrev Dw:Ou:=top 45
def NV:RS:=gA (VB (tf (e2 YH (eV 1) (QB qB (eV 0)))) (uA (e2 pA (eV 0) (eV 1))) MA) (uA (ua 0))
def wJ:gB:=DB 2 2 NV
abbrev vg:Ou:=top 46
def bW:RS:=uA (BG (pF "int" (eV 0)) (qN (pF "bool" (eV 0))))
def pH:gB:=DB 1 1 bW
abbrev jg:Ou:=top 47
def YV:RS:=uA (e2 cC (e2 ZA (e2 iB (e2 cC (eV 0) (ua 2147483647)) (ua 11)) (eV 1)) (ua 2147483629))
def CG:gB:=DB 2 2 YV
abbrev wg:Ou:=top 48
def Sw:RS:=gA (zA 0 (dG (bA (aB (bA (ua 0) (bA (ua 0) fA))) (bA (aB (bA (ua 0) (bA (ua 1) fA))) (bA (aB (bA (ua 0) (bA (ua 2) fA))) (bA (aB (bA (ua 0) (bA (ua 3) fA))) (bA (aB (bA (ua 0) (bA (ua 4) fA))) (bA (aB (bA (ua 1) (bA (ua 2) fA))) (bA (aB (bA (ua 1) (bA (ua 3) fA))) fA))))))))) (uA (e2 XH (eV 0) (dG (bA (aB (bA (ua 1) (bA (ua 4) fA))) (bA (aB (bA (ua 2) (bA (ua 2) fA))) (bA (aB (bA (ua 2) (bA (ua 3) fA))) (bA (aB (bA (ua 2) (bA (ua 4) fA))) (bA (aB (bA (ua 3) (bA (ua 4) fA))) (bA (aB (bA (ua 4) (bA (ua 4) fA))) fA)))))))))
def nO:gB:=DB 0 1 Sw
abbrev Vy:Ou:=top 49
def wW:RS:=gA (VB (tf (e2 NK (eV 0) (e2 pA (eV 1) (ua 0)))) (uA (QB fG (e2 FB (eV 0) (e2 pA (eV 1) (ua 0))))) MA) (gA (VB (tf (e2 YH (eV 0) (e2 pA (eV 1) (ua 1)))) (uA (ua 2)) MA) (uA (e2 GC (ua 4) (QB fG (e2 FB (eV 0) (e2 pA (eV 1) (ua 1)))))))
def xL:gB:=DB 2 2 wW
abbrev kh:Ou:=top 50
def MW:RS:=uA (eQ (eK nO []) (aB (bA (xA xL [] (bA (e2 pA (eV 0) (ua 0)) (bA (eV 1) fA))) (bA (xA xL [] (bA (e2 pA (eV 0) (ua 1)) (bA (eV 1) fA))) fA))))
def CO:gB:=DB 2 2 MW
abbrev Ak:Ou:=top 51
def VN:RS:=VB (tf (e2 FB (e2 xE (e2 gG (eV 0) (eV 2)) (ua 1)) (ua 1))) (zA 1 (e2 iB (eV 1) (e2 UF (ua 1) (e2 GC (ua 12) (eV 2))))) MA
def jW:RS:=gA (zA 1 (ua 0)) (gA (AB (kE (ua 13)) (rA 2) VN) (uA (eV 1)))
def LN:gB:=DB 1 3 jW
abbrev Sy:Ou:=top 52
def SN:RS:=VB (tf (e2 FB (e2 xE (e2 gG (eV 0) (eV 4)) (ua 1)) (ua 1))) (zA 3 (EU iQ (eV 3) (e2 pA (e2 pA (eK nO []) (eV 4)) (eV 1)))) MA
def vW:RS:=gA (zA 3 (ua 0)) (gA (AB (kE (ua 13)) (rA 4) SN) (uA (e2 GC (e2 GC (eV 3) (ua 1)) (e2 ZA (ua 2) (eV 2)))))
def GO:gB:=DB 3 5 vW
abbrev jh:Ou:=top 53
def gO:RE:=aB (bA (e2 ZA (ua 2) (eV 0)) (bA (e2 iB (e2 ZA (ua 2) (eV 0)) (ua 1)) (bA (JC (ua 1)) fA)))
def pO:RS:=gA (VC (sD (eV 4) (aB (bA (e2 ZA (ua 2) (eV 3)) (bA (e2 iB (e2 ZA (ua 2) (eV 3)) (ua 1)) (bA (e2 ZA (JC (eV 5)) (e2 iB (e2 ZA (ua 2) (eV 2)) (ua 1))) fA)))))) (VC (sD (eV 4) (aB (bA (e2 iB (e2 ZA (ua 2) (eV 3)) (ua 1)) (bA (e2 ZA (ua 2) (eV 3)) (bA (e2 ZA (eV 6) (e2 iB (e2 ZA (ua 2) (eV 2)) (ua 1))) fA))))))
def qO:RS:=gA (zA 9 (xA GO [] (bA (e2 pA (e2 pA (eV 0) (eV 3)) (eV 7)) (bA (e2 cD (eV 8) (ua 2)) (bA (e2 cC (eV 8) (ua 2)) fA))))) (VB (zF (tf (e2 ED (eV 3) (eV 7))) (tf (e2 NK (eV 9) (ua 0)))) (VC (sD (eV 4) (aB (bA (e2 iB (e2 ZA (ua 2) (eV 3)) (e2 cD (eV 8) (ua 2))) (bA (e2 iB (e2 ZA (ua 2) (eV 7)) (e2 cC (eV 8) (ua 2))) (bA (JC (QB fG (e2 YH (eV 9) (ua 0)))) fA)))))) MA)
def rO:RS:=AB (kE (ua 4)) (rA 8) qO
def dO:RS:=AB (kE (eV 2)) (rA 7) rO
def LW:RS:=gA (zA 2 (QB qB (eV 0))) (gA (zA 4 (rE (kE (eV 2)) (rA 0) nB gO [none])) (gA (AB (JB (eV 1)) (GI 3 5 6) pO) (gA (AB (kE (eV 2)) (rA 3) dO) (uA (eV 4)))))
def BO:gB:=DB 2 10 LW
abbrev ig:Ou:=top 54
def lH:RS:=VB (zF (tf (e2 FB (e2 pA (eV 4) (ua 0)) (eV 1))) (zF (tf (e2 FB (e2 pA (eV 4) (ua 1)) (eV 2))) (HC (tf (e2 qF (eV 3) (eC .non))) (tf (e2 YH (e2 pA (eV 4) (ua 2)) (eV 3)))))) (zA 3 (e2 pA (eV 4) (ua 2))) MA
def WV:RS:=gA (zA 3 (eC .non)) (gA (AB (JB (eV 0)) (rA 4) lH) (uA (eV 3)))
def kO:gB:=DB 3 5 WV
abbrev Ry:Ou:=top 55
def DR:RS:=gA (VB (HC (aD (tf (xA pH [] (bA (e2 pA (eV 1) (eV 4)) fA)))) (aD (tf (EH NK YH (ua 0) (e2 pA (eV 1) (eV 4)) (eV 2))))) (uA (eC (.bl false))) MA) (gA (zA 5 (xA kO [] (bA (eV 0) (bA (e2 pA (eV 1) (eV 4)) (bA (e2 pA (eV 1) (e2 iB (eV 4) (ua 1))) fA))))) (gA (VB (tf (e2 qF (eV 5) (eC .non))) (uA (eC (.bl false))) MA) (zA 3 (e2 iB (eV 3) (eV 5)))))
def uW:RS:=gA (VB (HC (aD (tf (pF "list" (eV 1)))) (HC (tf (e2 YH (QB qB (eV 1)) (ua 2))) (tf (e2 ED (e2 pA (eV 1) (ua 0)) (e2 pA (eV 1) (JC (ua 1))))))) (uA (eC (.bl false))) MA) (gA (VB (tf (e2 ED (QB GP (KM (eV 1) (vG (ua 1)) jN)) (e2 GC (QB qB (eV 1)) (ua 1)))) (uA (eC (.bl false))) MA) (gA (zA 3 (ua 0)) (gA (AB (kE (e2 GC (QB qB (eV 1)) (ua 1))) (rA 4) DR) (uA (e2 YH (eV 3) (ua 0))))))
def FO:gB:=DB 3 6 uW
abbrev Aw:Ou:=top 56
def pL:RS:=gA (zA 3 (e2 cC (eV 0) (eV 1))) (gA (zA 4 (e2 cC (e2 iB (e2 iB (eV 3) (ua 1)) (e2 cC (e2 cD (eV 0) (ua 8)) (e2 GC (eV 1) (ua 1)))) (eV 1))) (gA (zA 5 (e2 cD (eV 0) (ua 64))) (gA (zA 6 (e2 GC (ua 8191) (e2 UF (ua 1) (e2 cC (eV 5) (ua 13))))) (gA (VB (tf (e2 FB (eV 2) (ua 1))) (zA 6 (e2 WH (e2 cC (eV 5) (ua 8192)) (e2 cC (e2 cD (eV 5) (ua 7)) (ua 8192)))) MA) (gA (VB (tf (e2 FB (eV 2) (ua 2))) (zA 6 (e2 WH (e2 WH (e2 UF (ua 1) (e2 cC (eV 5) (ua 13))) (e2 UF (ua 1) (e2 cC (e2 cD (eV 5) (ua 13)) (ua 13)))) (e2 UF (ua 1) (e2 cC (e2 cD (eV 5) (ua 169)) (ua 13))))) MA) (gA (VB (tf (e2 FB (eV 2) (ua 3))) (zA 6 (e2 cC (eV 5) (ua 8192))) MA) (uA (aB (bA (eC (.str "ways")) (bA (eV 3) (bA (eV 6) (bA (eV 4) fA))))))))))))
def iG:gB:=DB 3 7 pL
abbrev yw:Ou:=top 57
def gR:RS:=VC (sD (eV 6) (xA iG [] (bA (e2 cC (e2 ZA (eV 4) (e2 iB (ua 69621) (e2 ZA (e2 ZA (ua 2) (eV 7)) (eV 7)))) (ua 2147483587)) (bA (eV 1) (bA (e2 GC (ua 3) (e2 cC (eV 2) (ua 2))) fA)))))
def TN:RS:=gA (zA 4 (xA CG [] (bA (eV 0) (bA (ua 16807) fA)))) (gA (zA 5 (e2 cC (e2 cD (xA CG [] (bA (eV 0) (bA (ua 69621) fA))) (ua 16)) (ua 8))) (gA (VB (zF (tf (e2 FB (eV 5) (ua 0))) (tf (e2 PM (eV 3) (ua 0)))) (gA (zA 6 (DE fA)) (gA (AB (kE (e2 iB (ua 1) (e2 cC (eV 4) (ua 3)))) (rA 7) gR) (uA (aB (bA (eC (.str "one")) (bA (eV 6) fA)))))) MA) (gA (VB (tf (e2 FB (eV 5) (ua 1))) (gA (zA 8 (e2 cC (e2 cD (eV 4) (ua 8)) (ua 7))) (uA (aB (bA (eC (.str "long")) (bA (e2 cC (eV 4) (eV 1)) (bA (eV 8) (bA (e2 iB (eV 8) (e2 cC (e2 cD (eV 4) (ua 56)) (ua 5))) fA))))))) MA) (uA (xA iG [] (bA (eV 4) (bA (eV 1) (bA (eV 2) fA))))))))
def dI:gB:=DB 4 9 TN
abbrev Rv:Ou:=top 58
def vV:RE:=eV 0
def mR:RT:=tf (e2 FB (e2 pA (eV 0) (ua 0)) (eC (.str "one")))
def DN:RS:=gA (zA 6 (e2 GC (ua 2) (QB qB (xC (JB (eV 4)) (rA 0) mR vV [none])))) (VC (sD (eV 4) (xA dI [] (bA (eV 5) (bA (eV 1) (bA (eV 2) (bA (eV 6) fA)))))))
def EV:RS:=gA (zA 2 (e2 cC (e2 cD (xA wJ [] (bA (eV 0) (bA (ua 0) fA))) (ua 3)) (ua 3))) (gA (zA 3 (e2 pA (dG (bA (ua 66) (bA (ua 14) (bA (ua 10) fA)))) (eV 2))) (gA (zA 4 (DE fA)) (gA (AB (JB (KM (eV 0) (vG (ua 6)) (vG (eV 3)))) (rA 5) DN) (uA (eV 4)))))
def oJ:gB:=DB 2 7 EV
abbrev BJ:Ou:=top 59
def tR(R:gB):RE:=xA R [] (bA (eV 0) (bA (eV 1) (bA (eV 2) fA)))
def gI (R:gB):RS:=gA (VB (tf (e2 FB (e2 pA (eV 0) (ua 0)) (eC (.str "ways")))) (uA (e2 FB (e2 xE (e2 gG (e2 pA (eV 0) (ua 2)) (xA CO [] (bA (e2 pA (eV 1) (e2 pA (eV 0) (ua 1))) (bA (e2 pA (eV 1) (e2 pA (eV 0) (ua 3))) fA)))) (ua 1)) (ua 1))) MA) (gA (VB (tf (e2 FB (e2 pA (eV 0) (ua 0)) (eC (.str "long")))) (gA (zA 3 (e2 GC (e2 pA (e2 pA (eV 1) (e2 pA (eV 0) (ua 1))) (ua 1)) (e2 pA (e2 pA (eV 1) (e2 pA (eV 0) (ua 1))) (ua 0)))) (uA (BG (e2 NK (e2 ZA (e2 pA (eV 0) (ua 2)) (eV 2)) (eV 3)) (e2 NK (eV 3) (e2 ZA (e2 pA (eV 0) (ua 3)) (eV 2)))))) MA) (uA (e2 FB (lT (xC (JB (e2 pA (eV 0) (ua 1))) (rA 0) nB ((tR R)) [none,ε 1,ε 2]) (eC (.bl true))) (ua 1))))
def iI(n:Nat):gB:=Nat.rec (fun _ _=>none) (fun _ R=>DB 3 4 (gI R)) n
abbrev Py:Ou:=top 60
def RN:RS:=gA (VB (HC (aD (tf (pF "tuple" (eV 2)))) (HC (tf (e2 ED (QB qB (eV 2)) (ua 2))) (HC (aD (tf (xA pH [] (bA (e2 pA (eV 2) (ua 0)) fA)))) (aD (tf (xA pH [] (bA (e2 pA (eV 2) (ua 1)) fA))))))) (uA (eC (.bl false))) MA) (VB (tf (e2 GU (e2 pA (eV 2) (ua 0)) (e2 pA (eV 2) (ua 1)))) (uA (eC (.bl false))) MA)
def JN:RE:=e2 pA (eV 0) (ua 0)
def tW:RS:=gA (VB (HC (aD (tf (pF "list" (eV 0)))) (tf (e2 ED (QB qB (eV 0)) (eV 1)))) (uA (eC (.bl false))) MA) (gA (AB (JB (eV 0)) (rA 2) RN) (uA (e2 FB (QB fJ (xC (JB (eV 0)) (rA 0) nB JN [none])) (ua 0))))
def EO:gB:=DB 2 3 tW
abbrev Uy:Ou:=top 61
def NR:RS:=gA (VB (HC (aD (tf (pF "tuple" (eV 0)))) (HC (tf (e2 ED (QB qB (eV 0)) (ua 3))) (aD (tf (xA pH [] (bA (e2 pA (eV 0) (ua 2)) fA)))))) (uA (eC (.bl false))) MA) (gA (VB (tf (e2 FB (e2 pA (eV 0) (ua 0)) (eC (.str "open")))) (uA (BG (e2 qF (e2 pA (eV 0) (ua 1)) (eC .non)) (e2 FB (e2 pA (eV 0) (ua 2)) (eV 1)))) MA) (uA (BG (e2 (XG false) (e2 pA (eV 0) (ua 0)) (aB (bA (eC (.str "laid")) (bA (eC (.str "clash")) fA)))) (EH NK NK (ua 0) (e2 pA (eV 0) (ua 2)) (eV 1)))))
def mH:gB:=DB 2 2 NR
abbrev Sv:Ou:=top 62
def nR:RS:=gA (zA 5 (xA CG [] (bA (xA wJ [] (bA (eV 0) (bA (e2 iB (eV 2) (eV 4)) fA))) (bA (e2 iB (e2 iB (ua 48271) (e2 ZA (e2 ZA (ua 2) (eV 4)) (eV 4))) (e2 ZA (ua 14) (eV 2))) fA)))) (gA (zA 6 (e2 iB (e2 ZA (e2 cC (e2 cD (eV 5) (ua 7)) (ua 6)) (e2 iB (e2 ZA (ua 2) (eV 1)) (ua 1))) (e2 cC (e2 cD (eV 5) (ua 42)) (ua 2)))) (VC (sD (eV 3) (aB (bA (eV 6) (bA (e2 GC (e2 iB (eV 6) (e2 ZA (e2 iB (ua 1) (e2 cC (e2 cD (eV 5) (ua 84)) (ua 4))) (e2 iB (e2 ZA (ua 2) (eV 1)) (ua 1)))) (e2 cC (e2 cD (eV 5) (ua 336)) (ua 2))) fA))))))
def FV:RS:=gA (zA 3 (DE fA)) (gA (AB (kE (eV 1)) (rA 4) nR) (uA (eV 3)))
def vN:gB:=DB 3 7 FV
abbrev uw:Ou:=top 63
def iL:RS:=VB (aD (tf (xA (iI 3) [] (bA (eV 2) (bA (eV 1) (bA (e2 iB (e2 ZA (ua 2) (QB qB (eV 1))) (ua 1)) fA)))))) (uA (eC (.bl false))) MA
def BV:RS:=gA (AB (JB (eV 0)) (rA 2) iL) (uA (eC (.bl true)))
def cI:gB:=DB 2 3 BV
abbrev lg:Ou:=top 64
def XN:RE:=xA UO [] (bA (e2 cD (eV 0) (ua 13)) (bA (e2 cC (eV 0) (ua 13)) fA))
def ZV:RS:=uA (xC (kE (ua 169)) (rA 0) nB XN [none])
def lO:gB:=DB 0 0 ZV
abbrev Ny:Ou:=top 65
def AR:RE:=eV 0
def PN:RT:=tf (e2 FB (e2 xE (e2 gG (eV 1) (eV 0)) (ua 1)) (ua 1))
def QN:RS:=zA 3 (e2 WH (eV 3) (e2 pA (eV 0) (e2 iB (e2 ZA (ua 13) (eV 4)) (eV 6))))
def mL:RS:=VB (tf (e2 FB (e2 xE (e2 gG (eV 1) (eV 4)) (ua 1)) (ua 1))) (AB (JB (eV 5)) (rA 6) QN) MA
def sW:RS:=gA (zA 3 (ua 0)) (gA (zA 5 (xC (kE (ua 13)) (rA 0) PN AR [none,ε 2])) (gA (AB (kE (ua 13)) (rA 4) mL) (uA (eV 3))))
def wL:gB:=DB 3 7 sW
abbrev Bw:Ou:=top 66
def rV:RE:=QB xF (eV 0)
def CV:RS:=gA (zA 4 (rE (JB (eV 0)) (rA 0) nB rV [none])) (gA (SG (e2 xE (e2 pA (e2 pA (eV 4) (eV 1)) (eV 3)) (eV 2)) (e2 pA (eV 4) (eV 1)) (eV 3)) (gA (SG (xA LN [] (bA (e2 pA (e2 pA (eV 4) (eV 1)) (eV 3)) fA)) (e2 pA (eV 4) (eV 3)) (eV 1)) (uA (eV 4))))
def fI:gB:=DB 4 5 CV
abbrev cg:Ou:=top 67
def tL:RS:=VB (tf (e2 (XG false) (ua 0) (eV 1))) (uA (eC (.bl true))) MA
def FR:RS:=gA (AB (JB (eV 0)) (rA 1) tL) (uA (eC (.bl false)))
def oH:gB:=DB 1 2 FR
abbrev ug:Ou:=top 68
def vR:RS:=VB (HC (aD (tf (xA pH [] (bA (eV 2) fA)))) (aD (tf (EH NK YH (ua 0) (eV 2) (eV 1))))) (uA (eC (.bl false))) MA
def aW:RS:=gA (VB (HC (aD (tf (pF "tuple" (eV 0)))) (HC (tf (e2 ED (QB qB (eV 0)) (ua 3))) (tf (e2 ED (QB ZO (eV 0)) (ua 3))))) (uA (eC (.bl false))) MA) (gA (AB (mQ (eV 0)) (rA 2) vR) (uA (eC (.bl true))))
def mO:gB:=DB 2 3 aW
abbrev wk:Ou:=top 69
def UN:RS:=gA (VB (HC (tf (xA oH [] (bA (eV 1) fA))) (aD (tf (xA mO [] (bA (eV 3) (bA (QB qB (eV 1)) fA)))))) (uA (eC .non)) MA) (gA (WQ (GI 4 5 6) (eV 3)) (gA (zA 7 (xA wL [] (bA (eV 0) (bA (e2 pA (e2 pA (eV 1) (eV 4)) (eV 5)) (bA (e2 pA (e2 pA (eV 1) (eV 5)) (eV 6)) fA))))) (gA (VB (tf (e2 FB (e2 xE (e2 pA (e2 pA (eV 1) (eV 4)) (eV 6)) (eV 7)) (e2 pA (e2 pA (eV 1) (eV 4)) (eV 6)))) (uA (eC .non)) MA) (zA 1 (xA fI [] (bA (eV 1) (bA (eV 4) (bA (eV 7) (bA (eV 6) fA)))))))))
def iW:RS:=gA (VB (aD (tf (pF "list" (eV 2)))) (uA (eC .non)) MA) (gA (AB (JB (eV 2)) (rA 3) UN) (uA (eV 1)))
def kG:gB:=DB 3 8 iW
abbrev Uv:Ou:=top 70
def sJ:RS:=VB (zF (tf (e2 ED (eV 4) (eV 2))) (tf (e2 ED (eV 4) (eV 3)))) (gA (zA 5 (xA wL [] (bA (eV 0) (bA (e2 pA (e2 pA (eV 1) (eV 2)) (eV 4)) (bA (e2 pA (e2 pA (eV 1) (eV 4)) (eV 3)) fA))))) (VB (tf (e2 ED (e2 xE (e2 pA (e2 pA (eV 1) (eV 2)) (eV 3)) (eV 5)) (e2 pA (e2 pA (eV 1) (eV 2)) (eV 3)))) (uA (eC (.bl false))) MA)) MA
def HN:RS:=AB (kE (QB qB (eV 1))) (rA 4) sJ
def oR:RS:=AB (FU (e2 iB (eV 2) (ua 1)) (QB qB (eV 1))) (rA 3) HN
def HV:RS:=gA (AB (kE (QB qB (eV 1))) (rA 2) oR) (uA (eC (.bl true)))
def aL:gB:=DB 2 6 HV
abbrev Cv:Ou:=top 71
def jH:RS:=VB (tf (e2 ED (e2 xE (e2 pA (e2 pA (eV 0) (eV 1)) (eV 2)) (e2 GC (e2 pA (e2 pA (eV 0) (eV 1)) (eV 2)) (ua 1))) (ua 0))) (uA (aB (bA (eV 1) (bA (eV 2) fA)))) MA
def sN:RS:=AB (FU (e2 iB (eV 1) (ua 1)) (QB qB (eV 0))) (rA 2) jH
def qV:RS:=gA (AB (kE (QB qB (eV 0))) (rA 1) sN) (uA (eC .non))
def gL:gB:=DB 1 3 qV
abbrev Ew:Ou:=top 72
def pJ:RS:=gA (zA 7 (e2 pA (eV 6) (ua 2))) (gA (VB (tf (e2 ED (eV 5) (eV 3))) (zA 7 (e2 GC (ua 8191) (eV 7))) MA) (zA 4 (xA fI [] (bA (eV 4) (bA (e2 pA (eV 6) (ua 1)) (bA (eV 7) (bA (e2 pA (eV 6) (ua 3)) fA)))))))
def jR:RS:=gA (zA 4 (eV 0)) (gA (AB (DM (eV 1)) (JD 5 6) pJ) (VC (sD (eV 2) (eV 4))))
def OV:RS:=gA (zA 2 (DE fA)) (gA (AB (kE (QB qB (eV 1))) (rA 3) jR) (uA (eV 2)))
def YN:gB:=DB 2 8 OV
abbrev rL:Ou:=top 73
def tJ(R:gB):RS:=gA (zA 8 (xA R [] (bA (eV 0) (bA (eV 6) (bA (eV 2) (bA (eV 3) (bA (eV 7) fA))))))) (gA (VB (tf (e2 YH (eV 8) (ua 0))) (uA (JC (ua 1))) MA) (zA 5 (e2 iB (eV 5) (eV 8))))
def yR (R:gB):RS:=gA (VB (HC (aD (tf (pF "list" (eV 4)))) (tf (e2 ED (QB qB (eV 4)) (QB qB (eV 1))))) (uA (JC (ua 1))) MA) (gA (zA 5 (ua 1)) (gA (AB (PQ (eV 1) (eV 4)) (JD 6 7) (tJ R)) (uA (eV 5))))
def rJ(R:gB):gB:=DB 5 9 (yR R)
abbrev AJ:Ou:=top 74
def KN(R:gB):RE:=eV 0
def lL(R:gB):RT:=tf (e2 aF (e2 xE (e2 gG (e2 pA (e2 pA (eV 1) (e2 pA (eV 2) (ua 0))) (e2 pA (eV 2) (ua 1))) (eV 0)) (ua 1)) (ua 1))
def kL(R:gB):RE:=xA fI [] (bA (eV 1) (bA (e2 pA (eV 2) (ua 0)) (bA (e2 UF (ua 1) (eV 0)) (bA (e2 pA (eV 2) (ua 1)) fA))))
def jG (R:gB):RS:=gA (VB (HC (aD (tf (pF "tuple" (eV 4)))) (tf (e2 YH (QB qB (eV 4)) (ua 2)))) (uA (JC (ua 1))) MA) (gA (zA 5 (xA kG [] (bA (eV 0) (bA (eV 1) (bA (e2 pA (eV 4) (ua 1)) fA))))) (gA (VB (tf (e2 qF (eV 5) (eC .non))) (uA (JC (ua 1))) MA) (gA (VB (tf (e2 aF (e2 pA (eV 4) (ua 0)) (eC (.str "threes")))) (uA (e2 GC (QB fG (BG (e2 aF (QB qB (eV 4)) (ua 2)) (xA oH [] (bA (eV 5) fA)))) (ua 1))) MA) (gA (VB (HC (tf (xA oH [] (bA (eV 5) fA))) (aD (tf (xA aL [] (bA (eV 0) (bA (eV 5) fA)))))) (uA (JC (ua 1))) MA) (gA (VB (zF (tf (e2 aF (e2 pA (eV 4) (ua 0)) (eC (.str "ring")))) (tf (e2 aF (QB qB (eV 4)) (ua 3)))) (uA (e2 GC (QB fG (xA FO [] (bA (xA BO [] (bA (eV 5) (bA (eV 3) fA))) (bA (e2 pA (eV 4) (ua 2)) (bA (e2 ZA (ua 2) (QB qB (eV 5))) fA))))) (ua 1))) MA) (gA (VB (zF (tf (e2 aF (e2 pA (eV 4) (ua 0)) (eC (.str "one")))) (zF (tf (e2 aF (QB qB (eV 4)) (ua 3))) (tf (e2 PM (QB qB (eV 2)) (ua 0))))) (uA (xA (rJ R) [] (bA (eV 0) (bA (xA YN [] (bA (eV 5) (bA (e2 pA (eV 2) (ua 0)) fA))) (bA (KM (eV 2) (vG (ua 1)) jN) (bA (eV 3) (bA (e2 pA (eV 4) (ua 2)) fA))))))) MA) (gA (zA 6 (xA gL [] (bA (eV 5) fA))) (gA (VB (HC (tf (e2 rF (e2 pA (eV 4) (ua 0)) (eC (.str "split")))) (HC (tf (e2 rF (QB qB (eV 4)) (ua 5))) (HC (tf (e2 PM (QB qB (eV 2)) (ua 0))) (HC (tf (e2 qF (eV 6) (eC .non))) (tf (e2 rF (bN (eV 4) (vG (ua 2)) (vG (ua 4))) (eV 6))))))) (uA (JC (ua 1))) MA) (gA (zA 7 (xC (kE (ua 13)) (rA 0) ((lL R)) ((KN R)) [none,ε 5,ε 6])) (gA (zA 8 (xC (JB (eV 7)) (rA 0) nB ((kL R)) [none,ε 5,ε 6])) (uA (xA (rJ R) [] (bA (eV 0) (bA (eV 8) (bA (eV 2) (bA (eV 3) (bA (e2 pA (eV 4) (ua 4)) fA)))))))))))))))))
def JO(n:Nat):gB:=Nat.rec (fun _ _=>none) (fun _ R=>DB 5 9 (jG R)) n
abbrev Tv:Ou:=top 75
def bL:RE:=e2 GC (ua 8191) (e2 ZA (ua 8127) (QB fG (e2 FB (eV 1) (eV 0))))
def CN:RE:=rE (kE (eV 1)) (rA 0) nB bL [none,ε 0]
def dL:RS:=VB (tf (e2 FB (e2 pA (eV 3) (ua 0)) (eC (.str "ways")))) (zA 2 (xA fI [] (bA (eV 2) (bA (e2 pA (eV 3) (ua 1)) (bA (e2 pA (eV 3) (ua 2)) (bA (e2 pA (eV 3) (ua 3)) fA)))))) MA
def GV:RS:=gA (zA 2 (rE (kE (eV 0)) (rA 0) nB CN [none,ε 0])) (gA (AB (JB (eV 1)) (rA 3) dL) (uA (eV 2)))
def wN:gB:=DB 2 4 GV
abbrev tQ:Ou:=top 76
def CP:RS:=VB (tf (xA cI [] (bA (eV 2) (bA (xA vN [] (bA (eV 0) (bA (eV 1) (bA (eV 6) fA)))) fA)))) (uA (eC (.bl false))) MA
def zP:RE:=aB (bA (e2 pA (eV 0) (ua 1)) (bA (e2 pA (eV 0) (ua 2)) (bA (e2 pA (eV 0) (ua 3)) fA)))
def jM:RT:=tf (e2 FB (e2 pA (eV 0) (ua 0)) (eC (.str "long")))
def BP:RE:=e2 pA (eV 0) (ua 1)
def kM:RT:=tf (e2 FB (e2 pA (eV 0) (ua 0)) (eC (.str "one")))
def sK:RS:=gA (zA 1 (e2 iB (ua 2) (e2 cC (xA wJ [] (bA (eV 0) (bA (ua 0) fA))) (ua 3)))) (gA (zA 2 (xA oJ [] (bA (eV 0) (bA (eV 1) fA)))) (gA (zA 3 (xA oJ [] (bA (eV 0) (bA (eV 1) fA)))) (gA (zA 4 (e2 pA (dG (bA (ua 6) (bA (ua 6) (bA (ua 2) fA)))) (e2 GC (eV 1) (ua 2)))) (gA (zA 5 (xA HJ [] (bA (eV 1) (bA (eV 3) (bA (eV 4) fA))))) (gA (VB (HC (tf (e2 hJ (eV 3) (eV 2))) (aD (tf (xA mH [] (bA (eV 5) (bA (eV 4) fA)))))) (uA (eC (.bl false))) MA) (gA (VB (tf (e2 FB (e2 pA (eV 5) (ua 0)) (eC (.str "open")))) (uA (eC (.bl true))) MA) (gA (VB (tf (e2 FB (e2 pA (eV 5) (ua 0)) (eC (.str "laid")))) (uA (BG (xA EO [] (bA (e2 pA (eV 5) (ua 1)) (bA (eV 1) fA))) (xA cI [] (bA (eV 2) (bA (e2 pA (eV 5) (ua 1)) fA))))) MA) (gA (AB (kE (ua 12)) (rA 6) CP) (gA (zA 7 (xC (JB (eV 2)) (rA 0) jM zP [none])) (gA (zA 8 (xC (JB (eV 2)) (rA 0) kM BP [none])) (uA (e2 FB (xA (JO 12) [] (bA (eK lO []) (bA (xA wN [] (bA (eV 1) (bA (eV 2) fA))) (bA (eV 8) (bA (eV 7) (bA (e2 pA (eV 5) (ua 1)) fA)))))) (e2 pA (eV 5) (ua 2))))))))))))))
def LH:gB:=DB 1 9 sK
structure X4(K:Frag)(mg:Str->Option Value)(h:Heap)(cw:Addr)(gy:Value)(gz:Addr)(hE:Addr)(hF:Value):Prop where
 X:K.In h
 G:h.Ns mainGlobals mg
 q0:VM K "Search" cw
 q1:findIn K (.ref cw) "lengths" =ε none
 q2:findIn K (.ref cw) "most" =ε none
 q3:findIn K (.ref cw) "made" =ε none
 q4:SA K "zones" W8
 q5:SA K "ways_in" Af
 q6:SA K "set_of" Xl
 q7:SA K "turned" Yl
 q8:SA K "chained" jf
 q9:SA K "chained_sets" Fw
 qa:SA K "wide_row" Ah
 qb:SA K "wide" zx
 qc:SA K "pairs_of" vh
 qd:SA K "narrowed" uh
 qe:SA K "left_by" uf
 qf:SA K "narrows" zf
 qg:SA K "made_of" vf
 qh:SA K "is_empty" oh
 qi:SA K "threes_along" Kw
 qj:SA K "rounded_from" Iw
 qk:SA K "first_net" Wy
 ql:SA K "lengths_in" xg
 qm:SA K "groups_in" Xy
 qn:SA K "only_member" Bk
 qo:SA K "first_loose_pair" Dv
 qp:SA K "split_of" yh
 qq:SA K "grain" S8
 qr:SA K "length_bounds" Cw
 qs:SA K "point_bounds" Hw
 qt:SA K "set_bounds" yg
 qu:SA K "bounds" Vl
 qv:SA K "least_bounds" Gw
 qw:SA K "moved" T8
 qx:SA K "ring_behind" Ck
 qy:SA K "timed" V8
 qz:xM K cw "__init__" "Search.__init__" ZK
 Q0:xM K cw "look" "Search.look" vJ
 Q1:xM K cw "look_at_branches" "Search.look_at_branches" YK
 Q2:SA K "stretches_at" Jw
 Q3:Y3 K "planned" qI 200
 Q4:SA K "_law_cell_at" Dw
 Q5:SA K "_law_whole" vg
 Q6:SA K "_law_mixed" jg
 Q7:SA K "_law_zones" wg
 Q8:SA K "_law_zone" Vy
 Q9:SA K "_law_way" kh
 Qa:SA K "_law_turned" Ak
 Qb:SA K "_law_side" Sy
 Qc:SA K "_law_due" jh
 Qd:SA K "_law_least" ig
 Qe:SA K "_law_ring" Ry
 Qf:SA K "_law_any_ways" Aw
 Qg:SA K "_law_any_fact" yw
 Qh:SA K "_law_any_facts" Rv
 Qi:SA K "_law_keeps" BJ
 Qj:SA K "_law_plan" Py
 Qk:SA K "_law_told" Uy
 Ql:SA K "_law_any_spans" Sv
 Qm:SA K "_law_all_kept" uw
 Qn:SA K "_law_table" lg
 Qo:SA K "_law_both" Ny
 Qp:SA K "_law_narrowed" Bw
 Qq:SA K "_law_empty" cg
 Qr:SA K "_law_three" ug
 Qs:SA K "_law_behind" wk
 Qt:SA K "_law_is_closed" Uv
 Qu:SA K "_law_first_wide" Cv
 Qv:SA K "_law_members" Ew
 Qw:SA K "_law_branches" rL
 Qx:SA K "_law_tree" AJ
 Qy:SA K "_law_first_net" Tv
 Qz:SA K "law" tQ
 U0:nsIn K mainGlobals "any" =ε none
 U1:nsIn K mainGlobals "bool" =ε none
 U2:nsIn K mainGlobals "enumerate" =ε none
 U3:nsIn K mainGlobals "int" =ε none
 U4:nsIn K mainGlobals "isinstance" =ε none
 U5:nsIn K mainGlobals "len" =ε none
 U6:nsIn K mainGlobals "list" =ε none
 U7:nsIn K mainGlobals "max" =ε none
 U8:nsIn K mainGlobals "min" =ε none
 U9:nsIn K mainGlobals "range" =ε none
 Ua:nsIn K mainGlobals "set" =ε none
 Ub:nsIn K mainGlobals "sum" =ε none
 Uc:nsIn K mainGlobals "tuple" =ε none
 Ud:nsIn K mainGlobals "zip" =ε none
 Ue:nsIn K mainGlobals "ALL" =ε (ε gy)
 Uf:CD K 6 gy=ε cQ
 Ug:nsIn K mainGlobals "ZONES" =ε (ε (.ref gz))
 Uh:CD K 6 (.ref gz)=ε WY
 Ui:nsIn K mainGlobals "CHAINED" =ε (ε (.ref hE))
 Uj:CD K 6 (.ref hE)=ε aS
 Uk:nsIn K mainGlobals "SAME" =ε (ε hF)
 Ul:CD K 6 hF=ε X0
section
variable{P:Oo}{w:O4}{K:Oi}{a:Str->Ni Mu}
theorem pV:Ze (Dn ZK 3) (Dn ZK 3) (sB ZK):=zG
theorem oV:Ze (Dn YK 7) (Dn YK 4) (sB YK):=zG
theorem MV:Ze (Dn vJ 9) (Dn vJ 4) (sB vJ):=zG
theorem dX:Ze (Dn qI 5) (Dn qI 3) (sB qI):=zG
theorem VV:Ze (Dn BJ 4) (Dn BJ 3) (sB BJ):=zG
theorem AV:Ze (Dn rL 9) (Dn rL 5) (sB rL):=zG
theorem GW:Ze (Dn AJ 9) (Dn AJ 5) (sB AJ):=zG
theorem X2:Ze (Dn tQ 9) ["_law_script"] (sB tQ):=zG
theorem cT{h:Pu}{j:Oa}{g:Mu}{d:Oa}{l:Oa}{i:Mu}(T:X4 K a h j g d l i){b:Pu}{x:Str}{st:Ou}{k n m:Nat}{body:RS}(D:SA K x st)(B:∀{f:Oa}{e:Mu}{A:Pa}{outer:Ms Env}{s:Nu}{H:Hp}{E:XK},(Dn st m).Nodup->Xu k (A.deeper (envOfC x (sB st) s.heap.objs.size f e))->RH (YE PF P w K a b (Dn st m) x (sB st) f e A outer s H E).nox (RC st) body)(y:∀(kV o q:Mu)(C:Ni Oa)(e ct:Mu)(us:Ms Mu),us.length=n->bindArgs (fnOf x x (IE st) (RC st) (sB st) .none kV o q C e ct) ⟨us,[]⟩=pure (((Dn st m).take n).zip us):=by intro _ _ _ _ _ _;first | exact GK rfl | exact len1 fun z=>rfl | exact HK fun z z=>rfl | exact gH fun z z z=>rfl | exact IK fun z z z z=>rfl | exact JK fun z z z z z=>rfl | exact M6 fun z z z z z z=>rfl)(S:Ze (Dn st m) ((Dn st m).take n) (sB st):=by exact zG)(p:autoParam (((Dn st m).take n).length=n) Æ)(u:autoParam ((Dn st m).length=m) Æ):YB P w K a b (k+1) n x (DB n m body):=LP (UJ T.X T.G D (by rw[p];exact y)) S p u fun z z z z z z z r=>B S.nd r
theorem zN{h:Pu}{j:Oa}{g:Mu}{d:Oa}{l:Oa}{i:Mu}(T:X4 K a h j g d l i){x:Str}(e:nsIn K mainGlobals x=ε none):a x=none:=mg_none_of T.X T.G e
variable{h:Pu}{j:Oa}{g:Mu}{d:Oa}{l:Oa}{i:Mu}(T:X4 K a h j g d l i){b:Pu}
include T
theorem Zr:YB P w K a b 1 1 "zones" bT:=cT T T.q4 fun S r=>lA (yA (eA (wI rfl (⟨⟨_,6,PySem.W.mg_of T.X T.G T.Ug,T.Uh⟩⟩)) (aA 0)))
theorem zJ:YB P w K a b 1 1 "ways_in" HG:=cT T T.q5 fun S r=>lA (yA (uF (AC rfl (zN T T.U9) cA) (ZE 0) (FH (HA (hC r.units) (iA gF (iA AI (aA 1) (aA 0)) cA) cA)) (aA 0)))
theorem Fg:YB P w K a b 1 1 "set_of" dP:=cT T T.q6 fun S r=>lA (yA (N7 rfl rfl (zN T T.Ub) (uF (dC (aA 0)) (ZE 0) (uD) (iA zH cA (aA 0)))))
theorem Gg:YB P w K a b 2 1 "turned" fP:=cT T T.q7 fun S r=>lA (yA (LA (Fg T) r (jE (uF (dC (LA (zJ T) r (jE (aA 0)))) (ZE 0) (uD) (iA mD cA (aA 0))))))
theorem zy:YB P w K a b 1 2 "chained" UO:=cT T T.q8 fun S r=>lA (yA (eA (eA (wI rfl (⟨⟨_,6,PySem.W.mg_of T.X T.G T.Ui,T.Uj⟩⟩)) (aA 0)) (aA 1)))
theorem Tz:YB P w K a b 2 2 "chained_sets" ZN:=cT T T.q9 fun S r=>jA (CA 2 S (LA (zJ T) r (jE (aA 1)))) (jA (CA 3 S cA) (jA (GB nq rfl (dC (LA (zJ T) r (jE (aA 0)))) (NB 4 S) (lA (GB nq rfl (dC (aA 2)) (NB 5 S) (lA (CA 3 S (iA qM (aA 3) (eA (eA (wI rfl (⟨⟨_,6,PySem.W.mg_of T.X T.G T.Ui,T.Uj⟩⟩)) (aA 4)) (aA 5)))))))) (lA (yA (aA 3)))))
theorem Lk:YB P w K a b 1 2 "wide_row" DO:=cT T T.qa fun S r=>lA (yA (iA kr (iA P1 (J0 (wI rfl (⟨⟨_,6,PySem.W.mg_of T.X T.G T.Ue,T.Uf⟩⟩)) (aA 1)) (GH (jE (wI rfl (⟨⟨_,6,PySem.W.mg_of T.X T.G T.Uk,T.Ul⟩⟩))))) (J0 (wI rfl (⟨⟨_,6,PySem.W.mg_of T.X T.G T.Ue,T.Uf⟩⟩)) (iA mD (iA mD (aA 0) (aA 1)) cA))))
theorem Yc:YB P w K a b 2 1 "wide" KP:=cT T T.qb fun S r=>lA (yA (yX (AC rfl (zN T T.U9) (aA 0)) (ZE 0) (uD) (LA (Lk T) r (bC (aA 1) (aA 0)))))
theorem IR:YB P w K a b 1 1 "pairs_of" kI:=cT T T.qc fun S r=>jA (CA 1 S (NF iF)) (jA (GB nq rfl (AC rfl (zN T T.U9) (aA 0)) (NB 2 S) (lA (GB nq rfl (WR rfl (zN T T.U9) (iA KB (aA 2) cA) (aA 0)) (NB 3 S) (lA (ID (pE (aA 1) (oB (bC (aA 2) (aA 3))))))))) (lA (yA (aA 1))))
theorem fO:YB P w K a b 3 4 "narrowed" jI:=cT T T.qd fun S r=>jA (CL 4 S (dC (aA 0)) (ZE 0) (uD) (OO rfl (zN T T.U6) (aA 0))) (jA (SJ (iA gF (eA (eA (aA 0) (aA 1)) (aA 3)) (aA 2)) (eA (aA 4) (aA 1)) (aA 3)) (jA (SJ (LA (Gg T) r (jE (eA (eA (aA 4) (aA 1)) (aA 3)))) (eA (aA 4) (aA 3)) (aA 1)) (lA (yA (aA 4)))))
theorem zW:YB P w K a b 3 2 "left_by" IL:=cT T T.qe fun S r=>jA (CA 2 S (eA (eA (aA 0) (eA (aA 1) cA)) (eA (aA 1) cA))) (jA (CA 3 S (eA (eA (aA 0) (eA (aA 1) cA)) (eA (aA 1) cA))) (lA (yA (iA gF (eA (eA (aA 0) (eA (aA 1) cA)) (eA (aA 1) cA)) (LA (Tz T) r (bC (aA 2) (aA 3)))))))
theorem Cy:YB P w K a b 4 2 "narrows" WO:=cT T T.qf fun S r=>lA (yA (eE (fE r.units) (LA (zW T) r (bC (aA 0) (aA 1))) (eA (eA (aA 0) (eA (aA 1) cA)) (eA (aA 1) cA))))
theorem Ay:YB P w K a b 4 2 "made_of" VO:=cT T T.qg fun S r=>lA (yA (LA (fO T) r (cG (aA 0) (eA (aA 1) cA) (LA (zW T) r (bC (aA 0) (aA 1))) (eA (aA 1) cA))))
theorem Ik:YB P w K a b 1 1 "is_empty" EL:=cT T T.qh fun S r=>lA (yA (F8 rfl rfl (zN T T.U0) (uF (dC (aA 0)) (ZE 0) (uD) (eE jU cA (aA 0)))))
theorem Xz:YB P w K a b 1 2 "threes_along" cO:=cT T T.qi fun S r=>jA (CA 2 S (NF iF)) (jA (GB nq rfl (AC rfl (zN T T.U9) (aA 1)) (NB 3 S) (lA (YA (HA kq (aA 3) (aA 0)) (jA (ID (pE (aA 2) (oB (ZD (eA (aA 0) cA) (eA (aA 0) cA) (aA 3))))) (lA (ID (pE (aA 2) (oB (ZD (eA (aA 0) cA) (eA (aA 0) cA) (aA 3))))))) VA))) (lA (yA (aA 2))))
theorem Vz:YB P w K a b 5 2 "rounded_from" yJ:=cT T T.qj fun S r=>jA (CA 2 S (NF iF)) (jA (YA (pD (LA (Ik T) r (jE (aA 0)))) (lA (yA (oB (bC vD (aA 2))))) VA) (jA (CL 3 S (dC (aA 0)) (ZE 0) (uD) (OO rfl (zN T T.U6) (aA 0))) (jA (CA 4 S (OO rfl (zN T T.U6) (aA 1))) (jA (dZ nq (HA (kK r.units) (aA 4) (GH iF)) (jA (CA 5 S (Jc (aA 4) cA)) (lA (GB nq rfl (dC (LA (Xz T) r (bC (aA 5) (UB rfl (zN T T.U5) (aA 0))))) (NB 6 S) (lA (YA (pD (LA (Cy T) r (bC (aA 3) (aA 6)))) (jA (CA 3 S (LA (Ay T) r (bC (aA 3) (aA 6)))) (jA (ID (pE (aA 2) (aA 6))) (jA (YA (HA (yH r.units) (eA (eA (aA 3) (eA (aA 6) cA)) (eA (aA 6) cA)) cA) (lA (yA (oB (bC vD (aA 2))))) VA) (lA (ID (pE (aA 4) (oB (bC (eA (aA 6) cA) (eA (aA 6) cA))))))))) VA)))))) (lA (yA (oB (bC (aA 3) (aA 2)))))))))
theorem Xw:YB P w K a b 4 2 "first_net" yL:=cT T T.qk fun S r=>jA (CA 2 S (LA (Yc T) r (jE (aA 0)))) (jA (GB nq rfl (dC (aA 1)) (NB 3 S) (lA (YA (HA (hC r.units) (eA (aA 3) cA) jC) (lA (CA 2 S (LA (fO T) r (cG (aA 2) (eA (aA 3) cA) (eA (aA 3) cA) (eA (aA 3) cA))))) VA))) (lA (yA (aA 2))))
theorem bw:YB P w K a b 1 1 "lengths_in" oO:=cT T T.ql fun S r=>lA (yA (uF (dC (aA 0)) (ZE 0) (FH (HA (hC r.units) (eA (aA 0) cA) jC)) (oB (ZD (eA (aA 0) cA) (eA (aA 0) cA) (eA (aA 0) cA)))))
theorem Yw:YB P w K a b 1 1 "groups_in" zL:=cT T T.qm fun S r=>lA (yA (uF (dC (aA 0)) (ZE 0) (FH (HA (hC r.units) (eA (aA 0) cA) jC)) (eA (aA 0) cA)))
theorem Mv:YB P w K a b 4 3 "only_member" MN:=cT T T.qn fun S r=>jA (GB nq rfl (UZ rfl (zN T T.U2) (aA 1)) (RP 3 4 rfl S) (jA (CA 5 S (wU (HA (hC r.units) (aA 3) (aA 2)) (eA (aA 4) cA) (iA gF (wI rfl (⟨⟨_,6,PySem.W.mg_of T.X T.G T.Ue,T.Uf⟩⟩)) (K7 (eA (aA 4) cA))))) (lA (CA 0 S (LA (fO T) r (cG (aA 0) (eA (aA 4) cA) (aA 5) (eA (aA 4) cA))))))) (lA (yA (aA 0)))
theorem Lz:YB P w K a b 2 1 "first_loose_pair" cL:=cT T T.qo fun S r=>jA (GB nq rfl (dC (LA (IR T) r (jE (UB rfl (zN T T.U5) (aA 0))))) (NB 1 S) (lA (YA (HA qK (UB rfl (zN T T.U5) (LA (zJ T) r (jE (eA (eA (aA 0) (eA (aA 1) cA)) (eA (aA 1) cA))))) cA) (lA (yA (aA 1))) VA))) (lA (yA vD))
theorem Jk:YB P w K a b 5 2 "split_of" mG:=cT T T.qp fun S r=>jA (YA (HA (kK r.units) (aA 1) (GH iF)) (jA (CA 2 S (eA (aA 1) cA)) (jA (nH 3 S (AC rfl (zN T T.U9) (UB rfl (zN T T.U5) (aA 2))) (ZE 0) (uD) (LA (Mv T) r (ZD (aA 1) (aA 2) (aA 0)))) (lA (yA (oB (cG jC (oB iF) (aA 3) (uF (dC (aA 2)) (ZE 0) (uD) (oB (bC (eA (aA 0) cA) (eA (aA 0) cA)))))))))) VA) (jA (CA 4 S (LA (Lz T) r (jE (aA 0)))) (jA (YA (HA MG (aA 4) vD) (lA (yA vD)) VA) (jA (CA 5 S (eA (eA (aA 0) (eA (aA 4) cA)) (eA (aA 4) cA))) (jA (nH 3 S (dC (LA (zJ T) r (jE (aA 5)))) (ZE 0) (uD) (LA (fO T) r (cG (aA 1) (eA (aA 2) cA) (iA zH cA (aA 0)) (eA (aA 2) cA)))) (lA (yA (oB (cG jC (aA 4) (aA 3) (GH (jE (aA 4)))))))))))
theorem Wr:YB P w K a b 1 1 "grain" eM:=cT T T.qq fun S r=>lA (yA (iA KB (iA OB cA (aA 0)) cA))
theorem Zz:YB P w K a b 1 2 "length_bounds" qL:=cT T T.qr fun S r=>jA (CA 2 S (iA OB cA (eA (aA 0) cA))) (lA (yA (NF (bC (oB (ZD (aA 2) (iA KB (aA 2) cA) (iA OB (sE (eA (aA 0) cA)) (aA 1)))) (oB (ZD (iA KB (aA 2) cA) (aA 2) (iA OB (eA (aA 0) cA) (aA 1))))))))
theorem IV:YB P w K a b 1 4 "point_bounds" xJ:=cT T T.qs fun S r=>jA (CA 4 S (NF iF)) (jA (YA (HA UG (I0 rfl rfl (zN T T.U7) (aA 3)) (aA 2)) (lA (ID (pE (aA 4) (oB (ZD (aA 0) (aA 1) (wU (HA ZF (I0 rfl rfl (zN T T.U7) (aA 3)) (aA 2)) (sE cA) cA)))))) VA) (jA (YA (HA iU (ST rfl rfl (zN T T.U8) (aA 3)) (aA 2)) (lA (ID (pE (aA 4) (oB (ZD (aA 1) (aA 0) (wU (HA qK (ST rfl rfl (zN T T.U8) (aA 3)) (aA 2)) (sE cA) cA)))))) VA) (lA (yA (aA 4)))))
theorem dw:YB P w K a b 2 3 "set_bounds" AL:=cT T T.qt fun S r=>jA (CA 3 S (NF iF)) (jA (GB nq rfl (AC rfl (zN T T.U9) cA) (NB 4 S) (jA (nH 5 S (dC (LA (zJ T) r (jE (aA 1)))) (ZE 0) (uD) (eA (LA (Zr T) r (jE (aA 0))) (aA 1))) (jA (ID (NO (aA 3) (LA (IV T) r (cG (iA KB (iA OB cA (aA 0)) (aA 4)) (iA OB cA (aA 2)) cA (aA 5))))) (lA (ID (NO (aA 3) (LA (IV T) r (cG (iA KB (iA OB cA (aA 0)) (aA 4)) (iA KB (iA OB cA (aA 2)) cA) cA (aA 5))))))))) (lA (yA (aA 3))))
theorem Dg:YB P w K a b 3 2 "bounds" YL:=cT T T.qu fun S r=>jA (CL 2 S (AC rfl (zN T T.U9) (UB rfl (zN T T.U5) (aA 0))) (ZE 0) (uD) (oB (ZD (iA OB cA (aA 0)) (iA KB (iA OB cA (aA 0)) cA) (sE cA)))) (jA (GB nq rfl (dC (aA 1)) (NB 3 S) (lA (ID (NO (aA 2) (LA (Zz T) r (bC (aA 3) (LA (Wr T) r (jE (UB rfl (zN T T.U5) (aA 0)))))))))) (jA (GB nq rfl (dC (LA (IR T) r (jE (UB rfl (zN T T.U5) (aA 0))))) (NB 4 S) (lA (ID (NO (aA 2) (LA (dw T) r (ZD (eA (aA 4) cA) (eA (eA (aA 0) (eA (aA 4) cA)) (eA (aA 4) cA)) (eA (aA 4) cA))))))) (lA (yA (aA 2)))))
theorem Uz:YB P w K a b 1 1 "least_bounds" aO:=cT T T.qv fun S r=>jA (CA 1 S lj) (jA (GB nq rfl (dC (aA 0)) (NB 2 S) (jA (CA 3 S (M7 (bC (eA (aA 2) cA) (eA (aA 2) cA)))) (lA (Z7 r.units (la rfl rfl (zN T T.U8) (Dc r.units (aA 1) (aA 3) (eA (aA 2) cA)) (eA (aA 2) cA)) (aA 1) (aA 3))))) (lA (yA (aA 1))))
theorem Xr:YB P w K a b 1 3 "moved" TJ:=cT T T.qw fun S r=>jA (CA 3 S vD) (jA (GB nq rfl (Bp (aA 0)) (RP 4 5 rfl S) (lA (YA (HA qK (eA (aA 1) (eA (aA 4) cA)) (iA KB (eA (aA 1) (eA (aA 4) cA)) (aA 5))) (jA (SJ (iA KB (eA (aA 1) (eA (aA 4) cA)) (aA 5)) (aA 1) (eA (aA 4) cA)) (jA (SJ (eA (aA 4) cA) (aA 2) (eA (aA 4) cA)) (lA (CA 3 S (eA (aA 4) cA))))) VA))) (lA (yA (aA 3))))
theorem Nv:YB P w K a b 1 2 "ring_behind" ON:=cT T T.qx fun S r=>jA (GB nq rfl (AC rfl (zN T T.U9) (UB rfl (zN T T.U5) (aA 1))) (NB 2 S) (lA (CA 0 S (eA (aA 1) (aA 0))))) (jA (CA 3 S (NF (bC (aA 0) (eA (aA 1) (aA 0))))) (jA (dZ nq (HA (fE r.units) (eA (aA 3) (sE cA)) (aA 0)) (lA (ID (pE (aA 3) (eA (aA 1) (eA (aA 3) (sE cA))))))) (lA (yA (aA 3)))))
theorem Yr:YB P w K a b 2 2 "timed" tH:=cT T T.qy fun S r=>jA (CA 2 S (LA (Uz T) r (jE (aA 1)))) (jA (CA 3 S (NZ cA (aA 0))) (jA (CA 4 S (NZ vD (aA 0))) (jA (GB nq rfl (AC rfl (zN T T.U9) (iA KB (aA 0) cA)) (NB 5 S) (jA (CA 6 S (LA (Xr T) r (ZD (aA 2) (aA 3) (aA 4)))) (lA (YA (HA MG (aA 6) vD) (jA (CA 7 S (lr rfl rfl (zN T T.U8) (aA 3) cA)) (lA (yA (oB (bC jC (uF (dC (aA 3)) (ZE 0) (uD) (iA mD (aA 0) (aA 1)))))))) VA)))) (lA (yA (oB (bC jC (LA (Nv T) r (bC (aA 6) (aA 4))))))))))
theorem Hy:BQ P w K a b 1 3 "Search" fL:=
 by unfold fL;exact lx (k:=0) (body:=fR) (Dp (ps:=Dn ZK 3) T.X T.G T.q0 T.qz fun q q q q q q=>gH (fun q q q=>rfl)) pV rfl rfl fun q q q q q q q r=>have S:=Ze.nd pV;jA (NP (IG T.q0 T.q1) (aA 0) (aA 1)) (jA (NP (IG T.q0 T.q2) (aA 0) (aA 2)) (lA (NP (IG T.q0 T.q3) (aA 0) cA)))
theorem Wz:YB P w K a b 1 1 "stretches_at" bO:=cT T T.Q2 fun S r=>lA (yA (uF (Gd (c:=2) rfl (zN T T.U9) cA (UB rfl (zN T T.U5) (aA 0)) cA) (ZE 0) (uD) (oB (bC (eA (aA 1) (aA 0)) (eA (aA 1) (iA KB (aA 0) cA))))))
theorem Kz {R:gB} {k:Nat} (m:5<=k) (e:aH P w K a b k 4 "Search" "look" R):aH P w K a b (k+1) 4 "Search" "look_at_branches" (kH R):=
 by unfold kH;exact YZ (k:=k) (body:=WK R) (JS (ps:=Dn YK 4) T.q0 T.Q1 fun q q q q q q=>IK (fun q q q q=>rfl)) oV rfl rfl fun q q q q q q q r=>have S:=Ze.nd oV;jA (CA 4 S (NF iF)) (jA (GB nq rfl (dC (eA (aA 1) cA)) (NB 5 S) (jA (CA 6 S (VS e r nofun (aA 0) (ZD (aA 5) (eA (aA 1) cA) (aA 3)))) (jA (YA (HA (fE r.units) (eA (aA 6) cA) jC) (lA (yA (aA 6))) VA) (lA (ID (pE (aA 4) (eA (aA 6) cA))))))) (lA (yA (oB (bC jC (iA o0 (iA o0 (oB (bC (eA (aA 1) cA) (aA 2))) (eA (aA 1) cA)) (oB (jE (aA 4)))))))))
theorem Bv {R:gB} {k:Nat} (e:5<=k) (m:aH P w K a b k 4 "Search" "look" R):aH P w K a b (k+2) 4 "Search" "look" (DB 4 9 (uJ R)):=
 YZ (k:=k+1) (body:=uJ R) (JS (ps:=Dn vJ 4) T.q0 T.Q0 fun q q q q q q=>IK (fun q q q q=>rfl)) MV rfl rfl fun q q q q q q q r=>have S:=Ze.nd MV;jA (CA 4 S (HD (Vz T) r nofun rfl (bC (aA 1) (aA 2)))) (jA (CA 5 S (eA (aA 4) cA)) (jA (CA 6 S (eA (aA 4) cA)) (jA (YA (HA MG (aA 5) vD) (lA (yA (oB (bC jC (oB (bC jC (aA 6))))))) VA) (jA (CA 7 S (HD (Yr T) r nofun rfl (bC (iA OB cA (UB rfl (zN T T.U5) (aA 5))) (HD (Dg T) r nofun rfl (bC (aA 5) (nM (IG T.q0 T.q1) (aA 0))))))) (jA (YA (HA (hC r.units) (eA (aA 7) cA) jC) (lA (yA (oB (bC jC (oB (ZD jC (aA 6) (eA (aA 7) cA))))))) VA) (jA (CA 8 S (HD (Jk T) r nofun rfl (bC (aA 5) (aA 3)))) (jA (YA (HA MG (aA 8) vD) (lA (yA (oB (bC jC (HD (Wz T) r nofun rfl (jE (eA (aA 7) cA))))))) VA) (jA (YA (HA iU (nM (IG T.q0 T.q3) (aA 0)) (nM (IG T.q0 T.q2) (aA 0))) (lA (yA (oB (bC jC vD)))) VA) (jA (NP (IG T.q0 T.q3) (aA 0) (iA KB (nM (IG T.q0 T.q3) (aA 0)) cA)) (lA (yA (VS (Kz T e m) r nofun (aA 0) (ZD (aA 8) (aA 6) (YO (aA 3) (uI cA) nT))))))))))))))
theorem zV:∀n:Nat,aH P w K a b (5+2*n) 4 "Search" "look" (dF n)
 | 0=>lv (JS (ps:=Dn vJ 4) T.q0 T.Q0 fun q q q q q q=>IK (fun q q q q=>rfl))
 | n+1=>Bv T (La _ _) (zV n)
theorem Nk {dds:Ms Dt} (D:zQ K a "planned" qI (Dn qI 3) dds):UM P w K a b 30 3 "planned" HJ dds:=
 by unfold HJ;exact l0 (k:=29) (body:=ZR) D dX rfl rfl fun q q q q q q q r=>have S:=Ze.nd dX;jA (CA 3 S (ly (Hy T) r (by decide) rfl (bC (LA (bw T) r (jE (aA 1))) (aA 2)))) (jA (CA 4 S (VS (zV T 12) r (by decide) (aA 3) (ZD (LA (Xw T) r (bC (aA 0) (aA 1))) (LA (IR T) r (jE (aA 0))) (LA (Yw T) r (jE (aA 1)))))) (lA (yA (oB (ZD (eA (aA 4) cA) (eA (aA 4) cA) (nM (IG T.q0 T.q3) (aA 3)))))))
theorem gw:UM P w K a b 30 3 "planned" HJ []:=Nk T (l4 (ps:=Dn qI 3) T.X T.G T.Q3 fun q q q q q q q q q q q=>gH fun q q q k e=>BindsTo.of_defaults rfl k e rfl rfl)
theorem dR:YB P w K a b 1 2 "_law_cell_at" wJ:=cT T T.Q4 fun S r=>jA (YA (HA ZF (aA 1) (UB rfl (zN T T.U5) (aA 0))) (lA (yA (eA (aA 0) (aA 1)))) VA) (lA (yA cA))
theorem vL:YB P w K a b 1 1 "_law_whole" pH:=cT T T.Q5 fun S r=>lA (yA (gK (pG rfl (zN T T.U4) rfl (zN T T.U3) PyProof.Rows.boot_int (by decide) (aA 0)) (iK (L7 (pG rfl (zN T T.U4) rfl (zN T T.U1) PyProof.Rows.boot_bool (by decide) (aA 0))))))
theorem xR:YB P w K a b 1 2 "_law_mixed" CG:=cT T T.Q6 fun S r=>lA (yA (iA EC (iA OB (iA KB (iA EC (aA 0) cA) cA) (aA 1)) cA))
theorem JV:YB P w K a b 1 0 "_law_zones" nO:=cT T T.Q7 fun S r=>jA (CA 0 S (GH (vF (oB (bC cA cA)) (vF (oB (bC cA cA)) (vF (oB (bC cA cA)) (cG (oB (bC cA cA)) (oB (bC cA cA)) (oB (bC cA cA)) (oB (bC cA cA)))))))) (lA (yA (iA P1 (aA 0) (GH (vF (oB (bC cA cA)) (vF (oB (bC cA cA)) (cG (oB (bC cA cA)) (oB (bC cA cA)) (oB (bC cA cA)) (oB (bC cA cA)))))))))
theorem rW:YB P w K a b 1 2 "_law_zone" xL:=cT T T.Q8 fun S r=>jA (YA (HA UG (aA 0) (eA (aA 1) cA)) (lA (yA (VJ rfl (zN T T.U3) (eE (hC r.units) (aA 0) (eA (aA 1) cA))))) VA) (jA (YA (HA ZF (aA 0) (eA (aA 1) cA)) (lA (yA cA)) VA) (lA (yA (iA mD cA (VJ rfl (zN T T.U3) (eE (hC r.units) (aA 0) (eA (aA 1) cA)))))))
theorem Mw:YB P w K a b 2 2 "_law_way" CO:=cT T T.Q9 fun S r=>lA (yA (Ec r.units (FS (JV T) r (by decide) rfl) (oB (bC (LA (rW T) r (bC (eA (aA 0) cA) (aA 1))) (LA (rW T) r (bC (eA (aA 0) cA) (aA 1)))))))
theorem Kv:YB P w K a b 1 1 "_law_turned" LN:=cT T T.Qa fun S r=>jA (CA 1 S cA) (jA (GB nq rfl (AC rfl (zN T T.U9) cA) (NB 2 S) (lA (YA (HA (hC r.units) (iA gF (iA AI (aA 0) (aA 2)) cA) cA) (lA (CA 1 S (iA KB (aA 1) (iA zH cA (iA mD cA (aA 2)))))) VA))) (lA (yA (aA 1))))
theorem Vw:YB P w K a b 2 3 "_law_side" GO:=cT T T.Qb fun S r=>jA (CA 3 S cA) (jA (GB nq rfl (AC rfl (zN T T.U9) cA) (NB 4 S) (lA (YA (HA (hC r.units) (iA gF (iA AI (aA 0) (aA 4)) cA) cA) (lA (CA 3 S (k0 rfl rfl (zN T T.U7) (aA 3) (eA (eA (FS (JV T) r (by decide) rfl) (aA 4)) (aA 1))))) VA))) (lA (yA (iA mD (iA mD (aA 3) cA) (iA OB cA (aA 2))))))
theorem Lw:YB P w K a b 3 2 "_law_due" BO:=cT T T.Qc fun S r=>jA (CA 2 S (UB rfl (zN T T.U5) (aA 0))) (jA (CL 4 S (AC rfl (zN T T.U9) (aA 2)) (ZE 0) (uD) (oB (ZD (iA OB cA (aA 0)) (iA KB (iA OB cA (aA 0)) cA) (sE cA)))) (jA (GB nq rfl (dC (aA 1)) (SY 3 5 6 rfl S) (jA (ID (pE (aA 4) (oB (ZD (iA OB cA (aA 3)) (iA KB (iA OB cA (aA 3)) cA) (iA OB (sE (aA 5)) (iA KB (iA OB cA (aA 2)) cA)))))) (lA (ID (pE (aA 4) (oB (ZD (iA KB (iA OB cA (aA 3)) cA) (iA OB cA (aA 3)) (iA OB (aA 6) (iA KB (iA OB cA (aA 2)) cA))))))))) (jA (GB nq rfl (AC rfl (zN T T.U9) (aA 2)) (NB 3 S) (lA (GB nq rfl (AC rfl (zN T T.U9) (aA 2)) (NB 7 S) (lA (GB nq rfl (AC rfl (zN T T.U9) cA) (NB 8 S) (jA (CA 9 S (LA (Vw T) r (ZD (eA (eA (aA 0) (aA 3)) (aA 7)) (iA tE (aA 8) cA) (iA EC (aA 8) cA)))) (lA (YA (WM.tm (DH (HA (fE r.units) (aA 3) (aA 7)) (bK (HA UG (aA 9) cA)))) (lA (ID (pE (aA 4) (oB (ZD (iA KB (iA OB cA (aA 3)) (iA tE (aA 8) cA)) (iA KB (iA OB cA (aA 7)) (iA EC (aA 8) cA)) (sE (VJ rfl (zN T T.U3) (eE ZF (aA 9) cA)))))))) VA)))))))) (lA (yA (aA 4))))))
theorem Xv:YB P w K a b 1 3 "_law_least" kO:=cT T T.Qd fun S r=>jA (CA 3 S vD) (jA (GB nq rfl (dC (aA 0)) (NB 4 S) (lA (YA (WM.tm (DH (HA (hC r.units) (eA (aA 4) cA) (aA 1)) (DH (HA (hC r.units) (eA (aA 4) cA) (aA 2)) (bK (WM.tm (jD (HA MG (aA 3) vD) (jF (HA ZF (eA (aA 4) cA) (aA 3))))))))) (lA (CA 3 S (eA (aA 4) cA))) VA))) (lA (yA (aA 3))))
theorem Uw:YB P w K a b 2 3 "_law_ring" FO:=cT T T.Qe fun S r=>jA (YA (WM.tm (jD (QD (pD (pG rfl (zN T T.U4) rfl (zN T T.U6) PyProof.Rows.boot_list (by decide) (aA 1)))) (jD (HA ZF (UB rfl (zN T T.U5) (aA 1)) cA) (jF (HA (fE r.units) (eA (aA 1) cA) (eA (aA 1) (sE cA))))))) (lA (yA zD)) VA) (jA (YA (HA (fE r.units) (Yh rfl rfl (zN T T.U5) rfl (zN T T.Ua) (YO (aA 1) (uI cA) nT)) (iA mD (UB rfl (zN T T.U5) (aA 1)) cA)) (lA (yA zD)) VA) (jA (CA 3 S cA) (jA (GB nq rfl (AC rfl (zN T T.U9) (iA mD (UB rfl (zN T T.U5) (aA 1)) cA)) (NB 4 S) (jA (YA (WM.tm (jD (QD (pD (LA (vL T) r (jE (eA (aA 1) (aA 4)))))) (jF (QD (lZ UG ZF cA (eA (aA 1) (aA 4)) (aA 2)))))) (lA (yA zD)) VA) (jA (CA 5 S (LA (Xv T) r (ZD (aA 0) (eA (aA 1) (aA 4)) (eA (aA 1) (iA KB (aA 4) cA))))) (jA (YA (HA MG (aA 5) vD) (lA (yA zD)) VA) (lA (CA 3 S (iA KB (aA 3) (aA 5)))))))) (lA (yA (eE ZF (aA 3) cA))))))
theorem tV:YB P w K a b 1 3 "_law_any_ways" iG:=cT T T.Qf fun S r=>jA (CA 3 S (iA EC (aA 0) (aA 1))) (jA (CA 4 S (iA EC (iA KB (iA KB (aA 3) cA) (iA EC (iA tE (aA 0) cA) (iA mD (aA 1) cA))) (aA 1))) (jA (CA 5 S (iA tE (aA 0) cA)) (jA (CA 6 S (iA mD cA (iA zH cA (iA EC (aA 5) cA)))) (jA (YA (HA (hC r.units) (aA 2) cA) (lA (CA 6 S (iA qM (iA EC (aA 5) cA) (iA EC (iA tE (aA 5) cA) cA)))) VA) (jA (YA (HA (hC r.units) (aA 2) cA) (lA (CA 6 S (iA qM (iA qM (iA zH cA (iA EC (aA 5) cA)) (iA zH cA (iA EC (iA tE (aA 5) cA) cA))) (iA zH cA (iA EC (iA tE (aA 5) cA) cA))))) VA) (jA (YA (HA (hC r.units) (aA 2) cA) (lA (CA 6 S (iA EC (aA 5) cA))) VA) (lA (yA (oB (cG jC (aA 3) (aA 6) (aA 4)))))))))))
theorem Yz:YB P w K a b 2 4 "_law_any_fact" dI:=cT T T.Qg fun S r=>jA (CA 4 S (LA (xR T) r (bC (aA 0) cA))) (jA (CA 5 S (iA EC (iA tE (LA (xR T) r (bC (aA 0) cA)) cA) cA)) (jA (YA (WM.tm (DH (HA (hC r.units) (aA 5) cA) (bK (HA qK (aA 3) cA)))) (jA (CA 6 S (NF iF)) (jA (GB nq rfl (AC rfl (zN T T.U9) (iA KB cA (iA EC (aA 4) cA))) (NB 7 S) (lA (ID (pE (aA 6) (LA (tV T) r (ZD (iA EC (iA OB (aA 4) (iA KB cA (iA OB (iA OB cA (aA 7)) (aA 7)))) cA) (aA 1) (iA mD cA (iA EC (aA 2) cA)))))))) (lA (yA (oB (bC jC (aA 6))))))) VA) (jA (YA (HA (hC r.units) (aA 5) cA) (jA (CA 8 S (iA EC (iA tE (aA 4) cA) cA)) (lA (yA (oB (cG jC (iA EC (aA 4) (aA 1)) (aA 8) (iA KB (aA 8) (iA EC (iA tE (aA 4) cA) cA))))))) VA) (lA (yA (LA (tV T) r (ZD (aA 4) (aA 1) (aA 2))))))))
theorem wV:YB P w K a b 3 2 "_law_any_facts" oJ:=cT T T.Qh fun S r=>jA (CA 2 S (iA EC (iA tE (LA (dR T) r (bC (aA 0) cA)) cA) cA)) (jA (CA 3 S (eA (GH (ZD cA cA cA)) (aA 2))) (jA (CA 4 S (NF iF)) (jA (GB nq rfl (dC (YO (aA 0) (uI cA) (uI (aA 3)))) (NB 5 S) (jA (CA 6 S (iA mD cA (UB rfl (zN T T.U5) (uF (dC (aA 4)) (ZE 0) (FH (HA (hC r.units) (eA (aA 0) cA) jC)) (aA 0))))) (lA (ID (pE (aA 4) (LA (Yz T) r (cG (aA 5) (aA 1) (aA 2) (aA 6)))))))) (lA (yA (aA 4))))))
theorem Ov {R:gB} {k:Nat} (m:2<=k) (e:YB P w K a b k 3 "_law_keeps" R):YB P w K a b (k+1) 3 "_law_keeps" (DB 3 4 (gI R)):=
 LP (k:=k) (body:=gI R) (UJ (ps:=Dn BJ 3) T.X T.G T.Qi fun q q q q q q=>gH (fun q q q=>rfl)) VV rfl rfl fun q q q q q q q r=>have S:=Ze.nd VV;jA (YA (HA (hC r.units) (eA (aA 0) cA) jC) (lA (yA (eE (hC r.units) (iA gF (iA AI (eA (aA 0) cA) (HD (Mw T) r nofun rfl (bC (eA (aA 1) (eA (aA 0) cA)) (eA (aA 1) (eA (aA 0) cA))))) cA) cA))) VA) (jA (YA (HA (hC r.units) (eA (aA 0) cA) jC) (jA (CA 3 S (iA mD (eA (eA (aA 1) (eA (aA 0) cA)) cA) (eA (eA (aA 1) (eA (aA 0) cA)) cA))) (lA (yA (gK (eE UG (iA OB (eA (aA 0) cA) (aA 2)) (aA 3)) (iK (eE UG (aA 3) (iA OB (eA (aA 0) cA) (aA 2)))))))) VA) (lA (yA (eE (hC r.units) (Xh (uF (dC (eA (aA 0) cA)) (ZE 0) (uD) (HD e r nofun rfl (ZD (aA 0) (aA 1) (aA 2)))) zD) cA))))
theorem UV:∀n:Nat,YB P w K a b (2+n) 3 "_law_keeps" (iI n)
 | 0=>B1 (UJ (ps:=Dn BJ 3) T.X T.G T.Qi fun q q q q q q=>gH (fun q q q=>rfl))
 | n+1=>Ov T (La _ _) (UV n)
theorem Tw:YB P w K a b 2 2 "_law_plan" EO:=cT T T.Qj fun S r=>jA (YA (WM.tm (jD (QD (pD (pG rfl (zN T T.U4) rfl (zN T T.U6) PyProof.Rows.boot_list (by decide) (aA 0)))) (jF (HA (fE r.units) (UB rfl (zN T T.U5) (aA 0)) (aA 1))))) (lA (yA zD)) VA) (jA (GB nq rfl (dC (aA 0)) (NB 2 S) (jA (YA (WM.tm (jD (QD (pD (pG rfl (zN T T.U4) rfl (zN T T.Uc) PyProof.Rows.boot_tuple (by decide) (aA 2)))) (jD (HA (fE r.units) (UB rfl (zN T T.U5) (aA 2)) cA) (jD (QD (pD (LA (vL T) r (jE (eA (aA 2) cA))))) (jF (QD (pD (LA (vL T) r (jE (eA (aA 2) cA)))))))))) (lA (yA zD)) VA) (lA (YA (HA iU (eA (aA 2) cA) (eA (aA 2) cA)) (lA (yA zD)) VA)))) (lA (yA (eE (hC r.units) (ST rfl rfl (zN T T.U8) (uF (dC (aA 0)) (ZE 0) (uD) (eA (aA 0) cA))) cA))))
theorem Ww:YB P w K a b 2 2 "_law_told" mH:=cT T T.Qk fun S r=>jA (YA (WM.tm (jD (QD (pD (pG rfl (zN T T.U4) rfl (zN T T.Uc) PyProof.Rows.boot_tuple (by decide) (aA 0)))) (jD (HA (fE r.units) (UB rfl (zN T T.U5) (aA 0)) cA) (jF (QD (pD (LA (vL T) r (jE (eA (aA 0) cA))))))))) (lA (yA zD)) VA) (jA (YA (HA (hC r.units) (eA (aA 0) cA) jC) (lA (yA (gK (eE MG (eA (aA 0) cA) vD) (iK (eE (hC r.units) (eA (aA 0) cA) (aA 1)))))) VA) (lA (yA (gK (eE jU (eA (aA 0) cA) (oB (bC jC jC))) (iK (Bc UG UG cA (eA (aA 0) cA) (aA 1)))))))
theorem Nz:YB P w K a b 2 3 "_law_any_spans" vN:=cT T T.Ql fun S r=>jA (CA 3 S (NF iF)) (jA (GB nq rfl (AC rfl (zN T T.U9) (aA 1)) (NB 4 S) (jA (CA 5 S (LA (xR T) r (bC (LA (dR T) r (bC (aA 0) (iA KB (aA 2) (aA 4)))) (iA KB (iA KB cA (iA OB (iA OB cA (aA 4)) (aA 4))) (iA OB cA (aA 2)))))) (jA (CA 6 S (iA KB (iA OB (iA EC (iA tE (aA 5) cA) cA) (iA KB (iA OB cA (aA 1)) cA)) (iA EC (iA tE (aA 5) cA) cA))) (lA (ID (pE (aA 3) (oB (bC (aA 6) (iA mD (iA KB (aA 6) (iA OB (iA KB cA (iA EC (iA tE (aA 5) cA) cA)) (iA KB (iA OB cA (aA 1)) cA))) (iA EC (iA tE (aA 5) cA) cA)))))))))) (lA (yA (aA 3))))
theorem sV:YB P w K a b 6 2 "_law_all_kept" cI:=cT T T.Qm fun S r=>jA (GB nq rfl (dC (aA 0)) (NB 2 S) (lA (YA (QD (pD (LA (UV T 3) r (ZD (aA 2) (aA 1) (iA KB (iA OB cA (UB rfl (zN T T.U5) (aA 1))) cA))))) (lA (yA zD)) VA))) (lA (yA zD))
theorem Yv:YB P w K a b 2 0 "_law_table" lO:=cT T T.Qn fun S r=>lA (yA (uF (AC rfl (zN T T.U9) cA) (ZE 0) (uD) (LA (zy T) r (bC (iA tE (aA 0) cA) (iA EC (aA 0) cA)))))
theorem pW:YB P w K a b 1 3 "_law_both" wL:=cT T T.Qo fun S r=>jA (CA 3 S cA) (jA (nH 5 S (AC rfl (zN T T.U9) cA) (ZE 0) (FH (HA (hC r.units) (iA gF (iA AI (aA 1) (aA 0)) cA) cA)) (aA 0)) (jA (GB nq rfl (AC rfl (zN T T.U9) cA) (NB 4 S) (lA (YA (HA (hC r.units) (iA gF (iA AI (aA 1) (aA 4)) cA) cA) (lA (GB nq rfl (dC (aA 5)) (NB 6 S) (lA (CA 3 S (iA qM (aA 3) (eA (aA 0) (iA KB (iA OB cA (aA 4)) (aA 6)))))))) VA))) (lA (yA (aA 3)))))
theorem IN:YB P w K a b 2 4 "_law_narrowed" fI:=cT T T.Qp fun S r=>jA (CL 4 S (dC (aA 0)) (ZE 0) (uD) (OO rfl (zN T T.U6) (aA 0))) (jA (SJ (iA gF (eA (eA (aA 4) (aA 1)) (aA 3)) (aA 2)) (eA (aA 4) (aA 1)) (aA 3)) (jA (SJ (LA (Kv T) r (jE (eA (eA (aA 4) (aA 1)) (aA 3)))) (eA (aA 4) (aA 3)) (aA 1)) (lA (yA (aA 4)))))
theorem wR:YB P w K a b 1 1 "_law_empty" oH:=cT T T.Qq fun S r=>jA (GB nq rfl (dC (aA 0)) (NB 1 S) (lA (YA (HA jU cA (aA 1)) (lA (yA zD)) VA))) (lA (yA zD))
theorem Zv:YB P w K a b 2 2 "_law_three" mO:=cT T T.Qr fun S r=>jA (YA (WM.tm (jD (QD (pD (pG rfl (zN T T.U4) rfl (zN T T.Uc) PyProof.Rows.boot_tuple (by decide) (aA 0)))) (jD (HA (fE r.units) (UB rfl (zN T T.U5) (aA 0)) cA) (jF (HA (fE r.units) (Jh rfl rfl (zN T T.U5) rfl (zN T T.Ua) (aA 0)) cA))))) (lA (yA zD)) VA) (jA (GB nq rfl (yj (aA 0)) (NB 2 S) (lA (YA (WM.tm (jD (QD (pD (LA (vL T) r (jE (aA 2))))) (jF (QD (lZ UG ZF cA (aA 2) (aA 1)))))) (lA (yA zD)) VA))) (lA (yA zD)))
theorem Jv:YB P w K a b 3 3 "_law_behind" kG:=cT T T.Qs fun S r=>jA (YA (QD (pD (pG rfl (zN T T.U4) rfl (zN T T.U6) PyProof.Rows.boot_list (by decide) (aA 2)))) (lA (yA vD)) VA) (jA (GB nq rfl (dC (aA 2)) (NB 3 S) (jA (YA (WM.tm (jD (pD (LA (wR T) r (jE (aA 1)))) (jF (QD (pD (LA (Zv T) r (bC (aA 3) (UB rfl (zN T T.U5) (aA 1))))))))) (lA (yA vD)) VA) (jA (Y7 (aA 3) (SY 4 5 6 rfl S)) (jA (CA 7 S (LA (pW T) r (ZD (aA 0) (eA (eA (aA 1) (aA 4)) (aA 5)) (eA (eA (aA 1) (aA 5)) (aA 6))))) (jA (YA (HA (hC r.units) (iA gF (eA (eA (aA 1) (aA 4)) (aA 6)) (aA 7)) (eA (eA (aA 1) (aA 4)) (aA 6))) (lA (yA vD)) VA) (lA (CA 1 S (LA (IN T) r (cG (aA 1) (aA 4) (aA 7) (aA 6)))))))))) (lA (yA (aA 1))))
theorem Pz:YB P w K a b 2 2 "_law_is_closed" aL:=cT T T.Qt fun S r=>jA (GB nq rfl (AC rfl (zN T T.U9) (UB rfl (zN T T.U5) (aA 1))) (NB 2 S) (lA (GB nq rfl (WR rfl (zN T T.U9) (iA KB (aA 2) cA) (UB rfl (zN T T.U5) (aA 1))) (NB 3 S) (lA (GB nq rfl (AC rfl (zN T T.U9) (UB rfl (zN T T.U5) (aA 1))) (NB 4 S) (lA (YA (WM.tm (DH (HA (fE r.units) (aA 4) (aA 2)) (bK (HA (fE r.units) (aA 4) (aA 3))))) (jA (CA 5 S (LA (pW T) r (ZD (aA 0) (eA (eA (aA 1) (aA 2)) (aA 4)) (eA (eA (aA 1) (aA 4)) (aA 3))))) (lA (YA (HA (fE r.units) (iA gF (eA (eA (aA 1) (aA 2)) (aA 3)) (aA 5)) (eA (eA (aA 1) (aA 2)) (aA 3))) (lA (yA zD)) VA))) VA))))))) (lA (yA zD))
theorem Mz:YB P w K a b 1 1 "_law_first_wide" gL:=cT T T.Qu fun S r=>jA (GB nq rfl (AC rfl (zN T T.U9) (UB rfl (zN T T.U5) (aA 0))) (NB 1 S) (lA (GB nq rfl (WR rfl (zN T T.U9) (iA KB (aA 1) cA) (UB rfl (zN T T.U5) (aA 0))) (NB 2 S) (lA (YA (HA (fE r.units) (iA gF (eA (eA (aA 0) (aA 1)) (aA 2)) (iA mD (eA (eA (aA 0) (aA 1)) (aA 2)) cA)) cA) (lA (yA (oB (bC (aA 1) (aA 2))))) VA))))) (lA (yA vD))
theorem Rz:YB P w K a b 3 2 "_law_members" YN:=cT T T.Qv fun S r=>jA (CA 2 S (NF iF)) (jA (GB nq rfl (AC rfl (zN T T.U9) (UB rfl (zN T T.U5) (aA 1))) (NB 3 S) (jA (CA 4 S (aA 0)) (jA (GB nq rfl (UZ rfl (zN T T.U2) (aA 1)) (RP 5 6 rfl S) (jA (CA 7 S (eA (aA 6) cA)) (jA (YA (HA (fE r.units) (aA 5) (aA 3)) (lA (CA 7 S (iA mD cA (aA 7)))) VA) (lA (CA 4 S (LA (IN T) r (cG (aA 4) (eA (aA 6) cA) (aA 7) (eA (aA 6) cA)))))))) (lA (ID (pE (aA 2) (aA 4))))))) (lA (yA (aA 2))))
theorem uV {R:gB} {k:Nat} (m:3<=k) (e:YB P w K a b k 5 "_law_tree" R):YB P w K a b (k+1) 5 "_law_branches" (rJ R):=
 by unfold rJ;exact LP (k:=k) (body:=yR R) (UJ (ps:=Dn rL 5) T.X T.G T.Qw fun q q q q q q=>JK (fun q q q q q=>rfl)) AV rfl rfl fun q q q q q q q r=>have S:=Ze.nd AV;jA (YA (WM.tm (jD (QD (pD (pG rfl (zN T T.U4) rfl (zN T T.U6) PyProof.Rows.boot_list (by decide) (aA 4)))) (jF (HA (fE r.units) (UB rfl (zN T T.U5) (aA 4)) (UB rfl (zN T T.U5) (aA 1)))))) (lA (yA (sE cA))) VA) (jA (CA 5 S cA) (jA (GB nq rfl (zj rfl (zN T T.Ud) (aA 1) (aA 4)) (RP 6 7 rfl S) (jA (CA 8 S (HD e r nofun rfl (vF (aA 0) (cG (aA 6) (aA 2) (aA 3) (aA 7))))) (jA (YA (HA ZF (aA 8) cA) (lA (yA (sE cA))) VA) (lA (CA 5 S (iA KB (aA 5) (aA 8))))))) (lA (yA (aA 5)))))
theorem Fv {R:gB} {k:Nat} (e:3<=k) (m:YB P w K a b k 5 "_law_tree" R):YB P w K a b (k+2) 5 "_law_tree" (DB 5 9 (jG R)):=
 LP (k:=k+1) (body:=jG R) (UJ (ps:=Dn AJ 5) T.X T.G T.Qx fun q q q q q q=>JK (fun q q q q q=>rfl)) GW rfl rfl fun q q q q q q q r=>have S:=Ze.nd GW;jA (YA (WM.tm (jD (QD (pD (pG rfl (zN T T.U4) rfl (zN T T.Uc) PyProof.Rows.boot_tuple (by decide) (aA 4)))) (jF (HA ZF (UB rfl (zN T T.U5) (aA 4)) cA)))) (lA (yA (sE cA))) VA) (jA (CA 5 S (HD (Jv T) r nofun rfl (ZD (aA 0) (aA 1) (eA (aA 4) cA)))) (jA (YA (HA MG (aA 5) vD) (lA (yA (sE cA))) VA) (jA (YA (HA (yH r.units) (eA (aA 4) cA) jC) (lA (yA (iA mD (VJ rfl (zN T T.U3) (gK (eE (yH r.units) (UB rfl (zN T T.U5) (aA 4)) cA) (iK (HD (wR T) r nofun rfl (jE (aA 5)))))) cA))) VA) (jA (YA (WM.tm (jD (pD (HD (wR T) r nofun rfl (jE (aA 5)))) (jF (QD (pD (HD (Pz T) r nofun rfl (bC (aA 0) (aA 5)))))))) (lA (yA (sE cA))) VA) (jA (YA (WM.tm (DH (HA (yH r.units) (eA (aA 4) cA) jC) (bK (HA (yH r.units) (UB rfl (zN T T.U5) (aA 4)) cA)))) (lA (yA (iA mD (VJ rfl (zN T T.U3) (HD (Uw T) r nofun rfl (ZD (HD (Lw T) r nofun rfl (bC (aA 5) (aA 3))) (eA (aA 4) cA) (iA OB cA (UB rfl (zN T T.U5) (aA 5)))))) cA))) VA) (jA (YA (WM.tm (DH (HA (yH r.units) (eA (aA 4) cA) jC) (DH (HA (yH r.units) (UB rfl (zN T T.U5) (aA 4)) cA) (bK (HA qK (UB rfl (zN T T.U5) (aA 2)) cA))))) (lA (yA (HD (uV T e m) r nofun rfl (vF (aA 0) (cG (HD (Rz T) r nofun rfl (bC (aA 5) (eA (aA 2) cA))) (YO (aA 2) (uI cA) nT) (aA 3) (eA (aA 4) cA)))))) VA) (jA (CA 6 S (HD (Mz T) r nofun rfl (jE (aA 5)))) (jA (YA (WM.tm (jD (HA (kK r.units) (eA (aA 4) cA) jC) (jD (HA (kK r.units) (UB rfl (zN T T.U5) (aA 4)) cA) (jD (HA qK (UB rfl (zN T T.U5) (aA 2)) cA) (jD (HA MG (aA 6) vD) (jF (HA (kK r.units) (Zh (aA 4) (uI cA) (uI cA)) (aA 6)))))))) (lA (yA (sE cA))) VA) (jA (nH 7 S (AC rfl (zN T T.U9) cA) (ZE 0) (FH (HA (yH r.units) (iA gF (iA AI (eA (eA (aA 1) (eA (aA 2) cA)) (eA (aA 2) cA)) (aA 0)) cA) cA)) (aA 0)) (jA (nH 8 S (dC (aA 7)) (ZE 0) (uD) (HD (IN T) r nofun rfl (cG (aA 1) (eA (aA 2) cA) (iA zH cA (aA 0)) (eA (aA 2) cA)))) (lA (yA (HD (uV T e m) r nofun rfl (vF (aA 0) (cG (aA 8) (aA 2) (aA 3) (eA (aA 4) cA))))))))))))))))
theorem qW:∀n:Nat,YB P w K a b (3+2*n) 5 "_law_tree" (JO n)
 | 0=>B1 (UJ (ps:=Dn AJ 5) T.X T.G T.Qx fun q q q q q q=>JK (fun q q q q q=>rfl))
 | n+1=>Fv T (La _ _) (qW n)
theorem Oz:YB P w K a b 3 2 "_law_first_net" wN:=cT T T.Qy fun S r=>jA (jy (x0 := "_law_i") (Nc:=["_law_i", "_law_count"]) 2 rfl S (AC rfl (zN T T.U9) (aA 0)) ⟨fun _ _=>rfl,fun _=>rfl,by decide +kernel⟩ rfl (by decide +kernel) (by rfl) (by exact⟨⟨rfl,.inl rfl,.inl rfl,rfl⟩,trivial⟩) (by decide +kernel) (ZE 0) (uD) (yX (AC rfl (zN T T.U9) (aA 1)) (ZE 0) (uD) (iA mD cA (iA OB cA (VJ rfl (zN T T.U3) (eE (hC r.units) (aA 1) (aA 0)))))) (by rfl)) (jA (GB nq rfl (dC (aA 1)) (NB 3 S) (lA (YA (HA (hC r.units) (eA (aA 3) cA) jC) (lA (CA 2 S (LA (IN T) r (cG (aA 2) (eA (aA 3) cA) (eA (aA 3) cA) (eA (aA 3) cA))))) VA))) (lA (yA (aA 2))))
theorem V7 {f:Oa} {e:FuncData} (F:Fun K "law" "law" tQ f e):Zu P w K a b PF 31 f e ["_law_script"] (XI K 1 LH):=by unfold LH;exact nj (k:=30) (body:=sK) F X2 rfl rfl fun m A outer s H E r=>have S:=Ze.nd X2;by(unfold sK kM BP jM zP CP;exact jA (CA 1 S (iA KB cA (iA EC (LA (dR T) r (bC (aA 0) cA)) cA))) (jA (CA 2 S (LA (wV T) r (bC (aA 0) (aA 1)))) (jA (CA 3 S (LA (wV T) r (bC (aA 0) (aA 1)))) (jA (CA 4 S (eA (GH (ZD cA cA cA)) (iA mD (aA 1) cA))) (jA (CA 5 S (Ac (gw T) r (by decide) rfl (ZD (aA 1) (aA 3) (aA 4)))) (jA (YA (WM.tm (jD (HA (C9 r.units) (aA 3) (aA 2)) (jF (QD (pD (LA (Ww T) r (bC (aA 5) (aA 4)))))))) (lA (yA zD)) VA) (jA (YA (HA (hC r.units) (eA (aA 5) cA) jC) (lA (yA zD)) VA) (jA (YA (HA (hC r.units) (eA (aA 5) cA) jC) (lA (yA (gK (LA (Tw T) r (bC (eA (aA 5) cA) (aA 1))) (iK (LA (sV T) r (bC (aA 2) (eA (aA 5) cA))))))) VA) (jA (GB nq rfl (AC rfl (zN T T.U9) cA) (NB 6 S) (lA (YA (pD (LA (sV T) r (bC (aA 2) (LA (Nz T) r (ZD (aA 0) (aA 1) (aA 6)))))) (lA (yA zD)) VA))) (jA (nH 7 S (dC (aA 2)) (ZE 0) (FH (HA (hC r.units) (eA (aA 0) cA) jC)) (oB (ZD (eA (aA 0) cA) (eA (aA 0) cA) (eA (aA 0) cA)))) (jA (nH 8 S (dC (aA 2)) (ZE 0) (FH (HA (hC r.units) (eA (aA 0) cA) jC)) (eA (aA 0) cA)) (lA (yA (eE (hC r.units) (LA (qW T 12) r (vF (FS (Yv T) r (by decide) rfl) (cG (LA (Oz T) r (bC (aA 1) (aA 2))) (aA 8) (aA 7) (eA (aA 5) cA)))) (eA (aA 5) cA)))))))))))))))
end
end G
namespace BF
noncomputable def put{α:Type}(f:Nat->α)(i:Nat)(a:α):Nat->α:=fun j=>if j=i then a else f j
theorem VF{b:Type}(f:Nat->b)(i:Nat)(a:b):put f i a i=a:=eG rfl
theorem NE{b:Type}(f:Nat->b){i j:Nat}(a:b)(h:j≠i):put f i a j=f j:=eH h
noncomputable abbrev Bd:=Nat×Nat×Int
structure wG where
 t:Nat->Int
 c:Nat->Option Nat
 l:Option Nat
def step(s:wG)(e:Bd):wG:=if s.t e.1>s.t e.2.1+e.2.2 then⟨put s.t e.1 (s.t e.2.1+e.2.2),put s.c e.1 (ε e.2.1),ε e.1⟩else s
def turn(E:Ms Bd)(s:wG):wG:=E.foldl step ⟨s.t,s.c,none⟩
def AF(t:Nat->Int)(e:Bd):Prop:=t e.1<=t e.2.1+e.2.2
structure DU(n:Nat)(E:List Bd):Prop where
 lt:∀e∈E,e.1<n/\e.2.1<n/\e.1≠e.2.1
 un:∀e∈E,∀e'∈E,e.1=e'.1->e.2.1=e'.2.1->e.2.2=e'.2.2
def W5(w:Nat->Nat->Int)(c:Nat->Ni Nat):Prop:=
 ∀C:Ms Nat,C ≠ []->C.Nodup->(C.map c).Perm (C.map some)->(C.map fun x=>w x ((c x).getD 0)).sum<0
structure Ok(n:Nat)(E:List Bd)(w:Nat->Nat->Int)(r:Nat)(D:List Bd)(u:Nat->Nat)(s:wG):Prop where
 cau:∀x y,s.c x=ε y->(x,y,w x y)∈E/\s.t y+w x y<=s.t x/\1<=u x/\u x<=u y+1
 top:∀x,u x<=r+1
 has:∀x,1<=u x->∃y,s.c x=ε y
 old:∀e∈E,r<=u e.2.1\/AF s.t e
 new:∀e∈D,r+1<=u e.2.1\/AF s.t e
 neg:W5 w s.c
 lst:∀x,s.l=ε x->u x=r+1
theorem nK{f g:Nat->Int}:∀(D:Ms Nat),(∀x∈D,f x<=g x)->(D.map f).sum<=(D.map g).sum
 | [],_=>Int.le_refl _
 | x::D,h=>by
  simp![Ss,sum_cons];have d:=h x uq;have b:=nK D fun y a=>h y (ou _ a)
  omega
theorem CZ{f g:Nat->Int}:∀(D:Ms Nat),(D.map fun x=>f x-g x).sum=(D.map f).sum-(D.map g).sum
 | []=>rfl
 | x::D=>by simp![Ss,sum_cons];have:=CZ (f:=f) (g:=g) D;omega
theorem uY{l l':Ms Int}(h:l.Perm l'):l.sum=l'.sum:=by
 induction h with
 | nil=>rfl
 | cons x _ ih=>simp![sum_cons,ih]
 | swap x y l=>simp![sum_cons];omega
 | trans _ _ b a=>exact b.trans a
theorem map_none{C:Ms Nat}{c:Nat->Ni Nat}(h:(C.map c).Perm (C.map some)):∀x∈C,∃y,c x=ε y:=by intro x a;have:c x∈C.map some:=h.subset (mem_map_of_mem a);obtain⟨y,_,e⟩:=Bu.mp this;exact⟨y,e.symm⟩
theorem NL{a b:Type}{f g:a->b}{C:Ms a}(h:∀x∈C,f x=g x):C.map f=C.map g:=map_congr_left h
theorem ml{w:Nat->Nat->Int}{c:Nat->Ni Nat}{t:Nat->Int}{p q:Nat}(s:W5 w c)(u:∀x y,c x=ε y->t y+w x y<=t x)(H:t p>t q+w p q):W5 w (put c p (ε q)):=by
 intro C F hd hp;by_cases b:p∈C
 . obtain⟨d,D2,rfl⟩:=append_of_mem b;have h:(d++p::D2).Perm (p::(d++D2)):=perm_middle;have nd:(p::(d++D2)).Nodup:=h.nodup_iff.mp hd;have j:p∉d++D2:=(Le.mp nd).1;generalize d++D2=D at h j;have m:D.map (put c p (ε q))=D.map c:=NL fun x a=>NE c _ (fun z=>j (z ▸ a))
   have k:((p::D).map (put c p (ε q))).Perm ((p::D).map some):=((h.map _).symm.trans hp).trans (h.map _);rw[Ss,VF,m]at k;have i:∀x∈D,∃y,c x=ε y:=fun x a=>by have:c x∈(p::D).map some:=k.subset (ou _ (mem_map_of_mem a));obtain⟨y,_,e⟩:=Bu.mp this;exact⟨y,e.symm⟩
   have n:=uY (k.map fun o=>t (o.getD 0));simp![Ss,map_map,sum_cons,Function.comp_def,Option.getD_some]at n
   change t q+_=t p+(D.map t).sum at n
   have E:((d++p::D2).map fun x=>w x ((put c p (ε q) x).getD 0)).sum=w p q+(D.map fun x=>w x ((c x).getD 0)).sum:=by
    have:=uY (h.map fun x=>w x ((put c p (ε q) x).getD 0));rw[this,Ss,sum_cons,VF]
    congr 1
    rw[NL (f:=fun x=>w x ((put c p (ε q) x).getD 0)) (g:=fun x=>w x ((c x).getD 0)) fun x a=>by rw[NE c _ (fun z:x=p=>j (z ▸ a))]]
   have B:(D.map fun x=>w x ((c x).getD 0)).sum<=(D.map fun x=>t x-t ((c x).getD 0)).sum:=nK D fun x a=>by obtain⟨y,r⟩:=i x a;have:=u x y r;rw[r];simp![Option.getD_some];omega
   rw[CZ]at B;rw[E];omega
 . have m:C.map (put c p (ε q))=C.map c:=NL fun x a=>NE c _ (fun z=>b (z ▸ a))
   rw[m]at hp;have:=s C F hd hp;rw[NL (f:=fun x=>w x ((put c p (ε q) x).getD 0)) (g:=fun x=>w x ((c x).getD 0)) fun x a=>by rw[NE c _ (fun z:x=p=>b (z ▸ a))]];exact this
theorem mn{n:Nat}{E:Ms Bd}{w:Nat->Nat->Int}{r:Nat}{D:Ms Bd}{u:Nat->Nat}{s:wG}(T:DU n E)(hw:∀e∈E,w e.1 e.2.1=e.2.2)(I:Ok n E w r D u s){e:Bd}(he:e∈E) :
 ∃B,Ok n E w r (e::D) B (step s e):=by
 obtain⟨p,q,m⟩:=e;obtain⟨_,_,g⟩:=T.lt _ he;have o:w p q=m:=hw _ he;have b:q≠p:=fun z=>g z.symm
 by_cases i:s.t p>s.t q+m
 . have j:step s (p,q,m)=⟨put s.t p (s.t q+m),put s.c p (ε q),ε p⟩:=eG i;rw[j];have O:r<=u q:=by
    rcases I.old _ he with z | z
    . exact z
    . exact Ei z (by simp![AF];omega)
   have up:u p<=r+1:=I.top p;have d:∀x,put s.t p (s.t q+m) x<=s.t x:=fun x=>by
    by_cases a:x=p
    . rw[a,VF];omega
    . rw[NE _ _ a];exact Int.le_refl _
   have grow:∀x,u x<=put u p (r+1) x:=fun x=>by
    by_cases a:x=p
    . rw[a,VF];exact up
    . rw[NE _ _ a];exact Uo _
   have keep:∀k,∀e:Bd,k<=r+1->(k<=u e.2.1\/AF s.t e)->(k<=put u p (r+1) e.2.1\/AF (put s.t p (s.t q+m)) e):=fun k e F h=>by
    by_cases a:e.2.1=p
    . exact .inl (by rw[a,VF];exact F)
    . rcases h with h | h
      . exact .inl (um h (grow _))
      . refine .inr ?_;simp![AF]at h ⊢;rw[NE _ _ a];exact Int.le_trans (d _) h
   refine⟨put u p (r+1),⟨fun x y h=>?_,fun x=>?_,fun x h=>?_,fun e h=>keep r e (Nat.le_succ r) (I.old e h),fun e h=>?_,ml I.neg (fun x y h=>(I.cau x y h).2.1) (by rw[o];exact i),fun x h=>?_⟩⟩
   . by_cases a:x=p
     . subst a;simp![VF]at h ⊢;cases h;rw[NE _ _ b,NE _ _ b,o];exact⟨he,Int.le_refl _,by omega,by omega⟩
     . simp![NE _ _ a]at h ⊢;obtain⟨M,L,J,H⟩:=I.cau x y h;exact⟨M,Int.le_trans (Int.add_le_add_right (d y) _) L,J,um H (Nat.add_le_add_right (grow y) 1)⟩
   . by_cases a:x=p
     . rw[a,VF];exact Uo _
     . rw[NE _ _ a];exact I.top x
   . by_cases a:x=p
     . subst a;exact⟨q,VF _ _ _⟩
     . rw[NE _ _ a]at h;obtain⟨y,C⟩:=I.has x h;exact⟨y,by simp![NE _ _ a];exact C⟩
   . rcases Bo.mp h with z | z
     . subst z;refine .inr ?_;simp![AF,VF,NE _ _ b];exact Int.le_refl _
     . exact keep (r+1) e (Uo _) (I.new e z)
   . cases h;exact VF _ _ _
 . have j:step s (p,q,m)=s:=eH i;rw[j];refine⟨u,⟨I.cau,I.top,I.has,I.old,fun e h=>?_,I.neg,I.lst⟩⟩;rcases Bo.mp h with z | z
   . subst z;exact .inr (by simp![AF];omega)
   . exact I.new e z
theorem mT{n:Nat}{E:Ms Bd}{w:Nat->Nat->Int}{r:Nat}(T:DU n E)(hw:∀e∈E,w e.1 e.2.1=e.2.2):∀(L D:Ms Bd)(u:Nat->Nat)(s:wG),(∀e∈L,e∈E)->Ok n E w r D u s->∃j b,Ok n E w r b j (L.foldl step s)/\(∀e∈L,e∈b)/\∀e∈D,e∈b
 | [],D,u,s,_,I=>⟨u,D,I,(fun q h=>nomatch h),fun q h=>h⟩
 | e::L,D,u,s,hs,I=>by
  obtain⟨i,o⟩:=mn T hw I (hs e uq);obtain⟨g,p,m,k,d⟩:=mT T hw L (e::D) i (step s e) (fun x a=>hs x (ou _ a)) o;refine⟨g,p,m,fun x a=>?_,fun x a=>d x (ou _ a)⟩;rcases Bo.mp a with z | z
  . rw[z];exact d e uq
  . exact k x z
def VE(E:Ms Bd):Nat->wG->wG
 | 0,s=>s
 | r+1,s=>turn E (VE E r s)
noncomputable def s0:wG:=⟨fun _=>0,fun _=>none,none⟩
theorem JY{n:Nat}{E:Ms Bd}{w:Nat->Nat->Int}(T:DU n E)(hw:∀e∈E,w e.1 e.2.1=e.2.2):∀r,∃u D,Ok n E w r D u (VE E (r+1) s0)/\∀e∈E,e∈D
 | 0=>by
  have I:Ok n E w 0 [] (fun q=>0) ⟨s0.t,s0.c,none⟩:=by
   refine⟨fun x y h=>(by cases h),fun x=>nu _,fun x h=>nofun,fun e h=>.inl (nu _),(fun e h=>nomatch h),fun C g hd hp=>?_,fun x h=>(by cases h)⟩;cases C with
   | nil=>exact Ei rfl g
   | cons x C=>obtain⟨y,e⟩:=map_none hp x uq;cases e
  obtain⟨u,D,k,a,_⟩:=mT T hw E [] _ _ (fun q h=>h) I;exact⟨u,D,k,a⟩
 | r+1=>by
  obtain⟨u,D,I,d⟩:=JY T hw r;have j:Ok n E w (r+1) [] u ⟨(VE E (r+1) s0).t,(VE E (r+1) s0).c,none⟩:=
   ⟨I.cau,fun x=>Nat.le_succ_of_le (I.top x),I.has,fun e h=>I.new e (d e h),(fun e h=>nomatch h),I.neg,fun x h=>(by cases h)⟩
  obtain⟨b,m,i,a,_⟩:=mT T hw E [] _ _ (fun q h=>h) j;exact⟨b,m,i,a⟩
theorem RX:∀(L:Ms Bd)(s:wG),(L.foldl step s).l=none->s.l=none/\L.foldl step s=s/\∀e∈L,AF s.t e
 | [],s,h=>⟨h,rfl,(fun q h=>nomatch h)⟩
 | e::L,s,h=>by
  obtain⟨a,i,g⟩:=RX L (step s e) h;by_cases d:s.t e.1>s.t e.2.1+e.2.2
  . have b:step s e=⟨put s.t e.1 (s.t e.2.1+e.2.2),put s.c e.1 (ε e.2.1),ε e.1⟩:=eG d;rw[b]at a;cases a
  . have b:step s e=s:=eH d;rw[b]at a i g;refine⟨a,by rw[foldl_cons,b];exact i,fun x j=>?_⟩;rcases Bo.mp j with z | z
    . subst z;simp![AF];omega
    . exact g x z
noncomputable def xB(f:Nat->Nat):Nat->Nat->Nat
 | 0,x=>x
 | k+1,x=>f (xB f k x)
theorem oG(f:Nat->Nat)(x:Nat)(b:Nat):∀a,xB f (a+b) x=xB f a (xB f b x)
 | 0=>by rw[Ae];rfl
 | a+1=>by rw[Nat.add_right_comm];show f (xB f (a+b) x)=f (xB f a (xB f b x));rw[oG f x b a]
theorem pig:∀(n:Nat)(g:Nat->Nat),(∀k,k<=n->g k<n)->∃i j,i<j/\j<=n/\g i=g j
 | 0,g,h=>Ei (h 0 (Uo _)) (Nat.not_lt_zero _)
 | n+1,g,h=>by
  by_cases m:∃k,k<=n/\g k=g (n+1)
  . obtain⟨k,d,a⟩:=m;exact⟨k,n+1,by omega,Uo _,a⟩
  . have ne:∀k,k<=n->g k≠g (n+1):=fun k b e=>m ⟨k,b,e⟩
    have q:=h (n+1) (Uo _);obtain⟨i,j,d,a,p⟩:=pig n (fun k=>if g k>g (n+1)then g k-1 else g k) fun k b=>by have d:=h k nofun;have a:=ne k b;show(if g k>g (n+1)then g k-1 else g k)<n;split<;>omega
    refine⟨i,j,d,by omega,?_⟩;have s:=ne i nofun;have r:=ne j a;have o:(if g i>g (n+1)then g i-1 else g i)=(if g j>g (n+1)then g j-1 else g j):=p;split at o<;>split at o<;>omega
theorem Xd{Q:Nat->Prop}:∀d,1<=d->Q d->∃k,1<=k/\k<=d/\Q k/\∀i,1<=i->i<k->¬Q i:=by
 intro d
 induction d using Nat.strongRecOn with
 | ind d ih=>
  intro n m;by_cases e:∃i,1<=i/\i<d/\Q i
  . obtain⟨i,a,b,c⟩:=e;obtain⟨k,j,o,h,g⟩:=ih i b a c;exact⟨k,j,by omega,h,g⟩
  . exact⟨d,n,Uo _,m,fun i a b c=>e ⟨i,a,b,c⟩⟩
noncomputable def nxt(c:Nat->Ni Nat)(x:Nat):Nat:=(c x).getD 0
structure bH(n:Nat)(E:List Bd)(w:Nat->Nat->Int)(c:Nat->Option Nat)(P k:Nat):Prop where
 pos:1<=k
 le:k<=n
 back:xB (nxt c) k P=P
 first:∀i,1<=i->i<k->xB (nxt c) i P≠P
 edge:∀i,i<=k->(xB (nxt c) i P,xB (nxt c) (i+1) P,w (xB (nxt c) i P) (xB (nxt c) (i+1) P))∈E/\c (xB (nxt c) i P)=ε (xB (nxt c) (i+1) P)
 sum:((List.range k).map fun i=>w (xB (nxt c) i P) (xB (nxt c) (i+1) P)).sum<0
theorem apart{f:Nat->Nat}{P k:Nat}(g:xB f k P=P)(d:∀i,1<=i->i<k->xB f i P≠P){i j:Nat}(b:i<j)(a:j<=k)(m:i=0->j<k):xB f i P≠xB f j P:=by
 intro e;have e2:xB f ((k-j)+i) P=xB f ((k-j)+j) P:=by rw[oG,oG,e]
 rw[Nat.sub_add_cancel a,g]at e2;refine d (k-j+i) ?_ ?_ e2
 . by_cases h:i=0
   . have:=m h;omega
   . omega
 . omega
theorem yV{e:Type}{g:Nat->e}(k:Nat)(h:∀i j,i<j->j<k->g i≠g j):((List.range k).map g).Nodup:=by rw[nodup_iff_pairwise_ne,pairwise_map];refine List.Pairwise.imp_of_mem ?_ (pairwise_lt_range (n:=k));intro a b o m d;exact h a b d (Ca.mp m)
theorem O8{n:Nat}{E:Ms Bd}{w:Nat->Nat->Int}{D:Ms Bd}{u:Nat->Nat}{s:wG}{x:Nat}(T:DU n E)(I:Ok n E w n D u s)(U:s.l=ε x):∃k,bH n E w s.c (xB (nxt s.c) n x) k/\
 ∀i,i<=n->s.c (xB (nxt s.c) i x)=ε (xB (nxt s.c) (i+1) x)/\xB (nxt s.c) i x<n:=by
 have ux:=I.lst x U;have p:∀y,1<=u y->s.c y=ε (nxt s.c y):=fun y S=>by obtain⟨z,e⟩:=I.has y S;unfold nxt;rw[e];rfl
 have ch:∀i,i<=n->n+1<=u (xB (nxt s.c) i x)+i:=by
  intro i
  induction i with
  | zero=>intro _;show n+1<=u x+0;omega
  | succ i ih=>intro g;have h1:=ih nofun;have Z:=p (xB (nxt s.c) i x) nofun;have h3:=(I.cau _ _ Z).2.2.2;show n+1<=u (nxt s.c (xB (nxt s.c) i x))+(i+1);omega
 have B:∀i,i<=n->s.c (xB (nxt s.c) i x)=ε (xB (nxt s.c) (i+1) x):=fun i g=>p _ (by have:=ch i g;omega)
 have lt:∀i,i<=n->xB (nxt s.c) i x<n:=fun i g=>(T.lt _ (I.cau _ _ (B i g)).1).1
 obtain⟨i,j,W,hj,e⟩:=pig n (fun i=>xB (nxt s.c) i x) lt;have C:xB (nxt s.c) (j-i) (xB (nxt s.c) n x)=xB (nxt s.c) n x:=by
  rw[<- oG];have M:j-i+n=(n-i)+j:=by omega
  rw[M,oG,<- e,<- oG]
  congr 1
  omega
 obtain⟨k,R,k2,F,O⟩:=Xd (Q:=fun d=>xB (nxt s.c) d (xB (nxt s.c) n x)=xB (nxt s.c) n x) (j-i) nofun C;have q:∀m,xB (nxt s.c) (j+m) x=xB (nxt s.c) (i+m) x:=fun m=>by rw[Nat.add_comm j m,Nat.add_comm i m,oG,oG,e]
 have L:∀m,m<=k->s.c (xB (nxt s.c) m (xB (nxt s.c) n x))=ε (xB (nxt s.c) (m+1) (xB (nxt s.c) n x)):=fun m r=>by
  rw[<- oG,<- oG];by_cases h:m+n<=n
  . have:m=0:=by omega
    subst this;rw[Ae,Nat.add_comm];exact B n (Uo _)
  . have M:m+n=j+(m+n-j):=by omega
    have a2:m+1+n=j+(m+n-j+1):=by omega
    rw[M,a2,q,q];exact B _ nofun
 refine⟨k,⟨R,by omega,F,O,fun m r=>⟨(I.cau _ _ (L m r)).1,L m r⟩,?_⟩,fun i g=>⟨B i g,lt i g⟩⟩;generalize xB (nxt s.c) n x=P at *;have H:=I.neg ((List.range k).map fun m=>xB (nxt s.c) m P) (by
  intro z;have:=congrArg List.length z;simp at this;omega) (yV k fun a b J Y=>apart F O J nofun (fun v=>Y)) (by
  rw[map_map,map_map];have e1:(List.range k).map (s.c ∘ fun m=>xB (nxt s.c) m P)=(List.range k).map (fun m=>ε (xB (nxt s.c) (m+1) P)):=NL fun m r=>L m (Di (Ca.mp r))
  rw[e1];obtain⟨o,rfl⟩:∃o,k=o+1:=⟨k-1,by omega⟩
  rw[Ie,Gi];have e2:(List.range o++[o]).map (some ∘ fun m=>xB (nxt s.c) m P)=ε P::(List.range o).map (fun m=>ε (xB (nxt s.c) (m+1) P)):=by rw[<- Ie,Jo,Ss,map_map];rfl
  rw[e2];have e3:[o].map (fun m=>ε (xB (nxt s.c) (m+1) P))=[ε P]:=by rw[Ss,Vs,F]
  rw[e3];exact perm_append_singleton _ _)
 rw[map_map]at H;have e4:(List.range k).map ((fun y=>w y ((s.c y).getD 0)) ∘ fun m=>xB (nxt s.c) m P)=(List.range k).map fun i=>w (xB (nxt s.c) i P) (xB (nxt s.c) (i+1) P):=rfl
 rw[e4]at H;exact H
end BF
namespace SM
section
variable{l:LI}{h:HI}{f g fo fy b fe fa a:RE}
@[simp] theorem sj:uU l h=ε (.ref h.length,h++[.dt []]):=by rfl
def SQ:Ms Dt×HI->Ni (Dt×HI):=fun r=>if r.1.length<=sizeLine then(BC r.1).map fun d=>(.ntp d,r.2)else none
@[simp] theorem gq(r:RA):NQ r l h=mB (r l h) SQ:=by rfl
theorem mo(i j:Int):SQ ([.int i,.int j],h)=ε (.ntp [i,j],h):=by unfold SQ;rw[eG (show([Dt.int i,Dt.int j]:Ms Dt).length<=sizeLine by simp)];rfl
def d6(n:Nat)(k:Ms Int):Dt×HI->Ni (Dt×HI):=fun x=>match x.2[n]? with
 | some (.dt kvs)=>ε ((QI kvs k).getD x.1,x.2)
 | _=>none
theorem p8{n:Nat}{k:Ms Int}{d:Dt}{kvs:Ms (Ms Int×Dt)}(e:h[n]?=ε (.dt kvs)):d6 n k (d,h)=ε ((QI kvs k).getD d,h):=by simp![d6,e]
theorem G8{n:Nat}{k:Ms Int}{kvs:Ms (Ms Int×Dt)}(e:fo l h=ε (.ref n,h))(e2:h[n]?=ε (.dt kvs))(d:fy l h=ε (.ntp k,h)):fK fo fy b l h=mB (b l h) (d6 n k):=by simp![fK,e,e2,d,Wa];rfl
theorem v9{n:Nat}{k:Ms Int}{kvs:Ms (Ms Int×Dt)}{d:Dt}(j:fe l h=ε (d,h))(i:fo l h=ε (.ref n,h))(e2:h[n]?=ε (.dt kvs))(e:fy l h=ε (.ntp k,h))(c:kvs.length<sizeLine) :
 sQ fe fo fy l h=ε (.nx l (h.set n (.dt (dJ kvs k d)))):=by
 simp![sQ,j,i,e2,e,Wa,eG c]
theorem Ld{n:Nat}{kvs:Ms (Ms Int×Dt)}(d:f l h=ε (.ref n,h))(e2:h[n]?=ε (.dt kvs)):xI f l h=ε (.it n,h.set n (.df kvs)):=by simp![xI,d,e2,Wa]
theorem Kd{n:Nat}{kvs:Ms (Ms Int×Dt)}(d:f l h=ε (.ref n,h))(e2:h[n]?=ε (.df kvs)):xI f l h=ε (.it n,h):=by simp![xI,d,e2,Wa]
def zU(a:RE)(l:LI):Dt×HI->Ni (Dt×HI):=fun r=>mB (a l r.2) fun q=>(KA q.2 r.1).bind fun d=>(BC d).bind fun ns=>if ns ≠ []then ε (.int (TB ns),q.2)else none
@[simp] theorem sn:vU fa a l h=mB (fa l h) (zU a l):=by rfl
theorem Kc{d:Dt}{ns:Ms Int}(e:KA h d=ε (ns.map Dt.int))(c:ns.length+1<4096):GP d h=ε (.int (iE ns).length,h):=by simp[GP,e,c]
end
theorem mr{o:Type}{i j n:Nat}{body:RS}{kvs:Ms (Ms Int×Dt)}(S:o->LI->HI->Prop)(F:o->Ms Int×Dt->o)(C:∀b l h,S b l h->h[n]?=ε (.df kvs))
 (H:∀x∈kvs,∀b l h,S b l h->∃r,body ((l.set i (ε (.tup (x.1.map Dt.int)))).set j (ε x.2)) h=ε r/\Pass (S (F b x)) r) :
 ∀(m k:Nat)(b:o)(l:LI)(h:HI),m=(kvs.length-k)+1->k<=kvs.length->S b l h->∃y h',iC (JD i j) body (.it n) m k l h=ε (.nx y h')/\S ((kvs.drop k).foldl F b) y h':=by
 intro m
 induction m with
 | zero=>intro k b l h B;omega
 | succ m ih=>
  intro k b l h B J s;have e:=C b l h s;by_cases a:k<kvs.length
  . have u:kvs[k]?=ε kvs[k]:=jj a;obtain⟨r,I,p⟩:=H kvs[k] (getElem_mem a) b l h s;have E:(kvs.drop k).foldl F b=(kvs.drop (k+1)).foldl F (F b kvs[k]):=by rw[Aa a,foldl_cons]
    rw[E];have D:iC (JD i j) body (.it n) (m+1) k l h=mB (body ((l.set i (ε (.tup (kvs[k].1.map Dt.int)))).set j (ε kvs[k].2)) h) (HU (iC (JD i j) body (.it n) m (k+1))):=by
     simp![iC,th.at,e,u,Vi,qT,Wa];cases body ((l.set i (ε (.tup (kvs[k].1.map Dt.int)))).set j (ε kvs[k].2)) h with
     | none=>rfl
     | some r=>cases r<;>rfl
    rw[D,I,dA];cases r with
    | nx q g=>exact ih (k+1) _ q g nofun a p
    | ct q g=>exact ih (k+1) _ q g nofun a p
    | bk q g=>exact p.elim
    | rt d g=>exact p.elim
  . have u:kvs[k]?=none:=ju nofun;refine⟨l,h,by simp![iC,th.at,e,u,Option.map_none],?_⟩;rw[Mi nofun];exact s
theorem mu{a:Type}{i j n:Nat}{body:RS}{kvs:Ms (Ms Int×Dt)}{l:LI}{h:HI}(S:a->LI->HI->Prop)(F:a->Ms Int×Dt->a)(g:∀b l h,S b l h->h[n]?=ε (.df kvs))
 (H:∀x∈kvs,∀b l h,S b l h->∃r,body ((l.set i (ε (.tup (x.1.map Dt.int)))).set j (ε x.2)) h=ε r/\Pass (S (F b x)) r) (b:a) (s:S b l h) :
 ∃d h',ND (JD i j) body l (.it n,h)=ε (.nx d h')/\S (kvs.foldl F b) d h':=by
 have e:=g b l h s;have:=mr (i:=i) (j:=j) S F g H (kvs.length+1) 0 b l h nofun (nu _) s;rw[drop_zero]at this;obtain⟨d,h',m,e2⟩:=this;refine⟨d,h',?_,e2⟩;show iC (JD i j) body (.it n) (th.fuel (.it n) h) 0 l h=_;have k:th.fuel (.it n) h=kvs.length+1:=by simp![th.fuel,e]
 rw[k];exact m
end SM
namespace G
noncomputable def nC(e:Bd):Ms Int×Dt:=([(e.1:Int),(e.2.1:Int)],.int e.2.2)
noncomputable def oA(e:Bd):Dt:=.tup [.int (e.1:Nat),.int (e.2.1:Nat),.int e.2.2]
noncomputable def WC(p q:Nat)(x:Bd):Bool:=decide (x.1=p)&&decide (x.2.1=q)
def yK(E:Ms Bd)(p q:Nat):Ni Int:=(E.find? (WC p q)).map (·.2.2)
def lJ(E:Ms Bd)(p q:Nat)(v:Int):Ms Bd:=if E.any (WC p q)=true then E.map (fun x=>if WC p q x=true then(x.1,x.2.1,v)else x)else E++[(p,q,v)]
def AE(E:Ms Bd)(e:Bd):Ms Bd:=lJ E e.1 e.2.1 (min ((yK E e.1 e.2.1).getD e.2.2) e.2.2)
theorem FT(p q:Nat)(x:Bd):decide ((nC x).1=[(p:Int),(q:Int)])=WC p q x:=by unfold nC WC;by_cases b:x.1=p<;>by_cases a:x.2.1=q<;>simp[b,a]<;>omega
theorem O0(p q:Nat):∀E:Ms Bd,QI (E.map nC) [(p:Int),(q:Int)]=(yK E p q).map Dt.int
 | []=>rfl
 | x::E=>by
  have ih:=O0 p q E;unfold QI yK at ih ⊢;rw[Ss,Ii,Ii,FT];cases WC p q x with
  | true=>rfl
  | false=>exact ih
theorem j8(p q:Nat)(E:Ms Bd):((E.map nC).any fun y=>decide (y.1=[(p:Int),(q:Int)]))=E.any (WC p q):=by
 rw[any_map]
 congr 1
 funext x
 exact FT p q x
theorem mv(p q:Nat)(v:Int)(E:Ms Bd):dJ (E.map nC) [(p:Int),(q:Int)] (.int v)=(lJ E p q v).map nC:=by
 unfold dJ lJ;rw[j8];split
 . rw[map_map,map_map];refine map_congr_left fun x z=>?_
   have k:=FT p q x;simp![Function.comp_def];cases c:WC p q x with
   | true=>rw[c]at k;rw[eG (of_decide_eq_true k),eG rfl];rfl
   | false=>rw[c]at k;rw[eH (of_decide_eq_false k),eH Wk]
 . rw[Gi];rfl
structure tK(told E:List Bd):Prop where
 mem:∀x∈E,x∈told
 low:∀e∈told,∃x∈E,x.1=e.1/\x.2.1=e.2.1/\x.2.2<=e.2.2
 un:∀x∈E,∀y∈E,x.1=y.1->x.2.1=y.2.1->x.2.2=y.2.2
 len:E.length<=told.length
theorem cx{p q:Nat}{x:Bd}:WC p q x=true↔x.1=p/\x.2.1=q:=by simp[WC]
theorem g9:tK [] []:=⟨fun q h=>h,fun q h=>(nomatch h),fun q h=>(nomatch h),Uo _⟩
theorem f9{g E:Ms Bd}(I:tK g E)(e:Bd):tK (g++[e]) (AE E e):=by
 obtain⟨p,q,m⟩:=e;unfold AE lJ;cases n:yK E p q with
 | none=>
  have u:∀x∈E,WC p q x=false:=by unfold yK at n;simpa using n
  have B:E.any (WC p q)=false:=by rw[any_eq_false];intro x hx;rw[u x hx];exact Wk
  simp![B,Wo,eO,Option.getD_none,Int.min_self];refine⟨fun x hx=>?_,fun o he=>?_,fun x hx y hy d b=>?_,by simp;exact I.len⟩
  . rcases Bs.mp hx with hx | hx
    . exact zc _ (I.mem x hx)
    . exact za _ hx
  . rcases Bs.mp he with he | he
    . obtain⟨x,hx,r⟩:=I.low o he;exact⟨x,zc _ hx,r⟩
    . rw[Ba.mp he];exact⟨_,za _ (Ba.mpr rfl),rfl,rfl,Int.le_refl _⟩
  . rcases Bs.mp hx with hx | hx<;>rcases Bs.mp hy with hy | hy
    . exact I.un x hx y hy d b
    . have:=u x hx;rw[Ba.mp hy]at d b;rw[cx.mpr ⟨d,b⟩]at this;cases this
    . have:=u y hy;rw[Ba.mp hx]at d b;rw[cx.mpr ⟨d.symm,b.symm⟩]at this;cases this
    . rw[Ba.mp hx,Ba.mp hy]
 | some v0=>
  obtain⟨a,O,rfl⟩:∃a,E.find? (WC p q)=ε a/\a.2.2=v0:=by unfold yK at n;simpa using n
  have F:=find?_some O;have k:=Ao O;have B:E.any (WC p q)=true:=any_eq_true.mpr ⟨a,k,F⟩;obtain⟨D,C⟩:=cx.mp F;have s:∀x∈E,WC p q x=true->x.2.2=a.2.2:=fun x hx h=>by obtain⟨d,b⟩:=cx.mp h;exact I.un x hx a k (d.trans D.symm) (b.trans C.symm)
  simp![B,eN,Option.getD_some];have P:((p,q,min a.2.2 m):Bd)∈g++[(p,q,m)]:=by
   by_cases h:a.2.2<=m
   . rw[Int.min_eq_left h];refine zc _ ?_;have:=I.mem a k;rw[<- D,<- C];exact this
   . rw[Int.min_eq_right nofun];exact za _ (Ba.mpr rfl)
  refine⟨fun x hx=>?_,fun o he=>?_,fun x hx y hy d b=>?_,by simp;have:=I.len;omega⟩
  . obtain⟨y,hy,rfl⟩:=Bu.mp hx;split
    . rename_i h;obtain⟨d,b⟩:=cx.mp h;rw[d,b];exact P
    . exact zc _ (I.mem y hy)
  . have new:∀x∈E,(if WC p q x=true then(x.1,x.2.1,min a.2.2 m)else x)∈E.map (fun x=>if WC p q x=true then(x.1,x.2.1,min a.2.2 m)else x):=fun x hx=>mem_map_of_mem hx
    rcases Bs.mp he with he | he
    . obtain⟨x,hx,M,L,Q⟩:=I.low o he;refine⟨_,new x hx,?_⟩;split
      . rename_i h;refine⟨M,L,?_⟩;have:=s x hx h;show min a.2.2 m<=o.2.2;have:=Int.min_le_left a.2.2 m;omega
      . exact⟨M,L,Q⟩
    . rw[Ba.mp he];refine⟨_,new a k,?_⟩;rw[eG F];exact⟨D,C,Int.min_le_right _ _⟩
  . obtain⟨j,J,rfl⟩:=Bu.mp hx;obtain⟨y',H,rfl⟩:=Bu.mp hy;have i:∀z:Bd,(if WC p q z=true then((z.1,z.2.1,min a.2.2 m):Bd)else z).1=z.1/\(if WC p q z=true then((z.1,z.2.1,min a.2.2 m):Bd)else z).2.1=z.2.1:=fun z=>by split<;>exact⟨rfl,rfl⟩
    rw[(i j).1,(i y').1]at d;rw[(i j).2,(i y').2]at b;have R:WC p q j=WC p q y':=by unfold WC;rw[d,b]
    rw[R];split
    . rfl
    . exact I.un j J y' H d b
theorem jZ:∀(L a E:Ms Bd),tK a E->tK (a++L) (L.foldl AE E)
 | [],a,E,I=>by rw[Us];exact I
 | e::L,a,E,I=>by have:=jZ L (a++[e]) (AE E e) (f9 I e);rw[su]at this;exact this
def dD(a:Ms Bd):Ms Bd:=a.foldl AE []
theorem BH(a:Ms Bd):tK a (dD a):=by have:=jZ a [] [] g9;rwa[Vu]at this
theorem Rp(E:Ms Bd)(p q:Nat)(v:Int):(lJ E p q v).length<=E.length+1:=by
 unfold lJ;split
 . simp
 . simp
theorem lY{d a:Type}(f:a->d->a)(b:a){xs:Ms d}{k:Nat}{x:d}(e:xs[k]?=ε x):(xs.take (k+1)).foldl f b=f ((xs.take k).foldl f b) x:=by rw[take_add_one,e,foldl_append];rfl
noncomputable def KE:Ni Nat->Dt
 | none=>.non
 | some q=>.int (q:Nat)
noncomputable def mC(n:Nat)(t:Nat->Int):Ms Dt:=(List.range n).map fun i=>.int (t i)
def mE(n:Nat)(c:Nat->Ni Nat):Ms Dt:=(List.range n).map fun i=>KE (c i)
theorem sS(n:Nat)(t:Nat->Int):(mC n t).length=n:=by simp[mC]
theorem UW(n:Nat)(c:Nat->Ni Nat):(mE n c).length=n:=by simp[mE]
theorem qP{n p:Nat}(t:Nat->Int)(hp:p<n):(mC n t)[p]?=ε (.int (t p)):=by simp[mC,hp]
theorem cS{n p:Nat}(c:Nat->Ni Nat)(hp:p<n):(mE n c)[p]?=ε (KE (c p)):=by simp[mE,hp]
theorem fX{a d:Type}(n p:Nat)(f:Nat->a)(D:a->d)(v:a):((List.range n).map fun i=>D (f i)).set p (D v)=(List.range n).map fun i=>D (put f p v i):=by
 apply ext_getElem?;intro i;rw[getElem?_set];simp![wu,ni,Fi];by_cases h:p=i
 . subst h;by_cases hp:p<n
   . simp[hp,VF]
   . simp[hp]
 . have e:i≠p:=fun z=>h z.symm
   rw[eH h];by_cases b:i<n
   . simp[b,NE _ _ e]
   . simp[b]
theorem Tn(n p:Nat)(t:Nat->Int)(v:Int):(mC n t).set p (.int v)=mC n (put t p v):=fX n p t Dt.int v
theorem Ig(n p q:Nat)(c:Nat->Ni Nat):(mE n c).set p (.int (q:Nat))=mE n (put c p (ε q)):=fX n p c KE (ε q)
structure SH(h0:HI)(a b c n:Nat)(E:List Bd)(s:wG)(h:HI):Prop where
 len:h.length=h0.length
 da:h[a]?=ε (.df (E.map nC))
 db:h[b]?=ε (.lst (mC n s.t))
 dc:h[c]?=ε (.lst (mE n s.c))
 els:∀m,m≠a->m≠b->m≠c->h[m]?=h0[m]?
noncomputable def aR(x:Ms Int×Dt):Bd:=match x with
 | ([p,q],.int m)=>(p.toNat,q.toNat,m)
 | _=>(0,0,0)
theorem M3(e:Bd):aR (nC e)=e:=rfl
theorem mw{C:HI}{a b c n:Nat}(L:a≠b)(ac:a≠c)(F:b≠c){E:Ms Bd}{e:Bd}(he:e.1<n/\e.2.1<n){s:wG}{h:HI}(M:SH C a b c n E s h) :
 ∃h',pI [ε (.ref a),ε (.ref b),ε (.ref c),ε (KE s.l),ε (.tup [.int (e.1:Nat),.int (e.2.1:Nat)]),ε (.int e.2.2)] h=ε (.nx [ε (.ref a),ε (.ref b),ε (.ref c),ε (KE (step s e).l),ε (.tup [.int (e.1:Nat),.int (e.2.1:Nat)]),ε (.int e.2.2)] h')/\SH C a b c n E (step s e) h':=by
 obtain⟨p,q,m⟩:=e;obtain⟨hp,H⟩:=he;have r:=fun i=>mF M.db i
 have x:=qP s.t hp;have u:=qP s.t H;have blt:b<h.length:=(Wi M.db).1;have o:c<h.length:=(Wi M.dc).1;by_cases g:s.t p>s.t q+m
 . have j:step s (p,q,m)=⟨put s.t p (s.t q+m),put s.c p (ε q),ε p⟩:=eG g;rw[j];have d:decide (s.t q+m<s.t p)=true:=iu g;have D:=QJ (l:=[ε (.ref a),ε (.ref b),ε (.ref c),ε (KE s.l),ε (.tup [.int (p:Nat),.int (q:Nat)]),ε (.int m)]) (v:=.int (s.t q+m)) (k:=p) M.db (by rw[sS];exact hp);rw[Tn]at D;have J:(h.set b (.lst (mC n (put s.t p (s.t q+m)))))[c]?=ε (.lst (mE n s.c)):=by rw[m8 F];exact M.dc
   have g2:=QJ (l:=[ε (.ref a),ε (.ref b),ε (.ref c),ε (KE s.l),ε (.tup [.int (p:Nat),.int (q:Nat)]),ε (.int m)]) (v:=.int (q:Nat)) (k:=p) J (by rw[UW];exact hp);rw[Ig]at g2;refine⟨(h.set b (.lst (mC n (put s.t p (s.t q+m))))).set c (.lst (mE n (put s.c p (ε q)))),?_,?_⟩
   . simp![pI,XA,JA,wA,kA,sA,Ra,Ri,nA,dA,LB,oC,kF,Vi,r,SM.YC,x,u,yC,ZH,OA,d,eN,EA,rT,D,NA,g2,bB,Va,Ti];rfl
   . refine⟨by simp[M.len],?_,?_,?_,fun k I B y=>?_⟩
     . rw[m8 (nW ac),m8 (nW L)];exact M.da
     . rw[m8 (nW F),uo blt]
     . rw[uo (by simp;exact o)]
     . rw[m8 (nW y),m8 (nW B)];exact M.els k I B y
 . have j:step s (p,q,m)=s:=eH g;rw[j];have d:decide (s.t q+m<s.t p)=false:=fu g;refine⟨h,?_,M⟩;simp![pI,XA,JA,wA,kA,sA,Ra,Ri,nA,dA,LB,oC,kF,Vi,r,SM.YC,x,u,yC,ZH,OA,d,Wo,eO,BB]
theorem mx{p:HI}{a b c n:Nat}(H:a≠b)(ac:a≠c)(F:b≠c){E:Ms Bd}(B:∀e∈E,e.1<n/\e.2.1<n){s:wG}{h:HI}(M:SH p a b c n E s h)(r q:Ni Dt) :
 ∃o m h',ND (JD 4 5) pI [ε (.ref a),ε (.ref b),ε (.ref c),ε (KE s.l),r,q] (.it a,h)=ε (.nx [ε (.ref a),ε (.ref b),ε (.ref c),ε (KE (E.foldl step s).l),o,m] h')/\SH p a b c n E (E.foldl step s) h':=by
 obtain⟨I,h',e,⟨g,d,rfl⟩,k⟩:=mu (i:=4) (j:=5) (n:=a) (body:=pI) (kvs:=E.map nC) (fun(s:wG) l h=>(∃g d,l=[ε (.ref a),ε (.ref b),ε (.ref c),ε (KE s.l),g,d])/\SH p a b c n E s h) (fun s x=>step s (aR x)) (fun s l h ⟨_,M⟩=>M.da) (by
  rintro x u s l h ⟨⟨g,d,rfl⟩,M⟩;obtain⟨e,y,rfl⟩:=Bu.mp u;obtain⟨h',D,k⟩:=mw H ac F (B e y) M;rw[M3];exact⟨_,D,⟨_,_,rfl⟩,k⟩) s ⟨⟨r,q,rfl⟩,M⟩
 have C:(E.map nC).foldl (fun s x=>step s (aR x)) s=E.foldl step s:=by simp![foldl_map,M3]
 rw[C]at e k;exact⟨g,d,h',e,k⟩
theorem my{a b c n:Nat}(g:a≠b)(ac:a≠c)(o:b≠c){E:Ms Bd}(i:∀e∈E,e.1<n/\e.2.1<n){s:wG}{h:HI}(da:h[a]?=ε (.dt (E.map nC))\/h[a]?=ε (.df (E.map nC)))(db:h[b]?=ε (.lst (mC n s.t)))(dc:h[c]?=ε (.lst (mE n s.c))) :
 ∃h',TJ [.ref a,.ref b,.ref c] h=ε (KE (turn E s).l,h')/\SH h a b c n E (turn E s) h':=by
 have d:a<h.length:=by rcases da with da | da<;>exact(Wi da).1
 obtain⟨h1,j,M⟩:∃h1,xI (eV 0) [ε (.ref a),ε (.ref b),ε (.ref c),ε .non,none,none] h=ε (.it a,h1)/\SH h a b c n E ⟨s.t,s.c,none⟩ h1:=by
  rcases da with da | da
  . refine⟨_,Ld ⋯ da,⟨by simp,uo d,?_,?_,fun m h1 z z=>m8 (nW h1)⟩⟩
    . rw[m8 g];exact db
    . rw[m8 ac];exact dc
  . exact⟨_,Kd ⋯ da,⟨rfl,da,db,dc,fun z z z z=>rfl⟩⟩
 obtain⟨r,q,h',e,p⟩:=mx g ac o i M none none;refine⟨h',?_,p⟩;have k:ND (JD 4 5) pI [ε (.ref a),ε (.ref b),ε (.ref c),ε .non,none,none] (.it a,h1)=_:=e;simp![TJ,UY,eB,Ru,Ve,eN,Ss,Vs,List.replicate,Wu,Vu,EA,bB,sA,dA,Va,Ti,NA,XB];simp[j,k];rfl
theorem Km(l:LI)(h:HI)(b:Dt)(h':HI)(e:HL l h=ε (b,h')):h'=h:=by
 simp![HL,wA,kA]at e;rcases h0:l[0]? with _ | _ | d0
 . rw[h0]at e;cases e
 . rw[h0]at e;cases e
 . rcases h1:l[1]? with _ | _ | d1
   . rw[h0,h1]at e;cases e
   . rw[h0,h1]at e;cases e
   . rw[h0,h1]at e;simp![nA,dA]at e;cases d0<;>cases d1<;>simp[GC,MK]at e;exact e.2.symm
theorem XW(n:Nat)(t:Nat->Int):mC n t=((List.range n).map t).map Dt.int:=by unfold mC;rw[map_map];rfl
structure cJ(h0:HI)(n:Nat)(E:List Bd)(s:wG)(h:HI):Prop where
 len:h.length=h0.length+3
 da:h[h0.length]?=ε (.dt (E.map nC))\/h[h0.length]?=ε (.df (E.map nC))
 db:h[h0.length+1]?=ε (.lst (mC n s.t))
 dc:h[h0.length+2]?=ε (.lst (mE n s.c))
 els:∀m,m<h0.length->h[m]?=h0[m]?
def lB(n:Nat)(t:Nat->Int):Nat->Int:=fun i=>t i-TB ((List.range n).map t)
theorem h9{d:HI}{n:Nat}(J:1<=n)(B:n<=1000){E:Ms Bd}(D:∀e∈E,e.1<n/\e.2.1<n){s:wG}{h:HI}(M:cJ d n E s h)(x0 o k y j:Ni Dt) :
 ∃g,cJ d n E (turn E s) g/\IJ [x0,o,ε (.ref d.length),ε (.ref (d.length+1)),ε (.ref (d.length+2)),k,y,j] h =
  (match(turn E s).l with
  | none=>ε (.rt (.tup [.str "times", .lst (mC n (lB n (turn E s).t))]) g)
  | some p=>ε (.nx [x0,o,ε (.ref d.length),ε (.ref (d.length+1)),ε (.ref (d.length+2)),k,ε (.int (p:Nat)),j] g)):=by
 obtain⟨g,e,i⟩:=my (a:=d.length) (b:=d.length+1) (c:=d.length+2) nofun nofun nofun D M.da M.db M.dc;refine⟨g,⟨by rw[i.len,M.len],.inr i.da,i.db,i.dc,fun m C=>(i.els m nofun nofun nofun).trans (M.els m C)⟩,?_⟩;cases q:(turn E s).l with
 | some p=>rw[q]at e;have u:TJ [.ref d.length,.ref (d.length+1),.ref (d.length+2)] h=ε (.int (p:Nat),g):=e;simp[IJ,u,yF]
 | none=>
  rw[q]at e;have u:TJ [.ref d.length,.ref (d.length+1),.ref (d.length+2)] h=ε (.non,g):=e;have r:(List.range n).map (turn E s).t ≠ []:=by intro z;have:=congrArg List.length z;simp at this;omega
  have F:zU (ua 0) [x0,o,ε (.ref d.length),ε (.ref (d.length+1)),ε (.ref (d.length+2)),k,ε .non,j] (.ref (d.length+1),g)=ε (.int (TB ((List.range n).map (turn E s).t)),g):=by unfold zU;simp![sA,dA];rw[GG i.db,XW];simp![Wa,SM.Ep];rw[eG r]
  have H:OE (rA 0) nB HL [none,ε (.int (TB ((List.range n).map (turn E s).t)))] (.rf (d.length+1),g)=ε (mC n (lB n (turn E s).t),g):=by
   rw[CS i.db (by rw[sS];simp;omega) (fun l h b g e q=>by simp at e;rw[<- e.2];exact q) (fun l h b g e q=>by rw[Km l h b g e];exact q)];rw[XW,XF Dt.int (fun x=>Dt.int (x-TB ((List.range n).map (turn E s).t))) g _ _ (by
    intro x I;exact⟨by simp,by simp[HL]⟩)]
   unfold mC lB;rw[map_map];rfl
  simp[IJ,u,yF,F,PD i.db,H]
theorem EZ{a:HI}{n:Nat}(D:1<=n)(m:n<=1000){E:Ms Bd}(F:∀e∈E,e.1<n/\e.2.1<n)(x0 j:Ni Dt):∀(xs:Ms Dt)(k:Nat)(i g d:Ni Dt)(h:HI),cJ a n E (VE E k s0) h->(1<=k->∃p:Nat,(VE E k s0).l=ε p/\g=ε (.int (p:Nat)))->
 (∃s b,s.l=none/\(∀e∈E,AF s.t e)/\cJ a n E s b/\zB (rA 5) IJ xs [x0,j,ε (.ref a.length),ε (.ref (a.length+1)),ε (.ref (a.length+2)),i,g,d] h=ε (.rt (.tup [.str "times", .lst (mC n (lB n s.t))]) b))\/
 (∃u r b,cJ a n E (VE E (k+xs.length) s0) b/\(1<=k+xs.length->∃p:Nat,(VE E (k+xs.length) s0).l=ε p/\r=ε (.int (p:Nat)))/\
  zB (rA 5) IJ xs [x0,j,ε (.ref a.length),ε (.ref (a.length+1)),ε (.ref (a.length+2)),i,g,d] h=ε (.nx [x0,j,ε (.ref a.length),ε (.ref (a.length+1)),ε (.ref (a.length+2)),u,r,d] b))
 | [],k,i,g,d,h,M,q=>.inr ⟨i,g,h,M,q,rfl⟩
 | x::xs,k,i,g,d,h,M,q=>by
  obtain⟨H,M1,o⟩:=h9 D m F M x0 j (ε x) g d;cases ql:(turn E (VE E k s0)).l with
  | none=>
   rw[ql]at o;obtain⟨_,J,I⟩:=RX E _ ql;refine .inl ⟨turn E (VE E k s0),H,ql,?_,M1,by simp[zB,o]⟩;show ∀e∈E,AF (E.foldl step _).t e
   rw[J];exact I
  | some p=>
   rw[ql]at o;have:=EZ D m F x0 j xs (k+1) (ε x) (ε (.int (p:Nat))) d H M1 (fun z=>⟨p,ql,rfl⟩);rw[show k+(x::xs).length=k+1+xs.length by simp;omega];rcases this with⟨s,b,C,B,y,L⟩ | ⟨u,r,b,C,B,y⟩
   . exact .inl ⟨s,b,C,B,y,by simp[zB,o,L]⟩
   . exact .inr ⟨u,r,b,C,B,by simp[zB,o,y]⟩
def WB(c:Nat->Ni Nat)(P i:Nat):Ms Dt:=(List.range (i+1)).map fun m=>.int ((xB (nxt c) m P:Nat):Int)
theorem jX(c:Nat->Ni Nat)(P i:Nat):atI (WB c P i) (-1)=ε (.int ((xB (nxt c) i P:Nat):Int)):=by
 unfold WB atI VI;have b:(1:Int)<=(i:Int)+1:=by omega
 have a:(-1+((i:Int)+1)).toNat=i:=by omega
 simp[b,a]
theorem jk{n a k x:Nat}(hn:1<=n)(a0:n<=90){E:Ms Bd}{w:Nat->Nat->Int}{c:Nat->Ni Nat}{h:HI}(dc:h[a]?=ε (.lst (mE n c)))(T:DU n E)
 (R:bH n E w c (xB (nxt c) n x) k) (Z:∀i,i<=n->c (xB (nxt c) i x)=ε (xB (nxt c) (i+1) x)/\xB (nxt c) i x<n) :
 ON [.int (x:Nat),.ref a] h=ε (.ref h.length,h++[.lst (WB c (xB (nxt c) n x) k)]):=by
 have O:=fun i=>mF dc i
 have Y:=oE (h:=h) (show(-(2^62):Int)<=(n:Int) by omega) (show(n:Int)<2^62 by omega);simp![n7]at Y;obtain⟨l',b,e,⟨y,rfl⟩,U⟩:=HE (i:=2) (body:=pR) (fun(k:Nat)=>Dt.int (k:Int)) (fun i l b=>(∃y,l=[ε (.int ((xB (nxt c) i x:Nat):Int)),ε (.ref a),y,none])/\b=h) n (by
  rintro i hi l b ⟨⟨y,rfl⟩,rfl⟩;obtain⟨s,q⟩:=Z i nofun;have p:=cS c q;rw[s]at p;refine⟨.nx [ε (.int ((xB (nxt c) (i+1) x:Nat):Int)),ε (.ref a),ε (.int (i:Nat)),none] b,?_,⟨_,rfl⟩,rfl⟩;simp![pR,bB,wA,kA,Va,Ti,Ra,Ri,nA,dA,O,SM.YC,p,Vi,KE]) [ε (.int (x:Nat)),ε (.ref a),none,none] h ⟨⟨_,rfl⟩,rfl⟩
 rw[U]at e;clear U;obtain⟨s,q⟩:=Z n (Uo _);generalize hP:xB (nxt c) n x=P at R e s q;have J:c P=ε (xB (nxt c) (n+1) x):=s;have o:=cS c q;have f1:xB (nxt c) (n+1) x=nxt c P:=by show nxt c (xB (nxt c) n x)=_;rw[hP]
 rw[J,f1]at o;obtain⟨r,W,u⟩:=rY (t:=zR) (body:=qR) (fun m l b=>∃i,1<=i/\i<=k/\m=k-i/\l=[ε (.int (P:Nat)),ε (.ref a),y,ε (.ref h.length)]/\b=h++[.lst (WB c P i)])
  (fun l b=>l=[ε (.int (P:Nat)),ε (.ref a),y,ε (.ref h.length)]/\b=h++[.lst (WB c P k)]) (fun v v=>False) (by
  rintro m l b ⟨i,i1,i2,rfl,rfl,rfl⟩;have H:(h++[Ob.lst (WB c P i)])[h.length]?=ε (.lst (WB c P i)):=by simp
  have I:(h++[Ob.lst (WB c P i)])[a]?=ε (.lst (mE n c)):=by rw[Xo (Wi dc).1];exact dc
  have M:=fun j=>mF H j
  have B:=fun j=>mF I j
  have Q:=jX c P i;refine⟨!decide (((xB (nxt c) i P:Nat):Int)=(P:Int)),h++[.lst (WB c P i)],?_,?_⟩
  . simp![zR,JA,wA,kA,JM,sA,QL,Ra,Ri,nA,dA,M,Q,Vi,aE,OA]
  . by_cases hk:i=k
    . subst hk;rw[R.back];simp
    . have ne:=R.first i i1 nofun;have C:¬(((xB (nxt c) i P:Nat):Int)=(P:Int)):=fun z=>ne nofun
      rw[fu C];obtain⟨g1,g2⟩:=R.edge i i2;have F:=(T.lt _ g1).1;have p:=cS c F;rw[g2]at p;have ea:e2 pA (eV 1) (e2 pA (eV 3) (JC (ua 1))) [ε (.int (P:Nat)),ε (.ref a),y,ε (.ref h.length)] (h++[.lst (WB c P i)])=ε (.int ((xB (nxt c) (i+1) P:Nat):Int),h++[.lst (WB c P i)]):=by simp![wA,kA,JM,sA,QL,Ra,Ri,nA,dA,M,Q,Vi,B,SM.YC,p,KE]
      have L:=tF (l:=[ε (.int (P:Nat)),ε (.ref a),y,ε (.ref h.length)]) (g:=e2 pA (eV 1) (e2 pA (eV 3) (JC (ua 1)))) H ea H (by have:=R.le;simp[WB];omega);have en:WB c P i++[.int ((xB (nxt c) (i+1) P:Nat):Int)]=WB c P (i+1):=by unfold WB;rw[Ie (n:=i+1),Gi];rfl
      rw[en]at L;have es:(h++[Ob.lst (WB c P i)]).set h.length (.lst (WB c P (i+1)))=h++[.lst (WB c P (i+1))]:=by simp
      rw[es]at L;refine⟨.nx [ε (.int (P:Nat)),ε (.ref a),y,ε (.ref h.length)] (h++[.lst (WB c P (i+1))]),?_,k-(i+1),by omega,i+1,by omega,by omega,rfl,rfl,rfl⟩;simp![qR,cE,eF,kA,Ra,Ri,nA,dA,L]) 100 (k-1) [ε (.int (P:Nat)),ε (.ref a),y,ε (.ref h.length)] (h++[.lst (WB c P 1)]) ⟨1,Uo _,R.pos,rfl,rfl,rfl⟩ (by have:=R.le;omega)
 cases r with
 | nx S D=>obtain⟨rfl,rfl⟩:=u;have e1:WB c P 1=[.int (P:Nat),.int ((nxt c P:Nat):Int)]:=rfl;rw[e1]at W;simp[ON,mW,HH dc,UW,Y,e,O,o,KE,W]
 | rt d D=>exact u.elim
 | bk S D=>exact u.elim
 | ct S D=>exact u.elim
def nJ(a:Ms Bd)(p q:Nat):Int:=(yK (dD a) p q).getD 0
theorem G7{a:Ms Bd}{e:Bd}(he:e∈dD a):nJ a e.1 e.2.1=e.2.2:=by
 unfold nJ yK;cases q:(dD a).find? (WC e.1 e.2.1)with
 | none=>have:=find?_eq_none.mp q e he;exact Ei (cx.mpr ⟨rfl,rfl⟩) this
 | some x=>obtain⟨d,b⟩:=cx.mp (find?_some q);exact(BH a).un x (Ao q) e he d b
theorem DZ{n:Nat}{a:Ms Bd}(d:∀e∈a,e.1<n/\e.2.1<n/\e.1≠e.2.1):DU n (dD a):=⟨fun e b=>d e ((BH a).mem e b),(BH a).un⟩
theorem Gv(b:Ms Bd)(D:b.length<=1000)(h:HI){a:Nat}(da:h[a]?=ε (.lst (b.map oA))):aO [.ref a] h=ε (.ref h.length,h++[.dt ((dD b).map nC)]):=by
 obtain⟨B,m,e,⟨j,g,rfl⟩,rfl,_⟩:=rK (i:=2) (n:=a) (body:=bR) oA (fun k l m=>(∃j g,l=[ε (.ref a),ε (.ref h.length),j,g])/\m=h++[.dt (((b.take k).foldl AE []).map nC)]/\((b.take k).foldl AE []).length<=k) b (by
  rintro k l m ⟨_,rfl,_⟩;rw[Xo (Wi da).1];exact da) (by
  rintro k x q l m ⟨⟨j,g,rfl⟩,rfl,r⟩;have C:k<b.length:=(Wi q).1;rw[lY AE [] q];generalize (b.take k).foldl AE []=E at r;have o:(h++[Ob.dt (E.map nC)])[h.length]?=ε (.dt (E.map nC)):=by simp
  have y:([ε (Dt.ref a),ε (.ref h.length),j,g]:LI).set 2 (ε (oA x))=[ε (Dt.ref a),ε (.ref h.length),ε (oA x),g]:=rfl;rw[y];refine⟨.nx [ε (.ref a),ε (.ref h.length),ε (oA x),ε (.ntp [(x.1:Int),(x.2.1:Int)])] (h++[.dt ((AE E x).map nC)]),?_,⟨_,_,rfl⟩,rfl,?_⟩
  . have s:fK (eV 1) (eV 3) (e2 pA (eV 2) (ua 2)) [ε (.ref a),ε (.ref h.length),ε (oA x),ε (.ntp [(x.1:Int),(x.2.1:Int)])] (h++[.dt (E.map nC)])=ε (.int ((yK E x.1 x.2.1).getD x.2.2),h++[.dt (E.map nC)]):=by rw[G8 (n:=h.length) (k:=[(x.1:Int),(x.2.1:Int)]) (kvs:=E.map nC) ⋯ o ⋯];simp![wA,kA,sA,Ra,Ri,nA,dA,oA,LB,yM,Vi];rw[p8 o,O0];cases yK E x.1 x.2.1<;>rfl
    have g2:=v9 (l:=[ε (.ref a),ε (.ref h.length),ε (oA x),ε (.ntp [(x.1:Int),(x.2.1:Int)])]) (h:=h++[.dt (E.map nC)]) (fe:=EU BM (fK (eV 1) (eV 3) (e2 pA (eV 2) (ua 2))) (e2 pA (eV 2) (ua 2))) (fo:=eV 1) (fy:=eV 3) (n:=h.length) (k:=[(x.1:Int),(x.2.1:Int)]) (kvs:=E.map nC)
     (d:=.int (min ((yK E x.1 x.2.1).getD x.2.2) x.2.2)) (by
      rw[ZU,s,dA];simp[oA]) ⋯ o ⋯ (by simp;omega)
    rw[mv]at g2;have u:(h++[Ob.dt (E.map nC)]).set h.length (.dt ((AE E x).map nC))=h++[.dt ((AE E x).map nC)]:=by simp
    simp![bR,EA,bB,gq,DA,BA,wA,kA,sA,Ra,Ri,nA,dA,oA,LB,oC,kF,Vi,mo,Va,Ti,NA];have g3:=g2;simp![oA]at g3;rw[g3];show ε (Rs.nx _ ((h++[Ob.dt (E.map nC)]).set h.length (.dt ((AE E x).map nC))))=_;rw[u]
  . have:=Rp E x.1 x.2.1 (min ((yK E x.1 x.2.1).getD x.2.2) x.2.2);show(AE E x).length<=k+1;unfold AE;omega) [ε (.ref a),ε (.ref h.length),none,none] (h++[.dt []]) ⟨⟨_,_,rfl⟩,by simp,by simp⟩
 have p:(h++[Ob.dt []])[a]?=ε (.lst (b.map oA)):=by rw[Xo (Wi da).1];exact da
 rw[Ke]at e;simp[aO,QV,PD p,e];rfl
theorem NY{n a:Nat}(H:1<=n)(U:n<=16)(b:Ms Bd)(Y:∀e∈b,e.1<n/\e.2.1<n/\e.1≠e.2.1)(W:b.length<=1000)(h:HI)(da:h[a]?=ε (.lst (b.map oA))) :
 (∃t d,(∀e∈b,AF t e)/\(∀m,m<h.length->d[m]?=h[m]?)/\tH [.int (n:Nat),.ref a] h=ε (.tup [.str "times", .lst (mC n (lB n t))],d))\/
 (∃c P k r d,bH n (dD b) (nJ b) c P k/\(∀m,m<h.length->d[m]?=h[m]?)/\d[r]?=ε (.lst (WB c P k))/\tH [.int (n:Nat),.ref a] h=ε (.tup [.str "ring", .ref r],d)/\h.length<=r):=by
 have T:=DZ Y;have Z:∀e∈dD b,e.1<n/\e.2.1<n:=fun e j=>⟨(T.lt e j).1,(T.lt e j).2.1⟩
 have J:=Gv b W h da;have y:=iX (h:=h++[.dt ((dD b).map nC)]) (Dt.int 0) (show n<=1000000 by omega);have q:=iX (h:=h++[.dt ((dD b).map nC)]++[.lst (List.replicate n (Dt.int 0))]) Dt.non (show n<=1000000 by omega);have Q:List.replicate n (Dt.int 0)=mC n s0.t:=by unfold mC;rw[show(fun i=>Dt.int (s0.t i))=fun z=>Dt.int 0 from rfl,map_const',Fi]
 have c0:List.replicate n Dt.non=mE n s0.c:=by unfold mE;rw[show(fun i=>KE (s0.c i))=fun z=>Dt.non from rfl,map_const',Fi]
 rw[Q]at y q;rw[c0]at q;simp![su,Wu,Vu,ji,Ru,Ve,Ae]at y q;have E:=fun h=>oE (h:=h) (show(-(2^62):Int)<=(n:Int)+1 by omega) (show(n:Int)+1<2^62 by omega)
 have en:((n:Int)+1).toNat=n+1:=by omega
 rw[en]at E;have M:cJ h n (dD b) (VE (dD b) 0 s0) (h++[.dt ((dD b).map nC),.lst (mC n s0.t),.lst (mE n s0.c)]):=by
  refine⟨by simp,.inl ?_,?_,?_,fun m C=>Xo C⟩
  . rw[ab (Uo _),Ds];rfl
  . rw[ab nofun,Ja];rfl
  . rw[ab nofun,Ja];rfl
 rcases EZ H nofun Z (ε (.int (n:Nat))) (ε (.ref a)) ((List.range (n+1)).map fun(k:Nat)=>Dt.int (k:Int)) 0 none none none _ M (fun h=>Ei h nofun)with⟨s,d,o,B,F,a4⟩ | ⟨y5,y6,d,o,B,F⟩
 . refine .inl ⟨s.t,d,fun e j=>?_,F.els,?_⟩
   . obtain⟨x,S,O,L,x3⟩:=(BH b).low e j;have:=B x S;simp![AF]at this ⊢;rw[O,L]at this;omega
   . simp[tH,aT,J,y,q,E,a4]
 . rw[ni,Fi,Ae]at o B;obtain⟨p,ql,rfl⟩:=B nofun;obtain⟨u,D,I,_⟩:=JY T (fun e j=>G7 j) n;obtain⟨k,R,cd⟩:=O8 T I ql;have g:=jk H nofun o.dc T R cd;refine .inr ⟨(VE (dD b) (n+1) s0).c,xB (nxt (VE (dD b) (n+1) s0).c) n p,k,d.length,d++[.lst (WB (VE (dD b) (n+1) s0).c (xB (nxt (VE (dD b) (n+1) s0).c) n p) k)],R,fun m C=>?_,?_,?_,by rw[o.len];omega⟩
   . rw[Xo (by rw[o.len];omega)];exact o.els m C
   . rw[ab (Uo _),Ds];rfl
   . simp[tH,aT,J,y,q,E,F,g]
theorem n0{n:Nat}{a:Ms Bd}{b:Nat->Int}{c:Nat->Ni Nat}{P k:Nat}(g:∀e∈a,b e.1-b e.2.1<=e.2.2)(R:bH n (dD a) (nJ a) c P k):False:=by
 have j:∀i,i<=k->b P-b (xB (nxt c) i P)<=((List.range i).map fun m=>nJ a (xB (nxt c) m P) (xB (nxt c) (m+1) P)).sum:=by
  intro i
  induction i with
  | zero=>intro _;show b P-b P<=0;omega
  | succ i ih=>intro o;have d:=ih nofun;have h:=g _ ((BH a).mem _ (R.edge i nofun).1);rw[Ie,Gi,sum_append];simp![Ss,Vs,sum_cons,sum_nil,Int.add_zero]at h ⊢;omega
 have d:=j k (Uo _);rw[R.back]at d;have:=R.sum;omega
theorem Gf{n:Nat}(o:1<=n)(t:Nat->Int):(List.range n).map (lB n t) ≠ []/\TB ((List.range n).map (lB n t))=0:=by
 have ne:∀g:Nat->Int,(List.range n).map g ≠ []:=fun g z=>by have:=congrArg List.length z;simp at this;omega
 refine⟨ne _,?_⟩;obtain⟨m,k⟩:=lG _ (ne t);obtain⟨h,d⟩:=lG _ (ne (lB n t));obtain⟨i,b,e⟩:=Bu.mp m;obtain⟨j,a,p⟩:=Bu.mp h;have u:=d (lB n t i) (mem_map_of_mem b);have s:=k (t j) (mem_map_of_mem a);have r:lB n t i=0:=by unfold lB;rw[e];omega
 have q:lB n t j=t j-TB ((List.range n).map t):=rfl;omega
noncomputable def sC(t a b:Int):Nat:=if t<a then 0 else if t=a then 1 else if t<b then 2 else if t=b then 3 else 4
noncomputable def az:Ms (Nat×Nat):=[(0,0),(0,1),(0,2),(0,3),(0,4),(1,2),(1,3),(1,4),(2,2),(2,3),(2,4),(3,4),(4,4)]
theorem SO{a b c d:Int}(h1:a<b)(h2:c<d):(sC a c d,sC b c d)∈az:=by
 unfold sC
 repeat' split
 all_goals first | (exfalso;omega) | decide
noncomputable def pr(p:Nat×Nat):Dt:=.tup [.int (p.1:Int),.int (p.2:Int)]
noncomputable def OH(s:Int×Int):Dt:=.tup [.int s.1,.int s.2]
def zC(s o:Int×Int):Nat:=az.idxOf (sC s.1 o.1 o.2,sC s.2 o.1 o.2)
def MD(s:Int×Int):Prop:=s.1<s.2
theorem KF{s o:Int×Int}(h1:MD s)(h2:MD o):zC s o<13:=idxOf_lt_length_of_mem (SO h1 h2)
theorem Ed:∀p∈az,II (az.map pr) (pr p)=true/\EF (az.map pr) (pr p)=ε (az.idxOf p):=by intro p hp;simp![az,Bo,not_mem_nil,or_false]at hp;rcases hp with rfl | rfl | rfl | rfl | rfl | rfl | rfl | rfl | rfl | rfl | rfl | rfl | rfl<;>exact⟨rfl,rfl⟩
noncomputable def mkS(n:Nat)(p:Nat->Bool):Nat:=match n with
 | 0=>0
 | n+1=>mkS n p+(if p n=true then 2^n else 0)
theorem JT(p:Nat->Bool):∀n,mkS n p<2^n
 | 0=>by simp[mkS]
 | n+1=>by have:=JT p n;simp![mkS];rw[Nat.pow_succ];split<;>omega
theorem j0(p:Nat->Bool):∀n k,(mkS n p).testBit k=(decide (k<n)&&p k)
 | 0,k=>by simp[mkS]
 | n+1,k=>by
  have ih:=j0 p n k;have lt:=JT p n;simp![mkS];by_cases hp:p n=true
  . rw[eG hp,Nat.add_comm];rcases Nat.lt_trichotomy k n with h | h | h
    . rw[Nat.testBit_two_pow_add_gt h,ih];simp[h,Nat.lt_succ_of_lt h]
    . subst h;rw[Nat.testBit_two_pow_add_eq,ih];simp[hp]
    . have:2^n+mkS n p<2^k:=jo (show 2^n+mkS n p<2^(n+1) by rw[Nat.pow_succ];omega) (Nat.pow_le_pow_right (by decide) h);rw[Nat.testBit_lt_two_pow this];have:¬k<n+1:=by omega
      simp[this]
  . rw[eH hp,Nat.add_zero,ih];by_cases h:k=n
    . subst h;simp[hp]
    . have:(k<n+1)=(k<n):=by apply propext;omega
      simp[this]
theorem nG{a b:Nat}(g:a<8192)(e:b<8192)(h:∀k<13,a.testBit k=b.testBit k):a=b:=by
 apply Nat.eq_of_testBit_eq;intro k;by_cases d:k<13
 . exact h k d
 . have hp:8192<=2^k:=by have:=Nat.pow_le_pow_right (show 1<=2 by decide) (show 13<=k by omega);exact this
   rw[Nat.testBit_lt_two_pow nofun,Nat.testBit_lt_two_pow nofun]
def mk(p:Nat->Bool):Nat:=mkS 13 p
theorem Nq(p:Nat->Bool):mk p<8192:=JT p 13
theorem Oj(p:Nat->Bool){k:Nat}(a:k<13):(mk p).testBit k=p k:=by unfold mk;rw[j0];simp[a]
noncomputable def vA(m:Nat):Ms Nat:=(List.range 13).filter m.testBit
theorem am{m k:Nat}:k∈vA m↔k<13/\m.testBit k=true:=by simp[vA]
theorem Vg(g:Nat->Int)(p:Nat->Bool)(xs:Ms Nat):((xs.filter p).map g).sum=(xs.map fun k=>if p k=true then g k else 0).sum:=by
 induction xs with
 | nil=>rfl
 | cons x xs ih=>by_cases h:p x=true<;>simp[h,ih]
theorem BZ(p:Nat->Bool):∀n,((List.range n).map fun k=>if p k=true then(2:Int)^k else 0).sum=(mkS n p:Int)
 | 0=>rfl
 | n+1=>by
  have f:(if p n=true then(2:Int)^n else 0)=((if p n=true then 2^n else 0:Nat):Int):=by cases p n<;>simp
  rw[Ie,Gi,sum_append,BZ p n,Ss,Vs,sum_cons,sum_nil,Int.add_zero,f];rfl
theorem iZ(p:Nat->Bool):((((List.range 13).filter p).map fun k=>(2:Int)^(12-k))).sum=(mk (fun j=>p (12-j)):Int):=by rw[Vg,<- sum_reverse,<- map_reverse,show(List.range 13).reverse=(List.range 13).map (12 - ·) by decide,map_map];refine Eq.trans (congrArg List.sum (map_congr_left fun k a=>?_)) (BZ _ 13);show(if p (12-k)=true then(2:Int)^(12-(12-k))else 0)=_;rw[Nat.sub_sub_self (Nat.le_of_lt_succ (Ca.mp a))]
def Xi(m:Nat):Nat:=mk fun j=>m.testBit (12-j)
theorem ZJ(m:Nat):Xi m<8192:=Nq _
theorem JE(m:Nat){k:Nat}(a:k<13):(Xi m).testBit k=m.testBit (12-k):=Oj _ a
theorem tS{m:Nat}(a:m<8192):Xi (Xi m)=m:=nG (ZJ _) a fun k b=>by
 rw[JE _ b,JE _ nofun]
 congr 1
 omega
theorem sH(a b:Nat):Builtin.bitAnd (a:Int) (b:Int)=((a&&&b:Nat):Int):=by unfold Builtin.bitAnd;simp
theorem FP(a b:Nat):Builtin.bitOr (a:Int) (b:Int)=((a|||b:Nat):Int):=by
 unfold Builtin.bitOr Builtin.bitAnd Builtin.bitNot;have g:decide (0<=-(a:Int)-1)=false:=by simp;omega
 have d:decide (0<=-(b:Int)-1)=false:=by simp;omega
 have e:∀x:Int,-(-x-1)-1=x:=by intro x;omega
 simp![g,d,e];simp
theorem EI(m k:Nat):decide (Builtin.bitAnd ((m:Int)/2^k) 1=1)=m.testBit k:=by
 have e:((m:Int)/2^k)=((m/2^k:Nat):Int):=by simp
 rw[e];have:=sH (m/2^k) 1;simp![Hu]at this;rw[this,Nat.testBit_eq_decide_div_mod_eq];have e2:(m/2^k&&&1)=m/2^k%2:=Nat.and_one_is_mod _;rw[e2]
 congr 1
 apply propext;omega
theorem TH{k:Nat}(a:k<13):YI 1 (k:Int):=⟨by omega,by omega,by decide⟩
theorem aV(h:HI):yQ (.int 13,h)=ε (.vals ((List.range 13).map fun(k:Nat)=>Dt.int (k:Int)),h):=oE (by decide) (by decide)
theorem J6{a:Type}(f:Nat->a):((List.range 13).map f).length<sizeLine:=by rw[ni,Fi];decide
theorem VU{i:Nat}(h:i<13):i=0\/i=1\/i=2\/i=3\/i=4\/i=5\/i=6\/i=7\/i=8\/i=9\/i=10\/i=11\/i=12:=by revert i;decide
theorem NJ(m:Nat):(vA m).length<=13:=by unfold vA;exact um (length_filter_le _ _) ⋯
theorem ML(m:Nat)(h:HI):HG [.int m] h=ε (.lst ((vA m).map fun(k:Nat)=>Dt.int (k:Int)),h):=by
 have a:=ZL (te:=PR) (tc:=QR) (i:=0) (fun(k:Nat)=>Dt.int (k:Int)) m.testBit (fun(k:Nat)=>Dt.int (k:Int)) h (List.range 13) [none,ε (.int m)] fun k q=>⟨by
  simp[QR,JH,EI],fun q=>by simp[PR]⟩
 simp[HG,WX,aV,UD _ _ _ (J6 _),a,vA]
theorem gn(a:Ms Nat)(g:∀k∈a,k<13)(e:a.length<=13)(h:HI):dP [.lst (a.map fun(k:Nat)=>Dt.int (k:Int))] h=ε (.int ((a.map fun k=>(2:Int)^k).sum),h):=by
 have j:=XF (te:=LR) (tc:=nB) (i:=0) (fun(k:Nat)=>Dt.int (k:Int)) (fun(k:Nat)=>Dt.int ((2:Int)^k)) h a [none] fun k d=>⟨rfl,by
  simp[LR,NI (TH (g k d))]⟩
 have hs:((a.map fun(k:Nat)=>Dt.int (k:Int))).length<sizeLine:=by rw[ni];exact Du e (by decide)
 have b:=Dq (h:=h) (a.map fun k=>(2:Int)^k);rw[map_map]at b;have:(Dt.int ∘ fun k=>(2:Int)^k)=fun(k:Nat)=>Dt.int ((2:Int)^k):=rfl
 rw[this]at b;simp[dP,cY,UD _ _ _ hs,j,b]
theorem Gn(m:Nat)(h:HI):fP [.int m] h=ε (.int (Xi m),h):=by
 have e:=XF (te:=MR) (tc:=nB) (i:=0) (fun(k:Nat)=>Dt.int (k:Int)) (fun(k:Nat)=>Dt.int (((12-k:Nat):Nat):Int)) h (vA m) [none] fun k b=>⟨rfl,by
  have:=(am.mp b).1;simp[MR];omega⟩
 have hs:((vA m).map fun(k:Nat)=>Dt.int (k:Int)).length<sizeLine:=by rw[ni];exact Du (NJ m) (by decide)
 have a:=gn ((vA m).map fun k=>12-k) (by intro k d;obtain⟨j,_,rfl⟩:=Bu.mp d;omega) (by rw[ni];exact NJ m) h;rw[map_map,map_map]at a;have n:((fun(k:Nat)=>Dt.int (k:Int)) ∘ fun k=>12-k)=fun(k:Nat)=>Dt.int (((12-k:Nat):Nat):Int):=rfl
 have e2:((fun(k:Nat)=>(2:Int)^k) ∘ fun k=>12-k)=fun(k:Nat)=>(2:Int)^(12-k):=rfl
 have g:((vA m).map fun k=>(2:Int)^(12-k)).sum=(Xi m:Int):=iZ _;rw[n,e2,g]at a;simp[fP,dY,ML,UD _ _ _ hs,e,a]
theorem Nr(t a b:Int)(j:a<b):(t<a/\sC t a b=0)\/(t=a/\sC t a b=1)\/(a<t/\t<b/\sC t a b=2)\/(t=b/\sC t a b=3)\/(b<t/\sC t a b=4):=by
 unfold sC;rcases Int.lt_trichotomy t a with h | h | h
 . exact .inl ⟨h,eG h⟩
 . exact .inr (.inl ⟨h,by rw[eH (by rw[h];exact Int.lt_irrefl a),eG h]⟩)
 . have i:¬t<a:=fun z=>Int.lt_irrefl a (Int.lt_trans h z)
   have g:¬t=a:=fun z=>Int.lt_irrefl a (z ▸ h)
   rw[eH i,eH g];rcases Int.lt_trichotomy t b with k | k | k
   . exact .inr (.inr (.inl ⟨h,k,eG k⟩))
   . exact .inr (.inr (.inr (.inl ⟨k,by rw[eH (by rw[k];exact Int.lt_irrefl b),eG k]⟩)))
   . have e:¬t<b:=fun z=>Int.lt_irrefl b (Int.lt_trans k z)
     have d:¬t=b:=fun z=>Int.lt_irrefl b (z ▸ k)
     exact .inr (.inr (.inr (.inr ⟨k,by rw[eH e,eH d]⟩)))
theorem m4{w:Nat}(hw:w<13):Xi (2^w)=2^(12-w):=by
 have b:2^(12-w)<8192:=Du (Nat.pow_le_pow_right (by decide) (show 12-w<=12 by omega)) (by decide);refine nG (ZJ _) b fun k a=>?_
 rw[JE _ a,Nat.testBit_two_pow,Nat.testBit_two_pow]
 congr 1
 apply propext;omega
def CH(i j:Nat):Nat:=match bv[i]? with
 | some (.tup r)=>(match r[j]? with
  | some (.int n)=>n.toNat
  | _=>0)
 | _=>0
noncomputable def P6:Dt->Nat
 | .int n=>n.toNat
 | _=>0
def kN:Dt->Ms Nat
 | .tup r=>r.map P6
 | _=>[]
theorem h8:bv=(bv.map kN).map fun r=>.tup (r.map fun n:Nat=>.int (n:Int)):=by rfl
theorem Ux:(bv.map kN).length=13/\∀r∈bv.map kN,r.length=13:=by decide +kernel
theorem u4{i j:Nat}(h:i<13)(g:j<13):∃r,bv[i]?=ε (.tup r)/\r[j]?=ε (.int (CH i j)):=by
 obtain⟨N,k⟩:∃N,bv.map kN=N:=⟨_,rfl⟩
 have T:=h8;have d:=Ux;rw[k]at T d;have a:i<N.length:=by rw[d.1];exact h
 have e:bv[i]?=ε (.tup (N[i].map fun n:Nat=>.int (n:Int))):=by rw[T,wu,jj a];rfl
 have b:j<N[i].length:=by rw[d.2 _ (getElem_mem a)];exact g
 have e2:(N[i].map fun n:Nat=>Dt.int (n:Int))[j]?=ε (.int (N[i][j]:Int)):=by rw[wu,jj b];rfl
 refine⟨_,e,?_⟩;rw[e2];unfold CH;rw[e];dsimp only;rw[e2];rfl
theorem b8:∀i<13,∀j<13,1<=CH i j/\CH i j<8192:=by decide +kernel
theorem VY:∀i<13,∀j<13,∀k<13,(CH (12-j) (12-i)).testBit (12-k)=(CH i j).testBit k:=by decide +kernel
noncomputable def rk(l:Ms Int)(x:Int):Nat:=match l with
 | []=>0
 | z::l=>(if z<x then 1 else 0)+rk l x
theorem A3{x y:Int}(h:x<=y):∀l,rk l x<=rk l y
 | []=>Uo _
 | z::l=>by have:=A3 h l;unfold rk;split<;>split<;>omega
theorem NH{x y:Int}(h:x<y):∀l,x∈l->rk l x<rk l y
 | z::l,m=>by
  unfold rk;rcases Bo.mp m with rfl | m
  . have:=A3 (Int.le_of_lt h) l;rw[eH (Int.lt_irrefl _),eG h];omega
  . have:=NH h l m;split<;>split<;>omega
theorem WP{x:Int}:∀l,x∈l->rk l x<l.length
 | z::l,m=>by
  have q:∀l,rk l x<=l.length:=by
   intro l;induction l with
   | nil=>exact Uo _
   | cons z l ih=>unfold rk;rw[Ru];split<;>omega
  unfold rk;rw[Ru];rcases Bo.mp m with rfl | m
  . have:=q l;rw[eH (Int.lt_irrefl _)];omega
  . have:=WP l m;split<;>omega
theorem lX{l:Ms Int}{x y:Int}(b:x∈l)(a:y∈l):(x<y)=((rk l x:Int)<(rk l y:Int)):=by
 apply propext;constructor
 . intro h;have:=NH h l b;omega
 . intro h;rcases Int.lt_trichotomy x y with g | g | g
   . exact g
   . subst g;omega
   . have:=NH g l a;omega
theorem kX{l:Ms Int}{x y:Int}(b:x∈l)(a:y∈l):(x=y)=((rk l x:Int)=(rk l y:Int)):=by
 apply propext;constructor
 . intro h;rw[h]
 . intro h;rcases Int.lt_trichotomy x y with g | g | g
   . have:=NH g l b;omega
   . exact g
   . have:=NH g l a;omega
theorem cK{l:Ms Int}{t a b:Int}(d:t∈l)(g:a∈l)(e:b∈l):sC t a b=sC (rk l t) (rk l a) (rk l b):=by unfold sC;simp![lX d g,kX d g,lX d e,kX d e]
noncomputable def PH(t a b:Nat):Nat:=if t<a then 0 else if t=a then 1 else if t<b then 2 else if t=b then 3 else 4
theorem Rx(t a b:Nat):sC t a b=PH t a b:=by unfold sC PH;simp![Int.ofNat_lt,Int.ofNat_inj]
noncomputable def TK(z y:Nat):Nat:=[0,3,6,7,8].getD z 0+y
theorem Hz:∀z<5,∀y<5,(z,y)∈az->az.idxOf (z,y)=TK z y:=by decide +kernel
theorem Bm:∀b<6,∀a<b,∀d<6,∀c<d,∀q<6,∀p<q,
 (CH (TK (PH a c d) (PH b c d)) (TK (PH c p q) (PH d p q))).testBit (TK (PH a p q) (PH b p q))=true:=by decide +kernel
theorem X3(t a b:Int):sC t a b<5:=by
 unfold sC
 repeat' split
 all_goals decide
theorem eY{s o t:Int×Int}(h1:MD s)(h2:MD o)(h:MD t):(CH (zC s o) (zC o t)).testBit (zC s t)=true:=by
 obtain⟨a,b⟩:=s;obtain⟨c,d⟩:=o;obtain⟨p,q⟩:=t;unfold MD at h1 h2 h;simp only at h1 h2 h;have W:∀{a b c d:Int},a<b->c<d->zC (a,b) (c,d)=TK (sC a c d) (sC b c d):=fun C g2=>Hz _ (X3 _ _ _) _ (X3 _ _ _) (SO C g2)
 rw[W h1 h2,W h2 h,W h1 h];have m:a ∈ [a,b,c,d,p,q]:=by simp
 have k:b ∈ [a,b,c,d,p,q]:=by simp
 have j:c ∈ [a,b,c,d,p,q]:=by simp
 have i:d ∈ [a,b,c,d,p,q]:=by simp
 have g:p ∈ [a,b,c,d,p,q]:=by simp
 have e:q ∈ [a,b,c,d,p,q]:=by simp
 have B:=NH h1 _ m;have y:=NH h2 _ j;have x:=NH h _ g;have u:=WP _ k;have r:=WP _ i;have n:=WP _ e;rw[cK m j i,cK k j i,cK j g e,cK i g e,cK m g e,cK k g e];generalize rk [a,b,c,d,p,q] a=a' at *;generalize rk [a,b,c,d,p,q] b=b' at *;generalize rk [a,b,c,d,p,q] c=c' at *;generalize rk [a,b,c,d,p,q] d=d' at *;generalize rk [a,b,c,d,p,q] p=p' at *;generalize rk [a,b,c,d,p,q] q=q' at *;simp![Rx];exact Bm _ u _ B _ r _ y _ n _ x
theorem nb:∀i<13,∀j<13,(CH i j).testBit 6=true->j=12-i:=by decide +kernel
theorem nc{s:Int×Int}(h:MD s):zC s s=6:=by obtain⟨a,b⟩:=s;have h:a<b:=h;unfold zC sC;simp[Int.ne_of_gt h,show ¬b<a by omega];rfl
theorem kS{s o:Int×Int}(h1:MD s)(h2:MD o):zC o s=12-zC s o:=by have:=eY h1 h2 h1;rw[nc h1]at this;exact nb _ (KF h1 h2) _ (KF h2 h1) this
noncomputable def kJ(f:Nat->Nat)(xs:Ms Nat)(a:Nat):Nat:=xs.foldl (fun b x=>b|||f x) a
theorem B0(f:Nat->Nat)(k:Nat):∀(xs:Ms Nat)(a:Nat),(kJ f xs a).testBit k=(a.testBit k || xs.any fun x=>(f x).testBit k)
 | [],a=>by simp[kJ]
 | x::xs,a=>by have:=B0 f k xs (a|||f x);unfold kJ at this ⊢;rw[foldl_cons,this];simp[Nat.testBit_or,Bool.or_assoc]
theorem V1(f:Nat->Nat):∀(xs:Ms Nat)(a:Nat),a<8192->(∀x∈xs,f x<8192)->kJ f xs a<8192
 | [],a,ha,_=>ha
 | x::xs,a,ha,h=>by unfold kJ;rw[foldl_cons];exact V1 f xs (a|||f x) (Nat.or_lt_two_pow (n:=13) ha (h x ⋯)) fun y b=>h y (by simp[b])
def chS(a b:Nat):Nat:=(vA a).foldl (fun d i=>kJ (CH i) (vA b) d) 0
theorem VW(b k:Nat):∀(xs:Ms Nat)(a:Nat),(xs.foldl (fun d i=>kJ (CH i) (vA b) d) a).testBit k=(a.testBit k || xs.any fun i=>(vA b).any fun j=>(CH i j).testBit k)
 | [],a=>by simp
 | x::xs,a=>by rw[foldl_cons,VW b k xs,B0];simp[Bool.or_assoc]
theorem aM(a b k:Nat):(chS a b).testBit k=true↔∃i j,i<13/\a.testBit i=true/\j<13/\b.testBit j=true/\(CH i j).testBit k=true:=by
 unfold chS;rw[VW];simp![Nat.zero_testBit,Bool.false_or,any_eq_true,am];constructor
 . rintro⟨i,⟨m,h⟩,j,⟨g,e⟩,d⟩;exact⟨i,j,m,h,g,e,d⟩
 . rintro⟨i,j,m,h,g,e,d⟩;exact⟨i,⟨m,h⟩,j,⟨g,e⟩,d⟩
theorem tX(b:Nat):∀(xs:Ms Nat)(a:Nat),a<8192->(∀i∈xs,i<13)->xs.foldl (fun d i=>kJ (CH i) (vA b) d) a<8192
 | [],a,ha,_=>ha
 | x::xs,a,ha,h=>by rw[foldl_cons];exact tX b xs _ (V1 _ _ _ ha fun j g=>(b8 x (h x ⋯) j (am.mp g).1).2) fun y e=>h y (by simp[e])
theorem n8(a b:Nat):chS a b<8192:=tX b _ 0 (by decide) fun i d=>(am.mp d).1
theorem Dm{a b:Bool}(h:a=true↔b=true):a=b:=by cases a<;>cases b<;>simp_all
theorem X8{a b:Nat}(g:a<8192)(e:b<8192)(h:∀k<13,a.testBit k=true↔b.testBit k=true):a=b:=nG g e fun k d=>Dm (h k d)
theorem Ab(a b:Nat):chS (Xi b) (Xi a)=Xi (chS a b):=by
 refine X8 (n8 _ _) (ZJ _) fun k n=>?_
 rw[JE _ n,aM,aM];constructor
 . rintro⟨i,j,h,g,e,d,m⟩;rw[JE _ h]at g;rw[JE _ e]at d;refine⟨12-j,12-i,by omega,d,by omega,g,?_⟩;have:=VY i h j e k n;rw[this];exact m
 . rintro⟨i,j,h,g,e,d,m⟩;refine⟨12-j,12-i,by omega,?_,by omega,?_,?_⟩
   . rw[JE _ nofun,show 12-(12-j)=j by omega];exact d
   . rw[JE _ nofun,show 12-(12-i)=i by omega];exact g
   . have:=VY i h j e (12-k) nofun;rw[show 12-(12-k)=k by omega]at this;rw[this];exact m
theorem ng{i:Nat}(o:i<13)(b d:Nat)(x y z:Ni Dt)(h:HI):∃g,yN [x,y,ε (.lst ((vA b).map fun(k:Nat)=>Dt.int (k:Int))),ε (.int d),ε (.int i),z] h=ε (.nx [x,y,ε (.lst ((vA b).map fun(k:Nat)=>Dt.int (k:Int))),ε (.int (kJ (CH i) (vA b) d)),ε (.int i),g] h):=by
 obtain⟨q,m,e,⟨g,rfl⟩,rfl⟩:=MJ (i:=5) (body:=kR) (fun(k:Nat)=>Dt.int (k:Int)) (fun(a:Nat) l m=>(∃g,l=[x,y,ε (.lst ((vA b).map fun(k:Nat)=>Dt.int (k:Int))),ε (.int a),ε (.int i),g])/\m=h) (fun a j=>a|||CH i j) (vA b) (by
  rintro j n a l h ⟨⟨g,rfl⟩,rfl⟩;obtain⟨r,p,e2⟩:=u4 o (am.mp n).1;refine⟨.nx [x,y,ε (.lst ((vA b).map fun(k:Nat)=>Dt.int (k:Int))),ε (.int ((a|||CH i j:Nat):Int)),some (.int i),some (.int j)] h,?_,⟨_,rfl⟩,rfl⟩;simp[kR,p,e2,FP]) d [x,y,some (.lst ((vA b).map fun(k:Nat)=>Dt.int (k:Int))),ε (.int d),ε (.int i),z] h ⟨⟨z,rfl⟩,rfl⟩
 refine⟨g,?_⟩;simp[yN,e];rfl
theorem iw(a b:Nat)(h:HI):ZN [.int a,.int b] h=ε (.int (chS a b),h):=by
 obtain⟨n,g,e,⟨z,w,rfl⟩,rfl⟩:=MJ (i:=4) (body:=yN) (fun(k:Nat)=>Dt.int (k:Int)) (fun(c:Nat) l g=>(∃z w,l=[ε (.int a),ε (.int b),ε (.lst ((vA b).map fun(k:Nat)=>Dt.int (k:Int))),ε (.int c),z,w])/\g=h) (fun d i=>kJ (CH i) (vA b) d) (vA a) (by
  rintro i j c l h ⟨⟨z,w,rfl⟩,rfl⟩;obtain⟨m,e⟩:=ng (am.mp j).1 b c (ε (.int a)) (ε (.int b)) w h;exact⟨_,e,⟨_,_,rfl⟩,rfl⟩) 0 [ε (.int a),ε (.int b),ε (.lst ((vA b).map fun(k:Nat)=>Dt.int (k:Int))),ε (.int 0),none,none] h ⟨⟨none,none,rfl⟩,rfl⟩
 simp[ZN,PV,ML,e];rfl
noncomputable def vC(c:Nat)(g:Nat->Nat):Ms Dt:=(List.range c).map fun(j:Nat)=>Dt.int (g j:Nat)
noncomputable def bF(b c:Nat):Ms Dt:=(List.range c).map fun(k:Nat)=>Dt.ref (b+k)
structure Uu(h:HI)(b c:Nat)(f:Nat->Nat->Nat):Prop where
 row:∀i<c,h[b+i]?=ε (.lst (vC c (f i)))
 top:h[b+c]?=ε (.lst (bF b c))
def lC(b c:Nat)(f:Nat->Nat->Nat):HI:=((List.range c).map fun i=>Ob.lst (vC c (f i)))++[.lst (bF b c)]
theorem Uu.lt{h:HI}{b c:Nat}{f:Nat->Nat->Nat}(N:Uu h b c f):b+c<h.length:=(Wi N.top).1
theorem Uu.grow{h:HI}{b c:Nat}{f:Nat->Nat->Nat}(N:Uu h b c f)(e:HI):Uu (h++e) b c f:=by have:=N.lt;exact⟨fun i a=>by rw[Xo nofun];exact N.row i a,by rw[Xo nofun];exact N.top⟩
theorem qE(h:HI)(c:Nat)(f:Nat->Nat->Nat):Uu (h++lC h.length c f) h.length c f:=by
 constructor
 . intro i a;rw[ab nofun];unfold lC;rw[Xo (by simp;omega)];simp[a]
 . rw[ab nofun];unfold lC;rw[ab ⋯];simp
theorem PJ(c:Nat)(g:Nat->Nat):(vC c g).length=c:=by simp[vC]
theorem RJ(b c:Nat):(bF b c).length=c:=by simp[bF]
theorem TL{c j:Nat}(a:j<c)(g:Nat->Nat):(vC c g)[j]?=ε (.int (g j:Nat)):=by simp[vC,a]
theorem VL{b c j:Nat}(a:j<c):(bF b c)[j]?=ε (.ref (b+j)):=by simp[bF,a]
theorem bh{c:Nat}{g g':Nat->Nat}(e:∀j<c,g j=g' j):vC c g=vC c g':=map_congr_left fun j a=>by rw[e j (Ca.mp a)]
theorem Ml{c j:Nat}(g:Nat->Nat)(v:Nat):(vC c g).set j (.int (v:Nat))=vC c (fun x=>if x=j then v else g x):=by
 apply ext_getElem?;intro k;rw[getElem?_set];simp![vC,ni,Fi,wu];by_cases a:k<c
 . rw[Ma a];by_cases b:j=k
   . subst b;simp[a]
   . have:¬k=j:=fun z=>b z.symm
     simp[b,this]
 . rw[ju (by simpa using a)];split
   . have:¬j<c:=by omega
     simp[this]
   . rfl
theorem Uu.congr{h:HI}{b c:Nat}{f g:Nat->Nat->Nat}(N:Uu h b c f)(e:∀i<c,∀j<c,f i j=g i j):Uu h b c g:=
 ⟨fun i a=>by rw[<- bh (e i a)];exact N.row i a,N.top⟩
noncomputable def EB(f:Nat->Nat->Nat)(i j v:Nat):Nat->Nat->Nat:=fun a b=>if a=i then(if b=j then v else f a b)else f a b
theorem Uu.other{h:HI}{b c:Nat}{f:Nat->Nat->Nat}(N:Uu h b c f){n:Nat}(d:n<b\/b+c<n)(o:Ob):Uu (h.set n o) b c f:=
 ⟨fun i a=>by rw[m8 nofun];exact N.row i a,by rw[m8 nofun];exact N.top⟩
theorem Uu.ix{h:HI}{b c:Nat}{f:Nat->Nat->Nat}(N:Uu h b c f){i:Nat}(a:i<c):pA (.ref (b+c)) (.int (i:Nat)) h=ε (.ref (b+i),h):=by rw[mF N.top,SM.YC,VL a];rfl
theorem Uu.ix2{h:HI}{b c:Nat}{f:Nat->Nat->Nat}(N:Uu h b c f){i j:Nat}(d:i<c)(a:j<c):pA (.ref (b+i)) (.int (j:Nat)) h=ε (.int (f i j:Nat),h):=by rw[mF (N.row i d),SM.YC,TL a];rfl
theorem Uu.len{h:HI}{b c:Nat}{f:Nat->Nat->Nat}(N:Uu h b c f):qB (.ref (b+c)) h=ε (.int (c:Nat),h):=by rw[HH N.top,RJ]
theorem Uu.seq{h:HI}{b c:Nat}{f:Nat->Nat->Nat}(N:Uu h b c f):mJ (.ref (b+c),h)=ε (.rf (b+c),h):=PD N.top
theorem Uu.len1{h:HI}{b c:Nat}{f:Nat->Nat->Nat}(N:Uu h b c f){i:Nat}(a:i<c):qB (.ref (b+i)) h=ε (.int (c:Nat),h):=by rw[HH (N.row i a),PJ]
theorem Tt{i n:Nat}{xs:Ms Dt}:∀(l:LI)(h:HI)(b:Dt)(h':HI),QB xF (eV i) l h=ε (b,h')->h[n]?=ε (.lst xs)->h'[n]?=ε (.lst xs):=by
 intro l h b h' e q;have a:=(Wi q).1;rw[fC,kA]at e;cases z:l[i]? with
 | none=>rw[z]at e;simp[VH]at e
 | some o=>
  rw[z]at e;cases o with
  | none=>simp[VH]at e
  | some d=>
   simp![nA,dA,xF]at e;cases y:FD h d with
   | none=>rw[y]at e;cases e
   | some g=>rw[y]at e;simp![Vi,Ga,xu]at e;obtain⟨_,rfl⟩:=e;rw[Xo a];exact q
theorem mY{n:Nat}{xs:Ms Dt}:∀(l:LI)(h:HI)(b:Bool)(h':HI),nB l h=ε (b,h')->h[n]?=ε (.lst xs)->h'[n]?=ε (.lst xs):=by intro l h b h' e q;simp![vP,Ga,xu]at e;rw[<- e.2];exact q
theorem eS{te:RE}(d:te=QB xF (eV 0)){h:HI}{b c:Nat}{f:Nat->Nat->Nat}(N:Uu h b c f)(j:c<=1000)(l:LI)(g:0<l.length):OE (rA 0) nB te l (.rf (b+c),h)=ε (bF h.length c,h++(List.range c).map fun i=>Ob.lst (vC c (f i))):=by
 subst d;rw[CS N.top (by rw[RJ];simp;omega) mY Tt];have:=LO (te:=QB xF (eV 0)) (i:=0) (fun(k:Nat)=>Dt.ref (b+k)) (fun i=>Ob.lst (vC c (f i))) h (List.range c) l [] (by
  intro k a e;have a:=Ca.mp a;have q:=(N.grow e).row k a;rw[fC,kA,uo g,nA,dA];simp![xF,FD,KA,q,Vi])
 rw[Us,Fi]at this;exact this
noncomputable def Xe(i j:Nat):Nat:=if i=j then 64 else 8191
theorem cX(b c:Nat)(f:Nat->Nat->Nat):(lC b c f).length=c+1:=by simp[lC]
theorem zO(h:HI){c i:Nat}(b:i<c)(f:Nat->Nat->Nat)(j v:Nat):(h++lC h.length c f).set (h.length+i) (.lst ((vC c (f i)).set j (.int (v:Nat))))=h++lC h.length c (EB f i j v):=by
 rw[set_append_right _ _ nofun,Ja]
 congr 1
 unfold lC;rw[set_append_left _ _ (by simpa using b)]
 congr 1
 apply ext_getElem?;intro k;rw[getElem?_set];simp![ni,Fi,wu];by_cases a:k<c
 . rw[Ma a];by_cases e:i=k
   . subst e;have:(fun x=>if x=j then v else f i x)=EB f i j v i:=by funext x;simp[EB]
     simp[b,Ml,this]
   . have:¬k=i:=by omega
     have q:EB f i j v k=f k:=by funext x;simp[EB,this]
     simp[e,q]
 . rw[ju (by simpa using a)];have:¬i=k:=by omega
   simp[this]
theorem sZ(f:Nat->Nat->Nat)(i j v:Nat):EB f i j v i j=v:=by simp[EB]
def vB(f:Nat->Nat->Nat)(i m j:Nat):Nat->Nat->Nat:=EB (EB f i j (f i j&&&m)) j i (Xi (f i j&&&m))
theorem vO{h:HI}{b c:Nat}{f:Nat->Nat->Nat}(N:Uu h b c f)(r:c<=1000){i j:Nat}(a:i<c)(d:j<c)(m:Nat) :
 jI [.ref (b+c),.int (i:Nat),.int (m:Nat),.int (j:Nat)] h=ε (.ref (h.length+c),h++lC h.length c (vB f i m j)):=by
 have x:=eS (te:=fW) rfl N r [none] ⋯;have g:=N.grow (lC h.length c f);have M1:=qE h c f;have M2:=qE h c (EB f i j (f i j&&&m));have q:=zO h a f j (f i j&&&m);have p:=zO h d (EB f i j (f i j&&&m)) i (Xi (f i j&&&m));have k:=Gn (f i j&&&m) (h++lC h.length c (EB f i j (f i j&&&m)));have o:=fun(l:LI)=>QJ (l:=l) (v:=.int ((f i j&&&m:Nat):Nat)) (M1.row i a) (show j<(vC c (f i)).length by rw[PJ];exact d)
 have n:=fun(l:LI)=>QJ (l:=l) (v:=.int ((Xi (f i j&&&m):Nat):Nat)) (M2.row j d) (show i<(vC c (EB f i j (f i j&&&m) j)).length by rw[PJ];exact a)
 have e:=M2.ix2 a d;rw[sZ]at e;have s:(h++(List.range c).map fun i=>Ob.lst (vC c (f i)))++[Ob.lst (bF h.length c)]=h++lC h.length c f:=by rw[su];rfl
 have u:(h++(List.range c).map fun i=>Ob.lst (vC c (f i))).length=h.length+c:=by simp
 dsimp![jI,OW,EA,bB,mI,rC,Ss,Vs,Wu,Vu,Ri,N.seq,fD,eD,x,s,u,NA,Va,Ti,rT,wA,g.ix a,g.ix2 a d,M1.ix a,ME,sH,o,q,QA,DA,BA,M2.ix a,e,Us,k,M2.ix d,n,p,jB,uB];rfl
theorem B2(c:Nat)(g:Nat->Nat)(z:Nat){h:HI}{n:Nat}(e:h[n]?=ε (.lst (vC c g))):XG false (.int (z:Nat)) (.ref n) h=ε (.bl ((List.range c).any fun j=>g j==z),h):=by
 have d:∀a:Ms Nat,vE (a.map fun(j:Nat)=>Dt.int (g j:Nat))=ε (a.map fun(j:Nat)=>V.int (g j:Nat)):=by
  intro a
  induction a with
  | nil=>rfl
  | cons x a ih=>simp[vE,DD,ih]
 have b:LM (V.int (z:Nat)) ((List.range c).map fun(j:Nat)=>V.int (g j:Nat))=(List.range c).any fun j=>g j==z:=by
  unfold LM;rw[any_map]
  congr 1
  funext j
  simp![Function.comp];unfold CK;by_cases q:g j=z
  . simp[q]
  . have:(g j:Int)≠(z:Int):=by omega
    show((g j:Int)==(z:Int))=(g j==z);rw[Es.mpr this,Es.mpr q]
 simp![XG,DD,FD,KA,e,Wa,vC,d,b];simp
noncomputable def wB(c:Nat)(f:Nat->Nat->Nat):Bool:=(List.range c).any fun i=>(List.range c).any fun j=>f i j==0
theorem nh{n:Nat}{xs:Ms Dt}(a:Dt)(i:Nat):∀(l:LI)(h:HI)(b:Dt)(h':HI),e2 (XG false) (eC a) (eV i) l h=ε (b,h')->h[n]?=ε (.lst xs)->h'[n]?=ε (.lst xs):=by
 intro l h b h' e q;rw[wA,sA,dA,kA]at e;cases z:l[i]? with
 | none=>rw[z]at e;simp[VH]at e
 | some o=>
  rw[z]at e;cases o with
  | none=>simp[VH]at e
  | some d=>
   simp![nA,dA,XG]at e;cases k:DD a with
   | none=>rw[k]at e;cases e
   | some r=>
    rw[k]at e;cases j:FD h d with
    | none=>rw[j]at e;cases e
    | some m=>
     rw[j]at e;cases g:vE m with
     | none=>simp[g]at e
     | some p=>simp![Wa,g,Ga,xu]at e;rw[<- e.2];exact q
theorem Fb{te:RE}(a:te=e2 (XG false) (ua 0) (eV 0)){h:HI}{b c:Nat}{f:Nat->Nat->Nat}(N:Uu h b c f)(e:c<=1000):OE (rA 0) nB te [none] (.rf (b+c),h)=ε (((List.range c).map fun i=>(List.range c).any fun j=>f i j==0).map Dt.bl,h):=by
 subst a;rw[CS N.top (by rw[RJ];simp;omega) mY (nh _ _)];have:=XF (te:=e2 (XG false) (ua 0) (eV 0)) (tc:=nB) (i:=0) (fun(k:Nat)=>Dt.ref (b+k)) (fun i=>Dt.bl ((List.range c).any fun j=>f i j==0)) h (List.range c) [none] (by
  intro k d;have:=B2 c (f k) 0 (N.row k (Ca.mp d));simp![Hu]at this;exact⟨rfl,by simp[this]⟩)
 rw[bF,this];simp[map_map]
theorem Dh{h:HI}{b c:Nat}{f:Nat->Nat->Nat}(N:Uu h b c f)(d:c<=1000):EL [.ref (b+c)] h=ε (.bl (wB c f),h):=by have e:=Fb (te:=eW) rfl N d;have a:=Aq (h:=h) ((List.range c).map fun i=>(List.range c).any fun j=>f i j==0);simp![EL,NW,eB,jB,fC,nE,rC,kA,Ss,Vs,Wu,Vu,Ru,Ve,Ra,nA,dA,N.seq,fD,eD,e,a,eN,uB,Nat.reduceAdd];simp[wB,any_map]
noncomputable def AA(p:Nat×Nat):Dt:=.tup [.int (p.1:Nat),.int (p.2:Nat)]
noncomputable def OC(c:Nat)(n:Nat):Ms (Nat×Nat):=(List.range n).flatMap fun i=>(List.range (c-i-1)).map fun k=>(i,i+1+k)
def cB(c:Nat):Ms (Nat×Nat):=OC c c
theorem bn{c:Nat}{p:Nat×Nat}:p∈cB c↔p.1<p.2/\p.2<c:=by
 obtain⟨i,j⟩:=p;unfold cB OC;simp![Ls,Ca,Bu,xu];constructor
 . rintro⟨a,d,k,b,rfl,rfl⟩;omega
 . rintro⟨g,e⟩;exact⟨i,by omega,j-i-1,by omega,rfl,by omega⟩
theorem FL(c n:Nat):(OC c n).length<=n*c:=by
 induction n with
 | zero=>simp[OC]
 | succ n ih=>
  have:OC c (n+1)=OC c n++(List.range (c-n-1)).map fun k=>(n,n+1+k):=by unfold OC;rw[Ie,flatMap_append];simp
  rw[this,ji,ni,Fi,Nat.succ_mul];omega
theorem JR{c:Nat}(q:c<=1000)(h:HI):kI [.int (c:Nat)] h=ε (.ref h.length,h++[.lst ((cB c).map AA)]):=by
 have b:=oE (h:=h++[.lst []]) (show(-(2^62):Int)<=(c:Int) by omega) (show(c:Int)<2^62 by omega);simp![n7]at b;have u:c*c<=1000*1000:=Iu q q;obtain⟨r,a,e,⟨y,z,rfl⟩,rfl⟩:=HE (i:=2) (body:=HR) (fun(k:Nat)=>Dt.int (k:Int)) (fun(n:Nat) l a=>(∃y z,l=[ε (.int (c:Nat)),ε (.ref h.length),y,z])/\a=h++[.lst ((OC c n).map AA)]) c (by
  rintro n E l x ⟨⟨y,z,rfl⟩,rfl⟩;have H:=FL c n;have s:n*c<=c*c:=Nat.mul_le_mul_right _ nofun;obtain⟨r,a,e,⟨y,rfl⟩,rfl⟩:=HE (i:=3) (body:=GR) (fun(k:Nat)=>Dt.int ((n:Int)+1+(k:Int))) (fun(m:Nat) l a=>(∃y,l=[ε (.int (c:Nat)),ε (.ref h.length),ε (.int (n:Nat)),y])/\a=h++[.lst ((OC c n++(List.range m).map fun k=>(n,n+1+k)).map AA)]) (c-n-1) (by
   rintro m F l x ⟨⟨y,rfl⟩,rfl⟩;refine⟨.nx [ε (.int (c:Nat)),ε (.ref h.length),ε (.int (n:Nat)),ε (.int ((n:Int)+1+(m:Int)))] (h++[.lst ((OC c n++(List.range (m+1)).map fun k=>(n,n+1+k)).map AA)]),?_,⟨_,rfl⟩,rfl⟩;have D:=fun(l:LI) (g:RE) (d:Dt) (C:g l (h++[.lst ((OC c n++(List.range m).map fun k=>(n,n+1+k)).map AA)])=ε (d,h++[.lst ((OC c n++(List.range m).map fun k=>(n,n+1+k)).map AA)]))=>tF (h:=h++[.lst ((OC c n++(List.range m).map fun k=>(n,n+1+k)).map AA)]) (l:=l) (n:=h.length) (ys:=(OC c n++(List.range m).map fun k=>(n,n+1+k)).map AA) (xs:=(OC c n++(List.range m).map fun k=>(n,n+1+k)).map AA) ⋯ C ⋯ (by simp;omega)
   simp![GR,cE,eF,kA,Ti,Va,Ra,Ri,nA,dA];rw[D _ _ (AA (n,n+1+m))]
   . simp![dA];rw[show ∀(o p:Ob),(h++[o]).set h.length p=h++[p] by simp];simp[Ie]
   . simp[AA]) [ε (.int (c:Nat)),ε (.ref h.length),ε (.int (n:Nat)),z] (h++[.lst ((OC c n).map AA)]) ⟨⟨z,rfl⟩,by simp⟩
  have b:=vZ (h:=h++[.lst ((OC c n).map AA)]) (i:=(n:Int)+1) (j:=(c:Int)) nofun nofun nofun nofun;rw[show((c:Int)-((n:Int)+1)).toNat=c-n-1 by omega]at b;have B:OC c (n+1)=OC c n++(List.range (c-n-1)).map fun k=>(n,n+1+k):=by unfold OC;rw[Ie,flatMap_append];simp
  refine⟨.nx [ε (.int (c:Nat)),ε (.ref h.length),ε (.int (n:Nat)),y] (h++[.lst ((OC c (n+1)).map AA)]),?_,⟨_,_,rfl⟩,rfl⟩
  . simp![HR,XB,nU,wA,kA,sA,Ti,Va,Ra,Ri,nA,dA,yC,b,PC];rw[e,B]) [ε (.int (c:Nat)),ε (.ref h.length),none,none] (h++[.lst []]) ⟨⟨none,none,rfl⟩,by simp[OC]⟩
 dsimp![kI,QW,EA,bB,OG,BA,Ss,Vs,Wu,Vu,NA,Ti,Va,XB,YD,Ri,b,PC,pP,nu,e,jB,uB];rfl
structure WA(c:Nat)(f:Nat->Nat->Nat):Prop where
 lt:∀i<c,∀j<c,f i j<8192
 tn:∀i<c,∀j<c,f j i=Xi (f i j)
theorem aK(c:Nat):WA c Xe:=by
 constructor
 . intro i _ j _;unfold Xe;split<;>decide
 . intro i _ j _;unfold Xe;by_cases h:i=j
   . subst h;rw[eG rfl];decide +kernel
   . have:¬j=i:=fun z=>h z.symm
     rw[eH h,eH this];decide +kernel
theorem wH{c:Nat}{f:Nat->Nat->Nat}(o:WA c f){i j:Nat}(s:i<c)(r:j<c)(d:i≠j)(m:Nat):WA c (vB f i m j):=by
 have p:f i j&&&m<8192:=Du Nat.and_le_left (o.lt i s j r);have q:¬j=i:=fun z=>d z.symm
 constructor
 . intro a g b e;unfold vB EB
   repeat' split
   all_goals first | exact ZJ _ | exact p | exact o.lt a g b e
 . intro a g b e;unfold vB EB;by_cases n:a=i
   . subst n;by_cases k:b=j
     . subst k;simp[d]
     . by_cases h:b=a
       . subst h;simp[d];exact o.tn _ g _ e
       . simp[k,h,d];exact o.tn _ g _ e
   . by_cases k:a=j
     . subst k;by_cases h:b=i
       . subst h;simp[d,tS p]
       . simp[n,h];exact o.tn _ g _ e
     . simp[n,k];exact o.tn _ g _ e
noncomputable def CC(i k j:Nat):Dt:=.tup [.int (i:Nat),.int (k:Nat),.int (j:Nat)]
def Ws(f:Nat->Nat->Nat)(i k j:Nat):Nat:=f i j&&&chS (f i k) (f k j)
theorem xX{h:HI}{b c:Nat}{f:Nat->Nat->Nat}(N:Uu h b c f){i k j:Nat}(d:i<c)(a:k<c)(e:j<c):IL [.ref (b+c),CC i k j] h=ε (.int (Ws f i k j:Nat),h):=by dsimp![IL,TX,CC,EA,bB,wA,sA,Ss,Vs,Wu,Vu,Ri,LB,oC,kF,yM,Vi,N.ix d,N.ix2 d a,N.ix a,N.ix2 a e,N.ix2 d e,NA,Ti,Va,jB,QA,DA,BA,Us,iw,ME,sH,uB];rfl
theorem Ar{h:HI}{b c:Nat}{f:Nat->Nat->Nat}(N:Uu h b c f)(m:c<=1000){i k j:Nat}(d:i<c)(g:k<c)(a:j<c):VO [.ref (b+c),CC i k j] h=ε (.ref (h.length+c),h++lC h.length c (vB f i (Ws f i k j) j)):=by have e:=xX N d g a;have e2:=vO N m d a (Ws f i k j);unfold CC at e ⊢;dsimp![VO,UX,wA,sA,Ss,Vs,Ri,LB,oC,yM,Vi,jB,QA,DA,BA,Us,e,e2,uB]
theorem BY(f:Nat->Nat->Nat)(i k j:Nat):f i j&&&Ws f i k j=Ws f i k j:=by unfold Ws;rw[<- Nat.and_assoc,Nat.and_self]
theorem JF{i:Nat}{f:RE}{rest:RS}{l l':LI}{h h1:HI}{d:Dt}(e:f l h=ε (d,h1))(a:l.set i (ε d)=l'):gA (zA i f) rest l h=rest l' h1:=by simp![EA,bB,e,dA,NA,a]
theorem CI{t:RT}{a rest:RS}{l:LI}{h h1:HI}(e:t l h=ε (false,h1)):gA (VB t a MA) rest l h=rest l h1:=by simp![EA,XA,e,dA,Wo,eO,BB,NA]
theorem jx{t:RT}{f:RE}{rest:RS}{l:LI}{h h1 h2:HI}{d:Dt}(e:t l h=ε (true,h1))(a:f l h1=ε (d,h2)):gA (VB t (uA f) MA) rest l h=ε (.rt d h2):=by simp![EA,XA,e,dA,eN,jB,a,wF]
theorem vH{t:RT}{f:RE}{rest:RS}{l:LI}{h h1 h2:HI}{d:Dt}(e:t l h=ε (true,h1))(a:f l h1=ε (d,h2)):TD (gA (VB t (uA f) MA) rest l h)=ε (d,h2):=by rw[jx e a,uB]
theorem R8{f:RE}{l:LI}{h h1:HI}{d:Dt}(e:f l h=ε (d,h1)):TD (uA f l h)=ε (d,h1):=by simp![jB,e,dA,uB]
theorem P8{i n:Nat}{g:RE}{rest:RS}{l:LI}{h h1:HI}(e:l[i]?=ε (ε (.ref n)))(a:AK g l (.ref n,h)=ε (.non,h1)):gA (VC (sD (eV i) g)) rest l h=rest l h1:=by simp![EA,cE,eF,kA,e,nA,dA,a,NA]
section
variable{f:RE}{rest body:RS}{l l':LI}{h h1 h2:HI}{d:Dt}{R:Ni (Dt×HI)}{i:Nat}{t:RT}{g:RI}{bd:RG}{src:th}
theorem VT(e:f l h=ε (d,h1))(a:l.set i (ε d)=l')(k:TD (rest l' h1)=R):TD (gA (zA i f) rest l h)=R:=by rw[JF e a];exact k
theorem sG{a:RS}(e:t l h=ε (false,h1))(k:TD (rest l h1)=R):TD (gA (VB t a MA) rest l h)=R:=by rw[CI e];exact k
end
def gC(f:Nat->Nat->Nat)(i k j:Nat):Nat->Nat->Nat:=vB f i (Ws f i k j) j
theorem JG(f:Nat->Nat->Nat){i k j:Nat}(a:i≠j):gC f i k j i j=Ws f i k j:=by unfold gC vB EB;simp[a,BY]
theorem xS(f:Nat->Nat->Nat)(i k j:Nat):gC f i k j j i=Xi (Ws f i k j):=by unfold gC vB EB;simp[BY]
theorem DG(f:Nat->Nat->Nat){i k j a b:Nat}(h1:¬(a=i/\b=j))(h2:¬(a=j/\b=i)):gC f i k j a b=f a b:=by
 unfold gC vB EB;by_cases q1:a=j
 . subst q1;have:¬b=i:=fun z=>h2 ⟨rfl,z⟩
   by_cases q2:a=i
   . subst q2;simp[this]
   . simp[this,q2]
 . by_cases q2:a=i
   . subst q2;have:¬b=j:=fun z=>h1 ⟨rfl,z⟩
     simp[q1,this]
   . simp[q1,q2]
def Yi(a b:Nat):Prop:=a&&&b=a
theorem bc{a b:Nat}:Yi a b↔∀k,a.testBit k=true->b.testBit k=true:=by
 unfold Yi;constructor
 . intro h k d;rw[<- h,z8,xr]at d;exact d.2
 . intro h;apply Nat.eq_of_testBit_eq;intro k;rw[z8];cases q:a.testBit k with
   | false=>rfl
   | true=>rw[h k q];rfl
theorem Yi.refl(a:Nat):Yi a a:=Nat.and_self a
theorem Yi.trans{a b c:Nat}(h1:Yi a b)(h2:Yi b c):Yi a c:=bc.mpr fun k d=>bc.mp h2 k (bc.mp h1 k d)
theorem jL(a b:Nat):Yi (a&&&b) a:=bc.mpr fun k d=>by rw[z8,xr]at d;exact d.1
theorem Jm{a b c:Nat}(h1:Yi a b)(h2:Yi a c):Yi a (b&&&c):=bc.mpr fun k d=>by rw[z8,bc.mp h1 k d,bc.mp h2 k d];rfl
theorem gb{a b e d:Nat}(h1:Yi a e)(h2:Yi b d):Yi (chS a b) (chS e d):=bc.mpr fun k g=>by obtain⟨i,j,q1,q2,q3,q4,q5⟩:=(aM a b k).mp g;exact(aM e d k).mpr ⟨i,j,q1,bc.mp h1 i q2,q3,bc.mp h2 j q4,q5⟩
theorem nZ(a b:Nat):Xi (a&&&b)=Xi a&&&Xi b:=by
 refine nG (ZJ _) (Du Nat.and_le_left (ZJ a)) fun k d=>?_
 rw[JE _ d,z8,z8,JE _ d,JE _ d]
theorem Om{a b:Nat}(e:a<8192)(d:b<8192)(h:Xi a=Xi b):a=b:=by rw[<- tS e,h,tS d]
theorem nr:Xi 0=0:=by decide +kernel
theorem kY{a b:Nat}(h:Yi a b):Yi (Xi a) (Xi b):=by unfold Yi at h ⊢;rw[<- nZ,h]
theorem XZ{c:Nat}{f:Nat->Nat->Nat}(o:WA c f){i k j:Nat}(b:i<c)(a:j<c):Ws f i k j<8192:=Du Nat.and_le_left (o.lt i b j a)
theorem Np{c:Nat}{f:Nat->Nat->Nat}(o:WA c f){i k j:Nat}(d:i<c)(a:k<c)(b:j<c):Ws f j k i=Xi (Ws f i k j):=by unfold Ws;rw[o.tn i d j b,o.tn k a j b,o.tn i d k a,Ab,nZ]
theorem ZS{c:Nat}{f:Nat->Nat->Nat}(o:WA c f){i k j:Nat}(b:i<c)(d:k<c)(a:j<c)(h:Ws f j k i≠f j i):Ws f i k j≠f i j:=by intro e;apply h;rw[Np o b d a,e,<- o.tn i b j a]
theorem AZ{c:Nat}{f:Nat->Nat->Nat}(o:WA c f){i k j:Nat}(d:i<c)(b:j<c)(a:i≠j):WA c (gC f i k j):=wH o d b a _
def AD(W:Ms (Nat×Nat))(i k j:Nat):Prop:=(i,k)∈W\/(k,i)∈W\/(k,j)∈W\/(j,k)∈W
def nF(i k j:Nat):Prop:=i≠k/\k≠j/\i≠j
def lD(c:Nat)(f:Nat->Nat->Nat)(W:Ms (Nat×Nat))(R:Ms (Nat×Nat×Nat)):Prop:=
 ∀i<c,∀k<c,∀j<c,nF i k j->Ws f i k j≠f i j->AD W i k j\/(i,k,j)∈R\/(j,k,i)∈R
noncomputable def YF(a b c:Nat):Ms (Nat×Nat×Nat):=(List.range c).flatMap fun o=>if o=a\/o=b then []else [(a,b,o),(b,a,o)]
theorem dy{a b c:Nat}{t:Nat×Nat×Nat}:t∈YF a b c↔∃o,o<c/\o≠a/\o≠b/\(t=(a,b,o)\/t=(b,a,o)):=by
 unfold YF;simp![Ls,Ca];constructor
 . rintro⟨o,d,h⟩;by_cases q:o=a\/o=b
   . rw[eG q]at h;cases h
   . rw[eH q]at h;simp![Bo,not_mem_nil,or_false]at h;exact⟨o,d,fun z=>q (.inl z),fun z=>q (.inr z),h⟩
 . rintro⟨o,d,g,e,h⟩;refine⟨o,d,?_⟩;rw[eH (by rintro(z | z);exact g z;exact e z)];simpa using h
theorem jm{c:Nat}{f:Nat->Nat->Nat}{a b:Nat}{W:Ms (Nat×Nat)}(h:lD c f ((a,b)::W) []):lD c f W (YF a b c):=by
 intro i m k q j g d n;obtain⟨p,o,e⟩:=d;rcases h i m k q j g ⟨p,o,e⟩ n with h | h | h
 . unfold AD at h ⊢;simp![Bo,xu]at h;rcases h with(⟨rfl,rfl⟩ | h) | (⟨rfl,rfl⟩ | h) | (⟨rfl,rfl⟩ | h) | (⟨rfl,rfl⟩ | h)
   . exact .inr (.inl (dy.mpr ⟨j,g,nW e,nW o,.inl rfl⟩))
   . exact .inl (.inl h)
   . exact .inr (.inl (dy.mpr ⟨j,g,nW o,nW e,.inr rfl⟩))
   . exact .inl (.inr (.inl h))
   . exact .inr (.inr (dy.mpr ⟨i,m,p,e,.inr rfl⟩))
   . exact .inl (.inr (.inr (.inl h)))
   . exact .inr (.inr (dy.mpr ⟨i,m,e,p,.inl rfl⟩))
   . exact .inl (.inr (.inr (.inr h)))
 . cases h
 . cases h
theorem Lr{c:Nat}{f:Nat->Nat->Nat}(o:WA c f){x y z:Nat}(e:x<c)(b:y<c)(a:z<c){W:Ms (Nat×Nat)}{R:Ms (Nat×Nat×Nat)}(h:lD c f W ((x,y,z)::R))(n:Ws f x y z=f x z):lD c f W R:=by
 intro i q k g j p d m;rcases h i q k g j p d m with h | h | h
 . exact .inl h
 . rcases Bo.mp h with h | h
   . cases h;exact Ei n m
   . exact .inr (.inl h)
 . rcases Bo.mp h with h | h
   . cases h;exact Ei n (ZS o e b a m)
   . exact .inr (.inr h)
theorem ZX{a b e:Nat}(h:Yi a b)(q:b&&&e=b):a&&&e=a:=Yi.trans h q
theorem Mr{c:Nat}{f:Nat->Nat->Nat}(o:WA c f){x y z:Nat}(M:x<c)(T:y<c)(L:z<c)(Q:nF x y z){W:Ms (Nat×Nat)}{R:Ms (Nat×Nat×Nat)}(h:lD c f W ((x,y,z)::R)):lD c (gC f x y z) (W++[(x,z)]) R:=by
 obtain⟨Y,U,S⟩:=Q;have H:=AZ (k:=y) o M L S;have e:∀i<c,∀k<c,∀j<c,nF i k j->¬(i=z/\j=x)->Ws (gC f x y z) i k j≠gC f x y z i j->AD (W++[(x,z)]) i k j\/(i,k,j)∈R\/(j,k,i)∈R:=by
  intro i r k g j p d u m;obtain⟨s,e2,b⟩:=d;have grow:∀{i k j},AD W i k j->AD (W++[(x,z)]) i k j:=by
   intro i k j q;unfold AD at q ⊢;simp![Bs];rcases q with q | q | q | q
   . exact .inl (.inl q)
   . exact .inr (.inl (.inl q))
   . exact .inr (.inr (.inl (.inl q)))
   . exact .inr (.inr (.inr (.inl q)))
  by_cases D:i=x/\j=z
  . obtain⟨rfl,rfl⟩:=D;have C:gC f i y j i k=f i k:=DG f (fun q=>e2 q.2) (fun q=>s q.2.symm);have B:gC f i y j k j=f k j:=DG f (fun q=>s q.1.symm) (fun q=>e2 q.1);have E:Ws (gC f i y j) i k j=Ws f i y j&&&chS (f i k) (f k j):=by unfold Ws;rw[C,B,JG f b];rfl
    by_cases F:k=y
    . subst F;exfalso;apply m;rw[E,JG f b];unfold Ws;rw[Nat.and_assoc,Nat.and_self]
    . have n:Ws f i k j≠f i j:=by intro q;apply m;rw[E,JG f b];exact ZX (jL (f i j) _) q
      rcases h i r k g j p ⟨s,e2,b⟩ n with q | q | q
      . exact .inl (grow q)
      . rcases Bo.mp q with q | q
        . cases q;exact Ei rfl F
        . exact .inr (.inl q)
      . rcases Bo.mp q with q | q
        . simp![xu]at q;exact Ei q.1.symm b
        . exact .inr (.inr q)
  . by_cases a:AD [(x,z)] i k j
    . refine .inl ?_;unfold AD at a ⊢;simp![Bs];rcases a with q | q | q | q
      . exact .inl (.inr q)
      . exact .inr (.inl (.inr q))
      . exact .inr (.inr (.inl (.inr q)))
      . exact .inr (.inr (.inr (.inr q)))
    . unfold AD at a;simp![Bo,not_mem_nil,or_false,xu,not_or]at a;obtain⟨P,g2,g3,O⟩:=a;have J:gC f x y z i j=f i j:=DG f (fun q=>D q) (fun q=>u q);have C:gC f x y z i k=f i k:=DG f (fun q=>P q) (fun q=>g2 ⟨q.2,q.1⟩);have B:gC f x y z k j=f k j:=DG f (fun q=>g3 q) (fun q=>O ⟨q.2,q.1⟩);have n:Ws f i k j≠f i j:=by unfold Ws at m ⊢;rw[J,C,B]at m;exact m
      rcases h i r k g j p ⟨s,e2,b⟩ n with q | q | q
      . exact .inl (grow q)
      . rcases Bo.mp q with q | q
        . simp![xu]at q;exact Ei ⟨q.1,q.2.2⟩ D
        . exact .inr (.inl q)
      . rcases Bo.mp q with q | q
        . simp![xu]at q;exact Ei ⟨q.2.2,q.1⟩ u
        . exact .inr (.inr q)
 intro i r k g j p d m;by_cases u:i=z/\j=x
 . obtain⟨s,e2,b⟩:=d;have I:=ZS H p g r m;rcases e j p k g i r ⟨nW e2,nW s,nW b⟩ (fun q=>b nofun) I with q | q | q
   . refine .inl ?_;unfold AD at q ⊢;rcases q with q | q | q | q
     . exact .inr (.inr (.inr q))
     . exact .inr (.inr (.inl q))
     . exact .inr (.inl q)
     . exact .inl q
   . exact .inr (.inr q)
   . exact .inr (.inl q)
 . exact e i r k g j p d u m
def dE(c:Nat)(f:Nat->Nat->Nat):Prop:=∀i<c,∀k<c,∀j<c,nF i k j->Ws f i k j=f i j
theorem iy{c:Nat}{f:Nat->Nat->Nat}(h:lD c f [] []):dE c f:=by
 intro i e k a j b d;apply Classical.byContradiction;intro n;rcases h i e k a j b d n with q | q | q
 . unfold AD at q;simp at q
 . cases q
 . cases q
theorem oY(c:Nat)(f:Nat->Nat->Nat):lD c f (cB c) []:=by
 intro i b k a j g d _;refine .inl ?_;unfold AD;obtain⟨e,_,_⟩:=d;rcases Nat.lt_or_gt_of_ne e with h | h
 . exact .inl (bn.mpr ⟨h,a⟩)
 . exact .inr (.inl (bn.mpr ⟨h,b⟩))
def bI(m:Nat):Nat:=(vA m).length
theorem TR{b:Type}{p q:b->Bool}:∀(xs:Ms b),(∀x∈xs,p x=true->q x=true)->(xs.filter p).length<=(xs.filter q).length
 | [],_=>by simp
 | x::xs,H=>by
  have ih:=TR xs fun y e=>H y (by simp[e])
  have g:=H x ⋯;by_cases a:p x=true
  . simp[a,g a];exact ih
  . by_cases d:q x=true
    . simp[a,d];omega
    . simp[a,d];exact ih
theorem UR{e:Type}{p q:e->Bool}:∀(xs:Ms e),(∀x∈xs,p x=true->q x=true)->(∃x∈xs,p x=false/\q x=true)->(xs.filter p).length<(xs.filter q).length
 | [],_,h=>by obtain⟨x,h,_⟩:=h;cases h
 | x::xs,H,h=>by
  have i:=H x ⋯;have g:=TR xs fun y hy=>H y (by simp[hy])
  by_cases a:p x=true
  . obtain⟨y,hy,b,g2⟩:=h;rcases Bo.mp hy with rfl | hy
    . rw[a]at b;cases b
    . have:=UR xs (fun y hy=>H y (by simp[hy])) ⟨y,hy,b,g2⟩;simp[a,i a];exact this
  . by_cases d:q x=true
    . simp[a,d];omega
    . obtain⟨y,hy,b,g2⟩:=h;rcases Bo.mp hy with rfl | hy
      . rw[g2]at d;exact Ei rfl d
      . have:=UR xs (fun y hy=>H y (by simp[hy])) ⟨y,hy,b,g2⟩;simp[a,d];exact this
theorem GZ{a b:Nat}(h:Yi a b):bI a<=bI b:=TR _ fun k q d=>bc.mp h k d
theorem W7{a b:Nat}(h:Yi a b)(i:a<8192)(g:b<8192)(n:a≠b):bI a<bI b:=by
 refine UR _ (fun k z e=>bc.mp h k e) ?_;apply Classical.byContradiction;intro d;apply n;refine nG i g fun k e=>?_
 cases q:b.testBit k with
 | true=>
  cases q2:a.testBit k with
  | true=>rfl
  | false=>exact Ei ⟨k,Ca.mpr e,q2,q⟩ d
 | false=>
  cases q2:a.testBit k with
  | false=>rfl
  | true=>rw[bc.mp h k q2]at q;cases q
theorem nK{a:Type}{u v:a->Nat}:∀(xs:Ms a),(∀x∈xs,u x<=v x)->(xs.map u).sum<=(xs.map v).sum
 | [],_=>by simp
 | x::xs,H=>by
  have:=nK xs fun y b=>H y (by simp[b])
  have:=H x ⋯;simp![Ss,sum_cons];omega
theorem WT{a:Type}{u v:a->Nat}:∀(xs:Ms a),(∀x∈xs,u x<=v x)->(∃x∈xs,u x<v x)->(xs.map u).sum<(xs.map v).sum
 | [],_,h=>by obtain⟨x,h,_⟩:=h;cases h
 | x::xs,H,h=>by
  have d:=nK xs fun y hy=>H y (by simp[hy])
  have b:=H x ⋯;simp![Ss,sum_cons];obtain⟨y,hy,g⟩:=h;rcases Bo.mp hy with rfl | hy
  . omega
  . have:=WT xs (fun y hy=>H y (by simp[hy])) ⟨y,hy,g⟩;omega
def zE(c:Nat)(f:Nat->Nat->Nat):Nat:=((List.range c).map fun i=>((List.range c).map fun j=>bI (f i j)).sum).sum
theorem ER{a:Type}{u:a->Nat}{m:Nat}:∀(xs:Ms a),(∀x∈xs,u x<=m)->(xs.map u).sum<=xs.length*m
 | [],_=>by simp
 | x::xs,H=>by
  have:=ER xs fun y b=>H y (by simp[b])
  have:=H x ⋯;simp![Ss,sum_cons,Ru,Nat.succ_mul];omega
theorem mZ(c:Nat)(f:Nat->Nat->Nat):zE c f<=c*(c*13):=by
 have:=ER (u:=fun i=>((List.range c).map fun j=>bI (f i j)).sum) (m:=c*13) (List.range c) fun i q=>by
  have:=ER (u:=fun j=>bI (f i j)) (m:=13) (List.range c) fun j q=>NJ _
  simpa using this
 simpa[zE]using this
theorem yS{c:Nat}{f:Nat->Nat->Nat}(o:WA c f){i k j:Nat}(m:i<c)(h:j<c)(d:i≠j)(a b:Nat):Yi (gC f i k j a b) (f a b):=by
 by_cases g:a=i/\b=j
 . obtain⟨rfl,rfl⟩:=g;rw[JG f d];exact jL _ _
 . by_cases e:a=j/\b=i
   . obtain⟨rfl,rfl⟩:=e;rw[xS,o.tn b m a h];exact kY (jL _ _)
   . rw[DG f g e];exact Yi.refl _
theorem Wg{c:Nat}{f:Nat->Nat->Nat}(o:WA c f){i k j:Nat}(g:i<c)(e:j<c)(d:i≠j)(n:Ws f i k j≠f i j):zE c (gC f i k j)<zE c f:=by refine WT _ (fun a q=>nK _ fun b q=>GZ (yS o g e d a b)) ⟨i,Ca.mpr g,WT _ (fun b q=>GZ (yS o g e d i b)) ⟨j,Ca.mpr e,?_⟩⟩;rw[JG f d];exact W7 (jL _ _) (XZ o g e) (o.lt i g j e) n
inductive ti(c:Nat)(f:Nat->Nat->Nat):List (Nat×Nat×Nat)->(Nat->Nat->Nat)->Prop where
 | nil:ti c f [] f
 | snoc {st:List (Nat×Nat×Nat)} {g:Nat->Nat->Nat} {i k j:Nat} (h:ti c f st g) (hi:i<c) (hk:k<c) (hj:j<c) (d:nF i k j) (ne:wB c g=false) (n:Ws g i k j≠g i j):ti c f (st++[(i,k,j)]) (gC g i k j)
theorem ti.ok{c:Nat}{f g:Nat->Nat->Nat}{st:Ms (Nat×Nat×Nat)}(h:ti c f st g)(o:WA c f):WA c g:=by
 induction h with
 | nil=>exact o
 | snoc h b e a d ne n ih=>exact AZ ih b a d.2.2
theorem ee{c:Nat}{f:Nat->Nat->Nat}:wB c f=true↔∃i<c,∃j<c,f i j=0:=by unfold wB;simp![any_eq_true,Ca,beq_iff_eq]
theorem ck{c:Nat}{f:Nat->Nat->Nat}(h:wB c f=false){i j:Nat}(b:i<c)(a:j<c):f i j≠0:=fun e=>by have:=ee.mpr ⟨i,b,j,a,e⟩;rw[h]at this;cases this
theorem i9{a:Nat}(b:a<8192)(h:a≠0):Xi a≠0:=fun e=>h (Om b (by decide) (e.trans nr.symm))
theorem Sg{c:Nat}{f:Nat->Nat->Nat}(o:WA c f){i k j:Nat}(m:i<c)(g:j<c)(d:i≠j)(ne:wB c f=false):wB c (gC f i k j)=decide (Ws f i k j=0):=by
 by_cases h:Ws f i k j=0
 . rw[iu h];exact ee.mpr ⟨i,m,j,g,by rw[JG f d];exact h⟩
 . rw[fu h];cases q:wB c (gC f i k j)with
   | false=>rfl
   | true=>
    obtain⟨a,s,b,r,e⟩:=ee.mp q;exfalso;by_cases p:a=i/\b=j
    . obtain⟨rfl,rfl⟩:=p;rw[JG f d]at e;exact h e
    . by_cases n:a=j/\b=i
      . obtain⟨rfl,rfl⟩:=n;rw[xS]at e;exact i9 (XZ o m g) h e
      . rw[DG f p n]at e;exact ck ne s r e
def rD(t:Nat×Nat×Nat):Dt:=CC t.1 t.2.1 t.2.2
theorem Br{h:HI}{b c:Nat}{f:Nat->Nat->Nat}(N:Uu h b c f){i k j:Nat}(a:i<c)(g:k<c)(d:j<c):WO [.ref (b+c),CC i k j] h=ε (.bl (!decide (Ws f i k j=f i j)),h):=by
 have e:=xX N a g d;have q:decide (((Ws f i k j:Nat):Int)=((f i j:Nat):Int))=decide (Ws f i k j=f i j):=by
  congr 1
  apply propext;omega
 unfold CC at e ⊢;dsimp![WO,VX,wA,sA,Ss,Vs,Ri,LB,oC,yM,Vi,jB,QA,DA,BA,Us,e,N.ix a,N.ix2 a d,aE,q,uB]
theorem nt(o a b:Nat)(h:HI):XG true (.int (o:Nat)) (AA (a,b)) h=ε (.bl (!(decide (o=a) || decide (o=b))),h):=by
 have d:LM (V.int (o:Nat)) [V.int (a:Nat),V.int (b:Nat)]=(decide (o=a) || decide (o=b)):=by
  unfold LM;simp![Js,any_nil,Bool.or_false];show(((a:Nat):Int)==((o:Nat):Int) || ((b:Nat):Int)==((o:Nat):Int))=_;have g:(((a:Nat):Int)==((o:Nat):Int))=decide (o=a):=by
   by_cases q:o=a
   . subst q;simp
   . have:((a:Nat):Int)≠((o:Nat):Int):=by omega
     simp[q,this]
  have e2:(((b:Nat):Int)==((o:Nat):Int))=decide (o=b):=by
   by_cases q:o=b
   . subst q;simp
   . have:((b:Nat):Int)≠((o:Nat):Int):=by omega
     simp[q,this]
  rw[g,e2]
 have e:vE [Dt.int (a:Nat),Dt.int (b:Nat)]=ε [V.int (a:Nat),V.int (b:Nat)]:=rfl;simp![XG,DD,FD,AA,Wa,e,d];rfl
noncomputable def gD(a b n:Nat):Ms (Nat×Nat×Nat):=(List.range n).flatMap fun o=>if o=a\/o=b then []else [(a,b,o),(b,a,o)]
theorem Bg(a b n:Nat):(gD a b n).length<=2*n:=by
 induction n with
 | zero=>simp[gD]
 | succ n ih=>
  have:gD a b (n+1)=gD a b n++(if n=a\/n=b then []else [(a,b,n),(b,a,n)]):=by unfold gD;rw[Ie,flatMap_append];simp
  rw[this,ji];split<;>simp<;>omega
theorem En{a b c:Nat}(F:c<=1000)(h:HI):cO [AA (a,b),.int (c:Nat)] h=ε (.ref h.length,h++[.lst ((YF a b c).map rD)]):=by
 have u:=oE (h:=h++[.lst []]) (show(-(2^62):Int)<=(c:Int) by omega) (show(c:Int)<2^62 by omega);simp![n7]at u;have d:∀(o r:Ob),(h++[o]).set h.length r=h++[r]:=by simp
 obtain⟨C,s,e,⟨y,rfl⟩,rfl⟩:=HE (i:=3) (body:=cR) (fun(k:Nat)=>Dt.int (k:Int)) (fun(n:Nat) l s=>(∃y,l=[ε (AA (a,b)),ε (.int (c:Nat)),ε (.ref h.length),y])/\s=h++[.lst ((gD a b n).map rD)]) c (by
  rintro n D l H ⟨⟨y,rfl⟩,rfl⟩;have E:=Bg a b n;have x:gD a b (n+1)=gD a b n++(if n=a\/n=b then []else [(a,b,n),(b,a,n)]):=by unfold gD;rw[Ie,flatMap_append];simp
  refine⟨.nx [ε (AA (a,b)),ε (.int (c:Nat)),ε (.ref h.length),ε (.int (n:Nat))] (h++[.lst ((gD a b (n+1)).map rD)]),?_,⟨_,rfl⟩,rfl⟩;have B:=nt n a b (h++[.lst ((gD a b n).map rD)]);have p:=fun(l:LI) (g:RE) (j:g l (h++[.lst ((gD a b n).map rD)])=ε (rD (a,b,n),h++[.lst ((gD a b n).map rD)]))=>tF (h:=h++[.lst ((gD a b n).map rD)]) (l:=l) (n:=h.length) (ys:=(gD a b n).map rD) (xs:=(gD a b n).map rD) ⋯ j ⋯ (by simp;omega)
  have m:=fun(l:LI) (g:RE) (j:g l (h++[.lst ((gD a b n).map rD++[rD (a,b,n)])])=ε (rD (b,a,n),h++[.lst ((gD a b n).map rD++[rD (a,b,n)])]))=>tF (h:=h++[.lst ((gD a b n).map rD++[rD (a,b,n)])]) (l:=l) (n:=h.length) (ys:=(gD a b n).map rD++[rD (a,b,n)]) (xs:=(gD a b n).map rD++[rD (a,b,n)]) ⋯ j ⋯ (by simp;omega)
  simp![cR,XA,JA,wA,kA,Ti,Va,Ra,Ri,nA,dA,B,OA,EA,cE,eF,BB];by_cases q:n=a\/n=b
  . have:(decide (n=a) || decide (n=b))=true:=by simpa using q
    rw[this,x,eG q];simp
  . have:(decide (n=a) || decide (n=b))=false:=by simpa using q
    rw[this,x,eH q];simp![vm,eN];rw[p _ _ (by simp[AA,rD,CC])];simp![dA,NA,d,cE,eF,kA,Ra,Ri,nA];rw[m _ _ (by simp[AA,rD,CC])];simp![dA,d];simp) [ε (AA (a,b)),ε (.int (c:Nat)),ε (.ref h.length),none] (h++[.lst []]) ⟨⟨_,rfl⟩,by simp[gD]⟩
 dsimp![cO,SV,EA,bB,OG,BA,Ss,Vs,Wu,Vu,NA,Ti,Va,XB,YD,Ri,u,PC,pP,nu,e,jB,uB];rfl
structure Rst(h0:HI)(c:Nat)(f:Nat->Nat->Nat)(s w b:Nat)(st:List (Nat×Nat×Nat))(W:List (Nat×Nat))(g:Nat->Nat->Nat)(h:HI):Prop where
 low:∀n,n<h0.length->h[n]?=h0[n]?
 len:h0.length<=h.length
 hs:h[s]?=ε (.lst (st.map rD))
 hw:h[w]?=ε (.lst (W.map AA))
 net:Uu h b c g
 s0:h0.length<=s
 w0:h0.length<=w
 b0:h0.length<=b
 sw:s≠w
 sb:s<b\/b+c<s
 wb:w<b\/b+c<w
 run:ti c f st g
 ne:wB c g=false
 sm:st.length+zE c g<=zE c f
 wc:∀p∈W,p.1<c/\p.2<c/\p.1≠p.2
theorem Rst.grow{a:HI}{c:Nat}{f:Nat->Nat->Nat}{s w b:Nat}{st:Ms (Nat×Nat×Nat)}{W:Ms (Nat×Nat)}{g:Nat->Nat->Nat}{h:HI}(R:Rst a c f s w b st W g h)(e:HI):Rst a c f s w b st W g (h++e):=by
 have i:=(Wi R.hs).1;have d:=(Wi R.hw).1;exact { R with
  low:=fun n j=>by rw[Xo (by have:=R.len;omega)];exact R.low n j
  len:=by have:=R.len;rw[ji];omega
  hs:=by rw[Xo i];exact R.hs
  hw:=by rw[Xo d];exact R.hw
  net:=R.net.grow e }
inductive aJ(h0:HI)(c:Nat)(f:Nat->Nat->Nat)(d:Dt)(h:HI):Prop
 | mk (x:Dt) (s:Nat) (st:List (Nat×Nat×Nat)) (g:Nat->Nat->Nat) (p0:d=.tup [x,.ref s]) (p1:h0.length<=s) (p2:h0.length<=h.length) (p3:∀n,n<h0.length->h[n]?=h0[n]?) (p4:h[s]?=ε (.lst (st.map rD))) (p5:ti c f st g) (p6:st.length<=zE c f)
  (p7:(x=.non/\wB c g=true)\/∃b,x=.ref (b+c)/\h0.length<=b/\Uu h b c g/\dE c g/\wB c g=false/\(s<b\/b+c<s)):aJ h0 c f d h
theorem nw{P:HI}{c:Nat}(hc:c<=100){f:Nat->Nat->Nat}(of:WA c f){s w b:Nat}{st:Ms (Nat×Nat×Nat)}{W:Ms (Nat×Nat)}{g:Nat->Nat->Nat}{h:HI}(R:Rst P c f s w b st W g h){x y z:Nat}(C:x<c)(U:y<c)(D:z<c)(d:nF x y z)(lW:W.length<=2000000)(x0 m j:Ni Dt) :
 ∃r,qJ [x0,m,ε (.ref s),ε (.ref (b+c)),ε (.ref w),j,ε (CC x y z)] h=ε r/\
  JI (fun l' h'=>∃b' J W' Q,l'=[x0,m,ε (.ref s),ε (.ref (b'+c)),ε (.ref w),j,ε (CC x y z)]/\Rst P c f s w b' J W' Q h'/\(∀n,n<h.length->n≠s->n≠w->h'[n]?=h[n]?)/\h.length<=h'.length/\
   ((Ws g x y z=g x z/\b'=b/\J=st/\W'=W/\Q=g/\h'=h)\/(W'=W++[(x,z)]/\Q=gC g x y z/\zE c Q<zE c g))) (aJ P c f) r:=by
 have og:=R.run.ok of;have tl:=mZ c f;have a5:c*(c*13)<=100*(100*13):=Iu hc (Nat.mul_le_mul_right 13 hc);have en:=Br R.net C U D;by_cases q:Ws g x y z=g x z
 . refine⟨.nx [x0,m,ε (.ref s),ε (.ref (b+c)),ε (.ref w),j,ε (CC x y z)] h,?_,b,st,W,g,rfl,R,fun v v v v=>rfl,Uo _,.inl ⟨q,rfl,rfl,rfl,rfl,rfl⟩⟩;simp![qJ,XA,JA,QA,DA,BA,kA,Ra,Ri,nA,dA,Us,en,OA,q,decide_true,vo,Wo,eO,BB]
 . have em:=Ar R.net (show c<=1000 by omega) C U D;obtain⟨B,e⟩:∃B,B=h++lC h.length c (gC g x y z):=⟨_,rfl⟩
   rw[show vB g x (Ws g x y z) z=gC g x y z from rfl,<- e]at em;have len1:B.length=h.length+(c+1):=by rw[e,ji,cX]
   have M1:Uu B h.length c (gC g x y z):=e ▸ qE h c _;have ls:=(Wi R.hs).1;have S:=(Wi R.hw).1;have M:B[s]?=ε (.lst (st.map rD)):=by rw[e,Xo ls];exact R.hs
   have Y:B[w]?=ε (.lst (W.map AA)):=by rw[e,Xo S];exact R.hw
   have sm:=R.sm;have ts:=Wg og C D d.2.2 q;obtain⟨i,a⟩:∃i,i=B.set s (.lst (st.map rD++[CC x y z])):=⟨_,rfl⟩
   have ea:=tF (h:=B) (l:=[x0,m,ε (.ref s),ε (.ref (h.length+c)),ε (.ref w),j,ε (CC x y z)]) (g:=eV 6) (n:=s) (ys:=st.map rD) (xs:=st.map rD) (d:=CC x y z) (h':=B) M ⋯ M (by simp;omega);rw[<- a]at ea;have M2:Uu i h.length c (gC g x y z):=a ▸ M1.other (.inl ls) _;have L:i[s]?=ε (.lst ((st++[(x,y,z)]).map rD)):=by rw[a,uo nofun];simp[rD]
   have E:i[w]?=ε (.lst (W.map AA)):=by rw[a,m8 R.sw];exact Y
   have I:=R.run.snoc C U D d R.ne q;have H:∀n,n<P.length->i[n]?=P[n]?:=fun n O=>by have:=R.len;have:=R.s0;rw[a,m8 nofun,e,Xo nofun];exact R.low n O
   have HK:i.length=h.length+(c+1):=by rw[a,Ka];exact len1
   have T:=M2.ix C;have ix2:=M2.ix2 C D;rw[JG g d.2.2]at ix2;have se:=Sg (k:=y) og C D d.2.2 R.ne;have zi:(decide (((Ws g x y z:Nat):Int)=0))=decide (Ws g x y z=0):=by
    congr 1
    apply propext;omega
   generalize F:qJ [x0,m,ε (.ref s),ε (.ref (b+c)),ε (.ref w),j,ε (CC x y z)] h=X;simp![qJ,XA,JA,QA,DA,BA,kA,Ra,Ri,nA,dA,Us,en,OA,q,decide_false,vm,eN]at F;have u:tf (e2 aF (e2 pA (e2 pA (eV 3) (e2 pA (eV 6) (ua 0))) (e2 pA (eV 6) (ua 2))) (ua 0)) [x0,m,ε (.ref s),ε (.ref (h.length+c)),ε (.ref w),j,ε (CC x y z)] i=ε (decide (Ws g x y z=0),i):=by simp![CC,JA,wA,kA,sA,Ra,Ri,nA,dA,LB,oC,yM,Vi,T,ix2,rN,zi,OA]
   rw[JF (l':=[x0,m,ε (.ref s),ε (.ref (h.length+c)),ε (.ref w),j,ε (CC x y z)]) (by simp![QA,DA,BA,kA,Ra,Ri,nA,dA,Us];exact em) rfl,P8 (n:=s) rfl ea]at F;by_cases q0:Ws g x y z=0
   . refine⟨.rt (.tup [.non,.ref s]) i,?_,.non,s,st++[(x,y,z)],gC g x y z,rfl,R.s0,by have:=R.len;omega,H,L,I,by simp;omega,.inl ⟨rfl,by rw[se];simp[q0]⟩⟩;rw[iu q0]at u;simp![EA,XA,u,dA,eN,jB,xD,DA,BA,sA,kA,Ra,Ri,nA,Ru,Ve,Nat.reduceAdd]at F;rw[<- F,eG (by decide)];rfl
   . have a3:=tF (h:=i) (l:=[x0,m,ε (.ref s),ε (.ref (h.length+c)),ε (.ref w),j,ε (CC x y z)]) (g:=aB (bA (e2 pA (eV 6) (ua 0)) (bA (e2 pA (eV 6) (ua 2)) fA))) (n:=w) (ys:=W.map AA) (xs:=W.map AA) (d:=AA (x,z)) (h':=i) E (by simp[CC,AA]) E (by simp;omega);have gH:∀o,(i.set w o).length=h.length+(c+1):=fun o=>by rw[Ka];exact HK
     have Z:w<i.length:=(Wi E).1;have a4:=R.w0;have a0:=R.len;refine⟨.nx [x0,m,ε (.ref s),ε (.ref (h.length+c)),ε (.ref w),j,ε (CC x y z)] (i.set w (.lst (W.map AA++[AA (x,z)]))),?_,h.length,st++[(x,y,z)],W++[(x,z)],gC g x y z,rfl,?_,?_,by rw[gH];omega,.inr ⟨rfl,rfl,ts⟩⟩
     . rw[fu q0]at u;rw[CI u]at F;rw[<- F];simp![cE,eF,kA,Ra,Ri,nA,dA,a3]
     . exact {
        low:=fun n O=>by rw[m8 nofun];exact H n O
        len:=by rw[gH];omega
        hs:=by rw[m8 (nW R.sw)];exact L
        hw:=by rw[uo Z];simp
        net:=M2.other (.inl S) _
        s0:=R.s0
        w0:=R.w0
        b0:=a0
        sw:=R.sw
        sb:=.inl ls
        wb:=.inl S
        run:=I
        ne:=by rw[se];simp[q0]
        sm:=by simp;omega
        wc:=fun p hp=>by
         rcases Bs.mp hp with hp | hp
         . exact R.wc p hp
         . rw[Ba.mp hp];exact⟨C,D,d.2.2⟩ }
     . intro n O a2 a1;rw[m8 (nW a1),a,m8 (nW a2),e,Xo O]
theorem Rj{h:HI}{w:Nat}{W:Ms (Nat×Nat)}(e:h[w]?=ε (.lst (W.map AA))):rF (.ref w) (.lst []) h=ε (.bl (!W.isEmpty),h):=by rw[W3 (xs:=W.map AA) (by simp![KA,e])];cases W<;>rfl
theorem ny{L:HI}{c:Nat}(hc:c<=100){f:Nat->Nat->Nat}(of:WA c f){I:Nat}{f0:Nat->Nat->Nat}(N0:Uu L I c f0){s w b:Nat}{st:Ms (Nat×Nat×Nat)}{W:Ms (Nat×Nat)}{g:Nat->Nat->Nat}{h:HI}{u v:Nat}(R:Rst L c f s w b st ((u,v)::W) g h)
 (wt:lD c g ((u,v)::W) []) (Q Z C:Ni Dt) (lM:2*zE c g+(W.length+1)<=1000000) :
 ∃r,BN [ε (.ref (I+c)),Q,ε (.ref s),ε (.ref (b+c)),ε (.ref w),Z,C] h=ε r/\
  JI (fun S M=>∃J m E D Z C,S=[ε (.ref (I+c)),Q,ε (.ref s),ε (.ref (J+c)),ε (.ref w),Z,C]/\Rst L c f s w J m E D M/\lD c D E []/\2*zE c D+E.length<2*zE c g+(W.length+1)) (aJ L c f) r:=by
 have P:=R.wc (u,v) ⋯;simp only at P;have pk:=Fl (fa:=eC (Dt.int 0)) (l:=[ε (.ref (I+c)),Q,ε (.ref s),ε (.ref (b+c)),ε (.ref w),Z,C]) (show h[w]?=ε (.lst (AA (u,v)::W.map AA))from R.hw) rfl;obtain⟨h1,B⟩:∃h1,h1=h.set w (.lst (W.map AA)):=⟨_,rfl⟩
 rw[<- B]at pk;have lw:=(Wi R.hw).1;have len1:h1.length=h.length:=by rw[B,Ka]
 have R1:Rst L c f s w b st W g h1:={ R with
  low:=fun n hn=>by rw[B,m8 (Ea (jo hn R.w0))];exact R.low n hn
  len:=by rw[len1];exact R.len
  hs:=by rw[B,m8 (nW R.sw)];exact R.hs
  hw:=by rw[B,uo lw]
  net:=B ▸ R.net.other R.wb _
  wc:=fun p hp=>R.wc p (by simp[hp]) }
 have N1:qB (.ref (I+c)) h1=ε (.int (c:Nat),h1):=by have:=N0.lt;rw[HH (xs:=bF I c) (by rw[R1.low _ this];exact N0.top),RJ]
 have et:=En (a:=u) (b:=v) (um hc (by decide)) h1;obtain⟨h2,F⟩:∃h2,h2=h1++[.lst ((YF u v c).map rD)]:=⟨_,rfl⟩
 rw[<- F]at et;have R2:Rst L c f s w b st W g h2:=F ▸ R1.grow _;have q2:h2[h1.length]?=ε (.lst ((YF u v c).map rD)):=by rw[F];simp
 have sk:=PD q2;have ls:=(Wi R1.hs).1;have a1:=(Wi R1.hw).1;obtain⟨r,e,H⟩:=J1 (i:=6) (n:=h1.length) (body:=qJ) rD (fun k S M=>∃J m E D C,S=[ε (.ref (I+c)),Q,ε (.ref s),ε (.ref (J+c)),ε (.ref w),ε (AA (u,v)),C]/\Rst L c f s w J m E D M/\lD c D E ((YF u v c).drop k)/\M[h1.length]?=ε (.lst ((YF u v c).map rD))/\h1.length<M.length/\2*zE c D+E.length<=2*zE c g+W.length) (aJ L c f) (YF u v c) (by
  rintro k S M ⟨J,m,E,D,C,rfl,Y,j,q',lq,mm⟩;exact q') (by
  rintro k t ht S M ⟨J,m,E,D,C,rfl,Y,j,q',lq,mm⟩;have hk:=(Wi ht).1;have dk:(YF u v c).drop k=t::(YF u v c).drop (k+1):=by rw[Aa hk,(Wi ht).2]
  obtain⟨o,ho,U,T,hto⟩:=dy.mp (lu ht);obtain⟨x,y,z⟩:=t;have dd:x<c/\y<c/\z<c/\nF x y z:=by
   rcases hto with hto | hto<;>(simp![xu]at hto;obtain⟨rfl,rfl,rfl⟩:=hto)
   . exact⟨P.1,P.2.1,ho,P.2.2,nW T,nW U⟩
   . exact⟨P.2.1,P.1,ho,nW P.2.2,nW U,nW T⟩
  obtain⟨hx,hy,hz,O⟩:=dd;rw[dk]at j;have og:=Y.run.ok of;obtain⟨r,e,H⟩:=nw hc of Y hx hy hz O nofun (ε (.ref (I+c))) Q (ε (AA (u,v)));refine⟨r,e,?_⟩;cases r with
  | nx l2 h2=>
   obtain⟨b2,a0,W2,g2,rfl,a2,kp,ll,q⟩:=H;refine⟨b2,a0,W2,g2,_,rfl,a2,?_,by rw[kp _ lq (Ea ls) (Ea a1)];exact q',jo lq ll,?_⟩
   . rcases q with⟨n,rfl,rfl,rfl,rfl,rfl⟩ | ⟨rfl,rfl,tt⟩
     . exact Lr og hx hy hz j n
     . exact Mr og hx hy hz O j
   . rcases q with⟨n,rfl,rfl,rfl,rfl,rfl⟩ | ⟨rfl,rfl,tt⟩
     . exact mm
     . simp![ji,Ru,Ve];omega
  | rt d h2=>exact H
  | bk l2 h2=>exact H.elim
  | ct l2 h2=>exact H.elim) [ε (.ref (I+c)),Q,ε (.ref s),ε (.ref (b+c)),ε (.ref w),ε (AA (u,v)),C] h2 ⟨b,st,W,g,C,rfl,R2,jm wt,q2,by rw[F];simp,Uo _⟩
 refine⟨r,?_,?_⟩
 . simp![BN,EA,bB,K8,kA,Ra,Ri,nA,dA,pk,NA,Ti,Va,XB,rC,QA,DA,BA,fC,N1,Us,et,sk];exact e
 . cases r with
   | nx S M=>obtain⟨J,m,E,D,C,rfl,Y,j,q',lq,mm⟩:=H;rw[drop_length]at j;exact⟨J,m,E,D,_,_,rfl,Y,j,by omega⟩
   | rt d h2=>exact H
   | bk l2 h2=>exact H.elim
   | ct l2 h2=>exact H.elim
theorem xV{h:HI}{c:Nat}(U:c<=100){f:Nat->Nat->Nat}(of:WA c f){q:Nat}{pd:Dt}(N:Uu h q c f){P:Ms (Nat×Nat)}(hp:∀e:HI,FD (h++e) pd=ε (P.map AA))(pc:∀p∈P,p.1<c/\p.2<c/\p.1≠p.2)(wt:lD c f P [])(lP:P.length<=100000) :
 ∃d h',yJ [.ref (q+c),pd] h=ε (d,h')/\aJ h c f d h':=by
 have tl:=mZ c f;have a0:c*(c*13)<=100*(100*13):=Iu U (Nat.mul_le_mul_right 13 U);have lN:=N.lt;have O:=N.grow [.lst []];have em:=Dh O (show c<=1000 by omega);have ef:yJ [.ref (q+c),pd] h=TD (sR [ε (.ref (q+c)),ε pd,none,none,none,none,none] h):=by rw[yJ,eB];rfl
 have H:tf (xA EL [] (bA (eV 0) fA)) [ε (.ref (q+c)),ε pd,ε (.ref h.length),none,none,none,none] (h++[.lst []])=ε (wB c f,h++[.lst []]):=by simp![JA,QA,DA,BA,kA,Ra,nA,dA,Us,em,OA]
 rw[ef,sR,JF (d:=.ref h.length) (h1:=h++[.lst []]) (l':=[ε (.ref (q+c)),ε pd,ε (.ref h.length),none,none,none,none]) rfl rfl];by_cases ne:wB c f=true
 . refine⟨.tup [.non,.ref h.length],h++[.lst []],?_,.non,h.length,[],f,rfl,Uo _,by simp,fun n M=>by rw[Xo M],by simp,.nil,by simp,.inl ⟨rfl,ne⟩⟩;rw[ne]at H;exact vH H rfl
 . have I:wB c f=false:=by simpa using ne
   rw[I]at H;obtain⟨h1,o⟩:∃h1:HI,h1=h++[.lst []]:=⟨_,rfl⟩
   rw[<- o]at H O;have len1:h1.length=h.length+1:=by rw[o];simp
   have cp:=eS (te:=iR) rfl O (show c<=1000 by omega) [none] ⋯;have en:(h1++(List.range c).map fun i=>Ob.lst (vC c (f i)))++[Ob.lst (bF h1.length c)]=h1++lC h1.length c f:=by rw[su];rfl
   have el:(h1++(List.range c).map fun i=>Ob.lst (vC c (f i))).length=h1.length+c:=by simp
   obtain⟨a,k⟩:∃a:HI,a=h1++lC h1.length c f:=⟨_,rfl⟩
   have HK:a.length=h1.length+(c+1):=by rw[k,ji,cX]
   have L:h.length<h1.length:=by rw[len1];exact zu _
   have D:h1.length+c<a.length:=by rw[HK];exact zu _
   have J:=Nat.lt_trans L (Du (La _ c) D);have C2:Uu a h1.length c f:=k ▸ qE h1 c f;have T:FD a pd=ε (P.map AA):=by rw[k,o,su];exact hp _
   have Z:xF pd a=ε (.ref a.length,a++[.lst (P.map AA)]):=by simp![xF,T,Vi]
   obtain⟨h3,j⟩:∃h3:HI,h3=a++[.lst (P.map AA)]:=⟨_,rfl⟩
   rw[<- j]at Z;have R:Rst h c f h.length a.length h1.length [] P f h3:={
    low:=fun n M=>by rw[j,Xo (Nat.lt_trans M J),k,Xo (Nat.lt_trans M L),o,Xo M]
    len:=by rw[j,ji];exact um (Di J) (La _ _)
    hs:=by rw[j,Xo J,k,Xo L,o];simp
    hw:=by rw[j];simp
    net:=j ▸ C2.grow _
    s0:=Uo _
    w0:=Di J
    b0:=Di L
    sw:=rz J
    sb:=.inl L
    wb:=.inr D
    run:=.nil
    ne:=I
    sm:=by simp
    wc:=pc }
   obtain⟨r,e,y⟩:=rY (t:=xN) (body:=BN) (fun m l' h'=>∃s b E x C B,l'=[ε (.ref (q+c)),ε pd,ε (.ref h.length),ε (.ref (s+c)),ε (.ref a.length),C,B]/\Rst h c f h.length a.length s b E x h'/\lD c x E []/\m=2*zE c x+E.length/\m<=1000000)
    (fun l' h'=>∃s b x C B,l'=[ε (.ref (q+c)),ε pd,ε (.ref h.length),ε (.ref (s+c)),ε (.ref a.length),C,B]/\Rst h c f h.length a.length s b [] x h'/\dE c x) (aJ h c f) (by
    rintro m l' h' ⟨s,b,E,x,C,B,rfl,g,F,rfl,Y⟩;have W:=Rj g.hw;cases E with
    | nil=>
     refine⟨false,h',?_,?_⟩
     . simp![xN,JA,wA,kA,AH,BA,Ra,Ri,nA,dA,Ve,pP,nu,eN,W,OA];rfl
     . rw[eH Wk];exact⟨s,b,x,C,B,rfl,g,iy F⟩
    | cons p E=>
     obtain⟨u,v⟩:=p;refine⟨true,h',?_,?_⟩
     . simp![xN,JA,wA,kA,AH,BA,Ra,Ri,nA,dA,Ve,pP,nu,eN,W,OA];rfl
     . rw[eG rfl];obtain⟨r,e,y⟩:=ny U of N g F (ε pd) C B Y;refine⟨r,e,?_⟩;cases r with
       | nx D a=>obtain⟨b2,S,W2,g2,y5,y6,rfl,R2,Q,mm⟩:=y;exact⟨_,mm,b2,S,W2,g2,y5,y6,rfl,R2,Q,rfl,by simp![Ru]at Y;omega⟩
       | rt d a=>exact y
       | bk D a=>exact y.elim
       | ct D a=>exact y.elim) 1000000 (2*zE c f+P.length) [ε (.ref (q+c)),ε pd,ε (.ref h.length),ε (.ref (h1.length+c)),ε (.ref a.length),none,none] h3 ⟨h1.length,[],P,f,none,none,rfl,R,wt,rfl,by omega⟩ nofun
   have s3:rE (JB (eV 0)) (rA 0) nB iR [none] [ε (.ref (q+c)),ε pd,ε (.ref h.length),none,none,none,none] h1=ε (.ref (h1.length+c),a):=by simp![mI,rC,kA,Ra,nA,dA,O.seq,fD,eD,cp,en,el,k]
   rw[<- o,CI H,JF (l':=[ε (.ref (q+c)),ε pd,ε (.ref h.length),ε (.ref (h1.length+c)),none,none,none]) s3 rfl,JF (l':=[ε (.ref (q+c)),ε pd,ε (.ref h.length),ε (.ref (h1.length+c)),ε (.ref a.length),none,none]) Z rfl];simp![EA,L8,e,dA];cases r with
   | nx l' h'=>obtain⟨s,b,x,C,B,rfl,g,cl⟩:=y;refine⟨.tup [.ref (s+c),.ref h.length],h',?_,.ref (s+c),h.length,b,x,rfl,g.s0,g.len,g.low,g.hs,g.run,by have:=g.sm;omega,.inr ⟨s,rfl,g.b0,g.net,cl,g.ne,g.sb⟩⟩;simp
   | rt d h'=>exact⟨d,h',by simp,y⟩
   | bk D a=>exact y.elim
   | ct D a=>exact y.elim
def aN(c:Nat)(m f:Nat->Nat->Nat):Prop:=∀i<c,∀j<c,Yi (m i j) (f i j)
theorem Yi.antisymm{a b:Nat}(h1:Yi a b)(h2:Yi b a):a=b:=by unfold Yi at h1 h2;rw[Nat.and_comm]at h2;exact h1.symm.trans h2
theorem ti.sub{c:Nat}{f g:Nat->Nat->Nat}{st:Ms (Nat×Nat×Nat)}(h:ti c f st g)(o:WA c f):aN c g f:=by
 induction h with
 | nil=>exact fun i z j z=>Yi.refl _
 | snoc h k q e d ne n ih=>exact fun a p b m=>(yS (h.ok o) k e d.2.2 a b).trans (ih a p b m)
theorem ti.keeps{c:Nat}{f g m:Nat->Nat->Nat}{st:Ms (Nat×Nat×Nat)}(h:ti c f st g)(u:WA c m)(B:dE c m)(s:aN c m f):aN c m g:=by
 induction h with
 | nil=>exact s
 | @snoc st g i k j h o p e d ne n ih=>
  have l:Yi (m i j) (Ws g i k j):=by have:=B i o k p j e d;unfold Ws at this ⊢;exact Jm (ih i o j e) ((show Yi (m i j) (chS (m i k) (m k j))from this).trans (gb (ih i o k p) (ih k p j e)))
  intro a y b x;by_cases r:a=i/\b=j
  . obtain⟨rfl,rfl⟩:=r;rw[JG g d.2.2];exact l
  . by_cases q:a=j/\b=i
    . obtain⟨rfl,rfl⟩:=q;rw[xS,u.tn b o a e];exact kY l
    . rw[DG g r q];exact ih a y b x
theorem ti.diag{c:Nat}{f g:Nat->Nat->Nat}{st:Ms (Nat×Nat×Nat)}(h:ti c f st g)(e:∀i<c,f i i=64):∀i<c,g i i=64:=by
 induction h with
 | nil=>exact e
 | snoc h m j k d ne n ih=>intro a b;rw[DG _ (fun q=>d.2.2 (q.1.symm.trans q.2)) (fun q=>d.2.2 (q.2.symm.trans q.1))];exact ih a b
structure gf(c:Nat)(p q:Nat->Nat):Prop where
 pl:∀i<c,p i<c
 ql:∀i<c,q i<c
 qp:∀i<c,q (p i)=i
 pq:∀i<c,p (q i)=i
theorem gf.symm{c:Nat}{p q:Nat->Nat}(P:gf c p q):gf c q p:=⟨P.ql,P.pl,P.pq,P.qp⟩
def Up(h h':HI):Prop:=h.length<=h'.length/\∀n,n<h.length->h'[n]?=h[n]?
theorem Up.refl(h:HI):Up h h:=⟨Uo _,fun q q=>rfl⟩
theorem Up.trans{h h1 h2:HI}(a:Up h h1)(b:Up h1 h2):Up h h2:=⟨um a.1 b.1,fun n d=>by rw[b.2 n (by have:=a.1;omega),a.2 n d]⟩
theorem Up.app(h e:HI):Up h (h++e):=⟨by simp,fun n a=>Xo a⟩
theorem Up.net{h h':HI}(u:Up h h'){b c:Nat}{f:Nat->Nat->Nat}(N:Uu h b c f):Uu h' b c f:=by have:=N.lt;exact⟨fun i a=>by rw[u.2 _ nofun];exact N.row i a,by rw[u.2 _ this];exact N.top⟩
theorem Up.get{h h':HI}(u:Up h h'){n:Nat}{o:Ob}(e:h[n]?=ε o):h'[n]?=ε o:=by rw[u.2 n (Wi e).1];exact e
section
variable{a b c:RE}{l:LI}{h h1:HI}{A B C:Dt}
theorem ev{i:Nat}(q:l[i]?=ε (ε A)):eV i l h=ε (A,h):=by rw[kA,q];rfl
theorem WI{op:qD}{R:Ni (Dt×HI)}(x:a l h=ε (A,h))(y:b l h=ε (B,h))(r:op A B h=R):e2 op a b l h=R:=by rw[wA,x,dA,y,dA,r]
theorem xQ{F:Dt->HI->Ni (Dt×HI)}{R:Ni (Dt×HI)}(x:a l h=ε (A,h))(r:F A h=R):QB F a l h=R:=by rw[fC,x,dA,r]
theorem tb(v:Bool)(x:a l h=ε (.bl v,h)):tf a l h=ε (v,h):=by rw[JA,x];rfl
theorem lV(x:a l h=ε (A,h))(y:b l h=ε (B,h))(z:c l h=ε (C,h)):aB (bA a (bA b (bA c fA))) l h=ε (.tup [A,B,C],h):=by simp![xD,DA,BA,x,y,z,dA,Ru,Ve,Nat.reduceAdd,show 3<=sizeLine by decide,eN]
end
noncomputable def bG(p q:Nat)(a b d:Int):Ms Bd:=(if b<=a then [(p,q,if b<a then -1 else 0)]else [])++(if a<=d then [(q,p,if a<d then -1 else 0)]else [])
theorem Z0{T:RT}{G:RE}{l:LI}{h:HI}{xs:Ms Bd}{C:Prop}[Decidable C]{d:Bd}(a:l[4]?=ε (ε (.ref h.length)))(e:xs.length<5)(t:T l (h++[.lst (xs.map oA)])=ε (decide C,h++[.lst (xs.map oA)]))(g:G l (h++[.lst (xs.map oA)])=ε (oA d,h++[.lst (xs.map oA)])) :
 VB T (VC (sD (eV 4) G)) MA l (h++[.lst (xs.map oA)])=ε (.nx l (h++[.lst ((xs++if C then [d]else []).map oA)])):=by
 rw[XA,t,dA];by_cases c:C
 . have b:=tF (h:=h++[.lst (xs.map oA)]) (l:=l) (n:=h.length) (ys:=xs.map oA) (xs:=xs.map oA) (d:=oA d) ⋯ g ⋯ (by simp[sizeLine];omega);rw[iu c,eG rfl,eG c,cE,eF,ev a,dA,b,dA,Gi];simp
 . rw[fu c,eH Wk,eH c,Us];rfl
theorem nV{T:RT}{l:LI}{h:HI}{C:Prop}[Decidable C](t:T l h=ε (decide C,h)):IU T (JC (ua 1)) (ua 0) l h=ε (.int (if C then -1 else 0),h):=by
 rw[oU,t,dA];by_cases c:C
 . rw[iu c,eG rfl,eG c];rfl
 . rw[fu c,eH Wk,eH c];rfl
theorem LV(p q:Nat)(a:Int){b:Ms Int}(hs:b ≠ [])(h:HI):xJ [.int (p:Nat),.int (q:Nat),.int a,.lst (b.map Dt.int)] h=ε (.ref h.length,h++[.lst ((bG p q a (uC b) (TB b)).map oA)]):=by
 have o:=fun h=>Cq (h:=h) hs
 have n:=fun h=>D4 (h:=h) hs
 obtain⟨l,e⟩:∃l:LI,l=[ε (.int (p:Nat)),ε (.int (q:Nat)),ε (.int a),ε (.lst (b.map Dt.int)),ε (.ref h.length)]:=⟨_,rfl⟩
 have m:l[0]?=ε (ε (.int (p:Nat))):=by rw[e];rfl
 have k:l[1]?=ε (ε (.int (q:Nat))):=by rw[e];rfl
 have i:l[2]?=ε (ε (.int a)):=by rw[e];rfl
 have g:l[3]?=ε (ε (.lst (b.map Dt.int))):=by rw[e];rfl
 have j:l[4]?=ε (ε (.ref h.length)):=by rw[e];rfl
 have u:=Z0 (xs:=[]) (C:=uC b<=a) (d:=(p,q,if uC b<a then -1 else 0)) j (by decide) (tb _ (WI (xQ (ev g) (o _)) (ev i) (iJ _ _))) (lV (ev m) (ev k) (nV (tb _ (WI (xQ (ev g) (o _)) (ev i) (jJ _ _)))));have s:=Z0 (xs:=[]++if uC b<=a then [(p,q,if uC b<a then -1 else 0)]else []) (C:=a<=TB b) (d:=(q,p,if a<TB b then -1 else 0)) j (by split<;>simp) (tb _ (WI (xQ (ev g) (n _)) (ev i) (TQ _ _))) (lV (ev k) (ev m) (nV (tb _ (WI (xQ (ev g) (n _)) (ev i) (ZH _ _)))));have r:DE fA [ε (.int (p:Nat)),ε (.int (q:Nat)),ε (.int a),ε (.lst (b.map Dt.int)),none] h=ε (.ref h.length,h++[.lst []]):=rfl;show TD (rR [ε (.int (p:Nat)),ε (.int (q:Nat)),ε (.int a),ε (.lst (b.map Dt.int)),none] h)=_;unfold bG rR;rw[EA,bB,r,dA,dA,NA,EA,show([ε (.int (p:Nat)),ε (.int (q:Nat)),ε (.int a),ε (.lst (b.map Dt.int)),none]:LI).set 4 (ε (.ref h.length))=l by rw[e];rfl];rw[show(h++[Ob.lst []])=h++[Ob.lst (([]:Ms Bd).map oA)]from rfl,u,dA,NA,EA,s,dA,NA,jB,ev j];rfl
def pz(w:Nat):Nat×Nat:=az.getD w (0,0)
theorem nz{w:Nat}(hw:w<13)(h:HI):bT [.int w] h=ε (pr (pz w),h):=by rcases VU hw with rfl | rfl | rfl | rfl | rfl | rfl | rfl | rfl | rfl | rfl | rfl | rfl | rfl<;>kernel_rfl
def zs(side w:Nat):Int:=if side=0 then((pz w).1:Int)else((pz w).2:Int)
def CB(side m:Nat):Ms Int:=(vA m).map (zs side)
theorem YJ{side m:Nat}(a:vA m ≠ []):CB side m ≠ []:=by unfold CB;intro z;exact a (map_eq_nil_iff.mp z)
def yE(i j side m:Nat):Ms Bd:=bG (2*i+side) (2*j) 1 (uC (CB side m)) (TB (CB side m))++bG (2*i+side) (2*j+1) 3 (uC (CB side m)) (TB (CB side m))
theorem u0{c:Prop}[Decidable c](x:Bd):(if c then [x]else []).length<=1:=by split<;>simp
theorem oT(p q:Nat)(a b d:Int):(bG p q a b d).length<=2:=by unfold bG;rw[ji];exact Nat.add_le_add (u0 _) (u0 _)
theorem L0{h:HI}{F G:Ms Bd}{rest:Ms Ob}{l:LI}{g:RE}(c:F.length+G.length<=100000)(b:g l (h++.lst (F.map oA)::rest)=ε (.ref (h++.lst (F.map oA)::rest).length,(h++.lst (F.map oA)::rest)++[.lst (G.map oA)])) :
 DK g l (.ref h.length,h++.lst (F.map oA)::rest)=ε (.non,h++.lst ((F++G).map oA)::(rest++[.lst (G.map oA)])):=by
 have a:(h++Ob.lst (F.map oA)::rest)[h.length]?=ε (.lst (F.map oA)):=by simp
 have d:((h++Ob.lst (F.map oA)::rest)++[Ob.lst (G.map oA)])[h.length]?=ε (.lst (F.map oA)):=by rw[Xo ⋯];exact a
 have e2:((h++Ob.lst (F.map oA)::rest)++[Ob.lst (G.map oA)])[(h++Ob.lst (F.map oA)::rest).length]?=ε (.lst (G.map oA)):=by rw[ab (Uo _),Ds];rfl
 rw[PY a b d e2 (by simp;omega)];simp
theorem pX(i j m side:Nat)(hs:side=0\/side=1)(R:i<=1000)(Q:j<=1000)(n:vA m ≠ [])(h:HI)(F:Ms Bd)(S:F.length<=1000)(rest:Ms Ob)(x:Ni Dt):∃y b,uL [ε (.int (i:Nat)),ε (.int (m:Nat)),ε (.int (j:Nat)),ε (.ref h.length),ε (.int (side:Nat)),x] (h++.lst (F.map oA)::rest) =
 ε (.nx [ε (.int (i:Nat)),ε (.int (m:Nat)),ε (.int (j:Nat)),ε (.ref h.length),ε (.int (side:Nat)),y] (h++.lst ((F++yE i j side m).map oA)::b)):=by
 have M:=fun h=>ML m h
 have D:∀k∈vA m,k<13:=fun k d=>Ca.mp (mem_filter.mp d).1
 have J:((vA m).map fun(k:Nat)=>Dt.int (k:Int)).length<sizeLine:=by have:(vA m).length<=13:=um (length_filter_le _ _) ⋯;simp;omega
 have O:=XF (te:=sL) (tc:=nB) (i:=0) (fun(k:Nat)=>Dt.int (k:Int)) (fun k=>Dt.int (zs side k)) (h++.lst (F.map oA)::rest) (vA m) [none,ε (.int (side:Nat))] (by
  intro k d;have o:=nz (D k d) (h++.lst (F.map oA)::rest);refine⟨by simp,?_⟩;rcases hs with rfl | rfl
  . simp[sL,o,pr,zs]
  . simp[sL,o,pr,zs])
 have e:=UD (l:=[none,ε (.int (side:Nat))]) (h:=h++.lst (F.map oA)::rest) (rA 0) nB sL J;rw[O]at e;have E:(vA m).map (fun k=>Dt.int (zs side k))=(CB side m).map Dt.int:=by unfold CB;rw[map_map];rfl
 rw[E]at e;have hp:=fun h=>LV (2*i+side) (2*j) 1 (YJ (side:=side) n) h
 have L:=fun h=>LV (2*i+side) (2*j+1) 3 (YJ (side:=side) n) h
 have pl:∀p q a H I,(bG p q a H I).length<=2:=oT
 have u:=fun(i:Int) (h:HI)=>UC (h:=h) (i:=2) (j:=i) (Or.inl ⟨by decide,by decide⟩)
 have s:(2:Int)*(i:Int)+(side:Int)=((2*i+side:Nat):Int):=by omega
 have r:(2:Int)*(j:Int)=((2*j:Nat):Int):=by omega
 have P:((2*j:Nat):Int)+1=((2*j+1:Nat):Int):=by omega
 have C:=L0 (h:=h) (F:=F) (G:=bG (2*i+side) (2*j) 1 (uC (CB side m)) (TB (CB side m))) (rest:=rest) (l:=[ε (.int (i:Nat)),ε (.int (m:Nat)),ε (.int (j:Nat)),ε (.ref h.length),ε (.int (side:Nat)),ε (.lst ((CB side m).map Dt.int))])
  (g:=xA xJ [] (bA (e2 iB (e2 ZA (ua 2) (eV 0)) (eV 4)) (bA (e2 ZA (ua 2) (eV 2)) (bA (ua 1) (bA (eV 5) (fA)))))) (by have:=pl (2*i+side) (2*j) 1 (uC (CB side m)) (TB (CB side m));omega) (by
   simp![QA,DA,BA,wA,sA,kA,Ra,Ri,nA,dA,u,yC,s,r,Us];exact hp _)
 have B:=L0 (h:=h) (F:=F++bG (2*i+side) (2*j) 1 (uC (CB side m)) (TB (CB side m))) (G:=bG (2*i+side) (2*j+1) 3 (uC (CB side m)) (TB (CB side m))) (rest:=rest++[.lst ((bG (2*i+side) (2*j) 1 (uC (CB side m)) (TB (CB side m))).map oA)]) (l:=[ε (.int (i:Nat)),ε (.int (m:Nat)),ε (.int (j:Nat)),ε (.ref h.length),ε (.int (side:Nat)),ε (.lst ((CB side m).map Dt.int))])
  (g:=xA xJ [] (bA (e2 iB (e2 ZA (ua 2) (eV 0)) (eV 4)) (bA (e2 iB (e2 ZA (ua 2) (eV 2)) (ua 1)) (bA (ua 3) (bA (eV 5) (fA)))))) (by have:=pl (2*i+side) (2*j) 1 (uC (CB side m)) (TB (CB side m));have:=pl (2*i+side) (2*j+1) 3 (uC (CB side m)) (TB (CB side m));simp;omega) (by
   simp![QA,DA,BA,wA,sA,kA,Ra,Ri,nA,dA,u,yC,s,r,P,Us];exact L _)
 refine⟨ε (.lst ((CB side m).map Dt.int)),rest++[.lst ((bG (2*i+side) (2*j) 1 (uC (CB side m)) (TB (CB side m))).map oA)]++[.lst ((bG (2*i+side) (2*j+1) 3 (uC (CB side m)) (TB (CB side m))).map oA)],?_⟩;unfold yE;rw[<- su];simp![uL,EA,bB,nE,rC,QA,DA,BA,kA,Ra,Ri,nA,dA,Us,M,WF,fD,FG,eD,Option.join,Wa,id,e,Va,Ti,NA,cE,OS,C,B]
theorem GL(i j side m:Nat):(yE i j side m).length<=4:=by unfold yE;rw[ji];have b:=oT (2*i+side) (2*j) 1 (uC (CB side m)) (TB (CB side m));have a:=oT (2*i+side) (2*j+1) 3 (uC (CB side m)) (TB (CB side m));omega
def XC(i m j:Nat):Ms Bd:=yE i j 0 m++yE i j 1 m
theorem Zk(i m j:Nat)(o:i<=1000)(n:j<=1000)(k:vA m ≠ [])(h:HI):∃rest,AL [.int (i:Nat),.int (m:Nat),.int (j:Nat)] h=ε (.ref h.length,h++.lst ((XC i m j).map oA)::rest):=by
 obtain⟨a,b,r⟩:=pX i j m 0 (.inl rfl) o n k h [] ⋯ [] none;obtain⟨p,g,e2⟩:=pX i j m 1 (.inr rfl) o n k h (yE i j 0 m) (by have:=GL i j 0 m;omega) b a;have q:yQ (.int 2,h++[.lst []])=ε (.vals [.int 0,.int 1],h++[.lst []]):=by rw[oE (by decide) (by decide)];rfl
 refine⟨g,?_⟩;have e:uL [ε (.int (i:Nat)),ε (.int (m:Nat)),ε (.int (j:Nat)),ε (.ref h.length),ε (.int 0),none] (h++[.lst []])=ε (.nx [ε (.int (i:Nat)),ε (.int (m:Nat)),ε (.int (j:Nat)),ε (.ref h.length),ε (.int 0),a] (h++.lst ((yE i j 0 m).map oA)::b)):=r;have d:uL [ε (.int (i:Nat)),ε (.int (m:Nat)),ε (.int (j:Nat)),ε (.ref h.length),ε (.int 1),a] (h++.lst ((yE i j 0 m).map oA)::b)=ε (.nx [ε (.int (i:Nat)),ε (.int (m:Nat)),ε (.int (j:Nat)),ε (.ref h.length),ε (.int 1),p] (h++.lst ((XC i m j).map oA)::g)):=e2;simp[AL,dW,q,zB,e,d]
theorem Hv(i:Nat)(lo a:Int){g:Nat}(b:g<=1000)(h:HI):qL [.tup [.int (i:Nat),.int lo,.int a],.int (g:Nat)] h=ε (.ref h.length,h++[.lst (([(2*i,2*i+1,-lo*g),(2*i+1,2*i,a*g)]:Ms Bd).map oA)]):=by
 have u:=fun(h:HI)=>UC (h:=h) (i:=2) (j:=(i:Int)) (Or.inl ⟨by decide,by decide⟩)
 have v:=fun(x:Int) (h:HI)=>UC (h:=h) (i:=x) (j:=(g:Int)) (Or.inr ⟨by omega,by omega⟩)
 simp[qL,DV,u,v,oA]
noncomputable abbrev Ln:=Nat×Int×Int
noncomputable def rB(x:Ln):Dt:=.tup [.int (x.1:Nat),.int x.2.1,.int x.2.2]
noncomputable def RB(g:Nat)(x:Ln):Ms Bd:=[(2*x.1,2*x.1+1,-x.2.1*g),(2*x.1+1,2*x.1,x.2.2*g)]
noncomputable def PB(c:Nat):Ms Bd:=(List.range c).map fun i=>(2*i,2*i+1,-1)
def pC(c:Nat)(N:Nat->Nat->Nat)(ls:Ms Ln):Ms Bd:=PB c++ls.flatMap (RB (2*c+1))++(cB c).flatMap fun p=>XC p.1 (N p.1 p.2) p.2
theorem OZ{h:HI}{F G:Ms Bd}{rest cy:Ms Ob}{l:LI}{g:RE}(c:F.length+G.length<=100000)(b:g l (h++.lst (F.map oA)::rest)=ε (.ref (h++.lst (F.map oA)::rest).length,(h++.lst (F.map oA)::rest)++.lst (G.map oA)::cy)) :
 DK g l (.ref h.length,h++.lst (F.map oA)::rest)=ε (.non,h++.lst ((F++G).map oA)::(rest++.lst (G.map oA)::cy)):=by
 have a:(h++Ob.lst (F.map oA)::rest)[h.length]?=ε (.lst (F.map oA)):=by simp
 have d:((h++Ob.lst (F.map oA)::rest)++Ob.lst (G.map oA)::cy)[h.length]?=ε (.lst (F.map oA)):=by rw[Xo ⋯];exact a
 have e2:((h++Ob.lst (F.map oA)::rest)++Ob.lst (G.map oA)::cy)[(h++Ob.lst (F.map oA)::rest).length]?=ε (.lst (G.map oA)):=by rw[ab (Uo _),Ds];rfl
 rw[PY a b d e2 (by simp;omega)];simp
theorem KJ{a b:Type}(f:a->Ms b){xs:Ms a}{k:Nat}{x:a}(d:xs[k]?=ε x):(xs.take (k+1)).flatMap f=(xs.take k).flatMap f++f x:=by rw[take_add_one,d,flatMap_append];simp
theorem nS(c:Nat)(h:HI):eM [.int (c:Nat)] h=ε (.int ((2*c+1:Nat):Int),h):=by
 have u:=fun(h:HI)=>UC (h:=h) (i:=2) (j:=(c:Int)) (Or.inl ⟨by decide,by decide⟩)
 simp[eM,TY,u]
theorem MS{c:Nat}{p:Nat×Nat}(h:p∈cB c):p.1<c/\p.2<c:=by unfold cB OC at h;obtain⟨i,b,h⟩:=Ls.mp h;obtain⟨k,a,rfl⟩:=Bu.mp h;have:=Ca.mp b;have:=Ca.mp a;exact⟨by omega,by show i+1+k<c;omega⟩
theorem Zy{c i:Nat}(b:i<c):List.replicate i (Dt.int 8191)++[Dt.int 64]++List.replicate (c-i-1) (Dt.int 8191)=vC c (Xe i):=by
 apply ext_getElem?;intro k;by_cases a:k<c
 . rw[TL a];rcases Nat.lt_trichotomy k i with h | h | h
   . rw[su,Xo (by simpa using h)];have:¬i=k:=by omega
     simp[h,Xe,this]
   . subst h;rw[su,ab ⋯];simp[Xe]
   . rw[ab (by simp;omega)];have:¬i=k:=by omega
     have q:k-(i+1)<c-i-1:=by omega
     simp[Xe,this,q]
 . rw[ju (by simp;omega),ju (by rw[PJ];omega)]
theorem Ih{c i:Nat}(b:i<c)(j:c<=1000)(h:HI):DO [.int (c:Nat),.int (i:Nat)] h=ε (.ref h.length,h++[.lst (vC c (Xe i))]):=by
 have g:=xY (h:=h) (Dt.int 8191) (show i<=1000000 by omega);have e2:=xY (h:=h) (Dt.int 8191) (show c-i-1<=1000000 by omega);have d:(c:Int)-(i:Int)-1=((c-i-1:Nat):Int):=by omega
 have e:=Oq (h:=h) (xs:=List.replicate i (Dt.int 8191)) (ys:=[Dt.int 64]) (by simp;omega);have a:pK (.lst (List.replicate i (Dt.int 8191)++[Dt.int 64])) (.lst (List.replicate (c-i-1) (Dt.int 8191))) h=ε (.ref h.length,h++[.lst (List.replicate i (Dt.int 8191)++[Dt.int 64]++List.replicate (c-i-1) (Dt.int 8191))]):=by simp![pK,KA,Wa];rw[eG (by simp;omega)]
 rw[Zy b]at a;simp[DO,RW,g,d,e2,e,a]
theorem E8{c:Nat}(g:c<=1000)(h:HI):KP [.int (c:Nat)] h=ε (.ref (h.length+c),h++lC h.length c Xe):=by
 have b:=oE (h:=h) (show(-(2^62):Int)<=(c:Int) by omega) (show(c:Int)<2^62 by omega);simp![n7]at b;have a:=LO (te:=lS) (i:=0) (fun(k:Nat)=>Dt.int (k:Int)) (fun i=>Ob.lst (vC c (Xe i))) h (List.range c) [none,ε (.int (c:Nat))] [] (by
  intro k d e;have:=Ih (Ca.mp d) g (h++e);simp[lS,this])
 rw[Us,Fi]at a;have hs:((List.range c).map fun(k:Nat)=>Dt.int (k:Int)).length<sizeLine:=by simp;omega
 simp[KP,W0,b,UD _ _ _ hs,a,lC,bF]
structure tj(h h':HI):Prop where
 le:h.length<=h'.length
 ls:∀(n:Nat)(xs:List Dt),h[n]?=ε (.lst xs)->h'[n]?=ε (.lst xs)
 dk:∀(n:Nat)(kv:List (kC×Dt)),h[n]?=ε (.dk kv)->h'[n]?=ε (.dk kv)
theorem tj.refl(h:HI):tj h h:=⟨Uo _,fun q q e=>e,fun q q e=>e⟩
theorem tj.trans{h h1 h2:HI}(a:tj h h1)(b:tj h1 h2):tj h h2:=⟨um a.1 b.1,fun n d e=>b.2 n d (a.2 n d e),fun n d e=>b.3 n d (a.3 n d e)⟩
theorem Up.l{h h':HI}(u:Up h h'):tj h h':=⟨u.1,fun q q e=>u.get e,fun q q e=>u.get e⟩
theorem tj.app(h e:HI):tj h (h++e):=(Up.app h e).l
theorem tj.net{h h':HI}(u:tj h h'){b c:Nat}{f:Nat->Nat->Nat}(N:Uu h b c f):Uu h' b c f:=⟨fun i a=>u.2 _ _ (N.row i a),u.2 _ _ N.top⟩
theorem tj.set{h:HI}{n:Nat}{x:Str}{fs a:Ms (Str×Dt)}(e:h[n]?=ε (.ins x fs)):tj h (h.set n (.ins x a)):=by
 have g:∀(k:Nat)(o:Ob),(∀x fs,o≠.ins x fs)->h[k]?=ε o->(h.set n (.ins x a))[k]?=ε o:=fun k o no q=>by
  rw[getElem?_set];by_cases z:n=k
  . subst z;rw[e]at q;exact Ei (tu q).symm (no _ _)
  . rw[eH z];exact q
 exact⟨by simp,fun k b q=>g k _ (fun v v z=>by cases z) q,fun k b q=>g k _ (fun v v z=>by cases z) q⟩
noncomputable abbrev aC:=Nat×Nat×Nat
noncomputable def UA (m:aC):Dt:=.tup [.str "ways", .int (m.1:Nat),.int (m.2.1:Nat),.int (m.2.2:Nat)]
def kD(c:Nat)(m:aC):Prop:=m.1<c/\m.2.2<c/\m.1≠m.2.2/\m.2.1<8192
def ej(h:HI)(d:Dt)(g:Ms aC):Prop:=∃n,d=.ref n/\h[n]?=ε (.lst (g.map UA))
theorem ej.up{h h':HI}{d:Dt}{g:Ms aC}(q:ej h d g)(u:tj h h'):ej h' d g:=by obtain⟨n,e,q⟩:=q;exact⟨n,e,u.2 _ _ q⟩
noncomputable def MB(c:Nat)(g:Nat->Nat->Nat):Nat->Nat->Nat:=fun i j=>if i<c/\j<c then g i j else 0
theorem LF{c:Nat}(g:Nat->Nat->Nat){i j:Nat}(b:i<c)(a:j<c):MB c g i j=g i j:=eG ⟨b,a⟩
theorem Ut{c:Nat}{g g':Nat->Nat->Nat}(e:∀i<c,∀j<c,g i j=g' i j):MB c g=MB c g':=by
 funext i j
 unfold MB;split
 . rename_i q;exact e i q.1 j q.2
 . rfl
theorem oa{h:HI}{b c:Nat}{g:Nat->Nat->Nat}(N:Uu h b c g):Uu h b c (MB c g):=N.congr fun q d q a=>(LF g d a).symm
theorem OT{c:Nat}{g:Nat->Nat->Nat}(o:WA c g):WA c (MB c g):=⟨fun i b j a=>by rw[LF g b a];exact o.lt i b j a,fun i b j a=>by rw[LF g b a,LF g a b];exact o.tn i b j a⟩
theorem Ib{c:Nat}{g:Nat->Nat->Nat}{i k j:Nat}(d:i<c)(a:k<c)(b:j<c):Ws (MB c g) i k j=Ws g i k j:=by unfold Ws;rw[LF g d b,LF g d a,LF g a b]
theorem Lg{c:Nat}{g:Nat->Nat->Nat}(o:dE c g):dE c (MB c g):=fun i b k e j a d=>by rw[Ib b e a,LF g b a];exact o i b k e j a d
theorem bS{a:Type}{p q:a->Bool}:∀{xs:Ms a},(∀x∈xs,p x=q x)->xs.any p=xs.any q
 | [],_=>rfl
 | x::xs,h=>by rw[Js,Js,h x ⋯,bS fun y b=>h y (by simp[b])]
theorem Gy{c:Nat}{g g':Nat->Nat->Nat}(e:∀i<c,∀j<c,g i j=g' i j):wB c g=wB c g':=by unfold wB;exact bS fun i b=>bS fun j a=>by rw[e i (Ca.mp b) j (Ca.mp a)]
theorem Vt(c:Nat)(g:Nat->Nat->Nat):wB c (MB c g)=wB c g:=Gy fun q b q a=>LF g b a
def bt(c:Nat)(f:Nat->Nat->Nat)(st:Ms (Nat×Nat×Nat))(g:Nat->Nat->Nat):Prop:=∃a,ti c f st a/\dE c a/\wB c a=false/\g=MB c a
theorem bt.ok{c:Nat}{f g:Nat->Nat->Nat}{st:Ms (Nat×Nat×Nat)}(e:bt c f st g)(o:WA c f):WA c g/\dE c g/\wB c g=false:=by obtain⟨b,s,a,ne,rfl⟩:=e;exact⟨OT (s.ok o),Lg a,by rw[Vt];exact ne⟩
theorem bt.unique{c:Nat}{f g g':Nat->Nat->Nat}{st a:Ms (Nat×Nat×Nat)}(o:WA c f)(e:bt c f st g)(n:bt c f a g'):g=g':=by
 obtain⟨x,s,p,ne,rfl⟩:=e;obtain⟨u,b,d,m,rfl⟩:=n;refine Ut fun i k j h=>?_
 have r:=s.keeps (b.ok o) d (b.sub o) i k j h;have q:=b.keeps (s.ok o) p (s.sub o) i k j h;exact Yi.antisymm q r
theorem bt.ck{c:Nat}{f g g':Nat->Nat->Nat}{st a:Ms (Nat×Nat×Nat)}(o:WA c f)(e:bt c f st g)(h:ti c f a g'):wB c g'=false:=by
 obtain⟨m,s,n,ne,rfl⟩:=e;have p:=h.keeps (s.ok o) n (s.sub o);cases z:wB c g' with
 | false=>rfl
 | true=>
  obtain⟨i,d,j,b,e⟩:=ee.mp z;have:=p i d j b;rw[e]at this;have k:m i j=0:=by unfold Yi at this;rw[Nat.and_zero]at this;exact this.symm
  exact Ei k (G.ck ne d b)
noncomputable def t3(m:Nat):Nat:=8191-m
def GD(f:Nat->Nat->Nat)(k:Nat):Ms aC->Nat->(Nat->Nat->Nat)
 | [],_=>f
 | m::ms,p=>GD (vB f m.1 (if p=k then m.2.1 else t3 m.2.1) m.2.2) k ms (p+1)
def VG(f:Nat->Nat->Nat)(g:Ms aC)(k:Nat):Nat->Nat->Nat:=GD f k g 0
theorem SR(k:Nat)(m:aC):∀(a:Ms aC)(f:Nat->Nat->Nat)(p:Nat),GD f k (a++[m]) p=vB (GD f k a p) m.1 (if p+a.length=k then m.2.1 else t3 m.2.1) m.2.2
 | [],f,p=>by simp[GD]
 | x::a,f,p=>by show GD (vB f x.1 (if p=k then x.2.1 else t3 x.2.1) x.2.2) k (a++[m]) (p+1)=_;rw[SR k m a _ (p+1),Ru,show p+(a.length+1)=p+1+a.length by omega];rfl
theorem PX{c k:Nat}:∀(e:Ms aC)(_:∀m∈e,kD c m)(f:Nat->Nat->Nat)(p:Nat),WA c f->WA c (GD f k e p)
 | [],_,f,p,o=>o
 | m::e,h,f,p,o=>by obtain⟨a,b,d,_⟩:=h m ⋯;exact PX e (fun x g=>h x (by simp[g])) _ _ (wH o a b d _)
def wD(c:Nat)(g:Nat->Nat->Nat):Ni (Nat×Nat):=(cB c).find? fun p=>decide (1<(vA (g p.1 p.2)).length)
theorem oe{m:Nat}(h:m<8192):Builtin.bitAnd 8191 (Builtin.bitNot ((m:Nat):Int))=((t3 m:Nat):Int):=by
 have d:Builtin.bitNot (Builtin.bitNot ((m:Nat):Int))=(m:Int):=by unfold Builtin.bitNot;omega
 have b:¬(0<=Builtin.bitNot ((m:Nat):Int)):=by unfold Builtin.bitNot;omega
 have a:(8191:Nat)&&&m=m:=by rw[Nat.and_comm,show(8191:Nat)=2^13-1 from rfl,Nat.and_two_pow_sub_one_eq_mod];exact Nat.mod_eq_of_lt h
 unfold Builtin.bitAnd;have g:decide ((8191:Int) >=0)=true:=by decide
 have e:decide (Builtin.bitNot ((m:Nat):Int) >=0)=false:=fu b;simp![g,e,d];show(8191:Int)-(((8191:Int).toNat&&&(m:Int).toNat:Nat):Int)=_;rw[show(8191:Int).toNat=8191 from rfl,n7,a];unfold t3;omega
theorem kZ{a:Type}{xs:Ms a}{k:Nat}(h:k<=xs.length):(xs.take k).length=k:=by rw[Ci];omega
theorem sI{a:Type}{xs:Ms a}{k:Nat}{x:a}(h:xs[k]?=ε x):xs.take (k+1)=xs.take k++[x]:=by rw[take_add_one,h];rfl
theorem ak{h:HI}{b c:Nat}{f:Nat->Nat->Nat}(N:Uu h b c f)(F:c<=1000){n:Nat}{g:Ms aC}(D:h[n]?=ε (.lst (g.map UA)))(ok:∀m∈g,kD c m)(k:Nat) :
 ∃d h',MN [.ref (b+c),.ref n,.int (k:Nat)] h=ε (.ref (d+c),h')/\Uu h' d c (VG f g k)/\Up h h':=by
 obtain⟨L,h',e,d,s,r,q,rfl,p,U⟩:=C4 (i:=3) (j:=4) (n:=n) (body:=WN) UA (fun a l h'=>∃d s r q,l=[ε (.ref (d+c)),ε (.ref n),ε (.int (k:Nat)),s,r,q]/\Uu h' d c (GD f k (g.take a) 0)/\Up h h') g (by
  rintro a l h' ⟨d,s,r,q,rfl,p,U⟩;exact U.get D) (by
  rintro a x u l h' ⟨d,s,r,q,rfl,p,U⟩;obtain⟨J,I,P,H⟩:=ok x (lu u);have O:a<g.length:=(Wi u).1;have eq:GD f k (g.take (a+1)) 0=vB (GD f k (g.take a) 0) x.1 (if a=k then x.2.1 else t3 x.2.1) x.2.2:=by rw[sI u,SR,kZ nofun,Ae]
  have o:=vO p F J I (if a=k then x.2.1 else t3 x.2.1);rw[<- eq]at o;have M:=qE h' c (GD f k (g.take (a+1)) 0);refine⟨.nx [ε (.ref (h'.length+c)),ε (.ref n),ε (.int (k:Nat)),ε (.int (a:Nat)),ε (UA x),ε (.int ((if a=k then x.2.1 else t3 x.2.1:Nat):Int))] (h'++lC h'.length c (GD f k (g.take (a+1)) 0)),?_,h'.length,_,_,_,rfl,M,U.trans (Up.app _ _)⟩;have B:atI [Dt.str "ways",Dt.int (x.1:Nat),Dt.int (x.2.1:Nat),Dt.int (x.2.2:Nat)] 2=ε (.int (x.2.1:Nat)):=rfl;have C:atI [Dt.str "ways",Dt.int (x.1:Nat),Dt.int (x.2.1:Nat),Dt.int (x.2.2:Nat)] 1=ε (.int (x.1:Nat)):=rfl;have y:atI [Dt.str "ways",Dt.int (x.1:Nat),Dt.int (x.2.1:Nat),Dt.int (x.2.2:Nat)] 3=ε (.int (x.2.2:Nat)):=rfl;by_cases z:a=k
  . subst z;rw[eG rfl]at o ⊢;have E:decide ((a:Int)=(a:Int))=true:=iu rfl;simp![WN,EA,bB,oU,JA,wA,kA,sA,Va,Ti,Ra,Ri,nA,dA,LC,decide_true,OA,eN,UA,LB,C,B,y,Vi,NA,QA,DA,BA,Us,o]
  . rw[eH z]at o ⊢;have E:decide ((a:Int)=(k:Int))=false:=fu nofun;simp![WN,EA,bB,oU,JA,wA,kA,sA,Va,Ti,Ra,Ri,nA,dA,LC,E,OA,Wo,eO,UA,LB,C,B,y,Vi,aq,Fp,ME,oe H,NA,QA,DA,BA,Us,o]) [ε (.ref (b+c)),ε (.ref n),ε (.int (k:Nat)),none,none,none] h ⟨b,_,_,_,rfl,N,Up.refl h⟩
 rw[Ke]at p;refine⟨d,h',?_,p,U⟩;dsimp![MN,kW,Ss,Vs,Wu,Vu,EA,XB,uZ,Ri,zX D,e,NA,jB,uB]
theorem Zw{h:HI}{b c:Nat}{g:Nat->Nat->Nat}(N:Uu h b c g)(H:c<=1000) :
 ∃h',cL [.ref (b+c)] h=ε ((match wD c g with | none=>.non | some p=>AA p),h')/\Up h h':=by
 have D:=JR H h;have U:Up h (h++[.lst ((cB c).map AA)]):=Up.app _ _;have E:Uu (h++[.lst ((cB c).map AA)]) b c g:=U.net N;have o:(h++[Ob.lst ((cB c).map AA)])[h.length]?=ε (.lst ((cB c).map AA)):=by simp
 refine⟨h++[.lst ((cB c).map AA)],?_,U⟩;have body:∀p∈cB c,∀y,tN [ε (.ref (b+c)),ε (AA p)] (h++[.lst ((cB c).map AA)])=ε (if decide (1<(vA (g p.1 p.2)).length)=true then .rt (AA p) (h++[.lst ((cB c).map AA)])else .nx [ε (.ref (b+c)),ε (AA p)] (h++[.lst ((cB c).map AA)]))\/y:=by
  intro p hp y;obtain⟨q,F⟩:=MS hp
  left
  have B:=mF E.top (p.1:Int);rw[SM.YC,VL q,Vi]at B;have u:=mF (E.row _ q) (p.2:Int);rw[SM.YC,TL F,Vi]at u;have J:decide ((1:Int)<(((vA (g p.1 p.2)).map fun(k:Nat)=>Dt.int (k:Int)).length:Nat))=decide (1<(vA (g p.1 p.2)).length):=by
   rw[ni];by_cases z:1<(vA (g p.1 p.2)).length
   . rw[iu z,iu nofun]
   . rw[fu z,fu nofun]
  simp![tN,XA,JA,wA,fC,QA,DA,BA,kA,sA,Ra,Ri,nA,dA,AA,LB,oC,kF,Vi,B,u,Us,ML,OP,ZH,J,OA,jB,BB];split<;>rfl
 obtain⟨r,e,j⟩:=J1 (i:=1) (n:=h.length) (body:=tN) AA (fun k l h'=>(∃y,l=[ε (.ref (b+c)),y])/\h'=h++[.lst ((cB c).map AA)]/\((cB c).take k).find? (fun p=>decide (1<(vA (g p.1 p.2)).length))=none) (fun d h'=>h'=h++[.lst ((cB c).map AA)]/\∃p,wD c g=ε p/\d=AA p) (cB c) (by
  rintro k l h' ⟨_,rfl,_⟩;exact o) (by
  rintro k x m l h' ⟨⟨y,rfl⟩,rfl,a⟩;rcases body x (lu m) False with bb | bb
  . refine⟨_,bb,?_⟩;by_cases z:decide (1<(vA (g x.1 x.2)).length)=true
    . rw[eG z];refine⟨rfl,x,?_,rfl⟩;unfold wD;rw[<- take_append_drop k (cB c),find?_append,a,Option.none_or];have:(cB c).drop k=x::(cB c).drop (k+1):=by obtain⟨q1,q2⟩:=Wi m;rw[<- q2];exact Aa q1
      rw[this,Ii,z]
    . rw[eH z];refine⟨⟨_,rfl⟩,rfl,?_⟩;rw[sI m,find?_append,a,Option.none_or,Ii];simp![show decide (1<(vA (g x.1 x.2)).length)=false by simpa using z];rfl
  . exact bb.elim) [ε (.ref (b+c)),none] (h++[.lst ((cB c).map AA)]) ⟨⟨_,rfl⟩,rfl,rfl⟩
 have C:=N.len;cases r with
 | nx s h'=>obtain⟨_,rfl,a⟩:=j;rw[Ke]at a;have:wD c g=none:=a;rw[this];dsimp![cL,lR,Ss,Vs,Wu,Vu,EA,XB,rC,QA,DA,BA,fC,C,Us,D,PD o,e,NA,jB,sA,uB]
 | rt d h'=>obtain⟨rfl,p,I,rfl⟩:=j;rw[I];dsimp![cL,lR,Ss,Vs,Wu,Vu,EA,XB,rC,QA,DA,BA,fC,C,Us,D,PD o,e,wF,uB]
 | bk s h'=>exact j.elim
 | ct s h'=>exact j.elim
inductive sv where
 | ways (m:aC)
 | long (x:Ln)
 | one (g:List aC)
def ay(h:HI)(d:Dt):sv->Prop
 | .ways m=>d=UA m
 | .long x=>d=.tup [.str "long", .int (x.1:Nat),.int x.2.1,.int x.2.2]
 | .one g=>∃a,d=.tup [.str "one",a]/\ej h a g
theorem ay.up{h h':HI}{d:Dt}{f:sv}(q:ay h d f)(u:tj h h'):ay h' d f:=by
 cases f with
 | ways m=>exact q
 | long x=>exact q
 | one g=>obtain⟨a,e,q⟩:=q;exact⟨a,e,q.up u⟩
noncomputable def tD(c:Nat):sv->Prop
 | .ways m=>kD c m
 | .long x=>x.1<c
 | .one g=>∀m∈g,kD c m
inductive Yo(h:HI):List Dt->List sv->Prop where
 | nil:Yo h [] []
 | cons {d:Dt} {f:sv} {ds:List Dt} {fs:List sv} (a:ay h d f) (r:Yo h ds fs):Yo h (d::ds) (f::fs)
theorem Yo.up{h h':HI}{ds:Ms Dt}{fs:Ms sv}(q:Yo h ds fs)(u:tj h h'):Yo h' ds fs:=by
 induction q with
 | nil=>exact .nil
 | cons a r ih=>exact .cons (a.up u) ih
theorem Yo.len{h:HI}{ds:Ms Dt}{fs:Ms sv}(q:Yo h ds fs):ds.length=fs.length:=by
 induction q with
 | nil=>rfl
 | cons a r ih=>simp[ih]
theorem Yo.get{h:HI}{ds:Ms Dt}{fs:Ms sv}(q:Yo h ds fs):∀{k:Nat}{d:Dt},ds[k]?=ε d->∃f,fs[k]?=ε f/\ay h d f:=by
 induction q with
 | nil=>intro k d e;simp at e
 | cons a r ih=>
  intro k d e;cases k with
  | zero=>simp at e;subst e;exact⟨_,by simp,a⟩
  | succ k=>exact(by obtain⟨f,b,e2⟩:=ih (k:=k) (by simpa using e);exact⟨f,by simpa using b,e2⟩)
theorem Yo.snoc{h:HI}{ds:Ms Dt}{fs:Ms sv}(q:Yo h ds fs){d:Dt}{f:sv}(a:ay h d f):Yo h (ds++[d]) (fs++[f]):=by
 induction q with
 | nil=>exact .cons a .nil
 | cons b r ih=>exact .cons b ih
noncomputable def MM:sv->Bool
 | .ways _=>true
 | _=>false
noncomputable def SI:sv->Bool
 | .long _=>true
 | _=>false
noncomputable def uG:sv->Bool
 | .one _=>true
 | _=>false
theorem l_w:decide ((("long" :Str))=(("ways" :Str)))=false:=by decide +kernel
theorem o_w:decide ((("one" :Str))=(("ways" :Str)))=false:=by decide +kernel
theorem w_l:decide ((("ways" :Str))=(("long" :Str)))=false:=by decide +kernel
theorem o_l:decide ((("one" :Str))=(("long" :Str)))=false:=by decide +kernel
theorem w_o:decide ((("ways" :Str))=(("one" :Str)))=false:=by decide +kernel
theorem l_o:decide ((("long" :Str))=(("one" :Str)))=false:=by decide +kernel
theorem K3 {h:HI} {d:Dt} {f:sv} (q:ay h d f) (l:LI) (k:HI) (i:Nat) (a:l[i]?=ε (ε d)):e2 FB (e2 pA (eV i) (ua 0)) (eC (.str "ways")) l k=ε (.bl (MM f),k):=by
 cases f with
 | ways m=>rw[show d=UA m from q]at a;simp![wA,kA,a,nA,dA,sA,UA,LB,oC,Ra,Vi,RD,decide_true,MM]
 | long x=>rw[show d=_ from q]at a;simp![wA,kA,a,nA,dA,sA,LB,oC,Ra,Vi,RD,l_w,MM]
 | one g=>obtain⟨b,rfl,_⟩:=q;simp![wA,kA,a,nA,dA,sA,LB,oC,Ra,Vi,RD,o_w,MM]
theorem J3 {h:HI} {d:Dt} {f:sv} (q:ay h d f) (l:LI) (k:HI) (i:Nat) (a:l[i]?=ε (ε d)):e2 FB (e2 pA (eV i) (ua 0)) (eC (.str "long")) l k=ε (.bl (SI f),k):=by
 cases f with
 | ways m=>rw[show d=UA m from q]at a;simp![wA,kA,a,nA,dA,sA,UA,LB,oC,Ra,Vi,RD,w_l,SI]
 | long x=>rw[show d=_ from q]at a;simp![wA,kA,a,nA,dA,sA,LB,oC,Ra,Vi,RD,decide_true,SI]
 | one g=>obtain⟨b,rfl,_⟩:=q;simp![wA,kA,a,nA,dA,sA,LB,oC,Ra,Vi,RD,o_l,SI]
theorem fU {h:HI} {d:Dt} {f:sv} (q:ay h d f) (l:LI) (k:HI) (i:Nat) (a:l[i]?=ε (ε d)):e2 FB (e2 pA (eV i) (ua 0)) (eC (.str "one")) l k=ε (.bl (uG f),k):=by
 cases f with
 | ways m=>rw[show d=UA m from q]at a;simp![wA,kA,a,nA,dA,sA,UA,LB,oC,Ra,Vi,RD,w_o,uG]
 | long x=>rw[show d=_ from q]at a;simp![wA,kA,a,nA,dA,sA,LB,oC,Ra,Vi,RD,l_o,uG]
 | one g=>obtain⟨b,rfl,_⟩:=q;simp![wA,kA,a,nA,dA,sA,LB,oC,Ra,Vi,RD,decide_true,uG]
def FC(f:Nat->Nat->Nat):Ms sv->(Nat->Nat->Nat)
 | []=>f
 | .ways m::fs=>FC (vB f m.1 m.2.1 m.2.2) fs
 | _::fs=>FC f fs
theorem BL(x:sv):∀(fs:Ms sv)(f:Nat->Nat->Nat),FC f (fs++[x])=FC (FC f fs) [x]
 | [],f=>rfl
 | .ways m::fs,f=>BL x fs _
 | .long m::fs,f=>BL x fs _
 | .one m::fs,f=>BL x fs _
theorem rH{c:Nat}:∀(fs:Ms sv)(_:∀x∈fs,tD c x)(f:Nat->Nat->Nat),WA c f->WA c (FC f fs)
 | [],_,f,o=>o
 | .ways m::fs,h,f,o=>by obtain⟨a,b,d,_⟩:=h (.ways m) ⋯;exact rH fs (fun x e=>h x (by simp[e])) _ (wH o a b d _)
 | .long m::fs,h,f,o=>rH fs (fun x e=>h x (by simp[e])) _ o
 | .one m::fs,h,f,o=>rH fs (fun x e=>h x (by simp[e])) _ o
theorem Ey{h:HI}{a c:Nat}(s:c<=1000){ds:Ms Dt}(u:h[a]?=ε (.lst ds)){fs:Ms sv}(F:Yo h ds fs)(ok:∀x∈fs,tD c x) :
 ∃b h',yL [.int (c:Nat),.ref a] h=ε (.ref (b+c),h')/\Uu h' b c (FC Xe fs)/\Up h h':=by
 have H:=E8 s h;have U0:Up h (h++lC h.length c Xe):=Up.app _ _;have O:=qE h c Xe;have B:ds=ds.map id:=by simp
 obtain⟨Q,h',e,g,y,rfl,j,U⟩:=rK (i:=3) (n:=a) (body:=nL) id (fun k l h'=>∃g y,l=[ε (.int (c:Nat)),ε (.ref a),ε (.ref (g+c)),y]/\Uu h' g c (FC Xe (fs.take k))/\Up h h') ds (by
  rintro k l h' ⟨g,y,rfl,j,U⟩;rw[<- B];exact U.get u) (by
  rintro k d hd l h' ⟨g,y,rfl,j,U⟩;obtain⟨x,r,q⟩:=F.get hd;have o:=K3 q [ε (.int (c:Nat)),ε (.ref a),ε (.ref (g+c)),ε d] h' 3 rfl;have p:=ok x (lu r);have eq:FC Xe (fs.take (k+1))=FC (FC Xe (fs.take k)) [x]:=by rw[sI r,BL]
  have P:([ε (.int (c:Nat)),ε (.ref a),ε (.ref (g+c)),y]:LI).set 3 (ε (id d))=[ε (.int (c:Nat)),ε (.ref a),ε (.ref (g+c)),ε d]:=rfl;rw[P];cases x with
  | ways m=>obtain⟨L,J,S,R⟩:=p;have qd:d=UA m:=q;have I:=vO j s L J m.2.1;have M:=qE h' c (vB (FC Xe (fs.take k)) m.1 m.2.1 m.2.2);refine⟨.nx [ε (.int (c:Nat)),ε (.ref a),ε (.ref (h'.length+c)),ε d] (h'++lC h'.length c (vB (FC Xe (fs.take k)) m.1 m.2.1 m.2.2)),?_,h'.length,_,rfl,by rw[eq];exact M,U.trans (Up.app _ _)⟩;have D:atI [Dt.str "ways",Dt.int (m.1:Nat),Dt.int (m.2.1:Nat),Dt.int (m.2.2:Nat)] 2=ε (.int (m.2.1:Nat)):=rfl;have E:atI [Dt.str "ways",Dt.int (m.1:Nat),Dt.int (m.2.1:Nat),Dt.int (m.2.2:Nat)] 1=ε (.int (m.1:Nat)):=rfl;have C:atI [Dt.str "ways",Dt.int (m.1:Nat),Dt.int (m.2.1:Nat),Dt.int (m.2.2:Nat)] 3=ε (.int (m.2.2:Nat)):=rfl;unfold nL;rw[XA,JA,o];rw[qd];simp![MM,dA,OA,eN,bB,QA,DA,BA,wA,kA,sA,Ra,Ri,nA,UA,LB,E,D,C,Vi,Us,I,Va,Ti]
  | long m=>refine⟨.nx [ε (.int (c:Nat)),ε (.ref a),ε (.ref (g+c)),ε d] h',?_,g,_,rfl,by rw[eq];exact j,U⟩;unfold nL;rw[XA,JA,o];simp![MM,dA,OA,Wo,eO,BB]
  | one m=>
   refine⟨.nx [ε (.int (c:Nat)),ε (.ref a),ε (.ref (g+c)),ε d] h',?_,g,_,rfl,by rw[eq];exact j,U⟩;unfold nL;rw[XA,JA,o];simp![MM,dA,OA,Wo,eO,BB]) [ε (.int (c:Nat)),ε (.ref a),ε (.ref (h.length+c)),none] (h++lC h.length c Xe) ⟨h.length,_,rfl,O,U0⟩
 rw[F.len,Ke]at j;refine⟨g,h',?_,j,U⟩;dsimp![yL,xW,Ss,Vs,Wu,Vu,EA,bB,QA,DA,BA,Ri,Us,H,NA,Va,Ti,XB,rC,PD (U0.get u),e,jB,uB]
theorem JL{te:RE}{tc:RT}{n:Nat}(p:sv->Bool)(o:Dt->sv->Dt){ds:Ms Dt}{fs:Ms sv}(l:LI)(h:HI)(F:Yo h ds fs)(e:h[n]?=ε (.lst ds))(D:ds.length<sizeLine)
 (H:∀d f,ay h d f->f∈fs->tc (l.set 0 (ε d)) h=ε (p f,h)/\(p f=true->te (l.set 0 (ε d)) h=ε (o d f,h))) :
 OE (rA 0) tc te l (.rf n,h)=ε (((ds.zip fs).filter fun x=>p x.2).map fun x=>o x.1 x.2,h):=by
 have go:∀(m k:Nat)(i:LI),(∀d,i.set 0 d=l.set 0 d)->m=ds.length-k+1->k<=ds.length->∀g:Ms Dt,g.length<=k->g=((((ds.zip fs).take k).filter fun x=>p x.2).map fun x=>o x.1 x.2)->WD (rA 0) tc te (.rf n) m k i h g=ε (((ds.zip fs).filter fun x=>p x.2).map fun x=>o x.1 x.2,h):=by
  intro m
  induction m with
  | zero=>intro k i _ e;omega
  | succ m ih=>
   intro k i r E I g B b;unfold WD;simp![th.at,e];by_cases a:k<ds.length
   . obtain⟨f,j,q⟩:=F.get (jj a);have s:(ds.zip fs)[k]?=ε (ds[k],f):=by rw[getElem?_zip_eq_some];exact⟨jj a,j⟩
     obtain⟨y,u⟩:=H ds[k] f q (lu j);rw[jj a];simp![VD,Wa,r,y];by_cases z:p f=true
     . rw[eG z];simp![u z,Wa];rw[eG nofun];refine ih (k+1) _ (fun d=>by rw[set_set]) nofun nofun _ (by simp;omega) ?_;rw[sI s,filter_append,Gi,<- b];simp[z]
     . rw[eH z];refine ih (k+1) _ (fun d=>by rw[set_set]) nofun nofun _ nofun ?_;rw[sI s,filter_append,Gi,<- b];simp[z]
   . rw[ju nofun];have C:(ds.zip fs).length=ds.length:=by rw[length_zip,F.len];omega
     rw[take_of_length_le nofun]at b;rw[b]
 have j:th.fuel (.rf n) h=ds.length-0+1:=by simp![th.fuel,e];omega
 unfold OE;simp![j];exact go _ 0 l (fun v=>rfl) rfl (nu _) [] ⋯ ⋯
def NC:Ms sv->Ms Ln
 | []=>[]
 | .long x::fs=>x::NC fs
 | _::fs=>NC fs
def yB:Ms sv->Ms (Ms aC)
 | []=>[]
 | .one g::fs=>g::yB fs
 | _::fs=>yB fs
def w5:sv->Dt
 | .long x=>rB x
 | _=>.non
noncomputable def o5:Dt->Dt
 | .tup [_,x]=>x
 | _=>.non
theorem Yk{h:HI}{a:Nat}{ds:Ms Dt}(b:h[a]?=ε (.lst ds))(i:ds.length<sizeLine){fs:Ms sv}(F:Yo h ds fs):oO [.ref a] h=ε (.lst ((NC fs).map rB),h):=by
 have e:=JL (te:=TV) (tc:=uR) SI (fun v f=>w5 f) [none] h F b i (by
  intro d f q _;refine⟨?_,fun z=>?_⟩
  . unfold uR;rw[JA,J3 q _ _ 0 rfl];rfl
  . cases f with
    | long x=>rw[show d=_ from q];rfl
    | ways m=>cases z
    | one g=>cases z)
 have eq:∀(ds:Ms Dt)(fs:Ms sv),Yo h ds fs->((ds.zip fs).filter fun x=>SI x.2).map (fun x=>w5 x.2)=(NC fs).map rB:=by
  intro ds fs F
  induction F with
  | nil=>rfl
  | @cons d f ds fs a r ih=>
   rw[zip_cons_cons,filter_cons];cases f with
   | long x=>rw[eG (show SI (sv.long x)=true from rfl),Ss,ih];rfl
   | ways m=>rw[eH (show ¬SI (sv.ways m)=true from Wk),ih];rfl
   | one g=>rw[eH (show ¬SI (sv.one g)=true from Wk),ih];rfl
 rw[eq _ _ F]at e;dsimp![oO,cW,Ss,Vs,Us,jB,nE,rC,PD b,fD,eD,e,uB]
inductive ah(h:HI):List Dt->List (List aC)->Prop where
 | nil:ah h [] []
 | cons {d:Dt} {g:List aC} {ds:List Dt} {gs:List (List aC)} (a:ej h d g) (r:ah h ds gs):ah h (d::ds) (g::gs)
theorem ah.up{h h':HI}{ds:Ms Dt}{gs:Ms (Ms aC)}(q:ah h ds gs)(u:tj h h'):ah h' ds gs:=by
 induction q with
 | nil=>exact .nil
 | cons a r ih=>exact .cons (a.up u) ih
theorem Fy{h:HI}{a:Nat}{ds:Ms Dt}(e:h[a]?=ε (.lst ds))(i:ds.length<sizeLine){fs:Ms sv}(F:Yo h ds fs):∃b,ah h b (yB fs)/\zL [.ref a] h=ε (.lst b,h):=by
 have j:=JL (te:=oW) (tc:=BR) uG (fun d v=>o5 d) [none] h F e i (by
  intro d f q _;refine⟨?_,fun z=>?_⟩
  . unfold BR;rw[JA,fU q _ _ 0 rfl];rfl
  . cases f with
    | one g=>obtain⟨k,rfl,_⟩:=q;rfl
    | ways m=>cases z
    | long x=>cases z)
 refine⟨((ds.zip fs).filter fun x=>uG x.2).map fun x=>o5 x.1,?_,?_⟩
 rotate_left
 . dsimp![zL,yW,Ss,Vs,Us,jB,nE,rC,PD e,fD,eD,j,uB]
 . clear j e i
   induction F with
   | nil=>exact .nil
   | @cons d f ds fs a r ih=>
    rw[zip_cons_cons,filter_cons];cases f with
    | one g=>obtain⟨k,rfl,q⟩:=a;rw[eG (show uG (sv.one g)=true from rfl),Ss];exact .cons q ih
    | ways m=>rw[eH (show ¬uG (sv.ways m)=true from Wk)];exact ih
    | long x=>rw[eH (show ¬uG (sv.long x)=true from Wk)];exact ih
theorem uX{o:Type}{te:RE}{i n:Nat}(D F:o->Dt)(xs:Ms o)(l:LI)(h:HI)(e:h[n]?=ε (.lst (xs.map D)))(r:xs.length<sizeLine)(H:∀x∈xs,te (l.set i (ε (D x))) h=ε (F x,h)) :
 OE (rA i) nB te l (.rf n,h)=ε (xs.map F,h):=by
 have go:∀(m k:Nat)(b:LI),(∀d,b.set i d=l.set i d)->m=xs.length-k+1->k<=xs.length->WD (rA i) nB te (.rf n) m k b h ((xs.take k).map F)=ε (xs.map F,h):=by
  intro m
  induction m with
  | zero=>intro k b _ e;omega
  | succ m ih=>
   intro k b j s u;unfold WD;simp![th.at,e,wu];by_cases a:k<xs.length
   . rw[jj a];have g:=H xs[k] (getElem_mem a);have p:((xs.take k).map F).length<sizeLine:=by rw[ni,Ci];omega
     simp![Vi,VD,Wa,vP,eN,j,g,eG p];have:=ih (k+1) (l.set i (ε (D xs[k]))) (fun d=>by rw[set_set]) nofun nofun;rw[take_add_one,jj a,Gi]at this;exact this
   . rw[ju nofun];have:k=xs.length:=by omega
     subst this;simp![Option.map_none,Ke]
 have q:th.fuel (.rf n) h=xs.length-0+1:=by simp![th.fuel,e,ni];omega
 unfold OE;have:=go (xs.length-0+1) 0 l (fun z=>rfl) rfl (nu _);simp![q];exact this
inductive ad{α β:Type}(R:α->β->Prop):List α->List β->Prop where
 | nil:ad R [] []
 | cons {a:α} {b:β} {as:List α} {bs:List β} (h:R a b) (r:ad R as bs):ad R (a::as) (b::bs)
theorem ad.imp{e d:Type}{R S:e->d->Prop}(i:∀a b,R a b->S a b){g:Ms e}{bs:Ms d}(h:ad R g bs):ad S g bs:=by
 induction h with
 | nil=>exact .nil
 | cons a r ih=>exact .cons (i _ _ a) ih
theorem ad.len{d b:Type}{R:d->b->Prop}{e:Ms d}{bs:Ms b}(h:ad R e bs):e.length=bs.length:=by
 induction h with
 | nil=>rfl
 | cons a r ih=>simp[ih]
theorem ad.eP{g e d:Type}{R:d->e->Prop}{f:g->d}:∀{i:Ms g}{bs:Ms e},ad (fun a b=>R (f a) b) i bs->ad R (i.map f) bs
 | _,_,.nil=>.nil
 | _,_,.cons h r=>.cons h (ad.eP r)
theorem uO{e:Type}{te:RE}(D:e->Dt)(P:HI->e->Dt->Prop)(up:∀h a x d,Up h a->P h x d->P a x d):∀(xs:Ms e)(l:LI)(h:HI),(∀x∈xs,∀a,Up h a->∃d b,te (l.set 0 (ε (D x))) a=ε (d,b)/\Up a b/\P b x d)->
 ∃ds a,XD (rA 0) nB te (xs.map D) l h=ε (ds,a)/\Up h a/\ad (P a) xs ds
 | [],l,h,_=>⟨[],h,rfl,Up.refl h,.nil⟩
 | x::xs,l,h,H=>by
  obtain⟨d,n,o,i,k⟩:=H x ⋯ h (Up.refl h);obtain⟨ds,b,e2,g,j⟩:=uO D P up xs (l.set 0 (ε (D x))) n (fun y m a u=>by
   rw[set_set];exact H y (by simp[m]) a (i.trans u))
  refine⟨d::ds,b,?_,i.trans g,.cons (up _ _ _ _ g k) j⟩;simp![Ss,XD,VD,Wa,vP,eN,o,e2]
def be(h:HI)(c:Nat)(f:Nat->Nat->Nat)(d:Dt):Prop:=∃b,d=.ref (b+c)/\Uu h b c f
theorem be.up{h h':HI}{c:Nat}{f:Nat->Nat->Nat}{d:Dt}(n:be h c f d)(u:tj h h'):be h' c f d:=by obtain⟨b,e,N⟩:=n;exact⟨b,e,u.net N⟩
def KC(c:Nat)(g:Nat->Nat->Nat):Ms (Ms aC)->Ni (Ni (Nat×Nat)×Ms (Nat->Nat->Nat)×Ms (Nat×Nat))
 | grp::_=>ε (none,(List.range grp.length).map (VG g grp),grp.map fun m=>(m.1,m.2.2))
 | []=>match wD c g with
  | none=>none
  | some p=>ε (ε p,(vA (g p.1 p.2)).map fun w=>vB g p.1 (2^w) p.2,[p])
def OD(tag:Ni (Nat×Nat))(a:Ms Dt)(ps:Ms (Nat×Nat)):Dt:=match tag with
 | none=>.tup [.str "one", .tup [],.lst a,.lst (ps.map AA)]
 | some p=>.tup [.str "split",AA p,.lst a,.lst (ps.map AA)]
theorem oi{h:HI}{ds:Ms Dt}{gs:Ms (Ms aC)}(q:ah h ds gs):rF (.lst ds) (.lst []) h=ε (.bl (!gs.isEmpty),h):=by rw[W3 (xs:=ds) rfl];cases q<;>rfl
theorem Hh{h:HI}{b c:Nat}{g:Nat->Nat->Nat}(N:Uu h b c g)(og:WA c g)(hc:c<=100){gds:Ms Dt}{gs:Ms (Ms aC)}(Q:ah h gds gs)(ok:∀x∈gs,∀m∈x,kD c m)(sm:∀x∈gs,x.length<=1000) :
 ∃o,Up h o/\match KC c g gs with
  | none=>mG [.ref (b+c),.lst gds] h=ε (.non,o)
  | some (tag,bs,ps)=>∃j,ad (be o c) bs j/\mG [.ref (b+c),.lst gds] h=ε (OD tag j ps,o):=by
 have ne:=oi Q;cases Q with
 | @cons d grp ds a0 a r=>
  obtain⟨n,rfl,y⟩:=a;have gl:=sm grp ⋯;have I:=ok grp ⋯;have S:=fun h=>oE (h:=h) (show(-(2^62):Int)<=(grp.length:Int) by omega) (show(grp.length:Int)<2^62 by omega)
  simp![n7]at S;obtain⟨j,o,e,U,A⟩:=uO (te:=iO) (fun(k:Nat)=>Dt.int (k:Int)) (fun h k d=>be h c (VG g grp k) d) (fun h o k d u q=>q.up u.l) (List.range grp.length) [none,ε (.ref (b+c)),ε (.ref n)] h (by
   intro k _ o u;obtain⟨b',h2,e,N',U'⟩:=ak (u.net N) nofun (u.get y) I k;refine⟨_,h2,?_,U',b',rfl,N'⟩;simp![iO,QA,DA,BA,kA,Ti,Ra,Ri,nA,dA,Us,e])
  have D:=UD (l:=[none,ε (.ref (b+c)),ε (.ref n)]) (h:=h) (rA 0) nB iO (xs:=(List.range grp.length).map fun(k:Nat)=>Dt.int (k:Int)) (by simp[sizeLine];omega);rw[e]at D;have C:=uX (te:=gW) (i:=0) UA (fun m:aC=>AA (m.1,m.2.2)) grp [none] o (U.get y) (by simp[sizeLine];omega) (by
   intro m _;rfl)
  have R:=HH y;rw[ni]at R;refine⟨o,U,?_⟩;show ∃j,ad (be o c) ((List.range grp.length).map (VG g grp)) j/\mG [.ref (b+c),.lst (.ref n::ds)] h=ε (OD none j (grp.map fun m=>(m.1,m.2.2)),o)
  refine⟨j,A.eP,?_⟩;have pm:grp.map (fun m:aC=>AA (m.1,m.2.2))=(grp.map fun m=>(m.1,m.2.2)).map AA:=by rw[map_map];rfl
  rw[pm]at C;have Y:=PD (U.get y);dsimp![mG,KR,Ss,Vs,Wu,Vu,EA,XA,JA,wA,sA,AH,BA,Ri,nu,ne,isEmpty_cons,vm,OA,bB,nQ,oC,Vi,Va,Ti,NA,nE,YD,fC,R,S,fD,FG,eD,Ku,D,jB,xD,DA,rC,Y,C];rfl
 | nil=>
  obtain⟨s,E,U1⟩:=Zw N (show c<=1000 by omega);generalize B:mG [.ref (b+c),.lst []] h=X;dsimp![mG,KR,Ss,Vs,Wu,Vu,EA,XA,JA,wA,sA,AH,BA,Ri,nu,ne,isEmpty_nil,vo,OA,Wo,eO,BB,NA,bB,QA,DA,Us]at B;cases lp:wD c g with
  | none=>
   rw[lp]at E;refine⟨s,U1,?_⟩;have F:KC c g []=none:=by simp![KC,lp]
   rw[F];simp![E,dA,NA,EA,XA,JA,wA,kA,sA,Ra,Ri,nA,Va,Ti,FM,yF,OA,eN,jB,wF,uB]at B;exact B.symm
  | some p=>
   rw[lp]at E;have F:KC c g []=ε (ε p,(vA (g p.1 p.2)).map (fun w=>vB g p.1 (2^w) p.2),[p]):=by simp![KC,lp]
   rw[F];have hp:p∈cB c:=Ao lp;obtain⟨H,M⟩:=MS hp;have J:=U1.net N;obtain⟨j,o,e,U,A⟩:=uO (te:=jO) (fun(w:Nat)=>Dt.int (w:Int)) (fun h w d=>be h c (vB g p.1 (2^w) p.2) d) (fun h o k d u q=>q.up u.l) (vA (g p.1 p.2)) [none,ε (.ref (b+c)),ε (AA p)] s (by
    intro w hw o u;have L:=(am.mp hw).1;have y:=vO (u.net J) (show c<=1000 by omega) H M (2^w);refine⟨_,_,?_,Up.app _ _,o.length,rfl,qE o c _⟩;have Z:=NI (h:=o) (TH L);have pw:(1:Int)*2^w=((2^w:Nat):Int):=by simp
    simp![jO,QA,DA,BA,wA,sA,kA,Ti,Ra,Ri,nA,dA,AA,LB,oC,kF,Vi,Z,n7,pw,Us,y])
   have L:=NJ (g p.1 p.2);have D:=UD (l:=[none,ε (.ref (b+c)),ε (AA p)]) (h:=s) (rA 0) nB jO (xs:=(vA (g p.1 p.2)).map fun(w:Nat)=>Dt.int (w:Int)) (by simp[sizeLine];omega);rw[e]at D;have P:=mF J.top (p.1:Int);rw[SM.YC,VL H,Vi]at P;have O:=mF (J.row _ H) (p.2:Int);rw[SM.YC,TL M,Vi]at O;refine⟨o,U1.trans U,j,A.eP,?_⟩;have np:yF (AA p)=false:=rfl;have W:pA (AA p) (.int 0) s=ε (.int (p.1:Nat),s):=rfl;have T:pA (AA p) (.int 1) s=ε (.int (p.2:Nat),s):=rfl;simp![E,dA,NA,EA,XA,JA,wA,kA,sA,Ra,Ri,nA,Va,Ti,FM,np,OA,Wo,eO,BB,bB,QA,DA,BA,Us,W,T,P,O,nE,rC,ML,WF,fD,FG,eD,Ku,D,jB,xD]at B;rw[<- B];rfl
theorem Yd{c b:Nat}(D:c<=100){N:Nat->Nat->Nat}{ls:Ms Ln}(C:ls.length<=1000){h:HI}(s:Uu h b c N)(a d:Ni Dt):∃y rest,zB (rA 3) sO (ls.map rB) [ε (.ref (b+c)),a,ε (.ref h.length),none,d] (h++[.lst ((PB c).map oA)]) =
 ε (.nx [ε (.ref (b+c)),a,ε (.ref h.length),y,d] (h++.lst ((PB c++ls.flatMap (RB (2*c+1))).map oA)::rest)):=by
 have o:(PB c).length=c:=by simp[PB]
 obtain⟨u,m,e,⟨y,rfl⟩,rest,rfl,_⟩:=yP (i:=3) (body:=sO) rB (fun k l m=>(∃y,l=[ε (.ref (b+c)),a,ε (.ref h.length),y,d])/\∃rest,m=h++.lst ((PB c++(ls.take k).flatMap (RB (2*c+1))).map oA)::rest/\((ls.take k).flatMap (RB (2*c+1))).length<=2*k) ls 0 (by
  rintro k x j l m ⟨⟨y,rfl⟩,rest,rfl,q⟩;rw[Ae]at q ⊢;have B:k<ls.length:=(Wi j).1;have n:(RB (2*c+1) x).length=2:=rfl;have p:=(s.grow (.lst ((PB c++(ls.take k).flatMap (RB (2*c+1))).map oA)::rest)).len;have r:=Hv x.1 x.2.1 x.2.2 (g:=2*c+1) nofun (h++.lst ((PB c++(ls.take k).flatMap (RB (2*c+1))).map oA)::rest);have a:=OZ (h:=h) (F:=PB c++(ls.take k).flatMap (RB (2*c+1))) (G:=RB (2*c+1) x) (rest:=rest) (cy:=[]) (l:=[ε (.ref (b+c)),a,ε (.ref h.length),ε (rB x),d]) (g:=xA qL [] (bA (eV 3) (bA (xA eM [] (bA (QB qB (eV 0)) (fA))) (fA)))) (by rw[ji,o,n];omega) (by
   simp![QA,DA,BA,fC,kA,Ra,Ri,nA,dA,p,nS,Us,rB];exact r)
  refine⟨.nx [ε (.ref (b+c)),_,ε (.ref h.length),ε (rB x),d] (h++.lst ((PB c++(ls.take (k+1)).flatMap (RB (2*c+1))).map oA)::(rest++[.lst ((RB (2*c+1) x).map oA)])),?_,⟨ε (rB x),rfl⟩,rest++[.lst ((RB (2*c+1) x).map oA)],rfl,?_⟩
  . rw[KJ _ j,<- su];simp![sO,cE,OS,kA,Va,Ti,Ra,Ri,nA,dA,a]
  . rw[KJ _ j,ji,n];omega) [ε (.ref (b+c)),a,ε (.ref h.length),none,d] (h++[.lst ((PB c).map oA)]) ⟨⟨_,rfl⟩,[],by simp,by simp⟩
 rw[Ae,Ke]at *;exact⟨y,rest,e⟩
theorem Rn{c d b:Nat}(R:c<=100){N:Nat->Nat->Nat}(I:∀i j,i<c->j<c->vA (N i j) ≠ []){h:HI}(L:Uu h d c N){F:Ms Bd}(S:F.length<=3000){r0:Ms Ob}(db:∀G:Ms Bd,∀a:Ms Ob,(h++.lst (G.map oA)::(r0++a))[b]?=ε (.lst ((cB c).map AA)))(o m:Ni Dt)(pl:(cB c).length<=10000)(pin:∀p∈cB c,p.1<c/\p.2<c) :
 ∃y rest,ND (rA 4) tO [ε (.ref (d+c)),o,ε (.ref h.length),m,none] (.rf b,h++.lst (F.map oA)::r0) =
 ε (.nx [ε (.ref (d+c)),o,ε (.ref h.length),m,y] (h++.lst ((F++(cB c).flatMap fun p=>XC p.1 (N p.1 p.2) p.2).map oA)::rest)):=by
 obtain⟨O,r,e,⟨y,rfl⟩,a,rfl,_⟩:=rK (i:=4) (n:=b) (body:=tO) AA (fun k l r=>(∃y,l=[ε (.ref (d+c)),o,ε (.ref h.length),m,y])/\∃a,r=h++.lst ((F++((cB c).take k).flatMap fun p=>XC p.1 (N p.1 p.2) p.2).map oA)::(r0++a)/\(((cB c).take k).flatMap fun p=>XC p.1 (N p.1 p.2) p.2).length<=8*k) (cB c) (by
  rintro k l r ⟨_,a,rfl,_⟩;exact db _ a) (by
  rintro k x q l r ⟨⟨y,rfl⟩,a,rfl,Q⟩;have P:k<(cB c).length:=(Wi q).1;obtain⟨s,B⟩:=pin x (lu q);have M:(XC x.1 (N x.1 x.2) x.2).length<=8:=by unfold XC;rw[ji];have:=GL x.1 x.2 0 (N x.1 x.2);have:=GL x.1 x.2 1 (N x.1 x.2);omega
  have E:=L.grow (.lst ((F++((cB c).take k).flatMap fun p=>XC p.1 (N p.1 p.2) p.2).map oA)::(r0++a));obtain⟨u,J⟩:=Zk x.1 (N x.1 x.2) x.2 nofun nofun (I _ _ s B) (h++.lst ((F++((cB c).take k).flatMap fun p=>XC p.1 (N p.1 p.2) p.2).map oA)::(r0++a));have D:=mF E.top (x.1:Int);rw[SM.YC,VL s,Vi]at D;have C:=mF (E.row _ s) (x.2:Int);rw[SM.YC,TL B,Vi]at C;have H:=OZ (h:=h) (F:=F++((cB c).take k).flatMap fun p=>XC p.1 (N p.1 p.2) p.2) (G:=XC x.1 (N x.1 x.2) x.2) (rest:=r0++a) (cy:=u) (l:=[ε (.ref (d+c)),o,ε (.ref h.length),m,ε (AA x)]) (g:=xA AL [] (bA (e2 pA (eV 4) (ua 0)) (bA (e2 pA (e2 pA (eV 0) (e2 pA (eV 4) (ua 0))) (e2 pA (eV 4) (ua 1))) (bA (e2 pA (eV 4) (ua 1)) (fA))))) (by rw[ji];omega) (by
   simp![QA,DA,BA,wA,sA,kA,Ra,Ri,nA,dA,AA,LB,oC,kF,Vi,D,C,Us];exact J)
  refine⟨.nx [ε (.ref (d+c)),o,ε (.ref h.length),m,ε (AA x)] (h++.lst ((F++((cB c).take (k+1)).flatMap fun p=>XC p.1 (N p.1 p.2) p.2).map oA)::(r0++(a++.lst ((XC x.1 (N x.1 x.2) x.2).map oA)::u))),?_,⟨_,rfl⟩,_,rfl,?_⟩
  . rw[KJ _ q,<- su,<- su];simp![tO,cE,OS,kA,Va,Ti,Ra,Ri,nA,dA,H]
  . rw[KJ _ q,ji];omega) [ε (.ref (d+c)),o,ε (.ref h.length),m,none] (h++.lst (F.map oA)::r0) ⟨⟨_,rfl⟩,[],by simp,by simp⟩
 rw[Ke]at e;exact⟨y,_,e⟩
theorem Yt{c o:Nat}(d:c<=100){N:Nat->Nat->Nat}(E:∀i j,i<c->j<c->vA (N i j) ≠ []){ls:Ms Ln}(q:ls.length<=1000){h:HI}(g:Uu h o c N) :
 ∃rest,YL [.ref (o+c),.lst (ls.map rB)] h=ε (.ref h.length,h++.lst ((pC c N ls).map oA)::rest):=by
 have D:=g.len;have s:=oE (h:=h) (show(-(2^62):Int)<=(c:Int) by omega) (show(c:Int)<2^62 by omega);simp![n7]at s;have u:=fun(i:Int) (h:HI)=>UC (h:=h) (i:=2) (j:=i) (Or.inl ⟨by decide,by decide⟩)
 have J:=XF (te:=AO) (tc:=nB) (i:=0) (fun(k:Nat)=>Dt.int (k:Int)) (fun k=>oA (2*k,2*k+1,-1)) h (List.range c) [none] (by
  intro k _;exact⟨by simp,by simp[AO,u,oA]⟩)
 have e:=UD (l:=[none]) (h:=h) (rA 0) nB AO (xs:=(List.range c).map fun(k:Nat)=>Dt.int (k:Int)) (by simp;omega);rw[J]at e;have I:(List.range c).map (fun k=>oA (2*k,2*k+1,-1))=(PB c).map oA:=by unfold PB;rw[map_map];rfl
 rw[I]at e;obtain⟨y,r0,B⟩:=Yd d q g (ε (.lst (ls.map rB))) none;have a:=(g.grow (.lst ((PB c++ls.flatMap (RB (2*c+1))).map oA)::r0)).len;have m:=JR (c:=c) nofun (h++.lst ((PB c++ls.flatMap (RB (2*c+1))).map oA)::r0);have H:(ls.flatMap (RB (2*c+1))).length<=2*ls.length:=by
  clear B m e a
  induction ls with
  | nil=>simp
  | cons x ls ih=>rw[flatMap_cons,ji,Ru];have:(RB (2*c+1) x).length=2:=rfl;have:=ih (by simp at q;omega);omega
 have pl:(cB c).length<=10000:=by have:=FL c c;have M:c*c<=100*100:=Iu d d;unfold cB;omega
 obtain⟨L,rest,e2⟩:=Rn (b:=(h++Ob.lst ((PB c++ls.flatMap (RB (2*c+1))).map oA)::r0).length) d E g (F:=PB c++ls.flatMap (RB (2*c+1))) (by simp[PB]at H ⊢;omega) (r0:=r0++[.lst ((cB c).map AA)]) (fun G r2=>by
  have:h++Ob.lst (G.map oA)::(r0++[Ob.lst ((cB c).map AA)]++r2)=(h++Ob.lst (G.map oA)::r0)++Ob.lst ((cB c).map AA)::r2:=by simp
  rw[this,ab ⋯];simp) (ε (.lst (ls.map rB))) y pl (fun p hp=>MS hp)
 refine⟨rest,?_⟩;have r:(h++Ob.lst ((PB c++ls.flatMap (RB (2*c+1))).map oA)::r0)++[Ob.lst ((cB c).map AA)]=h++Ob.lst ((PB c++ls.flatMap (RB (2*c+1))).map oA)::(r0++[Ob.lst ((cB c).map AA)]):=by simp
 rw[r]at m;have C:=PD (h:=h++Ob.lst ((PB c++ls.flatMap (RB (2*c+1))).map oA)::(r0++[Ob.lst ((cB c).map AA)])) (n:=(h++Ob.lst ((PB c++ls.flatMap (RB (2*c+1))).map oA)::r0).length) (xs:=(cB c).map AA) (by
  rw[<- r,ab (Uo _),Ds];rfl)
 unfold pC;dsimp![YL,bY,Ss,Vs,Wu,Vu,EA,bB,mI,YD,fC,Ri,D,a,s,fD,eD,e,Va,Ti,NA,XB,rC,WF,PC,B,QA,DA,BA,Us,m,C,e2,jB,uB]
theorem MT(f:Nat->Nat->Nat){i j:Nat}(m:Nat)(a:i≠j):vB f i m j i j=f i j&&&m:=by unfold vB EB;have:¬i=j:=a;simp[this]
theorem Pj(f:Nat->Nat->Nat)(i m j:Nat):vB f i m j j i=Xi (f i j&&&m):=by unfold vB EB;simp
theorem qH(f:Nat->Nat->Nat){i m j a b:Nat}(h1:¬(a=i/\b=j))(h2:¬(a=j/\b=i)):vB f i m j a b=f a b:=by
 unfold vB EB;by_cases g:a=j
 . by_cases e2:b=i
   . exact Ei ⟨g,e2⟩ h2
   . rw[eG g,eH e2];by_cases d:a=i
     . by_cases e:b=j
       . exact Ei ⟨d,e⟩ h1
       . rw[eG d,eH e]
     . rw[eH d]
 . rw[eH g];by_cases d:a=i
   . by_cases e:b=j
     . exact Ei ⟨d,e⟩ h1
     . rw[eG d,eH e]
   . rw[eH d]
theorem hW{c:Nat}{f:Nat->Nat->Nat}(h:dE c f):lD c f [] []:=fun i e k a j b d n=>Ei (h i e k a j b d) n
theorem pY{c:Nat}{f:Nat->Nat->Nat}(o:WA c f){x z:Nat}(J:x<c)(I:z<c)(O:x≠z)(b:Nat){W:Ms (Nat×Nat)}(h:lD c f W []):lD c (vB f x b z) (W++[(x,z)]) []:=by
 have E:=wH o J I O b;have e:∀i<c,∀k<c,∀j<c,nF i k j->¬(i=z/\j=x)->Ws (vB f x b z) i k j≠vB f x b z i j->AD (W++[(x,z)]) i k j:=by
  intro i r k g j p d y m;obtain⟨u,e2,s⟩:=d;have grow:∀{i k j},AD W i k j->AD (W++[(x,z)]) i k j:=by
   intro i k j q;unfold AD at q ⊢;simp![Bs];rcases q with q | q | q | q
   . exact .inl (.inl q)
   . exact .inr (.inl (.inl q))
   . exact .inr (.inr (.inl (.inl q)))
   . exact .inr (.inr (.inr (.inl q)))
  have un:∀{i k j},Ws f i k j≠f i j->i<c->k<c->j<c->nF i k j->AD W i k j:=by
   intro i k j n r g p d;rcases h i r k g j p d n with q | q | q
   . exact q
   . cases q
   . cases q
  by_cases D:i=x/\j=z
  . obtain⟨rfl,rfl⟩:=D;have C:vB f i b j i k=f i k:=qH f (fun q=>e2 q.2) (fun q=>u q.2.symm);have B:vB f i b j k j=f k j:=qH f (fun q=>u q.1.symm) (fun q=>e2 q.1);have n:Ws f i k j≠f i j:=by intro q;apply m;unfold Ws;rw[C,B,MT f b s];exact ZX (jL (f i j) _) q
    exact grow (un n r g p ⟨u,e2,s⟩)
  . by_cases a:AD [(x,z)] i k j
    . unfold AD at a ⊢;simp![Bs];rcases a with q | q | q | q
      . exact .inl (.inr q)
      . exact .inr (.inl (.inr q))
      . exact .inr (.inr (.inl (.inr q)))
      . exact .inr (.inr (.inr (.inr q)))
    . unfold AD at a;simp![Bo,not_mem_nil,or_false,xu,not_or]at a;obtain⟨M,g2,g3,L⟩:=a;have H:vB f x b z i j=f i j:=qH f (fun q=>D q) (fun q=>y q);have C:vB f x b z i k=f i k:=qH f (fun q=>M q) (fun q=>g2 ⟨q.2,q.1⟩);have B:vB f x b z k j=f k j:=qH f (fun q=>g3 q) (fun q=>L ⟨q.2,q.1⟩);have n:Ws f i k j≠f i j:=by unfold Ws at m ⊢;rw[H,C,B]at m;exact m
      exact grow (un n r g p ⟨u,e2,s⟩)
 intro i r k g j p d m
 left
 by_cases y:i=z/\j=x
 . obtain⟨u,e2,s⟩:=d;have F:=ZS E p g r m;have q:=e j p k g i r ⟨nW e2,nW u,nW s⟩ (fun q=>s nofun) F;unfold AD at q ⊢;rcases q with q | q | q | q
   . exact .inr (.inr (.inr q))
   . exact .inr (.inr (.inl q))
   . exact .inr (.inl q)
   . exact .inl q
 . exact e i r k g j p d y m
theorem YW{c k:Nat}:∀(e:Ms aC)(_:∀m∈e,kD c m)(f:Nat->Nat->Nat)(p:Nat)(W:Ms (Nat×Nat)),WA c f->lD c f W []->lD c (GD f k e p) (W++e.map fun m=>(m.1,m.2.2)) []
 | [],_,f,p,W,o,h=>by simpa[GD]using h
 | m::e,hm,f,p,W,o,h=>by obtain⟨a,b,d,_⟩:=hm m ⋯;have:=YW (k:=k) e (fun x g=>hm x (by simp[g])) _ (p+1) _ (wH o a b d (if p=k then m.2.1 else t3 m.2.1)) (pY o a b d (if p=k then m.2.1 else t3 m.2.1) h);rw[su]at this;exact this
inductive Tr where
 | eu (st:List (Nat×Nat×Nat))
 | ring (st:List (Nat×Nat×Nat)) (cs:Nat->Option Nat) (P k:Nat)
 | one (st:List (Nat×Nat×Nat)) (bs:List Tr)
 | split (st:List (Nat×Nat×Nat)) (p:Nat×Nat) (bs:List Tr)
inductive t0 where
 | opn
 | laid (t:Nat->Int)
 | clash (tr:Tr)
inductive Wd where | opn | laid | clash
noncomputable def t0.wd:t0->Wd
 | .opn=>.opn
 | .laid _=>.laid
 | .clash _=>.clash
noncomputable def LK(tag:Ni (Nat×Nat))(st:Ms (Nat×Nat×Nat))(bs:Ms Tr):Tr:=match tag with
 | none=>.one st bs
 | some p=>.split st p bs
noncomputable abbrev IA:=Nat->Nat->Nat
def lE(L:IA->Ms (Ms aC)->Nat->t0->Nat->Prop)(tag:Ni (Nat×Nat))(st:Ms (Nat×Nat×Nat))(gs:Ms (Ms aC)):Ms IA->Nat->Ms Tr->t0->Nat->Prop
 | [],made,acc,a,bu=>a=.clash (LK tag st acc)/\bu=made
 | b::bs,made,acc,a,bu=>(∃e d,L b gs made (.clash e) d/\lE L tag st gs bs d (acc++[e]) a bu)\/(a.wd≠.clash/\L b gs made a bu)
def DC(c m:Nat)(ls:Ms Ln):Nat->IA->Ms (Ms aC)->Nat->t0->Nat->Prop
 | 0,_,_,_,_,_=>False
 | n+1,f,gs,made,a,bu=>
  (∃b g,ti c f b g/\wB c g=true/\a=.clash (.eu b)/\bu=made)\/
  ∃b g,bt c f b g/\
   ((∃h P k,bH (2*c) (dD (pC c g ls)) (nJ (pC c g ls)) h P k/\a=.clash (.ring b h P k)/\bu=made)\/
    (∃t,(∀e∈pC c g ls,AF t e)/\
     ((KC c g gs=none/\a=.laid t/\bu=made)\/
      (∃d bs i,KC c g gs=ε (d,bs,i)/\
       ((m<=made/\a=.opn/\bu=made)\/(made<m/\lE (DC c m ls n) d b gs.tail bs (made+1) [] a bu))))))
def aw(c:Nat)(gs:Ms (Ms aC)):Prop:=∀x∈gs,∀m∈x,kD c m
theorem aw.tail{c:Nat}{gs:Ms (Ms aC)}(h:aw c gs):aw c gs.tail:=fun x a=>h x (mem_of_mem_tail a)
theorem nI{c:Nat}{g:IA}(o:WA c g){gs:Ms (Ms aC)}(ok:aw c gs){tag:Ni (Nat×Nat)}{bs:Ms IA}{ps:Ms (Nat×Nat)}(h:KC c g gs=ε (tag,bs,ps)):∀b∈bs,WA c b:=by
 cases gs with
 | cons grp gs=>simp![KC,Ga,xu]at h;obtain⟨_,rfl,_⟩:=h;intro b a;obtain⟨k,_,rfl⟩:=Bu.mp a;exact PX grp (ok grp ⋯) g 0 o
 | nil=>
  simp![KC]at h;cases lp:wD c g with
  | none=>rw[lp]at h;cases h
  | some p=>rw[lp]at h;simp![Ga,xu]at h;obtain⟨_,rfl,_⟩:=h;intro b a;obtain⟨w,_,rfl⟩:=Bu.mp a;have hp:p∈cB c:=Ao lp;obtain⟨q1,q2⟩:=bn.mp hp;exact wH o nofun nofun nofun _
theorem QS{c:Nat}{g:IA}{ls:Ms Ln}{cs:Nat->Ni Nat}{P k:Nat}(R:bH (2*c) (dD (pC c g ls)) (nJ (pC c g ls)) cs P k){t:Nat->Int}(a:∀e∈pC c g ls,AF t e):False:=
 n0 (b:=t) (fun e d=>by have:=a e d;unfold AF at this;omega) R
theorem FJ{c m:Nat}{ls:Ms Ln}:∀(n:Nat)(f:IA)(gs:Ms (Ms aC))(made:Nat)(a y:t0)(s s':Nat),WA c f->aw c gs->DC c m ls n f gs made a s->DC c m ls n f gs made y s'->a.wd=y.wd/\s=s'
 | 0,_,_,_,_,_,_,_,_,_,h,_=>h.elim
 | n+1,f,gs,made,a,y,s,s',of,og,h,e=>by
  rcases h with⟨Z,g,J,h2,rfl,rfl⟩ | ⟨Z,g,J,h⟩
  . rcases e with⟨p,T,D,k2,rfl,rfl⟩ | ⟨p,T,D,e⟩
    . exact⟨rfl,rfl⟩
    . have:=D.ck of J;rw[h2]at this;cases this
  . rcases e with⟨p,T,D,k2,rfl,rfl⟩ | ⟨p,T,D,e⟩
    . have:=J.ck of D;rw[k2]at this;cases this
    . have eg:=J.unique of D;subst eg;have O:=(J.ok of).1;rcases h with⟨cs,P,k,R,rfl,rfl⟩ | ⟨t,ht,h⟩
      . rcases e with⟨U,P',k',R',rfl,rfl⟩ | ⟨t',I,e⟩
        . exact⟨rfl,rfl⟩
        . exact(QS R I).elim
      . rcases e with⟨U,P',k',R',rfl,rfl⟩ | ⟨t',I,e⟩
        . exact(QS R' ht).elim
        . rcases h with⟨H,rfl,rfl⟩ | ⟨F,bs,ps,H,h⟩
          . rcases e with⟨d,rfl,rfl⟩ | ⟨E,W,M,d,e⟩
            . exact⟨rfl,rfl⟩
            . rw[H]at d;cases d
          . rcases e with⟨d,rfl,rfl⟩ | ⟨E,W,M,d,e⟩
            . rw[H]at d;cases d
            . rw[H]at d;cases d;rcases h with⟨lm,rfl,rfl⟩ | ⟨lm,h⟩
              . rcases e with⟨B,rfl,rfl⟩ | ⟨B,e⟩
                . exact⟨rfl,rfl⟩
                . omega
              . rcases e with⟨B,rfl,rfl⟩ | ⟨B,e⟩
                . omega
                . have Y:=nI O og H;have go:∀(bs:Ms IA),(∀b∈bs,WA c b)->∀(u:Nat)(C o:Ms Tr)(a y:t0)(s s':Nat),lE (DC c m ls n) F Z gs.tail bs u C a s->lE (DC c m ls n) F p gs.tail bs u o y s'->a.wd=y.wd/\s=s':=by
                   intro bs
                   induction bs with
                   | nil=>rintro _ u C o a y s s' ⟨rfl,rfl⟩ ⟨rfl,rfl⟩;exact⟨rfl,rfl⟩
                   | cons b bs ih=>
                    intro hb u C o a y s s' q q';have r:=hb b ⋯;have S:∀x∈bs,WA c x:=fun x hx=>hb x (by simp[hx])
                    rcases q with⟨tr,m1,q1,q2⟩ | ⟨q1,q2⟩
                    . rcases q' with⟨L,Q,j,i⟩ | ⟨j,i⟩
                      . obtain⟨_,rfl⟩:=FJ n b _ u _ _ _ _ r og.tail q1 j;exact ih S _ _ _ _ _ _ _ q2 i
                      . obtain⟨z,_⟩:=FJ n b _ u _ _ _ _ r og.tail q1 i;exact Ei z.symm j
                    . rcases q' with⟨L,Q,j,i⟩ | ⟨j,i⟩
                      . obtain⟨z,_⟩:=FJ n b _ u _ _ _ _ r og.tail q2 j;exact Ei z q1
                      . exact FJ n b _ u _ _ _ _ r og.tail q2 i
                  exact go bs Y _ _ _ _ _ _ _ h e
theorem cM{c m:Nat}{ls:Ms Ln}:∀(n:Nat)(f:IA)(gs:Ms (Ms aC))(made:Nat)(a:t0)(s:Nat),DC c m ls n f gs made a s->made<=s/\(made<=m->s<=m)/\(made<=m->a.wd=.opn->s=m)
 | 0,_,_,_,_,_,h=>h.elim
 | n+1,f,gs,made,a,s,h=>by
  rcases h with⟨o,g,u,I,rfl,rfl⟩ | ⟨o,g,u,h⟩
  . exact⟨Uo _,id,fun v z=>by cases z⟩
  . rcases h with⟨J,P,k,R,rfl,rfl⟩ | ⟨t,H,h⟩
    . exact⟨Uo _,id,fun v z=>by cases z⟩
    . rcases h with⟨p,rfl,rfl⟩ | ⟨j,bs,E,p,h⟩
      . exact⟨Uo _,id,fun v z=>by cases z⟩
      . rcases h with⟨r,rfl,rfl⟩ | ⟨r,h⟩
        . exact⟨Uo _,id,fun v v=>by omega⟩
        . have go:∀(bs:Ms IA)(d:Nat)(e:Ms Tr)(a:t0)(s:Nat),lE (DC c m ls n) j o gs.tail bs d e a s->d<=s/\(d<=m->s<=m)/\(d<=m->a.wd=.opn->s=m):=by
           intro bs
           induction bs with
           | nil=>rintro d e a s ⟨rfl,rfl⟩;refine⟨Uo _,id,fun v z=>by cases z⟩
           | cons b bs ih=>
            intro d e a s q;rcases q with⟨D,F,q1,q2⟩ | ⟨q1,q2⟩
            . obtain⟨C,i,_⟩:=cM n b _ d _ _ q1;obtain⟨L,y,x⟩:=ih _ _ _ _ q2;exact⟨by omega,fun z=>y (i z),fun z=>x (i z)⟩
            . exact cM n b _ d _ _ q2
          obtain⟨C,i,B⟩:=go bs _ _ _ _ h;exact⟨by omega,fun v=>i nofun,fun v=>B nofun⟩
mutual
noncomputable def Zo(lo:Nat)(h:HI):Tr->Dt->Prop
 | .eu st,d=>∃s,d=.tup [.str "threes", .ref s]/\lo<=s/\h[s]?=ε (.lst (st.map rD))
 | .ring st cs P k,d=>∃s r,d=.tup [.str "ring", .ref s,.ref r]/\lo<=s/\lo<=r/\h[s]?=ε (.lst (st.map rD))/\h[r]?=ε (.lst (WB cs P k))
 | .one st bs,d=>∃s r ds,d=.tup [.str "one", .ref s,.ref r]/\lo<=s/\lo<=r/\h[s]?=ε (.lst (st.map rD))/\h[r]?=ε (.lst ds)/\Ye lo h bs ds
 | .split st p bs,d=>∃s r ds,d=.tup [.str "split", .ref s,.int (p.1:Nat),.int (p.2:Nat),.ref r]/\lo<=s/\lo<=r/\h[s]?=ε (.lst (st.map rD))/\h[r]?=ε (.lst ds)/\Ye lo h bs ds
noncomputable def Ye(lo:Nat)(h:HI):Ms Tr->Ms Dt->Prop
 | [],ds=>ds=[]
 | t::ts,ds=>∃d r,ds=d::r/\Zo lo h t d/\Ye lo h ts r
end
def IQ(lo:Nat)(h h':HI):Prop:=∀(n:Nat)(a:Ms Dt),lo<=n->h[n]?=ε (.lst a)->h'[n]?=ε (.lst a)
theorem tj.f{h h':HI}(u:tj h h')(lo:Nat):IQ lo h h':=fun n a q e=>u.2 n a e
mutual
theorem Zo.up{lo a:Nat}(i:a<=lo){h h':HI}(u:IQ lo h h'):∀(t:Tr){d:Dt},Zo lo h t d->Zo a h' t d
 | .eu st,d,q=>by simp![Zo]at q ⊢;obtain⟨s,e,l,q⟩:=q;exact⟨s,e,by omega,u _ _ l q⟩
 | .ring st cs P k,d,q=>by simp![Zo]at q ⊢;obtain⟨s,r,e,g,b,q1,q2⟩:=q;exact⟨s,r,e,by omega,by omega,u _ _ g q1,u _ _ b q2⟩
 | .one st bs,d,q=>by simp![Zo]at q ⊢;obtain⟨s,r,ds,e,g,b,q1,q2,q3⟩:=q;exact⟨s,r,ds,e,by omega,by omega,u _ _ g q1,u _ _ b q2,Ye.up i u bs q3⟩
 | .split st p bs,d,q=>by simp![Zo]at q ⊢;obtain⟨s,r,ds,e,g,b,q1,q2,q3⟩:=q;exact⟨s,r,ds,e,by omega,by omega,u _ _ g q1,u _ _ b q2,Ye.up i u bs q3⟩
theorem Ye.up{lo a:Nat}(g:a<=lo){h h':HI}(u:IQ lo h h'):∀(b:Ms Tr){ds:Ms Dt},Ye lo h b ds->Ye a h' b ds
 | [],ds,q=>by simp![Ye]at q ⊢;exact q
 | t::b,ds,q=>by simp![Ye]at q ⊢;obtain⟨d,r,e,q1,q2⟩:=q;exact⟨d,r,e,Zo.up g u t q1,Ye.up g u b q2⟩
end
theorem Ye.snoc{lo:Nat}{h:HI}{t:Tr}{d:Dt}(a:Zo lo h t d):∀(b:Ms Tr){ds:Ms Dt},Ye lo h b ds->Ye lo h (b++[t]) (ds++[d])
 | [],ds,q=>by simp![Ye]at q;subst q;simp![Vu,Ye];exact⟨d,[],rfl,a,rfl⟩
 | t'::b,ds,q=>by simp![Ye]at q;obtain⟨e,r,rfl,q1,q2⟩:=q;simp![Wu,Ye];exact⟨e,r++[d],rfl,q1,Ye.snoc a b q2⟩
noncomputable def BD(c:Nat)(u:Nat->Int):Ms Dt:=(List.range c).map fun k=>.tup [.int (u (2*k)),.int (u (2*k+1))]
def cm(lo:Nat)(h:HI)(c:Nat):t0->Dt->Prop
 | .opn,d=>d=.tup [.str "open", .non]
 | .laid t,d=>d=.tup [.str "laid", .lst (BD c (lB (2*c) t))]
 | .clash tr,d=>∃x,d=.tup [.str "clash",x]/\Zo lo h tr x
theorem cm.up{lo b:Nat}(i:b<=lo){h h':HI}(u:IQ lo h h'){c:Nat}{a:t0}{d:Dt}(q:cm lo h c a d):cm b h' c a d:=by
 cases a with
 | opn=>exact q
 | laid t=>exact q
 | clash g=>obtain⟨x,e,q⟩:=q;exact⟨x,e,Zo.up i u g q⟩
theorem Vv{c:Nat}(q:c<=100)(u:Nat->Int)(h:HI):bO [.lst (mC (2*c) u)] h=ε (.lst (BD c u),h):=by
 have m:a7 2 (.int 0) (.int ((2*c:Nat):Int),h)=ε (.vals ((List.range c).map fun(k:Nat)=>Dt.int (0+(k:Int)*(2:Nat))),h):=by
  have o:((((2*c:Nat):Int)-0+((2:Nat):Int)-1)/((2:Nat):Int)).toNat=c:=by omega
  have p:(0:Int)<=0/\(0:Int)<2^61/\0<=((2*c:Nat):Int)/\((2*c:Nat):Int)<2^61/\0<2/\2<1000:=by omega
  simp![a7,eG p,o]
 have n:=XF (te:=uN) (tc:=nB) (i:=0) (fun(k:Nat)=>Dt.int (0+(k:Int)*(2:Nat))) (fun k=>Dt.tup [.int (u (2*k)),.int (u (2*k+1))]) h (List.range c) [none,ε (.lst (mC (2*c) u))] (by
  intro k a;have a:=Ca.mp a;refine⟨by simp,?_⟩;have j:(0:Int)+(k:Int)*((2:Nat):Int)=((2*k:Nat):Int):=by omega
  have g2:((2*k:Nat):Int)+1=((2*k+1:Nat):Int):=by omega
  have g:=qP u (show 2*k<2*c by omega);have e:=qP u (show 2*k+1<2*c by omega);rw[j];simp![uN,xD,DA,BA,wA,sA,kA,Ti,Ra,Ri,nA,dA,yC,g2,nQ,SM.YC,g,e,Vi];rfl)
 have b:=UD (l:=[none,ε (.lst (mC (2*c) u))]) (h:=h) (rA 0) nB uN (xs:=(List.range c).map fun(k:Nat)=>Dt.int (0+(k:Int)*(2:Nat))) (by simp[sizeLine];omega);rw[n]at b;have d:=sS (2*c) u;dsimp![bO,RV,Ss,Vs,Us,jB,nE,Zj,sA,fC,OP,d,m,fD,FG,eD,Ku,b,uB];rfl
def gg(h:HI)(d:Dt)(P:Ms (Nat×Nat)):Prop:=d=.lst (P.map AA)\/∃n,d=.ref n/\h[n]?=ε (.lst (P.map AA))
theorem gg.seq{h:HI}{d:Dt}{P:Ms (Nat×Nat)}(q:gg h d P)(e:HI):FD (h++e) d=ε (P.map AA):=by
 rcases q with rfl | ⟨n,rfl,q⟩
 . rfl
 . have:=(Up.app h e).get q;simp![FD,KA,this]
def ai (h:HI) (o:Nat) (ls:Ms Ln) (m made:Nat):Prop:=h[o]?=ε (.ins "Search" [("lengths", .lst (ls.map rB)),("most", .int (m:Nat)),("made", .int (made:Nat))])
theorem ai.up{h h':HI}(u:Up h h'){o m made:Nat}{ls:Ms Ln}(s:ai h o ls m made):ai h' o ls m made:=u.get s
theorem IZ{m:Nat}(a:m<8192)(h:m≠0):vA m ≠ []:=by
 intro e;apply h;refine nG a (by decide) fun k b=>?_
 cases z:m.testBit k with
 | false=>simp
 | true=>have:k∈vA m:=am.mpr ⟨b,z⟩;rw[e]at this;cases this
theorem oj{c:Nat}{g:IA}(o:WA c g)(ne:wB c g=false):∀i j,i<c->j<c->vA (g i j) ≠ []:=fun i j b a=>IZ (o.lt i b j a) (ck ne b a)
theorem NS{c:Nat}{p:Nat×Nat}(h:p∈cB c):p.1<p.2/\p.2<c:=by unfold cB OC at h;obtain⟨i,b,h⟩:=Ls.mp h;obtain⟨k,a,rfl⟩:=Bu.mp h;have:=Ca.mp b;have:=Ca.mp a;exact⟨by show i<i+1+k;omega,by show i+1+k<c;omega⟩
theorem qS{c i j:Nat}(h1:i<j)(h2:j<c):(i,j)∈cB c:=by unfold cB OC;refine Ls.mpr ⟨i,Ca.mpr nofun,Bu.mpr ⟨j-i-1,Ca.mpr nofun,?_⟩⟩;rw[show i+1+(j-i-1)=j by omega]
theorem W1{p q:Nat}{a b d:Int}{e:Bd}(h:e∈bG p q a b d):(e.1=p/\e.2.1=q)\/(e.1=q/\e.2.1=p):=by
 unfold bG at h;rcases Bs.mp h with h | h
 . split at h
   . rw[Ba.mp h];exact .inl ⟨rfl,rfl⟩
   . exact nomatch h
 . split at h
   . rw[Ba.mp h];exact .inr ⟨rfl,rfl⟩
   . exact nomatch h
theorem yZ{i j side m:Nat}{e:Bd}(h:e∈yE i j side m):∃z:Nat,z<2/\((e.1=2*i+side/\e.2.1=2*j+z)\/(e.1=2*j+z/\e.2.1=2*i+side)):=by
 unfold yE at h;rcases Bs.mp h with h | h
 . exact⟨0,by omega,W1 h⟩
 . exact⟨1,by omega,W1 h⟩
theorem fT{c:Nat}(N:Nat->Nat->Nat){ls:Ms Ln}(h:∀x∈ls,x.1<c):∀e∈pC c N ls,e.1<2*c/\e.2.1<2*c/\e.1≠e.2.1:=by
 intro e he;unfold pC at he;rcases Bs.mp he with he | he
 . rcases Bs.mp he with he | he
   . obtain⟨i,j,rfl⟩:=Bu.mp he;have:=Ca.mp j;refine⟨?_,?_,?_⟩<;>simp only<;>omega
   . obtain⟨x,g,he⟩:=Ls.mp he;have:=h x g;unfold RB at he;simp![Bo,not_mem_nil,or_false]at he;rcases he with rfl | rfl
     . refine⟨?_,?_,?_⟩<;>simp only<;>omega
     . refine⟨?_,?_,?_⟩<;>simp only<;>omega
 . obtain⟨p,hp,he⟩:=Ls.mp he;obtain⟨m,k⟩:=NS hp;unfold XC at he;rcases Bs.mp he with he | he
   . obtain⟨z,d,⟨a,b⟩ | ⟨a,b⟩⟩:=yZ he
     . rw[a,b];omega
     . rw[a,b];omega
   . obtain⟨z,d,⟨a,b⟩ | ⟨a,b⟩⟩:=yZ he
     . rw[a,b];omega
     . rw[a,b];omega
theorem GS{a b:Type}(f:a->Ms b)(n:Nat):∀(xs:Ms a)(_:∀x∈xs,(f x).length<=n),(xs.flatMap f).length<=n*xs.length
 | [],_=>by simp
 | x::xs,h=>by have:=GS f n xs (fun y d=>h y (by simp[d]));have:=h x ⋯;rw[flatMap_cons,ji,Ru,Nat.mul_succ];omega
theorem aY{c:Nat}(a:c<=8)(N:Nat->Nat->Nat){ls:Ms Ln}(b:ls.length<=100):(pC c N ls).length<=1000:=by
 unfold pC;rw[ji,ji];have j:(PB c).length=c:=by simp[PB]
 have i:=GS (RB (2*c+1)) 2 ls (fun x q=>Uo _);have h:=GS (fun p:Nat×Nat=>XC p.1 (N p.1 p.2) p.2) 8 (cB c) (fun x q=>by
  unfold XC;rw[ji];have:=GL x.1 x.2 0 (N x.1 x.2);have:=GL x.1 x.2 1 (N x.1 x.2);omega)
 have g:=FL c c;have d:c*c<=8*8:=Iu a a;have e:(cB c).length<=64:=by unfold cB;omega
 omega
theorem P3{h h':HI}(f:∀m,m<h.length->h'[m]?=h[m]?):Up h h':=by refine⟨?_,f⟩;apply Classical.byContradiction;intro n;have e:=f h'.length nofun;rw[ju (Uo _),jj nofun]at e;cases e
theorem om{h:HI}{ds:Ms Dt}{gs:Ms (Ms aC)}(q:ah h ds gs):ah h (ds.drop 1) gs.tail:=by
 cases q with
 | nil=>exact .nil
 | cons a r=>exact r
theorem Bq {x y z:Dt}:iD "lengths" [("lengths",x),("most",y),("made",z)]=ε x:=by rfl
theorem S7 {x y z:Dt}:iD "most" [("lengths",x),("most",y),("made",z)]=ε y:=by
 have:¬((("most" :Str))=(("lengths" :Str))):=by decide +kernel
 simp![iD,eH this,eN]
theorem o2 {x y z:Dt}:iD "made" [("lengths",x),("most",y),("made",z)]=ε z:=by
 have b:¬((("made" :Str))=(("lengths" :Str))):=by decide +kernel
 have a:¬((("made" :Str))=(("most" :Str))):=by decide +kernel
 simp![iD,eH b,eH a,eN]
theorem PZ {x y z:Dt}:iD "look" [("lengths",x),("most",y),("made",z)]=none:=by
 have d:¬((("look" :Str))=(("lengths" :Str))):=by decide +kernel
 have b:¬((("look" :Str))=(("most" :Str))):=by decide +kernel
 have a:¬((("look" :Str))=(("made" :Str))):=by decide +kernel
 simp![iD,eH d,eH b,eH a]
theorem T7 {x y z:Dt}:iD "look_at_branches" [("lengths",x),("most",y),("made",z)]=none:=by
 have d:¬((("look_at_branches" :Str))=(("lengths" :Str))):=by decide +kernel
 have b:¬((("look_at_branches" :Str))=(("most" :Str))):=by decide +kernel
 have a:¬((("look_at_branches" :Str))=(("made" :Str))):=by decide +kernel
 simp![iD,eH d,eH b,eH a]
theorem N9 {x y z v:Dt}:FE "made" v [("lengths",x),("most",y),("made",z)]=([("lengths",x),("most",y),("made",v)]:Ms (Str×Dt)):=by
 have b:¬((("lengths" :Str))=(("made" :Str))):=by decide +kernel
 have a:¬((("most" :Str))=(("made" :Str))):=by decide +kernel
 simp![FE,eH b,eH a,eN]
theorem o_c:decide ((("open" :Str))=(("clash" :Str)))=false:=by decide +kernel
theorem L6:decide ((("laid" :Str))=(("clash" :Str)))=false:=by decide +kernel
theorem t_r:decide ((("times" :Str))=(("ring" :Str)))=false:=by decide +kernel
inductive XY(c m:Nat)(ls:List Ln)(n:Nat)(f:IA)(gs:List (List aC))(made o:Nat)(h:HI)(r:Option (Dt×HI)):Prop
 | mk (d:Dt) (h':HI) (a:t0) (s:Nat) (p0:r=ε (d,h')) (p1:DC c m ls n f gs made a s) (p2:cm h.length h' c a d) (p3:tj h h') (p4:ai h' o ls m s):XY c m ls n f gs made o h r
structure Sx(c m:Nat)(ls:List Ln)(n:Nat)(f:IA)(gs:List (List aC))(gds:List Dt)(made b o:Nat)(pd:Dt)(P:List (Nat×Nat))(h:HI):Prop where
 ex:∃a s,DC c m ls n f gs made a s
 of:WA c f
 og:aw c gs
 sg:∀x∈gs,x.length<=1000
 net:Uu h b c f
 grp:ah h gds gs
 prs:gg h pd P
 pc:∀p∈P,p.1<c/\p.2<c/\p.1≠p.2
 wt:lD c f P []
 lp:P.length<=1000
 ob:ai h o ls m made
def vT(c m:Nat)(ls:Ms Ln)(n:Nat):Prop:=∀(f:IA)(e:Ms (Ms aC))(a:Ms Dt)(made b o:Nat)(d:Dt)(P:Ms (Nat×Nat))(h:HI),Sx c m ls n f e a made b o d P h->XY c m ls n f e made o h (dF n [.ref o,.ref (b+c),d,.lst a] h)
theorem dz(tag:Ni (Nat×Nat))(a:Ms Dt)(ps:Ms (Nat×Nat))(k:HI):pA (OD tag a ps) (.int 2) k=ε (.lst a,k):=by cases tag<;>rfl
theorem iz(tag:Ni (Nat×Nat))(a:Ms Dt)(ps:Ms (Nat×Nat))(k:HI):pA (OD tag a ps) (.int 3) k=ε (.lst (ps.map AA),k):=by cases tag<;>rfl
inductive BrN(c m n:Nat)(ls:List Ln)(hB:HI)(o:Nat)(tag:Option (Nat×Nat))(st:List (Nat×Nat×Nat))(gs:List (List aC))(x1 x2 x3:Option Dt)(bs:List IA)(made:Nat)(acc:List Tr)(r:Rs):Prop
 | mk (y5' y6':Option Dt) (h':HI) (acc':List Tr) (hG:List Dt) (s':Nat) (p0:r=.nx [ε (.ref o),x1,x2,x3,ε (.ref hB.length),y5',y6'] h') (p1:tj hB h') (p2:h'[hB.length]?=ε (.lst hG)) (p3:Ye (hB.length+1) h' acc' hG) (p4:ai h' o ls m s') (p5:lE (DC c m ls n) tag st gs bs made acc (.clash (LK tag st acc')) s'):BrN c m n ls hB o tag st gs x1 x2 x3 bs made acc r
inductive BrR(c m n:Nat)(ls:List Ln)(hB:HI)(o:Nat)(tag:Option (Nat×Nat))(st:List (Nat×Nat×Nat))(gs:List (List aC))(bs:List IA)(made:Nat)(acc:List Tr)(r:Rs):Prop
 | mk (d:Dt) (h':HI) (a:t0) (s':Nat) (p0:r=.rt d h') (p1:tj hB h') (p2:cm (hB.length+1) h' c a d) (p3:ai h' o ls m s') (p4:a.wd≠.clash) (p5:lE (DC c m ls n) tag st gs bs made acc a s'):BrR c m n ls hB o tag st gs bs made acc r
theorem Xc{c m n:Nat}{ls:Ms Ln}(IH:vT c m ls n){tag:Ni (Nat×Nat)}{st st0:Ms (Nat×Nat×Nat)}{gs:Ms (Ms aC)}{gds:Ms Dt}{ps:Ms (Nat×Nat)}{cz:Ms Dt}{hB:HI}{o sr:Nat}(og:aw c gs)(sg:∀x∈gs,x.length<=1000)(G0:ah hB gds gs)(pc:∀p∈ps,p.1<c/\p.2<c/\p.1≠p.2)(lp:ps.length<=1000) :
 ∀(bs:Ms IA)(E:Ms Dt)(made:Nat)(j B:Ms Tr)(i:Ms Dt)(h:HI)(y5 M:Ni Dt)(a0:t0)(s0:Nat),lE (DC c m ls n) tag st0 gs bs made B a0 s0->(∀b∈bs,WA c b)->(∀b∈bs,lD c b ps [])->ad (be hB c) bs E->tj hB h->h[hB.length]?=ε (.lst i)->Ye (hB.length+1) h j i->i.length+bs.length<=5000->ai h o ls m made->
  ∃r,zB (rA 5) (UK (dF n)) E [ε (.ref o),ε (OD tag cz ps),ε (.ref sr),ε (.lst gds),ε (.ref hB.length),y5,M] h=ε r/\
   (BrN c m n ls hB o tag st gs (ε (OD tag cz ps)) (ε (.ref sr)) (ε (.lst gds)) bs made j r\/
    BrR c m n ls hB o tag st gs bs made j r):=by
 intro bs
 induction bs with
 | nil=>intro E made j B i h y5 M a0 s0 q _ _ A U hb T _ O;cases A;exact⟨_,rfl,.inl ⟨y5,M,h,j,i,made,rfl,U,hb,T,O,rfl,rfl⟩⟩
 | cons b bs ih=>
  intro E made j B i h y5 M a0 s0 q D S A U hb T sz O;cases A with
  | @cons _ nd _ a2 a6 A=>
  have b2:hB.length+1<=h.length:=(Wi hb).1;obtain⟨Y,rfl,N1⟩:=a6;have b4:∃a s,DC c m ls n b gs made a s:=by
   rcases q with⟨Q,m1,q1,_⟩ | ⟨_,q2⟩
   . exact⟨_,_,q1⟩
   . exact⟨_,_,q2⟩
  obtain⟨d,C,a,s,e,L,AN,U1,R⟩:=IH b gs gds made Y o (.lst (ps.map AA)) ps h ⟨b4,D b ⋯,og,sg,U.net N1,G0.up U,.inl rfl,pc,S b ⋯,lp,O⟩;have mt:=pS (x := "Search") (m := "look") (F:=dF n) (ga:=bA (eV 5) (bA (e2 pA (eV 1) (ua 3)) (bA (eV 3) fA))) (l:=[ε (.ref o),ε (OD tag cz ps),ε (.ref sr),ε (.lst gds),ε (.ref hB.length),ε (.ref (Y+c)),M]) O PZ;have ev:KI "Search" "look" (dF n) (eV 0) (bA (eV 5) (bA (e2 pA (eV 1) (ua 3)) (bA (eV 3) fA))) [ε (.ref o),ε (OD tag cz ps),ε (.ref sr),ε (.lst gds),ε (.ref hB.length),ε (.ref (Y+c)),M] h=ε (d,C):=by simp![AT,kA,Ra,nA,dA,mt,DA,BA,wA,sA,Ri,iz,e]
  cases a with
  | opn=>have dd:d=.tup [.str "open", .non]:=AN;refine⟨.rt d C,?_,.inr ⟨d,C,.opn,s,rfl,U.trans U1,AN,R,(fun z=>by cases z),.inr ⟨(fun z=>by cases z),L⟩⟩⟩;subst dd;simp![zB,VD,Wa,Va,Ti,UK,EA,bB,ev,dA,NA,XA,JA,wA,kA,sA,Ra,Ri,nA,LB,oC,Vi,oQ,o_c,vm,OA,eN,jB,wF,aQ]
  | laid t=>have dd:d=.tup [.str "laid", .lst (BD c (lB (2*c) t))]:=AN;refine⟨.rt d C,?_,.inr ⟨d,C,.laid t,s,rfl,U.trans U1,AN,R,(fun z=>by cases z),.inr ⟨(fun z=>by cases z),L⟩⟩⟩;subst dd;simp![zB,VD,Wa,Va,Ti,UK,EA,bB,ev,dA,NA,XA,JA,wA,kA,sA,Ra,Ri,nA,LB,oC,Vi,oQ,L6,vm,OA,eN,jB,wF,aQ]
  | clash Q=>
   obtain⟨x,rfl,TA⟩:=AN;have I:=U1.2 _ _ hb;obtain⟨h2,H⟩:∃h2:HI,h2=C.set hB.length (.lst (i++[x])):=⟨_,rfl⟩
   have l1:hB.length<C.length:=(Wi I).1;have g2:∀k,k≠hB.length->h2[k]?=C[k]?:=fun k u=>by rw[H,m8 (nW u)]
   have U2:tj hB h2:=⟨by rw[H,Ka];exact um U.1 U1.1,fun k P u=>by
    have kl:=(Wi u).1;rw[g2 k nofun];exact U1.2 _ _ (U.2 _ _ u),fun k P u=>by
    have kl:=(Wi u).1;rw[g2 k nofun];exact U1.3 _ _ (U.3 _ _ u)⟩
   have F2:IQ (hB.length+1) C h2:=fun k P u W=>by rw[g2 k nofun];exact W
   have b3:h2[hB.length]?=ε (.lst (i++[x])):=by rw[H,uo l1]
   have O2:ai h2 o ls m s:=by
    have:o≠hB.length:=by intro z;unfold ai at R;rw[z,I]at R;cases R
    unfold ai;rw[g2 o this];exact R
   have T2:Ye (hB.length+1) h2 (j++[Q]) (i++[x]):=Ye.snoc (Zo.up b2 (fun k P u W=>F2 k P nofun W) Q TA) j (Ye.up (Uo _) (fun k P u W=>F2 k P u (U1.2 _ _ W)) j T);have ap:=tF (l:=[ε (.ref o),ε (OD tag cz ps),ε (.ref sr),ε (.lst gds),ε (.ref hB.length),ε (.ref (Y+c)),ε (.tup [.str "clash",x])]) (h:=C) (g:=e2 pA (eV 6) (ua 1)) (d:=x) I ⋯ I (by simp at sz;simp[sizeLine];omega);rw[<- H]at ap;obtain⟨a1,s1,J,q3⟩:∃a1 s1 J,lE (DC c m ls n) tag st0 gs bs s J a1 s1:=by
    rcases q with⟨b5,m1,q1,q2⟩ | ⟨q1,q2⟩
    . obtain⟨_,z⟩:=FJ n b gs made _ _ _ _ (D b ⋯) og q1 L;subst z;exact⟨_,_,_,q2⟩
    . obtain⟨z,_⟩:=FJ n b gs made _ _ _ _ (D b ⋯) og q2 L;exact Ei z q1
   obtain⟨r,e3,er⟩:=ih a2 s (j++[Q]) J (i++[x]) h2 (ε (.ref (Y+c))) (ε (.tup [.str "clash",x])) a1 s1 q3 (fun y hy=>D y (by simp[hy])) (fun y hy=>S y (by simp[hy])) A U2 b3 T2 (by simp at sz ⊢;omega) O2;refine⟨r,?_,?_⟩
   . simp![zB,VD,Wa,Va,Ti,UK,EA,bB,ev,dA,NA,XA,JA,wA,kA,sA,Ra,Ri,nA,LB,oC,Vi,oQ,decide_true,vo,OA,Wo,eO,BB,cE,eF,ap,mK];exact e3
   . rcases er with⟨a5,a4,h',Z,a3,s',z1,z2,z3,z4,z5,z6⟩ | ⟨d,h',a,s',z1,z2,z3,z4,z5,z6⟩
     . exact .inl ⟨a5,a4,h',Z,a3,s',z1,z2,z3,z4,z5,.inl ⟨Q,s,L,z6⟩⟩
     . exact .inr ⟨d,h',a,s',z1,z2,z3,z4,z5,.inl ⟨Q,s,L,z6⟩⟩
theorem sz1:1<=sizeLine:=by decide
theorem nN:2<=sizeLine:=by decide
theorem D5:3<=sizeLine:=by decide
theorem T6:yF Dt.non=true:=rfl
theorem yq{c m n:Nat}{ls:Ms Ln}(IH:vT c m ls n){tag:Ni (Nat×Nat)}{st st0:Ms (Nat×Nat×Nat)}{gs:Ms (Ms aC)}{gds:Ms Dt}{ps:Ms (Nat×Nat)}{bs:Ms IA}{g:Ms Dt}{hB:HI}{o sr lo made:Nat}{R:t0}{s0:Nat}(og:aw c gs)(sg:∀x∈gs,x.length<=1000)(G0:ah hB gds gs)(pc:∀p∈ps,p.1<c/\p.2<c/\p.1≠p.2)(lp:ps.length<=1000)
 (q:lE (DC c m ls n) tag st0 gs bs made [] R s0) (H:∀b∈bs,WA c b) (E:∀b∈bs,lD c b ps []) (A:ad (be hB c) bs g) (lb:bs.length<=4000) (O:ai hB o ls m made) (hs:hB[sr]?=ε (.lst (st.map rD))) (P:lo<=sr) (M:lo<=hB.length) :
 ∃d h a s,kH (dF n) [.ref o,OD tag g ps,.ref sr,.lst gds] hB=ε (d,h)/\lE (DC c m ls n) tag st gs bs made [] a s/\cm lo h c a d/\tj hB h/\ai h o ls m s:=by
 have U0:tj hB (hB++[.lst []]):=tj.app _ _;obtain⟨r,e,er⟩:=Xc IH (tag:=tag) (st:=st) (st0:=st0) (cz:=g) (sr:=sr) og sg G0 pc lp bs g made [] [] [] (hB++[.lst []]) none none R s0 q H E A U0 ⋯ (by simp![Ye]) (by simp;omega) (ai.up (Up.app hB [.lst []]) O);have F:=fun k=>dz tag g ps k
 rcases er with⟨y5,y6,h,i,gh,s,rfl,U,Q,T,u,B⟩ | ⟨d,h,a,s,rfl,U,AN,u,na,B⟩
 . have j:=U.2 _ _ hs;have S:Ye lo h i gh:=Ye.up nofun (fun k W hk I=>I) i T;cases tag with
   | none=>
    refine⟨.tup [.str "clash", .tup [.str "one", .ref sr,.ref hB.length]],h,_,s,?_,B,⟨_,rfl,?_⟩,U,u⟩
    . have L:∀k:HI,MI (.tup [.str "one", .ref sr]) (.tup []) k=ε (.tup [.str "one", .ref sr],k):=fun z=>rfl
      have J:∀k:HI,MI (.tup [.str "one", .ref sr]) (.tup [.ref hB.length]) k=ε (.tup [.str "one", .ref sr,.ref hB.length],k):=fun z=>rfl
      have Y:∀x y:Dt,[x,y].length<=sizeLine:=fun z z=>by simp[sizeLine]
      have Z:∀x:Dt,[x].length<=sizeLine:=fun z=>by simp[sizeLine]
      have D:∀k:HI,pA (OD none g ps) (.int 0) k=ε (.str "one",k):=fun z=>rfl
      have C:∀k:HI,pA (OD none g ps) (.int 1) k=ε (.tup [],k):=fun z=>rfl
      dsimp![kH,WK,Ss,Vs,Wu,Vu,EA,bB,OG,BA,nu,Va,Ti,NA,XB,rC,wA,sA,Ri,F,WF,PC,e,jB,xD,DA,D,C,sz1,nN,L,J,uB]
    . show Zo lo h (.one st i) _;simp![Zo];exact⟨sr,hB.length,gh,rfl,P,M,j,Q,S⟩
   | some p=>
    refine⟨.tup [.str "clash", .tup [.str "split", .ref sr,.int (p.1:Nat),.int (p.2:Nat),.ref hB.length]],h,_,s,?_,B,⟨_,rfl,?_⟩,U,u⟩
    . have L:∀k:HI,MI (.tup [.str "split", .ref sr]) (AA p) k=ε (.tup [.str "split", .ref sr,.int (p.1:Nat),.int (p.2:Nat)],k):=fun z=>rfl
      have J:∀k:HI,MI (.tup [.str "split", .ref sr,.int (p.1:Nat),.int (p.2:Nat)]) (.tup [.ref hB.length]) k=ε (.tup [.str "split", .ref sr,.int (p.1:Nat),.int (p.2:Nat),.ref hB.length],k):=fun z=>rfl
      have Y:∀x y:Dt,[x,y].length<=sizeLine:=fun z z=>by simp[sizeLine]
      have Z:∀x:Dt,[x].length<=sizeLine:=fun z=>by simp[sizeLine]
      have D:∀k:HI,pA (OD (ε p) g ps) (.int 0) k=ε (.str "split",k):=fun z=>rfl
      have C:∀k:HI,pA (OD (ε p) g ps) (.int 1) k=ε (AA p,k):=fun z=>rfl
      dsimp![kH,WK,Ss,Vs,Wu,Vu,EA,bB,OG,BA,nu,Va,Ti,NA,XB,rC,wA,sA,Ri,F,WF,PC,e,jB,xD,DA,D,C,sz1,nN,L,J,uB]
    . show Zo lo h (.split st p i) _;simp![Zo];exact⟨sr,hB.length,gh,rfl,P,M,j,Q,S⟩
 . refine⟨d,h,a,s,?_,B,AN.up nofun (fun k W hk I=>I),U,u⟩;dsimp![kH,WK,Ss,Vs,Wu,Vu,EA,bB,OG,BA,nu,Va,Ti,NA,XB,rC,wA,sA,Ri,F,WF,PC,e,wF,uB]
theorem Im{c:Nat}{g:IA}(o:WA c g)(m:dE c g){gs:Ms (Ms aC)}(ok:aw c gs)(sg:∀x∈gs,x.length<=1000){tag:Ni (Nat×Nat)}{bs:Ms IA}{ps:Ms (Nat×Nat)}(h:KC c g gs=ε (tag,bs,ps)):(∀p∈ps,p.1<c/\p.2<c/\p.1≠p.2)/\ps.length<=1000/\(∀b∈bs,lD c b ps [])/\bs.length<=1000:=by
 cases gs with
 | cons grp gs=>
  simp![KC,Ga,xu]at h;obtain⟨_,rfl,rfl⟩:=h;have j:=ok grp ⋯;refine⟨fun p hp=>?_,by simp;exact sg grp ⋯,fun b i=>?_,by simp;exact sg grp ⋯⟩
  . obtain⟨x,e,rfl⟩:=Bu.mp hp;obtain⟨a,b,d,_⟩:=j x e;exact⟨a,b,d⟩
  . obtain⟨k,_,rfl⟩:=Bu.mp i;have:=YW (k:=k) grp j g 0 [] o (hW m);rw[Vu]at this;exact this
 | nil=>
  simp![KC]at h;cases lp:wD c g with
  | none=>rw[lp]at h;cases h
  | some p=>
   rw[lp]at h;simp![Ga,xu]at h;obtain⟨_,rfl,rfl⟩:=h;have hp:p∈cB c:=Ao lp;obtain⟨q1,q2⟩:=bn.mp hp;refine⟨fun x e=>?_,by simp,fun b i=>?_,by have:=NJ (g p.1 p.2);simp;omega⟩
   . rw[Ba.mp e];omega
   . obtain⟨w,_,rfl⟩:=Bu.mp i;have:=pY o (show p.1<c by omega) (show p.2<c by omega) nofun (2^w) (hW m);rw[Vu]at this;exact this
theorem sy(n:Nat):dF (n+1)=DB 4 9 (uJ (dF n)):=rfl
noncomputable def RF(o:Nat)(n p g:Dt)(a b c d e:Ni Dt):LI:=[ε (.ref o),ε n,ε p,ε g,a,b,c,d,e]
section
variable{o:Nat}{n p g:Dt}{a b c d e:Ni Dt}
theorem N6:(RF o n p g a b c d e)[0]?=ε (ε (.ref o)):=rfl
theorem lk1:(RF o n p g a b c d e)[1]?=ε (ε n):=rfl
theorem lk2:(RF o n p g a b c d e)[2]?=ε (ε p):=rfl
theorem lk3:(RF o n p g a b c d e)[3]?=ε (ε g):=rfl
theorem lk5:(RF o n p g a b c d e)[5]?=ε b:=rfl
theorem lk6:(RF o n p g a b c d e)[6]?=ε c:=rfl
theorem lk7:(RF o n p g a b c d e)[7]?=ε d:=rfl
theorem lk8:(RF o n p g a b c d e)[8]?=ε e:=rfl
end
theorem A8{c m:Nat}{ls:Ms Ln}(c0:1<=c)(hc:c<=8)(hl:ls.length<=100)(a2:∀x∈ls,x.1<c):∀n,vT c m ls n:=by
 intro n
 induction n with
 | zero=>intro f gs gds made b o pd P h K;obtain⟨a,s,q⟩:=K.ex;exact q.elim
 | succ n IH=>
  intro f gs gds made b o pd P h K;obtain⟨a0,s0,q0⟩:=K.ex;obtain⟨d,h1,e1,x,sr,st,g,rfl,r1,r2,r3,r4,r5,r6,r7⟩:=xV (show c<=100 by omega) K.of K.net (pd:=pd) (P:=P) (fun e=>K.prs.seq e) K.pc K.wt (by have:=K.lp;omega);have U1:Up h h1:=⟨r2,r3⟩;have ef:dF (n+1) [.ref o,.ref (b+c),pd,.lst gds] h=TD (uJ (dF n) (RF o (.ref (b+c)) pd (.lst gds) none none none none none) h):=by rw[sy,eB];rfl
  have s1:xA yJ [] (bA (eV 1) (bA (eV 2) fA)) (RF o (.ref (b+c)) pd (.lst gds) none none none none none) h=ε (.tup [x,.ref sr],h1):=by simp![QA,DA,BA,kA,lk1,lk2,nA,dA,Us,e1]
  generalize u:dF (n+1) [.ref o,.ref (b+c),pd,.lst gds] h=X;rw[ef,uJ,JF s1 (l':=RF o (.ref (b+c)) pd (.lst gds) (ε (.tup [x,.ref sr])) none none none none) rfl,JF (d:=x) (h1:=h1) rfl (l':=RF o (.ref (b+c)) pd (.lst gds) (ε (.tup [x,.ref sr])) (ε x) none none none) rfl,JF (d:=.ref sr) (h1:=h1) rfl (l':=RF o (.ref (b+c)) pd (.lst gds) (ε (.tup [x,.ref sr])) (ε x) (ε (.ref sr)) none none) rfl]at u;have O1:ai h1 o ls m made:=K.ob.up U1;rcases r7 with⟨rfl,em⟩ | ⟨p,rfl,bl,Ng,cl,ne,_⟩
  . refine⟨.tup [.str "clash", .tup [.str "threes", .ref sr]],h1,.clash (.eu st),made,?_,.inl ⟨st,g,r5,em,rfl,rfl⟩,⟨_,rfl,?_⟩,U1.l,O1⟩
    . rw[vH (h1:=h1) rfl (d:=.tup [.str "clash", .tup [.str "threes", .ref sr]]) (h2:=h1) rfl]at u;exact u.symm
    . show Zo h.length h1 (.eu st) _;simp![Zo];exact⟨sr,rfl,r1,r4⟩
  . have M:bt c f st (MB c g):=⟨g,r5,cl,ne,rfl⟩;obtain⟨D,Y,neg⟩:=M.ok K.of;have L:=oa Ng;generalize MB c g=g' at M D Y neg L;obtain⟨rest,eb⟩:=Yt (show c<=100 by omega) (oj D neg) (show ls.length<=1000 by omega) L;obtain⟨h2,Q⟩:∃h2:HI,h2=h1++.lst ((pC c g' ls).map oA)::rest:=⟨_,rfl⟩
    rw[<- Q]at eb;have U2:Up h1 h2:=Q ▸ Up.app _ _;have a5:h2[h1.length]?=ε (.lst ((pC c g' ls).map oA)):=by rw[Q];simp
    have O2:=O1.up U2;have nl:=L.len;have u1:=fun(h:HI)=>UC (h:=h) (i:=2) (j:=(c:Int)) (Or.inl ⟨by decide,by decide⟩)
    have g2:(2:Int)*(c:Int)=((2*c:Nat):Int):=by omega
    have a6:=aP (x := "Search") (k := "lengths") O1 (Bq);have s4:∀(d:Dt) (h3:HI),tH [.int ((2*c:Nat):Int),.ref h1.length] h2=ε (d,h3)->xA tH [] (bA (e2 ZA (ua 2) (QB qB (eV 5))) (bA (xA YL [] (bA (eV 5) (bA (TF "Search" "lengths" (eV 0)) fA))) fA)) (RF o (.ref (b+c)) pd (.lst gds) (ε (.tup [.ref (p+c),.ref sr])) (ε (.ref (p+c))) (ε (.ref sr)) none none) h1=ε (d,h3):=fun d h3 e=>by simp![QA,DA,BA,wA,fC,kA,sA,N6,lk5,nA,dA,nl,u1,g2,rQ,a6,eb,Us,e]
    rw[CI (h1:=h1) rfl]at u;rcases NY (n:=2*c) (a:=h1.length) nofun nofun (pC c g' ls) (fT g' a2) (aY hc g' hl) h2 a5 with⟨t,h3,I,fr,et⟩ | ⟨cs,PP,k,r,h3,R,fr,hr,et,rl⟩
    . have U3:Up h2 h3:=P3 fr;have O3:=O2.up U3;obtain⟨h4,U4,U⟩:=Hh ((U2.trans U3).net L) D (show c<=100 by omega) (K.grp.up (U1.trans (U2.trans U3)).l) K.og K.sg;have T:=O3.up U4;rw[JF (s4 _ _ et) (l':=RF o (.ref (b+c)) pd (.lst gds) (ε (.tup [.ref (p+c),.ref sr])) (ε (.ref (p+c))) (ε (.ref sr)) (ε (.tup [.str "times", .lst (mC (2*c) (lB (2*c) t))])) none) rfl]at u;have s5:tf (e2 FB (e2 pA (eV 7) (ua 0)) (eC (.str "ring"))) (RF o (.ref (b+c)) pd (.lst gds) (ε (.tup [.ref (p+c),.ref sr])) (ε (.ref (p+c))) (ε (.ref sr)) (ε (.tup [.str "times", .lst (mC (2*c) (lB (2*c) t))])) none) h3=ε (false,h3):=by simp![JA,wA,kA,sA,lk7,nA,dA,LB,oC,Ra,Vi,RD,t_r,OA]
      have s6:∀y,mG [.ref (p+c),.lst gds] h3=ε (y,h4)->xA mG [] (bA (eV 5) (bA (eV 3) fA)) (RF o (.ref (b+c)) pd (.lst gds) (ε (.tup [.ref (p+c),.ref sr])) (ε (.ref (p+c))) (ε (.ref sr)) (ε (.tup [.str "times", .lst (mC (2*c) (lB (2*c) t))])) none) h3=ε (y,h4):=fun y e=>by simp![QA,DA,BA,kA,lk5,lk3,nA,dA,Us,e]
      rw[CI s5]at u;have S:Up h h4:=U1.trans (U2.trans (U3.trans U4));cases H:KC c g' gs with
      | none=>rw[H]at U;have b2:=Vv (c:=c) nofun (lB (2*c) t) h4;refine⟨.tup [.str "laid", .lst (BD c (lB (2*c) t))],h4,.laid t,made,?_,.inr ⟨st,g',M,.inr ⟨t,I,.inl ⟨H,rfl,rfl⟩⟩⟩,rfl,S.l,T⟩;rw[JF (s6 _ U) (l':=RF o (.ref (b+c)) pd (.lst gds) (ε (.tup [.ref (p+c),.ref sr])) (ε (.ref (p+c))) (ε (.ref sr)) (ε (.tup [.str "times", .lst (mC (2*c) (lB (2*c) t))])) (ε .non)) rfl,vH (h1:=h4) rfl (d:=.tup [.str "laid", .lst (BD c (lB (2*c) t))]) (h2:=h4) (by simp![xD,DA,BA,QA,wA,kA,sA,lk7,nA,dA,LB,kF,Ri,Ra,Vi,Us,b2,Ru,Ve,Nat.reduceAdd,nN,eN])]at u;exact u.symm
      | some v=>
       obtain⟨tag,bs,O⟩:=v;rw[H]at U;obtain⟨E,A,U⟩:=U;have fm:=aP (x := "Search") (k := "made") T (o2);have fM:=aP (x := "Search") (k := "most") T (S7);have Z:tf (e2 GU (TF "Search" "made" (eV 0)) (TF "Search" "most" (eV 0))) (RF o (.ref (b+c)) pd (.lst gds) (ε (.tup [.ref (p+c),.ref sr])) (ε (.ref (p+c))) (ε (.ref sr)) (ε (.tup [.str "times", .lst (mC (2*c) (lB (2*c) t))])) (ε (OD tag E O))) h4=ε (decide (((m:Nat):Int)<=((made:Nat):Int)),h4):=by simp![JA,wA,kA,rQ,N6,nA,dA,fm,fM,TQ,OA]
       rw[JF (s6 _ U) (l':=RF o (.ref (b+c)) pd (.lst gds) (ε (.tup [.ref (p+c),.ref sr])) (ε (.ref (p+c))) (ε (.ref sr)) (ε (.tup [.str "times", .lst (mC (2*c) (lB (2*c) t))])) (ε (OD tag E O))) rfl,CI (h1:=h4) (by cases tag<;>rfl)]at u;by_cases lm:m<=made
       . refine⟨.tup [.str "open", .non],h4,.opn,made,?_,.inr ⟨st,g',M,.inr ⟨t,I,.inr ⟨tag,bs,O,H,.inl ⟨lm,rfl,rfl⟩⟩⟩⟩,rfl,S.l,T⟩;have dg:decide (((m:Nat):Int)<=((made:Nat):Int))=true:=iu nofun;rw[dg]at Z;rw[vH Z (d:=.tup [.str "open", .non]) (h2:=h4) rfl]at u;exact u.symm
       . have dg:decide (((m:Nat):Int)<=((made:Nat):Int))=false:=fu nofun;have b3:=nI D K.og H;obtain⟨pc,pl,wb,lb⟩:=Im D Y K.og K.sg H;obtain⟨h5,J⟩:∃h5:HI,h5=h4.set o (.ins "Search" [("lengths", .lst (ls.map rB)),("most", .int (m:Nat)),("made", .int ((made+1:Nat):Int))]):=⟨_,rfl⟩
         have ol:=(Wi T).1;have O5:ai h5 o ls m (made+1):=by unfold ai;rw[J,uo ol]
         have U5:tj h4 h5:=J ▸ tj.set T;have l5:h5.length=h4.length:=by rw[J,Ka]
         have sf:=jP (x := "Search") (k := "made") (v:=.int ((made+1:Nat):Int)) (l:=(RF o (.ref (b+c)) pd (.lst gds) (ε (.tup [.ref (p+c),.ref sr])) (ε (.ref (p+c))) (ε (.ref sr)) (ε (.tup [.str "times", .lst (mC (2*c) (lB (2*c) t))])) (ε (OD tag E O)))) T ⋯;rw[N9,<- J]at sf;have m1:((made:Nat):Int)+1=((made+1:Nat):Int):=by omega
         have a4:h5[sr]?=ε (.lst (st.map rD)):=U5.2 _ _ ((U2.trans (U3.trans U4)).get r4);have qb:∃W,lE (DC c m ls n) tag W gs.tail bs (made+1) [] a0 s0:=by
          rcases q0 with⟨a1,g1,k1,k2,_,_⟩ | ⟨a1,g1,k1,k⟩
          . have:=M.ck K.of k1;rw[k2]at this;cases this
          . have eg:=M.unique K.of k1;subst eg;rcases k with⟨c1,P',k',R',_,_⟩ | ⟨t',b6,k⟩
            . exact(QS R' I).elim
            . rcases k with⟨C,_,_⟩ | ⟨b4,c2,b5,C,k⟩
              . rw[H]at C;cases C
              . rw[H]at C;cases C;rcases k with⟨a3,_,_⟩ | ⟨a3,k⟩
                . omega
                . exact⟨_,k⟩
         obtain⟨W,qb⟩:=qb;obtain⟨d,h',a,s,e6,B,AN,U6,O6⟩:=yq IH (tag:=tag) (st:=st) (gds:=gds.drop 1) (sr:=sr) (lo:=h.length) (hB:=h5) K.og.tail (fun x hx=>K.sg x (mem_of_mem_tail hx)) (om (K.grp.up (S.l.trans U5))) pc pl qb b3 wb (A.imp fun w w z=>z.up U5) nofun O5 a4 r1 (by have:=S.1;omega);refine⟨d,h',a,s,?_,.inr ⟨st,g',M,.inr ⟨t,I,.inr ⟨tag,bs,O,H,.inr ⟨by omega,B⟩⟩⟩⟩,AN,S.l.trans (U5.trans U6),O6⟩;have mt:=pS (x := "Search") (m := "look_at_branches") (F:=kH (dF n)) (ga:=bA (eV 8) (bA (eV 6) (bA (KM (eV 3) (vG (ua 1)) jN) fA))) (l:=(RF o (.ref (b+c)) pd (.lst gds) (ε (.tup [.ref (p+c),.ref sr])) (ε (.ref (p+c))) (ε (.ref sr)) (ε (.tup [.str "times", .lst (mC (2*c) (lB (2*c) t))])) (ε (OD tag E O)))) O5 T7;have cf:CF gds (ε 1) none=gds.drop 1:=DS gds 1;have b1:KM (eV 3) (vG (ua 1)) jN (RF o (.ref (b+c)) pd (.lst gds) (ε (.tup [.ref (p+c),.ref sr])) (ε (.ref (p+c))) (ε (.ref sr)) (ε (.tup [.str "times", .lst (mC (2*c) (lB (2*c) t))])) (ε (OD tag E O))) h5=ε (.lst (gds.drop 1),h5):=by simp![T4,kA,lk3,nA,dA,jq,sA,ma,vq,SS,Vi,cf]
         rw[dg]at Z;rw[CI Z]at u;simp![EA,jB,AT,kA,wA,sA,N6,lk6,lk8,nA,dA,rQ,fm,C1,yC,m1,sf,NA,mt,DA,BA,b1,e6,uB]at u;exact u.symm
    . have U3:Up h2 h3:=P3 fr;have S:Up h h3:=U1.trans (U2.trans U3);refine⟨.tup [.str "clash", .tup [.str "ring", .ref sr,.ref r]],h3,.clash (.ring st cs PP k),made,?_,.inr ⟨st,g',M,.inl ⟨cs,PP,k,R,rfl,rfl⟩⟩,⟨_,rfl,?_⟩,S.l,O2.up U3⟩
      . rw[JF (s4 _ _ et) (l':=RF o (.ref (b+c)) pd (.lst gds) (ε (.tup [.ref (p+c),.ref sr])) (ε (.ref (p+c))) (ε (.ref sr)) (ε (.tup [.str "ring", .ref r])) none) rfl,vH (h1:=h3) rfl (d:=.tup [.str "clash", .tup [.str "ring", .ref sr,.ref r]]) (h2:=h3) rfl]at u;exact u.symm
      . show Zo h.length h3 (.ring st cs PP k) _;simp![Zo];refine⟨sr,r,rfl,r1,?_,(U2.trans U3).get r4,hr⟩;have:=(U1.trans U2).1;omega
theorem jt{c:Nat}(h:c<=8){f:IA}(of:WA c f):∃a,(∃g,ti c f a g/\wB c g=true)\/(∃g,bt c f a g):=by
 have N:=qE [] c f;have y:=FL c c;have j:c*c<=8*8:=Iu h h;obtain⟨d,B,C,x,n,a,g,rfl,u,s,r,q,b,o,i⟩:=xV (show c<=100 by omega) of N (pd:=.lst ((cB c).map AA)) (P:=cB c) (fun e=>rfl) (fun p hp=>by
  obtain⟨q1,q2⟩:=bn.mp hp;omega) (oY c f) (by unfold cB;omega)
 rcases i with⟨rfl,k⟩ | ⟨E,rfl,D,F,m,ne,_⟩
 . exact⟨a,.inl ⟨g,b,k⟩⟩
 . exact⟨a,.inr ⟨_,g,b,m,ne,rfl⟩⟩
theorem Nh{c m:Nat}{ls:Ms Ln}(U:1<=c)(H:c<=8)(T:ls.length<=100)(y:∀x∈ls,x.1<c):∀(n:Nat)(f:IA)(gs:Ms (Ms aC))(made:Nat),WA c f->aw c gs->made<=m->m+1<=made+n->∃a s,DC c m ls n f gs made a s:=by
 intro n
 induction n with
 | zero=>intro f gs made _ _ Z Y;omega
 | succ n ih=>
  intro f gs made of og Z Y;obtain⟨j,⟨g,s,em⟩ | ⟨g,o⟩⟩:=jt H of
  . exact⟨_,_,.inl ⟨j,g,s,em,rfl,rfl⟩⟩
  . obtain⟨u,a0,neg⟩:=o.ok of;rcases NY (n:=2*c) (a:=0) nofun nofun (pC c g ls) (fT g y) (aY H g T) [.lst ((pC c g ls).map oA)] rfl with⟨t,W,h,fr,et⟩ | ⟨cs,PP,k,r,W,R,fr,hr,et,rl⟩
    . cases p:KC c g gs with
      | none=>exact⟨_,_,.inr ⟨j,g,o,.inr ⟨t,h,.inl ⟨p,rfl,rfl⟩⟩⟩⟩
      | some v=>
       obtain⟨e,bs,E⟩:=v;by_cases Q:m<=made
       . exact⟨_,_,.inr ⟨j,g,o,.inr ⟨t,h,.inr ⟨e,bs,E,p,.inl ⟨Q,rfl,rfl⟩⟩⟩⟩⟩
       . have C:=nI u og p;have go:∀(bs:Ms IA),(∀b∈bs,WA c b)->∀(i:Nat)(d:Ms Tr),i<=m->m+1<=i+n->∃a s,lE (DC c m ls n) e j gs.tail bs i d a s:=by
          intro bs
          induction bs with
          | nil=>intro _ i d _ _;exact⟨_,_,rfl,rfl⟩
          | cons b bs B=>
           intro I i d F P;obtain⟨a,s,q⟩:=ih b gs.tail i (I b ⋯) og.tail F P;obtain⟨z1,L,_⟩:=cM n b _ i _ _ q;have J:=L F;cases a with
           | clash D=>obtain⟨a',M,O⟩:=B (fun x S=>I x (by simp[S])) s (d++[D]) J nofun;exact⟨a',M,.inl ⟨D,s,q,O⟩⟩
           | opn=>exact⟨_,_,.inr ⟨(fun z=>by cases z),q⟩⟩
           | laid t=>exact⟨_,_,.inr ⟨(fun z=>by cases z),q⟩⟩
         obtain⟨a,s,q⟩:=go bs C (made+1) [] nofun nofun;exact⟨a,s,.inr ⟨j,g,o,.inr ⟨t,h,.inr ⟨e,bs,E,p,.inr ⟨by omega,q⟩⟩⟩⟩⟩
    . exact⟨_,_,.inr ⟨j,g,o,.inl ⟨cs,PP,k,R,rfl,rfl⟩⟩⟩
noncomputable def YG:Wd->Dt
 | .opn=>.str "open"
 | .laid=>.str "laid"
 | .clash=>.str "clash"
structure aU(c:Nat)(h:HI)(a:Nat)(fs:List sv):Prop where
 ds:∃ds,h[a]?=ε (.lst ds)/\Yo h ds fs
 ok:∀x∈fs,tD c x
 sg:∀x∈yB fs,x.length<=1000
 len:fs.length<=100
theorem LJ:∀fs:Ms sv,(NC fs).length<=fs.length
 | []=>Uo _
 | .long x::fs=>by have:=LJ fs;simp![NC,Ru];omega
 | .ways x::fs=>by have:=LJ fs;simp![NC,Ru];omega
 | .one x::fs=>by have:=LJ fs;simp![NC,Ru];omega
theorem EJ{c:Nat}:∀fs:Ms sv,(∀x∈fs,tD c x)->∀x∈NC fs,x.1<c
 | [],_,x,hx=>nomatch hx
 | .long y::fs,h,x,hx=>by
  simp![NC,Bo]at hx;rcases hx with rfl | hx
  . exact h (.long x) ⋯
  . exact EJ fs (fun z a=>h z (by simp[a])) x hx
 | .ways y::fs,h,x,hx=>EJ fs (fun z a=>h z (by simp[a])) x hx
 | .one y::fs,h,x,hx=>EJ fs (fun z a=>h z (by simp[a])) x hx
theorem uH{c:Nat}:∀fs:Ms sv,(∀x∈fs,tD c x)->aw c (yB fs)
 | [],_,x,hx=>nomatch hx
 | .one y::fs,h,x,hx=>by
  simp![yB,Bo]at hx;rcases hx with rfl | hx
  . exact h (.one x) ⋯
  . exact uH fs (fun z a=>h z (by simp[a])) x hx
 | .ways y::fs,h,x,hx=>uH fs (fun z a=>h z (by simp[a])) x hx
 | .long y::fs,h,x,hx=>uH fs (fun z a=>h z (by simp[a])) x hx
def cU(c m:Nat)(fs:Ms sv)(n:Nat)(a:t0)(s:Nat):Prop:=DC c m (NC fs) n (FC Xe fs) (yB fs) 0 a s
theorem w8 {h:HI} (ls:Ms Ln) (m:Nat):fL [.ref h.length,.lst (ls.map rB),.int (m:Nat)] (h++[.ins "Search" []])=ε (.non,h++[.ins "Search" [("lengths", .lst (ls.map rB)),("most", .int (m:Nat)),("made", .int ((0:Nat):Int))]]):=by
 have p:¬((("lengths" :Str))=(("most" :Str))):=by decide +kernel
 have o:¬((("lengths" :Str))=(("made" :Str))):=by decide +kernel
 have j:¬((("most" :Str))=(("made" :Str))):=by decide +kernel
 have i:FE "lengths" (.lst (ls.map rB)) []=([("lengths", .lst (ls.map rB))]:Ms (Str×Dt)):=rfl;have g:FE "most" (.int (m:Nat)) [("lengths", .lst (ls.map rB))]=([("lengths", .lst (ls.map rB)),("most", .int (m:Nat))]:Ms (Str×Dt)):=by simp![FE,eH p]
 have e:FE "made" (.int 0) [("lengths", .lst (ls.map rB)),("most", .int (m:Nat))]=([("lengths", .lst (ls.map rB)),("most", .int (m:Nat)),("made", .int 0)]:Ms (Str×Dt)):=by simp![FE,eH o,eH j]
 have d:=jP (h:=h++[.ins "Search" []]) (n:=h.length) (x := "Search") (k := "lengths") (v:=.lst (ls.map rB)) (l:=[ε (.ref h.length),ε (.lst (ls.map rB)),ε (.int (m:Nat))]) (fs:=[]) ⋯ ⋯;have b:=jP (h:=h++[.ins "Search" [("lengths", .lst (ls.map rB))]]) (n:=h.length) (x := "Search") (k := "most") (v:=.int (m:Nat)) (l:=[ε (.ref h.length),ε (.lst (ls.map rB)),ε (.int (m:Nat))]) (fs:=[("lengths", .lst (ls.map rB))]) ⋯ ⋯;have a:=jP (h:=h++[.ins "Search" [("lengths", .lst (ls.map rB)),("most", .int (m:Nat))]]) (n:=h.length) (x := "Search") (k := "made") (v:=.int 0) (l:=[ε (.ref h.length),ε (.lst (ls.map rB)),ε (.int (m:Nat))]) (fs:=[("lengths", .lst (ls.map rB)),("most", .int (m:Nat))]) ⋯ ⋯;rw[i]at d;rw[g]at b;rw[e]at a;have hs:∀x y:Ob,(h++[x]).set h.length y=h++[y]:=fun x y=>by simp
 rw[hs]at d b a;dsimp![fL,fR,Ss,Vs,Us,EA,C1,sA,Ri,d,NA,b,a,l8];rfl
inductive j4(c m:Nat)(h:HI)(a:Nat)(fs:List sv):Prop
 | mk (A:t0) (s:Nat) (x:Dt) (h':HI) (p0:cU c m fs 12 A s) (p1:HJ [.int (c:Nat),.ref a,.int (m:Nat)] h=ε (.tup [YG A.wd,x,.int (s:Nat)],h')) (p2:cm h.length h' c A (.tup [YG A.wd,x])) (p3:tj h h'):j4 c m h a fs
theorem Vh{c m:Nat}(r:1<=c)(u:c<=8){h:HI}{a:Nat}{fs:Ms sv}(F:aU c h a fs)(ex:∃A s,cU c m fs 12 A s):j4 c m h a fs:=by
 obtain⟨ds,y,D⟩:=F.ds;have U:=D.len;have fl:=F.len;have C:ds.length<sizeLine:=by rw[U];simp[sizeLine];omega
 have S:=Yk y C D;obtain⟨h1,i⟩:∃h1:HI,h1=h++[.ins "Search" [("lengths", .lst ((NC fs).map rB)),("most", .int (m:Nat)),("made", .int ((0:Nat):Int))]]:=⟨_,rfl⟩
 have E:=w8 (h:=h) (NC fs) m;rw[<- i]at E;have U1:Up h h1:=i ▸ Up.app _ _;have I:ai h1 h.length (NC fs) m 0:=by unfold ai;rw[i];simp
 obtain⟨b,j,R,Y,U2⟩:=Ey (show c<=1000 by omega) (U1.get y) (D.up U1.l) F.ok;have H:=JR (show c<=1000 by omega) j;obtain⟨h3,g⟩:∃h3:HI,h3=j++[.lst ((cB c).map AA)]:=⟨_,rfl⟩
 rw[<- g]at H;have U3:Up j h3:=g ▸ Up.app _ _;have n:Up h h3:=U1.trans (U2.trans U3);obtain⟨B,Z,T⟩:=Fy (n.get y) C (D.up n.l);have pl:=FL c c;have O:c*c<=8*8:=Iu u u;obtain⟨d,P,A,s,e,L,o,U4,W⟩:=A8 (m:=m) r u (show(NC fs).length<=100 by have:=LJ fs;omega) (EJ fs F.ok) 12 (FC Xe fs) (yB fs) B 0 b h.length (.ref j.length) (cB c) h3
  ⟨ex,rH fs F.ok _ (aK c),uH fs F.ok,F.sg,U3.net Y,Z,.inr ⟨j.length,rfl,by rw[g];simp⟩,(fun p hp=>by obtain⟨q1,q2⟩:=bn.mp hp;omega),oY c _,by unfold cB;omega,(I.up U2).up U3⟩
 have M:h.length<=h3.length:=n.1;have Q:=aP (x := "Search") (k := "made") W (o2);have J:=pS (h:=h1) (x := "Search") (m := "look") (F:=dF 12) (ga:=bA (xA yL [] (bA (eV 0) (bA (eV 1) fA))) (bA (xA kI [] (bA (eV 0) fA)) (bA (xA zL [] (bA (eV 1) fA)) fA))) (l:=[ε (.int (c:Nat)),ε (.ref a),ε (.int (m:Nat)),ε (.ref h.length),none]) I PZ;obtain⟨x,q⟩:∃x,d=.tup [YG A.wd,x]:=by
  cases A with
  | opn=>exact⟨_,o⟩
  | laid t=>exact⟨_,o⟩
  | clash tr=>obtain⟨x,e,_⟩:=o;exact⟨x,e⟩
 subst q;refine⟨A,s,x,P,L,?_,o.up M (fun k xs hk q=>q),(n.l).trans U4⟩;dsimp![HJ,ZR,Ss,Vs,Wu,Vu,EA,bB,B9,QA,DA,BA,Ri,Us,S,E,Ef,Va,Ti,NA,AT,J,R,H,T,e,jB,xD,wA,sA,LB,oC,kF,Vi,rQ,Q,D5,uB]
def tz(c:Nat)(f:IA)(s:Nat->Int×Int):Prop:=∀i<c,∀j<c,i≠j->(f i j).testBit (zC (s i) (s j))=true
theorem tz.nar{c:Nat}{f:IA}{s:Nat->Int×Int}(ok:∀i,i<c->MD (s i))(h:tz c f s){i j:Nat}(n:i<c)(k:j<c)(d:i≠j){m:Nat}(r:m.testBit (zC (s i) (s j))=true):tz c (vB f i m j) s:=by
 have hw:=KF (ok i n) (ok j k);have o:(f i j&&&m).testBit (zC (s i) (s j))=true:=by rw[z8,h i n j k d,r];rfl
 intro a p b e g;by_cases q:a=i/\b=j
 . obtain⟨rfl,rfl⟩:=q;rw[MT f m d];exact o
 . by_cases e2:a=j/\b=i
   . obtain⟨rfl,rfl⟩:=e2;rw[Pj,kS (ok b e) (ok a p),JE _ nofun,show 12-(12-zC (s b) (s a))=zC (s b) (s a) by omega];exact o
   . rw[qH f q e2];exact h a p b e g
theorem tz.zev{c:Nat}{f:IA}{s:Nat->Int×Int}(ok:∀i,i<c->MD (s i)){i j m:Nat}(r:i<c)(q:j<c)(d:i≠j)(o:WA c f)(h:tz c (vB f i m j) s):tz c f s/\m.testBit (zC (s i) (s j))=true:=by
 have k:=h i r j q d;rw[MT f m d,z8,xr]at k;refine⟨fun a g b e n=>?_,k.2⟩;by_cases p:a=i/\b=j
 . obtain⟨rfl,rfl⟩:=p;exact k.1
 . by_cases e2:a=j/\b=i
   . obtain⟨rfl,rfl⟩:=e2;have hw:=KF (ok b e) (ok a g);rw[o.tn b e a g,kS (ok b e) (ok a g),JE _ nofun,show 12-(12-zC (s b) (s a))=zC (s b) (s a) by omega];exact k.1
   . have:=h a g b e n;rw[qH f p e2]at this;exact this
theorem tz.sub{c:Nat}{f g:IA}{s:Nat->Int×Int}(h:tz c g s)(q:aN c g f):tz c f s:=fun i d j b a=>bc.mp (q i d j b) _ (h i d j b a)
theorem tz.steps{c:Nat}{f g:IA}{st:Ms (Nat×Nat×Nat)}{s:Nat->Int×Int}(ok:∀i,i<c->MD (s i))(h:ti c f st g)(q:tz c f s):tz c g s:=by
 induction h with
 | nil=>exact q
 | @snoc st g i k j h e a b d ne n ih=>refine tz.nar ok ih e b d.2.2 ?_;unfold Ws;rw[z8,ih i e j b d.2.2,Gs];exact(aM _ _ _).mpr ⟨_,_,KF (ok i e) (ok k a),ih i e k a d.1,KF (ok k a) (ok j b),ih k a j b d.2.1,eY (ok i e) (ok k a) (ok j b)⟩
theorem tz.cut{c:Nat}{f:IA}{s:Nat->Int×Int}(h:tz c f s):tz c (MB c f) s:=fun i d j b a=>by rw[LF f d b];exact h i d j b a
theorem tz.on{c:Nat}{f:IA}{s:Nat->Int×Int}(h:tz c (MB c f) s):tz c f s:=fun i d j b a=>by have:=h i d j b a;rw[LF f d b]at this;exact this
theorem oo(k:Nat):(0:Nat).testBit k=false:=by simp
theorem tz.ne{c:Nat}{f:IA}{s:Nat->Int×Int}(h:tz c f s)(d:∀i<c,f i i=64):wB c f=false:=by
 cases z:wB c f with
 | false=>rfl
 | true=>
  obtain⟨i,b,j,g,e⟩:=ee.mp z;by_cases a:i=j
  . subst a;rw[d i b]at e;cases e
  . have:=h i b j g a;rw[e,oo]at this;cases this
theorem KS{c:Nat}{f:IA}(d:∀i<c,f i i=64){i j:Nat}(a:i≠j)(m:Nat):∀k<c,vB f i m j k k=64:=fun k b=>by rw[qH f (fun q=>a (q.1.symm.trans q.2)) (fun q=>a (q.2.symm.trans q.1))];exact d k b
theorem QX{c k:Nat}:∀(a:Ms aC)(_:∀m∈a,kD c m)(f:IA)(p:Nat),(∀i<c,f i i=64)->∀i<c,GD f k a p i i=64
 | [],_,f,p,d=>d
 | m::a,h,f,p,d=>QX a (fun x b=>h x (by simp[b])) _ _ (KS d (h m ⋯).2.2.1 _)
theorem HY{m k:Nat}(a:m<8192)(b:k<13):(t3 m).testBit k=!m.testBit k:=by
 have:t3 m=2^13-(m+1):=by unfold t3;omega
 rw[this,Nat.testBit_two_pow_sub_succ a];simp[b]
def yD(s:Nat->Int×Int)(m:aC):Bool:=m.2.1.testBit (zC (s m.1) (s m.2.2))
theorem tz.only{c k:Nat}{s:Nat->Int×Int}(ok:∀i,i<c->MD (s i)):∀(g:Ms aC)(_:∀m∈g,kD c m)(f:IA)(p:Nat),tz c f s->(∀(i:Nat) m,g[i]?=ε m->yD s m=decide (p+i=k))->tz c (GD f k g p) s
 | [],_,f,p,q,_=>q
 | m::g,h,f,p,q,H=>by
  obtain⟨a,b,d,e⟩:=h m ⋯;have j:=H 0 m rfl;refine tz.only ok g (fun x n=>h x (by simp[n])) _ _ (q.nar ok a b d ?_) (fun i x n=>?_)
  . unfold yD at j;by_cases z:p=k
    . rw[eG z];rw[iu (show p+0=k by omega)]at j;exact j
    . rw[eH z,HY e (KF (ok _ a) (ok _ b)),j,fu (show ¬p+0=k by omega)];rfl
  . rw[H (i+1) x (by simpa using n)]
    congr 1
    rw[show p+(i+1)=p+1+i by omega]
theorem tz.hH{c k:Nat}{s:Nat->Int×Int}(ok:∀i,i<c->MD (s i)):∀(g:Ms aC)(_:∀m∈g,kD c m)(f:IA)(p:Nat),WA c f->tz c (GD f k g p) s->tz c f s/\∀(i:Nat) m,g[i]?=ε m->yD s m=decide (p+i=k)
 | [],_,f,p,o,q=>⟨q,fun i m h=>by simp at h⟩
 | m::g,h,f,p,o,q=>by
  obtain⟨a,b,d,e⟩:=h m ⋯;obtain⟨q1,H⟩:=tz.hH ok g (fun x j=>h x (by simp[j])) _ _ (wH o a b d _) q;obtain⟨q2,z⟩:=tz.zev ok a b d o q1;refine⟨q2,fun i x j=>?_⟩;cases i with
  | zero=>
   simp at j;subst j;unfold yD;by_cases y:p=k
   . rw[eG y]at z;rw[z,iu (show p+0=k by omega)]
   . rw[eH y,HY e (KF (ok _ a) (ok _ b))]at z;rw[fu (show ¬p+0=k by omega)];simpa using z
  | succ i=>
   rw[H i x (by simpa using j)]
   congr 1
   rw[show p+(i+1)=p+1+i by omega]
def bU(s:Nat->Int×Int)(g:Ms aC):Prop:=∃k,k<g.length/\∀(i:Nat) m,g[i]?=ε m->yD s m=decide (i=k)
noncomputable def QM(s:Nat->Int×Int)(p:Nat):Int:=if p%2=0 then(s (p/2)).1 else(s (p/2)).2
theorem PK(s:Nat->Int×Int)(i:Nat):QM s (2*i)=(s i).1:=by unfold QM;rw[eG nofun,show 2*i/2=i by omega]
theorem QK(s:Nat->Int×Int)(i:Nat):QM s (2*i+1)=(s i).2:=by unfold QM;rw[eH nofun,show(2*i+1)/2=i by omega]
def Alike(T t:Nat->Int)(p q:Nat):Prop:=(T p<T q->t p<t q)/\(T p=T q->t p=t q)/\(T q<T p->t q<t p)
theorem Alike.symm{T t:Nat->Int}{p q:Nat}(h:Alike T t p q):Alike T t q p:=⟨h.2.2,fun e=>(h.2.1 e.symm).symm,h.1⟩
theorem TZ{g x y:Int}(a:1<=g)(h:x<y):g*x-g*y<=-1:=by rw[<- Int.mul_sub];have b:g*(x-y)<=g*(-1):=Int.mul_le_mul_of_nonneg_left nofun nofun;omega
theorem SZ{g x y:Int}(a:1<=g)(h:x<=y):g*x-g*y<=0:=by rw[<- Int.mul_sub];have b:g*(x-y)<=g*0:=Int.mul_le_mul_of_nonneg_left nofun nofun;omega
theorem KY{g:Int}(j:1<=g){T:Nat->Int}{p q:Nat}{a h i z:Int}(n:z<=h)(m:i<=z)(lt:z<a->T p<T q)(eq:z=a->T p=T q)(k:a<z->T q<T p):∀e∈bG p q a h i,g*T e.1-g*T e.2.1<=e.2.2:=by
 intro e he;unfold bG at he;rcases Bs.mp he with he | he
 . by_cases d:h<=a
   . rw[eG d]at he;rw[Ba.mp he];by_cases b:h<a
     . rw[eG b];exact TZ j (lt nofun)
     . rw[eH b];refine SZ j (x:=T p) (y:=T q) ?_;rcases Int.lt_trichotomy z a with y | y | y
       . have:=lt y;omega
       . have:=eq y;omega
       . omega
   . rw[eH d]at he;exact nomatch he
 . by_cases d:a<=i
   . rw[eG d]at he;rw[Ba.mp he];by_cases b:a<i
     . rw[eG b];exact TZ j (k nofun)
     . rw[eH b];refine SZ j (x:=T q) (y:=T p) ?_;rcases Int.lt_trichotomy z a with y | y | y
       . omega
       . have:=eq y;omega
       . have:=k y;omega
   . rw[eH d]at he;exact nomatch he
theorem t9:∀p∈az,pz (az.idxOf p)=p:=by decide +kernel
theorem u9{s o:Int×Int}(h1:MD s)(h2:MD o):pz (zC s o)=(sC s.1 o.1 o.2,sC s.2 o.1 o.2):=t9 _ (SO h1 h2)
theorem yp{s o:Int×Int}(h1:MD s)(h2:MD o){m:Nat}(a:m.testBit (zC s o)=true)(side:Nat)(hs:side<2):((sC (if side=0 then s.1 else s.2) o.1 o.2:Nat):Int)∈CB side m:=by unfold CB;refine Bu.mpr ⟨zC s o,am.mpr ⟨KF h1 h2,a⟩,?_⟩;unfold zs;rw[u9 h1 h2];rcases(show side=0\/side=1 by omega)with rfl | rfl<;>rfl
theorem fY{c:Nat}{g:IA}{s:Nat->Int×Int}(ok:∀i,i<c->MD (s i))(q:tz c g s){G:Int}(o:1<=G){i j side:Nat}(n:i<c)(b:j<c)(d:i≠j)(hs:side<2):∀e∈yE i j side (g i j),G*QM s e.1-G*QM s e.2.1<=e.2.2:=by
 have mem:=yp (ok i n) (ok j b) (q i n j b d) side hs;have ne:CB side (g i j) ≠ []:=fun z=>by rw[z]at mem;cases mem
 have k:=(OL _ ne).2 _ mem;have m:=(lG _ ne).2 _ mem;have pt:QM s (2*i+side)=(if side=0 then(s i).1 else(s i).2):=by
  rcases(show side=0\/side=1 by omega)with rfl | rfl
  . rw[Nat.add_zero,PK];rfl
  . rw[QK];rfl
 have a:(s j).1<(s j).2:=ok j b;intro e he;unfold yE at he;have h:=Nr (if side=0 then(s i).1 else(s i).2) (s j).1 (s j).2 a;rcases Bs.mp he with he | he
 . refine KY o k m ?_ ?_ ?_ e he<;>rw[pt,PK]<;>intro z<;>rcases h with⟨y,w⟩ | ⟨y,w⟩ | ⟨y,p,w⟩ | ⟨y,w⟩ | ⟨y,w⟩<;>rw[w]at z<;>omega
 . refine KY o k m ?_ ?_ ?_ e he<;>rw[pt,QK]<;>intro z<;>rcases h with⟨y,w⟩ | ⟨y,w⟩ | ⟨y,p,w⟩ | ⟨y,w⟩ | ⟨y,w⟩<;>rw[w]at z<;>omega
def LU(c:Nat)(s:Nat->Int×Int)(x:Ln):Prop:=x.1<c/\x.2.1*((2*c+1:Nat):Int)<=(s x.1).2-(s x.1).1/\(s x.1).2-(s x.1).1<=x.2.2*((2*c+1:Nat):Int)
theorem Cp{c:Nat}{g:IA}{s:Nat->Int×Int}(ok:∀i,i<c->MD (s i))(q:tz c g s){ls:Ms Ln}(h:∀x∈ls,LU c s x):∀e∈pC c g ls,QM s e.1-QM s e.2.1<=e.2.2:=by
 intro e he;unfold pC at he;rcases Bs.mp he with he | he
 . rcases Bs.mp he with he | he
   . obtain⟨i,j,rfl⟩:=Bu.mp he;simp![PK,QK];have:(s i).1<(s i).2:=ok i (Ca.mp j);omega
   . obtain⟨x,d,he⟩:=Ls.mp he;obtain⟨a,n,m⟩:=h x d;unfold RB at he;simp![Bo,not_mem_nil,or_false]at he;rcases he with rfl | rfl
     . simp![PK,QK,Int.neg_mul];omega
     . simp![PK,QK];omega
 . obtain⟨p,hp,he⟩:=Ls.mp he;obtain⟨k,b⟩:=NS hp;have a:(1:Int)<=1:=by decide
   unfold XC at he;rcases Bs.mp he with he | he
   . have:=fY ok q a nofun b nofun nofun e he;rw[Int.one_mul,Int.one_mul]at this;exact this
   . have:=fY ok q a nofun b nofun nofun e he;rw[Int.one_mul,Int.one_mul]at this;exact this
theorem JX{c m:Nat}{ls:Ms Ln}{s:Nat->Int×Int}(ok:∀i,i<c->MD (s i))(d:∀g,tz c g s->∃T:Nat->Int,∀e∈pC c g ls,T e.1-T e.2.1<=e.2.2):∀(n:Nat)(f:IA)(gs:Ms (Ms aC))(made:Nat)(a:t0)(sp:Nat),DC c m ls n f gs made a sp->WA c f->aw c gs->(∀i<c,f i i=64)->tz c f s->(∀g∈gs,bU s g)->a.wd≠.clash
 | 0,_,_,_,_,_,h,_,_,_,_,_=>h.elim
 | n+1,f,gs,made,a,sp,h,of,og,dg,q,hg=>by
  rcases h with⟨S,g,u,B,rfl,rfl⟩ | ⟨S,g,U,h⟩
  . have:=(q.steps ok u).ne (u.diag dg);rw[B]at this;cases this
  . obtain⟨r,O,neg⟩:=U.ok of;obtain⟨C,s0,_,_,rfl⟩:=U;have qg:tz c (MB c C) s:=(q.steps ok s0).cut;have o:∀i<c,MB c C i i=64:=fun i L=>by rw[LF C L L];exact s0.diag dg i L
    generalize MB c C=g at r O neg qg o h;rcases h with⟨cs,P,k,R,rfl,rfl⟩ | ⟨t,ht,h⟩
    . obtain⟨T,Z⟩:=d _ qg;exact(n0 (b:=T) Z R).elim
    . rcases h with⟨_,rfl,rfl⟩ | ⟨E,bs,ps,hs,h⟩
      . intro z;cases z
      . rcases h with⟨_,rfl,rfl⟩ | ⟨_,h⟩
        . intro z;cases z
        . have Q:=nI r og hs;have ex:∃b∈bs,tz c b s:=by
           cases gs with
           | cons grp gs=>simp![KC,Ga,xu]at hs;obtain⟨_,rfl,_⟩:=hs;obtain⟨k,Y,H⟩:=hg grp ⋯;exact⟨_,Bu.mpr ⟨k,Ca.mpr Y,rfl⟩,tz.only ok grp (og grp ⋯) g 0 qg (fun i x j=>by rw[H i x j,Ae])⟩
           | nil=>
            simp![KC]at hs;cases lp:wD c g with
            | none=>rw[lp]at hs;cases hs
            | some p=>
             rw[lp]at hs;simp![Ga,xu]at hs;obtain⟨_,rfl,_⟩:=hs;obtain⟨q1,q2⟩:=bn.mp (Ao lp);have I:p.1<c:=by omega
             have F:p.2<c:=by omega
             have d:=qg p.1 I p.2 F nofun;have W:=KF (ok _ I) (ok _ F);exact⟨_,Bu.mpr ⟨_,am.mpr ⟨W,d⟩,rfl⟩,qg.nar ok I F nofun (by rw[Nat.testBit_two_pow];simp)⟩
          have M:∀b∈bs,∀i<c,b i i=64:=by
           cases gs with
           | cons grp gs=>simp![KC,Ga,xu]at hs;obtain⟨_,rfl,_⟩:=hs;intro b d;obtain⟨k,_,rfl⟩:=Bu.mp d;exact QX grp (og grp ⋯) g 0 o
           | nil=>
            simp![KC]at hs;cases lp:wD c g with
            | none=>rw[lp]at hs;cases hs
            | some p=>rw[lp]at hs;simp![Ga,xu]at hs;obtain⟨_,rfl,_⟩:=hs;obtain⟨q1,q2⟩:=bn.mp (Ao lp);intro b d;obtain⟨w,_,rfl⟩:=Bu.mp d;exact KS o nofun _
          have go:∀(bs:Ms IA),(∀b∈bs,WA c b)->(∀b∈bs,∀i<c,b i i=64)->(∃b∈bs,tz c b s)->∀(J:Nat)(y:Ms Tr)(a:t0)(sp:Nat),lE (DC c m ls n) E S gs.tail bs J y a sp->a.wd≠.clash:=by
           intro bs
           induction bs with
           | nil=>rintro _ _ ⟨b,d,_⟩;cases d
           | cons b bs ih=>
            rintro u B ⟨D,hb',qb⟩ J y a sp q;rcases q with⟨tr,m1,q1,q2⟩ | ⟨q1,q2⟩
            . rcases Bo.mp hb' with rfl | hb'
              . exact Ei rfl (JX ok d n D _ J _ _ q1 (u D ⋯) og.tail (B D ⋯) qb (fun x j=>hg x (mem_of_mem_tail j)))
              . exact ih (fun x j=>u x (by simp[j])) (fun x j=>B x (by simp[j])) ⟨D,hb',qb⟩ _ _ _ _ q2
            . exact q1
          exact go bs Q M ex _ _ _ _ h
def YU(p j:Nat)(z:Int):Ms Bd:=bG p (2*j) 1 z z++bG p (2*j+1) 3 z z
theorem rZ{t:Nat->Int}{p j z:Nat}(a:z<5)(b:t (2*j)<t (2*j+1))(h:∀e∈YU p j (z:Int),AF t e):sC (t p) (t (2*j)) (t (2*j+1))=z:=by
 rcases(show z=0\/z=1\/z=2\/z=3\/z=4 by omega)with rfl | rfl | rfl | rfl | rfl<;>simp[YU,bG,AF]at h<;>unfold sC
 . rw[eG nofun]
 . rw[eH nofun,eG nofun]
 . rw[eH nofun,eH nofun,eG nofun]
 . rw[eH nofun,eH nofun,eH nofun,eG nofun]
 . rw[eH nofun,eH nofun,eH nofun,eH nofun]
theorem Xj:∀w<13,(pz w).1<5/\(pz w).2<5/\az.idxOf (pz w)=w:=by decide +kernel
theorem oq:∀w:Nat,w<13->vA (2^w)=[w]:=by decide +kernel
theorem Gm{i j side w:Nat}(hw:w<13)(hs:side<2):yE i j side (2^w)=YU (2*i+side) j ((if side=0 then(pz w).1 else(pz w).2:Nat):Int):=by unfold yE YU CB;rw[oq w hw];rcases(show side=0\/side=1 by omega)with rfl | rfl<;>rfl
theorem ot{m:Nat}(d:m<8192)(i:m≠0)(h1:¬1<(vA m).length):∃w,w<13/\m=2^w:=by
 have ne:=IZ d i;obtain⟨w,hw⟩:∃w,vA m=[w]:=by
  cases e:vA m with
  | nil=>exact Ei e ne
  | cons w r=>
   cases r with
   | nil=>exact⟨w,rfl⟩
   | cons x r=>rw[e]at h1;simp at h1
 have g:w∈vA m:=by rw[hw];simp
 obtain⟨a,wb⟩:=am.mp g;refine⟨w,a,nG d (ow a) fun k h=>?_⟩;rw[Nat.testBit_two_pow];by_cases z:w=k
 . subst z;rw[wb];simp
 . rw[fu z];cases b:m.testBit k with
   | false=>rfl
   | true=>have:k∈vA m:=am.mpr ⟨h,b⟩;rw[hw]at this;exact Ei (Ba.mp this).symm z
where ow {w:Nat} (h:w<13):2^w<8192:=Nat.pow_lt_pow_right (by decide) h (m:=w) (n:=13)
noncomputable def ZC(t:Nat->Int)(k:Nat):Int×Int:=(t (2*k),t (2*k+1))
theorem F0{c:Nat}{g:IA}{ls:Ms Ln}{t:Nat->Int}(a:∀e∈pC c g ls,AF t e):∀i,i<c->MD (ZC t i):=by intro i b;have h:=a (2*i,2*i+1,-1) (Bs.mpr (.inl (Bs.mpr (.inl (Bu.mpr ⟨i,Ca.mpr b,rfl⟩)))));simp![AF]at h;show t (2*i)<t (2*i+1);omega
theorem ox{c:Nat}{g:IA}(og:WA c g)(ne:wB c g=false)(lp:wD c g=none){ls:Ms Ln}{t:Nat->Int}(n:∀e∈pC c g ls,AF t e):tz c g (ZC t):=by
 have ok:=F0 n;have up:∀i j,i<j->j<c->g i j=2^zC (ZC t i) (ZC t j):=by
  intro i j d b;have h:i<c:=by omega
  have hp:=qS d b;have s:¬1<(vA (g i j)).length:=by have:=find?_eq_none.mp lp (i,j) hp;simpa using this
  obtain⟨w,hw,e⟩:=ot (og.lt i h j b) (ck ne h b) s;obtain⟨r,q,o⟩:=Xj w hw;have m:∀a,a<2->∀x∈YU (2*i+a) j ((if a=0 then(pz w).1 else(pz w).2:Nat):Int),AF t x:=by
   intro a hs x k;rw[<- Gm (i:=i) hw hs,<- e]at k;refine n x (Bs.mpr (.inr (Ls.mpr ⟨(i,j),hp,?_⟩)));unfold XC;rcases(show a=0\/a=1 by omega)with rfl | rfl
   . exact Bs.mpr (.inl k)
   . exact Bs.mpr (.inr k)
  have y:=rZ (p:=2*i) r (ok j b) (m 0 nofun);have u:=rZ (p:=2*i+1) q (ok j b) (m 1 nofun);have:zC (ZC t i) (ZC t j)=w:=by unfold zC ZC;simp only;rw[y,u];exact o
  rw[this];exact e
 intro i h j b d;rcases Nat.lt_or_gt_of_ne d with z | z
 . rw[up i j z b,Nat.testBit_two_pow];simp
 . have hw:=KF (ok j b) (ok i h);rw[og.tn j b i h,up j i z h,kS (ok j b) (ok i h),m4 hw,Nat.testBit_two_pow];simp
theorem oy{c:Nat}{g:IA}{ls:Ms Ln}{t:Nat->Int}(b:∀e∈pC c g ls,AF t e){x:Ln}(a:x∈ls):x.2.1*((2*c+1:Nat):Int)<=t (2*x.1+1)-t (2*x.1)/\t (2*x.1+1)-t (2*x.1)<=x.2.2*((2*c+1:Nat):Int):=by have h:=b (2*x.1,2*x.1+1,-x.2.1*((2*c+1:Nat):Int)) (Bs.mpr (.inl (Bs.mpr (.inr (Ls.mpr ⟨x,a,by simp[RB]⟩)))));have d:=b (2*x.1+1,2*x.1,x.2.2*((2*c+1:Nat):Int)) (Bs.mpr (.inl (Bs.mpr (.inr (Ls.mpr ⟨x,a,by simp[RB]⟩)))));simp![AF,Int.neg_mul]at h d;omega
structure CQ(c:Nat)(ls:List Ln)(f:IA)(gs:List (List aC))(t:Nat->Int):Prop where
 ok:∀i,i<c->MD (ZC t i)
 net:tz c f (ZC t)
 one:∀g∈gs,bU (ZC t) g
 len:∀x∈ls,x.2.1*((2*c+1:Nat):Int)<=t (2*x.1+1)-t (2*x.1)/\t (2*x.1+1)-t (2*x.1)<=x.2.2*((2*c+1:Nat):Int)
theorem LX{c m:Nat}{ls:Ms Ln}:∀(n:Nat)(f:IA)(gs:Ms (Ms aC))(made:Nat)(t:Nat->Int)(sp:Nat),DC c m ls n f gs made (.laid t) sp->WA c f->aw c gs->CQ c ls f gs t
 | 0,_,_,_,_,_,h,_,_=>h.elim
 | n+1,f,gs,made,t,sp,h,of,og=>by
  rcases h with⟨E,g,B,W,d,_⟩ | ⟨E,g,J,h⟩
  . cases d
  . obtain⟨a,C,neg⟩:=J.ok of;obtain⟨I,s0,_,_,rfl⟩:=J;have sub:∀{s:Nat->Int×Int},tz c (MB c I) s->tz c f s:=fun q=>q.on.sub (s0.sub of)
    generalize MB c I=g at a C neg sub h;rcases h with⟨Y,P,k,R,d,_⟩ | ⟨S,r,h⟩
    . cases d
    . rcases h with⟨hs,d,_⟩ | ⟨o,bs,T,hs,h⟩
      . cases d;cases gs with
        | cons grp gs=>simp![KC]at hs;cases hs
        | nil=>
         have lp:wD c g=none:=by
          simp![KC]at hs;cases lp:wD c g with
          | none=>rfl
          | some p=>rw[lp]at hs;cases hs
         exact⟨F0 r,sub (ox a neg lp r),(fun g u=>nomatch u),fun x hx=>oy r hx⟩
      . rcases h with⟨_,d,_⟩ | ⟨_,h⟩
        . cases d
        . have D:=nI a og hs;have go:∀(bs:Ms IA),(∀b∈bs,WA c b)->∀(j:Nat)(e:Ms Tr)(sp:Nat),lE (DC c m ls n) o E gs.tail bs j e (.laid t) sp->∃b∈bs,CQ c ls b gs.tail t:=by
           intro bs
           induction bs with
           | nil=>rintro _ j e sp ⟨q,_⟩;cases q
           | cons b bs ih=>
            intro B j e sp q;rcases q with⟨Q,U,q1,q2⟩ | ⟨q1,q2⟩
            . obtain⟨O,y,k⟩:=ih (fun x hx=>B x (by simp[hx])) _ _ _ q2;exact⟨O,by simp[y],k⟩
            . exact⟨b,by simp,LX n b _ j _ _ q2 (B b ⋯) og.tail⟩
          obtain⟨b,F,K⟩:=go bs D _ _ _ h;cases gs with
          | cons grp gs=>
           simp![KC,Ga,xu]at hs;obtain⟨_,rfl,_⟩:=hs;obtain⟨k,L,rfl⟩:=Bu.mp F;obtain⟨q1,H⟩:=tz.hH K.ok grp (og grp ⋯) g 0 a K.net;refine⟨K.ok,sub q1,fun x hx=>?_,K.len⟩;rcases Bo.mp hx with rfl | hx
           . exact⟨k,Ca.mp L,fun i m M=>by rw[H i m M,Ae]⟩
           . exact K.one x hx
          | nil=>
           simp![KC]at hs;cases lp:wD c g with
           | none=>rw[lp]at hs;cases hs
           | some p=>rw[lp]at hs;simp![Ga,xu]at hs;obtain⟨_,rfl,_⟩:=hs;obtain⟨w,_,rfl⟩:=Bu.mp F;obtain⟨q1,q2⟩:=bn.mp (Ao lp);obtain⟨q3,_⟩:=tz.zev K.ok nofun nofun nofun a K.net;exact⟨K.ok,sub q3,(fun g u=>nomatch u),K.len⟩
def dQ(c:Nat)(s:Nat->Int×Int):sv->Prop
 | .ways m=>kD c m/\yD s m=true
 | .long x=>LU c s x
 | .one g=>(∀m∈g,kD c m)/\bU s g/\g.length<=6
theorem mP{c:Nat}{s:Nat->Int×Int}(ok:∀i,i<c->MD (s i)):∀(fs:Ms sv)(f:IA),(∀x∈fs,dQ c s x)->tz c f s->tz c (FC f fs) s
 | [],f,_,q=>q
 | x::fs,f,h,q=>by
  have j:∀y∈fs,dQ c s y:=fun y n=>h y (by simp[n])
  cases x with
  | ways m=>obtain⟨⟨a,b,d,e⟩,k⟩:=h (.ways m) ⋯;exact mP ok fs _ j (q.nar ok a b d k)
  | long y=>exact mP ok fs _ j q
  | one g=>exact mP ok fs _ j q
theorem wO{c:Nat}:∀(fs:Ms sv)(f:IA),(∀x∈fs,tD c x)->(∀i<c,f i i=64)->∀i<c,FC f fs i i=64
 | [],f,_,q=>q
 | x::fs,f,h,q=>by
  have j:∀y∈fs,tD c y:=fun y k=>h y (by simp[k])
  cases x with
  | ways m=>obtain⟨a,b,d,e⟩:kD c m:=h (.ways m) ⋯;exact wO fs _ j (KS q d _)
  | long y=>exact wO fs _ j q
  | one g=>exact wO fs _ j q
theorem nP:∀{fs:Ms sv}{g:Ms aC},g∈yB fs->sv.one g∈fs
 | [],g,h=>by cases h
 | f::fs,g,h=>by
  cases f with
  | one x=>
   rcases Bo.mp h with rfl | h
   . simp
   . simp[nP h]
  | ways m=>exact ou _ (nP h)
  | long m=>exact ou _ (nP h)
theorem QO:∀{fs:Ms sv}{x:Ln},x∈NC fs->sv.long x∈fs
 | [],g,h=>by cases h
 | f::fs,g,h=>by
  cases f with
  | long x=>
   rcases Bo.mp h with rfl | h
   . simp
   . simp[QO h]
  | ways m=>exact ou _ (QO h)
  | one m=>exact ou _ (QO h)
theorem X7{c:Nat}{s:Nat->Int×Int}(ok:∀i,i<c->MD (s i)):tz c Xe s:=fun i d j b a=>by
 have w:=KF (ok i d) (ok j b);have t:∀k<13,(8191:Nat).testBit k=true:=by decide
 unfold Xe;rw[eH a];exact t _ w
structure zdt(c:Nat)(h:HI)(x:Dt)(ds:List Dt)(fs:List sv):Prop where
 at':x=.lst ds\/∃a,x=.ref a/\h[a]?=ε (.lst ds)
 fa:Yo h ds fs
 ok:∀x∈fs,tD c x
 sg:∀x∈yB fs,x.length<=1000
 len:fs.length<=100
theorem zdt.up{c:Nat}{h h':HI}{x:Dt}{ds:Ms Dt}{fs:Ms sv}(q:zdt c h x ds fs)(u:tj h h'):zdt c h' x ds fs:=
 ⟨q.at'.imp id fun⟨a,e,k⟩=>⟨a,e,u.2 _ _ k⟩,q.fa.up u,q.ok,q.sg,q.len⟩
theorem zdt.lt{c:Nat}{h:HI}{x:Dt}{ds:Ms Dt}{fs:Ms sv}(q:zdt c h x ds fs):ds.length<sizeLine:=by have:=q.len;rw[q.fa.len];simp[sizeLine];omega
inductive Z3(c:Nat)(h:HI)(x:Dt)(ds:List Dt)(fs:List sv)(m:aC):Prop
 | mk (a:Nat) (h':HI) (p0:pK x (.lst [UA m]) h=ε (.ref a,h')) (p1:XH x (.lst [UA m]) h=ε (.lst (ds++[UA m]),h)) (p2:Up h h') (p3:aU c h' a (fs++[.ways m])) (p4:zdt c h (.lst (ds++[UA m])) (ds++[UA m]) (fs++[.ways m])):Z3 c h x ds fs m
theorem zdt.more{c:Nat}{h:HI}{x:Dt}{ds:Ms Dt}{fs:Ms sv}(q:zdt c h x ds fs){m:aC}(g:kD c m)(i:fs.length<=99):Z3 c h x ds fs m:=by
 have lt:=q.fa.len;have b:KA h x=ε ds:=by
  rcases q.at' with rfl | ⟨a,rfl,e⟩
  . rfl
  . exact GG e
 have of:∀fs:Ms sv,yB (fs++[.ways m])=yB fs:=by
  intro fs
  induction fs with
  | nil=>rfl
  | cons f fs ih=>cases f<;>simp[yB,ih]
 have d:ds.length+(0+1)<=sizeLine:=by simp[sizeLine];omega
 have ok:∀y∈fs++[.ways m],tD c y:=fun y hy=>by
  rcases Bs.mp hy with hy | hy
  . exact q.ok y hy
  . rw[Ba.mp hy];exact g
 have sg:∀y∈yB (fs++[.ways m]),y.length<=1000:=fun y hy=>by rw[of]at hy;exact q.sg y hy
 have u:Up h (h++[Ob.lst (ds++[UA m])]):=Up.app _ _;have F:Yo h (ds++[UA m]) (fs++[.ways m]):=q.fa.snoc rfl;refine⟨h.length,h++[.lst (ds++[UA m])],?_,?_,u,⟨⟨_,by simp,F.up u.l⟩,ok,sg,by simp;omega⟩,.inl rfl,F,ok,sg,by simp;omega⟩
 . simp![pK,b,SS,Wa,Ru,Ve,eG d]
 . simp![XH,b,SS,Wa,Ru,Ve,eG d]
theorem OX{s:Nat->Int×Int}:∀(g:Ms aC)(a k:Nat),(∀(i:Nat) m,g[i]?=ε m->yD s m=decide (a+i=k))->(g.map (yD s)).countP (· ==true)=if a<=k/\k<a+g.length then 1 else 0
 | [],a,k,_=>by rw[eH (show ¬(a<=k/\k<a+([]:Ms aC).length) by simp)];rfl
 | m::g,a,k,H=>by
  have d:=H 0 m rfl;have ih:=OX g (a+1) k (fun i x b=>by rw[H (i+1) x (by simpa using b)];congr 1;rw[show a+(i+1)=a+1+i by omega]);rw[Ss,countP_cons,ih,d,Ru];by_cases z:a=k
  . have A:¬(a+1<=k/\k<a+1+g.length):=by omega
    have B:a<=k/\k<a+(g.length+1):=by omega
    have C:decide (a+0=k)=true:=iu nofun;rw[eH A,eG B,C];rfl
  . have C:decide (a+0=k)=false:=fu nofun;by_cases y:a+1<=k/\k<a+1+g.length
    . have B:a<=k/\k<a+(g.length+1):=by omega
      rw[eG y,eG B,C];rfl
    . have B:¬(a<=k/\k<a+(g.length+1)):=by omega
      rw[eH y,eH B,C];rfl
theorem Pg{c:Nat}(q:1<=c){t:Nat->Int}(ok:∀i,i<c->MD (ZC t i)):(List.range c).map (fun k=>lB (2*c) t (2*k)) ≠ []/\TB ((List.range c).map fun k=>lB (2*c) t (2*k))=0:=by
 obtain⟨h,g⟩:=Gf (n:=2*c) nofun t;have ne:(List.range c).map (fun k=>lB (2*c) t (2*k)) ≠ []:=fun z=>by have:=congrArg List.length z;simp at this;omega
 refine⟨ne,?_⟩;obtain⟨d,b⟩:=lG _ h;obtain⟨m,j⟩:=lG _ ne;rw[g]at d b;obtain⟨p,hp,r⟩:=Bu.mp d;obtain⟨k,a,s⟩:=Bu.mp m;have hp:=Ca.mp hp;have a:=Ca.mp a;have y:=b (lB (2*c) t (2*k)) (mem_map_of_mem (Ca.mpr nofun));have x:=j (lB (2*c) t (2*(p/2))) (Bu.mpr ⟨p/2,Ca.mpr nofun,rfl⟩);have u:lB (2*c) t (2*(p/2))<=lB (2*c) t p:=by
  rcases(show p=2*(p/2)\/p=2*(p/2)+1 by omega)with z | z
  . rw[<- z];exact Int.le_refl _
  . have o:=ok (p/2) nofun;have e:t (2*(p/2))<t (2*(p/2)+1):=o;rw[<- z]at e;unfold lB;omega
 omega
theorem fZ{c:Nat}{t:Nat->Int}(n:Nat)(ok:∀i,i<c->MD (ZC t i)):∀i,i<c->MD (ZC (lB n t) i):=fun i a=>by have:t (2*i)<t (2*i+1):=ok i a;show lB n t (2*i)<lB n t (2*i+1);unfold lB;omega
theorem Pr(x a b d:Int):sC (x-d) (a-d) (b-d)=sC x a b:=by have j:(x-d<a-d)=(x<a):=propext ⟨fun h=>by omega,fun h=>by omega⟩;have i:(x-d=a-d)=(x=a):=propext ⟨fun h=>by omega,fun h=>by omega⟩;have g:(x-d<b-d)=(x<b):=propext ⟨fun h=>by omega,fun h=>by omega⟩;have e:(x-d=b-d)=(x=b):=propext ⟨fun h=>by omega,fun h=>by omega⟩;unfold sC;simp![j,i,g,e]
theorem rm(t:Nat->Int)(n i j:Nat):zC (ZC (lB n t) i) (ZC (lB n t) j)=zC (ZC t i) (ZC t j):=by unfold zC ZC lB;simp![Pr]
theorem bP{c:Nat}{s:Nat->Int×Int}(ok:∀i,i<c->MD (s i)):∀(fs:Ms sv)(_:∀x∈fs,tD c x)(f:IA),WA c f->tz c (FC f fs) s->tz c f s/\∀m,sv.ways m∈fs->yD s m=true
 | [],_,f,_,q=>⟨q,fun m n=>by cases n⟩
 | x::fs,h,f,o,q=>by
  have k:∀y∈fs,tD c y:=fun y j=>h y (by simp[j])
  cases x with
  | ways m=>
   obtain⟨a,b,d,e⟩:kD c m:=h (.ways m) ⋯;obtain⟨q1,H⟩:=bP ok fs k (vB f m.1 m.2.1 m.2.2) (wH o a b d _) q;obtain⟨q2,p⟩:=q1.zev ok a b d o;refine⟨q2,fun y j=>?_⟩;rcases Bo.mp j with z | z
   . cases z;exact p
   . exact H y z
  | long y=>obtain⟨q1,H⟩:=bP ok fs k f o q;exact⟨q1,fun y j=>(Bo.mp j).elim (fun z=>by cases z) (H y)⟩
  | one g=>obtain⟨q1,H⟩:=bP ok fs k f o q;exact⟨q1,fun y j=>(Bo.mp j).elim (fun z=>by cases z) (H y)⟩
theorem oX(t:Nat->Int)(n:Nat)(m:aC):yD (ZC (lB n t)) m=yD (ZC t) m:=by unfold yD;rw[rm]
def cn(lo:Nat)(h:HI)(d:Dt):sv->Prop
 | .one g=>∃n,d=.tup [.str "one", .ref n]/\lo<=n/\h[n]?=ε (.lst (g.map UA))/\g.length<=6
 | f=>ay h d f
theorem cn.at{lo:Nat}{h:HI}{d:Dt}{f:sv}(q:cn lo h d f):ay h d f:=by
 cases f with
 | one g=>obtain⟨n,e,_,q,_⟩:=q;exact⟨_,e,n,rfl,q⟩
 | ways m=>exact q
 | long x=>exact q
theorem cn.up{lo a:Nat}(b:a<=lo){h h':HI}(u:IQ lo h h'){d:Dt}{f:sv}(q:cn lo h d f):cn a h' d f:=by
 cases f with
 | one g=>obtain⟨n,e,l,q,s⟩:=q;exact⟨n,e,by omega,u _ _ l q,s⟩
 | ways m=>exact q
 | long x=>exact q
inductive ba(lo:Nat)(h:HI):List Dt->List sv->Prop where
 | nil:ba lo h [] []
 | cons {d:Dt} {f:sv} {ds:List Dt} {fs:List sv} (a:cn lo h d f) (r:ba lo h ds fs):ba lo h (d::ds) (f::fs)
theorem ba.up{lo b:Nat}(d:b<=lo){h h':HI}(u:IQ lo h h'){ds:Ms Dt}{fs:Ms sv}(q:ba lo h ds fs):ba b h' ds fs:=by
 induction q with
 | nil=>exact .nil
 | cons a r ih=>exact .cons (a.up d u) ih
theorem ba.at{lo:Nat}{h:HI}{ds:Ms Dt}{fs:Ms sv}(q:ba lo h ds fs):Yo h ds fs:=by
 induction q with
 | nil=>exact .nil
 | cons a r ih=>exact .cons a.at ih
theorem ba.snoc{lo:Nat}{h:HI}{ds:Ms Dt}{fs:Ms sv}(q:ba lo h ds fs){d:Dt}{f:sv}(a:cn lo h d f):ba lo h (ds++[d]) (fs++[f]):=by
 induction q with
 | nil=>exact .cons a .nil
 | cons b r ih=>exact .cons b ih
theorem Zt{i j:Nat}(b:i<13)(a:j<13)(h:HI):UO [.int i,.int j] h=ε (.int (CH i j),h):=by obtain⟨r,d,e2⟩:=u4 b a;simp[UO,SX,d,e2]
theorem V2(m:Nat):∀(xs:Ms Nat)(a:Nat),((xs.foldl (fun a x=>if m.testBit x=true then a+2^(12-x)else a) a:Nat):Int)=a+((xs.filter fun x=>m.testBit x).map fun k=>(2:Int)^(12-k)).sum
 | [],a=>by simp
 | x::xs,a=>by
  rw[foldl_cons,V2 m xs,filter_cons];by_cases q:m.testBit x=true
  . rw[eG q,eG q,Ss,sum_cons];have:((a+2^(12-x):Nat):Int)=a+(2:Int)^(12-x):=by simp
    omega
  . rw[eH q,eH q]
theorem oz(m:Nat):(List.range 13).foldl (fun a x=>if m.testBit x=true then a+2^(12-x)else a) 0=Xi m:=by have:=V2 m (List.range 13) 0;rw[iZ]at this;have e:mk (fun j=>m.testBit (12-j))=Xi m:=rfl;rw[e]at this;omega
theorem yr(m:Nat)(h:HI):LN [.int m] h=ε (.int (Xi m),h):=by
 obtain⟨q,d,e,⟨z,rfl⟩,rfl⟩:=MJ (i:=2) (body:=VN) (fun(k:Nat)=>Dt.int (k:Int)) (fun(a:Nat) l d=>(∃z,l=[ε (.int m),ε (.int a),z])/\d=h) (fun a x=>if m.testBit x=true then a+2^(12-x)else a) (List.range 13) (by
  rintro k j a l h ⟨⟨z,rfl⟩,rfl⟩;have j:=Ca.mp j;have o:(12-(k:Int))=((12-k:Nat):Int):=by omega
  have g:=NI (h:=h) (TH (show 12-k<13 by omega));simp![n7]at g;have b:=EI m k;refine⟨.nx [ε (.int m),ε (.int ((if m.testBit k=true then a+2^(12-k)else a:Nat):Nat)),ε (.int k)] h,?_,⟨_,rfl⟩,rfl⟩;simp![VN,XA,JA,wA,kA,sA,Ti,Va,Ra,Ri,nA,dA,JH (show(0:Int)<=(k:Int) by omega),n7,ME,LC,OA,b,o,SD,g,bB,yC,Int.one_mul,BB];by_cases n:m.testBit k=true<;>simp[n]) 0 [ε (.int m),ε (.int 0),none] h ⟨⟨none,rfl⟩,rfl⟩
 rw[oz]at e;have p:zB (rA 2) VN (List.map (fun(k:Nat)=>Dt.int (k:Int)) (List.range 13)) [ε (.int m),ε (.int 0),none] d=ε (.nx [ε (.int m),ε (.int (Xi m)),z] d):=e;simp[LN,jW,aV,p]
def pB:Ms Dt:=(List.range 169).map fun k=>.int (CH (k/13) (k%13):Nat)
theorem Jx{i j:Nat}(b:i<13)(a:j<13):pB[13*i+j]?=ε (.int (CH i j:Nat)):=by unfold pB;rw[wu,Ma nofun,Vi,show(13*i+j)/13=i by omega,show(13*i+j)%13=j by omega]
theorem Xb(h:HI):lO [] h=ε (.lst pB,h):=by
 have d:=fun(i:Int) (h:HI)=>SE (h:=h) (i:=i) (j:=13) ⟨by decide,by decide⟩
 have m:=fun(x:Int) (h:HI)=>LD (h:=h) (i:=x) (show(0:Int)<13 by decide)
 have n:=XF (te:=XN) (i:=0) (tc:=nB) (fun(k:Nat)=>Dt.int (k:Int)) (fun k=>.int (CH (k/13) (k%13):Nat)) h (List.range 169) [none] (by
  intro k a;have a:=Ca.mp a;have e:=Zt (i:=k/13) (j:=k%13) nofun (Je _ (by decide)) h;refine⟨rfl,?_⟩;simp![XN,QA,DA,BA,wA,kA,sA,Ti,Ra,nA,dA,d,m,Us];exact e)
 have b:=UD (l:=[none]) (h:=h) (rA 0) nB XN (xs:=(List.range 169).map fun(k:Nat)=>Dt.int (k:Int)) (by rw[ni,Fi];decide);rw[n]at b;have g:yQ (.int 169,h)=ε (.vals ((List.range 169).map fun(k:Nat)=>Dt.int (k:Int)),h):=oE (by decide) (by decide);simp![lO,ZV,eB,Ve,eN,jB,nE,YD,sA,dA,g,fD,eD,b,uB,Vs,Ds,List.replicate,Us];rfl
theorem oD{i:Nat}(p:i<13)(b m:Nat)(x y z w:Ni Dt)(h:HI):∃n,zB (rA 6) QN ((vA b).map fun(k:Nat)=>Dt.int (k:Int)) [ε (.lst pB),x,y,ε (.int (m:Nat)),ε (.int (i:Nat)),z,w] h=ε (.nx [ε (.lst pB),x,y,ε (.int (kJ (CH i) (vA b) m:Nat)),ε (.int (i:Nat)),z,n] h):=by
 obtain⟨q,g,e,⟨n,rfl⟩,rfl⟩:=MJ (i:=6) (body:=QN) (fun(k:Nat)=>Dt.int (k:Int)) (fun(a:Nat) l g=>(∃n,l=[ε (.lst pB),x,y,ε (.int (a:Nat)),ε (.int (i:Nat)),z,n])/\g=h) (fun a j=>a|||CH i j) (vA b) (by
  rintro j o a l g ⟨⟨n,rfl⟩,rfl⟩;have o:=(am.mp o).1;have u:=UC (h:=g) (i:=13) (j:=(i:Int)) (Or.inl ⟨by decide,by decide⟩);have c:(13*(i:Int)+(j:Int))=((13*i+j:Nat):Int):=rfl;have ix:pA (.lst pB) (.int ((13*i+j:Nat):Int)) g=ε (.int (CH i j:Nat),g):=by rw[show pA (.lst pB) (.int ((13*i+j:Nat):Int)) g=(L2.atI pB ((13*i+j:Nat):Int)).map fun d=>(d,g)from rfl,SM.YC,Jx p o];rfl
  refine⟨.nx [ε (.lst pB),x,y,ε (.int ((a|||CH i j:Nat):Nat)),ε (.int (i:Nat)),z,ε (.int (j:Nat))] g,?_,⟨_,rfl⟩,rfl⟩;simp![QN,bB,wA,kA,sA,Ti,Va,Ra,Ri,nA,dA,u,yC,c,ix,hU,FP]) m [ε (.lst pB),x,y,ε (.int (m:Nat)),ε (.int (i:Nat)),z,w] h ⟨⟨_,rfl⟩,rfl⟩
 exact⟨n,e⟩
theorem qY(m:Nat)(F:Nat->Nat->Nat):∀(xs:Ms Nat)(a:Nat),xs.foldl (fun a i=>if m.testBit i=true then F a i else a) a=(xs.filter fun i=>m.testBit i).foldl F a
 | [],a=>rfl
 | x::xs,a=>by
  rw[foldl_cons,qY m F xs,filter_cons];by_cases q:m.testBit x=true
  . rw[eG q,eG q,foldl_cons]
  . rw[eH q,eH q]
theorem V0(a b:Nat)(h:HI):wL [.lst pB,.int (a:Nat),.int (b:Nat)] h=ε (.int (chS a b:Nat),h):=by
 have o:=ZL (te:=AR) (i:=0) (tc:=PN) (fun(k:Nat)=>Dt.int (k:Int)) (fun k=>b.testBit k) (fun(k:Nat)=>Dt.int (k:Int)) h (List.range 13) [none,ε (.int (b:Nat))] (by
  intro k _;have g:=EI b k;refine⟨?_,fun v=>rfl⟩;simp![PN,JA,wA,kA,sA,Ti,Ra,Ri,nA,dA,JH (show(0:Int)<=(k:Int) by omega),n7,ME,LC,OA,g])
 have m:=UD (l:=[none,ε (.int (b:Nat))]) (h:=h) (rA 0) PN AR (xs:=(List.range 13).map fun(k:Nat)=>Dt.int (k:Int)) (J6 _);rw[o]at m;obtain⟨p,d,e,⟨z,w,rfl⟩,rfl⟩:=MJ (i:=4) (body:=mL) (fun(k:Nat)=>Dt.int (k:Int)) (fun(c:Nat) l d=>(∃z w,l=[ε (.lst pB),ε (.int (a:Nat)),ε (.int (b:Nat)),ε (.int (c:Nat)),z,ε (.lst ((vA b).map fun(k:Nat)=>Dt.int (k:Int))),w])/\d=h) (fun c i=>if a.testBit i=true then kJ (CH i) (vA b) c else c) (List.range 13) (by
  rintro i j c l d ⟨⟨z,w,rfl⟩,rfl⟩;have j:=Ca.mp j;have g:=EI a i;obtain⟨n,e⟩:=oD j b c (ε (.int (a:Nat))) (ε (.int (b:Nat))) (ε (.lst ((vA b).map fun(k:Nat)=>Dt.int (k:Int)))) w d;by_cases q:a.testBit i=true
  . rw[eG q];refine⟨.nx _ d,?_,⟨ε (.int (i:Nat)),n,rfl⟩,rfl⟩;simp![mL,XA,JA,wA,kA,sA,Ti,Va,Ra,Ri,nA,dA,JH (show(0:Int)<=(i:Int) by omega),n7,ME,LC,OA,g,q,eN,XB,rC,WF,PC];exact e
  . rw[eH q];refine⟨.nx _ d,?_,⟨ε (.int (i:Nat)),w,rfl⟩,rfl⟩;simp![mL,XA,JA,wA,kA,sA,Ti,Va,Ra,Ri,nA,dA,JH (show(0:Int)<=(i:Int) by omega),n7,ME,LC,OA,g,q,Wo,eO,BB]) 0 [ε (.lst pB),ε (.int (a:Nat)),ε (.int (b:Nat)),ε (.int 0),none,ε (.lst ((vA b).map fun(k:Nat)=>Dt.int (k:Int))),none] h ⟨⟨none,none,rfl⟩,rfl⟩
 rw[qY a (fun c i=>kJ (CH i) (vA b) c)]at e;simp![wL,sW,eB,Ru,Ve,eN,Ss,Vs,Nat.reduceAdd,Nat.reduceSub,List.replicate,Wu,Vu,EA,bB,sA,dA,NA,Ti,Va,nE,YD,aV,fD,FG,eD,Ra,Ri,Ku,m,XB,PC];show TD (mB (zB (rA 4) mL (List.map (fun(k:Nat)=>Dt.int (k:Int)) (List.range 13)) [ε (.lst pB),ε (.int (a:Nat)),ε (.int (b:Nat)),ε (.int 0),none,ε (.lst ((vA b).map fun(k:Nat)=>Dt.int (k:Int))),none] d) _)=_;rw[e];rfl
theorem KO{h:HI}{b c:Nat}{f:Nat->Nat->Nat}(N:Uu h b c f)(q:c<=1000){i j:Nat}(a:i<c)(d:j<c)(m:Nat) :
 fI [.ref (b+c),.int (i:Nat),.int (m:Nat),.int (j:Nat)] h=ε (.ref (h.length+c),h++lC h.length c (vB f i m j)):=by
 have u:=eS (te:=rV) rfl N q [none] ⋯;have x:=N.grow (lC h.length c f);have M1:=qE h c f;have M2:=qE h c (EB f i j (f i j&&&m));have p:=zO h a f j (f i j&&&m);have o:=zO h d (EB f i j (f i j&&&m)) i (Xi (f i j&&&m));have g:=yr (f i j&&&m) (h++lC h.length c (EB f i j (f i j&&&m)));have n:=fun(l:LI)=>QJ (l:=l) (v:=.int ((f i j&&&m:Nat):Nat)) (M1.row i a) (show j<(vC c (f i)).length by rw[PJ];exact d)
 have k:=fun(l:LI)=>QJ (l:=l) (v:=.int ((Xi (f i j&&&m):Nat):Nat)) (M2.row j d) (show i<(vC c (EB f i j (f i j&&&m) j)).length by rw[PJ];exact a)
 have e:=M2.ix2 a d;rw[sZ]at e;have r:(h++(List.range c).map fun i=>Ob.lst (vC c (f i)))++[Ob.lst (bF h.length c)]=h++lC h.length c f:=by rw[su];rfl
 have s:(h++(List.range c).map fun i=>Ob.lst (vC c (f i))).length=h.length+c:=by simp
 dsimp![fI,CV,EA,bB,mI,rC,Ss,Vs,Wu,Vu,Ri,N.seq,fD,eD,u,r,s,NA,Va,Ti,rT,wA,x.ix a,M1.ix2 a d,M1.ix a,ME,sH,n,p,QA,DA,BA,M2.ix a,e,Us,g,M2.ix d,k,o,jB,uB];rfl
theorem ZW{h:HI}{b c:Nat}{f:IA}(N:Uu h b c f)(x:Ni Dt):∀(m k:Nat)(y:Ni Dt),k+m=c->(∀i<k,((List.range c).any fun j=>f i j==0)=false)->
 (wB c f=true/\iC (rA 1) tL (.rf (b+c)) (m+1) k [x,y] h=ε (.rt (.bl true) h))\/(wB c f=false/\∃n,iC (rA 1) tL (.rf (b+c)) (m+1) k [x,y] h=ε (.nx [x,n] h))
 | 0,k,y,e,H=>by
  have o:k=c:=by omega
  subst o;refine .inr ⟨?_,y,?_⟩
  . cases q:wB k f with
    | false=>rfl
    | true=>unfold wB at q;obtain⟨i,g,q⟩:=any_eq_true.mp q;rw[H i (Ca.mp g)]at q;cases q
  . unfold iC;simp![th.at,N.top,ju (Nat.le_of_eq (RJ b k))]
 | m+1,k,y,e,H=>by
  have d:k<c:=by omega
  have a:=B2 c (f k) 0 (N.row k d);simp![Hu]at a;unfold iC;simp![th.at,N.top,VL d,VD,Wa,Va,Ti];cases q:(List.range c).any fun j=>f k j==0 with
  | true=>rw[q]at a;refine .inl ⟨any_eq_true.mpr ⟨k,Ca.mpr d,q⟩,?_⟩;simp![tL,XA,JA,wA,sA,kA,Ra,Ri,nA,dA,a,OA,eN,jB,Wa]
  | false=>
   rw[q]at a;have ih:=ZW N x m (k+1) (ε (.ref (b+k))) nofun (fun i g=>by
    rcases Nat.lt_or_ge i k with z | z
    . exact H i z
    . rw[show i=k by omega];exact q)
   simp![tL,XA,JA,wA,sA,kA,Ra,Ri,nA,dA,a,OA,Wo,eO,BB,Wa];exact ih
theorem ES{h:HI}{b c:Nat}{f:IA}(N:Uu h b c f):oH [.ref (b+c)] h=ε (.bl (wB c f),h):=by
 have a:th.fuel (.rf (b+c)) h=c+1:=by simp![th.fuel,N.top,RJ]
 rcases ZW N (ε (.ref (b+c))) c 0 none nofun (fun i d=>Ei d (Nat.not_lt_zero i))with⟨e,q⟩ | ⟨e,y,q⟩
 . rw[e];dsimp![oH,FR,Ss,Vs,Wu,Vu,EA,XB,rC,N.seq];unfold ND;rw[a,q];rfl
 . rw[e];dsimp![oH,FR,Ss,Vs,Wu,Vu,EA,XB,rC,N.seq];unfold ND;rw[a,q];rfl
theorem bM(i:Int)(h:HI):pH [.int i] h=ε (.bl true,h):=by simp[pH,bW]
noncomputable abbrev HQ:=Nat×Nat×Nat
theorem Gz{a b c:Int}(h1:a≠b)(h2:b≠c)(h:a≠c):(iE [a,b,c]).length=3:=by
 have g:¬b=a:=fun z=>h1 z.symm
 have e:¬c=b:=fun z=>h2 z.symm
 have d:¬c=a:=fun z=>h z.symm
 simp[iE,g,e,d]
theorem AS{c i:Nat}(d:i<c)(x0 y:Ni Dt)(h:HI):vR ([x0,ε (.int (c:Nat)),y].set 2 (ε (.int (i:Nat)))) h=ε (.nx [x0,ε (.int (c:Nat)),ε (.int (i:Nat))] h):=by have a:decide ((0:Int)<=(i:Int))=true:=iu nofun;have b:decide ((i:Int)<(c:Int))=true:=iu nofun;simp![vR,Va,Ti,XA,UE,uE,JA,QA,DA,BA,kA,sA,pT,Ra,Ri,nA,dA,Us,bM,OA,vo,Wo,eO,iJ,a,NT,eN,jJ,b,BB]
theorem Yb{c i k j:Nat}(d:nF i k j)(e:i<c)(a:k<c)(b:j<c)(h:HI):mO [CC i k j,.int (c:Nat)] h=ε (.bl true,h):=by
 have fs:ZO (.tup [.int (i:Nat),.int (k:Nat),.int (j:Nat)]) h=ε (.int 3,h):=by simp![ZO,BC,Wa,Vi];rw[eG (show [(i:Int),(k:Int),(j:Int)].length+1<4096 by simp),Gz (by have:=d.1;omega) (by have:=d.2.1;omega) (by have:=d.2.2;omega)];rfl
 have g:decide ((3:Int)=3)=true:=rfl;unfold CC;dsimp![mO,aW,Ss (f:=some),Vs (f:=some),Wu,Vu,EA,XA,UE,uE,JA,MH,wA,fC,sA,Ri,Z2,Vi,show UI "tuple" "tuple" =true from rfl,OA,vo,Wo,eO,jK,fs,aE,Hu,decide_true,BB,NA,XB,J8,Nm,PC,zB,VD,Wa,AS e,AS a,AS b,mK,jB,uB]
theorem Yp(f:IA)(i k j:Nat):vB f i (chS (f i k) (f k j)) j=gC f i k j:=by unfold gC vB Ws;rw[<- Nat.and_assoc,Nat.and_self]
def bJ(c:Nat):IA->Ms HQ->Prop
 | _,[]=>True
 | f,(i,k,j)::st=>(wB c f=false/\i<c/\k<c/\j<c/\nF i k j/\Ws f i k j≠f i j)/\bJ c (gC f i k j) st
def RM:IA->Ms HQ->IA
 | f,[]=>f
 | f,(i,k,j)::st=>RM (gC f i k j) st
theorem zZ{c i k j:Nat}:∀(st:Ms HQ)(f:IA),bJ c f st->(wB c (RM f st)=false/\i<c/\k<c/\j<c/\nF i k j/\Ws (RM f st) i k j≠RM f st i j)->bJ c f (st++[(i,k,j)])/\RM f (st++[(i,k,j)])=gC (RM f st) i k j
 | [],f,_,q=>⟨⟨q,trivial⟩,rfl⟩
 | (a,b,d)::st,f,h,q=>by obtain⟨x,y⟩:=zZ st (gC f a b d) h.2 q;exact⟨⟨h.1,x⟩,y⟩
theorem B3{c:Nat}{f g:IA}{st:Ms HQ}(S:ti c f st g):bJ c f st/\RM f st=g:=by
 induction S with
 | nil=>exact⟨trivial,rfl⟩
 | snoc h j e i d ne n ih=>obtain⟨a,b⟩:=ih;rw[<- b]at ne n ⊢;exact zZ _ _ a ⟨ne,j,e,i,d,n⟩
theorem Vd{h:HI}{b c:Nat}{f:IA}(N:Uu h b c f)(D:c<=100){i k j:Nat}(ne:wB c f=false)(a:i<c)(g:k<c)(m:j<c)(d:nF i k j)(n:Ws f i k j≠f i j)(e B u s r o:Ni Dt) :
 UN ([ε (.lst pB),ε (.ref (b+c)),e,B,u,s,r,o].set 3 (ε (CC i k j))) h=ε (.nx [ε (.lst pB),ε (.ref (h.length+c)),e,ε (CC i k j),ε (.int (i:Nat)),ε (.int (k:Nat)),ε (.int (j:Nat)),ε (.int (chS (f i k) (f k j):Nat))] (h++lC h.length c (gC f i k j))):=by
 have y:=ES N;rw[ne]at y;have p:=Yb d a g m h;have C:=V0 (f i k) (f k j) h;have x:=KO N nofun a m (chS (f i k) (f k j));rw[Yp]at x;have q:decide (((f i j&&&chS (f i k) (f k j):Nat):Int)=((f i j:Nat):Int))=false:=fu (fun z=>n (Int.natCast_inj.mp z));have g3:GI 4 5 6 (CC i k j) [ε (.lst pB),ε (.ref (b+c)),e,ε (CC i k j),u,s,r,o]=ε [ε (.lst pB),ε (.ref (b+c)),e,ε (CC i k j),ε (.int (i:Nat)),ε (.int (k:Nat)),ε (.int (j:Nat)),o]:=rfl;simp![UN,Va,Ti,EA,XA,UE,uE,JA,QA,DA,BA,fC,wA,kA,sA,Ra,Ri,nA,dA,Us,y,N.len,p,OA,vo,Wo,eO,BB,NA,Yj,g3,bB,N.ix a,N.ix g,N.ix2 a g,N.ix2 g m,N.ix2 a m,C,ME,sH,LC,q,x]
theorem MO{h:HI}{b c s:Nat}{f:IA}(N:Uu h b c f)(L:c<=100){st:Ms HQ}(hs:h[s]?=ε (.lst (st.map rD)))(S:bJ c f st) :
 ∃(e:HI)(u:Nat),kG [.lst pB,.ref (b+c),.ref s] h=ε (.ref (u+c),h++e)/\Uu (h++e) u c (RM f st):=by
 obtain⟨P,Q,w,e,u,R,q,p,o,g,a,rfl,rfl,M,T,g2⟩:=rK (i:=3) (n:=s) (body:=UN) rD (fun k l H=>∃(e:HI)(x:Nat)(r:IA)(q p o g a:Ni Dt),H=h++e/\l=[ε (.lst pB),ε (.ref (x+c)),ε (.ref s),q,p,o,g,a]/\Uu H x c r/\bJ c r (st.drop k)/\RM r (st.drop k)=RM f st) st (by
  rintro k l H ⟨e,x,r,q,p,o,g,a,rfl,_⟩;rw[Xo (Wi hs).1];exact hs) (by
  rintro k ⟨i,m,j⟩ E l H ⟨e,x,r,q,p,o,g,a,rfl,rfl,O,y,B⟩;obtain⟨D,C⟩:=Wi E;rw[Aa D,C]at y B;obtain⟨⟨ne,J,F,I,d,n⟩,y⟩:=y;exact⟨_,Vd O L ne J F I d n (ε (.ref s)) q p o g a,_,_,_,_,_,_,_,_,su _ _ _,rfl,qE _ c _,y,B⟩) [ε (.lst pB),ε (.ref (b+c)),ε (.ref s),none,none,none,none,none] h ⟨[],b,f,_,_,_,_,_,(Us h).symm,rfl,N,S,rfl⟩
 rw[drop_length]at g2;refine⟨e,u,?_,by rw[<- g2];exact M⟩;dsimp![kG,iW,Ss (f:=some),Vs (f:=some),Wu,Vu,EA,XA,uE,JA,MH,sA,Ri,YT hs,Vi,show UI "list" "list" =true from rfl,OA,vo,Wo,eO,BB,NA,XB,rC,PD hs,w,jB,uB]
theorem BI{c:Nat}(b:c<=100)(h:HI):yQ (.int (c:Nat),h)=ε (.vals ((List.range c).map fun(k:Nat)=>Dt.int (k:Int)),h):=by have a:=oE (h:=h) (show(-(2^62):Int)<=(c:Int) by omega) (show(c:Int)<2^62 by omega);simp![n7]at a;exact a
theorem F1{c i:Nat}(a:i<c)(b:c<=100)(h:HI):Z6 (.int ((i:Int)+1)) (.int (c:Nat),h)=ε (.vals ((List.range (c-i-1)).map fun(k:Nat)=>Dt.int ((i+1+k:Nat):Int)),h):=by rw[vZ (h:=h) (i:=(i:Int)+1) (j:=(c:Int)) nofun nofun nofun nofun,show((c:Int)-((i:Int)+1)).toNat=c-i-1 by omega];rfl
section
variable{h:HI}{b c:Nat}{g:IA}
theorem Rt(N:Uu h b c g)(s:dE c g){i j k:Nat}(e:i<c)(n:j<c)(q:i≠j)(a:k<c)(p m:Ni Dt) :
 ∃y,sJ ([ε (.lst pB),ε (.ref (b+c)),ε (.int (i:Nat)),ε (.int (j:Nat)),p,m].set 4 (ε (.int (k:Nat)))) h=ε (.nx [ε (.lst pB),ε (.ref (b+c)),ε (.int (i:Nat)),ε (.int (j:Nat)),ε (.int (k:Nat)),y] h):=by
 by_cases q1:k=i
 . have d:decide ((k:Int)=(i:Int))=true:=iu nofun;refine⟨m,?_⟩;simp![sJ,Va,Ti,XA,QG,JA,wA,kA,Ra,Ri,nA,dA,aE,d,vo,OA,Wo,eO,BB]
 . have o:decide ((k:Int)=(i:Int))=false:=fu nofun;by_cases q2:k=j
   . have d:decide ((k:Int)=(j:Int))=true:=iu nofun;refine⟨m,?_⟩;simp![sJ,Va,Ti,XA,QG,JA,wA,kA,Ra,Ri,nA,dA,aE,o,d,vo,vm,OA,eN,Wo,eO,BB]
   . have d:decide ((k:Int)=(j:Int))=false:=fu nofun;have r:=V0 (g i k) (g k j) h;have z:g i j&&&chS (g i k) (g k j)=g i j:=s i e k a j n ⟨fun z=>q1 z.symm,q2,q⟩;refine⟨ε (.int (chS (g i k) (g k j):Nat)),?_⟩;simp![sJ,Va,Ti,EA,XA,QG,JA,QA,DA,BA,wA,kA,Ra,Ri,nA,dA,Us,aE,o,d,vm,OA,eN,bB,NA,N.ix e,N.ix a,N.ix2 e a,N.ix2 a n,N.ix2 e n,r,ME,sH,z,decide_true,vo,Wo,eO,BB]
theorem Jg(N:Uu h b c g)(x:dE c g)(u:c<=100){i j:Nat}(s:i<c)(r:j<c)(p:i≠j)(o n m:Ni Dt) :
 ∃y a,HN ([ε (.lst pB),ε (.ref (b+c)),ε (.int (i:Nat)),o,n,m].set 3 (ε (.int (j:Nat)))) h=ε (.nx [ε (.lst pB),ε (.ref (b+c)),ε (.int (i:Nat)),ε (.int (j:Nat)),y,a] h):=by
 obtain⟨B,d,e,⟨y,a,rfl⟩,rfl⟩:=HE (i:=4) (body:=sJ) (fun(k:Nat)=>Dt.int (k:Int)) (fun k l d=>(∃y a,l=[ε (.lst pB),ε (.ref (b+c)),ε (.int (i:Nat)),ε (.int (j:Nat)),y,a])/\d=h) c (by
  rintro k q l d ⟨⟨y,a,rfl⟩,rfl⟩;obtain⟨z,e⟩:=Rt N x s r p q y a;exact⟨_,e,⟨_,_,rfl⟩,rfl⟩) [ε (.lst pB),ε (.ref (b+c)),ε (.int (i:Nat)),ε (.int (j:Nat)),n,m] h ⟨⟨_,_,rfl⟩,rfl⟩
 refine⟨y,a,?_⟩;simp![HN,Va,Ti,XB,YD,fC,kA,Ra,Ri,nA,dA,N.len,BI u,PC];exact e
theorem jr(N:Uu h b c g)(x:dE c g)(r:c<=100):aL [.lst pB,.ref (b+c)] h=ε (.bl true,h):=by
 obtain⟨u,m,e,⟨y,p,o,n,rfl⟩,rfl⟩:=HE (i:=2) (body:=oR) (fun(k:Nat)=>Dt.int (k:Int)) (fun k l m=>(∃y p o n,l=[ε (.lst pB),ε (.ref (b+c)),y,p,o,n])/\m=h) c (by
  rintro i s l m ⟨⟨y,p,o,n,rfl⟩,rfl⟩;obtain⟨u,q,e,⟨j,d,a,rfl⟩,rfl⟩:=HE (i:=3) (body:=HN) (fun(k:Nat)=>Dt.int ((i+1+k:Nat):Int)) (fun k l q=>(∃j d a,l=[ε (.lst pB),ε (.ref (b+c)),ε (.int (i:Nat)),j,d,a])/\q=m) (c-i-1) (by
   rintro k C l q ⟨⟨j,d,a,rfl⟩,rfl⟩;obtain⟨z,B,e⟩:=Jg N x r s (show i+1+k<c by omega) nofun j d a;exact⟨_,e,⟨_,_,_,rfl⟩,rfl⟩) [ε (.lst pB),ε (.ref (b+c)),ε (.int (i:Nat)),p,o,n] m ⟨⟨_,_,_,rfl⟩,rfl⟩
  refine⟨.nx _ q,?_,⟨ε (.int (i:Nat)),j,d,a,rfl⟩,rfl⟩;simp![oR,Va,Ti,XB,nU,wA,fC,kA,sA,Ra,Ri,nA,dA,yC,N.len,F1 s r,PC];exact e) [ε (.lst pB),ε (.ref (b+c)),none,none,none,none] h ⟨⟨_,_,_,_,rfl⟩,rfl⟩
 dsimp![aL,HV,Ss (f:=some),Vs (f:=some),Wu,Vu,EA,XB,YD,fC,sA,Ri,N.len,BI r,PC];rw[e];rfl
theorem o1:∀k<13,vA (2^k)=[k]:=by decide +kernel
theorem zm(x:Nat)(lt:x<8192)(i:x≠0):decide (1<(vA x).length)=!decide (x&&&(x-1)=0):=by
 have d:x&&&(x-1)=0 ↔ ¬1<(vA x).length:=by
  rw[Nat.and_sub_one_eq_zero_iff_isPowerOfTwo i];constructor
  . rintro⟨k,rfl⟩;have a:k<13:=(Nat.pow_lt_pow_iff_right (show 1<2 by decide)).mp (show 2^k<2^13 from lt);rw[o1 k a];simp
  . intro q;cases e:vA x with
    | nil=>
     exfalso;apply i;refine nG lt (by decide) fun k a=>?_
     rw[Nat.zero_testBit];cases z:x.testBit k with
     | false=>rfl
     | true=>have:=am.mpr ⟨a,z⟩;rw[e]at this;cases this
    | cons k m=>
     cases m with
     | cons _ _=>rw[e]at q;simp at q
     | nil=>
      have a:=am.mp (show k∈vA x by rw[e];simp);refine⟨k,nG lt (Nat.pow_lt_pow_right (by decide) a.1:2^k<2^13) fun j n=>?_⟩;rw[Nat.testBit_two_pow];cases z:x.testBit j with
      | true=>have:=am.mpr ⟨n,z⟩;rw[e]at this;rw[Ba.mp this];simp
      | false=>
       have:k≠j:=fun w=>by rw[w,z]at a;cases a.2
       simp[this]
 by_cases q:1<(vA x).length
 . rw[iu q,fu fun z=>d.mp z q];rfl
 . rw[fu q,iu (d.mpr q)];rfl
theorem CY(N:Uu h b c g)(ok:WA c g)(ne:wB c g=false){i:Nat}(d:i<c):∀(a:Ms Nat)(y:Ni Dt),(∀j∈a,j<c)->
 (∃j,a.find? (fun j=>decide (1<(vA (g i j)).length))=ε j/\zB (rA 2) jH (a.map fun(k:Nat)=>Dt.int (k:Int)) [ε (.ref (b+c)),ε (.int (i:Nat)),y] h=ε (.rt (AA (i,j)) h))\/
 (a.find? (fun j=>decide (1<(vA (g i j)).length))=none/\∃o,zB (rA 2) jH (a.map fun(k:Nat)=>Dt.int (k:Int)) [ε (.ref (b+c)),ε (.int (i:Nat)),y] h=ε (.nx [ε (.ref (b+c)),ε (.int (i:Nat)),o] h))
 | [],y,_=>.inr ⟨rfl,y,rfl⟩
 | j::a,y,H=>by
  have e:=H j ⋯;have lt:g i j<8192:=ok.lt i d j e;have pos:1<=g i j:=by
   rcases Nat.eq_zero_or_pos (g i j)with z | z
   . exfalso;unfold wB at ne;rw[any_eq_false]at ne;have:=ne i (Ca.mpr d);exact this (any_eq_true.mpr ⟨j,Ca.mpr e,by rw[z];rfl⟩)
   . exact z
  have w:=zm _ lt nofun;have n:((g i j:Nat):Int)-1=((g i j-1:Nat):Int):=by omega
  have m:decide (((g i j&&&(g i j-1):Nat):Int)=0)=decide (g i j&&&(g i j-1)=0):=decide_eq_decide.mpr nofun;rw[Ii];cases q:decide (g i j&&&(g i j-1)=0)with
  | true=>
   rw[q]at w m;have t:jH ([ε (.ref (b+c)),ε (.int (i:Nat)),y].set 2 (ε (.int (j:Nat)))) h=ε (.nx [ε (.ref (b+c)),ε (.int (i:Nat)),ε (.int (j:Nat))] h):=by simp![jH,Va,Ti,XA,JA,wA,kA,sA,Ra,Ri,nA,dA,N.ix d,N.ix2 d e,SD,n,ME,sH,aE,m,vo,OA,Wo,eO,BB]
   rw[w];have ih:=CY N ok ne d a (ε (.int (j:Nat))) (fun x p=>H x (by simp[p]));simp![Ss,zB,VD,Wa,t,mK];exact ih
  | false=>
   rw[q]at w m;have t:jH ([ε (.ref (b+c)),ε (.int (i:Nat)),y].set 2 (ε (.int (j:Nat)))) h=ε (.rt (AA (i,j)) h):=by simp![jH,Va,Ti,XA,JA,wA,kA,sA,Ra,Ri,nA,dA,N.ix d,N.ix2 d e,SD,n,ME,sH,aE,m,vm,OA,eN,jB,xD,DA,BA,Ru,Ve,Nat.reduceAdd,show 2<=sizeLine by decide];rfl
   rw[w];refine .inl ⟨j,rfl,?_⟩;simp![Ss,zB,VD,Wa,t,aQ]
end
theorem aX{a:Type}{p q:a->Bool}:∀(xs:Ms a),(∀x∈xs,p x=q x)->xs.find? p=xs.find? q
 | [],_=>rfl
 | x::xs,H=>by rw[Ii,Ii,H x ⋯,aX xs fun y b=>H y (by simp[b])]
theorem IP{c i j:Nat}(g:IA)(b:i<c)(a:j<c):MB c g i j=g i j:=eG ⟨b,a⟩
theorem yc(c:Nat)(g:IA):wD c (MB c g)=wD c g:=aX _ fun p hp=>by have:=bn.mp hp;show decide (1<(vA (MB c g p.1 p.2)).length)=_;rw[IP g nofun nofun]
section
variable{h:HI}{b c:Nat}{g:IA}
theorem MX(N:Uu h b c g)(ok:WA c g)(ne:wB c g=false)(m:c<=100):∀(d:Ms Nat)(y a:Ni Dt),(∀i∈d,i<c)->
 (∃p,(d.flatMap fun i=>(List.range (c-i-1)).map fun k=>(i,i+1+k)).find? (fun p=>decide (1<(vA (g p.1 p.2)).length))=ε p/\zB (rA 1) sN (d.map fun(k:Nat)=>Dt.int (k:Int)) [ε (.ref (b+c)),y,a] h=ε (.rt (AA p) h))\/
 (d.flatMap fun i=>(List.range (c-i-1)).map fun k=>(i,i+1+k)).find? (fun p=>decide (1<(vA (g p.1 p.2)).length))=none
 | [],y,a,_=>.inr rfl
 | i::d,y,a,H=>by
  have e:=H i ⋯;have ih:=fun y a=>MX N ok ne m d y a fun x q=>H x (by simp[q])
  have u:((List.range (c-i-1)).map fun k=>(i,i+1+k))=((List.range (c-i-1)).map (i+1 + ·)).map fun j=>(i,j):=by rw[map_map];rfl
  have ev:((List.range (c-i-1)).map fun(k:Nat)=>Dt.int ((i+1+k:Nat):Int))=((List.range (c-i-1)).map (i+1 + ·)).map fun(k:Nat)=>Dt.int (k:Int):=by rw[map_map];rfl
  have t:sN ([ε (.ref (b+c)),y,a].set 1 (ε (.int (i:Nat)))) h=zB (rA 2) jH (((List.range (c-i-1)).map (i+1 + ·)).map fun(k:Nat)=>Dt.int (k:Int)) [ε (.ref (b+c)),ε (.int (i:Nat)),a] h:=by simp![sN,Va,Ti,XB,nU,wA,fC,kA,sA,Ra,Ri,nA,dA,yC,N.len,F1 e m,PC,ev]
  rw[flatMap_cons,find?_append,u,find?_map];have o:∀j∈(List.range (c-i-1)).map (i+1 + ·),j<c:=fun j s=>by obtain⟨k,r,rfl⟩:=Bu.mp s;have:=Ca.mp r;omega
  rcases CY N ok ne e _ a o with⟨j,f,w⟩ | ⟨f,z,w⟩
  . refine .inl ⟨(i,j),?_,?_⟩
    . have f:List.find? ((fun p:Nat×Nat=>decide (1<(vA (g p.1 p.2)).length)) ∘ fun j=>(i,j)) ((List.range (c-i-1)).map (i+1 + ·))=ε j:=f;rw[f];rfl
    . simp![Ss,zB,VD,Wa,t,w,aQ]
  . have f:List.find? ((fun p:Nat×Nat=>decide (1<(vA (g p.1 p.2)).length)) ∘ fun j=>(i,j)) ((List.range (c-i-1)).map (i+1 + ·))=none:=f;rw[f];rcases ih (ε (.int (i:Nat))) z with⟨p,f2,n⟩ | f2
    . refine .inl ⟨p,f2,?_⟩;simp![Ss,zB,VD,Wa,t,w,mK];exact n
    . exact .inr f2
theorem pa(N:Uu h b c g)(ok:WA c g)(ne:wB c g=false)(a:c<=100){p:Nat×Nat}(lp:wD c (MB c g)=ε p):gL [.ref (b+c)] h=ε (AA p,h):=by
 rw[yc]at lp;rcases MX N ok ne a (List.range c) none none (fun i d=>Ca.mp d)with⟨q,f,w⟩ | f
 . rw[show wD c g=ε q from f]at lp;cases lp;dsimp![gL,qV,Ss (f:=some),Vs (f:=some),Wu,Vu,EA,XB,YD,fC,sA,Ri,N.len,BI a,PC];rw[w];rfl
 . rw[show wD c g=none from f]at lp;cases lp
end
theorem Vp{H:HI}{b c:Nat}{f:IA}(N:Uu H b c f)(r:c<=100){m:aC}(ok:kD c m)(k a:Nat)(x0 g e n:Ni Dt) :
 pJ [x0,g,e,ε (.int (k:Nat)),ε (.ref (b+c)),ε (.int (a:Nat)),ε (UA m),n] H=ε (.nx [x0,g,e,ε (.int (k:Nat)),ε (.ref (H.length+c)),ε (.int (a:Nat)),ε (UA m),ε (.int ((if a=k then m.2.1 else t3 m.2.1:Nat):Int))] (H++lC H.length c (vB f m.1 (if a=k then m.2.1 else t3 m.2.1) m.2.2))):=by
 obtain⟨q,p,u,s⟩:=ok;have d:=KO N nofun q p (if a=k then m.2.1 else t3 m.2.1);have i:L2.atI [Dt.str "ways",Dt.int (m.1:Nat),Dt.int (m.2.1:Nat),Dt.int (m.2.2:Nat)] 2=ε (.int (m.2.1:Nat)):=rfl;have j:L2.atI [Dt.str "ways",Dt.int (m.1:Nat),Dt.int (m.2.1:Nat),Dt.int (m.2.2:Nat)] 1=ε (.int (m.1:Nat)):=rfl;have h:L2.atI [Dt.str "ways",Dt.int (m.1:Nat),Dt.int (m.2.1:Nat),Dt.int (m.2.2:Nat)] 3=ε (.int (m.2.2:Nat)):=rfl;by_cases z:a=k
 . subst z;rw[eG rfl]at d ⊢;simp![pJ,EA,bB,XA,JA,wA,kA,sA,Va,Ti,Ra,Ri,nA,dA,aE,decide_true,vo,OA,Wo,eO,UA,LB,j,i,h,Vi,BB,NA,QA,DA,BA,Us,d]
 . rw[eH z]at d ⊢;have o:decide ((a:Int)=(k:Int))=false:=fu nofun;have sb:(8191:Int)-((m.2.1:Nat):Int)=((t3 m.2.1:Nat):Int):=by unfold t3;omega
   simp![pJ,EA,bB,XA,JA,wA,kA,sA,Va,Ti,Ra,Ri,nA,dA,aE,o,vm,OA,eN,UA,LB,j,i,h,Vi,SD,sb,NA,QA,DA,BA,Us,d]
theorem Nj{H:HI}{b c n r:Nat}{f:IA}(N:Uu H b c f)(I:c<=100){g:Ms aC}(E:H[n]?=ε (.lst (g.map UA)))(ok:∀m∈g,kD c m)(O:1<=g.length)(M:r<H.length)(k:Nat)(x0 p C B y:Ni Dt) :
 ∃(e:HI)(b':Nat)(o h d:Ni Dt),mB (gQ (.ref n,H)) (ND (JD 5 6) pJ [x0,ε (.ref n),p,ε (.int (k:Nat)),ε (.ref (b+c)),C,B,y])=ε (.nx [x0,ε (.ref n),p,ε (.int (k:Nat)),ε (.ref (b'+c)),o,h,d] (H++e))/\Uu (H++e) b' c (VG f g k)/\r<b':=by
 obtain⟨J,q,e,s,b',o,h,d,rfl,rfl,u,F⟩:=C4 (i:=5) (j:=6) (n:=n) (body:=pJ) UA (fun a l q=>∃(s:HI)(b':Nat)(o h d:Ni Dt),q=H++s/\l=[x0,ε (.ref n),p,ε (.int (k:Nat)),ε (.ref (b'+c)),o,h,d]/\Uu q b' c (GD f k (g.take a) 0)/\(a=0\/r<b')) g (by
  rintro a l q ⟨s,b',o,h,d,rfl,_⟩;rw[Xo (Wi E).1];exact E) (by
  rintro a x D l q ⟨s,b',o,h,d,rfl,rfl,u,F⟩;have L:a<g.length:=(Wi D).1;have eq:GD f k (g.take (a+1)) 0=vB (GD f k (g.take a) 0) x.1 (if a=k then x.2.1 else t3 x.2.1) x.2.2:=by rw[sI D,SR,kZ nofun,Ae]
  have t:=Vp u I (ok x (lu D)) k a x0 (ε (.ref n)) p d;rw[<- eq]at t;exact⟨_,t,_,_,_,_,_,su _ _ _,rfl,qE _ c _,.inr (by rw[ji];omega)⟩) [x0,ε (.ref n),p,ε (.int (k:Nat)),ε (.ref (b+c)),C,B,y] H ⟨[],b,C,B,y,(Us H).symm,rfl,N,.inl rfl⟩
 rw[Ke]at u;refine⟨s,b',o,h,d,?_,u,by omega⟩;rw[zX E,dA];exact e
theorem dM{a:Type}(h e:Ms a)(o b:a):(h++o::e).set h.length b=h++b::e:=by rw[set_append_right _ _ (Uo _),Ds];rfl
theorem WJ{a:Type}(h e:Ms a)(o:a):(h++o::e)[h.length]?=ε o:=by rw[ab (Uo _),Ds];rfl
theorem Ur{e d:Type}{R:e->d->Prop}{g:Ms e}{bs:Ms d}{a:e}{b:d}(h:ad R g bs)(r:R a b):ad R (g++[a]) (bs++[b]):=by
 induction h with
 | nil=>exact .cons r .nil
 | cons h _ ih=>exact .cons h ih
def DQ(r:Nat)(h:HI)(c:Nat)(f:IA)(d:Dt):Prop:=∃b,d=.ref (b+c)/\r<b/\Uu h b c f
theorem Gh{h:HI}{b c n:Nat}{f:IA}(N:Uu h b c f)(T:c<=100){g:Ms aC}(s:h[n]?=ε (.lst (g.map UA)))(ok:∀m∈g,kD c m)(O:g.length<=100) :
 ∃(e:HI)(nds:Ms Dt),YN [.ref (b+c),.ref n] h=ε (.ref h.length,h++.lst nds::e)/\ad (be (h++.lst nds::e) c) ((List.range g.length).map (VG f g)) nds:=by
 obtain⟨Y,Z,w,e,nds,y,u,q,p,o,rfl,rfl,A⟩:=HE (i:=3) (body:=jR) (fun(k:Nat)=>Dt.int (k:Int)) (fun k l H=>∃(e:HI)(nds:Ms Dt)(y u q p o:Ni Dt),H=h++.lst nds::e/\l=[ε (.ref (b+c)),ε (.ref n),ε (.ref h.length),y,u,q,p,o]/\(nds.length=k/\ad (DQ h.length H c) ((List.range k).map (VG f g)) nds)) g.length (by
  rintro k S l H ⟨e,nds,y,u,q,p,o,rfl,rfl,J,A⟩;have B:(h++Ob.lst nds::e)[n]?=ε (.lst (g.map UA)):=by rw[Xo (Wi s).1];exact s
  obtain⟨j,a,I,F,E,w,Q,L⟩:=Nj (r:=h.length) (N.grow (Ob.lst nds::e)) T B ok nofun (by rw[ji,Ru];omega) k (ε (.ref (b+c))) (ε (.ref h.length)) q p o;rw[su,Wu]at w Q;have P:=tF (l:=[ε (.ref (b+c)),ε (.ref n),ε (.ref h.length),ε (.int (k:Nat)),ε (.ref (a+c)),I,F,E]) (g:=eV 4) (h:=h++Ob.lst nds::(e++j)) (WJ h (e++j) (Ob.lst nds)) (ev rfl) (WJ h (e++j) (Ob.lst nds)) (by rw[J];exact jo S (um O (by decide)));rw[dM]at P;refine⟨.nx [ε (.ref (b+c)),ε (.ref n),ε (.ref h.length),ε (.int (k:Nat)),ε (.ref (a+c)),I,F,E] (h++.lst (nds++[.ref (a+c)])::(e++j)),?_,e++j,nds++[.ref (a+c)],_,_,_,_,_,rfl,rfl,by rw[ji,J];rfl,?_⟩
  . simp![jR,Va,Ti,EA,bB,kA,Ra,Ri,nA,dA,NA,XB,uZ,w,cE,eF,P]
  . rw[Ie,Gi];have R:∀(f:IA)(d:Dt),DQ h.length (h++.lst nds::e) c f d->DQ h.length (h++.lst (nds++[.ref (a+c)])::(e++j)) c f d:=by rintro f d ⟨C,rfl,M,D⟩;refine⟨C,rfl,M,?_⟩;have:=(D.grow j).other (n:=h.length) (.inl M) (.lst (nds++[.ref (a+c)]));rwa[su,Wu,dM]at this
    refine Ur (A.imp R) ⟨a,rfl,L,?_⟩;have:=Q.other (n:=h.length) (.inl L) (.lst (nds++[.ref (a+c)]));rwa[dM]at this) [ε (.ref (b+c)),ε (.ref n),ε (.ref h.length),none,none,none,none,none] (h++[.lst []]) ⟨[],[],_,_,_,_,_,rfl,rfl,rfl,.nil⟩
 refine⟨e,nds,?_,A.2.imp fun f d ⟨C,W,_,D⟩=>⟨C,W,D⟩⟩;have U:∀x,qB (.ref n) (h++[Ob.lst x])=ε (.int (g.length:Nat),h++[Ob.lst x]):=fun x=>by rw[HH (xs:=g.map UA) (by rw[Xo (Wi s).1];exact s),ni]
 dsimp![YN,OV,Ss (f:=some),Vs (f:=some),Wu,Vu,EA,bB,OG,BA,nu,NA,Va,Ti,XB,YD,fC,Ri,U,BI O,PC,w,jB,uB]
theorem pb(t:Int){a b:Int}(d:a<b)(h:HI):xL [.int t,.tup [.int a,.int b]] h=ε (.int (sC t a b),h):=by
 simp[xL,wW];unfold sC
 repeat' split
 all_goals first | rfl | (exfalso;omega)
theorem MZ(h:HI):nO [] h=ε (.lst (az.map pr),h):=by rfl
theorem B8{s o:Int×Int}(h1:MD s)(h2:MD o)(h:HI):CO [OH s,OH o] h=ε (.int (zC s o),h):=by have hp:=Ed _ (SO h1 h2);simp![pr]at hp;simp[CO,MW,OH,pb _ h2,MZ,hp.1,hp.2];rfl
theorem MP:∀w:Nat,w<13->∀s:Nat,s<2->∀o:Nat,o<2->(zs o (12-w)<=1+2*(s:Int)↔1+2*(o:Int)<=zs s w)/\(zs o (12-w)<1+2*(s:Int)↔1+2*(o:Int)<zs s w):=by decide +kernel
theorem eR{m w:Nat}:w∈vA (Xi m)↔w<13/\12-w∈vA m:=by
 unfold vA;simp![mem_filter,Ca];constructor
 . rintro⟨a,b⟩;rw[JE m a]at b;exact⟨a,by omega,b⟩
 . rintro⟨a,b,d⟩;exact⟨a,by rw[JE m a];exact d⟩
theorem Lj{s m:Nat}(b:vA m ≠ [])(a:Int):uC (CB s m)<=a↔∀w∈vA m,zs s w<=a:=by
 obtain⟨g,d⟩:=OL (CB s m) (YJ b);constructor
 . intro h w hw;have:=d (zs s w) (Bu.mpr ⟨w,hw,rfl⟩);omega
 . intro h;obtain⟨w,hw,e⟩:=Bu.mp g;rw[<- e];exact h w hw
theorem Mj{s m:Nat}(b:vA m ≠ [])(a:Int):uC (CB s m)<a↔∀w∈vA m,zs s w<a:=by
 obtain⟨g,d⟩:=OL (CB s m) (YJ b);constructor
 . intro h w hw;have:=d (zs s w) (Bu.mpr ⟨w,hw,rfl⟩);omega
 . intro h;obtain⟨w,hw,e⟩:=Bu.mp g;rw[<- e];exact h w hw
theorem le_min{s m:Nat}(b:vA m ≠ [])(a:Int):a<=TB (CB s m)↔∀w∈vA m,a<=zs s w:=by
 obtain⟨g,d⟩:=lG (CB s m) (YJ b);constructor
 . intro h w hw;have:=d (zs s w) (Bu.mpr ⟨w,hw,rfl⟩);omega
 . intro h;obtain⟨w,hw,e⟩:=Bu.mp g;rw[<- e];exact h w hw
theorem Jj{s m:Nat}(b:vA m ≠ [])(a:Int):a<TB (CB s m)↔∀w∈vA m,a<zs s w:=by
 obtain⟨g,d⟩:=lG (CB s m) (YJ b);constructor
 . intro h w hw;have:=d (zs s w) (Bu.mpr ⟨w,hw,rfl⟩);omega
 . intro h;obtain⟨w,hw,e⟩:=Bu.mp g;rw[<- e];exact h w hw
theorem HZ{m w:Nat}(h:w∈vA m):w<13:=Ca.mp (mem_filter.mp h).1
theorem Dr{s o m:Nat}(hs:s<2)(b:o<2):(∀w∈vA (Xi m),zs o w<=1+2*(s:Int))↔∀w∈vA m,1+2*(o:Int)<=zs s w:=by
 constructor
 . intro h w hw;have a:=HZ hw;exact((MP w a s hs o b).1).mp (h (12-w) (eR.mpr ⟨by omega,by rw[show 12-(12-w)=w by omega];exact hw⟩))
 . intro h w hw;obtain⟨e,d⟩:=eR.mp hw;have:=((MP (12-w) nofun s hs o b).1).mpr (h _ d);rwa[show 12-(12-w)=w by omega]at this
theorem Er{s o m:Nat}(hs:s<2)(b:o<2):(∀w∈vA (Xi m),zs o w<1+2*(s:Int))↔∀w∈vA m,1+2*(o:Int)<zs s w:=by
 constructor
 . intro h w hw;have a:=HZ hw;exact((MP w a s hs o b).2).mp (h (12-w) (eR.mpr ⟨by omega,by rw[show 12-(12-w)=w by omega];exact hw⟩))
 . intro h w hw;obtain⟨e,d⟩:=eR.mp hw;have:=((MP (12-w) nofun s hs o b).2).mpr (h _ d);rwa[show 12-(12-w)=w by omega]at this
def MQ(i j m:Nat)(e:Bd):Prop:=∃s o:Nat,s<2/\o<2/\(∀w∈vA m,zs s w<=1+2*(o:Int))/\e=(2*i+s,2*j+o,if(∀w∈vA m,zs s w<1+2*(o:Int))then -1 else 0)
set_option tactic.hygienic true in
theorem pe{i j s o m:Nat}(hs:s<2)(b:o<2)(a:vA m ≠ [])(d:vA (Xi m) ≠ []){e:Bd}:e∈bG (2*i+s) (2*j+o) (1+2*(o:Int)) (uC (CB s m)) (TB (CB s m)) ↔
 ((∀w∈vA m,zs s w<=1+2*(o:Int))/\e=(2*i+s,2*j+o,if(∀w∈vA m,zs s w<1+2*(o:Int))then -1 else 0))\/
 ((∀w∈vA (Xi m),zs o w<=1+2*(s:Int))/\e=(2*j+o,2*i+s,if(∀w∈vA (Xi m),zs o w<1+2*(s:Int))then -1 else 0)):=by
 unfold bG;rw[Bs];simp![Lj a,Mj a,le_min a,Jj a,Dr hs b,Er hs b];constructor
 . rintro(h | h)
   . split at h
     . rename_i q;exact .inl ⟨q,Ba.mp h⟩
     . cases h
   . split at h
     . rename_i q;exact .inr ⟨q,Ba.mp h⟩
     . cases h
 . rintro(⟨q,rfl⟩ | ⟨q,rfl⟩)
   . exact .inl (by rw[eG q];exact Ba.mpr rfl)
   . exact .inr (by rw[eG q];exact Ba.mpr rfl)
theorem uS{s:Nat}(h:s<2):s=0\/s=1:=by omega
theorem IS{i j m:Nat}(q:vA m ≠ [])(n:vA (Xi m) ≠ []){e:Bd}:e∈XC i m j↔MQ i j m e\/MQ j i (Xi m) e:=by
 have p:=fun s o hs k=>pe (i:=i) (j:=j) (s:=s) (o:=o) (m:=m) hs k q n (e:=e)
 unfold XC yE;simp![Bs];have g:=p 0 0 (by decide) (by decide);have d:=p 0 1 (by decide) (by decide);have b:=p 1 0 (by decide) (by decide);have h:=p 1 1 (by decide) (by decide);simp![Nat.add_zero]at g d b;have u:(1+2*((0:Nat):Int))=1:=by decide
 have r:(1+2*((1:Nat):Int))=3:=by decide
 rw[u]at g b;rw[r]at d h;simp![Nat.add_zero,g,d,b,h];constructor
 . rintro(((a | a) | (a | a)) | ((a | a) | (a | a)))
   . exact .inl ⟨0,0,by decide,by decide,a⟩
   . exact .inr ⟨0,0,by decide,by decide,a⟩
   . exact .inl ⟨0,1,by decide,by decide,a⟩
   . exact .inr ⟨1,0,by decide,by decide,a⟩
   . exact .inl ⟨1,0,by decide,by decide,a⟩
   . exact .inr ⟨0,1,by decide,by decide,a⟩
   . exact .inl ⟨1,1,by decide,by decide,a⟩
   . exact .inr ⟨1,1,by decide,by decide,a⟩
 . rintro(⟨s,o,hs,k,a⟩ | ⟨s,o,hs,k,a⟩)<;>rcases uS hs with rfl | rfl<;>rcases uS k with rfl | rfl
   . exact .inl (.inl (.inl a))
   . exact .inl (.inr (.inl a))
   . exact .inr (.inl (.inl a))
   . exact .inr (.inr (.inl a))
   . exact .inl (.inl (.inr a))
   . exact .inr (.inl (.inr a))
   . exact .inl (.inr (.inr a))
   . exact .inr (.inr (.inr a))
def gJ(s m:Nat):Int:=(List.range 13).foldl (fun a w=>if m.testBit w=true then max a (zs s w)else a) 0
theorem pf(s m:Nat){b:Int}:∀(xs:Ms Nat)(a:Int),xs.foldl (fun a w=>if m.testBit w=true then max a (zs s w)else a) a<=b↔a<=b/\∀w∈xs,m.testBit w=true->zs s w<=b:=by
 intro xs
 induction xs with
 | nil=>intro a;simp
 | cons x xs ih=>
  intro a;rw[foldl_cons,ih];by_cases q:m.testBit x=true
  . rw[eG q];constructor
    . rintro⟨e,d⟩;refine⟨by omega,fun w hw g=>?_⟩;rcases Bo.mp hw with rfl | hw
      . omega
      . exact d w hw g
    . rintro⟨e,d⟩;have:=d x ⋯ q;exact⟨by omega,fun w hw=>d w (ou _ hw)⟩
  . rw[eH q];constructor
    . rintro⟨e,d⟩;refine⟨e,fun w hw g=>?_⟩;rcases Bo.mp hw with rfl | hw
      . exact Ei g q
      . exact d w hw g
    . rintro⟨e,d⟩;exact⟨e,fun w hw=>d w (ou _ hw)⟩
theorem P2{s m:Nat}{b:Int}(d:0<=b):gJ s m<=b↔∀w∈vA m,zs s w<=b:=by
 unfold gJ;rw[pf];constructor
 . rintro⟨_,h⟩ w hw;obtain⟨g,e⟩:=mem_filter.mp hw;exact h w g e
 . intro h;exact⟨d,fun w hw a=>h w (mem_filter.mpr ⟨hw,a⟩)⟩
theorem Gj{s m:Nat}{b:Int}(a:0<b):gJ s m<b↔∀w∈vA m,zs s w<b:=by
 have:=P2 (s:=s) (m:=m) (b:=b-1) nofun;constructor
 . intro h w hw;have:=this.mp nofun w hw;omega
 . intro h;have:=this.mpr fun w hw=>by have:=h w hw;omega
   omega
theorem a8{k:Nat}(a:k<13)(h:HI):pA (.lst (az.map pr)) (.int (k:Nat)) h=ε (pr (pz k),h):=by rcases VU a with rfl | rfl | rfl | rfl | rfl | rfl | rfl | rfl | rfl | rfl | rfl | rfl | rfl<;>kernel_rfl
theorem Z8{s:Nat}(hs:s<2)(k:Nat)(h:HI):pA (pr (pz k)) (.int (s:Nat)) h=ε (.int (zs s k),h):=by
 rcases uS hs with rfl | rfl
 . simp[pr,zs]
 . simp[pr,zs]
theorem ph(m:Nat){s:Nat}(hs:s<2)(o:Nat)(r:o<2)(h:HI):GO [.int (m:Nat),.int (s:Nat),.int (o:Nat)] h=ε (.int (gJ s m-1-2*(o:Int)),h):=by
 obtain⟨q,d,e,⟨z,rfl⟩,rfl⟩:=MJ (i:=4) (body:=SN) (fun(k:Nat)=>Dt.int (k:Int)) (fun(a:Int) l d=>(∃z,l=[ε (.int (m:Nat)),ε (.int (s:Nat)),ε (.int (o:Nat)),ε (.int a),z])/\d=h) (fun a w=>if m.testBit w=true then max a (zs s w)else a) (List.range 13) (by
  rintro k g a l h ⟨⟨z,rfl⟩,rfl⟩;have g:=Ca.mp g;have b:=EI m k;refine⟨.nx [ε (.int (m:Nat)),ε (.int (s:Nat)),ε (.int (o:Nat)),ε (.int (if m.testBit k=true then max a (zs s k)else a)),ε (.int (k:Nat))] h,?_,⟨_,rfl⟩,rfl⟩;simp![SN,XA,JA,wA,kA,sA,Ti,Va,Ra,Ri,nA,dA,JH (show(0:Int)<=(k:Int) by omega),n7,ME,LC,OA,b];by_cases n:m.testBit k=true
  . simp![n,eN,bB,ZU,kA,wA,tZ,MZ,dA,Ra,Ri,nA,a8 g,Z8 hs,R7,Vi,Ti,Va]
  . simp[n]) 0 [ε (.int (m:Nat)),ε (.int (s:Nat)),ε (.int (o:Nat)),ε (.int 0),none] h ⟨⟨none,rfl⟩,rfl⟩
 have u:=UC (h:=d) (i:=2) (j:=(o:Int)) (Or.inl ⟨by decide,by decide⟩);have p:zB (rA 4) SN (List.map (fun(k:Nat)=>Dt.int (k:Int)) (List.range 13)) [ε (.int (m:Nat)),ε (.int (s:Nat)),ε (.int (o:Nat)),ε (.int 0),none] d=ε (.nx [ε (.int (m:Nat)),ε (.int (s:Nat)),ε (.int (o:Nat)),ε (.int (gJ s m)),z] d):=e;simp[GO,vW,aV,p,u]
theorem kT{h:HI}{F:Ms Bd}{l:LI}{g:RE}{d:Bd}(b:g l (h++[.lst (F.map oA)])=ε (oA d,h++[.lst (F.map oA)]))(a:F.length<100000):AK g l (.ref h.length,h++[.lst (F.map oA)])=ε (.non,h++[.lst ((F++[d]).map oA)]):=by have:=tF (h:=h++[.lst (F.map oA)]) (l:=l) (n:=h.length) (ys:=F.map oA) (xs:=F.map oA) (d:=oA d) ⋯ b ⋯ (by rw[ni];exact jo a (by decide));rw[this];simp
def dk(f:Nat->Nat->Nat)(i j k:Nat):Ms Bd:=if i≠j/\gJ (k/2) (f i j)-1-2*((k%2:Nat):Int)<=0 then [(2*i+k/2,2*j+k%2,if gJ (k/2) (f i j)-1-2*((k%2:Nat):Int)<0 then -1 else 0)]else []
def dj(f:Nat->Nat->Nat)(i j:Nat):Ms Bd:=(List.range 4).flatMap (dk f i j)
def di(f:Nat->Nat->Nat)(c i:Nat):Ms Bd:=(List.range c).flatMap (dj f i)
def DF(c:Nat)(f:Nat->Nat->Nat)(ls:Ms Ln):Ms Bd:=PB c++ls.flatMap (RB (2*c+1))++(List.range c).flatMap (di f c)
theorem VR{b d:Type}(g:b->Ms d){n:Nat}:∀a:Ms b,(∀x,(g x).length<=n)->(a.flatMap g).length<=n*a.length:=by
 intro a h
 induction a with
 | nil=>simp
 | cons x a ih=>rw[flatMap_cons,ji,Ru,Nat.mul_succ];have:=h x;omega
theorem S0(f:Nat->Nat->Nat)(i j k:Nat):(dk f i j k).length<=1:=by unfold dk;split<;>simp
theorem R0(f:Nat->Nat->Nat)(i j:Nat):(dj f i j).length<=4:=by have:=VR (dk f i j) (List.range 4) (S0 f i j);rw[Fi]at this;exact this
theorem JJ{a:Type}(g:Nat->Ms a)(k:Nat):(List.range (k+1)).flatMap g=(List.range k).flatMap g++g k:=by rw[Ie,flatMap_append];simp
theorem j6{h:HI}{b c:Nat}{f:Nat->Nat->Nat}(N:Uu h b c f){i j:Nat}(L:i<c)(O:j<c){F:Ms Bd}(W:F.length<=3000)(r q p n I H:Ni Dt) :
 ∃m a,zB (rA 8) qO ((List.range 4).map fun(k:Nat)=>Dt.int (k:Int)) [ε (.ref (b+c)),r,q,ε (.int (i:Nat)),ε (.ref h.length),p,n,ε (.int (j:Nat)),I,H] (h++[.lst (F.map oA)]) =
  ε (.nx [ε (.ref (b+c)),r,q,ε (.int (i:Nat)),ε (.ref h.length),p,n,ε (.int (j:Nat)),m,a] (h++[.lst ((F++dj f i j).map oA)])):=by
 obtain⟨T,C,e,⟨m,a,rfl⟩,rfl,_⟩:=HE (i:=8) (body:=qO) (fun(k:Nat)=>Dt.int (k:Int)) (fun k l C=>(∃m a,l=[ε (.ref (b+c)),r,q,ε (.int (i:Nat)),ε (.ref h.length),p,n,ε (.int (j:Nat)),m,a])/\C=h++[.lst ((F++(List.range k).flatMap (dk f i j)).map oA)]/\((List.range k).flatMap (dk f i j)).length<=k) 4 (by
  rintro k U l C ⟨⟨m,a,rfl⟩,rfl,J⟩;have M:=N.grow [.lst ((F++(List.range k).flatMap (dk f i j)).map oA)];have E:=SE (h:=h++[.lst ((F++(List.range k).flatMap (dk f i j)).map oA)]) (i:=(k:Int)) (j:=2) ⟨by decide,by decide⟩;have B:=LD (h:=h++[.lst ((F++(List.range k).flatMap (dk f i j)).map oA)]) (i:=(k:Int)) (j:=2) (by decide);have R:(k:Int)/2=((k/2:Nat):Int):=by omega
  have Q:(k:Int)%2=((k%2:Nat):Int):=by omega
  rw[R]at E;rw[Q]at B;have P:=ph (f i j) (s:=k/2) nofun (k%2) nofun (h++[.lst ((F++(List.range k).flatMap (dk f i j)).map oA)]);have u:=fun(x:Int) (h:HI)=>UC (h:=h) (i:=2) (j:=x) (Or.inl ⟨by decide,by decide⟩)
  have Y:=S0 f i j k;refine⟨.nx [ε (.ref (b+c)),r,q,ε (.int (i:Nat)),ε (.ref h.length),p,n,ε (.int (j:Nat)),ε (.int (k:Nat)),ε (.int (gJ (k/2) (f i j)-1-2*((k%2:Nat):Int)))] (h++[.lst ((F++(List.range (k+1)).flatMap (dk f i j)).map oA)]),?_,⟨_,_,rfl⟩,rfl,by rw[JJ,ji];omega⟩;have D:dk f i j k=if i≠j/\gJ (k/2) (f i j)-1-2*((k%2:Nat):Int)<=0 then [(2*i+k/2,2*j+k%2,if gJ (k/2) (f i j)-1-2*((k%2:Nat):Int)<0 then -1 else 0)]else []:=rfl
  rw[JJ];generalize (List.range k).flatMap (dk f i j)=G at *;generalize dk f i j k=dkk at *;generalize k/2=s at *;generalize k%2=o at *;simp![qO,EA,bB,QA,DA,BA,wA,kA,sA,Ti,Va,Ra,Ri,nA,dA,M.ix L,M.ix2 L O,E,B,Us,P,NA,XA,QG,JA,aE,iJ,OA];generalize gJ s (f i j)-1-2*(o:Int)=off at *;by_cases q1:i=j
  . have z:decide (((i:Nat):Int)=((j:Nat):Int))=true:=iu nofun;have y:dkk=[]:=by rw[D,eH (fun w=>w.1 q1)]
    rw[y,Us];simp![z,vo,Wo,eO,dA,BB]
  . have z:decide (((i:Nat):Int)=((j:Nat):Int))=false:=fu nofun;simp![z,vm,eN,dA];by_cases q2:off<=0
    . have y:dkk=[(2*i+s,2*j+o,if off<0 then -1 else 0)]:=by rw[D,eG ⟨q1,q2⟩]
      have S:=kT (h:=h) (F:=F++G) (l:=[ε (.ref (b+c)),r,q,ε (.int (i:Nat)),ε (.ref h.length),p,n,ε (.int (j:Nat)),ε (.int (k:Nat)),ε (.int off)])
       (g:=aB (bA (e2 iB (e2 ZA (ua 2) (eV 3)) (e2 cD (eV 8) (ua 2))) (bA (e2 iB (e2 ZA (ua 2) (eV 7)) (e2 cC (eV 8) (ua 2))) (bA (JC (QB fG (e2 YH (eV 9) (ua 0)))) fA)))) (d:=(2*i+s,2*j+o,if off<0 then -1 else 0)) (by
       simp![xD,DA,BA,wA,kA,sA,JM,fC,Ra,Ri,nA,dA,u,E,B,yC,jJ,oM,QL,Ru,Ve];rw[eG (by decide)];by_cases q3:off<0
       . simp![oA,q3,decide_true,eN];simp
       . simp![oA,q3,decide_false,eO,Wo];simp) (by rw[ji];omega)
      rw[y];simp![q2,decide_true,eN,cE,eF,kA,Ra,Ri,nA,dA,S,su]
    . have y:dkk=[]:=by rw[D,eH (fun w=>q2 w.2)]
      rw[y,Us];simp![q2,decide_false,Wo,eO,dA,BB]) [ε (.ref (b+c)),r,q,ε (.int (i:Nat)),ε (.ref h.length),p,n,ε (.int (j:Nat)),I,H] (h++[.lst (F.map oA)]) ⟨⟨_,_,rfl⟩,by simp,by simp⟩
 exact⟨m,a,e⟩
theorem Y6(h:HI):yQ (.int 4,h)=ε (.vals ((List.range 4).map fun(k:Nat)=>Dt.int (k:Int)),h):=oE (by decide) (by decide)
theorem l6{h:HI}{b c:Nat}{f:Nat->Nat->Nat}(N:Uu h b c f)(E:c<=8){i:Nat}(C:i<c){F:Ms Bd}(H:F.length<=2000)(o n m s r q:Ni Dt) :
 ∃g d a,zB (rA 7) rO ((List.range c).map fun(k:Nat)=>Dt.int (k:Int)) [ε (.ref (b+c)),o,ε (.int (c:Nat)),ε (.int (i:Nat)),ε (.ref h.length),n,m,s,r,q] (h++[.lst (F.map oA)]) =
  ε (.nx [ε (.ref (b+c)),o,ε (.int (c:Nat)),ε (.int (i:Nat)),ε (.ref h.length),n,m,g,d,a] (h++[.lst ((F++di f c i).map oA)])):=by
 obtain⟨D,p,e,⟨g,d,a,rfl⟩,rfl,_⟩:=HE (i:=7) (body:=rO) (fun(k:Nat)=>Dt.int (k:Int)) (fun j l p=>(∃g d a,l=[ε (.ref (b+c)),o,ε (.int (c:Nat)),ε (.int (i:Nat)),ε (.ref h.length),n,m,g,d,a])/\p=h++[.lst ((F++(List.range j).flatMap (dj f i)).map oA)]/\((List.range j).flatMap (dj f i)).length<=4*j) c (by
  rintro j B l p ⟨⟨g,d,a,rfl⟩,rfl,u⟩;obtain⟨y,x,e⟩:=j6 N C B (F:=F++(List.range j).flatMap (dj f i)) (by rw[ji];omega) o (ε (.int (c:Nat))) n m d a;have I:=R0 f i j;refine⟨.nx [ε (.ref (b+c)),o,ε (.int (c:Nat)),ε (.int (i:Nat)),ε (.ref h.length),n,m,ε (.int (j:Nat)),y,x] (h++[.lst ((F++(List.range (j+1)).flatMap (dj f i)).map oA)]),?_,⟨_,_,_,rfl⟩,rfl,by rw[JJ,ji];omega⟩;rw[JJ,<- su];simp![rO,XB,YD,sA,dA,Y6,PC,Ti,Va,e]) [ε (.ref (b+c)),o,ε (.int (c:Nat)),ε (.int (i:Nat)),ε (.ref h.length),n,m,s,r,q] (h++[.lst (F.map oA)]) ⟨⟨_,_,_,rfl⟩,by simp,by simp⟩
 exact⟨g,d,a,e⟩
theorem t8(f:Nat->Nat->Nat)(c i:Nat):(di f c i).length<=4*c:=by have:=VR (dj f i) (List.range c) (R0 f i);rw[Fi]at this;exact this
theorem n6{h:HI}{b c:Nat}{f:Nat->Nat->Nat}(N:Uu h b c f)(I:c<=8){F:Ms Bd}(J:F.length<=1000)(a u g d s r q:Ni Dt) :
 ∃E x,zB (rA 3) dO ((List.range c).map fun(k:Nat)=>Dt.int (k:Int)) [ε (.ref (b+c)),a,ε (.int (c:Nat)),u,ε (.ref h.length),g,d,s,r,q] (h++[.lst (F.map oA)]) =
  ε (.nx (ε (.ref (b+c))::a::ε (.int (c:Nat))::E::ε (.ref h.length)::x) (h++[.lst ((F++(List.range c).flatMap (di f c)).map oA)])):=by
 obtain⟨x,p,e,⟨o,n,m,j,rfl⟩,rfl,_⟩:=HE (i:=3) (body:=dO) (fun(k:Nat)=>Dt.int (k:Int)) (fun i l p=>(∃o n m j,l=[ε (.ref (b+c)),a,ε (.int (c:Nat)),o,ε (.ref h.length),g,d,n,m,j])/\p=h++[.lst ((F++(List.range i).flatMap (di f c)).map oA)]/\((List.range i).flatMap (di f c)).length<=32*i) c (by
  rintro i H l p ⟨⟨o,n,m,j,rfl⟩,rfl,y⟩;obtain⟨D,C,B,e⟩:=l6 N I H (F:=F++(List.range i).flatMap (di f c)) (by rw[ji];omega) a g d n m j;have L:=t8 f c i;refine⟨.nx [ε (.ref (b+c)),a,ε (.int (c:Nat)),ε (.int (i:Nat)),ε (.ref h.length),g,d,D,C,B] (h++[.lst ((F++(List.range (i+1)).flatMap (di f c)).map oA)]),?_,⟨_,_,_,_,rfl⟩,rfl,by rw[JJ,ji];omega⟩;rw[JJ,<- su];simp![dO,XB,YD,kA,Ti,Va,Ra,Ri,nA,dA,BI (show c<=100 by omega),PC,e]) [ε (.ref (b+c)),a,ε (.int (c:Nat)),u,ε (.ref h.length),g,d,s,r,q] (h++[.lst (F.map oA)]) ⟨⟨_,_,_,_,rfl⟩,by simp,by simp⟩
 exact⟨_,_,e⟩
theorem l9{o:Type}{bd:RG}{body:RS}(D:o->Dt)(xs:Ms o):∀(S:Nat->LI->HI->Prop)(_:∀(k:Nat) x,xs[k]?=ε x->∀l h,S k l h->∃j r,bd (D x) l=ε j/\body j h=ε r/\Pass (S (k+1)) r)(l:LI)(h:HI),S 0 l h->∃a h',zB bd body (xs.map D) l h=ε (.nx a h')/\S xs.length a h':=by
 induction xs with
 | nil=>intro S _ l h n;exact⟨l,h,rfl,n⟩
 | cons x xs ih=>
  intro S H l h n;obtain⟨j,r,s,q,p⟩:=H 0 x rfl l h n;cases r with
  | nx g b=>obtain⟨a,h',e,i⟩:=ih (fun k=>S (k+1)) (fun k y m=>H (k+1) y m) g b p;refine⟨a,h',?_,i⟩;simp![Ss,zB,s,Wa,q,mK];exact e
  | ct g b=>obtain⟨a,h',e,i⟩:=ih (fun k=>S (k+1)) (fun k y m=>H (k+1) y m) g b p;refine⟨a,h',?_,i⟩;simp![Ss,zB,s,Wa,q];exact e
  | bk g b=>exact p.elim
  | rt d b=>exact p.elim
theorem i6{h:HI}{c:Nat}(T:c<=8){ls:Ms Ln}(R:ls.length<=100)(x0 n E D C m b a:Ni Dt) :
 ∃s r q,zB (GI 3 5 6) pO (ls.map rB) [x0,n,ε (.int (c:Nat)),E,ε (.ref h.length),D,C,m,b,a] (h++[.lst ((PB c).map oA)]) =
  ε (.nx [x0,n,ε (.int (c:Nat)),s,ε (.ref h.length),r,q,m,b,a] (h++[.lst ((PB c++ls.flatMap (RB (2*c+1))).map oA)])):=by
 have L:(PB c).length=c:=by simp[PB]
 obtain⟨P,B,e,⟨s,r,q,rfl⟩,rfl,_⟩:=l9 (bd:=GI 3 5 6) (body:=pO) rB ls (fun k l B=>(∃s r q,l=[x0,n,ε (.int (c:Nat)),s,ε (.ref h.length),r,q,m,b,a])/\B=h++[.lst ((PB c++(ls.take k).flatMap (RB (2*c+1))).map oA)]/\((ls.take k).flatMap (RB (2*c+1))).length<=2*k) (by
  rintro k ⟨i,o,p⟩ y l B ⟨⟨s,r,q,rfl⟩,rfl,S⟩;have Q:k<ls.length:=(Wi y).1;have u:=fun(x:Int) (h:HI)=>UC (h:=h) (i:=2) (j:=x) (Or.inl ⟨by decide,by decide⟩)
  have J:(2*(c:Int)+1)=((2*c+1:Nat):Int):=by omega
  have H:=fun(x:Int) (h:HI)=>UC (h:=h) (i:=x) (j:=((2*c+1:Nat):Int)) (Or.inr ⟨by omega,by omega⟩)
  generalize I:PB c++(ls.take k).flatMap (RB (2*c+1))=G at *;have U:G.length<=1000:=by rw[<- I,ji,L];omega
  have O:=kT (h:=h) (F:=G) (l:=[x0,n,ε (.int (c:Nat)),ε (.int (i:Nat)),ε (.ref h.length),ε (.int o),ε (.int p),m,b,a]) (g:=aB (bA (e2 ZA (ua 2) (eV 3)) (bA (e2 iB (e2 ZA (ua 2) (eV 3)) (ua 1)) (bA (e2 ZA (JC (eV 5)) (e2 iB (e2 ZA (ua 2) (eV 2)) (ua 1))) fA)))) (d:=(2*i,2*i+1,-o*((2*c+1:Nat):Int))) (by
   simp![xD,DA,BA,wA,kA,sA,JM,Ra,Ri,nA,dA,u,yC,QL,J,H,Ru,Ve];rw[eG (by decide)];simp![oA];simp) nofun
  have M:=kT (h:=h) (F:=G++[(2*i,2*i+1,-o*((2*c+1:Nat):Int))]) (l:=[x0,n,ε (.int (c:Nat)),ε (.int (i:Nat)),ε (.ref h.length),ε (.int o),ε (.int p),m,b,a]) (g:=aB (bA (e2 iB (e2 ZA (ua 2) (eV 3)) (ua 1)) (bA (e2 ZA (ua 2) (eV 3)) (bA (e2 ZA (eV 6) (e2 iB (e2 ZA (ua 2) (eV 2)) (ua 1))) fA)))) (d:=(2*i+1,2*i,p*((2*c+1:Nat):Int))) (by
   simp![xD,DA,BA,wA,kA,sA,JM,Ra,Ri,nA,dA,u,yC,QL,J,H,Ru,Ve];rw[eG (by decide)];simp![oA];simp) (by rw[ji];simp;omega)
  refine⟨[x0,n,ε (.int (c:Nat)),ε (.int (i:Nat)),ε (.ref h.length),ε (.int o),ε (.int p),m,b,a],.nx [x0,n,ε (.int (c:Nat)),ε (.int (i:Nat)),ε (.ref h.length),ε (.int o),ε (.int p),m,b,a] (h++[.lst ((G++[(2*i,2*i+1,-o*((2*c+1:Nat):Int))]++[(2*i+1,2*i,p*((2*c+1:Nat):Int))]).map oA)]),rfl,?_,⟨_,_,_,rfl⟩,?_,?_⟩
  . simp![pO,EA,cE,eF,kA,Ra,Ri,nA,dA,O,NA,M]
  . rw[KJ _ y,<- I];simp[RB]
  . rw[KJ _ y,ji];have:(RB (2*c+1) (i,o,p)).length=2:=rfl;omega) [x0,n,ε (.int (c:Nat)),E,ε (.ref h.length),D,C,m,b,a] (h++[.lst ((PB c).map oA)]) ⟨⟨_,_,_,rfl⟩,by simp,by simp⟩
 rw[Ke]at e;exact⟨s,r,q,e⟩
theorem zq{h:HI}{b c:Nat}{f:Nat->Nat->Nat}(N:Uu h b c f)(d:c<=8){ls:Ms Ln}(p:ls.length<=100) :
 BO [.ref (b+c),.lst (ls.map rB)] h=ε (.ref h.length,h++[.lst ((DF c f ls).map oA)]):=by
 have u:=fun(i:Int) (h:HI)=>UC (h:=h) (i:=2) (j:=i) (Or.inl ⟨by decide,by decide⟩)
 have r:=XF (te:=gO) (tc:=nB) (i:=0) (fun(k:Nat)=>Dt.int (k:Int)) (fun k=>oA (2*k,2*k+1,-1)) h (List.range c) [none] (by
  intro k _;exact⟨by simp,by simp[gO,u,oA]⟩)
 have a:=UD (l:=[none]) (h:=h) (rA 0) nB gO (xs:=(List.range c).map fun(k:Nat)=>Dt.int (k:Int)) (by simp;omega);rw[r]at a;have q:(List.range c).map (fun k=>oA (2*k,2*k+1,-1))=(PB c).map oA:=by unfold PB;rw[map_map];rfl
 rw[q]at a;obtain⟨m,g,e,y⟩:=i6 (h:=h) (c:=c) d p (ε (.ref (b+c))) (ε (.lst (ls.map rB))) none none none none none none;have D:(ls.flatMap (RB (2*c+1))).length<=2*ls.length:=VR _ ls fun x=>Uo _
 have n:(PB c).length=c:=by simp[PB]
 obtain⟨B,C,s⟩:=n6 N d (F:=PB c++ls.flatMap (RB (2*c+1))) (by rw[ji,n];omega) (ε (.lst (ls.map rB))) m g e none none none;have o:=N.len;unfold DF;dsimp![BO,LW,Ss,Vs,Wu,Vu,EA,bB,mI,YD,fC,Ri,o,BI (show c<=100 by omega),fD,eD,a,Va,Ti,NA,XB,rC,WF,PC,y,PC,s,jB,uB]
set_option tactic.hygienic true in
theorem K1{f:Nat->Nat->Nat}{i j k:Nat}(d:k<4){e:Bd}:e∈dk f i j k↔i≠j/\(∀w∈vA (f i j),zs (k/2) w<=1+2*((k%2:Nat):Int))/\e=(2*i+k/2,2*j+k%2,if(∀w∈vA (f i j),zs (k/2) w<1+2*((k%2:Nat):Int))then -1 else 0):=by
 have b:gJ (k/2) (f i j)-1-2*((k%2:Nat):Int)<=0↔∀w∈vA (f i j),zs (k/2) w<=1+2*((k%2:Nat):Int):=by rw[<- P2 nofun];omega
 have a:gJ (k/2) (f i j)-1-2*((k%2:Nat):Int)<0↔∀w∈vA (f i j),zs (k/2) w<1+2*((k%2:Nat):Int):=by rw[<- Gj nofun];omega
 unfold dk;simp![b,a];constructor
 . intro h;split at h
   . rename_i q;exact⟨q.1,q.2,Ba.mp h⟩
   . cases h
 . rintro⟨q1,q2,rfl⟩;rw[eG ⟨q1,q2⟩];exact Ba.mpr rfl
theorem gi{f:Nat->Nat->Nat}{i j:Nat}{e:Bd}:e∈dj f i j↔i≠j/\MQ i j (f i j) e:=by
 unfold dj;rw[Ls];constructor
 . rintro⟨k,a,h⟩;have a:=Ca.mp a;obtain⟨g,d,b⟩:=(K1 a).mp h;exact⟨g,k/2,k%2,by omega,by omega,d,b⟩
 . rintro⟨g,s,o,hs,m,d,b⟩;refine⟨2*s+o,Ca.mpr nofun,(K1 nofun).mpr ?_⟩;rw[show(2*s+o)/2=s by omega,show(2*s+o)%2=o by omega];exact⟨g,d,b⟩
theorem Bf{c:Nat}{N:Nat->Nat->Nat}(a:∀i j,vA (N i j) ≠ [])(k:∀i j,i<c->j<c->i≠j->N j i=Xi (N i j))(ls:Ms Ln)(e:Bd):e∈pC c N ls↔e∈DF c N ls:=by
 unfold pC DF;rw[Bs (s:=PB c++ls.flatMap (RB (2*c+1))),Bs (s:=PB c++ls.flatMap (RB (2*c+1)))];refine or_congr Iff.rfl ?_;rw[Ls,Ls];constructor
 . rintro⟨⟨i,j⟩,hp,h⟩;obtain⟨m,g⟩:=NS hp;dsimp only at h m g;have tn:=k i j nofun g nofun;rcases(IS (a i j) (by rw[<- tn];exact a j i)).mp h with h | h
   . exact⟨i,Ca.mpr nofun,Ls.mpr ⟨j,Ca.mpr g,gi.mpr ⟨by omega,h⟩⟩⟩
   . rw[<- tn]at h;exact⟨j,Ca.mpr g,Ls.mpr ⟨i,Ca.mpr nofun,gi.mpr ⟨by omega,h⟩⟩⟩
 . rintro⟨i,d,h⟩;obtain⟨j,b,h⟩:=Ls.mp h;obtain⟨ne,h⟩:=gi.mp h;have d:=Ca.mp d;have b:=Ca.mp b;by_cases q:i<j
   . have tn:=k i j d b ne;exact⟨(i,j),qS q b,(IS (a i j) (by rw[<- tn];exact a j i)).mpr (.inl h)⟩
   . have tn:=k j i b d (nW ne);refine⟨(j,i),qS nofun d,(IS (a j i) (by rw[<- tn];exact a i j)).mpr (.inr ?_)⟩;rw[<- tn];exact h
noncomputable def aI:Ni Int->Dt
 | none=>.non
 | some v=>.int v
noncomputable def fN(p q:Nat)(f:Ni Int)(e:Bd):Ni Int:=if e.1=p/\e.2.1=q/\(f=none\/e.2.2<f.getD 0)then ε e.2.2 else f
structure XM(p q:Nat)(L:List Bd)(f:Option Int):Prop where
 no:f=none->∀e∈L,¬(e.1=p/\e.2.1=q)
 low:∀v,f=ε v->∀e∈L,e.1=p->e.2.1=q->v<=e.2.2
 mem:∀v,f=ε v->((p,q,v):Bd)∈L
theorem pi{p q:Nat}{L:Ms Bd}{f:Ni Int}(I:XM p q L f)(e:Bd):XM p q (L++[e]) (fN p q f e):=by
 obtain⟨a,b,m⟩:=e;unfold fN;by_cases j:a=p/\b=q/\(f=none\/m<f.getD 0)
 . rw[eG j];obtain⟨rfl,rfl,h3⟩:=j;refine⟨fun h=>(by cases h),fun v d e he i g=>?_,fun v d=>?_⟩
   . cases d;rcases Bs.mp he with he | he
     . cases f with
       | none=>exact Ei ⟨i,g⟩ (I.no rfl e he)
       | some n=>
        have:=I.low n rfl e he i g;rcases h3 with h3 | h3
        . cases h3
        . simp![Option.getD_some]at h3;show m<=e.2.2;omega
     . rw[Ba.mp he];exact Int.le_refl _
   . cases d;exact za _ (Ba.mpr rfl)
 . rw[eH j];refine⟨fun h e he=>?_,fun v d e he i g=>?_,fun v d=>zc _ (I.mem v d)⟩
   . rcases Bs.mp he with he | he
     . exact I.no h e he
     . rw[Ba.mp he];exact fun z=>j ⟨z.1,z.2,.inl h⟩
   . rcases Bs.mp he with he | he
     . exact I.low v d e he i g
     . rw[Ba.mp he]at i g ⊢;apply Int.not_lt.mp;intro k;exact j ⟨i,g,.inr (by rw[d];exact k)⟩
theorem AY(p q:Nat):∀(R L:Ms Bd)(f:Ni Int),XM p q L f->XM p q (L++R) (R.foldl (fN p q) f)
 | [],L,f,I=>by rw[Us];exact I
 | e::R,L,f,I=>by have:=AY p q R (L++[e]) (fN p q f e) (pi I e);rw[su]at this;exact this
theorem Ij{p q:Nat}{a:Ms Bd}{w:Int}(d:((p,q,w):Bd)∈a)(g:∀e∈a,e.1=p->e.2.1=q->w<=e.2.2):a.foldl (fN p q) none=ε w:=by
 have I:=AY p q a [] none ⟨fun z z h=>(nomatch h),fun v h=>(by cases h),fun v h=>(by cases h)⟩;rw[Vu]at I;cases b:a.foldl (fN p q) none with
 | none=>exact Ei ⟨rfl,rfl⟩ (I.no b _ d)
 | some v=>have j:=I.low v b _ d rfl rfl;have i:=g _ (I.mem v b) rfl rfl;simp only at j i;rw[show v=w by omega]
theorem Mh(p q:Nat)(f:Ni Int)(e:Bd)(x0:Ni Dt)(h:HI):lH [x0,ε (.int (p:Nat)),ε (.int (q:Nat)),ε (aI f),ε (oA e)] h=ε (.nx [x0,ε (.int (p:Nat)),ε (.int (q:Nat)),ε (aI (fN p q f e)),ε (oA e)] h):=by
 obtain⟨a,b,m⟩:=e;unfold fN;by_cases i:a=p
 . by_cases k:b=q
   . subst i k;cases f with
     | none=>simp[lH,oA,aI,yF]
     | some v=>
      by_cases j:m<v
      . simp[lH,oA,aI,yF,j]
      . simp[lH,oA,aI,yF,j]
   . have d:¬(b:Int)=(q:Int):=by omega
     simp[lH,oA,i,k,d]
 . have g:¬(a:Int)=(p:Int):=by omega
   simp[lH,oA,i,g]
theorem Vb{p q a:Nat}{b:Ms Bd}{w:Int}{h:HI}(da:h[a]?=ε (.lst (b.map oA)))(j:((p,q,w):Bd)∈b)(m:∀e∈b,e.1=p->e.2.1=q->w<=e.2.2) :
 kO [.ref a,.int (p:Nat),.int (q:Nat)] h=ε (.int w,h):=by
 obtain⟨r,d,e,⟨y,rfl⟩,o⟩:=rK (i:=4) (n:=a) (body:=lH) oA (fun k l d=>(∃y,l=[ε (.ref a),ε (.int (p:Nat)),ε (.int (q:Nat)),ε (aI ((b.take k).foldl (fN p q) none)),y])/\d=h) b (by
  rintro k l d ⟨_,rfl⟩;exact da) (by
  rintro k x g l d ⟨⟨y,rfl⟩,rfl⟩;rw[lY _ _ g];exact⟨_,Mh p q _ x _ d,⟨_,rfl⟩,rfl⟩) [ε (.ref a),ε (.int (p:Nat)),ε (.int (q:Nat)),ε .non,none] h ⟨⟨_,rfl⟩,rfl⟩
 rw[Ke,Ij j m,o]at e;simp[kO,WV,PD da,e,aI]
theorem FZ:∀(ns acc:Ms Int),(acc++ns).Nodup->ns.foldl (fun acc k=>if acc.any (· ==k)then acc else acc++[k]) acc=acc++ns
 | [],acc,_=>by simp
 | n::ns,acc,h=>by
  have b:n∉acc:=fun d=>by have:=(nodup_append.mp h).2.2 n d n uq;exact this rfl
  have g:acc.any (· ==n)=false:=by rw[any_eq_false];intro x a e;exact b ((beq_iff_eq.mp e) ▸ a)
  rw[foldl_cons,g];simp![Wo,eO];rw[FZ ns (acc++[n]) (by rw[su];exact h),su];rfl
theorem Kr{ns:Ms Int}(h:ns.Nodup):iE ns=ns:=by unfold iE;rw[FZ ns [] (by simpa using h),Vu]
theorem pj{n a r k P:Nat}(a0:n<=90){b o:Ms Bd}(s:∀e,e∈b↔e∈o){c:Nat->Ni Nat}{h:HI}(da:h[a]?=ε (.lst (o.map oA)))(C:h[r]?=ε (.lst (WB c P k)))
 (hT:∀e∈b,e.1<n/\e.2.1<n/\e.1≠e.2.1) (R:bH n (dD b) (nJ b) c P k):FO [.ref a,.ref r,.int (n:Nat)] h=ε (.bl true,h):=by
 have rp:=R.pos;have Y:=R.le;have Q:=fun i=>mF C i
 have len:(WB c P k).length=k+1:=by simp[WB]
 have O:(WB c P k)[0]?=ε (.int (P:Nat)):=by simp[WB,xB]
 have y:∀m,m<=k->(WB c P k)[m]?=ε (.int ((xB (nxt c) m P:Nat):Int)):=fun m hm=>by simp[WB,Nat.lt_succ_of_le hm]
 have S:=jX c P k;rw[R.back]at S;have g:CF (WB c P k) (ε 1) none=((List.range k).map fun m=>((xB (nxt c) (m+1) P:Nat):Int)).map Dt.int:=by have:=SM.DS (WB c P k) 1;simp![Hu]at this;rw[this];unfold WB;rw[Jo,Ss,drop_succ_cons,drop_zero,map_map,map_map];rfl
 have nd:((List.range k).map fun m=>((xB (nxt c) (m+1) P:Nat):Int)).Nodup:=yV k fun i j a3 hj e=>apart R.back R.first (i:=i+1) (j:=j+1) nofun nofun nofun nofun
 have L:=Kc (h:=h) (d:=.lst (((List.range k).map fun m=>((xB (nxt c) (m+1) P:Nat):Int)).map Dt.int)) (ns:=(List.range k).map fun m=>((xB (nxt c) (m+1) P:Nat):Int)) rfl (by simp;omega);rw[Kr nd,ni,Fi]at L;have T:=oE (h:=h) (show(-(2^62):Int)<=(k:Int) by omega) (show(k:Int)<2^62 by omega);simp![n7]at T;obtain⟨l',B,e,⟨E,D,rfl⟩,hh⟩:=HE (i:=4) (body:=DR) (fun(k:Nat)=>Dt.int (k:Int)) (fun i l B=>(∃E D,l=[ε (.ref a),ε (.ref r),ε (.int (n:Nat)),ε (.int ((List.range i).map fun m=>nJ b (xB (nxt c) m P) (xB (nxt c) (m+1) P)).sum),E,D])/\B=h) k (by
  rintro i hi l B ⟨⟨E,D,rfl⟩,rfl⟩;obtain⟨J,g2⟩:=R.edge i nofun;have H:=(DZ hT).lt _ J;have Z:=Vb (p:=xB (nxt c) i P) (q:=xB (nxt c) (i+1) P) (w:=nJ b (xB (nxt c) i P) (xB (nxt c) (i+1) P)) da ((s _).mp ((BH b).mem _ J)) (fun e he h1 h2=>by
   obtain⟨x,hx,W,U,x3⟩:=(BH b).low e ((s _).mpr he);have:=(BH b).un x hx _ J (W.trans h1) (U.trans h2);simp only at this;omega)
  have a1:=y i nofun;have a2:=y (i+1) nofun;have F:((xB (nxt c) i P:Nat):Int)<(n:Int):=by have:=H.1;simp only at this;omega
  have I:(0:Int)<=((xB (nxt c) i P:Nat):Int):=by omega
  have u:(i:Int)+1=((i+1:Nat):Int):=by omega
  refine⟨.nx [ε (.ref a),ε (.ref r),ε (.int (n:Nat)),ε (.int ((List.range (i+1)).map fun m=>nJ b (xB (nxt c) m P) (xB (nxt c) (m+1) P)).sum),ε (.int (i:Nat)),ε (.int (nJ b (xB (nxt c) i P) (xB (nxt c) (i+1) P)))] B,?_,⟨_,_,rfl⟩,rfl⟩;rw[Ie,Gi,sum_append];simp![DR,EA,XA,UE,uE,JA,QA,DA,BA,wA,kA,sA,Va,Ti,Ra,Ri,nA,dA,Q,SM.YC,a1,Vi,Us,bM,OA,vo,Wo,eO,pT,iJ,jJ,I,F,decide_true,NT,eN,BB,NA,bB,yC,u,a2,Z,FM,yF,Ss,Vs,sum_cons,sum_nil,Int.add_zero]) [ε (.ref a),ε (.ref r),ε (.int (n:Nat)),ε (.int 0),none,none] h ⟨⟨_,_,rfl⟩,rfl⟩
 rw[hh]at e;have sm:=R.sum;have k1:(k:Int)+1-1=(k:Int):=by omega
 have k2:¬((k:Int)+1<2):=by omega
 generalize ((List.range k).map fun m=>((xB (nxt c) (m+1) P:Nat):Int)).map Dt.int=XS at g L;have M:atI (WB c P k) 0=ε (.int (P:Nat)):=by rw[SM.oC];exact O
 simp[-SM.oC,FO,uW,YT C,HH C,len,k1,k2,Q,M,S,GG C,g,L,T,e];exact sm
theorem DL{a b:Type}{F G:a->Ms b}:∀(xs:Ms a),(∀x∈xs,F x=G x)->xs.flatMap F=xs.flatMap G
 | [],_=>rfl
 | x::xs,H=>by rw[flatMap_cons,flatMap_cons,H x ⋯,DL xs fun y d=>H y (by simp[d])]
theorem Jb{f a:IA}{i j:Nat}(h:f i j=a i j)(k:Nat):dk f i j k=dk a i j k:=by unfold dk;rw[h]
set_option tactic.hygienic true in
theorem vp{c:Nat}{g:IA}(ok:WA c g)(ne:wB c g=false)(ls:Ms Ln)(e:Bd):e∈pC c (MB c g) ls↔e∈DF c g ls:=by
 have d:∀m,m<8192->m≠0->vA m ≠ []:=fun m lt h z=>h (nG lt (by decide) fun k n=>by
  rw[Nat.zero_testBit];cases q:m.testBit k with
  | false=>rfl
  | true=>have:=am.mpr ⟨n,q⟩;rw[z]at this;cases this)
 have S:=Bf (c:=c) (N:=fun i j=>if i<c/\j<c then g i j else 64) (fun i j=>by
  show vA (if i<c/\j<c then g i j else 64) ≠ [];split
  . rename_i q;refine d _ (ok.lt i q.1 j q.2) fun z=>?_
    unfold wB at ne;rw[any_eq_false]at ne;exact ne i (Ca.mpr q.1) (any_eq_true.mpr ⟨j,Ca.mpr q.2,by rw[z];rfl⟩)
  . exact d _ (by decide) (by decide)) (fun i j b a r=>by
  show(if j<c/\i<c then g j i else 64)=Xi (if i<c/\j<c then g i j else 64);rw[eG ⟨a,b⟩,eG ⟨b,a⟩];exact ok.tn i b j a) ls e
 have o:pC c (fun i j=>if i<c/\j<c then g i j else 64) ls=pC c (MB c g) ls:=by
  unfold pC
  congr 1
  refine DL _ fun p hp=>?_
  have:=bn.mp hp;show XC p.1 (if p.1<c/\p.2<c then g p.1 p.2 else 64) p.2=XC p.1 (MB c g p.1 p.2) p.2;rw[eG ⟨by omega,by omega⟩,IP g nofun nofun]
 have e2:DF c (fun i j=>if i<c/\j<c then g i j else 64) ls=DF c g ls:=by
  unfold DF
  congr 1
  refine DL _ fun i b=>DL _ fun j a=>DL _ fun k _=>?_
  exact Jb (eG ⟨Ca.mp b,Ca.mp a⟩) k
 rw[o,e2]at S;exact S
set_option tactic.hygienic true in
theorem Y2{h h':HI}(u:tj h h'){d:Dt}{xs:Ms Dt}(e:KA h d=ε xs):KA h' d=ε xs:=by
 cases d with
 | lst a=>exact e
 | ref n=>
  simp![KA]at e ⊢;split at e
  . rename_i q;cases e;rw[u.2 _ _ q]
  . cases e
 | _=>cases e
set_option tactic.hygienic true in
theorem UT{h:HI}{d:Dt}{xs:Ms Dt}(e:KA h d=ε xs):qB d h=ε (.int xs.length,h):=by
 cases d with
 | lst a=>cases e;rfl
 | ref n=>
  simp![KA]at e;split at e
  . rename_i zs q;cases e;exact HH q
  . cases e
 | _=>cases e
inductive Chn(L:IA->Nat->Tr->Nat->Prop):List IA->List Tr->Nat->Nat->Prop
 | nil {m}:Chn L [] [] m m
 | cons {b bs t ts m m1 s}:L b m t m1->Chn L bs ts m1 s->Chn L (b::bs) (t::ts) m s
theorem aZ{L:IA->Ms (Ms aC)->Nat->t0->Nat->Prop}{tag:Ni (Nat×Nat)}{st:Ms HQ}{gs:Ms (Ms aC)}:∀(bs:Ms IA)(j:Nat)(d:Ms Tr)(i:Tr)(sp:Nat),lE L tag st gs bs j d (.clash i) sp->
 ∃g,i=LK tag st (d++g)/\Chn (fun b m t s=>L b gs m (.clash t) s) bs g j sp
 | [],j,d,i,sp,h=>by
  obtain⟨e,rfl⟩:=h;injection e with e
  exact⟨[],by rw[Us];exact e,.nil⟩
 | b::bs,j,d,i,sp,h=>by
  rcases h with⟨t,n,k,o⟩ | ⟨k,_⟩
  . obtain⟨g,e,a⟩:=aZ bs n (d++[t]) i sp o;exact⟨t::g,by rw[e,su];rfl,.cons k a⟩
  . exact Ei rfl k
def pM(c m:Nat)(ls:Ms Ln)(n:Nat)(R:gB):Prop:=∀(f:IA)(e:Ms (Ms aC))(made:Nat)(g:Tr)(i:Nat)(h:HI)(b k:Nat)(a:Ms Dt)(d:Dt),Uu h b c f->WA c f->ah h a e->aw c e->(∀x∈e,x.length<=100)->DC c m ls n f e made (.clash g) i->Zo k h g d->
 ∃j,R [.lst pB,.ref (b+c),.lst a,.lst (ls.map rB),d] h=ε (.int ((i:Int)-made),j)/\tj h j
theorem ZY{c m lo:Nat}{ls:Ms Ln}{n:Nat}{R:gB}(T:pM c m ls n R){gds:Ms Dt}{gs:Ms (Ms aC)}(go:aw c gs)(S:∀x∈gs,x.length<=100)(nv x:Dt):∀(y o:Ms Dt)(bs:Ms IA)(k:Ms Tr)(i dp:Ms Dt)(h:HI)(g sp:Nat)(e:Int)(E D B:Ni Dt),i.length=dp.length->KA h nv=ε (i++y)->KA h x=ε (dp++o)->ad (be h c) bs y->(∀b∈bs,WA c b)->Ye lo h k o->Chn (fun b Y t s=>DC c m ls n b gs Y (.clash t) s) bs k g sp->ah h gds gs->
 ∃P I H F,tj h P/\iC (JD 6 7) (tJ R) (.zp nv x) (y.length+1) i.length [ε (.lst pB),ε nv,ε (.lst gds),ε (.lst (ls.map rB)),ε x,ε (.int e),E,D,B] h=ε (.nx [ε (.lst pB),ε nv,ε (.lst gds),ε (.lst (ls.map rB)),ε x,ε (.int (e+((sp:Int)-g))),I,H,F] P)
 | [],o,bs,k,i,dp,h,g,sp,e,E,D,B,hl,hn,hx,a,ob,ft,C,Q=>by cases a;cases C;refine⟨h,E,D,B,tj.refl h,?_⟩;rw[Us]at hn;rw[show e+((g:Int)-g)=e by omega,iC];simp![th.at,hn,hx,ju (Uo i.length)]
 | nd::y,o,bs,k,i,dp,h,g,sp,e,E,D,B,hl,hn,hx,a,ob,ft,C,Q=>by
  cases a with
  | @cons L _ J _ a1 a2=>
   obtain⟨p,rfl,N⟩:=a1;cases C with
   | @cons _ _ t k _ j _ M C=>
    simp![Ye]at ft;obtain⟨d,o,rfl,f1,f2⟩:=ft;obtain⟨O,e1,u⟩:=T L gs g t j h p lo gds d N (ob L ⋯) Q go S M f1;have le:=(cM n L gs g _ _ M).1;have W:decide (((j:Int)-g)<0)=false:=fu nofun;have g1:(i++Dt.ref (p+c)::y)[i.length]?=ε (.ref (p+c)):=by simp
    have g2:(dp++d::o)[i.length]?=ε d:=by rw[hl];simp
    have bd:tJ R [ε (.lst pB),ε nv,ε (.lst gds),ε (.lst (ls.map rB)),ε x,ε (.int e),ε (.ref (p+c)),ε d,B] h=ε (.nx [ε (.lst pB),ε nv,ε (.lst gds),ε (.lst (ls.map rB)),ε x,ε (.int (e+((j:Int)-g))),ε (.ref (p+c)),ε d,ε (.int ((j:Int)-g))] O):=by simp![tJ,EA,bB,XA,JA,wA,QA,DA,BA,kA,sA,Ra,Ri,nA,dA,Us,e1,Va,Ti,NA,jJ,W,OA,Wo,eO,BB,yC]
    obtain⟨h2,I,H,F,U,r⟩:=ZY T go S nv x y o J k (i++[.ref (p+c)]) (dp++[d]) O j sp (e+((j:Int)-g)) (ε (.ref (p+c))) (ε d) (ε (.int ((j:Int)-g))) (by simp[hl]) (by rw[Y2 u hn];simp) (by rw[Y2 u hx];simp) (a2.imp fun z z q=>q.up u) (fun b Z=>ob b (by simp[Z])) (Ye.up (Uo lo) (u.f lo) k f2) C (Q.up u);refine⟨h2,I,H,F,u.trans U,?_⟩;rw[ji,length_singleton,show e+((j:Int)-g)+((sp:Int)-j)=e+((sp:Int)-g) by omega]at r;rw[Ru,iC];simp![th.at,hn,hx,g1,g2,qT,Wa,Va,Ti,bd];exact r
theorem Ye.len{lo:Nat}{h:HI}:∀(a:Ms Tr){ds:Ms Dt},Ye lo h a ds->a.length=ds.length
 | [],ds,q=>by simp![Ye]at q;rw[q];rfl
 | t::a,ds,q=>by simp![Ye]at q;obtain⟨d,r,rfl,_,q⟩:=q;rw[Ru,Ru,Ye.len a q]
theorem Chn.len{L:IA->Nat->Tr->Nat->Prop}{bs:Ms IA}{a:Ms Tr}{m s:Nat}(h:Chn L bs a m s):bs.length=a.length:=by
 induction h with
 | nil=>rfl
 | cons _ _ ih=>rw[Ru,Ru,ih]
set_option tactic.hygienic true in
theorem j9 {h:HI} {d:Dt} {xs:Ms Dt} (e:KA h d=ε xs):SF h d=ε "list" :=by
 cases d with
 | lst a=>rfl
 | ref n=>
  simp![KA]at e;split at e
  . rename_i q;exact YT q
  . cases e
 | _=>cases e
theorem BW{c m lo:Nat}{ls:Ms Ln}{n:Nat}{R:gB}(D:pM c m ls n R){gds:Ms Dt}{gs:Ms (Ms aC)}(go:aw c gs)(y:∀x∈gs,x.length<=100){nv x:Dt}{d ds:Ms Dt}{bs:Ms IA}{e:Ms Tr}{h:HI}{j sp:Nat}(i:KA h nv=ε d)(g:KA h x=ε ds)(a:ad (be h c) bs d)(ob:∀b∈bs,WA c b)(k:Ye lo h e ds)(ch:Chn (fun b p t s=>DC c m ls n b gs p (.clash t) s) bs e j sp)(Q:ah h gds gs) :
 ∃h',rJ R [.lst pB,nv,.lst gds,.lst (ls.map rB),x] h=ε (.int (1+((sp:Int)-j)),h')/\tj h h':=by
 obtain⟨h',H,F,E,u,r⟩:=ZY D go y nv x d ds bs e [] [] h j sp 1 none none none rfl i g a ob k ch Q;refine⟨h',?_,u⟩;have L:=a.len;have J:=ch.len;have I:=Ye.len e k;have C:decide (((ds.length:Nat):Int)=((d.length:Nat):Int))=true:=iu nofun;have o:=Am (r:=nv) (q:=x) i g;have B:∀l:LI,ND (JD 6 7) (tJ R) l (.zp nv x,h)=iC (JD 6 7) (tJ R) (.zp nv x) (d.length+1) 0 l h:=fun l=>by unfold ND;simp![th.fuel,i]
 simp![Vu,Ve]at r;dsimp![rJ,yR,Ss (f:=some),Vs (f:=some),Wu,Vu,EA,XA,UE,uE,JA,MH,wA,fC,sA,Ri,j9 g,Vi,show UI "list" "list" =true from rfl,UT i,UT g,aE,C,vo,OA,Wo,eO,BB,NA,bB,Va,Ti,XB,A9,o,B,r,jB,uB]
section
variable{R:gB}{c b s:Nat}{f g:IA}{h:HI}{ys:Ms Dt}{G L:Dt}{w:Str}{st:Ms HQ}
theorem J4{d:Dt}{H:HI}:pA (.tup (d::ys)) (.int 0) H=ε (d,H):=by rw[LB,show(0:Int)=((0:Nat):Int)from rfl,SM.YC];rfl
theorem KG{v:Str}{l:LI}{H:HI}{a:Bool}(q:l[4]?=ε (ε (.tup (.str w::ys))))(e:decide (w=v)=a):tf (e2 aF (e2 pA (eV 4) (ua 0)) (eC (.str v))) l H=ε (a,H):=by rw[<- e];exact tb _ (WI (WI (ev q) rfl J4) rfl (Jz w v))
theorem K2{i:Int}{l:LI}{H:HI}{xs:Ms Dt}{a:Bool}(q:l[4]?=ε (ε (.tup xs)))(e:decide ((xs.length:Int)=i)=a):tf (e2 aF (QB qB (eV 4)) (eC (.int i))) l H=ε (a,H):=by rw[<- e];exact tb _ (WI (xQ (ev q) rfl) rfl (rN _ _))
theorem rP{e:HI}{a:Nat}(o:kG [.lst pB,.ref (b+c),.ref s] h=ε (.ref (a+c),h++e)){Rr:Ni (Dt×HI)}{X:RS}
 (m:∃j i d,jG R=gA j (gA i (gA d X))/\j=VB (HC (aD (tf (pF "tuple" (eV 4)))) (tf (e2 YH (QB qB (eV 4)) (ua 2)))) (uA (JC (ua 1))) MA/\i=zA 5 (xA kG [] (bA (eV 0) (bA (eV 1) (bA (e2 pA (eV 4) (ua 1)) fA))))/\d=VB (tf (e2 qF (eV 5) (eC .non))) (uA (JC (ua 1))) MA)
 (k:TD (X [ε (.lst pB),ε (.ref (b+c)),ε G,ε L,ε (.tup (.str w::.ref s::ys)),ε (.ref (a+c)),none,none,none] (h++e))=Rr) :
 DB 5 9 (jG R) [.lst pB,.ref (b+c),G,L,.tup (.str w::.ref s::ys)] h=Rr:=by
 obtain⟨_,_,_,p,rfl,rfl,rfl⟩:=m;have lt:decide (((ys.length+1+1:Nat):Int)<2)=false:=fu nofun;have n:L2.atI (Dt.str w::Dt.ref s::ys) 1=ε (.ref s):=by rw[show(1:Int)=((1:Nat):Int)from rfl,SM.YC];rfl
 rw[p,<- k];dsimp![Ss (f:=some),Vs (f:=some),Wu,Vu,EA,XA,UE,uE,JA,MH,wA,fC,sA,Ri,Z2,Vi,show UI "tuple" "tuple" =true from rfl,vo,OA,Wo,eO,jK,jJ,lt,BB,NA,bB,QA,DA,BA,LB,n,Us,o,Va,Ti,FM,yF]
theorem LS{l:LI}{H:HI}{d:Nat}(e:Uu H d c g)(j:dE c g)(ne:wB c g=false)(i:c<=100)(q0:l[0]?=ε (ε (.lst pB)))(q5:l[5]?=ε (ε (.ref (d+c)))) :
 HC (tf (xA oH [] (bA (eV 5) fA))) (aD (tf (xA aL [] (bA (eV 0) (bA (eV 5) fA))))) l H=ε (false,H):=by
 have a:=ES e;rw[ne]at a;simp![UE,uE,JA,QA,DA,BA,kA,q0,q5,nA,dA,Us,a,OA,Wo,eO,jr e j i,vo]
theorem tT{t u:RT}{l:LI}{H:HI}(q:t l H=ε (false,H)):zF t u l H=ε (false,H):=by rw[QG,q,dA];rfl
theorem zS{t u:RT}{l:LI}{H:HI}{v:Bool}(q:t l H=ε (true,H))(r:u l H=ε (v,H)):zF t u l H=ε (v,H):=by rw[QG,q,dA];exact r
theorem bQ{t u:RT}{l:LI}{H:HI}{v:Bool}(q:t l H=ε (false,H))(r:u l H=ε (v,H)):HC t u l H=ε (v,H):=by rw[UE,q,dA];exact r
end
theorem Dk{R:gB}{c b s d:Nat}{g:IA}{h e:HI}{G L:Dt}(j:kG [.lst pB,.ref (b+c),.ref s] h=ε (.ref (d+c),h++e))(k:Uu (h++e) d c g)(i:wB c g=true) :
 DB 5 9 (jG R) [.lst pB,.ref (b+c),G,L,.tup [.str "threes", .ref s]] h=ε (.int 0,h++e):=by
 refine rP j ⟨_,_,_,rfl,rfl,rfl,rfl⟩ (vH (KG rfl (by decide)) ?_);have a:=ES k;rw[i]at a;simp![wA,fC,vM,QA,DA,BA,kA,sA,Ra,Ri,nA,dA,jK,Ru,Ve,Nat.reduceAdd,Hu,rN,decide_true,WL,eN,Us,a,oM,SD];rfl
theorem Oh{R:gB}{c b s p r:Nat}{g:IA}{h e:HI}{G:Dt}{ls:Ms Ln}(C:c<=8)(B:ls.length<=100)(m:∀x∈ls,x.1<c)(og:WA c g)(F:kG [.lst pB,.ref (b+c),.ref s] h=ε (.ref (p+c),h++e))(n:Uu (h++e) p c g)(ne:wB c g=false)(H:dE c g)
 {cs:Nat->Ni Nat} {P k:Nat} (Rg:bH (2*c) (dD (pC c (MB c g) ls)) (nJ (pC c (MB c g) ls)) cs P k) (o:h[r]?=ε (.lst (WB cs P k))) :
 DB 5 9 (jG R) [.lst pB,.ref (b+c),G,.lst (ls.map rB),.tup [.str "ring", .ref s,.ref r]] h=ε (.int 0,h++e++[.lst ((DF c g ls).map oA)]):=by
 refine rP F ⟨_,_,_,rfl,rfl,rfl,rfl⟩ (sG (KG rfl (by decide)) (sG (LS n H ne nofun rfl rfl) (vH (zS (KG rfl (by decide)) (K2 rfl rfl)) ?_)));have E:=zq n C B;have d:(h++e++[Ob.lst ((DF c g ls).map oA)])[r]?=ε (.lst (WB cs P k)):=by rw[su,Xo (Wi o).1];exact o
 have D:=pj (a:=(h++e).length) (show 2*c<=90 by omega) (vp og ne ls) (by rw[ab (Uo _),Ds];rfl) d (fT (MB c g) m) Rg;have q:=(n.grow [Ob.lst ((DF c g ls).map oA)]).len;have u:=UC (h:=h++e++[Ob.lst ((DF c g ls).map oA)]) (i:=2) (j:=(c:Int)) (Or.inl ⟨by decide,by decide⟩);have y:L2.atI [Dt.str "ring", .ref s,.ref r] 2=ε (.ref r):=rfl;have I:(2*(c:Int))=((2*c:Nat):Int):=rfl;simp![wA,fC,QA,DA,BA,kA,sA,Ra,Ri,nA,dA,Us,E,LB,y,Vi,q,u,I,D,oM,SD];rfl
section
variable{R:gB}{c m b s o r lo n f sp:Nat}{g:IA}{h e:HI}{ls:Ms Ln}{gs:Ms (Ms aC)}{gds z:Ms Dt}{v:Ms Tr}
theorem Df(IH:pM c m ls n R)(hc:c<=8){grp:Ms aC}(go:aw c (grp::gs))(E:∀x∈grp::gs,x.length<=100)(og:WA c g)(eb:kG [.lst pB,.ref (b+c),.ref s] h=ε (.ref (o+c),h++e))(F:Uu (h++e) o c g)(ne:wB c g=false)(cl:dE c g)
 (Q:ah h gds (grp::gs)) (ch:Chn (fun b M t s=>DC c m ls n b gs M (.clash t) s) ((List.range grp.length).map (VG (MB c g) grp)) v (f+1) sp) (U:h[r]?=ε (.lst z)) (T:Ye lo h v z) :
 ∃h',DB 5 9 (jG R) [.lst pB,.ref (b+c),.lst gds,.lst (ls.map rB),.tup [.str "one", .ref s,.ref r]] h=ε (.int ((sp:Int)-f),h')/\tj h h':=by
 cases Q with
 | @cons gd _ d _ a q=>
  obtain⟨k,rfl,D⟩:=a;have N3:Uu (h++e) o c (MB c g):=F.congr fun i Y j W=>(IP g Y W).symm
  have B:(h++e)[k]?=ε (.lst (grp.map UA)):=by rw[Xo (Wi D).1];exact D
  obtain⟨C,p,em,A⟩:=Gh N3 nofun B (go grp ⋯) (E grp ⋯);have L:tj h (h++e):=tj.app h e;have J:tj (h++e) (h++e++Ob.lst p::C):=tj.app _ _;have u:=L.trans J;have ok:∀b∈(List.range grp.length).map (VG (MB c g) grp),WA c b:=nI (OT og) go (gs:=grp::gs) rfl
  obtain⟨h',Z,I⟩:=BW (lo:=lo) IH go.tail (fun x S=>E x (by simp[show x∈gs from S])) (nv:=.ref (h++e).length) (x:=.ref r) (GG (WJ (h++e) C (Ob.lst p))) (GG (u.2 _ _ U)) A ok (Ye.up (Uo lo) (u.f lo) v T) ch (q.up u);refine⟨h',?_,u.trans I⟩;refine rP eb ⟨_,_,_,rfl,rfl,rfl,rfl⟩ (sG (KG rfl (by decide)) (sG (LS F cl ne nofun rfl rfl) (sG (tT (KG rfl (by decide))) (vH (zS (KG rfl (by decide)) (zS (K2 rfl rfl) (tb true (WI (xQ (ev rfl) rfl) rfl ?_)))) ?_))))
  . show PM (.int (((Dt.ref k::d).length:Nat):Int)) (.int 0) (h++e)=_;rw[ZH,iu (by rw[Ru];omega)]
  . have O:L2.atI [Dt.str "one", .ref s,.ref r] 2=ε (.ref r):=rfl;have P:L2.atI (Dt.ref k::d) 0=ε (.ref k):=by rw[show(0:Int)=((0:Nat):Int)from rfl,SM.YC];rfl
    have y:∀(l:LI)(H:HI),l[2]?=ε (ε (.lst (Dt.ref k::d)))->KM (eV 2) (vG (ua 1)) jN l H=ε (.lst d,H):=fun l H q2=>by have c1:=SM.DS (Dt.ref k::d) 1;rw[T4,ev q2,dA,show vG (ua 1) l H=ε (ε 1,H)from rfl,dA,show jN l H=ε (none,H)from rfl,dA];show ε (Dt.lst (SM.CF (Dt.ref k::d) (ε 1) none),H)=_;rw[show(ε (1:Int))=ε ((1:Nat):Int)from rfl,c1];rfl
    have y:=y [ε (.lst pB),ε (.ref (b+c)),ε (.lst (Dt.ref k::d)),ε (.lst (ls.map rB)),ε (.tup [.str "one", .ref s,.ref r]),ε (.ref (o+c)),none,none,none] (h++e++Ob.lst p::C) rfl;simp![QA,DA,BA,wA,kA,sA,Ra,Ri,nA,dA,Us,nQ,P,Vi,em,y,LB,O,Z];rw[show 1+((sp:Int)-((f+1:Nat):Int))=(sp:Int)-f by omega]
theorem b9{l:LI}{H:HI}{x y:Dt}{p:Nat×Nat}(q:l[4]?=ε (ε (.tup [x,y,.int (p.1:Nat),.int (p.2:Nat),.ref r]))):bN (eV 4) (vG (ua 2)) (vG (ua 4)) l H=ε (AA p,H):=by
 have a:¬(HT.sIx 5 0 (ε 2)=0/\HT.sIx 5 5 (ε 4)=5):=by decide
 have j:eV 4 l H=ε (.tup [x,y,.int (p.1:Nat),.int (p.2:Nat),.ref r],H):=ev q;have i:vG (ua 2) l H=ε (ε 2,H):=rfl;have d:vG (ua 4) l H=ε (ε 4,H):=rfl;simp![bN,j,i,d,Wa,L3];rw[eG (show ¬(HT.sIx [x,y,Dt.int (p.1:Nat),.int (p.2:Nat),.ref r].length 0 (ε 2)=0/\HT.sIx [x,y,Dt.int (p.1:Nat),.int (p.2:Nat),.ref r].length [x,y,Dt.int (p.1:Nat),.int (p.2:Nat),.ref r].length (ε 4)=[x,y,Dt.int (p.1:Nat),.int (p.2:Nat),.ref r].length)from a)];rfl
theorem pp(p:Nat×Nat)(H:HI):rF (AA p) (AA p) H=ε (.bl false,H):=by show ε (Dt.bl (!decide ([(p.1:Int),p.2]=[(p.1:Int),p.2])),H)=_;rw[iu rfl];rfl
theorem Wn{l:LI}{H:HI}{p:Nat×Nat}(d:Uu H o c g)(h1:p.1<c)(h2:p.2<c)(q5:l[5]?=ε (ε (.ref (o+c))))(q6:l[6]?=ε (ε (AA p))) :
 xC (kE (ua 13)) (rA 0) (lL R) (KN R) [none,ε 5,ε 6] l H=ε (.lst ((vA (g p.1 p.2)).map fun(k:Nat)=>Dt.int (k:Int)),H):=by
 have q:∀H,pA (AA p) (.int 0) H=ε (.int (p.1:Nat),H):=fun z=>rfl
 have j:∀H,pA (AA p) (.int 1) H=ε (.int (p.2:Nat),H):=fun z=>rfl
 have u:=ZL (te:=KN R) (i:=0) (tc:=lL R) (fun(k:Nat)=>Dt.int (k:Int)) (fun k=>(g p.1 p.2).testBit k) (fun(k:Nat)=>Dt.int (k:Int)) H (List.range 13) [none,ε (.ref (o+c)),ε (AA p)] (by
  intro k _;have x:=EI (g p.1 p.2) k;refine⟨?_,fun z=>rfl⟩;simp![lL,JA,wA,kA,sA,Ti,Ra,Ri,nA,dA,q,j,d.ix h1,d.ix2 h1 h2,JH (show(0:Int)<=(k:Int) by omega),n7,ME,rN,OA,x])
 have a:=UD (l:=[none,ε (.ref (o+c)),ε (AA p)]) (h:=H) (rA 0) (lL R) (KN R) (xs:=(List.range 13).map fun(k:Nat)=>Dt.int (k:Int)) (J6 _);rw[u]at a;simp![nE,YD,sA,dA,aV,fD,FG,eD,q5,q6,Ku,a];rfl
theorem Vn{l:LI}{H:HI}{p:Nat×Nat}(L:c<=100)(J:Uu H o c g)(h1:p.1<c)(h2:p.2<c)(q5:l[5]?=ε (ε (.ref (o+c))))(q6:l[6]?=ε (ε (AA p))){ws:Ms Nat}(hw:∀w∈ws,w<13)(B:ws.length<=13)(q7:l[7]?=ε (ε (.lst (ws.map fun(k:Nat)=>Dt.int (k:Int))))) :
 ∃nds a,xC (JB (eV 7)) (rA 0) nB (kL R) [none,ε 5,ε 6] l H=ε (.lst nds,a)/\Up H a/\ad (be a c) (ws.map fun w=>vB g p.1 (2^w) p.2) nds:=by
 have D:∀H,pA (AA p) (.int 0) H=ε (.int (p.1:Nat),H):=fun z=>rfl
 have C:∀H,pA (AA p) (.int 1) H=ε (.int (p.2:Nat),H):=fun z=>rfl
 obtain⟨nds,a,F,u,A⟩:=uO (te:=kL R) (fun(k:Nat)=>Dt.int (k:Int)) (fun H w d=>be H c (vB g p.1 (2^w) p.2) d) (fun z z z z u q=>q.up u.l) ws [none,ε (.ref (o+c)),ε (AA p)] H (by
  intro w i y u;have j:=NI (h:=y) (TH (hw w i));simp![n7]at j;have I:(1:Int)*2^w=((2^w:Nat):Int):=by simp
  have E:=KO (u.l.net J) nofun h1 h2 (2^w);refine⟨_,_,?_,Up.app _ _,⟨_,rfl,qE y c _⟩⟩;simp![kL,QA,DA,BA,wA,kA,sA,Ti,Ra,Ri,nA,dA,D,C,j,I,Us,E])
 have x:=UD (l:=[none,ε (.ref (o+c)),ε (AA p)]) (h:=H) (rA 0) nB (kL R) (xs:=ws.map fun(k:Nat)=>Dt.int (k:Int)) (by rw[ni];exact Du B (by decide));rw[F]at x;refine⟨nds,a,?_,u,A.eP⟩;simp![nE,rC,kA,q7,nA,dA,WF,fD,FG,eD,q5,q6,Ku,x]
end
section
variable{R:gB}{c m b s o r lo n a sp:Nat}{g:IA}{h e:HI}{ls:Ms Ln}{q:Ms Dt}{f:Ms Tr}
theorem Jy(U:pM c m ls n R)(Y:c<=8){p:Nat×Nat}(lp:wD c (MB c g)=ε p)(og:WA c g)(Q:kG [.lst pB,.ref (b+c),.ref s] h=ε (.ref (o+c),h++e))(B:Uu (h++e) o c g)(ne:wB c g=false)(S:dE c g)
 (ch:Chn (fun b F t s=>DC c m ls n b [] F (.clash t) s) ((vA (MB c g p.1 p.2)).map fun w=>vB (MB c g) p.1 (2^w) p.2) f (a+1) sp) (I:h[r]?=ε (.lst q)) (T:Ye lo h f q) :
 ∃h',DB 5 9 (jG R) [.lst pB,.ref (b+c),.lst [],.lst (ls.map rB),.tup [.str "split", .ref s,.int (p.1:Nat),.int (p.2:Nat),.ref r]] h=ε (.int ((sp:Int)-a),h')/\tj h h':=by
 have W:=bn.mp (Ao lp);have C:Uu (h++e) o c (MB c g):=B.congr fun i L j J=>(IP g L J).symm
 have M:=pa B og ne nofun lp;obtain⟨y,Z,P,un,A⟩:=Vn (R:=R) (l:=[ε (.lst pB),ε (.ref (b+c)),ε (.lst []),ε (.lst (ls.map rB)),ε (.tup [.str "split", .ref s,.int (p.1:Nat),.int (p.2:Nat),.ref r]),ε (.ref (o+c)),ε (AA p),ε (.lst ((vA (MB c g p.1 p.2)).map fun(k:Nat)=>Dt.int (k:Int))),none]) (p:=p) nofun C nofun nofun rfl rfl (ws:=vA (MB c g p.1 p.2)) (fun w hw=>(am.mp hw).1) (NJ _) rfl;have E:tj h (h++e):=tj.app h e;have u:=E.trans un.l;have ok:∀b∈(vA (MB c g p.1 p.2)).map fun w=>vB (MB c g) p.1 (2^w) p.2,WA c b:=by refine nI (OT og) (gs:=[]) (fun v z=>nomatch z) (tag:=ε p) (ps:=[p]) ?_;simp![KC,lp]
 obtain⟨h',O,D⟩:=BW (lo:=lo) (gs:=[]) (gds:=[]) U (fun v z=>nomatch z) (fun v z=>nomatch z) (nv:=.lst y) (x:=.ref r) rfl (GG (u.2 _ _ I)) A ok (Ye.up (Uo lo) (u.f lo) f T) ch .nil;refine⟨h',?_,u.trans D⟩;have wd:gL [.ref (o+c)] (h++e)=ε (AA p,h++e):=M;have H:L2.atI [Dt.str "split", .ref s,.int (p.1:Nat),.int (p.2:Nat),.ref r] 4=ε (.ref r):=rfl;refine rP Q ⟨_,_,_,rfl,rfl,rfl,rfl⟩ (sG (KG rfl (by decide)) (sG (LS B S ne nofun rfl rfl) (sG (tT (KG rfl (by decide))) (sG (tT (KG rfl (by decide))) (VT (d:=AA p) (h1:=h++e) ?_ rfl (sG (h1:=h++e) ?_ (VT (Wn C (p:=p) nofun nofun rfl rfl) rfl (VT P rfl (R8 ?_)))))))))
 . simp![QA,DA,BA,kA,Ra,Ri,nA,dA,Us,wd]
 . refine bQ (tb false (WI (WI (ev rfl) rfl J4) rfl ?_)) (bQ (tb false (WI (xQ (ev rfl) rfl) rfl ?_)) (bQ (tb false (WI (xQ (ev rfl) rfl) rfl rfl)) (bQ (tb false (WI (ev rfl) rfl rfl)) (tb false (WI (b9 rfl) (ev rfl) (pp p _))))))
   . exact oQ _ _
   . exact J7 _ _
 . simp![QA,DA,BA,wA,kA,sA,Ra,Ri,Ti,Va,nA,dA,Us,LB,H,Vi,O];rw[show 1+((sp:Int)-((a+1:Nat):Int))=(sp:Int)-a by omega]
end
theorem pu{c m:Nat}{ls:Ms Ln}(C:c<=8)(Z:ls.length<=100)(B:∀x∈ls,x.1<c):∀n,pM c m ls n (JO n):=by
 intro n
 induction n with
 | zero=>intro f D made H I h b Y u d _ _ _ _ _ L _;exact L.elim
 | succ n O=>
  intro f D made H I h b Y u d N of Q go gl L T;show ∃h',DB 5 9 (jG (JO n)) [.lst pB,.ref (b+c),.lst u,.lst (ls.map rB),d] h=_/\_
  rcases L with⟨W,g,S,em,e,rfl⟩ | ⟨W,g,⟨g0,S,E,ne,rfl⟩,L⟩
  . injection e with e
    subst e;simp![Zo]at T;obtain⟨s,rfl,_,hs⟩:=T;obtain⟨o,y⟩:=B3 S;obtain⟨e,F,j,i⟩:=MO N nofun hs o;rw[y]at i;exact⟨h++e,by rw[Dk j i em,Int.sub_self],tj.app h e⟩
  . have og:=S.ok of;obtain⟨o,y⟩:=B3 S;rcases L with⟨cs,P,k,Rg,e,rfl⟩ | ⟨t,_,L⟩
    . injection e with e
      subst e;simp![Zo]at T;obtain⟨s,r,rfl,_,_,hs,q⟩:=T;obtain⟨e,F,j,i⟩:=MO N nofun hs o;rw[y]at i;exact⟨_,by rw[Oh C Z B og j i ne E Rg q,Int.sub_self],(tj.app h e).trans (tj.app _ _)⟩
    . rcases L with⟨_,e,_⟩ | ⟨U,bs,ps,a,L⟩
      . cases e
      . rcases L with⟨_,e,_⟩ | ⟨_,L⟩
        . cases e
        . obtain⟨R,J,M⟩:=aZ bs _ [] H I L;rw[Vu]at J;subst J;cases D with
          | cons grp D=>simp![KC,Ga,xu]at a;obtain⟨rfl,rfl,_⟩:=a;simp![LK,Zo]at T;obtain⟨s,r,ds,rfl,_,_,hs,q,T⟩:=T;obtain⟨e,F,j,i⟩:=MO N nofun hs o;rw[y]at i;exact Df O C go gl og j i ne E Q M q T
          | nil=>
           simp![KC]at a;cases lp:wD c (MB c g0)with
           | none=>rw[lp]at a;cases a
           | some p=>rw[lp]at a;simp![Ga,xu]at a;obtain⟨rfl,rfl,_⟩:=a;simp![LK,Zo]at T;obtain⟨s,r,ds,rfl,_,_,hs,q,T⟩:=T;obtain⟨e,F,j,i⟩:=MO N nofun hs o;rw[y]at i;cases Q;exact Jy O C lp og j i ne E M q T
theorem Zb{c:Nat}(o:c<=1000){l:LI}(q:l[0]?=ε (ε (.int (c:Nat))))(h:HI):rE (kE (eV 0)) (rA 0) nB CN [none,ε 0] l h=ε (.ref (h.length+c),h++lC h.length c Xe):=by
 have a:=fun h:HI=>oE (h:=h) (show(-(2^62):Int)<=(c:Int) by omega) (show(c:Int)<2^62 by omega)
 simp![n7]at a;have hs:((List.range c).map fun(k:Nat)=>Dt.int (k:Int)).length<sizeLine:=by simp;omega
 have b:=LO (te:=CN) (i:=0) (fun(k:Nat)=>Dt.int (k:Int)) (fun i=>Ob.lst (vC c (Xe i))) h (List.range c) [none,ε (.int (c:Nat))] [] (by
  intro i n e;have m:=XF (te:=bL) (i:=0) (tc:=nB) (fun(k:Nat)=>Dt.int (k:Int)) (fun j=>Dt.int (Xe i j:Nat)) (h++e) (List.range c) [none,ε (.int (i:Nat))] (by
   intro j _;refine⟨rfl,?_⟩;have u:=fun(x:Int)=>UC (h:=h++e) (i:=8127) (j:=x) (Or.inl ⟨by decide,by decide⟩)
   by_cases z:i=j
   . have d:decide ((i:Int)=(j:Int))=true:=iu nofun;simp![bL,wA,fC,kA,sA,Ti,Ra,Ri,nA,dA,LC,d,oM,eN,u,SD,Xe,eG z];rfl
   . have d:decide ((i:Int)=(j:Int))=false:=fu nofun;simp![bL,wA,fC,kA,sA,Ti,Ra,Ri,nA,dA,LC,d,oM,Wo,eO,u,SD,Xe,eH z];rfl)
  have g:=UD (l:=[none,ε (.int (i:Nat))]) (h:=h++e) (rA 0) nB bL hs;rw[m]at g;simp![CN,mI,YD,kA,Ti,Ra,Ri,nA,dA,a,fD,FG,eD,Ku,g];rfl)
 rw[Us,Fi]at b;simp[mI,q,a,UD _ _ _ hs,b,lC,bF]
theorem Nb{h:HI}{a c:Nat}(s:c<=1000){ds:Ms Dt}(u:h[a]?=ε (.lst ds)){fs:Ms sv}(F:Yo h ds fs)(ok:∀x∈fs,tD c x) :
 ∃b h',wN [.int (c:Nat),.ref a] h=ε (.ref (b+c),h')/\Uu h' b c (FC Xe fs)/\Up h h':=by
 have H:=Zb s (l:=[ε (.int (c:Nat)),ε (.ref a),none,none]) rfl h;have U0:Up h (h++lC h.length c Xe):=Up.app _ _;have O:=qE h c Xe;have B:ds=ds.map id:=by simp
 obtain⟨Q,h',e,g,y,rfl,j,U⟩:=rK (i:=3) (n:=a) (body:=dL) id (fun k l h'=>∃g y,l=[ε (.int (c:Nat)),ε (.ref a),ε (.ref (g+c)),y]/\Uu h' g c (FC Xe (fs.take k))/\Up h h') ds (by
  rintro k l h' ⟨g,y,rfl,j,U⟩;rw[<- B];exact U.get u) (by
  rintro k d hd l h' ⟨g,y,rfl,j,U⟩;obtain⟨x,r,q⟩:=F.get hd;have o:=K3 q [ε (.int (c:Nat)),ε (.ref a),ε (.ref (g+c)),ε d] h' 3 rfl;have p:=ok x (lu r);have eq:FC Xe (fs.take (k+1))=FC (FC Xe (fs.take k)) [x]:=by rw[sI r,BL]
  have P:([ε (.int (c:Nat)),ε (.ref a),ε (.ref (g+c)),y]:LI).set 3 (ε (id d))=[ε (.int (c:Nat)),ε (.ref a),ε (.ref (g+c)),ε d]:=rfl;rw[P];cases x with
  | ways m=>obtain⟨L,J,S,R⟩:=p;have qd:d=UA m:=q;have I:=KO j s L J m.2.1;have M:=qE h' c (vB (FC Xe (fs.take k)) m.1 m.2.1 m.2.2);refine⟨.nx [ε (.int (c:Nat)),ε (.ref a),ε (.ref (h'.length+c)),ε d] (h'++lC h'.length c (vB (FC Xe (fs.take k)) m.1 m.2.1 m.2.2)),?_,h'.length,_,rfl,by rw[eq];exact M,U.trans (Up.app _ _)⟩;have D:atI [Dt.str "ways",Dt.int (m.1:Nat),Dt.int (m.2.1:Nat),Dt.int (m.2.2:Nat)] 2=ε (.int (m.2.1:Nat)):=rfl;have E:atI [Dt.str "ways",Dt.int (m.1:Nat),Dt.int (m.2.1:Nat),Dt.int (m.2.2:Nat)] 1=ε (.int (m.1:Nat)):=rfl;have C:atI [Dt.str "ways",Dt.int (m.1:Nat),Dt.int (m.2.1:Nat),Dt.int (m.2.2:Nat)] 3=ε (.int (m.2.2:Nat)):=rfl;unfold dL;rw[XA,JA,o];rw[qd];simp![MM,dA,OA,eN,bB,QA,DA,BA,wA,kA,sA,Ra,Ri,nA,UA,LB,E,D,C,Vi,Us,I,Va,Ti]
  | long m=>refine⟨.nx [ε (.int (c:Nat)),ε (.ref a),ε (.ref (g+c)),ε d] h',?_,g,_,rfl,by rw[eq];exact j,U⟩;unfold dL;rw[XA,JA,o];simp![MM,dA,OA,Wo,eO,BB]
  | one m=>
   refine⟨.nx [ε (.int (c:Nat)),ε (.ref a),ε (.ref (g+c)),ε d] h',?_,g,_,rfl,by rw[eq];exact j,U⟩;unfold dL;rw[XA,JA,o];simp![MM,dA,OA,Wo,eO,BB]) [ε (.int (c:Nat)),ε (.ref a),ε (.ref (h.length+c)),none] (h++lC h.length c Xe) ⟨h.length,_,rfl,O,U0⟩
 rw[F.len,Ke]at j;refine⟨g,h',?_,j,U⟩;dsimp![wN,GV,Ss,Vs,Wu,Vu,EA,bB,H,Ri,NA,Va,Ti,XB,rC,PD (U0.get u),e,jB,uB]
theorem Eh{h:HI}{a:Nat}{ds:Ms Dt}(b:h[a]?=ε (.lst ds))(i:ds.length<sizeLine){fs:Ms sv}(F:Yo h ds fs):∀l:LI,l[2]?=ε (ε (.ref a))->xC (JB (eV 2)) (rA 0) jM zP [none] l h=ε (.lst ((NC fs).map rB),h):=by
 have e:=JL (te:=zP) (tc:=jM) SI (fun v f=>w5 f) [none] h F b i (by
  intro d f q _;refine⟨?_,fun z=>?_⟩
  . unfold jM;rw[JA,J3 q _ _ 0 rfl];rfl
  . cases f with
    | long x=>rw[show d=_ from q];rfl
    | ways m=>cases z
    | one g=>cases z)
 have eq:∀(ds:Ms Dt)(fs:Ms sv),Yo h ds fs->((ds.zip fs).filter fun x=>SI x.2).map (fun x=>w5 x.2)=(NC fs).map rB:=by
  intro ds fs F
  induction F with
  | nil=>rfl
  | @cons d f ds fs a r ih=>
   rw[zip_cons_cons,filter_cons];cases f with
   | long x=>rw[eG (show SI (sv.long x)=true from rfl),Ss,ih];rfl
   | ways m=>rw[eH (show ¬SI (sv.ways m)=true from Wk),ih];rfl
   | one g=>rw[eH (show ¬SI (sv.one g)=true from Wk),ih];rfl
 rw[eq _ _ F]at e;intro l q;simp![nE,rC,kA,q,nA,dA,PD b,fD,eD,e]
theorem ur{h:HI}{a:Nat}{ds:Ms Dt}(e:h[a]?=ε (.lst ds))(i:ds.length<sizeLine){fs:Ms sv}(F:Yo h ds fs):∃b,ah h b (yB fs)/\∀l:LI,l[2]?=ε (ε (.ref a))->xC (JB (eV 2)) (rA 0) kM BP [none] l h=ε (.lst b,h):=by
 have j:=JL (te:=BP) (tc:=kM) uG (fun d v=>o5 d) [none] h F e i (by
  intro d f q _;refine⟨?_,fun z=>?_⟩
  . unfold kM;rw[JA,fU q _ _ 0 rfl];rfl
  . cases f with
    | one g=>obtain⟨k,rfl,_⟩:=q;rfl
    | ways m=>cases z
    | long x=>cases z)
 refine⟨((ds.zip fs).filter fun x=>uG x.2).map fun x=>o5 x.1,?_,?_⟩
 rotate_left
 . intro l q;simp![nE,rC,kA,q,nA,dA,PD e,fD,eD,j]
 . clear j e i
   induction F with
   | nil=>exact .nil
   | @cons d f ds fs a r ih=>
    rw[zip_cons_cons,filter_cons];cases f with
    | one g=>obtain⟨k,rfl,q⟩:=a;rw[eG (show uG (sv.one g)=true from rfl),Ss];exact .cons q ih
    | ways m=>rw[eH (show ¬uG (sv.ways m)=true from Wk)];exact ih
    | long x=>rw[eH (show ¬uG (sv.long x)=true from Wk)];exact ih
theorem US(x f:Int)(h:HI):CG [.int x,.int f] h=ε (.int ((x%2147483647+11)*f%2147483629),h):=by
 have c:cb (x%2147483647+11) f:=Or.inl ⟨by omega,by omega⟩;have d:=fun(i:Int) (h:HI)=>LD (h:=h) (i:=i) (show(0:Int)<2147483647 by decide)
 have b:=fun(i:Int) (h:HI)=>LD (h:=h) (i:=i) (show(0:Int)<2147483629 by decide)
 have a:=fun(h:HI)=>UC (h:=h) c
 simp![CG,YV,eB,Ru,Ve,eN,Ss,Vs,List.replicate,Wu,Vu,jB,wA,kA,sA,Ra,Ri,nA,dA,d,b,a,yC,uB]
theorem Gb(ns:Ms Int)(lo b:Ni Int):∃a:Ms Int,CF (ns.map Dt.int) lo b=a.map Dt.int/\a.length<=ns.length:=by unfold SM.CF;rw[<- map_drop,<- map_take];refine⟨_,rfl,?_⟩;rw[Ci,length_drop];omega
theorem QT(ns:Ms Int)(k:Nat)(h:HI):wJ [.lst (ns.map Dt.int),.int (k:Int)] h=ε (.int (ns[k]?.getD 0),h):=by
 simp[wJ,NV];by_cases a:k<ns.length
 . simp[a]
 . simp[a]
theorem Lx{c:Nat}(b:2<=c)(n k:Nat):∃i j:Nat,i<c/\j<c/\i≠j/\((n:Int)%(c:Int))=(i:Int)/\((i:Int)+1+(n:Int)/(k:Int)%((c:Int)-1))%(c:Int)=(j:Int):=by
 refine⟨n%c,(n%c+1+n/k%(c-1))%c,Je _ nofun,Je _ nofun,?_,by simp,?_⟩
 . have t:n/k%(c-1)<c-1:=Je _ nofun;have a:n%c<c:=Je _ nofun;generalize n/k%(c-1)=q at t;generalize n%c=i at a;by_cases w:i+1+q<c
   . rw[Nat.mod_eq_of_lt w];omega
   . rw[Nat.mod_eq_sub_mod nofun,Nat.mod_eq_of_lt nofun];omega
 . rw[show(c:Int)-1=((c-1:Nat):Int) by omega];simp
theorem kU{a b:Nat}(e:a<8192)(d:b<8192):a|||b<8192:=Nat.or_lt_two_pow (n:=13) e d
theorem qQ{k:Nat}(h:k<13):2^k<8192:=Nat.pow_lt_pow_right (by decide) h (m:=k) (n:=13)
theorem KW{c:Nat}(L:2<=c)(hc:c<=100)(N:Nat){d:Nat}(hs:d<=3):∃m,kD c m/\∀h:HI,iG [.int (N:Nat),.int (c:Nat),.int (d:Nat)] h=ε (UA m,h):=by
 obtain⟨i,j,hi,hj,J,D,g⟩:=Lx L N 8;simp![Hu]at g;have C:=fun(x:Int) (h:HI)=>LD (h:=h) (i:=x) (show(0:Int)<(c:Int) by omega)
 have n:=fun(x:Int) (h:HI)=>LD (h:=h) (i:=x) (show(0:Int)<(c:Int)-1 by omega)
 have o:=fun(x:Int) (h:HI)=>LD (h:=h) (i:=x) (show(0:Int)<13 by decide)
 have S:=fun(x:Int) (h:HI)=>LD (h:=h) (i:=x) (show(0:Int)<8192 by decide)
 have E:=fun(i:Int) (h:HI)=>SE (h:=h) (i:=i) (j:=8) ⟨by decide,by decide⟩
 have p:=fun(i:Int) (h:HI)=>SE (h:=h) (i:=i) (j:=64) ⟨by decide,by decide⟩
 have d7:=fun(i:Int) (h:HI)=>SE (h:=h) (i:=i) (j:=7) ⟨by decide,by decide⟩
 have M:=fun(i:Int) (h:HI)=>SE (h:=h) (i:=i) (j:=13) ⟨by decide,by decide⟩
 have H:=fun(i:Int) (h:HI)=>SE (h:=h) (i:=i) (j:=169) ⟨by decide,by decide⟩
 have u:(N:Int)/64=((N/64:Nat):Int):=by omega
 generalize N/64=r at u;have s:(r:Int)%13=((r%13:Nat):Int):=by omega
 have W:(r:Int)/13%13=((r/13%13:Nat):Int):=by omega
 have U:(r:Int)/169%13=((r/169%13:Nat):Int):=by omega
 have I:(r:Int)%8192=((r%8192:Nat):Int):=by omega
 have T:(r:Int)/7%8192=((r/7%8192:Nat):Int):=by omega
 have F:r%13<13:=Je _ (by decide);have R:r/13%13<13:=Je _ (by decide);have P:r/169%13<13:=Je _ (by decide);have O:r%8192<8192:=Je _ (by decide);have Y:r/7%8192<8192:=Je _ (by decide);generalize r%13=w1 at s F;generalize r/13%13=w2 at W R;generalize r/169%13=w3 at U P;generalize r%8192=u1 at I O;generalize r/7%8192=u2 at T Y;have y:=fun h=>NI (h:=h) (TH F)
 have s2:=fun h=>NI (h:=h) (TH R)
 have Z:=fun h=>NI (h:=h) (TH P)
 have B:∀w:Nat,(1:Int)*2^w=((2^w:Nat):Int):=fun w=>by simp
 have sb:(8191:Int)-((2^w1:Nat):Int)=((8191-2^w1:Nat):Int):=by have:=qQ F;omega
 have k:4<=sizeLine:=by decide
 let e:Nat->aC:=fun q=>(i,q,j)
 have mk:∀q,q<8192->kD c (e q):=fun q hm=>⟨hi,hj,J,hm⟩
 have p1:=qQ F;have p2:=qQ R;have p3:=qQ P;have Q:∀a b:Nat,decide (((a:Nat):Int)=(b:Int))=decide (a=b):=fun a b=>by
  by_cases z:a=b
  . rw[iu z,iu nofun]
  . rw[fu z,fu nofun]
 rcases(show d=0\/d=1\/d=2\/d=3 by omega)with rfl | rfl | rfl | rfl
 . refine⟨e (8191-2^w1),mk _ (Du (Nat.sub_le _ _) (by decide)),fun h=>?_⟩;dsimp![iG,pL,Ss,Vs,Wu,Vu,EA,bB,wA,sA,Ri,C,D,Va,Ti,NA,yC,SD,E,n,g,p,u,o,s,y,n7,B,sb,XA,JA,LC,OA,show decide ((((0:Nat):Int))=1)=false from rfl,show decide ((((0:Nat):Int))=2)=false from rfl,show decide ((((0:Nat):Int))=3)=false from rfl,Wo,eO,BB,jB,xD,DA,BA,k,uB];rfl
 . refine⟨e (u1|||u2),mk _ (kU O Y),fun h=>?_⟩;dsimp![iG,pL,Ss,Vs,Wu,Vu,EA,bB,wA,sA,Ri,C,D,Va,Ti,NA,yC,SD,E,n,g,p,u,o,s,y,n7,B,sb,XA,JA,LC,OA,show decide ((((1:Nat):Int))=1)=true from rfl,show decide ((((1:Nat):Int))=2)=false from rfl,show decide ((((1:Nat):Int))=3)=false from rfl,S,I,d7,T,hU,FP,Wo,eO,BB,jB,xD,DA,BA,k,uB];rfl
 . refine⟨e (2^w1|||2^w2|||2^w3),mk _ (kU (kU p1 p2) p3),fun h=>?_⟩;dsimp![iG,pL,Ss,Vs,Wu,Vu,EA,bB,wA,sA,Ri,C,D,Va,Ti,NA,yC,SD,E,n,g,p,u,o,s,y,n7,B,sb,XA,JA,LC,OA,show decide ((((2:Nat):Int))=1)=false from rfl,show decide ((((2:Nat):Int))=2)=true from rfl,show decide ((((2:Nat):Int))=3)=false from rfl,M,W,s2,H,U,Z,hU,FP,Wo,eO,BB,jB,xD,DA,BA,k,uB];rfl
 . refine⟨e u1,mk _ O,fun h=>?_⟩;dsimp![iG,pL,Ss,Vs,Wu,Vu,EA,bB,wA,sA,Ri,C,D,Va,Ti,NA,yC,SD,E,n,g,p,u,o,s,y,n7,B,sb,XA,JA,LC,OA,show decide ((((3:Nat):Int))=1)=false from rfl,show decide ((((3:Nat):Int))=2)=false from rfl,show decide ((((3:Nat):Int))=3)=true from rfl,S,I,Wo,eO,BB,jB,xD,DA,BA,k,uB];rfl
theorem Bh{c:Nat}(r:2<=c)(Q:c<=100)(cell:Int){b:Nat}(hs:b<=2)(a:Int):∃f,tD c f/\((∀g∈yB [f],1<=g.length/\g.length<=3)/\(a<=0->yB [f]=[]))/\∀h:HI,∃d e,dI [.int cell,.int (c:Nat),.int (b:Nat),.int a] h=ε (d,h++e)/\cn h.length (h++e) d f:=by
 obtain⟨N,R⟩:=Int.eq_ofNat_of_zero_le (Int.emod_nonneg ((cell%2147483647+11)*16807) (show(2147483629:Int)≠0 by decide));have N2:(N:Int)<2147483629:=by rw[<- R];exact Int.emod_lt_of_pos _ (by decide)
 have I:∀h,CG [.int cell,.int 16807] h=ε (.int (N:Nat),h):=fun h=>by rw[US,R]
 obtain⟨M,B⟩:∃M:Int,(cell%2147483647+11)*69621%2147483629=M:=⟨_,rfl⟩
 have n:∀h,CG [.int cell,.int 69621] h=ε (.int M,h):=fun h=>by rw[US,B]
 have o:=fun(i:Int) (h:HI)=>SE (h:=h) (i:=i) (j:=16) ⟨by decide,by decide⟩
 have d8:=fun(i:Int) (h:HI)=>SE (h:=h) (i:=i) (j:=8) ⟨by decide,by decide⟩
 have J:=fun(i:Int) (h:HI)=>SE (h:=h) (i:=i) (j:=56) ⟨by decide,by decide⟩
 have E:=fun(x:Int) (h:HI)=>LD (h:=h) (i:=x) (show(0:Int)<8 by decide)
 have m3:=fun(x:Int) (h:HI)=>LD (h:=h) (i:=x) (show(0:Int)<3 by decide)
 have m7:=fun(x:Int) (h:HI)=>LD (h:=h) (i:=x) (show(0:Int)<7 by decide)
 have m5:=fun(x:Int) (h:HI)=>LD (h:=h) (i:=x) (show(0:Int)<5 by decide)
 have mc:=fun(x:Int) (h:HI)=>LD (h:=h) (i:=x) (show(0:Int)<(c:Int) by omega)
 have C:4<=sizeLine:=by decide
 generalize F:M/16%8=kd;by_cases u:kd=0/\0<a
 . obtain⟨u,s⟩:=u;have P:1+(N:Int)%3=((1+N%3:Nat):Int):=rfl;have L:1<=1+N%3/\1+N%3<=3:=by omega
   generalize 1+N%3=t at P L;have s2:(3:Int)-(b:Int)%2=((3-b%2:Nat):Int):=by omega
   have m2:=fun(x:Int) (h:HI)=>LD (h:=h) (i:=x) (show(0:Int)<2 by decide)
   have mq:=fun(x:Int) (h:HI)=>LD (h:=h) (i:=x) (show(0:Int)<2147483587 by decide)
   have mem:∀k:Nat,∃m,kD c m/\∀h:HI,iG [.int ((N:Int)*(69621+2*(k:Int)*(k:Int))%2147483587),.int (c:Nat),.int ((3-b%2:Nat):Int)] h=ε (UA m,h):=fun k=>by obtain⟨v,hv⟩:=Int.eq_ofNat_of_zero_le (Int.emod_nonneg ((N:Int)*(69621+2*(k:Int)*(k:Int))) (show(2147483587:Int)≠0 by decide));rw[hv];exact KW r Q v nofun
   obtain⟨M,B⟩:=Classical.axiomOfChoice mem;refine⟨.one ((List.range t).map M),fun m hm=>?_,⟨fun g p=>?_,fun z=>by omega⟩,fun h=>?_⟩
   . obtain⟨k,_,rfl⟩:=Bu.mp hm;exact(B k).1
   . simp![yB,Bo,not_mem_nil,or_false]at p;subst p;simpa using L
   have U:=fun h=>oE (h:=h) (show(-(2^62):Int)<=(t:Int) by omega) (show(t:Int)<2^62 by omega)
   simp![n7]at U;obtain⟨l',H,e,y,rfl,rfl⟩:=HE (i:=7) (body:=gR) (fun(k:Nat)=>Dt.int (k:Int)) (fun k l H=>∃y,l=[ε (.int cell),ε (.int (c:Nat)),ε (.int (b:Nat)),ε (.int a),ε (.int (N:Nat)),ε (.int kd),ε (.ref h.length),y,none]/\H=h++[.lst (((List.range k).map M).map UA)]) t (by
    rintro k a0 l H ⟨y,rfl,rfl⟩;have u1:=fun(h:HI)=>UC (h:=h) (i:=2) (j:=(k:Int)) (Or.inl ⟨by decide,by decide⟩)
    have u2:=fun(h:HI)=>UC (h:=h) (i:=2*(k:Int)) (j:=(k:Int)) (Or.inl ⟨by omega,by omega⟩)
    have Z:=fun(x:Int) (h:HI)=>UC (h:=h) (i:=(N:Int)) (j:=x) (Or.inl ⟨by omega,by omega⟩)
    have W:=WJ h [] (Ob.lst (((List.range k).map M).map UA));have Y:=tF (l:=[ε (.int cell),ε (.int (c:Nat)),ε (.int (b:Nat)),ε (.int a),ε (.int (N:Nat)),ε (.int kd),ε (.ref h.length),ε (.int (k:Nat)),none]) (h:=h++[.lst (((List.range k).map M).map UA)]) (g:=xA iG [] (bA (e2 cC (e2 ZA (eV 4) (e2 iB (ua 69621) (e2 ZA (e2 ZA (ua 2) (eV 7)) (eV 7)))) (ua 2147483587)) (bA (eV 1) (bA (e2 GC (ua 3) (e2 cC (eV 2) (ua 2))) (fA))))) (d:=UA (M k)) W (by
     simp![QA,DA,BA,wA,sA,kA,Ra,Ri,nA,dA,u1,u2,yC,Z,mq,m2,SD,s2,Us,(B k).2]) W (by simp[sizeLine];omega)
    rw[dM]at Y;refine⟨.nx [ε (.int cell),ε (.int (c:Nat)),ε (.int (b:Nat)),ε (.int a),ε (.int (N:Nat)),ε (.int kd),ε (.ref h.length),ε (.int (k:Nat)),none] (h++[.lst (((List.range (k+1)).map M).map UA)]),?_,_,rfl,rfl⟩;rw[Ie,Gi,Gi];simp![gR,cE,eF,kA,Va,Ti,Ra,Ri,nA,dA,Y];rfl) [ε (.int cell),ε (.int (c:Nat)),ε (.int (b:Nat)),ε (.int a),ε (.int (N:Nat)),ε (.int kd),ε (.ref h.length),none,none] (h++[.lst []]) ⟨_,rfl,rfl⟩
   refine⟨.tup [.str "one", .ref h.length],[.lst (((List.range t).map M).map UA)],?_,⟨h.length,rfl,Uo _,by simp,by simp;omega⟩⟩;have q0:decide (kd=0)=true:=iu u;have q1:decide (0<a)=true:=iu s;dsimp![dI,TN,Ss,Vs,Wu,Vu,EA,bB,QA,DA,BA,wA,sA,Ri,Us,I,n,Va,Ti,NA,o,E,F,XA,QG,JA,LC,q0,ZH,q1,OA,OG,nu,XB,YD,m3,yC,P,U,PC,e,jB,xD,nN,wF,uB]
 . have first:∀(k:Bool×HI->Ni Rs)(l:LI)(h:HI),l[5]?=ε (ε (.int kd))->l[3]?=ε (ε (.int a))->mB (zF (tf (e2 FB (eV 5) (ua 0))) (tf (e2 PM (eV 3) (ua 0))) l h) k=k (false,h):=by
    intro k l h S T;by_cases q:kd=0
    . have q1:decide (0<a)=false:=fu (fun z=>u ⟨q,z⟩);have q0:decide (kd=0)=true:=iu q;simp![QG,JA,wA,kA,S,T,nA,dA,sA,LC,q0,OA,eN,ZH,q1]
    . have q0:decide (kd=0)=false:=fu q;simp![QG,JA,wA,kA,S,T,nA,dA,sA,LC,q0,OA,Wo,eO]
   by_cases s:kd=1
   . have hi:N%c<c:=Je _ nofun;have ei:(N:Int)%(c:Int)=((N%c:Nat):Int):=by simp
     refine⟨.long (N%c,(N:Int)/8%7,(N:Int)/8%7+(N:Int)/56%5),hi,⟨fun g p=>by simp[yB]at p,fun w=>rfl⟩,fun h=>⟨.tup [.str "long", .int ((N%c:Nat):Int),.int ((N:Int)/8%7),.int ((N:Int)/8%7+(N:Int)/56%5)],[],?_,rfl⟩⟩;rw[Us];have q1:decide (kd=1)=true:=iu s;dsimp![dI,TN,Ss,Vs,Wu,Vu,EA,bB,QA,DA,BA,wA,sA,Ri,Us,I,n,Va,Ti,NA,o,E,F];rw[XA,first _ _ _ rfl rfl];simp![Wo,eO,BB,dA,NA,EA,XA,JA,wA,kA,sA,Ra,Ri,nA,LC,q1,OA,eN,bB,d8,m7,Va,Ti,jB,xD,DA,BA,mc,ei,J,m5,yC,Ru,Ve,Nat.reduceAdd,C,wF,uB]
   . obtain⟨O,D,ew⟩:=KW r Q N (show b<=3 by omega);refine⟨.ways O,D,⟨fun g p=>by simp[yB]at p,fun w=>rfl⟩,fun h=>⟨UA O,[],?_,rfl⟩⟩;rw[Us];have q1:decide (kd=1)=false:=fu s;dsimp![dI,TN,Ss,Vs,Wu,Vu,EA,bB,QA,DA,BA,wA,sA,Ri,Us,I,n,Va,Ti,NA,o,E,F];rw[XA,first _ _ _ rfl rfl];simp![Wo,eO,BB,dA,NA,EA,XA,JA,wA,kA,sA,Ra,Ri,nA,LC,q1,OA,jB,QA,DA,BA,Us,ew,uB]
theorem Tj(i:Int)(a b c:Int):∃z,(z=a\/z=b\/z=c)/\atI [Dt.int a,Dt.int b,Dt.int c] (i%3)=ε (.int z):=by
 rcases(show i%3=0\/i%3=1\/i%3=2 by omega)with h | h | h<;>rw[h]
 . exact⟨a,.inl rfl,rfl⟩
 . exact⟨b,.inr (.inl rfl),rfl⟩
 . exact⟨c,.inr (.inr rfl),rfl⟩
def UpX(r:Nat)(h h':HI):Prop:=h.length<=h'.length/\∀(n:Nat)(o:Ob),n≠r->h[n]?=ε o->h'[n]?=ε o
theorem RL:∀(a b:Ms sv),yB (a++b)=yB a++yB b
 | [],_=>rfl
 | .one g::a,b=>by rw[Wu,yB,yB,RL a b,Wu]
 | .ways _::a,b=>RL a b
 | .long x::a,b=>RL a b
theorem Rm(f:sv):(yB [f]).length<=1:=by cases f<;>simp[yB]
theorem pv{h:HI}{ds:Ms Dt}{fs:Ms sv}(F:Yo h ds fs):(((ds.zip fs).filter fun x=>uG x.2).map fun x=>x.1).length=(yB fs).length:=by
 induction F with
 | nil=>rfl
 | @cons d f ds fs a r ih=>
  rw[zip_cons_cons,filter_cons];cases f with
  | one g=>rw[eG (show uG (sv.one g)=true from rfl),Ss,Ru,ih];rfl
  | ways m=>rw[eH (show ¬uG (sv.ways m)=true from Wk),ih];rfl
  | long x=>rw[eH (show ¬uG (sv.long x)=true from Wk),ih];rfl
structure K5(c:Nat)(fs0 fs:List sv):Prop where
 ok:∀f∈fs,tD c f
 g2:(yB fs0).length<=2->(yB (fs0++fs)).length<=2
 g3:∀g∈yB fs,1<=g.length/\g.length<=3
theorem QZ{c:Nat}(s:2<=c)(S:c<=100){b:Nat}(hs:b<=2):∀(p:Ms Int)(a:Ms sv),∃fs,K5 c a fs/\fs.length=p.length/\∀(h:HI)(r:Nat)(ds:Ms Dt)(x0 j E u:Ni Dt),h[r]?=ε (.lst ds)->ds.length+p.length<=1000->ba (r+1) h ds a->
 ∃D C o i,zB (rA 5) DN (p.map Dt.int) [x0,ε (.int (c:Nat)),ε (.int (b:Nat)),j,ε (.ref r),E,u] h=ε (.nx [x0,ε (.int (c:Nat)),ε (.int (b:Nat)),j,ε (.ref r),D,C] o)/\o[r]?=ε (.lst i)/\ba (r+1) o i (a++fs)/\UpX r h o
 | [],a=>⟨[],⟨(fun v h=>nomatch h),(fun z=>by rw[Us];exact z),fun g hg=>by simp[yB]at hg⟩,rfl,fun h r ds x0 j E u m U F=>⟨_,_,h,ds,rfl,m,by rw[Us];exact F,Uo _,fun v v v e=>e⟩⟩
 | x::p,a=>by
  obtain⟨f,fo,⟨g3,g0⟩,L⟩:=Bh s S x hs (2-((yB a).length:Int));obtain⟨fs,P,fl,lp⟩:=QZ s S hs p (a++[f]);have T:a++[f]++fs=a++f::fs:=by rw[su];rfl
  refine⟨f::fs,⟨fun y hy=>?_,fun z=>?_,fun g hg=>?_⟩,by simp[fl],fun h r ds x0 j E u m U F=>?_⟩
  . rcases Bo.mp hy with rfl | hy
    . exact fo
    . exact P.ok y hy
  . rw[<- T];refine P.g2 ?_;rw[RL,ji];have:=Rm f;rcases Nat.lt_or_ge (yB a).length 2 with w | w
    . omega
    . rw[g0 nofun];exact z
  . rw[show f::fs=[f]++fs from rfl,RL]at hg;rcases Bs.mp hg with hg | hg
    . exact g3 g hg
    . exact P.g3 g hg
  . rw[Ru]at U;have Y:=F.at;have R:ds.length<sizeLine:=by simp[sizeLine];omega
    have W:=JL (te:=vV) (tc:=mR) uG (fun d v=>d) [none] h Y m R (by
     intro d f q _;refine⟨?_,fun z=>rfl⟩;unfold mR;rw[JA,fU q _ _ 0 rfl];rfl)
    have Q:=pv Y;generalize ((ds.zip a).filter fun x=>uG x.2).map (fun x=>x.1)=w at W Q;obtain⟨d,e,L,FN⟩:=L h;have rl:=(Wi m).1;have I:r<(h++e).length:=by rw[ji];omega
    have M:(h++e)[r]?=ε (.lst ds):=(Up.app h e).get m;have q3:∀k,k≠r->((h++e).set r (.lst (ds++[d])))[k]?=(h++e)[k]?:=fun k J=>by rw[m8 (nW J)]
    have U1:UpX r h ((h++e).set r (.lst (ds++[d]))):=⟨by simp,fun n H B q=>by rw[q3 n B];exact(Up.app h e).get q⟩;have ap:=tF (l:=[x0,ε (.int (c:Nat)),ε (.int (b:Nat)),j,ε (.ref r),ε (.int x),ε (.int (2-((yB a).length:Int)))]) (h:=h) (g:=xA dI [] (bA (eV 5) (bA (eV 1) (bA (eV 2) (bA (eV 6) (fA)))))) (d:=d) m (by
     simp![QA,DA,BA,kA,Ra,Ri,nA,dA,Us,L]) M R
    have bd:DN [x0,ε (.int (c:Nat)),ε (.int (b:Nat)),j,ε (.ref r),ε (.int x),u] h=ε (.nx [x0,ε (.int (c:Nat)),ε (.int (b:Nat)),j,ε (.ref r),ε (.int x),ε (.int (2-((yB a).length:Int)))] ((h++e).set r (.lst (ds++[d])))):=by simp![DN,EA,bB,wA,sA,fC,nE,rC,kA,Va,Ti,Ra,Ri,nA,dA,PD m,fD,eD,W,OP,Q,SD,NA,cE,eF,ap]
    obtain⟨u5,u6,o,i,ew,O,Z,U2⟩:=lp ((h++e).set r (.lst (ds++[d]))) r (ds++[d]) x0 j (ε (.int x)) (ε (.int (2-((yB a).length:Int)))) (by rw[uo I]) (by simp;omega) (by
     refine ba.snoc (F.up (Uo _) (fun k H J q=>?_)) (FN.up nofun (fun k H J q=>?_))
     . exact U1.2 _ _ nofun q
     . rw[q3 k nofun];exact q)
    rw[T]at Z;refine⟨u5,u6,o,i,?_,O,Z,um U1.1 U2.1,fun n H B q=>U2.2 _ _ B (U1.2 _ _ B q)⟩;simp![Ss,zB,VD,Wa,Va,Ti,bd,mK,ew]
theorem Dy(ns:Ms Int)(Q:ns.length<=63){c:Nat}(k:2<=c)(D:c<=100):∃fs,K5 c [] fs/\fs.length<=63/\∀(h:HI),∃ds h',oJ [.lst (ns.map Dt.int),.int (c:Nat)] h=ε (.ref h.length,h')/\h'[h.length]?=ε (.lst ds)/\ba (h.length+1) h' ds fs/\tj h h':=by
 have u:=fun h=>QT ns 0 h
 simp![Hu]at u;have H:=fun(i:Int) (h:HI)=>SE (h:=h) (i:=i) (j:=3) ⟨by decide,by decide⟩
 have C:=fun(x:Int) (h:HI)=>LD (h:=h) (i:=x) (show(0:Int)<3 by decide)
 obtain⟨up,_,e⟩:=Tj (ns[0]?.getD 0/3) 66 14 10;obtain⟨a,b⟩:∃a:Nat,ns[0]?.getD (0:Int)/3%3=(a:Int):=⟨(ns[0]?.getD (0:Int)/3%3).toNat,by omega⟩
 have B:a<=2:=by omega
 rw[b]at e;obtain⟨s,F,P⟩:=Gb ns (ε 6) (ε up);obtain⟨fs,I,R,lp⟩:=QZ k D B s [];refine⟨fs,I,by omega,fun h=>?_⟩;obtain⟨M,L,h',p,E,r,J,U2⟩:=lp (h++[.lst []]) h.length [] (ε (.lst (ns.map Dt.int))) (ε (.int up)) none none ⋯ (by simp;omega) .nil;have d:∀(n:Nat)(o:Ob),h[n]?=ε o->h'[n]?=ε o:=fun n o q=>by have O:=(Wi q).1;exact U2.2 n o nofun ((Up.app h _).get q)
 refine⟨p,h',?_,r,J,by have:=U2.1;simp at this;omega,fun n y q=>d n _ q,fun n y q=>d n _ q⟩;have g:3<=sizeLine:=by decide
 have m:KM (eV 0) (vG (ua 6)) (vG (eV 3)) [ε (.lst (ns.map Dt.int)),ε (.int (c:Nat)),ε (.int (a:Nat)),ε (.int up),ε (.ref h.length),none,none] (h++[.lst []])=ε (.lst (s.map Dt.int),h++[.lst []]):=by simp[F]
 dsimp![oJ,EV,Ss (f:=some),Vs (f:=some),Wu,Vu,EA,bB,QA,DA,BA,wA,sA,AH,Ri,Us,u,H,C,b,Va,Ti,NA,g,nQ,e,Vi,OG,nu,XB,rC,m,WF,PC,E,jB,uB]
theorem oP:∀{fs:Ms sv}{g:Ms aC},sv.one g∈fs->g∈yB fs
 | f::fs,g,h=>by
  rcases Bo.mp h with rfl | h
  . simp[yB]
  . have:=oP h;cases f<;>simp[yB,this]
theorem IX:∀{fs:Ms sv}{x:Ln},sv.long x∈fs->x∈NC fs
 | f::fs,x,h=>by
  rcases Bo.mp h with rfl | h
  . simp[NC]
  . have:=IX h;cases f<;>simp[NC,this]
def QE(c:Nat)(s:Nat->Int×Int):sv->Bool
 | .ways m=>yD s m
 | .long x=>decide (x.2.1*((2*c+1:Nat):Int)<=(s x.1).2-(s x.1).1)&&decide ((s x.1).2-(s x.1).1<=x.2.2*((2*c+1:Nat):Int))
 | .one g=>decide ((g.map (yD s)).countP (· ==true)=1)
theorem JW{f:aC->Bool}:∀g:Ms aC,(g.map f).countP (· ==true)=0->∀m∈g,f m=false
 | [],_,m,hm=>by cases hm
 | x::g,h,m,hm=>by
  rw[Ss,countP_cons]at h;cases e:f x with
  | true=>rw[e]at h;simp at h
  | false=>
   rw[e]at h;rcases Bo.mp hm with rfl | hm
   . exact e
   . exact JW g (by simpa using h) m hm
theorem vX{f:aC->Bool}:∀g:Ms aC,(g.map f).countP (· ==true)=1->∃k,k<g.length/\∀(i:Nat) m,g[i]?=ε m->f m=decide (i=k)
 | [],h=>by simp at h
 | x::g,h=>by
  rw[Ss,countP_cons]at h;cases e:f x with
  | true=>
   rw[e]at h;have z:=JW g (by simpa using h);refine⟨0,by simp,fun i m a=>?_⟩;cases i with
   | zero=>simp at a;rw[<- a,e];rfl
   | succ i=>rw[z m (lu (by simpa using a))];rfl
  | false=>
   rw[e]at h;obtain⟨k,b,H⟩:=vX g (by simpa using h);refine⟨k+1,by simpa using b,fun i m a=>?_⟩;cases i with
   | zero=>simp at a;rw[<- a,e];simp
   | succ i=>rw[H i m (by simpa using a)];simp
theorem px{c:Nat}{s:Nat->Int×Int}{f:sv}(ok:tD c f)(sg:∀g,f=.one g->g.length<=6)(k:QE c s f=true):dQ c s f:=by
 cases f with
 | ways m=>exact⟨ok,k⟩
 | long x=>simp![QE,xr,decide_eq_true_eq]at k;exact⟨ok,k.1,k.2⟩
 | one g=>exact⟨ok,vX g (of_decide_eq_true k),sg g rfl⟩
theorem El{c:Nat}{fs:Ms sv}(fo:∀x∈fs,tD c x){t:Nat->Int}(K:CQ c (NC fs) (FC Xe fs) (yB fs) t):fs.all (QE c (ZC (lB (2*c) t)))=true:=by
 obtain⟨_,H⟩:=bP K.ok fs fo Xe (aK c) K.net;refine all_eq_true.mpr fun f a=>?_
 cases f with
 | ways m=>show yD _ m=true;rw[oX];exact H m a
 | long x=>
  have q:=K.len x (IX a);have e:lB (2*c) t (2*x.1+1)-lB (2*c) t (2*x.1)=t (2*x.1+1)-t (2*x.1):=by unfold lB;omega
  show(decide (x.2.1*((2*c+1:Nat):Int)<=lB (2*c) t (2*x.1+1)-lB (2*c) t (2*x.1))&&decide (lB (2*c) t (2*x.1+1)-lB (2*c) t (2*x.1)<=x.2.2*((2*c+1:Nat):Int)))=true;rw[e,iu q.1,iu q.2];rfl
 | one g=>obtain⟨k,h,d⟩:=K.one g (oP a);refine iu ?_;rw[OX g 0 k (fun i m b=>by rw[oX,d i m b,Ae])];rw[eG nofun]
set_option tactic.hygienic true in
theorem Pq{h:HI}{d:Dt}{xs:Ms Dt}(e:KA h d=ε xs)(i:Int):pA d (.int i) h=(L2.atI xs i).map fun d=>(d,h):=by
 cases d with
 | lst a=>cases e;rfl
 | ref n=>
  simp![KA]at e;split at e
  . rename_i zs q;cases e;exact mF q i
  . cases e
 | _=>cases e
def MC(s:Nat->Int×Int)(c:Nat):Ms Dt:=(List.range c).map fun k=>OH (s k)
theorem vS{s:Nat->Int×Int}{c k:Nat}(b:k<c){h:HI}{x:Dt}(a:KA h x=ε (MC s c)):pA x (.int (k:Nat)) h=ε (OH (s k),h):=by rw[Pq a,SM.YC];unfold MC;rw[wu,Ma b];rfl
theorem fS(n:Nat):iI (n+1)=DB 3 4 (gI (iI n)):=rfl
section
variable{s:Nat->Int×Int}{c:Nat}{h:HI}{x:Dt}
theorem bX(ok:∀i,i<c->MD (s i))(g:KA h x=ε (MC s c)){m:aC}(B:kD c m)(n:Nat)(G:Int):iI (n+1) [UA m,x,.int G] h=ε (.bl (yD s m),h):=by
 obtain⟨a,b,d,e⟩:=B;have p:=vS a g;have o:=vS b g;have C:=fun h=>B8 (ok _ a) (ok _ b) h
 have D:=EI m.2.1 (zC (s m.1) (s m.2.2));have y:∀k:HI,pA (UA m) (.int 0) k=ε (.str "ways",k):=fun z=>rfl
 have u:∀k:HI,pA (UA m) (.int 1) k=ε (.int (m.1:Nat),k):=fun z=>rfl
 have r:∀k:HI,pA (UA m) (.int 2) k=ε (.int (m.2.1:Nat),k):=fun z=>rfl
 have q:∀k:HI,pA (UA m) (.int 3) k=ε (.int (m.2.2:Nat),k):=fun z=>rfl
 have j:=fun(h:HI)=>JH (h:=h) (i:=(m.2.1:Int)) (show(0:Int)<=((zC (s m.1) (s m.2.2):Nat):Int) by omega)
 rw[fS];dsimp![gI,Ss (f:=some),Vs (f:=some),Wu,Vu,EA,XA,JA,wA,sA,Ri,y,RD,decide_true,OA,jB,r,QA,DA,BA,u,q,p,o,Us,C,j,n7,ME,LC,D,wF,uB];rfl
theorem Rb(ok:∀i,i<c->MD (s i))(H:c<=100)(e:KA h x=ε (MC s c)){f:sv}{d:Dt}(q:ay h d f)(fo:tD c f)(sg:∀g,f=.one g->g.length<=1000):iI 3 [d,x,.int ((2*c+1:Nat):Int)] h=ε (.bl (QE c s f),h):=by
 cases f with
 | ways m=>rw[show d=UA m from q,bX ok e fo 2];rfl
 | long y=>
  have qd:d=.tup [.str "long", .int (y.1:Nat),.int y.2.1,.int y.2.2]:=q;subst qd;have r:=vS fo e;have B:∀a b c d:Dt,atI [a,b,c,d] 2=ε c:=fun z z z z=>rfl
  have u:∀a b c d:Dt,atI [a,b,c,d] 3=ε d:=fun z z z z=>rfl
  have p:=fun(i:Int) (h:HI)=>UC (h:=h) (i:=i) (j:=((2*c+1:Nat):Int)) (Or.inr ⟨by omega,by omega⟩)
  rw[fS];have eq:QE c s (.long y)=(decide (y.2.1*((2*c+1:Nat):Int)<=(s y.1).2-(s y.1).1)&&decide ((s y.1).2-(s y.1).1<=y.2.2*((2*c+1:Nat):Int))):=rfl;rw[eq];cases q1:decide (y.2.1*((2*c+1:Nat):Int)<=(s y.1).2-(s y.1).1)<;>dsimp![gI,Ss (f:=some),Vs (f:=some),Wu,Vu,EA,bB,XA,JA,wA,sA,Ri,LB,oC,kF,Vi,RD,l_w,decide_true,OA,Wo,eO,BB,NA,r,OH,SD,Va,Ti,jB,vM,B,u,p,iJ,q1,WL,wF,uB,Gs,Hi]
 | one g=>
  obtain⟨J,rfl,n,rfl,k⟩:=q;have I:=sg g rfl;have o:=uX (te:=tR (iI 2)) (i:=0) UA (fun m=>Dt.bl (yD s m)) g [none,ε x,ε (.int ((2*c+1:Nat):Int))] h k (by simp[sizeLine];omega) (by
   intro m C;simp![tR,QA,DA,BA,kA,Ti,Ra,Ri,nA,dA,Us,bX ok e (fo m C) 1])
  have D:g.map (fun m=>Dt.bl (yD s m))=(g.map (yD s)).map Dt.bl:=by rw[map_map];rfl
  rw[D]at o;have F:=fun(l:LI)=>Bb (l:=l) (h:=h) (fb:=eC (.bl true)) (bs:=g.map (yD s)) (b:=true) rfl
  have E:decide ((((g.map (yD s)).countP (· ==true):Nat):Int)=1)=QE c s (.one g):=decide_eq_decide.mpr nofun;rw[fS];dsimp![gI,Ss (f:=some),Vs (f:=some),Wu,Vu,EA,bB,XA,JA,wA,sA,Ri,LB,oC,kF,Vi,RD,o_w,o_l,OA,Wo,eO,BB,NA,jB,Kl,nE,rC,PD k,fD,FG,eD,Ku,o,F,LC,E,uB]
end
theorem Og(s:Nat->Int×Int)(k:Nat):MC s (k+1)=MC s k++[OH (s k)]:=by unfold MC;rw[Ie,Gi];rfl
noncomputable def SK(c:Nat)(N:Int):Int×Int:=(N/7%6*(2*(c:Int)+1)+N/42%2,N/7%6*(2*(c:Int)+1)+N/42%2+(1+N/84%4)*(2*(c:Int)+1)-N/336%2)
theorem Bx{c:Nat}(a:1<=c)(N:Int):MD (SK c N):=by show(SK c N).1<(SK c N).2;unfold SK;have d:0<=N/84%4*(2*(c:Int)+1):=Int.mul_nonneg (Int.emod_nonneg _ (by decide)) nofun;have b:=Int.emod_lt_of_pos (N/336) (show(0:Int)<2 by decide);rw[Int.add_mul,Int.one_mul];omega
theorem Wb(ns:Ms Int){c:Nat}(q:1<=c)(E:c<=100)(t:Nat):∃s:Nat->Int×Int,(∀i,i<c->MD (s i))/\∀h:HI,vN [.lst (ns.map Dt.int),.int (c:Nat),.int (t:Nat)] h=ε (.ref h.length,h++[.lst (MC s c)]):=by
 let a:Nat->Int:=fun k=>(ns[t+k]?.getD 0%2147483647+11)*(48271+2*(k:Int)*(k:Int)+14*(t:Int))%2147483629
 refine⟨fun k=>SK c (a k),fun i z=>Bx q _,fun h=>?_⟩;have Q:=fun(i:Int) (h:HI)=>SE (h:=h) (i:=i) (j:=7) ⟨by decide,by decide⟩
 have y:=fun(i:Int) (h:HI)=>SE (h:=h) (i:=i) (j:=42) ⟨by decide,by decide⟩
 have u:=fun(i:Int) (h:HI)=>SE (h:=h) (i:=i) (j:=84) ⟨by decide,by decide⟩
 have b:=fun(i:Int) (h:HI)=>SE (h:=h) (i:=i) (j:=336) ⟨by decide,by decide⟩
 have L:=fun(x:Int) (h:HI)=>LD (h:=h) (i:=x) (show(0:Int)<6 by decide)
 have D:=fun(x:Int) (h:HI)=>LD (h:=h) (i:=x) (show(0:Int)<2 by decide)
 have M:=fun(x:Int) (h:HI)=>LD (h:=h) (i:=x) (show(0:Int)<4 by decide)
 have C:=fun(x:Int) (h:HI)=>UC (h:=h) (i:=2) (j:=x) (Or.inl ⟨by decide,by decide⟩)
 have p:=fun(x:Int) (h:HI)=>UC (h:=h) (i:=14) (j:=x) (Or.inl ⟨by decide,by decide⟩)
 have B:=fun(x:Int) (h:HI)=>UC (h:=h) (i:=x) (j:=2*(c:Int)+1) (Or.inr ⟨by omega,by omega⟩)
 obtain⟨T,r,e,o,n,m,rfl,rfl⟩:=HE (i:=4) (body:=nR) (fun(k:Nat)=>Dt.int (k:Int)) (fun k l r=>∃o n m,l=[ε (.lst (ns.map Dt.int)),ε (.int (c:Nat)),ε (.int (t:Nat)),ε (.ref h.length),o,n,m]/\r=h++[.lst (MC (fun k=>SK c (a k)) k)]) c (by
  rintro k O l r ⟨o,n,m,rfl,rfl⟩;have I:=fun(h:HI)=>UC (h:=h) (i:=2*(k:Int)) (j:=(k:Int)) (Or.inl ⟨by omega,by omega⟩)
  have R:(t:Int)+(k:Int)=((t+k:Nat):Int):=rfl;have S:=fun h=>QT ns (t+k) h
  have P:∀h,CG [.int (ns[t+k]?.getD 0),.int (48271+2*(k:Int)*(k:Int)+14*(t:Int))] h=ε (.int (a k),h):=fun h=>US _ _ h
  have F:=WJ h [] (Ob.lst (MC (fun k=>SK c (a k)) k));have J:(MC (fun k=>SK c (a k)) k).length=k:=by simp[MC]
  have H:=tF (l:=[ε (.lst (ns.map Dt.int)),ε (.int (c:Nat)),ε (.int (t:Nat)),ε (.ref h.length),ε (.int (k:Nat)),ε (.int (a k)),ε (.int (a k/7%6*(2*(c:Int)+1)+a k/42%2))]) (h:=h++[.lst (MC (fun k=>SK c (a k)) k)]) (g:=aB (bA (eV 6) (bA (e2 GC (e2 iB (eV 6) (e2 ZA (e2 iB (ua 1) (e2 cC (e2 cD (eV 5) (ua 84)) (ua 4))) (e2 iB (e2 ZA (ua 2) (eV 1)) (ua 1)))) (e2 cC (e2 cD (eV 5) (ua 336)) (ua 2))) fA))) (d:=OH (SK c (a k))) F (by
   simp![xD,DA,BA,wA,sA,kA,Ra,Ri,nA,dA,u,M,yC,C,B,b,D,SD,Ru,Ve,Nat.reduceAdd,show 2<=sizeLine by decide,eN];rfl) F (by rw[J];exact jo O (um E (by decide)))
  rw[dM]at H;refine⟨.nx [ε (.lst (ns.map Dt.int)),ε (.int (c:Nat)),ε (.int (t:Nat)),ε (.ref h.length),ε (.int (k:Nat)),ε (.int (a k)),ε (.int (a k/7%6*(2*(c:Int)+1)+a k/42%2))] (h++[.lst (MC (fun k=>SK c (a k)) (k+1))]),?_,_,_,_,rfl,rfl⟩;rw[Og];simp![nR,EA,bB,QA,DA,BA,wA,sA,kA,Va,Ti,Ra,Ri,nA,dA,Us,yC,R,S,C,I,p,P,NA,Q,L,B,y,D,cE,eF,H]) [ε (.lst (ns.map Dt.int)),ε (.int (c:Nat)),ε (.int (t:Nat)),ε (.ref h.length),none,none,none] (h++[.lst []]) ⟨_,_,_,rfl,rfl⟩
 dsimp![vN,FV,Ss (f:=some),Vs (f:=some),Wu,Vu,EA,bB,OG,BA,nu,NA,Va,Ti,XB,YD,Ri,BI E,PC,e,jB,uB]
section
variable{s:Nat->Int×Int}{c a:Nat}{h:HI}{x:Dt}{b:Ms Dt}{fs:Ms sv}
theorem Od(ok:∀i,i<c->MD (s i))(n:c<=100)(k:KA h x=ε (MC s c)){f:sv}{d:Dt}(q:ay h d f)(fo:tD c f)(sg:∀g,f=.one g->g.length<=1000)(x0:Ni Dt) :
 iL [x0,ε x,ε d] h=ε (if QE c s f=true then .nx [x0,ε x,ε d] h else .rt (.bl false) h):=by
 have e:=Rb ok n k q fo sg;have m:=UT k;rw[show(MC s c).length=c by simp[MC]]at m;have u:=UC (h:=h) (i:=2) (j:=(c:Int)) (Or.inl ⟨by decide,by decide⟩);have o:2*(c:Int)+1=((2*c+1:Nat):Int):=rfl;cases z:QE c s f<;>rw[z]at e<;>simp![iL,XA,uE,JA,QA,DA,BA,wA,fC,kA,sA,Ra,Ri,nA,dA,Us,m,u,yC,o,e,OA,vo,vm,Wo,eO,eN,jB,BB]
theorem GX(ok:∀i,i<c->MD (s i))(p:c<=100)(j:KA h x=ε (MC s c))(d:h[a]?=ε (.lst b))(F:Yo h b fs)(fo:∀f∈fs,tD c f)(sg:∀g∈yB fs,g.length<=1000)(x0:Ni Dt):∀(m k:Nat)(y:Ni Dt),k+m=b.length->
 ((fs.drop k).all (QE c s)=false/\iC (rA 2) iL (.rf a) (m+1) k [x0,ε x,y] h=ε (.rt (.bl false) h))\/((fs.drop k).all (QE c s)=true/\∃u,iC (rA 2) iL (.rf a) (m+1) k [x0,ε x,y] h=ε (.nx [x0,ε x,u] h))
 | 0,k,y,e=>by refine .inr ⟨by rw[Mi (by rw[<- F.len];omega)];rfl,y,?_⟩;unfold iC;simp![th.at,d,ju (show b.length<=k by omega)]
 | m+1,k,y,e=>by
  have n:k<b.length:=by omega
  obtain⟨f,o,q⟩:=F.get (jj n);obtain⟨B,C⟩:=Wi o;have r:=lu o;have t:=Od ok p j q (fo f r) (fun g z=>sg g (oP (by rw[<- z];exact r))) x0;unfold iC;simp![th.at,d,jj n,VD,Wa,Va,Ti,t];rw[Aa B,C,Ju];cases z:QE c s f with
  | false=>exact .inl ⟨rfl,rfl⟩
  | true=>rw[Gs];exact GX ok p j d F fo sg x0 m (k+1) (ε b[k]) nofun
theorem LZ(ok:∀i,i<c->MD (s i))(k:c<=100)(j:KA h x=ε (MC s c))(d:h[a]?=ε (.lst b))(F:Yo h b fs)(fo:∀f∈fs,tD c f)(sg:∀g∈yB fs,g.length<=1000):cI [.ref a,x] h=ε (.bl (fs.all (QE c s)),h):=by
 have m:th.fuel (.rf a) h=b.length+1:=by simp![th.fuel,d]
 rcases GX ok k j d F fo sg (ε (.ref a)) b.length 0 none nofun with⟨e,q⟩ | ⟨e,y,q⟩<;>rw[drop_zero]at e<;>rw[e] <;>
  dsimp![cI,BV,Ss (f:=some),Vs (f:=some),Wu,Vu,EA,XB,rC,sA,PD d]<;>unfold ND<;>rw[m,q]<;>rfl
end
theorem ZZ(h:HI)(n:Nat)(m:aC):QF h (n+2) (UA m) (UA m)=true:=by simp[UA,QF,BE]
theorem DY(h:HI)(n:Nat):∀g:Ms aC,BE (QF h (n+2)) (g.map UA) (g.map UA)=true
 | []=>rfl
 | m::g=>by show(QF h (n+2) (UA m) (UA m)&&BE (QF h (n+2)) (g.map UA) (g.map UA))=true;rw[ZZ,DY h n g];rfl
theorem Rc{h:HI}{d d':Dt}{f:sv}(q:ay h d f)(b:ay h d' f):QF h 6 d d'=true:=by
 cases f with
 | ways m=>rw[show d=UA m from q,show d'=UA m from b];exact ZZ h 4 m
 | long x=>rw[show d=.tup [.str "long", .int (x.1:Nat),.int x.2.1,.int x.2.2]from q,show d'=.tup [.str "long", .int (x.1:Nat),.int x.2.1,.int x.2.2]from b];simp[QF,BE]
 | one g=>
  obtain⟨o,rfl,n,rfl,j⟩:=q;obtain⟨k,rfl,a,rfl,i⟩:=b;have e:QF h 5 (.ref n) (.ref a)=true:=by
   have e:QF h 5 (.ref n) (.ref a)=BE (QF h 4) (g.map UA) (g.map UA):=by simp[QF,KA,j,i]
   rw[e,DY h 2 g]
  have t:QF h 6 (.tup [.str "one", .ref n]) (.tup [.str "one", .ref a])=(QF h 5 (.str "one") (.str "one")&&(QF h 5 (.ref n) (.ref a)&&true)):=rfl;rw[t,e,show QF h 5 (.str "one") (.str "one")=true by simp[QF]];rfl
theorem vd{h:HI}{ds g:Ms Dt}{fs:Ms sv}(a:Yo h ds fs):Yo h g fs->BE (QF h 6) ds g=true:=by
 induction a generalizing g with
 | nil=>intro b;cases b;rfl
 | @cons d f ds fs a r ih=>
  intro b;cases b with
  | @cons e _ g _ j i=>show(QF h 6 d e&&BE (QF h 6) ds g)=true;rw[Rc a j,ih i];rfl
theorem py{c i:Nat}{h:HI}{x y:Dt}{ds es:Ms Dt}{fs:Ms sv}(q:zdt c h x ds fs)(b:zdt i h y es fs):hJ x y h=ε (.bl false,h):=by
 have g:KA h x=ε ds:=by
  rcases q.at' with rfl | ⟨a,rfl,e⟩
  . rfl
  . exact GG e
 have d:KA h y=ε es:=by
  rcases b.at' with rfl | ⟨a,rfl,e⟩
  . rfl
  . exact GG e
 unfold hJ;rw[eG (show j5 h x y=true by unfold j5;rw[g,d];exact vd q.fa b.fa)]
theorem X6:decide ((("open" :Str))=(("open" :Str)))=true:=iu rfl
theorem TU:decide ((("laid" :Str))=(("open" :Str)))=false:=by decide +kernel
theorem PU:decide ((("clash" :Str))=(("open" :Str)))=false:=by decide +kernel
theorem W6:decide ((("open" :Str))=(("laid" :Str)))=false:=by decide +kernel
theorem OU:decide ((("clash" :Str))=(("laid" :Str)))=false:=by decide +kernel
theorem K6:decide ((("laid" :Str))=(("clash" :Str)))=false:=by decide +kernel
theorem V6:decide ((("open" :Str))=(("clash" :Str)))=false:=by decide +kernel
noncomputable def qU:Wd->Wd->Bool
 | .opn,.opn=>true
 | .laid,.laid=>true
 | .clash,.clash=>true
 | _,_=>false
theorem Iz(w v:Wd)(h:HI):FB (YG w) (YG v) h=ε (.bl (qU w v),h):=by cases w<;>cases v<;>simp![YG,RD,X6,TU,PU,W6,OU,K6,V6,decide_true,qU]
theorem Mq {w:Wd} (hw:w≠.opn) (h:HI):XG false (YG w) (.tup [.str "laid", .str "clash"]) h=ε (.bl true,h):=by
 have a:¬((("laid" :Str))=(("clash" :Str))):=by decide +kernel
 cases w with
 | opn=>exact Ei rfl hw
 | laid=>simp[XG,YG,DD,vE,FD,KA,LM,CK]
 | clash=>simp[XG,YG,DD,vE,FD,KA,LM,CK]
theorem D8{A:t0}{lo c:Nat}{k:HI}{x:Dt}(q:cm lo k c A (.tup [YG A.wd,x])){s m:Nat}(hs:s<=m)(C:A.wd=.opn->s=m)(h:HI):mH [.tup [YG A.wd,x,.int (s:Nat)],.int (m:Nat)] h=ε (.bl true,h):=by
 have n:∀p,SF h (.tup p)=ε "tuple" :=fun v=>rfl
 have j:UI "tuple" "tuple" =true:=by decide
 have H:decide ((3:Int)=3)=true:=rfl;have i:∀a b:Dt,atI [a,b,.int (s:Nat)] 2=ε (.int (s:Nat)):=fun v v=>rfl
 have w0:(WdO:Dt)->True:=fun v=>trivial
 by_cases z:A.wd=.opn
 . cases A with
   | opn=>
    have B:x=.non:=by
     have y:Dt.tup [YG (t0.opn).wd,x]=.tup [.str "open", .non]:=q;injection y with q1
     injection q1 with _ q2
     injection q2
    have e:s=m:=C rfl;subst B e;have F:decide (((s:Nat):Int)=(s:Int))=true:=iu rfl;dsimp![mH,NR,Ss,Vs,Us,EA,XA,UE,uE,JA,MH,sA,wA,fC,Ri,n,j,Vi,OA,vo,Wo,eO,jK,Hu,aE,decide_true,QA,DA,BA,LB,i,bM,BB,NA,oC,kF,t0.wd,YG,RD,jB,vM,FM,T6,WL,LC,wF,uB]
   | laid t=>cases z
   | clash u=>cases z
 . have o:=Mq z h;have g:=Iz A.wd .opn h;have r:qU A.wd .opn=false:=by
    cases A with
    | opn=>exact Ei rfl z
    | laid t=>rfl
    | clash u=>rfl
   rw[r]at g;generalize YG A.wd=W at o g q;have d:FB W (.str "open") h=ε (.bl false,h):=g;have E:decide ((0:Int)<=((s:Nat):Int))=true:=iu nofun;have D:decide (((s:Nat):Int)<=((m:Nat):Int))=true:=iu nofun;dsimp![mH,NR,Ss,Vs,Us,EA,XA,UE,uE,JA,MH,sA,wA,fC,Ri,n,j,Vi,OA,vo,Wo,eO,jK,Hu,aE,decide_true,QA,DA,BA,LB,i,bM,BB,NA,oC,kF,d,jB,vM,xD,nN,o,WL,pT,iJ,E,D,NT,uB]
theorem ra{c m:Nat}{fs:Ms sv}(ok:∀x∈fs,tD c x)(sg:∀g∈yB fs,g.length<=6){A:t0}{r:Nat}(P:cU c m fs 12 A r){s:Nat->Int×Int}(a:∀i,i<c->MD (s i))(k:fs.all (QE c s)=true):A.wd≠.clash:=by
 have b:∀f∈fs,dQ c s f:=fun f d=>px (ok f d) (fun g e=>sg g (oP (e ▸ d))) (all_eq_true.mp k f d)
 exact JX a (fun g q=>⟨QM s,Cp a q fun y h=>b _ (QO h)⟩) 12 _ _ 0 A r P (rH fs ok _ (aK c)) (uH fs ok) (wO fs Xe ok (fun i z=>by unfold Xe;rw[eG rfl])) (mP a fs _ b (X7 a)) (fun g j=>(b _ (nP j)).2.1)
theorem C8{c:Nat}(d:1<=c)(I:c<=100){t:Nat->Int}(ok:∀i,i<c->MD (ZC t i))(h:HI):EO [.lst (BD c (lB (2*c) t)),.int (c:Nat)] h=ε (.bl true,h):=by
 have a:=fZ (2*c) ok;obtain⟨m,j⟩:=Pg d ok;generalize lB (2*c) t=u at a m j;have pl:(BD c u).length=c:=by simp[BD]
 obtain⟨H,b,e,⟨y,rfl⟩,C⟩:=md (i:=2) (body:=RN) (fun k:Nat=>Dt.tup [.int (u (2*k)),.int (u (2*k+1))]) (fun l b=>(∃y,l=[ε (.lst (BD c u)),ε (.int (c:Nat)),y])/\b=h) (List.range c) (by
  rintro k B l b ⟨⟨y,rfl⟩,rfl⟩;have o:u (2*k)<u (2*k+1):=a k (Ca.mp B);have J:decide (((2:Nat):Int)=2)=true:=rfl;have E:decide (u (2*k+1)<=u (2*k))=false:=fu nofun;have x:∀xs,SF b (.tup xs)=ε "tuple" :=fun z=>rfl
  have r:UI "tuple" "tuple" =true:=by decide
  refine⟨.nx [ε (.lst (BD c u)),ε (.int (c:Nat)),ε (.tup [.int (u (2*k)),.int (u (2*k+1))])] b,?_,⟨_,rfl⟩,rfl⟩;simp![RN,EA,XA,UE,uE,JA,MH,wA,kA,sA,fC,Va,Ti,Ra,Ri,nA,dA,x,r,Vi,OA,vo,Wo,eO,jK,Ru,Ve,Nat.reduceAdd,Hu,aE,decide_true,QA,DA,BA,LB,oC,kF,Us,bM,BB,NA,TQ,E]) [ε (.lst (BD c u)),ε (.int (c:Nat)),none] h ⟨⟨_,rfl⟩,rfl⟩
 rw[C]at e;have D:zB (rA 2) RN (BD c u) [ε (.lst (BD c u)),ε (.int (c:Nat)),none] h=ε (.nx [ε (.lst (BD c u)),ε (.int (c:Nat)),y] h):=e;have F:=XF (te:=JN) (i:=0) (tc:=nB) (fun k:Nat=>Dt.tup [.int (u (2*k)),.int (u (2*k+1))]) (fun k=>Dt.int (u (2*k))) h (List.range c) [none] (by
  intro k _;exact⟨by simp,rfl⟩)
 have p:=UD (l:=[none]) (h:=h) (rA 0) nB JN (xs:=BD c u) (by rw[pl];simp[sizeLine];omega);have g:XD (rA 0) nB JN (BD c u) [none] h=ε (((List.range c).map fun k=>u (2*k)).map Dt.int,h):=by rw[map_map];exact F
 rw[g]at p;have n:=D4 (h:=h) m;rw[j]at n;have s:∀xs,SF h (.lst xs)=ε "list" :=fun z=>rfl
 have q:UI "list" "list" =true:=by decide
 dsimp![EO,tW,Ss,Vs,Wu,Vu,EA,XA,UE,uE,JA,MH,wA,sA,fC,Ri,s,q,Vi,OA,vo,Wo,eO,OP,pl,aE,decide_true,BB,NA,XB,rC,WF,PC,D,jB,nE,fD,eD,p,n,LC,uB]
theorem SW{c:Nat}{h:HI}{a:Nat}{ds:Ms Dt}{fs:Ms sv}(b:h[a]?=ε (.lst ds))(F:Yo h ds fs)(W:K5 c [] fs)(l:fs.length<=63):aU c h a fs/\zdt c h (.ref a) ds fs:=
 have sg:∀x∈yB fs,x.length<=1000:=fun x d=>by have:=W.g3 x d;omega
 ⟨⟨⟨ds,b,F⟩,W.ok,sg,by omega⟩,.inr ⟨a,rfl,b⟩,F,W.ok,sg,by omega⟩
theorem Zg(c:Nat)(u:Nat->Int)(h:HI):KA h (.lst (BD c u))=ε (MC (ZC u) c):=rfl
theorem law_true(ns:Ms Int)(hl:ns.length<=63):∃h',LH [.lst (ns.map Dt.int)] []=ε (.bl true,h'):=by
 have Y:=fun h=>QT ns 0 h
 simp![Hu]at Y;have m3:=fun(x:Int) (h:HI)=>LD (h:=h) (i:=x) (show(0:Int)<3 by decide)
 obtain⟨c,u,a3,b2⟩:∃c:Nat,2+ns[0]?.getD (0:Int)%3=(c:Int)/\2<=c/\c<=4:=⟨(2+ns[0]?.getD (0:Int)%3).toNat,by omega,by omega,by omega⟩
 obtain⟨m,hm,m1,m6⟩:∃m:Nat,(∀h:HI,pA (.lst [.int 6,.int 6,.int 2]) (.int ((c:Int)-2)) h=ε (.int (m:Nat),h))/\1<=m/\m<=6:=by
  rcases(show c=2\/c=3\/c=4 by omega)with rfl | rfl | rfl
  . exact⟨6,fun v=>rfl,by omega,by omega⟩
  . exact⟨6,fun v=>rfl,by omega,by omega⟩
  . exact⟨2,fun v=>rfl,by omega,by omega⟩
 obtain⟨fs,W,fl,ef⟩:=Dy ns hl a3 (show c<=100 by omega);obtain⟨D,B,S,a1,G1,_⟩:=ef [];obtain⟨b3,h2,C,a2,G2,u2⟩:=ef B;obtain⟨F,S2⟩:=SW a2 G2.at W fl;obtain⟨_,S1⟩:=SW a1 G1.at W fl;have ex:=Nh (m:=m) (show 1<=c by omega) (show c<=8 by omega) (show(NC fs).length<=100 by have:=LJ fs;have:=F.len;omega) (EJ fs F.ok) 12 (FC Xe fs) (yB fs) 0 (rH fs F.ok _ (aK c)) (uH fs F.ok) nofun nofun;obtain⟨A,s,x,e,L,ep,AN,U3⟩:=Vh (show 1<=c by omega) (show c<=8 by omega) F ex;obtain⟨_,l2,l3⟩:=cM 12 _ _ 0 _ _ L;have l2:=l2 nofun;have l3:=l3 nofun;have j:=S1.up (u2.trans U3);have O:=py (S2.up U3) j;have o:=D8 AN l2 l3 e;have sg:∀g∈yB fs,g.length<=1000:=F.sg
 have I:e[([]:HI).length]?=ε (.lst D):=(u2.trans U3).2 _ _ a1;have p:3<=sizeLine:=by decide
 have S:oJ [.lst (ns.map Dt.int),.int (c:Nat)] []=ε (.ref 0,B):=S;have j:zdt c e (.ref 0) D fs:=j;have O:hJ (.ref B.length) (.ref 0) e=ε (.bl false,e):=O;have r:∀(a b d:Dt)(h:HI),pA (.tup [a,b,d]) (.int 0) h=ε (a,h):=fun v v v v=>rfl
 have P:∀(a b d:Dt)(h:HI),pA (.tup [a,b,d]) (.int 1) h=ε (b,h):=fun v v v v=>rfl
 have ix2:∀(a b d:Dt)(h:HI),pA (.tup [a,b,d]) (.int 2) h=ε (d,h):=fun v v v v=>rfl
 cases A with
 | opn=>have o:mH [.tup [.str "open",x,.int (s:Nat)],.int (m:Nat)] e=ε (.bl true,e):=o;refine⟨e,?_⟩;dsimp![LH,sK,Ss (f:=some),Vs (f:=some),Wu,Vu,EA,bB,XA,UE,uE,JA,wA,sA,QA,DA,BA,AH,Va,Ti,Ri,Us,Y,m3,yC,u,S,NA,C,p,SD,hm,ep,O,OA,o,vo,Wo,eO,BB,r,t0.wd,YG,RD,decide_true,jB,wF,uB]
 | laid t=>
  have Q:x=.lst (BD c (lB (2*c) t)):=by
   have q':Dt.tup [YG (t0.laid t).wd,x]=.tup [.str "laid", .lst (BD c (lB (2*c) t))]:=AN;injection q' with q1
   injection q1 with _ q2
   injection q2
  subst Q;have K:=LX 12 _ _ 0 t s L (rH fs F.ok _ (aK c)) (uH fs F.ok);have pl:=C8 (show 1<=c by omega) (show c<=100 by omega) K.ok e;have kp:=LZ (fZ (2*c) K.ok) (show c<=100 by omega) (Zg c (lB (2*c) t) e) I j.fa F.ok sg;rw[El F.ok K]at kp;have o:mH [.tup [.str "laid", .lst (BD c (lB (2*c) t)),.int (s:Nat)],.int (m:Nat)] e=ε (.bl true,e):=o;have kp:cI [.ref 0,.lst (BD c (lB (2*c) t))] e=ε (.bl true,e):=kp;refine⟨e,?_⟩;dsimp![LH,sK,Ss (f:=some),Vs (f:=some),Wu,Vu,EA,bB,XA,UE,uE,JA,wA,sA,QA,DA,BA,AH,Va,Ti,Ri,Us,Y,m3,yC,u,S,NA,C,p,SD,hm,ep,O,OA,o,vo,Wo,eO,BB,r,t0.wd,YG,RD,TU,decide_true,jB,vM,P,pl,WL,kp,wF,uB]
 | clash tr=>
  obtain⟨x',Q,T⟩:=AN;have Q:x=x':=by
   injection Q with q1
   injection q1 with _ q2
   injection q2
  subst Q;obtain⟨l',h4,wl,J,rfl,U4⟩:=HE (i:=6) (body:=CP) (fun(k:Nat)=>Dt.int (k:Int)) (fun v l H=>∃J,l=[ε (.lst (ns.map Dt.int)),ε (.int (c:Nat)),ε (.ref 0),ε (.ref B.length),ε (.int (m:Nat)),ε (.tup [.str "clash",x,.int (s:Nat)]),J,none,none]/\tj e H) 12 (by
   rintro k hk l H ⟨J,rfl,U⟩;obtain⟨q,M,es⟩:=Wb ns (show 1<=c by omega) (show c<=100 by omega) k;have es:=es H;have Z:tj H (H++[Ob.lst (MC q c)]):=tj.app _ _;have kp:=LZ M (show c<=100 by omega) (x:=.ref H.length) (GG (WJ H [] (Ob.lst (MC q c)))) ((U.trans Z).2 _ _ I) (j.fa.up (U.trans Z)) F.ok sg;have kn:fs.all (QE c q)=false:=by
    cases z:fs.all (QE c q)with
    | false=>rfl
    | true=>exact Ei rfl (ra F.ok (fun g hg=>by have:=W.g3 g hg;omega) L M z)
   rw[kn]at kp;have kp:cI [.ref 0,.ref H.length] (H++[Ob.lst (MC q c)])=ε (.bl false,H++[Ob.lst (MC q c)]):=kp;refine⟨.nx _ (H++[Ob.lst (MC q c)]),?_,ε (.int (k:Nat)),rfl,U.trans Z⟩;simp![CP,Va,Ti,XA,JA,QA,DA,BA,kA,Ra,Ri,nA,dA,Us,es,kp,OA,Wo,eO,BB]) [ε (.lst (ns.map Dt.int)),ε (.int (c:Nat)),ε (.ref 0),ε (.ref B.length),ε (.int (m:Nat)),ε (.tup [.str "clash",x,.int (s:Nat)]),none,none,none] e ⟨none,rfl,tj.refl e⟩
  have n:=j.up U4;have E:h4[0]?=ε (.lst D):=U4.2 _ _ I;have el:=Eh E n.lt n.fa;obtain⟨a4,GA,eg⟩:=ur E n.lt n.fa;obtain⟨b,h5,b1,N5,U5⟩:=Nb (show c<=1000 by omega) E n.fa F.ok;obtain⟨h6,R,_⟩:=pu (m:=m) (ls:=NC fs) (show c<=8 by omega) (by have:=LJ fs;omega) (EJ fs F.ok) 12 (FC Xe fs) (yB fs) 0 tr s h5 b h2.length a4 x N5 (rH fs F.ok _ (aK c)) (GA.up U5.l) (uH fs F.ok) (fun y hy=>by have:=W.g3 y hy;omega) L (Zo.up (Uo _) ((U4.trans U5.l).f _) tr T);have a0:∀h:HI,yQ (.int 12,h)=ε (.vals ((List.range 12).map fun(k:Nat)=>Dt.int (k:Int)),h):=fun h=>oE (by decide) (by decide)
  have z0:((s:Int)-((0:Nat):Int))=(s:Int):=by omega
  rw[z0]at R;have a5:=el [ε (.lst (ns.map Dt.int)),ε (.int (c:Nat)),ε (.ref 0),ε (.ref B.length),ε (.int (m:Nat)),ε (.tup [.str "clash",x,.int (s:Nat)]),J,none,none] rfl;have a6:=eg [ε (.lst (ns.map Dt.int)),ε (.int (c:Nat)),ε (.ref 0),ε (.ref B.length),ε (.int (m:Nat)),ε (.tup [.str "clash",x,.int (s:Nat)]),J,ε (.lst ((NC fs).map rB)),none] rfl;have o:mH [.tup [.str "clash",x,.int (s:Nat)],.int (m:Nat)] e=ε (.bl true,e):=o;refine⟨h6,?_⟩;dsimp![LH,sK,Ss (f:=some),Vs (f:=some),Wu,Vu,EA,bB,XA,UE,uE,JA,wA,sA,QA,DA,BA,AH,Va,Ti,Ri,Us,Y,m3,yC,u,S,NA,C,p,SD,hm,ep,O,OA,o,vo,Wo,eO,BB,r,t0.wd,YG,RD,PU,OU,XB,YD,a0,PC,wl,a5,a6,jB,tZ,Xb,b1,P,R,ix2,LC,decide_true,uB]
set_option maxHeartbeats 0 in
theorem i8 {l:PySem.W.OpenLaw} {w:O4} {K:Oi} {h:Pu} {mg:Str->Ni Mu} {fa:Oa} {i:Oa} {d:Mu} {b:Oa} {j:Oa} {g:Mu} (T:X4 K mg h i d b j g) (k:mg "law" =ε (.ref fa))
 :∃m:FuncData,(∀(s:Nu) (v:Mu),BindsTo s m ⟨[v],[]⟩ [("_law_script",v)])/\∀base:Pu,K.In base->base.Ns mainGlobals mg->Zu l.prog w K mg base PF 31 fa m ["_law_script"] (XI K 1 LH):=by
 obtain⟨f,x,u,kV,dc,r,B,y,ct,q,a,n,p,o⟩:=T.Qz;have e:=k.symm.trans (PySem.W.mg_of T.X T.G a);cases e;exact⟨_,fun s v=>.of_eq rfl,fun base z z=>V7 T (QP n p o)⟩
end G
open PySem.W
set_option maxRecDepth 100000 in
set_option maxHeartbeats 0 in
theorem PySem.Challenge.cw_spanways_k17_whole_plan_or_tree_holds : PySem.Challenge.rw_spanways_k17_whole_plan_or_tree.Holds := by
 w_on;o_law;k_head;(case hw=>w_witness2)
 k_fill
 refine SM.Mp (l:=PySem.Challenge.rw_spanways_k17_whole_plan_or_tree) (F:=G.LH) (k:=31) (x := "_law_script") rfl rfl ⟨rfl,by decide,by decide⟩ (fun w h Y=>PySem.W.kIn_of Y) ?F G.law_true
 case F=>
  intro w mg fa h b d a
  refine' G.i8 ⟨b,d,?q0,?q1,?q2,?q3,?q4,?q5,?q6,?q7,?q8,?q9,?qa,?qb,?qc,?qd,?qe,?qf,?qg,?qh,?qi,?qj,?qk,?ql,?qm,?qn,?qo,?qp,?qq,?qr,?qs,?qt,?qu,?qv,?qw,?qx,?qy,?qz,?Q0,?Q1,?Q2,?Q3,?Q4,?Q5,?Q6,?Q7,?Q8,?Q9,?Qa,?Qb,?Qc,?Qd,?Qe,?Qf,?Qg,?Qh,?Qi,?Qj,?Qk,?Ql,?Qm,?Qn,?Qo,?Qp,?Qq,?Qr,?Qs,?Qt,?Qu,?Qv,?Qw,?Qx,?Qy,?Qz,?U0,?U1,?U2,?U3,?U4,?U5,?U6,?U7,?U8,?U9,?Ua,?Ub,?Uc,?Ud,?Ue,?Uf,?Ug,?Uh,?Ui,?Uj,?Uk,?Ul⟩ a
  (case q0=>exact⟨by k_is,by k_is,by k_is,by k_is,by k_is,by k_is,by k_is⟩)
  (case q1 | q2 | q3=>k_is)
  (case q4 | q5 | q6 | q7 | q8 | q9 | qa | qb | qc | qd | qe | qf | qg | qh | qi | qj | qk | ql | qm | qn | qo | qp | qq | qr | qs | qt | qu | qv | qw | qx | qy=>exact⟨_,_,_,_,_,_,_,_,_,_,by k_is,by k_is,by k_is,by k_is⟩)
  (case qz | Q0 | Q1=>exact⟨_,_,_,_,_,_,_,_,_,_,by k_is,by k_is,by k_is,by k_is,by k_is⟩)
  (case Q2=>exact⟨_,_,_,_,_,_,_,_,_,_,by k_is,by k_is,by k_is,by k_is⟩)
  (case Q3=>exact⟨_,_,_,_,_,_,_,_,_,_,_,_,_,_,by k_is,by k_is,by k_is,by k_is,by k_is,by rfl⟩)
  (case Q4 | Q5 | Q6 | Q7 | Q8 | Q9 | Qa | Qb | Qc | Qd | Qe | Qf | Qg | Qh | Qi | Qj | Qk | Ql | Qm | Qn | Qo | Qp | Qq | Qr | Qs | Qt | Qu | Qv | Qw | Qx | Qy | Qz=>exact⟨_,_,_,_,_,_,_,_,_,_,by k_is,by k_is,by k_is,by k_is⟩)
  (case U0 | U1 | U2 | U3 | U4 | U5 | U6 | U7 | U8 | U9 | Ua | Ub | Uc | Ud | Ue=>k_is)
  (case Uf=>kernel_rfl)
  (case Ug=>k_is)
  (case Uh=>kernel_rfl)
  (case Ui=>k_is)
  (case Uj=>kernel_rfl)
  (case Uk=>k_is)
  (case Ul=>kernel_rfl)
end
