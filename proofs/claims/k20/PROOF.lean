import PyProof.Rows.All
import Wide.All
import OpenK.AllK
import Wide.FinOn
import Lean
import PyProof.EqAt
import PyProof.EqKinds
import PyProof.TupleCall
import PyProof.Rows.SetFrom
import PySem.Challenge.RW_spanways_k20_trees_followed
set_option Elab.async false
set_option linter.all false
set_option maxRecDepth 100000
set_option tactic.hygienic false
set_option bootstrap.genMatcherCode false
noncomputable section
set_option compiler.extract_closed false
structure PySem.W.Fast:Prop where(tw10437170566736027877 tw4873088149530401212 tw9033110606795183720 tw11822284969756432329 tw2880727104533035783 tw16917123705987729326 tw8558882118199421900 tw8171027606601214880 tw11525275495505312214 tw10500429352501637976 tw16840915082588337240 tw14686471361603085148 tw10011084200388941640 tw15720613676665791035 tw11793997367961153229 tw1957875769564131286 tw12502607692358456788 tw661245006973700884 tw12790105328945998821 tw4361879848726931720 tw8114720389188257762 tw2826993395247070758 tw13188115014371030677 tw7645498221992791857 tw12219815456050995099 tw16725499204756369079 tw15961499100094656844 tw2419992746121574235 tw9745382159574945870 tw12132777670914777431 tw14340337541517818888 tw11215116548227906660 tw11038481520088359738 tw16193930406370058257 tw5476134586991431066 tw6699516781598771624 tw5252283818062938740 tw8908261830386433707 tw14320838131149288316 tw3742069588089102718 tw17288857741969239257 tw17901858463364438468 tw17736481787105467893 tw4304595710416370947 tw5562832792790787885 tw12401583595364268882 tw7124207162577737432 tw1991101644559508025 tw8730331497804078648 tw14248873059154671149 tw13232019198126665865 tw14353863670355753417 tw2815920701194797197 tw11127851776113559968 tw691368442655602673 tw2339323199010452473 tw18153774460907754453 tw12915314134244764845 tw18090409137349982027 tw18409809055781318239 tw288076573547675114 tw4677652813367630967 tw6668906994161669639 tw13048424313605832981 tw9777171346512342315 tw869017492195053013 tw16211258145252394275 tw3751056967309327997 tw5340138171311934483 tw9954761491739663285 tw13853192656687142692 tw2736095427538285026 tw12142665675209530710 tw10278372376813894989 tw14751005856903626191 tw779677421724211082 tw10215810398114663563 tw6266944715252370921 tw471030045270716442 tw4065808011133816549 tw7699530103245031960 tw14791732110289727906 tw15867876623369572890 tw14216107698638109494 tw13518970394258620415 tw11735442894205182943 tw6074453150250102136 tw2749368175682590358 tw2537015409509234103 tw14654780425624007418 tw5321978566079721127 tw12071781309616236576 tw2130702012728598686 tw5950043800844887962 tw7753817161159308505 tw16096626125601942315 tw15652354489899841888 tw9224411403764823978 tw11866472517232622394 tw12966731424161659681 tw18310542900902788530 tw4070322903849823039 tw7386840475435188180 tw9719537666099996791 tw15088594339662701273 tw12618347164015524359 tw7351269387014802305 tw14868819400087451785 tw14019052286684453143 tw7600955818293756559 tw8743699534699522183 tw7121264208122245161 tw11975549340001881067 tw5863348037184100937 tw10841128484532822167 tw7475804357834034717 tw2021994461520662806 tw127388018792908964 tw13570599004406936856 tw18350979562179228481 tw11473005756537251253 tw3931870725472824172 tw357893338384008191 tw17173997914163253839 tw15039128632065366339 tw14306579491714973886 tw12652819891056490308 tw16893143914734363344 tw17952286068389085518 tw3824243466976669274 tw7006164703242942372 tw5988617949775562238 tw7959642763932558142 tw5525142972448957859 tw10260529427462243381 tw5858147779177642060 tw5452064972725297647 tw2525733520719698210 tw15970134555076643532 tw3090701370183032220 tw678097569781494732 tw7529652441192299282 tw8031610755079523810 tw14317447819318511836 tw2175314206986132021 tw1061433129502998005 tw18139121762376954421 tw13504223728400803265 tw4738184197432401549 tw17784126473854566339 tw12483923450546633304 tw14451372587823285958 tw7428468885876499678 tw1705907993726788783 tw5131119022758647555 tw9705641295587915782 tw10622474212955881099 tw11708874823193275133 tw3657497469294663322 tw12768668646022880976 tw15860187916834318761 tw15138295848389479975 tw12647005726107534020 tw10283265122965071197 tw2908396033441218267 tw5735495953160434165 tw16637829887833739102 tw14120554644670143232 tw18187570178957785985 tw16863051985292310965 tw69972522851316658 tw14215043665839165 tw14826320157817788190 tw1603877259014399264 tw721623541231919127 tw12101826663758928924 tw16746046284579892572 tw1674303162791591377 tw8343000011224703709 tw13485192066915255454 tw14327106623612466807 tw16101832905852751992 tw5519366812222592661 tw15820355019735739376 tw10335634560247318339 tw7603104897229508598 tw2868140919971784258 tw12015639409010530066 tw10146288958385986115 tw11794062570413692979 tw4528344577016263226 tw11658431202699600308 tw17845937854968767003 tw3070392764718561462 tw18152740026824971274 tw12543427102645129385 tw13683120823591614449 tw11034573221721684612 tw8698717224501604524 tw14389060506857906268 tw8407321382067642263 tw15919325853453173138 tw15611232511846889811 tw17612694173487170136 tw6721243586359058602 tw11762725871731126693 tw9894661096259111916 tw14300486071897053870 tw13964211181530409485 tw12280596210233231619 tw15994273936165957687 tw1929767207794838557 tw4519678026716746806 tw15381879517896834723 tw10746263263282545570 tw2952801691490730773 tw17344943281801521784 tw5950015148451237514 tw13959645856513322182 tw9937446137545009544 tw2612184777984077187 tw9389904530698680665 tw5755649755849430546 tw9071075258006047340 tw9834078266134672786 tw11770643658441021460 tw1317681439420827688 tw6105756465403326160 tw9204640457238573990 tw7606324440878421977 tw14067258599944053555 tw17290116270258015428 tw9251043943103184258 tw8613060031259573357 tw5536738187056626700:True)
namespace L2
end L2
namespace SM
end SM
namespace BF
end BF
namespace G
end G
open PySem PySem.Spec PyProof.Rows L2 SM BF G List
universe u
def ao:=@wpAny_bind
def au:=@wpAny_pure
def cg:=@Heap.get?_push_of_some
def cu:=@size_toArray
def eG:=@if_pos
def eH:=@if_neg
def eO:=@if_true
def g8:=@if_false
def iu:=@decide_eq_false
def je:=@decide_eq_true
def ji:=@Heap.lt_size
def jj:=@length_append
def jo:=@getElem?_eq_getElem
def ju:=@Heap.get?_push_size
def kj:=@Nat.lt_of_lt_of_le
def lu:=@getElem?_eq_none
def m6:=@mem_of_getElem?
def m8:=@getElem?_set_ne
def ni:=@length_map
def nu:=@PassesOwn.never
def nW:=@Nat.zero_le
def n7:=@Ne.symm
def ou:=@Int.toNat_natCast
def rz:=@mem_cons_of_mem
def su:=@Nat.ne_of_lt
def tu:=@append_assoc
def uo:=@Option.some.inj
def uq:=@Nat.le_trans
def vm:=@getElem?_set_self
def vo:=@mem_cons_self
def wu:=@Bool.not_false
def wz:=@Bool.not_true
def w5:=@getElem?_map
def w6:=@Bool.and_eq_true
def xr:=@Prod.mk.injEq
def xu:=@Heap.get?_update_other
def yu:=@mem_append_right
def za:=@mem_append_left
def zu:=@Nat.lt_succ_self
def Aa:=@Array.length_toList
def Ae:=@Nat.testBit_and
def Ai:=@drop_eq_getElem_cons
def Ao:=@Nat.zero_add
def Ba:=@wpAny_newObj_type
def Bo:=@mem_of_find?_eq_some
def Bs:=@mem_singleton
def Bu:=@mem_cons
def Ca:=@mem_append
def Ce:=@mem_map
def Ci:=@mem_range
def Cu:=@sizeLine_eq
def Di:=@length_take
def Ds:=@beq_self_eq_true
def Du:=@Nat.le_of_lt
def Ea:=@Nat.sub_self
def Ei:=@Nat.lt_of_le_of_lt
def Eo:=@Nat.ne_of_gt
def Es:=@absurd
def Eu:=@List.getElem?_eq_none_iff
def Fd:=@beq_eq_false_iff_ne
def Fe:=@wpAny_holding
def Fi:=@Nat.lt_irrefl
def Fo:=@False.elim
def Fy:=@length_range
def Ga:=@wpAny_truthy_bool
def Ge:=@Option.some.injEq
def Gi:=@Option.map_eq_some_iff
def Gs:=@Heap.get?_update_self
def Gu:=@map_append
def Hi:=@Bool.true_and
def Ho:=@wpAny_field
def Hs:=@Bool.false_and
def Hu:=@Bool.and_false
def Ia:=@Around.under_plainId
def Ie:=@Nat.lt_succ_of_lt
def Ii:=@wpAny_mono
def Io:=@Int.cast_ofNat_Int
def Iu:=@codeAny_builtin
def Ja:=@Nat.eq_of_testBit_eq
def Je:=@range_succ
def Ji:=@find?_cons
def Jo:=@Nat.not_lt
def Js:=@Nat.mul_le_mul
def Ju:=@Nat.add_sub_cancel_left
def Ka:=@Nat.mod_lt
def Ke:=@True.intro
def Ko:=@take_of_length_le
def Ks:=@range_succ_eq_map
def Ku:=@any_cons
def La:=@all_cons
def Le:=@length_set
def Li:=@take_length
def Ls:=@replicate_succ
def Ma:=@Heap.size_push
def Mi:=@Option.join_some
def Ms:=@Nat.le_add_right
def Mu:=@nodup_cons
def Ni:=@List.cons.injEq
def Nu:=@mem_flatMap
def Oa:=@getElem?_range
def Oe:=@drop_eq_nil_of_le
def Oi:=@wpAny_updateSeq
abbrev Oo(a:Type u):=List a
abbrev Ou:=Value
abbrev O4(a:Type u):=Option a
abbrev Pa:=Shared
abbrev Pb:=Addr
abbrev Pu:=Expr
abbrev Ra:=PySem.W.Frag
abbrev Ri:=Program
abbrev Ro:=Stmt
abbrev Rr:=World
abbrev Ru:=Around
abbrev Ss(a:Type u):=Array a
abbrev Te:=Heap
set_option hygiene false
local macro_rules|`(ε $x*)=>`(some $x*)
local macro_rules|`(tactic|dsimp![$x,*]$[$l]?)=>`(tactic|simp only[Nat.reduceAdd,Ua,Vi,eO,fA,$x,*]$[$l]?)
set_option hygiene true
local macro_rules|`(tactic|unhygienic $t)=>`(tactic|with_unfolding_all $t)
local macro_rules|`(nofun)=>`(by omega)
local macro_rules|`(⋯)=>`(by simp)
local macro_rules|`(tactic|simp![$x,*]$[$l]?)=>`(tactic|simp only[$x,*]$[$l]?)
def Å(_:True:=by rfl):True:=⟨⟩
def Æ:=Å._auto_1
def Ð(_:True:=by decide):True:=⟨⟩
def Ñ:=Ð._auto_1
def Ö(_:True:=by first | exact .inl rfl | exact .inr rfl | assumption):True:=⟨⟩
def Ø:=Ö._auto_1
def Þ(_:True:=by decide +kernel):True:=⟨⟩
def å:=Þ._auto_1
def æ(_:True:=by intro _;rfl):True:=⟨⟩
def ð:=æ._auto_1
def ñ(_:True:=by first | exact Or.inl rfl | exact Or.inr rfl):True:=⟨⟩
def ö:=ñ._auto_1
def ø(_:True:=by exact rfl):True:=⟨⟩
def þ:=ø._auto_1
def Ti:(a::l)[0]?=ε a:=rfl
def Ui:(a::l)[i+1]?=l[i]?:=rfl
def Ua:(a::l).length=l.length+1:=rfl
def Vi:([]:Oo a).length=0:=rfl
def Uu:(a::l).map f=f a::l.map f:=rfl
def Xi:[].map f=[]:=rfl
def Wa:(a::l).set 0 b=b::l:=rfl
def Wu:(a::l).set (i+1) b=a::l.set i b:=rfl
def Vu:(ε a).map f=ε (f a):=rfl
def Wo:(ε a).bind f=f a:=rfl
def Ye:[]++l=l:=rfl
def Yi:a::l++k=a::(l++k):=rfl
def Xa{l:Oo b}{i:Nat}{a:b}:l[i]?=ε a->∃h,l[i]=a:=List.getElem?_eq_some_iff.mp
def Yo{l k:Oo a}(h:i<l.length):(l++k)[i]?=l[i]?:=List.getElem?_append_left h
def Xe:false≠true:=Bool.false_ne_true
def Va(n:Nat):n<=n:=Nat.le_refl n
def ag{l k:Oo a}(h:l.length<=i):(l++k)[i]?=k[i-l.length]?:=List.getElem?_append_right h
def Ve(l:Oo a):l++[]=l:=List.append_nil l
def Xo:(false=true)=False:=Bool.false_eq_true
open PySem.W (Frag nsIn findIn keepIn fnOf mg_none_of)
namespace L2
noncomputable abbrev dC:=Sum Int Str
noncomputable def xK:dC->Ou->Bool
 | .inl k,v=>Value.isInt k v
 | .inr x,v=>Value.isStrOf x v
noncomputable def P3(w:Rr):dC->Int
 | .inl k=>hashInt k
 | .inr x=>hashStr w x
theorem oH:∀{k:dC}{v:Ou},xK k v=true->(∃i t,k=Sum.inl i/\v=Value.int i t)\/(∃x t,k=Sum.inr x/\v=Value.str x t)
 | .inl i,v,h=>by obtain⟨t,e⟩:=Value.isInt_shape (k:=i) (v:=v) h;exact .inl ⟨i,t,rfl,e⟩
 | .inr x,v,h=>by obtain⟨t,e⟩:=Value.isStrOf_shape (x:=x) (v:=v) h;exact .inr ⟨x,t,rfl,e⟩
def Fv(i)(t):xK (.inl i) (.int i t)=true:=by simp[xK,Value.isInt]
def Gv(x)(t):xK (.inr x) (.str x t)=true:=by simp[xK,Value.isStrOf]
def Fp(a b):decide ((Sum.inl a:dC)=Sum.inl b)=(a==b):=by
 by_cases e:a=b
 . subst e;simp
 . have h:¬(Sum.inl a:dC)=Sum.inl b:=fun q=>e (Sum.inl.inj q)
   rw[iu h];exact(Fd.mpr e).symm
def jm(a b):decide ((Sum.inr a:dC)=Sum.inr b)=decide (a=b):=by
 by_cases e:a=b
 . subst e;simp
 . have h:¬(Sum.inr a:dC)=Sum.inr b:=fun q=>e (Sum.inr.inj q)
   rw[iu h,iu e]
def Gp(a)(b):decide ((Sum.inl a:dC)=Sum.inr b)=false:=iu (fun q=>nomatch q)
def Ip(a)(b):decide ((Sum.inr a:dC)=Sum.inl b)=false:=iu (fun q=>nomatch q)
def gE(prog:Ri)(w:Rr):PySem.KeyKind prog w dC where
 is:=xK
 hash:=P3 w
 inj:=fun v a b n g=>by
  rcases oH n with⟨i,t,rfl,rfl⟩ | ⟨x,t,rfl,rfl⟩
  . rcases oH g with⟨j,u,rfl,e⟩ | ⟨y,u,rfl,e⟩
    . injection e with d _;rw[d]
    . exact nomatch e
  . rcases oH g with⟨j,u,rfl,e⟩ | ⟨y,u,rfl,e⟩
    . exact nomatch e
    . injection e with d _;rw[d]
 byValue:=fun k v h=>by rcases oH h with⟨i,t,rfl,rfl⟩ | ⟨x,t,rfl,rfl⟩<;>rfl
 pyHash:=fun f h=>by
  rcases oH f with⟨i,t,rfl,rfl⟩ | ⟨x,t,rfl,rfl⟩
  . exact wpAny_pyHash_int h
  . exact wpAny_pyHash_str h
 eqBool:=fun m f h=>by
  rcases oH m with⟨i,t,rfl,rfl⟩ | ⟨x,t,rfl,rfl⟩
  . rcases oH f with⟨j,u,rfl,rfl⟩ | ⟨y,u,rfl,rfl⟩
    . rw[Fp]at h;exact wpAny_eqBool_int h
    . rw[Gp]at h;exact SeqAt.EqAt.int_str i t y u _ _ _ _ h
  . rcases oH f with⟨j,u,rfl,rfl⟩ | ⟨y,u,rfl,rfl⟩
    . rw[Ip]at h;exact SeqAt.EqAt.str_int x t j u _ _ _ _ h
    . rw[jm]at h;exact wpAny_eqBool_str h
 «strs»:=fun k x t v h=>by
  rcases oH h with⟨i,u,rfl,e⟩ | ⟨y,u,rfl,e⟩
  . exact nomatch e
  . injection e with d _
    subst d;cases v<;>rfl
def Oj(prog)(w)(i)(t):(gE prog w).is (.inl i) (.int i t)=true:=Fv i t
def Pj(prog)(w)(x)(t):(gE prog w).is (.inr x) (.str x t)=true:=Gv x t
inductive V where
 | non | bl (b:Bool) | int (i:Int) | str (x:Str) | byt (b:Array UInt8) | flt (b:UInt64) | ref (a:Addr) | ty (n:String)
 deriving DecidableEq
noncomputable def ml:V->Ou->Prop
 | .non,u=>u=Value.none
 | .bl b,u=>u=Value.bool b
 | .int i,u=>∃t,u=Value.int i t
 | .str x,u=>∃t,u=Value.str x t
 | .byt b,u=>∃t,u=Value.bytes b t
 | .flt b,u=>∃t,u=Value.float b t
 | .ref a,u=>u=Value.ref a
 | .ty n,u=>u=Value.type n
abbrev mf:Oo V->Oo Ou->Prop:=Paired ml
def mf.length(r:mf xs us):xs.length=us.length:=Paired.length r
theorem mf.get:∀{xs:Oo V}{us:Oo Ou}{i:Nat}{x:V},mf xs us->xs[i]?=ε x->∃u,us[i]?=ε u/\ml x u
 | _,_,_,_,.nil,e=>by simp at e
 | _,_,0,_,.cons r _,e=>by simp at e;subst e;exact⟨_,rfl,r⟩
 | _,_,i+1,x,.cons _ t,e=>by obtain⟨u,b,a⟩:=mf.get (i:=i) (x:=x) t (by simpa using e);exact⟨u,by simpa using b,a⟩
theorem mf.set(r:ml x u):∀{xs:Oo V}{us:Oo Ou}(i:Nat),mf xs us->mf (xs.set i x) (us.set i u)
 | _,_,_,.nil=>.nil
 | _,_,0,.cons _ t=>.cons r t
 | _,_,i+1,.cons q t=>.cons q (mf.set r i t)
theorem mf.append:∀{xs ys:Oo V}{us a:Oo Ou},mf xs us->mf ys a->mf (xs++ys) (us++a)
 | _,_,_,_,.nil,s=>s
 | _,_,_,_,.cons r t,s=>.cons r (mf.append t s)
theorem mf.take:∀{xs:Oo V}{us:Oo Ou}(n:Nat),mf xs us->mf (xs.take n) (us.take n)
 | _,_,0,_=>.nil
 | _,_,_+1,.nil=>.nil
 | _,_,n+1,.cons r t=>.cons r (mf.take n t)
theorem mf.drop:∀{xs:Oo V}{us:Oo Ou}(n:Nat),mf xs us->mf (xs.drop n) (us.drop n)
 | _,_,0,r=>r
 | _,_,_+1,.nil=>.nil
 | _,_,n+1,.cons _ t=>mf.drop n t
def mf.none_of:∀{xs:Oo V}{us:Oo Ou}{i:Nat},mf xs us->xs[i]?=none->us[i]?=none:=fun {xs us i} r e=>by have b:=r.length;have a:xs.length<=i:=Eu.mp e;exact Eu.mpr nofun
def ax:O4 V->O4 Ou->Prop
 | some v,some u=>ml v u
 | none,none=>True
 | _,_=>False
def KV{a:Type}:Oo (a×V)->Oo (a×Ou)->Prop:=Paired fun(p:a×V) (q:a×Ou)=>p.1=q.1/\ml p.2 q.2
noncomputable def kV:dC->V
 | .inl i=>.int i
 | .inr x=>.str x
inductive HO where
 | lst (xs:List V)
 | tup (xs:List V)
 | dK (kvs:List (dC×V)) | dT (kvs:List (List dC×V))
 | set (S:Int->Bool) (n:Nat)
 | ins (C dx:Addr) (fs:List (Str×V))
 | own (x:Addr)
 | xd (fs:List (Str×V))
 | met (f x:Addr)
 | rng (lo hi:Int)
 | frz (o:Obj) (u:HO)
 | tbl (ps:Array Value)
 | ext (φ:Heap->Prop)
noncomputable abbrev Hp:=Pb->O4 HO
noncomputable def xB(H:Hp)(a:Pb)(o:HO):Hp:=fun b=>if b=a then ε o else H b
def xC:xB H a o a=ε o:=by unfold xB;rw[eG rfl]
def aB(h:b≠a):xB H a o b=H b:=by unfold xB;rw[eH h]
def ZS{H:Hp}(h:H a=ε o)(h':H b=ε u)(d:o≠u):a≠b:=by intro e;subst e;rw[h]at h';exact d (uo h')
def ZC{H:Hp}(h:H a=ε o)(h':H b=none):a≠b:=by intro e;subst e;rw[h]at h';cases h'
section
variable(P:Ri)(w:Rr)
def Zi(H:Hp)(h:Te)(a:Pb):HO->Prop
 | .lst e=>e.length<=sizeLine/\∃(d:Oo Ou) (n:Nat),mf e d/\h.get? a=ε { cls:=.type "list",data:=.seq d.toArray n }
 | .tup e=>e.length<=sizeLine/\∃d:Oo Ou,mf e d/\IsTup h a d.toArray
 | .dK b=>b.length<=sizeLine/\(a==sysModules)=false/\∃k,KV b k/\h.DictOf (gE P w) a k
 | .dT b=>b.length<=sizeLine/\(a==sysModules)=false/\∃e:Oo (Oo dC×Pb×Ou),
  Paired (fun(p:Oo dC×V) (q:Oo dC×Pb×Ou)=>p.1=q.1/\H q.2.1=ε (.tup (p.1.map kV))/\ml p.2 q.2.2) b e/\
  ∃o y F,h.get? a=ε o/\o.ExactDict/\o.data=.dict y F/\y.toList=e.map (entryOfKey (tupleKind (gE P w)))/\(e.map (·.1)).Nodup
 | .set S n=>h.SetOf (intKind P w) a S n
 | .ins C i fs=>H i=ε (.own a)/\fs.length<=1000/\i≠a/\h.get? a=ε (PySem.W.instObj C i)/\
  ∃g,h.Ns1 i g/\(∀f,ax (fs.lookup f) (g f))/\PySem.Within g (fs.map (·.1))
 | .own _=>∃o,h.get? a=ε o
 | .xd fs=>∃g,h.Ns1 a g/\∀f,ax (fs.lookup f) (g f)
 | .rng D E=>∃t u v,h.get? a=ε { cls:=.type "range",data:=.fields #[.int D t,.int E u,.int 1 v] }
 | .frz o u=>h.get? a=ε o/\Zi H h a u
 | .tbl B=>h.get? a=ε { cls:=.none,data:=.fields B }
 | .met f x=>h.get? a=ε (PySem.W.methodObj (.ref f) (.ref x))
 | .ext j=>j h/\(∃o,h.get? a=ε o)/\∀r m:Te,j r->(∀o,r.get? a=ε o->m.get? a=ε o)->j m
def nh(H:Hp)(h:Te):Prop:=∀a o,H a=ε o->Zi P w H h a o
end
section
variable{P:Ri}{w:Rr}{H g:Hp}{h h':Te}{a:Pb}{o:HO}
def Zi.lt(x:Zi P w H h a o):a<h.objs.size:=by
 cases o with
 | lst d=>obtain⟨_,_,_,_,e⟩:=x;exact ji e
 | tup d=>obtain⟨_,_,_,p⟩:=x;exact p.lt
 | dK b=>obtain⟨_,_,_,_,o,_,_,e,_⟩:=x;exact ji e
 | dT b=>obtain⟨_,_,_,_,o,_,_,e,_⟩:=x;exact ji e
 | set S n=>obtain⟨o,_,_,_,e,_⟩:=x;exact ji e
 | ins C q fs=>obtain⟨_,_,_,e,_⟩:=x;exact ji e
 | own y=>obtain⟨_,e⟩:=x;exact ji e
 | xd fs=>obtain⟨_,⟨_,_,_,e,_⟩,_⟩:=x;exact ji e
 | rng k m=>obtain⟨_,_,_,e⟩:=x;exact ji e
 | frz ob u=>obtain⟨e,_⟩:=x;exact ji e
 | tbl j=>exact ji (show h.get? a=ε _ from x)
 | met f y=>exact ji (show h.get? a=ε _ from x)
 | ext i=>obtain⟨_,⟨_,e⟩,_⟩:=x;exact ji e
theorem Paired.gz:∀{e:Oo j}{d:Oo i},Paired F e d->(∀a b,F a b->G a b)->Paired G e d
 | _,_,.nil,_=>.nil
 | _,_,.cons r t,f=>.cons (f _ _ r) (Paired.gz t f)
def Zi.stay(x:Zi P w H h a o)(k:∀b u,(b=a\/H b=ε (.own a))->h.get? b=ε u->h'.get? b=ε u)
 (M:∀b,H b=ε (.own a)->g b=ε (.own a)) (L:∀b B,H b=ε (.tup B)->g b=ε (.tup B)):Zi P w g h' a o:=by
 induction o with
 | lst B=>obtain⟨z,m,n,r,e⟩:=x;exact⟨z,m,n,r,k _ _ (.inl rfl) e⟩
 | tup B=>obtain⟨z,m,r,ob,e,c⟩:=x;exact⟨z,m,r,ob,k _ _ (.inl rfl) e,c⟩
 | dK F=>obtain⟨z,y,J,r,ob,i,j,e,c⟩:=x;exact⟨z,y,J,r,ob,i,j,k _ _ (.inl rfl) e,c⟩
 | dT F=>obtain⟨z,y,B,r,ob,i,j,e,c⟩:=x;exact⟨z,y,B,Paired.gz r fun p q z=>⟨z.1,L _ _ z.2.1,z.2.2⟩,ob,i,j,k _ _ (.inl rfl) e,c⟩
 | set S n=>obtain⟨ob,i,j,t,e,c⟩:=x;exact⟨ob,i,j,t,k _ _ (.inl rfl) e,c⟩
 | ins C T fs=>obtain⟨d,z,ne,e,E,⟨D,i,j,e2,c⟩,r⟩:=x;exact⟨M _ d,z,ne,k _ _ (.inl rfl) e,E,⟨D,i,j,k _ _ (.inr d) e2,c⟩,r⟩
 | own y=>obtain⟨ob,e⟩:=x;exact⟨ob,k _ _ (.inl rfl) e⟩
 | xd fs=>obtain⟨E,⟨D,i,j,e,c⟩,r⟩:=x;exact⟨E,⟨D,i,j,k _ _ (.inl rfl) e,c⟩,r⟩
 | rng Q R=>obtain⟨t,u,v,e⟩:=x;exact⟨t,u,v,k _ _ (.inl rfl) e⟩
 | frz ob u ih=>obtain⟨e,q⟩:=x;exact⟨k _ _ (.inl rfl) e,ih q⟩
 | tbl I=>have e:h.get? a=ε { cls:=.none,data:=.fields I }:=x;show h'.get? a=ε { cls:=.none,data:=.fields I };exact k a _ (.inl rfl) e
 | met f y=>have e:h.get? a=ε (PySem.W.methodObj (.ref f) (.ref y)):=x;show h'.get? a=ε (PySem.W.methodObj (.ref f) (.ref y));exact k a _ (.inl rfl) e
 | ext O=>obtain⟨p,⟨o,e⟩,st⟩:=x;exact⟨st _ _ p fun o q=>k _ _ (.inl rfl) q,⟨o,k _ _ (.inl rfl) e⟩,st⟩
def nh.lt(x:nh P w H h)(e:H a=ε o):a<h.objs.size:=(x a o e).lt
def nh.fresh(x:nh P w H h)(e:h.objs.size<=a):H a=none:=by
 cases q:H a with
 | none=>rfl
 | some u=>exact Es (kj (x.lt q) e) (Fi _)
def nh.kept(x:nh P w H h)(k:∀b u,h.get? b=ε u->h'.get? b=ε u):nh P w H h':=fun a o e=>(x a o e).stay (fun b u z q=>k b u q) (fun z q=>q) fun z z q=>q
def nh.laid(x:nh P w H h)(k:∀b u,h.get? b=ε u->h'.get? b=ε u)(hp:h.objs.size<=a)(new:Zi P w (xB H a o) h' a o):nh P w (xB H a o) h':=fun b u e=>by
 have d:=x.fresh hp;by_cases f:b=a
 . subst f;rw[xC]at e;cases e;exact new
 . rw[aB f]at e;exact(x b u e).stay (fun c v z q=>k c v q) (fun c q=>by rw[aB (ZC q d)];exact q) fun c i q=>by rw[aB (ZC q d)];exact q
end
def Rd(H:Hp)(a:Pb)(u:HO):Prop:=H a=ε u\/∃o,H a=ε (.frz o u)
def Rd.ok(r:Rd H a u)(x:nh P w H h):Zi P w H h a u:=by
 rcases r with r | ⟨o,r⟩
 . exact x a u r
 . obtain⟨_,q⟩:=x a _ r;exact q
noncomputable def WT:O4 HO->Prop
 | some (.lst _)=>True
 | some (.dK _)=>True
 | some (.dT _)=>True
 | some (.set _ _)=>True
 | some (.ins _ _ _)=>True
 | some (.ext _)=>True
 | _=>False
section
variable{P:Ri}{w:Rr}{H:Hp}{h h':Te}{x e:Pb}{a:HO}
def nh.write(ok:nh P w H h)(i:WT (H x))(he:e=x\/H e=ε (.own x))(k:∀b u,b≠e->h.get? b=ε u->h'.get? b=ε u)(n:∃u,h'.get? e=ε u)
 (new:Zi P w (xB H x a) h' x a):nh P w (xB H x a) h':=fun b u q=>by
 have f:∀c y,H c=ε (.own y)->c≠x:=fun c y r z=>by subst z;rw[r]at i;exact i
 have m:∀c g,H c=ε (.tup g)->c≠x:=fun c g r z=>by subst z;rw[r]at i;exact i
 by_cases j:b=x
 . subst j;rw[xC]at q;cases q;exact new
 . rw[aB j]at q;by_cases d:b=e
   . have o:H b=ε (.own x):=by
      rcases he with z | z
      . exact Es (d.trans z) j
      . rw[d];exact z
     rw[q]at o;cases o;obtain⟨v,p⟩:=n;exact⟨v,by rw[d];exact p⟩
   . refine(ok b u q).stay (fun c v hc r=>k c v ?_ r) (fun c r=>by rw[aB (f c b r)];exact r) fun c g r=>by rw[aB (m c g r)];exact r
     rcases hc with rfl | hc
     . exact d
     . rintro rfl;rcases he with z | z
       . exact f c b hc z
       . rw[hc]at z;cases z;exact j rfl
end
structure Un(fs ex:List Addr)(H H':Hp)(h h':Heap):Prop where
 keep:∀b o,h.get? b=ε o->H b=none->b∉fs->b∉ex->h'.get? b=ε o
 slot:∀b o,h.get? b=ε o->H b=none->b∈fs->b∉ex->∃sl,h'.get? b=ε { o with slots:=sl }
 free:∀b o,h.get? b=ε o->H b=none->b∉ex->H' b=none
 there:∀b o,h.get? b=ε o->b∉ex->∃o',h'.get? b=ε o'
 tups:∀b xs,H b=ε (.tup xs)->H' b=ε (.tup xs)
 bj:∀b o u,H b=ε (.frz o u)->H' b=ε (.frz o u)
 bo:∀b ps,H b=ε (.tbl ps)->∃more,H' b=ε (.tbl (ps++more))
section
variable{fs d ex f:Oo Pb}{H g i:Hp}{h h1 h2 h':Te}{a x e:Pb}{o:HO}
def Un.any(u:Un fs ex H g h h1)(q:h.get? b=ε ob)(n:H b=none)(j:b∉ex):∃m,h1.get? b=ε { ob with slots:=m }:=by
 by_cases k:b∈fs
 . exact u.slot b ob q n k j
 . exact⟨ob.slots,u.keep b ob q n k j⟩
def Un.trans(a:Un fs ex H g h h1)(b:Un fs ex g i h1 h2):Un fs ex H i h h2 where
 keep:=fun c ob q n p j=>b.keep c ob (a.keep c ob q n p j) (a.free c ob q n j) p j
 slot:=fun c ob q n p j=>by obtain⟨D,k⟩:=a.slot c ob q n p j;obtain⟨r,e2⟩:=b.slot c _ k (a.free c ob q n j) p j;exact⟨r,e2⟩
 free:=fun c ob q n j=>by obtain⟨u,k⟩:=a.there c ob q j;exact b.free c u k (a.free c ob q n j) j
 there:=fun c ob q j=>by obtain⟨u,k⟩:=a.there c ob q j;exact b.there c u k j
 tups:=fun c m q=>b.tups c m (a.tups c m q)
 bj:=fun c ob m q=>b.bj c ob m (a.bj c ob m q)
 bo:=fun c y q=>by obtain⟨C,k⟩:=a.bo c y q;obtain⟨B,e2⟩:=b.bo c _ k;exact⟨C++B,by rw[e2,Array.append_assoc]⟩
def Un.kept(k:∀b u,h.get? b=ε u->h'.get? b=ε u):Un fs ex H H h h':=
 ⟨fun b ob q z z z=>k b ob q,fun b ob q z z z=>⟨ob.slots,k b ob q⟩,fun z z z n z=>n,fun b ob q z=>⟨ob,k b ob q⟩,fun z z q=>q,fun z z z q=>q,fun z j q=>⟨#[],by rw[q];simp⟩⟩
def Un.refl:Un fs ex H H h h:=Un.kept fun z z q=>q
def Un.laid(k:∀b u,h.get? b=ε u->h'.get? b=ε u)(hp:h.objs.size<=a)(j:H a=none):Un fs ex H (xB H a o) h h' where
 keep:=fun b u q z z z=>k b u q
 slot:=fun b u q z z z=>⟨u.slots,k b u q⟩
 free:=fun b u q n z=>by rw[aB (su (kj (ji q) hp))];exact n
 there:=fun b u q z=>⟨u,k b u q⟩
 tups:=fun b m q=>by rw[aB (ZC q j)];exact q
 bj:=fun b u m q=>by rw[aB (ZC q j)];exact q
 bo:=fun b p q=>⟨#[],by rw[aB (ZC q j),q];simp⟩
def Un.write(m:WT (H x))(he:e=x\/H e=ε (.own x))(k:∀b u,b≠e->h.get? b=ε u->h'.get? b=ε u)(y:∃u,h'.get? e=ε u):Un fs ex H (xB H x o) h h':=by
 have B:∀b,H b=none->b≠x:=fun b n z=>by subst z;rw[n]at m;exact m
 have C:∀b,H b=none->b≠e:=fun b n z=>by
  subst z;rcases he with r | r
  . exact B b n r
  . rw[n]at r;cases r
 have p:∀b u,H b=ε u->¬WT (ε u)->b≠x:=fun b u q E z=>by subst z;rw[q]at m;exact E m
 refine⟨fun b u q n v v=>k b u (C b n) q,fun b u q n v v=>⟨u.slots,k b u (C b n) q⟩,fun b u q n v=>by rw[aB (B b n)];exact n,fun b u q v=>?_,
  fun b D q=>by rw[aB (p b _ q fun z=>z)];exact q,fun b u D q=>by rw[aB (p b _ q fun z=>z)];exact q,fun b F q=>⟨#[],by rw[aB (p b _ q fun z=>z),q];simp⟩⟩
 by_cases j:b=e
 . subst j;exact y
 . exact⟨u,k b u j q⟩
def Un.mono(u:Un fs ex H g h h1)(hs:∀b∈fs,b∈d)(k:∀b∈ex,b∈f):Un d f H g h h1:=
 ⟨fun b ob q n m j=>u.keep b ob q n (fun z=>m (hs b z)) fun z=>j (k b z),fun v v q n v j=>u.any q n fun z=>j (k _ z),fun b ob q n j=>u.free b ob q n fun z=>j (k b z),fun b ob q j=>u.there b ob q fun z=>j (k b z),u.tups,u.bj,u.bo⟩
end
noncomputable def B2(h:Te)(H:Hp):Oo Pb:=(List.range h.objs.size).filter fun a=>(H a).isSome
def bH(h:Te)(H:Hp):Te:=PySem.W.hideAll h (B2 h H)
def Yz(h)(H):(bH h H).objs.size=h.objs.size:=PySem.W.hideAll_size _ _
def Vg(e:h.get? b=ε o)(n:H b=none):(bH h H).get? b=ε o:=
 PySem.W.hideAll_get _ e fun a=>by have q:(H b).isSome=true:=(mem_filter.mp a).2;rw[n]at q;simp at q
def Rh(e:(bH h H).get? b=ε o):h.get? b=ε o/\H b=none:=by
 have a:h.get? b=ε o:=PySem.W.of_hideAll (B2 h H) e;refine⟨a,?_⟩;cases q:H b with
 | none=>rfl
 | some x=>have d:b∈B2 h H:=mem_filter.mpr ⟨Ci.mpr (ji a),by simp[q]⟩;have z:(bH h H).get? b=none:=PySem.W.hideAll_none (B2 h H) d;rw[z]at e;cases e
noncomputable def Kr(g h:Te)(L:Pb):Oo (Pb×Obj):=(List.range h.objs.size).filterMap fun a=>if a=L\/(g.get? a).isSome=true then none else(h.get? a).map fun o=>(a,o)
def rest(g h:Te)(L d:Pb):Oo (Pb×Obj):=(Kr g h L).filter fun p=>decide (p.1≠d)
structure Mod(K:Frag)(mg:Str->Option Value)(base:Heap):Prop where
 kin:K.In base
 glob:base.Ns mainGlobals mg
 blt:∃mb,base.Ns builtinsNs mb/\∀x:Str,x ≠ "__name__" ->mb x=bootBuiltins x
 nolimit:base.NoLimit
structure Cx where
 prog:Program
 w:World
 K:Frag
 mg:Str->Option Value
 base:Heap
 A:Around
 N:List Str
 s₀:Shared
 H₀:Hp
 env:Env
 outer:List Env
 stack:List Env
 ex:List Addr
 fn:Str->Bool
 calm:Bool
 pn:List (Addr×Obj)
 xe:Value->Shared->Prop
noncomputable def PK(l:Oo Env):Oo Pb:=l.filterMap (·.frame)
abbrev Cx.fs(X:Cx):Oo Pb:=PK X.outer
def J1(a:Scope)(x:Str):Prop:=a.names.lookup x=ε .local\/a.names.lookup x=ε .cell\/a.names.lookup x=ε .free
def DK(a:Scope)(x:Str):Prop:=a.names.lookup x=ε .local\/a.names.lookup x=ε .cell
def P2(env:Env)(h:Te)(m:Str->O4 Ou)(x:Str)(u:Ou):Prop:=
 (env.kindOf x=ε .local/\m x=ε u)\/((env.kindOf x=ε .cell\/env.kindOf x=ε .free)/\∃c,env.cells.lookup x=ε c/\h.IsCell c (ε u))
structure Cx.Ok(X:Cx):Prop where
 mod:Mod X.K X.mg X.base
 kind:X.env.scope.kind=.function
 glob:X.env.globals=mainGlobals
 blt:X.env.builtins=builtinsNs
 above:X.s₀.heap.objs.size<=X.env.locals
 inj:∀x y c,X.env.cells.lookup x=ε c->X.env.cells.lookup y=ε c->x=y
 has:∀x,(X.env.kindOf x=ε .cell\/X.env.kindOf x=ε .free)->∃c,X.env.cells.lookup x=ε c
 cab:∀x c,X.fn x=true->X.env.cells.lookup x=ε c->X.s₀.heap.objs.size<=c
 hd:X.calm=true->X.A.handled=none
 frames:X.A.frames=ε X.stack
 stk:X.stack=X.outer\/(X.stack=X.env::X.outer/\X.env.frame=ε X.env.locals)
 exf:∀b∈X.ex,b≠X.env.locals/\∀x c,X.env.cells.lookup x=ε c->c≠b
 bs:∀b o,X.base.get? b=ε o->X.s₀.heap.get? b=ε o/\X.H₀ b=none
 bsz:X.base.objs.size<=X.s₀.heap.objs.size
 fh:∀b o,X.base.get? b=ε o->b∉X.ex
 fq:∀b∈X.ex,b∉X.fs
 bq:X.s₀.heap.FunFrames X.base X.outer
 frf:∀b∈X.fs,X.H₀ b=none
structure me(X:Cx)(pins:List (Addr×Obj))(σ:List (Option V))(H:Hp)(s:Shared):Prop where
 ok:X.Ok
 os:s.os=X.s₀.os
 bare:AllBare s.gens
 base:Un X.fs X.ex X.H₀ H X.s₀.heap s.heap
 loc:∃m,s.heap.Ns X.env.locals m/\∀(i:Nat)(x:Str)(v:V),X.N[i]?=ε x->σ[i]?=ε (ε v)->J1 X.env.scope x->∃u,ml v u/\P2 X.env s.heap m x u
 cell:∀x c,X.env.cells.lookup x=ε c->∃v,s.heap.IsCell c v
 free:H X.env.locals=none
 cb:∀x c,X.env.cells.lookup x=ε c->H c=none
 pin:∀p∈X.pn++pins,s.heap.get? p.1=ε p.2/\H p.1=none/\p.1≠X.env.locals/\p.1∉X.fs/\∀v,p.2.data≠.cell v
 hok:nh X.prog X.w H s.heap
 len:σ.length=X.N.length
section
variable{X:Cx}{f:Oo (Pb×Obj)}{g:Oo (O4 V)}{H w:Hp}{s:Pa}{h':Te}
def Cx.Ok.jv(ok:X.Ok)(e:X.base.get? b=ε o):b∉X.fs:=fun a=>by have:=(ok.bq.mem a).1;rw[e]at this;cases this
def me.bs(I:me X f g H s):∀b o,X.base.get? b=ε o->s.heap.get? b=ε o/\H b=none:=fun b o e=>⟨I.base.keep b o (I.ok.bs b o e).1 (I.ok.bs b o e).2 (I.ok.jv e) (I.ok.fh b o e),I.base.free b o (I.ok.bs b o e).1 (I.ok.bs b o e).2 (I.ok.fh b o e)⟩
def me.bk(I:me X f g H s):∀b o,X.base.get? b=ε o->s.heap.get? b=ε o:=fun b o e=>(I.bs b o e).1
def me.mod(I:me X f g H s):Mod X.K X.mg X.base:=I.ok.mod
def me.kIn(I:me X f g H s):X.K.In s.heap:=I.ok.mod.kin.keeps I.bk
def me.nolimit(I:me X f g H s):s.heap.NoLimit:=I.ok.mod.nolimit.keeps I.bk
def me.lt(I:me X f g H s):X.env.locals<s.heap.objs.size:=let ⟨_,hn,_⟩:=I.loc;hn.lt
def me.sz(I:me X f g H s):X.s₀.heap.objs.size<=s.heap.objs.size:=uq I.ok.above (Du I.lt)
def me.j3(I:me X f g H s)(h:s.heap.objs.size<=a):a∉X.fs:=fun d=>by obtain⟨_,o,b,_⟩:=I.ok.bq.mem d;exact Es (kj (ji b) (uq I.sz h)) (Fi _)
def me.cne(I:me X f g H s):∀x c,X.env.cells.lookup x=ε c->c≠X.env.locals:=fun x c e z=>by obtain⟨v,o,d,hd⟩:=I.cell x c e;obtain⟨m,⟨h,i,j,a,b,_⟩,_⟩:=I.loc;rw[z,a]at d;cases d;rw[b]at hd;cases hd
def me.bq(I:me X f g H s):s.heap.FunFrames X.base X.outer:=by
 have all:∀(l:Oo Env),(∀b∈PK l,b∈X.fs)->X.s₀.heap.FunFrames X.base l->s.heap.FunFrames X.base l:=by
  intro l
  induction l with
  | nil=>intro _ _;trivial
  | cons env r ih=>
   intro hs m;obtain⟨n,⟨L,o,a,k,j,hd⟩,i⟩:=m;have h:L∈X.fs:=hs L (by unfold PK;rw[filterMap_cons,a];exact vo);obtain⟨p,e⟩:=I.base.slot L o j (I.ok.frf L h) h fun z=>I.ok.fq L z h
   exact⟨n,⟨L,_,a,k,e,hd⟩,ih (fun b d=>hs b (by unfold PK;rw[filterMap_cons,a];exact rz _ d)) i⟩
 exact all X.outer (fun q d=>d) I.ok.bq
def me.stack(I:me X f g H s):s.heap.FunFrames X.base X.stack:=by
 rcases I.ok.stk with e | ⟨e,b⟩
 . rw[e];exact I.bq
 . rw[e];obtain⟨m,a,_⟩:=I.loc;refine .cons (by rw[I.ok.kind];decide) b a ?_ I.bq;exact Heap.get?_none_of_le (uq I.ok.bsz I.ok.above)
def me.hE(I:me X f g H s):∀b∈PK X.stack,b∈X.env.locals::X.fs:=fun b a=>by
 rcases I.ok.stk with e | ⟨e,d⟩
 . rw[e]at a;exact rz _ a
 . rw[e]at a;unfold PK at a;rw[filterMap_cons,d]at a;exact a
def me.ik(I:me X f g H s):∀b∈PK X.stack,H b=none:=fun b hb=>by
 rcases Bu.mp (I.hE b hb)with e | hb
 . rw[e];exact I.free
 . obtain⟨_,o,a,_⟩:=I.ok.bq.mem hb;exact I.base.free b o a (I.ok.frf b hb) fun z=>I.ok.fq b z hb
def me.step{ch:Oo Pb}(I:me X f g H s)
 (j:∀b∈ch,(b∈X.ex\/X.s₀.heap.objs.size<=b)/\b≠X.env.locals/\(∀x c,X.env.cells.lookup x=ε c->c≠b)/\∀p∈X.pn++f,p.1≠b)
 (keep:∀b o,b≠X.env.locals->b∉X.fs->b∉ch->s.heap.get? b=ε o->H b=none->h'.get? b=ε o)
 (slot:∀b o,b≠X.env.locals->b∈X.fs->b∉ch->s.heap.get? b=ε o->H b=none->∃P,h'.get? b=ε { o with slots:=P }) (free:∀b o,b∉ch->s.heap.get? b=ε o->H b=none->w b=none)
 (there:∀b o,b∉ch->s.heap.get? b=ε o->∃J,h'.get? b=ε J)
 (tups:∀b D,H b=ε (.tup D)->w b=ε (.tup D)) (bj:∀b o u,H b=ε (.frz o u)->w b=ε (.frz o u)) (bo:∀b M,H b=ε (.tbl M)->∃more,w b=ε (.tbl (M++more)))
 (ns:∀m,s.heap.Ns X.env.locals m->h'.Ns X.env.locals m) (hok:nh X.prog X.w w h') (Z:AllBare g') :
 me X f g w { s with heap:=h',gens:=g',drawn:=d',toks:=t' }:=by
 have L:∀b o,X.s₀.heap.get? b=ε o->b≠X.env.locals:=fun b o e=>su (kj (ji e) I.ok.above)
 have B:∀b o,X.s₀.heap.get? b=ε o->b∉X.ex->b∉ch:=fun b o e a E=>by
  rcases(j b E).1 with z | z
  . exact a z
  . exact Es (kj (ji e) z) (Fi _)
 have y:∀x c,X.env.cells.lookup x=ε c->∀v,s.heap.IsCell c v->h'.IsCell c v:=fun x c e v S=>by
  obtain⟨o,F,hd⟩:=S;have h:c∉ch:=fun z=>(j c z).2.2.1 x c e rfl
  by_cases R:c∈X.fs
  . obtain⟨P,q⟩:=slot c o (I.cne x c e) R h F (I.cb x c e);exact⟨_,q,hd⟩
  . exact⟨o,keep c o (I.cne x c e) R h F (I.cb x c e),hd⟩
 refine⟨I.ok,I.os,Z,⟨fun b o e n E a=>?_,fun b o e n E a=>?_,fun b o e n a=>?_,fun b o e a=>?_,fun b D e=>tups b D (I.base.tups b D e),fun b o D e=>bj b o D (I.base.bj b o D e),fun b M e=>?_⟩,?_,fun x c e=>?_,?_,fun x c e=>?_,fun p hp=>?_,hok,I.len⟩
 . exact keep b o (L b o e) E (B b o e a) (I.base.keep b o e n E a) (I.base.free b o e n a)
 . obtain⟨P,C⟩:=I.base.slot b o e n E a;obtain⟨O,e2⟩:=slot b _ (L b o e) E (B b o e a) C (I.base.free b o e n a);exact⟨O,e2⟩
 . obtain⟨J,C⟩:=I.base.there b o e a;exact free b J (B b o e a) C (I.base.free b o e n a)
 . obtain⟨J,C⟩:=I.base.there b o e a;exact there b J (B b o e a) C
 . obtain⟨U,C⟩:=I.base.bo b M e;obtain⟨T,e2⟩:=bo b _ C;exact⟨U++T,by rw[e2,Array.append_assoc]⟩
 . obtain⟨m,W,Y⟩:=I.loc;refine⟨m,ns m W,fun i x v C e2 e3=>?_⟩;obtain⟨u,r,l⟩:=Y i x v C e2 e3;refine⟨u,r,?_⟩;rcases l with l | ⟨k,c,e,z⟩
   . exact .inl l
   . exact .inr ⟨k,c,e,y x c e _ z⟩
 . obtain⟨v,z⟩:=I.cell x c e;exact⟨v,y x c e v z⟩
 . obtain⟨m,⟨o,_,_,F,_⟩,_⟩:=I.loc;exact free _ o (fun z=>(j _ z).2.1 rfl) F I.free
 . obtain⟨v,o,F,hd⟩:=I.cell x c e;exact free c o (fun z=>(j c z).2.2.1 x c e rfl) F (I.cb x c e)
 . obtain⟨e,n,ne,Q,d⟩:=I.pin p hp;have h:p.1∉ch:=fun z=>(j p.1 z).2.2.2 p hp rfl
   exact⟨keep p.1 p.2 ne Q h e n,free p.1 p.2 h e n,ne,Q,d⟩
def me.un(I:me X f g H s)(u:Un X.fs [] H w s.heap h')(hok:nh X.prog X.w w h'):me X f g w { s with heap:=h',toks:=t' }:=by
 obtain⟨m,⟨o,C,D,j,r⟩,_⟩:=id I.loc;obtain⟨x,q⟩:=u.any j I.free ⋯;exact I.step (g':=s.gens) (d':=s.drawn) (ch:=[]) (fun v z=>nomatch z) (fun b o v d v e n=>u.keep b o e n d ⋯) (fun b o v d v e n=>u.slot b o e n d ⋯) (fun b o v e n=>u.free b o e n ⋯) (fun b o v e=>u.there b o e ⋯) u.tups u.bj u.bo (fun B p=>by
  obtain⟨y,h,i,a,k⟩:=p;rw[j]at a;cases a;exact⟨_,h,i,q,k⟩) hok I.bare
def me.call(I:me X f g H s)(u:Un (PK X.stack) ch H w s.heap h')(hok:nh X.prog X.w w h')(C:AllBare g')
 (h:∀b∈ch,(b∈X.ex\/X.s₀.heap.objs.size<=b)/\b≠X.env.locals/\(∀x c,X.env.cells.lookup x=ε c->c≠b)/\∀p∈X.pn++f,p.1≠b) :
 me X f g w { s with heap:=h',gens:=g',drawn:=d',toks:=t' }:=by
 obtain⟨m,⟨o,L,M,q,r⟩,_⟩:=id I.loc;obtain⟨E,i⟩:=u.any q I.free fun z=>(h _ z).2.1 rfl
 exact I.step (ch:=ch) h (fun b o i D a e n=>u.keep b o e n (fun z=>(Bu.mp (I.hE b z)).elim i D) a) (fun b o v v a e n=>u.any e n a) (fun b o a e n=>u.free b o e n a) (fun b o a e=>u.there b o e a) u.tups u.bj u.bo (fun J B=>by
  obtain⟨F,j,k,d,y⟩:=B;rw[q]at d;cases d;exact⟨_,j,k,i,y⟩) hok C
def me.turned(I:me X f g H s)(k:∀b o,b≠it->s.heap.get? b=ε o->h'.get? b=ε o)(j:H it=none)(h:it≠X.env.locals)
 (h1:it∈X.ex\/X.s₀.heap.objs.size<=it) (h2:∀x c,X.env.cells.lookup x=ε c->c≠it) (C:∀p∈X.pn++f,p.1≠it):me X f g H { s with heap:=h',toks:=t' }:=by
 have d:∀b u,H b=ε u->b≠it:=fun b u e z=>by rw[z,j]at e;cases e
 refine I.step (g':=s.gens) (d':=s.drawn) (ch:=[it]) (fun b B=>?_) (fun b o t t a e t=>k b o (fun z=>a (by simp[z])) e) (fun b o t t a e t=>⟨o.slots,k b o (fun z=>a (by simp[z])) e⟩) (fun t t t t n=>n)
  (fun b o a e=>⟨o,k b o (fun z=>a (by simp[z])) e⟩) (fun t t e=>e) (fun t t t e=>e) (fun b F e=>⟨#[],by rw[e];simp⟩) (fun m y=>?_) (fun b u e=>?_) I.bare
 . have e:b=it:=by simpa using B
   subst e;exact⟨h1,h,h2,C⟩
 . obtain⟨o,D,E,i,r⟩:=y;exact⟨o,D,E,k _ o (n7 h) i,r⟩
 . refine(I.hok b u e).stay (fun c v a q=>k c v ?_ q) (fun t q=>q) fun t t q=>q
   rcases a with z | z
   . rw[z];exact d b u e
   . exact d c _ z
def me.tok(I:me X f g H s)(t):me X f g H { s with toks:=t }:=I.un (h':=s.heap) (t':=t) Un.refl I.hok
def me.kept(I:me X f g H s)(k:∀b u,s.heap.get? b=ε u->h'.get? b=ε u):me X f g H { s with heap:=h',toks:=t' }:=I.un (Un.kept k) (I.hok.kept k)
def me.laid(I:me X f g H s)(k:∀b u,s.heap.get? b=ε u->h'.get? b=ε u)(hp:s.heap.objs.size<=a)(new:Zi X.prog X.w (xB H a o) h' a o) :
 me X f g (xB H a o) { s with heap:=h',toks:=t' }:=I.un (Un.laid k hp (I.hok.fresh hp)) (I.hok.laid k hp new)
def me.write(I:me X f g H s)(d:WT (H x))(he:e=x\/H e=ε (.own x))(k:∀b u,b≠e->s.heap.get? b=ε u->h'.get? b=ε u)(a:∃u,h'.get? e=ε u)
 (new:Zi X.prog X.w (xB H x o) h' x o):me X f g (xB H x o) { s with heap:=h',toks:=t' }:=I.un (Un.write d he k a) (I.hok.write d he k a new)
def me.im(I:me X f g H s)(h:∀p∈a,s.heap.get? p.1=ε p.2/\H p.1=none/\p.1≠X.env.locals/\p.1∉X.fs/\∀v,p.2.data≠.cell v):me X a g H s:=
 ⟨I.ok,I.os,I.bare,I.base,I.loc,I.cell,I.free,I.cb,fun p hp=>(Ca.mp hp).elim (fun z=>I.pin p (za _ z)) (h p),I.hok,I.len⟩
def zX{N:Oo Str}(d:N.Nodup){i j:Nat}(a:N[i]?=ε x)(b:N[j]?=ε x):i=j:=by obtain⟨k,e⟩:=Xa a;obtain⟨h,e2⟩:=Xa b;exact(getElem_inj d).mp (e.trans e2.symm)
def cX(I:me X f g H s)(hN:X.N.Nodup)(hi:X.N[i]?=ε x)(C:DK X.env.scope x)(r:ml v u)
 (h:∀s',me X f (g.set i (ε v)) H s'->(∃a,Heap.SameBut a s.heap s'.heap/\(a=X.env.locals\/X.env.cells.lookup x=ε a))->Q () s') (hf:autoParam (X.fn x=true\/X.env.scope.names.lookup x=ε .local) Ø):wpAny M A (storeName X.env x u) Q E s:=by
 obtain⟨m,hn,hl⟩:=id I.loc;have R:(X.env.scope.kind==.class || (X.env.scope.kind==.module&&X.env.locals !=X.env.globals))=false:=by rw[I.ok.kind];rfl
 have F:i<g.length:=by rw[I.len];exact(Xa hi).1
 have cne:=I.cne;have tracked:∀{a:Pb}{h':Te},(∃o,s.heap.get? a=ε o/\H a=none)->Heap.SameBut a s.heap h'->nh X.prog X.w H h':=fun {a h'} ha hs b ob e=>by
  obtain⟨_,_,D⟩:=ha;refine(I.hok b ob e).stay (fun c U hc q=>(hs.2 c ?_).trans q) (fun t q=>q) fun t t q=>q
  rintro rfl;rcases hc with rfl | hc
  . rw[D]at e;cases e
  . rw[D]at hc;cases hc
 rcases C with hk | hk
 . refine wpAny_storeName_local hk hn (fun h' a1 hs=>?_) R;obtain⟨oL,_,_,a0,_⟩:=id hn;refine h _ ⟨I.ok,I.os,I.bare,⟨fun b o e n O C=>?_,fun b o e n O C=>?_,I.base.free,fun b o e C=>?_,I.base.tups,I.base.bj,I.base.bo⟩,⟨_,a1,fun j y Z B e2 e3=>?_⟩,fun y c e=>?_,I.free,I.cb,fun p hp=>?_,tracked ⟨oL,a0,I.free⟩ hs,by simpa using I.len⟩ ⟨_,hs,.inl rfl⟩
   . exact(hs.2 b (su (kj (ji e) I.ok.above))).trans (I.base.keep b o e n O C)
   . obtain⟨sl,B⟩:=I.base.slot b o e n O C;exact⟨sl,(hs.2 b (su (kj (ji e) I.ok.above))).trans B⟩
   . obtain⟨o',B⟩:=I.base.there b o e C;exact⟨o',(hs.2 b (su (kj (ji e) I.ok.above))).trans B⟩
   . by_cases J:j=i
     . subst J;rw[hi]at B;cases B;rw[vm F]at e2;cases e2;exact⟨u,r,.inl ⟨hk,by simp⟩⟩
     . rw[m8 (n7 J)]at e2;obtain⟨u',r',q⟩:=hl j y Z B e2 e3;refine⟨u',r',?_⟩;rcases q with⟨k,e⟩ | ⟨k,c,e,z⟩
       . refine .inl ⟨k,?_⟩;have:y≠x:=fun e=>J (zX hN B (e ▸ hi))
         simp[this,e]
       . exact .inr ⟨k,c,e,z.sameBut hs (cne y c e)⟩
   . obtain⟨U,z⟩:=I.cell y c e;exact⟨U,z.sameBut hs (cne y c e)⟩
   . obtain⟨e,n,ne,nf,d⟩:=I.pin p hp;exact⟨(hs.2 p.1 ne).trans e,n,ne,nf,d⟩
 . have L:X.fn x=true:=by
    rcases hf with z | z
    . exact z
    . rw[z]at hk;cases hk
   obtain⟨c,hc⟩:=I.ok.has x (.inl hk);obtain⟨U,z⟩:=I.cell x c hc;refine wpAny_storeName_cell I.ok.kind hk hc z (fun h' T hs=>?_);obtain⟨oc,P,Y⟩:=id z;refine h { s with heap:=h' } ⟨I.ok,I.os,I.bare,⟨fun b o e n O C=>?_,fun b o e n O C=>?_,I.base.free,fun b o e C=>?_,I.base.tups,I.base.bj,I.base.bo⟩,⟨m,hn.sameBut hs (n7 (cne x c hc)),fun j y Z B e2 e3=>?_⟩,fun y W e=>?_,I.free,I.cb,fun p hp=>?_,tracked ⟨oc,P,I.cb x c hc⟩ hs,by simpa using I.len⟩ ⟨c,hs,.inr hc⟩
   . exact(hs.2 b (su (kj (ji e) (I.ok.cab x c L hc)))).trans (I.base.keep b o e n O C)
   . obtain⟨sl,B⟩:=I.base.slot b o e n O C;exact⟨sl,(hs.2 b (su (kj (ji e) (I.ok.cab x c L hc)))).trans B⟩
   . obtain⟨o',B⟩:=I.base.there b o e C;exact⟨o',(hs.2 b (su (kj (ji e) (I.ok.cab x c L hc)))).trans B⟩
   . by_cases J:j=i
     . subst J;rw[hi]at B;cases B;rw[vm F]at e2;cases e2;exact⟨u,r,.inr ⟨.inl hk,c,hc,T⟩⟩
     . rw[m8 (n7 J)]at e2;obtain⟨u',r',q⟩:=hl j y Z B e2 e3;refine⟨u',r',?_⟩;rcases q with q | ⟨k,W,e,z'⟩
       . exact .inl q
       . refine .inr ⟨k,W,e,z'.sameBut hs ?_⟩;rintro rfl;exact J (zX hN B (I.ok.inj _ _ _ e hc ▸ hi))
   . by_cases S:W=c
     . subst S;exact⟨_,T⟩
     . obtain⟨w2,z2⟩:=I.cell y W e;exact⟨w2,z2.sameBut hs S⟩
   . obtain⟨e,n,ne,nf,d⟩:=I.pin p hp;refine⟨(hs.2 p.1 ?_).trans e,n,ne,nf,d⟩;intro q;rw[q,P]at e;have q':oc=p.2:=uo e;exact d U (by rw[<- q'];exact Y)
def rY(I:me X f g H s)(e:X.N.Nodup)(hi:X.N[i]?=ε x)(b:DK X.env.scope x)(r:ml v u)
 (h:∀a,me X f (g.set i (ε v)) H a->Q () a) (d:autoParam (X.fn x=true\/X.env.scope.names.lookup x=ε .local) Ø):wpAny M A (storeName X.env x u) Q E s:=
 cX I e hi b r (fun a j q=>h a j) d
def me.call'(I:me X f g H s)(h:s'.os=s.os)(u:Un (PK X.stack) ch H w s.heap s'.heap)(hok:nh X.prog X.w w s'.heap)(i:AllBare s'.gens)
 (a:∀b∈ch,(b∈X.ex\/X.s₀.heap.objs.size<=b)/\b≠X.env.locals/\(∀x c,X.env.cells.lookup x=ε c->c≠b)/\∀p∈X.pn++f,p.1≠b):me X f g w s':=by
 obtain⟨h',g',d',t',d⟩:=s';have e:d=s.os:=h;subst e;exact I.call (g':=g') (t':=t') (d':=d') u hok i a
end
abbrev XK:=Ou->O4 Pb->Hp->Prop
noncomputable abbrev St:=Oo (O4 V)
abbrev VK:=V->Hp->Prop
abbrev TE:=St->Hp->VK->Prop
abbrev TT:=St->Hp->(Bool->Hp->Prop)->Prop
abbrev TA:=St->Hp->(Oo V->Hp->Prop)->Prop
structure zH where
 nx:St->Hp->Prop
 rt:VK
 bk:St->Hp->Prop:=fun _ _=>False
 ct:St->Hp->Prop:=fun _ _=>False
abbrev TS:=zH->St->Hp->Prop
def EP(X:Cx)(a:Oo (Pb×Obj))(d:St)(Q:VK)(u:Ou)(e:Pa):Prop:=∃v b,me X a d b e/\ml v u/\Q v b
def TP(X:Cx)(a:Oo (Pb×Obj))(e:St)(Q:Bool->Hp->Prop)(b:Bool)(f:Pa):Prop:=∃d,me X a e d f/\Q b d
def AP(X:Cx)(a:Oo (Pb×Obj))(e:St)(Q:Oo V->Hp->Prop)(us:Oo Ou)(f:Pa):Prop:=∃b d,me X a e d f/\mf b us/\Q b d
set_option tactic.hygienic true in
def SP(X:Cx)(b:Oo (Pb×Obj))(D:zH)(f:Flow)(e:Pa):Prop:=
 match f with
 | .next=>∃a d,me X b a d e/\D.nx a d
 | .brk=>∃a d,me X b a d e/\D.bk a d
 | .cont=>∃a d,me X b a d e/\D.ct a d
 | .ret u=>∃v a d,me X b a d e/\ml v u/\D.rt v d
def PE(X:Cx)(e:Pu)(t:TE):Prop:=
 ∀(a:Oo (Pb×Obj))(s:Pa)(b:St)(H:Hp)(Q:VK),me X a b H s->t b H Q->wpAny (model X.prog X.w) X.A (eval e X.env) (EP X a b Q) X.xe s
def PT(X:Cx)(e:Pu)(t:TT):Prop:=
 ∀(a:Oo (Pb×Obj))(s:Pa)(b:St)(H:Hp)(Q:Bool->Hp->Prop),me X a b H s->t b H Q->wpAny (model X.prog X.w) X.A (isTrue e X.env (eval e X.env)) (TP X a b Q) X.xe s
def PW(X:Cx)(e:Pu)(t:TT):Prop:=
 ∀(b:Sem Ou)(a:Oo (Pb×Obj))(s:Pa)(d:St)(H:Hp)(Q:Bool->Hp->Prop),me X a d H s->t d H Q->wpAny (model X.prog X.w) X.A (isTrue e X.env b) (TP X a d Q) X.xe s
def PW.pt(h:PW X e t):PT X e t:=h _
def PA(X:Cx)(d:Oo Pu)(t:TA):Prop:=
 ∀(pos:Pos)(a:Oo (Pb×Obj))(s:Pa)(b:St)(H:Hp)(Q:Oo V->Hp->Prop),me X a b H s->t b H Q->wpAny (model X.prog X.w) X.A (spliced (backTo pos (starEach d X.env))) (AP X a b Q) X.xe s
def PS(X:Cx)(st:Ro)(t:TS):Prop:=
 ∀(a:Oo (Pb×Obj))(s:Pa)(b:St)(H:Hp)(D:zH),me X a b H s->t D b H->wpAny (model X.prog X.w) X.A (exec st X.env) (SP X a D) X.xe s
def PSs(X:Cx)(st:Oo Ro)(t:TS):Prop:=
 ∀(a:Oo (Pb×Obj))(s:Pa)(b:St)(H:Hp)(D:zH),me X a b H s->t D b H->wpAny (model X.prog X.w) X.A (execs st X.env) (SP X a D) X.xe s
def CB(h:wpAny M A t Q E s)(e:∀a s,Q a s->d a s):wpAny M A t d E s:=Ii h e fun q q x=>x
section
variable{X:Cx}
noncomputable def D5(i:Nat):TE:=fun a H Q=>∃v,a[i]?=ε (ε v)/\Q v H
noncomputable def tC(v:V):TE:=fun _ H Q=>Q v H
def Tn (q:X.N[i]?=ε x) (k:J1 X.env.scope x) (hd:autoParam ((x==("__debug__" :Str))=false) Ñ) (f:autoParam ((x==("__classdict__" :Str))=false) Ñ):PE X (.Name x pos) (D5 i):=by
 intro d s j H Q I h;obtain⟨v,e,h⟩:=h;obtain⟨m,n,p⟩:=I.loc;obtain⟨u,r,l⟩:=p i x v q e k;have b:EP X d j Q u s:=⟨v,H,I,r,h⟩;rcases l with⟨hk,o⟩ | ⟨hk,c,g,a⟩
 . exact wpAny_Name (wpAny_loadName_local I.ok.kind hk n o b) hd
 . rcases hk with hk | hk
   . exact wpAny_Name (wpAny_loadName_cell I.ok.kind hk g a b) hd
   . exact wpAny_Name (wpAny_loadName_free I.ok.kind hk g a b f) hd
def En{i j pos}:PE X (.Constant (.int i) j pos) (tC (.int i)):=fun q q q H q I h=>wpAny_Constant_int ⟨.int i,H,I.tok _,⟨_,rfl⟩,h⟩
def i8{b j pos}:PE X (.Constant (.bool b) j pos) (tC (.bl b)):=fun q q q H q I h=>Constant_bool ⟨.bl b,H,I,rfl,h⟩
def Gn{j pos}:PE X (.Constant .none j pos) (tC .non):=fun q q q H q I h=>Constant_none ⟨.non,H,I,rfl,h⟩
def Rn{x j pos}:PE X (.Constant (.str x) j pos) (tC (.str x)):=fun q q q H q I h=>Calls.Constant_str ⟨.str x,H,I.tok _,⟨_,rfl⟩,h⟩
def Gl(X:Cx)(x:Str):Prop:=X.env.kindOf x=ε .globalImplicit
def qS(I:me X a b H s)(e:Gl X x)(d:X.mg x=ε u)(h:Q u s)
 (hd:autoParam ((x==("__debug__" :Str))=false) Ñ):wpAny (model X.prog X.w) X.A (eval (.Name x pos) X.env) Q E s:=
 Calls.Name_function_global I.ok.kind e (Calls.loadGlobal_global (by rw[I.ok.glob];exact I.mod.glob.keeps I.bk) d h) hd
def BG(I:me X a b H s)(g:Gl X x)(f:X.mg x=none)(d:bootBuiltins x=ε u)(h:Q u s)
 (e:autoParam (x ≠ "__name__" ) Ñ) (hd:autoParam ((x==("__debug__" :Str))=false) Ñ):wpAny (model X.prog X.w) X.A (eval (.Name x pos) X.env) Q E s:=by
 obtain⟨k,j,i⟩:=I.mod.blt;exact Calls.Name_function_global I.ok.kind g (Calls.loadGlobal_builtin (by rw[I.ok.glob];exact I.mod.glob.keeps I.bk) f (by rw[I.ok.blt];exact j.keeps I.bk) ((i x e).trans d) h) hd
def Kc (b:Gl X x) (a:X.mg x=ε u) (r:ml v u) (hd:autoParam ((x==("__debug__" :Str))=false) Ñ):PE X (.Name x pos) (tC v):=
 fun q q q H q I h=>qS I b a ⟨v,H,I,r,h⟩ hd
def Yh (e:Gl X x) (d:X.mg x=none) (a:bootBuiltins x=ε u) (r:ml v u) (b:autoParam (x ≠ "__name__" ) Ñ) (hd:autoParam ((x==("__debug__" :Str))=false) Ñ):PE X (.Name x pos) (tC v):=
 fun q q q H q I h=>BG I e d a ⟨v,H,I,r,h⟩ b hd
variable{a b:Pu}{n k:TE}{pos:Pos}
def PC(X:Cx)(op:CmpOp)(a b:Pu)(t:TE):Prop:=
 ∀(d:Oo (Pb×Obj))(s:Pa)(g:St)(H:Hp)(Q:VK),me X d g H s->t g H Q->
  wpAny (model X.prog X.w) X.A (eval a X.env) (fun v f=>wpAny (model X.prog X.w) X.A (eval b X.env) (fun u e=>wpAny (model X.prog X.w) X.A (compareOp op v u) (EP X d g Q) X.xe e) X.xe f) X.xe s
def ig(b)(h:op≠.In)(h2:op≠.NotIn):behindInMarks op b=false:=by
 have d:(op==CmpOp.In)=false:=by cases op<;>first | rfl | exact Es rfl h
 have e2:(op==CmpOp.NotIn)=false:=by cases op<;>first | rfl | exact Es rfl h2
 cases b<;>simp[behindInMarks,d,e2]
noncomputable def tB(t:TE):TT:=fun d H Q=>t d H fun x e=>∃c,x=.bl c/\Q c e
def Zm(h:PC X op a b t)(h1:behindInMarks op b=false:=by first | exact ig _ (by decide) (by decide) | rfl):PE X (.Compare a [op] [b] pos) t:=fun d s e H Q I hw=>wpAny_Compare1 (h d s e H Q I hw) h1
def m7(h:PE X e t)(he:autoParam (∀f,isTrue e X.env f=(do let v <- f;standAt e.pos;holding [v] (truthy v))) ð):PT X e (tB t):=by intro g s i H Q I hw;refine isTrue_plain (CB (h g s i H _ I hw) fun v r j=>?_) (he _);obtain⟨x,p,o,m,q1⟩:=j;obtain⟨d,rfl,q⟩:=q1;cases m;exact Ga ⟨p,o,q⟩
variable{f g:TT}{rest:Oo Pu}
noncomputable def W4(t u:TT):TT:=fun d H Q=>t d H fun c e=>if c=true then u d e Q else Q false e
noncomputable def tOr(t u:TT):TT:=fun d H Q=>t d H fun c e=>if c=true then Q true e else u d e Q
noncomputable def o5(t:TT):TT:=fun d H Q=>t d H fun c e=>Q (!c) e
def Ib(j:PT X a f):PW X (.BoolOp .And [a] pos) f:=by
 intro m d s i H Q I h;refine isTrue_and (CB (j d s i H Q I h) fun c o e=>?_);cases c with
 | true=>exact isTrue_and_nil e
 | false=>exact e
def v7(j:PT X a f):PW X (.BoolOp .Or [a] pos) f:=by
 intro m d s i H Q I h;refine isTrue_or (CB (j d s i H Q I h) fun c o e=>?_);cases c with
 | false=>exact isTrue_or_nil e
 | true=>exact e
def o7(r:PT X a f)(q:PW X (.BoolOp .And (b::rest) pos) g):PW X (.BoolOp .And (a::b::rest) pos) (W4 f g):=by
 intro o d s e H Q I h;refine isTrue_and (CB (r d s e H _ I h) fun c p m=>?_);obtain⟨j,i,q1⟩:=m;cases c with
 | true=>exact q o d p e j Q i q1
 | false=>exact⟨j,i,q1⟩
def o8(r:PT X a f)(q:PW X (.BoolOp .Or (b::rest) pos) g):PW X (.BoolOp .Or (a::b::rest) pos) (tOr f g):=by
 intro o d s e H Q I h;refine isTrue_or (CB (r d s e H _ I h) fun c p m=>?_);obtain⟨j,i,q1⟩:=m;cases c with
 | true=>exact⟨j,i,q1⟩
 | false=>exact q o d p e j Q i q1
def l7(i:PT X a f):PT X (.UnaryOp .Not a pos) (o5 f):=by intro d s e H Q I h;exact isTrue_not (i d s e H (fun c j=>Q (!c) j) I h)
noncomputable def D8(n k:TE):TE:=fun d H Q=>n d H fun x e=>∃c,x=.bl c/\if c=true then k d e Q else Q (.bl false) e
def Pn{op}(h:PE X a t):PE X (.BoolOp op [a] pos) t:=fun d s e H Q I hw=>BoolOp_one (h d s e H Q I hw)
def Ym(r:PE X a n)(q:PE X (.BoolOp .And (b::rest) pos) k):PE X (.BoolOp .And (a::b::rest) pos) (D8 n k):=by
 intro d s e H Q I h;refine BoolOp_and (CB (r d s e H _ I h) fun v o m=>?_);obtain⟨x,j,i,p,q1⟩:=m;obtain⟨c,rfl,q1⟩:=q1;cases p;refine Ga ?_;cases c with
 | true=>exact q d o e j Q i q1
 | false=>exact⟨.bl false,j,i,rfl,q1⟩
noncomputable def tIf(t:TT)(n k:TE):TE:=fun d H Q=>t d H fun c e=>if c=true then n d e Q else k d e Q
def Xk(q:PT X c f)(u:PE X a n)(r:PE X b k):PE X (.IfExp c a b pos) (tIf f n k):=by
 intro e s i H Q I h;refine wpAny_IfExp (CB (q e s i H _ I h) fun d j p=>?_);obtain⟨o,m,q1⟩:=p;cases d with
 | true=>exact u e j i o Q m q1
 | false=>exact r e j i o Q m q1
end
def mv(K:Ra)(H:Hp)(a:Pb)(xs:Oo V):Prop:=
 Rd H a (.lst xs)\/
  ∃(o:Obj) (b:Ss Ou) (n:Nat),K.lookup a=ε o/\o.cls=.type "list" /\ o.dict=none/\o.data=.seq b n/\b.size<=sizeLine/\mf xs b.toList
def YG(K:Ra)(H:Hp)(a:Pb)(xs:Oo V):Prop:=
 Rd H a (.tup xs)\/
  ∃(o:Obj) (b:Ss Ou) (n:Nat),K.lookup a=ε o/\o.cls=.type "tuple" /\ o.data=.seq b n/\b.size<=sizeLine/\mf xs b.toList
noncomputable def o3:Ou->O4 V
 | .none=>ε .non
 | .bool b=>ε (.bl b)
 | .int i _=>ε (.int i)
 | .str x _=>ε (.str x)
 | .bytes b _=>ε (.byt b)
 | .float b _=>ε (.flt b)
 | .ref a=>ε (.ref a)
 | .type n=>ε (.ty n)
 | _=>none
def ml.abs(r:ml x u):o3 u=ε x:=by
 cases x with
 | non=>cases r;rfl
 | bl _=>cases r;rfl
 | int _=>obtain⟨t,rfl⟩:=r;rfl
 | str _=>obtain⟨t,rfl⟩:=r;rfl
 | byt _=>obtain⟨t,rfl⟩:=r;rfl
 | flt _=>obtain⟨t,rfl⟩:=r;rfl
 | ref _=>cases r;rfl
 | ty _=>cases r;rfl
def ml.inj{x y:V}{u:Ou}(r:ml x u)(q:ml y u):x=y:=uo (r.abs.symm.trans q.abs)
theorem mf.inj:∀{xs ys:Oo V}{us:Oo Ou},mf xs us->mf ys us->xs=ys
 | _,_,_,.nil,.nil=>rfl
 | _,_,_,.cons r t,.cons r' t'=>by rw[r.inj r',mf.inj t t']
section
variable{X:Cx}{b:Oo (Pb×Obj)}{c:St}{H:Hp}{s:Pa}{a:Pb}{xs ys:Oo V}
def mv.of{K:Ra}(h:H a=ε (.lst xs)):mv K H a xs:=.inl (.inl h)
def me.list(I:me X b c H s)(h:mv X.K H a xs):∃d,mf xs d/\PlainL s.heap a d.toArray/\xs.length<=sizeLine:=by
 rcases h with h | ⟨o,d,n,f,g,hd,hs,i,r⟩
 . obtain⟨z,d,n,r,e⟩:=h.ok I.hok;exact⟨d,r,⟨_,n,e,rfl,rfl,rfl⟩,z⟩
 . refine⟨d.toList,r,⟨o,n,I.kIn a o f,g,hd,by simpa using hs⟩,?_⟩;have e:=r.length;simp![Aa]at e;omega
def me.tuple(I:me X b c H s)(h:YG X.K H a xs):∃d,mf xs d/\IsTup s.heap a d.toArray/\xs.length<=sizeLine:=by
 rcases h with h | ⟨o,d,n,f,g,hs,i,r⟩
 . obtain⟨z,d,r,p⟩:=h.ok I.hok;exact⟨d,r,p,z⟩
 . refine⟨d.toList,r,⟨o,I.kIn a o f,g,n,by simpa using hs⟩,?_⟩;have e:=r.length;simp![Aa]at e;omega
def me.gv(I:me X b c H s)(h:mv X.K H a xs)(h':mv X.K H a ys):xs=ys:=by
 obtain⟨f,r,⟨o,n,e,_,_,d⟩,_⟩:=I.list h;obtain⟨its',j,⟨m,p,g,_,_,i⟩,_⟩:=I.list h';rw[e]at g;cases g;rw[d]at i;injection i with k _
 have:f=its':=by simpa using congrArg Array.toList k
 subst this;exact r.inj j
def me.ka(I:me X b c H s)(h:YG X.K H a xs)(h':YG X.K H a ys):xs=ys:=by
 obtain⟨f,r,⟨o,e,_,n,d⟩,_⟩:=I.tuple h;obtain⟨its',j,⟨m,g,_,p,i⟩,_⟩:=I.tuple h';rw[e]at g;cases g;rw[d]at i;injection i with k _
 have:f=its':=by simpa using congrArg Array.toList k
 subst this;exact r.inj j
end
noncomputable abbrev Cx.wish(X:Cx)(E:Ou->Pa->Prop):Cx:={ X with xe:=E }
abbrev Cx.nox(X:Cx):Cx:=X.wish fun _ _=>False
def Cx.Ok.wish{X:Cx}(ok:X.Ok)(E):(X.wish E).Ok:=
 ⟨ok.mod,ok.kind,ok.glob,ok.blt,ok.above,ok.inj,ok.has,ok.cab,ok.hd,ok.frames,ok.stk,ok.exf,ok.bs,ok.bsz,ok.fh,ok.fq,ok.bq,ok.frf⟩
def Cx.Ok.cx{X:Cx}(ok:(X.wish E).Ok):X.Ok:=
 ⟨ok.mod,ok.kind,ok.glob,ok.blt,ok.above,ok.inj,ok.has,ok.cab,ok.hd,ok.frames,ok.stk,ok.exf,ok.bs,ok.bsz,ok.fh,ok.fq,ok.bq,ok.frf⟩
section
variable{X:Cx}{a:Oo (Pb×Obj)}{b:St}{H:Hp}{s:Pa}{E:Ou->Pa->Prop}
def me.wish(I:me X a b H s)(E):me (X.wish E) a b H s:=⟨I.ok.wish E,I.os,I.bare,I.base,I.loc,I.cell,I.free,I.cb,I.pin,I.hok,I.len⟩
def me.cx(I:me (X.wish E) a b H s):me X a b H s:=⟨I.ok.cx,I.os,I.bare,I.base,I.loc,I.cell,I.free,I.cb,I.pin,I.hok,I.len⟩
set_option tactic.hygienic true in
def SP.cx(h:SP (X.wish E) a D f s'):SP X a D f s':=by
 cases f with
 | next=>obtain⟨d,e,I,q⟩:=h;exact⟨d,e,I.cx,q⟩
 | brk=>obtain⟨d,e,I,q⟩:=h;exact⟨d,e,I.cx,q⟩
 | cont=>obtain⟨d,e,I,q⟩:=h;exact⟨d,e,I.cx,q⟩
 | ret u=>obtain⟨v,d,e,I,r,q⟩:=h;exact⟨v,d,e,I.cx,r,q⟩
def PSs.nox{st:Oo Ro}(h:PSs X.nox st t):PSs X st t:=fun a s b H D I hw=>Ii (h a s b H D (I.wish _) hw) (fun v v q=>q.cx) fun v v z=>Fo z
end
section
variable{X:Cx}{st:Ro}{rest:Oo Ro}{t u:TS}{e:Pu}{te:TE}{pos:Pos}
noncomputable def N8:TS:=fun D a H=>D.nx a H
noncomputable def B5(t u:TS):TS:=fun D a H=>t { D with nx:=u D } a H
def Bb:PSs X [] N8:=fun q q a H q I h=>wpAny_execs_nil ⟨a,H,I,h⟩
def bh(h1:PS X st t)(h2:PSs X rest u):PSs X (st::rest) (B5 t u):=by
 intro a s d H D I h;refine wpAny_execs_cons (CB (h1 a s d H { D with nx:=u D } I h) fun f g q=>?_);cases f with
 | next=>obtain⟨b,j,i,q⟩:=q;exact h2 a g b j D i q
 | ret v=>exact q
 | brk=>exact q
 | cont=>exact q
def Eb(h1:PS X st t):PSs X [st] t:=by
 intro a s b H D I h;refine wpAny_execs_cons (CB (h1 a s b H D I h) fun f d q=>?_);cases f with
 | next=>exact wpAny_execs_nil q
 | ret v=>exact q
 | brk=>exact q
 | cont=>exact q
def me.quiet(I:me X a b H s):interactive X.env=false:=by simp[interactive,I.ok.kind]
noncomputable def G8(te:TE):TS:=fun D a H=>te a H fun _ b=>D.nx a b
def Ab(he:PE X e te)(hs:autoParam (swapsWith e none pos.line X.env=pure false) Æ):PS X (.Expr e pos) (G8 te):=by intro a s b H D I h;exact wpAny_Expr_any (CB (he a s b H _ I h) fun v g ⟨x,f,d,i,q1⟩=>⟨b,f,d,q1⟩) I.quiet hs
noncomputable def A5(te:TE):TS:=fun D a H=>te a H D.rt
def i7(he:PE X e te):PS X (.Return (ε e) pos) (A5 te):=by intro a s b H D I h;exact wpAny_Return_some (CB (he a s b H _ I h) fun v i ⟨x,g,f,d,q1⟩=>⟨x,b,g,f,d,q1⟩)
noncomputable def j5(c:TT)(t u:TS):TS:=fun D a H=>c a H fun b d=>if b=true then t D a d else u D a d
def n8(n:PT X c tc)(p:PSs X a t)(o:PSs X b u):PS X (.If c a b pos) (j5 tc t u):=by
 intro f s g H D I h;refine wpAny_If (CB (n f s g H _ I h) fun d i m=>?_);obtain⟨k,j,q1⟩:=m;cases d with
 | true=>exact p f i g k D j q1
 | false=>exact o f i g k D j q1
end
abbrev TG:=V->St->Hp->(St->Hp->Prop)->Prop
abbrev pQ:=Oo V->St->Hp->(St->Hp->Prop)->Prop
def PG(X:Cx)(a:Pu)(t:TG):Prop:=
 ∀(b:Oo (Pb×Obj))(s:Pa)(e:St)(H:Hp)(v:V)(u:Ou)(Q:St->Hp->Prop),me X b e H s->ml v u->t v e H Q->
  wpAny (model X.prog X.w) X.A (assign a X.env u) (fun _ g=>∃d f,me X b d f g/\Q d f) X.xe s
def A1(X:Cx)(h:Oo Pu)(t:pQ):Prop:=
 ∀(a:Oo (Pb×Obj))(s:Pa)(d:St)(H:Hp)(e:Oo V)(f:Oo Ou)(Q:St->Hp->Prop),me X a d H s->mf e f->t e d H Q->
  wpAny (model X.prog X.w) X.A (assignInOrder ((assignEach h X.env).map (·.2)) f) (fun _ i=>∃b g,me X a b g i/\Q b g) X.xe s
abbrev qQ:=V->V->V->Hp->(Hp->Prop)->Prop
def XT(X:Cx)(t:qQ):Prop:=
 ∀(a:Oo (Pb×Obj))(s:Pa)(b:St)(H:Hp)(o i v:V)(d e u:Ou)(Q:Hp->Prop),me X a b H s->ml o d->ml i e->ml v u->t o i v H Q->
  wpAny (model X.prog X.w) X.A (setItem d e u) (fun _ g=>∃f,me X a b f g/\Q f) X.xe s
section
variable{X:Cx}{pos:Pos}
noncomputable def LP(i:Nat):TG:=fun v a H Q=>Q (a.set i (ε v)) H
def XJ(e:X.N.Nodup)(hi:X.N[i]?=ε x)(b:DK X.env.scope x)(d:autoParam (X.fn x=true\/X.env.scope.names.lookup x=ε .local) Ø):PG X (.Name x pos) (LP i):=by intro a s g H v u Q I r h;exact wpAny_assign_Name (rY I e hi b r (fun j f=>⟨_,H,f,h⟩) d)
noncomputable def F3:pQ:=fun b a H Q=>b=[]/\Q a H
noncomputable def e7(t:TG)(u:pQ):pQ:=fun d b H Q=>∃v r,d=v::r/\t v b H fun a e=>u r a e Q
def JY:A1 X [] F3:=by intro a s b H d f Q I r h;obtain⟨e,h⟩:=h;subst e;cases r;exact assignInOrder_nil ⟨b,H,I,h⟩
def SL(h1:PG X e t)(h2:A1 X b u)
 (hs:autoParam ((assignEach (e::b) X.env).map (·.2)=assign e X.env::(assignEach b X.env).map (·.2)) Æ):A1 X (e::b) (e7 t u):=by
 intro a s f H o q Q I r h;obtain⟨v,p,k,h⟩:=h;subst k;cases r with
 | cons r j=>rw[hs];refine assignInOrder_cons (CB (h1 a s f H _ _ _ I r h) fun z i g=>?_);obtain⟨d,n,m,q1⟩:=g;exact h2 a i d n _ _ Q m j q1
noncomputable def K3(K:Ra)(n:Nat)(t:pQ):TG:=fun v d H Q=>∃a b,v=.ref a/\YG K H a b/\b.length=n/\t b d H Q
def IZ(D:X.calm=true)(h:A1 X f t)
 (B:autoParam ((assignEach f X.env).length=n) Æ) (g:autoParam ((assignEach f X.env).findIdx? (·.1)=none) Æ):PG X (.Tuple f k pos) (K3 X.K n t):=by
 intro d s i H v u Q I r hw;obtain⟨a,m,F,y,C,hw⟩:=hw;subst F;cases r;obtain⟨p,j,x,L⟩:=I.tuple y;refine assign_Tuple_tuple (I.ok.hd D) x (by simp[B,<- C,j.length]) g fun E q=>?_
 have J:me X d i H { s with heap:=E }:=I.kept (t':=s.toks) fun b o e=>q b o (su (ji e)) e
 exact h d _ i H m _ Q J (by simpa using j) hw
noncomputable def J3(b d:TE)(t:qQ):TG:=fun v a H Q=>b a H fun o g=>d a g fun i f=>t o i v f fun e=>Q a e
def Vn(q:PE X o g)(hi:PE X i j)(hs:XT X t)
 (B:∀v,assign (.Subscript o i pos) X.env v=(do
  let b <- holding [v] (eval o X.env)
  let e <- holding [v,b] (eval i X.env)
  standAt pos
  holding [v,b,e] (setItem b e v)
  release [v,b,e] []):=by intro _;rfl):PG X (.Subscript o i pos) (J3 g j t):=by
 intro a s f H v u Q I r h;rw[B];refine ao (Fe (CB (q a s f H _ I h) fun b m d=>?_));obtain⟨x,L,E,p,q1⟩:=d;refine ao (Fe (CB (hi a m f L _ E q1) fun e k d=>?_));obtain⟨y,J,D,n,q2⟩:=d;refine ao (wpAny_standAt (ao (Fe (CB (hs a k f J x y v b e u _ D p n r q2) fun z M d=>?_))));obtain⟨F,C,q3⟩:=d;exact wpAny_release ⟨f,F,C,q3⟩
noncomputable def EQ(te:TE)(g:TG):TS:=fun D a H=>te a H fun x b=>g x a b D.nx
def Yn(he:PE X e te)(k:PG X b g)(hs:autoParam (swapsWithSole [b] e pos.line X.env=pure false) Æ)(hw:autoParam (swappedStores [b] e X.env=pure none) Æ)
 (h1:autoParam ((assignEach [b] X.env).map (·.2)=[assign b X.env]) Æ):PS X (.Assign [b] e pos) (EQ te g):=by
 intro a s d H D I h;refine wpAny_Assign_stores (CB (he a s d H _ I h) fun v i f=>?_) hs hw;obtain⟨x,n,m,j,q1⟩:=f;rw[h1];exact CB (k a i d n x v _ m j q1) fun z o q=>q
def j7(m:X.N.Nodup)(hi:X.N[i]?=ε x)(j:DK X.env.scope x)(he:PE X e te)(hs:autoParam (swapsWith e (ε (.Name x a)) pos.line X.env=pure false) Æ)(k:autoParam (X.fn x=true\/X.env.scope.names.lookup x=ε .local) Ø) :
 PS X (.Assign [.Name x a] e pos) (EQ te (LP i)):=by
 intro b s d H D I h;refine wpAny_Assign_Name (CB (he b s d H _ I h) fun v r f=>?_) hs;obtain⟨y,p,o,g,q1⟩:=f;exact rY o m hi j g (fun q n=>⟨_,p,n,q1⟩) k
def O7(c:TT)(tb:TS):TS:=fun D a H=>∃W:Nat->St->Hp->Prop,(∃m,W m a H)/\∀m a H,W m a H->
 c a H fun b f=>if b=true then ∃N:St->Hp->Prop,(∀d g,N d g->∃e,e<m/\W e d g)/\tb { D with nx:=N,ct:=N,bk:=D.nx } a f else D.nx a f
def zy{tb:TS}(hp:PassesOwn (model X.prog X.w) X.A X.env X.xe)(O:PT X c tc)(P:PSs X body tb):PS X (.While c body [] pos) (O7 tc tb):=by
 intro d s B H D I h;obtain⟨W,⟨M,w0⟩,turn⟩:=h;refine wpAny_While (codeAny_whileLoop (fun n L=>∃g y,me X d g y L/\W n g y) ?_ M ⟨B,H,I,w0⟩);rintro n J ⟨e,x,Q,E⟩;refine wpAny_passesOwn hp (CB (O d J e x _ Q (turn n e x E)) fun b F C=>?_);obtain⟨u,r,q2⟩:=C;cases b with
 | true=>
  obtain⟨N,q,q2⟩:=q2;rw[eG rfl];refine wpAny_passesOwn hp (CB (P d F e u _ r q2) fun f R q3=>?_);cases f with
  | next=>obtain⟨a,i,p,k⟩:=q3;obtain⟨m,o,j⟩:=q a i k;exact⟨m,o,a,i,p,j⟩
  | cont=>obtain⟨a,i,p,k⟩:=q3;obtain⟨m,o,j⟩:=q a i k;exact⟨m,o,a,i,p,j⟩
  | brk=>exact q3
  | ret v=>exact q3
 | false=>rw[eH Xe];exact wpAny_execs_nil ⟨e,u,r,q2⟩
end
structure It where
 go:Nat->Hp->Prop
 yld:Nat->Hp->V->Hp->Prop
 stop:Nat->Hp->Prop
def gF(X:Cx)(a:Oo (Pb×Obj))(H:Hp)(b:Pb):Prop:=
 H b=none/\b≠X.env.locals/\b∉X.fs/\(b∈X.ex\/X.s₀.heap.objs.size<=b)/\(∀x c,X.env.cells.lookup x=ε c->c≠b)/\∀p∈X.pn++a,p.1≠b
def me.cy(I:me X a g H s)(d:s.heap.objs.size<=b)(h:f b=none):gF X a f b:=by
 refine⟨h,Eo (kj I.lt d),I.j3 d,.inr (uq I.sz d),fun x c e z=>?_,fun p hp z=>?_⟩
 . obtain⟨v,q⟩:=I.cell x c e;exact Es (kj q.lt (by rw[z];exact d)) (Fi _)
 . exact Es (kj (ji (I.pin p hp).1) (by rw[z];exact d)) (Fi _)
structure aH(P:Program)(w:World)(K:Frag)(tg:Expr)(J:It)(fp:List Addr)(it:Addr)(tn:Nat->Heap->Prop):Prop where
 mem:it∈fp
 obj:∀i h,tn i h->∀b∈fp,∃o,h.get? b=ε o/\∀v,o.data≠.cell v
 keep:∀i h h',tn i h->(∀b∈fp,∀o,h.get? b=ε o->h'.get? b=ε o)->tn i h'
 item:∀(X:Cx),X.prog=P->X.w=w->X.K=K->X.calm=true->∀(i:Nat)(pins:List (Addr×Obj))(s:Shared)(σ:St)(H:Hp)(E:Value->Shared->Prop),me X pins σ H s->(∀b∈fp,gF X pins H b)->tn i s.heap->J.go i H->
  wpAny (model P w) X.A (pyNext (.ref it)) (fun r s1=>∃u,r=ε u/\
   wpAny (model P w) X.A (letOwnedTupleGo tg (.ref it) u) (fun _ s2=>∃x H',me X pins σ H' s2/\ml x u/\J.yld i H x H'/\tn (i+1) s2.heap/\∀b∈fp,H' b=none) E s1) E s
 done:∀(X:Cx),X.prog=P->X.w=w->X.K=K->X.calm=true->∀(i:Nat)(pins:List (Addr×Obj))(s:Shared)(σ:St)(H:Hp)(E:Value->Shared->Prop),me X pins σ H s->(∀b∈fp,gF X pins H b)->tn i s.heap->J.stop i H->
  wpAny (model P w) X.A (pyNext (.ref it)) (fun r s1=>r=none/\me X pins σ H s1) E s
 self:∀(A:Around)(i:Nat)(s:Shared)(Q:Value->Shared->Prop)(E:Value->Shared->Prop),tn i s.heap->Q (.ref it) s->wpAny (model P w) A (pyIter (.ref it)) Q E s
abbrev TI:=St->Hp->(It->Hp->Prop)->Prop
def Y2(X:Cx)(a:Oo (Pb×Obj))(i:St)(j:Pu)(R:It->Hp->Prop)(d:Ou)(f:Pa):Prop:=
 ∃(g:Pb)(h:Oo Pb)(tn:Nat->Te->Prop)(J:It)(e:Hp),d=.ref g/\me X a i e f/\aH X.prog X.w X.K j J h g tn/\tn 0 f.heap/\(∀b∈h,gF X a e b)/\R J e
def PI(X:Cx)(f b:Pu)(e:TI):Prop:=
 ∀(a:Oo (Pb×Obj))(s:Pa)(d:St)(H:Hp)(R:It->Hp->Prop),me X a d H s->e d H R->
  wpAny (model X.prog X.w) X.A (eval b X.env) (fun v g=>wpAny (model X.prog X.w) X.A (pyIter v) (Y2 X a d f R) X.xe g) X.xe s
def MP(e:s.heap.get? d=ε o)(g:o.cls=.type n)(hd:o.data=.fields vs)
 (f:["enumerate", "zip", "dict_itemiterator", "dict_reverseitemiterator", "odict_iterator", "itertools.zip_longest", "itertools.pairwise"].contains n=false) (a:Q () s):wpAny M A (letOwnedTupleGo b (.ref d) u) Q E s:=by
 unfold letOwnedTupleGo;cases b<;>first
  | exact au a
  | (cases u<;>first
   | exact au a
   | (refine ao (wpAny_load e ?_);rw[g,hd];show wpAny M A (if(["enumerate", "zip", "dict_itemiterator", "dict_reverseitemiterator", "odict_iterator", "itertools.zip_longest", "itertools.pairwise"].contains n&&vs[0]?==ε (rawInt _))=true then _ else _) Q E s;rw[eH (by intro h;rw[f,Hs]at h;cases h)];exact au a))
noncomputable def Lp(K:Ra)(a:Pb):It:=
 ⟨fun i H=>∃b x,mv K H a b/\b[i]?=ε x,fun i H x d=>d=H/\∀b,mv K H a b->b[i]?=ε x,fun i H=>∃b,mv K H a b/\b.length<=i⟩
noncomputable def Np(K:Ra)(a:Pb):It:=
 ⟨fun i H=>∃b x,YG K H a b/\b[i]?=ε x,fun i H x d=>d=H/\∀b,YG K H a b->b[i]?=ε x,fun i H=>∃b,YG K H a b/\b.length<=i⟩
noncomputable def Y0(lo:Int)(n:Nat):It:=⟨fun i _=>i<n,fun i H x a=>a=H/\x=.int (lo+i),fun i _=>n<=i⟩
def Sw{P:Ri}{w:Rr}{K:Ra}{U:Pu}(a it:Pb):aH P w K U (Lp K a) [it] it (fun i h=>h.IsListIter it a i) where
 mem:=by simp
 obj:=fun i h st b g=>by
  have e:b=it:=by simpa using g
  subst e;obtain⟨o,e,c,d⟩:=st;exact⟨o,e,fun v z=>by rw[d]at z;cases z⟩
 keep:=fun i h q st k=>st.at fun o e=>k it ⋯ o e
 item:=by
  intro X D hw F S i f s R H E I n st C;subst D hw F;obtain⟨T,x,m,B⟩:=C;obtain⟨y,r,p,Y⟩:=I.list m;obtain⟨u,hu,W⟩:=r.get B;obtain⟨Q,O,f2,M,L,J⟩:=n it ⋯;refine wpAny_pyNext_list_item st p.isList (x:=u) (by simpa using hu) fun q j sb=>?_
  have I1:me X f R H { s with heap:=q }:=I.turned (t':=s.toks) (fun b o g e=>(sb.2 b g).trans e) Q O M L J;obtain⟨o,e,c,d⟩:=id j;exact⟨u,rfl,MP (s:={ s with heap:=q }) e c d (by decide) ⟨x,H,I1,W,⟨rfl,fun ys Z=>by rw[I.gv Z m];exact B⟩,j,fun b g=>(n b g).1⟩⟩
 done:=by intro X D hw F S i f s R H E I n st C;subst D hw F;obtain⟨T,m,B⟩:=C;obtain⟨y,r,p,Y⟩:=I.list m;obtain⟨Q,O,f2,M,L,J⟩:=n it ⋯;have hl:=r.length;exact wpAny_pyNext_list_end (I.ok.hd S) st p.isList (by simp;omega) fun q eb=>⟨rfl,I.turned (t':=s.toks) (fun b o g e=>eb b o g e) Q O M L J⟩
 self:=fun t t t t t st h=>wpAny_pyIter_listiter st h
def Rx{P:Ri}{w:Rr}{K:Ra}{U:Pu}(a it:Pb):aH P w K U (Np K a) [it] it (fun i h=>h.IsTupleIter it a i) where
 mem:=by simp
 obj:=fun i h st b j=>by
  have e:b=it:=by simpa using j
  subst e;obtain⟨o,e,c,d⟩:=st;exact⟨o,e,fun v z=>by rw[d]at z;cases z⟩
 keep:=fun i h r st k=>st.at fun o e=>k it ⋯ o e
 item:=by
  intro X D hw F S i f s R H E I q st C;subst D hw F;obtain⟨T,x,n,B⟩:=C;obtain⟨g,y,p,Y⟩:=I.tuple n;obtain⟨u,hu,W⟩:=y.get B;obtain⟨Q,O,f2,M,L,J⟩:=q it ⋯;refine wpAny_pyNext_tuple_item st (show s.heap.IsTuple a g.toArray from p) (x:=u) (by simpa using hu) fun r m sb=>?_
  have I1:me X f R H { s with heap:=r }:=I.turned (t':=s.toks) (fun b o j e=>(sb.2 b j).trans e) Q O M L J;obtain⟨o,e,c,d⟩:=id m;exact⟨u,rfl,MP (s:={ s with heap:=r }) e c d (by decide) ⟨x,H,I1,W,⟨rfl,fun ys Z=>by rw[I.ka Z n];exact B⟩,m,fun b j=>(q b j).1⟩⟩
 done:=by intro X D hw F S i f s R H E I q st C;subst D hw F;obtain⟨T,n,B⟩:=C;obtain⟨g,y,p,Y⟩:=I.tuple n;obtain⟨Q,O,f2,M,L,J⟩:=q it ⋯;have hl:=y.length;exact wpAny_pyNext_tuple_end (I.ok.hd S) st (show s.heap.IsTuple a g.toArray from p) (by simp;omega) fun r eb=>⟨rfl,I.turned (t':=s.toks) (fun b o j e=>eb b o j e) Q O M L J⟩
 self:=fun t t t t t st h=>wpAny_pyIter_tupleiter st h
def Px{P:Ri}{w:Rr}{K:Ra}{L:Pu}(it:Pb)(lo:Int)(n:Nat):aH P w K L (Y0 lo n) [it] it (fun i h=>IsRangeIter h it (lo+(i:Nat)*1) ((n:Int)-(i:Nat)) 1) where
 mem:=by simp
 obj:=fun i h st b d=>by
  have e:b=it:=by simpa using d
  subst e;exact⟨_,st,fun v z=>by
   have J:Data.fields _=Data.cell v:=z;cases J⟩
 keep:=fun i h j st k=>k it ⋯ _ st
 item:=by
  intro X q hw r p i a s D H E I g st m;subst q hw r;obtain⟨C,B,Q,y,x,u⟩:=g it ⋯;have W:=Walks.range (prog:=X.prog) (w:=X.w) (I.ok.hd p) it lo 1 n;refine W.item i s _ _ m st fun v j F O f M=>?_
  obtain⟨t,rfl⟩:=O;have S:me X a D H { s with heap:=j,toks:=F }:=I.turned (fun b o d e=>M b o (by simpa using d) e) C B y x u;refine⟨_,rfl,MP (s:={ s with heap:=j,toks:=F }) (n := "range_iterator") f rfl rfl (by decide) ⟨.int (lo+i),H,S,⟨t,?_⟩,⟨rfl,rfl⟩,f,fun b d=>(g b d).1⟩⟩;rw[Int.mul_one]
 done:=by intro X q hw r p i a s D H E I g st m;subst q hw r;obtain⟨C,B,Q,y,x,u⟩:=g it ⋯;exact wpAny_pyNext_range_end (I.ok.hd p) st (by have:n<=i:=m;omega) fun j R=>⟨rfl,I.turned (t':=s.toks) (fun b o d e=>R b o d e) C B y x u⟩
 self:=fun _ _ _ _ _ st h=>wpAny_pyIter_rangeiter st h
section
variable{X:Cx}{c:Pu}
def N5(K:Ra)(f:TE):TI:=fun d H R=>f d H fun x b=>∃a,x=.ref a/\(∃e,mv K b a e)/\R (Lp K a) b
def N3(K:Ra)(f:TE):TI:=fun d H R=>f d H fun x b=>∃a,x=.ref a/\(∃e,YG K b a e)/\R (Np K a) b
def Xc(u:PE X l i):PI X c l (N5 X.K i):=by
 intro d s j H R I h;refine CB (u d s j H _ I h) fun v f k=>?_
 obtain⟨x,B,g,m,q1⟩:=k;obtain⟨a,e,⟨C,r⟩,q⟩:=q1;subst e;cases m;obtain⟨n,D,p,E⟩:=g.list r;refine wpAny_pyIter_list p.isList ?_;refine⟨f.heap.objs.size,[f.heap.objs.size],_,_,B,rfl,g.kept (t':=f.toks) fun b o e=>cg _ e,Sw a _,⟨_,ju _ rfl,rfl,rfl⟩,fun b y=>?_,q⟩;have e:b=f.heap.objs.size:=by simpa using y
 subst e;exact g.cy (Va _) (g.hok.fresh (Va _))
def Wn(u:PE X l j):PI X c l (N3 X.K j):=by
 intro f s k H R I h;refine CB (u f s k H _ I h) fun v d m=>?_
 obtain⟨x,B,g,n,q1⟩:=m;obtain⟨a,e,⟨C,r⟩,q⟩:=q1;subst e;cases n;obtain⟨i,D,p,E⟩:=g.tuple r;refine wpAny_pyIter_tuple (show d.heap.IsTuple a i.toArray from p) ?_;refine⟨d.heap.objs.size,[d.heap.objs.size],_,_,B,rfl,g.kept (t':=d.toks) fun b o e=>cg _ e,Rx a _,⟨_,ju _ rfl,rfl,rfl⟩,fun b y=>?_,q⟩;have e:b=d.heap.objs.size:=by simpa using y
 subst e;exact g.cy (Va _) (g.hok.fresh (Va _))
def nX{lo hi:Int}(I:me X a d H s)(h1:-(2^62)<=lo)(h2:lo<2^62)(j:-(2^62)<=hi)(i:hi<2^62)
 (q:R (Y0 lo (hi-lo).toNat) H):wpAny (model X.prog X.w) X.A (pyIter (.ref s.heap.objs.size)) (Y2 X a d c R) E { s with heap:=s.heap.push { cls:=.type "range",data:=.fields #[.int lo t,.int hi u,.int 1 v] },toks:=f }:=by
 refine wpAny_pyIter_range (IsRange.new ..) (small_one h1 h2 j i) ?_;have g:me X a d H { s with heap:=s.heap.push { cls:=.type "range",data:=.fields #[.int lo t,.int hi u,.int 1 v] },toks:=f }:=I.kept fun b o e=>cg _ e
 refine⟨(s.heap.push { cls:=.type "range",data:=.fields #[.int lo t,.int hi u,.int 1 v] }).objs.size,[(s.heap.push { cls:=.type "range",data:=.fields #[.int lo t,.int hi u,.int 1 v] }).objs.size],_,_,H,rfl,
  g.kept (t':=f) fun b o e=>cg _ e,Px _ lo (hi-lo).toNat,?_,fun b h=>?_,q⟩
 . have k:lo+((0:Nat):Int)*1=lo:=by simp
   have e2:(((hi-lo).toNat:Nat):Int)-((0:Nat):Int)=Builtin.Range.rangeSize lo hi 1:=by rw[rangeSize_one];split<;>omega
   show IsRangeIter _ _ (lo+((0:Nat):Int)*1) ((((hi-lo).toNat:Nat):Int)-((0:Nat):Int)) 1;rw[k,e2];exact ju _ rfl
 . have e:b=(s.heap.push { cls:=.type "range",data:=.fields #[.int lo t,.int hi u,.int 1 v] }).objs.size:=by simpa using h
   subst e;exact g.cy (Va _) (g.hok.fresh (Va _))
def P5(d:TA):TI:=fun a H R=>d a H fun b e=>∃j:Int,b=[.int j]/\-(2^62)<=j/\j<2^62/\R (Y0 0 j.toNat) e
def T5(d:TA):TI:=fun a H R=>d a H fun b e=>∃i j:Int,b=[.int i,.int j]/\(-(2^62)<=i/\i<2^62/\-(2^62)<=j/\j<2^62)/\R (Y0 i (j-i).toNat) e
def Zw (n:Gl X "range") (m:X.mg "range" =none) (o:PA X [a] d) (hs:autoParam (starEach [a] X.env=[(false,eval a X.env)]) Æ):PI X c (.Call (.Name "range" p) [a] [] pos) (P5 d):=by
 intro b s f H R I h;refine Call_ (BG I n m boot_range (PyProof.Rows.callWith_type1 (CB (o pos b s f H _ I h) fun y B g=>?_) hs rfl));obtain⟨x,C,u,k,q1⟩:=g;obtain⟨j,e,q1,q2,q⟩:=q1;subst e;cases k with
 | cons r i=>cases i;obtain⟨t,rfl⟩:=r;exact call_range_1 (nX u nofun nofun q1 q2 (by simpa using q))
def ak (y:Gl X "range") (x:X.mg "range" =none) (B:PA X [a,b] k) (hs:autoParam (starEach [a,b] X.env=[(false,eval a X.env),(false,eval b X.env)]) Æ) (f:autoParam (starEach [b] X.env=[(false,eval b X.env)]) Æ) :
 PI X c (.Call (.Name "range" p) [a,b] [] pos) (T5 k):=by
 intro d s m H R I h;refine Call_ (BG I y x boot_range (PyProof.Rows.callWith_type1 (CB (B pos d s m H _ I h) fun E J n=>?_) (by rw[hs,f]) (by rw[f];rfl)));obtain⟨D,L,C,o,q1⟩:=n;obtain⟨i,j,e,⟨q1,q2,q3,q4⟩,q⟩:=q1;subst e;cases o with
 | cons r g=>
  cases g with
  | cons u g=>cases g;obtain⟨t,rfl⟩:=r;obtain⟨F,rfl⟩:=u;exact call_range_2 (nX C q1 q2 q3 q4 q)
def Z4(h:TI)(g:TG)(tb:TS):TS:=fun D a H=>h a H fun J k=>∃W:Nat->Nat->St->Hp->Prop,(∃m,W 0 m a k)/\∀i m a H,W i m a H->
 (J.stop i H/\D.nx a H)\/(J.go i H/\∃N:St->Hp->Prop,(∀b d,N b d->∃f,f<m/\W (i+1) f b d)/\∀x d,J.yld i H x d->g x a d fun e j=>tb { D with nx:=N,ct:=N,bk:=D.nx } e j)
noncomputable def xM(fp:Oo Pb)(h:Te):Oo (Pb×Obj):=fp.filterMap fun b=>(h.get? b).map fun o=>(b,o)
def pO(a:b∈fp)(e:h.get? b=ε o):(b,o)∈xM fp h:=mem_filterMap.mpr ⟨b,a,by rw[e];rfl⟩
def Rz(hp:p∈xM fp h):p.1∈fp/\h.get? p.1=ε p.2:=by
 obtain⟨b,a,e⟩:=mem_filterMap.mp hp;cases q:h.get? b with
 | none=>rw[q]at e;cases e
 | some o=>rw[q]at e;have d:(b,o)=p:=uo e;subst d;exact⟨a,q⟩
def me.pinned(I:me X a f H s)(j:∀b∈fp,gF X a H b)(i:∀b∈fp,∃o,s.heap.get? b=ε o/\∀v,o.data≠.cell v):me X (a++xM fp s.heap) f H s:=
 I.im fun p hp=>(Ca.mp hp).elim (fun z=>I.pin p (yu _ z)) fun z=>by obtain⟨g,e⟩:=Rz z;obtain⟨n,m,k,_⟩:=j p.1 g;obtain⟨o,h,d⟩:=i p.1 g;rw[e]at h;cases h;exact⟨e,n,m,k,d⟩
def me.gx(I:me X (a++pl) b H s):me X a b H s:=I.im fun p hp=>I.pin p (yu _ (za _ hp))
def f7{tb:TS}(hp:PassesOwn (model X.prog X.w) X.A X.env X.xe)(hc:X.calm=true)(hi:PI X c y wi)(hg:PG X c g)(B:PSs X body tb)
 (hs:autoParam (∀x,foldedSetIterable y X.env x=pure x) ð):PS X (.For c y body [] pos) (Z4 wi g tb):=by
 intro j s σ H D I h;refine wpAny_For (CB (hi j s σ H _ I h) fun v s1 h1=>CB h1 fun a2 s2 h2=>?_) hs;obtain⟨it,R,tn,J,H2,e,I2,T,Y,f2,W,⟨m0,w0⟩,turn⟩:=h2;subst e;have q:∀{H':Hp},(∀b∈R,H' b=none)->∀b∈R,gF X j H' b:=fun hn b B=>⟨hn b B,(f2 b B).2⟩
 refine codeAny_forLoop_any (fun n s'=>∃i p H',me X j p H' s'/\tn i s'.heap/\(∀b∈R,H' b=none)/\W i n p H') ?_ m0 ⟨0,σ,H2,I2,Y,fun b B=>(f2 b B).1,w0⟩;rintro n s3 ⟨i,k,S,I3,O,Q,w3⟩;rcases turn i n k S w3 with⟨stop,qn⟩ | ⟨go,N,hN,step⟩
 . refine wpAny_passesOwn hp (CB (T.done X rfl rfl rfl hc i j s3 k S X.xe I3 (q Q) O stop) fun r s4 L=>?_);obtain⟨hr,I4⟩:=L;subst hr;exact wpAny_execs_nil ⟨k,S,I4,qn⟩
 . refine wpAny_passesOwn hp (CB (T.item X rfl rfl rfl hc i j s3 k S X.xe I3 (q Q) O go) fun r s4 L=>?_);obtain⟨u,hr,h4⟩:=L;subst hr;refine wpAny_passesOwn hp (CB h4 fun _ s5 L=>?_);obtain⟨x,H5,I5,r5,y5,M,a0⟩:=L;have a1:=I5.pinned (q a0) (T.obj _ _ M);refine wpAny_passesOwn hp (CB (hg _ s5 k H5 x u _ a1 r5 (step x H5 y5)) fun _ s6 L=>?_);obtain⟨U,H6,I6,q6⟩:=L;refine wpAny_passesOwn hp (CB (B _ s6 U H6 _ I6 q6) fun f Z q7=>?_);have C:∀{a:St}{F:Hp},me X (j++xM R s5.heap) a F Z->N a F->∃m,m<n/\∃i p H',me X j p H' Z/\tn i Z.heap/\(∀b∈R,H' b=none)/\W i m p H':=fun {a F} E P=>by obtain⟨m',hm,w7⟩:=hN a F P;refine⟨m',hm,i+1,a,F,E.gx,T.keep _ _ _ M fun b B o e=>(E.pin (b,o) (yu _ (yu _ (pO B e)))).1,fun b B=>?_,w7⟩;obtain⟨o,e,d⟩:=T.obj _ _ M b B;exact(E.pin (b,o) (yu _ (yu _ (pO B e)))).2.1
   cases f with
   | next=>obtain⟨a,F,E,P⟩:=q7;exact C E P
   | cont=>obtain⟨a,F,E,P⟩:=q7;exact C E P
   | brk=>obtain⟨a,F,E,q7⟩:=q7;exact⟨a,F,E.gx,q7⟩
   | ret v=>obtain⟨x7,a,F,E,r7,q7⟩:=q7;exact⟨x7,a,F,E.gx,r7,q7⟩
end
abbrev R2:=V->V->Hp->VK->Prop
def mx(X:Cx)(f:Ou->Ou->Sem Ou)(r:R2):Prop:=
 ∀(a:Oo (Pb×Obj))(s:Pa)(b:St)(H:Hp)(x y:V)(v u:Ou)(Q:VK),me X a b H s->ml x v->ml y u->r x y H Q->
  wpAny (model X.prog X.w) X.A (f v u) (EP X a b Q) X.xe s
def C1(X:Cx)(f:Ou->Sem Ou)(r:V->Hp->VK->Prop):Prop:=
 ∀(a:Oo (Pb×Obj))(s:Pa)(b:St)(H:Hp)(x:V)(v:Ou)(Q:VK),me X a b H s->ml x v->r x H Q->
  wpAny (model X.prog X.w) X.A (f v) (EP X a b Q) X.xe s
def ah(X:Cx)(f:Ou)(r:Oo V->Hp->VK->Prop):Prop:=
 ∀(a:Oo (Pb×Obj))(s:Pa)(b:St)(H:Hp)(d:Oo V)(e:Oo Ou)(Q:VK),me X a b H s->mf d e->r d H Q->
  wpAny (model X.prog X.w) X.A (call f e) (EP X a b Q) X.xe s
noncomputable def mU(r:R2)(b tb:TE):TE:=fun a H Q=>b a H fun x e=>tb a e fun y d=>r x y d Q
noncomputable def tUn(r:V->Hp->VK->Prop)(b:TE):TE:=fun a H Q=>b a H fun x d=>r x d Q
noncomputable def rI(C:Int->Int->Prop)(g:Int->Int->V):R2:=fun x y H Q=>∃i j,x=.int i/\y=.int j/\C i j/\Q (g i j) H
noncomputable def SK(g:Int->Int->V):R2:=fun x y H Q=>∃i j,x=.int i/\y=.int j/\Q (g i j) H
noncomputable def rU(g:Int->V):V->Hp->VK->Prop:=fun x H Q=>∃i,x=.int i/\Q (g i) H
section
variable{X:Cx}{a b c:Pu}{d e tc:TE}{pos:Pos}
def rQ(E:PE X a d)(D:PE X b e){R:V->V->Hp->Prop}(I:me X g i H s)
 (h:d i H fun x p=>e i p fun y j=>R x y j) {f:Ou->Ou->Sem Ou}
 (C:∀v u n x y j,me X g i j n->ml x v->ml y u->R x y j->wpAny (model X.prog X.w) X.A (f v u) Q X.xe n) :
 wpAny (model X.prog X.w) X.A (eval a X.env) (fun v m=>wpAny (model X.prog X.w) X.A (eval b X.env) (fun u k=>wpAny (model X.prog X.w) X.A (f v u) Q X.xe k) X.xe m) X.xe s:=by
 refine CB (E g s i H _ I h) fun v q o=>?_
 obtain⟨x,p,J,B,q1⟩:=o;refine CB (D g q i p _ J q1) fun u n o=>?_
 obtain⟨y,j,F,r,q2⟩:=o;exact C v u n x y j F B r q2
def yT(m:mx X (binaryOp op) r)(o:PE X a d)(n:PE X b e):PE X (.BinOp a op b pos) (mU r d e):=by intro f s g H Q I h;exact wpAny_BinOp (rQ o n I h fun v u i x y B p k j q=>m f i g B x y v u Q p k j q)
def X0(k:C1 X (unaryOp op) r)(m:PE X a d):PE X (.UnaryOp op a pos) (tUn r d):=by intro f s g H Q I h;exact UnaryOp_ (CB (m f s g H _ I h) fun v i ⟨x,o,n,j,q1⟩=>k f i g o x v Q n j q1)
def QT{g:Int->Int->Int}
 (k:∀(i j:Int)(t u:Tok)(s:Pa)(Q:Ou->Pa->Prop)(E:Ou->Pa->Prop),C i j->Q (.int (g i j) s.toks) { s with toks:=s.toks+1 }->wpAny (model X.prog X.w) X.A (f (.int i t) (.int j u)) Q E s) :
 mx X f (rI C fun i j=>.int (g i j)):=by
 intro m s B H x y v u Q I p o h;obtain⟨i,j,rfl,rfl,r,q⟩:=h;obtain⟨t,rfl⟩:=p;obtain⟨n,rfl⟩:=o;exact k i j t n s _ _ r ⟨.int (g i j),H,I.tok _,⟨_,rfl⟩,q⟩
def rN{g:Int->Int->Int}
 (k:∀(i j:Int)(t u:Tok)(s:Pa)(Q:Ou->Pa->Prop)(E:Ou->Pa->Prop),Q (.int (g i j) s.toks) { s with toks:=s.toks+1 }->wpAny (model X.prog X.w) X.A (f (.int i t) (.int j u)) Q E s) :
 mx X f (SK fun i j=>.int (g i j)):=by
 intro m s r H x y v u Q I p o h;obtain⟨i,j,rfl,rfl,q⟩:=h;obtain⟨t,rfl⟩:=p;obtain⟨n,rfl⟩:=o;exact k i j t n s _ _ ⟨.int (g i j),H,I.tok _,⟨_,rfl⟩,q⟩
def qN{g:Int->Int->Bool}
 (k:∀i j t u s Q E,Q (.bool (g i j)) s->wpAny (model X.prog X.w) X.A (f (.int i t) (.int j u)) Q E s) :
 mx X f (SK fun i j=>.bl (g i j)):=by
 intro m s r H x y v u Q I p o h;obtain⟨i,j,rfl,rfl,q⟩:=h;obtain⟨t,rfl⟩:=p;obtain⟨n,rfl⟩:=o;exact k i j t n s _ _ ⟨.bl (g i j),H,I,rfl,q⟩
def IK(i j:Int):Prop:=0<j/\j<1073741824
def XG(i j:Int):Prop:=0<=j/\j<=1000000/\i.natAbs<2^64
def dq(i j:Int):Prop:=(-(2^64)<i/\i<2^64)\/(-(2^64)<j/\j<2^64)
def dq.ok(h:dq i j):IntMulOk i j:=by
 rcases h with⟨g,f⟩ | ⟨g,f⟩
 . exact .of_left (intBits_le_64 g f)
 . exact .of_right (intBits_le_64 g f)
def Sx(k):(0:Int)<=2^k:=by rw[two_pow_cast];exact Int.natCast_nonneg _
def Em:mx X (binaryOp .Add) (SK fun i j=>.int (i+j)):=rN fun z z z z z z z q=>add_int q
def Um:mx X (binaryOp .Sub) (SK fun i j=>.int (i-j)):=rN fun z z z z z z z q=>sub_int q
def Km:mx X (binaryOp .Mult) (rI dq fun i j=>.int (i*j)):=QT fun z z z z z z z f q=>mul_int q f.ok
def Xh:mx X (binaryOp .FloorDiv) (rI IK fun i j=>.int (i/j)):=QT fun i j z z z z z f q=>by have h:(0:Int)<j:=f.1;have g:j<1073741824:=f.2;exact floordiv_int nofun (by rw[Int.fdiv_eq_ediv_of_nonneg i nofun];exact q) (.inl (PyProof.noPylong_small nofun))
def Jm:mx X (binaryOp .Mod) (rI (fun z j=>0<j) fun i j=>.int (i%j)):=QT fun i j z z z z z f q=>by have g:(0:Int)<j:=f;exact mod_int' nofun (by rw[Int.fmod_eq_emod_of_nonneg i nofun];exact q)
def Nm:mx X (binaryOp .Pow) (rI XG fun i j=>.int (i^j.toNat)):=QT fun z z z z z z z f q=>pow_int_small f.1 f.2.1 f.2.2 q
def Om:mx X (binaryOp .LShift) (rI XG fun i j=>.int (i*2^j.toNat)):=QT fun z z z z z z z f q=>lshift_int_small f.1 f.2.1 f.2.2 q
def Rm:mx X (binaryOp .RShift) (rI (fun z j=>0<=j) fun i j=>.int (i/2^j.toNat)):=QT fun i j z z z z z f q=>rshift_int f (by rw[Int.fdiv_eq_ediv_of_nonneg i (Sx _)];exact q)
def Gm:mx X (binaryOp .BitAnd) (SK fun i j=>.int (Builtin.bitAnd i j)):=rN fun z z z z z z z q=>and_int q
def b8:mx X (binaryOp .BitOr) (SK fun i j=>.int (Builtin.bitOr i j)):=rN fun z z z z z z z q=>or_int q
def unI{g:Int->Int}
 (j:∀(i:Int)(t:Tok)(s:Pa)(Q:Ou->Pa->Prop)(E:Ou->Pa->Prop),Q (.int (g i) s.toks) { s with toks:=s.toks+1 }->wpAny (model X.prog X.w) X.A (f (.int i t)) Q E s) :
 C1 X f (rU fun i=>.int (g i)):=by
 intro k s n H x v Q I m h;obtain⟨i,rfl,q⟩:=h;obtain⟨t,rfl⟩:=m;exact j i t s _ _ ⟨.int (g i),H,I.tok _,⟨_,rfl⟩,q⟩
def F6:C1 X (unaryOp .USub) (rU fun i=>.int (-i)):=unI fun z z z z z q=>neg_int q
def D6:C1 X (unaryOp .Invert) (rU fun i=>.int (Builtin.bitNot i)):=unI fun z z z z z q=>invert_int q
end
noncomputable def uN:V->V->Bool
 | .non,.non=>true | .non,.int _=>true | .int _,.non=>true | .non,.bl _=>true | .bl _,.non=>true | .non,.str _=>true | .str _,.non=>true
 | .int _,.int _=>true | .bl _,.bl _=>true | .str _,.str _=>true | .byt _,.byt _=>true
 | .int _,.str _=>true | .str _,.int _=>true | .bl _,.str _=>true | .str _,.bl _=>true
 | _,_=>false
def rEq:R2:=fun x y H Q=>uN x y=true/\Q (.bl (decide (x=y))) H
def rNe:R2:=fun x y H Q=>uN x y=true/\Q (.bl (!decide (x=y))) H
def nY:decide (V.int i=V.int j)=(i==j):=by rw[Bool.eq_iff_iff];simp
def pZ:decide (V.bl i=V.bl j)=(i==j):=by rw[Bool.eq_iff_iff];simp
def RX:decide (V.str i=V.str j)=(i==j):=by rw[Bool.eq_iff_iff];simp
def mY:decide (V.byt i=V.byt j)=(i.toList==j.toList):=by rw[Bool.eq_iff_iff];cases i;cases j;simp
section
variable{X:Cx}{a b c:Pu}{g f tc:TE}{pos:Pos}
def nC(I:me X d h H s)(q:Q (.bl k) H)(e:k=i):EP X d h Q (.bool i) s:=by subst e;exact⟨.bl k,H,I,rfl,q⟩
def Z5:mx X (compareOp .Eq) rEq:=by
 intro m s n H x y v u Q I k d h;obtain⟨hs,q⟩:=h;cases x with
 | non=>
  cases k;cases y with
  | non=>cases d;exact PySem.EqNone.eq_none_none (nC I q ⋯)
  | bl j=>cases d;exact PySem.EqNone.eq_none_bool (nC I q ⋯)
  | int j=>obtain⟨e,rfl⟩:=d;exact PySem.EqNone.eq_none_int (nC I q ⋯)
  | str j=>obtain⟨e,rfl⟩:=d;exact PySem.EqNone.eq_none_str (nC I q ⋯)
  | _=>exact Es (show false=true from hs) Xe
 | bl i=>
  cases k;cases y with
  | non=>cases d;exact PySem.EqNone.eq_bool_none (nC I q ⋯)
  | bl j=>cases d;exact eq_bool (nC I q pZ)
  | str j=>obtain⟨e,rfl⟩:=d;exact PySem.EqMixed.eq_bool_str (nC I q ⋯)
  | _=>exact Es (show false=true from hs) Xe
 | int i=>
  obtain⟨t,rfl⟩:=k;cases y with
  | non=>cases d;exact PySem.EqNone.eq_int_none (nC I q ⋯)
  | int j=>obtain⟨e,rfl⟩:=d;exact eq_int (nC I q nY)
  | str j=>obtain⟨e,rfl⟩:=d;exact PySem.EqMixed.eq_int_str (nC I q ⋯)
  | _=>exact Es (show false=true from hs) Xe
 | str i=>
  obtain⟨t,rfl⟩:=k;cases y with
  | non=>cases d;exact PySem.EqNone.eq_str_none (nC I q ⋯)
  | bl j=>cases d;exact PySem.EqMixed.eq_str_bool (nC I q ⋯)
  | int j=>obtain⟨e,rfl⟩:=d;exact PySem.EqMixed.eq_str_int (nC I q ⋯)
  | str j=>obtain⟨e,rfl⟩:=d;exact eq_str (nC I q RX)
  | _=>exact Es (show false=true from hs) Xe
 | byt i=>
  obtain⟨t,rfl⟩:=k;cases y with
  | byt j=>obtain⟨e,rfl⟩:=d;exact PySem.W.eq_bytes (nC I q mY)
  | _=>exact Es (show false=true from hs) Xe
 | _=>cases y<;>exact Es (show false=true from hs) Xe
def a8:mx X (compareOp .NotEq) rNe:=by
 intro m s n H x y v u Q I k d h;obtain⟨hs,q⟩:=h;cases x with
 | non=>
  cases k;cases y with
  | non=>cases d;exact PySem.EqNone.ne_none_none (nC I q ⋯)
  | bl j=>cases d;exact PySem.EqNone.ne_none_bool (nC I q ⋯)
  | int j=>obtain⟨e,rfl⟩:=d;exact PySem.EqNone.ne_none_int (nC I q ⋯)
  | str j=>obtain⟨e,rfl⟩:=d;exact PySem.EqNone.ne_none_str (nC I q ⋯)
  | _=>exact Es (show false=true from hs) Xe
 | bl i=>
  cases k;cases y with
  | non=>cases d;exact PySem.EqNone.ne_bool_none (nC I q ⋯)
  | bl j=>cases d;exact ne_bool (nC I q (congrArg not pZ))
  | str j=>obtain⟨e,rfl⟩:=d;exact PySem.EqMixed.ne_bool_str (nC I q ⋯)
  | _=>exact Es (show false=true from hs) Xe
 | int i=>
  obtain⟨t,rfl⟩:=k;cases y with
  | non=>cases d;exact PySem.EqNone.ne_int_none (nC I q ⋯)
  | int j=>obtain⟨e,rfl⟩:=d;exact ne_int (nC I q (congrArg not nY))
  | str j=>obtain⟨e,rfl⟩:=d;exact PySem.EqMixed.ne_int_str (nC I q ⋯)
  | _=>exact Es (show false=true from hs) Xe
 | str i=>
  obtain⟨t,rfl⟩:=k;cases y with
  | non=>cases d;exact PySem.EqNone.ne_str_none (nC I q ⋯)
  | bl j=>cases d;exact PySem.EqMixed.ne_str_bool (nC I q ⋯)
  | int j=>obtain⟨e,rfl⟩:=d;exact PySem.EqMixed.ne_str_int (nC I q ⋯)
  | str j=>obtain⟨e,rfl⟩:=d;exact ne_str (nC I q (congrArg not RX))
  | _=>exact Es (show false=true from hs) Xe
 | byt i=>
  obtain⟨t,rfl⟩:=k;cases y with
  | byt j=>obtain⟨e,rfl⟩:=d;exact PySem.W.ne_bytes (nC I q (congrArg not mY))
  | _=>exact Es (show false=true from hs) Xe
 | _=>cases y<;>exact Es (show false=true from hs) Xe
def Z7:mx X (compareOp .Lt) (SK fun i j=>.bl (decide (i<j))):=qN fun z z z z z z z q=>lt_int q
def Y7:mx X (compareOp .LtE) (SK fun i j=>.bl (decide (i<=j))):=qN fun z z z z z z z q=>le_int q
def j6:mx X (compareOp .Gt) (SK fun i j=>.bl (decide (j<i))):=qN fun z z z z z z z q=>gt_int q
def i6:mx X (compareOp .GtE) (SK fun i j=>.bl (decide (j<=i))):=qN fun z z z z z z z q=>ge_int q
def Im:mx X (compareOp .Is) (fun x y H Q=>y=.non/\Q (.bl (decide (x=.non))) H):=by
 intro e s j H x y v u Q I d i h;obtain⟨rfl,q⟩:=h;cases i;refine is_none_gen (nC I q ?_);cases x<;>first
  | (cases d;rfl)
  | (obtain⟨t,rfl⟩:=d;rfl)
def aZ(b)(h:autoParam (op≠.In) Ñ)(h2:autoParam (op≠.NotIn) Ñ):behindInMarks op b=false:=by
 have d:(op==CmpOp.In)=false:=by cases op<;>first | rfl | exact Es rfl h
 have e2:(op==CmpOp.NotIn)=false:=by cases op<;>first | rfl | exact Es rfl h2
 cases b<;>simp[behindInMarks,d,e2]
def jt(m:mx X (compareOp op) r)(p:PE X a g)(o:PE X b f)(n:behindInMarks op b=false):PE X (.Compare a [op] [b] pos) (mU r g f):=by intro d s e H Q I h;exact wpAny_Compare1 (rQ p o I h fun v u i x y C B k j q=>m d i e C x y v u Q B k j q) n
noncomputable def R7(t:TE):TT:=fun d H Q=>t d H fun x e=>∃k,x=.bl k/\Q k e
def Fb(q:mx X (compareOp op) r)(D:PE X a g)(C:PE X b f)(B:behindInMarks op b=false):PT X (.Compare a [op] [b] pos) (R7 (mU r g f)):=by
 intro d s i H Q I h;refine wpAny_isTrue_Compare1 (CB (D d s i H _ I h) fun v m ⟨x,O,J,p,q1⟩=>CB (C d m i O _ J q1) fun u j ⟨y,M,F,o,q2⟩=>
  CB (q d j i M x y v u _ F p o q2) fun c P ⟨z,L,E,n,k,e,q3⟩=>?_) B
 subst e;cases n;exact Ga ⟨L,E,q3⟩
noncomputable def CZ(r i:R2)(g f tc:TE):TE:=fun d H Q=>g d H fun x n=>f d n fun y m=>r x y m fun z e=>∃k,z=.bl k/\
 (if k=true then tc d e fun h j=>i y h j Q else Q (.bl false) e)
def vg(R:mx X (compareOp op) r)(n:mx X (compareOp j) p)(W:PE X a g)(U:PE X b f)(T:PE X c tc)
 (S:lastMarks [op,j] [b,c]=false:=by unhygienic rfl):PE X (.Compare a [op,j] [b,c] pos) (CZ r p g f tc):=by
 intro i s m H Q I h;refine Compare_chain (CB (W i s m H _ I h) fun v L ⟨x,H1,I1,P,q1⟩=>chain_link (CB (U i L m H1 _ I1 q1) fun u J ⟨y,H2,Z,o,q2⟩=>
  CB (R i J m H2 x y v u _ Z P o q2) fun d F ⟨z,B,q,O,k,e,q3⟩=>?_)) S
 subst e;cases O;refine Ga ?_;cases k with
 | false=>exact ite_ff ⟨.bl false,B,q,rfl,q3⟩
 | true=>exact ite_tt (chain_last (CB (T i F m B _ q q3) fun D E ⟨C,H4,Y,M,q4⟩=>n i E m H4 y C u D Q Y o M q4))
def gK:(sizeLine:Nat)<2^63:=by rw[Cu];decide
def qF(r:mf [x] us):∃u,us=[u]/\ml x u:=by
 cases r with
 | cons e d=>cases d;exact⟨_,rfl,e⟩
def dQ(r:mf [x,y] us):∃u w',us=[u,w']/\ml x u/\ml y w':=by
 cases r with
 | cons i h=>
  cases h with
  | cons e d=>cases d;exact⟨_,_,rfl,i,e⟩
def Ax (n:X.calm=true):ah X (.builtin "min") (fun e H Q=>∃i j,e=[.int i,.int j]/\Q (.int (if j<i then j else i)) H):=by
 intro m s o H e x Q I r h;obtain⟨i,j,rfl,q⟩:=h;obtain⟨u,p,rfl,⟨t,rfl⟩,⟨B,rfl⟩⟩:=dQ r;refine min_two_ints (I.ok.hd n) fun C y k=>⟨_,H,I.kept k,?_,q⟩
 by_cases d:j<i
 . rw[eG d,eG d];exact⟨_,rfl⟩
 . rw[eH d,eH d];exact⟨_,rfl⟩
def yx:ah X (.type "int") (fun d H Q=>(∃i,d=[.int i]/\Q (.int i) H)\/∃k,d=[.bl k]/\Q (.int (if k then 1 else 0)) H):=by
 intro e s m H d n Q I r h;rcases h with⟨i,rfl,q⟩ | ⟨k,rfl,q⟩
 . obtain⟨u,rfl,t,rfl⟩:=qF r;exact call_int_int ⟨.int i,H,I,⟨_,rfl⟩,q⟩
 . obtain⟨u,rfl,j⟩:=qF r;cases j;exact call_int_bool ⟨.int (if k then 1 else 0),H,I.tok _,⟨_,rfl⟩,q⟩
end
structure dr(h:Heap)(x dx C:Addr)(mA:Str->Option Value):Prop where
 obj:h.get? x=ε (PySem.W.instObj C dx)
 ns:h.Ns1 dx mA
 ne:dx≠x
set_option tactic.hygienic true in
theorem Mv{h:Te}(n:h.Ns1 j g):∃f,h.get? j=ε f/\∀b,PySem.W.lookIn b f=ε (g b):=by
 obtain⟨o,i,x,m,hd,r,_,p⟩:=n;refine⟨o,m,fun b=>?_⟩;have e:=p b;unfold nsFind findBy at e;rw[<- Array.find?_toList]at e;unfold PySem.W.lookIn;rw[hd];dsimp only;split
 . rename_i y q;rw[q]at e;exact congrArg some e
 . rename_i q;rw[q]at e;have a:i.toList.any (·.refKey)=false:=by rw[any_eq_false];intro y k;obtain⟨z,t,d⟩:=r y (Array.mem_toList_iff.mp k);simp[DictEntry.refKey,d]
   have u:¬i.toList.any (·.refKey)=true:=by rw[a];exact Xe
   rw[eH u];exact congrArg some e
def dr.look(I:dr h x e C d):∃b,PySem.W.InstAt h x (PySem.W.instObj C e) C (ε b)/\∀a,PySem.W.lookIn a b=ε (d a):=
 let ⟨b,ho,hl⟩:=Mv I.ns
 ⟨b,⟨I.obj,rfl,rfl,ho⟩,hl⟩
section
variable{prog:Ri}{w:Rr}{A:Ru}{E:Ou->Pa->Prop}{s:Pa}{K:Ra}{x e C f:Pb}{c:Str->O4 Ou}{name:Str}{v:Ou}
def Ht(X:K.In s.heap)(I:dr s.heap x e C c)(j:PySem.W.plainGet K C name=true)(i:PySem.W.hasDictIn K C=true)
 (k:findIn K (.ref C) name=ε none) (d:c name=ε v) (b:PySem.W.handedIn v=true) (h:Q v { s with toks:=s.toks+1 }) :
 wpAny (model prog w) A (getAttr (.ref x) name a) Q E s:=by
 obtain⟨m,J,g⟩:=I.look;exact PySem.W.get_value X J (PySem.W.plainGet_of j).1 (PySem.W.findObj_own i k rfl (by rw[g,d])) b h
def Tg(X:K.In s.heap)(I:dr s.heap x e C c)(a:PySem.W.plainGet K C name=true)
 (j:findIn K (.ref C) name=ε (ε (.ref f))) (g:PySem.W.isFn K (.ref f)=true) (d:c name=none) (h:Q (.ref f,[.ref x]) s) :
 wpAny (model prog w) A (getMethod (.ref x) name pl) Q E s:=by
 obtain⟨b,J,i⟩:=I.look;exact PySem.W.method_fn X J (PySem.W.plainGet_of a).1 (PySem.W.plainGet_of a).2 j (beq_iff_eq.mp g) (by show(PySem.W.lookIn name b).map (·.isSome)=ε false;rw[i,d];rfl) h
def Jd(X:K.In s.heap)(I:dr s.heap x e C c)
 (hs:findIn K (.ref C) "__setattr__" =ε (ε (.builtin "object.__setattr__"))) (hp:PySem.W.plainOver K C=true) (p:PySem.W.takerIn K C name=ε none) (q:PySem.W.hasDictIn K C=true)
 (hw:PySem.Within c ns) (hsz:ns.length<=sizeLine)
 (h:∀i,dr i x e C (fun y=>if y=name then ε v else c y)->Heap.SameBut e s.heap i->Q () { s with heap:=i,toks:=s.toks+2 }) :
 wpAny (model prog w) A (setAttr (.ref x) name v) Q E s:=by
 obtain⟨F,J,L⟩:=I.look;refine PySem.W.set_plain X J hs (PySem.W.osa_open (s:={ s with toks:=s.toks+1 }) (r:=none) X J hp p fun b=>?_);obtain⟨M,u,m⟩:=PySem.W.any_some q;have o:s.heap.get? x=ε ⟨.ref C,ε e,.plain,#[]⟩:=I.obj;refine ao (au (ao (ao (wpAny_loadPart o (ao (PySem.W.Looks.here (s:={ s with toks:=s.toks+1 }) (PySem.W.looks_clsIn X u) ?_))))));rw[m];refine au (a:=ε e) (ao (au (ao ?_)));refine wpAny_nsSet1 (s:={ s with toks:=s.toks+1 }) I.ns fun i g d=>?_
 obtain⟨H,B,D,j,k,n⟩:=g.count (PySem.Within.cons name v hw);refine ao (wpAny_lookBehind j (by rw[k];exact pastItsLine_dict (uq n (by rw[Ua];omega))) ?_);exact au (h _ ⟨(d.2 _ (n7 I.ne)).trans I.obj,g,I.ne⟩ d)
def Uy(X:K.In s.heap)(b:PySem.W.makesIn K C=true)
 (hi:findIn K (.ref C) "__init__" =ε (ε (.ref f))) (i:PySem.W.typeIn K (.ref f)=ε (.type "function"))
 (h:codeAny (model prog w) (A.under (.builtin "type.__call__" ⟨.ref C::vs,a⟩)) (.call (.ref f) ⟨.ref (s.heap.objs.size+1)::vs,a⟩) (PySem.W.InitBack (s.heap.objs.size+1) R)
  { s with heap:=(s.heap.push PySem.W.emptyDict).push (PySem.W.instObj C s.heap.objs.size) }) :
 codeAny (model prog w) A (.call (.ref C) ⟨vs,a⟩) R s:=by
 obtain⟨j,g,d,t,os⟩:=s;exact PySem.W.make_core (PySem.W.makes_of X b) (PySem.W.looks_findIn X hi) (fun self=>PySem.W.bind_fn X self i) (.inl rfl) h
end
noncomputable def yB(f:Str)(v:V):Oo (Str×V)->Oo (Str×V)
 | []=>[(f,v)]
 | (g,x)::r=>if g=f then(g,v)::r else(g,x)::yB f v r
theorem MV(f g)(v):∀fs,(yB f v fs).lookup g=if g=f then ε v else fs.lookup g
 | []=>by
  show List.lookup g [(f,v)]=_;by_cases h:g=f
  . have a:(g==f)=true:=beq_iff_eq.mpr h;simp![List.lookup,a,eG h]
  . have a:(g==f)=false:=Fd.mpr h;simp![List.lookup,a,eH h]
 | (k,x)::r=>by
  have ih:=MV f g v r;rw[show yB f v ((k,x)::r)=(if k=f then(k,v)::r else(k,x)::yB f v r)from rfl];by_cases b:k=f
  . rw[eG b];by_cases h:g=k
    . have a:(g==k)=true:=beq_iff_eq.mpr h;simp![List.lookup,a,eG (h.trans b)]
    . have a:(g==k)=false:=Fd.mpr h;simp![List.lookup,a,eH (fun e:g=f=>h (e.trans b.symm))]
  . rw[eH b];by_cases h:g=k
    . have a:(g==k)=true:=beq_iff_eq.mpr h;simp![List.lookup,a,eH (fun e:g=f=>b (h.symm.trans e))]
    . have a:(g==k)=false:=Fd.mpr h;simp![List.lookup,a];exact ih
theorem BR(f)(v):∀fs,f∈(yB f v fs).map (·.1)/\∀g,g∈fs.map (·.1)->g∈(yB f v fs).map (·.1)
 | []=>⟨by simp[yB],fun g h=>by simp at h⟩
 | (k,x)::r=>by
  obtain⟨d,b⟩:=BR f v r;rw[show yB f v ((k,x)::r)=(if k=f then(k,v)::r else(k,x)::yB f v r)from rfl];by_cases a:k=f
  . rw[eG a];subst a;exact⟨by simp,fun g h=>by simpa using h⟩
  . rw[eH a];refine⟨?_,fun g h=>?_⟩
    . rw[Uu];exact rz _ d
    . rw[Uu]at h ⊢;rcases Bu.mp h with e | e
      . exact Bu.mpr (.inl e)
      . exact rz _ (b g e)
theorem JV(f)(v):∀fs,(yB f v fs).length<=fs.length+1
 | []=>by simp[yB]
 | (k,x)::r=>by
  have ih:=JV f v r;rw[show yB f v ((k,x)::r)=(if k=f then(k,v)::r else(k,x)::yB f v r)from rfl];by_cases a:k=f
  . rw[eG a,Ua,Ua];omega
  . rw[eH a,Ua,Ua];omega
def ax.some_of(r:ax (ε v) o):∃u,o=ε u/\ml v u:=by
 cases o with
 | none=>exact(show False from r).elim
 | some u=>exact⟨u,rfl,r⟩
def ax.none_of(r:ax none o):o=none:=by
 cases o with
 | none=>rfl
 | some u=>exact(show False from r).elim
def Xz(r:ml v u):PySem.W.handedIn u=true:=by
 cases v with
 | non=>cases (show u=Value.none from r);rfl
 | bl b=>cases (show u=Value.bool b from r);rfl
 | int i=>obtain⟨t,e⟩:=(show ∃t,u=Value.int i t from r);cases e;rfl
 | str x=>obtain⟨t,e⟩:=(show ∃t,u=Value.str x t from r);cases e;rfl
 | byt b=>obtain⟨t,e⟩:=(show ∃t,u=Value.bytes b t from r);cases e;rfl
 | flt b=>obtain⟨t,e⟩:=(show ∃t,u=Value.float b t from r);cases e;rfl
 | ref a=>cases (show u=Value.ref a from r);rfl
 | ty n=>cases (show u=Value.type n from r);rfl
section
variable{P:Ri}{w:Rr}{H H':Hp}{h h':Te}{a C b:Pb}{fs fs':Oo (Str×V)}
def pS(hok:nh P w H h)(e:H a=ε (.ins C b fs)):∃g,dr h a b C g/\(∀f,ax (fs.lookup f) (g f))/\PySem.Within g (fs.map (·.1))/\fs.length<=1000/\H b=ε (.own a):=by obtain⟨d,z,ne,ob,g,n,r,q⟩:=(show Zi P w H h a (.ins C b fs)from hok a _ e);exact⟨g,⟨ob,n,ne⟩,r,q,z,d⟩
end
structure Cls(K:Frag)(C:Addr):Prop where
 pg:PySem.W.plainGet K C Str.empty=true
 hd:PySem.W.hasDictIn K C=true
 po:PySem.W.plainOver K C=true
 sa:findIn K (.ref C) "__setattr__" =ε (ε (.builtin "object.__setattr__"))
def Cls.get{K:Ra}{C:Pb}(c:Cls K C)(f):PySem.W.plainGet K C f=true:=c.pg
def du(K:Ra)(C:Pb)(f:Str):Prop:=findIn K (.ref C) f=ε none
def du.taker{K:Ra}(n:du K C f):PySem.W.takerIn K C f=ε none:=by unfold PySem.W.takerIn;rw[show findIn K (.ref C) f=ε none from n];rfl
structure gN(K:Frag)(C:Addr)(m:Str)(f:Addr):Prop where
 at_:findIn K (.ref C) m=ε (ε (.ref f))
 fn:PySem.W.isFn K (.ref f)=true
 kp:keepIn K (.ref f)=true
section
variable{X:Cx}{d:Oo (Pb×Obj)}{i:St}{H:Hp}{s:Pa}{a C j:Pb}{fs:Oo (Str×V)}{f:Str}{v:V}{A:Ru}{E:Ou->Pa->Prop}
def Vq(I:me X d i H s)(e:H a=ε (.ins C j fs))(c:Cls X.K C)(n:du X.K C f)(l:fs.lookup f=ε v)
 (h:∀u g,me X d i H g->ml v u->Q u g):wpAny (model X.prog X.w) A (getAttr (.ref a) f b) Q E s:=by
 obtain⟨m,O,r,_,_,_⟩:=pS I.hok e;obtain⟨u,p,k⟩:=ax.some_of (v:=v) (o:=m f) (by rw[<- l];exact r f);exact Ht I.kIn O (c.get f) c.hd n p (Xz k) (h u _ (I.tok _) k)
def Wq(I:me X d i H s)(e:H a=ε (.ins C j fs))(c:Cls X.K C)(k:gN X.K C m g)(l:fs.lookup m=none)
 (h:Q (.ref g,[.ref a]) s):wpAny (model X.prog X.w) A (getMethod (.ref a) m pl) Q E s:=by
 obtain⟨b,O,r,_,_,_⟩:=pS I.hok e;have n:b m=none:=ax.none_of (by rw[<- l];exact r m);exact Tg I.kIn O (c.get m) k.at_ k.fn n h
def Lz(I:me X d i H s)(e:H a=ε (.ins C j fs))(c:Cls X.K C)(n:du X.K C f)(R:fs.length<1000)(F:ml y u)
 (h:∀p,me X d i (xB H a (.ins C j (yB f y fs))) p->Q () p):wpAny (model X.prog X.w) A (setAttr (.ref a) f u) Q E s:=by
 obtain⟨B,O,r,m,_,D⟩:=pS I.hok e;have J:(fs.map (·.1)).length<=sizeLine:=by rw[ni,Cu];omega
 refine Jd I.kIn O c.sa c.po n.taker c.hd m J fun P k sb=>h _ ?_
 have hd:∃o,P.get? j=ε o:=let ⟨o,_,_,e',_⟩:=k.ns;⟨o,e'⟩
 refine I.write (x:=a) (e:=j) (by rw[e];exact Ke) (.inr D) (fun b q M z=>(sb.2 b M).trans z) hd ?_;refine⟨by rw[aB O.ne];exact D,?_,O.ne,k.obj,_,k.ns,fun g=>?_,fun g L=>?_⟩
 . have:=JV f y fs;omega
 . show ax ((yB f y fs).lookup g) (if g=f then ε u else B g);rw[MV];by_cases q:g=f
   . rw[eG q,eG q];exact F
   . rw[eH q,eH q];exact r g
 . by_cases q:g=f
   . rw[q];exact(BR f y fs).1
   . refine(BR f y fs).2 g (m g fun z=>L ?_);show(if g=f then ε u else B g)=none;rw[eH q];exact z
def me.made(I:me X d i H s):me X d i (xB (xB H s.heap.objs.size (.own (s.heap.objs.size+1))) (s.heap.objs.size+1) (.ins C s.heap.objs.size []))
 { s with heap:=(s.heap.push PySem.W.emptyDict).push (PySem.W.instObj C s.heap.objs.size) }:=by
 have g:(s.heap.push PySem.W.emptyDict).get? s.heap.objs.size=ε PySem.W.emptyDict:=ju s.heap rfl;have e2:((s.heap.push PySem.W.emptyDict).push (PySem.W.instObj C s.heap.objs.size)).get? (s.heap.objs.size+1)=ε (PySem.W.instObj C s.heap.objs.size):=by have:=ju (s.heap.push PySem.W.emptyDict) (o:=PySem.W.instObj C s.heap.objs.size) rfl;rwa[Ma]at this
 have m:(s.heap.push PySem.W.emptyDict).Ns s.heap.objs.size (fun z=>none):=⟨PySem.W.emptyDict,#[],_,g,rfl,(fun e k=>Es k ⋯),fun z=>rfl⟩;have n:=I.laid (a:=s.heap.objs.size) (o:=.own (s.heap.objs.size+1)) (h':=s.heap.push PySem.W.emptyDict) (t':=s.toks) (fun b u q=>cg _ q) (Va _) ⟨_,g⟩;refine n.laid (a:=s.heap.objs.size+1) (o:=.ins C s.heap.objs.size []) (t':=s.toks) (fun b u q=>cg _ q) (Nat.le_of_eq (Ma _ _)) ?_;have ne:s.heap.objs.size≠s.heap.objs.size+1:=su (zu _);refine⟨by rw[aB ne,xC],nW _,ne,e2,fun z=>none,(Heap.Ns1.of_empty m).at fun o q=>cg _ q,fun z=>Ke,fun y h=>Es rfl h⟩
def Lr(g:attributeBase e f env (eval e env)=eval e env)
 (h:wpAny (model prog w) A (eval e env) (fun o b=>wpAny (model prog w) A (getAttr o f true) Q E b) E s):wpAny (model prog w) A (eval (.Attribute e f pos) env) Q E s:=
 Attribute_any_ h (by rw[arm_eval_Attribute,g])
end
def Y4(K:Ra)(e:TE)(f:Str):TE:=fun d H Q=>e d H fun x b=>∃a C g fs v,x=.ref a/\b a=ε (.ins C g fs)/\Cls K C/\du K C f/\fs.lookup f=ε v/\Q v b
def T4(K:Ra)(h g:TE)(f:Str):TS:=fun D b H=>g b H fun y i=>h b i fun x e=>∃a C d fs,x=.ref a/\e a=ε (.ins C d fs)/\Cls K C/\du K C f/\fs.length<1000/\
 D.nx b (xB e a (.ins C d (yB f y fs)))
section
variable{X:Cx}{o e b:Pu}{f:Str}{pos d tpos:Pos}{g i:TE}
def jl(he:PE X e g)(y:attributeBase e f X.env (eval e X.env)=eval e X.env):PE X (.Attribute e f pos) (Y4 X.K g f):=by intro j s k H Q I h;refine Lr y (CB (he j s k H _ I h) fun u M m=>?_);obtain⟨x,F,E,p,a,C,O,fs,v,ex,B,c,n,l,q⟩:=m;subst ex;obtain rfl:u=Value.ref a:=p;exact Vq E B c n l fun J L D r=>⟨v,F,D,r,q⟩
def Zn(J:PE X o g)(F:PE X b i)(hs:swapsWith b (ε (.Attribute o f d)) pos.line X.env=pure false):PS X (.Assign [.Attribute o f d] b pos) (T4 X.K g i f):=by intro j s k H D I h;refine plainObj_wpAny_Assign_Attribute (CB (F j s k H _ I h) fun u p ⟨y,Q,P,r,q⟩=>CB (J j p k Q _ P q) fun E S m=>?_) hs;obtain⟨x,U,O,B,a,C,T,fs,ex,L,c,n,l,q2⟩:=m;subst ex;obtain rfl:E=Value.ref a:=B;exact Lz O L c n l r fun R M=>⟨k,_,M,q2⟩
end
section
variable{X:Cx}{pins:Oo (Pb×Obj)}{σ:St}{H:Hp}{s:Pa}{A:Ru}{E:Ou->Pa->Prop}{Q:Ou->Pa->Prop}{c:Ou}{b:Bool}
end
structure Ys(k:Nat)(A:Around):Prop where
 hd:A.handled=none
 dp:A.depth+3*k+5<recursionLimit
 un:A.units+16*k+200<cLine
def Ys.mono(r:Ys k A)(h:j<=k):Ys j A:=⟨r.hd,by have:=r.dp;omega,by have:=r.un;omega⟩
def Ys.deeper(r:Ys (k+1) A)(env):Ys k (A.deeper env):=
 ⟨r.hd,by have:=r.dp;show A.depth+1+3*k+5<_;omega,by have:=r.un;show A.units+3+16*k+200<_;omega⟩
def Zq {A:Ru}:(A.under (.builtin "type.__call__" ⟨.ref C::us,a⟩)).depth=A.depth+1:=by first | rfl | simp[Around.under,Code.weight,Code.isCreation,Code.isGuard,Code.isCaller,Code.frames,Code.isFrame,guardIds]
def Dq {A:Ru}:(A.under (.builtin "type.__call__" ⟨.ref C::us,a⟩)).units=A.units+1:=by first | rfl | simp[Around.under,Code.cUnits,Code.frames,Code.isFrame]
def Ys.make (r:Ys (k+1) A) (C) (us) (a):Ys k (A.under (.builtin "type.__call__" ⟨.ref C::us,a⟩)):=
 ⟨r.hd,by have:=r.dp;rw[Zq];omega,by have:=r.un;rw[Dq];omega⟩
def Ys.depth(r:Ys k A):A.depth<recursionLimit:=by have:=r.dp;omega
def Ys.units(r:Ys k A):A.units+64<cLine:=by have:=r.un;omega
noncomputable def lU:TA:=fun _ H Q=>Q [] H
noncomputable def PZ(e:TE)(d:TA):TA:=fun a H Q=>e a H fun x g=>d a g fun b f=>Q (x::b) f
section
variable{X:Cx}{e:Pu}{a:Oo Pu}{te:TE}{t:TA}{pos:Pos}
def DD:PA X [] lU:=fun q q q q H Q I h=>Calls.spliced_nil ⟨[],H,I,.nil,h⟩
def BC(n:PE X e te)(m:PA X a t)(hs:autoParam (starEach (e::a) X.env=(false,eval e X.env)::starEach a X.env) Æ):PA X (e::a) (PZ te t):=by intro pos b s d H Q I h;rw[hs];show wpAny _ _ (spliced ((false,eval e X.env)::backTo pos (starEach a X.env))) _ _ s;refine Calls.spliced_cons (CB (n b s d H _ I h) fun u i f=>?_);obtain⟨x,r,p,k,q1⟩:=f;exact CB (m pos b i d r _ p q1) fun y B ⟨g,q,o,j,q2⟩=>⟨x::g,q,o,.cons k j,q2⟩
def C5(t:TA):TE:=fun f H Q=>t f H fun b d=>b.length<=sizeLine/\∀p,d p=none->Q (.ref p) (xB d p (.tup b))
def kU(t:TA):TE:=fun f H Q=>t f H fun b d=>b.length<=sizeLine/\∀p,d p=none->Q (.ref p) (xB d p (.lst b))
def HZ{x1}(h:PA X a t):PE X (.Tuple a x1 pos) (C5 t):=by intro d s j H Q I n;refine wpAny_Tuple_spliced (CB (h pos d s j H _ I n) fun m f ⟨k,i,g,r,z,q⟩=>⟨by rw[<- r.length];exact z,?_⟩);have o:i f.heap.objs.size=none:=g.hok.fresh (Va _);refine⟨.ref f.heap.objs.size,xB i f.heap.objs.size (.tup k),g.laid (t':=f.toks) (fun b u e=>cg _ e) (Va _) ?_,rfl,q _ o⟩;exact⟨z,m,r,⟨_,ju _ rfl,rfl,_,rfl⟩⟩
def BP(h:PA X a t):PE X (.List a pos) (kU t):=by intro d s j H Q I n;refine wpAny_List_spliced (CB (h pos d s j H _ I n) fun m f ⟨k,i,g,r,z,q⟩=>⟨by rw[<- r.length];exact z,?_⟩);have o:i f.heap.objs.size=none:=g.hok.fresh (Va _);refine⟨.ref f.heap.objs.size,xB i f.heap.objs.size (.lst k),g.laid (t':=f.toks) (fun b u e=>cg _ e) (Va _) ?_,rfl,q _ o⟩;exact⟨z,m,0,r,ju _ rfl⟩
end
abbrev Sp:=Oo V->Hp->VK->XK->Prop
abbrev CK:=Oo Env->Hp->Pa->XK->Ou->Pa->Prop
structure dy(P:Program)(w:World)(K:Frag)(mg:Str->Option Value)(base:Heap)(A:Around)(outer:List Env)(s:Shared)(H:Hp):Prop where
 frames:A.frames=ε outer
 mod:Mod K mg base
 bs:∀b o,base.get? b=ε o->s.heap.get? b=ε o/\H b=none
 bsz:base.objs.size<=s.heap.objs.size
 bq:s.heap.FunFrames base outer
 frf:∀b∈PK outer,H b=none
 hok:nh P w H s.heap
 bare:AllBare s.gens
def CE(outer:Oo Env)(P:Ri)(w:Rr)(H:Hp)(s:Pa)(Q:VK)(u:Ou)(a:Pa):Prop:=
 ∃v b,a.os=s.os/\AllBare a.gens/\Un (PK outer) [] H b s.heap a.heap/\nh P w b a.heap/\ml v u/\Q v b
def CR(CX:CK)(outer:Oo Env)(P:Ri)(w:Rr)(H:Hp)(s:Pa)(Q:VK)(E:XK)(r:Result)(a:Pa):Prop:=
 match r with
 | .ok (.ret u)=>CE outer P w H s Q u a
 | .ok _=>False
 | .error e=>CX outer H s E e a
structure ai(P:Program)(w:World)(K:Frag)(mg:Str->Option Value)(base:Heap)(CX:CK)(k:Nat)(f:Addr)(fd:FuncData)(ps:List Str)(sp:Sp):Prop where
 len:∀vs H Q E,sp vs H Q E->vs.length=ps.length
 run:∀(A:Around)(outer:List Env)(s:Shared)(H:Hp)(args:Args)(us:List Value)(vs:List V)(Q:VK)(E:XK),Ys k A->dy P w K mg base A outer s H->BindsTo s fd args (ps.zip us)->mf vs us->sp vs H Q E->
  codeAny (model P w) A (.call (.ref f) args) (CR CX outer P w H s Q E) s
def ai.mono{K:Ra}(F:ai P w K mg base CX j f b ps sp)(h:j<=k) :
 ai P w K mg base CX k f b ps sp:=⟨F.len,fun A outer s H a e d Q E g=>F.run A outer s H a e d Q E (g.mono h)⟩
def dy.make{K:Ra}(e:dy P w K mg base A outer s H)(C)(us)(a) :
 dy P w K mg base (A.under (.builtin "type.__call__" ⟨.ref C::us,a⟩)) outer s H:=⟨by first | exact e.frames | (simpa[Around.under,Code.envs,Code.isFrame,pushEnvs]using e.frames),e.mod,e.bs,e.bsz,e.bq,e.frf,e.hok,e.bare⟩
section
variable{X:Cx}{a:Oo (Pb×Obj)}{c:St}{H:Hp}{s e:Pa}
def me.env0(I:me X a c H s):dy X.prog X.w X.K X.mg X.base X.A X.stack s H:=
 ⟨I.ok.frames,I.ok.mod,I.bs,uq I.ok.bsz I.sz,I.stack,I.ik,I.hok,I.bare⟩
def me.after(I:me X a c H s)(h:CE X.stack X.prog X.w H s Q u e):EP X a c Q u e:=by obtain⟨v,j,os,bare,un,hok,r,q⟩:=h;obtain⟨i,g,d,t,f⟩:=e;obtain rfl:f=s.os:=os;exact⟨v,j,I.call (h':=i) (g':=g) (d':=d) (t':=t) (ch:=[]) un hok bare (fun b z=>Es z ⋯),r,q⟩
end
noncomputable def E8(sp:Sp)(a:Oo V)(E:XK)(t:TA):TE:=fun b H Q=>t b H fun d e=>sp (d++a) e Q E
def L8(C:Pb)(m:Str)(sp:Sp)(b:Oo V)(E:XK)(g:TE)(t:TA):TE:=fun d H Q=>g d H fun x e=>∃a h fs,x=.ref a/\e a=ε (.ins C h fs)/\fs.lookup m=none/\
 t d e fun f i=>sp (x::(f++b)) i Q E
def J8(C:Pb)(sp:Sp)(b:Oo V)(E:XK)(t:TA):TE:=fun e H Q=>t e H fun f d=>∀x a,d x=none->d a=none->a≠x->
 sp (.ref x::(f++b)) (xB (xB d a (.own x)) x (.ins C a [])) (fun v g=>v=.non/\Q (.ref x) g) E
def mw(K:Ra)(b:FuncData)(ps:Oo Str)(ds:Oo Ou):Prop:=
 ∀(s:Pa)(a:Oo Ou),K.In s.heap->(a++ds).length=ps.length->BindsTo s b ⟨a,[]⟩ (ps.zip (a++ds))
def mw.all{K:Ra}(h:∀a,a.length=ps.length->bindArgs d ⟨a,[]⟩=pure (ps.zip a)):mw K d ps []:=fun s a q b=>by rw[Ve]at b ⊢;exact .of_eq (h a b)
def pK(CX:CK)(X:Cx)(E:XK):Prop:=∀(a:Oo (Pb×Obj))(d:St)(H:Hp)(s:Pa)(e:Ou)(b:Pa),me X a d H s->CX X.stack H s E e b->X.xe e b
section
variable{X:Cx}{CX:CK}{k:Nat}{f C:Pb}{fd:FuncData}{ps:Oo Str}{sp:Sp}{dvs:Oo V}{ds:Oo Ou}{E:XK}{x m:Str}{p pos apos:Pos}{e o:Pu}{es:Oo Pu}{ta:TE}{t:TA}
def MZ(F:ai X.prog X.w X.K X.mg X.base CX k f fd ps sp)(n:Ys k X.A)(y:mw X.K fd ps ds)(hd:mf dvs ds)(j:pK CX X E)
 (I:me X a d H s) (r:mf vs us) (h:sp (vs++dvs) H Q E):wpAny (model X.prog X.w) X.A (call (.ref f) us) (EP X a d Q) X.xe s:=by
 have g:mf (vs++dvs) (us++ds):=r.append hd;have q:(us++ds).length=ps.length:=by rw[<- g.length];exact F.len _ _ _ _ h
 refine wpAny_call (codeAny_mono (F.run X.A X.stack s H ⟨us,[]⟩ (us++ds) (vs++dvs) Q E n I.env0 (y s us I.kIn q) g h) fun r i b=>?_);cases r with
 | error e=>exact j a d H s e i I b
 | ok B=>
  cases B with
  | ret u=>exact I.after b
  | next=>exact Fo b
  | brk=>exact Fo b
  | cont=>exact Fo b
def Zh(F:ai X.prog X.w X.K X.mg X.base CX k f fd ps sp)(j:Ys k X.A)(y:Gl X x)(n:X.mg x=ε (.ref f))(u:keepIn X.K (.ref f)=true)(B:mw X.K fd ps ds)(hd:mf dvs ds)(i:pK CX X E)
 (D:PA X (e::es) t) (b:autoParam ((x==("__debug__" :Str))=false) Ñ) (he:autoParam (starEach (e::es) X.env=(false,eval e X.env)::starEach es X.env) Æ) (hpl:autoParam ((backTo pos (starEach es X.env)).any (·.1)=false) Æ) :
 PE X (.Call (.Name x p) (e::es) [] pos) (E8 sp dvs E t):=by
 intro a s g H Q I h;refine wpAny_Call_Name_kw (qS I y n ?_ b);refine PySem.W.callWith_K (h₀:=X.base) I.ok.mod.kin u (CB (D pos a s g H _ I h) fun L M ⟨J,O,d,r,q⟩=>⟨d.kIn,?_⟩) he hpl;exact MZ F j B hd i d r q
def Uc(he:PE X o ta)(c:Cls X.K C)(i:gN X.K C m f)(F:ai X.prog X.w X.K X.mg X.base CX k f fd ps sp)(M:Ys k X.A)(O:mw X.K fd ps ds)(hd:mf dvs ds)(J:pK CX X E)(P:PA X (e::es) t)
 (d:autoParam (starEach (e::es) X.env=(false,eval e X.env)::starEach es X.env) Æ) (hpl:autoParam ((backTo pos (starEach es X.env)).any (·.1)=false) Æ)
 (L:eval (.Call (.Attribute o m apos) (e::es) [] pos) X.env=(do
  let ov <- eval o X.env
  standAt apos.atName
  let (f,first) <- holding [ov] (getMethod ov m pl)
  callWith pos f first (backTo pos (starEach (e::es) X.env)) (backToKw pos (keywordEach [] X.env))):=by rfl) :
 PE X (.Call (.Attribute o m apos) (e::es) [] pos) (L8 C m sp dvs E ta t):=by
 intro b s g H Q I h;refine PySem.W.methodCall_KW (pl:=pl) (CB (he b s g H _ I h) fun u B y=>?_) L;obtain⟨x,S,n,D,a,U,fs,ex,R,l,q⟩:=y;subst ex;obtain rfl:u=Value.ref a:=D;refine Wq n R c i l ?_;refine PySem.W.callWith_K (first:=[.ref a]) (h₀:=X.base) I.ok.mod.kin i.kp (CB (P pos b B g S _ n q) fun us T ⟨vs,W,j,r,q2⟩=>⟨j.kIn,?_⟩) d hpl;exact MZ (us:=.ref a::us) (vs:=.ref a::vs) F M O hd J j (.cons rfl r) q2
structure Mk(K:Frag)(C f:Addr):Prop where
 makes:PySem.W.makesIn K C=true
 init:findIn K (.ref C) "__init__" =ε (ε (.ref f))
 fn:PySem.W.isFn K (.ref f)=true
 kp:keepIn K (.ref C)=true
def vh(M:Mk X.K C f)(F:ai X.prog X.w X.K X.mg X.base CX k f fd ps sp)(D:Ys (k+1) X.A)(L:mw X.K fd ps ds)(hd:mf dvs ds)
 (B:pK CX X E) (I:me X a i H s) (r:mf vs us)
 (h:∀x d,H x=none->H d=none->d≠x->sp (.ref x::(vs++dvs)) (xB (xB H d (.own x)) x (.ins C d [])) (fun v R=>v=.non/\Q (.ref x) R) E) :
 wpAny (model X.prog X.w) X.A (call (.ref C) us) (EP X a i Q) X.xe s:=by
 have n:=h (s.heap.objs.size+1) s.heap.objs.size (I.hok.fresh (Nat.le_succ _)) (I.hok.fresh (Va _)) (su (zu _));have g:=me.made (C:=C) I;have j:mf (V.ref (s.heap.objs.size+1)::(vs++dvs)) (Value.ref (s.heap.objs.size+1)::(us++ds)):=.cons rfl (r.append hd);have J:(Value.ref (s.heap.objs.size+1)::us++ds).length=ps.length:=by have e:=j.length;rw[F.len _ _ _ _ n]at e;exact e.symm
 refine wpAny_call (Uy (f:=f) I.kIn M.makes M.init (beq_iff_eq.mp M.fn) (codeAny_mono (F.run _ X.stack _ _ ⟨Value.ref (s.heap.objs.size+1)::us,[]⟩ (Value.ref (s.heap.objs.size+1)::(us++ds)) _ _ E (D.make C us [])
  (g.env0.make C us []) (L _ (Value.ref (s.heap.objs.size+1)::us) g.kIn J) j n) fun r q b=>?_))
 cases r with
 | error e=>exact B a i _ _ e q g b
 | ok O=>
  cases O with
  | ret u=>obtain⟨v,S,P,y,ev,q3⟩:=g.after b;subst ev;exact⟨y,⟨V.ref (s.heap.objs.size+1),S,P,rfl,q3⟩⟩
  | next=>exact Fo b
  | brk=>exact Fo b
  | cont=>exact Fo b
def Rc(M:Mk X.K C f)(F:ai X.prog X.w X.K X.mg X.base CX k f fd ps sp)(j:Ys (k+1) X.A)(u:Gl X x)(n:X.mg x=ε (.ref C))(y:mw X.K fd ps ds)(hd:mf dvs ds)(i:pK CX X E)
 (B:PA X (e::es) t) (b:autoParam ((x==("__debug__" :Str))=false) Ñ) (he:autoParam (starEach (e::es) X.env=(false,eval e X.env)::starEach es X.env) Æ) (hpl:autoParam ((backTo pos (starEach es X.env)).any (·.1)=false) Æ) :
 PE X (.Call (.Name x p) (e::es) [] pos) (J8 C sp dvs E t):=by
 intro a s g H Q I h;refine wpAny_Call_Name_kw (qS I u n ?_ b);refine PySem.W.callWith_K (h₀:=X.base) I.ok.mod.kin M.kp (CB (B pos a s g H _ I h) fun J L ⟨D,O,d,r,q⟩=>⟨d.kIn,?_⟩) he hpl;exact vh M F j y hd i d r q
end
section
variable{X:Cx}{CX:CK}{k:Nat}{f C:Pb}{fd:FuncData}{ps ks:Oo Str}{sp:Sp}{E:XK}{x m:Str}{p pos apos kpos:Pos}{e o:Pu}{es:Oo Pu}{kws:Oo Keyword}{te ta:TE}{t tk:TA}{nm:O4 Str}
variable{g:Oo Ou->Oo Ou->Oo Ou}{gV:Oo V->Oo V->Oo V}
end
structure Za(N P:List Str)(sc:Scope):Prop where
 kind:sc.kind=.function
 co:sc.isCoroutine=false
 gen:sc.isGenerator=false
 nd:N.Nodup
 pre:N.take P.length=P
 par:∀x∈P,sc.names.lookup x=ε .local\/sc.names.lookup x=ε .cell
 ke:∀y∈sc.names,y.2≠.free
theorem yW:∀{binds:Oo (Str×Ou)}{m:Str->O4 Ou},(∀v,(x,v)∉binds)->bindL a binds m x=m x
 | [],_,_=>rfl
 | (n,v)::r,m,h=>by
  unfold bindL;rw[yW fun w hw=>h w (rz _ hw)];split
  . have:x≠n:=by rintro rfl;exact h v vo
    simp[this]
  . rfl
theorem wW:∀{binds:Oo (Str×Ou)}{m:Str->O4 Ou},(∀v,(x,v)∉binds)->bindC a binds m x=m x
 | [],_,_=>rfl
 | (n,v)::r,m,h=>by
  unfold bindC;rw[wW fun w hw=>h w (rz _ hw)];split
  . rfl
  . have:x≠n:=by rintro rfl;exact h v vo
    simp[this]
theorem xW:∀{P:Oo Str}{vs:Oo Ou}{i:Nat}{m:Str->O4 Ou},P.Nodup->P[i]?=ε x->vs[i]?=ε v->a x=ε .local->
 bindL a (P.zip vs) m x=ε v
 | [],_,_,_,_,h,_,_=>by simp at h
 | _::_,[],_,_,_,_,h,_=>by simp at h
 | p::P,w::vs,0,m,nd,h1,h2,hk=>by simp at h1 h2;subst h1;subst h2;show bindL a ((p,w)::P.zip vs) m p=_;unfold bindL;rw[yW fun v b=>(Mu.mp nd).1 (of_mem_zip b).1,eG hk];simp
 | p::P,w::vs,i+1,m,nd,h1,h2,hk=>by show bindL a ((p,w)::P.zip vs) m x=_;unfold bindL;exact xW (i:=i) (Mu.mp nd).2 (by simpa using h1) (by simpa using h2) hk
theorem vW:∀{P:Oo Str}{vs:Oo Ou}{i:Nat}{m:Str->O4 Ou},P.Nodup->P[i]?=ε x->vs[i]?=ε v->a x≠ε .local->
 bindC a (P.zip vs) m x=ε v
 | [],_,_,_,_,h,_,_=>by simp at h
 | _::_,[],_,_,_,_,h,_=>by simp at h
 | p::P,w::vs,0,m,nd,h1,h2,hk=>by simp at h1 h2;subst h1;subst h2;show bindC a ((p,w)::P.zip vs) m p=_;unfold bindC;rw[wW fun v b=>(Mu.mp nd).1 (of_mem_zip b).1,eH hk];simp
 | p::P,w::vs,i+1,m,nd,h1,h2,hk=>by show bindC a ((p,w)::P.zip vs) m x=_;unfold bindC;exact vW (i:=i) (Mu.mp nd).2 (by simpa using h1) (by simpa using h2) hk
noncomputable def FG(N:Oo Str)(vs:Oo V):St:=vs.map some++List.replicate (N.length-vs.length) none
noncomputable def iF(CX:CK)(P:Ri)(w:Rr)(K:Ra)(mg:Str->O4 Ou)(base:Te)(N:Oo Str)(b:Str)(a:Scope)(f:Pb)(g:Ou)(A:Ru)(outer:Oo Env)(s:Pa)(H:Hp)(E:XK):Cx where
 prog:=P
 w:=w
 K:=K
 mg:=mg
 base:=base
 A:=A.deeper (envOfC b a s.heap.objs.size f g)
 N:=N
 s₀:=s
 H₀:=H
 env:=envOfC b a s.heap.objs.size f g
 outer:=outer
 stack:=envOfC b a s.heap.objs.size f g::outer
 ex:=[]
 calm:=true
 fn:=fun _=>true
 pn:=[]
 xe:=fun e h=>wpAny (model P w) (A.deeper (envOfC b a s.heap.objs.size f g)) (leaving (envOfC b a s.heap.objs.size f g) e) (fun _ d=>CX outer H s E e d) (fun i d=>CX outer H s E i d) h
def GX{a:Scope}(h:a.names.lookup x=ε .cell):∃c,(cellsFrom n a.names []).lookup x=ε c:=by have q:=PySem.W.cellsFrom_some a.names n [] (.inl h);exact Option.isSome_iff_exists.mp q
def Bv{K:Ra}
 (S:Za N ps d) (hd:A.handled=none) (m:dy P w K mg base A outer s H) (R:vs.length=ps.length) (r:mf vs us)
 (x:InCallC s s.heap.objs.size (bindL (envOfC g d s.heap.objs.size f F).kindOf (ps.zip us) fun t=>none) (cellsFrom (s.heap.objs.size+1) d.names []) (bindC (envOfC g d s.heap.objs.size f F).kindOf (ps.zip us) fun t=>none) s1) :
 me (iF CX P w K mg base N g d f F A outer s H E) [] (FG N vs) H s1:=by
 have M:ps.length<=N.length:=by have:=congrArg List.length S.pre;rw[Di]at this;omega
 obtain⟨D,Q,rfl,J⟩:=x.done;have o:∀b:Pb,b∉(iF CX P w K mg base N g d f F A outer s H E).ex:=fun b z=>Es (show b∈([]:Oo Pb)from z) ⋯
 refine⟨⟨m.mod,S.kind,rfl,rfl,Va _,fun y z c D j=>?_,fun y hy=>?_,fun y c t h=>?_,fun t=>hd,Around.frames_deeper m.frames,.inr ⟨rfl,rfl⟩,fun b z=>Es z (o b),m.bs,m.bsz,fun b t t=>o b,fun b z=>Es z (o b),m.bq,m.frf⟩,
  rfl,m.bare,Un.kept J,⟨_,x.toInCall.ns,fun i y v D j T=>?_⟩,fun y c h=>⟨_,x.cell y c h⟩,m.hok.fresh (Va _),fun y c h=>?_,fun p hp=>Es (show p∈([]:Oo (Pb×Obj))from hp) ⋯,m.hok.kept J,?_⟩
 . exact name_of_addr x.apart (PySem.mem_of_lookup D) (PySem.mem_of_lookup j)
 . have hy:d.names.lookup y=ε .cell\/d.names.lookup y=ε .free:=hy;rcases hy with hy | hy
   . exact GX hy
   . exact Es rfl (S.ke _ (PySem.mem_of_lookup hy))
 . exact Du (x.above y c (PySem.mem_of_lookup h))
 . have C:i<vs.length:=by
    unfold FG at j;by_cases C:i<vs.length
    . exact C
    . rw[ag (by simpa using C)]at j;rw[getElem?_replicate]at j;split at j<;>cases j
   have O:vs[i]?=ε v:=by
    unfold FG at j;rw[Yo (by simpa using C),w5]at j;cases e:vs[i]? with
    | none=>rw[e]at j;cases j
    | some a=>rw[e]at j;cases j;rfl
   obtain⟨u,I,L⟩:=r.get O;have hp:ps[i]?=ε y:=by rw[<- S.pre,getElem?_take_of_lt nofun];exact D
   have B:ps.Nodup:=by rw[<- S.pre];exact S.nd.sublist (take_sublist _ _)
   refine⟨u,L,?_⟩;rcases S.par y (m6 hp)with k | k
   . exact .inl ⟨k,xW B hp I k⟩
   . obtain⟨c,e⟩:=GX (n:=s.heap.objs.size+1) k;refine .inr ⟨.inl k,c,e,?_⟩;have q:=x.cell y c e;rw[vW B hp I (by show d.names.lookup y≠_;rw[k];decide)]at q;exact q
 . exact m.hok.fresh (Du (x.above y c (PySem.mem_of_lookup h)))
 . unfold FG;show _=N.length;rw[jj,ni,length_replicate];omega
def D0{K:Ra}{W kV F U g ct oc:Ou}
  (lk:K.lookup f=ε ⟨oc,od,.func (fnOf name d h body a W kV F U Z g ct),M⟩) (T:PySem.W.codeIn K g d=true) (S:Za N ps a)
 (len:∀vs H Q E,sp vs H Q E->vs.length=ps.length)
 (p:∀(A:Ru)(outer:Oo Env)(s:Pa)(H:Hp)(vs:Oo V)(Q:VK)(E:XK),Ys k (A.deeper (envOfC d a s.heap.objs.size f g))->sp vs H Q E->
  ∃t,PSs (iF CX P w K mg base N d a f g A outer s H E) body t/\t { nx:=fun _ j=>Q .non j,rt:=Q } (FG N vs) H) :
 ai P w K mg base CX (k+1) f (fnOf name d h body a W kV F U Z g ct) ps sp:=by
 refine⟨len,fun A outer s H Y us vs Q E R D hb r B=>?_⟩;have hl:=len _ _ _ _ B;have KX:K.In s.heap:=D.mod.kin.keeps fun b o e=>(D.bs b o e).1
 have O:s.heap.NoLimit:=D.mod.nolimit.keeps fun b o e=>(D.bs b o e).1
 have m:∀y∈ps.zip us,a.names.lookup y.1=ε .local\/(a.names.lookup y.1=ε .cell/\((cellsFrom (s.heap.objs.size+1) a.names []).lookup y.1).isSome=true):=fun zz hy=>by
  obtain⟨n,v⟩:=zz;rcases S.par n (of_mem_zip hy).1 with q | q
  . exact .inl q
  . exact .inr ⟨q,PySem.W.cellsFrom_some _ _ _ (.inl q)⟩
 refine codeAny_call_function R.depth (KX _ _ lk) rfl S.co S.gen rfl (PySem.W.codeRec_of KX T) (hb _ _ _ _ ?_);refine wpAny_newFunctionEnv_cells S.kind m fun env he s1 x=>?_
 subst he;refine⟨O.keeps x.toInCall.keep,codeAny_func ?_⟩;obtain⟨t,ht,hq⟩:=p A outer s H vs Q E (R.deeper _) B;have I:me (iF CX P w K mg base N d a f g A outer s H E) [] (FG N vs) H s1:=Bv S R.hd D hl r x;refine Ii (ht [] s1 (FG N vs) H _ I hq) (fun fl s' hs=>?_) fun e s' hs=>hs
 have C:∀{i:St}{j:Hp}{v:V}{u:Ou},me (iF CX P w K mg base N d a f g A outer s H E) [] i j s'->ml v u->Q v j->CE outer P w H s Q u s':=
  fun {i j v u} J L q=>⟨v,j,J.os,J.bare,J.base,J.hok,L,q⟩
 cases fl with
 | ret u=>obtain⟨v,i,j,J,L,q⟩:=hs;exact C J L q
 | next=>obtain⟨i,j,J,q⟩:=hs;exact C (v:=V.non) (u:=Value.none) J rfl q
 | brk=>obtain⟨_,_,_,q⟩:=hs;exact Fo q
 | cont=>obtain⟨_,_,_,q⟩:=hs;exact Fo q
section
variable{X:Cx}{x:Str}{p pos:Pos}{e:Pu}{a:Oo Pu}{t:TA}{b T:String}{r:Oo V->Hp->VK->Prop}
noncomputable def tCB(r:Oo V->Hp->VK->Prop)(t:TA):TE:=fun d H Q=>t d H fun f g=>r f g Q
def RL (y:ah X (.builtin b) r) (u:Gl X x) (q:X.mg x=none) (n:bootBuiltins x=ε (.builtin b)) (B:PA X (e::a) t) (o:autoParam (x ≠ "__name__" ) Ñ) (f:autoParam ((x==("__debug__" :Str))=false) Ñ)
 (he:autoParam (starEach (e::a) X.env=(false,eval e X.env)::starEach a X.env) Æ) (hpl:autoParam ((backTo pos (starEach a X.env)).any (·.1)=false) Æ):PE X (.Call (.Name x p) (e::a) [] pos) (tCB r t):=by
 intro d s g H Q I h;refine wpAny_Call_Name_kw (BG I u q n ?_ o f);exact PyProof.Rows.callWith_builtin1 (CB (B pos d s g H _ I h) fun j k ⟨i,D,C,m,q1⟩=>y d k g D i j Q C m q1) he hpl
def FR (y:ah X (.type T) r) (u:Gl X x) (q:X.mg x=none) (n:bootBuiltins x=ε (.type T)) (B:PA X (e::a) t) (o:autoParam (x ≠ "__name__" ) Ñ) (f:autoParam ((x==("__debug__" :Str))=false) Ñ)
 (he:autoParam (starEach (e::a) X.env=(false,eval e X.env)::starEach a X.env) Æ) (hpl:autoParam ((backTo pos (starEach a X.env)).any (·.1)=false) Æ):PE X (.Call (.Name x p) (e::a) [] pos) (tCB r t):=by
 intro d s g H Q I h;refine wpAny_Call_Name_kw (BG I u q n ?_ o f);exact PyProof.Rows.callWith_type1 (CB (B pos d s g H _ I h) fun j k ⟨i,D,C,m,q1⟩=>y d k g D i j Q C m q1) he hpl
end
end L2
namespace HT
section
open PySem.SeqAt
open PySem.AutoSeq1 (wpAny_loadPart')
open PySem.MeetsSeq PySem.MeetsSeq2 PySem.MeetsSeq3
end
section
variable{prog:Ri}{w:Rr}{A:Ru}{E:Ou->Pa->Prop}{s:Pa}
def kf(x:IsTup s.heap t vs.toArray)(y:IsTup s.heap b a.toArray)(p:vs ≠ [])
 (h1:a=[]->Q (.ref t) s) (h2:a ≠ []->Q (.ref s.heap.objs.size) { s with heap:=s.heap.push { cls:=.type "tuple",data:=.seq (vs++a).toArray } })
 (hsz:vs.length+a.length<=sizeLine):wpAny (model prog w) A (binaryOp .Add (.ref t) (.ref b)) Q E s:=by
 obtain⟨⟨cls,r,data,m⟩,j,q,n,hd⟩:=id x;obtain⟨⟨u,i,k,f⟩,d,h,o,g⟩:=id y;simp only at q hd h g;subst q hd h g;have e:vs.toArray++a.toArray=(vs++a).toArray:=by simp
 by_cases hw:a=[]
 . exact concat_meets ⟨_,j,rfl⟩ ⟨_,d,rfl⟩ noFill_tuple_add seq_tuple_add PySem.F.slot_tuple_add PySem.F.entry_tuple_add (PySem.F.args_tuple_add_2 _ _)
    (tuple_addW1 t b vs.toArray a.toArray n o r i m f (by simpa using p) (by simp[hw])) ⟨j,d,h1 hw⟩
 . refine concat_meets ⟨_,j,rfl⟩ ⟨_,d,rfl⟩ noFill_tuple_add seq_tuple_add PySem.F.slot_tuple_add PySem.F.entry_tuple_add (PySem.F.args_tuple_add_2 _ _)
    (tuple_addW2 t b vs.toArray a.toArray n o r i m f (by simpa using p) (by simpa using hw) (by rw[cu,cu];exact hsz)) ⟨j,d,?_⟩
   rw[e];exact h2 hw
noncomputable def sIx(n d:Nat):O4 Int->Nat
 | none=>d
 | some v=>if v<0 then(v+(n:Int)).toNat else min v.toNat n
def F7(n d)(hd:d<=n)(o):sIx n d o<=n:=by
 cases o with
 | none=>exact hd
 | some v=>
  show(if v<0 then(v+(n:Int)).toNat else min v.toNat n)<=n;by_cases a:v<0
  . rw[eG a];omega
  . rw[eH a];exact Nat.min_le_right _ _
def hF(v)(n d:Nat):(if v<0 then max (v+(n:Int)) 0 else min v (n:Int))=((sIx n d (ε v):Nat):Int):=by
 show _=(((if v<0 then(v+(n:Int)).toNat else min v.toNat n):Nat):Int);by_cases a:v<0
 . rw[eG a,eG a,Int.ofNat_toNat]
 . obtain⟨k,rfl⟩:=Int.eq_ofNat_of_zero_le (Int.not_lt.mp a);rw[eH a,eH a,ou];rcases Nat.le_total k n with h | h
   . rw[Nat.min_eq_left h,Int.min_eq_left (Int.ofNat_le.mpr h)]
   . rw[Nat.min_eq_right h,Int.min_eq_right (Int.ofNat_le.mpr h)]
def Hq(lo hi)(n:Nat):Builtin.Slice.sliceAdjust lo hi 1 (n:Int)=(((sIx n 0 lo:Nat):Int),((sIx n n hi:Nat):Int)):=by
 have a:¬((1:Int)<0):=by omega
 unfold Builtin.Slice.sliceAdjust;simp![a,g8];refine Prod.ext ?_ ?_
 . cases lo with
   | none=>rfl
   | some v=>exact hF v n 0
 . cases hi with
   | none=>rfl
   | some v=>exact hF v n n
def uz(i j:Nat):Builtin.Slice.slicePlaces (i:Int) (j:Int) 1=j-i:=by
 unfold Builtin.Slice.slicePlaces;have a:(1:Int)>0:=by omega
 simp![a,eO,Int.ediv_one];split<;>omega
def RV(p:IsPart v o)(h:Q o s):wpAny (model prog w) A (Builtin.Slice.slicePartIndex v) Q E s:=by
 cases p with
 | none=>exact slicePart_none h
 | int i t=>exact slicePart_int h
def n9{lo hi:O4 Int}{n:Nat}(hs:s.heap.IsSliceOf f e d .none)(pl:IsPart e lo)(g:IsPart d hi)
 (h:Q (((sIx n 0 lo:Nat):Int),1,sIx n n hi-sIx n 0 lo) s):wpAny (model prog w) A (Builtin.Slice.sliceApplied (.ref f) (pure (n:Int))) Q E s:=by
 obtain⟨os,a,i,b⟩:=id hs;unfold Builtin.Slice.sliceApplied Builtin.Slice.sliceFields;refine ao (ao (Ho a b (x:=e) rfl (ao (Ho a b (x:=d) rfl (ao (Ho a b (x:=.none) rfl (au ?_)))))));refine ao (slicePart_none ?_);show wpAny _ _ (if((1:Int)==0)=true then _ else _) _ _ s;rw[eH (by decide)];refine ao (RV pl (ao (RV g (ao (au ?_)))));show wpAny _ _ (match Builtin.Slice.sliceAdjust lo hi 1 (n:Int)with | (lo,hi)=>pure (lo,(1:Int),Builtin.Slice.slicePlaces lo hi 1)) _ _ s;rw[Hq lo hi n];show wpAny _ _ (pure (((sIx n 0 lo:Nat):Int),(1:Int),Builtin.Slice.slicePlaces ((sIx n 0 lo:Nat):Int) ((sIx n n hi:Nat):Int) 1)) _ _ s;rw[uz];exact au h
def Zk(xs:Ss Ou)(i k:Nat):((List.range k).filterMap fun(m:Nat)=>xs[((i:Int)+(m:Int)*1).toNat]?).toArray=((xs.toList.drop i).take k).toArray:=by
 have e:(fun(m:Nat)=>xs[((i:Int)+(m:Int)*1).toNat]?)=fun m=>xs[i+m]?:=by
  funext m
  have:((i:Int)+(m:Int)*1).toNat=i+m:=by omega
  rw[this]
 rw[e];have:=pick_run xs i k;rw[filterMap_map]at this;have e2:((fun x=>xs[x]?) ∘ fun x=>i+x)=fun m=>xs[i+m]?:=rfl
 rw[e2]at this;rw[this]
def kg{lo hi:O4 Int}(b:IsTup s.heap t items)(hs:s.heap.IsSliceOf d k j .none)(pl:IsPart k lo)(n:IsPart j hi)
 (hw:¬(sIx items.size 0 lo=0/\sIx items.size items.size hi=items.size))
 (h:Q (.ref s.heap.objs.size) { s with heap:=s.heap.push { cls:=.type "tuple",data:=.seq ((items.toList.drop (sIx items.size 0 lo)).take (sIx items.size items.size hi-sIx items.size 0 lo)).toArray } })
 (hsz:items.size<=sizeLine):wpAny (model prog w) A (getItem (.ref t) (.ref d)) Q E s:=by
 have a:sizeOk (.seq ((items.toList.drop (sIx items.size 0 lo)).take (sIx items.size items.size hi-sIx items.size 0 lo)).toArray):=by show((items.toList.drop (sIx items.size 0 lo)).take (sIx items.size items.size hi-sIx items.size 0 lo)).toArray.size<=sizeLine;rw[cu,Di,length_drop,Aa];omega
 have p:sIx items.size items.size hi<=items.size:=F7 _ _ (Va _) hi;obtain⟨os,e,g,o⟩:=id hs;have i:s.TypeIs (.ref d) "slice" :=⟨os,e,g⟩;unfold getItem
 try with_reducible refine Fe ?_
 first | refine ao (au ?_) | skip
 refine ao (wpAny_sequenceKey b.typeIs (by decide) ?_);refine ao (wpAny_callSpecial?_slot (name:=Str.ofString "__getitem__") b.typeIs PyProof.Rows.slot_tuple_getitem
  (wpAny_call_entry PyProof.Rows.slot_tuple_getitem b.typeIs entry_tuple_getitem ?_ (args_tuple_getitem _ _)))
 show wpAny _ _ (Builtin.Tuple.tupleItemsOf (.ref t) >>=_) _ _ s;refine ao (tupleItemsOf_ b ?_);refine ao (wpAny_typeOf i ?_);rw[eG (by decide)];refine ao (n9 hs pl n ?_);have f:¬((((sIx items.size 0 lo:Nat):Int)==0&&(1:Int)==1&&(sIx items.size items.size hi-sIx items.size 0 lo)==items.size)=true):=by intro q;rw[w6,w6]at q;have q1:((sIx items.size 0 lo:Nat):Int)=0:=eq_of_beq q.1.1;have q2:sIx items.size items.size hi-sIx items.size 0 lo=items.size:=eq_of_beq q.2;exact hw ⟨by omega,by omega⟩
 show wpAny _ _ (if(((sIx items.size 0 lo:Nat):Int)==0&&(1:Int)==1&&(sIx items.size items.size hi-sIx items.size 0 lo)==items.size)=true then _ else _) _ _ s;rw[eH f,Zk]
 first
  | exact ao (m:=Builtin.Tuple.tupleExact _) (Ba (au ⟨_,rfl,au h⟩) a)
  | exact ao (m:=Builtin.Tuple.tupleExact _) (Ba (ao (au (au ⟨_,rfl,au h⟩))) a)
  | exact ao (ao (m:=Builtin.Tuple.tupleExact _) (Ba (au (au ⟨_,rfl,au h⟩)) a))
  | exact ao (ao (m:=Builtin.Tuple.tupleExact _) (Ba (au ⟨_,rfl,au h⟩) a))
end
end HT
namespace L2
abbrev TO:=St->Hp->(O4 Int->Hp->Prop)->Prop
def PO(X:Cx)(e:O4 Pu)(t:TO):Prop:=
 ∀(a:Oo (Pb×Obj))(s:Pa)(b:St)(H:Hp)(Q:O4 Int->Hp->Prop),me X a b H s->t b H Q->
  wpAny (model X.prog X.w) X.A (evalPart e X.env) (fun u f=>∃o d,me X a b d f/\IsPart u o/\Q o d) X.xe s
noncomputable def Ud:TO:=fun _ H Q=>Q none H
noncomputable def P7(t:TE):TO:=fun a H Q=>t a H fun x b=>∃i,x=.int i/\Q (ε i) b
def OJ:∀{us:Oo Ou},mf (ns.map V.int) us->IntsAre us ns:=by
 induction ns with
 | nil=>intro us r;rw[Xi]at r;cases r;exact .nil
 | cons n ns ih=>
  intro us r;rw[Uu]at r;cases r with
  | cons b a=>obtain⟨t,e⟩:=b;subst e;exact .cons n t (ih a)
section
variable{X:Cx}{e:Pu}{te:TE}{lo hi:O4 Pu}{c d:TO}{pos f:Pos}
def Yc:PO X none Ud:=by intro a s b H Q I h;rw[evalPart_none];exact au ⟨none,H,I,.none,h⟩
def Zc(h:PE X e te):PO X (ε e) (P7 te):=by
 intro a s b H Q I hw;rw[evalPart_some];refine CB (h a s b H _ I hw) fun u n g=>?_
 obtain⟨x,m,k,j,q1⟩:=g;obtain⟨i,rfl,q⟩:=q1;obtain⟨t,rfl⟩:=j;exact⟨ε i,m,k,.int i t,q⟩
def Z2(X:Cx)(r:V->O4 Int->O4 Int->Hp->VK->Prop):Prop:=
 ∀(a:Oo (Pb×Obj))(s:Pa)(b:St)(H:Hp)(x:V)(v h g:Ou)(lo hi:O4 Int)(i:Pb)(Q:VK),me X a b H s->ml x v->s.heap.IsSliceOf i h g .none->IsPart h lo->IsPart g hi->r x lo hi H Q->
  ∃T j,typeLookup (.type T) "__getitem__" =pure (ε (.builtin j))/\s.TypeIs v T/\wpAny (model X.prog X.w) X.A (getItem v (.ref i)) (EP X a b Q) X.xe s
noncomputable def tSl(r:V->O4 Int->O4 Int->Hp->VK->Prop)(te:TE)(c d:TO):TE:=fun a H Q=>te a H fun x h=>c a h fun l g=>d a g fun u b=>r x l u b Q
def lX(E:Z2 X r)(he:PE X e te)(F:PO X lo c)(C:PO X hi d):PE X (.Subscript e (.Slice lo hi none f) pos) (tSl r te c d):=by
 intro a s i H Q I h;refine Subscript_ (CB (he a s i H _ I h) fun v p m=>?_);obtain⟨x,U,R,y,q1⟩:=m;refine wpAny_Slice (CB (F a p i U _ R q1) fun k o ⟨l,S,P,pl,q2⟩=>CB (C a o i S _ P q2) fun j g m=>?_);obtain⟨u,n,O,B,q3⟩:=m;rw[evalPart_none];refine au ?_;have M:me X a i n { g with heap:=g.heap.push { cls:=.type "slice",data:=.fields #[k,j,.none] } }:=O.kept (t':=g.toks) fun b ob q=>cg _ q
 obtain⟨T,W,L,D,J⟩:=E a { g with heap:=g.heap.push { cls:=.type "slice",data:=.fields #[k,j,.none] } } i n x v k j l u g.heap.objs.size Q M y (Heap.IsSliceOf.new ..) pl B q3;show wpAny (model X.prog X.w) X.A (subscriptTail e (.Slice lo hi none f) v (.ref g.heap.objs.size)) (EP X a i Q) X.xe { g with heap:=g.heap.push { cls:=.type "slice",data:=.fields #[k,j,.none] } };exact tail_any (ops:=[.ref g.heap.objs.size,v]) D L J (by unhygienic rfl)
def DH(xs:Oo V)(lo hi:O4 Int):Oo V:=(xs.drop (HT.sIx xs.length 0 lo)).take (HT.sIx xs.length xs.length hi-HT.sIx xs.length 0 lo)
def GV(xs)(lo hi):(DH xs lo hi).length<=xs.length:=by unfold DH;rw[Di,length_drop];omega
def P4(K:Ra):V->O4 Int->O4 Int->Hp->VK->Prop:=fun x lo hi H Q=>∃a b,x=.ref a/\YG K H a b/\
 ¬(HT.sIx b.length 0 lo=0/\HT.sIx b.length b.length hi=b.length)/\∀p,H p=none->Q (.ref p) (xB H p (.tup (DH b lo hi)))
def J7:Z2 X (P4 X.K):=by
 intro k s B H x v D C lo hi E Q I p hs pl u h;obtain⟨a,i,rfl,y,hw,q⟩:=h;cases p;obtain⟨j,r,n,m⟩:=I.tuple y;have g:j.toArray.size=i.length:=by rw[cu];exact r.length.symm
 refine⟨"tuple",_,PyProof.Rows.slot_tuple_getitem.lookup,n.typeIs,?_⟩;refine HT.kg n hs pl u (by rw[g];exact hw) ?_ (by rw[g];exact m);rw[g];refine⟨.ref s.heap.objs.size,_,I.laid (t':=s.toks) (o:=.tup (DH i lo hi)) (fun b ob q=>cg _ q) (Va _) ?_,rfl,q _ (I.hok.fresh (Va _))⟩;exact⟨uq (GV i lo hi) m,_,(r.drop (HT.sIx i.length 0 lo)).take (HT.sIx i.length i.length hi-HT.sIx i.length 0 lo),IsTup.new _ _⟩
def y8(K:Ra):R2:=fun x y H Q=>∃a b h g,x=.ref a/\y=.ref b/\YG K H a h/\YG K H b g/\h ≠ []/\h.length+g.length<=sizeLine/\
 (g=[]->Q (.ref a) H)/\(g ≠ []->∀p,H p=none->Q (.ref p) (xB H p (.tup (h++g))))
def mf.hH(r:mf xs us):us=[]↔xs=[]:=by
 cases r with
 | nil=>simp
 | cons _ _=>simp
def Wh:mx X (binaryOp .Add) (y8 X.K):=by intro j s L H x y v u Q I B r h;obtain⟨a,b,p,n,rfl,rfl,J,F,E,m,q1,q2⟩:=h;cases B;cases r;obtain⟨D,i,C,_⟩:=I.tuple J;obtain⟨k,g,f,_⟩:=I.tuple F;refine HT.kf C f (fun z=>E (i.hH.mp z)) (fun z=>⟨.ref a,H,I,rfl,q1 (g.hH.mp z)⟩) (fun z=>?_) (by rw[<- i.length,<- g.length];exact m);refine⟨.ref s.heap.objs.size,_,I.laid (t':=s.toks) (o:=.tup (p++n)) (fun b ob q=>cg _ q) (Va _) ?_,rfl,q2 (fun w=>z (g.hH.mpr w)) _ (I.hok.fresh (Va _))⟩;exact⟨by rw[jj];exact m,_,i.append g,IsTup.new _ _⟩
end
noncomputable def gI(n:Nat)(i:Int):O4 Nat:=if 0<=i then(if i<n then ε i.toNat else none)else if -(n:Int)<=i then ε (i+n).toNat else none
def atI{α:Type}(xs:Oo α)(i:Int):O4 α:=(gI xs.length i).bind fun j=>xs[j]?
def ZX(h:gI n i=ε j):seqIndex? i n=ε j/\j<n/\-(n:Int)<=i/\i<n:=by
 unfold gI at h;by_cases b:0<=i
 . rw[eG b]at h;by_cases a:i<n
   . rw[eG a]at h;have e:i.toNat=j:=uo h;exact⟨by rw[seqIndex_of b a,e],by omega,by omega,a⟩
   . rw[eH a]at h;cases h
 . rw[eH b]at h;by_cases a:-(n:Int)<=i
   . rw[eG a]at h;have e:(i+n).toNat=j:=uo h;exact⟨by rw[seqIndex_neg nofun a,e],by omega,a,by omega⟩
   . rw[eH a]at h;cases h
def eS(h:atI xs i=ε v):∃j,seqIndex? i xs.length=ε j/\xs[j]?=ε v/\j<xs.length/\-(xs.length:Int)<=i/\i<xs.length:=by
 unfold atI at h;cases e:gI xs.length i with
 | none=>rw[e]at h;cases h
 | some j=>rw[e]at h;obtain⟨g,f,d,b⟩:=ZX e;exact⟨j,g,h,f,d,b⟩
def PD{xs:Oo a}{j:Nat}{v:a}(h:xs[j]?=ε v):atI xs (j:Int)=ε v:=by
 have b:j<xs.length:=(Xa h).1;have e:gI xs.length (j:Int)=ε j:=by unfold gI;rw[eG nofun,eG nofun];simp
 unfold atI;rw[e];exact h
def fY(b:Pu):Prop:=∀o i,subscripted b false o i=operate [o,i] (getItem o i)
def IxR(X:Cx)(r:R2):Prop:=
 ∀(d a:Pu)(b:Oo (Pb×Obj))(s:Pa)(e:St)(H:Hp)(x y:V)(v u:Ou)(Q:VK),me X b e H s->ml x v->ml y u->r x y H Q->
  subscripted a false v u=operate [v,u] (getItem v u)->wpAny (model X.prog X.w) X.A (subscriptTail d a v u) (EP X b e Q) X.xe s
def MtR(X:Cx)(f:String)(r:V->Oo V->Hp->VK->Prop):Prop:=
 ∀(a:Oo (Pb×Obj))(s:Pa)(b:St)(H:Hp)(x:V)(d:Oo V)(v:Ou)(e:Oo Ou)(Q:VK),me X a b H s->ml x v->mf d e->r x d H Q->
  wpAny (model X.prog X.w) X.A (call (.builtin f) (v::e)) (EP X a b Q) X.xe s
section
variable{X:Cx}{a b:Pu}{F E:TE}{pos:Pos}
def IxR.or(h:IxR X r)(h':IxR X k):IxR X (fun x y H Q=>r x y H Q\/k x y H Q):=by
 intro d e f s g H x y v u Q I j i q hs;rcases q with q | q
 . exact h d e f s g H x y v u Q I j i q hs
 . exact h' d e f s g H x y v u Q I j i q hs
def j8(j:IxR X r)(m:PE X a F)(k:PE X b E)(hs:fY b):PE X (.Subscript a b pos) (mU r F E):=by intro d s e H Q I h;exact Subscript_ (rQ m k I h fun v u f x y o n i g q=>j a b d f e o x y v u Q n i g q (hs _ _))
def gU(K:Ra):R2:=fun x y H Q=>∃p d i v,x=.ref p/\y=.int i/\mv K H p d/\atI d i=ε v/\Q v H
def iU(K:Ra):R2:=fun x y H Q=>∃p d i v,x=.ref p/\y=.int i/\YG K H p d/\atI d i=ε v/\Q v H
def hU:R2:=fun x y H Q=>∃z i c,x=.str z/\y=.int i/\z.length<=sizeLine/\atI z.cps.toList i=ε c/\Q (.str ⟨#[c]⟩) H
def ki:IxR X (gU X.K):=by
 intro g k d s B H x y v u Q I M L h hs;obtain⟨p,W,i,z,rfl,rfl,O,R,q⟩:=h;cases M;obtain⟨t,rfl⟩:=L;obtain⟨n,r,pl,Y⟩:=I.list O;obtain⟨j,f,U,h3,T,S⟩:=eS R;obtain⟨w,D,m⟩:=r.get U;have P:=r.length;have Z:=gK;have e:EP X d B Q w s:=⟨z,H,I,m,q⟩;by_cases C:0<=i
 . have o:i.toNat=j:=by rw[seqIndex_of C S]at f;exact uo f
   exact item_listR pl.isList C nofun (by rw[o];simpa using D) e hs
 . have o:(i+(n.toArray.size:Int)).toNat=j:=by rw[seqIndex_neg nofun T]at f;rw[cu,<- P];exact uo f
   exact subscriptTail_builtinR (x:=w) pl.isList.typeIs slot_list_getitem.lookup
    (wpAny_getItem_list_neg (Q:=fun r J=>r=w/\EP X d B Q r J) pl.isList nofun (by rw[cu]<;>omega) nofun (by rw[o];simpa using D) ⟨rfl,e⟩) hs
def km:IxR X (iU X.K):=by
 intro e f d s m H x y v u Q I B o h hs;obtain⟨p,R,i,z,rfl,rfl,D,L,q⟩:=h;cases B;obtain⟨t,rfl⟩:=o;obtain⟨C,r,pl,S⟩:=I.tuple D;obtain⟨j,O,M,Y,W,U⟩:=eS L;obtain⟨w,P,g⟩:=r.get M;have J:=r.length;have T:=gK;have k:EP X d m Q w s:=⟨z,H,I,g,q⟩;exact subscriptTail_builtinR (x:=w) pl.typeIs slot_tuple_getitem.lookup
  (getItem_tuple (j:=j) (Q:=fun r n=>r=w/\EP X d m Q r n) pl nofun nofun (by rw[cu,<- J];exact O) (by simpa using P) ⟨rfl,k⟩) hs
def Ep:IxR X hU:=by
 intro d e f s D H x y v u Q I m k h hs;obtain⟨z,i,c,rfl,rfl,L,o,q⟩:=h;obtain⟨t,rfl⟩:=m;obtain⟨J,rfl⟩:=k;obtain⟨j,g,B,O,r,p⟩:=eS o;have n:z.cps.toList.length=z.length:=by simp[Str.length]
 rw[n]at g r p;have M:=gK;exact tail_any (typeIs_str s z t) slot_str_getitem.lookup (getItem_str (c:=c) (by
  have C:decide (i < -(2^63:Int))=false:=iu nofun;have e2:decide (i >=2^63)=false:=iu nofun;rw[C,e2,Bool.or_false]) (by rw[g];simpa using B) ⟨.str ⟨#[c]⟩,H,I.tok _,⟨_,rfl⟩,q⟩) hs
def rIx(K:Ra):R2:=fun x y H Q=>gU K x y H Q\/iU K x y H Q\/hU x y H Q
def Dp:IxR X (rIx X.K):=ki.or (km.or Ep)
def Fq (its:Oo Ou) (n j) (u):Obj.mapSeq (·.setIfInBounds j u) { cls:=.type "list",data:=.seq its.toArray n }={ cls:=.type "list",data:=.seq (its.set j u).toArray n }:=by simp[Obj.mapSeq]
def me.lst(I:me X d f H s)(h:H p=ε (.lst xs)) :
 ∃its n,mf xs its/\s.heap.get? p=ε { cls:=.type "list",data:=.seq its.toArray n }/\xs.length<=sizeLine:=by
 obtain⟨z,its,n,r,e⟩:=I.hok p _ h;exact⟨its,n,r,e,z⟩
def me.ko{its its':Oo Ou}(I:me X d g H s)(h:H p=ε (.lst xs))
 (j:s.heap.get? p=ε { cls:=.type "list",data:=.seq its.toArray n }) (i:f { cls:=.type "list",data:=.seq its.toArray n }={ cls:=.type "list",data:=.seq its'.toArray n' }) (r:mf ys its') (hz:ys.length<=sizeLine) (t) :
 me X d g (xB H p (.lst ys)) { s with heap:=s.heap.update p f,toks:=t }:=by
 have e:(s.heap.update p f).get? p=ε { cls:=.type "list",data:=.seq its'.toArray n' }:=by rw[Gs f j (by rw[i]<;>rfl),i]
 refine I.write (x:=p) (e:=p) (by rw[h];trivial) (.inl rfl) (fun b u k q=>(xu _ _ (n7 k)).trans q) ⟨_,e⟩ ?_;exact⟨hz,its',n',r,e⟩
def z8:V->V->V->Hp->(Hp->Prop)->Prop:=fun o i v H Q=>∃p d k j,o=.ref p/\i=.int k/\H p=ε (.lst d)/\gI d.length k=ε j/\Q (xB H p (.lst (d.set j v)))
def Dh:XT X z8:=by
 intro d s J H o i v T U u Q I O P M h;obtain⟨p,L,k,j,rfl,rfl,hp,S,q⟩:=h;cases O;obtain⟨t,rfl⟩:=P;obtain⟨e,n,r,g,R⟩:=I.lst hp;obtain⟨f,Y,B,y⟩:=ZX S;have m:=r.length;have W:=gK;have D:me X d J (xB H p (.lst (L.set j v))) { s with heap:=s.heap.update p (Obj.mapSeq (·.setIfInBounds j u)) }:=
  I.ko hp g (Fq e n j u) (r.set M j) (by rw[Le];exact R) s.toks
 by_cases C:0<=k
 . have x:k.toNat=j:=by rw[seqIndex_of C y]at f;exact uo f
   exact PySem.W.ki_setAt g C nofun (by rw[cu,<- m];exact y) (by rw[x];exact⟨_,D,q⟩)
 . have x:(k+(e.toArray.size:Int)).toNat=j:=by rw[seqIndex_neg nofun B]at f;rw[cu,<- m];exact uo f
   exact PySem.W.ki_setBack g nofun (by rw[cu,<- m];exact B) nofun (by rw[x];exact⟨_,D,q⟩)
def jq(lo hi)(n):(sliceBounds lo hi none n).1=((HT.sIx n 0 lo:Nat):Int)/\(sliceBounds lo hi none n).2.1=((HT.sIx n n hi:Nat):Int)/\(sliceBounds lo hi none n).2.2=1:=by
 have q:∀(i:Int)(d:Nat),max 0 (min (if i<0 then i+n else i) (n:Int))=((HT.sIx n d (ε i):Nat):Int):=fun i d=>by
  rw[<- HT.hF i n d];by_cases h:i<0
  . rw[eG h,eG h,Int.min_eq_left (show i+n<=(n:Int) by omega),Int.max_comm]
  . rw[eH h,eH h,Int.max_eq_right (Int.le_min.mpr ⟨Int.not_lt.mp h,Int.natCast_nonneg n⟩)]
 refine⟨?_,?_,rfl⟩
 . cases lo with
   | none=>rfl
   | some i=>exact q i 0
 . cases hi with
   | none=>rfl
   | some i=>exact q i n
def X9(its:Oo Ou)(lo hi):slicePick its.toArray lo hi none=((its.drop (HT.sIx its.length 0 lo)).take (HT.sIx its.length its.length hi-HT.sIx its.length 0 lo)).toArray:=by obtain⟨f,e,d⟩:=jq lo hi its.toArray.size;unfold slicePick;rw[f,e,d];simp![sliceRange_one,pick_run,cu]<;>rfl
def N4(K:Ra):V->O4 Int->O4 Int->Hp->VK->Prop:=fun x e f H Q=>∃a d,x=.ref a/\mv K H a d/\∀p,H p=none->Q (.ref p) (xB H p (.lst (DH d e f)))
def Kd:Z2 X (N4 X.K):=by intro i s y H x v C B f g D Q I k hs pl m h;obtain⟨a,d,rfl,u,q⟩:=h;cases k;obtain⟨n,r,j,p⟩:=I.list u;have e:=r.length;refine⟨"list",_,slot_list_getitem.lookup,j.isList.typeIs,?_⟩;refine wpAny_getItem_list_slice j.isList hs pl m .none ⋯ ?_ (by rw[cu]<;>omega);rw[X9,<- e];refine⟨.ref s.heap.objs.size,_,I.laid (t':=s.toks) (o:=.lst (DH d f g)) (fun b ob q=>cg _ q) (Va _) ?_,rfl,q _ (I.hok.fresh (Va _))⟩;exact⟨uq (GV d f g) p,_,0,(r.drop (HT.sIx d.length 0 f)).take (HT.sIx d.length d.length g-HT.sIx d.length 0 f),ju _ rfl⟩
noncomputable def QG:V->Bool
 | .non=>true
 | .bl _=>true
 | .int _=>true
 | .str _=>true
 | _=>false
noncomputable def jN:V->V->Bool
 | .non,.non=>true
 | .bl a,.bl b=>a==b
 | .bl a,.int b=>(if a then 1 else 0)==b
 | .int a,.bl b=>a==(if b then 1 else 0)
 | .int a,.int b=>a==b
 | .str a,.str b=>a==b
 | _,_=>false
def Il(f:ml y u)(d:ml x v)(fy:QG y=true)(g:QG x=true):SeqAt.EqAt A s u v (jN y x):=by
 cases y with
 | non=>
  cases f;cases x with
  | non=>cases d;exact SeqAt.EqAt.same _
  | bl b=>cases d;exact SeqAt.EqAt.none_bool b
  | int b=>obtain⟨t,rfl⟩:=d;exact SeqAt.EqAt.none_int b t
  | str b=>obtain⟨t,rfl⟩:=d;exact SeqAt.EqAt.none_str b t
  | _=>exact Es (show false=true from g) Xe
 | bl a=>
  cases f;cases x with
  | non=>cases d;exact SeqAt.EqAt.bool_none a
  | bl b=>cases d;exact SeqAt.EqAt.bool_bool a b
  | int b=>obtain⟨t,rfl⟩:=d;exact SeqAt.EqAt.bool_int a b t
  | str b=>obtain⟨t,rfl⟩:=d;exact SeqAt.EqAt.bool_str a b t
  | _=>exact Es (show false=true from g) Xe
 | int a=>
  obtain⟨e,rfl⟩:=f;cases x with
  | non=>cases d;exact SeqAt.EqAt.int_none a e
  | bl b=>cases d;exact SeqAt.EqAt.int_bool a e b
  | int b=>obtain⟨t,rfl⟩:=d;exact SeqAt.EqAt.int_int a e b t
  | str b=>obtain⟨t,rfl⟩:=d;exact SeqAt.EqAt.int_str a e b t
  | _=>exact Es (show false=true from g) Xe
 | str a=>
  obtain⟨e,rfl⟩:=f;cases x with
  | non=>cases d;exact SeqAt.EqAt.str_none a e
  | bl b=>cases d;exact SeqAt.EqAt.str_bool a e b
  | int b=>obtain⟨t,rfl⟩:=d;exact SeqAt.EqAt.str_int a e b t
  | str b=>obtain⟨t,rfl⟩:=d;exact SeqAt.EqAt.str_str a e b t
  | _=>exact Es (show false=true from g) Xe
 | _=>exact Es (show false=true from fy) Xe
def dI(x:V)(u:Ou):Bool:=match u with
 | .none=>jN .non x
 | .bool b=>jN (.bl b) x
 | .int i _=>jN (.int i) x
 | .str z _=>jN (.str z) x
 | _=>false
def vZ(r:ml y u)(f:QG y=true):dI x u=jN y x:=by
 cases y with
 | non=>cases r;rfl
 | bl b=>cases r;rfl
 | int i=>obtain⟨t,rfl⟩:=r;rfl
 | str z=>obtain⟨t,rfl⟩:=r;rfl
 | _=>exact Es (show false=true from f) Xe
theorem ZL:∀{xs:Oo V}{us:Oo Ou},mf xs us->xs.all QG=true->us.any (dI x)=xs.any fun y=>jN y x
 | _,_,.nil,_=>rfl
 | y::xs,u::us,.cons r t,f=>by rw[La,w6]at f;rw[Ku,Ku,vZ r f.1,ZL t f.2]
theorem PL(d:ml x v)(e:QG x=true):∀{xs:Oo V}{us:Oo Ou},mf xs us->xs.all QG=true->∀u∈us,SeqAt.EqAt A s u v (dI x u)
 | _,_,.nil,_=>fun u hu=>by cases hu
 | y::xs,u::us,.cons r t,f=>fun g hu=>by
  rw[La,w6]at f;rcases Bu.mp hu with rfl | hu
  . rw[vZ r f.1];exact Il r d f.1 e
  . exact PL d e t f.2 g hu
def gQ(x:V)(xs:Oo V):Bool:=xs.any fun y=>jN y x
def M4(K:Ra)(neg:Bool):R2:=fun x y H Q=>∃p d,y=.ref p/\(mv K H p d\/YG K H p d)/\QG x=true/\d.all QG=true/\Q (.bl (if neg then !gQ x d else gQ x d)) H
def Tz:mx X (compareOp .In) (M4 X.K false):=by
 intro f s k H x y v u Q I e i h;obtain⟨p,m,rfl,hq,g,fs,q⟩:=h;cases i;rcases hq with hq | hq
 . obtain⟨d,r,pl,j⟩:=I.list hq;refine SeqAt.in_listAt (dI x) pl.isList (fun w hw=>PL e g r fs w (by simpa using hw)) ⟨.bl _,H,I,rfl,?_⟩;rw[show d.toArray.any (dI x)=d.any (dI x) by simp,ZL r fs];exact q
 . obtain⟨d,r,pl,j⟩:=I.tuple hq;refine SeqAt.in_tupleAt (dI x) pl (fun w hw=>PL e g r fs w (by simpa using hw)) ⟨.bl _,H,I,rfl,?_⟩;rw[show d.toArray.any (dI x)=d.any (dI x) by simp,ZL r fs];exact q
def wj:mx X (compareOp .NotIn) (M4 X.K true):=by
 intro f s k H x y v u Q I e i h;obtain⟨p,m,rfl,hq,g,fs,q⟩:=h;cases i;rcases hq with hq | hq
 . obtain⟨d,r,pl,j⟩:=I.list hq;refine SeqAt.notIn_listAt (dI x) pl.isList (fun w hw=>PL e g r fs w (by simpa using hw)) ⟨.bl _,H,I,rfl,?_⟩;rw[show d.toArray.any (dI x)=d.any (dI x) by simp,ZL r fs];exact q
 . obtain⟨d,r,pl,j⟩:=I.tuple hq;refine SeqAt.notIn_tupleAt (dI x) pl (fun w hw=>PL e g r fs w (by simpa using hw)) ⟨.bl _,H,I,rfl,?_⟩;rw[show d.toArray.any (dI x)=d.any (dI x) by simp,ZL r fs];exact q
def Fj:ah X (.builtin "len") (fun i H Q=>∃p e,i=[.ref p]/\(mv X.K H p e\/YG X.K H p e)/\Q (.int e.length) H):=by
 intro j s n H i o Q I r h;obtain⟨p,e,rfl,hq,q⟩:=h;obtain⟨u,rfl,k⟩:=qF r;cases k;have x:=gK;rcases hq with hq | hq
 . obtain⟨g,f,pl,m⟩:=I.list hq;have d:=f.length;exact Calls.call_len_list pl.isList (by simp![cu]<;>omega) ⟨.int e.length,H,I.tok _,⟨s.toks+1,by rw[cu,d]⟩,q⟩
 . obtain⟨g,f,pl,m⟩:=I.tuple hq;have d:=f.length;exact len_tuple pl (by simp![cu]<;>omega) ⟨.int e.length,H,I.tok _,⟨s.toks+1,by rw[cu,d]⟩,q⟩
def Gj:ah X (.builtin "len") (fun d H Q=>∃z,d=[.str z]/\z.length<=sizeLine/\Q (.int z.length) H):=by intro e s f H d g Q I r h;obtain⟨z,rfl,i,q⟩:=h;obtain⟨u,rfl,t,rfl⟩:=qF r;have j:=gK;exact len_str nofun ⟨.int z.length,H,I.tok _,⟨_,rfl⟩,q⟩
def ah.or(h:ah X f r)(h':ah X f k):ah X f (fun e H Q=>r e H Q\/k e H Q):=by
 intro d s g H e i Q I j q;rcases q with q | q
 . exact h d s g H e i Q I j q
 . exact h' d s g H e i Q I j q
def SU:ah X (.type "list") (fun D H Q=>∃p g,D=[.ref p]/\(mv X.K H p g\/YG X.K H p g)/\∀l,H l=none->Q (.ref l) (xB H l (.lst g))):=by
 intro k s L H D O Q I r h;obtain⟨p,g,rfl,hq,q⟩:=h;obtain⟨u,rfl,M⟩:=qF r;cases M;have y:∀(d:Oo Ou),mf g d->g.length<=sizeLine->∀(f:Te)(j:Nat),(∀b J,s.heap.get? b=ε J->f.get? b=ε J)->
  f.get? s.heap.objs.size=ε { cls:=.type "list",dict:=none,data:=.seq d.toArray j,slots:=#[] }->EP X k L Q (.ref s.heap.objs.size) { s with heap:=f }:=fun d i m f j kp e=>
  ⟨.ref s.heap.objs.size,_,I.laid (t':=s.toks) kp (Va _) (show Zi X.prog X.w _ f _ (.lst g)from⟨m,d,j,i,e⟩),rfl,q _ (I.hok.fresh (Va _))⟩
 rcases hq with hq | hq
 . obtain⟨d,i,pl,m⟩:=I.list hq;have x:=i.length;obtain⟨o,B,C,n,hd⟩:=pl.isList;exact call_list_seq p (.inl rfl) B C hd (fun f j kp e=>y d i m f j kp e) (by simp![cu]<;>omega)
 . obtain⟨d,i,pl,m⟩:=I.tuple hq;have x:=i.length;obtain⟨o,B,C,n,hd⟩:=pl;exact call_list_seq p (.inr rfl) B C hd (fun f j kp e=>y d i m f j kp e) (by simp![cu]<;>omega)
def K5(K:Ra)(T:String)(x:V)(H:Hp):Prop:=match x with
 | .str _=>T = "str"
 | .int _=>T = "int"
 | .ref p=>(T = "list" /\ ∃e,mv K H p e)\/(T = "tuple" /\ ∃o,K.lookup p=ε o/\o.cls=.type "tuple" /\ o.dict=none)\/
  (T = "dict" /\ ((∃d,H p=ε (.dK d))\/∃d,H p=ε (.dT d)))\/(T = "set" /\ ∃S n,H p=ε (.set S n))
 | _=>False
def C6(I:me X f j H s)(r:ml x v)(g:K5 X.K T x H) :
 s.TypeIs v T/\∀a,v=.ref a->∃ob,s.heap.get? a=ε ob/\ob.dict=none:=by
 cases x with
 | str z=>obtain⟨t,rfl⟩:=r;cases (show T = "str" from g);exact⟨typeIs_str s z t,fun y e=>nomatch e⟩
 | int i=>obtain⟨t,rfl⟩:=r;cases (show T = "int" from g);exact⟨typeIs_int s i t,fun y e=>nomatch e⟩
 | ref p=>
  cases r;rcases g with⟨rfl,u,m⟩ | ⟨rfl,o,d,q,hd⟩ | ⟨rfl,d⟩ | ⟨rfl,S,n,d⟩
  . obtain⟨k,_,pl,_⟩:=I.list m;refine⟨pl.isList.typeIs,fun a e=>?_⟩;cases e;obtain⟨o,n,e,c,hd,_⟩:=pl;exact⟨o,e,hd⟩
  . refine⟨⟨o,I.kIn p o d,q⟩,fun a e=>?_⟩;cases e;exact⟨o,I.kIn _ o d,hd⟩
  . have z:∃o,s.heap.get? p=ε o/\o.ExactDict:=by
     rcases d with⟨h,d⟩ | ⟨h,d⟩
     . obtain⟨_,_,_,_,o,_,_,e,ex,_⟩:=I.hok p _ d;exact⟨o,e,ex⟩
     . obtain⟨_,_,_,_,o,_,_,e,ex,_⟩:=I.hok p _ d;exact⟨o,e,ex⟩
    obtain⟨o,e,ex⟩:=z;refine⟨⟨o,e,ex.1⟩,fun a e2=>?_⟩;cases e2;exact⟨o,e,ex.2.1⟩
  . obtain⟨o,_,_,_,e,ex,_⟩:=I.hok p _ d;refine⟨⟨o,e,ex.1⟩,fun a e2=>?_⟩;cases e2;exact⟨o,e,ex.2.1⟩
 | _=>exact Fo g
noncomputable def tBM(K:Ra)(T:String)(r:V->Oo V->Hp->VK->Prop)(C:TE)(t:TA):TE:=fun d H Q=>C d H fun x e=>K5 K T x e/\t d e fun f g=>r x f g Q
variable{o e:Pu}{m:Oo Pu}{C:TE}{t:TA}{name:Str}{B g:Pos}{T D:String}{r:V->Oo V->Hp->VK->Prop}
def xT (U:PlainAttrs T) (slot:Slot T name D) (p:typeOf (.builtin D)=pure (.type "method_descriptor")) (Y:MtR X D r) (W:PE X o C) (Z:PA X (e::m) t)
 (j:autoParam (attributeBase o name X.env (eval o X.env)=eval o X.env) Æ)
 (k:((backTo g (starEach (e::m) X.env)).all (fun x=>!x.1)&&(backToKw g (keywordEach [] X.env)).all (fun x=>x.1.isSome)
  && decide ((e::m).length+([]:Oo Keyword).length+(if([]:Oo Keyword).isEmpty then 0 else 1)<30))=true:=by rfl)
 (i:autoParam ((B.endLine==g.line)=true) Æ) (hs:autoParam (starEach (e::m) X.env=(false,eval e X.env)::starEach m X.env) Æ) (f:autoParam ((backTo g (starEach m X.env)).any (·.1)=false) Æ) :
 PE X (.Call (.Attribute o name B) (e::m) [] g) (tBM X.K T r C t):=by
 intro d s n H Q I h;refine wpAny_Call_method_late j k i rfl (CB (W d s n H _ I h) fun v R J=>?_);obtain⟨x,H1,y,q,O,q1⟩:=J;obtain⟨h1,h2⟩:=C6 y q O;refine⟨T,D,U,slot,p,h1,h2,?_⟩;have u:=Z g d R n H1 _ y q1;rw[hs]at u ⊢;refine Calls.callWith_builtin (by show(false || (backTo g (starEach m X.env)).any (·.1))=false;rw[f]<;>rfl) (Calls.evalArgs_plain ?_);exact CB u fun M P ⟨L,H2,I2,S,q2⟩=>Y d P n H2 x L v M Q I2 q S q2
end
def V2(X:Cx)(f:String)(r:V->Oo V->Hp->VK->Prop):Prop:=
 ∀(a:Oo (Pb×Obj))(s:Pa)(b:St)(H:Hp)(x:V)(d:Oo V)(v:Ou)(e:Oo Ou)(Q:VK),me X a b H s->ml x v->mf d e->r x d H Q->
  wpAny (model X.prog X.w) X.A (call (.builtin f) (v::e)) (EP X a b Q) X.xe s
theorem mf.one:∀{x:V}{us:Oo Ou},mf [x] us->∃u,us=[u]/\ml x u
 | _,_,.cons r .nil=>⟨_,rfl,r⟩
theorem mf.zero:∀{us:Oo Ou},mf [] us->us=[]
 | _,.nil=>rfl
def mf.dropLast(h:mf xs us):mf xs.dropLast us.dropLast:=by
 induction h with
 | nil=>exact .nil
 | cons r t ih=>
  cases t with
  | nil=>exact .nil
  | cons q a=>exact .cons r ih
theorem mf.eraseIdx:∀{xs:Oo V}{us:Oo Ou}(i:Nat),mf xs us->mf (xs.eraseIdx i) (us.eraseIdx i)
 | _,_,_,.nil=>.nil
 | _,_,0,.cons _ t=>t
 | _,_,i+1,.cons r t=>.cons r (mf.eraseIdx i t)
def mf.reverse(h:mf xs us):mf xs.reverse us.reverse:=by
 induction h with
 | nil=>exact .nil
 | cons r t ih=>rw[reverse_cons,reverse_cons];exact mf.append ih (.cons r .nil)
theorem mf.rep(h:mf xs us):∀k,mf (List.replicate k xs).flatten (List.replicate k us).flatten
 | 0=>.nil
 | k+1=>by rw[Ls,Ls,flatten_cons,flatten_cons];exact mf.append h (mf.rep h k)
theorem kW{a:Type}:∀(l:Oo a)(i:Nat),(l.eraseIdx i).length<=l.length
 | [],_=>Va _
 | _::_,0=>Nat.le_succ _
 | _::r,i+1=>Nat.succ_le_succ (kW r i)
theorem hW(its:Oo Ou):∀k a,
 List.foldl (fun d b=>d++b) a.toArray (List.replicate k its.toArray)=(a++(List.replicate k its).flatten).toArray
 | 0,a=>by simp
 | k+1,a=>by
  have e:a.toArray++its.toArray=(a++its).toArray:=by simp
  have e2:(a++its)++(List.replicate k its).flatten=a++(List.replicate (k+1) its).flatten:=by rw[Ls,flatten_cons,tu]
  rw[<- e2,<- hW its k (a++its),<- e,Ls,foldl_cons]
section
variable{X:Cx}{a:Oo (Pb×Obj)}{c:St}{H:Hp}{s:Pa}{l b:Pb}{xs ys zs:Oo V}
def me.hI{its its':Oo Ou}(I:me X a c H s)(j:H l=ε (.lst xs))
 (e:s.heap.get? l=ε { cls:=.type "list",data:=.seq its.toArray n }) (h:f its.toArray=its'.toArray) (d:mf ys its') (hz:ys.length<=sizeLine) :
 me X a c (xB H l (.lst ys)) { s with heap:=s.heap.update l (Obj.mapSeq f),toks:=t' }:=by
 have q:=PySem.IsL.update e f;rw[h]at q;refine I.write (x:=l) (e:=l) (by rw[j];exact trivial) (.inl rfl) (fun k u i g=>(xu s.heap (Obj.mapSeq f) (n7 i)).trans g) ⟨_,q⟩ ?_;exact⟨hz,its',_,d,q⟩
def me.hL(I:me X a c H s)(d:mf ys its)(hz:ys.length<=sizeLine) :
 me X a c (xB H s.heap.objs.size (.lst ys)) { s with heap:=s.heap.push { cls:=.type "list",data:=.seq its.toArray },toks:=t' }:=
 I.laid (fun z z q=>cg _ q) (Va _) ⟨hz,its,0,d,ju _ rfl⟩
def me.fresh(I:me X a c H s):H s.heap.objs.size=none:=I.hok.fresh (Va _)
def me.fw (I:me X a c H s) (d:H l=ε (.lst xs)):xs.length<=sizeLine/\∃its n,mf xs its/\xs.length=its.length/\s.heap.get? l=ε { cls:=.type "list",data:=.seq its.toArray n }:=by obtain⟨z,its,n,r,e⟩:=I.hok l _ d;exact⟨z,its,n,r,r.length,e⟩
def AX(h:n<=sizeLine):Builtin.List.listTooLong n=false:=by unfold Builtin.List.listTooLong;exact iu nofun
end
section
variable{X:Cx}
def Wb:V->Oo V->Hp->VK->Prop:=fun x b H Q=>∃l a y,x=.ref l/\b=[y]/\H l=ε (.lst a)/\a.length<sizeLine/\Q .non (xB H l (.lst (a++[y])))
def mW:V2 X "list.append" Wb:=by intro b s j H x m v o Q I f g h;obtain⟨l,k,y,rfl,rfl,d,p,q⟩:=h;cases f;obtain⟨u,rfl,i⟩:=g.one;obtain⟨z,a,n,r,B,e⟩:=I.fw d;refine call_meets F.slot_list_append ⟨_,e,rfl⟩ F.entry_list_append (F.args_list_append_2 _ _) (PySem.list_append l a.toArray n u (by rw[cu];omega)) ⟨e,?_⟩;refine⟨.non,_,I.hI (its':=a++[u]) d e ⋯ (r.append (.cons i .nil)) ?_,rfl,q⟩;rw[jj,length_singleton];omega
def Xb:V->Oo V->Hp->VK->Prop:=fun x d H Q=>∃l b a zs,x=.ref l/\d=[.ref b]/\H l=ε (.lst a)/\H b=ε (.lst zs)/\a.length+zs.length<=sizeLine/\Q .non (xB H l (.lst (a++zs)))
def Nz:V2 X "list.extend" Xb:=by
 intro i s D H x L v M Q I k m h;obtain⟨l,b,J,zs,rfl,rfl,j,C,O,q⟩:=h;cases k;obtain⟨u,rfl,o⟩:=m.one;cases o;obtain⟨z,d,n,r,P,e⟩:=I.fw j;obtain⟨E,a,y,p,B,e2⟩:=I.fw C;have g:d.toArray.size+a.toArray.size<=sizeLine:=by rw[cu,cu];omega
 have f:¬(!d.toArray.isEmpty&&Builtin.List.listTooLong (d.toArray.size+a.toArray.size))=true:=by rw[AX g,Hu];exact Xe
 refine call_meets F.slot_list_extend ⟨_,e,rfl⟩ F.entry_list_extend (F.args_list_extend_2 _ _)
  (AutoSeq1.list_extend_list_list_0 l d.toArray n b a.toArray y f (by rw[cu];omega) nofun) ⟨e,e2,?_⟩
 refine⟨.non,_,I.hI (its':=d++a) j e ⋯ (r.append p) ?_,rfl,q⟩;rw[jj];omega
def C7:V->Oo V->Hp->VK->Prop:=fun x b H Q=>∃l a i k y,x=.ref l/\b=[.int i]/\H l=ε (.lst a)/\-(2^63)<=i/\i<2^63/\seqIndex? i a.length=ε k/\a[k]?=ε y/\Q y (xB H l (.lst (a.eraseIdx k)))
def Wy:V2 X "list.pop" C7:=by
 intro d s J H x L v M Q I j m h;obtain⟨l,g,i,k,y,rfl,rfl,f,E,D,C,p,q⟩:=h;cases j;obtain⟨u,rfl,o⟩:=m.one;obtain⟨t,rfl⟩:=o;obtain⟨z,a,n,r,B,e⟩:=I.fw f;obtain⟨w,hw,b⟩:=r.get p;refine call_meets F.slot_list_pop ⟨_,e,rfl⟩ F.entry_list_pop (F.args_list_pop_2 _ _)
  (MeetsSeq.list_pop_at l a.toArray n i t k w (fitsIndex_both E D) (by rw[cu,<- B];exact C) (by rw[<- Array.getElem?_toList];exact hw) (by rw[cu];omega)) ⟨e,?_⟩
 refine⟨y,_,I.hI (its':=a.eraseIdx k) f e ?_ (r.eraseIdx k) ?_,b,q⟩
 . show a.toArray.eraseIdxIfInBounds k=(a.eraseIdx k).toArray;rw[eraseIdxIfInBounds_toArray]
 . have:=kW g k;omega
def jU:R2:=fun x y H Q=>∃l k a,x=.ref l/\y=.int k/\H l=ε (.lst a)/\-(2^63)<=k/\k<2^63/\a.length*k.toNat<=sizeLine/\
 ∀p,H p=none->Q (.ref p) (xB H p (.lst (List.replicate k.toNat a).flatten))
def yr{a:Type}(xs:Oo a)(k):(List.replicate k xs).flatten.length=k*xs.length:=by
 induction k with
 | zero=>simp
 | succ k ih=>rw[Ls,flatten_cons,jj,ih,Nat.succ_mul,Nat.add_comm]
def EZ:mx X (binaryOp .Mult) jU:=by
 intro B s S H x y v u Q I J E h;obtain⟨l,k,W,rfl,rfl,M,P,O,C,q⟩:=h;cases J;obtain⟨t,rfl⟩:=E;obtain⟨z,b,n,r,L,e⟩:=I.fw M;have f:b.toArray.size*k.toNat<=sizeLine:=by rw[cu,<- L];exact C
 have i:¬b.toArray.size*k.toNat>(2^63-1)/8:=by
  have:(sizeLine:Nat)<=(2^63-1)/8:=by decide
  omega
 have g:¬(!Builtin.List.listFitsIndex k)=true:=by rw[fitsIndex_both P O];exact Xe
 have j:¬Builtin.List.listTooLong (b.toArray.size*k.toNat)=true:=by rw[AX f];exact Xe
 have d:List.foldl (fun p o=>p++o) #[] (List.replicate (if b.toArray.isEmpty=true then 0 else k.toNat) b.toArray)=(List.replicate k.toNat b).flatten.toArray:=by
  have R:∀m:Nat,List.foldl (fun p o=>p++o) #[] (List.replicate m b.toArray)=(List.replicate m b).flatten.toArray:=fun m=>by have:=hW b m [];rw[Ye]at this;exact this
  rw[R];cases b with
  | nil=>simp
  | cons a Y=>rw[eH ⋯]
 refine wpAny_binaryOp_repeat_ref (T := "list") (U := "int") (by decide) ⟨_,e,rfl⟩ (fun D=>typeIs_int D k t) noFill_list_mul F.fills_int_mul F.slot_int_rmul repeat_list F.slot_int_index.lookup
  (call_meets F.slot_int_rmul (typeIs_int s k t) F.entry_int_rmul (F.args_int_rmul_2 _ _) (int___rmul___int_list k t l b.toArray n)
   ⟨e,rfl,⟨_,e,rfl⟩,call_meets F.slot_list_mul ⟨_,e,rfl⟩ F.entry_list_mul (F.args_list_mul_2 _ _) (AutoListH.list___mul___list_int_3 l b.toArray n k t g i j) ⟨e,?_⟩⟩)
 rw[d];exact⟨.ref _,_,I.hL (t':=s.toks) (r.rep k.toNat) (by rw[yr,Nat.mul_comm];exact C),rfl,q _ I.fresh⟩
end
section
variable{prog:Ri}{w:Rr}{A:Ru}{E:Ou->Pa->Prop}{s:Pa}
end
section
variable{X:Cx}
end
end L2
namespace Att
open PySem.W PySem.Calls
def J9:∀ns vs,WellAll P h vs (ns.map WData.int)->IntsAre vs ns:=by
 intro ns
 induction ns with
 | nil=>intro vs w;rw[Xi]at w;cases w;exact .nil
 | cons n ns ih=>
  intro vs w;rw[Uu]at w;cases w with
  | cons a b=>cases a;exact .cons _ _ (ih _ b)
def Pk{l:OpenLaw}(C:l.most=ε n)
 (e:l.row.toRowW.claim.pre args=true) (k:WellAll P h b args) :
 ∃a o ns,b=[Value.ref a]/\args=[WData.list (ns.map WData.int)]/\h.get? a=ε { cls:=.type "list",data:=.seq o.toArray }/\IntsAre o ns/\ns.length<=n:=by
 have m:WShape.hasAll [] args [.list .int]=true:=(pre_splitW e).1;have p:l.pre.holds [] { args:=args }=true:=(pre_splitW e).2;obtain⟨d,r,rfl,F,E⟩:=hasAllW_cons m;obtain rfl:=hasAllW_nil E;obtain⟨H,rfl,D⟩:=hasW_list F;obtain⟨ns,rfl⟩:=items_int D;have f:ns.length<=n:=by
  unfold OpenLaw.pre at p;have j:(WTm.not (.lt (.lit (.int (n:Int))) (.len (.arg 0)))).holds [] { args:=[.list (ns.map .int)] }=true:=by have j:=(holds_andW p).1;rw[C]at j;exact j
  have i:=condW_of j (w_not (w_lt w_lit (w_len_list (w_arg rfl))));rw[ni]at i;refine Nat.le_of_not_lt fun q=>?_
  have y:(n:Int)<((ns.length:Nat):Int):=by omega
  first
   | (rw[je y]at i;exact Es i (by decide))
   | (simp at i;omega)
 cases k with
 | cons x u=>
  cases u;cases x with
  | list B g=>exact⟨_,_,ns,rfl,rfl,B,J9 ns _ g,f⟩
def wk(l:OpenLaw)(args):l.row.toRowW.claim.post args (.bool true) args=true:=
 postW_of (r:=l.row.toRowW) (X:=(true==true))
  (show WShape.has [] (.bool true) .bool=true by first | rfl | decide | simp[WShape.has,WShape.arms,WShape.armsAll])
  (show(WTm.eq .res (.lit (.bool true))).value [] { args:=args,res:=ε (.bool true),after:=args }=ε (.bool (true==true))from w_eq_bool (w_res rfl) w_lit) rfl
def kq{l:OpenLaw}
 (Q:l.most=ε n) (C:d.params.defaults=[])
 (call:∀(w:Rr)(s₀ b:Pa)(mg x:Str->O4 Ou)(fa:Pb)(o:Obj)(u p h:Ou)(a:Pb)(vs:Oo Ou)(ns:Oo Int),
  Ground q e [] L w s₀ mg x b.heap->J w b.heap->
  b.heap.get? fa=ε o->o.data=.func (docDef d.name d.params d.body d.scope u p h)->b.heap.CodeRec p d.name->mg d.name=ε (.ref fa)->
  b.heap.get? a=ε { cls:=.type "list",data:=.seq vs.toArray }->IntsAre vs ns->ns.length<=n->b.gens=#[]->
  codeAny (model l.prog w) callerA (.call (.ref fa) ⟨[.ref a],[]⟩) (fun r m=>r=.ok (.ret (.bool true))/\OldK b.heap m.heap/\m.os=b.os/\AllBare m.gens) b) :
 WalkO q e L J l.row.toRowW d [] (fun f vs=>PySem.call f vs):=by
 intro w s₀ b mg x G Y fa o u p h dV kV P hd D H B T I E as i F M y S;obtain rfl:dV=.none:=Dflts.none H C;obtain rfl:kV=.none:=Dflts.noKw H;obtain⟨a,vs,ns,rfl,rfl,j,g,k⟩:=Pk Q i y;refine enter_call (codeAny_mono (call w s₀ b mg x fa o u p h a vs ns G Y P (fd_plain hd) D B j g k T) fun r m O=>?_);obtain⟨rfl,Z,W,U⟩:=O;exact⟨.inl ⟨.bool true,.bool true,[],rfl,fun z=>rfl,.bool true,wk l _,fun z=>⟨List.Pairwise.nil,fun z R=>(nomatch R)⟩⟩,Z,W,U⟩
section
variable{prog:Ri}{w:Rr}{A:Ru}{E:Ou->Pa->Prop}{s:Pa}{K:Ra}
end
end Att
namespace L2
theorem gX:∀{vs:Oo Ou}{ns:Oo Int},IntsAre vs ns->mf (ns.map V.int) vs
 | _,_,.nil=>.nil
 | _,_,.cons n t h=>.cons ⟨t,rfl⟩ (gX h)
def nQ(H:Hp):Prop:=∀b,H b=none\/∃o a,H b=ε (.frz o (.lst a))
def Py{K:Ra}
 (KX:K.In s₁.heap) (E:s₁.heap.Ns mainGlobals mg) (f:s₁.heap.Ns builtinsNs Q) (T:∀x:Str,x ≠ "__name__" ->Q x=bootBuiltins x) (I:s₁.heap.NoLimit) (hg:s₁.gens=#[])
 (M:s₁.heap.get? a=ε { cls:=.type "list",data:=.seq vs.toArray }) (hi:IntsAre vs ns) (Z:ns.length<=sizeLine) (hr:Ys k callerA)
 (F:∀base,K.In base->base.Ns mainGlobals mg->ai P w K mg base CX k fa fd [x] sp) (p:∀s u,BindsTo s fd ⟨[u],[]⟩ [(x,u)])
 (R:∀H,nQ H->mv K H a (ns.map V.int)->sp [.ref a] H (fun v _=>v=.bl true) fun _ _ _=>False)
 (U:∀H e g,CX [] H s₁ (fun _ _ _=>False) e g->False) :
 codeAny (model P w) callerA (.call (.ref fa) ⟨[.ref a],[]⟩) (fun r g=>r=.ok (.ret (.bool true))/\OldK s₁.heap g.heap/\g.os=s₁.os/\AllBare g.gens) s₁:=by
 have Y:=gX hi;have C:=hi.length;have j:∀H:Hp,nQ H->mv K H a (ns.map V.int)->nh P w H s₁.heap->(∀b,H b≠none->b=a)->(H a≠none->K.lookup a=none)->
  codeAny (model P w) callerA (.call (.ref fa) ⟨[.ref a],[]⟩) (fun r g=>r=.ok (.ret (.bool true))/\OldK s₁.heap g.heap/\g.os=s₁.os/\AllBare g.gens) s₁:=by
  intro H hO hS hok hA hK;have y:∀{b:Pb}{o:Obj},s₁.heap.get? b=ε o->H b=none->(bH s₁.heap H).get? b=ε o:=fun e n=>Vg e n
  have O:∀{b:Pb}{o:Obj}{L:Ss DictEntry}{ep:Nat},s₁.heap.get? b=ε o->o.data=.dict L ep->H b=none:=fun {b o L ep} e d=>by
   cases q:H b with
   | none=>rfl
   | some u=>have W:b=a:=hA b (by rw[q];simp);subst W;rw[M]at e;cases e;have d':Data.seq vs.toArray _=Data.dict L ep:=d;cases d'
  have i:∀{b:Pb}{m:Str->O4 Ou},s₁.heap.Ns b m->(bH s₁.heap H).Ns b m:=fun {b m} ⟨o,L,ep,e,d,r⟩=>⟨o,L,ep,y e (O e d),d,r⟩
  have J:K.In (bH s₁.heap H):=fun b o e=>y (KX b o e) (by
   cases q:H b with
   | none=>rfl
   | some u=>
    have W:b=a:=hA b (by rw[q];simp);subst W;rw[hK (by rw[q];simp)]at e;cases e)
  have hM:Mod K mg (bH s₁.heap H):=⟨J,i E,⟨Q,i f,T⟩,let ⟨mc,h1,h2⟩:=I;⟨mc,i h1,h2⟩⟩;have e0:dy P w K mg (bH s₁.heap H) callerA [] s₁ H:=⟨rfl,hM,fun b o e=>Rh e,Nat.le_of_eq (Yz _ _),trivial,fun b f=>Es (show b∈([]:Oo Pb)from f) ⋯,hok,.of_eq hg⟩;refine codeAny_mono ((F _ J (i E)).run callerA [] s₁ H ⟨[.ref a],[]⟩ [.ref a] [.ref a] _ _ hr e0 (p s₁ (.ref a)) (.cons rfl .nil) (R H hO hS)) fun r g h=>?_
  cases r with
  | error e=>exact(U H e g h).elim
  | ok fl=>
   cases fl with
   | next=>exact Fo h
   | brk=>exact Fo h
   | cont=>exact Fo h
   | ret u=>
    obtain⟨v,H',os,bare,un,D,r',q⟩:=h;have q':v=.bl true:=q;subst q';obtain rfl:u=Value.bool true:=r';refine⟨rfl,OldK.of_keep fun b o e=>?_,os,bare⟩;cases q:H b with
    | none=>exact un.keep b o e q (by intro z;exact Es (show b∈([]:Oo Pb)from z) ⋯) ⋯
    | some u=>
     rcases hO b with z | ⟨ob,xs,z⟩
     . rw[q]at z;cases z
     . have z2:=un.bj b ob _ z;obtain⟨e1,_⟩:=hok b _ z;obtain⟨e2,_⟩:=D b _ z2;rw[e]at e1;cases e1;exact e2
 cases S:K.lookup a with
 | some o=>have e:=KX a o S;rw[M]at e;cases e;refine j (fun _=>none) (fun _=>.inl rfl) (.inr ⟨_,vs.toArray,_,S,rfl,rfl,rfl,by rw[cu,C];exact Z,by simpa using Y⟩) (fun b u z=>by have B:(none:O4 HO)=ε u:=z;cases B) (fun b z=>Es rfl z) fun z=>Es rfl z
 | none=>
  refine j (fun b=>if b=a then ε (.frz { cls:=.type "list",data:=.seq vs.toArray } (.lst (ns.map V.int)))else none) (fun b=>?_) (.inl (.inr ⟨{ cls:=.type "list",data:=.seq vs.toArray },eG rfl⟩)) (fun b u z=>?_) (fun b z=>?_) fun _=>S
  . by_cases f:b=a
    . exact .inr ⟨_,_,eG f⟩
    . exact .inl (eH f)
  . by_cases f:b=a
    . have B:=(eG f).symm.trans z;cases B;subst f;exact⟨M,by rw[ni];exact Z,vs,_,Y,M⟩
    . have B:=(eH f).symm.trans z;cases B
  . by_cases f:b=a
    . exact f
    . exact Es (eH f) z
def zc{l:PySem.W.OpenLaw}{K:Params->Ra}{CX:Rr->CK}{sp:Rr->Sp}
 (O:l.most=ε n) (y:n<=sizeLine) (C:d.params.defaults=[]) (M:Ys k callerA)
 (S:∀w h,J w h->(K w.params).In h)
 (F:∀w mg fa h,(K w.params).In h->h.Ns mainGlobals mg->mg d.name=ε (.ref fa)->
  ∃E,(∀s u,BindsTo s E ⟨[u],[]⟩ [(x,u)])/\
   ∀base,(K w.params).In base->base.Ns mainGlobals mg->ai l.prog w (K w.params) mg base (CX w) k fa E [x] (sp w))
 (r:∀(w:Rr)(H:Hp)(a:Pb)(ns:Oo Int),ns.length<=n->nQ H->mv (K w.params) H a (ns.map V.int)->sp w [.ref a] H (fun v z=>v=.bl true) fun z z z=>False)
 (D:∀w H s e p,CX w [] H s (fun z z z=>False) e p->False) :
 PySem.W.WalkO q g XP J l.row.toRowW d [] (fun f I=>PySem.call f I):=by
 refine Att.kq O C fun w s₀ j mg mb fa o pm cd Z a I ns G Y ho hd Q B m i b P=>?_
 have L:=S w _ Y;obtain⟨E,R,W⟩:=F w mg fa _ L G.T.g B;exact Py L G.T.g G.T.b G.T.builtins G.T.nolimit P m i (uq b y) M W R (fun H U T=>r w H a ns b U T) fun H e p=>D w H j e p
noncomputable def oS(s:Ro)(j:Nat):Ro:=match s with
 | .ClassDef _ _ _ a _ _ _ _ _ _ _=>a.getD j (.Pass ⟨0,0,0,0⟩)
 | _=>.Pass ⟨0,0,0,0⟩
noncomputable def aF(s:Ro):Arguments:=match s with
 | .FunctionDef _ a _ _ _ _ _ _ _ _=>a
 | _=>{ posonlyargs:=[],args:=[],vararg:=none,kwonlyargs:=[],kw_defaults:=[],kwarg:=none,defaults:=[] }
noncomputable def bD(s:Ro):Oo Ro:=match s with
 | .FunctionDef _ _ b _ _ _ _ _ _ _=>b
 | _=>[]
noncomputable def oB(s:Ro):Scope:=match s with
 | .FunctionDef _ _ _ _ _ _ a _ _ _=>a
 | _=>{ kind:=.function,names:=[],isGenerator:=false,isCoroutine:=false }
noncomputable abbrev lG:CK:=fun _ _ _ _ _ _=>False
noncomputable abbrev E0:XK:=fun _ _ _=>False
def vT:pK lG X E0:=fun q q q q q q q h=>h.elim
structure Fun(K:Frag)(x qual:Str)(st:Stmt)(f:Addr)(fd:FuncData):Prop where
 ex:∃(oc:Value)(od:Option Addr)(kV doc pm:Value)(an:Option Addr)(cdv ct:Value)(osl:Array (Option Value)),
  fd=fnOf x qual (aF st) (bD st) (oB st) .none kV doc pm an cdv ct/\K.lookup f=ε ⟨oc,od,.func fd,osl⟩/\PySem.W.codeIn K cdv qual=true
 kp:keepIn K (.ref f)=true
section
variable{P:Ri}{w:Rr}{K:Ra}{b:Str->O4 Ou}{a:Te}
def Fun.ok{st:Ro}(F:Fun K x d st f m)(S:Za N ps (oB st))(len:∀vs H Q E,sp vs H Q E->vs.length=ps.length)
 (g:∀(e:Ou)(A:Ru)(outer:Oo Env)(s:Pa)(H:Hp)(vs:Oo V)(Q:VK)(E:XK),Ys k (A.deeper (envOfC d (oB st) s.heap.objs.size f e))->sp vs H Q E->
  ∃t,PSs (iF lG P w K b a N d (oB st) f e A outer s H E).nox (bD st) t/\t { nx:=fun z u=>Q .non u,rt:=Q } (FG N vs) H):ai P w K b a lG (k+1) f m ps sp:=by
 obtain⟨C,B,kV,r,y,D,e,ct,n,rfl,o,j⟩:=F.ex;refine D0 o j S len fun A outer s H vs Q E p i=>?_
 obtain⟨t,h,q⟩:=g e A outer s H vs Q E p i;exact⟨t,h.nox,q⟩
def Fun.binds{st:Ro}(F:Fun K x d st f k)
 (h:∀kV e i j g ct us,us.length=ps.length->bindArgs (fnOf x d (aF st) (bD st) (oB st) .none kV e i j g ct) ⟨us,[]⟩=pure (ps.zip us)):mw K k ps []:=by
 obtain⟨p,o,kV,e,i,j,g,ct,m,rfl,q,n⟩:=F.ex;exact .all (h kV e i j g ct)
def yP{st:Ro}{kV g i e ct:Ou}(l:K.lookup f=ε ⟨m,od,.func (fnOf x d (aF st) (bD st) (oB st) .none kV g i j e ct),h⟩)
 (c:PySem.W.codeIn K e d=true) (k:keepIn K (.ref f)=true):Fun K x d st f (fnOf x d (aF st) (bD st) (oB st) .none kV g i j e ct):=⟨⟨m,od,kV,g,i,j,e,ct,h,rfl,l,c⟩,k⟩
end
section
variable{X:Cx}
end
def EH{A B:Prop}(h:B):if false=true then A else B:=by rw[eH Xe];exact h
def FH{A B:Prop}(h:A):if true=true then A else B:=by rw[eG rfl];exact h
def Same(H a:Hp):Prop:=∀b o,H b=ε o->a b=ε o
def Same.refl(H):Same H H:=fun q q h=>h
def Same.trans(a:Same H d)(b:Same d H2):Same H H2:=fun c o h=>b c o (a c o h)
def Same.free(e:Same H a)(h:a l=Option.none):H l=Option.none:=by
 cases q:H l with
 | none=>rfl
 | some o=>rw[e l o q]at h;cases h
open PySem.AutoSeq1 (wpAny_loadPart')
open PySem.SeqAt PySem.MeetsSeq PySem.MeetsSeq2 PySem.MeetsSeq3
def Jv(l b)(items a)(n j)(p f)(i e)(m:items.size+a.size<=sizeLine) :
 Meets (Builtin.«list.__add__» ⟨[.ref l,.ref b],[]⟩) (fun z R s=>s.heap.get? l=ε { cls:=.type "list",dict:=p,data:=.seq items n,slots:=i }/\s.heap.get? b=ε { cls:=.type "list",dict:=f,data:=.seq a j,slots:=e }/\R (.ok (.ret (Value.ref s.heap.objs.size))) { s with heap:=s.heap.push { cls:=Value.type "list",data:=Data.seq (items++a) },toks:=s.toks }):=
 .of_wp fun prog w A R s h=>by obtain⟨hp,g,d,q,os⟩:=s;obtain⟨k,o,h⟩:=h;have B:=AutoSeq1.idx_int;have y:=AutoSeq1.sub_tuple_tuple;have x:=AutoSeq1.sub_list_list;have u:=AutoSeq1.sub_tuple_list;have r:=AutoSeq1.sub_list_tuple;wp_walk using wpAny_loadPart' k,wpAny_loadPart' o;exact⟨_,rfl,h⟩
section
variable{X:Cx}
def EY:mx X (binaryOp .Add) (fun x y H Q=>∃l b f zs,x=.ref l/\y=.ref b/\mv X.K H l f/\mv X.K H b zs/\f.length+zs.length<=sizeLine/\∀p,H p=none->Q (.ref p) (xB H p (.lst (f++zs)))):=by
 intro k s T H x y v u Q I L J h;obtain⟨l,b,f,zs,rfl,rfl,P,R,Z,q⟩:=h;cases L;cases J;obtain⟨d,r,⟨⟨c1,d1,Y,i⟩,n,e,E,D,C⟩,z⟩:=I.list P;obtain⟨a,j,⟨⟨c2,d2,W,g⟩,M,e2,B,o,m⟩,U⟩:=I.list R;simp only at E D C B o m;subst E D C B o m;have hl:=r.length;have O:=j.length;refine concat_meets ⟨_,e,rfl⟩ ⟨_,e2,rfl⟩ noFill_list_add seq_list_add F.slot_list_add F.entry_list_add (F.args_list_add_2 _ _) (Jv l b d.toArray a.toArray n M none none i g (by rw[cu,cu];omega)) ⟨e,e2,?_⟩;have S:d.toArray++a.toArray=(d++a).toArray:=by simp
 rw[S];exact⟨.ref _,_,I.hL (t':=s.toks) (r.append j) (by rw[jj];omega),rfl,q _ I.fresh⟩
def nO(h:IntsAre us ns):∃a,us.toArray=intItems a/\a.toList.map (·.1)=ns:=by obtain⟨a,e⟩:=h.allInts.items;refine⟨a,e,?_⟩;have e2:=h.numsOf;rw[<- nums_intItems,<- e];exact e2
def Hx (n:X.calm=true):ah X (.builtin "sum") (fun a H Q=>∃(p:Pb) (ns:Oo Int),a=[.ref p]/\mv X.K H p (ns.map V.int)/\Q (.int ns.sum) H):=by
 intro b s o H a y Q I r h;obtain⟨p,ns,rfl,m,q⟩:=h;obtain⟨u,rfl,g⟩:=qF r;cases g;obtain⟨j,i,pl,C⟩:=I.list m;obtain⟨x,e,e2⟩:=nO (OJ i);have d:=pl.isList;rw[e]at d;refine sum_intListG (I.ok.hd n) d fun D B f k=>⟨.int ns.sum,H,I.kept k,⟨f,?_⟩,q⟩
 rw[preSum_eq,Ko ⋯,e2]
def zx (E:X.calm=true):ah X (.builtin "max") (fun g H Q=>∃p ns,g=[.ref p]/\mv X.K H p (ns.map V.int)/\ns ≠ []/\∀M,M∈ns->(∀a∈ns,a<=M)->Q (.int M) H):=by
 intro i s J H g L Q I r h;obtain⟨p,ns,rfl,C,f,q⟩:=h;obtain⟨u,rfl,o⟩:=qF r;cases o;obtain⟨y,x,pl,P⟩:=I.list C;obtain⟨b,e,e2⟩:=nO (OJ x);have m:=pl.isList;rw[e]at m;have d:0<b.size:=by
  rcases Nat.eq_zero_or_pos b.size with z | z
  . exfalso;apply f;rw[<- e2];have:b.toList=[]:=by apply eq_nil_of_length_eq_zero;simpa using z
    rw[this];rfl
  . exact z
 refine max_intList (I.ok.hd E) m d fun v S O B k=>?_
 obtain⟨t,rfl⟩:=intItems_at B;obtain⟨R,F⟩:=argBest_gt (numAt b) (b.size-1);refine⟨.int _,H,I.kept k,⟨t,rfl⟩,q _ ?_ fun a n=>?_⟩
 . rw[numAt_eq,<- e2];exact getD_mem (by rw[ni,Aa];omega)
 . rw[<- e2]at n;obtain⟨j,D,rfl⟩:=mem_getD n;rw[ni,Aa]at D;rw[<- numAt_eq];exact F j nofun
def Bx (E:X.calm=true):ah X (.builtin "min") (fun g H Q=>∃p ns,g=[.ref p]/\mv X.K H p (ns.map V.int)/\ns ≠ []/\∀M,M∈ns->(∀a∈ns,M<=a)->Q (.int M) H):=by
 intro i s J H g L Q I r h;obtain⟨p,ns,rfl,C,f,q⟩:=h;obtain⟨u,rfl,o⟩:=qF r;cases o;obtain⟨y,x,pl,P⟩:=I.list C;obtain⟨b,e,e2⟩:=nO (OJ x);have m:=pl.isList;rw[e]at m;have d:0<b.size:=by
  rcases Nat.eq_zero_or_pos b.size with z | z
  . exfalso;apply f;rw[<- e2];have:b.toList=[]:=by apply eq_nil_of_length_eq_zero;simpa using z
    rw[this];rfl
  . exact z
 refine min_intList (I.ok.hd E) m d fun v S O B k=>?_
 obtain⟨t,rfl⟩:=intItems_at B;obtain⟨R,F⟩:=argBest_lt (numAt b) (b.size-1);refine⟨.int _,H,I.kept k,⟨t,rfl⟩,q _ ?_ fun a n=>?_⟩
 . rw[numAt_eq,<- e2];exact getD_mem (by rw[ni,Aa];omega)
 . rw[<- e2]at n;obtain⟨j,D,rfl⟩:=mem_getD n;rw[ni,Aa]at D;rw[<- numAt_eq];exact F j nofun
def Tp(K:Ra)(H:Hp)(x:V)(t:String):Prop:=match x with
 | .non=>t = "NoneType"
 | .bl _=>t = "bool"
 | .int _=>t = "int"
 | .str _=>t = "str"
 | .ref a=>(t = "list" /\ ∃b,mv K H a b)\/(t = "tuple" /\ ∃b,YG K H a b)
 | _=>False
def Gw:ah X (.builtin "isinstance") (fun B H Q=>∃x t b,B=[x,.ty T]/\Tp X.K H x t/\PySem.W.kitOne X.K (.type t) (.type T)=ε b/\Q (.bl b) H):=by
 intro g s C H B F Q I r h;obtain⟨x,t,b,rfl,ty,e,q⟩:=h;obtain⟨u,J,rfl,f,E⟩:=dQ r;cases E;have d:∀j,EP X g C Q (.bool b) { s with toks:=j }:=fun j=>⟨.bl b,H,I.tok j,rfl,q⟩
 cases x with
 | non=>cases (show t = "NoneType" from ty);cases f;exact PySem.W.kia_one PySem.W.kitx_none I.kIn Ke e (fun z=>nomatch z) d
 | bl y=>cases (show t = "bool" from ty);cases f;exact PySem.W.kia_one PySem.W.kitx_bool I.kIn Ke e (fun z=>nomatch z) d
 | int i=>cases (show t = "int" from ty);obtain⟨_,rfl⟩:=f;exact PySem.W.kia_one PySem.W.kitx_int I.kIn Ke e (fun z=>nomatch z) d
 | str y=>cases (show t = "str" from ty);obtain⟨_,rfl⟩:=f;exact PySem.W.kia_one PySem.W.kitx_str I.kIn Ke e (fun z=>nomatch z) d
 | ref a=>
  cases f;rcases ty with⟨rfl,D,sq⟩ | ⟨rfl,D,sq⟩
  . obtain⟨k,_,⟨o,n,p,m,_,_⟩,_⟩:=I.list sq;exact PySem.W.kia_one PySem.W.kitx_list I.kIn ⟨o,p,m⟩ e (fun z=>nomatch z) d
  . obtain⟨k,_,⟨o,p,m,_⟩,_⟩:=I.tuple sq;exact PySem.W.kia_one PySem.W.kitx_tuple I.kIn ⟨o,p,m⟩ e (fun z=>nomatch z) d
 | byt _=>exact Fo ty
 | flt _=>exact Fo ty
 | ty _=>exact Fo ty
end
open PySem.AutoSeq1 (wpAny_loadPart')
open PySem.SeqAt PySem.MeetsSeq PySem.MeetsSeq2 PySem.MeetsSeq3
def Ox(l b)(items a)(n L)(S E)(J u)(e) :
 Meets (Builtin.«tuple.__ne__» ⟨[.ref l,.ref b],[]⟩)
  (fun A R s=>s.heap.get? l=ε { cls:=.type "tuple",dict:=S,data:=.seq items n,slots:=J }/\s.heap.get? b=ε { cls:=.type "tuple",dict:=E,data:=.seq a L,slots:=u }/\
   (∀j (I:j<items.size) (h2:j<a.size),EqAt A.in1 s items[j] a[j] (e j))/\
   R (.ok (.ret (.bool (!((List.range (min items.size a.size)).all e&&items.size==a.size))))) s):=
 .of_wp fun prog w A R s h=>by
  obtain⟨hp,g,d,F,os⟩:=s;obtain⟨O,Q,P,h⟩:=h;have T:=AutoSeq1.sub_tuple_tuple;have H:(items.toList.zip a.toList).length=min items.size a.size:=by simp
  wp_walk using wpAny_loadPart' O,wpAny_loadPart' Q,wpAny_forIn_list _ (fun rest b B=>b.1=none/\B=⟨hp,g,d,F,os⟩/\∃i,rest=(items.toList.zip a.toList).drop i/\
   R (.ok (.ret (.bool (!(((List.range (min items.size a.size)).drop i).all e&&items.size==a.size))))) ⟨hp,g,d,F,os⟩) _
  case turn=>
   rintro⟨y,x⟩ rest b B ⟨o,rfl,i,k,f⟩;have q:i<(items.toList.zip a.toList).length:=by
    rcases Nat.lt_or_ge i (items.toList.zip a.toList).length with h' | h'
    . exact h'
    . rw[drop_of_length_le h']at k;cases k
   have C:i<min items.size a.size:=H ▸ q;have I:i<items.size:=kj C (Nat.min_le_left _ _);have h2:i<a.size:=kj C (Nat.min_le_right _ _);rw[Ai q]at k;injection k with p m
   have r:y=items[i]:=by have:=congrArg Prod.fst p;simpa using this
   have M:x=a[i]:=by have:=congrArg Prod.snd p;simpa using this
   subst r M;have hd:(List.range (min items.size a.size)).drop i=i::(List.range (min items.size a.size)).drop (i+1):=by simp[Ai,C]
   rw[hd,La]at f;refine ao (P i I h2 prog w _ _ ?_);cases r:e i with
   | true=>
    rw[r]at f
    wp_walk
    exact⟨rfl,rfl,i+1,m,by simpa only[Hi]using f⟩
   | false=>
    rw[r]at f
    wp_walk
    exact⟨_,rfl,by simpa only[Hs,wu]using f⟩
  case fin=>
   rintro⟨W,U⟩ B ⟨o,rfl,i,k,f⟩;simp only at o;subst o;have D:min items.size a.size<=i:=by
    rcases Nat.lt_or_ge i (items.toList.zip a.toList).length with h' | h'
    . rw[Ai h']at k;cases k
    . exact H ▸ h'
   rw[drop_of_length_le (by simpa using D)]at f
   wp_walk
   exact⟨_,rfl,by simpa[Builtin.Tuple.tupleCompareSizes,bne]using f⟩
  case h=>exact⟨rfl,rfl,0,rfl,by simpa only[drop_zero]using h⟩
def Oz(l b)(items a:Ss Ou)(n E)(I B)(D x)(hsz:items.size=a.size)(e)(k) :
 ∀i,items.size-i=k->Meets (Builtin.«list.__eq__.loop» ⟨[.ref l,.ref b,rawInt i,rawInt 3],[]⟩)
  (fun A R s=>s.heap.get? l=ε { cls:=.type "list",dict:=I,data:=.seq items n,slots:=D }/\s.heap.get? b=ε { cls:=.type "list",dict:=B,data:=.seq a E,slots:=x }/\
   (∀j (J:j<items.size) (h2:j<a.size),EqAt A.in1 s items[j] a[j] (e j))/\
   R (.ok (.ret (.bool (!(((List.range items.size).drop i).all e))))) s):=by
 induction k with
 | zero=>
  intro i F prog w A R s h;obtain⟨hp,g,d,C,os⟩:=s;obtain⟨q,r,y,h⟩:=h
  wp_walk using wpAny_loadPart' q,wpAny_loadPart' r
  have m:items[((i:Nat):Int).toNat]?=none:=by simp;omega
  have f:a[((i:Nat):Int).toNat]?=none:=by simp;omega
  have hd:(List.range items.size).drop i=[]:=by simp;omega
  rw[hd]at h;rw[m,f]
  wp_walk using wpAny_loadPart' q,wpAny_loadPart' r
  show R (.ok (.ret (.bool (items.size !=a.size)))) _;rw[hsz];simpa using h
 | succ k ih=>
  intro i F prog w A R s h;obtain⟨hp,g,d,C,os⟩:=s;obtain⟨q,r,y,h⟩:=h
  wp_walk using wpAny_loadPart' q,wpAny_loadPart' r
  have p:i<items.size:=by omega
  have o:i<a.size:=by omega
  have m:items[((i:Nat):Int).toNat]?=ε items[i]:=by simp[p]
  have f:a[((i:Nat):Int).toNat]?=ε a[i]:=by simp[o]
  have hd:(List.range items.size).drop i=i::(List.range items.size).drop (i+1):=by simp[Ai,p]
  have H:((i:Int)+1)=((i+1:Nat):Int):=by push_cast;rfl
  rw[hd,La]at h;rw[m,f];refine ao (y i p o prog w _ _ ?_);cases u:e i with
  | true=>
   rw[u]at h
   wp_walk
   rw[H];exact⟨plainId_quiet plain_eq_loop _,Iu entry_eq_loop (by
    rw[Ia plain_eq_loop _];exact ih (i+1) nofun prog w A R _ ⟨q,r,y,by simpa only[Hi]using h⟩)⟩
  | false=>
   rw[u]at h
   wp_walk using wpAny_loadPart' q,wpAny_loadPart' r
   rw[m,f]
   wp_walk
   simpa using h
def Kv(l b)(items a)(n m)(q i)(k f)(hsz:items.size=a.size)(e) :
 Meets (Builtin.«list.__ne__» ⟨[.ref l,.ref b],[]⟩)
  (fun A R s=>s.heap.get? l=ε { cls:=.type "list",dict:=q,data:=.seq items n,slots:=k }/\s.heap.get? b=ε { cls:=.type "list",dict:=i,data:=.seq a m,slots:=f }/\
   (∀j (y:j<items.size) (h2:j<a.size),EqAt A.in1 s items[j] a[j] (e j))/\
   R (.ok (.ret (.bool (!((List.range items.size).all e))))) s):=by
 intro prog w A R s h;obtain⟨hp,g,d,x,os⟩:=s;obtain⟨o,p,u,h⟩:=h;have B:=AutoSeq1.sub_list_list;have r:¬(items.size !=a.size)=true:=by simp[hsz]
 wp_walk using wpAny_loadPart' o,wpAny_loadPart' p
 exact⟨plainId_quiet plain_eq_loop _,Iu entry_eq_loop (by
  rw[Ia plain_eq_loop _];exact Oz l b items a n m q i k f hsz e _ 0 rfl prog w A R _ ⟨o,p,u,by simpa only[drop_zero]using h⟩)⟩
def V8(l b)(items a)(n j)(p f)(i e)(m:(items.size !=a.size)=true) :
 Meets (Builtin.«list.__ne__» ⟨[.ref l,.ref b],[]⟩)
  (fun z R s=>s.heap.get? l=ε { cls:=.type "list",dict:=p,data:=.seq items n,slots:=i }/\s.heap.get? b=ε { cls:=.type "list",dict:=f,data:=.seq a j,slots:=e }/\
   R (.ok (.ret (.bool true))) s):=
 .of_wp fun prog w A R s h=>by
  obtain⟨hp,g,d,q,os⟩:=s;obtain⟨k,o,h⟩:=h;have r:=AutoSeq1.sub_list_list
  wp_walk using wpAny_loadPart' k,wpAny_loadPart' o
  exact⟨_,rfl,h⟩
section
variable{prog:Ri}{w:Rr}{A:Ru}{E:Ou->Pa->Prop}{s:Pa}{Q:Ou->Pa->Prop}
def Pz(C:s.heap.IsTuple l items)(D:s.heap.IsTuple b a)(B:A.units<cLine)
 (he:∀j (J:j<items.size) (h2:j<a.size),EqAt A.in1 s items[j] a[j] (e j)) (h:Q (.bool (!((List.range (min items.size a.size)).all e&&items.size==a.size))) s):wpAny (model prog w) A (compareOp .NotEq (.ref l) (.ref b)) Q E s:=by
 obtain⟨⟨I,H,q,u⟩,o,p,n,hd⟩:=id C;obtain⟨⟨r,k,m,i⟩,d,g,y,f⟩:=id D;simp only at p hd g f;subst p hd g f;exact richCompare_meets_room (op:=.NotEq) ⟨_,o,rfl⟩ ⟨_,d,rfl⟩ F.slot_tuple_ne F.entry_tuple_ne (F.args_tuple_ne_2 _ _) (Ox l b items a n y H k u i e) ⟨o,d,he,⟨(fun x=>nomatch x),h⟩⟩ B
def yX(C:s.heap.IsList l items)(D:s.heap.IsList b a)(hsz:items.size=a.size)(B:A.units<cLine)
 (he:∀j (J:j<items.size) (h2:j<a.size),EqAt A.in1 s items[j] a[j] (e j)) (h:Q (.bool (!((List.range items.size).all e))) s):wpAny (model prog w) A (compareOp .NotEq (.ref l) (.ref b)) Q E s:=by
 obtain⟨⟨I,H,q,u⟩,o,p,n,hd⟩:=id C;obtain⟨⟨r,k,m,i⟩,d,g,y,f⟩:=id D;simp only at p hd g f;subst p hd g f;exact richCompare_meets_room (op:=.NotEq) ⟨_,o,rfl⟩ ⟨_,d,rfl⟩ F.slot_list_ne F.entry_list_ne (F.args_list_ne_2 _ _) (Kv l b items a n y H k u i hsz e) ⟨o,d,he,⟨(fun x=>nomatch x),h⟩⟩ B
def Aj(y:s.heap.IsList l items)(B:s.heap.IsList b a)(hsz:(items.size !=a.size)=true)(u:A.units<cLine)
 (h:Q (.bool true) s):wpAny (model prog w) A (compareOp .NotEq (.ref l) (.ref b)) Q E s:=by
 obtain⟨⟨D,C,o,q⟩,k,m,n,hd⟩:=id y;obtain⟨⟨p,i,j,g⟩,d,f,r,e⟩:=id B;simp only at m hd f e;subst m hd f e;exact richCompare_meets_room (op:=.NotEq) ⟨_,k,rfl⟩ ⟨_,d,rfl⟩ F.slot_list_ne F.entry_list_ne (F.args_list_ne_2 _ _) (V8 l b items a n r C i q g hsz) ⟨k,d,⟨(fun x=>nomatch x),h⟩⟩ u
end
end L2
namespace SM
inductive Dt where
 | non | bl (b:Bool) | int (i:Int) | str (x:Str) | tup (xs:List Dt) | lst (xs:List Dt) | ref (n:Nat) | ntp (xs:List Int)
inductive Ob where
 | lst (xs:List Dt)
 | ins (x:Str) (fs:List (Str×Dt))
 | dk (kvs:List (dC×Dt))
 | dt (kvs:List (List Int×Dt))
 | df (kvs:List (List Int×Dt))
noncomputable abbrev HI:=Oo Ob
noncomputable abbrev LI:=Oo (O4 Dt)
structure Rg where
 v:List Addr
 z:List Addr
def Rg.no(ρ:Rg)(a:Pb):Prop:=a∉ρ.v/\a∉ρ.z
noncomputable def Rg.add(ρ:Rg)(p:Pb):Rg:=⟨ρ.v++[p],ρ.z⟩
noncomputable def Rg.hide(ρ:Rg)(p:Pb):Rg:=⟨ρ.v,p::ρ.z⟩
noncomputable def Rg.nil:Rg:=⟨[],[]⟩
def nc(K:Ra)(H:Hp)(ρ:Rg)(a:Pb)(vs:Oo V):Prop:=
 (ρ.no a/\Rd H a (.tup vs))\/
  ∃(o:Obj) (b:Ss Ou) (n:Nat),K.lookup a=ε o/\o.cls=.type "tuple" /\ o.data=.seq b n/\b.size<=sizeLine/\mf vs b.toList
def ng(K:Ra)(H:Hp)(ρ:Rg)(a:Pb)(vs:Oo V):Prop:=
 (ρ.no a/\Rd H a (.lst vs))\/
  ∃(o:Obj) (b:Ss Ou) (n:Nat),K.lookup a=ε o/\o.cls=.type "list" /\ o.dict=none/\o.data=.seq b n/\b.size<=sizeLine/\mf vs b.toList
def nc.sq{K:Ra}(h:nc K H ρ a vs):YG K H a vs:=by
 rcases h with⟨_,h⟩ | h
 . exact .inl h
 . exact .inr h
def ng.sq{K:Ra}(h:ng K H ρ a vs):mv K H a vs:=by
 rcases h with⟨_,h⟩ | h
 . exact .inl h
 . exact .inr h
mutual
noncomputable def Uo(K:Ra)(H:Hp)(ρ:Rg):Dt->V->Prop
 | .non,v=>v=.non
 | .bl b,v=>v=.bl b
 | .int i,v=>v=.int i
 | .str x,v=>v=.str x
 | .tup xs,v=>∃a d,v=.ref a/\nc K H ρ a d/\Ue K H ρ xs d
 | .lst xs,v=>∃a d,v=.ref a/\ng K H ρ a d/\Ue K H ρ xs d
 | .ref n,v=>∃a,v=.ref a/\ρ.v[n]?=ε a
 | .ntp xs,v=>∃a,v=.ref a/\ρ.no a/\H a=ε (.tup (xs.map V.int))
noncomputable def Ue(K:Ra)(H:Hp)(ρ:Rg):Oo Dt->Oo V->Prop
 | [],vs=>vs=[]
 | x::xs,vs=>∃v r,vs=v::r/\Uo K H ρ x v/\Ue K H ρ xs r
end
structure mi(ρ ρ':Rg)(H H':Hp):Prop where
 pre:∃e,ρ'.v=ρ.v++e/\∀a∈e,H a=none
 hid:ρ'.z=ρ.z
 keep:∀a o,H a=ε o->a∉ρ.v->H' a=ε o
 live:∀a,H' a=none->H a=none
 fz:∀a o u,H a=ε (.frz o u)->H' a=ε (.frz o u)
def mi.refl(ρ)(H):mi ρ ρ H H:=⟨⟨[],by simp,by simp⟩,rfl,fun q q h q=>h,fun q h=>h,fun q q q h=>h⟩
def mi.io(x:mi ρ b H g)(h:H a=ε o)(n:a∉ρ.v):a∉b.v:=by
 obtain⟨e,f,d⟩:=x.pre;rw[f];intro hm;rcases Ca.mp hm with hm | hm
 . exact n hm
 . have:=d a hm;rw[h]at this;cases this
def mi.hX(x:mi ρ b H d)(h:H a=ε o)(n:ρ.no a):b.no a:=⟨x.io h n.1,by rw[x.hid];exact n.2⟩
def mi.trans(x:mi ρ d H f)(y:mi d b f H2):mi ρ b H H2:=by
 refine⟨?_,y.hid.trans x.hid,fun a o h n=>y.keep a o (x.keep a o h n) (x.io h n),fun a h=>x.live a (y.live a h),fun a o u h=>y.fz a o u (x.fz a o u h)⟩;obtain⟨e,q1,i⟩:=x.pre;obtain⟨j,q2,g⟩:=y.pre;refine⟨e++j,by rw[q2,q1,tu],fun a ha=>?_⟩;rcases Ca.mp ha with ha | ha
 . exact i a ha
 . exact x.live a (g a ha)
def mi.get{ρ b:Rg}{H f:Hp}(x:mi ρ b H f){n:Nat}{a:Pb}(h:ρ.v[n]?=ε a):b.v[n]?=ε a:=by obtain⟨e,d,_⟩:=x.pre;have:=(Xa h).1;rw[d,Yo this];exact h
def mi.fresh(h:H p=none):mi ρ ρ H (xB H p o):=by
 refine⟨⟨[],by simp,by simp⟩,rfl,fun a u e q=>?_,fun a e=>?_,fun a o u e=>by rw[aB (ZC e h)];exact e⟩
 . rw[aB (ZC e h)];exact e
 . by_cases b:a=p
   . subst b;exact h
   . rw[aB b]at e;exact e
def mi.own(h:H p=none):mi ρ (ρ.add p) H (xB H p o):=by refine⟨⟨[p],rfl,fun a b=>?_⟩,rfl,(mi.fresh (ρ:=ρ) h).keep,(mi.fresh (ρ:=ρ) h).live,(mi.fresh (ρ:=ρ) h).fz⟩;rw[Bs.mp b];exact h
def JT(H:Hp)(a:Pb):Prop:=∀o u,H a≠ε (.frz o u)
def HH(h:H a=ε (.lst vs)):JT H a:=fun q q e=>by rw[h]at e;cases e
def mi.write(g:a∈ρ.v)(f:JT H a):mi ρ ρ H (xB H a o):=by
 refine⟨⟨[],by simp,by simp⟩,rfl,fun b u e n=>?_,fun b e=>?_,fun b q u e=>by rw[aB (fun z:b=a=>f q u (by rw[<- z];exact e))];exact e⟩
 . rw[aB (fun z=>n (by rw[z];exact g))];exact e
 . by_cases d:b=a
   . subst d;rw[xC]at e;cases e
   . rw[aB d]at e;exact e
structure az(ρ ρ':Rg)(H H':Hp):Prop where
 no:∀a u,H a=ε u->ρ.no a->ρ'.no a
 eq:∀a u,H a=ε u->ρ.no a->H' a=ε u
 ix:∀(n:Nat) a,ρ.v[n]?=ε a->ρ'.v[n]?=ε a
 fz:∀a o u,H a=ε (.frz o u)->H' a=ε (.frz o u)
def mi.same(x:mi ρ a H H'):az ρ a H H':=⟨fun q q e n=>x.hX e n,fun q q e n=>x.keep _ _ e n.1,fun q q e=>x.get e,x.fz⟩
def az.trans(x:az ρ d H f)(y:az d b f H2):az ρ b H H2:=
 ⟨fun a u e n=>y.no a u (x.eq a u e n) (x.no a u e n),fun a u e n=>y.eq a u (x.eq a u e n) (x.no a u e n),fun n a e=>y.ix n a (x.ix n a e),fun a o u e=>y.fz a o u (x.fz a o u e)⟩
def nc.same{K:Ra}(x:az ρ b H d)(h:nc K H ρ a vs):nc K d b a vs:=by
 rcases h with⟨n,t | ⟨y,t⟩⟩ | t
 . exact .inl ⟨x.no _ _ t n,.inl (x.eq _ _ t n)⟩
 . exact .inl ⟨x.no _ _ t n,.inr ⟨y,x.eq _ _ t n⟩⟩
 . exact .inr t
def ng.same{K:Ra}(x:az ρ b H d)(h:ng K H ρ a vs):ng K d b a vs:=by
 rcases h with⟨n,t | ⟨y,t⟩⟩ | t
 . exact .inl ⟨x.no _ _ t n,.inl (x.eq _ _ t n)⟩
 . exact .inl ⟨x.no _ _ t n,.inr ⟨y,x.eq _ _ t n⟩⟩
 . exact .inr t
mutual
theorem Uo.same{K:Ra}{ρ b:Rg}{H g:Hp}(x:az ρ b H g):∀(d:Dt){v:V},Uo K H ρ d v->Uo K g b d v
 | .non,_,h=>by simp![Uo]at h ⊢;exact h
 | .bl _,_,h=>by simp![Uo]at h ⊢;exact h
 | .int _,_,h=>by simp![Uo]at h ⊢;exact h
 | .str _,_,h=>by simp![Uo]at h ⊢;exact h
 | .tup xs,_,h=>by simp![Uo]at h ⊢;obtain⟨a,f,e,t,r⟩:=h;exact⟨a,f,e,t.same x,Ue.same x xs r⟩
 | .lst xs,_,h=>by simp![Uo]at h ⊢;obtain⟨a,f,e,t,r⟩:=h;exact⟨a,f,e,t.same x,Ue.same x xs r⟩
 | .ref _,_,h=>by simp![Uo]at h ⊢;obtain⟨a,e,t⟩:=h;exact⟨a,e,x.ix _ _ t⟩
 | .ntp _,_,h=>by simp![Uo]at h ⊢;obtain⟨a,e,n,t⟩:=h;exact⟨a,e,x.no _ _ t n,x.eq _ _ t n⟩
theorem Ue.same{K:Ra}{ρ a:Rg}{H b:Hp}(x:az ρ a H b):∀(ds:Oo Dt){vs:Oo V},Ue K H ρ ds vs->Ue K b a ds vs
 | [],_,h=>by simp![Ue]at h ⊢;exact h
 | d::ds,_,h=>by simp![Ue]at h ⊢;obtain⟨v,r,e,g,f⟩:=h;exact⟨v,r,e,Uo.same x d g,Ue.same x ds f⟩
end
def Uo.ext{K:Ra}(x:mi ρ a H b)(d)(h:Uo K H ρ d v):Uo K b a d v:=Uo.same x.same d h
def Ue.ext{K:Ra}(h:Ue K H ρ ds vs)(x:mi ρ a H b):Ue K b a ds vs:=Ue.same x.same ds h
section
variable{K:Ra}{H:Hp}{ρ:Rg}
def Ue.nil:Ue K H ρ [] []:=by simp![Ue]
def Ue.cons{d:Dt}{v:V}{ds:Oo Dt}{vs:Oo V}(h:Uo K H ρ d v)(r:Ue K H ρ ds vs):Ue K H ρ (d::ds) (v::vs):=by simp![Ue];exact⟨v,vs,rfl,h,r⟩
def Ue.ab(h:Ue K H ρ (d::ds) vs):∃v r,vs=v::r/\Uo K H ρ d v/\Ue K H ρ ds r:=by simpa only[Ue]using h
def Ue.ba(h:Ue K H ρ [] vs):vs=[]:=by simpa only[Ue]using h
theorem Ue.length:∀{ds:Oo Dt}{vs:Oo V},Ue K H ρ ds vs->vs.length=ds.length
 | [],_,h=>by rw[h.ba];rfl
 | d::ds,_,h=>by obtain⟨v,r,rfl,_,a⟩:=h.ab;rw[Ua,Ua,Ue.length a]
theorem Ue.get:∀{ds:Oo Dt}{vs:Oo V}{i:Nat}{d:Dt},Ue K H ρ ds vs->ds[i]?=ε d->∃v,vs[i]?=ε v/\Uo K H ρ d v
 | [],_,_,_,_,e=>by simp at e
 | d::ds,_,0,_,h,e=>by obtain⟨v,r,rfl,b,_⟩:=h.ab;simp at e;subst e;exact⟨v,rfl,b⟩
 | d::ds,_,i+1,d',h,e=>by obtain⟨v,r,rfl,_,a⟩:=h.ab;obtain⟨u,q1,q2⟩:=Ue.get (i:=i) a (by simpa using e);exact⟨u,by simpa using q1,q2⟩
theorem Ue.append:∀{ds a:Oo Dt}{vs us:Oo V},Ue K H ρ ds vs->Ue K H ρ a us->Ue K H ρ (ds++a) (vs++us)
 | [],_,_,_,h,h'=>by rw[h.ba];exact h'
 | d::ds,_,_,_,h,h'=>by obtain⟨v,r,rfl,e,b⟩:=h.ab;exact .cons e (Ue.append b h')
theorem Ue.set:∀{ds:Oo Dt}{vs:Oo V}{d:Dt}{v:V}(i:Nat),Ue K H ρ ds vs->Uo K H ρ d v->Ue K H ρ (ds.set i d) (vs.set i v)
 | [],_,_,_,_,h,_=>by rw[h.ba];exact .nil
 | d::ds,_,_,_,0,h,q=>by obtain⟨v,r,rfl,b,a⟩:=h.ab;exact .cons q a
 | d::ds,_,_,_,i+1,h,q=>by obtain⟨v,r,rfl,b,a⟩:=h.ab;exact .cons b (Ue.set i a q)
theorem Ue.take:∀{ds:Oo Dt}{vs:Oo V}(n:Nat),Ue K H ρ ds vs->Ue K H ρ (ds.take n) (vs.take n)
 | [],_,n,h=>by rw[h.ba];simp;exact .nil
 | d::ds,_,0,h=>.nil
 | d::ds,_,n+1,h=>by obtain⟨v,r,rfl,b,a⟩:=h.ab;exact .cons b (Ue.take n a)
theorem Ue.drop:∀{ds:Oo Dt}{vs:Oo V}(n:Nat),Ue K H ρ ds vs->Ue K H ρ (ds.drop n) (vs.drop n)
 | [],_,n,h=>by rw[h.ba];simp;exact .nil
 | d::ds,_,0,h=>h
 | d::ds,_,n+1,h=>by obtain⟨v,r,rfl,b,a⟩:=h.ab;exact Ue.drop n a
def Ue.ints(ns:Oo Int):Ue K H ρ (ns.map Dt.int) (ns.map V.int):=by
 induction ns with
 | nil=>exact .nil
 | cons n ns ih=>exact .cons (by simp![Uo]) ih
theorem Ue.ci:∀{ns:Oo Int}{vs:Oo V},Ue K H ρ (ns.map Dt.int) vs->vs=ns.map V.int
 | [],_,h=>h.ba
 | n::ns,_,h=>by obtain⟨v,r,rfl,a,b⟩:=Ue.ab h;simp![Uo]at a;rw[a,Ue.ci b];rfl
def Xu:Uo K H ρ (.int i) v↔v=.int i:=by simp![Uo]
def af:Uo K H ρ (.bl i) v↔v=.bl i:=by simp![Uo]
def cm:Uo K H ρ (.str i) v↔v=.str i:=by simp![Uo]
def bt:Uo K H ρ .non v↔v=.non:=by simp![Uo]
def bc:Uo K H ρ (.tup xs) v↔∃a vs,v=.ref a/\nc K H ρ a vs/\Ue K H ρ xs vs:=by simp![Uo]
def cn:Uo K H ρ (.lst xs) v↔∃a vs,v=.ref a/\ng K H ρ a vs/\Ue K H ρ xs vs:=by simp![Uo]
def ej:Uo K H ρ (.ntp xs) v↔∃a,v=.ref a/\ρ.no a/\H a=ε (.tup (xs.map V.int)):=by simp![Uo]
def al:Uo K H ρ (.ref n) v↔∃a,v=.ref a/\ρ.v[n]?=ε a:=by simp![Uo]
end
def bu(K:Ra)(H:Hp)(ρ:Rg)(a:Pb):Ob->Prop
 | .lst e=>∃b,H a=ε (.lst b)/\Ue K H ρ e b
 | .ins x fs=>∃C f b,nsIn K mainGlobals x=ε (ε (.ref C))/\H a=ε (.ins C f b)/\fs.map (·.1)=b.map (·.1)/\Ue K H ρ (fs.map (·.2)) (b.map (·.2))
 | .dk d=>∃b,H a=ε (.dK b)/\d.map (·.1)=b.map (·.1)/\Ue K H ρ (d.map (·.2)) (b.map (·.2))
 | .dt d=>∃b:Oo (Oo dC×V),H a=ε (.dT b)/\b.map (·.1)=d.map (fun p=>p.1.map Sum.inl)/\Ue K H ρ (d.map (·.2)) (b.map (·.2))
 | .df d=>∃(o:Obj)(b:Oo (Oo dC×V)),H a=ε (.frz o (.dT b))/\b.map (·.1)=d.map (fun p=>p.1.map Sum.inl)/\Ue K H ρ (d.map (·.2)) (b.map (·.2))
structure Vs(K:Frag)(ρ:Rg)(h:HI)(H:Hp):Prop where
 nd:ρ.v.Nodup
 len:ρ.v.length=h.length
 ob:∀(n:Nat) a o,ρ.v[n]?=ε a->h[n]?=ε o->bu K H ρ a o
 zt:∀a∈ρ.z,a∉ρ.v/\∃vs,H a=ε (.lst vs)
def bu.ext{K:Ra}(x:mi ρ i H k)(e:k a=H a)(h:bu K H ρ a o):bu K k i a o:=by
 cases o with
 | lst p=>obtain⟨b,f,d⟩:=h;exact⟨b,e.trans f,d.ext x⟩
 | ins y fs=>obtain⟨C,n,b,m,f,d,g⟩:=h;exact⟨C,n,b,m,e.trans f,d,g.ext x⟩
 | dk j=>obtain⟨b,f,d,g⟩:=h;exact⟨b,e.trans f,d,g.ext x⟩
 | dt j=>obtain⟨b,f,d,g⟩:=h;exact⟨b,e.trans f,d,g.ext x⟩
 | df j=>obtain⟨o,b,f,d,g⟩:=h;exact⟨o,b,e.trans f,d,g.ext x⟩
def bu.some{K:Ra}{H:Hp}{ρ:Rg}{a:Pb}{o:Ob}(h:bu K H ρ a o):∃u,H a=ε u:=by
 cases o with
 | lst f=>obtain⟨e,b,_⟩:=h;exact⟨_,b⟩
 | ins y fs=>obtain⟨C,g,e,_,b,_⟩:=h;exact⟨_,b⟩
 | dk d=>obtain⟨e,b,_⟩:=h;exact⟨_,b⟩
 | dt d=>obtain⟨e,b,_⟩:=h;exact⟨_,b⟩
 | df d=>obtain⟨o,e,b,_⟩:=h;exact⟨_,b⟩
section
variable{K:Ra}{H H':Hp}{ρ:Rg}{h:HI}
def Vs.nil:Vs K .nil [] H:=⟨nodup_nil,rfl,fun q q q e=>by simp[Rg.nil]at e,fun q h=>nomatch h⟩
def Vs.tracked(S:Vs K ρ h H)(e:a∈ρ.v):∃u,H a=ε u:=by
 obtain⟨n,b⟩:=mem_iff_getElem?.mp e;have d:n<h.length:=by rw[<- S.len];exact(Xa b).1
 exact(S.ob n a _ b (jo d)).some
def Vs.out(S:Vs K ρ h H)(hp:H p=none):ρ.no p:=by
 refine⟨fun a=>?_,fun a=>?_⟩
 . obtain⟨u,e⟩:=S.tracked a;rw[hp]at e;cases e
 . obtain⟨_,u,e⟩:=S.zt p a;rw[hp]at e;cases e
def Vs.fresh(S:Vs K ρ h H)(hp:H p=none):Vs K ρ h (xB H p o):=
 ⟨S.nd,S.len,fun n a u b e2=>(S.ob n a u b e2).ext (mi.fresh hp) (aB (fun z=>(S.out hp).1 (z ▸ m6 b))),fun a d=>by
  obtain⟨n,u,e⟩:=S.zt a d;exact⟨n,u,by rw[aB (ZC e hp)];exact e⟩⟩
def Vs.own(S:Vs K ρ h H)(hp:H p=none)(m:bu K (xB H p o) (ρ.add p) p u):Vs K (ρ.add p) (h++[u]) (xB H p o):=by
 refine⟨?_,by simp![Rg.add];rw[jj,jj,S.len];rfl,fun n a ob d e2=>?_,fun a i=>?_⟩
 . simp![Rg.add];rw[nodup_append];refine⟨S.nd,Mu.mpr ⟨by simp,nodup_nil⟩,fun a i b q=>?_⟩;rw[Bs.mp q];intro z;exact(S.out hp).1 (z ▸ i)
 . simp![Rg.add]at d;by_cases g:n<h.length
   . rw[Yo g]at e2;rw[Yo (by rw[S.len];exact g)]at d;exact(S.ob n a ob d e2).ext (mi.own hp) (aB (fun z=>(S.out hp).1 (z ▸ m6 d)))
   . have f:h.length<=n:=Jo.mp g;rw[ag f]at e2;rw[ag (by rw[S.len];exact f),S.len]at d;cases j:n-h.length with
     | zero=>rw[j]at d e2;simp at d e2;subst d e2;exact m
     | succ k=>rw[j]at e2;simp at e2
 . obtain⟨n,u,e⟩:=S.zt a i;refine⟨fun hm=>?_,u,by rw[aB (ZC e hp)];exact e⟩;simp![Rg.add]at hm;rcases Ca.mp hm with hm | hm
   . exact n hm
   . rw[Bs.mp hm,hp]at e;cases e
def Vs.write(S:Vs K ρ h H)(b:ρ.v[n]?=ε p)(g:JT H p)(i:bu K (xB H p o) ρ p u):Vs K ρ (h.set n u) (xB H p o):=by
 refine⟨S.nd,by rw[Le];exact S.len,fun m a ob d e2=>?_,fun a k=>?_⟩
 . by_cases f:m=n
   . subst f;rw[b]at d;cases d;have j:m<h.length:=by rw[<- S.len];exact(Xa b).1
     rw[vm j]at e2;cases e2;exact i
   . rw[m8 (n7 f)]at e2;refine(S.ob m a ob d e2).ext (mi.write (m6 b) g) (aB fun z=>f ?_);subst z;obtain⟨r,q1⟩:=Xa d;obtain⟨q,q2⟩:=Xa b;exact(getElem_inj S.nd).mp (q1.trans q2.symm)
 . obtain⟨m,w,e⟩:=S.zt a k;exact⟨m,w,by rw[aB (fun z=>m (by rw[z];exact m6 b))];exact e⟩
def Vs.lst(S:Vs K ρ h H){n:Nat}(b:ρ.v[n]?=ε a)(e:h[n]?=ε (.lst xs)):∃vs,H a=ε (.lst vs)/\Ue K H ρ xs vs:=S.ob n a _ b e
end
structure Ze(K:Frag)(H:Hp)(ρ:Rg)(l:LI)(σ:L2.St):Prop where
 len:l.length=σ.length
 val:∀(i:Nat) d,l[i]?=ε (ε d)->∃v,σ[i]?=ε (ε v)/\Uo K H ρ d v
def Ze.ext{K:Ra}(L:Ze K H ρ l σ)(x:mi ρ a H b):Ze K b a l σ:=
 ⟨L.len,fun i d e=>let ⟨v,e1,r⟩:=L.val i d e;⟨v,e1,Uo.ext x d r⟩⟩
def Ze.set{K:Ra}(L:Ze K H ρ l b)(i)(r:Uo K H ρ d v):Ze K H ρ (l.set i (ε d)) (b.set i (ε v)):=by
 refine⟨by rw[Le,Le];exact L.len,fun j g e=>?_⟩;by_cases a:j=i
 . subst a;have f:j<l.length:=by have:=(Xa e).1;rwa[Le]at this
   rw[vm f]at e;cases e;exact⟨v,vm (by rw[<- L.len];exact f),r⟩
 . rw[m8 (n7 a)]at e;rw[m8 (n7 a)];exact L.val j g e
abbrev RE:=LI->HI->O4 (Dt×HI)
abbrev RT:=LI->HI->O4 (Bool×HI)
abbrev RA:=LI->HI->O4 (Oo Dt×HI)
inductive Rs where
 | nx (l:LI) (h:HI) | rt (d:Dt) (h:HI) | bk (l:LI) (h:HI) | ct (l:LI) (h:HI)
abbrev RS:=LI->HI->O4 Rs
abbrev vD:=Dt->Dt->HI->O4 (Dt×HI)
abbrev rB:=Oo Dt->HI->O4 (Dt×HI)
noncomputable def gB:Pu->Bool
 | .Starred _ _=>false
 | _=>true
def pB(h:gB e=true)(a)(env):starEach (e::a) env=(false,eval e env)::starEach a env:=by cases e<;>first | rfl | (exact Es h Xe)
theorem wI:∀{a:Oo Pu},a.all gB=true->(backTo pos (starEach a env)).any (·.1)=false
 | [],_=>rfl
 | e::a,h=>by rw[La,w6]at h;have ih:=wI (pos:=pos) (env:=env) h.2;rw[pB h.1];unfold backTo at ih ⊢;simp![Uu,Ku,Bool.false_or];exact ih
def LR(h:gB b=true):((backTo pos (starEach [b] env)).all (fun x=>!x.1)&&(backToKw pos (keywordEach [] env)).all (fun x=>x.1.isSome)
 && decide ([b].length+([]:Oo Keyword).length+(if([]:Oo Keyword).isEmpty then 0 else 1)<30))=true:=by
 rw[pB h];rfl
def Out(K:Ra)(ρ:Rg)(H:Hp)(d:Dt)(h':HI)(Q:VK):Prop:=
 ∀a v b,Uo K b a d v->Vs K a h' b->mi ρ a H b->Q v b
def gc(K:Ra)(ρ:Rg)(H:Hp)(h':HI)(Q:Hp->Prop):Prop:=
 ∀a b,Vs K a h' b->mi ρ a H b->Q b
inductive tM(K:Frag)(f:RE)(σ:L2.St)(H:Hp)(Q:VK):Prop where
 | mk (ρ:Rg) (l:LI) (h:HI) (d:Dt) (h':HI) (S:Vs K ρ h H) (L:Ze K H ρ l σ) (e:f l h=ε (d,h')) (k:Out K ρ H d h' Q)
inductive iQ(K:Frag)(f:RT)(σ:L2.St)(H:Hp)(Q:Bool->Hp->Prop):Prop where
 | mk (ρ:Rg) (l:LI) (h:HI) (b:Bool) (h':HI) (S:Vs K ρ h H) (L:Ze K H ρ l σ) (e:f l h=ε (b,h')) (k:gc K ρ H h' (Q b))
inductive tMA(K:Frag)(f:RA)(σ:L2.St)(H:Hp)(Q:List V->Hp->Prop):Prop where
 | mk (ρ:Rg) (l:LI) (h:HI) (ds:List Dt) (h':HI) (S:Vs K ρ h H) (L:Ze K H ρ l σ) (e:f l h=ε (ds,h')) (k:∀ρ' vs H',Ue K H' ρ' ds vs->Vs K ρ' h' H'->mi ρ ρ' H H'->Q vs H')
inductive rM(K:Frag)(op:vD)(x y:V)(H:Hp)(Q:VK):Prop where
 | mk (ρ:Rg) (h:HI) (d1 d2 d:Dt) (h':HI) (S:Vs K ρ h H) (r1:Uo K H ρ d1 x) (r2:Uo K H ρ d2 y) (e:op d1 d2 h=ε (d,h')) (k:Out K ρ H d h' Q)
noncomputable def gy(K:Ra)(ρ:Rg)(H:Hp)(D:zH):Rs->Prop
 | .nx l h=>∀a b e,Vs K a h e->Ze K e a l b->mi ρ a H e->D.nx b e
 | .bk l h=>∀a b e,Vs K a h e->Ze K e a l b->mi ρ a H e->D.bk b e
 | .ct l h=>∀a b e,Vs K a h e->Ze K e a l b->mi ρ a H e->D.ct b e
 | .rt d h=>Out K ρ H d h D.rt
inductive sM(K:Frag)(f:RS)(D:zH)(σ:L2.St)(H:Hp):Prop where
 | mk (ρ:Rg) (l:LI) (h:HI) (r:Rs) (S:Vs K ρ h H) (L:Ze K H ρ l σ) (e:f l h=ε r) (k:gy K ρ H D r)
def Out.ext{K:Ra}(k:Out K ρ H d h' Q)(x:mi ρ a H f):Out K a f d h' Q:=fun b v g r s e=>k b v g r s (x.trans e)
def gc.ext{K:Ra}(k:gc K ρ H h' Q)(x:mi ρ a H d):gc K a d h' Q:=fun b f s e=>k b f s (x.trans e)
def gy.ext{K:Ra}(k:gy K ρ H D r)(x:mi ρ f H i):gy K f i D r:=by
 cases r with
 | nx l h=>exact fun b a g s l e=>k b a g s l (x.trans e)
 | bk l h=>exact fun b a g s l e=>k b a g s l (x.trans e)
 | ct l h=>exact fun b a g s l e=>k b a g s l (x.trans e)
 | rt d h=>exact Out.ext k x
@[irreducible] def EM(X:Cx)(e:Pu)(f:RE):Prop:=PE X e (tM X.K f)
@[irreducible] def TM(X:Cx)(e:Pu)(f:RT):Prop:=PT X e (iQ X.K f)
@[irreducible] def WM(X:Cx)(e:Pu)(f:RT):Prop:=PW X e (iQ X.K f)
@[irreducible] def AM(X:Cx)(a:Oo Pu)(f:RA):Prop:=PA X a (tMA X.K f)
@[irreducible] def OM(X:Cx)(f:Ou->Ou->Sem Ou)(op:vD):Prop:=mx X f (rM X.K op)
@[irreducible] def ZM(X:Cx)(st:Ro)(f:RS):Prop:=PS X st (sM X.K f)
@[irreducible] def aI(X:Cx)(st:Oo Ro)(f:RS):Prop:=PSs X st (sM X.K f)
def PE.imp(h:PE X e t)(i:∀a H Q,t' a H Q->t a H Q):PE X e t':=fun b s a H Q I q=>h b s a H Q I (i a H Q q)
def PT.imp(h:PT X e t)(i:∀a H Q,t' a H Q->t a H Q):PT X e t':=fun b s a H Q I q=>h b s a H Q I (i a H Q q)
def PW.imp(h:PW X e t)(i:∀a H Q,t' a H Q->t a H Q):PW X e t':=fun d b s a H Q I q=>h d b s a H Q I (i a H Q q)
def PA.imp(h:PA X e t)(i:∀a H Q,t' a H Q->t a H Q):PA X e t':=fun pos b s a H Q I q=>h pos b s a H Q I (i a H Q q)
def PS.imp(h:PS X e t)(i:∀D a H,t' D a H->t D a H):PS X e t':=fun b s a H D I q=>h b s a H D I (i D a H q)
def PSs.imp(h:PSs X e t)(i:∀D a H,t' D a H->t D a H):PSs X e t':=fun b s a H D I q=>h b s a H D I (i D a H q)
def mx.imp(h:mx X f t)(i:∀x y H Q,t' x y H Q->t x y H Q):mx X f t':=fun a s b H x y v u Q I e d q=>h a s b H x y v u Q I e d (i x y H Q q)
noncomputable def eC(d:Dt):RE:=fun _ h=>ε (d,h)
abbrev nS(i:Int):=eC (.int i)
noncomputable def eV(i:Nat):RE:=fun l h=>match l[i]? with | some (some d)=>ε (d,h) | _=>none
noncomputable def e2(op:vD)(fa fb:RE):RE:=fun l h=>(fa l h).bind fun r=>(fb l r.2).bind fun q=>op r.1 q.1 q.2
noncomputable def dA:RA:=fun _ h=>ε ([],h)
noncomputable def aA(f:RE)(g:RA):RA:=fun l h=>(f l h).bind fun r=>(g l r.2).bind fun q=>ε (r.1::q.1,q.2)
section
variable{X:Cx}{a b c:Pu}{fa fb s:RE}{pos:Pos}
def cA{i j pos}:EM X (.Constant (.int i) j pos) (eC (.int i)):=by unhygienic exact PE.imp En fun m H Q g=>by obtain⟨f,l,h,d,n,S,L,e,k⟩:=g;cases e;exact k f _ H (Xu.mpr rfl) S (mi.refl _ _)
def rD{i j pos}:EM X (.Constant (.bool i) j pos) (eC (.bl i)):=by unhygienic exact PE.imp i8 fun m H Q g=>by obtain⟨f,l,h,d,n,S,L,e,k⟩:=g;cases e;exact k f _ H (af.mpr rfl) S (mi.refl _ _)
def sB{i j pos}:EM X (.Constant (.str i) j pos) (eC (.str i)):=by unhygienic exact PE.imp Rn fun m H Q g=>by obtain⟨f,l,h,d,n,S,L,e,k⟩:=g;cases e;exact k f _ H (cm.mpr rfl) S (mi.refl _ _)
def mF{j pos}:EM X (.Constant .none j pos) (eC .non):=by unhygienic exact PE.imp Gn fun i H Q g=>by obtain⟨f,l,h,d,m,S,L,e,k⟩:=g;cases e;exact k f _ H (bt.mpr rfl) S (mi.refl _ _)
set_option tactic.hygienic true in
theorem bA (i) (n:autoParam (X.N[i]?=ε x) Æ) (m:J1 X.env.scope x:=by first | exact Or.inl rfl | exact Or.inr (Or.inl rfl) | exact Or.inr (Or.inr rfl)) (hd:autoParam ((x==("__debug__" :Str))=false) Ñ)
 (f:autoParam ((x==("__classdict__" :Str))=false) Ñ):EM X (.Name x pos) (eV i):=by
 unhygienic
  exact PE.imp (Tn n m hd f) fun p H Q j=>by
   obtain⟨g,l,h,d,u,S,L,e,k⟩:=j;unfold eV at e;split at e
   . rename_i y q;cases e;obtain⟨v,o,r⟩:=L.val i _ q;exact⟨v,o,k g v H r S (mi.refl _ _)⟩
   . cases e
def Df (m:Gl X x) (j:X.mg x=ε u) (r:ml v u) (i:∀H f,Uo X.K H f d v) (hd:autoParam ((x==("__debug__" :Str))=false) Ñ):EM X (.Name x pos) (eC d):=by unhygienic exact PE.imp (Kc m j r hd) fun n H Q g=>by obtain⟨f,l,h,p,o,S,L,e,k⟩:=g;cases e;exact k f v H (i H f) S (mi.refl _ _)
def sA{e d:Type}{o:O4 e}{f:e->O4 d}{b:d}(h:o.bind f=ε b):∃a,o=ε a/\f a=ε b:=by
 cases o with
 | none=>cases h
 | some a=>exact⟨a,rfl,h⟩
def uA(B:OM X (binaryOp op) o)(D:EM X a fa)(C:EM X b fb):EM X (.BinOp a op b pos) (e2 o fa fb):=by
 unhygienic
  exact PE.imp (yT B D C) fun O H Q u=>by
   obtain⟨r,l,h,d,E,S,L,e,k⟩:=u;obtain⟨⟨n,j⟩,F,e⟩:=sA e;obtain⟨⟨m,i⟩,e2,e⟩:=sA e;exact⟨r,l,h,n,j,S,L,F,fun g x R M J q=>⟨g,l,j,m,i,J,L.ext q,e2,fun f y P R2 I p=>
    ⟨f,i,n,m,d,E,I,Uo.ext p _ M,R2,e,k.ext (q.trans p)⟩⟩⟩
def tH(B:OM X (compareOp op) o)(E:EM X a fa)(D:EM X b fb)(C:behindInMarks op b=false:=by first | exact aZ _ | unhygienic rfl):EM X (.Compare a [op] [b] pos) (e2 o fa fb):=by
 unhygienic
  exact PE.imp (jt B E D C) fun P H Q u=>by
   obtain⟨r,l,h,d,F,S,L,e,k⟩:=u;obtain⟨⟨n,j⟩,I,e⟩:=sA e;obtain⟨⟨m,i⟩,e2,e⟩:=sA e;exact⟨r,l,h,n,j,S,L,I,fun g x T O M q=>⟨g,l,j,m,i,M,L.ext q,e2,fun f y R R2 J p=>
    ⟨f,i,n,m,d,F,J,Uo.ext p _ O,R2,e,k.ext (q.trans p)⟩⟩⟩
noncomputable def mn(f:RE):RT:=fun l h=>(f l h).bind fun r=>match r.1 with | .bl b=>ε (b,r.2) | _=>none
def KA(E:OM X (compareOp op) o)(J:EM X a fa)(I:EM X b fb)(F:behindInMarks op b=false:=by first | exact aZ _ | unhygienic rfl):TM X (.Compare a [op] [b] pos) (mn (e2 o fa fb)):=by
 unhygienic
  exact PT.imp (Fb E J I F) fun σ H Q D=>by
   obtain⟨C,l,h,P,h',S,L,e,k⟩:=D;obtain⟨⟨d,M⟩,f,e⟩:=sA e;obtain⟨⟨r,n⟩,O,f⟩:=sA f;obtain⟨⟨p,m⟩,e2,f⟩:=sA f;refine⟨C,l,h,r,n,S,L,O,fun j x H1 Y U B=>⟨j,l,n,p,m,U,L.ext B,e2,fun i y H2 R2 T u=>
    ⟨i,m,r,p,d,M,T,Uo.ext u _ Y,R2,f,fun g v Z W R E3=>?_⟩⟩⟩
   cases d with
   | bl q=>cases e;exact⟨P,af.mp W,k g Z R (B.trans (u.trans E3))⟩
   | _=>cases e
def lE(h:EM X e f)(he:autoParam (∀g,isTrue e X.env g=(do let v <- g;standAt e.pos;holding [v] (truthy v))) ð):TM X e (mn f):=by
 unhygienic
  exact PT.imp (m7 h he) fun B H Q m=>by
   obtain⟨j,l,h,p,C,S,L,e,k⟩:=m;obtain⟨⟨d,n⟩,o,e⟩:=sA e;refine⟨j,l,h,d,n,S,L,o,fun i v x u r y=>?_⟩;cases d with
   | bl q=>cases e;exact⟨p,af.mp u,k i x r y⟩
   | _=>cases e
noncomputable def pM(o d:vD)(fa fb s:RE):RE:=fun l h=>(fa l h).bind fun r=>(fb l r.2).bind fun q=>(o r.1 q.1 q.2).bind fun z=>match z.1 with
 | .bl true=>(s l z.2).bind fun y=>d q.1 y.1 y.2
 | .bl false=>ε (.bl false,z.2)
 | _=>none
def Mq(h:tM X.K (pM r C fa fb s) B H Q):CZ (rM X.K r) (rM X.K C) (tM X.K fa) (tM X.K fb) (tM X.K s) B H Q:=by
 obtain⟨T,l,h,d,U,S,L,e,k⟩:=h;obtain⟨⟨O,I⟩,Z,e⟩:=sA e;obtain⟨⟨p,F⟩,e2,e⟩:=sA e;obtain⟨⟨M,E⟩,Y,e⟩:=sA e;refine⟨T,l,h,O,I,S,L,Z,fun o x H1 R1 S1 j=>⟨o,l,I,p,F,S1,L.ext j,e2,fun n y H2 R2 S2 i=>
  ⟨n,F,O,p,M,E,S2,Uo.ext i _ R1,R2,Y,fun f v H3 R3 P g=>?_⟩⟩⟩
 cases M with
 | bl q=>
  refine⟨q,af.mp R3,?_⟩;cases q with
  | true=>dsimp only at e;obtain⟨⟨J,D⟩,W,e⟩:=sA e;refine FH ⟨f,l,E,J,D,P,(L.ext (j.trans (i.trans g))),W,fun m u H4 R4 S4 R=>⟨m,D,p,J,d,U,S4,Uo.ext (g.trans R) _ R2,R4,e,k.ext (j.trans (i.trans (g.trans R)))⟩⟩
  | false=>cases e;exact EH (k f _ H3 (af.mpr rfl) P (j.trans (i.trans g)))
 | _=>cases e
def Kg(g:OM X (compareOp op) r)(e:OM X (compareOp d) f)(m:EM X a fa)(k:EM X b fb)(j:EM X c s)
 (i:lastMarks [op,d] [b,c]=false:=by unhygienic rfl):EM X (.Compare a [op,d] [b,c] pos) (pM r f fa fb s):=by
 unhygienic exact PE.imp (vg g e m k j i) fun q q q h=>Mq h
noncomputable def KF(t u:RT):RT:=fun l h=>(t l h).bind fun r=>if r.1=true then u l r.2 else ε (false,r.2)
noncomputable def XB(t u:RT):RT:=fun l h=>(t l h).bind fun r=>if r.1=true then ε (true,r.2)else u l r.2
noncomputable def SC(t:RT):RT:=fun l h=>(t l h).bind fun r=>ε (!r.1,r.2)
variable{m n:RT}{rest:Oo Pu}
def WM.tm(h:WM X e f):TM X e f:=by unhygienic exact PW.pt h
def kM(d:TM X a m):WM X (.BoolOp .And [a] pos) m:=by unhygienic exact Ib d
def CG(d:TM X a m):WM X (.BoolOp .Or [a] pos) m:=by unhygienic exact v7 d
def qM(r:TM X a m)(q:WM X (.BoolOp .And (b::rest) pos) n):WM X (.BoolOp .And (a::b::rest) pos) (KF m n):=by
 unhygienic
  exact PW.imp (o7 r q) fun C H Q p=>by
   obtain⟨o,l,h,y,u,S,L,e,k⟩:=p;obtain⟨⟨i,g⟩,x,e⟩:=sA e;refine⟨o,l,h,i,g,S,L,x,fun d B j f=>?_⟩;cases i with
   | true=>rw[eG rfl]at e;exact FH ⟨d,l,g,y,u,j,L.ext f,e,k.ext f⟩
   | false=>rw[eH Xe]at e;cases e;exact EH (k d B j f)
def mE(r:TM X a m)(q:WM X (.BoolOp .Or (b::rest) pos) n):WM X (.BoolOp .Or (a::b::rest) pos) (XB m n):=by
 unhygienic
  exact PW.imp (o8 r q) fun C H Q p=>by
   obtain⟨o,l,h,y,u,S,L,e,k⟩:=p;obtain⟨⟨i,g⟩,x,e⟩:=sA e;refine⟨o,l,h,i,g,S,L,x,fun d B j f=>?_⟩;cases i with
   | true=>rw[eG rfl]at e;cases e;exact FH (k d B j f)
   | false=>rw[eH Xe]at e;exact EH ⟨d,l,g,y,u,j,L.ext f,e,k.ext f⟩
def HF(i:TM X a m):TM X (.UnaryOp .Not a pos) (SC m):=by unhygienic exact PT.imp (l7 i) fun x H Q g=>by obtain⟨f,l,h,B,y,S,L,e,k⟩:=g;obtain⟨⟨p,j⟩,o,e⟩:=sA e;cases e;exact⟨f,l,h,p,j,S,L,o,fun d r q u=>k d r q u⟩
noncomputable def mI(t u:RE):RE:=fun l h=>(t l h).bind fun r=>match r.1 with | .bl true=>u l r.2 | .bl false=>ε (.bl false,r.2) | _=>none
def GS{op}(h:EM X a fa):EM X (.BoolOp op [a] pos) fa:=by unhygienic exact Pn h
def uP(x:EM X a fa)(u:EM X (.BoolOp .And (b::rest) pos) fb):EM X (.BoolOp .And (a::b::rest) pos) (mI fa fb):=by
 unhygienic
  exact PE.imp (Ym x u) fun E H Q r=>by
   obtain⟨p,l,h,d,y,S,L,e,k⟩:=r;obtain⟨⟨j,i⟩,B,e⟩:=sA e;refine⟨p,l,h,j,i,S,L,B,fun f v D C o g=>?_⟩;cases j with
   | bl q=>
    refine⟨q,af.mp C,?_⟩;cases q with
    | true=>exact FH ⟨f,l,i,d,y,o,L.ext g,e,k.ext g⟩
    | false=>cases e;exact EH (k f _ D (af.mpr rfl) o g)
   | _=>cases e
noncomputable def GQ(t:RT)(f g:RE):RE:=fun l h=>(t l h).bind fun r=>if r.1=true then f l r.2 else g l r.2
def JP(u:TM X c m)(y:EM X a fa)(x:EM X b fb):EM X (.IfExp c a b pos) (GQ m fa fb):=by
 unhygienic
  exact PE.imp (Xk u y x) fun C H Q r=>by
   obtain⟨q,l,h,d,j,S,L,e,k⟩:=r;obtain⟨⟨o,i⟩,B,e⟩:=sA e;refine⟨q,l,h,o,i,S,L,B,fun f D p g=>?_⟩;cases o with
   | true=>rw[eG rfl]at e;exact FH ⟨f,l,i,d,j,p,L.ext g,e,k.ext g⟩
   | false=>rw[eH Xe]at e;exact EH ⟨f,l,i,d,j,p,L.ext g,e,k.ext g⟩
def iE:AM X [] dA:=by unhygienic exact PA.imp DD fun g H Q f=>by obtain⟨d,l,h,ds,i,S,L,e,k⟩:=f;cases e;exact k d [] H .nil S (mi.refl _ _)
def JG(C:EM X e f)(B:AM X j g)(hs:autoParam (gB e=true) Æ):AM X (e::j) (aA f g):=by unhygienic exact PA.imp (BC C B (pB hs j X.env)) fun P H Q y=>by obtain⟨u,l,h,ds,T,S,L,e,k⟩:=y;obtain⟨⟨F,p⟩,E,e⟩:=sA e;obtain⟨⟨o,D⟩,e2,e⟩:=sA e;cases e;exact⟨u,l,h,F,p,S,L,E,fun i x U M J r=>⟨i,l,p,o,D,J,L.ext r,e2,fun d R O R2 I q=>k d _ O (.cons (Uo.ext q _ M) R2) I (r.trans q)⟩⟩
noncomputable def EA(g:RA):RE:=fun l h=>(g l h).bind fun r=>if r.1.length<=sizeLine then ε (.tup r.1,r.2)else none
noncomputable def AB(g:RA):RE:=fun l h=>(g l h).bind fun r=>if r.1.length<=sizeLine then ε (.lst r.1,r.2)else none
noncomputable def PF(g:RA):RE:=fun l h=>(g l h).bind fun r=>if r.1.length<=sizeLine then ε (.ref r.2.length,r.2++[.lst r.1])else none
def JI{K:Ra}(S:Vs K ρ h H)(R:Ue K H ρ ds vs)(hp:H p=none):Uo K (xB H p (.tup vs)) ρ (.tup ds) (.ref p):=
 bc.mpr ⟨p,vs,rfl,.inl ⟨S.out hp,.inl xC⟩,R.ext (mi.fresh hp)⟩
def iK{K:Ra}(S:Vs K ρ h H)(R:Ue K H ρ ds vs)(hp:H p=none):Uo K (xB H p (.lst vs)) ρ (.lst ds) (.ref p):=
 cn.mpr ⟨p,vs,rfl,.inl ⟨S.out hp,.inl xC⟩,R.ext (mi.fresh hp)⟩
def UH{K:Ra}(S:Vs K ρ h H)(R:Ue K H ρ ds vs)(hp:H p=none) :
 Uo K (xB H p (.lst vs)) (ρ.add p) (.ref h.length) (.ref p)/\Vs K (ρ.add p) (h++[.lst ds]) (xB H p (.lst vs)):=by
 refine⟨al.mpr ⟨p,rfl,?_⟩,S.own hp ⟨vs,xC,R.ext (mi.own hp)⟩⟩;simp![Rg.add];rw[<- S.len,ag (Va _),Ea];rfl
def RF{e:Type}{c:Prop}[Decidable c]{a b:e}(h:(if c then ε a else none)=ε b):c/\a=b:=by
 by_cases d:c
 . rw[eG d]at h;exact⟨d,uo h⟩
 . rw[eH d]at h;cases h
def VA{x1}(h:AM X i g):EM X (.Tuple i x1 pos) (EA g):=by unhygienic exact PE.imp (HZ h) fun C H Q r=>by obtain⟨q,l,h,d,E,S,L,e,k⟩:=r;obtain⟨⟨ds,x⟩,y,e⟩:=sA e;obtain⟨u,e⟩:=RF e;cases e;exact⟨q,l,h,ds,x,S,L,y,fun f D F o j B=>⟨by rw[o.length];exact u,fun p hp=>k f _ _ (JI j o hp) (j.fresh hp) (B.trans (mi.fresh hp))⟩⟩
def uD(h:AM X i g):EM X (.List i pos) (AB g):=by unhygienic exact PE.imp (BP h) fun C H Q r=>by obtain⟨q,l,h,d,E,S,L,e,k⟩:=r;obtain⟨⟨ds,x⟩,y,e⟩:=sA e;obtain⟨u,e⟩:=RF e;cases e;exact⟨q,l,h,ds,x,S,L,y,fun f D F o j B=>⟨by rw[o.length];exact u,fun p hp=>k f _ _ (iK j o hp) (j.fresh hp) (B.trans (mi.fresh hp))⟩⟩
def uH(h:AM X i g):EM X (.List i pos) (PF g):=by unhygienic exact PE.imp (BP h) fun C H Q r=>by obtain⟨q,l,h,d,E,S,L,e,k⟩:=r;obtain⟨⟨ds,x⟩,y,e⟩:=sA e;obtain⟨u,e⟩:=RF e;cases e;exact⟨q,l,h,ds,x,S,L,y,fun o D F f j B=>⟨by rw[f.length];exact u,fun p hp=>k _ _ _ (UH j f hp).1 (UH j f hp).2 (B.trans (mi.own hp))⟩⟩
end
noncomputable def oI(C:Int->Int->Prop)[∀i j,Decidable (C i j)](g:Int->Int->Dt):vD:=fun a b h=>match a,b with
 | .int i,.int j=>if C i j then ε (g i j,h)else none
 | _,_=>none
noncomputable def RK(g:Int->Int->Dt):vD:=fun a b h=>match a,b with
 | .int i,.int j=>ε (g i j,h)
 | _,_=>none
instance:∀i j,Decidable (IK i j):=fun i j=>by unfold IK;infer_instance
instance:∀i j,Decidable (dq i j):=fun i j=>by unfold dq;infer_instance
instance:∀i j,Decidable (XG i j):=fun i j=>by unfold XG;infer_instance
noncomputable def ZD:Dt->O4 V
 | .non=>ε .non
 | .bl b=>ε (.bl b)
 | .int i=>ε (.int i)
 | .str x=>ε (.str x)
 | _=>none
def tX{K:Ra}(e:ZD d=ε v):Uo K H ρ d v:=by cases d<;>simp![ZD]at e<;>first | (cases e;simp![Uo]) | cases e
def RJ{K:Ra}(e:ZD d=ε v)(r:Uo K H ρ d u):u=v:=by cases d<;>simp![ZD]at e<;>first | (cases e;simpa only[Uo]using r) | cases e
section
variable{X:Cx}
set_option tactic.hygienic true in
theorem kJ[∀i j,Decidable (C i j)](m:mx X f (rI C g'))(n:∀i j,ZD (g i j)=ε (g' i j)):OM X f (oI C g):=by
 unhygienic
  exact mx.imp m fun x y H Q b=>by
   obtain⟨a,h,u,r,d,q,S,p,R2,e,k⟩:=b;unfold oI at e;split at e
   . rename_i i j;obtain⟨o,e⟩:=RF e;cases e;exact⟨i,j,Xu.mp p,Xu.mp R2,o,k a _ H (tX (n i j)) S (mi.refl _ _)⟩
   . cases e
set_option tactic.hygienic true in
theorem XH(m:mx X f (SK g'))(n:∀i j,ZD (g i j)=ε (g' i j)):OM X f (RK g):=by
 unhygienic
  exact mx.imp m fun x y H Q b=>by
   obtain⟨a,h,r,q,d,p,S,o,R2,e,k⟩:=b;unfold RK at e;split at e
   . rename_i i j;cases e;exact⟨i,j,Xu.mp o,Xu.mp R2,k a _ H (tX (n i j)) S (mi.refl _ _)⟩
   . cases e
def VB:vD:=RK fun i j=>.int (i+j)
def tF:vD:=RK fun i j=>.int (i-j)
def wC:vD:=oI dq fun i j=>.int (i*j)
def NB:vD:=oI IK fun i j=>.int (i/j)
def lB:vD:=oI (fun _ j=>0<j) fun i j=>.int (i%j)
def dH:vD:=oI XG fun i j=>.int (i^j.toNat)
def fH:vD:=oI XG fun i j=>.int (i*2^j.toNat)
def jJ:vD:=oI (fun _ j=>0<=j) fun i j=>.int (i/2^j.toNat)
def SG:vD:=RK fun i j=>.int (Builtin.bitAnd i j)
def oN:vD:=RK fun i j=>.int (Builtin.bitOr i j)
def ZI:vD:=RK fun i j=>.bl (decide (i<j))
def Y1:vD:=RK fun i j=>.bl (decide (i<=j))
def pN:vD:=RK fun i j=>.bl (decide (j<i))
def dU:vD:=RK fun i j=>.bl (decide (j<=i))
def fD:OM X (binaryOp .Add) VB:=by unhygienic exact XH Em fun q q=>rfl
def vH:OM X (binaryOp .Sub) tF:=by unhygienic exact XH Um fun q q=>rfl
def jE:OM X (binaryOp .Mult) wC:=by unhygienic exact kJ Km fun q q=>rfl
def bE:OM X (binaryOp .FloorDiv) NB:=by unhygienic exact kJ Xh fun q q=>rfl
def uC:OM X (binaryOp .Mod) lB:=by unhygienic exact kJ Jm fun q q=>rfl
def eZ:OM X (binaryOp .Pow) dH:=by unhygienic exact kJ Nm fun q q=>rfl
def mK:OM X (binaryOp .LShift) fH:=by unhygienic exact kJ Om fun q q=>rfl
def MS:OM X (binaryOp .RShift) jJ:=by unhygienic exact kJ Rm fun q q=>rfl
def QH:OM X (binaryOp .BitAnd) SG:=by unhygienic exact XH Gm fun q q=>rfl
def dZ:OM X (binaryOp .BitOr) oN:=by unhygienic exact XH b8 fun q q=>rfl
def YH:OM X (compareOp .Lt) ZI:=by unhygienic exact XH Z7 fun q q=>rfl
def V0:OM X (compareOp .LtE) Y1:=by unhygienic exact XH Y7 fun q q=>rfl
def XM:OM X (compareOp .Gt) pN:=by unhygienic exact XH j6 fun q q=>rfl
def R0:OM X (compareOp .GtE) dU:=by unhygienic exact XH i6 fun q q=>rfl
def X1:vD:=fun a b h=>match ZD a,ZD b with
 | some x,some y=>if uN x y=true then ε (.bl (decide (x=y)),h)else none
 | _,_=>none
def Z1:vD:=fun a b h=>match ZD a,ZD b with
 | some x,some y=>if uN x y=true then ε (.bl (!decide (x=y)),h)else none
 | _,_=>none
set_option tactic.hygienic true in
theorem P0:OM X (compareOp .Eq) X1:=by
 unhygienic
  exact mx.imp Z5 fun x y H Q b=>by
   obtain⟨a,h,n,m,d,j,S,i,R2,e,k⟩:=b;unfold X1 at e;split at e
   . rename_i u v g e2;obtain⟨f,e⟩:=RF e;cases e;rw[RJ g i,RJ e2 R2];exact⟨f,k a _ H (af.mpr rfl) S (mi.refl _ _)⟩
   . cases e
set_option tactic.hygienic true in
theorem W0:OM X (compareOp .NotEq) Z1:=by
 unhygienic
  exact mx.imp a8 fun x y H Q b=>by
   obtain⟨a,h,n,m,d,j,S,i,R2,e,k⟩:=b;unfold Z1 at e;split at e
   . rename_i u v g e2;obtain⟨f,e⟩:=RF e;cases e;rw[RJ g i,RJ e2 R2];exact⟨f,k a _ H (af.mpr rfl) S (mi.refl _ _)⟩
   . cases e
noncomputable def SI:Dt->Bool
 | .non=>true
 | _=>false
def JE:vD:=fun a b h=>match b with
 | .non=>ε (.bl (SI a),h)
 | _=>none
def Ak{K:Ra}(r:Uo K H ρ d v):decide (v=.non)=SI d:=by
 cases d with
 | non=>have e:=bt.mp r;subst e;rfl
 | bl b=>have e:=af.mp r;subst e;rfl
 | int i=>have e:=Xu.mp r;subst e;rfl
 | str x=>have e:=cm.mp r;subst e;rfl
 | tup f=>obtain⟨a,g,e,_⟩:=bc.mp r;subst e;rfl
 | lst f=>obtain⟨a,g,e,_⟩:=cn.mp r;subst e;rfl
 | ref n=>obtain⟨a,e,_⟩:=al.mp r;subst e;rfl
 | ntp n=>obtain⟨a,e,_⟩:=ej.mp r;subst e;rfl
def kK:OM X (compareOp .Is) JE:=by
 unhygienic
  exact mx.imp Im fun x y H Q b=>by
   obtain⟨a,h,j,i,d,g,S,f,R2,e,k⟩:=b;unfold JE at e;split at e
   . cases e;exact⟨bt.mp R2,k a _ H (af.mpr (by rw[Ak f])) S (mi.refl _ _)⟩
   . cases e
noncomputable def dB(f:RE):RE:=fun l h=>(f l h).bind fun r=>match r.1 with | .int i=>ε (.int (-i),r.2) | _=>none
def QC(m:EM X a fa):EM X (.UnaryOp .USub a pos) (dB fa):=by
 unhygienic
  exact PE.imp (X0 F6 m) fun y H Q j=>by
   obtain⟨g,l,h,d,B,S,L,e,k⟩:=j;obtain⟨⟨f,n⟩,o,e⟩:=sA e;refine⟨g,l,h,f,n,S,L,o,fun b x r q p u=>?_⟩;cases f with
   | int i=>cases e;exact⟨i,Xu.mp q,k b _ r (Xu.mpr rfl) p u⟩
   | _=>cases e
end
noncomputable def yA(h:HI):Dt->O4 (Oo Dt)
 | .lst a=>ε a
 | .ref n=>match h[n]? with | some (.lst a)=>ε a | _=>none
 | _=>none
def XC(h:HI):Dt->O4 (Oo Dt)
 | .tup a=>ε a
 | d=>yA h d
set_option tactic.hygienic true in
theorem yC{K:Ra}(S:Vs K ρ h H)(R:Uo K H ρ d v)(e:yA h d=ε xs):∃a vs,v=.ref a/\mv K H a vs/\Ue K H ρ xs vs:=by
 cases d with
 | lst b=>cases e;obtain⟨a,vs,e,q,r⟩:=cn.mp R;exact⟨a,vs,e,q.sq,r⟩
 | ref n=>
  simp![yA]at e;split at e
  . rename_i b q;cases e;obtain⟨a,rfl,f⟩:=al.mp R;obtain⟨vs,i,g⟩:=S.lst f q;exact⟨a,vs,rfl,mv.of i,g⟩
  . cases e
 | _=>simp![yA]at e<;>cases e
def cM{K:Ra}(S:Vs K ρ h H)(R:Uo K H ρ d v)(e:XC h d=ε xs):∃a vs,v=.ref a/\(mv K H a vs\/YG K H a vs)/\Ue K H ρ xs vs:=by
 cases d with
 | tup b=>cases e;obtain⟨a,vs,e,q,r⟩:=bc.mp R;exact⟨a,vs,e,.inr q.sq,r⟩
 | lst b=>obtain⟨a,vs,e,q,r⟩:=yC S R (show yA h (.lst b)=ε xs from e);exact⟨a,vs,e,.inl q,r⟩
 | ref n=>obtain⟨a,vs,e,q,r⟩:=yC S R (show yA h (.ref n)=ε xs from e);exact⟨a,vs,e,.inl q,r⟩
 | _=>cases e
def Ue.atI{K:Ra}(r:Ue K H ρ ds vs)(e:L2.atI ds i=ε d):∃v,L2.atI vs i=ε v/\Uo K H ρ d v:=by
 unfold L2.atI at e ⊢;rw[r.length];cases q:gI ds.length i with
 | none=>rw[q]at e;cases e
 | some j=>rw[q]at e;exact r.get e
def nA:vD:=fun a b h=>match b with
 | .int i=>match a with
  | .str z=>if z.length<=sizeLine then(L2.atI z.cps.toList i).map fun c=>(.str ⟨#[c]⟩,h)else none
  | _=>(XC h a).bind fun e=>(L2.atI e i).map fun d=>(d,h)
 | _=>none
section
variable{X:Cx}{a b c:Pu}{fa fb fc:RE}{pos:Pos}
set_option tactic.hygienic true in
theorem Yt(h:rM X.K nA x y H Q):rIx X.K x y H Q:=by
 obtain⟨f,h,E,D,d,C,S,m,R2,e,k⟩:=h;unfold nA at e;split at e
 . rename_i i;have g:=Xu.mp R2;split at e
   . rename_i z;split at e
     . rename_i o;cases q:L2.atI z.cps.toList i with
       | none=>rw[q]at e;cases e
       | some c=>rw[q]at e;cases e;exact .inr (.inr ⟨z,i,c,cm.mp m,g,o,q,k f _ H (cm.mpr rfl) S (mi.refl _ _)⟩)
     . cases e
   . obtain⟨n,B,e⟩:=sA e;cases q:L2.atI n i with
     | none=>rw[q]at e;cases e
     | some u=>
      rw[q]at e;cases e;obtain⟨p,j,e2,sq,r⟩:=cM S m B;obtain⟨v,q1,q2⟩:=r.atI q;rcases sq with sq | sq
      . exact .inl ⟨p,j,i,v,e2,g,sq,q1,k f _ H q2 S (mi.refl _ _)⟩
      . exact .inr (.inl ⟨p,j,i,v,e2,g,sq,q1,k f _ H q2 S (mi.refl _ _)⟩)
 . cases e
def kA(B:EM X a fa)(u:EM X b fb)(hs:fY b:=by intro _ _;rfl):EM X (.Subscript a b pos) (e2 nA fa fb):=by
 unhygienic
  exact PE.imp (j8 Dp B u hs) fun J H Q r=>by
   obtain⟨q,l,h,d,C,S,L,e,k⟩:=r;obtain⟨⟨n,j⟩,D,e⟩:=sA e;obtain⟨⟨m,i⟩,e2,e⟩:=sA e;exact⟨q,l,h,n,j,S,L,D,fun g x O I F p=>⟨g,l,j,m,i,F,L.ext p,e2,fun f y M R2 E o=>
    Yt ⟨f,i,n,m,d,C,E,Uo.ext o _ I,R2,e,k.ext (p.trans o)⟩⟩⟩
end
noncomputable def SA:RS:=fun l h=>ε (.nx l h)
noncomputable def jA(f g:RS):RS:=fun l h=>(f l h).bind fun r=>match r with | .nx a b=>g a b | r=>ε r
noncomputable def CA(i:Nat)(f:RE):RS:=fun l h=>(f l h).bind fun r=>ε (.nx (l.set i (ε r.1)) r.2)
noncomputable def TD(f:RE):RS:=fun l h=>(f l h).bind fun r=>ε (.nx l r.2)
noncomputable def wA(f:RE):RS:=fun l h=>(f l h).bind fun r=>ε (.rt r.1 r.2)
noncomputable def bC(t:RT)(f g:RS):RS:=fun l h=>(t l h).bind fun r=>if r.1=true then f l r.2 else g l r.2
section
variable{X:Cx}{st:Ro}{rest:Oo Ro}{e:Pu}{f:RE}{t u:RS}{c:RT}{pos:Pos}
def iB:aI X [] SA:=by unhygienic exact PSs.imp Bb fun D a H d=>by obtain⟨b,l,h,r,S,L,e,k⟩:=d;cases e;exact k b a H S L (mi.refl _ _)
def lA(h1:ZM X st t)(h2:aI X rest u):aI X (st::rest) (jA t u):=by
 unhygienic
  exact PSs.imp (bh h1 h2) fun D y H n=>by
   obtain⟨m,l,h,r,S,L,e,k⟩:=n;obtain⟨i,o,e⟩:=sA e;refine⟨m,l,h,i,S,L,o,?_⟩;cases i with
   | nx g a=>exact fun b j B p q x=>⟨b,g,a,r,p,q,e,k.ext x⟩
   | rt d a=>cases e;exact k
   | bk g a=>cases e;exact k
   | ct g a=>cases e;exact k
def qA(h1:ZM X st t):aI X [st] t:=by unhygienic exact Eb h1
def sE(he:EM X e f)(hs:autoParam (swapsWith e none pos.line X.env=pure false) Æ):ZM X (.Expr e pos) (TD f):=by unhygienic exact PS.imp (Ab he hs) fun D d H i=>by obtain⟨g,l,h,r,S,L,e,k⟩:=i;obtain⟨⟨n,j⟩,m,e⟩:=sA e;cases e;exact⟨g,l,h,n,j,S,L,m,fun a v p q o b=>k a d p o (L.ext b) b⟩
def AA(he:EM X e f):ZM X (.Return (ε e) pos) (wA f):=by unhygienic exact PS.imp (i7 he) fun D j H b=>by obtain⟨a,l,h,r,S,L,e,k⟩:=b;obtain⟨⟨i,d⟩,g,e⟩:=sA e;cases e;exact⟨a,l,h,i,d,S,L,g,k⟩
def fB(q:TM X b c)(y:aI X j t)(x:aI X d u):ZM X (.If b j d pos) (bC c t u):=by
 unhygienic
  exact PS.imp (n8 q y x) fun D C H p=>by
   obtain⟨o,l,h,r,S,L,e,k⟩:=p;obtain⟨⟨m,i⟩,B,e⟩:=sA e;refine⟨o,l,h,m,i,S,L,B,fun a E n g=>?_⟩;cases m with
   | true=>rw[eG rfl]at e;exact FH ⟨a,l,i,r,n,L.ext g,e,k.ext g⟩
   | false=>rw[eH Xe]at e;exact EH ⟨a,l,i,r,n,L.ext g,e,k.ext g⟩
def JA(i)(o:X.N.Nodup)(he:EM X e f)(hi:autoParam (X.N[i]?=ε x) Æ)(m:autoParam (DK X.env.scope x) ö)
 (hs:autoParam (swapsWith e (ε (.Name x a)) pos.line X.env=pure false) Æ) (n:autoParam (X.fn x=true\/X.env.scope.names.lookup x=ε .local) Ø) :
 ZM X (.Assign [.Name x a] e pos) (CA i f):=by
 unhygienic exact PS.imp (j7 o hi m he hs n) fun D F H j=>by obtain⟨g,l,h,r,S,L,e,k⟩:=j;obtain⟨⟨y,p⟩,q,e⟩:=sA e;cases e;exact⟨g,l,h,y,p,S,L,q,fun b v E C B d=>k b _ E B ((L.ext d).set i C) d⟩
end
inductive mo where
 | vals (xs:List Dt)
 | rf (n:Nat)
 | zp (a b:Dt)
 | it (n:Nat)
 | en (n:Nat)
def mo.at(s:mo)(h:HI)(i:Nat):O4 (O4 Dt):=match s with
 | .vals d=>ε d[i]?
 | .rf n=>match h[n]? with | some (.lst d)=>ε d[i]? | _=>none
 | .zp a b=>match yA h a,yA h b with
  | some d,some ys=>ε (match d[i]?,ys[i]? with | some x,some y=>ε (.tup [x,y]) | _,_=>none)
  | _,_=>none
 | .it n=>match h[n]? with | some (.df kvs)=>ε (kvs[i]?.map fun p=>.tup [.tup (p.1.map Dt.int),p.2]) | _=>none
 | .en n=>match h[n]? with | some (.lst d)=>ε (d[i]?.map fun x=>.tup [.int (i:Int),x]) | _=>none
def mo.fuel(s:mo)(h:HI):Nat:=match s with
 | .vals b=>b.length+1
 | .rf n=>match h[n]? with | some (.lst b)=>b.length+1 | _=>0
 | .zp a _=>match yA h a with | some b=>b.length+1 | _=>0
 | .it n=>match h[n]? with | some (.df kvs)=>kvs.length+1 | _=>0
 | .en n=>match h[n]? with | some (.lst b)=>b.length+1 | _=>0
abbrev RI:=LI->HI->O4 (mo×HI)
def u0(K:Ra)(H:Hp)(ρ:Rg)(s:mo)(J:It):Prop:=
 ∀b a f,az ρ a H b->Vs K a f b->∀i:Nat,match s.at f i with
  | none=>True
  | some none=>J.stop i b
  | some (some d)=>J.go i b/\∀v e,J.yld i b v e->Uo K e a d v/\mi a a b e/\Vs K a f e
inductive iM(K:Frag)(g:RI)(σ:L2.St)(H:Hp)(R:It->Hp->Prop):Prop where
 | mk (ρ:Rg) (l:LI) (h:HI) (s:mo) (h':HI) (S:Vs K ρ h H) (L:Ze K H ρ l σ) (e:g l h=ε (s,h')) (k:∀ρ' J H',u0 K H' ρ' s J->Vs K ρ' h' H'->mi ρ ρ' H H'->R J H')
@[irreducible] def IM(X:Cx)(b a:Pu)(g:RI):Prop:=PI X b a (iM X.K g)
def PI.imp(h:PI X d e t)(i:∀a H Q,t' a H Q->t a H Q):PI X d e t':=fun b s a H Q I q=>h b s a H Q I (i a H Q q)
abbrev RG:=Dt->LI->O4 LI
inductive gM(K:Frag)(g:RG)(v:V)(σ:L2.St)(H:Hp)(Q:L2.St->Hp->Prop):Prop where
 | mk (ρ:Rg) (l:LI) (h:HI) (d:Dt) (l':LI) (S:Vs K ρ h H) (L:Ze K H ρ l σ) (r:Uo K H ρ d v) (e:g d l=ε l') (k:∀σ',Ze K H ρ l' σ'->Q σ' H)
@[irreducible] def GM(X:Cx)(a:Pu)(g:RG):Prop:=PG X a (gM X.K g)
def PG.imp(h:PG X e t)(i:∀v a H Q,t' v a H Q->t v a H Q):PG X e t':=fun b s a H v u Q I r q=>h b s a H v u Q I r (i v a H Q q)
noncomputable def BA(i:Nat):RG:=fun d l=>ε (l.set i (ε d))
def aC(e:RG)(body:RS)(s:mo):Nat->Nat->RS
 | 0,_,_,_=>none
 | k+1,i,l,h=>match s.at h i with
  | none=>none
  | some none=>ε (.nx l h)
  | some (some d)=>(e d l).bind fun f=>(body f h).bind fun r=>match r with
   | .nx b a=>aC e body s k (i+1) b a
   | .ct b a=>aC e body s k (i+1) b a
   | .bk b a=>ε (.nx b a)
   | .rt d a=>ε (.rt d a)
def GC(g:RI)(a:RG)(body:RS):RS:=fun l h=>(g l h).bind fun r=>aC a body r.1 (r.1.fuel r.2) 0 l r.2
section
variable{X:Cx}{w t:Pu}{pos:Pos}
def CD(i)(g:X.N.Nodup)(hi:autoParam (X.N[i]?=ε x) Æ)(b:autoParam (DK X.env.scope x) ö)
 (f:autoParam (X.fn x=true\/X.env.scope.names.lookup x=ε .local) Ø):GM X (.Name x pos) (BA i):=by
 unhygienic exact PG.imp (XJ g hi b f) fun v j H Q a=>by obtain⟨m,l,h,d,n,S,L,R,e,k⟩:=a;cases e;exact k _ (L.set i R)
noncomputable def VG(f:RE):RI:=fun l h=>(f l h).bind fun r=>match r.1 with | .int j=>if -(2^62)<=j/\j<2^62 then ε (.vals ((List.range j.toNat).map fun(k:Nat)=>Dt.int (k:Int)),r.2)else none | _=>none
noncomputable def L1(f g:RE):RI:=fun l h=>(f l h).bind fun r=>(g l r.2).bind fun q=>match r.1,q.1 with
 | .int i,.int j=>if -(2^62)<=i/\i<2^62/\-(2^62)<=j/\j<2^62 then ε (.vals ((List.range (j-i).toNat).map fun(k:Nat)=>Dt.int (i+(k:Int))),q.2)else none | _,_=>none
def yF (u:Gl X "range") (r:X.mg "range" =none) (x:EM X a f) (hs:autoParam (gB a=true) Æ) :
 IM X w (.Call (.Name "range" p) [a] [] pos) (VG f):=by
 unhygienic
  exact PI.imp (Zw u r (BC x DD (pB hs _ _)) (pB hs _ _)) fun O H R o=>by
   obtain⟨n,l,h,s,Q,S,L,e,k⟩:=o;obtain⟨⟨g,y⟩,B,e⟩:=sA e;refine⟨n,l,h,g,y,S,L,B,fun d v J I F M=>?_⟩;cases g with
   | int j=>
    obtain⟨⟨D,C⟩,e⟩:=RF e;cases e;refine⟨j,by rw[Xu.mp I],D,C,k d _ J (fun U m P W E i=>?_) F M⟩;simp![mo.at,w5];by_cases b:i<j.toNat
    . rw[Oa b];refine⟨b,fun v T q=>?_⟩;obtain⟨rfl,rfl⟩:=q;exact⟨Xu.mpr ⋯,mi.refl _ _,E⟩
    . rw[lu (by simpa using Jo.mp b)];exact Jo.mp b
   | _=>cases e
def Zz (J:Gl X "range") (I:X.mg "range" =none) (O:EM X a f) (M:EM X b g) (hs:autoParam (gB a=true) Æ) (d:autoParam (gB b=true) Æ) :
 IM X w (.Call (.Name "range" p) [a,b] [] pos) (L1 f g):=by
 unhygienic
  exact PI.imp (ak J I (BC O (BC M DD (pB d _ _)) (pB hs _ _)) (by rw[pB hs,pB d];rfl) (pB d _ _)) fun σ H R F=>by
   obtain⟨E,l,h,s,h',S,L,e,k⟩:=F;obtain⟨⟨B,x⟩,Q,e⟩:=sA e;obtain⟨⟨y,P⟩,e2,e⟩:=sA e;refine⟨E,l,h,B,x,S,L,Q,fun r v H1 Y W C=>⟨r,l,x,y,P,W,L.ext C,e2,fun o u Z R2 U E2=>?_⟩⟩;cases B with
   | int i=>
    cases y with
    | int j=>
     obtain⟨c,e⟩:=RF e;cases e;refine⟨i,j,by rw[Xu.mp Y,Xu.mp R2],c,k o _ Z (fun H3 D h3 E3 T n=>?_) U (C.trans E2)⟩;simp![mo.at,w5];by_cases m:n<(j-i).toNat
     . rw[Oa m];refine⟨m,fun v H4 q=>?_⟩;obtain⟨rfl,rfl⟩:=q;exact⟨Xu.mpr rfl,mi.refl _ _,T⟩
     . rw[lu (by simpa using Jo.mp m)];exact Jo.mp m
    | _=>cases e
   | _=>cases e
noncomputable def ZT(f:RE):RI:=fun l h=>(f l h).bind fun r=>match r.1 with | .lst a=>ε (.vals a,r.2) | .ref n=>ε (.rf n,r.2) | _=>none
def RB(f:RE):RI:=fun l h=>(ZT f l h).bind fun r=>if 0<r.1.fuel r.2 then ε r else none
theorem sC(x:EM X a f):IM X w a (RB f):=by
 unhygienic
  exact PI.imp (Xc x) fun σ H R Z=>by
   obtain⟨Y,l,h,s,h',S,L,e,k⟩:=Z;obtain⟨⟨s1,h1⟩,e,I⟩:=sA e;obtain⟨E,I⟩:=RF I;cases I;obtain⟨⟨Q,F⟩,e1,e⟩:=sA e;refine⟨Y,l,h,Q,F,S,L,e1,fun j v U T J W=>?_⟩;cases Q with
   | lst O=>
    cases e;obtain⟨a,b,rfl,q,r⟩:=cn.mp T;refine⟨a,rfl,⟨b,q.sq⟩,k j _ U (fun H2 C F B p i=>?_) J W⟩;have q2:=q.same B;have r2:=Ue.same B _ r;simp![mo.at];cases P:O[i]? with
    | none=>refine⟨b,q2.sq,?_⟩;rw[r.length];exact Eu.mp P
    | some d=>obtain⟨v,g,g2⟩:=r2.get P;refine⟨⟨b,v,q2.sq,g⟩,fun u H3 y=>?_⟩;obtain⟨rfl,y⟩:=y;have m:=y b q2.sq;rw[g]at m;cases m;exact⟨g2,mi.refl _ _,p⟩
   | ref n=>
    cases e;obtain⟨a,rfl,x⟩:=al.mp T;simp![mo.fuel]at E;split at E
    . rename_i O q0;obtain⟨D,g0,_⟩:=J.lst x q0;refine⟨a,rfl,⟨D,mv.of g0⟩,k j _ U (fun H2 C F B p i=>?_) J W⟩;have o:=B.ix _ _ x;simp![mo.at];split
      . trivial
      . rename_i y;split at y
        . rename_i ys q2;obtain⟨b,g,r⟩:=p.lst o q2;refine⟨b,mv.of g,?_⟩;rw[r.length];exact Eu.mp (uo y)
        . cases y
      . rename_i d y;split at y
        . rename_i ys q2;obtain⟨b,g,r⟩:=p.lst o q2;obtain⟨v,M,z2⟩:=r.get (uo y);refine⟨⟨b,v,mv.of g,M⟩,fun u H3 y=>?_⟩;obtain⟨rfl,y⟩:=y;have m:=y b (mv.of g);rw[M]at m;cases m;exact⟨z2,mi.refl _ _,p⟩
        . cases y
    . exact Es E nofun
   | _=>cases e
noncomputable def OP(f:RE):RI:=fun l h=>(f l h).bind fun r=>match r.1 with | .tup a=>ε (.vals a,r.2) | _=>none
def Yl(I:EM X a f):IM X w a (OP f):=by
 unhygienic
  exact PI.imp (Wn I) fun U H R D=>by
   obtain⟨C,l,h,s,W,S,L,e,k⟩:=D;obtain⟨⟨p,m⟩,J,e⟩:=sA e;refine⟨C,l,h,p,m,S,L,J,fun g v Q P O T=>?_⟩;cases p with
   | tup E=>
    cases e;obtain⟨a,b,rfl,q,r⟩:=bc.mp P;refine⟨a,rfl,⟨b,q.sq⟩,k g _ Q (fun Z B m x M i=>?_) O T⟩;have q2:=q.same x;have F:=Ue.same x _ r;simp![mo.at];cases o:E[i]? with
    | none=>refine⟨b,q2.sq,?_⟩;rw[r.length];exact Eu.mp o
    | some d=>obtain⟨v,n,g2⟩:=F.get o;refine⟨⟨b,v,q2.sq,n⟩,fun u Y y=>?_⟩;obtain⟨rfl,y⟩:=y;have j:=y b q2.sq;rw[n]at j;cases j;exact⟨g2,mi.refl _ _,M⟩
   | _=>cases e
def kD(hp:PassesOwn (model X.prog X.w) X.A X.env X.xe)(hc:X.calm=true)(hi:IM X w t g)(hg:GM X w Y)(hb:aI X body f)
 (hs:autoParam (∀x,foldedSetIterable t X.env x=pure x) ð):ZM X (.For w t body [] pos) (GC g Y f):=by
 unhygienic
  exact PS.imp (f7 hp hc hi hg hb hs) fun D σ H zz=>by
   obtain⟨ρ,l,h,r,S,L,e,k⟩:=zz;obtain⟨⟨s,h1⟩,e1,e⟩:=sA e;refine⟨ρ,l,h,s,h1,S,L,e1,fun C J H1 ok S1 E1=>?_⟩;refine⟨fun i m B M=>∃a E n,Vs X.K a n M/\Ze X.K M a E B/\mi C a H1 M/\aC Y f s m i E n=ε r,⟨_,C,l,h1,S1,L.ext E1,mi.refl _ _,e⟩,?_⟩;rintro i m B M ⟨a,E,n,S',L',O,b⟩;cases m with
   | zero=>simp![aC]at b;cases b
   | succ m=>
    simp![aC]at b;have p:=ok M a n O.same S' i;cases q:s.at n i with
    | none=>rw[q]at b;cases b
    | some o=>
     rw[q]at b p;cases o with
     | none=>cases b;exact .inl ⟨p,k a B M S' L' (E1.trans O)⟩
     | some d=>
      dsimp only at b;obtain⟨l1,b1,b⟩:=sA b;obtain⟨r1,b2,b⟩:=sA b;refine .inr ⟨p.1,fun P Z=>∃m',m'<m+1/\∃a E n,Vs X.K a n Z/\Ze X.K Z a E P/\mi C a H1 Z/\aC Y f s m' (i+1) E n=ε r,fun P Z q=>q,fun v H3 y=>?_⟩;obtain⟨R3,U,S3⟩:=p.2 v H3 y;refine⟨a,E,n,d,l1,S3,L'.ext U,R3,b1,fun a0 L4=>⟨a,l1,n,r1,S3,L4,b2,?_⟩⟩;cases r1 with
      | nx W Q=>exact fun j u T F R I=>⟨m,zu _,j,W,Q,F,R,O.trans (U.trans I),b⟩
      | ct W Q=>exact fun j u T F R I=>⟨m,zu _,j,W,Q,F,R,O.trans (U.trans I),b⟩
      | bk W Q=>cases b;exact fun j u T F R I=>k j u T F R (E1.trans (O.trans (U.trans I)))
      | rt d2 Q=>cases b;exact fun j v5 T R5 F I=>k j v5 T R5 F (E1.trans (O.trans (U.trans I)))
end
noncomputable def QB(n N:Nat)(body:RS):rB:=fun ds h=>if ds.length=n then match body (ds.map some++List.replicate (N-n) none) h with
 | some (.rt d h')=>ε (d,h')
 | some (.nx _ h')=>ε (.non,h')
 | _=>none
 else none
inductive nJ(K:Frag)(n:Nat)(F:rB)(vs:List V)(H:Hp)(Q:VK)(E:XK):Prop where
 | mk (ρ:Rg) (ds:List Dt) (h:HI) (d:Dt) (h':HI) (S:Vs K ρ h H) (r:Ue K H ρ ds vs) (n:ds.length=n) (e:F ds h=ε (d,h')) (k:Out K ρ H d h' Q)
section
variable{P:Ri}{w:Rr}{K:Ra}{b:Str->O4 Ou}{a:Te}
def zO(R:Ue K H ρ ds vs):Ze K H ρ (ds.map some++List.replicate (N.length-ds.length) none) (L2.FG N vs):=by
 have g:=R.length;refine⟨by simp[L2.FG,g],fun i d e=>?_⟩;by_cases f:i<ds.length
 . rw[Yo (by simpa using f),w5]at e;cases q:ds[i]? with
   | none=>rw[q]at e;cases e
   | some j=>rw[q]at e;cases e;obtain⟨v,h,g2⟩:=R.get q;refine⟨v,?_,g2⟩;unfold L2.FG;rw[Yo (by simpa[g]using f),w5,h];rfl
 . rw[ag (by simpa using Jo.mp f),getElem?_replicate]at e;split at e<;>cases e
theorem KP{st:Ro}(F:Fun K x g st f o)(S:Za N ps (oB st))
 (y:∀i A outer s H E,Ys k (A.deeper (envOfC g (oB st) s.heap.objs.size f i))->
  aI (iF lG P w K b a N g (oB st) f i A outer s H E).nox (bD st) body):ai P w K b a lG (k+1) f o ps (nJ K ps.length (QB ps.length N.length body)):=by
 unhygienic
  refine F.ok S (fun r H Q E h=>?_) (fun i A outer s H r Q E u h=>?_)
  . obtain⟨n,ds,h,d,C,S,R,j,_⟩:=h;rw[R.length,j]
  . obtain⟨n,ds,h,d,C,S,R,j,e,k⟩:=h;refine⟨_,y i A outer s H E u,?_⟩;unfold QB at e;rw[eG j]at e;rw[<- j]at e;split at e
    . rename_i M B q;cases e;exact⟨n,_,h,_,S,zO R,q,k⟩
    . rename_i L B q;cases e;exact⟨n,_,h,_,S,zO R,q,fun m p I D O J=>k m _ I (bt.mpr rfl) D J⟩
    . cases e
end
noncomputable def rA(F:rB)(a:Oo Dt)(g:RA):RE:=fun l h=>(g l h).bind fun r=>F (r.1++a) r.2
section
variable{X:Cx}{k n:Nat}{f:Pb}{j:FuncData}{ps:Oo Str}{F:rB}{x:Str}{p pos:Pos}{e:Pu}{i:Oo Pu}{g:RA}{b:Oo V}{a:Oo Ou}{c:Oo Dt}
def rX(U:ai X.prog X.w X.K X.mg X.base lG k f j ps (nJ X.K n F))(I:Ys k X.A)(P:Gl X x)(M:X.mg x=ε (.ref f))(O:keepIn X.K (.ref f)=true)(R:mw X.K j ps a)(hd:mf b a)(q:∀H o,Ue X.K H o c b)
 (T:AM X (e::i) g) (J:∀C,C=F->∀a h r,C a h=ε r->a.length=n) (u:autoParam ((x==("__debug__" :Str))=false) Ñ) (he:autoParam (gB e=true) Æ) (hpl:autoParam (i.all gB=true) Æ) :
 EM X (.Call (.Name x p) (e::i) [] pos) (rA F c g):=by
 unhygienic exact PE.imp (Zh U I P M O R hd (E:=E0) vT T u (pB he _ _) (wI hpl)) fun σ H Q D=>by obtain⟨o,l,h,d,W,S,L,e,k⟩:=D;obtain⟨⟨y,B⟩,Y,e⟩:=sA e;exact⟨o,l,h,y,B,S,L,Y,fun m vs H1 R1 Z E1=>⟨m,_,B,d,W,Z,R1.append (q H1 m),J F rfl _ _ _ e,e,k.ext E1⟩⟩
def aP{a:Oo Dt}(e:QB n N body a h=ε r):a.length=n:=by
 unfold QB at e;split at e
 . assumption
 . cases e
end
end SM
namespace L2
noncomputable def yE(b:Oo (Str×Pb)):Oo (Str×NameKind)->Oo (Str×Pb)->O4 (Oo (Str×Pb))
 | [],cs=>ε cs
 | (n,k)::r,cs=>if k==.free then match b.lookup n with
  | some a=>yE b r ((n,a)::cs)
  | none=>none
  else yE b r cs
theorem UR:∀{l:Oo (Str×NameKind)}{cs d:Oo (Str×Pb)},yE env.cells l cs=ε d->
 (forIn l cs fun(x:Str×NameKind) (r:Oo (Str×Pb))=>if(x.2==NameKind.free)=true then(do let a <- cellOf env x.1;pure (ForInStep.yield ((x.1,a)::r)):Sem _)else pure (ForInStep.yield r))=pure d
 | [],cs,d,h=>by simp![yE]at h;cases h;rfl
 | (n,k)::r,cs,d,h=>by
  simp![yE]at h;rw[forIn_cons];cases b:k==NameKind.free with
  | true=>
   rw[b,eG rfl]at h;cases f:env.cells.lookup n with
   | none=>rw[f]at h;cases h
   | some a=>
    rw[f]at h;have ih:=UR (env:=env) h;simp![b,eO];have e:cellOf env n=pure a:=by unfold cellOf;rw[f]
    rw[e];simp![pure_bind];exact ih
  | false=>rw[b,eH (by decide)]at h;have ih:=UR (env:=env) h;simp![b,Xo,g8,pure_bind];exact ih
def zV(h:yE env.cells a.names []=ε cl):closureFor a env=pure cl:=by have e:=UR (env:=env) h;unfold closureFor;simp![bind_pure];exact e
theorem mR:∀{l:Oo (Str×NameKind)}{cs f:Oo (Str×Pb)},yE b l cs=ε f->(∀x c,cs.lookup x=ε c->b.lookup x=ε c)->
 (∀x c,f.lookup x=ε c->b.lookup x=ε c)/\(∀x c,cs.lookup x=ε c->∃C,f.lookup x=ε C)/\∀n,(n,NameKind.free)∈l->∃c,f.lookup n=ε c
 | [],cs,f,h,i=>by simp![yE]at h;cases h;exact⟨i,fun x c e=>⟨c,e⟩,fun n B=>nomatch B⟩
 | (n,k)::r,cs,f,h,i=>by
  simp![yE]at h;cases o:k==NameKind.free with
  | true=>
   rw[o,eG rfl]at h;cases p:b.lookup n with
   | none=>rw[p]at h;cases h
   | some a=>
    rw[p]at h;have y:∀x c,((n,a)::cs).lookup x=ε c->b.lookup x=ε c:=fun x c e=>by
     rw[lookup_cons]at e;cases d:x==n with
     | true=>rw[d]at e;cases e;rw[eq_of_beq d];exact p
     | false=>rw[d]at e;exact i x c e
    obtain⟨u,g,q⟩:=mR h y;refine⟨u,fun x c e=>?_,fun m j=>?_⟩
    . cases d:x==n with
      | true=>exact g x a (by rw[lookup_cons,d])
      | false=>exact g x c (by rw[lookup_cons,d];exact e)
    . rcases Bu.mp j with z | z
      . cases z;exact g _ a (by rw[lookup_cons,Ds])
      . exact q m z
  | false=>
   rw[o,eH (by decide)]at h;obtain⟨u,g,q⟩:=mR h i;refine⟨u,g,fun m j=>?_⟩;rcases Bu.mp j with z | z
   . cases z;cases o
   . exact q m z
noncomputable def tgN:Pu->Oo Str
 | .Name x _=>[x]
 | .Tuple a _ _=>a.filterMap fun | .Name x _=>ε x | _=>none
 | _=>[]
def ZH(b:Pu)(N:Oo Str)(a:Oo (O4 Nat)):Oo Str:=tgN b++a.filterMap fun o=>o.bind fun i=>N[i]?
def ndB{N:Oo Str}(h:decide N.Nodup=true):N.Nodup:=of_decide_eq_true h
noncomputable def zM:O4 Str->Pb->Oo (Str×Pb)->Oo (Str×Pb)
 | none,_,cl=>cl
 | some x,n,cl=>(x,n)::cl
noncomputable def AT:O4 Str->Te->Te
 | none,h=>h
 | some _,h=>h.push { cls:=.type "cell",data:=.cell none }
structure eu(names:List (Str×NameKind))(x:Option Str):Prop where
 fr:∀n cl,cellsFrom n names cl=zM x n cl
 hp:∀h:Heap,pushCells h names=AT x h
 ne:∀y∈names,y.2=.cell->x=ε y.1
theorem eu.no:∀{a:Oo (Str×NameKind)},(∀y∈a,y.2≠.cell)->eu a none
 | [],_=>⟨fun q q=>rfl,fun q=>rfl,fun q h=>nomatch h⟩
 | (n,k)::r,h=>by
  have i:=eu.no fun y b=>h y (rz _ b)
  have e:¬(k==NameKind.cell)=true:=fun z=>h _ vo (eq_of_beq z)
  exact⟨fun m d=>by rw[cellsFrom,eH e];exact i.fr m d,fun H=>by rw[pushCells,eH e];exact i.hp H,fun y b z=>Es z (h y b)⟩
def Y9(one:eu b.names x)
 (h:Q (newEnv b s.heap.objs.size a (zM x (s.heap.objs.size+1) i) d none .none (ε env) builtinsNs) { s with heap:=AT x (s.heap.push { cls:=.type "dict",data:=.dict #[] }) }) :
 wpAny M A (newFunctionEnv b a i [] d none .none (ε env)) Q E s:=by
 simp![newFunctionEnv,Option.isSome_some,eO];refine ao (wpAny_alloc ?_);refine ao (wpAny_layCells _ (fun g kind f=>by cases e:kind==NameKind.cell<;>simp[e]) _ _ _ _ ?_);rw[one.fr,one.hp];rw[show({ s with heap:=s.heap.push { cls:=.type "dict",data:=.dict #[] } }:Pa).heap.objs.size=s.heap.objs.size+1 from Ma ..];rw[forIn_nil];exact ao (au (au h))
def HX(scope:Scope)(a:Oo (Str×Pb))(C:Pb)(x:O4 Str)(env:Env):Env:=
 { scope:=relabel scope env,locals:=C,globals:=env.globals,cells:=zM x (C+1) a,qual:=env.qual,func:=none,code:=env.code,frame:=env.frame,builtins:=env.builtins }
def BD(X:Cx)(d:Oo Str)(a:Scope)(b:Oo (Str×Pb))(C:Pb)(x:O4 Str)(s0:Pa)(e:Hp)(fp:Oo Pb):Cx:=
 { X with N:=d,s₀:=s0,H₀:=e,env:=HX a b C x X.env,outer:=X.stack,stack:=X.stack,ex:=fp,fn:=fun y=>x==ε y,pn:=[],xe:=fun _ _=>False }
abbrev bG(X:Cx)(d:Oo Str)(a:Scope)(b:Oo (Str×Pb))(C:Pb)(s0:Pa)(e:Hp)(fp:Oo Pb):Cx:=BD X d a b C none s0 e fp
theorem vV{env:Env}{b:O4 Str}:∀{a:Oo (Str×NameKind)}{x:Str},(∀y∈a,y.2=.cell->b=ε y.1)->b≠ε x->
 ((a.map fun(n,k)=>if(k==NameKind.free&&env.scope.kind==.function&&env.kindOf n==ε .cell)then(n,NameKind.cell)else(n,k)).lookup x=ε .cell\/
  (a.map fun(n,k)=>if(k==NameKind.free&&env.scope.kind==.function&&env.kindOf n==ε .cell)then(n,NameKind.cell)else(n,k)).lookup x=ε .free)->(x,NameKind.free)∈a
 | [],_,_,_,h=>by simp at h
 | (n,k)::r,x,hc,hx0,h=>by
  have ih:=@vV env b r x (fun y g=>hc y (rz _ g)) hx0;rw[Uu]at h;cases d:x==n with
  | true=>
   have ex:=eq_of_beq d;subst ex;have i:k≠.cell:=fun z=>hx0 (hc (x,k) vo z)
   by_cases f:k=.free
   . subst f;exact vo
   . have j:(k==NameKind.free)=false:=by simpa using f
     simp![j,Hs,Xo,g8,lookup_cons,Ds]at h;rcases h with h | h
     . exact Es (uo h) i
     . exact Es (uo h) f
  | false=>
   refine rz _ (ih ?_);by_cases e:(k==NameKind.free&&env.scope.kind==.function&&env.kindOf n==ε .cell)=true
   . simp![e,eO,lookup_cons,d]at h;exact h
   . rw[Bool.not_eq_true]at e;simp![e,Xo,g8,lookup_cons,d]at h;exact h
noncomputable def be(X:Cx)(a:Scope)(b:Oo (Str×Pb)):Oo Str->Oo (O4 Nat)->Prop
 | [],[]=>True
 | _::N,none::cs=>be X a b N cs
 | x::N,some j::cs=>(X.N[j]?=ε x/\(X.env.kindOf x=ε .cell\/X.env.kindOf x=ε .free)/\((relabel a X.env).names.lookup x=ε .cell\/(relabel a X.env).names.lookup x=ε .free)/\
  b.lookup x=X.env.cells.lookup x)/\be X a b N cs
 | _,_=>False
noncomputable def OG(b:St)(a:Oo (O4 Nat)):St:=a.map fun o=>match o with | some j=>(b[j]?).join | none=>none
theorem be.get{X:Cx}{a:Scope}{b:Oo (Str×Pb)}:∀{N:Oo Str}{cs:Oo (O4 Nat)},be X a b N cs->∀{i j:Nat}{x:Str},N[i]?=ε x->cs[i]?=ε (ε j)->
 X.N[j]?=ε x/\(X.env.kindOf x=ε .cell\/X.env.kindOf x=ε .free)/\((relabel a X.env).names.lookup x=ε .cell\/(relabel a X.env).names.lookup x=ε .free)/\b.lookup x=X.env.cells.lookup x
 | [],[],_,i,j,x,h,_=>by simp at h
 | y::N,none::cs,h,0,j,x,_,e=>by simp at e
 | y::N,none::cs,h,i+1,j,x,e1,e2=>be.get (N:=N) (cs:=cs) h (i:=i) (by simpa using e1) (by simpa using e2)
 | y::N,some k::cs,h,0,j,x,e1,e2=>by simp at e1 e2;subst e1 e2;exact h.1
 | y::N,some k::cs,h,i+1,j,x,e1,e2=>be.get (N:=N) (cs:=cs) h.2 (i:=i) (by simpa using e1) (by simpa using e2)
 | [],_::_,h,_,_,_,_,_=>h.elim
 | _::_,[],h,_,_,_,_,_=>h.elim
theorem be.length:∀{N:Oo Str}{cs:Oo (O4 Nat)},be X a b N cs->cs.length=N.length
 | [],[],_=>rfl
 | y::N,none::cs,h=>by rw[Ua,Ua,be.length (N:=N) (cs:=cs) h]
 | y::N,some k::cs,h=>by rw[Ua,Ua,be.length (N:=N) (cs:=cs) h.2]
 | [],_::_,h=>h.elim
 | _::_,[],h=>h.elim
def aJ(X:Cx)(d:Oo Pu)(t:TT):Prop:=
 ∀(a:Oo (Pb×Obj))(s:Pa)(b:St)(H:Hp)(Q:Bool->Hp->Prop),me X a b H s->t b H Q->
  wpAny (model X.prog X.w) X.A (forIn d true fun c r=>if r=true then do let ok <- isTrue c X.env (eval c X.env);pure (ForInStep.yield ok)else pure (ForInStep.yield r)) (TP X a b Q) X.xe s
def iy:aJ X [] (fun z H Q=>Q true H):=fun z z z H z I q=>wpAny_tests_nil ⟨H,I,q⟩
def jy(h:PT X c t):aJ X [c] t:=fun a s b H Q I q=>wpAny_tests_one (h a s b H Q I q)
def qT(r:TI)(g:TG)(tc:TT)(te:TE)(j:Oo (O4 Nat)):TE:=fun k H Q=>r k H fun J q=>∀D,q D=none->∃W:Nat->Nat->St->Oo V->Hp->Prop,
 (∃m,W 0 m (OG k j) [] (xB q D (.lst [])))/\∀i m e d h,W i m e d h->
  (J.stop i h/\Q (.ref D) h)\/(J.go i h/\∀x p,J.yld i h x p->g x e p fun a u=>tc a u fun b o=>if b=true then te a o fun y n=>
   n D=ε (.lst d)/\d.length<sizeLine/\∃f,f<m/\W (i+1) f a (d++[y]) (xB n D (.lst (d++[y])))else ∃f,f<m/\W (i+1) f a d o)
section
variable{prog:Ri}{w:Rr}{A:Ru}{R:Result->Pa->Prop}{s:Pa}
def Hj(I:Nat->Pa->Prop)
 (turn:∀n s,I n s->wpAny (model prog w) A (pyNext H) (fun r e=>match r with
  | none=>R (.ok .next) e
  | some v=>wpAny (model prog w) A (letOwnedTupleGo a H v) (fun _ d=>wpAny (model prog w) A (assign a env v) (fun _ k=>
   wpAny (model prog w) A (forIn u true fun c r=>if r=true then do let ok <- isTrue c env (eval c env);pure (ForInStep.yield ok)else pure (ForInStep.yield r)) (fun ok b=>
    if ok=true then wpAny (model prog w) A (eval B env) (fun x j=>
     wpAny (model prog w) A (call (.builtin "list.append") [C,x]) (fun _ i=>∃m,m<n/\I m i) (fun _ _=>False) j) (fun _ _=>False) b
    else ∃m,m<n/\I m b) (fun _ _=>False) k) (fun _ _=>False) d) (fun _ _=>False) e) (fun _ _=>False) s)
 (n) (h:I n s):codeAny (model prog w) A (.compLoop (.ListComp B [⟨a,o,u,0⟩] f pos) 0 H C env) R s:=by
 refine codeAny_loop rfl I (fun n s J=>?_) n h;show wpAny _ A ((compTurn (.ListComp B [⟨a,o,u,0⟩] f pos) 0 H C env).onRaise (fun x=>do noteFrame x env;theTreesLotGoes x)) _ _ s;refine wpAny_noted ?_;rw[compTurn_list];refine ao (wpAny_standAt (ao (Ii (turn n s J) (fun r e q=>?_) fun _ _ g=>g.elim)));cases r with
 | none=>exact au q
 | some v=>
  refine ao (Ii q (fun _ d y=>?_) fun _ _ g=>g.elim);refine ao (Ii y (fun _ k F=>ao (Ii F (fun ok b p=>?_) fun _ _ g=>g.elim)) fun _ _ g=>g.elim);cases ok with
  | false=>exact au ⟨rfl,p⟩
  | true=>exact ao (ao (Ii p (fun x j E=>ao (Ii E (fun _ i D=>au (au ⟨rfl,D⟩)) fun _ _ g=>g.elim)) fun _ _ g=>g.elim))
end
section
variable{X:Cx}{F l G:Pu}{B:Oo Pu}{scope:Scope}{t:Oo (Str×Pb)}{pos:Pos}{A:Oo Str}{K:TI}{g:TG}{tc:TT}{te:TE}{w:Oo (O4 Nat)}{f:O4 Str}
def VV{Q:VK}{RR:Ou->Pb->Result->Pa->Prop}
 (hc:X.calm=true) (e9:yE X.env.cells scope.names []=ε t) (one:eu scope.names f) (c0:scope.kind=.function) (a7:be X scope t A w) (e0:∀x,f=ε x->∀(i j:Nat),A[i]?=ε x->w[i]?=ε (ε j)->False)
 (hg:∀C s0 H0 fp,PG (BD X A scope t C f s0 H0 fp) G g) (ht:∀C s0 H0 fp,aJ (BD X A scope t C f s0 H0 fp) B tc) (he:∀C s0 H0 fp,PE (BD X A scope t C f s0 H0 fp) F te)
 (I:me X L Z H s) (T:aH X.prog X.w X.K G J fp it tn) (st:tn 0 s.heap) (hf:∀b∈fp,gF X L H b)
 (c9:∀D,H D=none->∃W:Nat->Nat->St->Oo V->Hp->Prop,
  (∃m,W 0 m (OG Z w) [] (xB H D (.lst [])))/\∀i m O ys H',W i m O ys H'->
   (J.stop i H'/\Q (.ref D) H')\/(J.go i H'/\∀x H2,J.yld i H' x H2->g x O H2 fun a3 P=>tc a3 P fun b H4=>if b=true then te a3 H4 fun y H5=>
    H5 D=ε (.lst ys)/\ys.length<sizeLine/\∃Y,Y<m/\W (i+1) Y a3 (ys++[y]) (xB H5 D (.lst (ys++[y])))else ∃Y,Y<m/\W (i+1) Y a3 ys H4))
 (f0:∀C D s' H' m,me X L Z H' s'->s'.heap.Ns C m->H' C=none->C≠X.env.locals->X.s₀.heap.objs.size<=C->(∀x c,X.env.cells.lookup x=ε c->c≠C)->(∀p∈X.pn++L,p.1≠C)->Q (.ref D) H'->RR (.ref D) C (.ok .next) s') :
 wpAny (model X.prog X.w) X.A (newList []) (fun d4 c6=>wpAny (model X.prog X.w) X.A (newFunctionEnv scope X.env.globals t [] X.env.qual none .none (ε X.env)) (fun b1 c5=>
  codeAny (model X.prog X.w) X.A (.compStart (.ListComp F [⟨G,l,B,0⟩] scope pos) 0 (.ref it) d4 { b1 with scope:=relabel scope X.env }) (RR d4 b1.locals) c5) E c6) E s:=by
 obtain⟨sub,_,d5⟩:=mR e9 (fun _ _ e=>by simp at e);refine Ba (Y9 one ?_);have hD:=I.fresh;have h:me X L Z (xB H s.heap.objs.size (.lst [])) { s with heap:=s.heap.push { cls:=.type "list",data:=.seq ([]:Oo Ou).toArray } }:=I.hL (ys:=[]) (its:=[]) (t':=s.toks) .nil (nW _);generalize d0:({ s with heap:=s.heap.push { cls:=.type "list",data:=.seq ([]:Oo Ou).toArray } }:Pa)=s3 at h;generalize d2:xB H s.heap.objs.size (.lst [])=P at h;have d1:s3.heap=s.heap.push { cls:=.type "list",dict:=none,data:=.seq ([]:Oo Ou).toArray }:=by rw[<- d0]
 have g5:({ s with heap:=s.heap.push { cls:=.type "list",dict:=none,data:=.seq ([]:Oo Ou).toArray } }:Pa)=s3:=d0;obtain⟨h₁,R⟩:∃h₁,h₁=AT f (s3.heap.push { cls:=.type "dict",data:=.dict #[] }):=⟨_,rfl⟩
 rw[<- R];have c2:∀b o,(s3.heap.push { cls:=.type "dict",data:=.dict #[] }).get? b=ε o->h₁.get? b=ε o:=fun b o e=>by
  rw[R];cases f with
  | none=>exact e
  | some _=>exact cg _ e
 have a5:h₁.Ns s3.heap.objs.size (fun _=>none):=(Heap.Ns.new s3.heap (.type "dict")).keeps c2;have f2:P s3.heap.objs.size=none:=h.fresh;have d6:P (s3.heap.objs.size+1)=none:=h.hok.fresh (Nat.le_succ _);have f4:s3.heap.objs.size≠X.env.locals:=fun z=>by have:=h.lt;rw[<- z]at this;exact Fi _ this
 have f5:X.s₀.heap.objs.size<=s3.heap.objs.size:=h.sz;have c4:∀x c,X.env.cells.lookup x=ε c->c<s3.heap.objs.size:=fun x c e=>by obtain⟨v,o,ho,_⟩:=h.cell x c e;exact ji ho
 have f3:∀x c,X.env.cells.lookup x=ε c->c≠s3.heap.objs.size:=fun x c e z=>by have:=c4 x c e;rw[z]at this;exact Fi _ this
 have f1:∀p∈X.pn++L,p.1≠s3.heap.objs.size:=fun p hp z=>by have:=ji (h.pin p hp).1;rw[z]at this;exact Fi _ this
 have b3:∀b∈fp,b<s.heap.objs.size:=fun b a=>by obtain⟨o,e,_⟩:=T.obj 0 _ st b a;exact ji e
 have HK:s3.heap.objs.size=s.heap.objs.size+1:=by rw[d1,Ma]
 have old:∀b o,s3.heap.get? b=ε o->h₁.get? b=ε o:=fun b o e=>c2 b o (cg _ e)
 have d8:∀b o,s.heap.get? b=ε o->s3.heap.get? b=ε o:=fun b o e=>by rw[d1];exact cg _ e
 have f8:∀b∈fp,P b=none:=fun b a=>by rw[<- d2,aB (su (b3 b a))];exact(hf b a).1
 have lk:∀x c,(zM f (s3.heap.objs.size+1) t).lookup x=ε c->(f=ε x/\c=s3.heap.objs.size+1/\h₁.IsCell c none)\/(f≠ε x/\t.lookup x=ε c):=fun x c e=>by
  cases f with
  | none=>exact .inr ⟨(fun z=>nomatch z),e⟩
  | some y=>
   have e:((y,s3.heap.objs.size+1)::t).lookup x=ε c:=e;rw[lookup_cons]at e;cases hx:x==y with
   | true=>rw[hx]at e;cases e;refine .inl ⟨by rw[eq_of_beq hx],rfl,{ cls:=.type "cell",data:=.cell none },?_,rfl⟩;rw[R,show s3.heap.objs.size+1=(s3.heap.push { cls:=.type "dict",data:=.dict #[] }).objs.size from(Ma ..).symm];exact ju _ rfl
   | false=>
    rw[hx]at e;refine .inr ⟨fun z=>?_,e⟩;injection z with z
    rw[z,Ds]at hx;cases hx
 have kl:∀x,f≠ε x->(zM f (s3.heap.objs.size+1) t).lookup x=t.lookup x:=fun x n=>by
  cases f with
  | none=>rfl
  | some y=>show((y,s3.heap.objs.size+1)::t).lookup x=_;rw[lookup_cons,show(x==y)=false from Fd.mpr fun z=>n (by rw[z])]
 have c3:∀x c,t.lookup x=ε c->c≠s3.heap.objs.size+1:=fun x c e z=>by have:=c4 x c (sub x c e);rw[z]at this;exact Es this (Jo.mpr (Nat.le_succ _))
 have a4:(BD X A scope t s3.heap.objs.size f s3 P fp).Ok:=by
  refine⟨h.ok.mod,c0,h.ok.glob,h.ok.blt,Va _,fun x y c e1 e2=>?_,fun x hx=>?_,fun x c e1 e2=>?_,h.ok.hd,h.ok.frames,.inl rfl,fun b a=>⟨?_,fun x c e=>?_⟩,fun b o e=>h.bs b o e,?_,fun b o e=>?_,fun b a=>?_,h.stack,h.ik⟩
  . rcases lk x c e1 with⟨p1,M,_⟩ | ⟨p1,M⟩<;>rcases lk y c e2 with⟨q1,q2,_⟩ | ⟨q1,q2⟩
    . rw[p1]at q1;injection q1
    . exact Es M (c3 y c q2)
    . exact Es q2 (c3 x c M)
    . exact h.ok.inj x y c (sub x c M) (sub y c q2)
  . by_cases b6:f=ε x
    . exact⟨s3.heap.objs.size+1,by rw[b6];show((x,s3.heap.objs.size+1)::t).lookup x=_;rw[lookup_cons,Ds]⟩
    . obtain⟨c,e⟩:=d5 x (vV one.ne b6 hx);exact⟨c,(kl x b6).trans e⟩
  . rcases lk x c e2 with⟨p1,M,_⟩ | ⟨p1,M⟩
    . rw[M];exact Nat.le_succ _
    . exact Es (eq_of_beq e1) p1
  . intro z;have:=b3 b a;have z':b=s3.heap.objs.size:=z;rw[z',HK]at this;exact Es this (Jo.mpr (Nat.le_succ _))
  . rcases lk x c e with⟨p1,M,_⟩ | ⟨p1,M⟩
    . intro z;have:=b3 b a;rw[<- z,M,HK]at this;exact Es this (Jo.mpr (Nat.le_succ_of_le (Nat.le_succ _)))
    . exact(hf b a).2.2.2.2.1 x c (sub x c M)
  . exact uq h.ok.bsz h.sz
  . intro a;have h1:=(hf b a).2.2.2.1;have h2:=h.ok.bs b o e;rcases h1 with z | z
    . exact h.ok.fh b o e z
    . exact Es (kj (ji h2.1) z) (Fi _)
  . intro z;rcases Bu.mp (h.hE b z)with z | z
    . exact(hf b a).2.1 z
    . exact(hf b a).2.2.1 z
 have IY:me (BD X A scope t s3.heap.objs.size f s3 P fp) [] (OG Z w) P { s3 with heap:=h₁ }:=by
  refine⟨a4,rfl,h.bare,Un.kept old,⟨_,a5,fun i x v e1 e2 _=>?_⟩,fun x c e=>?_,f2,fun x c e=>?_,fun p hp=>Es hp (by simp[BD]),h.hok.kept old,?_⟩
  . have S:(OG Z w)[i]?=ε (ε v):=e2;unfold OG at S;rw[w5]at S;cases q:w[i]? with
    | none=>rw[q]at S;cases S
    | some o=>
     rw[q]at S;cases o with
     | none=>cases S
     | some j=>
      have e3:(Z[j]?).join=ε v:=by simpa using S
      have e4:Z[j]?=ε (ε v):=by
       cases z:Z[j]? with
       | none=>rw[z]at e3;cases e3
       | some y=>rw[z]at e3;simpa using e3
      have e6:f≠ε x:=fun z=>e0 x z i j e1 q
      obtain⟨n1,n2,n3,n4⟩:=a7.get e1 q;obtain⟨m,_,hl⟩:=h.loc;have hv:J1 X.env.scope x:=.inr n2;obtain⟨u,r,e5⟩:=hl j x v n1 e4 hv;refine⟨u,r,.inr ⟨n3,?_⟩⟩;rcases e5 with⟨k,_⟩ | ⟨_,c,ec,ob,z1,z2⟩
      . rcases n2 with n2 | n2<;>rw[k]at n2<;>cases n2
      . exact⟨c,(kl x e6).trans (n4.trans ec),ob,old c ob z1,z2⟩
  . rcases lk x c e with⟨p1,M,p3⟩ | ⟨p1,M⟩
    . exact⟨none,p3⟩
    . obtain⟨v,o,z1,z2⟩:=h.cell x c (sub x c M);exact⟨v,o,old c o z1,z2⟩
  . rcases lk x c e with⟨p1,M,_⟩ | ⟨p1,M⟩
    . rw[M];exact d6
    . exact h.cb x c (sub x c M)
  . show(OG Z w).length=A.length;unfold OG;rw[ni];exact a7.length
 obtain⟨W,⟨m0,w0⟩,turn⟩:=c9 s.heap.objs.size hD;rw[d2]at w0;have c8:tn 0 h₁:=T.keep 0 _ _ st fun b _ o e=>old b o (d8 b o e)
 have c1:∀{H':Hp},(∀b∈fp,H' b=none)->∀b∈fp,gF (BD X A scope t s3.heap.objs.size f s3 P fp) [] H' b:=fun hn b a=>⟨hn b a,(a4.exf b a).1,a4.fq b a,.inl a,fun x c e=>(a4.exf b a).2 x c e,fun p hp=>Es hp (by simp[BD])⟩
 have a6:codeAny (model X.prog X.w) X.A (.compLoop (.ListComp F [⟨G,l,B,0⟩] scope pos) 0 (.ref it) (.ref s.heap.objs.size) (HX scope t s3.heap.objs.size f X.env)) (RR (.ref s.heap.objs.size) s3.heap.objs.size)
  { s3 with heap:=h₁ }:=by
  refine Hj (fun n s'=>∃i O ys H',me (BD X A scope t s3.heap.objs.size f s3 P fp) [] O H' s'/\tn i s'.heap/\(∀b∈fp,H' b=none)/\W i n O ys H') ?_ m0 ⟨0,_,[],P,IY,c8,f8,w0⟩;rintro n s4 ⟨i,a2,ys,H4,I4,c7,d3,w4⟩;rcases turn i n a2 ys H4 w4 with⟨stop,qn⟩ | ⟨go,step⟩
  . refine CB (T.done (BD X A scope t s3.heap.objs.size f s3 P fp) rfl rfl rfl hc i [] s4 a2 H4 _ I4 (c1 d3) c7 stop) fun r s5 U=>?_
    obtain⟨hr,I5⟩:=U;subst hr;have I6:me X L Z H4 s5:=h.call' (ch:=fp) I5.os I5.base I5.hok I5.bare fun b a=>⟨(hf b a).2.2.2.1,(hf b a).2.1,(hf b a).2.2.2.2.1,(hf b a).2.2.2.2.2⟩
    obtain⟨m,hn,_⟩:=I5.loc;exact f0 _ _ s5 H4 m I6 hn I5.free f4 f5 f3 f1 qn
  . refine CB (T.item (BD X A scope t s3.heap.objs.size f s3 P fp) rfl rfl rfl hc i [] s4 a2 H4 _ I4 (c1 d3) c7 go) fun r s5 U=>?_
    obtain⟨u,hr,h5⟩:=U;subst hr;refine CB h5 fun _ s6 U=>?_
    obtain⟨x,H6,I6,r6,y6,b5,f6⟩:=U;have g1:=I6.pinned (c1 f6) (T.obj _ _ b5);refine CB (hg _ _ _ _ _ s6 a2 H6 x u _ g1 r6 (step x H6 y6)) fun _ s7 U=>?_
    obtain⟨b2,H7,I7,q7⟩:=U;refine CB (ht _ _ _ _ _ s7 b2 H7 _ I7 q7) fun b s8 U=>?_
    obtain⟨H8,I8,q8⟩:=U;have a0:∀{a1:St}{H9:Hp}{s9:Pa}{b4:Oo V},me (BD X A scope t s3.heap.objs.size f s3 P fp) ([]++xM fp s6.heap) a1 H9 s9->(∃Y,Y<n/\W (i+1) Y a1 b4 H9)->
     ∃Y,Y<n/\∃i O ys H',me (BD X A scope t s3.heap.objs.size f s3 P fp) [] O H' s9/\tn i s9.heap/\(∀b∈fp,H' b=none)/\W i Y O ys H':=fun {a1 H9 s9 b4} I9 ⟨Y,hm,w9⟩=>by
     refine⟨Y,hm,i+1,a1,b4,H9,I9.gx,T.keep _ _ _ b5 fun b a o e=>(I9.pin (b,o) (yu _ (yu _ (pO a e)))).1,fun b a=>?_,w9⟩;obtain⟨o,e,d⟩:=T.obj _ _ b5 b a;exact(I9.pin (b,o) (yu _ (yu _ (pO a e)))).2.1
    cases b with
    | false=>rw[eH Xe]at q8 ⊢;exact a0 I8 q8
    | true=>
     rw[eG rfl]at q8 ⊢;refine CB (he _ _ _ _ _ s8 b2 H8 _ I8 q8) fun y s9 U=>?_
     obtain⟨v,H9,I9,r9,d9,z9,w9⟩:=U;refine CB (mW (X:=BD X A scope t s3.heap.objs.size f s3 P fp) _ s9 b2 H9 (.ref s.heap.objs.size) [v] (.ref s.heap.objs.size) [y] (fun _ H'=>H'=xB H9 s.heap.objs.size (.lst (ys++[v]))) I9 rfl (.cons r9 .nil) ⟨_,ys,v,rfl,rfl,d9,z9,rfl⟩) fun _ g6 U=>?_
     obtain⟨_,g7,g4,_,g0⟩:=U;subst g0;exact a0 g4 w9
 exact codeAny_compStart_list a6 (T.self X.A 0 _ _ _ c8 a6)
def HY(hc:X.calm=true)(hi:PI X G l K)(r:yE X.env.cells scope.names []=ε t)(one:eu scope.names f)(a:scope.kind=.function)
 (d:∀y∈scope.names,y.2=.local->scope.names.lookup y.1=ε .local) (u:be X scope t A w) (L:∀x,f=ε x->∀(i j:Nat),A[i]?=ε x->w[i]?=ε (ε j)->False)
 (hg:∀C s0 E k,PG (BD X A scope t C f s0 E k) G g) (ht:∀C s0 E k,aJ (BD X A scope t C f s0 E k) B tc) (he:∀C s0 E k,PE (BD X A scope t C f s0 E k) F te)
 (hs:autoParam (∀x,foldedSetIterable l X.env x=pure x) ð):PE X (.ListComp F [⟨G,l,B,0⟩] scope pos) (qT K g tc te w):=by
 intro p s P H Q I h;rw[eval_ListComp];refine wpAny_comprehension_free (use:=none) rfl hs (zV r) a d (CB (hi p s P H _ I h) fun v s1 h1=>CB h1 fun a0 s2 h2=>?_);obtain⟨it,k,tn,J,H2,e,I2,T,M,f2,n⟩:=h2;subst e;refine VV hc r one a u L hg ht he I2 T M f2 n fun C D R H' m I' hn Z Y W U S q=>?_
 refine⟨m,hn,fun h' O=>⟨.ref D,H',?_,rfl,q⟩⟩;exact I'.turned (t':=R.toks) (fun b o hb e=>O.extBut b o hb e) Z Y (.inr W) U S
def PV(hc:X.calm=true)(hN:X.N.Nodup)(Y:X.N[i]?=ε y)(hy:X.env.scope.names.lookup y=ε .local)(hi:PI X G l K)(L:yE X.env.cells scope.names []=ε t)(one:eu scope.names f)(d:scope.kind=.function)
 (k:∀y∈scope.names,y.2=.local->scope.names.lookup y.1=ε .local) (M:be X scope t A w) (P:∀x,f=ε x->∀(i j:Nat),A[i]?=ε x->w[i]?=ε (ε j)->False)
 (hg:∀C s0 O r,PG (BD X A scope t C f s0 O r) G g) (ht:∀C s0 O r,aJ (BD X A scope t C f s0 O r) B tc) (he:∀C s0 O r,PE (BD X A scope t C f s0 O r) F te)
 (U:swapsWith (.ListComp F [⟨G,l,B,0⟩] scope pos) (ε (.Name y E)) n.line X.env=pure true)
 (hs:autoParam (∀x,foldedSetIterable l X.env x=pure x) ð):PS X (.Assign [.Name y E] (.ListComp F [⟨G,l,B,0⟩] scope pos) n) (EQ (qT K g tc te w) (LP i)):=by
 intro p s σ H D I h;rw[exec_Assign_Name_used _ _ _ _ U];refine ao (wpAny_standAt (ao ?_));show wpAny _ X.A (do let _ <- comprehension (.ListComp F [⟨G,l,B,0⟩] scope pos) scope X.env _ (newList []) false (eval l X.env) (ε (assign (.Name y E) X.env))) _ _ s;refine ao (Ii (wpAny_comprehension_free (use:=ε (assign (.Name y E) X.env)) (Q:=fun _ S=>SP X p D .next S) rfl hs (zV L) d k
  (CB (hi p s σ H _ I h) fun v s1 h1=>CB h1 fun a0 s2 h2=>?_)) (fun _ S hq=>au (au hq)) fun _ _ e=>e)
 obtain⟨it,r,tn,J,H2,e,I2,T,R,f2,u⟩:=h2;subst e;refine VV (Q:=fun x H1=>LP i x σ H1 D.nx) hc L one d M P hg ht he I2 T R f2 u fun C Dd S H' m I' hn n1 n2 n3 n4 n5 q=>?_
 show wpAny _ X.A (assign (.Name y E) X.env (.ref Dd)) _ _ _;refine wpAny_assign_Name (cX I' hN Y (.inl hy) (v:=.ref Dd) rfl (fun s4 I4 zz=>?_) (.inr hy));obtain⟨a,sb,ha⟩:=zz;have Z:C≠a:=by
  rcases ha with ha | ha
  . rw[ha];exact n2
  . exact fun z=>n4 _ _ ha z.symm
 refine⟨m,hn.sameBut sb Z,fun h' W=>⟨_,H',?_,q⟩⟩;exact I4.turned (t':=s4.toks) (fun b o hb e=>W.extBut b o hb e) n1 n2 (.inr n3) n4 n5
end
end L2
namespace SM
def RD(e:RG)(tc:RT)(te:RE)(s:mo):Nat->Nat->LI->HI->Oo Dt->O4 (Oo Dt×HI)
 | 0,_,_,_,_=>none
 | k+1,i,l,h,ys=>match s.at h i with
  | none=>none
  | some none=>ε (ys,h)
  | some (some d)=>(e d l).bind fun a=>(tc a h).bind fun b=>if b.1=true then(te a b.2).bind fun r=>if ys.length<sizeLine then RD e tc te s k (i+1) a r.2 (ys++[r.1])else none
   else RD e tc te s k (i+1) a b.2 ys
noncomputable def sF(l:LI)(a:Oo (O4 Nat)):LI:=a.map fun o=>match o with | some j=>(l[j]?).join | none=>none
def qC(g:RI)(b:RG)(tc:RT)(te:RE)(a:Oo (O4 Nat)):RE:=fun l h=>(g l h).bind fun r=>(RD b tc te r.1 (r.1.fuel r.2) 0 (sF l a) r.2 []).bind fun q=>ε (.lst q.1,q.2)
def GF(g:RI)(b:RG)(tc:RT)(te:RE)(a:Oo (O4 Nat)):RE:=fun l h=>(g l h).bind fun r=>(RD b tc te r.1 (r.1.fuel r.2) 0 (sF l a) r.2 []).bind fun q=>ε (.ref q.2.length,q.2++[.lst q.1])
noncomputable def cB:RT:=fun _ h=>ε (true,h)
def Pr{K:Ra}(L:Ze K H ρ l f)(a:Oo (O4 Nat)):Ze K H ρ (sF l a) (OG f a):=by
 refine⟨by simp[sF,OG],fun i d e=>?_⟩;unfold sF at e;unfold OG;rw[w5]at e ⊢;cases q:a[i]? with
 | none=>rw[q]at e;cases e
 | some o=>
  rw[q]at e;cases o with
  | none=>cases e
  | some j=>
   have b:(l[j]?).join=ε d:=by simpa using e
   have h:l[j]?=ε (ε d):=by
    cases z:l[j]? with
    | none=>rw[z]at b;cases b
    | some y=>rw[z]at b;simpa using b
   obtain⟨v,g,g2⟩:=L.val j d h;refine⟨v,?_,g2⟩;simp[g]
section
variable{X:Cx}{elt iter tg:Pu}{a:Oo Pu}{scope:Scope}{cl:Oo (Str×Pb)}{pos:Pos}{Nc:Oo Str}{g:RI}{bd:RG}{tc:RT}{te:RE}{cap:Oo (O4 Nat)}
@[irreducible] def CM(X:Cx)(a:Oo Pu)(f:RT):Prop:=aJ X a (iQ X.K f)
def tD:CM X [] cB:=by unhygienic exact fun d s f H Q I q=>by obtain⟨i,l,h,b,j,S,L,e,k⟩:=q;cases e;exact iy d s f H Q I (k i H S (mi.refl _ _))
def iP(h:TM X c f):CM X [c] f:=by unhygienic exact jy h
end
section
variable{K:Ra}{H:Hp}{ρ:Rg}{p:Pb}{o:HO}{h:HI}
def Ir(hp:H p=none)(e:H a=ε u)(n:ρ.no a):(ρ.hide p).no a:=
 ⟨n.1,fun z=>by
  rcases Bu.mp z with z | z
  . rw[z,hp]at e;cases e
  . exact n.2 z⟩
def mi.ip(x:mi (ρ.hide p) b H H'):∃a,b=a.hide p/\mi ρ a H H':=by
 refine⟨⟨b.v,ρ.z⟩,?_,⟨x.pre,rfl,x.keep,x.live,x.fz⟩⟩;have e:=x.hid;cases b with
 | mk v z=>have d:z=p::ρ.z:=e;subst d;rfl
def mi.kr(x:mi ρ b H f)(hp:H p=none):mi ρ b H (xB f p o):=
 ⟨x.pre,x.hid,fun a u e n=>by rw[aB (ZC e hp)];exact x.keep a u e n,fun a e=>by
  by_cases d:a=p
  . rw[d];exact hp
  . rw[aB d]at e;exact x.live a e,fun a q u e=>by rw[aB (ZC e hp)];exact x.fz a q u e⟩
def bu.same(x:az ρ i H k)(e:k a=H a)(q:bu K H ρ a u):bu K k i a u:=by
 cases u with
 | lst r=>obtain⟨b,f,d⟩:=q;exact⟨b,e.trans f,Ue.same x _ d⟩
 | ins y fs=>obtain⟨C,n,b,m,f,d,g⟩:=q;exact⟨C,n,b,m,e.trans f,d,Ue.same x _ g⟩
 | dk j=>obtain⟨b,f,d,g⟩:=q;exact⟨b,e.trans f,d,Ue.same x _ g⟩
 | dt j=>obtain⟨b,f,d,g⟩:=q;exact⟨b,e.trans f,d,Ue.same x _ g⟩
 | df j=>obtain⟨o,b,f,d,g⟩:=q;exact⟨o,b,e.trans f,d,Ue.same x _ g⟩
def Ze.same(x:az ρ a H b)(L:Ze K H ρ l σ):Ze K b a l σ:=
 ⟨L.len,fun i d e=>let ⟨v,e1,r⟩:=L.val i d e;⟨v,e1,Uo.same x d r⟩⟩
def XW(hp:H p=none):az ρ (ρ.hide p) H (xB H p o):=
 ⟨fun z z e n=>Ir hp e n,fun a u e z=>by rw[aB (ZC e hp)];exact e,fun z z e=>e,fun a q u e=>by rw[aB (ZC e hp)];exact e⟩
def nR(b:JT H p):az (ρ.hide p) (ρ.hide p) H (xB H p o):=
 ⟨fun v v v n=>n,fun a u e n=>by rw[aB (fun z=>n.2 (by rw[z];exact vo))];exact e,fun v v e=>e,fun a q u e=>by rw[aB (fun z:a=p=>b q u (by rw[<- z];exact e))];exact e⟩
def YW:az (ρ.hide p) ρ H H:=⟨fun q q q n=>⟨n.1,fun z=>n.2 (rz _ z)⟩,fun q q e q=>e,fun q q e=>e,fun q q q e=>e⟩
def oY:az (ρ.hide p) (ρ.add p) H H:=
 ⟨fun a q q n=>⟨fun z=>(Ca.mp z).elim n.1 fun z=>n.2 (by rw[Bs.mp z];exact vo),fun z=>n.2 (rz _ z)⟩,fun q q e q=>e,fun n a e=>by
  have b:ρ.v[n]?=ε a:=e;have:=(Xa b).1;show(ρ.v++[p])[n]?=ε a;rw[Yo this];exact b,fun q q q e=>e⟩
def Vs.hide(S:Vs K ρ h H)(hp:H p=none):Vs K (ρ.hide p) h (xB H p (.lst xs)):=
 ⟨S.nd,S.len,fun n a u b e2=>(S.ob n a u b e2).same (XW hp) (aB (fun z=>(S.out hp).1 (z ▸ m6 b))),fun a d=>by
  rcases Bu.mp d with z | z
  . rw[z];exact⟨(S.out hp).1,xs,xC⟩
  . obtain⟨m,u,e⟩:=S.zt a z;exact⟨m,u,by rw[aB (ZC e hp)];exact e⟩⟩
def Vs.kt(S:Vs K (ρ.hide p) h H):Vs K (ρ.hide p) h (xB H p (.lst xs)):=
 ⟨S.nd,S.len,fun n a u d e2=>(S.ob n a u d e2).same (nR (HH (S.zt p vo).2.choose_spec)) (aB (fun z=>(S.zt p vo).1 (z ▸ m6 d))),fun a f=>by
  obtain⟨m,u,e⟩:=S.zt a f;by_cases b:a=p
  . subst b;exact⟨m,xs,xC⟩
  . exact⟨m,u,by rw[aB b];exact e⟩⟩
def Vs.show(S:Vs K (ρ.hide p) h H):Vs K ρ h H:=
 ⟨S.nd,S.len,fun n a u d e2=>(S.ob n a u d e2).same YW rfl,fun a b=>S.zt a (rz _ b)⟩
def Vs.ku(S:Vs K (ρ.hide p) h H)(hz:p∉ρ.z)(e:H p=ε (.lst vs))(R:Ue K H (ρ.hide p) ds vs):Vs K (ρ.add p) (h++[.lst ds]) H:=by
 have q:=(S.zt p vo).1;refine⟨?_,by simp![Rg.add];rw[jj,jj,<- S.len];rfl,fun n a ob d e2=>?_,fun a g=>?_⟩
 . simp![Rg.add];rw[nodup_append];refine⟨S.nd,Mu.mpr ⟨by simp,nodup_nil⟩,fun a g b r=>?_⟩;rw[Bs.mp r];intro z;exact q (z ▸ g)
 . simp![Rg.add]at d;have j:ρ.v.length=h.length:=S.len;by_cases i:n<h.length
   . rw[Yo i]at e2;rw[Yo (by rw[j];exact i)]at d;exact(S.ob n a ob d e2).same oY rfl
   . have f:h.length<=n:=Jo.mp i;rw[ag f]at e2;rw[ag (by rw[j];exact f),j]at d;cases m:n-h.length with
     | zero=>rw[m]at d e2;simp at d e2;subst d e2;exact⟨vs,e,Ue.same oY _ R⟩
     | succ k=>rw[m]at e2;simp at e2
 . obtain⟨n,u,x⟩:=S.zt a (rz _ g);refine⟨fun hm=>?_,u,x⟩;rcases Ca.mp hm with hm | hm
   . exact n hm
   . exact hz ((Bs.mp hm) ▸ g)
end
section
variable{X:Cx}{s f j:Pu}{p:Oo Pu}{scope:Scope}{t:Oo (Str×Pb)}{pos:Pos}{Nc:Oo Str}{g:RI}{A:RG}{tc:RT}{te:RE}{c:Oo (O4 Nat)}
def uO(own)(S:Vs X.K ρ h H)(L:Ze X.K H ρ l σ)
 (e:(if own=true then GF g A tc te c else qC g A tc te c) l h=ε (d,h')) (k:Out X.K ρ H d h' Q):qT (iM X.K g) (gM X.K A) (iQ X.K tc) (tM X.K te) c σ H Q:=by
 have e0:∃I M,g l h=ε (I,M)/\∃E F,RD A tc te I (I.fuel M) 0 (sF l c) M []=ε (E,F)/\h'=(if own=true then F++[.lst E]else F)/\d=(if own=true then .ref F.length else .lst E):=by
  cases own with
  | true=>rw[eG rfl]at e;obtain⟨⟨I,M⟩,e1,e⟩:=sA e;obtain⟨⟨E,F⟩,e2,e⟩:=sA e;cases e;exact⟨I,M,e1,E,F,e2,rfl,rfl⟩
  | false=>rw[eH Xe]at e;obtain⟨⟨I,M⟩,e1,e⟩:=sA e;obtain⟨⟨E,F⟩,e2,e⟩:=sA e;cases e;exact⟨I,M,e1,E,F,e2,rfl,rfl⟩
 obtain⟨I,M,e1,zs,F,e2,eh,ed⟩:=e0;refine⟨ρ,l,h,I,M,S,L,e1,fun O J H1 ok S1 E1 D W=>?_⟩;have a3:D∉O.z:=(S1.out W).2;refine⟨fun i m a0 E H'=>∃r l' h' ds,Vs X.K (r.hide D) h' H'/\Ze X.K H' (r.hide D) l' a0/\mi O r H1 H'/\H' D=ε (.lst E)/\Ue X.K H' (r.hide D) ds E/\RD A tc te I m i l' h' ds=ε (zs,F),?_,?_⟩
 . exact⟨_,O,_,M,[],S1.hide W,Pr (Ze.same (XW W) (L.ext E1)) c,mi.fresh W,xC,.nil,e2⟩
 . rintro i m a0 E H' ⟨r,l',h3,ds,Z,L',C,R,R',B⟩;cases m with
   | zero=>simp![RD]at B;cases B
   | succ m=>
    simp![RD]at B;have sm:az O (r.hide D) H1 H':=⟨fun a u z n=>⟨(C.hX z n).1,fun w=>by
     rcases Bu.mp w with w | w
     . rw[w,W]at z;cases z
     . exact(C.hX z n).2 w⟩,fun a u z n=>C.keep a u z n.1,fun n a z=>C.get z,C.fz⟩
    have P:=ok H' (r.hide D) h3 sm Z i;cases q:I.at h3 i with
    | none=>rw[q]at B;cases B
    | some o=>
     rw[q]at B P;cases o with
     | none=>
      cases B;refine .inl ⟨P,?_⟩;have nD:r.no D:=⟨(Z.zt D vo).1,by rw[C.hid];exact a3⟩;cases own with
      | false=>rw[eH Xe]at eh ed;subst eh ed;exact k r _ H' (cn.mpr ⟨D,E,rfl,.inl ⟨nD,.inl R⟩,Ue.same YW _ R'⟩) Z.show (E1.trans C)
      | true=>
       rw[eG rfl]at eh ed;subst eh ed;refine k (r.add D) _ H' (al.mpr ⟨D,rfl,?_⟩) (Z.ku nD.2 R R') (E1.trans ⟨?_,C.hid,C.keep,C.live,C.fz⟩)
       . have hl:r.v.length=F.length:=Z.len;show(r.v++[D])[F.length]?=ε D;rw[<- hl,ag (Va _),Ea];rfl
       . obtain⟨x,q1,q2⟩:=C.pre;refine⟨x++[D],by show r.v++[D]=_;rw[q1,tu],fun a ha=>?_⟩;rcases Ca.mp ha with ha | ha
         . exact q2 a ha
         . rw[Bs.mp ha];exact W
     | some d0=>
      dsimp only at B;obtain⟨l1,b1,B⟩:=sA B;obtain⟨⟨b,h4⟩,b2,B⟩:=sA B;refine .inr ⟨P.1,fun v H3 y=>?_⟩;obtain⟨R3,Y,S3⟩:=P.2 v H3 y;have a1:=(Z.zt D vo).1;refine⟨r.hide D,l',h3,d0,l1,S3,L'.ext Y,R3,b1,fun a4 L4=>⟨r.hide D,l1,h3,b,h4,S3,L4,b2,fun a2 H5 S5 T=>?_⟩⟩;cases b with
      | true=>
       dsimp only at B;rw[eG rfl]at B;obtain⟨⟨d5,h5⟩,b3,B⟩:=sA B;by_cases hz:ds.length<sizeLine
       . rw[eG hz]at B;refine FH ⟨a2,l1,h4,d5,h5,S5,L4.ext T,b3,fun a5 v6 H6 R6 S6 E6=>⟨?_,by rw[R'.length];exact hz,m,zu _,?_⟩⟩
         . exact(Y.trans (T.trans E6)).keep D _ R a1
         . obtain⟨U,rfl,E7⟩:=(Y.trans (T.trans E6)).ip;refine⟨U,l1,h5,ds++[d5],S6.kt,Ze.same (nR (HH (S6.zt D vo).2.choose_spec)) (L4.ext (T.trans E6)),(C.trans E7).kr W,xC,?_,B⟩;exact Ue.same (nR (HH (S6.zt D vo).2.choose_spec)) _ ((R'.ext (Y.trans (T.trans E6))).append (.cons R6 .nil))
       . rw[eH hz]at B;cases B
      | false=>dsimp only at B;rw[eH Xe]at B;refine EH ⟨m,zu _,?_⟩;obtain⟨U,rfl,E7⟩:=(Y.trans T).ip;exact⟨U,l1,h4,ds,S5,L4.ext T,C.trans E7,(Y.trans T).keep D _ R a1,R'.ext (Y.trans T),B⟩
def QF(i)(d:decide X.N.Nodup=true:=by kernel_rfl)(hi:autoParam (X.N[i]?=ε x) Æ)(a:autoParam (DK X.env.scope x) ö)(b:autoParam (X.fn x=true\/X.env.scope.names.lookup x=ε .local) Ø):GM X (.Name x pos) (BA i):=CD i (of_decide_eq_true d) hi a b
def OE(hi:IM X j f g)(q:∀{C s0 H0 fp},GM (bG X (ZH j X.N c) scope t C s0 H0 fp) j A)(o:∀{C s0 H0 fp},CM (bG X (ZH j X.N c) scope t C s0 H0 fp) p tc)(he:∀{C s0 H0 fp},EM (bG X (ZH j X.N c) scope t C s0 H0 fp) s te)
 (r:autoParam (X.calm=true) Æ) (i:autoParam (∀y∈scope.names,y.2≠.cell) å) (b:autoParam (scope.kind=.function) Æ)
 (a:autoParam (∀y∈scope.names,y.2=.local->scope.names.lookup y.1=ε .local) å) (n:autoParam (yE X.env.cells scope.names []=ε t) Æ) (m:be X scope t (ZH j X.N c) c:=by repeat' first | exact trivial | exact⟨rfl,.inl rfl,.inl rfl,rfl⟩ | refine⟨?_,?_⟩)
 (hs:autoParam (∀x,foldedSetIterable f X.env x=pure x) ð):EM X (.ListComp s [⟨j,f,p,0⟩] scope pos) (qC g A tc te c):=by
 unhygienic exact PE.imp (HY (g:=gM X.K A) (tc:=iQ X.K tc) (te:=tM X.K te) r hi n (.no i) b a m (fun v z=>nomatch z) (fun v v v v=>q) (fun v v v v=>o) (fun v v v v=>he) hs) fun u H Q ⟨B,l,h,d,D,S,L,e,k⟩=>uO (X:=X) false S L e k
def xR(hi:IM X j f g)(q:∀{C s0 H0 fp},GM (bG X (ZH j X.N c) scope t C s0 H0 fp) j A)(o:∀{C s0 H0 fp},CM (bG X (ZH j X.N c) scope t C s0 H0 fp) p tc)(he:∀{C s0 H0 fp},EM (bG X (ZH j X.N c) scope t C s0 H0 fp) s te)
 (r:autoParam (X.calm=true) Æ) (i:autoParam (∀y∈scope.names,y.2≠.cell) å) (b:autoParam (scope.kind=.function) Æ)
 (a:autoParam (∀y∈scope.names,y.2=.local->scope.names.lookup y.1=ε .local) å) (n:autoParam (yE X.env.cells scope.names []=ε t) Æ) (m:be X scope t (ZH j X.N c) c:=by repeat' first | exact trivial | exact⟨rfl,.inl rfl,.inl rfl,rfl⟩ | refine⟨?_,?_⟩)
 (hs:autoParam (∀x,foldedSetIterable f X.env x=pure x) ð):EM X (.ListComp s [⟨j,f,p,0⟩] scope pos) (GF g A tc te c):=by
 unhygienic exact PE.imp (HY (g:=gM X.K A) (tc:=iQ X.K tc) (te:=tM X.K te) r hi n (.no i) b a m (fun v z=>nomatch z) (fun v v v v=>q) (fun v v v v=>o) (fun v v v v=>he) hs) fun u H Q ⟨B,l,h,d,D,S,L,e,k⟩=>uO (X:=X) true S L e k
def sL(i)(Q:X.N.Nodup)(hi:IM X j f g)(O:∀{C s0 H0 fp},GM (bG X (ZH j X.N c) scope t C s0 H0 fp) j A)(M:∀{C s0 H0 fp},CM (bG X (ZH j X.N c) scope t C s0 H0 fp) p tc)(he:∀{C s0 H0 fp},EM (bG X (ZH j X.N c) scope t C s0 H0 fp) s te)
 (P:autoParam (X.calm=true) Æ) (m:autoParam (∀y∈scope.names,y.2≠.cell) å) (d:autoParam (scope.kind=.function) Æ)
 (a:autoParam (∀y∈scope.names,y.2=.local->scope.names.lookup y.1=ε .local) å) (B:autoParam (yE X.env.cells scope.names []=ε t) Æ) (n:be X scope t (ZH j X.N c) c:=by repeat' first | exact trivial | exact⟨rfl,.inl rfl,.inl rfl,rfl⟩ | refine⟨?_,?_⟩)
 (q:autoParam (swapsWith (.ListComp s [⟨j,f,p,0⟩] scope pos) (ε (.Name y E)) b.line X.env=pure true) Æ)
 (u:autoParam (X.N[i]?=ε y) Æ) (J:autoParam (X.env.scope.names.lookup y=ε .local) Æ) (hs:autoParam (∀x,foldedSetIterable f X.env x=pure x) ð) :
 ZM X (.Assign [.Name y E] (.ListComp s [⟨j,f,p,0⟩] scope pos) b) (CA i (qC g A tc te c)):=by
 unhygienic exact PS.imp (PV (g:=gM X.K A) (tc:=iQ X.K tc) (te:=tM X.K te) P Q u J hi B (.no m) d a n (fun w z=>nomatch z) (fun w w w w=>O) (fun w w w w=>M) (fun w w w w=>he) q hs) fun D Y H I=>by obtain⟨Z,l,h,r,S,L,e,k⟩:=I;obtain⟨⟨d1,h1⟩,R,e⟩:=sA e;cases e;exact uO (X:=X) false S L R fun o v W U T F=>k o _ W T ((L.ext F).set i U) F
def YQ(i)(Q:X.N.Nodup)(hi:IM X j f g)(O:∀{C s0 H0 fp},GM (bG X (ZH j X.N c) scope t C s0 H0 fp) j A)(M:∀{C s0 H0 fp},CM (bG X (ZH j X.N c) scope t C s0 H0 fp) p tc)(he:∀{C s0 H0 fp},EM (bG X (ZH j X.N c) scope t C s0 H0 fp) s te)
 (P:autoParam (X.calm=true) Æ) (m:autoParam (∀y∈scope.names,y.2≠.cell) å) (d:autoParam (scope.kind=.function) Æ)
 (a:autoParam (∀y∈scope.names,y.2=.local->scope.names.lookup y.1=ε .local) å) (B:autoParam (yE X.env.cells scope.names []=ε t) Æ) (n:be X scope t (ZH j X.N c) c:=by repeat' first | exact trivial | exact⟨rfl,.inl rfl,.inl rfl,rfl⟩ | refine⟨?_,?_⟩)
 (q:autoParam (swapsWith (.ListComp s [⟨j,f,p,0⟩] scope pos) (ε (.Name y E)) b.line X.env=pure true) Æ)
 (u:autoParam (X.N[i]?=ε y) Æ) (J:autoParam (X.env.scope.names.lookup y=ε .local) Æ) (hs:autoParam (∀x,foldedSetIterable f X.env x=pure x) ð) :
 ZM X (.Assign [.Name y E] (.ListComp s [⟨j,f,p,0⟩] scope pos) b) (CA i (GF g A tc te c)):=by
 unhygienic exact PS.imp (PV (g:=gM X.K A) (tc:=iQ X.K tc) (te:=tM X.K te) P Q u J hi B (.no m) d a n (fun w z=>nomatch z) (fun w w w w=>O) (fun w w w w=>M) (fun w w w w=>he) q hs) fun D Y H I=>by obtain⟨Z,l,h,r,S,L,e,k⟩:=I;obtain⟨⟨d1,h1⟩,R,e⟩:=sA e;cases e;exact uO (X:=X) true S L R fun o v W U T F=>k o _ W T ((L.ext F).set i U) F
end
section
variable{X:Cx}{elt iter tg:Pu}{ifs:Oo Pu}{scope:Scope}{cl:Oo (Str×Pb)}{pos:Pos}{Nc:Oo Str}{g:RI}{bd:RG}{tc:RT}{te:RE}{cap:Oo (O4 Nat)}{x0:Str}
end
noncomputable def IC:Oo Dt->O4 (Oo Int)
 | []=>ε []
 | .int i::ds=>(IC ds).map fun ns=>i::ns
 | _::_=>none
theorem WF:∀{ds:Oo Dt}{ns:Oo Int},IC ds=ε ns->ds=ns.map Dt.int
 | [],_,e=>by simp![IC]at e;cases e;rfl
 | d::ds,_,e=>by
  cases d with
  | int i=>
   simp![IC]at e;cases q:IC ds with
   | none=>rw[q]at e;cases e
   | some ns=>rw[q]at e;cases e;rw[WF q];rfl
  | _=>simp![IC]at e<;>cases e
def AR(A:Ru):A.in1.units<=A.units+1:=by first | exact Va _ | simp[Around.in1]
def oO(p:IsTup h a its):h.IsTuple a its:=by obtain⟨o,e,d,n,b⟩:=p;exact⟨o,e,d,n,b⟩
section
variable{X:Cx}{pins:Oo (Pb×Obj)}{σ:L2.St}{H:Hp}{s:Pa}{ρ:Rg}
theorem WR:∀{ns:Oo Int}{vs:Oo V},Ue X.K H ρ (ns.map Dt.int) vs->vs=ns.map V.int
 | [],_,r=>r.ba
 | n::ns,_,r=>by obtain⟨v,d,rfl,b,a⟩:=r.ab;rw[Xu.mp b,WR a];rfl
theorem iW:∀{ns b:Oo Int}{us a:Oo Ou},mf (ns.map V.int) us->mf (b.map V.int) a->∀(j:Nat)(h1:j<us.length)(h2:j<a.length),SeqAt.EqAt A s us[j] a[j] (decide (ns[j]?=b[j]?))
 | [],_,_,_,.nil,_,_,h1,_=>Es h1 ⋯
 | _::_,[],_,_,_,.nil,_,_,h2=>Es h2 ⋯
 | n::ns,m::b,_,_,.cons q1 _,.cons q2 _,0,_,_=>by
  obtain⟨t,rfl⟩:=q1;obtain⟨d,rfl⟩:=q2;have e:decide ((n::ns)[0]?=(m::b)[0]?)=(n==m):=by rw[Bool.eq_iff_iff];simp
  rw[e];exact SeqAt.EqAt.int_int n t m d
 | _::_,_::_,_,_,.cons _ q1,.cons _ q2,j+1,h1,h2=>iW q1 q2 j (Nat.lt_of_succ_lt_succ h1) (Nat.lt_of_succ_lt_succ h2)
def Dy(ns d:Oo Int):((List.range (min ns.length d.length)).all (fun j=>decide (ns[j]?=d[j]?))&&ns.length==d.length)=decide (ns=d):=by
 rw[Bool.eq_iff_iff];simp![w6,all_eq_true,Ci,decide_eq_true_eq,beq_iff_eq];constructor
 . rintro⟨a,b⟩;refine ext_getElem? fun j=>?_
   by_cases e:j<ns.length
   . exact a j nofun
   . rw[lu nofun,lu nofun]
 . rintro rfl;exact⟨fun q q=>rfl,rfl⟩
end
section
variable{X:Cx}{a b c e:Pu}{es:Oo Pu}{fa fb fc f:RE}{g:RA}{p p2 pos:Pos}
def QA:vD:=X1
def yD:vD:=Z1
def OB(_:X.A.units+64<cLine):OM X (compareOp .Eq) QA:=P0
def MG(_:X.A.units+64<cLine):OM X (compareOp .NotEq) yD:=W0
def pF:Oo Dt->O4 (Oo V)
 | []=>ε []
 | d::ds=>(ZD d).bind fun v=>(pF ds).map fun h=>v::h
theorem gW{K:Ra}:∀{ds:Oo Dt}{h vs:Oo V},pF ds=ε h->Ue K H ρ ds vs->vs=h
 | [],_,_,e,r=>by simp![pF]at e;cases e;exact r.ba
 | d::ds,_,_,e,r=>by
  simp![pF]at e;obtain⟨v,k,e⟩:=sA e;cases q:pF ds with
  | none=>rw[q]at e;cases e
  | some vs=>rw[q]at e;cases e;obtain⟨m,n,z,j,i⟩:=r.ab;subst z;rw[RJ k j,gW q i]
def fZ(e:ZD d=ε v):QG v=true:=by cases d<;>simp![ZD]at e<;>first | (cases e;rfl) | cases e
theorem WX:∀{ds:Oo Dt}{h:Oo V},pF ds=ε h->h.all QG=true
 | [],_,e=>by simp![pF]at e;cases e;rfl
 | d::ds,_,e=>by
  simp![pF]at e;obtain⟨v,i,e⟩:=sA e;cases q:pF ds with
  | none=>rw[q]at e;cases e
  | some j=>rw[q]at e;cases e;rw[La,fZ i,WX q];rfl
def HG(neg:Bool):vD:=fun a b h=>(ZD a).bind fun x=>(XC h b).bind fun d=>(pF d).bind fun zs=>ε (.bl (if neg then !gQ x zs else gQ x zs),h)
def XX(h:rM X.K (HG neg) x y H Q):M4 X.K neg x y H Q:=by obtain⟨m,h,I,F,d,E,S,B,R2,e,k⟩:=h;obtain⟨D,j,e⟩:=sA e;obtain⟨C,e2,e⟩:=sA e;obtain⟨zs,i,e⟩:=sA e;cases e;obtain⟨p,n,u,sq,r⟩:=cM S R2 e2;have q:=gW i r;subst q;have o:=RJ j B;subst o;exact⟨p,n,u,sq,fZ j,WX i,k m _ H (af.mpr rfl) S (mi.refl _ _)⟩
def S0:OM X (compareOp .In) (HG false):=by unhygienic exact mx.imp Tz fun q q q q h=>XX h
def DX:OM X (compareOp .NotIn) (HG true):=by unhygienic exact mx.imp wj fun q q q q h=>XX h
def iC:vD:=fun a b h=>(yA h a).bind fun i=>(yA h b).bind fun d=>if i.length+d.length<=sizeLine then ε (.lst (i++d),h)else none
def yK:vD:=fun a b h=>(yA h a).bind fun i=>(yA h b).bind fun d=>if i.length+d.length<=sizeLine then ε (.ref h.length,h++[.lst (i++d)])else none
def VH:OM X (binaryOp .Add) iC:=by unhygienic exact mx.imp EY fun x y H Q n=>by obtain⟨m,h,L,J,d,I,S,D,R2,e,k⟩:=n;obtain⟨F,C,e⟩:=sA e;obtain⟨E,e2,e⟩:=sA e;obtain⟨B,e⟩:=RF e;cases e;obtain⟨l,u,q,q1,j⟩:=yC S D C;obtain⟨b,r,o,q2,i⟩:=yC S R2 e2;exact⟨l,b,u,r,q,o,q1,q2,by rw[j.length,i.length];exact B,fun p hp=>k m _ _ (iK S (j.append i) hp) (S.fresh hp) (mi.fresh hp)⟩
def Vh:OM X (binaryOp .Add) yK:=by unhygienic exact mx.imp EY fun x y H Q m=>by obtain⟨D,h,L,J,d,I,S,C,R2,e,k⟩:=m;obtain⟨F,B,e⟩:=sA e;obtain⟨E,e2,e⟩:=sA e;obtain⟨u,e⟩:=RF e;cases e;obtain⟨l,r,o,q1,j⟩:=yC S C B;obtain⟨b,q,n,q2,i⟩:=yC S R2 e2;exact⟨l,b,r,q,o,n,q1,q2,by rw[j.length,i.length];exact u,fun p hp=>k _ _ _ (UH S (j.append i) hp).1 (UH S (j.append i) hp).2 (mi.own hp)⟩
noncomputable def GB(F:Dt->HI->O4 (Dt×HI))(f:RE):RE:=fun l h=>(f l h).bind fun r=>F r.1 r.2
def vK(J:ah X (.builtin o) r)(O:∀i h d v y j H Q,Vs X.K i h H->Uo X.K H i d v->F d h=ε (y,j)->Out X.K i H y j Q->r [v] H Q)
 (I:Gl X x) (E:X.mg x=none) (C:bootBuiltins x=ε (.builtin o)) (M:EM X e f) (D:autoParam (x ≠ "__name__" ) Ñ) (n:autoParam ((x==("__debug__" :Str))=false) Ñ) (hs:autoParam (gB e=true) Æ) :
 EM X (.Call (.Name x p) [e] [] pos) (GB F f):=by
 unhygienic exact PE.imp (RL J I E C (BC M DD (pB hs _ _)) D n (he:=pB hs _ _)) fun Y H Q B=>by obtain⟨i,l,h,d,j,S,L,e,k⟩:=B;obtain⟨⟨u,q⟩,P,e⟩:=sA e;exact⟨i,l,h,u,q,S,L,P,fun m v U T R W=>O m q u v d j U Q R T e (k.ext W)⟩
def kT(I:ah X (.type T) r)(M:∀i h d v u j H Q,Vs X.K i h H->Uo X.K H i d v->F d h=ε (u,j)->Out X.K i H u j Q->r [v] H Q)
 (E:Gl X x) (D:X.mg x=none) (B:bootBuiltins x=ε (.type T)) (J:EM X e f) (C:autoParam (x ≠ "__name__" ) Ñ) (n:autoParam ((x==("__debug__" :Str))=false) Ñ) (hs:autoParam (gB e=true) Æ) :
 EM X (.Call (.Name x p) [e] [] pos) (GB F f):=by
 unhygienic exact PE.imp (FR I E D B (BC J DD (pB hs _ _)) C n (he:=pB hs _ _)) fun Y H Q y=>by obtain⟨i,l,h,d,j,S,L,e,k⟩:=y;obtain⟨⟨q,o⟩,O,e⟩:=sA e;exact⟨i,l,h,q,o,S,L,O,fun m v U R P W=>M m o q v d j U Q P R e (k.ext W)⟩
def eB:Dt->HI->O4 (Dt×HI):=fun d h=>match d with
 | .str z=>if z.length<=sizeLine then ε (.int z.length,h)else none
 | d=>(XC h d).map fun i=>(.int i.length,h)
theorem zC (o:Gl X "len") (n:X.mg "len" =none) (u:EM X e f) (hs:autoParam (gB e=true) Æ):EM X (.Call (.Name "len" p) [e] [] pos) (GB eB f):=by
 unhygienic
  exact vK (ah.or Fj Gj) (fun i h d v B y H Q S R e k=>by
   unfold eB at e;split at e
   . rename_i z;obtain⟨m,e⟩:=RF e;cases e;exact .inr ⟨z,by rw[cm.mp R],m,k i _ H (Xu.mpr rfl) S (mi.refl _ _)⟩
   . cases q:XC h d with
     | none=>rw[q]at e;cases e
     | some x=>
      rw[q]at e;cases e;obtain⟨a,j,z,sq,r⟩:=cM S R q;exact .inl ⟨a,j,by rw[z],sq,by rw[r.length];exact k i _ H (Xu.mpr rfl) S (mi.refl _ _)⟩) o n PySem.boot_len u (hs:=hs)
noncomputable def MK:Dt->HI->O4 (Dt×HI):=fun d h=>match d with
 | .int i=>ε (.int i,h)
 | .bl b=>ε (.int (if b then 1 else 0),h)
 | _=>none
theorem Ef (n:Gl X "int") (m:X.mg "int" =none) (o:EM X e f) (hs:autoParam (gB e=true) Æ):EM X (.Call (.Name "int" p) [e] [] pos) (GB MK f):=by
 unhygienic
  exact kT yx (fun j h d v r q H Q S R e k=>by
   unfold MK at e;split at e
   . rename_i i;cases e;exact .inl ⟨i,by rw[Xu.mp R],k j _ H (Xu.mpr rfl) S (mi.refl _ _)⟩
   . rename_i b;cases e;exact .inr ⟨b,by rw[af.mp R],k j _ H (Xu.mpr rfl) S (mi.refl _ _)⟩
   . cases e) n m PyProof.Rows.boot_int o (hs:=hs)
def LM:Dt->HI->O4 (Dt×HI):=fun d h=>(XC h d).map fun i=>(.lst i,h)
def UD:Dt->HI->O4 (Dt×HI):=fun d h=>(XC h d).map fun i=>(.ref h.length,h++[.lst i])
def Mg (o:Gl X "list") (n:X.mg "list" =none) (u:EM X e f) (hs:autoParam (gB e=true) Æ):EM X (.Call (.Name "list" p) [e] [] pos) (GB LM f):=by
 unhygienic
  exact kT SU (fun j h d v B y H Q S R e k=>by
   unfold LM at e;cases q:XC h d with
   | none=>rw[q]at e;cases e
   | some x=>
    rw[q]at e;cases e;obtain⟨a,m,z,sq,r⟩:=cM S R q;exact⟨a,m,by rw[z],sq,fun l i=>k j _ _ (iK S r i) (S.fresh i) (mi.fresh i)⟩) o n PyProof.Rows.boot_list u (hs:=hs)
def xL (n:Gl X "list") (m:X.mg "list" =none) (o:EM X e f) (hs:autoParam (gB e=true) Æ):EM X (.Call (.Name "list" p) [e] [] pos) (GB UD f):=by
 unhygienic
  exact kT SU (fun u h d v B y H Q S R e k=>by
   unfold UD at e;cases q:XC h d with
   | none=>rw[q]at e;cases e
   | some x=>
    rw[q]at e;cases e;obtain⟨a,j,z,sq,r⟩:=cM S R q;exact⟨a,j,by rw[z],sq,fun l i=>k _ _ _ (UH S r i).1 (UH S r i).2 (mi.own i)⟩) n m PyProof.Rows.boot_list o (hs:=hs)
def YV(ns):IC (ns.map Dt.int)=ε ns:=by
 induction ns with
 | nil=>rfl
 | cons n ns ih=>rw[Uu];simp![IC];rw[ih];rfl
def gJ:Dt->HI->O4 (Dt×HI):=fun d h=>(yA h d).bind fun i=>(IC i).map fun ns=>(.int ns.sum,h)
def uZ (o:X.calm=true) (n:Gl X "sum") (m:X.mg "sum" =none) (u:EM X e f) (hs:autoParam (gB e=true) Æ):EM X (.Call (.Name "sum" p) [e] [] pos) (GB gJ f):=by
 unhygienic
  exact vK (Hx o) (fun i h d v C B H Q S R e k=>by
   obtain⟨j,x,e⟩:=sA e;cases q:IC j with
   | none=>rw[q]at e;cases e
   | some ns=>
    rw[q]at e;cases e;obtain⟨a,y,z,sq,r⟩:=yC S R x;rw[WF q]at r;rw[r.ci]at sq;exact⟨a,ns,by rw[z],sq,k i _ H (Xu.mpr rfl) S (mi.refl _ _)⟩) n m PyProof.Rows.boot_sum u (hs:=hs)
noncomputable def EC:Oo Int->Int
 | []=>0
 | [a]=>a
 | a::b::r=>max a (EC (b::r))
noncomputable def hC:Oo Int->Int
 | []=>0
 | [a]=>a
 | a::b::r=>min a (hC (b::r))
theorem zL:∀ns,ns ≠ []->EC ns∈ns/\∀a∈ns,a<=EC ns
 | [],h=>Es rfl h
 | [a],_=>by simp[EC]
 | a::b::r,_=>by
  obtain⟨j,i⟩:=zL (b::r) ⋯;simp![EC];refine⟨?_,fun c d=>?_⟩
  . rcases Int.le_total a (EC (b::r))with z | z
    . rw[Int.max_eq_right z];exact rz _ j
    . rw[Int.max_eq_left z];exact vo
  . rcases Bu.mp d with z | z
    . rw[z];exact Int.le_max_left _ _
    . exact Int.le_trans (i c z) (Int.le_max_right _ _)
theorem AL:∀ns,ns ≠ []->hC ns∈ns/\∀a∈ns,hC ns<=a
 | [],h=>Es rfl h
 | [a],_=>by simp[hC]
 | a::b::r,_=>by
  obtain⟨j,i⟩:=AL (b::r) ⋯;simp![hC];refine⟨?_,fun c d=>?_⟩
  . rcases Int.le_total a (hC (b::r))with z | z
    . rw[Int.min_eq_left z];exact vo
    . rw[Int.min_eq_right z];exact rz _ j
  . rcases Bu.mp d with z | z
    . rw[z];exact Int.min_le_left _ _
    . exact Int.le_trans (Int.min_le_right _ _) (i c z)
def NK:Dt->HI->O4 (Dt×HI):=fun d h=>(yA h d).bind fun i=>(IC i).bind fun ns=>if ns ≠ []then ε (.int (EC ns),h)else none
def OK:Dt->HI->O4 (Dt×HI):=fun d h=>(yA h d).bind fun i=>(IC i).bind fun ns=>if ns ≠ []then ε (.int (hC ns),h)else none
def rZ (x:X.calm=true) (u:Gl X "max") (o:X.mg "max" =none) (y:EM X e f) (hs:autoParam (gB e=true) Æ):EM X (.Call (.Name "max" p) [e] [] pos) (GB NK f):=by
 unhygienic
  exact vK (zx x) (fun j h d v J I H Q S R e k=>by
   obtain⟨E,D,e⟩:=sA e;obtain⟨ns,q,e⟩:=sA e;obtain⟨i,e⟩:=RF e;cases e;obtain⟨a,F,z,sq,r⟩:=yC S R D;rw[WF q]at r;rw[r.ci]at sq;obtain⟨n,m⟩:=zL ns i;refine⟨a,ns,by rw[z],sq,i,fun M C B=>?_⟩;have:M=EC ns:=Int.le_antisymm (m M C) (B _ n);rw[this];exact k j _ H (Xu.mpr rfl) S (mi.refl _ _)) u o PyProof.Rows.boot_max y (hs:=hs)
def sZ (x:X.calm=true) (u:Gl X "min") (o:X.mg "min" =none) (y:EM X e f) (hs:autoParam (gB e=true) Æ):EM X (.Call (.Name "min" p) [e] [] pos) (GB OK f):=by
 unhygienic
  exact vK (Bx x) (fun j h d v J I H Q S R e k=>by
   obtain⟨E,D,e⟩:=sA e;obtain⟨ns,q,e⟩:=sA e;obtain⟨i,e⟩:=RF e;cases e;obtain⟨a,F,z,sq,r⟩:=yC S R D;rw[WF q]at r;rw[r.ci]at sq;obtain⟨n,m⟩:=AL ns i;refine⟨a,ns,by rw[z],sq,i,fun M C B=>?_⟩;have:M=hC ns:=Int.le_antisymm (B _ n) (m M C);rw[this];exact k j _ H (Xu.mpr rfl) S (mi.refl _ _)) u o PyProof.Rows.boot_min y (hs:=hs)
noncomputable def kG(h:HI):Dt->O4 String
 | .non=>ε "NoneType"
 | .bl _=>ε "bool"
 | .int _=>ε "int"
 | .str _=>ε "str"
 | .tup _=>ε "tuple"
 | .lst _=>ε "list"
 | .ref n=>match h[n]? with | some (.lst _)=>ε "list" | _=>none
 | .ntp _=>none
noncomputable def nN (t T:String):Bool:=t==T || (t == "bool" && T == "int")
def OF(T:String)(f:RE):RE:=fun l h=>(f l h).bind fun r=>(kG r.2 r.1).map fun t=>(.bl (nN t T),r.2)
def jr (K):∀t ∈ ["NoneType", "bool", "int", "str", "tuple", "list"],∀T ∈ ["bool", "int", "str", "tuple", "list"],PySem.W.kitOne K (.type t) (.type T)=ε (nN t T):=by intro t d T h;simp![Bu,mem_nil_iff,or_false]at d h;rcases d with rfl | rfl | rfl | rfl | rfl | rfl<;>rcases h with rfl | rfl | rfl | rfl | rfl<;>unhygienic rfl
def B6 (e:kG h d=ε t):t ∈ ["NoneType", "bool", "int", "str", "tuple", "list"]:=by
 cases d with
 | ref n=>
  simp![kG]at e;split at e
  . cases e;decide
  . cases e
 | ntp n=>simp![kG]at e;cases e
 | _=>simp![kG]at e<;>cases e<;>decide
set_option tactic.hygienic true in
theorem V7{K:Ra}(S:Vs K ρ h H)(R:Uo K H ρ d v)(e:kG h d=ε t):Tp K H v t:=by
 cases d with
 | non=>cases bt.mp R;simp![kG]at e;cases e;rfl
 | bl b=>cases af.mp R;simp![kG]at e;cases e;rfl
 | int b=>cases Xu.mp R;simp![kG]at e;cases e;rfl
 | str b=>cases cm.mp R;simp![kG]at e;cases e;rfl
 | tup j=>obtain⟨a,i,z,t,k⟩:=bc.mp R;subst z;simp![kG]at e;cases e;exact .inr ⟨rfl,i,t.sq⟩
 | lst j=>obtain⟨a,i,z,t,k⟩:=cn.mp R;subst z;simp![kG]at e;cases e;exact .inl ⟨rfl,i,t.sq⟩
 | ref n=>
  obtain⟨a,z,m⟩:=al.mp R;subst z;simp![kG]at e;split at e
  . rename_i j q;cases e;obtain⟨i,o,_⟩:=S.lst m q;exact .inl ⟨rfl,i,mv.of o⟩
  . cases e
 | ntp n=>simp![kG]at e;cases e
def fK {TT:String} (E:Gl X "isinstance") (D:X.mg "isinstance" =none) (n:Gl X T) (m:X.mg T=none) (C:bootBuiltins T=ε (.type TT)) (I:TT ∈ ["bool", "int", "str", "tuple", "list"]) (F:EM X e f)
 (j:autoParam (T ≠ "__name__" ) Ñ) (o:autoParam ((T==("__debug__" :Str))=false) Ñ)
 (hs:autoParam (gB e=true) Æ) :
 EM X (.Call (.Name "isinstance" p) [e,.Name T p2] [] pos) (OF TT f):=by
 unhygienic
  exact PE.imp (RL (Gw (T:=TT)) E D PyProof.Rows.boot_isinstance (BC F (BC (Yh n m C (v:=.ty TT) rfl j o) DD (pB rfl _ _)) (pB hs _ _)) (he:=pB hs _ _)) fun R H Q B=>by
   obtain⟨y,l,h,d,U,S,L,e,k⟩:=B;obtain⟨⟨u,r⟩,J,e⟩:=sA e;refine⟨y,l,h,u,r,S,L,J,fun i v O M x P=>?_⟩;cases q:kG r u with
   | none=>rw[q]at e;cases e
   | some t=>rw[q]at e;cases e;exact⟨v,t,nN t TT,rfl,V7 x M q,jr X.K t (B6 q) TT I,k i _ O (af.mpr rfl) x P⟩
abbrev RO:=LI->HI->O4 (O4 Int×HI)
noncomputable def LD:RO:=fun _ h=>ε (none,h)
noncomputable def WB(f:RE):RO:=fun l h=>(f l h).bind fun r=>match r.1 with | .int i=>ε (ε i,r.2) | _=>none
inductive tMO(K:Frag)(f:RO)(σ:L2.St)(H:Hp)(Q:Option Int->Hp->Prop):Prop where
 | mk (ρ:Rg) (l:LI) (h:HI) (o:Option Int) (h':HI) (S:Vs K ρ h H) (L:Ze K H ρ l σ) (e:f l h=ε (o,h')) (k:gc K ρ H h' (Q o))
@[irreducible] def MT(X:Cx)(e:O4 Pu)(f:RO):Prop:=PO X e (tMO X.K f)
def PO.imp{e:O4 Pu}(h:PO X e t)(i:∀d H Q,t' d H Q->t d H Q):PO X e t':=fun j s d H Q I q=>h j s d H Q I (i d H Q q)
def rE:MT X none LD:=by unhygienic exact PO.imp Yc fun j H Q i=>by obtain⟨d,l,h,o,m,S,L,e,k⟩:=i;cases e;exact k d H S (mi.refl _ _)
def dD(q:EM X a fa):MT X (ε a) (WB fa):=by
 unhygienic
  exact PO.imp (Zc q) fun D H Q n=>by
   obtain⟨m,l,h,o,E,S,L,e,k⟩:=n;obtain⟨⟨j,r⟩,u,e⟩:=sA e;refine⟨m,l,h,j,r,S,L,u,fun d v B y x C=>?_⟩;cases j with
   | int i=>cases e;exact⟨i,Xu.mp y,k d B x C⟩
   | _=>cases e
def fC(xs:Oo Dt)(lo hi:O4 Int):Oo Dt:=(xs.drop (HT.sIx xs.length 0 lo)).take (HT.sIx xs.length xs.length hi-HT.sIx xs.length 0 lo)
def IE(f:RE)(lo hi:RO):RE:=fun l h=>(f l h).bind fun r=>(lo l r.2).bind fun o=>(hi l o.2).bind fun u=>(yA u.2 r.1).map fun d=>(.lst (fC d o.1 u.1),u.2)
def lY{K:Ra}(r:Ue K H ρ xs vs)(lo hi):Ue K H ρ (fC xs lo hi) (DH vs lo hi):=by unfold fC DH;rw[r.length];exact(r.drop _).take _
def AF{lo hi:O4 Pu}(W:EM X a fa)(T:MT X lo F)(U:MT X hi I):EM X (.Subscript a (.Slice lo hi none p2) pos) (IE fa F I):=by
 unhygienic
  exact PE.imp (lX Kd W T U) fun σ H Q P=>by
   obtain⟨O,l,h,d,h',S,L,e,k⟩:=P;obtain⟨⟨J,E⟩,Z,e⟩:=sA e;obtain⟨⟨o,D⟩,e2,e⟩:=sA e;obtain⟨⟨u,C⟩,Y,e⟩:=sA e;refine⟨O,l,h,J,E,S,L,Z,fun m v H1 R1 S1 B=>⟨m,l,E,o,D,S1,L.ext B,e2,fun j H2 S2 y=>⟨j,l,D,u,C,S2,L.ext (B.trans y),Y,fun i H3 n M=>?_⟩⟩⟩;cases q:yA C J with
   | none=>dsimp only at e;rw[q]at e;cases e
   | some xs=>dsimp only at e;rw[q]at e;cases e;obtain⟨x,R,z,sq,r⟩:=yC n (Uo.ext (y.trans M) _ R1) q;exact⟨x,R,z,sq,fun p hp=>k i _ _ (iK n (lY r o u) hp) (n.fresh hp) (B.trans (y.trans (M.trans (mi.fresh hp))))⟩
noncomputable def D3(fo fa:RE):RE:=fun l h=>(fo l h).bind fun r=>match r.1 with
 | .ref n=>(fa l r.2).bind fun q=>match q.2[n]? with
  | some (.lst xs)=>if xs.length<sizeLine then ε (.non,q.2.set n (.lst (xs++[q.1])))else none
  | _=>none
 | _=>none
def JS {K:Ra} (S:Vs K ρ h H) (R:Uo K H ρ (.ref n) v) (e:h[n]?=ε (.lst xs)):K5 K "list" v H:=by obtain⟨a,z,i⟩:=al.mp R;subst z;obtain⟨d,j,_⟩:=S.lst i e;exact .inl ⟨rfl,d,mv.of j⟩
def fE(fa fb:RE):RE:=fun l h=>(fa l h).bind fun r=>match r.1 with
 | .ref n=>match r.2[n]? with
  | some (.lst _)=>D3 (eC (.ref n)) fb l r.2
  | _=>none
 | _=>none
theorem UF (Z:EM X a fa) (hb:EM X b fb) (o:autoParam (attributeBase a "append" X.env (eval a X.env)=eval a X.env) Æ)
 (m:autoParam ((j.endLine==i.line)=true) Æ) (hs:autoParam (gB b=true) Æ) :
 EM X (.Call (.Attribute a "append" j) [b] [] i) (fE fa fb):=by
 unhygienic
  exact PE.imp (xT PySem.F.plainAttrs_list PySem.F.slot_list_append PySem.F.type_list_append mW Z (BC hb DD (pB hs _ _)) o (LR hs) m (pB hs _ _)) fun σ H Q R=>by
   obtain⟨P,l,h,d,h',S,L,e,k⟩:=R;obtain⟨⟨E,D⟩,e1,e⟩:=sA e;refine⟨P,l,h,E,D,S,L,e1,fun B v H1 J I O=>?_⟩;cases E with
   | ref n=>
    dsimp only at e;split at e
    . rename_i U q0;obtain⟨⟨d0,h0⟩,T,e⟩:=sA e;cases T;dsimp only at e;obtain⟨⟨d2,h2⟩,e2,e⟩:=sA e;refine⟨JS I J q0,B,l,D,d2,h2,I,L.ext O,e2,fun x y H2 R2 F M=>?_⟩;dsimp only at e;split at e
      . rename_i xs q;obtain⟨Y,e⟩:=RF e;cases e;obtain⟨a,z,ha⟩:=al.mp J;subst z;have r:=M.get ha;obtain⟨W,u,g2⟩:=F.lst r q;have C:=m6 r;refine⟨a,W,y,rfl,rfl,u,by rw[g2.length];exact Y,k x _ _ (bt.mpr rfl) (F.write r (HH u) ⟨_,xC,?_⟩) (O.trans (M.trans (mi.write C (HH u))))⟩;exact(g2.append (.cons R2 .nil)).ext (mi.write C (HH u))
      . cases e
    . cases e
   | _=>cases e
end
section
variable{X:Cx}{pins:Oo (Pb×Obj)}{σ:L2.St}{H:Hp}{s:Pa}{ρ:Rg}
open Classical in
end
section
variable{X:Cx}{a b:Pu}{fa fb:RE}
noncomputable def ID(K:Ra):Nat->Ou->O4 Dt
 | _,.none=>ε .non
 | _,.bool b=>ε (.bl b)
 | _,.int i _=>ε (.int i)
 | _,.str x _=>ε (.str x)
 | 0,_=>none
 | n+1,.ref a=>match K.lookup a with
  | some ⟨.type T,dd,.seq its _,_⟩=>if its.size<=sizeLine then
   if T = "tuple" then(its.toList.mapM (ID K n)).map .tup
   else if T = "list" then match dd with | none=>(its.toList.mapM (ID K n)).map .lst | some _=>none
   else none
   else none
  | _=>none
 | _,_=>none
noncomputable def UT:Ou->V
 | .none=>.non
 | .bool b=>.bl b
 | .int i _=>.int i
 | .str x _=>.str x
 | .ref a=>.ref a
 | _=>.non
theorem XR{K:Ra}(h:∀u d,f u=ε d->ml (UT u) u/\Uo K H ρ d (UT u)):∀{us:Oo Ou}{ds:Oo Dt},us.mapM f=ε ds->mf (us.map UT) us/\Ue K H ρ ds (us.map UT)
 | [],_,e=>by simp at e;subst e;exact⟨.nil,.nil⟩
 | u::us,ds,e=>by
  rw[mapM_cons]at e;cases q:f u with
  | none=>rw[q]at e;cases e
  | some d=>
   rw[q]at e;cases q2:us.mapM f with
   | none=>rw[q2]at e;cases e
   | some m=>rw[q2]at e;cases e;obtain⟨k,j⟩:=h u d q;obtain⟨i,g⟩:=XR h q2;exact⟨.cons k i,.cons j g⟩
set_option tactic.hygienic true in
theorem VW{K:Ra}:∀n u d,ID K n u=ε d->ml (UT u) u/\Uo K H ρ d (UT u):=by
 intro n
 induction n with
 | zero=>
  intro u d e;cases u with
  | none=>simp![ID]at e;cases e;exact⟨rfl,bt.mpr rfl⟩
  | bool b=>simp![ID]at e;cases e;exact⟨rfl,af.mpr rfl⟩
  | int i t=>simp![ID]at e;cases e;exact⟨⟨_,rfl⟩,Xu.mpr rfl⟩
  | str x t=>simp![ID]at e;cases e;exact⟨⟨_,rfl⟩,cm.mpr rfl⟩
  | _=>simp![ID]at e<;>cases e
 | succ n ih=>
  intro u d e;cases u with
  | none=>simp![ID]at e;cases e;exact⟨rfl,bt.mpr rfl⟩
  | bool b=>simp![ID]at e;cases e;exact⟨rfl,af.mpr rfl⟩
  | int i t=>simp![ID]at e;cases e;exact⟨⟨_,rfl⟩,Xu.mpr rfl⟩
  | str x t=>simp![ID]at e;cases e;exact⟨⟨_,rfl⟩,cm.mpr rfl⟩
  | ref a=>
   simp![ID]at e;split at e
   . rename_i T r f m p q;by_cases h:f.size<=sizeLine
     . rw[eG h]at e;by_cases j:T = "tuple"
       . rw[eG j]at e;cases q2:f.toList.mapM (ID K n)with
         | none=>rw[q2]at e;cases e
         | some ds=>rw[q2]at e;cases e;obtain⟨o,k⟩:=XR (K:=K) (H:=H) (ρ:=ρ) ih q2;subst j;exact⟨rfl,bc.mpr ⟨a,_,rfl,.inr ⟨_,f,m,q,rfl,rfl,h,o⟩,k⟩⟩
       . rw[eH j]at e;by_cases g:T = "list"
         . rw[eG g]at e;split at e
           . cases q2:f.toList.mapM (ID K n)with
             | none=>rw[q2]at e;cases e
             | some ds=>rw[q2]at e;cases e;obtain⟨o,k⟩:=XR (K:=K) (H:=H) (ρ:=ρ) ih q2;subst g;exact⟨rfl,cn.mpr ⟨a,_,rfl,.inr ⟨_,f,m,q,rfl,rfl,rfl,h,o⟩,k⟩⟩
           . cases e
         . rw[eH g]at e;cases e
     . rw[eH h]at e;cases e
   . cases e
  | _=>simp![ID]at e<;>cases e
structure J2(K:Frag)(mg:Str->Option Value)(x:Str)(d:Dt):Prop where
 ex:∃u n,mg x=ε u/\ID K n u=ε d
def eK (f:Gl X x) (c:J2 X.K X.mg x d) (hd:autoParam ((x==("__debug__" :Str))=false) Ñ):EM X (.Name x pos) (eC d):=by unhygienic obtain⟨u,n,g,e⟩:=c.ex;exact Df f g (VW (H:=fun q=>none) (ρ:=.nil) n u d e).1 (fun H ρ=>(VW n u d e).2) hd
end
def rm{K:Ra}(h:∀ns:Oo Int,ns.length<=n->∃b,F [.lst (ns.map Dt.int)] []=ε (.bl true,b))(H)(a)(ns:Oo Int)(f:ns.length<=n)(hS:mv K H a (ns.map V.int)) :
 nJ K 1 F [.ref a] H (fun v q=>v=.bl true) fun q q q=>False:=by
 obtain⟨b,e⟩:=h ns f;have R:Uo K H .nil (.lst (ns.map Dt.int)) (.ref a):=cn.mpr ⟨a,_,rfl,by
  rcases hS with hS | hS
  . exact .inl ⟨⟨by simp[Rg.nil],by simp[Rg.nil]⟩,hS⟩
  . exact .inr hS,Ue.ints ns⟩
 exact⟨.nil,[.lst (ns.map Dt.int)],[],.bl true,b,Vs.nil,.cons R .nil,rfl,e,fun d v j g i k=>af.mp g⟩
structure jC(P:Program)(w:World)(K:Frag)(mg:Str->Option Value)(base:Heap)(k n:Nat)(x:Str)(F:rB):Prop where
 ex:∃f fd ps,ai P w K mg base lG k f fd ps (nJ K n F)/\mg x=ε (.ref f)/\keepIn K (.ref f)=true/\mw K fd ps []
 len:∀ds h r,F ds h=ε r->ds.length=n
structure pT(K:Frag)(mg:Str->Option Value)(x:Str)(st:Stmt)(ps:List Str):Prop where
 ex:∃f fd,Fun K x x st f fd/\mg x=ε (.ref f)/\mw K fd ps []
section
variable{P:Ri}{w:Rr}{K:Ra}{b:Str->O4 Ou}{a:Te}
def Vl{st:Ro}(F:Fun K x d st f g)(S:Za N ps (oB st))(h:ps.length=n)(i:N.length=m)
 (j:∀e A outer s H E,Ys k (A.deeper (envOfC d (oB st) s.heap.objs.size f e))->
  aI (iF lG P w K b a N d (oB st) f e A outer s H E).nox (bD st) body):ai P w K b a lG (k+1) f g ps (nJ K n (QB n m body)):=by
 unhygienic subst h i;exact KP F S j
def bK{st:Ro}(D:pT K b x st ps)(S:Za N ps (oB st))(o:ps.length=n)(g:N.length=m)
 (p:∀f d A outer s H E,Ys k (A.deeper (envOfC x (oB st) s.heap.objs.size f d))->
  aI (iF lG P w K b a N x (oB st) f d A outer s H E).nox (bD st) body):jC P w K b a (k+1) n x (QB n m body):=by
 unhygienic subst o g;obtain⟨f,u,i,g,q⟩:=D.ex;exact⟨⟨f,u,ps,KP i S fun d A outer s H E j=>p f d A outer s H E j,g,i.kp,q⟩,fun ds h r e=>aP e⟩
end
section
variable{X:Cx}{k b n:Nat}{F:rB}{x:Str}{p pos:Pos}{e:Pu}{a:Oo Pu}{g:RA}
def WD (c:jC X.prog X.w X.K X.mg X.base k n x F) (i:Ys b X.A) (j:k<=b) (m:Gl X x) (o:AM X (e::a) g) (d:autoParam ((x==("__debug__" :Str))=false) Ñ)
 (he:autoParam (gB e=true) Æ) (hpl:autoParam (a.all gB=true) Æ) :
 EM X (.Call (.Name x p) (e::a) [] pos) (rA F [] g):=by
 unhygienic obtain⟨f,E,D,C,B,y,u⟩:=c.ex;exact rX C (i.mono j) m B y u .nil (fun z z=>.nil) o (fun H e ds h r q=>c.len ds h r (e ▸ q)) d he hpl
end
def Ry{l:PySem.W.OpenLaw}{K:Params->Ra}(o:l.most=ε 63)(e:d.params.defaults=[])(m:Ys k callerA)
 (r:∀w h,i w h->(K w.params).In h)
 (B:∀w mg fa h,(K w.params).In h->h.Ns mainGlobals mg->mg d.name=ε (.ref fa)->
  ∃g,(∀s u,BindsTo s g ⟨[u],[]⟩ [(x,u)])/\∀base,(K w.params).In base->base.Ns mainGlobals mg->ai l.prog w (K w.params) mg base lG k fa g [x] (nJ (K w.params) 1 F))
 (h:∀ns:Oo Int,ns.length<=63->∃C,F [.lst (ns.map Dt.int)] []=ε (.bl true,C)):PySem.W.WalkO q b D i l.row.toRowW d [] (fun f j=>PySem.call f j):=
 L2.zc (n:=63) (k:=k) (x:=x) (CX:=fun v=>lG) (sp:=fun w=>nJ (K w.params) 1 F) o (by decide) e m r B (fun w H a ns p v y=>rm h H a ns p y) fun v v v v v z=>z
end SM
namespace L2
section
variable{X:Cx}
theorem OS:∀{bs:Oo Bool}{us:Oo Ou},mf (bs.map V.bl) us->∀(i:Nat)(v:Ou),us[i]?=ε v->v=.bool (bs.getD i false)
 | [],us,r,i,v,e=>by cases r;simp at e
 | b::bs,us,r,i,v,e=>by
  cases r with
  | cons r a=>
   cases i with
   | zero=>simp at e;subst e;exact r
   | succ i=>simpa using OS a i v (by simpa using e)
def Yw(bs:Oo Bool):(List.range bs.length).all (fun i=>bs.getD i false)=bs.all id:=by
 induction bs with
 | nil=>rfl
 | cons b bs ih=>
  rw[Ua,Ks,La,all_map,La];have:((fun i=>(b::bs).getD i false) ∘ Nat.succ)=fun i=>bs.getD i false:=by
   funext i
   simp
  rw[this,ih];simp
def bx (x:X.calm=true):ah X (.builtin "all") (fun d H Q=>∃(p:Pb) (bs:Oo Bool),d=[.ref p]/\mv X.K H p (bs.map V.bl)/\Q (.bl (bs.all id)) H):=by
 intro g s B H d C Q I r h;obtain⟨p,bs,rfl,n,q⟩:=h;obtain⟨u,rfl,j⟩:=qF r;cases j;obtain⟨a,f,pl,F⟩:=I.list n;have b:p<s.heap.objs.size:=by obtain⟨_,e,_⟩:=pl.isList;exact ji e
 refine call_all_walk (wpAny_pyIter_list pl.isList ?_);refine⟨_,_,_,_,_,_,fun i=>bs.getD i false,rfl,Walks.list (A:=X.A.in1) (I.ok.hd x) s.heap.objs.size p (su b) a.toArray,⟨⟨_,ju _ rfl,rfl,rfl⟩,pl.isList.push _⟩,?_,fun J D k=>?_⟩
 . intro i v E Q2 L m y;have e:=OS f i v (by simpa using m);subst e;exact Ga y
 . have o:=f.length;have e:(List.range a.toArray.size).all (fun i=>bs.getD i false)=bs.all id:=by rw[show a.toArray.size=bs.length by simp at o ⊢;omega,Yw]
   rw[e];exact⟨.bl (bs.all id),H,I.kept (old_kept k),rfl,q⟩
end
end L2
namespace SM
noncomputable def gG:Oo Dt->O4 (Oo Bool)
 | []=>ε []
 | .bl b::ds=>(gG ds).map fun bs=>b::bs
 | _::_=>none
theorem SR:∀{ds:Oo Dt}{bs:Oo Bool},gG ds=ε bs->ds=bs.map Dt.bl
 | [],bs,e=>by simp![gG]at e;cases e;rfl
 | d::ds,bs,e=>by
  cases d with
  | bl b=>
   simp![gG]at e;cases q:gG ds with
   | none=>rw[q]at e;cases e
   | some a=>rw[q]at e;cases e;rw[SR q];rfl
  | _=>simp![gG]at e<;>cases e
theorem Ue.hY{K:Ra}:∀{bs:Oo Bool}{vs:Oo V},Ue K H ρ (bs.map Dt.bl) vs->vs=bs.map V.bl
 | [],_,h=>h.ba
 | n::ns,_,h=>by obtain⟨v,r,rfl,a,b⟩:=Ue.ab h;simp![Uo]at a;rw[a,Ue.hY b];rfl
def GG:Dt->HI->O4 (Dt×HI):=fun d h=>(yA h d).bind fun a=>(gG a).map fun bs=>(.bl (bs.all id),h)
section
variable{X:Cx}{e:Pu}{f:RE}{p pos:Pos}
def FS (m:X.calm=true) (j:Gl X "all") (i:X.mg "all" =none) (n:EM X e f) (hs:autoParam (gB e=true) Æ):EM X (.Call (.Name "all" p) [e] [] pos) (GB GG f):=by
 unhygienic
  exact vK (bx m) (fun b h d v y x H Q S R e k=>by
   obtain⟨g,o,e⟩:=sA e;cases q:gG g with
   | none=>rw[q]at e;cases e
   | some ns=>
    rw[q]at e;cases e;obtain⟨a,u,z,sq,r⟩:=yC S R o;rw[SR q]at r;rw[r.hY]at sq;exact⟨a,ns,by rw[z],sq,k b _ H (af.mpr rfl) S (mi.refl _ _)⟩) j i PyProof.Rows.boot_all n (hs:=hs)
end
noncomputable def OI:Nat->Oo Dt->Oo Dt
 | _,[]=>[]
 | k,x::xs=>.tup [.int (k:Int),x]::OI (k+1) xs
noncomputable def ED(i j:Nat):RG:=fun d l=>match d with
 | .tup [a,b]=>ε ((l.set i (ε a)).set j (ε b))
 | _=>none
end SM
namespace L2
section
variable{X:Cx}{a:Oo (Pb×Obj)}{d:Oo (O4 V)}{H:Hp}{s:Pa}{h':Te}
def me.kw(I:me X a d H s)(k:∀b o,b≠e->b≠it->s.heap.get? b=ε o->h'.get? b=ε o)(fe:gF X a H e)(O:gF X a H it)(hp:s.heap.objs.size<=p)
 (new:Zi X.prog X.w (xB H p (.tup xs)) h' p (.tup xs)):me X a d (xB H p (.tup xs)) { s with heap:=h',toks:=t' }:=by
 obtain⟨U,B,e2,T,S,R⟩:=fe;obtain⟨J,y,Y,F,E,D⟩:=O;have h:H p=none:=I.hok.fresh hp;have ne:∀b u,H b=ε u->b≠e:=fun b u q z=>by rw[z,U]at q;cases q
 have x:∀b u,H b=ε u->b≠it:=fun b u q z=>by rw[z,J]at q;cases q
 have g:∀{b},b ∉ [e,it]->b≠e/\b≠it:=fun f=>⟨fun z=>f (by simp[z]),fun z=>f (by simp[z])⟩
 refine I.step (g':=s.gens) (d':=s.drawn) (ch:=[e,it]) (fun b i=>?_) (fun b o t t f q t=>k b o (g f).1 (g f).2 q) (fun b o t t f q t=>⟨o.slots,k b o (g f).1 (g f).2 q⟩)
  (fun b o t q n=>by rw[aB (su (kj (ji q) hp))];exact n)
  (fun b o f q=>⟨o,k b o (g f).1 (g f).2 q⟩) (fun b C q=>by rw[aB (ZC q h)];exact q) (fun b o u q=>by rw[aB (ZC q h)];exact q)
  (fun b W q=>⟨#[],by rw[aB (ZC q h),q];simp⟩) (fun m M=>?_) (fun b u q=>?_) I.bare
 . have z:b=e\/b=it:=by simpa using i
   rcases z with rfl | rfl
   . exact⟨T,B,S,R⟩
   . exact⟨F,y,E,D⟩
 . obtain⟨o,P,Q,L,r⟩:=M;exact⟨o,P,Q,k _ o (n7 B) (n7 y) L,r⟩
 . by_cases i:b=p
   . subst i;rw[xC]at q;cases q;exact new
   . rw[aB i]at q;refine(I.hok b u q).stay (fun c v f j=>?_) (fun c q=>by rw[aB (ZC q h)];exact q) fun c C q=>by rw[aB (ZC q h)];exact q
     rcases f with z | z
     . subst z;exact k c v (ne c u q) (x c u q) j
     . exact k c v (ne c _ z) (x c _ z) j
def me.kx(I:me X a d H s)(k:∀b o,b≠e->b≠it->s.heap.get? b=ε o->h'.get? b=ε o)(fe:gF X a H e)(L:gF X a H it):me X a d H { s with heap:=h',toks:=t' }:=by
 obtain⟨S,p,e2,R,Q,P⟩:=fe;obtain⟨D,j,U,C,B,y⟩:=L;have ne:∀b u,H b=ε u->b≠e:=fun b u q z=>by rw[z,S]at q;cases q
 have i:∀b u,H b=ε u->b≠it:=fun b u q z=>by rw[z,D]at q;cases q
 have g:∀{b},b ∉ [e,it]->b≠e/\b≠it:=fun f=>⟨fun z=>f (by simp[z]),fun z=>f (by simp[z])⟩
 refine I.step (g':=s.gens) (d':=s.drawn) (ch:=[e,it]) (fun b J=>?_) (fun b o t t f q t=>k b o (g f).1 (g f).2 q) (fun b o t t f q t=>⟨o.slots,k b o (g f).1 (g f).2 q⟩)
  (fun b o t q n=>n) (fun b o f q=>⟨o,k b o (g f).1 (g f).2 q⟩) (fun b x q=>q) (fun b o u q=>q)
  (fun b T q=>⟨#[],by rw[q];simp⟩) (fun m F=>?_) (fun b u q=>?_) I.bare
 . have z:b=e\/b=it:=by simpa using J
   rcases z with rfl | rfl
   . exact⟨R,p,Q,P⟩
   . exact⟨C,j,B,y⟩
 . obtain⟨o,M,O,E,r⟩:=F;exact⟨o,M,O,k _ o (n7 p) (n7 j) E,r⟩
 . refine(I.hok b u q).stay (fun c v f h=>?_) (fun c q=>q) fun c x q=>q
   rcases f with z | z
   . subst z;exact k c v (ne c u q) (i c u q) h
   . exact k c v (ne c _ z) (i c _ z) h
end
def Kp(K:Ra)(a:Pb):It:=
 ⟨fun i H=>∃b x,mv K H a b/\b[i]?=ε x,fun i H x d=>∃p y,H p=none/\x=.ref p/\(∀b,mv K H a b->b[i]?=ε y)/\d=xB H p (.tup [.int (i:Nat),y]),fun i H=>∃b,mv K H a b/\b.length<=i⟩
def Rw{P:Ri}{w:Rr}{K:Ra}{B:Oo Pu}{x1}{pos:Pos}(a e it:Pb)(r:e≠it):aH P w K (.Tuple B x1 pos) (Kp K a) [e,it] e (fun i h=>(∃old,IsEnum h e it i old)/\h.IsListIter it a i) where
 mem:=by simp
 obj:=fun i h st b R=>by
  obtain⟨⟨old,f⟩,g⟩:=st;have z:b=e\/b=it:=by simpa using R
  rcases z with rfl | rfl
  . exact⟨_,f,fun v z=>by cases z⟩
  . obtain⟨o,e,c,d⟩:=g;exact⟨o,e,fun v z=>by rw[d]at z;cases z⟩
 keep:=fun i h Z st k=>by obtain⟨⟨old,f⟩,g⟩:=st;exact⟨⟨old,k e ⋯ _ f⟩,g.at fun o e=>k it ⋯ o e⟩
 item:=by
  intro X S hw T W i m s σ H E I y st O;subst S hw T;obtain⟨⟨old,f⟩,g⟩:=st;obtain⟨xs,x,C,L⟩:=O;obtain⟨F,D,p,hz⟩:=I.list C;obtain⟨u,hu,ru⟩:=D.get L;have fe:=y e ⋯;have fi:=y it ⋯;refine wpAny_pyNext_enum_item f g p.isList (x:=u) (by simpa using hu) r fun Z out J j sz kp=>?_
  refine⟨_,rfl,wpAny_letOwnedTupleGo_enum out fun h2 Q sb=>?_⟩;have n:s.heap.objs.size≠e:=(su (ji f)).symm;have M:s.heap.objs.size≠it:=by obtain⟨o,q,_⟩:=g;exact(su (ji q)).symm
  have t2:h2.get? s.heap.objs.size=ε { cls:=.type "tuple",data:=.seq #[.int i s.toks,u] }:=(sb.2 _ n).trans j;refine⟨.ref s.heap.objs.size,xB H s.heap.objs.size (.tup [.int (i:Nat),x]),I.kw (fun b o Y U q=>(sb.2 b Y).trans (kp b o Y U q)) fe fi (Va _) ⟨by simp![Ua,Vi];rw[Cu];decide,[.int i s.toks,u],.cons ⟨_,rfl⟩ (.cons ru .nil),⟨_,t2,rfl,_,rfl⟩⟩,rfl,⟨_,x,I.hok.fresh (Va _),rfl,fun ys hy=>by rw[I.gv hy C];exact L,rfl⟩,⟨⟨_,Q⟩,J.at fun o q=>(sb.2 it (n7 r)).trans q⟩,fun b R=>?_⟩;have z:b=e\/b=it:=by simpa using R
  rcases z with rfl | rfl
  . rw[aB (n7 n)];exact fe.1
  . rw[aB (n7 M)];exact fi.1
 done:=by intro X S hw T W i m s σ H E I y st O;subst S hw T;obtain⟨⟨old,f⟩,g⟩:=st;obtain⟨xs,C,L⟩:=O;obtain⟨F,D,p,hz⟩:=I.list C;have hl:=D.length;exact wpAny_pyNext_enum_end (I.ok.hd W) f g p.isList (by simp;omega) fun Z eb=>⟨rfl,I.kx (t':=s.toks) (fun b o t U q=>eb b o U q) (y e ⋯) (y it ⋯)⟩
 self:=fun t t t t t st h=>by obtain⟨⟨old,f⟩,_⟩:=st;exact wpAny_pyIter_enum f h
section
variable{X:Cx}
def L3(K:Ra)(g:TA):TI:=fun d H R=>g d H fun f b=>∃a,f=[.ref a]/\(∃e,mv K b a e)/\R (Kp K a) b
def Wc {x1} (L:Gl X "enumerate") (J:X.mg "enumerate" =none) (O:PA X [a] n) (hs:autoParam (starEach [a] X.env=[(false,eval a X.env)]) Æ) :
 PI X (.Tuple i x1 y) (.Call (.Name "enumerate" p) [a] [] pos) (L3 X.K n):=by
 intro f s m H R I h;refine Call_ (BG I L J boot_enumerate (PyProof.Rows.callWith_type1 (CB (O pos f s m H _ I h) fun U d x=>?_) hs rfl));obtain⟨T,u,g,C,q1⟩:=x;obtain⟨b,e,⟨S,F⟩,q⟩:=q1;subst e;cases C with
 | cons r B=>
  cases B;cases r;obtain⟨D,W,pl,Y⟩:=g.list F;refine call_enumerate_list pl.isList fun P o j E k=>?_
  have Q:me X f m u { d with heap:=P }:=g.kept (t':=d.toks) k;refine wpAny_pyIter_enum o ?_;refine⟨d.heap.objs.size+1,[d.heap.objs.size+1,d.heap.objs.size],_,_,u,rfl,Q,Rw b (d.heap.objs.size+1) d.heap.objs.size (Nat.succ_ne_self _),⟨⟨_,o⟩,j⟩,fun c M=>?_,q⟩;have z:c=d.heap.objs.size+1\/c=d.heap.objs.size:=by simpa using M
  rcases z with rfl | rfl
  . exact g.cy (Nat.le_succ _) (g.hok.fresh (Nat.le_succ _))
  . exact g.cy (Va _) (g.hok.fresh (Va _))
end
end L2
namespace SM
theorem eW:∀(xs:Oo Dt)(k i:Nat),(OI k xs)[i]?=(xs[i]?).map fun x=>.tup [.int ((k+i:Nat):Int),x]
 | [],_,_=>by simp[OI]
 | x::xs,k,0=>by simp[OI]
 | x::xs,k,i+1=>by
  simp![OI,Ui];rw[eW xs (k+1) i];have:k+1+i=k+(i+1):=by omega
  rw[this]
section
variable{X:Cx}
def HS(i j){x1}(F:X.calm=true)(m:X.N.Nodup)(hi:autoParam (X.N[i]?=ε x) Æ)(D:autoParam (X.N[j]?=ε y) Æ)
 (C:autoParam (DK X.env.scope x) ö) (B:autoParam (DK X.env.scope y) ö)
 (E:autoParam (X.fn x=true\/X.env.scope.names.lookup x=ε .local) Ø)
 (f:autoParam (X.fn y=true\/X.env.scope.names.lookup y=ε .local) Ø):GM X (.Tuple [.Name x u,.Name y p] x1 pos) (ED i j):=by
 unhygienic
  refine PG.imp (IZ (n:=2) F (SL (XJ m hi C E) (SL (XJ m D B f) JY))) fun v J H Q o=>?_
  obtain⟨M,l,h,d,U,S,L,R,e,k⟩:=o;unfold ED at e;split at e
  . cases e;obtain⟨a,O,rfl,q,r⟩:=bc.mp R;obtain⟨g,T,rfl,I,r⟩:=r.ab;obtain⟨b,P,rfl,R2,r⟩:=r.ab;cases r.ba;exact⟨a,[g,b],rfl,q.sq,rfl,g,[b],rfl,b,[],rfl,rfl,k _ ((L.set i I).set j R2)⟩
  . cases e
end
def WH(fe fo a:RE):RS:=fun l h=>(fe l h).bind fun v=>(fo l v.2).bind fun o=>(a l o.2).bind fun i=>match o.1,i.1 with
 | .ref n,.int k=>match i.2[n]? with
  | some (.lst xs)=>(gI xs.length k).bind fun j=>ε (.nx l (i.2.set n (.lst (xs.set j v.1))))
  | _=>none
 | _,_=>none
noncomputable def QI(i j k:Nat):RG:=fun d l=>match d with
 | .tup [a,b,c]=>ε (((l.set i (ε a)).set j (ε b)).set k (ε c))
 | _=>none
noncomputable def iH(d:Dt)(k:Int):Oo Dt:=List.replicate k.toNat d
def fJ(fa fb:RE):RE:=fun l h=>(fa l h).bind fun a=>(fb l a.2).bind fun k=>match k.1 with
 | .int i=>if -(2^62)<=i/\i<=1000000 then ε (.lst (iH a.1 i),k.2)else none
 | _=>none
def uK(fa fb:RE):RE:=fun l h=>(fa l h).bind fun a=>(fb l a.2).bind fun k=>match k.1 with
 | .int i=>if -(2^62)<=i/\i<=1000000 then ε (.ref k.2.length,k.2++[.lst (iH a.1 i)])else none
 | _=>none
def kN:Dt->HI->O4 (Dt×HI):=fun d h=>(yA h d).bind fun a=>(gG a).map fun bs=>(.bl (bs.any id),h)
def vQ(fa fb:RE):RI:=fun l h=>(fa l h).bind fun r=>(fb l r.2).bind fun q=>match yA q.2 r.1,yA q.2 q.1 with
 | some _,some _=>ε (.zp r.1 q.1,q.2)
 | _,_=>none
def pG:vD:=X1
def VC:vD:=fun a b h=>match a,b with
 | .tup d,.tup ys=>(IC d).bind fun ns=>(IC ys).bind fun e=>ε (.bl (!decide (ns=e)),h)
 | a,.lst []=>(yA h a).bind fun d=>ε (.bl (!d.isEmpty),h)
 | a,b=>Z1 a b h
noncomputable def YF(t:RT)(body:RS):Nat->RS
 | 0,_,_=>none
 | n+1,l,h=>(t l h).bind fun c=>if c.1=true then(body l c.2).bind fun r=>match r with
  | .nx b a=>YF t body n b a
  | .ct b a=>YF t body n b a
  | .bk b a=>ε (.nx b a)
  | .rt d a=>ε (.rt d a)
  else ε (.nx l c.2)
def pP(n:Nat)(t:RT)(body:RS):RS:=fun l h=>YF t body n l h
noncomputable def DI(fo fa:RE):RE:=fun l h=>(fo l h).bind fun r=>match r.1 with
 | .ref n=>match r.2[n]? with
  | some (.lst _)=>(fa l r.2).bind fun q=>match q.1 with
   | .ref m=>match q.2[n]?,q.2[m]? with
    | some (.lst xs),some (.lst ys)=>if xs.length+ys.length<=sizeLine then ε (.non,q.2.set n (.lst (xs++ys)))else none
    | _,_=>none
   | _=>none
  | _=>none
 | _=>none
noncomputable def tP(fo fa:RE):RE:=fun l h=>(fo l h).bind fun r=>match r.1 with
 | .ref n=>match r.2[n]? with
  | some (.lst _)=>(fa l r.2).bind fun q=>match q.1 with
   | .int 0=>match q.2[n]? with
    | some (.lst (x::xs))=>ε (x,q.2.set n (.lst xs))
    | _=>none
   | _=>none
  | _=>none
 | _=>none
noncomputable def K1(F:Dt->Dt->O4 Dt)(fa fb:RE):RE:=fun l h=>(fa l h).bind fun r=>(fb l r.2).bind fun q=>(F r.1 q.1).map fun d=>(d,q.2)
noncomputable def MM:Dt->Dt->O4 Dt:=fun a b=>match a,b with | .int i,.int j=>ε (.int (if j<i then j else i)) | _,_=>none
noncomputable def xN(f:RE):RE:=fun l h=>(f l h).bind fun r=>match r.1 with | .int i=>ε (.int (Builtin.bitNot i),r.2) | _=>none
end SM
namespace L2
section
variable{X:Cx}
def Bw(bs:Oo Bool):(List.range bs.length).any (fun i=>bs.getD i false)=bs.any id:=by
 induction bs with
 | nil=>rfl
 | cons b bs ih=>
  rw[Ua,Ks,Ku,any_map,Ku];have:((fun i=>(b::bs).getD i false) ∘ Nat.succ)=fun i=>bs.getD i false:=by
   funext i
   simp
  rw[this,ih];simp
def jx (x:X.calm=true):ah X (.builtin "any") (fun d H Q=>∃(p:Pb) (bs:Oo Bool),d=[.ref p]/\mv X.K H p (bs.map V.bl)/\Q (.bl (bs.any id)) H):=by
 intro g s B H d C Q I r h;obtain⟨p,bs,rfl,n,q⟩:=h;obtain⟨u,rfl,j⟩:=qF r;cases j;obtain⟨a,f,pl,F⟩:=I.list n;have b:p<s.heap.objs.size:=by obtain⟨_,e,_⟩:=pl.isList;exact ji e
 refine call_any_walk (wpAny_pyIter_list pl.isList ?_);refine⟨_,_,_,_,_,_,fun i=>bs.getD i false,rfl,Walks.list (A:=X.A.in1) (I.ok.hd x) s.heap.objs.size p (su b) a.toArray,⟨⟨_,ju _ rfl,rfl,rfl⟩,pl.isList.push _⟩,?_,fun J D k=>?_⟩
 . intro i v E Q2 L m y;have e:=OS f i v (by simpa using m);subst e;exact Ga y
 . have o:=f.length;have e:(List.range a.toArray.size).any (fun i=>bs.getD i false)=bs.any id:=by rw[show a.toArray.size=bs.length by simp at o ⊢;omega,Bw]
   rw[e];exact⟨.bl (bs.any id),H,I.kept (old_kept k),rfl,q⟩
end
section
variable{X:Cx}{a:Oo (Pb×Obj)}{d:Oo (O4 V)}{H:Hp}{s:Pa}{h':Te}
def me.iq{fp:Oo Pb}(I:me X a d H s)(k:∀b o,b∉fp->s.heap.get? b=ε o->h'.get? b=ε o)(h:∀b∈fp,gF X a H b)(hp:s.heap.objs.size<=p)
 (new:Zi X.prog X.w (xB H p (.tup xs)) h' p (.tup xs)):me X a d (xB H p (.tup xs)) { s with heap:=h',toks:=t' }:=by
 have f:H p=none:=I.hok.fresh hp;have j:∀b u,H b=ε u->b∉fp:=fun b u q z=>by rw[(h b z).1]at q;cases q
 refine I.step (g':=s.gens) (d':=s.drawn) (ch:=fp) (fun b g=>?_) (fun b o t t e q t=>k b o e q) (fun b o t t e q t=>⟨o.slots,k b o e q⟩)
  (fun b o t q n=>by rw[aB (su (kj (ji q) hp))];exact n)
  (fun b o e q=>⟨o,k b o e q⟩) (fun b x q=>by rw[aB (ZC q f)];exact q) (fun b o u q=>by rw[aB (ZC q f)];exact q)
  (fun b M q=>⟨#[],by rw[aB (ZC q f),q];simp⟩) (fun m B=>?_) (fun b u q=>?_) I.bare
 . obtain⟨O,L,e2,J,F,E⟩:=h b g;exact⟨J,L,F,E⟩
 . obtain⟨o,C,D,y,r⟩:=B;exact⟨o,C,D,k _ o (fun z=>(h _ z).2.1 rfl) y,r⟩
 . by_cases g:b=p
   . subst g;rw[xC]at q;cases q;exact new
   . rw[aB g]at q;refine(I.hok b u q).stay (fun c v e i=>?_) (fun c q=>by rw[aB (ZC q f)];exact q) fun c x q=>by rw[aB (ZC q f)];exact q
     rcases e with z | z
     . subst z;exact k c v (j c u q) i
     . exact k c v (j c _ z) i
def me.ir{fp:Oo Pb}(I:me X a d H s)(k:∀b o,b∉fp->s.heap.get? b=ε o->h'.get? b=ε o)(f:∀b∈fp,gF X a H b):me X a d H { s with heap:=h',toks:=t' }:=by
 have h:∀b u,H b=ε u->b∉fp:=fun b u q z=>by rw[(f b z).1]at q;cases q
 refine I.step (g':=s.gens) (d':=s.drawn) (ch:=fp) (fun b x=>?_) (fun b o t t e q t=>k b o e q) (fun b o t t e q t=>⟨o.slots,k b o e q⟩)
  (fun b o t q n=>n) (fun b o e q=>⟨o,k b o e q⟩) (fun b i q=>q) (fun b o u q=>q)
  (fun b J q=>⟨#[],by rw[q];simp⟩) (fun m p=>?_) (fun b u q=>?_) I.bare
 . obtain⟨L,F,e2,E,D,C⟩:=f b x;exact⟨E,F,D,C⟩
 . obtain⟨o,y,B,j,r⟩:=p;exact⟨o,y,B,k _ o (fun z=>(f _ z).2.1 rfl) j,r⟩
 . refine(I.hok b u q).stay (fun c v e g=>?_) (fun c q=>q) fun c i q=>q
   rcases e with z | z
   . subst z;exact k c v (h c u q) g
   . exact k c v (h c _ z) g
end
def Rp(K:Ra)(a b:Pb):It:=
 ⟨fun i H=>∃e d x y,mv K H a e/\mv K H b d/\e[i]?=ε x/\d[i]?=ε y,
  fun i H v f=>∃p x y,H p=none/\v=.ref p/\(∀e,mv K H a e->e[i]?=ε x)/\(∀d,mv K H b d->d[i]?=ε y)/\f=xB H p (.tup [x,y]),
  fun i H=>∃e d,mv K H a e/\mv K H b d/\(e.length<=i\/d.length<=i)⟩
def uR{h:Te}{z TI TO f i2 k l2 n:Pb}{O:Ou}{x y a b:Ou}{I H:Nat}{xs ys:Ss Ou}(P:z=n+4)(R:TI=n+2)(Q:TO=n+3)(S:f=n)(e2:i2=n+1)(hz:IsZip h z TI TO O)(r:IsPair h TO a b)
 (h1:h.IsListIter f k I) (h2:h.IsListIter i2 l2 H) (p:h.IsList k xs) (m:h.IsList l2 ys):ZipApart z TI TO f i2 k l2:=by
 obtain⟨Y,M,U,_⟩:=h1;obtain⟨W,g2,T,_⟩:=h2;have B:∀{l:Pb}{u:Ss Ou},h.IsList l u->l≠z/\l≠TO/\l≠f/\l≠i2:=by
  intro l u J;obtain⟨o,g,c,_⟩:=J;refine⟨fun e=>?_,fun e=>?_,fun e=>?_,fun e=>?_⟩
  . subst e;rw[hz]at g;cases g;simp at c
  . subst e;rw[r]at g;cases g;simp at c
  . subst e;rw[M]at g;cases g;rw[U]at c;simp at c
  . subst e;rw[g2]at g;cases g;rw[T]at c;simp at c
 obtain⟨q1,q2,q3,q4⟩:=B p;obtain⟨F,E,D,C⟩:=B m;have ne:∀(i j:Nat),i≠j->n+i≠n+j:=fun i j q e=>q (Nat.add_left_cancel e)
 have d:∀(i:Nat),i≠0->n+i≠n:=fun i L e=>L (Nat.add_left_cancel (e:n+i=n+0))
 subst P R Q S e2;exact⟨ne _ _ (by decide),ne _ _ (by decide),(d _ (by decide)).symm,ne _ _ (by decide),ne _ _ (by decide),d _ (by decide),ne _ _ (by decide),d _ (by decide),ne _ _ (by decide),(d _ (by decide)).symm,q1,q2,q3,q4,F,E,D,C⟩
def Nh{P:Ri}{w:Rr}{K:Ra}{T:Oo Pu}{x1}{pos:Pos}(a b n:Pb):aH P w K (.Tuple T x1 pos) (Rp K a b) [n+4,n+2,n+3,n,n+1] (n+4)
 (fun i h=>IsZip h (n+4) (n+2) (n+3) .none/\IsPair h (n+2) (.ref n) (.ref (n+1))/\(∃u v,IsPair h (n+3) u v)/\h.IsListIter n a i/\h.IsListIter (n+1) b i) where
 mem:=by simp
 obj:=fun i h st c f=>by
  obtain⟨B,C,⟨u,v,r⟩,m,j⟩:=st;have z:c=n+4\/c=n+2\/c=n+3\/c=n\/c=n+1:=by simpa using f
  rcases z with z | z | z | z | z<;>subst z
  . exact⟨_,B,fun v z=>by cases z⟩
  . exact⟨_,C,fun v z=>by cases z⟩
  . exact⟨_,r,fun v z=>by cases z⟩
  . obtain⟨o,e,c,d⟩:=m;exact⟨o,e,fun v z=>by rw[d]at z;cases z⟩
  . obtain⟨o,e,c,d⟩:=j;exact⟨o,e,fun v z=>by rw[d]at z;cases z⟩
 keep:=fun i h h' st k=>by obtain⟨B,C,⟨u,v,r⟩,m,j⟩:=st;exact⟨k _ ⋯ _ B,k _ ⋯ _ C,⟨u,v,k _ ⋯ _ r⟩,m.at fun o e=>k _ ⋯ o e,j.at fun o e=>k _ ⋯ o e⟩
 item:=by
  intro X hP hw hK f i M s σ H E I W st hg;subst hP hw hK;obtain⟨B,C,⟨u,v,r⟩,m,j⟩:=st;obtain⟨xs,ys,x,y,U,F,hx,hy⟩:=hg;obtain⟨a2,rv,p,R⟩:=I.list U;obtain⟨Q,J,O,a3⟩:=I.list F;obtain⟨Z,a5,a1⟩:=rv.get hx;obtain⟨Y,a4,a0⟩:=J.get hy;have D:=uR (x:=.none) (y:=.none) rfl rfl rfl rfl rfl B r m j p.isList O.isList;refine wpAny_pyNext_zip_item D B C r m j p.isList O.isList (x:=Z) (y:=Y) (by simpa using a5) (by simpa using a4) fun h' z1 z2 z3 z4 L sz kp=>?_
  refine⟨_,rfl,wpAny_letOwnedTupleGo_zip z1 fun h2 a6 sb=>?_⟩;have S:∀c ∈ [n+4,n+2,n+3,n,n+1],s.heap.objs.size≠c:=fun c f e=>by
   have z:c=n+4\/c=n+2\/c=n+3\/c=n\/c=n+1:=by simpa using f
   have:∃o,s.heap.get? c=ε o:=by
    rcases z with z | z | z | z | z<;>subst z
    . exact⟨_,B⟩
    . exact⟨_,C⟩
    . exact⟨_,r⟩
    . obtain⟨o,g,_⟩:=m;exact⟨_,g⟩
    . obtain⟨o,g,_⟩:=j;exact⟨_,g⟩
   obtain⟨o,g⟩:=this;exact Es (ji g) (by rw[e];exact Fi _)
  have t2:h2.get? s.heap.objs.size=ε { cls:=.type "tuple",data:=.seq #[Z,Y] }:=(sb.2 _ (S _ ⋯)).trans L;have kk:∀c o,c ∉ [n+4,n+2,n+3,n,n+1]->s.heap.get? c=ε o->h2.get? c=ε o:=fun c o f q=>by simp![Bu,not_mem_nil,or_false,not_or]at f;exact(sb.2 c f.1).trans (kp c o f.1 f.2.2.1 f.2.2.2.1 f.2.2.2.2 q)
  have n2:IsPair h2 (n+2) (.ref n) (.ref (n+1)):=(sb.2 _ D.TIz).trans (kp _ _ D.TIz D.TITO D.TIi1 D.TIi2 C);refine⟨.ref s.heap.objs.size,xB H s.heap.objs.size (.tup [x,y]),I.iq kk W (Va _) ⟨by simp![Ua,Vi];rw[Cu];decide,[Z,Y],.cons a1 (.cons a0 .nil),⟨_,t2,rfl,_,rfl⟩⟩,rfl,
   ⟨_,x,y,I.hok.fresh (Va _),rfl,fun zs R=>by rw[I.gv R U];exact hx,fun zs R=>by rw[I.gv R F];exact hy,rfl⟩,
   ⟨a6,n2,⟨_,_,(sb.2 _ D.TOz).trans z2⟩,z3.at fun o q=>(sb.2 _ D.i1z).trans q,z4.at fun o q=>(sb.2 _ D.i2z).trans q⟩,fun c f=>?_⟩
  rw[aB (n7 (S c f))];exact(W c f).1
 done:=by
  intro X hP hw hK f i M s σ H E I W st hg;subst hP hw hK;obtain⟨B,C,⟨u,v,r⟩,m,j⟩:=st;obtain⟨xs,ys,U,F,hx⟩:=hg;obtain⟨a2,rv,p,R⟩:=I.list U;obtain⟨Q,J,O,a3⟩:=I.list F;have hl:=rv.length;have a7:=J.length;have D:=uR (x:=.none) (y:=.none) rfl rfl rfl rfl rfl B r m j p.isList O.isList;refine wpAny_pyNext_zip_end (I.ok.hd f) D B C r m j p.isList O.isList ?_ fun h' eb=>⟨rfl,I.ir (t':=s.toks) (fp:=[n+4,n+2,n+3,n,n+1]) (fun c o f q=>?_) W⟩
  . rcases hx with hx | hx
    . exact .inl (by simp;omega)
    . exact .inr (by simp;omega)
  . simp![Bu,not_mem_nil,or_false,not_or]at f;exact eb c o f.1 f.2.2.1 f.2.2.2.1 f.2.2.2.2 q
 self:=fun t t t t t st h=>wpAny_pyIter_zip st.1 h
section
variable{X:Cx}
def iZp(K:Ra)(i:TA):TI:=fun e H R=>i e H fun h d=>∃a b,h=[.ref a,.ref b]/\(∃g,mv K d a g)/\(∃f,mv K d b f)/\R (Rp K a b) d
def Xn {x1} (Z:Gl X "zip") (Y:X.mg "zip" =none) (ha:PA X [a,b] y) (hs:autoParam (starEach [a,b] X.env=(false,eval a X.env)::starEach [b] X.env) Æ) (hpl:autoParam ((backTo pos (starEach [b] X.env)).any (·.1)=false) Æ) :
 PI X (.Tuple i x1 M) (.Call (.Name "zip" p) [a,b] [] pos) (iZp X.K y):=by
 intro g s o H R I h;refine Call_ (BG I Z Y boot_zip (PyProof.Rows.callWith_type1 (CB (ha pos g s o H _ I h) fun us f D=>?_) hs hpl));obtain⟨vs,C,j,P,q1⟩:=D;obtain⟨c,d,e,⟨xs,W⟩,⟨ys,n⟩,q⟩:=q1;subst e;obtain⟨u,u',rfl,r,Q⟩:=dQ P;cases r;cases Q;obtain⟨S,rv,pl,hz⟩:=j.list W;obtain⟨B,O,m,T⟩:=j.list n;refine call_zip_2 pl.isList m.isList fun h' x L J F E U k=>?_
 have I2:me X g o C { f with heap:=h' }:=j.kept (t':=f.toks) k;refine wpAny_pyIter_zip x ?_;refine⟨f.heap.objs.size+4,[f.heap.objs.size+4,f.heap.objs.size+2,f.heap.objs.size+3,f.heap.objs.size,f.heap.objs.size+1],_,_,C,rfl,I2,Nh c d f.heap.objs.size,⟨x,L,⟨_,_,J⟩,F,E⟩,fun c hc=>?_,q⟩;have z:f.heap.objs.size<=c:=by
  have z:c=f.heap.objs.size+4\/c=f.heap.objs.size+2\/c=f.heap.objs.size+3\/c=f.heap.objs.size\/c=f.heap.objs.size+1:=by simpa using hc
  rcases z with z | z | z | z | z<;>rw[z]<;>first | exact Va _ | exact Ms _ _
 exact j.cy z (j.hok.fresh z)
end
end L2
namespace SM
section
variable{X:Cx}{e o i a b:Pu}{f g fe fo w fa fb:RE}{p pos t:Pos}
def Bl (x:X.calm=true) (u:Gl X "any") (n:X.mg "any" =none) (y:EM X e f) (hs:autoParam (gB e=true) Æ):EM X (.Call (.Name "any" p) [e] [] pos) (GB kN f):=by
 unhygienic
  exact vK (jx x) (fun j h d v E D H Q S R e k=>by
   obtain⟨m,B,e⟩:=sA e;cases q:gG m with
   | none=>rw[q]at e;cases e
   | some ns=>
    rw[q]at e;cases e;obtain⟨a,C,z,sq,r⟩:=yC S R B;rw[SR q]at r;rw[r.hY]at sq;exact⟨a,ns,by rw[z],sq,k j _ H (af.mpr rfl) S (mi.refl _ _)⟩) u n PyProof.Rows.boot_any y (hs:=hs)
theorem ML(he:EM X e fe)(Z:EM X o fo)(hi:EM X i w)
 (hs:autoParam (swapsWithSole [.Subscript o i t] e pos.line X.env=pure false) Æ) (hw:autoParam (swappedStores [.Subscript o i t] e X.env=pure none) Æ) (h1:autoParam ((assignEach [.Subscript o i t] X.env).map (·.2)=[assign (.Subscript o i t) X.env]) Æ)
 (m:∀v,assign (.Subscript o i t) X.env v=(do
  let ov <- holding [v] (eval o X.env)
  let iv <- holding [v,ov] (eval i X.env)
  standAt t
  holding [v,ov,iv] (setItem ov iv v)
  release [v,ov,iv] []):=by intro _;rfl):ZM X (.Assign [.Subscript o i t] e pos) (WH fe fo w):=by
 unhygienic
  exact PS.imp (Yn he (Vn Z hi Dh m) hs hw h1) fun D T H M=>by
   obtain⟨U,l,h,r,S,L,e,k⟩:=M;obtain⟨⟨v,Q⟩,e1,e⟩:=sA e;obtain⟨⟨d,hd⟩,e2,e⟩:=sA e;obtain⟨⟨j,hj⟩,e3,e⟩:=sA e;refine⟨U,l,h,v,Q,S,L,e1,fun J u H1 R1 S1 E=>⟨J,l,Q,d,hd,S1,L.ext E,e2,fun I y H2 R2 S2 C=>⟨I,l,hd,j,hj,S2,L.ext (E.trans C),e3,fun F z H3 R3 R B=>?_⟩⟩⟩;cases d with
   | ref n=>
    cases j with
    | int Y=>
     dsimp only at e;split at e
     . rename_i xs q;obtain⟨P,e4,e⟩:=sA e;cases e;obtain⟨aa,M,m⟩:=al.mp (Uo.ext B _ R2);obtain⟨W,x,g2⟩:=R.lst m q;have O:=m6 m;refine⟨aa,W,Y,P,M,Xu.mp R3,x,by rw[g2.length];exact e4,?_⟩;exact k F T _ (R.write m (HH x) ⟨_,xC,(g2.set P (Uo.ext (C.trans B) _ R1)).ext (mi.write O (HH x))⟩) (L.ext (E.trans (C.trans (B.trans (mi.write O (HH x)))))) (E.trans (C.trans (B.trans (mi.write O (HH x)))))
     . cases e
    | _=>cases e
   | _=>cases e
def Ug(i j m){M J pz pos:Pos}{x1}(Y:X.calm=true)(E:X.N.Nodup)(hi:autoParam (X.N[i]?=ε x) Æ)(U:autoParam (X.N[j]?=ε y) Æ)(T:autoParam (X.N[m]?=ε z) Æ)
 (P:autoParam (DK X.env.scope x) ö) (O:autoParam (DK X.env.scope y) ö) (hz:autoParam (DK X.env.scope z) ö)
 (W:autoParam (X.fn x=true\/X.env.scope.names.lookup x=ε .local) Ø)
 (D:autoParam (X.fn y=true\/X.env.scope.names.lookup y=ε .local) Ø)
 (C:autoParam (X.fn z=true\/X.env.scope.names.lookup z=ε .local) Ø):GM X (.Tuple [.Name x M,.Name y J,.Name z pz] x1 pos) (QI i j m):=by
 unhygienic
  refine PG.imp (IZ (n:=3) Y (SL (XJ E hi P W) (SL (XJ E U O D) (SL (XJ E T hz C) JY)))) fun v σ H Q I=>?_
  obtain⟨ρ,l,h,d,l',S,L,R,e,k⟩:=I;unfold QI at e;split at e
  . cases e;obtain⟨a,vs,rfl,q,r⟩:=bc.mp R;obtain⟨F,r1,rfl,R1,r⟩:=r.ab;obtain⟨B,r2,rfl,R2,r⟩:=r.ab;obtain⟨u,r3,rfl,Z,r⟩:=r.ab;cases r.ba;exact⟨a,[F,B,u],rfl,q.sq,rfl,F,[B,u],rfl,B,[u],rfl,u,[],rfl,rfl,k _ (((L.set i R1).set j R2).set m Z)⟩
  . cases e
theorem uX{d:Type}(v:d):∀k,(List.replicate k [v]).flatten=List.replicate k v
 | 0=>rfl
 | k+1=>by rw[Ls,flatten_cons,uX v k];rfl
theorem KY{K:Ra}(r:Uo K H ρ d v):∀k,Ue K H ρ (List.replicate k d) (List.replicate k v)
 | 0=>.nil
 | k+1=>.cons r (KY r k)
def qX(own)(h:tM X.K (if own=true then uK fa fb else fJ fa fb) M H Q):mU jU (kU (PZ (tM X.K fa) lU)) (tM X.K fb) M H Q:=by
 obtain⟨T,l,h,d,W,S,L,e,k⟩:=h;have Y:∃n r u m i,fa l h=ε (n,r)/\fb l r=ε (u,m)/\u=.int i/\(-(2^62)<=i/\i<=1000000)/\(if own=true then(Dt.ref m.length,m++[.lst (iH n i)])else(Dt.lst (iH n i),m))=(d,W):=by
  cases own with
  | true=>
   rw[eG rfl]at e;obtain⟨⟨n,r⟩,C,e⟩:=sA e;obtain⟨⟨u,m⟩,e2,e⟩:=sA e;cases u with
   | int i=>obtain⟨c,e⟩:=RF e;exact⟨n,r,_,m,i,C,e2,rfl,c,e⟩
   | _=>cases e
  | false=>
   rw[eH Xe]at e;obtain⟨⟨n,r⟩,C,e⟩:=sA e;obtain⟨⟨u,m⟩,e2,e⟩:=sA e;cases u with
   | int i=>obtain⟨c,e⟩:=RF e;exact⟨n,r,_,m,i,C,e2,rfl,c,e⟩
   | _=>cases e
 obtain⟨n,r,u,m,i,C,e2,rfl,c,D⟩:=Y;refine⟨T,l,h,n,r,S,L,C,fun F v H1 Z O R=>⟨by simp![Ua,Vi];rw[Cu];decide,fun q B=>?_⟩⟩;refine⟨F,l,r,.int i,m,O.fresh B,L.ext (R.trans (mi.fresh B)),e2,fun x y H2 R2 E J=>?_⟩;have U:=J.keep q _ xC (O.out B).1;have hi:i.toNat<=1000000:=by omega
 refine⟨q,i,[v],rfl,Xu.mp R2,U,by omega,by omega,by simp![Ua,Vi];rw[Cu];omega,fun q2 j=>?_⟩;rw[uX];have I:Ue X.K H2 x (iH n i) (List.replicate i.toNat v):=KY (Uo.ext ((mi.fresh B).trans J) _ Z) _;have P:=R.trans ((mi.fresh B).trans J);cases own with
 | true=>rw[eG rfl]at D;cases D;exact k _ _ _ (UH E I j).1 (UH E I j).2 (P.trans (mi.own j))
 | false=>rw[eH Xe]at D;cases D;exact k x _ _ (iK E I j) (E.fresh j) (P.trans (mi.fresh j))
def tZ(j:EM X a fa)(d:EM X b fb)(hs:autoParam (gB a=true) Æ):EM X (.BinOp (.List [a] p) .Mult b pos) (fJ fa fb):=by unhygienic exact PE.imp (yT EZ (BP (BC j DD (pB hs _ _))) d) fun k H Q h=>qX (fa:=fa) (fb:=fb) false h
def SX(j:EM X a fa)(d:EM X b fb)(hs:autoParam (gB a=true) Æ):EM X (.BinOp (.List [a] p) .Mult b pos) (uK fa fb):=by unhygienic exact PE.imp (yT EZ (BP (BC j DD (pB hs _ _))) d) fun k H Q h=>qX (fa:=fa) (fb:=fb) true h
set_option tactic.hygienic true in
theorem vp {x1} (hg:Gl X "zip") (hm:X.mg "zip" =none) (ha:EM X a fa) (hb:EM X b fb) (hs:autoParam (gB a=true) Æ) (F:autoParam (gB b=true) Æ):IM X (.Tuple I x1 tp) (.Call (.Name "zip" p) [a,b] [] pos) (vQ fa fb):=by
 unhygienic
  refine PI.imp (Xn hg hm (BC ha (BC hb DD (pB F _ _)) (pB hs _ _)) (pB hs _ _) (wI (by rw[La,F];rfl))) fun σ H R zz=>?_
  obtain⟨ρ,l,h,s,h',S,L,e,k⟩:=zz;obtain⟨⟨d1,h1⟩,e1,e⟩:=sA e;obtain⟨⟨d2,h2⟩,e2,e⟩:=sA e;refine⟨ρ,l,h,d1,h1,S,L,e1,fun W v H1 R1 S1 E1=>⟨W,l,h1,d2,h2,S1,L.ext E1,e2,fun U u H2 R2 S2 E2=>?_⟩⟩;dsimp only at e;split at e
  . rename_i xs ys q1 q2;cases e;have J:=Uo.ext E2 _ R1;obtain⟨c,vs,Z,t1,_⟩:=yC S2 J q1;obtain⟨d,ws,Y,t2,_⟩:=yC S2 R2 q2;refine⟨c,d,by rw[Z,Y],⟨vs,t1⟩,⟨ws,t2⟩,k U _ H2 (fun H3 a1 h3 E3 q n=>?_) S2 (E1.trans E2)⟩;have x:=Uo.same E3 _ J;have r:=Uo.same E3 _ R2;simp![mo.at];split
    . trivial
    . rename_i y;split at y
      . rename_i E D w1 w2;obtain⟨c2,m,C,O,r3⟩:=yC q x w1;obtain⟨d2,j,B,M,r4⟩:=yC q r w2;rw[Z]at C;rw[Y]at B;cases C;cases B;refine⟨m,j,O,M,?_⟩;have y:=uo y;rw[r3.length,r4.length];split at y
        . cases y
        . rename_i a0;by_cases T:E.length<=n
          . exact .inl T
          . by_cases g2:D.length<=n
            . exact .inr g2
            . exact Es (jo (Nat.lt_of_not_le g2)) (a0 _ _ (jo (Nat.lt_of_not_le T)))
      . cases y
    . rename_i dd y;split at y
      . rename_i E D w1 w2;obtain⟨c2,m,C,O,r3⟩:=yC q x w1;obtain⟨d2,j,B,M,r4⟩:=yC q r w2;rw[Z]at C;rw[Y]at B;cases C;cases B;have y:=uo y;split at y
        . rename_i x' y' T g2;cases y;obtain⟨vx,m1,n1⟩:=r3.get T;obtain⟨vy,m2,n2⟩:=r4.get g2;refine⟨⟨m,j,vx,vy,O,M,m1,m2⟩,fun u H4 y=>?_⟩;obtain⟨p0,x0,y0,hp,rfl,Q,P,rfl⟩:=y;have Q:=Q m O;have P:=P j M;rw[m1]at Q;rw[m2]at P;cases Q;cases P;exact⟨JI q (.cons n1 (.cons n2 .nil)) hp,mi.fresh hp,q.fresh hp⟩
        . cases y
      . cases y
  . cases e
end
section
variable{X:Cx}{c:Oo (Pb×Obj)}{f:L2.St}{H:Hp}{s:Pa}{ρ:Rg}
def zP(_:X.A.units+64<cLine):OM X (compareOp .Eq) pG:=P0
def lK(hu:X.A.units+64<cLine):OM X (compareOp .NotEq) VC:=by
 unhygienic
  intro c s f H x y v u Q I F E h;obtain⟨ρ,h,Z,Y,d,W,S,M,R2,e,k⟩:=h;unfold VC at e;split at e
  . obtain⟨ns,q1,e⟩:=sA e;obtain⟨U,q2,e⟩:=sA e;cases e;obtain⟨a,T,z,t,B⟩:=bc.mp M;obtain⟨b,R,C,D,m⟩:=bc.mp R2;rw[WF q1]at B;rw[WF q2]at m;subst z C;cases WR B;cases WR m;cases F;cases E;obtain⟨o,r,p,_⟩:=I.tuple t.sq;obtain⟨n,i,g,_⟩:=I.tuple D.sq;refine Pz (e:=fun j=>decide (ns[j]?=U[j]?)) (oO p) (oO g) nofun (fun j P L=>iW r i j P L) ?_;refine⟨.bl _,H,I,rfl,k ρ _ H (af.mpr (congrArg V.bl ?_)) S (mi.refl _ _)⟩;rw[cu,cu,<- r.length,<- i.length,ni,ni,Dy]
  . obtain⟨O,q,e⟩:=sA e;cases e;obtain⟨a,T,z,t,B⟩:=yC S M q;obtain⟨b,R,C,D,m⟩:=cn.mp R2;subst z C;cases m.ba;cases F;cases E;obtain⟨o,r,p,_⟩:=I.list t;obtain⟨n,i,g,_⟩:=I.list D.sq;cases i;have J:o.length=O.length:=by rw[<- r.length,B.length]
    cases O with
    | nil=>refine yX (e:=fun l=>true) p.isList g.isList J nofun (fun j P L=>Es L ⋯) ?_;refine⟨.bl _,H,I,rfl,k ρ _ H (af.mpr (congrArg V.bl ?_)) S (mi.refl _ _)⟩;rw[cu,J];rfl
    | cons _ _=>exact Aj p.isList g.isList (by rw[cu,J];rfl) nofun ⟨.bl _,H,I,rfl,k ρ _ H (af.mpr rfl) S (mi.refl _ _)⟩
  . exact W0 c s f H x y v u Q I F E ⟨ρ,h,Z,Y,d,W,S,M,R2,e,k⟩
end
section
variable{X:Cx}{e o i a b:Pu}{f g fe fo fi fa fb:RE}{p pos pos' w s:Pos}
set_option tactic.hygienic true in
theorem wO (ho:EM X a fa) (hb:EM X b fb) (q:autoParam (attributeBase a "extend" X.env (eval a X.env)=eval a X.env) Æ)
 (j:autoParam ((w.endLine==s.line)=true) Æ) (hs:autoParam (gB b=true) Æ) :
 EM X (.Call (.Attribute a "extend" w) [b] [] s) (DI fa fb):=by
 unhygienic
  exact PE.imp (xT PySem.F.plainAttrs_list PySem.F.slot_list_extend PySem.F.type_list_extend Nz ho (BC hb DD (pB hs _ _)) q (LR hs) j (pB hs _ _)) fun σ H Q W=>by
   obtain⟨U,l,h,d,h',S,L,e,k⟩:=W;obtain⟨⟨M,F⟩,e1,e⟩:=sA e;refine⟨U,l,h,M,F,S,L,e1,fun C v H1 P O T=>?_⟩;cases M with
   | ref n=>
    dsimp only at e;split at e
    . rename_i Z q0;obtain⟨⟨J,h2⟩,e2,e⟩:=sA e;refine⟨JS O P q0,C,l,F,J,h2,O,L.ext T,e2,fun B y H2 R2 D R=>?_⟩;dsimp only at e;cases J with
      | ref m=>
       dsimp only at e;split at e
       . rename_i xs ys q1 q2;obtain⟨hz,e⟩:=RF e;cases e;obtain⟨a,z,ha⟩:=al.mp P;subst z;obtain⟨a2,Y,u⟩:=al.mp R2;subst Y;have r:=R.get ha;obtain⟨vs,x,g2⟩:=D.lst r q1;obtain⟨ws,g3,I⟩:=D.lst u q2;have E:=m6 r;refine⟨a,a2,vs,ws,rfl,rfl,x,g3,by rw[g2.length,I.length];exact hz,k B _ _ (bt.mpr rfl) (D.write r (HH x) ⟨_,xC,?_⟩) (T.trans (R.trans (mi.write E (HH x))))⟩;exact(g2.append I).ext (mi.write E (HH x))
       . cases e
      | _=>cases e
    . cases e
   | _=>cases e
set_option tactic.hygienic true in
theorem Og (ho:EM X a fa) (hb:EM X b fb) (m:autoParam (attributeBase a "pop" X.env (eval a X.env)=eval a X.env) Æ)
 (j:autoParam ((w.endLine==s.line)=true) Æ) (hs:autoParam (gB b=true) Æ) :
 EM X (.Call (.Attribute a "pop" w) [b] [] s) (tP fa fb):=by
 unhygienic
  exact PE.imp (xT PySem.F.plainAttrs_list PySem.F.slot_list_pop PySem.F.type_list_pop Wy ho (BC hb DD (pB hs _ _)) m (LR hs) j (pB hs _ _)) fun σ H Q T=>by
   obtain⟨R,l,h,d,h',S,L,e,k⟩:=T;obtain⟨⟨I,F⟩,e1,e⟩:=sA e;refine⟨R,l,h,I,F,S,L,e1,fun B v H1 M J P=>?_⟩;cases I with
   | ref n=>
    dsimp only at e;split at e
    . rename_i U q0;obtain⟨⟨d2,h2⟩,e2,e⟩:=sA e;refine⟨JS J M q0,B,l,F,d2,h2,J,L.ext P,e2,fun u y H2 R2 D O=>?_⟩;dsimp only at e;split at e
      . rename_i z0;split at e
        . rename_i x xs q1;cases e;obtain⟨a,z,ha⟩:=al.mp M;subst z;have q:=O.get ha;obtain⟨vs,r,g2⟩:=D.lst q q1;have C:=m6 q;obtain⟨E,W,rfl,Z,Y⟩:=g2.ab;have a0:=D.len;refine⟨a,E::W,0,0,E,rfl,by rw[Xu.mp R2],r,by decide,by decide,?_,rfl,k u _ _ (Uo.ext (mi.write C (HH r)) _ Z) (D.write q (HH r) ⟨_,xC,?_⟩) (P.trans (O.trans (mi.write C (HH r))))⟩
          . rw[seqIndex_of (by decide) (by simp![Ua];omega)];rfl
          . exact Y.ext (mi.write C (HH r))
        . cases e
      . cases e
    . cases e
   | _=>cases e
def Dl(r:EM X a fa):EM X (.UnaryOp .Invert a pos) (xN fa):=by
 unhygienic
  exact PE.imp (X0 D6 r) fun F H Q q=>by
   obtain⟨n,l,h,d,I,S,L,e,k⟩:=q;obtain⟨⟨m,u⟩,y,e⟩:=sA e;refine⟨n,l,h,m,u,S,L,y,fun j x D C B E=>?_⟩;cases m with
   | int i=>cases e;exact⟨i,Xu.mp C,k j _ D (Xu.mpr rfl) B E⟩
   | _=>cases e
def zY(hp:PassesOwn (model X.prog X.w) X.A X.env X.xe)(hc:TM X c t)(hb:aI X body u):ZM X (.While c body [] pos) (pP n t u):=by
 unhygienic
  exact PS.imp (zy hp hc hb) fun D σ H zz=>by
   obtain⟨Z,l,h,r,S,L,e,k⟩:=zz;refine⟨fun m C Y=>∃d y E,Vs X.K d E Y/\Ze X.K Y d y C/\mi Z d H Y/\YF t u m y E=ε r,⟨n,Z,l,h,S,L,mi.refl _ _,e⟩,?_⟩;rintro m C Y ⟨d,y,E,S',L',T,x⟩;cases m with
   | zero=>simp![YF]at x;cases x
   | succ m=>
    simp![YF]at x;obtain⟨⟨b,h1⟩,e1,x⟩:=sA x;refine⟨d,y,E,b,h1,S',L',e1,fun O H2 S2 J=>?_⟩;cases b with
    | true=>
     rw[eG rfl]at x;obtain⟨r1,e2,x⟩:=sA x;refine FH ⟨fun M W=>∃m',m'<m+1/\∃d y E,Vs X.K d E W/\Ze X.K W d y M/\mi Z d H W/\YF t u m' y E=ε r,fun M W q=>q,O,y,h1,r1,S2,L'.ext J,e2,?_⟩;cases r1 with
     | nx U P=>exact fun j B R F Q I=>⟨m,zu _,j,U,P,F,Q,T.trans (J.trans I),x⟩
     | ct U P=>exact fun j B R F Q I=>⟨m,zu _,j,U,P,F,Q,T.trans (J.trans I),x⟩
     | bk U P=>cases x;exact fun j B R F Q I=>k j B R F Q (T.trans (J.trans I))
     | rt d2 P=>cases x;exact fun j v5 R R5 F I=>k j v5 R R5 F (T.trans (J.trans I))
    | false=>rw[eH Xe]at x;cases x;exact EH (k O C H2 S2 (L'.ext J) (T.trans J))
def Hf (I:X.calm=true) (F:Gl X "min") (E:X.mg "min" =none) (M:EM X a fa) (J:EM X b fb) (hs:autoParam (gB a=true) Æ) (m:autoParam (gB b=true) Æ):EM X (.Call (.Name "min" p) [a,b] [] pos) (K1 MM fa fb):=by
 unhygienic
  exact PE.imp (RL (Ax I) F E PyProof.Rows.boot_min (BC M (BC J DD (pB m _ _)) (pB hs _ _)) (he:=pB hs _ _) (hpl:=wI (by rw[La,m];rfl))) fun Z H Q D=>by
   obtain⟨C,l,h,d,h',S,L,e,k⟩:=D;obtain⟨⟨y,r⟩,P,e⟩:=sA e;obtain⟨⟨x,O⟩,e2,e⟩:=sA e;refine⟨C,l,h,y,r,S,L,P,fun q v H1 U T B=>⟨q,l,r,x,O,T,L.ext B,e2,fun n u W R2 R Y=>?_⟩⟩;cases y with
   | int i=>
    cases x with
    | int j=>cases e;exact⟨i,j,by rw[Xu.mp U,Xu.mp R2],k n _ W (Xu.mpr rfl) R (B.trans Y)⟩
    | _=>cases e
   | _=>cases e
end
end SM
namespace L2
section
variable{X:Cx}
end
end L2
namespace SM
section
variable{X:Cx}{e o i a b:Pu}{f g fe fo fi fa fb:RE}{p pos pos' apos cpos:Pos}
end
end SM
namespace L2
section
variable{c:Type}[DecidableEq c]
noncomputable def ME(kvs:Oo (c×V))(k:c):O4 V:=(kvs.find? fun a=>decide (a.1=k)).map (·.2)
noncomputable def uF(kvs:Oo (c×V))(k:c)(v:V):Oo (c×V):=
 if(kvs.any fun a=>decide (a.1=k))=true then kvs.map (fun a=>if a.1=k then(a.1,v)else a)else kvs++[(k,v)]
noncomputable def A0(kvs:Oo (c×V))(k:c):Oo (c×V):=kvs.filter fun a=>decide (a.1≠k)
def JO{p:c×V}(e:p.1=k):ME (p::r) k=ε p.2:=by simp[ME,Ji,e]
def GO{p:c×V}(e:¬p.1=k):ME (p::r) k=ME r k:=by simp[ME,Ji,e]
theorem xY(k:c):∀a,(a.any fun b=>decide (b.1=k))=(ME a k).isSome
 | []=>rfl
 | p::r=>by
  rw[Ku];by_cases e:p.1=k
  . simp![JO e,je e,Bool.true_or,Option.isSome_some]
  . rw[GO e,iu e,Bool.false_or];exact xY k r
def LV(kvs:Oo (c×V))(k)(v):(uF kvs k v).length<=kvs.length+1:=by
 unfold uF;split
 . rw[ni];omega
 . rw[jj,Ua,Vi];omega
def ax.hZ(r:ax o u):o.isSome=u.isSome:=by
 cases o with
 | none=>cases u with
  | none=>rfl
  | some _=>exact(show False from r).elim
 | some _=>cases u with
  | none=>exact(show False from r).elim
  | some _=>rfl
def ax.getD(r:ax o u)(a:ml d d'):ml (o.getD d) (u.getD d'):=by
 cases o with
 | none=>cases u with
  | none=>exact a
  | some _=>exact(show False from r).elim
 | some _=>cases u with
  | none=>exact(show False from r).elim
  | some _=>exact r
def KV.val{kvs:Oo (c×V)}(r:KV kvs vs)(k):ax (ME kvs k) (valueAt vs k):=by
 unfold KV at r
 induction r with
 | nil=>exact Ke
 | @cons p q g qs h t ih=>
  obtain⟨d,f⟩:=h;by_cases e:p.1=k
  . have a:q.1=k:=d.symm.trans e;have b:valueAt (q::qs) k=ε q.2:=by simp[valueAt,Ji,a]
    rw[JO e,b];exact f
  . have a:¬q.1=k:=fun z=>e (d.trans z)
    have b:valueAt (q::qs) k=valueAt qs k:=by simp[valueAt,Ji,a]
    rw[GO e,b];exact ih
def KV.any{kvs:Oo (c×V)}(r:KV kvs vs)(k):(kvs.any fun a=>decide (a.1=k))=vs.any fun a=>decide (a.1=k):=by
 unfold KV at r
 induction r with
 | nil=>rfl
 | cons h t ih=>rw[Ku,Ku,ih,h.1]
def KV.repl{kvs:Oo (c×V)}(r:KV kvs vs)(k)(d:ml y u) :
 KV (kvs.map fun a=>if a.1=k then(a.1,y)else a) (vs.map fun a=>if a.1=k then(a.1,u)else a):=by
 unfold KV at r ⊢
 induction r with
 | nil=>exact .nil
 | @cons p q g qs h t ih=>
  rw[Uu,Uu];refine .cons ?_ ih;obtain⟨b,f⟩:=h;by_cases e:p.1=k
  . rw[eG e,eG (b.symm.trans e)];exact⟨b,d⟩
  . rw[eH e,eH (fun z=>e (b.trans z))];exact⟨b,f⟩
def KV.put{kvs:Oo (c×V)}(r:KV kvs vs)(k)(a:ml y u):KV (uF kvs k y) (stored vs k u):=by
 unfold uF stored;rw[r.any k];by_cases e:(vs.any fun b=>decide (b.1=k))=true
 . rw[eG e,eG e];exact r.repl k a
 . rw[eH e,eH e];exact Paired.snoc r ⟨rfl,a⟩
def KV.drop{kvs:Oo (c×V)}(r:KV kvs vs)(k):KV (A0 kvs k) (without vs k):=by
 unfold KV at r ⊢;unfold A0 without
 induction r with
 | nil=>exact .nil
 | @cons p q i qs h t ih=>
  obtain⟨d,f⟩:=h;rw[filter_cons,filter_cons];by_cases e:p.1=k
  . have a:¬decide (p.1≠k)=true:=by simp[e]
    have b:¬decide (q.1≠k)=true:=by simp[d.symm.trans e]
    rw[eH a,eH b];exact ih
  . have g:¬q.1=k:=fun z=>e (d.trans z)
    have a:decide (p.1≠k)=true:=by simp[e]
    have b:decide (q.1≠k)=true:=by simp[g]
    rw[eG a,eG b];exact .cons ⟨d,f⟩ ih
def KV.keys{vs:Oo (c×Ou)}(r:KV kvs vs):kvs.map (·.1)=vs.map (·.1):=by
 unfold KV at r
 induction r with
 | nil=>rfl
 | cons h t ih=>rw[Uu,Uu,ih,h.1]
def KV.length{vs:Oo (c×Ou)}(r:KV kvs vs):kvs.length=vs.length:=Paired.length r
end
def PM(r:ml (kV k) u):(gE P w).is k u=true:=by
 cases k with
 | inl i=>obtain⟨t,e⟩:=(show ∃t,u=Value.int i t from r);subst e;exact Oj P w i t
 | inr x=>obtain⟨t,e⟩:=(show ∃t,u=Value.str x t from r);subst e;exact Pj P w x t
theorem jW:∀{a:Oo dC}{us:Oo Ou},mf (a.map kV) us->ItemsAre (gE P w) a us
 | [],_,r=>by rw[Xi]at r;cases r;exact .nil
 | k::a,_,r=>by
  rw[Uu]at r;cases r with
  | cons h t=>exact .cons (PM h) (jW t)
abbrev KT(H:Hp):Oo (Oo dC×V)->Oo (Oo dC×Pb×Ou)->Prop:=Paired fun p q=>p.1=q.1/\H q.2.1=ε (.tup (p.1.map kV))/\ml p.2 q.2.2
def KT.val(r:KT H kvs xs)(k):ax (ME kvs k) ((atKey xs k).map (·.2)):=by
 induction r with
 | nil=>exact Ke
 | @cons p q g qs h t ih=>
  obtain⟨d,_,f⟩:=h;by_cases e:p.1=k
  . have a:q.1=k:=d.symm.trans e;have b:atKey (q::qs) k=ε q.2:=by simp[atKey,Ji,a]
    rw[JO e,b];exact f
  . have a:¬q.1=k:=fun z=>e (d.trans z)
    have b:atKey (q::qs) k=atKey qs k:=by simp[atKey,Ji,a]
    rw[GO e,b];exact ih
def KT.repl(r:KT H kvs xs)(k)(f:ml y u) :
 KT H (kvs.map fun b=>if b.1=k then(b.1,y)else b) (xs.map (putAt k u)):=by
 induction r with
 | nil=>exact .nil
 | @cons p q i qs h t ih=>
  rw[Uu,Uu];refine .cons ?_ ih;obtain⟨a,d,g⟩:=h;unfold putAt;by_cases e:p.1=k
  . rw[eG e,eG (a.symm.trans e)];exact⟨a,d,f⟩
  . rw[eH e,eH (fun z=>e (a.trans z))];exact⟨a,d,g⟩
def KT.put(r:KT H kvs xs)(k)(f:H b=ε (.tup (k.map kV)))(a:ml y u) :
 KT H (uF kvs k y) (storedH xs k b u):=by
 have e:(kvs.any fun d=>decide (d.1=k))=(atKey xs k).isSome:=by rw[xY,(r.val k).hZ,Option.isSome_map]
 unfold uF storedH;rw[e];by_cases q:(atKey xs k).isSome=true
 . rw[eG q,eG q];exact r.repl k a
 . rw[eH q,eH q];exact Paired.snoc r ⟨rfl,f,a⟩
def KT.keeps(r:KT H kvs xs)(e:∀b a,H b=ε (.tup a)->d b=ε (.tup a)):KT d kvs xs:=
 Paired.gz r fun q q z=>⟨z.1,e _ _ z.2.1,z.2.2⟩
section
variable{P:Ri}{w:Rr}{H:Hp}{h:Te}{a:Pb}
def OZ(ok:nh P w H h)(e:Rd H a u):Zi P w H h a u:=e.ok ok
def sK(ok:nh P w H h)(e:Rd H a (.dK kvs)):kvs.length<=sizeLine/\(a==sysModules)=false/\∃vs,KV kvs vs/\h.DictOf (gE P w) a vs:=
 show Zi P w H h a (.dK kvs)from OZ ok e
def T6(ok:nh P w H h)(e:H a=ε (.dK kvs)):kvs.length<=sizeLine/\(a==sysModules)=false/\∃vs,KV kvs vs/\h.DictOf (gE P w) a vs:=sK ok (.inl e)
def wM(ok:nh P w H h)(e:H a=ε (.tup (b.map kV))):(tupleKind (gE P w)).is h b a:=by obtain⟨_,d,r,o,i,g,n,f⟩:=(show Zi P w H h a (.tup (b.map kV))from ok a _ e);exact⟨o,d.toArray,n,i,g,f,by simpa using jW r⟩
def tK(ok:nh P w H h)(e:Rd H a (.dT kvs)):kvs.length<=sizeLine/\(a==sysModules)=false/\
 ∃xs,KT H kvs xs/\h.DictOfH (tupleKind (gE P w)) a xs:=by
 obtain⟨z,y,xs,r,o,k,n,j,i,g,f,d⟩:=(show Zi P w H h a (.dT kvs)from OZ ok e);refine⟨z,y,xs,r,o,k,n,j,i,g,f,fun x hx=>?_,d⟩;have all:∀{l:Oo (Oo dC×V)}{m:Oo (Oo dC×Pb×Ou)},KT H l m->∀x∈m,(tupleKind (gE P w)).is h x.1 x.2.1:=by
  intro l m q
  induction q with
  | nil=>intro x hx;exact nomatch hx
  | @cons p q u qs b t ih=>
   intro x hx;rcases Bu.mp hx with e | hx
   . subst e;exact wM ok (by rw[<- b.1];exact b.2.1)
   . exact ih x hx
 exact all r x hx
def V6(ok:nh P w H h)(e:H a=ε (.dT kvs)):kvs.length<=sizeLine/\(a==sysModules)=false/\
 ∃xs,KT H kvs xs/\h.DictOfH (tupleKind (gE P w)) a xs:=tK ok (.inl e)
end
def br(H:Hp)(a:Pb)(y:V)(r:O4 V):Prop:=
 (∃d k,Rd H a (.dK d)/\y=kV k/\r=ME d k)\/∃d k b,Rd H a (.dT d)/\y=.ref b/\H b=ε (.tup (k.map kV))/\r=ME d k
def gd(H:Hp)(a:Pb)(y v:V)(e:Hp):Prop:=
 (∃d k,H a=ε (.dK d)/\y=kV k/\d.length<sizeLine/\e=xB H a (.dK (uF d k v)))\/
 ∃d k b,H a=ε (.dT d)/\y=.ref b/\H b=ε (.tup (k.map kV))/\d.length<sizeLine/\e=xB H a (.dT (uF d k v))
def br.t(e:H a=ε (.dT kvs))(d:H b=ε (.tup (k.map kV))):br H a (.ref b) (ME kvs k):=.inr ⟨kvs,k,b,.inl e,rfl,d,rfl⟩
def gd.t(e:H a=ε (.dT kvs))(f:H b=ε (.tup (k.map kV)))(d:kvs.length<sizeLine) :
 gd H a (.ref b) v (xB H a (.dT (uF kvs k v))):=.inr ⟨kvs,k,b,e,rfl,f,d,rfl⟩
section
variable{X:Cx}{d:Oo (Pb×Obj)}{f:St}{H:Hp}{s:Pa}{a:Pb}{y v:V}{u r:Ou}{o:O4 V}{A:Ru}{E:Ou->Pa->Prop}
def me.big(I:me X d f H s):sysModules<s.heap.objs.size:=by have h:mainGlobals<s.heap.objs.size:=(I.mod.glob.keeps I.bk).lt;exact Nat.lt_trans (by decide) h
def Vv(L:A.units+1<cLine)(I:me X d f H s)(g:br H a y (ε v))(D:ml y u)(h:∀m C,me X d f H C->ml v m->Q m C) :
 wpAny (model X.prog X.w) A (getItem (.ref a) u) Q E s:=by
 rcases g with⟨n,k,e,x,l⟩ | ⟨n,k,b,e,x,M,l⟩
 . subst x;obtain⟨z,hd,J,j,B⟩:=sK I.hok e;obtain⟨m,hw,i⟩:=ax.some_of (v:=v) (o:=valueAt J k) (by rw[l];exact j.val k);exact wpAny_getItem_of (PM D) B.mapOf hw (h m _ (I.tok _) i)
 . subst x;cases (show u=Value.ref b from D);obtain⟨z,hd,F,j,B⟩:=tK I.hok e;obtain⟨m,hw,i⟩:=ax.some_of (v:=v) (o:=(atKey F k).map (·.2)) (by rw[l];exact j.val k);obtain⟨p,hp,q⟩:=Gi.mp hw;refine wpAny_getItem_heap (tupleKind_room_in1 L) (wM I.hok M) B hp ?_;rw[q];exact h m _ (I.tok _) i
def B3(B:A.units+1<cLine)(I:me X d f H s)(g:br H a y o)(x:ml y u)(h:∀p,me X d f H p->Q (.bool o.isSome) p) :
 wpAny (model X.prog X.w) A (compareOp .In u (.ref a)) Q E s:=by
 rcases g with⟨j,k,e,m,l⟩ | ⟨j,k,b,e,m,C,l⟩
 . subst m;obtain⟨z,hd,F,i,n⟩:=sK I.hok e;refine wpAny_in_of (PM x) hd n.mapOf ?_;rw[<- (i.val k).hZ,<- l];exact h _ (I.tok _)
 . subst m;cases (show u=Value.ref b from x);obtain⟨z,hd,D,i,n⟩:=tK I.hok e;refine wpAny_in_heap (tupleKind_room_in1 B) (wM I.hok C) hd n ?_;have q:=(i.val k).hZ;rw[Option.isSome_map]at q;rw[<- q,<- l];exact h _ (I.tok _)
def aS(I:me X d f H s)(g:WT (H a))(hs:Heap.SameBut a s.heap h')(he:∃q,h'.get? a=ε q)(new:Zi X.prog X.w (xB H a ob) h' a ob) :
 me X d f (xB H a ob) { s with heap:=h',toks:=t' }:=
 I.write (x:=a) (e:=a) g (.inl rfl) (fun b q h z=>(hs.2 b h).trans z) he new
def Xf(z:kvs.length<=sizeLine)(hd:(a==sysModules)=false)(b:KV kvs vs)(e:h'.DictOf (gE P w) a vs) :
 Zi P w g h' a (.dK kvs):=⟨z,hd,vs,b,e⟩
def Wv(U:A.units+1<cLine)(I:me X d f H s)(g:gd H a y v R)(J:ml y u)(L:ml v r)(h:∀F,me X d f R F->Q () F) :
 wpAny (model X.prog X.w) A (setItem (.ref a) u r) Q E s:=by
 rcases g with⟨j,k,e,B,l,C⟩ | ⟨j,k,b,e,B,P,l,C⟩
 . subst B C;obtain⟨z,hd,T,i,D⟩:=T6 I.hok e;have p:T.length<=sizeLine:=by rw[<- i.length];exact z
   have x:(uF j k v).length<=sizeLine:=by have:=LV j k v;omega
   refine wpAny_setItem_pairs (hsz:=p) (PM J) D fun M m hs=>h _ ?_
   have W:∃q,M.get? a=ε q:=let ⟨q,_,_,n,_⟩:=m;⟨q,n⟩
   exact aS I (by rw[e];exact Ke) hs W (Xf x hd (i.put k L) m)
 . subst B C;cases (show u=Value.ref b from J);obtain⟨z,hd,S,i,D⟩:=V6 I.hok e;have p:S.length<=sizeLine:=by rw[<- Paired.length i];exact z
   have x:(uF j k v).length<=sizeLine:=by have:=LV j k v;omega
   refine wpAny_setItem_heap (hsz:=p) (tupleKind_room_in1 U) (wM I.hok P) D fun M m hs=>h _ ?_
   obtain⟨q,es,ep,n,h2,h3,Z,_,Y⟩:=m;refine aS I (by rw[e];exact Ke) hs ⟨q,n⟩ ⟨x,hd,_,(i.put k P L).keeps fun c ys O=>?_,q,es,ep,n,h2,h3,Z,Y⟩;rw[aB (ZS O e (fun z=>nomatch z))];exact O
end
section
variable{X:Cx}{pins:Oo (Pb×Obj)}{σ:St}{H:Hp}{s:Pa}{a:Pb}{kvs:Oo (dC×V)}{k:dC}{u:Ou}{A:Ru}{E:Ou->Pa->Prop}
end
def mQ(i:Pu):Prop:=∀a b,subscripted i false a b=operate [a,b] (getItem a b)
def Td
 (p:typeLookup (.type T) "__getitem__" =pure (ε (.builtin n))) (hs:mQ a)
 (h:wpAny (model prog w) A (eval b env) (fun o f=>wpAny (model prog w) A (eval a env) (fun i s₂=>s₂.TypeIs o T/\wpAny (model prog w) A (getItem o i) Q E s₂) E f) E s) :
 wpAny (model prog w) A (eval (.Subscript b a pos) env) Q E s:=by
 refine Subscript_ (Ii h (fun o f k=>Ii k (fun i s₂ d=>?_) fun q q x=>x) fun q q x=>x);obtain⟨m,d⟩:=d;unfold subscriptTail;refine ao ?_;rw[getitemInPython_of_ne m.not_modules];refine ao (wpAny_specialOf m p ?_);have g:wpAny (model prog w) A (subscripted a false o i) (fun r e=>wpAny (model prog w) A (letTemporaryGo b o r >>=fun q=>pure r) Q E e) E s₂:=by rw[hs o i];exact wpAny_operating (Ii d (fun r e j=>ao (wpAny_letTemporaryGo (au j))) fun q q x=>x)
 first
  | exact au (ao g)
  | exact ao (au (ao g))
  | exact ao g
def Cq (I:me X d i H s) (g:br H a y o):s.TypeIs (.ref a) "dict" :=by
 rcases g with⟨f,k,e,_,_⟩ | ⟨f,k,b,e,_,_,_⟩
 . obtain⟨_,_,m,_,h⟩:=sK I.hok e;exact h.typeIs
 . obtain⟨_,_,j,_,h⟩:=tK I.hok e;exact h.typeIs
noncomputable def F8(f e:TE):TE:=fun b H Q=>f b H fun x g=>e b g fun y d=>∃a v,x=.ref a/\br d a y (ε v)/\Q v d
noncomputable def X4(e f:TE):TE:=fun b H Q=>e b H fun y g=>f b g fun x d=>∃a o,x=.ref a/\br d a y o/\Q (.bl o.isSome) d
noncomputable def A8(g e f:TE):TS:=fun D b H=>f b H fun v j=>g b j fun x i=>e b i fun y h=>∃a d,x=.ref a/\gd h a y v d/\D.nx b d
section
variable{X:Cx}{o i e b:Pu}{pos c tpos:Pos}{f d j:TE}
def yt(D:X.A.units+1<cLine)(E:PE X o f)(hi:PE X i d)(hs:mQ i):PE X (.Subscript o i pos) (F8 f d):=by intro k s n H Q I h;refine Td PySem.F.slot_dict_getitem.lookup hs (CB (E k s n H _ I h) fun u r ⟨x,M,J,C,q1⟩=>CB (hi k r n M _ J q1) fun S R q=>?_);obtain⟨y,L,p,B,a,v,ex,g,q2⟩:=q;subst ex;obtain rfl:u=Value.ref a:=C;exact⟨Cq p g,Vv D p g B fun O P F m=>⟨v,L,F,m,q2⟩⟩
def Xm(C:X.A.units+1<cLine)(hi:PE X i d)(D:PE X o f):PC X .In i o (X4 d f):=by
 intro k s m H Q I h;refine CB (hi k s m H _ I h) fun R p ⟨y,M,J,q,q1⟩=>CB (D k p m M _ J q1) fun u P n=>?_
 obtain⟨x,L,F,r,a,B,ex,g,q2⟩:=n;subst ex;obtain rfl:u=Value.ref a:=r;exact B3 C F g q fun O E=>⟨.bl B.isSome,L,E,rfl,q2⟩
def gb(J:X.A.units+1<cLine)(L:PE X o f)(hi:PE X i d)(F:PE X b j)(hs:swapsWith b (ε (.Subscript o i c)) pos.line X.env=pure false) :
 PS X (.Assign [.Subscript o i c] b pos) (A8 f d j):=by
 intro k s m H D I h;refine wpAny_Assign_Subscript (CB (F k s m H _ I h) fun r q ⟨v,T,Q,E,q1⟩=>CB (L k q m T _ Q q1) fun u p ⟨x,S,P,C,q2⟩=>CB (hi k p m S _ P q2) fun Y W n=>?_) hs;obtain⟨y,Z,O,B,a,R,ex,g,q3⟩:=n;subst ex;obtain rfl:u=Value.ref a:=C;exact Wv J O g B E fun U M=>⟨m,R,M,q3⟩
end
def Cg (h:Te) (a:sysModules<h.objs.size):Zi P w H (h.push { cls:=.type "dict",data:=.dict #[] }) h.objs.size (.dT []):=
 ⟨nW _,Fd.mpr (n7 (su a)),[],.nil,_,#[],0,ju _ rfl,⟨rfl,rfl,rfl⟩,rfl,rfl,nodup_nil⟩
def N7:TE:=fun _ H Q=>∀p,H p=none->Q (.ref p) (xB H p (.dT []))
section
variable{X:Cx}{pos:Pos}
def Vk:PE X (.Dict [] [] pos) N7:=fun b s d H Q I h=>wpAny_Dict_empty ⟨.ref s.heap.objs.size,_,I.laid (a:=s.heap.objs.size) (o:=.dT []) (t':=s.toks) (fun z z q=>cg _ q) (Va _) (Cg s.heap I.big),rfl,h _ (I.hok.fresh (Va _))⟩
end
structure M1(X:Cx)(o:Expr)(m:Str)(apos:Pos)(e:Expr)(cpos:Pos):Prop where
 base:attributeBase o m X.env (eval o X.env)=eval o X.env
 few:((backTo cpos (starEach [e] X.env)).all (fun x=>!x.1)&&(backToKw cpos (keywordEach [] X.env)).all (fun x=>x.1.isSome)
  && decide (([e]:List Expr).length+([]:List Keyword).length+(if([]:List Keyword).isEmpty then 0 else 1)<30))=true
 line:(apos.endLine==cpos.line)=true
 trees:backTo cpos (starEach [e] X.env)=[(false,eval e X.env)]
structure M2(X:Cx)(o:Expr)(m:Str)(apos:Pos)(e f:Expr)(cpos:Pos):Prop where
 base:attributeBase o m X.env (eval o X.env)=eval o X.env
 few:((backTo cpos (starEach [e,f] X.env)).all (fun x=>!x.1)&&(backToKw cpos (keywordEach [] X.env)).all (fun x=>x.1.isSome)
  && decide (([e,f]:List Expr).length+([]:List Keyword).length+(if([]:List Keyword).isEmpty then 0 else 1)<30))=true
 line:(apos.endLine==cpos.line)=true
 trees:backTo cpos (starEach [e,f] X.env)=[(false,eval e X.env),(false,eval f X.env)]
def K2(H:Hp)(a:Pb):Prop:=(∃b,Rd H a (.dK b))\/∃b,Rd H a (.dT b)
def kZ(I:me X f k H s)(d:K2 H a) :
 s.TypeIs (.ref a) "dict" /\ (∀b,Value.ref a=.ref b->∃ob,s.heap.get? b=ε ob/\ob.dict=none)/\(a==sysModules)=false:=by
 rcases d with⟨h,e⟩ | ⟨h,e⟩
 . obtain⟨_,hd,n,_,g⟩:=sK I.hok e;refine⟨g.typeIs,fun b q=>?_,hd⟩;cases q;obtain⟨ob,_,_,j,i,_⟩:=g;exact⟨ob,j,i.2.1⟩
 . obtain⟨_,hd,m,_,g⟩:=tK I.hok e;refine⟨g.typeIs,fun b q=>?_,hd⟩;cases q;obtain⟨ob,_,_,j,i,_⟩:=g;exact⟨ob,j,i.2.1⟩
section
variable{X:Cx}{c:Oo (Pb×Obj)}{f:St}{H:Hp}{s:Pa}{a:Pb}{y d:V}{u r:Ou}{o:O4 V}{A:Ru}{E:Ou->Pa->Prop}
def Vf(D:A.units+1<cLine)(I:me X c f H s)(g:br H a y o)(x:ml y u)(B:ml d r)(h:∀p q,me X c f H q->ml (o.getD d) p->Q p q) :
 wpAny (model X.prog X.w) A (call (.builtin "dict.get") [.ref a,u,r]) Q E s:=by
 rcases g with⟨m,k,e,n,l⟩ | ⟨m,k,b,e,n,F,l⟩
 . subst n;obtain⟨z,hd,J,i,j⟩:=sK I.hok e;refine call_meetsIn PySem.F.slot_dict_get j.typeIs PySem.F.entry_dict_get (PySem.F.args_dict_get_3 _ _ _) (meets_dict_get_default (gE X.prog X.w) a (PM x) hd r) ⟨_,j.mapOf,h _ _ (I.tok _) ?_⟩;rw[l];exact(i.val k).getD B
 . subst n;cases (show u=Value.ref b from x);obtain⟨z,hd,C,i,j⟩:=tK I.hok e;refine call_meetsIn PySem.F.slot_dict_get j.typeIs PySem.F.entry_dict_get (PySem.F.args_dict_get_3 _ _ _) (meetsH_dict_get_default (tupleKind (gE X.prog X.w)) a b hd r) ⟨tupleKind_room_in1 D,k,C,wM I.hok F,j,h _ _ (I.tok _) ?_⟩;rw[l];exact(i.val k).getD B
end
noncomputable def M7(h f g:TE):TE:=fun b H Q=>h b H fun x e=>∃a,x=.ref a/\K2 e a/\f b e fun y i=>g b i fun z d=>∃o,br d a y o/\Q (o.getD z) d
section
variable{X:Cx}{o e f:Pu}{c b:Pos}{k i j:TE}
def Uk (O:X.A.units+1<cLine) (P:PE X o k) (he:PE X e i) (R:PE X f j) (m:M2 X o "get" c e f b):PE X (.Call (.Attribute o "get" c) [e,f] [] b) (M7 k i j):=by
 intro n s p H Q I h;refine wpAny_Call_method m.base m.few m.line PySem.F.plainAttrs_dict PySem.F.slot_dict_get PySem.F.type_dict_get (CB (P n s p H _ I h) fun u F B=>?_);obtain⟨x,Z,r,M,a,ex,d,q1⟩:=B;subst ex;obtain rfl:u=Value.ref a:=M;obtain⟨D,C,_⟩:=kZ r d;refine⟨D,C,?_⟩;rw[m.trees];refine Calls.callWith_builtin rfl (Calls.evalArgs_plain (Calls.spliced_cons (CB (he n F p Z _ r q1) fun iv E ⟨y,Y,U,L,q2⟩=>
  Calls.spliced_cons (CB (R n E p Y _ U q2) fun fv s3 ⟨z,W,T,J,ov,g,q3⟩=>Calls.spliced_nil ?_))))
 exact Vf O T g L J fun w' s4 S q=>⟨_,W,S,q,q3⟩
end
section
variable{X:Cx}{pins:Oo (Pb×Obj)}{σ:St}{H:Hp}{s:Pa}{a:Pb}{kvs:Oo (dC×V)}{A:Ru}{E:Ou->Pa->Prop}
end
section
variable{X:Cx}{pins:Oo (Pb×Obj)}{σ:St}{H:Hp}{s:Pa}{a:Pb}{y:V}{u:Ou}{A:Ru}{E:Ou->Pa->Prop}
end
section
variable{prog:Ri}{w:Rr}{A:Ru}{E:Ou->Pa->Prop}{s:Pa}
def UO (b:s.TypeIs (.ref a) "dict_itemiterator") (q:R "dict_itemiterator" s) :
 wpAny (model prog w) A (typeNameOfWhole (.ref a)) R E s:=wpAny_typeNameOfWhole_itemiter b q
def Ny(b:s.heap.IsItemsView v d)(f:s.heap.get? d=ε od)(e:od.data=.dict g h)
 (q:R (.ref s.heap.objs.size) { s with heap:=s.heap.push { cls:=.type "dict_itemiterator",data:=.fields #[.none,.bool false,.ref d,.int 0 0,.int g.size 0,.int h 0,.none,.none] } }) :
 wpAny (model prog w) A (pyIter (.ref v)) R E s:=by
 obtain⟨j,i,g2,g3⟩:=id b;refine wpAny_pyIter_slot b.typeIs F.slot_dict_items_iter (wpAny_call_entry F.slot_dict_items_iter b.typeIs F.entry_dict_items_iter ?c1 (F.args_dict_items_iter_1 _));unfold Builtin.«dict_items.__iter__»;refine ao (au (ao ?c2));unfold Builtin.Dict_items.dictOf;refine ao (Ho i g3 (x:=.ref d) rfl (au (ao ?c3)));unfold Builtin.Dict_items.newIterator;refine ao (wpAny_dictEntries f e (ao (wpAny_dictEpoch f e ?c4)));have a:Builtin.Dict_items.ownsTuple "dict_itemiterator" =true:=by decide
 simp![a,eO];refine Ba (au ⟨_,rfl, "dict_itemiterator",_,⟨_,ju _ rfl,rfl⟩,F.slot_dict_itemiterator_next.lookup,?c5⟩) ?c6
 . simpa[rawInt,Builtin.Dict_items.ownedTupleFields]using q
 . simp![sizeOk,Builtin.Dict_items.ownedTupleFields,cu,jj,Ua,Vi,Cu];omega
def Ky
 (H:IsItemIter s.heap f d i a.size h D v0) (Z:s.heap.get? d=ε od) (Y:od.data=.dict a h) (lt:i<a.size)
 (P:∀p,IsItemIterOut p f d (i+1) a.size h a[i].key a[i].val s.heap.objs.size->
  p.get? s.heap.objs.size=ε { cls:=.type "tuple",data:=.seq #[a[i].key,a[i].val] }->p.objs.size=s.heap.objs.size+1->
  (∀b o,b≠f->s.heap.get? b=ε o->p.get? b=ε o)->R (ε (.ref s.heap.objs.size)) { s with heap:=p }) :
 wpAny (model prog w) A (pyNext (.ref f)) R E s:=by
 obtain⟨G,q,y,m,os⟩:=s;have k:Shared.TypeIs ⟨G,q,y,m,os⟩ (.ref f) "dict_itemiterator" :=⟨_,H,rfl⟩;unfold pyNext;refine ao (wpAny_attempt (wpAny_callSpecial?_slot (name:=Str.ofString "__next__") k F.slot_dict_itemiterator_next (wpAny_call_entry F.slot_dict_itemiterator_next k F.entry_dict_itemiterator_next ?c1 (F.args_dict_itemiterator_next_1 _))));refine ao (au (ao (ao ?c2)))
 first | refine ao (UO k (au ?c3)) | refine ao (wpAny_typeNameOf_itemiter k (au ?c3))
 refine ao (wpAny_fieldsOf H rfl ?c4);have n:Builtin.Dict_items.ownsTuple "dict_itemiterator" =true:=by decide
 rw[n];show wpAny _ _ (if(Value.ref d==Value.none)=true then _ else _) _ _ _;rw[eH (show ¬((Value.ref d==Value.none)=true)from fun z=>Xe z)];refine ao (au (ao (wpAny_dictEntries Z Y ?c5)));rw[eH ⋯];refine ao (au (ao (wpAny_dictEpoch Z Y ?c6)));rw[eH ⋯];refine au ?c7;dsimp only;rw[eH (show ¬((i:Int)<0)from by omega),ou,Array.getElem?_eq_getElem lt];dsimp only;refine ao ?c8
 first | refine ao (UO k (au ?c9)) | refine ao (wpAny_typeNameOf_itemiter k (au ?c9))
 refine ao (wpAny_isOneOf_itemiter k ?c10);show wpAny _ _ (setField (.ref f) 3 (rawInt ((i:Int)+1)) >>=_) _ _ ⟨G,q,y,m,os⟩;refine ao (wpAny_setField_rec H ⋯ fun G1 u B=>?c11)
 replace B:Heap.SameBut f G G1:=B
 replace u:IsItemIter G1 f d (i+1) a.size h D v0:=by
  have z:((i+1:Nat):Int)=(i:Int)+1:=by omega
  unfold IsItemIter;rw[z];simpa[rawInt]using u
 have j:Shared.TypeIs ⟨G1,q,y,m,os⟩ (.ref f) "dict_itemiterator" :=⟨_,u,rfl⟩;refine ao (Fe (ao (wpAny_isOneOf_itemiter j (ao (wpAny_isOneOf_itemiter j ?c12)))));show wpAny _ _ (Builtin.Dict_items.pairFromOwner (.ref f) 6 a[i].key a[i].val) _ _ ⟨G1,q,y,m,os⟩;unfold Builtin.Dict_items.pairFromOwner;refine ao (wpAny_newTuple ?c13);have r:IsItemIter (G1.push { cls:=.type "tuple",data:=.seq #[a[i].key,a[i].val] }) f d (i+1) a.size h D v0:=cg _ u;generalize I:G1.push { cls:=.type "tuple",data:=.seq #[a[i].key,a[i].val] }=G2 at r;have C:G1.objs.size=G.objs.size:=B.1;have il:f<G.objs.size:=ji H;have t2:G2.get? G.objs.size=ε { cls:=.type "tuple",data:=.seq #[a[i].key,a[i].val] }:=by rw[<- I,<- C];exact ju _ rfl
 have z2:G2.objs.size=G.objs.size+1:=by rw[<- I,Ma,C]
 have k2:∀b o,b≠f->G.get? b=ε o->G2.get? b=ε o:=fun b o g e=>by rw[<- I];exact cg _ (B.extBut b o g e)
 show wpAny _ _ (Builtin.Dict_items.ownedTupleIsFree (.ref f) >>=_) _ _ ⟨G2,q,y,m,os⟩;rw[C];clear I u B j C G1;refine ao ?c14;unfold Builtin.Dict_items.ownedTupleIsFree;refine ao (Ho r rfl (x:=.none) rfl (au ?c15));simp![eO];refine ao (Ho r rfl (x:=D) rfl (ao (Ho r rfl (x:=v0) rfl ?c16)));refine ao (wpAny_setField_rec r ⋯ fun G3 U O=>?c17)
 replace O:Heap.SameBut f G2 G3:=O
 replace U:IsItemIter G3 f d (i+1) a.size h a[i].key v0:=U
 refine ao (wpAny_setField_rec U ⋯ fun G4 T M=>?c18)
 replace M:Heap.SameBut f G3 G4:=M
 replace T:IsItemIter G4 f d (i+1) a.size h a[i].key a[i].val:=T
 refine ao (wpAny_setField_rec T ⋯ fun G5 S L=>?c19)
 replace L:Heap.SameBut f G4 G5:=L
 replace S:IsItemIterOut G5 f d (i+1) a.size h a[i].key a[i].val G.objs.size:=S
 refine ao (wpAny_setField_rec S ⋯ fun G6 Q J=>?c20)
 replace J:Heap.SameBut f G5 G6:=J
 replace Q:IsItemIterOut G6 f d (i+1) a.size h a[i].key a[i].val G.objs.size:=Q
 have W:∀b o,b≠f->G2.get? b=ε o->G6.get? b=ε o:=fun b o g e=>J.extBut b o g (L.extBut b o g (M.extBut b o g (O.extBut b o g e)))
 refine ao (wpAny_letGo (au (au ⟨_,rfl,au (P G6 Q (W _ _ (Eo il) t2) ?c21 fun b o g e=>W b o g (k2 b o g e))⟩)));show G6.objs.size=G.objs.size+1;rw[J.1,L.1,M.1,O.1,z2]
def Ut(x:A.handled=none)
 (h:IsItemIter s.heap g d i k.size q u r) (p:s.heap.get? d=ε od) (o:od.data=.dict k q) (y:k.size<=i)
 (j:∀n,Heap.ExtBut g s.heap n->R none { s with heap:=n }):wpAny (model prog w) A (pyNext (.ref g)) R E s:=by
 have e:s.TypeIs (.ref g) "dict_itemiterator" :=⟨_,h,rfl⟩;unfold pyNext;refine ao (wpAny_attempt (wpAny_callSpecial?_slot (name:=Str.ofString "__next__") e F.slot_dict_itemiterator_next (wpAny_call_entry F.slot_dict_itemiterator_next e F.entry_dict_itemiterator_next ?c1 (F.args_dict_itemiterator_next_1 _))));refine ao (au (ao (ao ?c2)))
 first | refine ao (UO e (au ?c3)) | refine ao (wpAny_typeNameOf_itemiter e (au ?c3))
 refine ao (wpAny_fieldsOf h rfl ?c4);have f:Builtin.Dict_items.ownsTuple "dict_itemiterator" =true:=by decide
 rw[f];show wpAny _ _ (if(Value.ref d==Value.none)=true then _ else _) _ _ _;rw[eH (show ¬((Value.ref d==Value.none)=true)from fun z=>Xe z)];refine ao (au (ao (wpAny_dictEntries p o ?c5)));rw[eH ⋯];refine ao (au (ao (wpAny_dictEpoch p o ?c6)));rw[eH ⋯];refine au ?c7;dsimp only;rw[eH (show ¬((i:Int)<0)from by omega),ou,Array.getElem?_eq_none y];dsimp only;refine ao ?c8
 first | refine ao (UO e (au ?c9)) | refine ao (wpAny_typeNameOf_itemiter e (au ?c9))
 show wpAny _ _ (setField (.ref g) 2 .none >>=_) _ _ _;refine ao (wpAny_setField h rfl ⋯ ?c10);show wpAny _ _ (newExc (.type "StopIteration") [] >>=_) _ _ _;refine ao ?c11;simp![newExc,newTuple];refine ao (Ba (ao (m:=firstArgMember _ _) (wpAny_of_eq (a:=Value.none) (by first | rfl | (simp![firstArgMember];rfl)) ?c12)) (by size_fits));refine Ba ?c13 (by size_fits);simp![raiseNew];refine ao (wpAny_handled ?c14);rw[show A.in1.handled=none from x];refine ao (au (wpAny_throw ?c15));refine ao (wpAny_isInstance (T := "StopIteration") (b:=true) ⟨_,ju _ rfl,rfl⟩ isSubtype_stop (au ?c16));exact j _ (((Heap.SameBut.update ..).extBut.push _).push _)
def Jy (a:s.TypeIs (.ref d) "dict") (g:(d==sysModules)=false)
 (q:R (.ref s.heap.objs.size) { s with heap:=s.heap.push { cls:=.type "dict_items",data:=.fields #[.ref d] } }):wpAny (model prog w) A (call (.builtin "dict.items") [.ref d]) R E s:=by
 have m:MeetsIn prog w (Builtin.«dict.items» ⟨[.ref d],[]⟩) (fun z R s=>s.TypeIs (.ref d) "dict" /\ R (.ok (.ret (.ref s.heap.objs.size))) { s with heap:=s.heap.push { cls:=.type "dict_items",data:=.fields #[.ref d] } }):=
  .of_wp fun A R s b=>by obtain⟨e,f⟩:=b;unfold Builtin.«dict.items»;refine ao ?c1;unfold Builtin.Dict.noArgs;refine ao (wpAny_notOrdered_dict e ?c2);show wpAny _ _ (pure d) _ _ s;refine au ?c3;show wpAny _ _ (Builtin.Dict.showsAll d >>=_) _ _ s;unfold Builtin.Dict.showsAll;rw[eH (by rw[g];exact Xe)];exact ao (au (ao (Ba (au ⟨_,rfl,f⟩))))
 exact call_meetsIn PySem.F.slot_dict_items a PySem.F.entry_dict_items (PySem.F.args_dict_items_1 _) m ⟨a,q⟩
def B9:entryFor table "dict_itemiterator.__iter__" =ε Builtin.«dict_keyiterator.__iter__»:=entryFor_alias (id' := "dict_keyiterator.__iter__") (by kernel_rfl) rfl (by decide +kernel) (by kernel_rfl)
def Ly(g:IsItemIter s.heap a d i n h f e)(q:R (.ref a) s):wpAny (model prog w) A (pyIter (.ref a)) R E s:=by have b:s.TypeIs (.ref a) "dict_itemiterator" :=⟨_,g,rfl⟩;refine wpAny_pyIter_slot b F.slot_dict_itemiterator_iter (wpAny_call_entry F.slot_dict_itemiterator_iter b B9 ?c1 (F.args_dict_itemiterator_iter_1 _));show wpAny _ _ (ret (.ref a)) _ _ s;exact au ⟨_,rfl, "dict_itemiterator",_,b,F.slot_dict_itemiterator_next.lookup,q⟩
end
theorem Paired.atI:∀{xs:Oo a}{ys:Oo b}{i:Nat}{x:a},Paired F xs ys->xs[i]?=ε x->∃y,ys[i]?=ε y/\F x y
 | _,_,i,x,.nil,e=>by simp at e
 | _,_,0,x,.cons r t,e=>by simp at e;subst e;exact⟨_,rfl,r⟩
 | _,_,i+1,x,.cons r t,e=>by obtain⟨y,d,e2⟩:=Paired.atI t (i:=i) (x:=x) (by simpa using e);exact⟨y,by simpa using d,e2⟩
def VT(a:Pb)(o:Obj):It:=
 ⟨fun i H=>∃b p,H a=ε (.frz o (.dT b))/\b[i]?=ε p,
  fun i H x e=>∃q d p,H q=none/\x=.ref q/\H d=ε (.tup (p.1.map kV))/\(∀b,H a=ε (.frz o (.dT b))->b[i]?=ε p)/\e=xB H q (.tup [.ref d,p.2]),
  fun i H=>∃b,H a=ε (.frz o (.dT b))/\b.length<=i⟩
def Mh{P:Ri}{w:Rr}{K:Ra}{L:Oo Pu}{x1}{pos:Pos}(a it:Pb){o:Obj}{n:Ss DictEntry}{ep:Nat}(Q:o.data=.dict n ep) :
 aH P w K (.Tuple L x1 pos) (VT a o) [it] it (fun i h=>∃j f,IsItemIter h it a i n.size ep j f) where
 mem:=by simp
 obj:=fun i h zz c b=>by obtain⟨j,f,st⟩:=zz;rw[Bs.mp b];exact⟨_,st,fun v z=>by cases z⟩
 keep:=fun i h h' ⟨j,f,st⟩ k=>⟨j,f,k it ⋯ _ st⟩
 item:=by
  intro X T hw U b i x s σ H E I M st R;subst T hw U;obtain⟨j,f,m⟩:=st;obtain⟨d,p,e,hp⟩:=R;obtain⟨go,z,y,xs,r,ob,Y,Z,J,O,F,W,h5⟩:=(show Zi X.prog X.w H s.heap a (.frz o (.dT d))from I.hok a _ e);rw[go]at J;cases J;rw[Q]at F;cases F;obtain⟨q,hq,f1,f2,f3⟩:=Paired.atI r hp;have e0:n.toList[i]?=ε (entryOfKey (tupleKind (gE X.prog X.w)) q):=by rw[W,w5,hq];rfl
  have C:i<n.size:=by have:=(Xa e0).1;simpa using this
  have ei:n[i]=entryOfKey (tupleKind (gE X.prog X.w)) q:=by rw[Array.getElem?_toList,Array.getElem?_eq_getElem C]at e0;exact uo e0
  refine Ky m go Q C fun h' z1 tp sz kp=>⟨_,rfl,wpAny_letOwnedTupleGo_items z1 fun O S sb=>?_⟩
  have B:s.heap.objs.size≠it:=Eo (ji m);have t2:O.get? s.heap.objs.size=ε { cls:=.type "tuple",data:=.seq #[.ref q.2.1,q.2.2] }:=by rw[sb.2 _ B,tp,ei];rfl
  have kk:∀c u,c ∉ [it]->s.heap.get? c=ε u->O.get? c=ε u:=fun c u b g=>by
   have D:c≠it:=fun z=>b (by rw[z];simp)
   exact(sb.2 c D).trans (kp c u D g)
  refine⟨.ref s.heap.objs.size,xB H s.heap.objs.size (.tup [.ref q.2.1,p.2]),I.iq kk M (Va _) ⟨by simp![Ua,Vi];rw[Cu];decide,[.ref q.2.1,q.2.2],.cons rfl (.cons f3 .nil),⟨_,t2,rfl,_,rfl⟩⟩,rfl,
   ⟨_,q.2.1,p,I.hok.fresh (Va _),rfl,f2,fun a0 e'=>by rw[e]at e';cases e';exact hp,rfl⟩,⟨_,_,S⟩,fun c b=>?_⟩
  rw[Bs.mp b,aB (n7 B)];exact(M it ⋯).1
 done:=by
  intro X T hw U b i x s σ H E I M st R;subst T hw U;obtain⟨j,f,m⟩:=st;obtain⟨d,e,hp⟩:=R;obtain⟨go,z,y,xs,r,ob,Y,Z,J,O,F,W,h5⟩:=(show Zi X.prog X.w H s.heap a (.frz o (.dT d))from I.hok a _ e);rw[go]at J;cases J;rw[Q]at F;cases F;have hs:n.size=d.length:=by rw[<- Aa,W,ni,<- Paired.length r]
  refine Ut (I.ok.hd b) m go Q nofun fun h' eb=>⟨rfl,I.ir (t':=s.toks) (fp:=[it]) (fun c u b q=>eb c u (fun z=>b (by rw[z];simp)) q) M⟩
 self:=fun t t t t t st h=>by obtain⟨j,f,m⟩:=st;exact Ly m h
section
variable{X:Cx}
def me.freeze(I:me X d f H s)(e:H a=ε (.dT kvs))(go:s.heap.get? a=ε o) :
 me X d f (xB H a (.frz o (.dT kvs))) s:=by
 refine aS (t':=s.toks) I (by rw[e];exact Ke) (Heap.SameBut.refl _ _) ⟨o,go⟩ ⟨go,?_⟩;refine Zi.stay (show Zi X.prog X.w H s.heap a (.dT kvs)from I.hok a _ e) (fun v v v g=>g) (fun b q=>?_) fun b h q=>?_
 . rw[aB (ZS q e (fun z=>nomatch z))];exact q
 . rw[aB (ZS q e (fun z=>nomatch z))];exact q
def M3(f:TE):TI:=fun e H R=>f e H fun x d=>∃a,x=.ref a/\((∃b,d a=ε (.dT b)/\∀o,R (VT a o) (xB d a (.frz o (.dT b))))\/∃o b,d a=ε (.frz o (.dT b))/\R (VT a o) d)
def Yk {x1} (Y:PE X d O) (p:autoParam (attributeBase d "items" X.env (eval d X.env)=eval d X.env) Æ) (n:autoParam ((m.endLine==k.line)=true) Æ) :
 PI X (.Tuple j x1 M) (.Call (.Attribute d "items" m) [] [] k) (M3 O):=by
 intro i s E H R I h;refine wpAny_Call_method0_late p n (CB (Y i s E H _ I h) fun v s1 S=>?_);obtain⟨x,L,C,W,a,ex,q⟩:=S;subst ex;obtain rfl:v=Value.ref a:=W;have dd:K2 L a:=by
  rcases q with⟨f,e,_⟩ | ⟨o,f,e,_⟩
  . exact .inr ⟨f,.inl e⟩
  . exact .inr ⟨f,.inr ⟨o,e⟩⟩
 obtain⟨P,U,T⟩:=kZ C dd;have base:∀(o:Obj)(r:Ss DictEntry)(y:Nat)(D:Hp),s1.heap.get? a=ε o->o.data=.dict r y->me X i E D s1->R (VT a o) D->
  wpAny (model X.prog X.w) X.A (call (.builtin "dict.items") [.ref a]) (fun v s1=>wpAny (model X.prog X.w) X.A (pyIter v) (Y2 X i E (.Tuple j x1 M) R) X.xe s1) X.xe s1:=by
  intro o r y D go Q I2 q2;refine Jy P T ?_;have J:me X i E D { s1 with heap:=s1.heap.push { cls:=.type "dict_items",data:=.fields #[.ref a] } }:=I2.kept (t':=s1.toks) fun b u g=>cg _ g
  refine Ny (od:=o) ⟨_,ju _ rfl,rfl,rfl⟩ (cg _ go) Q ?_;have I4:=J.kept (t':=s1.toks) (h':=(s1.heap.push { cls:=.type "dict_items",data:=.fields #[.ref a] }).push { cls:=.type "dict_itemiterator",data:=.fields #[.none,.bool false,.ref a,.int 0 0,.int r.size 0,.int y 0,.none,.none] }) fun b u g=>cg _ g
  refine⟨_,[_],_,_,D,rfl,I4,Mh a _ Q,⟨.none,.none,ju _ rfl⟩,fun c Z=>?_,q2⟩;rw[Bs.mp Z];exact J.cy (Va _) (J.hok.fresh (Va _))
 refine⟨"dict", "dict.items",PySem.F.plainAttrs_dict,PySem.F.slot_dict_items,PySem.F.type_dict_items,P,U,Calls.callWith_builtin rfl (PySem.evalArgs_none ?_)⟩;rcases q with⟨f,e,q⟩ | ⟨o,f,e,q⟩
 . obtain⟨_,_,_,_,o,r,y,B,_,F,_⟩:=(show Zi X.prog X.w L s1.heap a (.dT f)from C.hok a _ e);exact base o r y _ B F (C.freeze e B) (q o)
 . obtain⟨go,_,_,_,_,o',r,y,B,_,F,_⟩:=(show Zi X.prog X.w L s1.heap a (.frz o (.dT f))from C.hok a _ e);rw[go]at B;cases B;exact base o r y _ go F C q
end
end L2
namespace SM
noncomputable def nE(kvs:Oo (Oo Int×Dt))(k:Oo Int):O4 Dt:=(kvs.find? fun p=>decide (p.1=k)).map (·.2)
noncomputable def dJ(kvs:Oo (Oo Int×Dt))(k:Oo Int)(d:Dt):Oo (Oo Int×Dt):=
 if(kvs.any fun p=>decide (p.1=k))=true then kvs.map (fun p=>if p.1=k then(p.1,d)else p)else kvs++[(k,d)]
noncomputable def fT:RE:=fun _ h=>ε (.ref h.length,h++[.dt []])
def tQ(g:RA):RE:=fun l h=>(g l h).bind fun r=>if r.1.length<=sizeLine then(IC r.1).map fun a=>(.ntp a,r.2)else none
def cK(fo fy a:RE):RE:=fun l h=>(fo l h).bind fun o=>match o.1 with
 | .ref n=>match o.2[n]? with
  | some (.dt _)=>(fy l o.2).bind fun y=>match y.1 with
   | .ntp k=>(a l y.2).bind fun x=>match x.2[n]? with
    | some (.dt kvs)=>ε ((nE kvs k).getD x.1,x.2)
    | _=>none
   | _=>none
  | _=>none
 | _=>none
def ZP(fe fo fy:RE):RS:=fun l h=>(fe l h).bind fun v=>(fo l v.2).bind fun o=>(fy l o.2).bind fun y=>match o.1,y.1 with
 | .ref n,.ntp k=>match y.2[n]? with
  | some (.dt kvs)=>if kvs.length<sizeLine then ε (.nx l (y.2.set n (.dt (dJ kvs k v.1))))else none
  | _=>none
 | _,_=>none
noncomputable def FI(f:RE):RI:=fun l h=>(f l h).bind fun r=>match r.1 with
 | .ref n=>match r.2[n]? with
  | some (.dt kvs)=>ε (.it n,r.2.set n (.df kvs))
  | some (.df _)=>ε (.it n,r.2)
  | _=>none
 | _=>none
section
variable{K:Ra}{H:Hp}{ρ:Rg}
abbrev KD(K:Ra)(H:Hp)(ρ:Rg)(kvs:Oo (Oo Int×Dt))(vs:Oo (Oo dC×V)):Prop:=vs.map (·.1)=kvs.map (fun p=>p.1.map Sum.inl)/\Ue K H ρ (kvs.map (·.2)) (vs.map (·.2))
def gg{k k':Oo Int}:k.map (Sum.inl:Int->dC)=k'.map Sum.inl↔k=k':=⟨fun h=>(map_inj_right (fun q q z=>Sum.inl.inj z)).mp h,fun h=>by rw[h]⟩
def vM(k:Oo Int):(k.map (Sum.inl:Int->dC)).map kV=k.map V.int:=by rw[map_map];rfl
def KD.ba(r:KD K H ρ [] vs):vs=[]:=by have:=r.1;simpa using this
def KD.ab(r:KD K H ρ (p::kvs) vs):∃v rs,vs=(p.1.map Sum.inl,v)::rs/\Uo K H ρ p.2 v/\KD K H ρ kvs rs:=by
 obtain⟨a,d⟩:=r;cases vs with
 | nil=>simp at a
 | cons q rs=>simp![Uu,Ni]at a;obtain⟨v,h,e,f,g2⟩:=Ue.ab (by simpa only[Uu]using d);simp![Uu,Ni]at e;obtain⟨q1,q2⟩:=q;have b:q1=p.1.map Sum.inl:=a.1;have g:q2=v:=e.1;subst g;exact⟨q2,rs,by rw[b],f,a.2,by rw[e.2];exact g2⟩
def KD.cons{p:Oo Int×Dt}{v:V}{kvs:Oo (Oo Int×Dt)}{vs:Oo (Oo dC×V)}(g:Uo K H ρ p.2 v)(r:KD K H ρ kvs vs):KD K H ρ (p::kvs) ((p.1.map Sum.inl,v)::vs):=
 ⟨by simp![Uu];rw[r.1],.cons g r.2⟩
def KD.length(r:KD K H ρ kvs vs):vs.length=kvs.length:=by have:=congrArg List.length r.1;simpa using this
theorem KD.get:∀{kvs:Oo (Oo Int×Dt)}{vs:Oo (Oo dC×V)}{i:Nat}{p:Oo Int×Dt},KD K H ρ kvs vs->kvs[i]?=ε p->∃v,vs[i]?=ε (p.1.map Sum.inl,v)/\Uo K H ρ p.2 v
 | [],_,_,_,_,e=>by simp at e
 | q::kvs,_,0,p,r,e=>by obtain⟨v,a,rfl,g,_⟩:=r.ab;simp at e;subst e;exact⟨v,rfl,g⟩
 | q::kvs,_,i+1,p,r,e=>by obtain⟨v,a,rfl,_,b⟩:=r.ab;obtain⟨u,d,e2⟩:=KD.get (i:=i) b (by simpa using e);exact⟨u,by simpa using d,e2⟩
theorem KD.val(k):∀{kvs:Oo (Oo Int×Dt)}{vs:Oo (Oo dC×V)},KD K H ρ kvs vs->(∀d,nE kvs k=ε d->∃v,ME vs (k.map Sum.inl)=ε v/\Uo K H ρ d v)/\(nE kvs k=none->ME vs (k.map Sum.inl)=none)
 | [],_,r=>by rw[r.ba];exact⟨fun d e=>by simp[nE]at e,fun q=>rfl⟩
 | p::kvs,_,r=>by
  obtain⟨v,f,rfl,g,b⟩:=r.ab;by_cases c:p.1=k
  . have a:nE (p::kvs) k=ε p.2:=by simp[nE,Ji,c]
    rw[a,JO (gg.mpr c)];exact⟨fun d e=>by cases e;exact⟨v,rfl,g⟩,fun e=>by cases e⟩
  . have a:nE (p::kvs) k=nE kvs k:=by simp[nE,Ji,c]
    rw[a,GO (fun z=>c (gg.mp z))];exact KD.val k b
theorem KD.any(k):∀{kvs:Oo (Oo Int×Dt)}{vs:Oo (Oo dC×V)},KD K H ρ kvs vs->(vs.any fun p=>decide (p.1=k.map Sum.inl))=kvs.any fun p=>decide (p.1=k)
 | [],_,r=>by rw[r.ba];rfl
 | p::kvs,_,r=>by
  obtain⟨v,b,rfl,g,a⟩:=r.ab;rw[Ku,Ku,KD.any k a]
  congr 1
  exact decide_eq_decide.mpr gg
theorem KD.repl(k)(g:Uo K H ρ d v):∀{kvs:Oo (Oo Int×Dt)}{vs:Oo (Oo dC×V)},KD K H ρ kvs vs->
 KD K H ρ (kvs.map fun p=>if p.1=k then(p.1,d)else p) (vs.map fun p=>if p.1=k.map Sum.inl then(p.1,v)else p)
 | [],_,r=>by rw[r.ba];exact⟨rfl,.nil⟩
 | p::kvs,_,r=>by
  obtain⟨u,e,rfl,b,a⟩:=r.ab;rw[Uu,Uu];by_cases c:p.1=k
  . rw[eG c,eG (gg.mpr c)];exact KD.cons (p:=(p.1,d)) g (KD.repl k g a)
  . rw[eH c,eH (fun z=>c (gg.mp z))];exact KD.cons b (KD.repl k g a)
def KD.put(k)(g:Uo K H ρ d v)(r:KD K H ρ kvs vs):KD K H ρ (dJ kvs k d) (uF vs (k.map Sum.inl) v):=by
 unfold dJ uF;rw[r.any k];split
 . exact r.repl k g
 . refine⟨by rw[Gu,Gu,r.1];rfl,?_⟩;rw[Gu,Gu];exact r.2.append (.cons g .nil)
def KD.ext(r:KD K H ρ kvs vs)(x:mi ρ a H b):KD K b a kvs vs:=⟨r.1,r.2.ext x⟩
def Vs.ky(S:Vs K ρ h H)(e:H a=ε (.tup vs)):ρ.no a:=by
 refine⟨fun d=>?_,fun d=>?_⟩
 . obtain⟨n,f⟩:=mem_iff_getElem?.mp d;have i:n<h.length:=by rw[<- S.len];exact(Xa f).1
   have ob:=S.ob n a _ f (jo i);cases q:h[n]with
   | lst j=>rw[q]at ob;obtain⟨_,g,_⟩:=ob;rw[e]at g;cases g
   | ins y fs=>rw[q]at ob;obtain⟨_,_,_,_,g,_⟩:=ob;rw[e]at g;cases g
   | dk b=>rw[q]at ob;obtain⟨_,g,_⟩:=ob;rw[e]at g;cases g
   | dt b=>rw[q]at ob;obtain⟨_,g,_⟩:=ob;rw[e]at g;cases g
   | df b=>rw[q]at ob;obtain⟨_,_,g,_⟩:=ob;rw[e]at g;cases g
 . obtain⟨_,_,g⟩:=S.zt a d;rw[e]at g;cases g
def zQ(h:H a=ε (.dT kvs)):JT H a:=fun q q e=>by rw[h]at e;cases e
end
section
variable{X:Cx}{e o i d a b f:Pu}{fe fo C fa fb fy B:RE}{pos A w t:Pos}
def Bf:EM X (.Dict [] [] pos) fT:=by unhygienic exact PE.imp Vk fun m H Q j=>by obtain⟨g,l,h,d,n,S,L,e,k⟩:=j;cases e;intro p hp;refine k (g.add p) _ _ (al.mpr ⟨p,rfl,?_⟩) (S.own hp ⟨[],xC,rfl,.nil⟩) (mi.own hp);simp![Rg.add];rw[<- S.len,ag (Va _),Ea];rfl
def Fl{x1}(h:AM X r g):EM X (.Tuple r x1 pos) (tQ g):=by
 unhygienic
  exact PE.imp (HZ h) fun F H Q y=>by
   obtain⟨x,l,h,d,O,S,L,e,k⟩:=y;obtain⟨⟨ds,M⟩,D,e⟩:=sA e;dsimp only at e;by_cases m:ds.length<=sizeLine
   . rw[eG m]at e;cases q:IC ds with
     | none=>rw[q]at e;cases e
     | some J=>rw[q]at e;cases e;refine⟨x,l,h,ds,_,S,L,D,fun j I P n u E=>⟨by rw[n.length];exact m,fun p hp=>k j _ _ (ej.mpr ⟨p,rfl,u.out hp,?_⟩) (u.fresh hp) (E.trans (mi.fresh hp))⟩⟩;rw[WF q]at n;rw[xC,n.ci]
   . rw[eH m]at e;cases e
set_option tactic.hygienic true in
theorem Lg (hu:X.A.units+64<cLine) (ho:EM X o fo) (hy:EM X e fy) (hx:EM X f B) (m:M2 X o "get" w e f t:=by exact⟨rfl,rfl,rfl,rfl⟩) :
 EM X (.Call (.Attribute o "get" w) [e,f] [] t) (cK fo fy B):=by
 unhygienic
  exact PE.imp (Uk nofun ho hy hx m) fun σ H Q Y=>by
   obtain⟨W,l,h,dd,h',S,L,e,k⟩:=Y;obtain⟨⟨R,P⟩,e1,e⟩:=sA e;refine⟨W,l,h,R,P,S,L,e1,fun r x H1 R1 U J=>?_⟩;cases R with
   | ref n=>
    dsimp only at e;split at e
    . rename_i a0 q0;obtain⟨⟨y,O⟩,e2,e⟩:=sA e;dsimp only at e;cases y with
      | ntp g=>
       obtain⟨⟨dx,h3⟩,e3,e⟩:=sA e;dsimp only at e;split at e
       . rename_i D q;cases e;obtain⟨E,z,M⟩:=al.mp R1;obtain⟨u,g0,_⟩:=U.ob n E _ M q0;refine⟨E,z,.inr ⟨u,.inl g0⟩,r,l,P,.ntp g,O,U,L.ext J,e2,fun p y H2 R2 S2 I=>⟨p,l,O,dx,_,S2,L.ext (J.trans I),e3,fun j x3 H3 R3 T F=>?_⟩⟩;obtain⟨kb,Z,nk,gk⟩:=ej.mp (Uo.ext F _ R2);obtain⟨vs,g1,g2⟩:=T.ob n E _ ((I.trans F).get M) q;refine⟨ME vs (g.map Sum.inl),by rw[Z];exact br.t g1 (by rw[vM];exact gk),?_⟩;obtain⟨v1,v2⟩:=KD.val (K:=X.K) g g2;refine k j _ H3 ?_ T (J.trans (I.trans F));cases c:nE D g with
         | none=>rw[v2 c];exact R3
         | some d4=>obtain⟨v4,e4,r4⟩:=v1 d4 c;rw[e4];exact r4
       . cases e
      | _=>cases e
    . cases e
   | _=>cases e
set_option tactic.hygienic true in
theorem Bc(hu:X.A.units+64<cLine)(he:EM X e fe)(ho:EM X o fo)(hi:EM X i C)(hs:autoParam (swapsWith e (ε (.Subscript o i A)) pos.line X.env=pure false) Æ) :
 ZM X (.Assign [.Subscript o i A] e pos) (ZP fe fo C):=by
 unhygienic
  exact PS.imp (gb nofun ho hi he hs) fun D U H J=>by
   obtain⟨W,l,h,r,S,L,e,k⟩:=J;obtain⟨⟨v,Q⟩,e1,e⟩:=sA e;obtain⟨⟨d,hd⟩,e2,e⟩:=sA e;obtain⟨⟨j,hj⟩,e3,e⟩:=sA e;refine⟨W,l,h,v,Q,S,L,e1,fun I u H1 R1 S1 E=>⟨I,l,Q,d,hd,S1,L.ext E,e2,fun F y H2 R2 S2 x=>⟨F,l,hd,j,hj,S2,L.ext (E.trans x),e3,fun g z H3 R3 T p=>?_⟩⟩⟩;cases d with
   | ref n=>
    cases j with
    | ntp Z=>
     dsimp only at e;split at e
     . rename_i M q;obtain⟨hz,e⟩:=RF e;cases e;obtain⟨R,J,P⟩:=al.mp (Uo.ext p _ R2);obtain⟨vs,m,g2⟩:=T.ob n R _ P q;obtain⟨kb,Y,nk,gk⟩:=ej.mp R3;have O:=m6 P;have g3:KD X.K H3 g M vs:=g2;refine⟨R,_,J,by rw[Y];exact gd.t m (by rw[vM];exact gk) (by rw[g3.length];exact hz),?_⟩;exact k g U _ (T.write P (zQ m) ⟨_,xC,(g3.put Z (Uo.ext (x.trans p) _ R1)).ext (mi.write O (zQ m))⟩) (L.ext (E.trans (x.trans (p.trans (mi.write O (zQ m)))))) (E.trans (x.trans (p.trans (mi.write O (zQ m)))))
     . cases e
    | _=>cases e
   | _=>cases e
def aX{K:Ra}(R:ρ.v[n]?=ε h)(e:H h=ε (.frz ob (.dT g))):u0 K H ρ (.it n) (VT h ob):=by
 intro U r S sm m i;have k:=sm.fz h ob _ e;have E:=sm.ix n h R;simp![mo.at];cases q:S[n]? with
 | none=>trivial
 | some u=>
  cases u with
  | df j=>
   obtain⟨Y,vs,I,g2⟩:=m.ob n h _ E q;have g3:KD K U r j vs:=g2;rw[k]at I;cases I;dsimp only;cases F:j[i]? with
   | none=>exact⟨g,k,by rw[g3.length];exact Eu.mp F⟩
   | some p=>obtain⟨v,L,O⟩:=g3.get F;refine⟨⟨g,_,k,L⟩,fun x Z M=>?_⟩;obtain⟨qq,P,W,y,ex,D,Q,T⟩:=M;have J:=Q g k;rw[L]at J;cases J;subst ex T;rw[vM]at D;exact⟨JI m (.cons (bc.mpr ⟨P,_,rfl,.inl ⟨m.ky D,.inl D⟩,Ue.ints p.1⟩) (.cons O .nil)) y,mi.fresh y,m.fresh y⟩
  | _=>trivial
set_option tactic.hygienic true in
theorem Ay {x1} (P:EM X d fa) (m:autoParam (attributeBase d "items" X.env (eval d X.env)=eval d X.env) Æ) (j:autoParam ((w.endLine==t.line)=true) Æ) :
 IM X (.Tuple x x1 O) (.Call (.Attribute d "items" w) [] [] t) (FI fa):=by
 unhygienic
  exact PI.imp (Yk P m j) fun Y H R M=>by
   obtain⟨J,l,h,s,Z,S,L,e,k⟩:=M;obtain⟨⟨F,Q⟩,T,e⟩:=sA e;refine⟨J,l,h,F,Q,S,L,T,fun g v W U y I=>?_⟩;cases F with
   | ref n=>
    obtain⟨D,z,r⟩:=al.mp U;have E:=m6 r;refine⟨D,z,?_⟩;dsimp only at e;split at e
    . rename_i u q;cases e;obtain⟨vs,p,g2⟩:=y.ob n D _ r q;have g3:KD X.K W g u vs:=g2;refine .inl ⟨vs,p,fun ob=>k g _ _ (aX r xC) (y.write r (zQ p) ⟨ob,vs,xC,g3.ext (mi.write E (zQ p))⟩) (I.trans (mi.write E (zQ p)))⟩
    . rename_i u q;cases e;obtain⟨ob,vs,p,g2⟩:=y.ob n D _ r q;exact .inr ⟨ob,vs,p,k g _ _ (aX r p) y I⟩
    . cases e
   | _=>cases e
end
end SM
namespace L2
section
variable{prog:Ri}{w:Rr}{A:Ru}{R:Result->Pa->Prop}{I:Pb}{fp a:Oo Pb}{n:Nat}{P:Nat->Ou->Prop}{d:Nat->Te->Prop}
noncomputable abbrev fQ (b:Ou):Oo (Str×Ou):=[(Str.ofString "default",b)]
def Rv(dv)(E:Walks prog w A.in1 I fp a n P d)(x:Nat->Nat->Bool)(M:CmpOf prog w A.in1 .Lt P x)(S)(T:S∉fp) :
 ∀k j s i c,n-(j+1)=k->j+1<=n->d (j+1) s.heap->P (argBest x j) i->
 s.heap.get? S=ε { cls:=.type "list",dict:=none,data:=.seq #[i,i] c,slots:=#[] }->
 (∀v D C,P (argBest x (n-1)) v->(∀b o,b∉a->b≠S->s.heap.get? b=ε o->D.get? b=ε o)->R (.ok (.ret v)) { s with heap:=D,toks:=C })->
 codeAny (model prog w) A (.builtin "min.loop" ⟨[.ref I,.none,.ref S],fQ dv⟩) R s:=by
 have Q:S∉a:=fun h=>T (E.sub _ h)
 have O:(toString "min" ++ toString ".loop" :String) = "min.loop" :=by decide
 intro k
 induction k with
 | zero=>
  intro j s i c ek Z st H B m;have U:j+1=n:=by omega
  refine Iu F.entry_min_loop ?_;rw[Ia F.plain_min_loop _];show wpAny _ A.in1 (seqItems? (.ref S) >>=_) _ _ s;refine ao (wpAny_seqItems B rfl ?_);show wpAny _ A.in1 (tryCatch (pyNext (.ref I)) _ >>=_) _ _ s;refine ao (wpAny_tryCatch (E.done s _ _ (U ▸ st) fun D C kp=>?_));have g:=kp S _ Q B;show wpAny _ A.in1 (updateSeq S (fun t=>#[]) >>=_) _ _ _;refine ao (Oi g rfl (ao (wpAny_letGo (au ?_))));exact m i _ C (by rw[<- U];exact H) fun b o p ns e=>(xu _ _ (n7 ns)).trans (kp b o p e)
 | succ k ih=>
  intro j s i c ek Z st H B m;have lt:j+1<n:=by omega
  refine Iu F.entry_min_loop ?_;rw[Ia F.plain_min_loop _];show wpAny _ A.in1 (seqItems? (.ref S) >>=_) _ _ s;refine ao (wpAny_seqItems B rfl ?_);show wpAny _ A.in1 (tryCatch (pyNext (.ref I)) _ >>=_) _ _ s;refine ao (wpAny_tryCatch (E.item (j+1) s _ _ lt st fun v D C Y y kp=>?_));have g:=kp S _ Q B;show wpAny _ A.in1 (tryCatch (holding [v,v] (richCompare .Lt v i >>=_)) _ >>=_) _ _ _;refine ao (wpAny_tryCatch (Fe (ao (M (j+1) (argBest x j) v i _ _ _ Y H ?_))));refine ao (Fe (Ga (ao (wpAny_letGo (au ?_)))));cases W:x (j+1) (argBest x j)with
  | true=>
   simp![eO];refine ao (Oi g rfl (ao (wpAny_letGo ?_)));rw[O];refine au ⟨plainId_quiet F.plain_min_loop _,ih (j+1) _ v _ nofun lt (E.frame _ _ _ y fun b L o e=>?_) (by simp![argBest,W,eO];exact Y) (Gs _ g rfl) fun J r f u q=>?_⟩
   . exact(xu _ _ (fun z:S=b=>T (by rw[z];exact L))).trans e
   . exact m J r f u fun b o p ns e=>q b o p ns ((xu _ _ (n7 ns)).trans (kp b o p e))
  | false=>simp![Xo,g8];refine ao (wpAny_letGo ?_);rw[O];refine au ⟨plainId_quiet F.plain_min_loop _,ih (j+1) _ i c nofun lt y (by simp![argBest,W,Xo,g8];exact H) g fun J r f u q=>?_⟩;exact m J r f u fun b o p ns e=>q b o p ns (kp b o p e)
def Gq(J)(i:Walks prog w A.in1 I fp a n P d)(y:Nat->Nat->Bool)(x:CmpOf prog w A.in1 .Lt P y)(S)(k:S∉fp)(E:0<n)(st:d 0 s.heap)
 (H:s.heap.get? S=ε { cls:=.type "list",dict:=none,data:=.seq #[] c,slots:=#[] })
 (u:∀v r C,P (argBest y (n-1)) v->(∀b o,b∉a->b≠S->s.heap.get? b=ε o->r.get? b=ε o)->R (.ok (.ret v)) { s with heap:=r,toks:=C }) :
 codeAny (model prog w) A (.builtin "min.loop" ⟨[.ref I,.none,.ref S],fQ J⟩) R s:=by
 have O:S∉a:=fun h=>k (i.sub _ h)
 have M:(toString "min" ++ toString ".loop" :String) = "min.loop" :=by decide
 refine Iu F.entry_min_loop ?_;rw[Ia F.plain_min_loop _];show wpAny _ A.in1 (seqItems? (.ref S) >>=_) _ _ s;refine ao (wpAny_seqItems H rfl ?_);show wpAny _ A.in1 (tryCatch (pyNext (.ref I)) _ >>=_) _ _ s;refine ao (wpAny_tryCatch (i.item 0 s _ _ E st fun v r C Q j kp=>?_));have g:=kp S _ O H;show wpAny _ A.in1 (updateSeq S (fun t=>#[v,v]) >>=_) _ _ _;refine ao (Oi g rfl ?_);rw[M];refine au ⟨plainId_quiet F.plain_min_loop _,Rv J i y x S k _ 0 _ v _ rfl E (i.frame _ _ _ j fun b p o e=>?_) Q (Gs _ g rfl) fun L q f B m=>?_⟩
 . exact(xu _ _ (fun z:S=b=>k (by rw[z];exact p))).trans e
 . exact u L q f B fun b o D ns e=>m b o D ns ((xu _ _ (n7 ns)).trans (kp b o D e))
end
section
variable{prog:Ri}{w:Rr}{A:Ru}{E:Ou->Pa->Prop}{s:Pa}
def Xx (x d):argsOk "min" ⟨[x],fQ d⟩:=by unfold argsOk;kernel_rfl
def Sv
 (h:wpAny (model prog w) A.in1 (pyIter x) (fun p a=>∃I fp i n P St g,p=.ref I/\Walks prog w A.in1 I fp i n P St/\St 0 a.heap/\(∀b∈fp,b<a.heap.objs.size)/\0<n/\CmpOf prog w A.in1 .Lt P g/\
  ∀v f j,P (argBest g (n-1)) v->(∀b o,b∉i->a.heap.get? b=ε o->f.get? b=ε o)->R v { a with heap:=f,toks:=j }) E s) :
 wpAny (model prog w) A (call (.builtin "min") [x] (fQ d)) R E s:=by
 have r:(toString "min" ++ toString ".loop" :String) = "min.loop" :=by decide
 refine kmk_tree PySem.F.kind_min PySem.F.plain_min PySem.F.entry_min (Xx _ _) ?_;show wpAny _ A.in1 (Builtin.Builtins.bindParams "min" ["key", "default"] 0 ⟨[],fQ d⟩ >>=_) _ _ s;refine ao (wpAny_of_eq (show Builtin.Builtins.bindParams "min" ["key", "default"] 0 ⟨[],fQ d⟩=pure [none,ε d]from rfl) (ao (au ?_)));refine ao (Ii h (fun p a H=>?_) fun z z e=>e);obtain⟨I,fp,i,n,P,St,g,rfl,q,st,B,C,m,k⟩:=H;refine ao (Ba ?_);have y:a.heap.objs.size∉fp:=fun D=>Fi _ (B _ D)
 rw[r];refine au ⟨plainId_quiet F.plain_min_loop _,Gq d q g m a.heap.objs.size y C (q.frame _ _ _ st fun b z o e=>cg _ e) (ju _ rfl) fun v f j J kp=>?_⟩;exact k v f j J fun b o u e=>kp b o u (su (ji e)) (cg _ e)
def Ov(n:A.handled=none)(m:s.heap.IsList l (intItems xs))(f:0<xs.size)
 (h:∀v a d,(intItems xs)[argBest (fun i j=>decide (numAt xs i<numAt xs j)) (xs.size-1)]?=ε v->(∀b o,s.heap.get? b=ε o->a.get? b=ε o)->R v { s with heap:=a,toks:=d }) :
 wpAny (model prog w) A (call (.builtin "min") [.ref l] (fQ p)) R E s:=by
 refine Sv (iter_intList m fun r e st k g=>?_);subst e;refine⟨_,_,_,_,_,_,_,rfl,Walks.list (A:=A.in1) n _ l g (intItems xs),st,k,by simpa[intItems]using f,CmpOf.ints_lt (numAt xs) (fun z z=>intItems_at),fun v a d q kp=>?_⟩;exact h v a d (by simpa[intItems]using q) (old_kept kp)
end
section
variable{X:Cx}{e d:Pu}{c:TA}{b:TE}{p pos kp:Pos}
noncomputable def M8(K:Ra)(c:TA)(b:TE):TE:=fun f H Q=>c f H fun h i=>b f i fun _ g=>∃(q:Pb)(ns:Oo Int),h=[.ref q]/\mv K g q (ns.map V.int)/\ns ≠ []/\∀M,M∈ns->(∀a∈ns,M<=a)->Q (.int M) g
def Vc (T:X.calm=true) (S:Gl X "min") (P:X.mg "min" =none) (i:PA X [e] c) (hd:PE X d b) (he:autoParam (starEach [e] X.env=[(false,eval e X.env)]) Æ) :
 PE X (.Call (.Name "min" p) [e] [⟨ε "default",d,kp⟩] pos) (M8 X.K c b):=by
 intro f s x H Q I h;refine wpAny_Call_Name_kw (BG I S P PyProof.Rows.boot_min ?_);refine callWith_kw ?z1 (by rw[he];rfl) (by rw[he];rfl) rfl rfl;refine CB (i pos f s x H _ I h) fun C D ⟨vs,H1,Y,F,q1⟩=>?z2
 refine kws_cons ?z3;refine CB (hd f D x H1 _ Y q1) fun v s2 ⟨y,Z,r,ry,q2⟩=>?z4
 refine kws_nil ?z5;show wpAny _ _ (call (.builtin "min") C (fQ v)) _ _ _;obtain⟨q,ns,rfl,O,n,o⟩:=q2;obtain⟨u,rfl,E⟩:=qF F;cases E;obtain⟨L,J,pl,hz⟩:=r.list O;obtain⟨g,W,e2⟩:=nO (OJ J);have B:=pl.isList;rw[W]at B;have m:0<g.size:=by
  rcases Nat.eq_zero_or_pos g.size with z | z
  . exfalso;apply n;rw[<- e2];have:g.toList=[]:=eq_nil_of_length_eq_zero (by simpa using z);rw[this];rfl
  . exact z
 refine Ov (r.ok.hd T) B m fun v h' tk M k=>?_
 obtain⟨t,rfl⟩:=intItems_at M;obtain⟨h1,U⟩:=argBest_lt (numAt g) (g.size-1);refine⟨.int _,Z,r.kept k,⟨t,rfl⟩,o _ ?_ fun a i=>?_⟩
 . rw[numAt_eq,<- e2];exact getD_mem (by rw[ni,Aa];omega)
 . rw[<- e2]at i;obtain⟨j,R,rfl⟩:=mem_getD i;rw[ni,Aa]at R;rw[<- numAt_eq];exact U j nofun
end
end L2
namespace SM
def iT(fa b:RE):RE:=fun l h=>(fa l h).bind fun r=>(b l r.2).bind fun q=>(yA q.2 r.1).bind fun a=>(IC a).bind fun ns=>if ns ≠ []then ε (.int (hC ns),q.2)else none
section
variable{X:Cx}{e d:Pu}{fa b:RE}{p pos kp:Pos}
def Jf (E:X.calm=true) (D:Gl X "min") (C:X.mg "min" =none) (F:EM X e fa) (hd:EM X d b) (hs:autoParam (gB e=true) Æ):EM X (.Call (.Name "min" p) [e] [⟨ε "default",d,kp⟩] pos) (iT fa b):=by unhygienic exact PE.imp (Vc E D C (BC F DD (pB hs _ _)) hd (pB hs _ _)) fun Y H Q x=>by obtain⟨u,l,h,dd,h',S,L,e,k⟩:=x;obtain⟨⟨R,j⟩,O,e⟩:=sA e;obtain⟨⟨P,h2⟩,e2,e⟩:=sA e;obtain⟨Z,J,e⟩:=sA e;obtain⟨ns,q,e⟩:=sA e;obtain⟨f,e⟩:=RF e;cases e;refine⟨u,l,h,R,j,S,L,O,fun i v H1 U T o=>⟨i,l,j,P,_,T,L.ext o,e2,fun g v2 W R2 m n=>?_⟩⟩;obtain⟨a,vs,z,sq,r⟩:=yC m (Uo.ext n _ U) J;rw[WF q]at r;rw[r.ci]at sq;obtain⟨B,y⟩:=AL ns f;refine⟨a,ns,by rw[z],sq,f,fun M I g2=>?_⟩;have:M=hC ns:=Int.le_antisymm (g2 _ B) (y M I);rw[this];exact k g _ W (Xu.mpr rfl) m (o.trans n)
end
end SM
namespace L2
noncomputable def EB(ns:Oo Int):Oo Int:=ns.foldl (fun a k=>if a.any (· ==k)then a else a++[k]) []
def vY(ns)(n)(h:n=ns.length):firstMet (fun i=>ns.getD i 0) n=EB ns:=by
 subst h;have e:(List.range ns.length).map (fun i=>ns.getD i 0)=ns:=by
  apply ext_getElem
  . simp
  . intro i b a;simp[a]
 unfold firstMet EB;rw[e];rfl
section
variable{X:Cx}
def Fx (E:X.calm=true):ah X (.type "set") (fun i H Q=>∃q ns,i=[.ref q]/\mv X.K H q (ns.map V.int)/\ns.length+1<4096/\
 ∀p,H p=none->Q (.ref p) (xB H p (.set (fun k=>(EB ns).any (· ==k)) (EB ns).length))):=by
 intro j s F H i J Q I r h;obtain⟨q,ns,rfl,C,M,f⟩:=h;obtain⟨u,rfl,y⟩:=qF r;cases y;obtain⟨d,B,pl,L⟩:=I.list C;have m:=OJ B;have D:d.length=ns.length:=IntsAre.length m;have e:d.toArray.size=ns.length:=by rw[cu,D]
 refine PySem.call_set_list (items:=d.toArray) (ns:=ns) (I.ok.hd E) pl.isList (by simpa using m) (by rw[e];unfold scanBound;omega) fun O x n kp=>?_
 rw[vY ns _ e]at n;exact⟨.ref s.heap.objs.size,_,I.laid (a:=s.heap.objs.size) (o:=.set (fun k=>(EB ns).any (· ==k)) (EB ns).length) (t':=x) (fun b u g=>kp b u (ji g) g) (Va _) n,rfl,f _ (I.hok.fresh (Va _))⟩
def BW:ah X (.builtin "len") (fun d H Q=>∃p S n,d=[.ref p]/\H p=ε (.set S n)/\Q (.int n) H):=by
 intro e s y H d B Q I r h;obtain⟨q,S,n,rfl,i,a⟩:=h;obtain⟨u,rfl,g⟩:=qF r;cases g;obtain⟨o,b,E,t,x,g2,g3,D,C,f,m,k⟩:=(show s.heap.SetOf (intKind X.prog X.w) q S n from I.hok q _ i);subst k;refine call_len_set x g2 g3 m ?_ ⟨.int b.size,H,I.tok _,⟨_,rfl⟩,a⟩;have:b.size<4096:=by unfold scanBound at f;exact f
 have j:(b.size:Int)<4096:=by omega
 exact Int.lt_trans j (by decide)
end
end L2
namespace SM
def aM:Dt->HI->O4 (Dt×HI):=fun d h=>(yA h d).bind fun a=>(IC a).bind fun ns=>if ns.length+1<4096 then ε (.int (EB ns).length,h)else none
section
variable{X:Cx}{e:Pu}{f:RE}{p p' pos pos':Pos}
def jw (y:X.calm=true) (x:Gl X "len") (u:X.mg "len" =none) (i:Gl X "set") (g:X.mg "set" =none) (B:EM X e f) (hs:autoParam (gB e=true) Æ) :
 EM X (.Call (.Name "len" p) [.Call (.Name "set" p') [e] [] pos'] [] pos) (GB aM f):=by
 unhygienic exact PE.imp (RL BW x u PySem.boot_len (BC (FR (Fx y) i g boot_set (BC B DD (pB hs _ _)) (he:=pB hs _ _)) DD rfl)) fun I H Q n=>by obtain⟨m,l,h,d,P,S,L,e,k⟩:=n;obtain⟨⟨D,O⟩,C,e⟩:=sA e;obtain⟨J,e2,e⟩:=sA e;obtain⟨ns,q,e⟩:=sA e;obtain⟨o,e⟩:=RF e;cases e;refine⟨m,l,h,D,_,S,L,C,fun b v R E j F=>?_⟩;obtain⟨a,M,z,sq,r⟩:=yC j E e2;rw[WF q]at r;rw[r.ci]at sq;exact⟨a,ns,by rw[z],sq,o,fun w hw=>⟨w,_,_,rfl,xC,k b _ _ (Xu.mpr rfl) (j.fresh hw) (F.trans (mi.fresh hw))⟩⟩
end
end SM
namespace L2
noncomputable def Mp(lo c:Int)(n:Nat):It:=⟨fun i _=>i<n,fun i H x a=>a=H/\x=.int (lo+(i:Int)*c),fun i _=>n<=i⟩
def Tw{P:Ri}{w:Rr}{K:Ra}{L:Pu}(it:Pb)(lo c:Int)(n:Nat):aH P w K L (Mp lo c n) [it] it (fun i h=>IsRangeIter h it (lo+(i:Nat)*c) ((n:Int)-(i:Nat)) c) where
 mem:=by simp
 obj:=fun i h st b d=>by
  have e:b=it:=by simpa using d
  subst e;exact⟨_,st,fun v z=>by
   have J:Data.fields _=Data.cell v:=z;cases J⟩
 keep:=fun i h j st k=>k it ⋯ _ st
 item:=by
  intro X q hw r p i a s D H E I g st m;subst q hw r;obtain⟨C,B,Q,y,x,u⟩:=g it ⋯;have W:=Walks.range (prog:=X.prog) (w:=X.w) (I.ok.hd p) it lo c n;refine W.item i s _ _ m st fun v j F O f M=>?_
  obtain⟨t,rfl⟩:=O;have S:me X a D H { s with heap:=j,toks:=F }:=I.turned (fun b o d e=>M b o (by simpa using d) e) C B y x u;exact⟨_,rfl,MP (s:={ s with heap:=j,toks:=F }) (n := "range_iterator") f rfl rfl (by decide) ⟨.int (lo+(i:Int)*c),H,S,⟨t,rfl⟩,⟨rfl,rfl⟩,f,fun b d=>(g b d).1⟩⟩
 done:=by intro X q hw r p i a s D H E I g st m;subst q hw r;obtain⟨C,B,Q,y,x,u⟩:=g it ⋯;exact wpAny_pyNext_range_end (I.ok.hd p) st (by have:n<=i:=m;omega) fun j R=>⟨rfl,I.turned (t':=s.toks) (fun b o d e=>R b o d e) C B y x u⟩
 self:=fun _ _ _ _ _ st h=>wpAny_pyIter_rangeiter st h
section
variable{X:Cx}{tg:Pu}
def V5(d:TA):TI:=fun a H R=>d a H fun b e=>∃(i j:Int)(c:Nat),b=[.int i,.int j,.int (c:Int)]/\(0<=i/\i<2^61/\0<=j/\j<2^61/\0<c/\c<1000)/\R (Mp i c ((j-i+(c:Int)-1)/(c:Int)).toNat) e
def bX{c:Nat}(b:0<c):Builtin.Range.rangeSize i j (c:Int)=(((j-i+(c:Int)-1)/(c:Int)).toNat:Int):=by
 have a:(c:Int)>0:=by omega
 unfold Builtin.Range.rangeSize;rw[eG a];by_cases h:i<j
 . rw[eG h,show j-i+(c:Int)-1=(j-i-1)+1*(c:Int) by omega,Int.add_mul_ediv_right _ _ nofun];have:0<=(j-i-1)/(c:Int):=Int.ediv_nonneg nofun nofun;omega
 . rw[eH h];have:(j-i+(c:Int)-1)/(c:Int)<=0:=by have d:(j-i+(c:Int)-1)/(c:Int)<1:=Int.ediv_lt_of_lt_mul nofun nofun;omega
   omega
def Mx{c:Nat}(q:0<=i/\i<2^61/\0<=j/\j<2^61/\0<c/\c<1000):Builtin.Range.small i j (c:Int)=true:=by
 obtain⟨m,k,h,g,b,f⟩:=q;have a:(c:Int)>0:=by omega
 have sz:Builtin.Range.rangeSize i j (c:Int)<=2^61+1/\0<=Builtin.Range.rangeSize i j (c:Int):=by
  rw[bX b];refine⟨?_,by omega⟩;have e:(j-i+(c:Int)-1)/(c:Int)<2^61+1:=Int.ediv_lt_of_lt_mul nofun (by
   have:(2^61+1:Int)*(c:Int)=2^61*(c:Int)+(c:Int):=by rw[Int.add_mul,Int.one_mul]
   have d:(2^61:Int)*1<=2^61*(c:Int):=Int.mul_le_mul_of_nonneg_left nofun (by decide);omega)
  omega
 unfold Builtin.Range.small;simp![Builtin.Range.rangeFitsLong,w6,Bool.or_eq_true,decide_eq_true_eq,beq_iff_eq,a,eO];omega
def jk (L:Gl X "range") (J:X.mg "range" =none) (O:PA X [a,b,d] B) (hs:starEach [a,b,d] X.env=[(false,eval a X.env),(false,eval b X.env),(false,eval d X.env)]) (n:starEach [b,d] X.env=[(false,eval b X.env),(false,eval d X.env)]) :
 PI X tg (.Call (.Name "range" p) [a,b,d] [] pos) (V5 B):=by
 intro g s y H R I h;refine Call_ (BG I L J boot_range (PyProof.Rows.callWith_type1 (CB (O pos g s y H _ I h) fun U k D=>?_) (by rw[hs,n]) (by rw[n];rfl)));obtain⟨T,C,S,E,q1⟩:=D;obtain⟨i,j,c,e,qq,q⟩:=q1;subst e;cases E with
 | cons r m=>
  cases m with
  | cons F m=>
   cases m with
   | cons u m=>
    cases m;obtain⟨t,rfl⟩:=r;obtain⟨t',rfl⟩:=F;obtain⟨f,rfl⟩:=u;have Q:=qq.2.2.2.2.1;have W:=qq.2.2.2.2.2;refine call_range_3 (show((c:Nat):Int)≠0 by omega) ?_ (Or.inl (PyProof.noPylong_small nofun));refine wpAny_pyIter_range (IsRange.new ..) (Mx qq) ?_;have x:me X g y C { k with heap:=k.heap.push { cls:=.type "range",data:=.fields #[.int i t,.int j t',.int (c:Int) f] },toks:=k.toks }:=S.kept fun b o e=>cg _ e
    refine⟨(k.heap.push { cls:=.type "range",data:=.fields #[.int i t,.int j t',.int (c:Int) f] }).objs.size,[(k.heap.push { cls:=.type "range",data:=.fields #[.int i t,.int j t',.int (c:Int) f] }).objs.size],_,_,C,rfl,
     x.kept (t':=k.toks) fun b o e=>cg _ e,Tw _ i c ((j-i+(c:Int)-1)/(c:Int)).toNat,?_,fun b M=>?_,q⟩
    . have P:i+((0:Nat):Int)*(c:Int)=i:=by simp
      have e2:((((j-i+(c:Int)-1)/(c:Int)).toNat:Nat):Int)-((0:Nat):Int)=Builtin.Range.rangeSize i j (c:Int):=by rw[bX Q];omega
      show IsRangeIter _ _ (i+((0:Nat):Int)*(c:Int)) (((((j-i+(c:Int)-1)/(c:Int)).toNat:Nat):Int)-((0:Nat):Int)) (c:Int);rw[P,e2];exact ju _ rfl
    . have e:b=(k.heap.push { cls:=.type "range",data:=.fields #[.int i t,.int j t',.int (c:Int) f] }).objs.size:=by simpa using M
      subst e;exact x.cy (Va _) (x.hok.fresh (Va _))
end
end L2
namespace SM
noncomputable def P1(f g:RE)(c:Nat):RI:=fun l h=>(f l h).bind fun r=>(g l r.2).bind fun q=>match r.1,q.1 with
 | .int i,.int j=>if 0<=i/\i<2^61/\0<=j/\j<2^61/\0<c/\c<1000 then ε (.vals ((List.range ((j-i+(c:Int)-1)/(c:Int)).toNat).map fun(k:Nat)=>Dt.int (i+(k:Int)*(c:Int))),q.2)else none | _,_=>none
noncomputable def GD:vD:=fun a b h=>match a,b with
 | .tup xs,.tup ys=>if xs ≠ []/\xs.length+ys.length<=sizeLine then ε (.tup (xs++ys),h)else none
 | _,_=>none
noncomputable def KE(f:Str)(v:Dt):Oo (Str×Dt)->Oo (Str×Dt)
 | []=>[(f,v)]
 | (g,x)::r=>if g=f then(g,v)::r else(g,x)::KE f v r
noncomputable def sD(f:Str):Oo (Str×Dt)->O4 Dt
 | []=>none
 | (g,x)::r=>if f=g then ε x else sD f r
def nG(x f:Str)(fo:RE):RE:=fun l h=>(fo l h).bind fun r=>match r.1 with
 | .ref n=>(match r.2[n]? with
  | some (.ins y fs)=>if y=x then(sD f fs).bind fun d=>ε (d,r.2)else none
  | _=>none)
 | _=>none
def MI(x f:Str)(fo fe:RE):RS:=fun l h=>(fe l h).bind fun r=>(fo l r.2).bind fun q=>match q.1 with
 | .ref n=>(match q.2[n]? with
  | some (.ins y fs)=>if y=x/\fs.length<1000 then ε (.nx l (q.2.set n (.ins y (KE f r.1 fs))))else none
  | _=>none)
 | _=>none
noncomputable def HP(x:Str)(F:rB)(g:RA):RE:=fun l h=>(g l h).bind fun r=>(F (.ref r.2.length::r.1) (r.2++[.ins x []])).bind fun q=>match q.1 with
 | .non=>ε (.ref r.2.length,q.2)
 | _=>none
def NI(x m:Str)(F:rB)(fo:RE)(g:RA):RE:=fun l h=>(fo l h).bind fun r=>match r.1 with
 | .ref n=>(match r.2[n]? with
  | some (.ins y fs)=>if y=x/\sD m fs=none then(g l r.2).bind fun q=>F (.ref n::q.1) q.2 else none
  | _=>none)
 | _=>none
section
variable{X:Cx}{tg:Pu}
def Av {c:Nat} (T:Gl X "range") (Q:X.mg "range" =none) (W:EM X a f) (U:EM X b g) (hd:EM X d (eC (.int (c:Int)))) (hs:autoParam (gB a=true) Æ) (o:autoParam (gB b=true) Æ) (m:autoParam (gB d=true) Æ) :
 IM X tg (.Call (.Name "range" p) [a,b,d] [] pos) (P1 f g c):=by
 unhygienic
  exact PI.imp (jk T Q (BC W (BC U (BC hd DD (pB m _ _)) (pB o _ _)) (pB hs _ _)) (by rw[pB hs,pB o,pB m];rfl) (by rw[pB o,pB m];rfl)) fun σ H R P=>by
   obtain⟨O,l,h,s,h',S,L,e,k⟩:=P;obtain⟨⟨I,E⟩,Y,e⟩:=sA e;obtain⟨⟨F,C⟩,e2,e⟩:=sA e;refine⟨O,l,h,I,E,S,L,Y,fun B v H1 R1 S1 D=>⟨B,l,E,F,C,S1,L.ext D,e2,fun y u H2 R2 S2 J=>⟨y,l,C,.int (c:Int),C,S2,L.ext (D.trans J),rfl,fun x u3 H3 R3 S3 E3=>?_⟩⟩⟩;cases I with
   | int i=>
    cases F with
    | int j=>
     obtain⟨Z,e⟩:=RF e;cases e;refine⟨i,j,c,by rw[Xu.mp R1,Xu.mp R2,Xu.mp R3],Z,k x _ H3 (fun H4 M h4 E4 S4 n=>?_) S3 (D.trans (J.trans E3))⟩;simp![mo.at,w5];by_cases r:n<((j-i+(c:Int)-1)/(c:Int)).toNat
     . rw[Oa r];refine⟨r,fun v H5 q=>?_⟩;obtain⟨rfl,rfl⟩:=q;exact⟨Xu.mpr rfl,mi.refl _ _,S4⟩
     . rw[lu (by simpa using Jo.mp r)];exact Jo.mp r
    | _=>cases e
   | _=>cases e
def rH:OM X (binaryOp .Add) GD:=by
 unhygienic
  exact mx.imp Wh fun x y H Q o=>by
   obtain⟨i,h,I,F,d,L,S,n,R2,e,k⟩:=o;cases I with
   | tup J=>
    cases F with
    | tup r=>
     obtain⟨⟨E,C⟩,e⟩:=RF e;cases e;obtain⟨a,B,j,q1,g⟩:=bc.mp n;obtain⟨b,u,q,q2,f⟩:=bc.mp R2;refine⟨a,b,B,u,j,q,q1.sq,q2.sq,fun z=>?_,by rw[g.length,f.length];exact C,fun z=>?_,fun z p hp=>k i _ _ (JI S (g.append f) hp) (S.fresh hp) (mi.fresh hp)⟩
     . have:=g.length;rw[z]at this;exact E (length_eq_zero_iff.mp this.symm)
     . have m:=f.length;rw[z]at m;have D:r=[]:=length_eq_zero_iff.mp m.symm;subst D;rw[Ve]at k;exact k i _ _ (j ▸ n) S (mi.refl _ _)
    | _=>cases e
   | _=>cases e
end
def NP(f:RE):RI:=fun l h=>(f l h).bind fun r=>match r.1 with
 | .lst a=>ε (.vals (OI 0 a),r.2)
 | .ref n=>(match r.2[n]? with
  | some (.lst _)=>ε (.en n,r.2)
  | _=>none)
 | _=>none
theorem Nt {x1} (hg:Gl X "enumerate") (hm:X.mg "enumerate" =none) (ha:EM X a f) (hs:autoParam (gB a=true) Æ):IM X (.Tuple B x1 tp) (.Call (.Name "enumerate" p) [a] [] pos) (NP f):=by
 unhygienic
  refine PI.imp (Wc hg hm (BC ha DD (pB hs _ _)) (pB hs _ _)) fun σ H R zz=>?_
  obtain⟨ρ,l,h,s,h',S,L,e,k⟩:=zz;obtain⟨⟨U,D⟩,e1,e⟩:=sA e;refine⟨ρ,l,h,U,D,S,L,e1,fun x v Y W P Z=>?_⟩;cases U with
  | lst I=>
   cases e;obtain⟨b,g,rfl,q,r⟩:=cn.mp W;refine⟨b,rfl,⟨g,q.sq⟩,k x _ Y (fun H2 F D E m i=>?_) P Z⟩;have q2:=q.same E;have r2:=Ue.same E _ r;simp![mo.at,eW,Ao];cases C:I[i]? with
   | none=>refine⟨g,q2.sq,?_⟩;rw[r.length];exact Eu.mp C
   | some d=>obtain⟨v,j,g2⟩:=r2.get C;refine⟨⟨g,v,q2.sq,j⟩,fun u H3 y=>?_⟩;obtain⟨p0,y0,hp,rfl,O,rfl⟩:=y;have g3:=O g q2.sq;rw[j]at g3;cases g3;exact⟨JI m (.cons (Xu.mpr rfl) (.cons g2 .nil)) hp,mi.fresh hp,m.fresh hp⟩
  | ref n=>
   dsimp only at e;split at e
   . rename_i a0 q0;cases e;obtain⟨b,rfl,Q⟩:=al.mp W;obtain⟨J,g0,_⟩:=P.lst Q q0;refine⟨b,rfl,⟨J,mv.of g0⟩,k x _ Y (fun H2 F D E m i=>?_) P Z⟩;have M:=E.ix _ _ Q;simp![mo.at];cases q:D[n]? with
     | none=>trivial
     | some o=>
      cases o with
      | lst I=>
       obtain⟨g,j,r⟩:=m.lst M q;dsimp only;cases C:I[i]? with
       | none=>refine⟨g,mv.of j,?_⟩;rw[r.length];exact Eu.mp C
       | some d=>obtain⟨v,g2,g3⟩:=r.get C;refine⟨⟨g,v,mv.of j,g2⟩,fun u H3 y=>?_⟩;obtain⟨p0,y0,hp,rfl,O,rfl⟩:=y;have T:=O g (mv.of j);rw[g2]at T;cases T;exact⟨JI m (.cons (Xu.mpr rfl) (.cons g3 .nil)) hp,mi.fresh hp,m.fresh hp⟩
      | _=>trivial
   . cases e
  | _=>cases e
def wQ[Decidable c]{a:Type}{x:O4 a}{b:a}(e:(if c then x else none)=ε b):c/\x=ε b:=by
 by_cases h:c
 . rw[eG h]at e;exact⟨h,e⟩
 . rw[eH h]at e;cases e
def ny(K:Ra)(x:Str)(C:Pb):Prop:=nsIn K mainGlobals x=ε (ε (.ref C))
def ny.inj{K:Ra}{x:Str}{C C':Pb}(h:ny K x C)(h':ny K x C'):C=C':=by have:=h.symm.trans h';cases this;rfl
theorem zS{K:Ra}:∀{fs:Oo (Str×Dt)}{vs:Oo (Str×V)},fs.map (·.1)=vs.map (·.1)->Ue K H ρ (fs.map (·.2)) (vs.map (·.2))->
 (∀d,sD f fs=ε d->∃v,vs.lookup f=ε v/\Uo K H ρ d v)/\(sD f fs=none->vs.lookup f=none)
 | [],[],_,_=>⟨(fun t h=>by cases h),fun t=>rfl⟩
 | [],_::_,e,_=>by cases e
 | _::_,[],e,_=>by cases e
 | (x,d)::fs,(y,v)::vs,e,r=>by
  simp![Uu,Ni]at e;obtain⟨o,e⟩:=e;subst o;obtain⟨p,u,q,n,m⟩:=Ue.ab r;cases q;obtain⟨k,j⟩:=zS (f:=f) e m;by_cases z:f=x
  . have a:(f==x)=true:=beq_iff_eq.mpr z;refine⟨fun b h=>?_,fun h=>?_⟩
    . simp![sD,eG z]at h;cases h;exact⟨v,by simp![List.lookup,a],n⟩
    . simp![sD,eG z]at h;cases h
  . have a:(f==x)=false:=by rw[<- Bool.not_eq_true,beq_iff_eq];exact z
    refine⟨fun b h=>?_,fun h=>?_⟩
    . simp![sD,eH z]at h;obtain⟨w,i,g⟩:=k b h;exact⟨w,by simp![List.lookup,a];exact i,g⟩
    . simp![sD,eH z]at h;simp![List.lookup,a];exact j h
theorem oX{K:Ra}(a:Uo K H ρ d v):∀{fs:Oo (Str×Dt)}{vs:Oo (Str×V)},fs.map (·.1)=vs.map (·.1)->Ue K H ρ (fs.map (·.2)) (vs.map (·.2))->
 (KE f d fs).map (·.1)=(L2.yB f v vs).map (·.1)/\Ue K H ρ ((KE f d fs).map (·.2)) ((L2.yB f v vs).map (·.2))
 | [],[],_,_=>⟨rfl,.cons a .nil⟩
 | [],_::_,e,_=>by cases e
 | _::_,[],e,_=>by cases e
 | (x,d0)::fs,(y,v0)::vs,e,r=>by
  simp![Uu,Ni]at e;obtain⟨j,e⟩:=e;subst j;obtain⟨k,m,q,i,b⟩:=Ue.ab r;cases q;by_cases z:x=f
  . simp![KE,L2.yB,eG z,Uu];exact⟨by rw[e],.cons a b⟩
  . obtain⟨h,g⟩:=oX a (f:=f) e b;simp![KE,L2.yB,eH z,Uu];exact⟨by rw[h],.cons i g⟩
structure AS(K:Frag)(x f:Str):Prop where
 ex:∃C,ny K x C/\Cls K C/\du K C f
structure AH(P:Program)(w:World)(K:Frag)(mg:Str->Option Value)(base:Heap)(k n:Nat)(x m:Str)(F:rB):Prop where
 ex:∃C f fd ps,ny K x C/\Cls K C/\gN K C m f/\ai P w K mg base lG k f fd ps (nJ K n F)/\mw K fd ps []
 len:∀ds h r,F ds h=ε r->ds.length=n
structure CS(K:Frag)(x m qual:Str)(st:Stmt)(ps:List Str):Prop where
 ex:∃C f fd,ny K x C/\Cls K C/\gN K C m f/\Fun K m qual st f fd/\mw K fd ps []
structure lQ(P:Program)(w:World)(K:Frag)(mg:Str->Option Value)(base:Heap)(k n:Nat)(x:Str)(F:rB):Prop where
 ex:∃C f fd ps,ny K x C/\Mk K C f/\ai P w K mg base lG k f fd ps (nJ K n F)/\mg x=ε (.ref C)/\mw K fd ps []
 len:∀ds h r,F ds h=ε r->ds.length=n
structure YY(K:Frag)(mg:Str->Option Value)(x qual:Str)(st:Stmt)(ps:List Str):Prop where
 ex:∃C f fd,ny K x C/\Mk K C f/\Fun K "__init__" qual st f fd/\mg x=ε (.ref C)/\mw K fd ps []
section
variable{P:Ri}{w:Rr}{K:Ra}{b:Str->O4 Ou}{a:Te}
def AY{st:Ro}(D:CS K x m d st ps)(S:Za N ps (oB st))(o:ps.length=n)(p:N.length=i)
 (q:∀f g A outer s H E,Ys k (A.deeper (envOfC d (oB st) s.heap.objs.size f g))->
  aI (iF lG P w K b a N d (oB st) f g A outer s H E).nox (bD st) body):AH P w K b a (k+1) n x m (QB n i body):=by
 unhygienic subst o p;obtain⟨C,f,B,J,I,F,u,y⟩:=D.ex;exact⟨⟨C,f,B,ps,J,I,F,KP u S fun g A outer s H E j=>q f g A outer s H E j,y⟩,fun ds h r e=>aP e⟩
def Ar{st:Ro}(D:CS K x m g st ps):AH P w K b a k n x m (fun z z=>none):=by
 unhygienic
  obtain⟨C,f,u,F,B,y,R,p⟩:=D.ex;refine⟨⟨C,f,u,ps,F,B,y,⟨fun o H Q E h=>?_,fun A outer s H i I o Q E L M O J h=>?_⟩,p⟩,fun ds h r e=>by cases e⟩
  . obtain⟨j,ds,h,d,q,_,_,_,e,_⟩:=h;cases e
  . obtain⟨j,ds,h,d,q,_,_,_,e,_⟩:=h;cases e
def Zt{st:Ro}(D:YY K b x d st ps)(S:Za N ps (oB st))(m:ps.length=n)(o:N.length=i)
 (p:∀f g A outer s H E,Ys k (A.deeper (envOfC d (oB st) s.heap.objs.size f g))->
  aI (iF lG P w K b a N d (oB st) f g A outer s H E).nox (bD st) body):lQ P w K b a (k+1) n x (QB n i body):=by
 unhygienic subst m o;obtain⟨C,f,y,I,F,q,B,u⟩:=D.ex;exact⟨⟨C,f,y,ps,I,F,KP q S fun g A outer s H E j=>p f g A outer s H E j,B,u⟩,fun ds h r e=>aP e⟩
end
def V1(h:H a=ε (.ins C b vs)):JT H a:=fun q q e=>by rw[h]at e;cases e
section
variable{X:Cx}{e o b:Pu}{s:Oo Pu}{x f m:Str}{fo fe:RE}{g:RA}{pos j i p:Pos}{k t n:Nat}{F:rB}
theorem uM(cl:AS X.K x f)(u:EM X e fo)(U:autoParam (attributeBase e f X.env (eval e X.env)=eval e X.env) Æ):EM X (.Attribute e f pos) (nG x f fo):=by
 unhygienic
  exact PE.imp (jl u U) fun σ H Q J=>by
   obtain⟨I,l,h,d,h',S,L,e,k⟩:=J;obtain⟨⟨B,W⟩,e1,e⟩:=sA e;refine⟨I,l,h,B,W,S,L,e1,fun r v H1 R1 D E1=>?_⟩;cases B with
   | ref n=>
    dsimp only at e;split at e
    . rename_i y fs q;obtain⟨T,e3⟩:=wQ e;subst T;obtain⟨d2,q2,Z⟩:=sA e3;cases Z;obtain⟨a,z,u⟩:=al.mp R1;obtain⟨C,dx,P,c1,Y,g2,g3⟩:=D.ob n a _ u q;obtain⟨E,c2,c3,c4⟩:=cl.ex;have cc:E=C:=ny.inj c2 c1;subst cc;obtain⟨R,O,M⟩:=(zS g2 g3).1 _ q2;exact⟨a,E,dx,P,R,z,Y,c3,c4,O,k r _ _ M D E1⟩
    . cases e
   | _=>cases e
set_option tactic.hygienic true in
theorem rP(cl:AS X.K x f)(E:EM X o fo)(J:EM X b fe)(hs:autoParam (swapsWith b (ε (.Attribute o f j)) pos.line X.env=pure false) Æ):ZM X (.Assign [.Attribute o f j] b pos) (MI x f fo fe):=by
 unhygienic
  exact PS.imp (Zn E J hs) fun D σ H P=>by
   obtain⟨ρ,l,h,r,S,L,e,k⟩:=P;obtain⟨⟨v,J⟩,e1,e⟩:=sA e;obtain⟨⟨d,hd⟩,e2,e⟩:=sA e;refine⟨ρ,l,h,v,J,S,L,e1,fun O u H1 R1 S1 T=>⟨O,l,J,d,hd,S1,L.ext T,e2,fun M y H2 R2 S2 R=>?_⟩⟩;cases d with
   | ref n=>
    dsimp only at e;split at e
    . rename_i y fs q;obtain⟨⟨hy,hl⟩,e⟩:=RF e;cases e;subst hy;obtain⟨a,P,E⟩:=al.mp R2;obtain⟨C,Y,W,Z,I,g2,g3⟩:=S2.ob n a _ E q;obtain⟨U,c2,c3,c4⟩:=cl.ex;have cc:U=C:=ny.inj c2 Z;subst cc;have Q:=m6 E;have B:W.length=fs.length:=by have:=congrArg List.length g2;simpa using this.symm
      obtain⟨p1,p2⟩:=oX (f:=f) (Uo.ext R _ R1) g2 g3;refine⟨a,U,Y,W,P,I,c3,c4,by rw[B];exact hl,?_⟩;exact k M σ _ (S2.write E (V1 I) ⟨U,Y,_,Z,xC,p1,p2.ext (mi.write Q (V1 I))⟩) (L.ext (T.trans (R.trans (mi.write Q (V1 I))))) (T.trans (R.trans (mi.write Q (V1 I))))
    . cases e
   | _=>cases e
def Gf (c:lQ X.prog X.w X.K X.mg X.base k n x F) (hr:Ys t X.A) (hk:k+1<=t) (hg:Gl X x) (ha:AM X (e::s) g) (P:autoParam ((x==("__debug__" :Str))=false) Ñ)
 (he:autoParam (gB e=true) Æ) (hpl:autoParam (s.all gB=true) Æ):EM X (.Call (.Name x p) (e::s) [] pos) (HP x F g):=by
 unhygienic
  obtain⟨C,f,fd,ps,c1,c2,c3,c4,c5⟩:=c.ex;exact PE.imp (Rc c2 c3 (hr.mono hk) hg c4 c5 .nil (E:=E0) vT ha P (pB he _ _) (wI hpl)) fun σ H Q Y=>by
   obtain⟨W,l,h,d,h',S,L,e,k⟩:=Y;obtain⟨⟨B,J⟩,e1,e⟩:=sA e;obtain⟨⟨d2,h2⟩,e2,e⟩:=sA e;cases d2 with
   | non=>
    cases e;refine⟨W,l,h,B,J,S,L,e1,fun a Z I R1 R E1 xa q hx y O=>?_⟩;have S2:Vs X.K a J (xB I q (.own xa)):=R.fresh y;have r:xB I q (.own xa) xa=none:=by rw[aB (n7 O)];exact hx
    have S3:=S2.own (p:=xa) (o:=.ins C q []) (u:=.ins x []) r ⟨C,q,[],c1,xC,rfl,.nil⟩;have T:mi a (a.add xa) I (xB (xB I q (.own xa)) xa (.ins C q [])):=(mi.fresh y).trans (mi.own r);have D:(a.add xa).v[J.length]?=ε xa:=by simp[Rg.add,<- R.len]
    have R3:Ue X.K (xB (xB I q (.own xa)) xa (.ins C q [])) (a.add xa) (.ref J.length::B) (.ref xa::(Z++[])):=.cons (al.mpr ⟨xa,rfl,D⟩) (by rw[Ve];exact R1.ext T);exact⟨a.add xa,_,_,.non,h2,S3,R3,c.len _ _ _ e2,e2,fun M v H' R' S' U=>⟨bt.mp R',k M _ H' (al.mpr ⟨xa,rfl,U.get D⟩) S' (E1.trans (T.trans U))⟩⟩
   | _=>cases e
theorem bS(c:AH X.prog X.w X.K X.mg X.base k n x m F)(hr:Ys t X.A)(hk:k<=t)(ho:EM X o fo)(B:AM X (e::s) g)
 (he:autoParam (gB e=true) Æ) (hpl:autoParam (s.all gB=true) Æ)
 (ht:eval (.Call (.Attribute o m i) (e::s) [] pos) X.env=(do
  let ov <- eval o X.env
  standAt i.atName
  let (f,first) <- holding [ov] (getMethod ov m pl)
  callWith pos f first (backTo pos (starEach (e::s) X.env)) (backToKw pos (keywordEach [] X.env))):=by rfl):EM X (.Call (.Attribute o m i) (e::s) [] pos) (NI x m F fo g):=by
 unhygienic
  obtain⟨C,f,fd,ps,c1,c2,c3,c4,c5⟩:=c.ex;exact PE.imp (Uc (pl:=pl) ho c2 c3 c4 (hr.mono hk) c5 .nil (E:=E0) vT B (pB he _ _) (wI hpl) ht) fun σ H Q Y=>by
   obtain⟨W,l,h,d,h',S,L,e,k⟩:=Y;obtain⟨⟨O,J⟩,e1,e⟩:=sA e;refine⟨W,l,h,O,J,S,L,e1,fun u v H1 R P U=>?_⟩;cases O with
   | ref nn=>
    dsimp only at e;split at e
    . rename_i y fs q;obtain⟨⟨hy,hl⟩,e3⟩:=wQ e;subst hy;obtain⟨⟨ds,I⟩,e2,M⟩:=sA e3;obtain⟨a,z,B⟩:=al.mp R;obtain⟨C',dx,Z,D,g1,g2,g3⟩:=P.ob nn a _ B q;have cc:C'=C:=ny.inj D c1;subst cc;refine⟨a,dx,Z,z,g1,(zS g2 g3).2 hl,u,l,J,ds,I,P,L.ext U,e2,fun r us H2 R2 S2 T=>?_⟩;exact⟨r,_,I,d,h',S2,.cons (Uo.ext T _ R) (by rw[Ve];exact R2),c.len _ _ _ M,M,(k.ext U).ext T⟩
    . cases e
   | _=>cases e
end
structure kQ(K:Frag)(x qual:Str)(st:Stmt)(dV:Value)(f:Addr)(fd:FuncData):Prop where
 ex:∃(oc:Value)(od:Option Addr)(kV doc pm:Value)(an:Option Addr)(cdv ct:Value)(osl:Array (Option Value)),
  fd=fnOf x qual (aF st) (bD st) (oB st) dV kV doc pm an cdv ct/\K.lookup f=ε ⟨oc,od,.func fd,osl⟩/\PySem.W.codeIn K cdv qual=true
 kp:keepIn K (.ref f)=true
section
variable{P:Ri}{w:Rr}{K:Ra}{mg:Str->O4 Ou}{base:Te}
def Ft{st:Ro}{kV d g b ct:Ou}(l:K.lookup f=ε ⟨j,od,.func (fnOf x a (aF st) (bD st) (oB st) h kV d g i b ct),e⟩)
 (c:PySem.W.codeIn K b a=true) (k:keepIn K (.ref f)=true):kQ K x a st h f (fnOf x a (aF st) (bD st) (oB st) h kV d g i b ct):=⟨⟨j,od,kV,d,g,i,b,ct,e,rfl,l,c⟩,k⟩
theorem Xl{st:Ro}(F:kQ K x a st J f n)(S:Za N ps (oB st))
 (B:∀b A outer s H E,Ys k (A.deeper (envOfC a (oB st) s.heap.objs.size f b))->
  aI (iF lG P w K mg base N a (oB st) f b A outer s H E).nox (bD st) body):ai P w K mg base lG (k+1) f n ps (nJ K ps.length (QB ps.length N.length body)):=by
 unhygienic
  obtain⟨W,U,kV,I,T,an,b,ct,r,rfl,u,m⟩:=F.ex;refine D0 u m S (fun p H Q E h=>?_) fun A outer s H p Q E y h=>?_
  . obtain⟨j,ds,h,d,D,S,R,g,_⟩:=h;rw[R.length,g]
  . obtain⟨j,ds,h,d,D,S,R,g,e,k⟩:=h;refine⟨_,(B b A outer s H E y).nox,?_⟩;unfold QB at e;rw[eG g]at e;rw[<- g]at e;split at e
    . rename_i Z C q;cases e;exact⟨j,_,h,_,S,zO R,q,k⟩
    . rename_i Y C q;cases e;exact⟨j,_,h,_,S,zO R,q,fun i o M L L' O=>k i _ M (bt.mpr rfl) L O⟩
    . cases e
structure jQ(K:Frag)(mg:Str->Option Value)(x:Str)(st:Stmt)(ps:List Str)(dds:List Dt):Prop where
 ex:∃dV f fd ds dvs,kQ K x x st dV f fd/\mg x=ε (.ref f)/\mw K fd ps ds/\mf dvs ds/\∀H ρ,Ue K H ρ dds dvs
structure dN(P:Program)(w:World)(K:Frag)(mg:Str->Option Value)(base:Heap)(k n:Nat)(x:Str)(F:rB)(dds:List Dt):Prop where
 ex:∃f fd ps ds dvs,ai P w K mg base lG k f fd ps (nJ K n F)/\mg x=ε (.ref f)/\keepIn K (.ref f)=true/\mw K fd ps ds/\mf dvs ds/\∀H ρ,Ue K H ρ dds dvs
 len:∀ds h r,F ds h=ε r->ds.length=n
def Nr{st:Ro}(D:jQ K mg x st ps dds)(S:Za N ps (oB st))(i:ps.length=n)(j:N.length=m)
 (o:∀f a A outer s H E,Ys k (A.deeper (envOfC x (oB st) s.heap.objs.size f a))->
  aI (iF lG P w K mg base N x (oB st) f a A outer s H E).nox (bD st) body):dN P w K mg base (k+1) n x (QB n m body) dds:=by
 unhygienic subst i j;obtain⟨C,f,B,ds,b,d,y,u,q,p⟩:=D.ex;exact⟨⟨f,B,ps,ds,b,Xl d S fun a A outer s H E g=>o f a A outer s H E g,y,d.kp,u,q,p⟩,fun ds h r e=>aP e⟩
end
section
variable{X:Cx}{k d n:Nat}{F:rB}{x:Str}{p pos:Pos}{e:Pu}{b:Oo Pu}{g:RA}{a:Oo Dt}
def Jg (c:dN X.prog X.w X.K X.mg X.base k n x F a) (j:Ys d X.A) (m:k<=d) (o:Gl X x) (u:AM X (e::b) g) (i:autoParam ((x==("__debug__" :Str))=false) Ñ)
 (he:autoParam (gB e=true) Æ) (hpl:autoParam (b.all gB=true) Æ) :
 EM X (.Call (.Name x p) (e::b) [] pos) (rA F a g):=by
 unhygienic obtain⟨f,L,J,ds,I,H,E,D,C,B,y⟩:=c.ex;exact rX H (j.mono m) o E D C B y u (fun M e ds h r q=>c.len ds h r (e ▸ q)) i he hpl
end
def nB(K:Ra)(x:Str)(st:Ro):Prop:=∃(f:Pb)(g:Ou)(e:O4 Pb)(kV dc d:Ou)(h:O4 Pb)(a ct:Ou)(b:Ss (O4 Ou)),nsIn K mainGlobals x=ε (ε (.ref f))/\
 K.lookup f=ε ⟨g,e,.func (fnOf x x (aF st) (bD st) (oB st) .none kV dc d h a ct),b⟩/\PySem.W.codeIn K a x=true/\keepIn K (.ref f)=true
def VZ(K:Ra)(x:Str)(st:Ro)(d:Int):Prop:=∃(f:Pb)(j:Ou)(i:O4 Pb)(a:Pb)(kV dc h:Ou)(m:O4 Pb)(e ct:Ou)(g:Ss (O4 Ou))(b:Obj)(t:Tok)(k:Nat),nsIn K mainGlobals x=ε (ε (.ref f))/\
 K.lookup f=ε ⟨j,i,.func (fnOf x x (aF st) (bD st) (oB st) (.ref a) kV dc h m e ct),g⟩/\PySem.W.codeIn K e x=true/\keepIn K (.ref f)=true/\K.lookup a=ε b/\b.data=.seq #[.int d t] k
def BM(K:Ra)(C:Pb)(m a:Str)(st:Ro):Prop:=∃(f:Pb)(h:Ou)(g:O4 Pb)(kV dc e:Ou)(i:O4 Pb)(b ct:Ou)(d:Ss (O4 Ou)),findIn K (.ref C) m=ε (ε (.ref f))/\PySem.W.isFn K (.ref f)=true/\
 K.lookup f=ε ⟨h,g,.func (fnOf m a (aF st) (bD st) (oB st) .none kV dc e i b ct),d⟩/\PySem.W.codeIn K b a=true/\keepIn K (.ref f)=true
structure fN(K:Frag)(x:Str)(C:Addr):Prop where
 ac:nsIn K mainGlobals x=ε (ε (.ref C))
 pg:PySem.W.plainGet K C Str.empty=true
 hd:PySem.W.hasDictIn K C=true
 po:PySem.W.plainOver K C=true
 sa:findIn K (.ref C) "__setattr__" =ε (ε (.builtin "object.__setattr__"))
 mkk:PySem.W.makesIn K C=true
 kc:keepIn K (.ref C)=true
section
variable{K:Ra}{h:Te}{b:Str->O4 Ou}{x m qual:Str}{st:Ro}{ps:Oo Str}{C:Pb}{d:Int}
def LG(X:K.In h)(G:h.Ns mainGlobals b)(D:nB K x st)(n:∀kV e i j g ct us,us.length=ps.length->bindArgs (fnOf x x (aF st) (bD st) (oB st) .none kV e i j g ct) ⟨us,[]⟩=pure (ps.zip us)):pT K b x st ps:=by obtain⟨f,q,p,kV,dc,i,j,r,ct,o,a,l,c,k⟩:=D;have F:=yP l c k;exact⟨⟨f,_,F,PySem.W.mg_of X G a,F.binds n⟩⟩
def Wr(X:K.In h)(G:h.Ns mainGlobals b)(D:VZ K x st d)(u:∀s e g t i kV j o p n ct us,us.length=ps.length->s.heap.get? e=ε g->g.data=.seq #[.int d t] i->BindsTo s (fnOf x x (aF st) (bD st) (oB st) (.ref e) kV j o p n ct) ⟨us,[]⟩ (ps.zip (us++[]))):jQ K b x st ps []:=by obtain⟨f,F,E,e,kV,dc,o,p,H,ct,B,g,t,i,a,l,c,k,q,e2⟩:=D;exact⟨⟨_,f,_,[],[],Ft l c k,PySem.W.mg_of X G a,fun s us y r=>u s e g t i _ _ _ _ _ _ us (by simpa using r) (y _ _ q) e2,.nil,fun z z=>.nil⟩⟩
def YR(k:fN K x C)(D:BM K C m qual st)(p:∀kV e j o g ct us,us.length=ps.length->bindArgs (fnOf m qual (aF st) (bD st) (oB st) .none kV e j o g ct) ⟨us,[]⟩=pure (ps.zip us)):CS K x m qual st ps:=by obtain⟨f,u,r,kV,dc,j,o,y,ct,q,a,i,l,c,n⟩:=D;have F:=yP l c n;exact⟨⟨C,f,_,k.ac,⟨k.pg,k.hd,k.po,k.sa⟩,⟨a,i,n⟩,F,F.binds p⟩⟩
def Cy (X:K.In h) (G:h.Ns mainGlobals b) (k:fN K x C) (D:BM K C "__init__" qual st) (p:∀kV e j n g ct us,us.length=ps.length->bindArgs (fnOf "__init__" qual (aF st) (bD st) (oB st) .none kV e j n g ct) ⟨us,[]⟩=pure (ps.zip us)):YY K b x qual st ps:=by obtain⟨f,u,r,kV,dc,j,n,y,ct,q,a,i,l,c,o⟩:=D;have F:=yP l c o;exact⟨⟨C,f,_,k.ac,⟨k.mkk,a,i,k.kc⟩,F,PySem.W.mg_of X G k.ac,F.binds p⟩⟩
def qH(k:fN K x C)(n:findIn K (.ref C) f=ε none):AS K x f:=⟨⟨C,k.ac,⟨k.pg,k.hd,k.po,k.sa⟩,n⟩⟩
end
section
variable{Q:Oo Ou->Prop}
def QK(h:Q []):∀a,a.length=0->Q a | [],_=>h
def SF(h:∀a b,b.length=n->Q (a::b)):∀b,b.length=n+1->Q b | a::b,e=>h a b (Nat.succ.inj e)
def len1(h:∀a,Q [a]):∀us,us.length=1->Q us:=SF fun a=>QK (h a)
def cH(h:∀a b,Q [a,b]):∀us,us.length=2->Q us:=SF fun a=>SF fun b=>QK (h a b)
def hJ(h:∀a b c,Q [a,b,c]):∀us,us.length=3->Q us:=SF fun a=>SF fun b=>SF fun c=>QK (h a b c)
def GH(h:∀a b c d,Q [a,b,c,d]):∀us,us.length=4->Q us:=SF fun a=>SF fun b=>SF fun c=>SF fun d=>QK (h a b c d)
def bU(h:∀a b c d e,Q [a,b,c,d,e]):∀us,us.length=5->Q us:=SF fun a=>GH (h a)
def X3(h:∀a b c d e f,Q [a,b,c,d,e,f]):∀us,us.length=6->Q us:=SF fun a=>bU (h a)
end
def oG(a:autoParam (sc.kind=.function) þ)(b:autoParam (sc.isCoroutine=false) þ)(c:autoParam (sc.isGenerator=false) þ)(d:autoParam N.Nodup å)(e:autoParam (N.take P.length=P) þ)
 (f:autoParam (∀x∈P,sc.names.lookup x=ε .local\/sc.names.lookup x=ε .cell) å) (g:autoParam (∀y∈sc.names,y.2≠.free) å):Za N P sc:=⟨a,b,c,d,e,f,g⟩
def LA (c:jC X.prog X.w X.K X.mg X.base k n x F) (d:Ys k' X.A) (i:AM X (e::b) g) (f:autoParam (k<=k') Ñ) (h:autoParam (Gl X x) þ) (a:autoParam ((x==("__debug__" :Str))=false) Ñ)
 (he:autoParam (gB e=true) Æ) (hpl:autoParam (b.all gB=true) Æ):EM X (.Call (.Name x p) (e::b) [] pos) (rA F [] g):=WD c d f h i a he hpl
end SM
namespace L2
section
variable{X:Cx}
end
end L2
namespace SM
section
variable{X:Cx}{a b:Pu}{fa fb:RE}
end
def gP{K:Ra}{st:Ro}(D:pT K mg x st ps):jC P w K mg base k n x (fun z z=>none):=by
 unhygienic
  obtain⟨f,p,j,i,m⟩:=D.ex;refine⟨⟨f,p,ps,⟨fun g H Q E h=>?_,fun A outer s H a q g Q E y B C u h=>?_⟩,i,j.kp,m⟩,fun ds h r e=>by cases e⟩
  . obtain⟨b,ds,h,d,o,_,_,_,e,_⟩:=h;cases e
  . obtain⟨b,ds,h,d,o,_,_,_,e,_⟩:=h;cases e
end SM
namespace L2
section
variable{X:Cx}
end
end L2
namespace SM
noncomputable def mB{a β:Type}(o:O4 a)(f:a->O4 β):O4 β:=o.bind f
@[simp] def fA{b d:Type}(a:b)(f:b->O4 d):mB (ε a) f=f a:=by rfl
@[simp] def lf{b a:Type}(f:b->O4 a):mB none f=none:=by rfl
@[simp] def lh{d e:Type}{c:Prop}[Decidable c](a b:O4 d)(k:d->O4 e):mB (if c then a else b) k=if c then mB a k else mB b k:=by split<;>rfl
section
variable{l:LI}{h:HI}{f g fa fb m:RE}
@[simp] def pA(d:Dt):eC d l h=ε (d,h):=by rfl
noncomputable def fI(h:HI):O4 (O4 Dt)->O4 (Dt×HI)
 | some (some d)=>ε (d,h)
 | _=>none
@[simp] def iA(d:Dt):fI h (ε (ε d))=ε (d,h):=by rfl
@[simp] def gA(i:Nat):eV i l h=fI h l[i]?:=by unfold eV fI;rfl
@[simp] def oA(op:vD):e2 op fa fb l h=mB (fa l h) fun r=>mB (fb l r.2) fun q=>op r.1 q.1 q.2:=by rfl
@[simp] def xA:dA l h=ε ([],h):=by rfl
@[simp] def zA(r:RA):aA f r l h=mB (f l h) fun a=>mB (r l a.2) fun q=>ε (a.1::q.1,q.2):=by rfl
noncomputable def tbK:Dt×HI->O4 (Bool×HI)
 | (.bl b,h)=>ε (b,h)
 | _=>none
@[simp] def NA(b:Bool):tbK (.bl b,h)=ε (b,h):=by rfl
@[simp] def IA:mn f l h=mB (f l h) tbK:=by
 unfold mB;unfold mn
 congr 1
 funext r
 obtain⟨d,h⟩:=r;cases d<;>rfl
@[simp] def wH(t u:RT):KF t u l h=mB (t l h) fun r=>if r.1=true then u l r.2 else ε (false,r.2):=by rfl
@[simp] def HD(t u:RT):XB t u l h=mB (t l h) fun r=>if r.1=true then ε (true,r.2)else u l r.2:=by rfl
@[simp] def xH(t:RT):SC t l h=mB (t l h) fun r=>ε (!r.1,r.2):=by rfl
noncomputable def UZ(u:RE)(l:LI):Dt×HI->O4 (Dt×HI)
 | (.bl true,h)=>u l h
 | (.bl false,h)=>ε (.bl false,h)
 | _=>none
@[simp] def FO(u:RE)(b:Bool):UZ u l (.bl b,h)=if b=true then u l h else ε (.bl false,h):=by cases b<;>rfl
@[simp] theorem oP(u:RE):mI f u l h=mB (f l h) (UZ u l):=by
 unfold mB;unfold mI
 congr 1
 funext r
 obtain⟨d,h⟩:=r;cases d<;>(try rfl);rename_i b;cases b<;>rfl
@[simp] def BK(t:RT):GQ t f g l h=mB (t l h) fun r=>if r.1=true then f l r.2 else g l r.2:=by rfl
noncomputable def Yp(a:vD)(m:RE)(l:LI)(q:Dt):Dt×HI->O4 (Dt×HI)
 | (.bl true,h)=>(m l h).bind fun r=>a q r.1 r.2
 | (.bl false,h)=>ε (.bl false,h)
 | _=>none
@[simp] def li(a:vD)(q:Dt)(b:Bool):Yp a m l q (.bl b,h)=if b=true then mB (m l h) fun r=>a q r.1 r.2 else ε (.bl false,h):=by cases b<;>rfl
@[simp] theorem lj(o a:vD):pM o a fa fb m l h=mB (fa l h) fun r=>mB (fb l r.2) fun q=>mB (o r.1 q.1 q.2) (Yp a m l q.1):=by
 unfold mB;unfold pM
 congr 1
 funext r
 congr 1
 funext q
 congr 1
 funext z
 obtain⟨d,h⟩:=z;cases d<;>(try rfl);rename_i b;cases b<;>rfl
@[simp] def AC(r:RA):EA r l h=mB (r l h) fun r=>if r.1.length<=sizeLine then ε (.tup r.1,r.2)else none:=by rfl
@[simp] def kE(r:RA):AB r l h=mB (r l h) fun r=>if r.1.length<=sizeLine then ε (.lst r.1,r.2)else none:=by rfl
@[simp] def nK(r:RA):PF r l h=mB (r l h) fun r=>if r.1.length<=sizeLine then ε (.ref r.2.length,r.2++[.lst r.1])else none:=by rfl
noncomputable def cU:Dt×HI->O4 (Dt×HI)
 | (.int b,h)=>ε (.int (-b),h)
 | _=>none
@[simp] def QE(b:Int):cU (.int b,h)=ε (.int (-b),h):=by rfl
@[simp] def dF:dB f l h=mB (f l h) cU:=by
 unfold mB;unfold dB
 congr 1
 funext r
 obtain⟨d,h⟩:=r;cases d<;>rfl
@[simp] def AE(i j:Int):VB (.int i) (.int j) h=ε (.int (i+j),h):=by rfl
@[simp] def VM(i j:Int):tF (.int i) (.int j) h=ε (.int (i-j),h):=by rfl
@[simp] def jK(i j:Int):SG (.int i) (.int j) h=ε (.int (Builtin.bitAnd i j),h):=by rfl
@[simp] def Y5(i j:Int):oN (.int i) (.int j) h=ε (.int (Builtin.bitOr i j),h):=by rfl
@[simp] def kI(i j:Int):ZI (.int i) (.int j) h=ε (.bl (decide (i<j)),h):=by rfl
@[simp] def F4(i j:Int):Y1 (.int i) (.int j) h=ε (.bl (decide (i<=j)),h):=by rfl
@[simp] def jI(i j:Int):pN (.int i) (.int j) h=ε (.bl (decide (j<i)),h):=by rfl
@[simp] def eU(i j:Int):dU (.int i) (.int j) h=ε (.bl (decide (j<=i)),h):=by rfl
def EG(c:dq i j):wC (.int i) (.int j) h=ε (.int (i*j),h):=by simp![wC,oI,eG c]
def UG(c:IK i j):NB (.int i) (.int j) h=ε (.int (i/j),h):=by simp![NB,oI,eG c]
def YD(c:0<j):lB (.int i) (.int j) h=ε (.int (i%j),h):=by simp![lB,oI,eG c]
def O0(c:XG i j):dH (.int i) (.int j) h=ε (.int (i^j.toNat),h):=by simp![dH,oI,eG c]
def UM(c:XG i j):fH (.int i) (.int j) h=ε (.int (i*2^j.toNat),h):=by simp![fH,oI,eG c]
def eT(c:0<=j):jJ (.int i) (.int j) h=ε (.int (i/2^j.toNat),h):=by simp![jJ,oI,eG c]
@[simp] def lD(i j:Int):QA (.int i) (.int j) h=ε (.bl (decide (i=j)),h):=by show ε (Dt.bl (decide (V.int i=V.int j)),h)=_;simp
@[simp] def gH(i j:Int):yD (.int i) (.int j) h=ε (.bl (!decide (i=j)),h):=by show ε (Dt.bl (!decide (V.int i=V.int j)),h)=_;simp
@[simp] def BE(i j:Str):QA (.str i) (.str j) h=ε (.bl (decide (i=j)),h):=by show ε (Dt.bl (decide (V.str i=V.str j)),h)=_;simp
@[simp] def RM(i j:Str):yD (.str i) (.str j) h=ε (.bl (!decide (i=j)),h):=by show ε (Dt.bl (!decide (V.str i=V.str j)),h)=_;simp
@[simp] def L0(d:Dt):JE d .non h=ε (.bl (SI d),h):=by rfl
@[simp] def PD{a:Type}(xs:Oo a)(k:Nat):atI xs (k:Int)=xs[k]?:=by
 unfold atI gI;rw[eG nofun];by_cases b:k<xs.length
 . rw[eG nofun];simp
 . rw[eH nofun];simp;omega
@[simp] def RC{a:Type}(xs:Oo a):atI xs 0=xs[0]?:=PD xs 0
@[simp] def DG{a:Type}(xs:Oo a):atI xs 1=xs[1]?:=PD xs 1
@[simp] def DM{a:Type}(xs:Oo a):atI xs 2=xs[2]?:=PD xs 2
@[simp] def kC(xs:Oo Dt)(i:Int):nA (.tup xs) (.int i) h=(atI xs i).map fun d=>(d,h):=by rfl
@[simp] def VI(xs:Oo Dt)(i:Int):nA (.lst xs) (.int i) h=(atI xs i).map fun d=>(d,h):=by rfl
def LF(e:h[n]?=ε (.lst xs))(i):nA (.ref n) (.int i) h=(atI xs i).map fun d=>(d,h):=by simp![nA,XC,yA,e,Wo]
noncomputable def V4(g:RS):Rs->O4 Rs
 | .nx l h=>g l h
 | r=>ε r
@[simp] def jB(g:RS):V4 g (.nx l h)=g l h:=by rfl
@[simp] def xE(g:RS)(d:Dt):V4 g (.rt d h)=ε (.rt d h):=by rfl
@[simp] def YA(f g:RS):jA f g l h=mB (f l h) (V4 g):=by
 unfold mB;unfold jA
 congr 1
@[simp] def OD:SA l h=ε (.nx l h):=by rfl
@[simp] def MB(i:Nat):CA i f l h=mB (f l h) fun r=>ε (.nx (l.set i (ε r.1)) r.2):=by rfl
@[simp] def lF:TD f l h=mB (f l h) fun r=>ε (.nx l r.2):=by rfl
@[simp] def qB:wA f l h=mB (f l h) fun r=>ε (.rt r.1 r.2):=by rfl
@[simp] def FB(t:RT)(f g:RS):bC t f g l h=mB (t l h) fun r=>if r.1=true then f l r.2 else g l r.2:=by rfl
noncomputable def vC:O4 Rs->O4 (Dt×HI)
 | some (.rt d h')=>ε (d,h')
 | some (.nx _ h')=>ε (.non,h')
 | _=>none
@[simp] def HB(d:Dt):vC (ε (.rt d h))=ε (d,h):=by rfl
@[simp] def Lf:vC (ε (.nx l h))=ε (.non,h):=by rfl
@[simp] def ln{c:Prop}[Decidable c](a b:O4 Rs):vC (if c then a else b)=if c then vC a else vC b:=by split<;>rfl
@[simp] def zB(n N:Nat)(body:RS)(ds:Oo Dt):QB n N body ds h=if ds.length=n then vC (body (ds.map some++List.replicate (N-n) none) h)else none:=by unfold QB vC;rfl
@[simp] def OA(F:rB)(a:Oo Dt)(g:RA):rA F a g l h=mB (g l h) fun r=>F (r.1++a) r.2:=by rfl
noncomputable def ST(go:LI->HI->O4 Rs):Rs->O4 Rs
 | .nx l h=>go l h
 | .ct l h=>go l h
 | .bk l h=>ε (.nx l h)
 | .rt d h=>ε (.rt d h)
@[simp] def BZ(go:LI->HI->O4 Rs):ST go (.nx l h)=go l h:=by rfl
@[simp] def lr(go:LI->HI->O4 Rs):ST go (.ct l h)=go l h:=by rfl
@[simp] def VS(go:LI->HI->O4 Rs)(d:Dt):ST go (.rt d h)=ε (.rt d h):=by rfl
def lC(a:RG)(body:RS):Oo Dt->LI->HI->O4 Rs
 | [],l,h=>ε (.nx l h)
 | x::xs,l,h=>(a x l).bind fun b=>(body b h).bind (ST (lC a body xs))
def Vz(j)(body)(xs):∀n k l h,n=(xs.length-k)+1->k<=xs.length->aC j body (.vals xs) n k l h=lC j body (xs.drop k) l h:=by
 intro n
 induction n with
 | zero=>intro k l h e;omega
 | succ n ih=>
  intro k l h e o;unfold aC;simp![mo.at];by_cases i:k<xs.length
  . rw[jo i,Ai i];simp![lC]
    congr 1
    funext l1
    congr 1
    funext r
    cases r with
    | nx b a=>exact ih (k+1) b a nofun nofun
    | ct b a=>exact ih (k+1) b a nofun nofun
    | bk b a=>rfl
    | rt d a=>rfl
  . rw[lu nofun,Oe nofun];rfl
@[simp] def vE(i:Nat)(d:Dt):BA i d l=ε (l.set i (ε d)):=by rfl
def xD(a:RG)(body:RS)(l:LI):mo×HI->O4 Rs:=fun r=>aC a body r.1 (r.1.fuel r.2) 0 l r.2
@[simp] def ND(g:RI)(a:RG)(body:RS):GC g a body l h=mB (g l h) (xD a body l):=by rfl
@[simp] def VF(a:RG)(body:RS)(xs:Oo Dt):xD a body l (.vals xs,h)=lC a body xs l h:=by unfold xD;simp![mo.fuel];exact Vz a body xs _ 0 _ _ nofun nofun
noncomputable def A2:Dt×HI->O4 (mo×HI)
 | (.int j,h)=>if -(2^62)<=j/\j<2^62 then ε (.vals ((List.range j.toNat).map fun(k:Nat)=>Dt.int (k:Int)),h)else none
 | _=>none
@[simp] def XI:VG f l h=mB (f l h) A2:=by
 unfold mB;unfold VG
 congr 1
 funext r
 obtain⟨d,h⟩:=r;cases d<;>rfl
def dG(a:-(2^62)<=j)(b:j<2^62):A2 (.int j,h)=ε (.vals ((List.range j.toNat).map fun(k:Nat)=>Dt.int (k:Int)),h):=eG ⟨a,b⟩
noncomputable def r2K:Dt->Dt×HI->O4 (mo×HI)
 | .int i,(.int j,h)=>if -(2^62)<=i/\i<2^62/\-(2^62)<=j/\j<2^62 then ε (.vals ((List.range (j-i).toNat).map fun(k:Nat)=>Dt.int (i+(k:Int))),h)else none
 | _,_=>none
@[simp] def p8:L1 f g l h=mB (f l h) fun r=>mB (g l r.2) (r2K r.1):=by
 unfold mB;unfold L1
 congr 1
 funext r
 obtain⟨d,h⟩:=r
 congr 1
 funext q
 obtain⟨a,b⟩:=q;cases d<;>cases a<;>rfl
def Vb(a:-(2^62)<=i)(e:i<2^62)(b:-(2^62)<=j)(d:j<2^62):r2K (.int i) (.int j,h)=ε (.vals ((List.range (j-i).toNat).map fun(k:Nat)=>Dt.int (i+(k:Int))),h):=eG ⟨a,e,b,d⟩
def IG:Dt×HI->O4 (mo×HI)
 | (.lst xs,h)=>ε (.vals xs,h)
 | (.ref n,h)=>if 0<mo.fuel (.rf n) h then ε (.rf n,h)else none
 | _=>none
@[simp] def CF(xs:Oo Dt):IG (.lst xs,h)=ε (.vals xs,h):=by rfl
@[simp] def FC:RB f l h=mB (f l h) IG:=by
 unfold mB;unfold RB ZT;cases f l h with
 | none=>rfl
 | some r=>obtain⟨d,h⟩:=r;cases d<;>first | rfl | (simp[IG,mo.fuel];done)
noncomputable def pU:Dt×HI->O4 (mo×HI)
 | (.tup xs,h)=>ε (.vals xs,h)
 | _=>none
@[simp] def Lh(xs:Oo Dt):pU (.tup xs,h)=ε (.vals xs,h):=by rfl
@[simp] def Nb:OP f l h=mB (f l h) pU:=by
 unfold mB;unfold OP
 congr 1
 funext r
 obtain⟨d,h⟩:=r;cases d<;>rfl
noncomputable def SD(d:RG)(tc:RT)(te:RE):Oo Dt->LI->HI->O4 (Oo Dt×HI)
 | [],_,h=>ε ([],h)
 | x::xs,l,h=>(d x l).bind fun a=>(tc a h).bind fun b=>if b.1=true then(te a b.2).bind fun r=>(SD d tc te xs a r.2).bind fun q=>ε (r.1::q.1,q.2)
  else SD d tc te xs a b.2
def Nq(d)(tc)(te)(xs)(p:xs.length<sizeLine):∀n k l h ys,n=(xs.length-k)+1->k<=xs.length->ys.length<=k->
 RD d tc te (.vals xs) n k l h ys=(SD d tc te (xs.drop k) l h).bind fun q=>ε (ys++q.1,q.2):=by
 intro n
 induction n with
 | zero=>intro k l h ys e;omega
 | succ n ih=>
  intro k l h ys e u o;unfold RD;simp![mo.at];by_cases i:k<xs.length
  . rw[jo i,Ai i];simp![SD];cases d xs[k] l with
    | none=>rfl
    | some a=>
     simp![Wo];cases tc a h with
     | none=>rfl
     | some b=>
      simp![Wo];by_cases j:b.1=true
      . simp![eG j];cases te a b.2 with
        | none=>rfl
        | some r=>
         simp![Wo];rw[eG nofun,ih (k+1) a r.2 _ nofun nofun (by simp;omega)];cases SD d tc te (xs.drop (k+1)) a r.2 with
         | none=>rfl
         | some q=>simp
      . simp![eH j];exact ih (k+1) a b.2 ys nofun nofun nofun
  . rw[lu nofun,Oe nofun];simp[SD]
def XD(a:RG)(tc:RT)(te:RE)(l:LI):mo×HI->O4 (Oo Dt×HI):=fun r=>RD a tc te r.1 (r.1.fuel r.2) 0 l r.2 []
def aE(a)(tc)(te)(b:xs.length<sizeLine):XD a tc te l (.vals xs,h)=SD a tc te xs l h:=by unfold XD;simp![mo.fuel];rw[Nq a tc te xs b _ 0 _ _ _ nofun nofun ⋯];rw[drop_zero];cases SD a tc te xs l h<;>simp
@[simp] def bF(g:RI)(b:RG)(tc:RT)(te:RE)(a:Oo (O4 Nat)):qC g b tc te a l h=mB (mB (g l h) (XD b tc te (sF l a))) fun q=>ε (.lst q.1,q.2):=by unfold mB;unfold qC XD;rw[Option.bind_assoc]
@[simp] def TL(g:RI)(b:RG)(tc:RT)(te:RE)(a:Oo (O4 Nat)):GF g b tc te a l h=mB (mB (g l h) (XD b tc te (sF l a))) fun q=>ε (.ref q.2.length,q.2++[.lst q.1]):=by unfold mB;unfold GF XD;rw[Option.bind_assoc]
@[simp] def bM:cB l h=ε (true,h):=by rfl
@[simp] def QD:sF l []=[]:=by rfl
@[simp] def MD(cap:Oo (O4 Nat)):sF l (none::cap)=none::sF l cap:=by rfl
@[simp] def xG(j:Nat)(cap:Oo (O4 Nat)):sF l (ε j::cap)=(l[j]?).join::sF l cap:=by rfl
theorem KO{a:Type}(D:a->Dt)(p)(F:a->Dt)(h):∀(xs:Oo a)(l:LI),(∀x∈xs,tc (l.set i (ε (D x))) h=ε (p x,h)/\(p x=true->te (l.set i (ε (D x))) h=ε (F x,h)))->
 SD (BA i) tc te (xs.map D) l h=ε ((xs.filter p).map F,h)
 | [],_,_=>rfl
 | x::xs,l,H=>by
  have b:=H x ⋯;have ih:=KO D p F h xs (l.set i (ε (D x))) (te:=te) (tc:=tc) (i:=i) (fun y d=>by
   rw[set_set];exact H y (by simp[d]))
  simp![Uu,SD,vE,Wo,b.1];by_cases hp:p x=true
  . simp![hp,eO,b.2 hp,Wo,ih];simp[hp]
  . simp![hp];rw[eH ⋯,ih];simp[hp]
def xF{a:Type}(D:a->Dt)(F:a->Dt)(h)(xs:Oo a)(l)(H:∀x∈xs,tc (l.set i (ε (D x))) h=ε (true,h)/\te (l.set i (ε (D x))) h=ε (F x,h)) :
 SD (BA i) tc te (xs.map D) l h=ε (xs.map F,h):=by
 rw[KO D (fun q=>true) F h xs l fun x b=>⟨(H x b).1,fun q=>(H x b).2⟩,filter_eq_self.mpr ⋯]
@[simp] def LB(F:Dt->HI->O4 (Dt×HI)):GB F f l h=mB (f l h) fun r=>F r.1 r.2:=by rfl
@[simp] def vP(xs:Oo Dt):eB (.lst xs) h=ε (.int xs.length,h):=by rfl
def TH(e:h[n]?=ε (.lst xs)):eB (.ref n) h=ε (.int xs.length,h):=by simp![eB,XC,yA,e,Vu]
@[simp] def Ey(ns:Oo Int):IC (ns.map Dt.int)=ε ns:=by
 induction ns with
 | nil=>rfl
 | cons n ns ih=>simp[IC,ih]
def C0(ns:Oo Int):gJ (.lst (ns.map Dt.int)) h=ε (.int ns.sum,h):=by simp[gJ,yA]
def b7(c:ns ≠ []):NK (.lst (ns.map Dt.int)) h=ε (.int (EC ns),h):=by simp[NK,yA,c]
def d7(c:ns ≠ []):OK (.lst (ns.map Dt.int)) h=ε (.int (hC ns),h):=by simp[OK,yA,c]
@[simp] def JM(T:String):OF T f l h=mB (f l h) fun r=>(kG r.2 r.1).map fun t=>(.bl (nN t T),r.2):=by rfl
@[simp] def AK:LD l h=ε (none,h):=by rfl
noncomputable def Xp:Dt×HI->O4 (O4 Int×HI)
 | (.int i,h)=>ε (ε i,h)
 | _=>none
@[simp] def VJ(i:Int):Xp (.int i,h)=ε (ε i,h):=by rfl
@[simp] def zK:WB f l h=mB (f l h) Xp:=by
 unfold mB;unfold WB
 congr 1
 funext r
 obtain⟨d,h⟩:=r;cases d<;>rfl
@[simp] def WI(lo hi:RO):IE f lo hi l h=mB (f l h) fun r=>mB (lo l r.2) fun o=>mB (hi l o.2) fun u=>(yA u.2 r.1).map fun a=>(.lst (fC a o.1 u.1),u.2):=by rfl
@[simp] def DF(xs:Oo Dt):yA h (.lst xs)=ε xs:=by rfl
def UE(e:h[n]?=ε (.lst xs)):yA h (.ref n)=ε xs:=by simp![yA,e]
def QJ(xs)(k:Nat):fC xs (ε (k:Int)) none=xs.drop k:=by
 unfold fC HT.sIx;have e:(if(k:Int)<0 then((k:Int)+(xs.length:Int)).toNat else min (k:Int).toNat xs.length)=min k xs.length:=by rw[eH nofun,ou]
 simp![e];rw[Ko (by rw[length_drop];omega)];by_cases a:k<=xs.length
 . rw[Nat.min_eq_left a]
 . rw[Nat.min_eq_right nofun,Oe (Va _),Oe nofun]
def nZ(xs)(k:Nat):fC xs none (ε (k:Int))=xs.take k:=by
 unfold fC HT.sIx;have e:(if(k:Int)<0 then((k:Int)+(xs.length:Int)).toNat else min (k:Int).toNat xs.length)=min k xs.length:=by rw[eH nofun,ou]
 simp![e,drop_zero,Nat.sub_zero];by_cases a:k<=xs.length
 . rw[Nat.min_eq_left a]
 . rw[Nat.min_eq_right nofun,Ko (Va _),Ko nofun]
def UP(c:xs.length+ys.length<=sizeLine):iC (.lst xs) (.lst ys) h=ε (.lst (xs++ys),h):=by simp![iC,yA,Wo,eG c]
@[simp] def CO:sizeLine=16777216:=by rfl
noncomputable def iN(g:RE)(l:LI):Dt×HI->O4 (Dt×HI)
 | (.ref n,h)=>(match h[n]? with
  | some (.lst _)=>(g l h).bind fun q=>match q.2[n]? with
   | some (.lst xs)=>if xs.length<sizeLine then ε (.non,q.2.set n (.lst (xs++[q.1])))else none
   | _=>none
  | _=>none)
 | _=>none
@[simp] def uG:fE f g l h=mB (f l h) (iN g l):=by
 unfold mB;unfold fE
 congr 1
 funext r
 obtain⟨d,h⟩:=r;cases d<;>(try rfl)
def vG(e:h[n]?=ε (.lst ys))(a:g l h=ε (d,h'))(b:h'[n]?=ε (.lst xs))(c:xs.length<sizeLine):iN g l (.ref n,h)=ε (.non,h'.set n (.lst (xs++[d]))):=by simp![iN,e,a,Wo,b,eG c]
end
noncomputable def Pass(I:LI->HI->Prop):Rs->Prop
 | .nx l h=>I l h
 | .ct l h=>I l h
 | _=>False
def jX{m k:Type}(D:m->Dt)(S:k->LI->HI->Prop)(f:k->m->k)(xs:Oo m)(H:∀x∈xs,∀b l h,S b l h->∃r,body (l.set i (ε (D x))) h=ε r/\Pass (S (f b x)) r) :
 ∀b l h,S b l h->∃a h',lC (BA i) body (xs.map D) l h=ε (.nx a h')/\S (xs.foldl f b) a h':=by
 induction xs with
 | nil=>intro b l h i;exact⟨l,h,rfl,i⟩
 | cons x xs ih=>
  intro b l h i;obtain⟨r,e,p⟩:=H x ⋯ b l h i;cases r with
  | nx j g=>obtain⟨a,h',q,n⟩:=ih (fun y o=>H y (by simp[o])) _ j g p;exact⟨a,h',by simp[lC,e,q],n⟩
  | ct j g=>obtain⟨a,h',q,n⟩:=ih (fun y o=>H y (by simp[o])) _ j g p;exact⟨a,h',by simp[lC,e,q],n⟩
  | bk j g=>exact p.elim
  | rt d g=>exact p.elim
section
variable{l:LI}{h:HI}{f g:RE}
@[simp] def lv(bs:Oo Bool):gG (bs.map Dt.bl)=ε bs:=by
 induction bs with
 | nil=>rfl
 | cons n ns ih=>simp[gG,ih]
def mT(bs:Oo Bool):GG (.lst (bs.map Dt.bl)) h=ε (.bl (bs.all id),h):=by simp[GG,yA]
@[simp] def xS(i j:Nat)(a b:Dt):ED i j (.tup [a,b]) l=ε ((l.set i (ε a)).set j (ε b)):=by rfl
end
def SE(e:h[n]?=ε (.lst xs)):IG (.ref n,h)=ε (.rf n,h):=by
 have:0<mo.fuel (.rf n) h:=by simp![mo.fuel,e];omega
 simp![IG,eG this]
section
variable{l:LI}{h:HI}{f g fe fo b fa fb:RE}
def DQ(l:LI)(v o:Dt):Dt×HI->O4 Rs
 | (.int k,h)=>(match o with
  | .ref n=>(match h[n]? with
   | some (.lst xs)=>(gI xs.length k).bind fun j=>ε (.nx l (h.set n (.lst (xs.set j v))))
   | _=>none)
  | _=>none)
 | _=>none
@[simp] def yS:WH fe fo b l h=mB (fe l h) fun v=>mB (fo l v.2) fun o=>mB (b l o.2) (DQ l v.1 o.1):=by
 unfold mB WH
 congr 1
 funext v
 congr 1
 funext o
 congr 1
 funext i
 obtain⟨d,h⟩:=o;obtain⟨k,h⟩:=i;cases k<;>cases d<;>rfl
def Wt(a:k<n):gI n (k:Int)=ε k:=by unfold gI;rw[eG nofun,eG nofun];simp
def VL{n k:Nat}(e:h[n]?=ε (.lst xs))(a:k<xs.length):DQ l v (.ref n) (.int (k:Int),h)=ε (.nx l (h.set n (.lst (xs.set k v)))):=by simp![DQ,e,Wt a,Wo]
def CQ(a:Dt):Dt×HI->O4 (Dt×HI)
 | (.int i,h)=>if -(2^62)<=i/\i<=1000000 then ε (.lst (iH a i),h)else none
 | _=>none
def CT(a:Dt):Dt×HI->O4 (Dt×HI)
 | (.int i,h)=>if -(2^62)<=i/\i<=1000000 then ε (.ref h.length,h++[.lst (iH a i)])else none
 | _=>none
@[simp] def lx:fJ fa fb l h=mB (fa l h) fun a=>mB (fb l a.2) (CQ a.1):=by
 unfold mB fJ
 congr 1
 funext v
 congr 1
 funext o
 obtain⟨d,h⟩:=o;cases d<;>rfl
@[simp] def ly:uK fa fb l h=mB (fa l h) fun a=>mB (fb l a.2) (CT a.1):=by
 unfold mB uK
 congr 1
 funext v
 congr 1
 funext o
 obtain⟨d,h⟩:=o;cases d<;>rfl
def pX(a){k:Nat}(d:k<=1000000):CQ a (.int (k:Int),h)=ε (.lst (List.replicate k a),h):=by unfold CQ;simp only;rw[eG ⟨by omega,by omega⟩];simp[iH]
def WW(a){k:Nat}(d:k<=1000000):CT a (.int (k:Int),h)=ε (.ref h.length,h++[.lst (List.replicate k a)]):=by unfold CT;simp only;rw[eG ⟨by omega,by omega⟩];simp[iH]
def Y6(bs:Oo Bool):kN (.lst (bs.map Dt.bl)) h=ε (.bl (bs.any id),h):=by simp[kN,yA]
def IT(r:Dt):Dt×HI->O4 (mo×HI):=fun q=>match yA q.2 r,yA q.2 q.1 with
 | some _,some _=>ε (.zp r q.1,q.2)
 | _,_=>none
@[simp] def JZ:vQ fa fb l h=mB (fa l h) fun r=>mB (fb l r.2) (IT r.1):=by rfl
def Xw(a:yA h r=ε xs)(e2:yA h q=ε ys):IT r (q,h)=ε (.zp r q,h):=by simp![IT,a,e2]
@[simp] def M5(i j:Int):pG (.int i) (.int j) h=ε (.bl (decide (i=j)),h):=lD i j
def X7(i j):pG (.str i) (.str j) h=ε (.bl (decide (i=j)),h):=BE i j
def uT(e:yA h a=ε xs):VC a (.lst []) h=ε (.bl (!xs.isEmpty),h):=by
 cases a with
 | lst d=>cases e;rfl
 | ref n=>show(yA h (.ref n)).bind _=_;rw[e];rfl
 | _=>exact nomatch (show none=ε xs from e)
def whK(go:RS)(body:RS)(l:LI):Bool×HI->O4 Rs:=fun c=>if c.1=true then(body l c.2).bind (ST go)else ε (.nx l c.2)
def Yj(t)(body)(n):YF t body (n+1) l h=mB (t l h) (whK (YF t body n) body l):=by
 unfold mB;rw[YF]
 congr 1
noncomputable def LK(fa:RE)(l:LI):Dt×HI->O4 (Dt×HI)
 | (.ref n,h)=>(match h[n]? with
  | some (.lst _)=>(fa l h).bind fun q=>match q.1 with
   | .ref m=>(match q.2[n]?,q.2[m]? with
    | some (.lst xs),some (.lst ys)=>if xs.length+ys.length<=sizeLine then ε (.non,q.2.set n (.lst (xs++ys)))else none
    | _,_=>none)
   | _=>none
  | _=>none)
 | _=>none
@[simp] def IR:DI fo fa l h=mB (fo l h) (LK fa l):=by
 unfold mB DI
 congr 1
 funext r
 obtain⟨d,h⟩:=r;cases d<;>(try rfl)
def sX{xs ys zs:Oo Dt}(e:h[n]?=ε (.lst zs))(a:fa l h=ε (.ref m,h'))(d:h'[n]?=ε (.lst xs))(e2:h'[m]?=ε (.lst ys))(c:xs.length+ys.length<=sizeLine):LK fa l (.ref n,h)=ε (.non,h'.set n (.lst (xs++ys))):=by simp![LK,e,a,Wo,d,e2,eG c]
@[simp] def J4(F:Dt->Dt->O4 Dt):K1 F fa fb l h=mB (fa l h) fun r=>mB (fb l r.2) fun q=>(F r.1 q.1).map fun d=>(d,q.2):=by rfl
@[simp] def l8(i j:Int):MM (.int i) (.int j)=ε (.int (min i j)):=by
 unfold MM;simp only
 congr 2
 split<;>omega
end
def xg(o:∀l h b a,tc l h=ε (b,a)->h[n]?=ε (.lst xs)->a[n]?=ε (.lst xs))(j:∀l h b a,te l h=ε (b,a)->h[n]?=ε (.lst xs)->a[n]?=ε (.lst xs)) :
 ∀m k l h ys,h[n]?=ε (.lst xs)->RD f tc te (.rf n) m k l h ys=RD f tc te (.vals xs) m k l h ys:=by
 intro m
 induction m with
 | zero=>intros;rfl
 | succ m ih=>
  intro k l h ys e;unfold RD;simp![mo.at,e];cases xs[k]? with
  | none=>rfl
  | some d=>
   simp only;cases f d l with
   | none=>rfl
   | some g=>
    simp![Wo];cases q:tc g h with
    | none=>rfl
    | some b=>
     obtain⟨b,p⟩:=b;have i:=o _ _ _ _ q e;simp![Wo];split
     . cases q2:te g p with
       | none=>rfl
       | some r=>
        obtain⟨r,u⟩:=r;have e2:=j _ _ _ _ q2 i;simp![Wo];split
        . exact ih _ _ _ _ e2
        . rfl
     . exact ih _ _ _ _ i
def tO(e:h[n]?=ε (.lst xs))(i:xs.length<sizeLine)(g:∀l h b a,tc l h=ε (b,a)->h[n]?=ε (.lst xs)->a[n]?=ε (.lst xs))(f:∀l h b a,te l h=ε (b,a)->h[n]?=ε (.lst xs)->a[n]?=ε (.lst xs)) :
 XD d tc te l (.rf n,h)=SD d tc te xs l h:=by
 rw[<- aE d tc te i];unfold XD;have j:mo.fuel (.rf n) h=xs.length+1:=by simp![mo.fuel,e]
 have e2:mo.fuel (.vals xs) h=xs.length+1:=by simp![mo.fuel]
 simp![j,e2];exact xg g f _ _ _ _ _ e
theorem vR{b:Type}(D:b->Dt)(O:b->Ob)(a):∀(xs:Oo b)(l:LI)(e:HI),(∀x∈xs,∀e,te (l.set i (ε (D x))) (a++e)=ε (.ref (a++e).length,a++e++[O x]))->
 SD (BA i) cB te (xs.map D) l (a++e)=ε ((List.range xs.length).map (fun(k:Nat)=>Dt.ref ((a++e).length+k)),a++e++xs.map O)
 | [],_,e,_=>by simp[SD]
 | x::xs,l,e,H=>by
  have f:=H x ⋯ e;have ih:=vR D O a xs (l.set i (ε (D x))) (e++[O x]) (te:=te) (i:=i) (fun y d e=>by
   rw[set_set];exact H y (by simp[d]) e)
  simp![Uu,SD,vE,Wo,bM,f,eO];rw[<- tu]at ih;rw[ih];simp![Wo,Ua,Ks,Uu,map_map,tu,Yi,Ye]
  congr 2
  rw[Nat.add_zero]
  congr 1
  refine map_congr_left fun k q=>?_
  simp;omega
theorem dP{o:Type}(D:o->Dt)(S:Nat->LI->HI->Prop):∀(xs:Oo o)(a:Nat)(_:∀k x,xs[k]?=ε x->∀l h,S (a+k) l h->∃r,body (l.set i (ε (D x))) h=ε r/\Pass (S (a+k+1)) r)(l:LI)(h:HI),S a l h->
 ∃b f,lC (BA i) body (xs.map D) l h=ε (.nx b f)/\S (a+xs.length) b f
 | [],a,_,l,h,s=>⟨l,h,rfl,s⟩
 | x::xs,a,H,l,h,s=>by
  obtain⟨r,e,p⟩:=H 0 x rfl l h s;have q:∀(k:Nat) y,xs[k]?=ε y->∀l h,S (a+1+k) l h->∃r,body (l.set i (ε (D y))) h=ε r/\Pass (S (a+1+k+1)) r:=by intro k y u l h s;have:=H (k+1) y (by simpa using u) l h (by rw[show a+(k+1)=a+1+k by omega];exact s);rw[show a+(k+1)+1=a+1+k+1 by omega]at this;exact this
  cases r with
  | nx j g=>obtain⟨b,f,n,m⟩:=dP D S xs (a+1) q j g p;exact⟨b,f,by simp[lC,e,n],by rw[Ua,show a+(xs.length+1)=a+1+xs.length by omega];exact m⟩
  | ct j g=>obtain⟨b,f,n,m⟩:=dP D S xs (a+1) q j g p;exact⟨b,f,by simp[lC,e,n],by rw[Ua,show a+(xs.length+1)=a+1+xs.length by omega];exact m⟩
  | bk j g=>exact p.elim
  | rt d g=>exact p.elim
def MJ(D:Nat->Dt)(S:Nat->LI->HI->Prop)(n)(H:∀k<n,∀l h,S k l h->∃r,body (l.set i (ε (D k))) h=ε r/\Pass (S (k+1)) r)(l)(h)(s:S 0 l h) :
 ∃a h',lC (BA i) body ((List.range n).map D) l h=ε (.nx a h')/\S n a h':=by
 obtain⟨a,h',e,f⟩:=dP (i:=i) (body:=body) D S (List.range n) 0 (fun k x g l h s=>by
  obtain⟨d,b⟩:=Xa g;simp at d b;subst b;rw[Ao]at s ⊢;exact H k d l h s) l h s
 exact⟨a,h',e,by simpa using f⟩
noncomputable def WZ(I:LI->HI->Prop):Rs->Prop
 | .nx l h=>I l h
 | .ct l h=>I l h
 | _=>True
def Et(I:LI->HI->Prop)(f:∀l h,I l h->h[n]?=ε (.lst xs))(H:∀x∈xs,∀l h r,I l h->body (l.set i (ε x)) h=ε r->WZ I r) :
 ∀m k l h,I l h->aC (BA i) body (.rf n) m k l h=aC (BA i) body (.vals xs) m k l h:=by
 intro m
 induction m with
 | zero=>intros;rfl
 | succ m ih=>
  intro k l h e;unfold aC;simp![mo.at,f l h e];cases z:xs[k]? with
  | none=>rfl
  | some d=>
   simp![vE,Wo];cases q:body (l.set i (ε d)) h with
   | none=>rfl
   | some r=>
    have:=H d (m6 z) _ _ _ e q;simp![Wo];cases r with
    | nx b a=>exact ih _ _ _ this
    | ct b a=>exact ih _ _ _ this
    | bk b a=>rfl
    | rt d a=>rfl
def Bt(I:LI->HI->Prop)(b:∀l h,I l h->h[n]?=ε (.lst xs))(H:∀x∈xs,∀l h r,I l h->body (l.set i (ε x)) h=ε r->WZ I r)(a:I l h) :
 xD (BA i) body l (.rf n,h)=lC (BA i) body xs l h:=by
 rw[<- VF];unfold xD;have d:mo.fuel (.rf n) h=xs.length+1:=by simp![mo.fuel,b l h a]
 have e2:mo.fuel (.vals xs) h=xs.length+1:=by simp![mo.fuel]
 simp![d,e2];exact Et I b H _ _ _ _ a
def DT{o:Type}(D:o->Dt)(S:Nat->LI->HI->Prop)(xs:Oo o)(q:∀k l h,S k l h->h[n]?=ε (.lst (xs.map D)))(H:∀k x,xs[k]?=ε x->∀l h,S k l h->∃r,body (l.set i (ε (D x))) h=ε r/\Pass (S (k+1)) r)
 (l) (h) (u:S 0 l h):∃a h',xD (BA i) body l (.rf n,h)=ε (.nx a h')/\S xs.length a h':=by
 have go:∀(f k:Nat)(l:LI)(h:HI),S k l h->f=xs.length-k+1->k<=xs.length->∃a h',aC (BA i) body (.rf n) f k l h=ε (.nx a h')/\S xs.length a h':=by
  intro f
  induction f with
  | zero=>intro k l h _ e;omega
  | succ f ih=>
   intro k l h m e C;unfold aC;simp![mo.at,q k l h m,w5];by_cases p:k<xs.length
   . rw[jo p];obtain⟨r,B,g⟩:=H k xs[k] (jo p) l h m;simp![Vu,vE,Wo,B];cases r with
     | nx j b=>exact ih (k+1) j b g nofun nofun
     | ct j b=>exact ih (k+1) j b g nofun nofun
     | bk j b=>exact g.elim
     | rt d b=>exact g.elim
   . rw[lu nofun];have:k=xs.length:=by omega
     subst this;exact⟨l,h,rfl,m⟩
 have y:mo.fuel (.rf n) h=xs.length-0+1:=by simp![mo.fuel,q 0 l h u,ni];omega
 unfold xD;exact go _ 0 l h u y (nW _)
section
variable{l:LI}{h:HI}{fo fi fe f fa:RE}
noncomputable def BQ(fa:RE)(l:LI):Dt×HI->O4 (Dt×HI)
 | (.ref n,h)=>(match h[n]? with
  | some (.lst _)=>(fa l h).bind fun q=>match q.1 with
   | .int 0=>(match q.2[n]? with
    | some (.lst (x::xs))=>ε (x,q.2.set n (.lst xs))
    | _=>none)
   | _=>none
  | _=>none)
 | _=>none
@[simp] def Rb:tP fo fa l h=mB (fo l h) (BQ fa l):=by
 unfold mB tP
 congr 1
 funext r
 obtain⟨d,h⟩:=r;cases d<;>(try rfl)
def sy(e:h[n]?=ε (.lst (x::xs)))(a:fa l h=ε (.int 0,h)):BQ fa l (.ref n,h)=ε (x,h.set n (.lst xs)):=by simp![BQ,e,a,Wo]
noncomputable def aU:Dt×HI->O4 (Dt×HI)
 | (.int b,h)=>ε (.int (Builtin.bitNot b),h)
 | _=>none
@[simp] def Gy(b:Int):aU (.int b,h)=ε (.int (Builtin.bitNot b),h):=by rfl
@[simp] def w8:xN f l h=mB (f l h) aU:=by
 unfold mB xN
 congr 1
 funext r
 obtain⟨d,h⟩:=r;cases d<;>rfl
@[simp] def Ub(n:Nat)(t:RT)(body:RS):pP n t body l h=YF t body n l h:=by rfl
end
noncomputable def KI(I:LI->HI->Prop)(E:Dt->HI->Prop):Rs->Prop
 | .nx l h=>I l h
 | .rt d h=>E d h
 | _=>False
def kX(I:Nat->LI->HI->Prop)(N:LI->HI->Prop)(E:Dt->HI->Prop)
 (H:∀m l h,I m l h->∃b g,t l h=ε (b,g)/\if b=true then ∃r,body l g=ε r/\KI (fun e a=>∃f,f<m/\I f e a) E r else N l g) :
 ∀n m l h,I m l h->m<n->∃r,YF t body n l h=ε r/\KI N E r:=by
 intro n
 induction n with
 | zero=>intro m l h _ k;omega
 | succ n ih=>
  intro m l h i k;obtain⟨b,g,o,q⟩:=H m l h i;rw[Yj,o,fA];unfold whK;cases b with
  | false=>rw[eH Xe]at q ⊢;exact⟨_,rfl,q⟩
  | true=>
   rw[eG rfl]at q ⊢;obtain⟨r,e2,q⟩:=q;simp![e2,Wo];cases r with
   | nx e a=>obtain⟨f,p,j⟩:=q;exact ih f e a j nofun
   | rt d a=>exact⟨_,rfl,q⟩
   | bk e a=>exact q.elim
   | ct e a=>exact q.elim
def LZ{m:Type}(D:m->Dt)(S:Nat->LI->HI->Prop)(E:Dt->HI->Prop)(xs:Oo m)(p:∀k l h,S k l h->h[n]?=ε (.lst (xs.map D)))(H:∀k x,xs[k]?=ε x->∀l h,S k l h->∃r,body (l.set i (ε (D x))) h=ε r/\KI (S (k+1)) E r)
 (l) (h) (q:S 0 l h):∃r,xD (BA i) body l (.rf n,h)=ε r/\KI (S xs.length) E r:=by
 have go:∀(f k:Nat)(l:LI)(h:HI),S k l h->f=xs.length-k+1->k<=xs.length->∃r,aC (BA i) body (.rf n) f k l h=ε r/\KI (S xs.length) E r:=by
  intro f
  induction f with
  | zero=>intro k l h _ e;omega
  | succ f ih=>
   intro k l h j e B;unfold aC;simp![mo.at,p k l h j,w5];by_cases o:k<xs.length
   . rw[jo o];obtain⟨r,y,a⟩:=H k xs[k] (jo o) l h j;simp![Vu,vE,Wo,y];cases r with
     | nx g b=>exact ih (k+1) g b a nofun nofun
     | rt d b=>exact⟨_,rfl,a⟩
     | bk g b=>exact a.elim
     | ct g b=>exact a.elim
   . rw[lu nofun];have:k=xs.length:=by omega
     subst this;exact⟨_,rfl,j⟩
 have u:mo.fuel (.rf n) h=xs.length-0+1:=by simp![mo.fuel,p 0 l h q,ni];omega
 unfold xD;exact go _ 0 l h q u (nW _)
section
variable{l:LI}{h:HI}{f g fo fe:RE}{ga:RA}
noncomputable def K4(c:Nat):Dt->Dt×HI->O4 (mo×HI)
 | .int i,(.int j,h)=>if 0<=i/\i<2^61/\0<=j/\j<2^61/\0<c/\c<1000 then ε (.vals ((List.range ((j-i+(c:Int)-1)/(c:Int)).toNat).map fun(k:Nat)=>Dt.int (i+(k:Int)*(c:Int))),h)else none
 | _,_=>none
@[simp] def v8(c:Nat):P1 f g c l h=mB (f l h) fun r=>mB (g l r.2) (K4 c r.1):=by
 unfold mB;unfold P1
 congr 1
 funext r
 obtain⟨d,h⟩:=r
 congr 1
 funext q
 obtain⟨a,b⟩:=q;cases d<;>cases a<;>rfl
def cZ(a:xs ≠ [])(b:xs.length+ys.length<=sizeLine):GD (.tup xs) (.tup ys) h=ε (.tup (xs++ys),h):=eG ⟨a,b⟩
def uQ(x f:Str):Dt×HI->O4 (Dt×HI)
 | (.ref n,h)=>(match h[n]? with
  | some (.ins y fs)=>if y=x then(sD f fs).bind fun d=>ε (d,h)else none
  | _=>none)
 | _=>none
@[simp] def WP(x k:Str):nG x k fo l h=mB (fo l h) (uQ x k):=by
 unfold mB nG
 congr 1
 funext r
 obtain⟨d,h⟩:=r;cases d<;>(try rfl)
def QO(e:h[n]?=ε (.ins x fs))(a:sD k fs=ε d):uQ x k (.ref n,h)=ε (d,h):=by simp![uQ,e,eO,a,Wo]
def ET(x f:Str)(v:Dt)(l:LI):Dt×HI->O4 Rs
 | (.ref n,h)=>(match h[n]? with
  | some (.ins y fs)=>if y=x/\fs.length<1000 then ε (.nx l (h.set n (.ins y (KE f v fs))))else none
  | _=>none)
 | _=>none
@[simp] def KZ(x k:Str):MI x k fo fe l h=mB (fe l h) fun r=>mB (fo l r.2) (ET x k r.1 l):=by
 unfold mB MI
 congr 1
 funext r
 congr 1
 funext q
 obtain⟨d,h⟩:=q;cases d<;>(try rfl)
def yO(e:h[n]?=ε (.ins x fs))(a:fs.length<1000):ET x k v l (.ref n,h)=ε (.nx l (h.set n (.ins x (KE k v fs)))):=by simp![ET,e,true_and,eG a]
noncomputable def K0(n:Nat):Dt×HI->O4 (Dt×HI)
 | (.non,h)=>ε (.ref n,h)
 | _=>none
@[simp] def Nv(n:Nat):K0 n (.non,h)=ε (.ref n,h):=by rfl
@[simp] def B7(x:Str)(F:rB):HP x F ga l h=mB (ga l h) fun r=>mB (F (.ref r.2.length::r.1) (r.2++[.ins x []])) (K0 r.2.length):=by
 unfold mB HP
 congr 1
 funext r
 congr 1
 funext q
 obtain⟨d,h⟩:=q;cases d<;>(try rfl)
def XS(x m:Str)(F:rB)(ga:RA)(l:LI):Dt×HI->O4 (Dt×HI)
 | (.ref n,h)=>(match h[n]? with
  | some (.ins y fs)=>if y=x/\sD m fs=none then(ga l h).bind fun q=>F (.ref n::q.1) q.2 else none
  | _=>none)
 | _=>none
@[simp] def ES(x m:Str)(F:rB):NI x m F fo ga l h=mB (fo l h) (XS x m F ga l):=by
 unfold mB NI
 congr 1
 funext r
 obtain⟨d,h⟩:=r;cases d<;>(try rfl)
def DR(e:h[n]?=ε (.ins x fs))(a:sD m fs=none):XS x m F ga l (.ref n,h)=mB (ga l h) fun q=>F (.ref n::q.1) q.2:=by simp![XS,e,true_and,eG a];rfl
def lT:Dt×HI->O4 (mo×HI)
 | (.lst xs,h)=>ε (.vals (OI 0 xs),h)
 | (.ref n,h)=>(match h[n]? with
  | some (.lst _)=>ε (.en n,h)
  | _=>none)
 | _=>none
@[simp] def Lb:NP f l h=mB (f l h) lT:=by
 unfold mB NP
 congr 1
 funext r
 obtain⟨d,h⟩:=r;cases d<;>(try rfl)
def yw(e:h[n]?=ε (.lst xs)):lT (.ref n,h)=ε (.en n,h):=by simp![lT,e]
end
def X6{p:Type}(D:p->Dt)(S:Nat->LI->HI->Prop)(xs:Oo p)(u:∀k l h,S k l h->h[n]?=ε (.lst (xs.map D)))(H:∀k x,xs[k]?=ε x->∀l h,S k l h->∃r,body ((l.set i (ε (.int (k:Int)))).set j (ε (D x))) h=ε r/\Pass (S (k+1)) r)
 (l) (h) (y:S 0 l h):∃a h',xD (ED i j) body l (.en n,h)=ε (.nx a h')/\S xs.length a h':=by
 have go:∀(f k:Nat)(l:LI)(h:HI),S k l h->f=xs.length-k+1->k<=xs.length->∃a h',aC (ED i j) body (.en n) f k l h=ε (.nx a h')/\S xs.length a h':=by
  intro f
  induction f with
  | zero=>intro k l h _ e;omega
  | succ f ih=>
   intro k l h o e E;unfold aC;simp![mo.at,u k l h o,w5];by_cases q:k<xs.length
   . rw[jo q];obtain⟨r,C,g⟩:=H k xs[k] (jo q) l h o;simp![Vu,xS,Wo,C];cases r with
     | nx m b=>exact ih (k+1) m b g nofun nofun
     | ct m b=>exact ih (k+1) m b g nofun nofun
     | bk m b=>exact g.elim
     | rt d b=>exact g.elim
   . rw[lu nofun];have:k=xs.length:=by omega
     subst this;exact⟨l,h,rfl,o⟩
 have B:mo.fuel (.en n) h=xs.length-0+1:=by simp![mo.fuel,u 0 l h y,ni];omega
 unfold xD;exact go _ 0 l h y B (nW _)
end SM
namespace PySem
open PySem.Sem (wp)
section
variable{prog:Ri}{w:Rr}{A:Ru}{E:Ou->Pa->Prop}{s:Pa}
def X8(h:s.heap.get? a=ε o)(q:Q (ε o) s):wpAny M A (loadIfAlive a) Q E s:=by intro Γ p hΓ;unfold loadIfAlive;simp![Sem.wp];rw[h];exact q
abbrev aG(h:Te)(z TI TO:Pb)(b a:Ou):Prop:=
 h.get? z=ε { cls:=.type "zip",dict:=none,data:=.fields #[b,a,.bool false,.ref TI,.ref TO],slots:=#[] }
def yY{z TI TO T:Pb}(hz:aG s.heap z TI TO (rawInt T) (.bool b))(h:∃o,s.heap.get? T=ε o)
 (f:∀a,aG a z TI TO (rawInt T) (.bool true)->Heap.SameBut z s.heap a->Q false { s with heap:=a }):wpAny (model prog w) A (Builtin.SmallTypes.ownedTupleIsFree (.ref z)) Q E s:=by
 obtain⟨o,g⟩:=h;unfold Builtin.SmallTypes.ownedTupleIsFree;refine ao (Ho hz rfl (x:=rawInt T) rfl ?_);show wpAny _ _ (loadIfAlive ((T:Int).toNat) >>=_) _ _ _;refine ao (X8 (o:=o) (by rw[ou];exact g) ?_);simp![Option.isNone_some,Xo,g8];refine ao (Ho hz rfl (x:=.bool b) rfl ?_);cases b with
 | true=>rw[eH (by decide)];exact ao (au (au (f s.heap hz (Heap.SameBut.refl _ _))))
 | false=>rw[eG (by decide)];exact ao (wpAny_setField_rec hz ⋯ fun a d e=>au (f a d e))
end
section
variable{prog:Ri}{w:Rr}{A:Ru}{E:Ou->Pa->Prop}{s:Pa}
def L9{z TI TO T j i u r:Pb}{f1:Bool}{C B:Nat}{xs ys:Ss Ou}{x y a b:Ou}{Q:Ou->Pa->Prop}(D:ZipApart z TI TO j i u r)
 (hz:aG s.heap z TI TO (rawInt T) (.bool f1)) (Z:∃o,s.heap.get? T=ε o) (I:IsPair s.heap TI (.ref j) (.ref i))
 (h1:s.heap.IsListIter j u C) (h2:s.heap.IsListIter i r B) (H:s.heap.IsList u xs) (F:s.heap.IsList r ys) (W:xs[C]?=ε x) (U:ys[B]?=ε y)
 (hQ:∀q,aG q z TI TO (rawInt T) (.bool true)->q.IsListIter j u (C+1)->q.IsListIter i r (B+1)->IsPair q s.heap.objs.size x y->q.objs.size=s.heap.objs.size+1->
  (∀c o,c≠z->c≠j->c≠i->s.heap.get? c=ε o->q.get? c=ε o)->Q (.ref s.heap.objs.size) { s with heap:=q }) :
 wpAny (model prog w) A (Builtin.«zip.__next__» ⟨[.ref z],[]⟩) (fun J S=>∃v,J=.done (.ret v)/\Q v S) E s:=by
 show wpAny _ _ (field (.ref z) 2 >>=_) _ _ _;refine ao (Ho hz rfl (x:=.bool false) rfl ?_);show wpAny _ _ (field (.ref z) 3 >>=_) _ _ _;refine ao (Ho hz rfl (x:=.ref TI) rfl ?_);refine ao (wpAny_seqItems I rfl ?_);show wpAny _ _ (Builtin.SmallTypes.ownedTupleIsFree (.ref z) >>=_) _ _ _;refine ao (yY hz Z fun R m d=>?_);simp![Xo,g8];show wpAny _ _ (forIn #[Value.ref j,Value.ref i] _ _ >>=_) _ _ _;rw[<- Array.forIn_toList];refine ao ?_;simp![forIn_cons,forIn_nil];refine ao (ao (Fe ?_));show wpAny _ _ (Builtin.SmallTypes.nextOf (.ref j) >>=_) _ _ _;refine ao (wpAny_nextOf_list_item (h1.extBut d.extBut D.i1z) (H.extBut d.extBut D.l1z) W fun P p f=>au (au ?_));refine ao (ao (Fe ?_));show wpAny _ _ (Builtin.SmallTypes.nextOf (.ref i) >>=_) _ _ _;refine ao (wpAny_nextOf_list_item ((h2.extBut d.extBut D.i2z).extBut f.extBut D.i12.symm) ((F.extBut d.extBut D.l2z).extBut f.extBut D.l2i1) U fun h n g=>au (au (au ?_)));refine ao (wpAny_newTuple (hsz:=show 2<=sizeLine by rw[Cu];decide) ?_);have hsz:h.objs.size=s.heap.objs.size:=by rw[g.1,f.1,d.1]
 have k:aG h z TI TO (rawInt T) (.bool true):=g.extBut _ _ D.i2z.symm (f.extBut _ _ D.i1z.symm m);refine au ⟨_,rfl,?_⟩;show Q (.ref h.objs.size) _;rw[hsz];have Y:∀c o,c≠z->c≠j->c≠i->s.heap.get? c=ε o->h.get? c=ε o:=fun c o O M L e=>g.extBut _ _ L (f.extBut _ _ M (d.extBut _ _ O e))
 refine hQ _ (cg _ k) ((p.extBut g.extBut D.i12).at fun o e=>cg _ e) (n.at fun o e=>cg _ e) ?_ (by rw[Ma,hsz]) fun c o O M L e=>cg _ (Y c o O M L e)
 rw[<- hsz];exact ju _ rfl
end
section
variable{prog:Ri}{w:Rr}{A:Ru}{E:Ou->Pa->Prop}{s:Pa}
def Z9{z TI TO T i g p n:Pb}(O:A.handled=none)(D:ZipApart z TI TO i g p n)
 (hz:aG s.heap z TI TO (rawInt T) (.bool U)) (S:∃o,s.heap.get? T=ε o) (F:IsPair s.heap TI (.ref i) (.ref g))
 (h1:s.heap.IsListIter i p r) (h2:s.heap.IsListIter g n q) (k:s.heap.IsList p xs) (B:s.heap.IsList n ys) (m:xs[r]?=none\/ys[q]?=none)
 (P:∀I e,(∀c o,c≠z->c≠i->c≠g->s.heap.get? c=ε o->I.get? c=ε o)->(∃o,I.get? e=ε o/\o.cls=.type "StopIteration")->E (.ref e) { s with heap:=I }) :
 wpAny (model prog w) A (Builtin.«zip.__next__» ⟨[.ref z],[]⟩) Q E s:=by
 show wpAny _ _ (field (.ref z) 2 >>=_) _ _ _;refine ao (Ho hz rfl (x:=.bool false) rfl ?_);show wpAny _ _ (field (.ref z) 3 >>=_) _ _ _;refine ao (Ho hz rfl (x:=.ref TI) rfl ?_);refine ao (wpAny_seqItems F rfl ?_);show wpAny _ _ (Builtin.SmallTypes.ownedTupleIsFree (.ref z) >>=_) _ _ _;refine ao (yY hz S fun M u a=>?_);simp![Xo,g8];show wpAny _ _ (forIn #[Value.ref i,Value.ref g] _ _ >>=_) _ _ _;rw[<- Array.forIn_toList];refine ao ?_;simp![forIn_cons,forIn_nil];refine ao (ao (Fe ?_));show wpAny _ _ (Builtin.SmallTypes.nextOf (.ref i) >>=_) _ _ _;cases y:xs[r]? with
 | none=>exact ao (wpAny_nextOf_list_end O (h1.extBut a.extBut D.i1z) (k.extBut a.extBut D.l1z) y fun d e b C=>P d e (fun c o L J v x=>b _ _ J (a.extBut _ _ L x)) C)
 | some x=>
  have R:ys[q]?=none:=by rcases m with h | h;rw[y]at h;cases h;exact h
  refine ao (wpAny_nextOf_list_item (h1.extBut a.extBut D.i1z) (k.extBut a.extBut D.l1z) y fun d H b=>au (au ?_));refine ao (ao (Fe ?_));show wpAny _ _ (Builtin.SmallTypes.nextOf (.ref g) >>=_) _ _ _;exact ao (wpAny_nextOf_list_end O ((h2.extBut a.extBut D.i2z).extBut b.extBut D.i12.symm) ((B.extBut a.extBut D.l2z).extBut b.extBut D.l2i1) R fun j e f C=>P j e (fun c o L J W x=>f _ _ W (b.extBut _ _ J (a.extBut _ _ L x))) C)
def l9{z TI TO T f e i h:Pb}(D:ZipApart z TI TO f e i h)
 (hz:aG s.heap z TI TO (rawInt T) (.bool C)) (u:∃o,s.heap.get? T=ε o) (p:IsPair s.heap TI (.ref f) (.ref e))
 (h1:s.heap.IsListIter f i k) (h2:s.heap.IsListIter e h j) (n:s.heap.IsList i xs) (m:s.heap.IsList h ys) (r:xs[k]?=ε x) (q:ys[j]?=ε y)
 (B:∀d,aG d z TI TO (rawInt T) (.bool true)->d.IsListIter f i (k+1)->d.IsListIter e h (j+1)->IsPair d s.heap.objs.size x y->d.objs.size=s.heap.objs.size+1->
  (∀c o,c≠z->c≠f->c≠e->s.heap.get? c=ε o->d.get? c=ε o)->Q (ε (.ref s.heap.objs.size)) { s with heap:=d }) :
 wpAny (model prog w) A (pyNext (.ref z)) Q E s:=by
 have g:s.TypeIs (.ref z) "zip" :=⟨_,hz,rfl⟩;unfold pyNext;exact ao (wpAny_attempt (wpAny_callSpecial?_slot (name:=Str.ofString "__next__") g F.slot_zip_next
  (wpAny_call_entry F.slot_zip_next g F.entry_zip_next
   (L9 (a:=.none) (b:=.none) D hz u p h1 h2 n m r q fun d O M L J I H=>au (B d O M L J I H)) (F.args_zip_next_1 _))))
def C9{z TI TO T g f i h:Pb}(x:A.handled=none)(D:ZipApart z TI TO g f i h)
 (hz:aG s.heap z TI TO (rawInt T) (.bool I)) (C:∃o,s.heap.get? T=ε o) (m:IsPair s.heap TI (.ref g) (.ref f))
 (h1:s.heap.IsListIter g i q) (h2:s.heap.IsListIter f h p) (k:s.heap.IsList i xs) (j:s.heap.IsList h ys) (a:xs[q]?=none\/ys[p]?=none)
 (H:∀n,(∀c o,c≠z->c≠g->c≠f->s.heap.get? c=ε o->n.get? c=ε o)->Q none { s with heap:=n }) :
 wpAny (model prog w) A (pyNext (.ref z)) Q E s:=by
 have d:s.TypeIs (.ref z) "zip" :=⟨_,hz,rfl⟩;unfold pyNext;refine ao (wpAny_attempt (wpAny_callSpecial?_slot (name:=Str.ofString "__next__") d F.slot_zip_next (wpAny_call_entry F.slot_zip_next d F.entry_zip_next (Z9 x D hz C m h1 h2 k j a fun n e u y=>?_) (F.args_zip_next_1 _))));obtain⟨o,r,B⟩:=y;refine ao (wpAny_isInstance (T := "StopIteration") (b:=true) ⟨o,r,B⟩ isSubtype_stop ?_);exact au (H _ u)
end
section
variable{prog:Ri}{w:Rr}{A:Ru}{R:Result->Pa->Prop}
def gh(h:Te)(z TI TO g f e d:Pb)(xs ys:Ss Ou)(i:Nat):Prop:=
 ((IsZip h z TI TO .none/\∃a b,IsPair h TO a b)\/∃(T:Pb)(j:Bool),aG h z TI TO (rawInt T) (.bool j)/\∃o,h.get? T=ε o)/\IsPair h TI (.ref g) (.ref f)/\h.IsListIter g e i/\h.IsListIter f d i/\h.IsList e xs/\h.IsList d ys
def gh.keep {z TI TO E D B u:Pb} (x:gh h z TI TO E D B u xs ys i) (k:∀b o,h.get? b=ε o->(∃j n,o.data=.seq j n/\o.cls=.type "list" /\ b≠B/\b≠u)\/h'.get? b=ε o) (O:∀b o,h.get? b=ε o->∃L,h'.get? b=ε L):gh h' z TI TO E D B u xs ys i:=by
 obtain⟨a,b,c,d,e,f⟩:=x;have go:∀{b:Pb} {o:Obj},h.get? b=ε o->((∀j n,o.data≠.seq j n)\/o.cls≠.type "list" \/ b=B\/b=u)->h'.get? b=ε o:=fun {b o} e q=>by
  rcases k b o e with⟨j,n,J,I,H,F⟩ | y
  . rcases q with q | q | q | q
    . exact Es J (q j n)
    . exact Es I q
    . exact Es q H
    . exact Es q F
  . exact y
 refine⟨?_,go b (.inr (.inl (by intro z;simp at z))),?_,?_,?_,?_⟩
 . rcases a with⟨a,p,q,r⟩ | ⟨T,M,a,o,r⟩
   . exact .inl ⟨go a (.inl (by intro _ _ z;cases z)),p,q,go r (.inr (.inl (by intro z;simp at z)))⟩
   . exact .inr ⟨T,M,go a (.inl (by intro _ _ z;cases z)),O _ _ r⟩
 . obtain⟨o,g,C,m⟩:=c;exact⟨o,go g (.inl (by intro _ _ z;rw[m]at z;cases z)),C,m⟩
 . obtain⟨o,g,C,m⟩:=d;exact⟨o,go g (.inl (by intro _ _ z;rw[m]at z;cases z)),C,m⟩
 . obtain⟨o,g,r⟩:=e;exact⟨o,go g (.inr (.inr (.inl rfl))),r⟩
 . obtain⟨o,g,r⟩:=f;exact⟨o,go g (.inr (.inr (.inr rfl))),r⟩
def YO(h:Te)(n0:Nat)(xs ys:Ss Ou)(b:Oo Pb):Prop:=(∀(j:Nat) a,b[j]?=ε a->∃x y,xs[j]?=ε x/\ys[j]?=ε y/\IsPair h a x y)/\b.Nodup/\∀a∈b,n0<=a/\a<h.objs.size
def a9(hh:A.in1.handled=none){S z TI TO u r l1 l2 n0 n:Nat}(E)(D:ZipApart z TI TO u r l1 l2)(hn:n<=sizeLine)(a5:S≠z/\S≠TI/\S≠TO/\S≠u/\S≠r/\S≠l1/\S≠l2)(b5:S<n0)
 (a7:z<n0/\TO<n0/\u<n0/\r<n0) (hx:∀i,i<n->∃x y,xs[i]?=ε x/\ys[i]?=ε y) (he:xs[n]?=none\/ys[n]?=none) :
 ∀k i s M q c,n-i=k->i<=n->gh s.heap z TI TO u r l1 l2 xs ys i->n0<=s.heap.objs.size->s.heap.get? S=ε { cls:=.type "list",dict:=none,data:=.seq q c,slots:=#[] }->
 q=(M.map Value.ref).toArray->M.length=i->YO s.heap n0 xs ys M->
 (∀d B c',(∀b o,b≠S->b≠z->b≠TO->b≠u->b≠r->s.heap.get? b=ε o->d.get? b=ε o)->d.get? S=ε { cls:=.type "list",dict:=none,data:=.seq (B.map Value.ref).toArray c',slots:=#[] }->B.length=n->YO d n0 xs ys B->R (.ok (.ret E)) { s with heap:=d })->
 codeAny (model prog w) A (.builtin "list.extend.loop" ⟨[.ref S,.ref z,E],[]⟩) R s:=by
 obtain⟨q1,q2,q3,q4,q5,q6,q7⟩:=a5;intro k
 induction k with
 | zero=>
  intro i s M q c hk hi st a1 hS g hl P hR;have a4:i=n:=by omega
  subst a4;obtain⟨Q,m,s1,s2,s3,s4⟩:=st;refine Iu F.entry_extend_loop ?_;rw[Ia F.plain_extend_loop _];show wpAny _ A.in1 (pyNext (.ref z) >>=_) _ _ s;have h:∀d,(∀b o,b≠z->b≠TO->b≠u->b≠r->s.heap.get? b=ε o->d.get? b=ε o)->R (.ok (.ret E)) { s with heap:=d }:=fun d kp=>by
   refine hR d M c (fun b o b0 L b2 J I e=>kp b o L b2 J I e) (by rw[<- g];exact kp _ _ q1 q3 q4 q5 hS) hl ⟨fun j a ha=>?_,P.2.1,fun a ha=>?_⟩
   . obtain⟨x,y,e1,e2,e3⟩:=P.1 j a ha;have:=(P.2.2 a (m6 ha)).1;exact⟨x,y,e1,e2,kp _ _ nofun nofun nofun nofun e3⟩
   . obtain⟨p1,p2⟩:=P.2.2 a ha;obtain⟨j,hj⟩:=getElem?_of_mem ha;obtain⟨x,y,_,_,e3⟩:=P.1 j a hj;exact⟨p1,ji (kp _ _ nofun nofun nofun nofun e3)⟩
  rcases Q with⟨sz,a,b,U⟩ | ⟨T,f1,sz,sT⟩
  . exact ao (wpAny_pyNext_zip_end hh D sz m U s1 s2 s3 s4 he fun d kp=>au (h d kp))
  . exact ao (C9 hh D sz sT m s1 s2 s3 s4 he fun d kp=>au (h d fun b o L v J I e=>kp b o L J I e))
 | succ k ih=>
  intro i s M q c hk hi st a1 hS g hl P hR;obtain⟨x,y,Y,W⟩:=hx i nofun;obtain⟨Q,m,s1,s2,s3,s4⟩:=st;refine Iu F.entry_extend_loop ?_;rw[Ia F.plain_extend_loop _];show wpAny _ A.in1 (pyNext (.ref z) >>=_) _ _ s;have h:∀d,((IsZip d z TI TO .none/\∃a b,IsPair d TO a b)\/∃(T:Pb)(f1:Bool),aG d z TI TO (rawInt T) (.bool f1)/\∃o,d.get? T=ε o)->d.IsListIter u l1 (i+1)->d.IsListIter r l2 (i+1)->IsPair d s.heap.objs.size x y->d.objs.size=s.heap.objs.size+1->(∀b o,b≠z->b≠TO->b≠u->b≠r->s.heap.get? b=ε o->d.get? b=ε o)->
   wpAny (model prog w) A.in1 (updateSeq S (·.push (.ref s.heap.objs.size)) >>=fun v=>again (.builtin "list.extend.loop" ⟨[.ref S,.ref z,E],[]⟩)) (fun h s'=>match h with | .done f=>R (.ok f) s' | .again c'=>c'.quiet=true/\codeAny (model prog w) A c' R s') (fun e s'=>R (.error e) s') { s with heap:=d }:=by
   intro d z1 z2 z3 z4 z5 kp;have Z:=kp _ _ q1 q3 q4 q5 hS;refine ao (Oi Z rfl (au ⟨plainId_quiet F.plain_extend_loop _,?_⟩) (by rw[g];simp![cu,ni,hl];omega) (by show(q.push _).size<=sizeLine+1;rw[Array.size_push,g];simp![cu,ni,hl];omega));have a2:=Gs (Obj.mapSeq (·.push (Value.ref s.heap.objs.size))) Z rfl;have ot:∀b,b≠S->(d.update S (Obj.mapSeq (·.push (Value.ref s.heap.objs.size)))).get? b=d.get? b:=fun b H=>xu _ _ (n7 H)
   have a0:(d.update S (Obj.mapSeq (·.push (Value.ref s.heap.objs.size)))).objs.size=d.objs.size:=(Heap.SameBut.update ..).1;refine ih (i+1) _ (M++[s.heap.objs.size]) (q.push (.ref s.heap.objs.size)) _ nofun nofun ?_ (by show n0<=Array.size _;rw[a0,z5];omega) a2 (by rw[g];simp) (by simp[hl]) ⟨fun j a ha=>?_,?_,fun a ha=>?_⟩ fun a6 B c' k2 k3 k4 k5=>hR a6 B c' (fun b o b0 L b2 J I e=>k2 b o b0 L b2 J I (by rw[ot b b0];exact kp b o L b2 J I e)) k3 k4 k5
   . have zs:gh d z TI TO u r l1 l2 xs ys (i+1):=⟨z1,kp _ _ D.TIz D.TITO D.TIi1 D.TIi2 m,z2,z3,s3.at fun o e=>kp _ o D.l1z D.l1TO D.l1i1 D.l1i2 e,s4.at fun o e=>kp _ o D.l2z D.l2TO D.l2i1 D.l2i2 e⟩;refine zs.keep (fun b o e=>?_) fun b o e=>?_
     . by_cases H:b=S
       . subst H;rw[Z]at e;cases e;exact .inl ⟨_,_,rfl,rfl,q6,q7⟩
       . exact .inr (by rw[ot b H];exact e)
     . by_cases H:b=S
       . subst H;exact⟨_,a2⟩
       . exact⟨o,by rw[ot b H];exact e⟩
   . by_cases hj:j<M.length
     . rw[Yo hj]at ha;obtain⟨x',y',e1,e2,e3⟩:=P.1 j a ha;have p:=P.2.2 a (m6 ha);refine⟨x',y',e1,e2,?_⟩;show Heap.get? _ a=_;rw[ot a nofun];exact kp _ _ nofun nofun nofun nofun e3
     . rw[ag nofun]at ha;have a3:j=i:=by have:=(Xa ha).1;simp at this;omega
       subst a3;rw[hl]at ha;simp at ha;subst ha;refine⟨x,y,Y,W,?_⟩;show Heap.get? _ s.heap.objs.size=_;rw[ot _ nofun];exact z4
   . rw[nodup_append];refine⟨P.2.1,by simp,fun a ha b H e=>?_⟩;rw[Bs.mp H]at e;exact Fi _ (e ▸ (P.2.2 a ha).2)
   . show n0<=a/\a<Array.size _;rw[a0,z5];rcases Ca.mp ha with ha | ha
     . exact⟨(P.2.2 a ha).1,Ie (P.2.2 a ha).2⟩
     . rw[Bs.mp ha];exact⟨a1,zu _⟩
  rcases Q with⟨sz,a,b,U⟩ | ⟨T,f1,sz,o,sT⟩
  . exact ao (wpAny_pyNext_zip_item D sz m U s1 s2 s3 s4 Y W fun d z1 z2 z3 z4 C O kp=>h d (.inr ⟨_,false,z1,_,C⟩) z3 z4 C O kp)
  . have hT:∀d:Te,(∀b o,b≠z->b≠u->b≠r->s.heap.get? b=ε o->d.get? b=ε o)->aG d z TI TO (rawInt T) (.bool true)->d.IsListIter u l1 (i+1)->d.IsListIter r l2 (i+1)->∃o,d.get? T=ε o:=fun d kp zz y1 y2=>by
     by_cases t1:T=z
     . subst t1;exact⟨_,zz⟩
     . by_cases t2:T=u
       . subst t2;obtain⟨o,e,_⟩:=y1;exact⟨o,e⟩
       . by_cases t3:T=r
         . subst t3;obtain⟨o,e,_⟩:=y2;exact⟨o,e⟩
         . exact⟨o,kp _ _ t1 t2 t3 sT⟩
    exact ao (l9 D sz ⟨o,sT⟩ m s1 s2 s3 s4 Y W fun d z1 z3 z4 C O kp=>h d (.inr ⟨T,true,z1,hT d kp z1 z3 z4⟩) z3 z4 C O fun b o L v J I e=>kp b o L J I e)
end
def Wx:typeLookup (.type "zip") "__len__" =pure none:=by rw[typeLookup_type,builtinLookup_eq_fast];kernel_rfl
def aq:typeLookup (.type "zip") "__length_hint__" =pure none:=by rw[typeLookup_type,builtinLookup_eq_fast];kernel_rfl
section
variable{prog:Ri}{w:Rr}{A:Ru}{E:Ou->Pa->Prop}{s:Pa}{R:Result->Pa->Prop}
def o9(hh:A.in1.handled=none){S z TI TO r q L J n0 n:Nat}(k)(D:ZipApart z TI TO r q L J)(hn:n<=sizeLine)(C:S≠z/\S≠TI/\S≠TO/\S≠r/\S≠q/\S≠L/\S≠J)(U:S<n0)
 (P:z<n0/\TO<n0/\r<n0/\q<n0) (hx:∀i,i<n->∃x y,xs[i]?=ε x/\ys[i]?=ε y) (he:xs[n]?=none\/ys[n]?=none)
 (sz:IsZip s.heap z TI TO .none) (m:∃a b,IsPair s.heap TO a b) (O:IsPair s.heap TI (.ref r) (.ref q)) (s1:s.heap.IsListIter r L 0) (s2:s.heap.IsListIter q J 0) (s3:s.heap.IsList L xs) (s4:s.heap.IsList J ys) (hsz:n0<=s.heap.objs.size)
 (Z:s.heap.get? S=ε { cls:=.type "list",data:=.seq #[] H })
 (hR:∀u h B,(∀b o,b≠S->b≠z->b≠TO->b≠r->b≠q->s.heap.get? b=ε o->u.get? b=ε o)->u.get? S=ε { cls:=.type "list",dict:=none,data:=.seq (h.map Value.ref).toArray B,slots:=#[] }->h.length=n->YO u n0 xs ys h->R (.ok (.ret k)) { s with heap:=u }) :
 wpAny (model prog w) A.in1 (Builtin.List.listExtendWith (.ref S) (.ref z) k)
  (fun W I=>match W with | .done f=>R (.ok f) I | .again B=>B.quiet=true/\codeAny (model prog w) A B R I) (fun e I=>R (.error e) I) s:=by
 have T:s.TypeIs (.ref z) "zip" :=⟨_,sz,rfl⟩;unfold Builtin.List.listExtendWith;refine ao (wpAny_typeOf T ?_);have h1:Builtin.List.listSameRef (.ref S) (.ref z)=false:=by simp[Builtin.List.listSameRef,C.1]
 have h2:(Value.type "zip" ==Value.type "list")=false:=by decide
 have h3:(Value.type "zip" ==Value.type "tuple")=false:=by decide
 simp![h1,h2,h3,Bool.or_false,Xo,g8];refine ao (wpAny_pyIter_zip sz ?_);refine ao (Fe ?_);unfold Builtin.List.listLengthHint;refine ao (wpAny_specialOf T Wx ?_);show wpAny _ A.in1 (specialOf (Value.ref z) (Str.ofString "__length_hint__") >>=_) _ _ _;refine ao (wpAny_specialOf T aq ?_);refine au ?_;show wpAny _ A.in1 (rule "list.extend.makes-room" >>=fun v=>Builtin.List.listTouch (.ref S) >>=fun v=>
  again (.builtin "list.extend.loop" ⟨[.ref S,.ref z,k],[]⟩)) _ _ _
 refine ao (wpAny_rule ?_);refine ao ?_;show wpAny _ A.in1 (updateSeq S (·.push .none) >>=fun v=>updateSeq S (·.pop)) _ _ _;refine ao (Oi Z rfl ?_);have g:=Gs (Obj.mapSeq (·.push Value.none)) Z rfl;refine Oi (hz:=by seq_fits) g rfl ?_;have p:=Gs (Obj.mapSeq (·.pop)) g rfl;have d:∀b,b≠S->((s.heap.update S (Obj.mapSeq (·.push Value.none))).update S (Obj.mapSeq (·.pop))).get? b=s.heap.get? b:=
  fun b Y=>(xu _ _ (n7 Y)).trans (xu _ _ (n7 Y))
 have M:((s.heap.update S (Obj.mapSeq (·.push Value.none))).update S (Obj.mapSeq (·.pop))).objs.size=s.heap.objs.size:=(Heap.SameBut.update ..).1.trans (Heap.SameBut.update ..).1;obtain⟨q1,q2,q3,q4,q5,q6,q7⟩:=C;obtain⟨a,b,m⟩:=m;refine au ⟨plainId_quiet F.plain_extend_loop _,a9 hh k D hn ⟨q1,q2,q3,q4,q5,q6,q7⟩ U P hx he n 0 _ [] #[] _ nofun (nW _) ⟨.inl ⟨(d _ (n7 q1)).trans sz,a,b,(d _ (n7 q3)).trans m⟩,(d _ (n7 q2)).trans O,s1.at fun o e=>(d _ (n7 q4)).trans e,s2.at fun o e=>(d _ (n7 q5)).trans e,s3.at fun o e=>(d _ (n7 q6)).trans e,s4.at fun o e=>(d _ (n7 q7)).trans e⟩ (by show n0<=Array.size _;rw[M];exact hsz) p rfl rfl ⟨fun j a Q=>by simp at Q,by simp,fun a Q=>by simp at Q⟩ fun u h B k2 k3 k4 k5=>hR u h B (fun b o b0 b1 b2 b3 b4 e=>k2 b o b0 b1 b2 b3 b4 ((d b b0).trans e)) k3 k4 k5⟩
def cj(hh:A.in1.in1.handled=none){z TI TO q p C B n:Nat}(D:ZipApart z TI TO q p C B)(hn:n<=sizeLine)
 (T:z<s.heap.objs.size/\TI<s.heap.objs.size/\TO<s.heap.objs.size/\q<s.heap.objs.size/\p<s.heap.objs.size) (hx:∀i,i<n->∃x y,xs[i]?=ε x/\ys[i]?=ε y) (he:xs[n]?=none\/ys[n]?=none)
 (sz:IsZip s.heap z TI TO .none) (j:∃a b,IsPair s.heap TO a b) (O:IsPair s.heap TI (.ref q) (.ref p)) (s1:s.heap.IsListIter q C 0) (s2:s.heap.IsListIter p B 0) (s3:s.heap.IsList C xs) (s4:s.heap.IsList B ys)
 (hQ:∀m d U,(∀b o,b≠z->b≠TO->b≠q->b≠p->s.heap.get? b=ε o->m.get? b=ε o)->m.get? s.heap.objs.size=ε { cls:=.type "list",dict:=none,data:=.seq (d.map Value.ref).toArray U,slots:=#[] }->d.length=n->YO m (s.heap.objs.size+1) xs ys d->Q (.ref s.heap.objs.size) { s with heap:=m }) :
 wpAny (model prog w) A (call (.type "list") [.ref z]) Q E s:=by
 refine callType_codes (Q₁:=fun obj f=>obj=.ref s.heap.objs.size/\f={ s with heap:=s.heap.push { cls:=.type "list",data:=.seq #[] } }) F.called_list (F.typeCall_list_1 _) F.entry_list_init
  (code_list_new _ ⟨rfl,rfl⟩) fun obj f r=>?_
 obtain⟨rfl,rfl⟩:=r;have u:(s.heap.push { cls:=.type "list",data:=.seq #[] }).get? s.heap.objs.size=ε { cls:=.type "list",data:=.seq #[] }:=ju _ rfl;refine⟨⟨_,u,rfl⟩,F.args_list_init_2 _ _,?_⟩;obtain⟨L,Z,J,I,H⟩:=T;have Y:C<s.heap.objs.size:=by obtain⟨_,e,_⟩:=s3;exact ji e
 have W:B<s.heap.objs.size:=by obtain⟨_,e,_⟩:=s4;exact ji e
 have up:∀{b:Pb} {o:Obj},s.heap.get? b=ε o->(s.heap.push { cls:=.type "list",data:=.seq #[] }).get? b=ε o:=fun e=>cg _ e
 generalize hp:s.heap.push { cls:=.type "list",data:=.seq #[] }=hp1 at u up;have S:hp1.objs.size=s.heap.objs.size+1:=by rw[<- hp];exact Ma ..
 show wpAny _ A.in1.in1 (do let old <- Builtin.List.listItems (.ref s.heap.objs.size);Builtin.List.listUpdate (.ref s.heap.objs.size) (fun v=>#[]);letGo old.toList.reverse;Builtin.List.listExtendWith (.ref s.heap.objs.size) (.ref z) .none) _ _ _;refine ao ?_;unfold Builtin.List.listItems;refine ao (wpAny_seqItems u rfl (au ?_));show wpAny _ A.in1.in1 (updateSeq s.heap.objs.size (fun v=>#[]) >>=fun v=>letGo (#[]:Ss Ou).toList.reverse >>=fun v=>Builtin.List.listExtendWith (.ref s.heap.objs.size) (.ref z) .none) _ _ _;refine ao (Oi u rfl ?_);have k:=Gs (Obj.mapSeq (fun v=>(#[]:Ss Ou))) u rfl;have P:∀b,b≠s.heap.objs.size->(hp1.update s.heap.objs.size (Obj.mapSeq (fun v=>(#[]:Ss Ou)))).get? b=hp1.get? b:=fun b hb=>xu _ _ (n7 hb)
 have M:(hp1.update s.heap.objs.size (Obj.mapSeq (fun v=>(#[]:Ss Ou)))).objs.size=s.heap.objs.size+1:=(Heap.SameBut.update ..).1.trans S;refine ao (wpAny_letGo ?_);have ne:∀{b:Nat},b<s.heap.objs.size->b≠s.heap.objs.size:=fun h=>su h
 have g:∀{b:Pb}{o:Obj},b<s.heap.objs.size->s.heap.get? b=ε o->(hp1.update s.heap.objs.size (Obj.mapSeq (fun v=>(#[]:Ss Ou)))).get? b=ε o:=fun h e=>(P _ (ne h)).trans (up e)
 obtain⟨a,b,j⟩:=j;refine o9 (A:=A.in1) hh .none D hn ⟨(ne L).symm,(ne Z).symm,(ne J).symm,(ne I).symm,(ne H).symm,(ne Y).symm,(ne W).symm⟩ (n0:=s.heap.objs.size+1) (zu _) ⟨Ie L,Ie J,Ie I,Ie H⟩ hx he (g L sz) ⟨a,b,g J j⟩ (g Z O) (s1.at fun o e=>g I e) (s2.at fun o e=>g H e) (s3.at fun o e=>g Y e) (s4.at fun o e=>g W e) (by show _<=Array.size _;rw[M];exact Va _) k fun m d U k2 k3 k4 k5=>?_
 exact⟨rfl,hQ m d U (fun b o b1 b2 b3 b4 e=>k2 b o (ne (ji e)) b1 b2 b3 b4 (g (ji e) e)) k3 k4 k5⟩
end
end PySem
namespace L2
def jF(H:Hp):Oo (Pb×HO)->Hp
 | []=>H
 | (a,o)::r=>xB (jF H r) a o
theorem LJ:∀{news:Oo (Pb×HO)},b∉news.map (·.1)->jF H news b=H b
 | [],_=>rfl
 | (a,o)::r,h=>by simp![Uu,Bu,not_or]at h;show xB (jF H r) a o b=H b;rw[aB h.1];exact LJ h.2
theorem wY:∀{news:Oo (Pb×HO)},(news.map (·.1)).Nodup->(b,u)∈news->jF H news b=ε u
 | (a,o)::r,nd,h=>by
  simp![Uu,Mu]at nd;rcases Bu.mp h with e | h
  . cases e;exact xC
  . have:b≠a:=fun e=>nd.1 (e ▸ mem_map_of_mem (f:=(·.1)) h)
    show xB (jF H r) a o b=_;rw[aB this];exact wY nd.2 h
section
variable{X:Cx}{a:Oo (Pb×Obj)}{d:Oo (O4 V)}{H:Hp}{s:Pa}{h':Te}
def me.kz(I:me X a d H s)(k:∀b u,s.heap.get? b=ε u->h'.get? b=ε u)(hp:∀p∈news,s.heap.objs.size<=p.1)(nd:(news.map (·.1)).Nodup)(ok:∀p∈news,Zi X.prog X.w (jF H news) h' p.1 p.2) :
 me X a d (jF H news) { s with heap:=h',toks:=t' }:=by
 have j:∀b,b<s.heap.objs.size->b∉news.map (·.1):=fun b f i=>by obtain⟨p,q,e⟩:=Ce.mp i;have:=hp p q;rw[e]at this;exact Es f (Jo.mpr this)
 have g:∀b u,H b=ε u->jF H news b=ε u:=fun b u e=>by rw[LJ (j b (Nat.lt_of_not_le fun z=>by rw[I.hok.fresh z]at e;cases e))];exact e
 refine I.step (g':=s.gens) (d':=s.drawn) (ch:=[]) (fun b f=>Es f ⋯) (fun b o t t t q t=>k b o q) (fun b o t t t q t=>⟨o.slots,k b o q⟩)
  (fun b o t q n=>by rw[LJ (j b (ji q))];exact n) (fun b o t q=>⟨o,k b o q⟩) (fun b x q=>g b _ q) (fun b o u q=>g b _ q)
  (fun b E q=>⟨#[],by rw[g b _ q];simp⟩) (fun m i=>?_) (fun b u q=>?_) I.bare
 . obtain⟨o,C,D,B,r⟩:=i;exact⟨o,C,D,k _ o B,r⟩
 . by_cases f:b∈news.map (·.1)
   . obtain⟨p,h,e⟩:=Ce.mp f;have:=wY (H:=H) nd (b:=p.1) (u:=p.2) h;rw[e,q]at this;cases this;rw[<- e];exact ok p h
   . rw[LJ f]at q;exact(I.hok b u q).stay (fun c v t y=>k c v y) (fun c q=>g c _ q) fun c x q=>g c _ q
end
def tLZ(K:Ra)(j:TA):TE:=fun h H Q=>j h H fun i e=>∃a b g f,i=[.ref a,.ref b]/\mv K e a g/\mv K e b f/\
 ∀(d:Oo Pb)(l:Pb),d.length=min g.length f.length->(l::d).Nodup->(∀p∈l::d,e p=none)->Q (.ref l) (jF e ((l,.lst (d.map V.ref))::d.zip ((g.zip f).map fun p=>HO.tup [p.1,p.2])))
section
variable{X:Cx}
def mz (hc:X.calm=true) (hg:Gl X "list") (hm:X.mg "list" =none) (a1:Gl X "zip") (a0:X.mg "zip" =none) (ha:PA X [a,b] ta) (hs:autoParam (starEach [a,b] X.env=(false,eval a X.env)::starEach [b] X.env) Æ) (hpl:autoParam ((backTo f (starEach [b] X.env)).any (·.1)=false) Æ) :
 PE X (.Call (.Name "list" p1) [.Call (.Name "zip" p2) [a,b] [] f] [] pos) (tLZ X.K ta):=by
 intro B s σ H Q I h;refine wpAny_Call_Name_kw (BG I hg hm boot_list ?_);refine PyProof.Rows.callWith_type1 ?_ rfl rfl;show wpAny _ _ (spliced ((false,eval (.Call (.Name "zip" p2) [a,b] [] f) X.env)::backTo pos (starEach [] X.env))) _ _ s;refine Calls.spliced_cons ?_;refine Call_ (BG I a1 a0 boot_zip (PyProof.Rows.callWith_type1 (CB (ha f B s σ H _ I h) fun us C zz=>?_) hs hpl));obtain⟨vs,H1,F,r1,q1⟩:=zz;obtain⟨c,d,P,O,e,hq,Z,q⟩:=q1;subst e;obtain⟨u,u',rfl,r,r'⟩:=dQ r1;cases r;cases r';obtain⟨m,rv,pl,hz⟩:=F.list hq;obtain⟨g,J,E,a2⟩:=F.list Z;refine call_zip_2 pl.isList E.isList fun h' z1 z2 z3 z4 z5 a3 k=>?_
 refine Calls.spliced_nil ?_;have D:=uR (x:=.none) (y:=.none) rfl rfl rfl rfl rfl z1 z3 z4 z5 (pl.isList.at fun o e=>k _ o e) (E.isList.at fun o e=>k _ o e);have hl:=rv.length;have a4:=J.length;have hh:X.A.in1.in1.handled=none:=F.ok.hd hc;have I2:me X B σ H1 { C with heap:=h' }:=F.kept (t':=C.toks) k;refine cj (s:={ C with heap:=h' }) hh (n:=min m.length g.length) D nofun ⟨by show _<h'.objs.size;omega,by show _<h'.objs.size;omega,by show _<h'.objs.size;omega,by show _<h'.objs.size;omega,by show _<h'.objs.size;omega⟩ (fun i hi=>⟨m[i],g[i],by simp[show i<m.length by omega],by simp[show i<g.length by omega]⟩) (by
  by_cases z:m.length<=g.length
  . exact .inl (by simp;omega)
  . exact .inr (by simp;omega)) z1 ⟨_,_,z3⟩ z2 z4 z5 (pl.isList.at fun o e=>k _ o e) (E.isList.at fun o e=>k _ o e) fun L as c' k2 k3 T M=>?_
 have kk:∀b o,C.heap.get? b=ε o->L.get? b=ε o:=fun b o e=>by
  have hb:=ji e;have ne:∀i:Nat,b≠C.heap.objs.size+i:=fun i=>su (kj hb (Ms _ _))
  exact k2 b o (ne 4) (ne 3) (ne 0) (ne 1) (k b o e)
 have nd:(h'.objs.size::as).Nodup:=Mu.mpr ⟨fun hm=>Nat.not_succ_le_self _ (M.2.2 _ hm).1,M.2.1⟩;have ge:∀p∈h'.objs.size::as,C.heap.objs.size<=p:=fun p hp=>by
  rcases Bu.mp hp with rfl | hp
  . omega
  . have:h'.objs.size+1<=p:=(M.2.2 p hp).1;omega
 have lz:((P.zip O).map fun p=>HO.tup [p.1,p.2]).length=as.length:=by rw[ni,length_zip,T];omega
 have keys:((h'.objs.size,HO.lst (as.map V.ref))::as.zip ((P.zip O).map fun p=>HO.tup [p.1,p.2])).map (·.1)=h'.objs.size::as:=by rw[Uu,map_fst_zip nofun]
 have vr:∀l:Oo Pb,mf (l.map V.ref) (l.map Value.ref):=fun l=>by
  induction l with
  | nil=>exact .nil
  | cons x l ih=>exact .cons rfl ih
 have I3:=F.kz (h':=L) (t':=C.toks) (news:=(h'.objs.size,.lst (as.map V.ref))::as.zip ((P.zip O).map fun p=>HO.tup [p.1,p.2])) kk (fun p hp=>by
  have:p.1∈h'.objs.size::as:=by rw[<- keys];exact mem_map_of_mem hp
  exact ge _ this) (by rw[keys];exact nd) (fun p hp=>by
  rcases Bu.mp hp with rfl | hp
  . exact⟨by rw[ni,T];omega,as.map Value.ref,c',vr as,k3⟩
  . obtain⟨j,hj⟩:=getElem?_of_mem hp;rw[getElem?_zip_eq_some]at hj;obtain⟨j1,j2⟩:=hj;rw[w5,Gi]at j2;obtain⟨w,U,j4⟩:=j2;rw[getElem?_zip_eq_some]at U;obtain⟨x,y,e1,e2,e3⟩:=M.1 j p.1 j1;obtain⟨ux,Y,S⟩:=rv.get U.1;obtain⟨uy,W,R⟩:=J.get U.2;have ex:x=ux:=by simpa using (e1.symm.trans (by simpa using Y):ε x=ε ux)
    have ey:y=uy:=by simpa using (e2.symm.trans (by simpa using W):ε y=ε uy)
    subst ex ey;rw[<- j4];exact⟨by simp![Ua,Vi];rw[Cu];decide,[x,y],.cons S (.cons R .nil),⟨_,e3,rfl,_,rfl⟩⟩)
 exact⟨.ref h'.objs.size,_,I3,rfl,q as h'.objs.size (by rw[T];omega) nd fun p hp=>F.hok.fresh (ge p hp)⟩
end
end L2
namespace SM
def NO(fa fb:RE):RE:=fun l h=>(fa l h).bind fun r=>(fb l r.2).bind fun q=>match yA q.2 r.1,yA q.2 q.1 with
 | some xs,some ys=>(match IC xs,IC ys with
  | some is,some js=>ε (.lst ((is.zip js).map fun p=>.ntp [p.1,p.2]),q.2)
  | _,_=>none)
 | _,_=>none
theorem RW{K:Ra}:∀(d:Oo Pb)(ps:Oo (Int×Int))(H:Hp),Vs K ρ h H->d.length=ps.length->d.Nodup->(∀a∈d,H a=none)->
 Vs K ρ h (jF H (d.zip (ps.map fun p=>HO.tup [.int p.1,.int p.2])))/\mi ρ ρ H (jF H (d.zip (ps.map fun p=>HO.tup [.int p.1,.int p.2])))/\Ue K (jF H (d.zip (ps.map fun p=>HO.tup [.int p.1,.int p.2]))) ρ (ps.map fun p=>Dt.ntp [p.1,p.2]) (d.map V.ref)
 | [],[],H,S,_,_,_=>⟨S,mi.refl _ _,by simp[Ue]⟩
 | [],p::ps,_,_,e,_,_=>by simp at e
 | a::d,[],_,_,e,_,_=>by simp at e
 | a::d,p::ps,H,S,e,nd,no=>by
  obtain⟨j,i⟩:=Mu.mp nd;obtain⟨g,r,o⟩:=RW d ps H S (by simpa using e) i (fun b n=>no b (by simp[n]));have f:jF H (d.zip (ps.map fun p=>HO.tup [.int p.1,.int p.2])) a=none:=by
   rw[LJ (fun m=>j (by
    obtain⟨q,k,e⟩:=Ce.mp m;rw[<- e];exact(of_mem_zip (a:=q.1) (b:=q.2) k).1))]
   exact no a ⋯
  refine⟨g.fresh f,r.trans (mi.fresh f),?_⟩;show Ue K (xB _ a (.tup [.int p.1,.int p.2])) ρ (.ntp [p.1,p.2]::_) (.ref a::_);simp![Ue];exact⟨_,_,rfl,ej.mpr ⟨a,rfl,g.out f,xC⟩,o.ext (mi.fresh f)⟩
set_option tactic.hygienic true in
theorem Uq (hc:X.calm=true) (hg:Gl X "list") (r:X.mg "list" =none) (x:Gl X "zip") (o:X.mg "zip" =none) (ha:EM X a fa) (y:EM X b fb) (hs:autoParam (gB a=true) Æ) (j:autoParam (gB b=true) Æ) :
 EM X (.Call (.Name "list" p1) [.Call (.Name "zip" p2) [a,b] [] f] [] pos) (NO fa fb):=by
 unhygienic
  refine PE.imp (mz hc hg r x o (BC ha (BC y DD (pB j _ _)) (pB hs _ _)) (pB hs _ _) (wI (by rw[La,j];rfl))) fun σ H Q W=>?_
  obtain⟨U,l,h,d,h',S,L,e,k⟩:=W;obtain⟨⟨d1,M⟩,e1,e⟩:=sA e;obtain⟨⟨d2,h2⟩,e2,e⟩:=sA e;refine⟨U,l,h,d1,M,S,L,e1,fun n v H1 R1 S1 T=>⟨n,l,M,d2,h2,S1,L.ext T,e2,fun m u P R2 C R=>?_⟩⟩;dsimp only at e;split at e
  . rename_i xs ys q1 q2;split at e
    . rename_i i g w1 w2;cases e;have D:=Uo.ext R _ R1;obtain⟨c,vs,Z,F,J⟩:=yC C D q1;obtain⟨dd,ws,Y,E,I⟩:=yC C R2 q2;rw[WF w1]at J;rw[WF w2]at I;rw[J.ci]at F;rw[I.ci]at E;refine⟨c,dd,_,_,by rw[Z,Y],F,E,fun B p hl nd no=>?_⟩;obtain⟨n1,n2⟩:=Mu.mp nd;have lz:B.length=(i.zip g).length:=by rw[hl,ni,ni,length_zip]
      obtain⟨O,E3,R3⟩:=RW B (i.zip g) P C lz n2 (fun b y=>no b (by simp[y]));have ez:((i.map V.int).zip (g.map V.int)).map (fun p=>HO.tup [p.1,p.2])=(i.zip g).map fun p=>HO.tup [.int p.1,.int p.2]:=by rw[zip_map,map_map];rfl
      rw[ez];have hp:jF P (B.zip ((i.zip g).map fun p=>HO.tup [.int p.1,.int p.2])) p=none:=by
       rw[LJ (fun r=>n1 (by
        obtain⟨q,hq,e⟩:=Ce.mp r;rw[<- e];exact(of_mem_zip (a:=q.1) (b:=q.2) hq).1))]
       exact no p ⋯
      exact k m _ _ (iK O R3 hp) (O.fresh hp) ((T.trans R).trans (E3.trans (mi.fresh hp)))
    . cases e
  . cases e
noncomputable def eJ(h:HI):Dt->O4 (Oo (Oo Int×Dt))
 | .ref n=>match h[n]? with
  | some (.dt kvs)=>ε kvs
  | _=>none
 | _=>none
noncomputable def QM:Dt->O4 (Oo Int)
 | .ntp a=>ε a
 | _=>none
def jT(fo fy:RE):RE:=fun l h=>(fo l h).bind fun r=>(fy l r.2).bind fun q=>(QM q.1).bind fun b=>(eJ q.2 r.1).bind fun a=>(nE a b).map fun d=>(d,q.2)
def sQ(fy fo:RE):RE:=fun l h=>(fy l h).bind fun r=>(fo l r.2).bind fun q=>(QM r.1).bind fun b=>(eJ q.2 q.1).map fun a=>(.bl (nE a b).isSome,q.2)
section
variable{K:Ra}{ρ:Rg}{H:Hp}
set_option tactic.hygienic true in
theorem B0(S:Vs K ρ h H)(e:eJ h d=ε kvs)(r:Uo K H ρ d v):∃a vs,v=.ref a/\H a=ε (.dT vs)/\KD K H ρ kvs vs:=by
 cases d with
 | ref n=>
  simp![eJ]at e;split at e
  . rename_i b q;cases e;obtain⟨f,z,g⟩:=al.mp r;obtain⟨vs,i,g2⟩:=S.ob n f _ g q;exact⟨f,vs,z,i,g2⟩
  . cases e
 | _=>cases e
def bZ(e:QM d=ε ks):d=.ntp ks:=by
 cases d with
 | ntp x=>cases e;rfl
 | _=>cases e
end
section
variable{X:Cx}{o i:Pu}{fo fy:RE}{pos:Pos}
def Kf(hu:X.A.units+64<cLine)(F:EM X o fo)(E:EM X i fy)(hs:mQ i:=by intro _ _;rfl):EM X (.Subscript o i pos) (jT fo fy):=by unhygienic exact PE.imp (yt nofun F E hs) fun Z H Q q=>by obtain⟨p,l,h,dd,h',S,L,e,k⟩:=q;obtain⟨⟨T,g⟩,R,e⟩:=sA e;obtain⟨⟨d2,h2⟩,e2,e⟩:=sA e;obtain⟨f,P,e⟩:=sA e;obtain⟨D,O,e⟩:=sA e;obtain⟨d4,c,e⟩:=Gi.mp e;cases e;cases bZ P;refine⟨p,l,h,T,g,S,L,R,fun d x H1 W U n=>⟨d,l,g,.ntp f,_,U,L.ext n,e2,fun b y Y R2 j m=>?_⟩⟩;obtain⟨a,vs,z,J,g2⟩:=B0 j O (Uo.ext m _ W);obtain⟨kb,r,nk,I⟩:=ej.mp R2;obtain⟨B,v2⟩:=KD.val (K:=X.K) f g2;obtain⟨u,M,C⟩:=B _ c;exact⟨a,u,z,by rw[r,<- M];exact br.t J (by rw[vM];exact I),k b _ Y C j (n.trans m)⟩
def El(hu:X.A.units+64<cLine)(E:EM X i fy)(F:EM X o fo)(I:autoParam (behindInMarks .In o=false) Æ):EM X (.Compare i [.In] [o] pos) (sQ fy fo):=by
 unhygienic
  exact PE.imp (Zm (Xm nofun E F) I) fun σ H Q r=>by
   obtain⟨q,l,h,dd,h',S,L,e,k⟩:=r;obtain⟨⟨d1,j⟩,T,e⟩:=sA e;obtain⟨⟨W,h2⟩,e2,e⟩:=sA e;obtain⟨b,R,e⟩:=sA e;obtain⟨g,P,e⟩:=Gi.mp e;cases e;cases bZ R;refine⟨q,l,h,.ntp b,j,S,L,T,fun f x H1 Z Y p=>⟨f,l,j,W,_,Y,L.ext p,e2,fun d y H2 R2 m n=>?_⟩⟩;obtain⟨a,B,z,M,g2⟩:=B0 m P R2;obtain⟨kb,u,nk,J⟩:=ej.mp (Uo.ext n _ Z);obtain⟨D,C⟩:=KD.val (K:=X.K) b g2;refine⟨a,ME B (b.map Sum.inl),z,by rw[u];exact br.t M (by rw[vM];exact J),k d _ H2 (af.mpr ?_) m (p.trans n)⟩;cases c:nE g b with
   | none=>rw[C c];rfl
   | some U=>obtain⟨v4,O,_⟩:=D U c;rw[O];rfl
end
end SM
namespace PySem
noncomputable def aN (a:Bool):Obj:={ cls:=.type "set",dict:=none,data:=.set #[] 0 (.fresh 0 0 a) }
section
variable{prog:Ri}{w:Rr}{A:Ru}{E:Ou->Pa->Prop}{s:Pa}
set_option maxHeartbeats 3200000 in
def la(hh:A.handled=none)(hl:s.heap.IsTuple l items)(hi:IntsAre items.toList ns)(C:items.size+1<scanBound)
 (h:∀(h':Te)(y:Nat),h'.SetOf (intKind prog w) s.heap.objs.size (fun I=>(firstMet (fun i=>ns.getD i 0) items.size).any (· ==I)) (firstMet (fun i=>ns.getD i 0) items.size).length->(∀b o,b<s.heap.objs.size->s.heap.get? b=ε o->h'.get? b=ε o)->Q (.ref s.heap.objs.size) { s with heap:=h',toks:=y }) :
 wpAny (model prog w) A (call (.type "set") [.ref l]) Q E s:=by
 obtain⟨c,tl,Z⟩:=PySem.F.called_set.mro;have L:=PySem.F.called_set.made;have Y:=PySem.F.called_set.sub;refine wpAny_call (codeAny_of_tree ?_);show wpAny _ _ (callAny (.type "set") _) _ _ _;refine au ⟨Code.quiet_builtin _ (by decide +kernel),Iu PySem.F.entry_type_call ?_⟩;rw[Around.under_plain (weight_type_call_type "set" [.ref l] []) rfl];have k1:=PySem.F.called_set.notType;have k2:=PySem.F.called_set.canCreate;have k3:=PySem.F.typeCall_set_1 (.ref l)
 repeat (any_goals (first | assumption | wp_step))
 refine codeAny_mono (code_set_new_1 (.ref l) (E:=E) (Q₁:=fun ob j=>∃a:Bool,ob=.ref s.heap.objs.size/\j={ s with heap:=s.heap.push (aN a) }) fun a=>⟨a,rfl,rfl⟩) fun r j J=>?_
 cases r with
 | error e=>exact J
 | ok fl=>
  cases fl with
  | ret ob=>
   obtain⟨a,rfl,rfl⟩:=J;have gS:(s.heap.push (aN a)).get? s.heap.objs.size=ε (aN a):=ju _ rfl;have gT:Shared.TypeIs { s with heap:=s.heap.push (aN a) } (.ref s.heap.objs.size) "set" :=⟨_,gS,rfl⟩;have k4:=PySem.F.called_set.init.lookup;have k5:=PySem.F.called_set.init.bind (.ref s.heap.objs.size)
   repeat (any_goals (first | assumption | wp_step))
   refine codeAny_mono (codeAny_call_builtin (R:=wants (fun r g=>r=.none/\∃h' y,g={ s with heap:=h',toks:=y }/\h'.SetOf (intKind prog w) s.heap.objs.size (fun I=>(firstMet (fun i=>ns.getD i 0) items.size).any (· ==I)) (firstMet (fun i=>ns.getD i 0) items.size).length/\(∀b o,b<s.heap.objs.size->s.heap.get? b=ε o->h'.get? b=ε o)) E)
    PySem.F.called_set.init.plain PySem.F.entry_set_init (check_set_init_1 gT ?_)) fun p g d=>?_
   . obtain⟨ol,q,x,U,u⟩:=hl;obtain⟨T,k,H,f⟩:=ol;dsimp only at x u;subst x u;have g2:(s.heap.push (aN a)).get? l=ε { cls:=.type "tuple",dict:=k,data:=.seq items U,slots:=f }:=cg _ q;have k6:=PySem.F.sub_tuple_set;have k7:=PySem.F.sub_tuple_frozenset;have k8:(Value.type "tuple" ==Value.type "dict")=false:=by decide
     have g3:(s.heap.push (aN a)).IsTuple l items:=⟨_,g2,rfl,U,rfl⟩;unfold Builtin.«set.__init__» noKeywords Builtin.Frozenset.updateFrom;generalize P:pyIter=PI
     wp_walk
     subst P;refine wpAny_pyIter_tuple g3 ?_;refine ao (wpAny_runValue ?_);have W:l<s.heap.objs.size:=ji q;have JH:(s.heap.push (aN a)).objs.size=s.heap.objs.size+1:=Ma _ _;have k9:l≠(s.heap.push (aN a)).objs.size:=by rw[JH];exact su (Ie W)
     have hf:s.heap.objs.size ∉ [(s.heap.push (aN a)).objs.size,l]:=by rw[JH];simp![Bu,not_mem_nil,or_false,not_or];exact⟨su (zu _),Eo W⟩
     refine codeAny_set_update_loopS ((Walks.tuple (by simp[hh]) _ l k9 items).toS) s.heap.objs.size hf (fun i=>ns.getD i 0) (fun i v hv=>IntsAre.int_at hi i v (by rw[Array.getElem?_toList];exact hv)) C (items.size-0) 0 _ nofun (nW _) ⟨⟨_,ju _ rfl,rfl,rfl⟩,(g3.push _)⟩ ?hS0 ?hR
     case hS0=>refine SetOf_congr (Obj.SetObjOf.setOf (knd:=intKind prog w) (o:=(aN a)) (S:=fun z=>false) (n:=0) (setObjOf_fresh a) (cg _ gS) (by unfold scanBound;omega)) (fun z=>rfl) rfl
     case hR=>intro s' B hS;obtain⟨h',g',d',D,F⟩:=s';have eg:g'=s.gens:=B.gens;have ed:d'=s.drawn:=B.drawn;have eo:F=s.os:=B.os;subst eg ed eo;show wpAny _ _ _ _ _ _;refine au ?_;show wpAny _ _ (ret Value.none) _ _ _;refine au ⟨rfl,h',D,rfl,hS,fun b o C e=>B.heap b o ?_ (cg _ (cg _ e))⟩;rw[JH];simp![Bu,not_mem_nil,or_false,not_or];exact⟨su C,su (Ie C)⟩
   . cases p with
     | error e=>exact d
     | ok m=>
      cases m with
      | ret r=>
       obtain⟨rfl,h',y,rfl,O,M⟩:=d
       repeat (any_goals (first | assumption | wp_step))
       exact h _ _ O M
      | _=>exact d.elim
  | _=>exact J.elim
end
end PySem
namespace L2
section
variable{X:Cx}
def Gx (E:X.calm=true):ah X (.type "set") (fun i H Q=>∃q ns,i=[.ref q]/\YG X.K H q (ns.map V.int)/\ns.length+1<4096/\
 ∀p,H p=none->Q (.ref p) (xB H p (.set (fun k=>(EB ns).any (· ==k)) (EB ns).length))):=by
 intro j s F H i J Q I r h;obtain⟨q,ns,rfl,C,M,f⟩:=h;obtain⟨u,rfl,y⟩:=qF r;cases y;obtain⟨d,B,pl,L⟩:=I.tuple C;have m:=OJ B;have D:d.length=ns.length:=IntsAre.length m;have e:d.toArray.size=ns.length:=by rw[cu,D]
 refine PySem.la (items:=d.toArray) (ns:=ns) (I.ok.hd E) pl (by simpa using m) (by rw[e];unfold scanBound;omega) fun O x n kp=>?_
 rw[vY ns _ e]at n;exact⟨.ref s.heap.objs.size,_,I.laid (a:=s.heap.objs.size) (o:=.set (fun k=>(EB ns).any (· ==k)) (EB ns).length) (t':=x) (fun b u g=>kp b u (ji g) g) (Va _) n,rfl,f _ (I.hok.fresh (Va _))⟩
end
end L2
namespace SM
def OO:Dt->HI->O4 (Dt×HI):=fun d h=>match d with
 | .tup a=>(IC a).bind fun ns=>if ns.length+1<4096 then ε (.int (EB ns).length,h)else none
 | _=>none
section
variable{X:Cx}{e:Pu}{f:RE}{p p' pos pos':Pos}
def Tq (x:X.calm=true) (u:Gl X "len") (o:X.mg "len" =none) (i:Gl X "set") (g:X.mg "set" =none) (y:EM X e f) (hs:autoParam (gB e=true) Æ) :
 EM X (.Call (.Name "len" p) [.Call (.Name "set" p') [e] [] pos'] [] pos) (GB OO f):=by
 unhygienic
  exact PE.imp (RL BW u o PySem.boot_len (BC (FR (Gx x) i g boot_set (BC y DD (pB hs _ _)) (he:=pB hs _ _)) DD rfl)) fun I H Q m=>by
   obtain⟨j,l,h,d,P,S,L,e,k⟩:=m;obtain⟨⟨C,O⟩,B,e⟩:=sA e;cases C with
   | tup J=>obtain⟨ns,q,e⟩:=sA e;obtain⟨n,e⟩:=RF e;cases e;refine⟨j,l,h,_,_,S,L,B,fun b v R E D F=>?_⟩;obtain⟨a,M,z,sq,r⟩:=bc.mp E;rw[WF q]at r;rw[r.ci]at sq;exact⟨a,ns,by rw[z],sq.sq,n,fun w hw=>⟨w,_,_,rfl,xC,k b _ _ (Xu.mpr rfl) (D.fresh hw) (F.trans (mi.fresh hw))⟩⟩
   | _=>cases e
end
noncomputable def RZ:Dt->O4 (Oo Dt)
 | .tup a=>ε a
 | _=>none
def DC(f:RE)(lo hi:RO):RE:=fun l h=>(f l h).bind fun r=>(lo l r.2).bind fun o=>(hi l o.2).bind fun u=>(RZ r.1).bind fun a=>if ¬(HT.sIx a.length 0 o.1=0/\HT.sIx a.length a.length u.1=a.length)then ε (.tup (fC a o.1 u.1),u.2)else none
section
variable{X:Cx}{a:Pu}{fa:RE}{pos p2:Pos}
def AI{lo hi:O4 Pu}(P:EM X a fa)(M:MT X lo q)(O:MT X hi y):EM X (.Subscript a (.Slice lo hi none p2) pos) (DC fa q y):=by
 unhygienic
  exact PE.imp (lX J7 P M O) fun Z H Q I=>by
   obtain⟨F,l,h,d,h',S,L,e,k⟩:=I;obtain⟨⟨C,n⟩,T,e⟩:=sA e;obtain⟨⟨o,m⟩,e2,e⟩:=sA e;obtain⟨⟨u,h3⟩,R,e⟩:=sA e;obtain⟨xs,B,e⟩:=sA e;obtain⟨c,e⟩:=wQ e;cases e;refine⟨F,l,h,C,n,S,L,T,fun g v H1 Y W j=>⟨g,l,n,o,m,W,L.ext j,e2,fun f H2 U i=>⟨f,l,m,u,_,U,L.ext (j.trans i),R,fun b H3 D E=>?_⟩⟩⟩;cases C with
   | tup ys=>cases B;obtain⟨x,J,z,sq,r⟩:=bc.mp (Uo.ext (i.trans E) _ Y);exact⟨x,J,z,sq.sq,by rw[r.length];exact c,fun p hp=>k b _ _ (JI D (lY r o u) hp) (D.fresh hp) (j.trans (i.trans (E.trans (mi.fresh hp))))⟩
   | _=>cases B
end
noncomputable def HE(f:Dt->Dt->Bool):Oo Dt->Oo Dt->Bool
 | [],[]=>true
 | x::xs,y::ys=>f x y&&HE f xs ys
 | _,_=>false
def hG(h:HI):Nat->Dt->Dt->Bool
 | 0,_,_=>false
 | n+1,a,b=>match a,b with
  | .int i,.int j=>decide (i=j)
  | .str i,.str j=>decide (i=j)
  | .tup xs,.tup ys=>HE (hG h n) xs ys
  | a,b=>match yA h a,yA h b with
   | some xs,some ys=>HE (hG h n) xs ys
   | _,_=>false
def eQ(h:HI)(a b:Dt):Bool:=match yA h a,yA h b with
 | some xs,some ys=>HE (hG h 6) xs ys
 | _,_=>false
theorem NL:∀{xs ys:Oo Dt},HE f xs ys=true->xs.length=ys.length
 | [],[],_=>rfl
 | x::xs,y::ys,e=>by rw[HE,w6]at e;rw[Ua,Ua,NL e.2]
 | [],_::_,e=>nomatch (show false=true from e)
 | _::_,[],e=>nomatch (show false=true from e)
section
variable{X:Cx}{g:Oo (Pb×Obj)}{l:L2.St}{H:Hp}{s:Pa}{ρ:Rg}
theorem oM(p:∀d d'{v h:V}{u o:Ou},f d d'=true->Uo X.K H ρ d v->Uo X.K H ρ d' h->ml v u->ml h o->SeqAt.EqAt A s u o true) :
 ∀{xs ys:Oo Dt}{vs b:Oo V}{us a:Oo Ou},HE f xs ys=true->Ue X.K H ρ xs vs->Ue X.K H ρ ys b->mf vs us->mf b a->∀(j:Nat)(h1:j<us.length)(h2:j<a.length),SeqAt.EqAt A s us[j] a[j] true
 | [],[],_,_,_,_,_,r,_,q,_,j,h1,_=>by cases r.ba;cases q;exact Es h1 ⋯
 | x::xs,y::ys,_,_,_,_,e,r,r',q,q',j,h1,h2=>by
  rw[HE,w6]at e;obtain⟨v,E,rfl,D,C⟩:=r.ab;obtain⟨h,B,rfl,k,i⟩:=r'.ab;cases q with
  | cons q1 q2=>
   cases q' with
   | cons n m=>
    cases j with
    | zero=>exact p x y e.1 D k q1 n
    | succ j=>exact oM p e.2 C i q2 m j (Nat.lt_of_succ_lt_succ h1) (Nat.lt_of_succ_lt_succ h2)
 | [],_::_,_,_,_,_,e,_,_,_,_,_,_,_=>nomatch (show false=true from e)
 | _::_,[],_,_,_,_,e,_,_,_,_,_,_,_=>nomatch (show false=true from e)
def mP(n):(List.range n).all (fun q=>true)=true:=by simp
set_option tactic.hygienic true in
theorem kP(I:me X g l H s)(S:Vs X.K ρ h H):∀n A,A.units+n<cLine->∀d d'{v J:V}{u L:Ou},hG h n d d'=true->Uo X.K H ρ d v->Uo X.K H ρ d' J->ml v u->ml J L->SeqAt.EqAt A s u L true
 | 0,_,_,_,_,_,_,_,_,e,_,_,_,_=>nomatch (show false=true from e)
 | n+1,A,hu,d,d',v,J,u,L,e,r,r',q,q'=>by
  have C:A.units<cLine:=by omega
  have P:A.in1.units+n<cLine:=by have:=AR A;omega
  unfold hG at e;split at e
  . rename_i i j;obtain rfl:=of_decide_eq_true e;cases Xu.mp r;cases Xu.mp r';obtain⟨t,rfl⟩:=q;obtain⟨p,rfl⟩:=q';have:=SeqAt.EqAt.int_int (A:=A) (s:=s) i t i p;rw[Ds]at this;exact this
  . rename_i i j;obtain rfl:=of_decide_eq_true e;cases cm.mp r;cases cm.mp r';obtain⟨t,rfl⟩:=q;obtain⟨p,rfl⟩:=q';have:=SeqAt.EqAt.str_str (A:=A) (s:=s) i t i p;rw[Ds]at this;exact this
  . obtain⟨a,R,z,t,y⟩:=bc.mp r;obtain⟨b,Q,F,p,k⟩:=bc.mp r';subst z F;cases q;cases q';obtain⟨O,x,M,_⟩:=I.tuple t.sq;obtain⟨B,f,o,_⟩:=I.tuple p.sq;by_cases m:a=b
    . subst m;exact SeqAt.EqAt.same _
    . refine .of_refs m ?_;have ih:=oM (fun d d'=>kP I S n A.in1 P d d') e y k x f;have z:=SeqAt.RcAt.tuples (e:=fun _=>true) (oO M) (oO o) C fun j E D=>by rw[cu]at E D;simpa using ih j E D
      rw[mP,cu,cu,<- x.length,<- f.length,y.length,k.length,NL e,Ds]at z;exact z
  . split at e
    . rename_i U T q1 q2;obtain⟨a,R,z,t,y⟩:=yC S r q1;obtain⟨b,Q,F,p,k⟩:=yC S r' q2;subst z F;cases q;cases q';obtain⟨O,x,M,_⟩:=I.list t;obtain⟨B,f,o,_⟩:=I.list p;by_cases m:a=b
      . subst m;exact SeqAt.EqAt.same _
      . refine .of_refs m ?_;have ih:=oM (fun d d'=>kP I S n A.in1 P d d') e y k x f;have z:=SeqAt.RcAt.lists (e:=fun _=>true) M.isList o.isList (by rw[cu,cu,<- x.length,<- f.length,y.length,k.length,NL e]) C fun j E D=>by rw[cu]at E D;simpa using ih j E D
        rw[mP]at z;exact z
    . cases e
def iI:vD:=fun a b h=>if eQ h a b=true then ε (.bl false,h)else VC a b h
set_option tactic.hygienic true in
theorem Dm(M:X.A.units+64<cLine):OM X (compareOp .NotEq) iI:=by
 unhygienic
  intro g s l H x y v u Q I o n h;obtain⟨ρ,h,R,P,d,O,S,D,R2,e,k⟩:=h;unfold iI at e;split at e
  . rename_i c;cases e;unfold eQ at c;split at c
    . rename_i W U q1 q2;obtain⟨a,Z,z,t,q⟩:=yC S D q1;obtain⟨b,Y,E,J,i⟩:=yC S R2 q2;subst z E;cases o;cases n;obtain⟨L,p,F,_⟩:=I.list t;obtain⟨r,f,m,_⟩:=I.list J;have ih:=oM (fun d T=>kP I S 6 X.A.in1 (by have:=AR X.A;omega) d T) c q i p f;refine yX (e:=fun _=>true) F.isList m.isList (by rw[cu,cu,<- p.length,<- f.length,q.length,i.length,NL c]) nofun (fun j C B=>by
       rw[cu]at C B;simpa using ih j C B) ?_
      exact⟨.bl _,H,I,rfl,k ρ _ H (af.mpr (congrArg V.bl (by rw[mP];rfl))) S (mi.refl _ _)⟩
    . cases c
  . exact lK M g s l H x y v u Q I o n ⟨ρ,h,R,P,d,O,S,D,R2,e,k⟩
def iJ:vD:=fun a b h=>if eQ h a b=true then ε (.bl true,h)else pG a b h
set_option tactic.hygienic true in
theorem Cm(M:X.A.units+64<cLine):OM X (compareOp .Eq) iJ:=by
 unhygienic
  intro g s l H x y v u Q I o n h;obtain⟨ρ,h,R,P,d,O,S,D,R2,e,k⟩:=h;unfold iJ at e;split at e
  . rename_i c;cases e;unfold eQ at c;split at c
    . rename_i W U q1 q2;obtain⟨a,Z,z,t,q⟩:=yC S D q1;obtain⟨b,Y,E,J,i⟩:=yC S R2 q2;subst z E;cases o;cases n;obtain⟨L,p,F,_⟩:=I.list t;obtain⟨r,f,m,_⟩:=I.list J;have ih:=oM (fun d T=>kP I S 6 X.A.in1 (by have:=AR X.A;omega) d T) c q i p f;refine SeqAt.eq_listAt (e:=fun _=>true) F.isList m.isList (by rw[cu,cu,<- p.length,<- f.length,q.length,i.length,NL c]) nofun (fun j C B=>by
       rw[cu]at C B;simpa using ih j C B) ?_
      exact⟨.bl _,H,I,rfl,k ρ _ H (af.mpr (congrArg V.bl (mP _))) S (mi.refl _ _)⟩
    . cases c
  . exact zP M g s l H x y v u Q I o n ⟨ρ,h,R,P,d,O,S,D,R2,e,k⟩
end
section
variable{X:Cx}{a b c d:Pu}{fa fb e f:RE}
def wD(h:EM X a fa)(g:autoParam (gB a=true) Æ):AM X [a] (aA fa dA):=JG h iE g
def YB(j:EM X a fa)(i:EM X b fb)(h:autoParam (gB a=true) Æ)(g:autoParam (gB b=true) Æ):AM X [a,b] (aA fa (aA fb dA)):=JG j (wD i g) h
def JD(m:EM X a fa)(k:EM X b fb)(j:EM X c e)(i:autoParam (gB a=true) Æ)(h:autoParam (gB b=true) Æ)(g:autoParam (gB c=true) Æ):AM X [a,b,c] (aA fa (aA fb (aA e dA))):=JG m (YB k j h g) i
def iG(m:EM X a fa)(k:EM X b fb)(j:EM X c e)(hd:EM X d f)(i:autoParam (gB a=true) Æ)(h:autoParam (gB b=true) Æ)(g:autoParam (gB c=true) Æ)(nd:autoParam (gB d=true) Æ):AM X [a,b,c,d] (aA fa (aA fb (aA e (aA f dA)))):=JG m (JD k j hd h g nd) i
end
def Dn(s:Ro)(m:Nat):Oo Str:=((oB s).names.map Prod.fst).take m
end SM
namespace G
def top(i:Nat):Ro:=PySem.Challenge.pw_spanways_k20_trees_followed.main.body.getD i (.Pass ⟨0,0,0,0⟩)
noncomputable abbrev FP:Dt:=(.int 8191)
noncomputable def Yg:Oo Dt:=[(.tup [(.int 0),(.int 0)]),(.tup [(.int 0),(.int 1)]),(.tup [(.int 0),(.int 2)]),(.tup [(.int 0),(.int 3)]),(.tup [(.int 0),(.int 4)]),(.tup [(.int 1),(.int 2)]),(.tup [(.int 1),(.int 3)]),(.tup [(.int 1),(.int 4)]),(.tup [(.int 2),(.int 2)]),(.tup [(.int 2),(.int 3)]),(.tup [(.int 2),(.int 4)]),(.tup [(.int 3),(.int 4)]),(.tup [(.int 4),(.int 4)])]
abbrev eY:Dt:=.tup Yg
noncomputable def cv:Oo Dt:=[(.tup [(.int 1),(.int 1),(.int 1),(.int 1),(.int 1),(.int 1),(.int 1),(.int 1),(.int 295),(.int 295),(.int 295),(.int 295),(.int 8191)]),(.tup [(.int 1),(.int 1),(.int 1),(.int 1),(.int 1),(.int 2),(.int 2),(.int 2),(.int 292),(.int 292),(.int 292),(.int 584),(.int 7312)]),(.tup [(.int 1),(.int 1),(.int 7),(.int 7),(.int 31),(.int 4),(.int 4),(.int 28),(.int 292),(.int 292),(.int 2044),(.int 1168),(.int 7312)]),(.tup [(.int 1),(.int 2),(.int 4),(.int 8),(.int 16),(.int 4),(.int 8),(.int 16),(.int 292),(.int 584),(.int 1168),(.int 1168),(.int 7312)]),(.tup [(.int 31),(.int 28),(.int 28),(.int 16),(.int 16),(.int 28),(.int 16),(.int 16),(.int 2044),(.int 1168),(.int 1168),(.int 1168),(.int 7312)]),(.tup [(.int 1),(.int 1),(.int 7),(.int 7),(.int 31),(.int 32),(.int 32),(.int 224),(.int 256),(.int 256),(.int 1792),(.int 2048),(.int 4096)]),(.tup [(.int 1),(.int 2),(.int 4),(.int 8),(.int 16),(.int 32),(.int 64),(.int 128),(.int 256),(.int 512),(.int 1024),(.int 2048),(.int 4096)]),(.tup [(.int 31),(.int 28),(.int 28),(.int 16),(.int 16),(.int 224),(.int 128),(.int 128),(.int 1792),(.int 1024),(.int 1024),(.int 2048),(.int 4096)]),(.tup [(.int 1),(.int 1),(.int 295),(.int 295),(.int 8191),(.int 256),(.int 256),(.int 7936),(.int 256),(.int 256),(.int 7936),(.int 4096),(.int 4096)]),(.tup [(.int 1),(.int 2),(.int 292),(.int 584),(.int 7312),(.int 256),(.int 512),(.int 7168),(.int 256),(.int 512),(.int 7168),(.int 4096),(.int 4096)]),(.tup [(.int 31),(.int 28),(.int 2044),(.int 1168),(.int 7312),(.int 1792),(.int 1024),(.int 7168),(.int 1792),(.int 1024),(.int 7168),(.int 4096),(.int 4096)]),(.tup [(.int 31),(.int 224),(.int 1792),(.int 2048),(.int 4096),(.int 1792),(.int 2048),(.int 4096),(.int 1792),(.int 2048),(.int 4096),(.int 4096),(.int 4096)]),(.tup [(.int 8191),(.int 7936),(.int 7936),(.int 4096),(.int 4096),(.int 7936),(.int 4096),(.int 4096),(.int 7936),(.int 4096),(.int 4096),(.int 4096),(.int 4096)])]
abbrev uW:Dt:=.tup cv
noncomputable abbrev XY:Dt:=(.int 64)
abbrev Ed:Ro:=top 3
def Wg:RS:=wA (e2 nA (eC eY) (eV 0))
def dS:rB:=QB 1 1 Wg
abbrev Nk:Ro:=top 4
def iR:RE:=eV 0
def jR:RT:=mn (e2 QA (e2 SG (e2 jJ (eV 1) (eV 0)) (nS 1)) (nS 1))
def tW:RS:=wA (qC (VG (nS 13)) (BA 0) jR iR [none,ε 0])
def pH:rB:=QB 1 1 tW
abbrev Ah:Ro:=top 5
def cR:RE:=e2 fH (nS 1) (eV 0)
def LW:RS:=wA (GB gJ (qC (RB (eV 0)) (BA 0) cB cR [none]))
def qO:rB:=QB 1 1 LW
abbrev Bh:Ro:=top 6
def dR:RE:=e2 tF (nS 12) (eV 0)
def MW:RS:=wA (rA qO [] (aA (qC (RB (rA pH [] (aA (eV 0) dA))) (BA 0) cB dR [none]) dA))
def rO:rB:=QB 1 1 MW
abbrev N9:Ro:=top 9
def LQ:RS:=CA 3 (e2 oN (eV 3) (e2 nA (e2 nA (eC uW) (eV 4)) (eV 5)))
def DN:RS:=GC (RB (eV 2)) (BA 5) LQ
def MU:RS:=jA (CA 2 (rA pH [] (aA (eV 1) dA))) (jA (CA 3 (nS 0)) (jA (GC (RB (rA pH [] (aA (eV 0) dA))) (BA 4) DN) (wA (eV 3))))
def RN:rB:=QB 2 6 MU
abbrev Kz:Ro:=top 12
def EV:RS:=wA (e2 yK (e2 iC (fJ (eC FP) (eV 1)) (AB (aA (eC XY) dA))) (fJ (eC FP) (e2 tF (e2 tF (eV 0) (eV 1)) (nS 1))))
def iO:rB:=QB 2 2 EV
abbrev G7:Ro:=top 13
def PR:RE:=rA iO [] (aA (eV 1) (aA (eV 0) dA))
def WY:RS:=wA (GF (VG (eV 0)) (BA 0) cB PR [none,ε 0])
def jP:rB:=QB 1 1 WY
abbrev Iz:Ro:=top 14
def ZQ:RS:=TD (fE (eV 1) (EA (aA (eV 2) (aA (eV 3) dA))))
def aR:RS:=GC (L1 (e2 VB (eV 2) (nS 1)) (eV 0)) (BA 3) ZQ
def DV:RS:=jA (CA 1 (PF dA)) (jA (GC (VG (eV 0)) (BA 2) aR) (wA (eV 1)))
def NH:rB:=QB 1 4 DV
abbrev Hz:Ro:=top 15
def jV:RE:=GB UD (eV 0)
def CV:RS:=jA (CA 4 (GF (RB (eV 0)) (BA 0) cB jV [none])) (jA (WH (e2 SG (e2 nA (e2 nA (eV 0) (eV 1)) (eV 3)) (eV 2)) (e2 nA (eV 4) (eV 1)) (eV 3)) (jA (WH (rA rO [] (aA (e2 nA (e2 nA (eV 4) (eV 1)) (eV 3)) dA)) (e2 nA (eV 4) (eV 3)) (eV 1)) (wA (eV 4))))
def sI:rB:=QB 4 5 CV
abbrev Gk:Ro:=top 16
def pW:RS:=jA (CA 2 (e2 nA (e2 nA (eV 0) (e2 nA (eV 1) (nS 0))) (e2 nA (eV 1) (nS 1)))) (jA (CA 3 (e2 nA (e2 nA (eV 0) (e2 nA (eV 1) (nS 1))) (e2 nA (eV 1) (nS 2)))) (wA (e2 SG (e2 nA (e2 nA (eV 0) (e2 nA (eV 1) (nS 0))) (e2 nA (eV 1) (nS 2))) (rA RN [] (aA (eV 2) (aA (eV 3) dA))))))
def CL:rB:=QB 2 4 pW
abbrev Jk:Ro:=top 17
def rW:RS:=wA (e2 yD (rA CL [] (aA (eV 0) (aA (eV 1) dA))) (e2 nA (e2 nA (eV 0) (e2 nA (eV 1) (nS 0))) (e2 nA (eV 1) (nS 2))))
def EL:rB:=QB 2 2 rW
abbrev Ik:Ro:=top 18
def qW:RS:=wA (rA sI [] (aA (eV 0) (aA (e2 nA (eV 1) (nS 0)) (aA (rA CL [] (aA (eV 0) (aA (eV 1) dA))) (aA (e2 nA (eV 1) (nS 2)) dA)))))
def DL:rB:=QB 2 2 qW
abbrev Fz:Ro:=top 19
def iV:RE:=e2 (HG false) (nS 0) (eV 0)
def BV:RS:=wA (GB kN (qC (RB (eV 0)) (BA 0) cB iV [none]))
def sG:rB:=QB 1 1 BV
abbrev T9:Ro:=top 20
def NQ:RS:=bC (mn (e2 (HG true) (eV 3) (eV 0))) (jA (TD (fE (eV 2) (EA (aA (e2 nA (eV 0) (nS 0)) (aA (e2 nA (eV 0) (nS 1)) (aA (eV 3) dA)))))) (TD (fE (eV 2) (EA (aA (e2 nA (eV 0) (nS 1)) (aA (e2 nA (eV 0) (nS 0)) (aA (eV 3) dA))))))) SA
def PU:RS:=jA (CA 2 (PF dA)) (jA (GC (VG (eV 1)) (BA 3) NQ) (wA (eV 2)))
def TN:rB:=QB 2 4 PU
abbrev R9:Ro:=top 21
def KQ:RE:=GB UD (eV 0)
def pJ:RS:=bC (mn (rA EL [] (aA (eV 3) (aA (eV 6) dA)))) (jA (CA 3 (rA DL [] (aA (eV 3) (aA (eV 6) dA)))) (jA (TD (fE (eV 2) (eV 6))) (jA (bC (mn (e2 pG (e2 nA (e2 nA (eV 3) (e2 nA (eV 6) (nS 0))) (e2 nA (eV 6) (nS 2))) (nS 0))) (wA (EA (aA (eC .non) (aA (eV 2) dA)))) SA) (TD (fE (eV 4) (EA (aA (e2 nA (eV 6) (nS 0)) (aA (e2 nA (eV 6) (nS 2)) dA)))))))) SA
def HN:RS:=jA (CA 5 (tP (eV 4) (nS 0))) (GC (RB (rA TN [] (aA (eV 5) (aA (GB eB (eV 0)) dA)))) (BA 6) pJ)
def CN:RT:=mn (e2 VC (eV 4) (AB dA))
def QQ:RS:=jA (CA 2 (PF dA)) (jA (bC (mn (rA sG [] (aA (eV 0) dA))) (wA (EA (aA (eC .non) (aA (eV 2) dA)))) SA) (jA (CA 3 (GF (RB (eV 0)) (BA 0) cB KQ [none])) (jA (CA 4 (GB UD (eV 1))) (jA (pP 1000000 CN HN) (wA (EA (aA (eV 3) (aA (eV 2) dA))))))))
def pI:rB:=QB 2 7 QQ
abbrev Lk:Ro:=top 22
def sW:RS:=wA (rA pI [] (aA (eV 0) (aA (rA NH [] (aA (GB eB (eV 0)) dA)) dA)))
def NJ:rB:=QB 1 1 sW
abbrev Wj:Ro:=top 24
def kL:RS:=bC (mn (e2 QA (e2 nA (eV 3) (nS 0)) (eC (.str "ways")))) (CA 2 (rA sI [] (aA (eV 2) (aA (e2 nA (eV 3) (nS 1)) (aA (e2 nA (eV 3) (nS 2)) (aA (e2 nA (eV 3) (nS 3)) dA)))))) SA
def qV:RS:=jA (CA 2 (rA jP [] (aA (eV 0) dA))) (jA (GC (RB (eV 1)) (BA 3) kL) (wA (eV 2)))
def AJ:rB:=QB 2 4 qV
abbrev zj:Ro:=top 25
def QU:RE:=EA (aA (e2 nA (eV 0) (nS 1)) (aA (e2 nA (eV 0) (nS 2)) (aA (e2 nA (eV 0) (nS 3)) dA)))
def RQ:RT:=mn (e2 QA (e2 nA (eV 0) (nS 0)) (eC (.str "long")))
def fV:RS:=wA (qC (RB (eV 0)) (BA 0) RQ QU [none])
def uL:rB:=QB 1 1 fV
abbrev Xj:Ro:=top 26
def YU:RE:=e2 nA (eV 0) (nS 1)
def bR:RT:=mn (e2 QA (e2 nA (eV 0) (nS 0)) (eC (.str "one")))
def rV:RS:=wA (qC (RB (eV 0)) (BA 0) bR YU [none])
def BJ:rB:=QB 1 1 rV
abbrev V9:Ro:=top 27
def QN:RS:=jA (CA 5 (GQ (mn (e2 QA (eV 3) (eV 2))) (e2 nA (eV 4) (nS 2)) (e2 SG (eC FP) (xN (e2 nA (eV 4) (nS 2)))))) (CA 0 (rA sI [] (aA (eV 0) (aA (e2 nA (eV 4) (nS 1)) (aA (eV 5) (aA (e2 nA (eV 4) (nS 3)) dA))))))
def WU:RS:=jA (GC (NP (eV 1)) (ED 3 4) QN) (wA (eV 0))
def ON:rB:=QB 3 6 WU
abbrev g9:Ro:=top 28
def yN:RS:=bC (mn (e2 pN (GB eB (rA pH [] (aA (e2 nA (e2 nA (eV 0) (e2 nA (eV 1) (nS 0))) (e2 nA (eV 1) (nS 1))) dA))) (nS 1))) (wA (eV 1)) SA
def OQ:RS:=jA (GC (RB (rA NH [] (aA (GB eB (eV 0)) dA))) (BA 1) yN) (wA (eC .non))
def dL:rB:=QB 1 2 OQ
abbrev Jz:Ro:=top 29
def VN:RE:=rA ON [] (aA (eV 1) (aA (eV 2) (aA (eV 0) dA)))
def lV:RE:=EA (aA (e2 nA (eV 0) (nS 1)) (aA (e2 nA (eV 0) (nS 3)) dA))
def WN:RE:=rA sI [] (aA (eV 1) (aA (e2 nA (eV 2) (nS 0)) (aA (e2 fH (nS 1) (eV 0)) (aA (e2 nA (eV 2) (nS 1)) dA))))
def fR:RS:=jA (bC (mn (e2 VC (eV 1) (AB dA))) (jA (CA 2 (e2 nA (eV 1) (nS 0))) (jA (CA 3 (qC (VG (GB eB (eV 2))) (BA 0) cB VN [none,ε 0,ε 2])) (wA (EA (aA (eC (.str "one")) (aA (EA dA) (aA (eV 3) (aA (qC (RB (eV 2)) (BA 0) cB lV [none]) dA)))))))) SA) (jA (CA 4 (rA dL [] (aA (eV 0) dA))) (jA (bC (mn (e2 JE (eV 4) (eC .non))) (wA (eC .non)) SA) (jA (CA 5 (e2 nA (e2 nA (eV 0) (e2 nA (eV 4) (nS 0))) (e2 nA (eV 4) (nS 1)))) (jA (CA 3 (qC (RB (rA pH [] (aA (eV 5) dA))) (BA 0) cB WN [none,ε 0,ε 4])) (wA (EA (aA (eC (.str "split")) (aA (eV 4) (aA (eV 3) (aA (AB (aA (eV 4) dA)) dA))))))))))
def zF:rB:=QB 2 6 fR
abbrev yd:Ro:=top 31
def bY:RS:=wA (e2 VB (e2 wC (nS 2) (eV 0)) (nS 1))
def nM:rB:=QB 1 1 bY
abbrev D9:Ro:=top 32
def wU:RS:=jA (CA 2 (e2 wC (nS 2) (e2 nA (eV 0) (nS 0)))) (wA (PF (aA (EA (aA (eV 2) (aA (e2 VB (eV 2) (nS 1)) (aA (e2 wC (dB (e2 nA (eV 0) (nS 1))) (eV 1)) dA)))) (aA (EA (aA (e2 VB (eV 2) (nS 1)) (aA (eV 2) (aA (e2 wC (e2 nA (eV 0) (nS 2)) (eV 1)) dA)))) dA))))
def pL:rB:=QB 2 3 wU
abbrev P9:Ro:=top 33
def PQ:RS:=jA (CA 4 (PF dA)) (jA (bC (mn (e2 Y1 (GB NK (eV 3)) (eV 2))) (TD (fE (eV 4) (EA (aA (eV 0) (aA (eV 1) (aA (GQ (mn (e2 ZI (GB NK (eV 3)) (eV 2))) (dB (nS 1)) (nS 0)) dA)))))) SA) (jA (bC (mn (e2 dU (GB OK (eV 3)) (eV 2))) (TD (fE (eV 4) (EA (aA (eV 1) (aA (eV 0) (aA (GQ (mn (e2 pN (GB OK (eV 3)) (eV 2))) (dB (nS 1)) (nS 0)) dA)))))) SA) (wA (eV 4))))
def wJ:rB:=QB 4 5 PQ
abbrev gq:Ro:=top 34
def iL:RE:=e2 nA (rA dS [] (aA (eV 0) dA)) (eV 1)
def jL:RS:=jA (CA 5 (qC (RB (rA pH [] (aA (eV 1) dA))) (BA 0) cB iL [none,ε 4])) (jA (TD (DI (eV 3) (rA wJ [] (aA (e2 VB (e2 wC (nS 2) (eV 0)) (eV 4)) (aA (e2 wC (nS 2) (eV 2)) (aA (nS 1) (aA (eV 5) dA))))))) (TD (DI (eV 3) (rA wJ [] (aA (e2 VB (e2 wC (nS 2) (eV 0)) (eV 4)) (aA (e2 VB (e2 wC (nS 2) (eV 2)) (nS 1)) (aA (nS 3) (aA (eV 5) dA))))))))
def hV:RS:=jA (CA 3 (PF dA)) (jA (GC (VG (nS 2)) (BA 4) jL) (wA (eV 3)))
def vL:rB:=QB 3 6 hV
abbrev yh:Ro:=top 35
def gO:RE:=EA (aA (e2 wC (nS 2) (eV 0)) (aA (e2 VB (e2 wC (nS 2) (eV 0)) (nS 1)) (aA (dB (nS 1)) dA)))
def jO:RS:=TD (DI (eV 2) (rA pL [] (aA (eV 3) (aA (rA nM [] (aA (GB eB (eV 0)) dA)) dA))))
def kO:RS:=TD (DI (eV 2) (rA vL [] (aA (e2 nA (eV 4) (nS 0)) (aA (e2 nA (e2 nA (eV 0) (e2 nA (eV 4) (nS 0))) (e2 nA (eV 4) (nS 1))) (aA (e2 nA (eV 4) (nS 1)) dA)))))
def KW:RS:=jA (CA 2 (GF (VG (GB eB (eV 0))) (BA 0) cB gO [none])) (jA (GC (RB (eV 1)) (BA 3) jO) (jA (GC (RB (rA NH [] (aA (GB eB (eV 0)) dA))) (BA 4) kO) (wA (eV 2))))
def SH:rB:=QB 2 5 KW
abbrev O9:Ro:=top 36
def MQ:RS:=jA (CA 3 (tQ (aA (e2 nA (eV 2) (nS 0)) (aA (e2 nA (eV 2) (nS 1)) dA)))) (ZP (K1 MM (cK (eV 1) (eV 3) (e2 nA (eV 2) (nS 2))) (e2 nA (eV 2) (nS 2))) (eV 1) (eV 3))
def NU:RS:=jA (CA 1 fT) (jA (GC (RB (eV 0)) (BA 2) MQ) (wA (eV 1)))
def vJ:rB:=QB 1 4 NU
abbrev Ad:Ro:=top 37
def zI:RS:=bC (mn (e2 pN (e2 nA (eV 1) (e2 nA (eV 4) (nS 0))) (e2 VB (e2 nA (eV 1) (e2 nA (eV 4) (nS 1))) (eV 5)))) (jA (WH (e2 VB (e2 nA (eV 1) (e2 nA (eV 4) (nS 1))) (eV 5)) (eV 1) (e2 nA (eV 4) (nS 0))) (jA (WH (e2 nA (eV 4) (nS 1)) (eV 2) (e2 nA (eV 4) (nS 0))) (CA 3 (e2 nA (eV 4) (nS 0))))) SA
def cY:RS:=jA (CA 3 (eC .non)) (jA (GC (FI (eV 0)) (ED 4 5) zI) (wA (eV 3)))
def UJ:rB:=QB 3 6 cY
abbrev W9:Ro:=top 38
def TQ:RS:=CA 0 (e2 nA (eV 1) (eV 0))
def UQ:RS:=TD (fE (eV 3) (e2 nA (eV 1) (e2 nA (eV 3) (dB (nS 1)))))
def SQ:RT:=mn (e2 yD (e2 nA (eV 3) (dB (nS 1))) (eV 0))
def XU:RS:=jA (GC (VG (GB eB (eV 1))) (BA 2) TQ) (jA (CA 3 (PF (aA (eV 0) (aA (e2 nA (eV 1) (eV 0)) dA)))) (jA (pP 100 SQ UQ) (wA (eV 3))))
def PN:rB:=QB 2 4 XU
abbrev Cd:Ro:=top 39
def BL:RE:=e2 tF (eV 0) (eV 1)
def GJ:RS:=jA (CA 6 (rA UJ [] (aA (eV 2) (aA (eV 3) (aA (eV 4) dA))))) (bC (mn (e2 JE (eV 6) (eC .non))) (jA (CA 7 (iT (eV 3) (nS 0))) (wA (EA (aA (eC (.str "times")) (aA (qC (RB (eV 3)) (BA 0) cB BL [none,ε 7]) dA))))) SA)
def cS:RS:=jA (CA 2 (rA vJ [] (aA (eV 1) dA))) (jA (CA 3 (uK (nS 0) (eV 0))) (jA (CA 4 (uK (eC .non) (eV 0))) (jA (GC (VG (e2 VB (eV 0) (nS 1))) (BA 5) GJ) (wA (EA (aA (eC (.str "ring")) (aA (rA PN [] (aA (eV 6) (aA (eV 4) dA))) dA)))))))
def OH:rB:=QB 2 8 cS
abbrev Gz:Ro:=top 41
def tL:RE:=pM Y1 ZI (nS 0) (eV 0) (eV 1)
def eR:RS:=wA (mI (e2 QA (GB OO (eV 0)) (nS 3)) (GB GG (qC (OP (eV 0)) (BA 0) cB tL [none,ε 1])))
def GL:rB:=QB 2 2 eR
abbrev M9:Ro:=top 42
def rG:RS:=jA (bC (XB (mn (rA sG [] (aA (eV 0) dA))) (XB (SC (mn (rA GL [] (aA (eV 2) (aA (GB eB (eV 0)) dA))))) (SC (mn (rA EL [] (aA (eV 0) (aA (eV 2) dA))))))) (wA (eC .non)) SA) (CA 0 (rA DL [] (aA (eV 0) (aA (eV 2) dA))))
def WQ:RS:=jA (GC (RB (eV 1)) (BA 2) rG) (wA (eV 0))
def uJ:rB:=QB 2 3 WQ
abbrev Ek:Ro:=top 43
def UN:RE:=sQ (eV 0) (eV 1)
def gR:RE:=jT (eV 1) (eV 0)
def oR:RS:=jA (bC (XB (mn (e2 ZI (GB eB (eV 0)) (nS 3))) (XB (mn (e2 yD (e2 nA (eV 0) (nS 0)) (e2 nA (eV 0) (dB (nS 1))))) (mn (e2 yD (GB aM (eV 0)) (e2 tF (GB eB (eV 0)) (nS 1)))))) (wA (eC (.bl false))) SA) (jA (CA 2 (rA vJ [] (aA (eV 1) dA))) (jA (CA 3 (NO (eV 0) (IE (eV 0) (WB (nS 1)) LD))) (jA (bC (SC (mn (GB GG (qC (RB (eV 3)) (BA 0) cB UN [none,ε 2])))) (wA (eC (.bl false))) SA) (wA (e2 ZI (GB gJ (qC (RB (eV 3)) (BA 0) cB gR [none,ε 2])) (nS 0))))))
def xI:rB:=QB 2 4 oR
abbrev IL:Ro:=top 45
def kH(R:rB):RS:=bC (SC (mn (rA R [] (aA (eV 4) (aA (eV 1) (aA (eV 2) (aA (eV 5) dA))))))) (wA (eC (.bl false))) SA
def rL(R:rB):RS:=jA (bC (mn (e2 yD (GB eB (eV 0)) (GB eB (eV 3)))) (wA (eC (.bl false))) SA) (jA (GC (vQ (eV 0) (eV 3)) (ED 4 5) (kH R)) (wA (eC (.bl true))))
def LH(R:rB):rB:=QB 4 6 (rL R)
abbrev YJ:Ro:=top 44
def TJ (R:rB):RS:=jA (CA 4 (rA uJ [] (aA (eV 0) (aA (e2 nA (eV 3) (nS 1)) dA)))) (jA (bC (mn (e2 JE (eV 4) (eC .non))) (wA (eC (.bl false))) SA) (jA (bC (mn (e2 pG (e2 nA (eV 3) (nS 0)) (eC (.str "threes")))) (wA (rA sG [] (aA (eV 4) dA))) SA) (jA (bC (XB (mn (rA sG [] (aA (eV 4) dA))) (mn (e2 VC (e2 nA (rA NJ [] (aA (eV 4) dA)) (nS 1)) (AB dA)))) (wA (eC (.bl false))) SA) (jA (bC (mn (e2 pG (e2 nA (eV 3) (nS 0)) (eC (.str "ring")))) (wA (rA xI [] (aA (e2 nA (eV 3) (nS 2)) (aA (rA SH [] (aA (eV 4) (aA (eV 2) dA))) dA)))) SA) (jA (CA 5 (rA zF [] (aA (eV 4) (aA (eV 1) dA)))) (jA (bC (XB (mn (e2 JE (eV 5) (eC .non))) (XB (mn (e2 VC (e2 nA (eV 5) (nS 0)) (e2 nA (eV 3) (nS 0)))) (mn (e2 VC (e2 nA (eV 5) (nS 1)) (DC (eV 3) (WB (nS 2)) (WB (dB (nS 1)))))))) (wA (eC (.bl false))) SA) (wA (rA (LH R) [] (aA (e2 nA (eV 5) (nS 2)) (aA (IE (eV 1) (WB (nS 1)) LD) (aA (eV 2) (aA (e2 nA (eV 3) (dB (nS 1))) dA))))))))))))
def RH(n:Nat):rB:=Nat.rec (fun _ _=>none) (fun _ R=>QB 4 6 (TJ R)) n
abbrev Dk:Ro:=top 46
def oW:RS:=wA (rA (RH 12) [] (aA (rA AJ [] (aA (eV 0) (aA (eV 1) dA))) (aA (rA BJ [] (aA (eV 1) dA)) (aA (rA uL [] (aA (eV 1) dA)) (aA (eV 2) dA)))))
def cO:rB:=QB 3 3 oW
abbrev ZK:Ro:=oS (top 48) 0
def IQ:RS:=jA (MI "Search" "lengths" (eV 0) (eV 1)) (jA (MI "Search" "most" (eV 0) (eV 2)) (MI "Search" "made" (eV 0) (nS 0)))
def YK:rB:=QB 3 3 IQ
abbrev S9:Ro:=top 49
def BN:RE:=EA (aA (e2 nA (eV 1) (eV 0)) (aA (e2 nA (eV 1) (e2 VB (eV 0) (nS 1))) dA))
def OU:RS:=wA (qC (P1 (nS 0) (GB eB (eV 0)) 2) (BA 0) cB BN [none,ε 0])
def SN:rB:=QB 1 1 OU
abbrev WK:Ro:=oS (top 48) 2
def UK (R:rB):RS:=jA (CA 6 (NI "Search" "look" R (eV 0) (aA (eV 5) (aA (e2 nA (eV 1) (nS 3)) (aA (eV 3) dA))))) (jA (bC (mn (e2 yD (e2 nA (eV 6) (nS 0)) (eC (.str "clash")))) (wA (eV 6)) SA) (TD (fE (eV 4) (e2 nA (eV 6) (nS 1)))))
def TK (R:rB):RS:=jA (CA 4 (PF dA)) (jA (GC (RB (e2 nA (eV 1) (nS 2))) (BA 5) (UK R)) (wA (EA (aA (eC (.str "clash")) (aA (e2 GD (e2 GD (EA (aA (e2 nA (eV 1) (nS 0)) (aA (eV 2) dA))) (e2 nA (eV 1) (nS 1))) (EA (aA (eV 4) dA))) dA)))))
def KH(R:rB):rB:=QB 4 7 (TK R)
abbrev EJ:Ro:=oS (top 48) 1
def sJ (R:rB):RS:=jA (CA 4 (rA pI [] (aA (eV 1) (aA (eV 2) dA)))) (jA (CA 5 (e2 nA (eV 4) (nS 0))) (jA (CA 6 (e2 nA (eV 4) (nS 1))) (jA (bC (mn (e2 JE (eV 5) (eC .non))) (wA (EA (aA (eC (.str "clash")) (aA (EA (aA (eC (.str "threes")) (aA (eV 6) dA))) dA)))) SA) (jA (CA 7 (rA OH [] (aA (e2 wC (nS 2) (GB eB (eV 5))) (aA (rA SH [] (aA (eV 5) (aA (nG "Search" "lengths" (eV 0)) dA))) dA)))) (jA (bC (mn (e2 QA (e2 nA (eV 7) (nS 0)) (eC (.str "ring")))) (wA (EA (aA (eC (.str "clash")) (aA (EA (aA (eC (.str "ring")) (aA (eV 6) (aA (e2 nA (eV 7) (nS 1)) dA)))) dA)))) SA) (jA (CA 8 (rA zF [] (aA (eV 5) (aA (eV 3) dA)))) (jA (bC (mn (e2 JE (eV 8) (eC .non))) (wA (EA (aA (eC (.str "laid")) (aA (rA SN [] (aA (e2 nA (eV 7) (nS 1)) dA)) dA)))) SA) (jA (bC (mn (e2 dU (nG "Search" "made" (eV 0)) (nG "Search" "most" (eV 0)))) (wA (EA (aA (eC (.str "open")) (aA (eC .non) dA)))) SA) (jA (MI "Search" "made" (eV 0) (e2 VB (nG "Search" "made" (eV 0)) (nS 1))) (wA (NI "Search" "look_at_branches" (KH R) (eV 0) (aA (eV 8) (aA (eV 6) (aA (IE (eV 3) (WB (nS 1)) LD) dA))))))))))))))
def kF(n:Nat):rB:=Nat.rec (fun _ _=>none) (fun _ R=>QB 4 9 (sJ R)) n
abbrev BI:Ro:=top 50
def pR:RS:=jA (CA 3 (HP "Search" YK (aA (rA uL [] (aA (eV 1) dA)) (aA (eV 2) dA)))) (jA (CA 4 (NI "Search" "look" (kF 12) (eV 3) (aA (rA AJ [] (aA (eV 0) (aA (eV 1) dA))) (aA (rA NH [] (aA (eV 0) dA)) (aA (rA BJ [] (aA (eV 1) dA)) dA))))) (wA (EA (aA (e2 nA (eV 4) (nS 0)) (aA (e2 nA (eV 4) (nS 1)) (aA (nG "Search" "made" (eV 3)) dA))))))
def yI:rB:=QB 3 5 pR
abbrev Rj:Ro:=top 52
def mV:RS:=jA (bC (mn (e2 ZI (eV 1) (GB eB (eV 0)))) (wA (e2 nA (eV 0) (eV 1))) SA) (wA (nS 0))
def pE:rB:=QB 2 2 mV
abbrev Ez:Ro:=top 53
def AV:RS:=wA (e2 lB (e2 wC (e2 VB (e2 lB (eV 0) (nS 1000000007)) (nS 1)) (eV 1)) (eV 2))
def MH:rB:=QB 3 3 AV
abbrev Tj:Ro:=top 54
def nV:RS:=jA (CA 1 (e2 lB (eV 0) (nS 8192))) (jA (CA 2 (e2 lB (e2 NB (eV 0) (nS 8192)) (nS 8192))) (jA (CA 3 (e2 lB (e2 NB (eV 0) (nS 67108864)) (nS 4))) (jA (bC (mn (e2 QA (eV 3) (nS 0))) (wA (e2 fH (nS 1) (e2 lB (eV 1) (nS 13)))) SA) (jA (bC (mn (e2 QA (eV 3) (nS 1))) (wA (e2 oN (e2 fH (nS 1) (e2 lB (eV 1) (nS 13))) (e2 fH (nS 1) (e2 lB (eV 2) (nS 13))))) SA) (jA (bC (mn (e2 QA (eV 3) (nS 2))) (wA (e2 SG (eV 1) (eV 2))) SA) (wA (eV 1)))))))
def zJ:rB:=QB 1 4 nV
abbrev Vj:Ro:=top 55
def pV:RS:=jA (CA 2 (rA MH [] (aA (eV 0) (aA (nS 950706376) (aA (nS 2147483399) dA))))) (jA (CA 3 (e2 lB (eV 2) (eV 1))) (jA (CA 4 (e2 lB (e2 VB (e2 VB (eV 3) (nS 1)) (e2 lB (e2 NB (eV 2) (nS 8)) (e2 tF (eV 1) (nS 1)))) (eV 1))) (wA (EA (aA (eC (.str "ways")) (aA (eV 3) (aA (rA zJ [] (aA (rA MH [] (aA (eV 0) (aA (nS 742938285) (aA (nS 2147483647) dA)))) dA)) (aA (eV 4) dA))))))))
def uI:rB:=QB 2 5 pV
abbrev yj:Ro:=top 56
def gL:RE:=rA uI [] (aA (e2 VB (eV 2) (e2 wC (e2 wC (nS 1009) (eV 0)) (eV 0))) (aA (eV 1) dA))
def mH:RS:=jA (CA 6 (rA MH [] (aA (eV 5) (aA (nS 62089911) (aA (nS 2147483587) dA))))) (bC (KF (mn (e2 QA (e2 lB (eV 6) (nS 6)) (nS 0))) (mn (e2 ZI (eV 3) (nS 2)))) (jA (CA 3 (e2 VB (eV 3) (nS 1))) (TD (fE (eV 2) (EA (aA (eC (.str "one")) (aA (GF (VG (e2 VB (nS 1) (e2 lB (e2 NB (eV 6) (nS 6)) (nS 3)))) (BA 0) cB gL [none,ε 1,ε 5]) dA)))))) (bC (mn (e2 QA (e2 lB (eV 6) (nS 6)) (nS 1))) (jA (CA 7 (e2 lB (e2 NB (eV 6) (nS 6)) (nS 4))) (TD (fE (eV 2) (EA (aA (eC (.str "long")) (aA (e2 lB (e2 NB (eV 6) (nS 24)) (eV 1)) (aA (eV 7) (aA (e2 VB (eV 7) (e2 lB (e2 NB (eV 6) (nS 96)) (nS 2))) dA)))))))) (TD (fE (eV 2) (rA uI [] (aA (eV 5) (aA (eV 1) dA)))))))
def cV:RS:=jA (CA 2 (PF dA)) (jA (CA 3 (nS 0)) (jA (CA 4 (IE (eV 0) (WB (nS 2)) (WB (nS 22)))) (jA (bC (mn (e2 pN (e2 lB (rA pE [] (aA (eV 0) (aA (nS 1) dA))) (nS 3)) (nS 0))) (CA 4 (IE (eV 0) (WB (nS 2)) (WB (e2 VB (nS 5) (e2 lB (rA pE [] (aA (eV 0) (aA (nS 1) dA))) (nS 3)))))) SA) (jA (GC (RB (eV 4)) (BA 5) mH) (wA (eV 2))))))
def DJ:rB:=QB 2 8 cV
abbrev xJ:Ro:=top 57
def JQ(R:rB):RE:=rA R [] (aA (eV 0) (aA (e2 tF (eV 1) (nS 1)) dA))
def qL (R:rB):RS:=jA (bC (XB (SC (mn (OF "tuple" (eV 0)))) (XB (mn (e2 ZI (GB eB (eV 0)) (nS 2))) (XB (SC (mn (OF "list" (e2 nA (eV 0) (nS 1))))) (mn (e2 QA (eV 1) (nS 0)))))) (wA (eC (.bl false))) SA) (jA (bC (mn (e2 QA (e2 nA (eV 0) (nS 0)) (eC (.str "threes")))) (wA (e2 QA (GB eB (eV 0)) (nS 2))) SA) (jA (bC (mn (e2 QA (e2 nA (eV 0) (nS 0)) (eC (.str "ring")))) (wA (mI (e2 QA (GB eB (eV 0)) (nS 3)) (OF "list" (e2 nA (eV 0) (nS 2))))) SA) (jA (bC (XB (mn (e2 (HG true) (e2 nA (eV 0) (nS 0)) (EA (aA (eC (.str "one")) (aA (eC (.str "split")) dA))))) (mn (e2 yD (GB eB (eV 0)) (e2 VB (nS 3) (e2 wC (nS 2) (GB MK (e2 QA (e2 nA (eV 0) (nS 0)) (eC (.str "split"))))))))) (wA (eC (.bl false))) SA) (jA (bC (XB (SC (mn (OF "list" (e2 nA (eV 0) (dB (nS 1)))))) (mn (e2 QA (GB eB (e2 nA (eV 0) (dB (nS 1)))) (nS 0)))) (wA (eC (.bl false))) SA) (wA (GB GG (qC (RB (e2 nA (eV 0) (dB (nS 1)))) (BA 0) cB ((JQ R)) [none,ε 1])))))))
def lH(n:Nat):rB:=Nat.rec (fun _ _=>none) (fun _ R=>QB 2 2 (qL R)) n
abbrev f9:Ro:=top 58
def uU:RS:=jA (CA 2 (e2 nA (eV 0) (nS 0))) (jA (CA 3 (e2 nA (eV 0) (nS 1))) (jA (CA 4 (e2 lB (eV 1) (nS 5))) (jA (bC (XB (mn (e2 QA (eV 4) (nS 0))) (KF (mn (e2 QA (eV 4) (nS 1))) (mn (e2 QA (GB eB (eV 3)) (nS 0))))) (jA (CA 5 (EA (aA (nS 0) (aA (nS 0) (aA (nS 1) dA))))) (jA (bC (mn (e2 pN (GB eB (eV 3)) (nS 0))) (CA 5 (e2 nA (eV 3) (dB (nS 1)))) SA) (wA (e2 GD (EA (aA (eV 2) (aA (e2 iC (eV 3) (AB (aA (eV 5) dA))) dA))) (DC (eV 0) (WB (nS 2)) LD))))) SA) (jA (bC (mn (e2 QA (eV 4) (nS 1))) (wA (e2 GD (EA (aA (eV 2) (aA (IE (eV 3) LD (WB (dB (nS 1)))) dA))) (DC (eV 0) (WB (nS 2)) LD))) SA) (jA (bC (mn (e2 QA (eV 4) (nS 2))) (jA (CA 6 (e2 nA (AB (aA (EA (aA (dB (nS 1)) (aA (nS 0) (aA (nS 1) dA)))) (aA (EA (aA (nS 1) (aA (dB (nS 2)) (aA (nS 0) dA)))) (aA (EA (aA (nS 0) (aA (nS 1) (aA (nS 8) dA)))) (aA (EA (aA (nS 1) (aA (nS 0) (aA (nS 1) dA)))) (aA (EA (aA (nS 0) (aA (nS 1) (aA (e2 dH (nS 10) (nS 30)) dA)))) (aA (EA (aA (nS 0) (aA (nS 0) (aA (nS 1) dA)))) dA))))))) (e2 lB (e2 NB (eV 1) (nS 5)) (nS 6)))) (wA (e2 GD (EA (aA (eV 2) (aA (e2 iC (AB (aA (eV 6) dA)) (eV 3)) dA))) (DC (eV 0) (WB (nS 2)) LD)))) SA) (jA (bC (mn (e2 QA (eV 2) (eC (.str "threes")))) (wA (e2 nA (AB (aA (EA (aA (eC (.str "ring")) (aA (eV 3) (aA (AB (aA (nS 0) (aA (nS 1) (aA (nS 0) dA)))) dA)))) (aA (EA (aA (eC (.str "one")) (aA (eV 3) (aA (AB dA) dA)))) (aA (EA (aA (eC (.str "split")) (aA (eV 3) (aA (nS 0) (aA (nS 1) (aA (AB dA) dA)))))) dA)))) (e2 lB (e2 NB (eV 1) (nS 5)) (nS 3)))) SA) (jA (bC (mn (e2 QA (eV 2) (eC (.str "ring")))) (jA (CA 7 (e2 nA (eV 0) (nS 2))) (jA (CA 6 (e2 iC (e2 iC (IE (eV 7) LD (WB (nS 1))) (AB (aA (e2 nA (AB (aA (dB (nS 1)) (aA (nS 16) (aA (e2 dH (nS 10) (nS 30)) dA)))) (e2 lB (e2 NB (eV 1) (nS 25)) (nS 3))) dA))) (IE (eV 7) (WB (nS 2)) LD))) (wA (e2 nA (AB (aA (EA (aA (eC (.str "threes")) (aA (eV 3) dA))) (aA (EA (aA (eV 2) (aA (eV 3) (aA (IE (eV 7) LD (WB (dB (nS 1)))) dA)))) (aA (EA (aA (eV 2) (aA (eV 3) (aA (eV 6) dA)))) (aA (EA (aA (eV 2) (aA (eV 3) (aA (e2 iC (eV 7) (IE (eV 7) (WB (nS 1)) LD)) dA)))) dA))))) (e2 lB (e2 NB (eV 1) (nS 5)) (nS 4)))))) SA) (jA (CA 8 (e2 nA (eV 0) (dB (nS 1)))) (jA (bC (mn (e2 QA (eV 4) (nS 3))) (wA (e2 GD (DC (eV 0) LD (WB (dB (nS 1)))) (EA (aA (e2 nA (AB (aA (IE (eV 8) LD (WB (dB (nS 1)))) (aA (e2 iC (eV 8) (IE (eV 8) LD (WB (nS 1)))) dA))) (e2 lB (e2 NB (eV 1) (nS 5)) (nS 2))) dA)))) SA) (jA (bC (mn (e2 QA (eV 2) (eC (.str "one")))) (wA (EA (aA (eC (.str "split")) (aA (eV 3) (aA (nS 0) (aA (nS 1) (aA (eV 8) dA))))))) SA) (wA (e2 nA (AB (aA (EA (aA (eV 2) (aA (eV 3) (aA (e2 nA (eV 0) (nS 3)) (aA (e2 nA (eV 0) (nS 2)) (aA (eV 8) dA)))))) (aA (EA (aA (eC (.str "one")) (aA (eV 3) (aA (eV 8) dA)))) dA))) (e2 lB (e2 NB (eV 1) (nS 5)) (nS 2))))))))))))))
def cL:rB:=QB 2 9 uU
abbrev FJ:Ro:=top 59
def MN (R:rB):RS:=jA (bC (KF (mn (e2 (HG false) (e2 nA (eV 0) (nS 0)) (EA (aA (eC (.str "one")) (aA (eC (.str "split")) dA))))) (mn (e2 QA (e2 lB (eV 1) (nS 2)) (nS 0)))) (jA (CA 2 (GB UD (e2 nA (eV 0) (dB (nS 1))))) (jA (CA 3 (e2 lB (e2 NB (eV 1) (nS 2)) (GB eB (eV 2)))) (jA (WH (rA R [] (aA (e2 nA (eV 2) (eV 3)) (aA (e2 NB (e2 NB (eV 1) (nS 2)) (GB eB (eV 2))) dA))) (eV 2) (eV 3)) (wA (e2 GD (DC (eV 0) LD (WB (dB (nS 1)))) (EA (aA (eV 2) dA))))))) SA) (wA (rA cL [] (aA (eV 0) (aA (e2 NB (eV 1) (nS 2)) dA))))
def nH(n:Nat):rB:=Nat.rec (fun _ _=>none) (fun _ R=>QB 2 4 (MN R)) n
abbrev yJ:Ro:=top 60
def qI(R:rB):RE:=EA (aA (eV 2) (aA (eV 1) (aA (eV 0) dA)))
def IN(R:rB):RE:=rA R [] (aA (eV 0) dA)
def aL (R:rB):RS:=jA (CA 1 (qC (RB (e2 nA (eV 0) (nS 1))) (QI 0 1 2) cB ((qI R)) [none,none,none])) (jA (bC (mn (e2 QA (e2 nA (eV 0) (nS 0)) (eC (.str "threes")))) (wA (EA (aA (eC (.str "threes")) (aA (eV 1) dA)))) SA) (jA (bC (mn (e2 QA (e2 nA (eV 0) (nS 0)) (eC (.str "ring")))) (wA (EA (aA (eC (.str "ring")) (aA (eV 1) (aA (e2 iC (IE (e2 nA (eV 0) (nS 2)) (WB (nS 1)) LD) (AB (aA (e2 nA (e2 nA (eV 0) (nS 2)) (nS 1)) dA))) dA))))) SA) (wA (e2 GD (e2 GD (EA (aA (e2 nA (eV 0) (nS 0)) (aA (eV 1) dA))) (DC (eV 0) (WB (nS 2)) (WB (dB (nS 1))))) (EA (aA (qC (RB (e2 nA (eV 0) (dB (nS 1)))) (BA 0) cB ((IN R)) [none]) dA))))))
def NE(n:Nat):rB:=Nat.rec (fun _ _=>none) (fun _ R=>QB 1 2 (aL R)) n
abbrev m9:Ro:=top 61
def qJ:RS:=bC (mn (e2 QA (e2 nA (eV 3) (nS 0)) (eC (.str "one")))) (CA 2 (nS 0)) (bC (KF (mn (e2 QA (e2 nA (eV 3) (nS 0)) (eC (.str "ways")))) (mn (e2 QA (e2 SG (e2 jJ (e2 nA (eV 3) (nS 2)) (e2 nA (AB (aA (eV 4) (aA (e2 tF (nS 12) (eV 4)) dA))) (e2 nA (eV 3) (nS 1)))) (nS 1)) (nS 0)))) (CA 2 (e2 SG (eV 2) (e2 tF (nS 8191) (e2 fH (nS 1) (eV 4))))) SA)
def rJ:RS:=GC (VG (nS 13)) (BA 4) qJ
def JN:RE:=eV 0
def LN:RT:=mn (e2 QA (e2 SG (e2 jJ (eV 1) (eV 0)) (nS 1)) (nS 1))
def KN:RE:=EA (aA (eC (.str "ring")) (aA (AB dA) (aA (GB LM (e2 nA (eV 1) (nS 2))) dA)))
def xU:RS:=jA (CA 2 (nS 8191)) (jA (GC (RB (eV 0)) (BA 3) rJ) (jA (CA 5 (qC (VG (nS 13)) (BA 0) LN JN [none,ε 2])) (jA (bC (XB (mn (e2 yD (e2 nA (eV 1) (nS 0)) (eC (.str "ring")))) (mn (e2 ZI (GB eB (eV 5)) (nS 2)))) (wA (eV 1)) SA) (wA (EA (aA (eC (.str "split")) (aA (AB dA) (aA (nS 0) (aA (nS 1) (aA (qC (RB (eV 5)) (BA 0) cB KN [none,ε 1]) dA))))))))))
def bL:rB:=QB 2 6 xU
abbrev nj:Ro:=top 62
def nL:RE:=GQ (mn (e2 QA (e2 nA (eV 0) (nS 0)) (eC (.str "one")))) (EA (aA (eC (.str "one")) (aA (GB UD (e2 nA (eV 0) (nS 1))) dA))) (eV 0)
def VU:RS:=wA (GF (RB (eV 0)) (BA 0) cB nL [none])
def tJ:rB:=QB 1 1 VU
abbrev Uj:Ro:=top 63
def oV:RS:=jA (CA 4 (rA tJ [] (aA (eV 1) dA))) (jA (CA 5 (rA cO [] (aA (eV 0) (aA (eV 4) (aA (eV 2) dA))))) (wA (mI (OF "bool" (eV 5)) (mI (e2 QA (eV 5) (eV 3)) (e2 iJ (eV 4) (eV 1))))))
def wF:rB:=QB 4 6 oV
abbrev aQ:Ro:=top 64
def XO:RS:=jA (CA 6 (rA MH [] (aA (e2 VB (rA pE [] (aA (eV 0) (aA (nS 1) dA))) (e2 wC (e2 wC (nS 7) (eV 5)) (eV 5))) (aA (nS 1226874159) (aA (nS 2147483629) dA))))) (bC (SC (mn (rA wF [] (aA (eV 1) (aA (eV 2) (aA (rA (nH 14) [] (aA (e2 nA (eV 4) (nS 1)) (aA (eV 6) dA))) (aA (eC (.bl false)) dA))))))) (wA (eC (.bl false))) SA)
def CP:RS:=jA (CA 1 (e2 VB (nS 2) (e2 lB (rA pE [] (aA (eV 0) (aA (nS 0) dA))) (nS 2)))) (jA (bC (mn (e2 QA (e2 lB (e2 NB (rA pE [] (aA (eV 0) (aA (nS 0) dA))) (nS 2)) (nS 4)) (nS 1))) (CA 1 (nS 4)) SA) (jA (CA 2 (rA DJ [] (aA (eV 0) (aA (eV 1) dA)))) (jA (CA 3 (rA tJ [] (aA (eV 2) dA))) (jA (CA 4 (rA yI [] (aA (eV 1) (aA (eV 3) (aA (nS 2) dA))))) (jA (bC (XB (SC (mn (OF "tuple" (eV 4)))) (XB (mn (e2 yD (GB eB (eV 4)) (nS 3))) (mn (e2 iI (eV 3) (eV 2))))) (wA (eC (.bl false))) SA) (jA (bC (mn (e2 yD (e2 nA (eV 4) (nS 0)) (eC (.str "clash")))) (wA (rA wF [] (aA (eV 1) (aA (eV 2) (aA (EA (aA (eC (.str "threes")) (aA (AB dA) dA))) (aA (eC (.bl false)) dA)))))) SA) (jA (bC (XB (SC (mn (rA (lH 14) [] (aA (e2 nA (eV 4) (nS 1)) (aA (nS 40) dA))))) (SC (mn (rA wF [] (aA (eV 1) (aA (eV 2) (aA (e2 nA (eV 4) (nS 1)) (aA (eC (.bl true)) dA)))))))) (wA (eC (.bl false))) SA) (jA (bC (SC (mn (rA wF [] (aA (eV 1) (aA (eV 2) (aA (rA (NE 14) [] (aA (e2 nA (eV 4) (nS 1)) dA)) (aA (eC (.bl true)) dA))))))) (wA (eC (.bl false))) SA) (jA (bC (KF (mn (e2 QA (eV 1) (nS 2))) (SC (mn (rA wF [] (aA (eV 1) (aA (eV 2) (aA (rA bL [] (aA (eV 2) (aA (e2 nA (eV 4) (nS 1)) dA))) (aA (eC (.bl true)) dA)))))))) (wA (eC (.bl false))) SA) (jA (GC (VG (nS 2)) (BA 5) XO) (wA (eC (.bl true)))))))))))))
def qK:rB:=QB 1 7 CP
structure B1(K:Frag)(mg:Str->Option Value)(h:Heap)(eI:Addr)(i3:Value)(i4:Addr)(i5:Addr)(ja:Value):Prop where
 X:K.In h
 G:h.Ns mainGlobals mg
 q0:fN K "Search" eI
 q1:findIn K (.ref eI) "lengths" =ε none
 q2:findIn K (.ref eI) "most" =ε none
 q3:findIn K (.ref eI) "made" =ε none
 q4:nB K "zones" Ed
 q5:nB K "ways_in" Nk
 q6:nB K "set_of" Ah
 q7:nB K "turned" Bh
 q8:nB K "chained_sets" N9
 q9:nB K "wide_row" Kz
 qa:nB K "wide" G7
 qb:nB K "pairs_of" Iz
 qc:nB K "narrowed" Hz
 qd:nB K "left_by" Gk
 qe:nB K "narrows" Jk
 qf:nB K "made_of" Ik
 qg:nB K "is_empty" Fz
 qh:nB K "threes_along" T9
 qi:nB K "rounded_from" R9
 qj:nB K "rounded" Lk
 qk:nB K "first_net" Wj
 ql:nB K "lengths_in" zj
 qm:nB K "groups_in" Xj
 qn:nB K "only_member" V9
 qo:nB K "first_loose_pair" g9
 qp:nB K "split_of" Jz
 qq:nB K "grain" yd
 qr:nB K "length_bounds" D9
 qs:nB K "point_bounds" P9
 qt:nB K "set_bounds" gq
 qu:nB K "bounds" yh
 qv:nB K "least_bounds" O9
 qw:nB K "moved" Ad
 qx:nB K "ring_behind" W9
 qy:nB K "timed" Cd
 qz:nB K "is_three" Gz
 Q0:nB K "behind_steps" M9
 Q1:nB K "is_ring" Ek
 Q2:nB K "shows" YJ
 Q3:nB K "all_show" IL
 Q4:nB K "follows" Dk
 Q5:BM K eI "__init__" "Search.__init__" ZK
 Q6:BM K eI "look" "Search.look" EJ
 Q7:BM K eI "look_at_branches" "Search.look_at_branches" WK
 Q8:nB K "stretches_at" S9
 Q9:VZ K "planned" BI 200
 Qa:nB K "_law_cell" Rj
 Qb:nB K "_law_mix" Ez
 Qc:nB K "_law_mask" Tj
 Qd:nB K "_law_ways" Vj
 Qe:nB K "_law_facts" yj
 Qf:nB K "_law_is_tree" xJ
 Qg:nB K "_law_spoilt_here" f9
 Qh:nB K "_law_spoilt" FJ
 Qi:nB K "_law_other_way" yJ
 Qj:nB K "_law_split_too" m9
 Qk:nB K "_law_copied" nj
 Ql:nB K "_law_told" Uj
 Qm:nB K "law" aQ
 Qn:nsIn K mainGlobals "all" =ε none
 Qo:nsIn K mainGlobals "any" =ε none
 Qp:nsIn K mainGlobals "bool" =ε none
 Qq:nsIn K mainGlobals "enumerate" =ε none
 Qr:nsIn K mainGlobals "int" =ε none
 Qs:nsIn K mainGlobals "isinstance" =ε none
 Qt:nsIn K mainGlobals "len" =ε none
 Qu:nsIn K mainGlobals "list" =ε none
 Qv:nsIn K mainGlobals "max" =ε none
 Qw:nsIn K mainGlobals "min" =ε none
 Qx:nsIn K mainGlobals "range" =ε none
 Qy:nsIn K mainGlobals "set" =ε none
 Qz:nsIn K mainGlobals "sum" =ε none
 U0:nsIn K mainGlobals "tuple" =ε none
 U1:nsIn K mainGlobals "zip" =ε none
 U2:nsIn K mainGlobals "ALL" =ε (ε i3)
 U3:ID K 6 i3=ε FP
 U4:nsIn K mainGlobals "ZONES" =ε (ε (.ref i4))
 U5:ID K 6 (.ref i4)=ε eY
 U6:nsIn K mainGlobals "CHAINED" =ε (ε (.ref i5))
 U7:ID K 6 (.ref i5)=ε uW
 U8:nsIn K mainGlobals "SAME" =ε (ε ja)
 U9:ID K 6 ja=ε XY
section
variable{P:Ri}{w:Rr}{K:Ra}{a:Str->O4 Ou}
def OV:Za (Dn IL 6) (Dn IL 4) (oB IL):=oG
def pY:Za (Dn YJ 6) (Dn YJ 4) (oB YJ):=oG
def tU:Za (Dn ZK 3) (Dn ZK 3) (oB ZK):=oG
def sU:Za (Dn WK 7) (Dn WK 4) (oB WK):=oG
def GU:Za (Dn EJ 9) (Dn EJ 4) (oB EJ):=oG
def QV:Za (Dn BI 5) (Dn BI 3) (oB BI):=oG
def LU:Za (Dn xJ 2) (Dn xJ 2) (oB xJ):=oG
def HU:Za (Dn FJ 4) (Dn FJ 2) (oB FJ):=oG
def DU:Za (Dn yJ 2) (Dn yJ 1) (oB yJ):=oG
def NZ:Za (Dn aQ 7) ["_law_script"] (oB aQ):=oG
def cT(T:B1 K a h g l j d i){st:Ro}(D:nB K x st)(B:∀{f:Pb}{e:Ou}{A:Ru}{outer:Oo Env}{s:Pa}{H:Hp}{E:XK},(Dn st m).Nodup->Ys k (A.deeper (envOfC x (oB st) s.heap.objs.size f e))->aI (iF lG P w K a b (Dn st m) x (oB st) f e A outer s H E).nox (bD st) body)(y:∀(kV o q:Ou)(C:O4 Pb)(e ct:Ou)(us:Oo Ou),us.length=n->bindArgs (fnOf x x (aF st) (bD st) (oB st) .none kV o q C e ct) ⟨us,[]⟩=pure (((Dn st m).take n).zip us):=by intro _ _ _ _ _ _;first | exact QK rfl | exact len1 fun z=>rfl | exact cH fun z z=>rfl | exact hJ fun z z z=>rfl | exact GH fun z z z z=>rfl | exact bU fun z z z z z=>rfl | exact X3 fun z z z z z z=>rfl)(S:Za (Dn st m) ((Dn st m).take n) (oB st):=by exact oG)(p:autoParam (((Dn st m).take n).length=n) Æ)(u:autoParam ((Dn st m).length=m) Æ):jC P w K a b (k+1) n x (QB n m body):=bK (LG T.X T.G D (by rw[p];exact y)) S p u fun z z z z z z z r=>B S.nd r
def zN(T:B1 K a h g l j d i)(e:nsIn K mainGlobals x=ε none):a x=none:=mg_none_of T.X T.G e
variable{h:Te}{g:Pb}{l:Ou}{j:Pb}{d:Pb}{i:Ou}(T:B1 K a h g l j d i){b:Te}
include T
def jz:jC P w K a b 1 1 "zones" dS:=cT T T.q4 fun S r=>qA (AA (kA (eK rfl (⟨⟨_,6,PySem.W.mg_of T.X T.G T.U4,T.U5⟩⟩)) (bA 0)))
def CJ:jC P w K a b 1 1 "ways_in" pH:=cT T T.q5 fun S r=>qA (AA (OE (yF rfl (zN T T.Qx) cA) (QF 0) (iP (KA (OB r.units) (uA QH (uA MS (bA 1) (bA 0)) cA) cA)) (bA 0)))
def Jq:jC P w K a b 1 1 "set_of" qO:=cT T T.q6 fun S r=>qA (AA (uZ rfl rfl (zN T T.Qz) (OE (sC (bA 0)) (QF 0) (tD) (uA mK cA (bA 0)))))
def Kq:jC P w K a b 2 1 "turned" rO:=cT T T.q7 fun S r=>qA (AA (LA (Jq T) r (wD (OE (sC (LA (CJ T) r (wD (bA 0)))) (QF 0) (tD) (uA vH cA (bA 0))))))
def t9:jC P w K a b 2 2 "chained_sets" RN:=cT T T.q8 fun S r=>lA (JA 2 S (LA (CJ T) r (wD (bA 1)))) (lA (JA 3 S cA) (lA (kD nu rfl (sC (LA (CJ T) r (wD (bA 0)))) (CD 4 S) (qA (kD nu rfl (sC (bA 2)) (CD 5 S) (qA (JA 3 S (uA dZ (bA 3) (kA (kA (eK rfl (⟨⟨_,6,PySem.W.mg_of T.X T.G T.U6,T.U7⟩⟩)) (bA 4)) (bA 5)))))))) (qA (AA (bA 3)))))
def Dj:jC P w K a b 1 2 "wide_row" iO:=cT T T.q9 fun S r=>qA (AA (uA Vh (uA VH (tZ (eK rfl (⟨⟨_,6,PySem.W.mg_of T.X T.G T.U2,T.U3⟩⟩)) (bA 1)) (uD (wD (eK rfl (⟨⟨_,6,PySem.W.mg_of T.X T.G T.U8,T.U9⟩⟩))))) (tZ (eK rfl (⟨⟨_,6,PySem.W.mg_of T.X T.G T.U2,T.U3⟩⟩)) (uA vH (uA vH (bA 0) (bA 1)) cA))))
def Fw:jC P w K a b 2 1 "wide" jP:=cT T T.qa fun S r=>qA (AA (xR (yF rfl (zN T T.Qx) (bA 0)) (QF 0) (tD) (LA (Dj T) r (YB (bA 1) (bA 0)))))
def aO:jC P w K a b 1 1 "pairs_of" NH:=cT T T.qb fun S r=>lA (JA 1 S (uH iE)) (lA (kD nu rfl (yF rfl (zN T T.Qx) (bA 0)) (CD 2 S) (qA (kD nu rfl (Zz rfl (zN T T.Qx) (uA fD (bA 2) cA) (bA 0)) (CD 3 S) (qA (sE (UF (bA 1) (VA (YB (bA 2) (bA 3))))))))) (qA (AA (bA 1))))
def ZN:jC P w K a b 3 4 "narrowed" sI:=cT T T.qc fun S r=>lA (YQ 4 S (sC (bA 0)) (QF 0) (tD) (xL rfl (zN T T.Qu) (bA 0))) (lA (ML (uA QH (kA (kA (bA 0) (bA 1)) (bA 3)) (bA 2)) (kA (bA 4) (bA 1)) (bA 3)) (lA (ML (LA (Kq T) r (wD (kA (kA (bA 4) (bA 1)) (bA 3)))) (kA (bA 4) (bA 3)) (bA 1)) (qA (AA (bA 4)))))
def sV:jC P w K a b 3 2 "left_by" CL:=cT T T.qd fun S r=>lA (JA 2 S (kA (kA (bA 0) (kA (bA 1) cA)) (kA (bA 1) cA))) (lA (JA 3 S (kA (kA (bA 0) (kA (bA 1) cA)) (kA (bA 1) cA))) (qA (AA (uA QH (kA (kA (bA 0) (kA (bA 1) cA)) (kA (bA 1) cA)) (LA (t9 T) r (YB (bA 2) (bA 3)))))))
def FV:jC P w K a b 4 2 "narrows" EL:=cT T T.qe fun S r=>qA (AA (tH (MG r.units) (LA (sV T) r (YB (bA 0) (bA 1))) (kA (kA (bA 0) (kA (bA 1) cA)) (kA (bA 1) cA))))
def tV:jC P w K a b 4 2 "made_of" DL:=cT T T.qf fun S r=>qA (AA (LA (ZN T) r (iG (bA 0) (kA (bA 1) cA) (LA (sV T) r (YB (bA 0) (bA 1))) (kA (bA 1) cA))))
def YN:jC P w K a b 1 1 "is_empty" sG:=cT T T.qg fun S r=>qA (AA (Bl rfl rfl (zN T T.Qo) (OE (sC (bA 0)) (QF 0) (tD) (tH S0 cA (bA 0)))))
def v9:jC P w K a b 1 2 "threes_along" TN:=cT T T.qh fun S r=>lA (JA 2 S (uH iE)) (lA (kD nu rfl (yF rfl (zN T T.Qx) (bA 1)) (CD 3 S) (qA (fB (KA DX (bA 3) (bA 0)) (lA (sE (UF (bA 2) (VA (JD (kA (bA 0) cA) (kA (bA 0) cA) (bA 3))))) (qA (sE (UF (bA 2) (VA (JD (kA (bA 0) cA) (kA (bA 0) cA) (bA 3))))))) iB))) (qA (AA (bA 2))))
def BU:jC P w K a b 5 2 "rounded_from" pI:=cT T T.qi fun S r=>lA (JA 2 S (uH iE)) (lA (fB (lE (LA (YN T) r (wD (bA 0)))) (qA (AA (VA (YB mF (bA 2))))) iB) (lA (YQ 3 S (sC (bA 0)) (QF 0) (tD) (xL rfl (zN T T.Qu) (bA 0))) (lA (JA 4 S (xL rfl (zN T T.Qu) (bA 1))) (lA (zY nu (KA (lK r.units) (bA 4) (uD iE)) (lA (JA 5 S (Og (bA 4) cA)) (qA (kD nu rfl (sC (LA (v9 T) r (YB (bA 5) (zC rfl (zN T T.Qt) (bA 0))))) (CD 6 S) (qA (fB (lE (LA (FV T) r (YB (bA 3) (bA 6)))) (lA (JA 3 S (LA (tV T) r (YB (bA 3) (bA 6)))) (lA (sE (UF (bA 2) (bA 6))) (lA (fB (KA (zP r.units) (kA (kA (bA 3) (kA (bA 6) cA)) (kA (bA 6) cA)) cA) (qA (AA (VA (YB mF (bA 2))))) iB) (qA (sE (UF (bA 4) (VA (YB (kA (bA 6) cA) (kA (bA 6) cA))))))))) iB)))))) (qA (AA (VA (YB (bA 3) (bA 2)))))))))
def Aq:jC P w K a b 6 1 "rounded" NJ:=cT T T.qj fun S r=>qA (AA (LA (BU T) r (YB (bA 0) (LA (aO T) r (wD (zC rfl (zN T T.Qt) (bA 0)))))))
def aV:jC P w K a b 4 2 "first_net" AJ:=cT T T.qk fun S r=>lA (JA 2 S (LA (Fw T) r (wD (bA 0)))) (lA (kD nu rfl (sC (bA 1)) (CD 3 S) (qA (fB (KA (OB r.units) (kA (bA 3) cA) sB) (qA (JA 2 S (LA (ZN T) r (iG (bA 2) (kA (bA 3) cA) (kA (bA 3) cA) (kA (bA 3) cA))))) iB))) (qA (AA (bA 2))))
def EU:jC P w K a b 1 1 "lengths_in" uL:=cT T T.ql fun S r=>qA (AA (OE (sC (bA 0)) (QF 0) (iP (KA (OB r.units) (kA (bA 0) cA) sB)) (VA (JD (kA (bA 0) cA) (kA (bA 0) cA) (kA (bA 0) cA)))))
def bV:jC P w K a b 1 1 "groups_in" BJ:=cT T T.qm fun S r=>qA (AA (OE (sC (bA 0)) (QF 0) (iP (KA (OB r.units) (kA (bA 0) cA) sB)) (kA (bA 0) cA)))
def i9:jC P w K a b 4 3 "only_member" ON:=cT T T.qn fun S r=>lA (kD nu rfl (Nt rfl (zN T T.Qq) (bA 1)) (HS 3 4 rfl S) (lA (JA 5 S (JP (KA (OB r.units) (bA 3) (bA 2)) (kA (bA 4) cA) (uA QH (eK rfl (⟨⟨_,6,PySem.W.mg_of T.X T.G T.U2,T.U3⟩⟩)) (Dl (kA (bA 4) cA))))) (qA (JA 0 S (LA (ZN T) r (iG (bA 0) (kA (bA 4) cA) (bA 5) (kA (bA 4) cA))))))) (qA (AA (bA 0)))
def R8:jC P w K a b 2 1 "first_loose_pair" dL:=cT T T.qo fun S r=>lA (kD nu rfl (sC (LA (aO T) r (wD (zC rfl (zN T T.Qt) (bA 0))))) (CD 1 S) (qA (fB (KA XM (zC rfl (zN T T.Qt) (LA (CJ T) r (wD (kA (kA (bA 0) (kA (bA 1) cA)) (kA (bA 1) cA))))) cA) (qA (AA (bA 1))) iB))) (qA (AA mF))
def RU:jC P w K a b 5 2 "split_of" zF:=cT T T.qp fun S r=>lA (fB (KA (lK r.units) (bA 1) (uD iE)) (lA (JA 2 S (kA (bA 1) cA)) (lA (sL 3 S (yF rfl (zN T T.Qx) (zC rfl (zN T T.Qt) (bA 2))) (QF 0) (tD) (LA (i9 T) r (JD (bA 1) (bA 2) (bA 0)))) (qA (AA (VA (iG sB (VA iE) (bA 3) (OE (sC (bA 2)) (QF 0) (tD) (VA (YB (kA (bA 0) cA) (kA (bA 0) cA)))))))))) iB) (lA (JA 4 S (LA (R8 T) r (wD (bA 0)))) (lA (fB (KA kK (bA 4) mF) (qA (AA mF)) iB) (lA (JA 5 S (kA (kA (bA 0) (kA (bA 4) cA)) (kA (bA 4) cA))) (lA (sL 3 S (sC (LA (CJ T) r (wD (bA 5)))) (QF 0) (tD) (LA (ZN T) r (iG (bA 1) (kA (bA 2) cA) (uA mK cA (bA 0)) (kA (bA 2) cA)))) (qA (AA (VA (iG sB (bA 4) (bA 3) (uD (wD (bA 4)))))))))))
def Zx:jC P w K a b 1 1 "grain" nM:=cT T T.qq fun S r=>qA (AA (uA fD (uA jE cA (bA 0)) cA))
def Y8:jC P w K a b 1 2 "length_bounds" pL:=cT T T.qr fun S r=>lA (JA 2 S (uA jE cA (kA (bA 0) cA))) (qA (AA (uH (YB (VA (JD (bA 2) (uA fD (bA 2) cA) (uA jE (QC (kA (bA 0) cA)) (bA 1)))) (VA (JD (uA fD (bA 2) cA) (bA 2) (uA jE (kA (bA 0) cA) (bA 1))))))))
def AU:jC P w K a b 1 4 "point_bounds" wJ:=cT T T.qs fun S r=>lA (JA 4 S (uH iE)) (lA (fB (KA V0 (rZ rfl rfl (zN T T.Qv) (bA 3)) (bA 2)) (qA (sE (UF (bA 4) (VA (JD (bA 0) (bA 1) (JP (KA YH (rZ rfl rfl (zN T T.Qv) (bA 3)) (bA 2)) (QC cA) cA)))))) iB) (lA (fB (KA R0 (sZ rfl rfl (zN T T.Qw) (bA 3)) (bA 2)) (qA (sE (UF (bA 4) (VA (JD (bA 1) (bA 0) (JP (KA XM (sZ rfl rfl (zN T T.Qw) (bA 3)) (bA 2)) (QC cA) cA)))))) iB) (qA (AA (bA 4)))))
def F9:jC P w K a b 2 3 "set_bounds" vL:=cT T T.qt fun S r=>lA (JA 3 S (uH iE)) (lA (kD nu rfl (yF rfl (zN T T.Qx) cA) (CD 4 S) (lA (sL 5 S (sC (LA (CJ T) r (wD (bA 1)))) (QF 0) (tD) (kA (LA (jz T) r (wD (bA 0))) (bA 1))) (lA (sE (wO (bA 3) (LA (AU T) r (iG (uA fD (uA jE cA (bA 0)) (bA 4)) (uA jE cA (bA 2)) cA (bA 5))))) (qA (sE (wO (bA 3) (LA (AU T) r (iG (uA fD (uA jE cA (bA 0)) (bA 4)) (uA fD (uA jE cA (bA 2)) cA) cA (bA 5))))))))) (qA (AA (bA 3))))
def wV:jC P w K a b 3 2 "bounds" SH:=cT T T.qu fun S r=>lA (YQ 2 S (yF rfl (zN T T.Qx) (zC rfl (zN T T.Qt) (bA 0))) (QF 0) (tD) (VA (JD (uA jE cA (bA 0)) (uA fD (uA jE cA (bA 0)) cA) (QC cA)))) (lA (kD nu rfl (sC (bA 1)) (CD 3 S) (qA (sE (wO (bA 2) (LA (Y8 T) r (YB (bA 3) (LA (Zx T) r (wD (zC rfl (zN T T.Qt) (bA 0)))))))))) (lA (kD nu rfl (sC (LA (aO T) r (wD (zC rfl (zN T T.Qt) (bA 0))))) (CD 4 S) (qA (sE (wO (bA 2) (LA (F9 T) r (JD (kA (bA 4) cA) (kA (kA (bA 0) (kA (bA 4) cA)) (kA (bA 4) cA)) (kA (bA 4) cA))))))) (qA (AA (bA 2)))))
def zU:jC P w K a b 1 1 "least_bounds" vJ:=cT T T.qv fun S r=>lA (JA 1 S Bf) (lA (kD nu rfl (sC (bA 0)) (CD 2 S) (lA (JA 3 S (Fl (YB (kA (bA 2) cA) (kA (bA 2) cA)))) (qA (Bc r.units (Hf rfl rfl (zN T T.Qw) (Lg r.units (bA 1) (bA 3) (kA (bA 2) cA)) (kA (bA 2) cA)) (bA 1) (bA 3))))) (qA (AA (bA 1))))
def dz:jC P w K a b 1 3 "moved" UJ:=cT T T.qw fun S r=>lA (JA 3 S mF) (lA (kD nu rfl (Ay (bA 0)) (HS 4 5 rfl S) (qA (fB (KA XM (kA (bA 1) (kA (bA 4) cA)) (uA fD (kA (bA 1) (kA (bA 4) cA)) (bA 5))) (lA (ML (uA fD (kA (bA 1) (kA (bA 4) cA)) (bA 5)) (bA 1) (kA (bA 4) cA)) (lA (ML (kA (bA 4) cA) (bA 2) (kA (bA 4) cA)) (qA (JA 3 S (kA (bA 4) cA))))) iB))) (qA (AA (bA 3))))
def j9:jC P w K a b 1 2 "ring_behind" PN:=cT T T.qx fun S r=>lA (kD nu rfl (yF rfl (zN T T.Qx) (zC rfl (zN T T.Qt) (bA 1))) (CD 2 S) (qA (JA 0 S (kA (bA 1) (bA 0))))) (lA (JA 3 S (uH (YB (bA 0) (kA (bA 1) (bA 0))))) (lA (zY nu (KA (MG r.units) (kA (bA 3) (QC cA)) (bA 0)) (qA (sE (UF (bA 3) (kA (bA 1) (kA (bA 3) (QC cA))))))) (qA (AA (bA 3)))))
def iz:jC P w K a b 2 2 "timed" OH:=cT T T.qy fun S r=>lA (JA 2 S (LA (zU T) r (wD (bA 1)))) (lA (JA 3 S (SX cA (bA 0))) (lA (JA 4 S (SX mF (bA 0))) (lA (kD nu rfl (yF rfl (zN T T.Qx) (uA fD (bA 0) cA)) (CD 5 S) (lA (JA 6 S (LA (dz T) r (JD (bA 2) (bA 3) (bA 4)))) (qA (fB (KA kK (bA 6) mF) (lA (JA 7 S (Jf rfl rfl (zN T T.Qw) (bA 3) cA)) (qA (AA (VA (YB sB (OE (sC (bA 3)) (QF 0) (tD) (uA vH (bA 0) (bA 1)))))))) iB)))) (qA (AA (VA (YB sB (LA (j9 T) r (YB (bA 6) (bA 4))))))))))
def Cj:jC P w K a b 1 2 "is_three" GL:=cT T T.qz fun S r=>qA (AA (uP (tH (OB r.units) (Tq rfl rfl (zN T T.Qt) rfl (zN T T.Qy) (bA 0)) cA) (GS (FS rfl rfl (zN T T.Qn) (OE (Yl (bA 0)) (QF 0) (tD) (Kg V0 YH cA (bA 0) (bA 1)))))))
def p9:jC P w K a b 5 2 "behind_steps" uJ:=cT T T.Q0 fun S r=>lA (kD nu rfl (sC (bA 1)) (CD 2 S) (lA (fB (WM.tm (mE (lE (LA (YN T) r (wD (bA 0)))) (mE (HF (lE (LA (Cj T) r (YB (bA 2) (zC rfl (zN T T.Qt) (bA 0)))))) (CG (HF (lE (LA (FV T) r (YB (bA 0) (bA 2))))))))) (qA (AA mF)) iB) (qA (JA 0 S (LA (tV T) r (YB (bA 0) (bA 2))))))) (qA (AA (bA 0)))
def zq:jC P w K a b 2 2 "is_ring" xI:=cT T T.Q1 fun S r=>lA (fB (WM.tm (mE (KA YH (zC rfl (zN T T.Qt) (bA 0)) cA) (mE (KA (MG r.units) (kA (bA 0) cA) (kA (bA 0) (QC cA))) (CG (KA (MG r.units) (jw rfl rfl (zN T T.Qt) rfl (zN T T.Qy) (bA 0)) (uA vH (zC rfl (zN T T.Qt) (bA 0)) cA)))))) (qA (AA rD)) iB) (lA (JA 2 S (LA (zU T) r (wD (bA 1)))) (lA (JA 3 S (Uq rfl rfl (zN T T.Qu) rfl (zN T T.U1) (bA 0) (AF (bA 0) (dD cA) rE))) (lA (fB (HF (lE (FS rfl rfl (zN T T.Qn) (OE (sC (bA 3)) (QF 0) (tD) (El r.units (bA 0) (bA 1)))))) (qA (AA rD)) iB) (qA (AA (tH YH (uZ rfl rfl (zN T T.Qz) (OE (sC (bA 3)) (QF 0) (tD) (Kf r.units (bA 1) (bA 0)))) cA))))))
def Bj {R:rB} {k:Nat} (f:6<=k) (e:jC P w K a b k 4 "shows" R):jC P w K a b (k+1) 4 "all_show" (LH R):=
 by unfold LH;exact bK (k:=k) (body:=rL R) (LG (ps:=Dn IL 4) T.X T.G T.Q3 fun q q q q q q=>GH (fun q q q q=>rfl)) OV rfl rfl fun q q q q q q q r=>have S:=Za.nd OV;lA (fB (KA (MG r.units) (zC rfl (zN T T.Qt) (bA 0)) (zC rfl (zN T T.Qt) (bA 3))) (qA (AA rD)) iB) (lA (kD nu rfl (vp rfl (zN T T.U1) (bA 0) (bA 3)) (HS 4 5 rfl S) (qA (fB (HF (lE (WD e r nofun rfl (iG (bA 4) (bA 1) (bA 2) (bA 5))))) (qA (AA rD)) iB))) (qA (AA rD)))
def Bq {R:rB} {k:Nat} (e:6<=k) (f:jC P w K a b k 4 "shows" R):jC P w K a b (k+2) 4 "shows" (QB 4 6 (TJ R)):=
 bK (k:=k+1) (body:=TJ R) (LG (ps:=Dn YJ 4) T.X T.G T.Q2 fun q q q q q q=>GH (fun q q q q=>rfl)) pY rfl rfl fun q q q q q q q r=>have S:=Za.nd pY;lA (JA 4 S (WD (p9 T) r nofun rfl (YB (bA 0) (kA (bA 3) cA)))) (lA (fB (KA kK (bA 4) mF) (qA (AA rD)) iB) (lA (fB (KA (zP r.units) (kA (bA 3) cA) sB) (qA (AA (WD (YN T) r nofun rfl (wD (bA 4))))) iB) (lA (fB (WM.tm (mE (lE (WD (YN T) r nofun rfl (wD (bA 4)))) (CG (KA (lK r.units) (kA (WD (Aq T) r nofun rfl (wD (bA 4))) cA) (uD iE))))) (qA (AA rD)) iB) (lA (fB (KA (zP r.units) (kA (bA 3) cA) sB) (qA (AA (WD (zq T) r nofun rfl (YB (kA (bA 3) cA) (WD (wV T) r nofun rfl (YB (bA 4) (bA 2))))))) iB) (lA (JA 5 S (WD (RU T) r nofun rfl (YB (bA 4) (bA 1)))) (lA (fB (WM.tm (mE (KA kK (bA 5) mF) (mE (KA (lK r.units) (kA (bA 5) cA) (kA (bA 3) cA)) (CG (KA (lK r.units) (kA (bA 5) cA) (AI (bA 3) (dD cA) (dD (QC cA)))))))) (qA (AA rD)) iB) (qA (AA (WD (Bj T e f) r nofun rfl (iG (kA (bA 5) cA) (AF (bA 1) (dD cA) rE) (bA 2) (kA (bA 3) (QC cA))))))))))))
theorem AW:∀n:Nat,jC P w K a b (6+2*n) 4 "shows" (RH n)
 | 0=>gP (LG (ps:=Dn YJ 4) T.X T.G T.Q2 fun q q q q q q=>GH (fun q q q q=>rfl))
 | n+1=>Bq T (Ms _ _) (AW n)
def yq:jC P w K a b 31 3 "follows" cO:=cT T T.Q4 fun S r=>qA (AA (LA (AW T 12) r (iG (LA (aV T) r (YB (bA 0) (bA 1))) (LA (bV T) r (wD (bA 1))) (LA (EU T) r (wD (bA 1))) (bA 2))))
def Nj:lQ P w K a b 1 3 "Search" YK:=
 by unfold YK;exact Zt (k:=0) (body:=IQ) (Cy (ps:=Dn ZK 3) T.X T.G T.q0 T.Q5 fun q q q q q q=>hJ (fun q q q=>rfl)) tU rfl rfl fun q q q q q q q r=>have S:=Za.nd tU;lA (rP (qH T.q0 T.q1) (bA 0) (bA 1)) (lA (rP (qH T.q0 T.q2) (bA 0) (bA 2)) (qA (rP (qH T.q0 T.q3) (bA 0) cA)))
def u9:jC P w K a b 1 1 "stretches_at" SN:=cT T T.Q8 fun S r=>qA (AA (OE (Av (c:=2) rfl (zN T T.Qx) cA (zC rfl (zN T T.Qt) (bA 0)) cA) (QF 0) (tD) (VA (YB (kA (bA 1) (bA 0)) (kA (bA 1) (uA fD (bA 0) cA))))))
def O8 {R:rB} {k:Nat} (f:5<=k) (e:AH P w K a b k 4 "Search" "look" R):AH P w K a b (k+1) 4 "Search" "look_at_branches" (KH R):=
 by unfold KH;exact AY (k:=k) (body:=TK R) (YR (ps:=Dn WK 4) T.q0 T.Q7 fun q q q q q q=>GH (fun q q q q=>rfl)) sU rfl rfl fun q q q q q q q r=>have S:=Za.nd sU;lA (JA 4 S (uH iE)) (lA (kD nu rfl (sC (kA (bA 1) cA)) (CD 5 S) (lA (JA 6 S (bS e r nofun (bA 0) (JD (bA 5) (kA (bA 1) cA) (bA 3)))) (lA (fB (KA (MG r.units) (kA (bA 6) cA) sB) (qA (AA (bA 6))) iB) (qA (sE (UF (bA 4) (kA (bA 6) cA))))))) (qA (AA (VA (YB sB (uA rH (uA rH (VA (YB (kA (bA 1) cA) (bA 2))) (kA (bA 1) cA)) (VA (wD (bA 4)))))))))
def W8 {R:rB} {k:Nat} (e:5<=k) (f:AH P w K a b k 4 "Search" "look" R):AH P w K a b (k+2) 4 "Search" "look" (QB 4 9 (sJ R)):=
 AY (k:=k+1) (body:=sJ R) (YR (ps:=Dn EJ 4) T.q0 T.Q6 fun q q q q q q=>GH (fun q q q q=>rfl)) GU rfl rfl fun q q q q q q q r=>have S:=Za.nd GU;lA (JA 4 S (WD (BU T) r nofun rfl (YB (bA 1) (bA 2)))) (lA (JA 5 S (kA (bA 4) cA)) (lA (JA 6 S (kA (bA 4) cA)) (lA (fB (KA kK (bA 5) mF) (qA (AA (VA (YB sB (VA (YB sB (bA 6))))))) iB) (lA (JA 7 S (WD (iz T) r nofun rfl (YB (uA jE cA (zC rfl (zN T T.Qt) (bA 5))) (WD (wV T) r nofun rfl (YB (bA 5) (uM (qH T.q0 T.q1) (bA 0))))))) (lA (fB (KA (OB r.units) (kA (bA 7) cA) sB) (qA (AA (VA (YB sB (VA (JD sB (bA 6) (kA (bA 7) cA))))))) iB) (lA (JA 8 S (WD (RU T) r nofun rfl (YB (bA 5) (bA 3)))) (lA (fB (KA kK (bA 8) mF) (qA (AA (VA (YB sB (WD (u9 T) r nofun rfl (wD (kA (bA 7) cA))))))) iB) (lA (fB (KA R0 (uM (qH T.q0 T.q3) (bA 0)) (uM (qH T.q0 T.q2) (bA 0))) (qA (AA (VA (YB sB mF)))) iB) (lA (rP (qH T.q0 T.q3) (bA 0) (uA fD (uM (qH T.q0 T.q3) (bA 0)) cA)) (qA (AA (bS (O8 T e f) r nofun (bA 0) (JD (bA 8) (bA 6) (AF (bA 3) (dD cA) rE))))))))))))))
theorem CU:∀n:Nat,AH P w K a b (5+2*n) 4 "Search" "look" (kF n)
 | 0=>Ar (YR (ps:=Dn EJ 4) T.q0 T.Q6 fun q q q q q q=>GH (fun q q q q=>rfl))
 | n+1=>W8 T (Ms _ _) (CU n)
def Ej {dds:Oo Dt} (D:jQ K a "planned" BI (Dn BI 3) dds):dN P w K a b 30 3 "planned" yI dds:=
 by unfold yI;exact Nr (k:=29) (body:=pR) D QV rfl rfl fun q q q q q q q r=>have S:=Za.nd QV;lA (JA 3 S (Gf (Nj T) r (by decide) rfl (YB (LA (EU T) r (wD (bA 1))) (bA 2)))) (lA (JA 4 S (bS (CU T 12) r (by decide) (bA 3) (JD (LA (aV T) r (YB (bA 0) (bA 1))) (LA (aO T) r (wD (bA 0))) (LA (bV T) r (wD (bA 1)))))) (qA (AA (VA (JD (kA (bA 4) cA) (kA (bA 4) cA) (uM (qH T.q0 T.q3) (bA 3)))))))
def x9:dN P w K a b 30 3 "planned" yI []:=Ej T (Wr (ps:=Dn BI 3) T.X T.G T.Q9 fun q q q q q q q q q q q=>hJ fun q q q f e=>BindsTo.of_defaults rfl f e rfl rfl)
def lL:jC P w K a b 1 2 "_law_cell" pE:=cT T T.Qa fun S r=>lA (fB (KA YH (bA 1) (zC rfl (zN T T.Qt) (bA 0))) (qA (AA (kA (bA 0) (bA 1)))) iB) (qA (AA cA))
def XN:jC P w K a b 1 3 "_law_mix" MH:=cT T T.Qb fun S r=>qA (AA (uA uC (uA jE (uA fD (uA uC (bA 0) cA) cA) (bA 1)) (bA 2)))
def aj:jC P w K a b 1 1 "_law_mask" zJ:=cT T T.Qc fun S r=>lA (JA 1 S (uA uC (bA 0) cA)) (lA (JA 2 S (uA uC (uA bE (bA 0) cA) cA)) (lA (JA 3 S (uA uC (uA bE (bA 0) cA) cA)) (lA (fB (KA (OB r.units) (bA 3) cA) (qA (AA (uA mK cA (uA uC (bA 1) cA)))) iB) (lA (fB (KA (OB r.units) (bA 3) cA) (qA (AA (uA dZ (uA mK cA (uA uC (bA 1) cA)) (uA mK cA (uA uC (bA 2) cA))))) iB) (lA (fB (KA (OB r.units) (bA 3) cA) (qA (AA (uA QH (bA 1) (bA 2)))) iB) (qA (AA (bA 1))))))))
def ZU:jC P w K a b 2 2 "_law_ways" uI:=cT T T.Qd fun S r=>lA (JA 2 S (LA (XN T) r (JD (bA 0) cA cA))) (lA (JA 3 S (uA uC (bA 2) (bA 1))) (lA (JA 4 S (uA uC (uA fD (uA fD (bA 3) cA) (uA uC (uA bE (bA 2) cA) (uA vH (bA 1) cA))) (bA 1))) (qA (AA (VA (iG sB (bA 3) (LA (aj T) r (wD (LA (XN T) r (JD (bA 0) cA cA)))) (bA 4)))))))
def E9:jC P w K a b 3 2 "_law_facts" DJ:=cT T T.Qe fun S r=>lA (JA 2 S (uH iE)) (lA (JA 3 S cA) (lA (JA 4 S (AF (bA 0) (dD cA) (dD cA))) (lA (fB (KA XM (uA uC (LA (lL T) r (YB (bA 0) cA)) cA) cA) (qA (JA 4 S (AF (bA 0) (dD cA) (dD (uA fD cA (uA uC (LA (lL T) r (YB (bA 0) cA)) cA)))))) iB) (lA (kD nu rfl (sC (bA 4)) (CD 5 S) (lA (JA 6 S (LA (XN T) r (JD (bA 5) cA cA))) (qA (fB (WM.tm (qM (KA (OB r.units) (uA uC (bA 6) cA) cA) (kM (KA YH (bA 3) cA)))) (lA (JA 3 S (uA fD (bA 3) cA)) (qA (sE (UF (bA 2) (VA (YB sB (xR (yF rfl (zN T T.Qx) (uA fD cA (uA uC (uA bE (bA 6) cA) cA))) (QF 0) (tD) (LA (ZU T) r (YB (uA fD (bA 2) (uA jE (uA jE cA (bA 0)) (bA 0))) (bA 1)))))))))) (qA (fB (KA (OB r.units) (uA uC (bA 6) cA) cA) (lA (JA 7 S (uA uC (uA bE (bA 6) cA) cA)) (qA (sE (UF (bA 2) (VA (iG sB (uA uC (uA bE (bA 6) cA) (bA 1)) (bA 7) (uA fD (bA 7) (uA uC (uA bE (bA 6) cA) cA)))))))) (qA (sE (UF (bA 2) (LA (ZU T) r (YB (bA 5) (bA 1)))))))))))) (qA (AA (bA 2)))))))
def b9 {R:rB} {k:Nat} (f:0<=k) (e:jC P w K a b k 2 "_law_is_tree" R):jC P w K a b (k+1) 2 "_law_is_tree" (QB 2 2 (qL R)):=
 bK (k:=k) (body:=qL R) (LG (ps:=Dn xJ 2) T.X T.G T.Qf fun q q q q q q=>cH (fun q q=>rfl)) LU rfl rfl fun q q q q q q q r=>have S:=Za.nd LU;lA (fB (WM.tm (mE (HF (lE (fK rfl (zN T T.Qs) rfl (zN T T.U0) PyProof.Rows.boot_tuple (by decide) (bA 0)))) (mE (KA YH (zC rfl (zN T T.Qt) (bA 0)) cA) (mE (HF (lE (fK rfl (zN T T.Qs) rfl (zN T T.Qu) PyProof.Rows.boot_list (by decide) (kA (bA 0) cA)))) (CG (KA (OB r.units) (bA 1) cA)))))) (qA (AA rD)) iB) (lA (fB (KA (OB r.units) (kA (bA 0) cA) sB) (qA (AA (tH (OB r.units) (zC rfl (zN T T.Qt) (bA 0)) cA))) iB) (lA (fB (KA (OB r.units) (kA (bA 0) cA) sB) (qA (AA (uP (tH (OB r.units) (zC rfl (zN T T.Qt) (bA 0)) cA) (GS (fK rfl (zN T T.Qs) rfl (zN T T.Qu) PyProof.Rows.boot_list (by decide) (kA (bA 0) cA)))))) iB) (lA (fB (WM.tm (mE (KA DX (kA (bA 0) cA) (VA (YB sB sB))) (CG (KA (MG r.units) (zC rfl (zN T T.Qt) (bA 0)) (uA fD cA (uA jE cA (Ef rfl (zN T T.Qr) (tH (OB r.units) (kA (bA 0) cA) sB)))))))) (qA (AA rD)) iB) (lA (fB (WM.tm (mE (HF (lE (fK rfl (zN T T.Qs) rfl (zN T T.Qu) PyProof.Rows.boot_list (by decide) (kA (bA 0) (QC cA))))) (CG (KA (OB r.units) (zC rfl (zN T T.Qt) (kA (bA 0) (QC cA))) cA)))) (qA (AA rD)) iB) (qA (AA (FS rfl rfl (zN T T.Qn) (OE (sC (kA (bA 0) (QC cA))) (QF 0) (tD) (WD e r nofun rfl (YB (bA 0) (uA vH (bA 1) cA)))))))))))
theorem yU:∀n:Nat,jC P w K a b (0+n) 2 "_law_is_tree" (lH n)
 | 0=>gP (LG (ps:=Dn xJ 2) T.X T.G T.Qf fun q q q q q q=>cH (fun q q=>rfl))
 | n+1=>b9 T (Ms _ _) (yU n)
def P8:jC P w K a b 1 2 "_law_spoilt_here" cL:=cT T T.Qg fun S r=>lA (JA 2 S (kA (bA 0) cA)) (lA (JA 3 S (kA (bA 0) cA)) (lA (JA 4 S (uA uC (bA 1) cA)) (lA (fB (WM.tm (mE (KA (OB r.units) (bA 4) cA) (CG (WM.tm (qM (KA (OB r.units) (bA 4) cA) (kM (KA (OB r.units) (zC rfl (zN T T.Qt) (bA 3)) cA))))))) (lA (JA 5 S (VA (JD cA cA cA))) (lA (fB (KA XM (zC rfl (zN T T.Qt) (bA 3)) cA) (qA (JA 5 S (kA (bA 3) (QC cA)))) iB) (qA (AA (uA rH (VA (YB (bA 2) (uA VH (bA 3) (uD (wD (bA 5)))))) (AI (bA 0) (dD cA) rE)))))) iB) (lA (fB (KA (OB r.units) (bA 4) cA) (qA (AA (uA rH (VA (YB (bA 2) (AF (bA 3) rE (dD (QC cA))))) (AI (bA 0) (dD cA) rE)))) iB) (lA (fB (KA (OB r.units) (bA 4) cA) (lA (JA 6 S (kA (uD (JG (VA (JD (QC cA) cA cA)) (JG (VA (JD cA (QC cA) cA)) (iG (VA (JD cA cA cA)) (VA (JD cA cA cA)) (VA (JD cA cA (uA eZ cA cA))) (VA (JD cA cA cA)))))) (uA uC (uA bE (bA 1) cA) cA))) (qA (AA (uA rH (VA (YB (bA 2) (uA VH (uD (wD (bA 6))) (bA 3)))) (AI (bA 0) (dD cA) rE))))) iB) (lA (fB (KA (OB r.units) (bA 2) sB) (qA (AA (kA (uD (JD (VA (JD sB (bA 3) (uD (JD cA cA cA)))) (VA (JD sB (bA 3) (uD iE))) (VA (JG sB (iG (bA 3) cA cA (uD iE)))))) (uA uC (uA bE (bA 1) cA) cA)))) iB) (lA (fB (KA (OB r.units) (bA 2) sB) (lA (JA 7 S (kA (bA 0) cA)) (lA (JA 6 S (uA VH (uA VH (AF (bA 7) rE (dD cA)) (uD (wD (kA (uD (JD (QC cA) cA (uA eZ cA cA))) (uA uC (uA bE (bA 1) cA) cA))))) (AF (bA 7) (dD cA) rE))) (qA (AA (kA (uD (iG (VA (YB sB (bA 3))) (VA (JD (bA 2) (bA 3) (AF (bA 7) rE (dD (QC cA))))) (VA (JD (bA 2) (bA 3) (bA 6))) (VA (JD (bA 2) (bA 3) (uA VH (bA 7) (AF (bA 7) (dD cA) rE)))))) (uA uC (uA bE (bA 1) cA) cA)))))) iB) (lA (JA 8 S (kA (bA 0) (QC cA))) (lA (fB (KA (OB r.units) (bA 4) cA) (qA (AA (uA rH (AI (bA 0) rE (dD (QC cA))) (VA (wD (kA (uD (YB (AF (bA 8) rE (dD (QC cA))) (uA VH (bA 8) (AF (bA 8) rE (dD cA))))) (uA uC (uA bE (bA 1) cA) cA))))))) iB) (lA (fB (KA (OB r.units) (bA 2) sB) (qA (AA (VA (JG sB (iG (bA 3) cA cA (bA 8)))))) iB) (qA (AA (kA (uD (YB (VA (JG (bA 2) (iG (bA 3) (kA (bA 0) cA) (kA (bA 0) cA) (bA 8)))) (VA (JD sB (bA 3) (bA 8))))) (uA uC (uA bE (bA 1) cA) cA))))))))))))))
def Z8 {R:rB} {k:Nat} (f:1<=k) (e:jC P w K a b k 2 "_law_spoilt" R):jC P w K a b (k+1) 2 "_law_spoilt" (QB 2 4 (MN R)):=
 bK (k:=k) (body:=MN R) (LG (ps:=Dn FJ 2) T.X T.G T.Qh fun q q q q q q=>cH (fun q q=>rfl)) HU rfl rfl fun q q q q q q q r=>have S:=Za.nd HU;lA (fB (WM.tm (qM (KA S0 (kA (bA 0) cA) (VA (YB sB sB))) (kM (KA (OB r.units) (uA uC (bA 1) cA) cA)))) (lA (JA 2 S (xL rfl (zN T T.Qu) (kA (bA 0) (QC cA)))) (lA (JA 3 S (uA uC (uA bE (bA 1) cA) (zC rfl (zN T T.Qt) (bA 2)))) (lA (ML (WD e r nofun rfl (YB (kA (bA 2) (bA 3)) (uA bE (uA bE (bA 1) cA) (zC rfl (zN T T.Qt) (bA 2))))) (bA 2) (bA 3)) (qA (AA (uA rH (AI (bA 0) rE (dD (QC cA))) (VA (wD (bA 2))))))))) iB) (qA (AA (WD (P8 T) r nofun rfl (YB (bA 0) (uA bE (bA 1) cA)))))
theorem JU:∀n:Nat,jC P w K a b (1+n) 2 "_law_spoilt" (nH n)
 | 0=>gP (LG (ps:=Dn FJ 2) T.X T.G T.Qh fun q q q q q q=>cH (fun q q=>rfl))
 | n+1=>Z8 T (Ms _ _) (JU n)
def T8 {R:rB} {k:Nat} (f:0<=k) (e:jC P w K a b k 1 "_law_other_way" R):jC P w K a b (k+1) 1 "_law_other_way" (QB 1 2 (aL R)):=
 bK (k:=k) (body:=aL R) (LG (ps:=Dn yJ 1) T.X T.G T.Qi fun q q q q q q=>len1 (fun q=>rfl)) DU rfl rfl fun q q q q q q q r=>have S:=Za.nd DU;lA (sL 1 S (sC (kA (bA 0) cA)) (Ug 0 1 2 rfl (ndB (by kernel_rfl))) (tD) (VA (JD (bA 2) (bA 1) (bA 0)))) (lA (fB (KA (OB r.units) (kA (bA 0) cA) sB) (qA (AA (VA (YB sB (bA 1))))) iB) (lA (fB (KA (OB r.units) (kA (bA 0) cA) sB) (qA (AA (VA (JD sB (bA 1) (uA VH (AF (kA (bA 0) cA) (dD cA) rE) (uD (wD (kA (kA (bA 0) cA) cA)))))))) iB) (qA (AA (uA rH (uA rH (VA (YB (kA (bA 0) cA) (bA 1))) (AI (bA 0) (dD cA) (dD (QC cA)))) (VA (wD (OE (sC (kA (bA 0) (QC cA))) (QF 0) (tD) (WD e r nofun rfl (wD (bA 0)))))))))))
theorem vU:∀n:Nat,jC P w K a b (0+n) 1 "_law_other_way" (NE n)
 | 0=>gP (LG (ps:=Dn yJ 1) T.X T.G T.Qi fun q q q q q q=>len1 (fun q=>rfl))
 | n+1=>T8 T (Ms _ _) (vU n)
def S8:jC P w K a b 1 2 "_law_split_too" bL:=cT T T.Qj fun S r=>lA (JA 2 S cA) (lA (kD nu rfl (sC (bA 0)) (CD 3 S) (qA (kD nu rfl (yF rfl (zN T T.Qx) cA) (CD 4 S) (qA (fB (KA (OB r.units) (kA (bA 3) cA) sB) (qA (JA 2 S cA)) (qA (fB (WM.tm (qM (KA (OB r.units) (kA (bA 3) cA) sB) (kM (KA (OB r.units) (uA QH (uA MS (kA (bA 3) cA) (kA (uD (YB (bA 4) (uA vH cA (bA 4)))) (kA (bA 3) cA))) cA) cA)))) (qA (JA 2 S (uA QH (bA 2) (uA vH cA (uA mK cA (bA 4)))))) iB))))))) (lA (sL 5 S (yF rfl (zN T T.Qx) cA) (QF 0) (iP (KA (OB r.units) (uA QH (uA MS (bA 1) (bA 0)) cA) cA)) (bA 0)) (lA (fB (WM.tm (mE (KA (MG r.units) (kA (bA 1) cA) sB) (CG (KA YH (zC rfl (zN T T.Qt) (bA 5)) cA)))) (qA (AA (bA 1))) iB) (qA (AA (VA (JG sB (iG (uD iE) cA cA (OE (sC (bA 5)) (QF 0) (tD) (VA (JD sB (uD iE) (Mg rfl (zN T T.Qu) (kA (bA 1) cA)))))))))))))
def IU:jC P w K a b 1 1 "_law_copied" tJ:=cT T T.Qk fun S r=>qA (AA (xR (sC (bA 0)) (QF 0) (tD) (JP (KA (OB r.units) (kA (bA 0) cA) sB) (VA (YB sB (xL rfl (zN T T.Qu) (kA (bA 0) cA)))) (bA 0))))
def mL:jC P w K a b 32 4 "_law_told" wF:=cT T T.Ql fun S r=>lA (JA 4 S (LA (IU T) r (wD (bA 1)))) (lA (JA 5 S (LA (yq T) r (JD (bA 0) (bA 4) (bA 2)))) (qA (AA (uP (fK rfl (zN T T.Qs) rfl (zN T T.Qp) PyProof.Rows.boot_bool (by decide) (bA 5)) (uP (tH (OB r.units) (bA 5) (bA 3)) (GS (tH (Cm r.units) (bA 4) (bA 1))))))))
def Ul {f:Pb} {e:FuncData} (F:Fun K "law" "law" aQ f e):ai P w K a b lG 33 f e ["_law_script"] (nJ K 1 qK):=by unfold qK;exact Vl (k:=32) (body:=CP) F NZ rfl rfl fun m A outer s H E r=>have S:=Za.nd NZ;by(unfold CP XO;exact lA (JA 1 S (uA fD cA (uA uC (LA (lL T) r (YB (bA 0) cA)) cA))) (lA (fB (KA (OB r.units) (uA uC (uA bE (LA (lL T) r (YB (bA 0) cA)) cA) cA) cA) (qA (JA 1 S cA)) iB) (lA (JA 2 S (LA (E9 T) r (YB (bA 0) (bA 1)))) (lA (JA 3 S (LA (IU T) r (wD (bA 2)))) (lA (JA 4 S (Jg (x9 T) r (by decide) rfl (JD (bA 1) (bA 3) cA))) (lA (fB (WM.tm (mE (HF (lE (fK rfl (zN T T.Qs) rfl (zN T T.U0) PyProof.Rows.boot_tuple (by decide) (bA 4)))) (mE (KA (MG r.units) (zC rfl (zN T T.Qt) (bA 4)) cA) (CG (KA (Dm r.units) (bA 3) (bA 2)))))) (qA (AA rD)) iB) (lA (fB (KA (MG r.units) (kA (bA 4) cA) sB) (qA (AA (LA (mL T) r (iG (bA 1) (bA 2) (VA (YB sB (uD iE))) rD)))) iB) (lA (fB (WM.tm (mE (HF (lE (LA (yU T 14) r (YB (kA (bA 4) cA) cA)))) (CG (HF (lE (LA (mL T) r (iG (bA 1) (bA 2) (kA (bA 4) cA) rD))))))) (qA (AA rD)) iB) (lA (fB (HF (lE (LA (mL T) r (iG (bA 1) (bA 2) (LA (vU T 14) r (wD (kA (bA 4) cA))) rD)))) (qA (AA rD)) iB) (lA (fB (WM.tm (qM (KA (OB r.units) (bA 1) cA) (kM (HF (lE (LA (mL T) r (iG (bA 1) (bA 2) (LA (S8 T) r (YB (bA 2) (kA (bA 4) cA))) rD))))))) (qA (AA rD)) iB) (lA (kD nu rfl (yF rfl (zN T T.Qx) cA) (CD 5 S) (lA (JA 6 S (LA (XN T) r (JD (uA fD (LA (lL T) r (YB (bA 0) cA)) (uA jE (uA jE cA (bA 5)) (bA 5))) cA cA))) (qA (fB (HF (lE (LA (mL T) r (iG (bA 1) (bA 2) (LA (JU T 14) r (YB (kA (bA 4) cA) (bA 6))) rD)))) (qA (AA rD)) iB)))) (qA (AA rD)))))))))))))
end
end G
namespace BF
noncomputable def put{α:Type}(f:Nat->α)(i:Nat)(a:α):Nat->α:=fun j=>if j=i then a else f j
def tG(f:Nat->b)(i)(a):put f i a i=a:=eG rfl
def WE(f:Nat->b)(a)(h:j≠i):put f i a j=f j:=eH h
noncomputable abbrev Bd:=Nat×Nat×Int
structure ZG where
 t:Nat->Int
 c:Nat->Option Nat
 l:Option Nat
def step(s:ZG)(e:Bd):ZG:=if s.t e.1>s.t e.2.1+e.2.2 then⟨put s.t e.1 (s.t e.2.1+e.2.2),put s.c e.1 (ε e.2.1),ε e.1⟩else s
def turn(E:Oo Bd)(s:ZG):ZG:=E.foldl step ⟨s.t,s.c,none⟩
def BH(t:Nat->Int)(e:Bd):Prop:=t e.1<=t e.2.1+e.2.2
structure NT(n:Nat)(E:List Bd):Prop where
 lt:∀e∈E,e.1<n/\e.2.1<n/\e.1≠e.2.1
 un:∀e∈E,∀e'∈E,e.1=e'.1->e.2.1=e'.2.1->e.2.2=e'.2.2
def X2(w:Nat->Nat->Int)(c:Nat->O4 Nat):Prop:=
 ∀C:Oo Nat,C ≠ []->C.Nodup->(C.map c).Perm (C.map some)->(C.map fun x=>w x ((c x).getD 0)).sum<0
structure Ok(n:Nat)(E:List Bd)(w:Nat->Nat->Int)(r:Nat)(D:List Bd)(u:Nat->Nat)(s:ZG):Prop where
 cau:∀x y,s.c x=ε y->(x,y,w x y)∈E/\s.t y+w x y<=s.t x/\1<=u x/\u x<=u y+1
 top:∀x,u x<=r+1
 has:∀x,1<=u x->∃y,s.c x=ε y
 old:∀e∈E,r<=u e.2.1\/BH s.t e
 new:∀e∈D,r+1<=u e.2.1\/BH s.t e
 neg:X2 w s.c
 lst:∀x,s.l=ε x->u x=r+1
theorem oK{f g:Nat->Int}:∀(D:Oo Nat),(∀x∈D,f x<=g x)->(D.map f).sum<=(D.map g).sum
 | [],_=>Int.le_refl _
 | x::D,h=>by
  simp![Uu,sum_cons];have d:=h x vo;have b:=oK D fun y a=>h y (rz _ a)
  omega
theorem SY{f g:Nat->Int}:∀(D:Oo Nat),(D.map fun x=>f x-g x).sum=(D.map f).sum-(D.map g).sum
 | []=>rfl
 | x::D=>by simp![Uu,sum_cons];have:=SY (f:=f) (g:=g) D;omega
def mX{l l':Oo Int}(h:l.Perm l'):l.sum=l'.sum:=by
 induction h with
 | nil=>rfl
 | cons x _ ih=>simp![sum_cons,ih]
 | swap x y l=>simp![sum_cons];omega
 | trans _ _ b a=>exact b.trans a
def map_none{C:Oo Nat}(h:(C.map c).Perm (C.map some)):∀x∈C,∃y,c x=ε y:=by intro x a;have:c x∈C.map some:=h.subset (mem_map_of_mem a);obtain⟨y,_,e⟩:=Ce.mp this;exact⟨y,e.symm⟩
def yL{a b:Type}{f g:a->b}{C:Oo a}(h:∀x∈C,f x=g x):C.map f=C.map g:=map_congr_left h
def Hr{t:Nat->Int}(u:X2 w c)(B:∀x y,c x=ε y->t y+w x y<=t x)(I:t p>t q+w p q):X2 w (put c p (ε q)):=by
 intro C H hd hp;by_cases b:p∈C
 . obtain⟨d,D2,rfl⟩:=append_of_mem b;have h:(d++p::D2).Perm (p::(d++D2)):=perm_middle;have nd:(p::(d++D2)).Nodup:=h.nodup_iff.mp hd;have j:p∉d++D2:=(Mu.mp nd).1;generalize d++D2=D at h j;have m:D.map (put c p (ε q))=D.map c:=yL fun x a=>WE c _ (fun z=>j (z ▸ a))
   have k:((p::D).map (put c p (ε q))).Perm ((p::D).map some):=((h.map _).symm.trans hp).trans (h.map _);rw[Uu,tG,m]at k;have i:∀x∈D,∃y,c x=ε y:=fun x a=>by have:c x∈(p::D).map some:=k.subset (rz _ (mem_map_of_mem a));obtain⟨y,_,e⟩:=Ce.mp this;exact⟨y,e.symm⟩
   have n:=mX (k.map fun o=>t (o.getD 0));simp![Uu,map_map,sum_cons,Function.comp_def,Option.getD_some]at n
   change t q+_=t p+(D.map t).sum at n
   have F:((d++p::D2).map fun x=>w x ((put c p (ε q) x).getD 0)).sum=w p q+(D.map fun x=>w x ((c x).getD 0)).sum:=by
    have:=mX (h.map fun x=>w x ((put c p (ε q) x).getD 0));rw[this,Uu,sum_cons,tG]
    congr 1
    rw[yL (f:=fun x=>w x ((put c p (ε q) x).getD 0)) (g:=fun x=>w x ((c x).getD 0)) fun x a=>by rw[WE c _ (fun z:x=p=>j (z ▸ a))]]
   have E:(D.map fun x=>w x ((c x).getD 0)).sum<=(D.map fun x=>t x-t ((c x).getD 0)).sum:=oK D fun x a=>by obtain⟨y,r⟩:=i x a;have:=B x y r;rw[r];simp![Option.getD_some];omega
   rw[SY]at E;rw[F];omega
 . have m:C.map (put c p (ε q))=C.map c:=yL fun x a=>WE c _ (fun z=>b (z ▸ a))
   rw[m]at hp;have:=u C H hd hp;rw[yL (f:=fun x=>w x ((put c p (ε q) x).getD 0)) (g:=fun x=>w x ((c x).getD 0)) fun x a=>by rw[WE c _ (fun z:x=p=>b (z ▸ a))]];exact this
def Uh(T:NT n E)(hw:∀e∈E,w e.1 e.2.1=e.2.2)(I:Ok n E w r D u s)(he:e∈E) :
 ∃o,Ok n E w r (e::D) o (step s e):=by
 obtain⟨p,q,m⟩:=e;obtain⟨_,_,f⟩:=T.lt _ he;have j:w p q=m:=hw _ he;have b:q≠p:=fun z=>f z.symm
 by_cases g:s.t p>s.t q+m
 . have i:step s (p,q,m)=⟨put s.t p (s.t q+m),put s.c p (ε q),ε p⟩:=eG g;rw[i];have M:r<=u q:=by
    rcases I.old _ he with z | z
    . exact z
    . exact Es z (by simp![BH];omega)
   have up:u p<=r+1:=I.top p;have d:∀x,put s.t p (s.t q+m) x<=s.t x:=fun x=>by
    by_cases a:x=p
    . rw[a,tG];omega
    . rw[WE _ _ a];exact Int.le_refl _
   have grow:∀x,u x<=put u p (r+1) x:=fun x=>by
    by_cases a:x=p
    . rw[a,tG];exact up
    . rw[WE _ _ a];exact Va _
   have keep:∀k,∀e:Bd,k<=r+1->(k<=u e.2.1\/BH s.t e)->(k<=put u p (r+1) e.2.1\/BH (put s.t p (s.t q+m)) e):=fun k e C h=>by
    by_cases a:e.2.1=p
    . exact .inl (by rw[a,tG];exact C)
    . rcases h with h | h
      . exact .inl (uq h (grow _))
      . refine .inr ?_;simp![BH]at h ⊢;rw[WE _ _ a];exact Int.le_trans (d _) h
   refine⟨put u p (r+1),⟨fun x y h=>?_,fun x=>?_,fun x h=>?_,fun e h=>keep r e (Nat.le_succ r) (I.old e h),fun e h=>?_,Hr I.neg (fun x y h=>(I.cau x y h).2.1) (by rw[j];exact g),fun x h=>?_⟩⟩
   . by_cases a:x=p
     . subst a;simp![tG]at h ⊢;cases h;rw[WE _ _ b,WE _ _ b,j];exact⟨he,Int.le_refl _,by omega,by omega⟩
     . simp![WE _ _ a]at h ⊢;obtain⟨L,J,H,F⟩:=I.cau x y h;exact⟨L,Int.le_trans (Int.add_le_add_right (d y) _) J,H,uq F (Nat.add_le_add_right (grow y) 1)⟩
   . by_cases a:x=p
     . rw[a,tG];exact Va _
     . rw[WE _ _ a];exact I.top x
   . by_cases a:x=p
     . subst a;exact⟨q,tG _ _ _⟩
     . rw[WE _ _ a]at h;obtain⟨y,B⟩:=I.has x h;exact⟨y,by simp![WE _ _ a];exact B⟩
   . rcases Bu.mp h with z | z
     . subst z;refine .inr ?_;simp![BH,tG,WE _ _ b];exact Int.le_refl _
     . exact keep (r+1) e (Va _) (I.new e z)
   . cases h;exact tG _ _ _
 . have i:step s (p,q,m)=s:=eH g;rw[i];refine⟨u,⟨I.cau,I.top,I.has,I.old,fun e h=>?_,I.neg,I.lst⟩⟩;rcases Bu.mp h with z | z
   . subst z;exact .inr (by simp![BH];omega)
   . exact I.new e z
theorem uS(T:NT n E)(hw:∀e∈E,w e.1 e.2.1=e.2.2):∀(L D:Oo Bd)(u:Nat->Nat)(s:ZG),(∀e∈L,e∈E)->Ok n E w r D u s->∃i b,Ok n E w r b i (L.foldl step s)/\(∀e∈L,e∈b)/\∀e∈D,e∈b
 | [],D,u,s,_,I=>⟨u,D,I,(fun q h=>nomatch h),fun q h=>h⟩
 | e::L,D,u,s,hs,I=>by
  obtain⟨g,m⟩:=Uh T hw I (hs e vo);obtain⟨f,o,k,j,d⟩:=uS T hw L (e::D) g (step s e) (fun x a=>hs x (rz _ a)) m;refine⟨f,o,k,fun x a=>?_,fun x a=>d x (rz _ a)⟩;rcases Bu.mp a with z | z
  . rw[z];exact d e vo
  . exact j x z
def eF(E:Oo Bd):Nat->ZG->ZG
 | 0,s=>s
 | r+1,s=>turn E (eF E r s)
noncomputable def s0:ZG:=⟨fun _=>0,fun _=>none,none⟩
theorem BX(T:NT n E)(hw:∀e∈E,w e.1 e.2.1=e.2.2):∀r,∃u D,Ok n E w r D u (eF E (r+1) s0)/\∀e∈E,e∈D
 | 0=>by
  have I:Ok n E w 0 [] (fun q=>0) ⟨s0.t,s0.c,none⟩:=by
   refine⟨fun x y h=>(by cases h),fun x=>nW _,fun x h=>nofun,fun e h=>.inl (nW _),(fun e h=>nomatch h),fun C f hd hp=>?_,fun x h=>(by cases h)⟩;cases C with
   | nil=>exact Es rfl f
   | cons x C=>obtain⟨y,e⟩:=map_none hp x vo;cases e
  obtain⟨u,D,j,a,_⟩:=uS T hw E [] _ _ (fun q h=>h) I;exact⟨u,D,j,a⟩
 | r+1=>by
  obtain⟨u,D,I,d⟩:=BX T hw r;have i:Ok n E w (r+1) [] u ⟨(eF E (r+1) s0).t,(eF E (r+1) s0).c,none⟩:=
   ⟨I.cau,fun x=>Nat.le_succ_of_le (I.top x),I.has,fun e h=>I.new e (d e h),(fun e h=>nomatch h),I.neg,fun x h=>(by cases h)⟩
  obtain⟨b,k,g,a,_⟩:=uS T hw E [] _ _ (fun q h=>h) i;exact⟨b,k,g,a⟩
theorem SW:∀(L:Oo Bd)(s:ZG),(L.foldl step s).l=none->s.l=none/\L.foldl step s=s/\∀e∈L,BH s.t e
 | [],s,h=>⟨h,rfl,(fun q h=>nomatch h)⟩
 | e::L,s,h=>by
  obtain⟨a,g,f⟩:=SW L (step s e) h;by_cases d:s.t e.1>s.t e.2.1+e.2.2
  . have b:step s e=⟨put s.t e.1 (s.t e.2.1+e.2.2),put s.c e.1 (ε e.2.1),ε e.1⟩:=eG d;rw[b]at a;cases a
  . have b:step s e=s:=eH d;rw[b]at a g f;refine⟨a,by rw[foldl_cons,b];exact g,fun x i=>?_⟩;rcases Bu.mp i with z | z
    . subst z;simp![BH];omega
    . exact f x z
noncomputable def XA(f:Nat->Nat):Nat->Nat->Nat
 | 0,x=>x
 | k+1,x=>f (XA f k x)
theorem zG(f)(x)(b):∀a,XA f (a+b) x=XA f a (XA f b x)
 | 0=>by rw[Ao];rfl
 | a+1=>by rw[Nat.add_right_comm];show f (XA f (a+b) x)=f (XA f a (XA f b x));rw[zG f x b a]
theorem pig:∀(n:Nat)(g:Nat->Nat),(∀k,k<=n->g k<n)->∃i j,i<j/\j<=n/\g i=g j
 | 0,g,h=>Es (h 0 (Va _)) (Nat.not_lt_zero _)
 | n+1,g,h=>by
  by_cases f:∃k,k<=n/\g k=g (n+1)
  . obtain⟨k,d,a⟩:=f;exact⟨k,n+1,by omega,Va _,a⟩
  . have ne:∀k,k<=n->g k≠g (n+1):=fun k b e=>f ⟨k,b,e⟩
    have p:=h (n+1) (Va _);obtain⟨i,j,d,a,o⟩:=pig n (fun k=>if g k>g (n+1)then g k-1 else g k) fun k b=>by have d:=h k nofun;have a:=ne k b;show(if g k>g (n+1)then g k-1 else g k)<n;split<;>omega
    refine⟨i,j,d,by omega,?_⟩;have r:=ne i nofun;have q:=ne j a;have m:(if g i>g (n+1)then g i-1 else g i)=(if g j>g (n+1)then g j-1 else g j):=o;split at m<;>split at m<;>omega
def Hv{Q:Nat->Prop}:∀d,1<=d->Q d->∃k,1<=k/\k<=d/\Q k/\∀i,1<=i->i<k->¬Q i:=by
 intro d
 induction d using Nat.strongRecOn with
 | ind d ih=>
  intro m j;by_cases e:∃i,1<=i/\i<d/\Q i
  . obtain⟨i,a,b,c⟩:=e;obtain⟨k,h,n,g,f⟩:=ih i b a c;exact⟨k,h,by omega,g,f⟩
  . exact⟨d,m,Va _,j,fun i a b c=>e ⟨i,a,b,c⟩⟩
noncomputable def nxt(c:Nat->O4 Nat)(x:Nat):Nat:=(c x).getD 0
structure rF(n:Nat)(E:List Bd)(w:Nat->Nat->Int)(c:Nat->Option Nat)(P k:Nat):Prop where
 pos:1<=k
 le:k<=n
 back:XA (nxt c) k P=P
 first:∀i,1<=i->i<k->XA (nxt c) i P≠P
 edge:∀i,i<=k->(XA (nxt c) i P,XA (nxt c) (i+1) P,w (XA (nxt c) i P) (XA (nxt c) (i+1) P))∈E/\c (XA (nxt c) i P)=ε (XA (nxt c) (i+1) P)
 sum:((List.range k).map fun i=>w (XA (nxt c) i P) (XA (nxt c) (i+1) P)).sum<0
def apart(g:XA f k P=P)(d:∀i,1<=i->i<k->XA f i P≠P)(b:i<j)(a:j<=k)(m:i=0->j<k):XA f i P≠XA f j P:=by
 intro e;have e2:XA f ((k-j)+i) P=XA f ((k-j)+j) P:=by rw[zG,zG,e]
 rw[Nat.sub_add_cancel a,g]at e2;refine d (k-j+i) ?_ ?_ e2
 . by_cases h:i=0
   . have:=m h;omega
   . omega
 . omega
def K9{e:Type}{g:Nat->e}(k)(h:∀i j,i<j->j<k->g i≠g j):((List.range k).map g).Nodup:=by rw[nodup_iff_pairwise_ne,pairwise_map];refine List.Pairwise.imp_of_mem ?_ (pairwise_lt_range (n:=k));intro a b m f d;exact h a b d (Ci.mp f)
def Zb(T:NT n E)(I:Ok n E w n D u s)(S:s.l=ε x):∃k,rF n E w s.c (XA (nxt s.c) n x) k/\
 ∀i,i<=n->s.c (XA (nxt s.c) i x)=ε (XA (nxt s.c) (i+1) x)/\XA (nxt s.c) i x<n:=by
 have ux:=I.lst x S;have o:∀y,1<=u y->s.c y=ε (nxt s.c y):=fun y R=>by obtain⟨z,e⟩:=I.has y R;unfold nxt;rw[e];rfl
 have ch:∀i,i<=n->n+1<=u (XA (nxt s.c) i x)+i:=by
  intro i
  induction i with
  | zero=>intro _;show n+1<=u x+0;omega
  | succ i ih=>intro f;have h1:=ih nofun;have Y:=o (XA (nxt s.c) i x) nofun;have h3:=(I.cau _ _ Y).2.2.2;show n+1<=u (nxt s.c (XA (nxt s.c) i x))+(i+1);omega
 have r:∀i,i<=n->s.c (XA (nxt s.c) i x)=ε (XA (nxt s.c) (i+1) x):=fun i f=>o _ (by have:=ch i f;omega)
 have lt:∀i,i<=n->XA (nxt s.c) i x<n:=fun i f=>(T.lt _ (I.cau _ _ (r i f)).1).1
 obtain⟨i,j,U,hj,e⟩:=pig n (fun i=>XA (nxt s.c) i x) lt;have B:XA (nxt s.c) (j-i) (XA (nxt s.c) n x)=XA (nxt s.c) n x:=by
  rw[<- zG];have L:j-i+n=(n-i)+j:=by omega
  rw[L,zG,<- e,<- zG]
  congr 1
  omega
 obtain⟨k,O,k2,C,M⟩:=Hv (Q:=fun d=>XA (nxt s.c) d (XA (nxt s.c) n x)=XA (nxt s.c) n x) (j-i) nofun B;have p:∀m,XA (nxt s.c) (j+m) x=XA (nxt s.c) (i+m) x:=fun m=>by rw[Nat.add_comm j m,Nat.add_comm i m,zG,zG,e]
 have J:∀m,m<=k->s.c (XA (nxt s.c) m (XA (nxt s.c) n x))=ε (XA (nxt s.c) (m+1) (XA (nxt s.c) n x)):=fun m q=>by
  rw[<- zG,<- zG];by_cases h:m+n<=n
  . have:m=0:=by omega
    subst this;rw[Ao,Nat.add_comm];exact r n (Va _)
  . have L:m+n=j+(m+n-j):=by omega
    have a2:m+1+n=j+(m+n-j+1):=by omega
    rw[L,a2,p,p];exact r _ nofun
 refine⟨k,⟨O,by omega,C,M,fun m q=>⟨(I.cau _ _ (J m q)).1,J m q⟩,?_⟩,fun i f=>⟨r i f,lt i f⟩⟩;generalize XA (nxt s.c) n x=P at *;have F:=I.neg ((List.range k).map fun m=>XA (nxt s.c) m P) (by
  intro z;have:=congrArg List.length z;simp at this;omega) (K9 k fun a b H W=>apart C M H nofun (fun v=>W)) (by
  rw[map_map,map_map];have e1:(List.range k).map (s.c ∘ fun m=>XA (nxt s.c) m P)=(List.range k).map (fun m=>ε (XA (nxt s.c) (m+1) P)):=yL fun m q=>J m (Du (Ci.mp q))
  rw[e1];obtain⟨g,rfl⟩:∃g,k=g+1:=⟨k-1,by omega⟩
  rw[Je,Gu];have e2:(List.range g++[g]).map (some ∘ fun m=>XA (nxt s.c) m P)=ε P::(List.range g).map (fun m=>ε (XA (nxt s.c) (m+1) P)):=by rw[<- Je,Ks,Uu,map_map];rfl
  rw[e2];have e3:[g].map (fun m=>ε (XA (nxt s.c) (m+1) P))=[ε P]:=by rw[Uu,Xi,C]
  rw[e3];exact perm_append_singleton _ _)
 rw[map_map]at F;have Z:(List.range k).map ((fun y=>w y ((s.c y).getD 0)) ∘ fun m=>XA (nxt s.c) m P)=(List.range k).map fun i=>w (XA (nxt s.c) i P) (XA (nxt s.c) (i+1) P):=rfl
 rw[Z]at F;exact F
end BF
namespace SM
section
variable{l:LI}{h:HI}{f g fo fy b fe fa a:RE}
@[simp] def ma:fT l h=ε (.ref h.length,h++[.dt []]):=by rfl
def AQ:Oo Dt×HI->O4 (Dt×HI):=fun r=>if r.1.length<=sizeLine then(IC r.1).map fun d=>(.ntp d,r.2)else none
@[simp] def x8(r:RA):tQ r l h=mB (r l h) AQ:=by rfl
def lg(i j):AQ ([.int i,.int j],h)=ε (.ntp [i,j],h):=by unfold AQ;rw[eG (show([Dt.int i,Dt.int j]:Oo Dt).length<=sizeLine by simp)];rfl
def C3(n:Nat)(k:Oo Int):Dt×HI->O4 (Dt×HI):=fun x=>match x.2[n]? with
 | some (.dt kvs)=>ε ((nE kvs k).getD x.1,x.2)
 | _=>none
def Wf(e:h[n]?=ε (.dt kvs)):C3 n k (d,h)=ε ((nE kvs k).getD d,h):=by simp![C3,e]
def Jb(e:fo l h=ε (.ref n,h))(e2:h[n]?=ε (.dt kvs))(d:fy l h=ε (.ntp k,h)):cK fo fy b l h=mB (b l h) (C3 n k):=by simp![cK,e,e2,d,Wo];rfl
def A7(j:fe l h=ε (d,h))(i:fo l h=ε (.ref n,h))(e2:h[n]?=ε (.dt kvs))(e:fy l h=ε (.ntp k,h))(c:kvs.length<sizeLine) :
 ZP fe fo fy l h=ε (.nx l (h.set n (.dt (dJ kvs k d)))):=by
 simp![ZP,j,i,e2,e,Wo,eG c]
def Dv(d:f l h=ε (.ref n,h))(e2:h[n]?=ε (.dt kvs)):FI f l h=ε (.it n,h.set n (.df kvs)):=by simp![FI,d,e2,Wo]
def Cv(d:f l h=ε (.ref n,h))(e2:h[n]?=ε (.df kvs)):FI f l h=ε (.it n,h):=by simp![FI,d,e2,Wo]
def YS(a:RE)(l:LI):Dt×HI->O4 (Dt×HI):=fun r=>mB (a l r.2) fun q=>(yA q.2 r.1).bind fun d=>(IC d).bind fun ns=>if ns ≠ []then ε (.int (hC ns),q.2)else none
@[simp] def md:iT fa a l h=mB (fa l h) (YS a l):=by rfl
end
def Tt{g:Type}(S:g->LI->HI->Prop)(F:g->Oo Int×Dt->g)(B:∀b l h,S b l h->h[n]?=ε (.df kvs))
 (H:∀x∈kvs,∀b l h,S b l h->∃r,body ((l.set i (ε (.tup (x.1.map Dt.int)))).set j (ε x.2)) h=ε r/\Pass (S (F b x)) r) :
 ∀m k b l h,m=(kvs.length-k)+1->k<=kvs.length->S b l h->∃u h',aC (ED i j) body (.it n) m k l h=ε (.nx u h')/\S ((kvs.drop k).foldl F b) u h':=by
 intro m
 induction m with
 | zero=>intro k b l h y;omega
 | succ m ih=>
  intro k b l h y I s;have e:=B b l h s;by_cases a:k<kvs.length
  . have q:kvs[k]?=ε kvs[k]:=jo a;obtain⟨r,E,p⟩:=H kvs[k] (getElem_mem a) b l h s;have D:(kvs.drop k).foldl F b=(kvs.drop (k+1)).foldl F (F b kvs[k]):=by rw[Ai a,foldl_cons]
    rw[D];have C:aC (ED i j) body (.it n) (m+1) k l h=mB (body ((l.set i (ε (.tup (kvs[k].1.map Dt.int)))).set j (ε kvs[k].2)) h) (ST (aC (ED i j) body (.it n) m (k+1))):=by
     simp![aC,mo.at,e,q,Vu,xS,Wo];cases body ((l.set i (ε (.tup (kvs[k].1.map Dt.int)))).set j (ε kvs[k].2)) h with
     | none=>rfl
     | some r=>cases r<;>rfl
    rw[C,E,fA];cases r with
    | nx o f=>exact ih (k+1) _ o f nofun a p
    | ct o f=>exact ih (k+1) _ o f nofun a p
    | bk o f=>exact p.elim
    | rt d f=>exact p.elim
  . have q:kvs[k]?=none:=lu nofun;refine⟨l,h,by simp![aC,mo.at,e,q,Option.map_none],?_⟩;rw[Oe nofun];exact s
def Mf{a:Type}(S:a->LI->HI->Prop)(F:a->Oo Int×Dt->a)(f:∀b l h,S b l h->h[n]?=ε (.df kvs))
 (H:∀x∈kvs,∀b l h,S b l h->∃r,body ((l.set i (ε (.tup (x.1.map Dt.int)))).set j (ε x.2)) h=ε r/\Pass (S (F b x)) r) (b) (s:S b l h) :
 ∃d h',xD (ED i j) body l (.it n,h)=ε (.nx d h')/\S (kvs.foldl F b) d h':=by
 have e:=f b l h s;have:=Tt (i:=i) (j:=j) S F f H (kvs.length+1) 0 b l h nofun (nW _) s;rw[drop_zero]at this;obtain⟨d,h',k,e2⟩:=this;refine⟨d,h',?_,e2⟩;show aC (ED i j) body (.it n) (mo.fuel (.it n) h) 0 l h=_;have g:mo.fuel (.it n) h=kvs.length+1:=by simp![mo.fuel,e]
 rw[g];exact k
end SM
namespace G
noncomputable def BB(e:Bd):Oo Int×Dt:=([(e.1:Int),(e.2.1:Int)],.int e.2.2)
noncomputable def vA(e:Bd):Dt:=.tup [.int (e.1:Nat),.int (e.2.1:Nat),.int e.2.2]
noncomputable def iD(p q:Nat)(x:Bd):Bool:=decide (x.1=p)&&decide (x.2.1=q)
def EK(E:Oo Bd)(p q:Nat):O4 Int:=(E.find? (iD p q)).map (·.2.2)
def mJ(E:Oo Bd)(p q:Nat)(v:Int):Oo Bd:=if E.any (iD p q)=true then E.map (fun x=>if iD p q x=true then(x.1,x.2.1,v)else x)else E++[(p,q,v)]
def FE(E:Oo Bd)(e:Bd):Oo Bd:=mJ E e.1 e.2.1 (min ((EK E e.1 e.2.1).getD e.2.2) e.2.2)
def IS(p q:Nat)(x):decide ((BB x).1=[(p:Int),(q:Int)])=iD p q x:=by unfold BB iD;by_cases b:x.1=p<;>by_cases a:x.2.1=q<;>simp[b,a]<;>omega
theorem oZ(p q:Nat):∀E,nE (E.map BB) [(p:Int),(q:Int)]=(EK E p q).map Dt.int
 | []=>rfl
 | x::E=>by
  have ih:=oZ p q E;unfold nE EK at ih ⊢;rw[Uu,Ji,Ji,IS];cases iD p q x with
  | true=>rfl
  | false=>exact ih
def Nf(p q:Nat)(E:Oo Bd):((E.map BB).any fun y=>decide (y.1=[(p:Int),(q:Int)]))=E.any (iD p q):=by
 rw[any_map]
 congr 1
 funext x
 exact IS p q x
def Vr(p q:Nat)(v)(E):dJ (E.map BB) [(p:Int),(q:Int)] (.int v)=(mJ E p q v).map BB:=by
 unfold dJ mJ;rw[Nf];split
 . rw[map_map,map_map];refine map_congr_left fun x z=>?_
   have k:=IS p q x;simp![Function.comp_def];cases c:iD p q x with
   | true=>rw[c]at k;rw[eG (of_decide_eq_true k),eG rfl];rfl
   | false=>rw[c]at k;rw[eH (of_decide_eq_false k),eH Xe]
 . rw[Gu];rfl
structure rK(told E:List Bd):Prop where
 mem:∀x∈E,x∈told
 low:∀e∈told,∃x∈E,x.1=e.1/\x.2.1=e.2.1/\x.2.2<=e.2.2
 un:∀x∈E,∀y∈E,x.1=y.1->x.2.1=y.2.1->x.2.2=y.2.2
 len:E.length<=told.length
def eL:iD p q x=true↔x.1=p/\x.2.1=q:=by simp[iD]
def Yd:rK [] []:=⟨fun q h=>h,fun q h=>(nomatch h),fun q h=>(nomatch h),Va _⟩
theorem Vd(I:rK f E)(e):rK (f++[e]) (FE E e):=by
 obtain⟨p,q,m⟩:=e;unfold FE mJ;cases k:EK E p q with
 | none=>
  have u:∀x∈E,iD p q x=false:=by unfold EK at k;simpa using k
  have B:E.any (iD p q)=false:=by rw[any_eq_false];intro x hx;rw[u x hx];exact Xe
  simp![B,Xo,g8,Option.getD_none,Int.min_self];refine⟨fun x hx=>?_,fun n he=>?_,fun x hx y hy d b=>?_,by simp;exact I.len⟩
  . rcases Ca.mp hx with hx | hx
    . exact za _ (I.mem x hx)
    . exact yu _ hx
  . rcases Ca.mp he with he | he
    . obtain⟨x,hx,r⟩:=I.low n he;exact⟨x,za _ hx,r⟩
    . rw[Bs.mp he];exact⟨_,yu _ (Bs.mpr rfl),rfl,rfl,Int.le_refl _⟩
  . rcases Ca.mp hx with hx | hx<;>rcases Ca.mp hy with hy | hy
    . exact I.un x hx y hy d b
    . have:=u x hx;rw[Bs.mp hy]at d b;rw[eL.mpr ⟨d,b⟩]at this;cases this
    . have:=u y hy;rw[Bs.mp hx]at d b;rw[eL.mpr ⟨d.symm,b.symm⟩]at this;cases this
    . rw[Bs.mp hx,Bs.mp hy]
 | some v0=>
  obtain⟨a,O,rfl⟩:∃a,E.find? (iD p q)=ε a/\a.2.2=v0:=by unfold EK at k;simpa using k
  have F:=find?_some O;have j:=Bo O;have B:E.any (iD p q)=true:=any_eq_true.mpr ⟨a,j,F⟩;obtain⟨D,C⟩:=eL.mp F;have o:∀x∈E,iD p q x=true->x.2.2=a.2.2:=fun x hx h=>by obtain⟨d,b⟩:=eL.mp h;exact I.un x hx a j (d.trans D.symm) (b.trans C.symm)
  simp![B,eO,Option.getD_some];have P:((p,q,min a.2.2 m):Bd)∈f++[(p,q,m)]:=by
   by_cases h:a.2.2<=m
   . rw[Int.min_eq_left h];refine za _ ?_;have:=I.mem a j;rw[<- D,<- C];exact this
   . rw[Int.min_eq_right nofun];exact yu _ (Bs.mpr rfl)
  refine⟨fun x hx=>?_,fun n he=>?_,fun x hx y hy d b=>?_,by simp;have:=I.len;omega⟩
  . obtain⟨y,hy,rfl⟩:=Ce.mp hx;split
    . rename_i h;obtain⟨d,b⟩:=eL.mp h;rw[d,b];exact P
    . exact za _ (I.mem y hy)
  . have new:∀x∈E,(if iD p q x=true then(x.1,x.2.1,min a.2.2 m)else x)∈E.map (fun x=>if iD p q x=true then(x.1,x.2.1,min a.2.2 m)else x):=fun x hx=>mem_map_of_mem hx
    rcases Ca.mp he with he | he
    . obtain⟨x,hx,M,L,Q⟩:=I.low n he;refine⟨_,new x hx,?_⟩;split
      . rename_i h;refine⟨M,L,?_⟩;have:=o x hx h;show min a.2.2 m<=n.2.2;have:=Int.min_le_left a.2.2 m;omega
      . exact⟨M,L,Q⟩
    . rw[Bs.mp he];refine⟨_,new a j,?_⟩;rw[eG F];exact⟨D,C,Int.min_le_right _ _⟩
  . obtain⟨i,J,rfl⟩:=Ce.mp hx;obtain⟨y',H,rfl⟩:=Ce.mp hy;have g:∀z:Bd,(if iD p q z=true then((z.1,z.2.1,min a.2.2 m):Bd)else z).1=z.1/\(if iD p q z=true then((z.1,z.2.1,min a.2.2 m):Bd)else z).2.1=z.2.1:=fun z=>by split<;>exact⟨rfl,rfl⟩
    rw[(g i).1,(g y').1]at d;rw[(g i).2,(g y').2]at b;have R:iD p q i=iD p q y':=by unfold iD;rw[d,b]
    rw[R];split
    . rfl
    . exact I.un i J y' H d b
theorem sY:∀L a E,rK a E->rK (a++L) (L.foldl FE E)
 | [],a,E,I=>by rw[Ve];exact I
 | e::L,a,E,I=>by have:=sY L (a++[e]) (FE E e) (Vd I e);rw[tu]at this;exact this
def cC(a:Oo Bd):Oo Bd:=a.foldl FE []
def EI(a):rK a (cC a):=by have:=sY a [] [] Yd;rwa[Ye]at this
def Sy(E)(p q)(v):(mJ E p q v).length<=E.length+1:=by
 unfold mJ;split
 . simp
 . simp
def Mw{d a:Type}(f:a->d->a)(b){xs:Oo d}{x:d}(e:xs[k]?=ε x):(xs.take (k+1)).foldl f b=f ((xs.take k).foldl f b) x:=by rw[take_add_one,e,foldl_append];rfl
noncomputable def YE:O4 Nat->Dt
 | none=>.non
 | some q=>.int (q:Nat)
noncomputable def gC(n:Nat)(t:Nat->Int):Oo Dt:=(List.range n).map fun i=>.int (t i)
def qE(n:Nat)(c:Nat->O4 Nat):Oo Dt:=(List.range n).map fun i=>YE (c i)
def GR(n)(t):(gC n t).length=n:=by simp[gC]
def xV(n)(c):(qE n c).length=n:=by simp[qE]
def DO(t)(hp:p<n):(gC n t)[p]?=ε (.int (t p)):=by simp[gC,hp]
def lR(c)(hp:p<n):(qE n c)[p]?=ε (YE (c p)):=by simp[qE,hp]
def UW{a d:Type}(n p)(f:Nat->a)(D:a->d)(v):((List.range n).map fun i=>D (f i)).set p (D v)=(List.range n).map fun i=>D (put f p v i):=by
 apply ext_getElem?;intro i;rw[getElem?_set];simp![w5,ni,Fy];by_cases h:p=i
 . subst h;by_cases hp:p<n
   . simp[hp,tG]
   . simp[hp]
 . have e:i≠p:=fun z=>h z.symm
   rw[eH h];by_cases b:i<n
   . simp[b,WE _ _ e]
   . simp[b]
def Ow(n p)(t)(v):(gC n t).set p (.int v)=gC n (put t p v):=UW n p t Dt.int v
def Lq(n p q)(c):(qE n c).set p (.int (q:Nat))=qE n (put c p (ε q)):=UW n p c YE (ε q)
structure cI(h0:HI)(a b c n:Nat)(E:List Bd)(s:ZG)(h:HI):Prop where
 len:h.length=h0.length
 da:h[a]?=ε (.df (E.map BB))
 db:h[b]?=ε (.lst (gC n s.t))
 dc:h[c]?=ε (.lst (qE n s.c))
 els:∀m,m≠a->m≠b->m≠c->h[m]?=h0[m]?
noncomputable def FQ(x:Oo Int×Dt):Bd:=match x with
 | ([p,q],.int m)=>(p.toNat,q.toNat,m)
 | _=>(0,0,0)
def SZ(e):FQ (BB e)=e:=rfl
def Br(J:a≠b)(ac:a≠c)(D:b≠c)(he:e.1<n/\e.2.1<n)(M:cI B a b c n E s h) :
 ∃h',zI [ε (.ref a),ε (.ref b),ε (.ref c),ε (YE s.l),ε (.tup [.int (e.1:Nat),.int (e.2.1:Nat)]),ε (.int e.2.2)] h=ε (.nx [ε (.ref a),ε (.ref b),ε (.ref c),ε (YE (step s e).l),ε (.tup [.int (e.1:Nat),.int (e.2.1:Nat)]),ε (.int e.2.2)] h')/\cI B a b c n E (step s e) h':=by
 obtain⟨p,q,m⟩:=e;obtain⟨hp,F⟩:=he;have o:=fun i=>LF M.db i
 have u:=DO s.t hp;have r:=DO s.t F;have blt:b<h.length:=(Xa M.db).1;have j:c<h.length:=(Xa M.dc).1;by_cases f:s.t p>s.t q+m
 . have g:step s (p,q,m)=⟨put s.t p (s.t q+m),put s.c p (ε q),ε p⟩:=eG f;rw[g];have d:decide (s.t q+m<s.t p)=true:=je f;have C:=VL (l:=[ε (.ref a),ε (.ref b),ε (.ref c),ε (YE s.l),ε (.tup [.int (p:Nat),.int (q:Nat)]),ε (.int m)]) (v:=.int (s.t q+m)) (k:=p) M.db (by rw[GR];exact hp);rw[Ow]at C;have I:(h.set b (.lst (gC n (put s.t p (s.t q+m)))))[c]?=ε (.lst (qE n s.c)):=by rw[m8 D];exact M.dc
   have g2:=VL (l:=[ε (.ref a),ε (.ref b),ε (.ref c),ε (YE s.l),ε (.tup [.int (p:Nat),.int (q:Nat)]),ε (.int m)]) (v:=.int (q:Nat)) (k:=p) I (by rw[xV];exact hp);rw[Lq]at g2;refine⟨(h.set b (.lst (gC n (put s.t p (s.t q+m))))).set c (.lst (qE n (put s.c p (ε q)))),?_,?_⟩
   . simp![zI,FB,IA,oA,gA,pA,Ti,Ui,iA,fA,kC,RC,DG,Vu,o,SM.PD,u,r,AE,jI,NA,d,eO,YA,yS,C,jB,g2,MB,Wu,Wa];rfl
   . refine⟨by simp[M.len],?_,?_,?_,fun k H y x=>?_⟩
     . rw[m8 (n7 ac),m8 (n7 J)];exact M.da
     . rw[m8 (n7 D),vm blt]
     . rw[vm (by simp;exact j)]
     . rw[m8 (n7 x),m8 (n7 y)];exact M.els k H y x
 . have g:step s (p,q,m)=s:=eH f;rw[g];have d:decide (s.t q+m<s.t p)=false:=iu f;refine⟨h,?_,M⟩;simp![zI,FB,IA,oA,gA,pA,Ti,Ui,iA,fA,kC,RC,DG,Vu,o,SM.PD,u,r,AE,jI,NA,d,Xo,g8,OD]
def Cr(F:a≠b)(ac:a≠c)(D:b≠c)(y:∀e∈E,e.1<n/\e.2.1<n)(M:cI o a b c n E s h)(q p:O4 Dt) :
 ∃m k h',xD (ED 4 5) zI [ε (.ref a),ε (.ref b),ε (.ref c),ε (YE s.l),q,p] (.it a,h)=ε (.nx [ε (.ref a),ε (.ref b),ε (.ref c),ε (YE (E.foldl step s).l),m,k] h')/\cI o a b c n E (E.foldl step s) h':=by
 obtain⟨H,h',e,⟨f,d,rfl⟩,g⟩:=Mf (i:=4) (j:=5) (n:=a) (body:=zI) (kvs:=E.map BB) (fun(s:ZG) l h=>(∃f d,l=[ε (.ref a),ε (.ref b),ε (.ref c),ε (YE s.l),f,d])/\cI o a b c n E s h) (fun s x=>step s (FQ x)) (fun s l h ⟨_,M⟩=>M.da) (by
  rintro x r s l h ⟨⟨f,d,rfl⟩,M⟩;obtain⟨e,u,rfl⟩:=Ce.mp r;obtain⟨h',C,g⟩:=Br F ac D (y e u) M;rw[SZ];exact⟨_,C,⟨_,_,rfl⟩,g⟩) s ⟨⟨q,p,rfl⟩,M⟩
 have B:(E.map BB).foldl (fun s x=>step s (FQ x)) s=E.foldl step s:=by simp![foldl_map,SZ]
 rw[B]at e g;exact⟨f,d,h',e,g⟩
def jf(f:a≠b)(ac:a≠c)(k:b≠c)(g:∀e∈E,e.1<n/\e.2.1<n)(da:h[a]?=ε (.dt (E.map BB))\/h[a]?=ε (.df (E.map BB)))(db:h[b]?=ε (.lst (gC n s.t)))(dc:h[c]?=ε (.lst (qE n s.c))) :
 ∃h',UJ [.ref a,.ref b,.ref c] h=ε (YE (turn E s).l,h')/\cI h a b c n E (turn E s) h':=by
 have d:a<h.length:=by rcases da with da | da<;>exact(Xa da).1
 obtain⟨h1,i,M⟩:∃h1,FI (eV 0) [ε (.ref a),ε (.ref b),ε (.ref c),ε .non,none,none] h=ε (.it a,h1)/\cI h a b c n E ⟨s.t,s.c,none⟩ h1:=by
  rcases da with da | da
  . refine⟨_,Dv ⋯ da,⟨by simp,vm d,?_,?_,fun m h1 z z=>m8 (n7 h1)⟩⟩
    . rw[m8 f];exact db
    . rw[m8 ac];exact dc
  . exact⟨_,Cv ⋯ da,⟨rfl,da,db,dc,fun z z z z=>rfl⟩⟩
 obtain⟨q,p,h',e,o⟩:=Cr f ac k g M none none;refine⟨h',?_,o⟩;have j:xD (ED 4 5) zI [ε (.ref a),ε (.ref b),ε (.ref c),ε .non,none,none] (.it a,h1)=_:=e;simp![UJ,cY,zB,Ua,Vi,eO,Uu,Xi,List.replicate,Yi,Ye,YA,MB,pA,fA,Wu,Wa,jB,ND];simp[i,j];rfl
def Ih(l)(h)(b)(h')(e:BL l h=ε (b,h')):h'=h:=by
 simp![BL,oA,gA]at e;rcases h0:l[0]? with _ | _ | d0
 . rw[h0]at e;cases e
 . rw[h0]at e;cases e
 . rcases h1:l[1]? with _ | _ | d1
   . rw[h0,h1]at e;cases e
   . rw[h0,h1]at e;cases e
   . rw[h0,h1]at e;simp![iA,fA]at e;cases d0<;>cases d1<;>simp[tF,RK]at e;exact e.2.symm
def SV(n)(t):gC n t=((List.range n).map t).map Dt.int:=by unfold gC;rw[map_map];rfl
structure cJ(h0:HI)(n:Nat)(E:List Bd)(s:ZG)(h:HI):Prop where
 len:h.length=h0.length+3
 da:h[h0.length]?=ε (.dt (E.map BB))\/h[h0.length]?=ε (.df (E.map BB))
 db:h[h0.length+1]?=ε (.lst (gC n s.t))
 dc:h[h0.length+2]?=ε (.lst (qE n s.c))
 els:∀m,m<h0.length->h[m]?=h0[m]?
def VD(n:Nat)(t:Nat->Int):Nat->Int:=fun i=>t i-hC ((List.range n).map t)
def Zd(J:1<=n)(B:n<=1000)(D:∀e∈E,e.1<n/\e.2.1<n)(M:cJ d n E s h)(o k j y i:O4 Dt) :
 ∃f,cJ d n E (turn E s) f/\GJ [o,k,ε (.ref d.length),ε (.ref (d.length+1)),ε (.ref (d.length+2)),j,y,i] h =
  (match(turn E s).l with
  | none=>ε (.rt (.tup [.str "times", .lst (gC n (VD n (turn E s).t))]) f)
  | some p=>ε (.nx [o,k,ε (.ref d.length),ε (.ref (d.length+1)),ε (.ref (d.length+2)),j,ε (.int (p:Nat)),i] f)):=by
 obtain⟨f,e,g⟩:=jf (a:=d.length) (b:=d.length+1) (c:=d.length+2) nofun nofun nofun D M.da M.db M.dc;refine⟨f,⟨by rw[g.len,M.len],.inr g.da,g.db,g.dc,fun m C=>(g.els m nofun nofun nofun).trans (M.els m C)⟩,?_⟩;cases q:(turn E s).l with
 | some p=>rw[q]at e;have u:UJ [.ref d.length,.ref (d.length+1),.ref (d.length+2)] h=ε (.int (p:Nat),f):=e;simp[GJ,u,SI]
 | none=>
  rw[q]at e;have u:UJ [.ref d.length,.ref (d.length+1),.ref (d.length+2)] h=ε (.non,f):=e;have r:(List.range n).map (turn E s).t ≠ []:=by intro z;have:=congrArg List.length z;simp at this;omega
  have F:YS (nS 0) [o,k,ε (.ref d.length),ε (.ref (d.length+1)),ε (.ref (d.length+2)),j,ε .non,i] (.ref (d.length+1),f)=ε (.int (hC ((List.range n).map (turn E s).t)),f):=by unfold YS;simp![pA,fA];rw[UE g.db,SV];simp![Wo,SM.Ey];rw[eG r]
  have H:XD (BA 0) cB BL [none,ε (.int (hC ((List.range n).map (turn E s).t)))] (.rf (d.length+1),f)=ε (gC n (VD n (turn E s).t),f):=by
   rw[tO g.db (by rw[GR];simp;omega) (fun l h b f e q=>by simp at e;rw[<- e.2];exact q) (fun l h b f e q=>by rw[Ih l h b f e];exact q)];rw[SV,xF Dt.int (fun x=>Dt.int (x-hC ((List.range n).map (turn E s).t))) f _ _ (by
    intro x I;exact⟨by simp,by simp[BL]⟩)]
   unfold gC VD;rw[map_map];rfl
  simp[GJ,u,SI,F,SE g.db,H]
theorem TY(D:1<=n)(m:n<=1000)(F:∀e∈E,e.1<n/\e.2.1<n)(j i:O4 Dt):∀xs k g f d h,cJ a n E (eF E k s0) h->(1<=k->∃p,(eF E k s0).l=ε p/\f=ε (.int (p:Nat)))->
 (∃s b,s.l=none/\(∀e∈E,BH s.t e)/\cJ a n E s b/\lC (BA 5) GJ xs [j,i,ε (.ref a.length),ε (.ref (a.length+1)),ε (.ref (a.length+2)),g,f,d] h=ε (.rt (.tup [.str "times", .lst (gC n (VD n s.t))]) b))\/
 (∃u r b,cJ a n E (eF E (k+xs.length) s0) b/\(1<=k+xs.length->∃p,(eF E (k+xs.length) s0).l=ε p/\r=ε (.int (p:Nat)))/\
  lC (BA 5) GJ xs [j,i,ε (.ref a.length),ε (.ref (a.length+1)),ε (.ref (a.length+2)),g,f,d] h=ε (.nx [j,i,ε (.ref a.length),ε (.ref (a.length+1)),ε (.ref (a.length+2)),u,r,d] b))
 | [],k,g,f,d,h,M,q=>.inr ⟨g,f,h,M,q,rfl⟩
 | x::xs,k,g,f,d,h,M,q=>by
  obtain⟨H,M1,o⟩:=Zd D m F M j i (ε x) f d;cases ql:(turn E (eF E k s0)).l with
  | none=>
   rw[ql]at o;obtain⟨_,J,I⟩:=SW E _ ql;refine .inl ⟨turn E (eF E k s0),H,ql,?_,M1,by simp[lC,o]⟩;show ∀e∈E,BH (E.foldl step _).t e
   rw[J];exact I
  | some p=>
   rw[ql]at o;have:=TY D m F j i xs (k+1) (ε x) (ε (.int (p:Nat))) d H M1 (fun z=>⟨p,ql,rfl⟩);rw[show k+(x::xs).length=k+1+xs.length by simp;omega];rcases this with⟨s,b,C,B,y,L⟩ | ⟨u,r,b,C,B,y⟩
   . exact .inl ⟨s,b,C,B,y,by simp[lC,o,L]⟩
   . exact .inr ⟨u,r,b,C,B,by simp[lC,o,y]⟩
def LC(c:Nat->O4 Nat)(P i:Nat):Oo Dt:=(List.range (i+1)).map fun m=>.int ((XA (nxt c) m P:Nat):Int)
def Bk(c)(P i):atI (LC c P i) (-1)=ε (.int ((XA (nxt c) i P:Nat):Int)):=by
 unfold LC atI gI;have b:(1:Int)<=(i:Int)+1:=by omega
 have a:(-1+((i:Int)+1)).toNat=i:=by omega
 simp[b,a]
def gj(hn:1<=n)(a0:n<=90)(dc:h[a]?=ε (.lst (qE n c)))(T:NT n E)
 (R:rF n E w c (XA (nxt c) n x) k) (Z:∀i,i<=n->c (XA (nxt c) i x)=ε (XA (nxt c) (i+1) x)/\XA (nxt c) i x<n) :
 PN [.int (x:Nat),.ref a] h=ε (.ref h.length,h++[.lst (LC c (XA (nxt c) n x) k)]):=by
 have O:=fun i=>LF dc i
 have Y:=dG (h:=h) (show(-(2^62):Int)<=(n:Int) by omega) (show(n:Int)<2^62 by omega);simp![ou]at Y;obtain⟨l',b,e,⟨y,rfl⟩,U⟩:=MJ (i:=2) (body:=TQ) (fun(k:Nat)=>Dt.int (k:Int)) (fun i l b=>(∃y,l=[ε (.int ((XA (nxt c) i x:Nat):Int)),ε (.ref a),y,none])/\b=h) n (by
  rintro i hi l b ⟨⟨y,rfl⟩,rfl⟩;obtain⟨q,p⟩:=Z i nofun;have o:=lR c p;rw[q]at o;refine⟨.nx [ε (.int ((XA (nxt c) (i+1) x:Nat):Int)),ε (.ref a),ε (.int (i:Nat)),none] b,?_,⟨_,rfl⟩,rfl⟩;simp![TQ,MB,oA,gA,Wu,Wa,Ti,Ui,iA,fA,O,SM.PD,o,Vu,YE]) [ε (.int (x:Nat)),ε (.ref a),none,none] h ⟨⟨_,rfl⟩,rfl⟩
 rw[U]at e;clear U;obtain⟨q,p⟩:=Z n (Va _);generalize hP:XA (nxt c) n x=P at R e q p;have J:c P=ε (XA (nxt c) (n+1) x):=q;have f:=lR c p;have f1:XA (nxt c) (n+1) x=nxt c P:=by show nxt c (XA (nxt c) n x)=_;rw[hP]
 rw[J,f1]at f;obtain⟨r,W,u⟩:=kX (t:=SQ) (body:=UQ) (fun m l b=>∃i,1<=i/\i<=k/\m=k-i/\l=[ε (.int (P:Nat)),ε (.ref a),y,ε (.ref h.length)]/\b=h++[.lst (LC c P i)])
  (fun l b=>l=[ε (.int (P:Nat)),ε (.ref a),y,ε (.ref h.length)]/\b=h++[.lst (LC c P k)]) (fun v v=>False) (by
  rintro m l b ⟨i,i1,i2,rfl,rfl,rfl⟩;have H:(h++[Ob.lst (LC c P i)])[h.length]?=ε (.lst (LC c P i)):=by simp
  have I:(h++[Ob.lst (LC c P i)])[a]?=ε (.lst (qE n c)):=by rw[Yo (Xa dc).1];exact dc
  have M:=fun j=>LF H j
  have B:=fun j=>LF I j
  have Q:=Bk c P i;refine⟨!decide (((XA (nxt c) i P:Nat):Int)=(P:Int)),h++[.lst (LC c P i)],?_,?_⟩
  . simp![SQ,IA,oA,gA,dF,pA,QE,Ti,Ui,iA,fA,M,Q,Vu,gH,NA]
  . by_cases hk:i=k
    . subst hk;rw[R.back];simp
    . have ne:=R.first i i1 nofun;have C:¬(((XA (nxt c) i P:Nat):Int)=(P:Int)):=fun z=>ne nofun
      rw[iu C];obtain⟨g1,g2⟩:=R.edge i i2;have F:=(T.lt _ g1).1;have o:=lR c F;rw[g2]at o;have ea:e2 nA (eV 1) (e2 nA (eV 3) (dB (nS 1))) [ε (.int (P:Nat)),ε (.ref a),y,ε (.ref h.length)] (h++[.lst (LC c P i)])=ε (.int ((XA (nxt c) (i+1) P:Nat):Int),h++[.lst (LC c P i)]):=by simp![oA,gA,dF,pA,QE,Ti,Ui,iA,fA,M,Q,Vu,B,SM.PD,o,YE]
      have L:=vG (l:=[ε (.int (P:Nat)),ε (.ref a),y,ε (.ref h.length)]) (g:=e2 nA (eV 1) (e2 nA (eV 3) (dB (nS 1)))) H ea H (by have:=R.le;simp[LC];omega);have en:LC c P i++[.int ((XA (nxt c) (i+1) P:Nat):Int)]=LC c P (i+1):=by unfold LC;rw[Je (n:=i+1),Gu];rfl
      rw[en]at L;have es:(h++[Ob.lst (LC c P i)]).set h.length (.lst (LC c P (i+1)))=h++[.lst (LC c P (i+1))]:=by simp
      rw[es]at L;refine⟨.nx [ε (.int (P:Nat)),ε (.ref a),y,ε (.ref h.length)] (h++[.lst (LC c P (i+1))]),?_,k-(i+1),by omega,i+1,by omega,by omega,rfl,rfl,rfl⟩;simp![UQ,lF,uG,gA,Ti,Ui,iA,fA,L]) 100 (k-1) [ε (.int (P:Nat)),ε (.ref a),y,ε (.ref h.length)] (h++[.lst (LC c P 1)]) ⟨1,Va _,R.pos,rfl,rfl,rfl⟩ (by have:=R.le;omega)
 cases r with
 | nx S D=>obtain⟨rfl,rfl⟩:=u;have e1:LC c P 1=[.int (P:Nat),.int ((nxt c P:Nat):Int)]:=rfl;rw[e1]at W;simp[PN,XU,TH dc,xV,Y,e,O,f,YE,W]
 | rt d D=>exact u.elim
 | bk S D=>exact u.elim
 | ct S D=>exact u.elim
def WG(a:Oo Bd)(p q:Nat):Int:=(EK (cC a) p q).getD 0
def HQ(he:e∈cC a):WG a e.1 e.2.1=e.2.2:=by
 unfold WG EK;cases q:(cC a).find? (iD e.1 e.2.1)with
 | none=>have:=find?_eq_none.mp q e he;exact Es (eL.mpr ⟨rfl,rfl⟩) this
 | some x=>obtain⟨d,b⟩:=eL.mp (find?_some q);exact(EI a).un x (Bo q) e he d b
def cP(d:∀e∈a,e.1<n/\e.2.1<n/\e.1≠e.2.1):NT n (cC a):=⟨fun e b=>d e ((EI a).mem e b),(EI a).un⟩
def KU(b)(D:b.length<=1000)(h)(da:h[a]?=ε (.lst (b.map vA))):vJ [.ref a] h=ε (.ref h.length,h++[.dt ((cC b).map BB)]):=by
 obtain⟨B,j,e,⟨g,f,rfl⟩,rfl,_⟩:=DT (i:=2) (n:=a) (body:=MQ) vA (fun k l j=>(∃g f,l=[ε (.ref a),ε (.ref h.length),g,f])/\j=h++[.dt (((b.take k).foldl FE []).map BB)]/\((b.take k).foldl FE []).length<=k) b (by
  rintro k l j ⟨_,rfl,_⟩;rw[Yo (Xa da).1];exact da) (by
  rintro k x p l j ⟨⟨g,f,rfl⟩,rfl,q⟩;have C:k<b.length:=(Xa p).1;rw[Mw FE [] p];generalize (b.take k).foldl FE []=E at q;have m:(h++[Ob.dt (E.map BB)])[h.length]?=ε (.dt (E.map BB)):=by simp
  have y:([ε (Dt.ref a),ε (.ref h.length),g,f]:LI).set 2 (ε (vA x))=[ε (Dt.ref a),ε (.ref h.length),ε (vA x),f]:=rfl;rw[y];refine⟨.nx [ε (.ref a),ε (.ref h.length),ε (vA x),ε (.ntp [(x.1:Int),(x.2.1:Int)])] (h++[.dt ((FE E x).map BB)]),?_,⟨_,_,rfl⟩,rfl,?_⟩
  . have r:cK (eV 1) (eV 3) (e2 nA (eV 2) (nS 2)) [ε (.ref a),ε (.ref h.length),ε (vA x),ε (.ntp [(x.1:Int),(x.2.1:Int)])] (h++[.dt (E.map BB)])=ε (.int ((EK E x.1 x.2.1).getD x.2.2),h++[.dt (E.map BB)]):=by rw[Jb (n:=h.length) (k:=[(x.1:Int),(x.2.1:Int)]) (kvs:=E.map BB) ⋯ m ⋯];simp![oA,gA,pA,Ti,Ui,iA,fA,vA,kC,DM,Vu];rw[Wf m,oZ];cases EK E x.1 x.2.1<;>rfl
    have g2:=A7 (l:=[ε (.ref a),ε (.ref h.length),ε (vA x),ε (.ntp [(x.1:Int),(x.2.1:Int)])]) (h:=h++[.dt (E.map BB)]) (fe:=K1 MM (cK (eV 1) (eV 3) (e2 nA (eV 2) (nS 2))) (e2 nA (eV 2) (nS 2))) (fo:=eV 1) (fy:=eV 3) (n:=h.length) (k:=[(x.1:Int),(x.2.1:Int)]) (kvs:=E.map BB)
     (d:=.int (min ((EK E x.1 x.2.1).getD x.2.2) x.2.2)) (by
      rw[J4,r,fA];simp[vA]) ⋯ m ⋯ (by simp;omega)
    rw[Vr]at g2;have u:(h++[Ob.dt (E.map BB)]).set h.length (.dt ((FE E x).map BB))=h++[.dt ((FE E x).map BB)]:=by simp
    simp![MQ,YA,MB,x8,zA,xA,oA,gA,pA,Ti,Ui,iA,fA,vA,kC,RC,DG,Vu,lg,Wu,Wa,jB];have g3:=g2;simp![vA]at g3;rw[g3];show ε (Rs.nx _ ((h++[Ob.dt (E.map BB)]).set h.length (.dt ((FE E x).map BB))))=_;rw[u]
  . have:=Sy E x.1 x.2.1 (min ((EK E x.1 x.2.1).getD x.2.2) x.2.2);show(FE E x).length<=k+1;unfold FE;omega) [ε (.ref a),ε (.ref h.length),none,none] (h++[.dt []]) ⟨⟨_,_,rfl⟩,by simp,by simp⟩
 have o:(h++[Ob.dt []])[a]?=ε (.lst (b.map vA)):=by rw[Yo (Xa da).1];exact da
 rw[Li]at e;simp[vJ,NU,SE o,e];rfl
def QX(F:1<=n)(S:n<=16)(b)(W:∀e∈b,e.1<n/\e.2.1<n/\e.1≠e.2.1)(U:b.length<=1000)(h)(da:h[a]?=ε (.lst (b.map vA))) :
 (∃t d,(∀e∈b,BH t e)/\(∀m,m<h.length->d[m]?=h[m]?)/\OH [.int (n:Nat),.ref a] h=ε (.tup [.str "times", .lst (gC n (VD n t))],d))\/
 (∃c P k r d,rF n (cC b) (WG b) c P k/\(∀m,m<h.length->d[m]?=h[m]?)/\d[r]?=ε (.lst (LC c P k))/\OH [.int (n:Nat),.ref a] h=ε (.tup [.str "ring", .ref r],d)/\h.length<=r):=by
 have T:=cP W;have Y:∀e∈cC b,e.1<n/\e.2.1<n:=fun e f=>⟨(T.lt e f).1,(T.lt e f).2.1⟩
 have H:=KU b U h da;have q:=WW (h:=h++[.dt ((cC b).map BB)]) (Dt.int 0) (show n<=1000000 by omega);have o:=WW (h:=h++[.dt ((cC b).map BB)]++[.lst (List.replicate n (Dt.int 0))]) Dt.non (show n<=1000000 by omega);have O:List.replicate n (Dt.int 0)=gC n s0.t:=by unfold gC;rw[show(fun i=>Dt.int (s0.t i))=fun z=>Dt.int 0 from rfl,map_const',Fy]
 have c0:List.replicate n Dt.non=qE n s0.c:=by unfold qE;rw[show(fun i=>YE (s0.c i))=fun z=>Dt.non from rfl,map_const',Fy]
 rw[O]at q o;rw[c0]at o;simp![tu,Yi,Ye,jj,Ua,Vi,Ao]at q o;have C:=fun h=>dG (h:=h) (show(-(2^62):Int)<=(n:Int)+1 by omega) (show(n:Int)+1<2^62 by omega)
 have Z:((n:Int)+1).toNat=n+1:=by omega
 rw[Z]at C;have M:cJ h n (cC b) (eF (cC b) 0 s0) (h++[.dt ((cC b).map BB),.lst (gC n s0.t),.lst (qE n s0.c)]):=by
  refine⟨by simp,.inl ?_,?_,?_,fun m B=>Yo B⟩
  . rw[ag (Va _),Ea];rfl
  . rw[ag nofun,Ju];rfl
  . rw[ag nofun,Ju];rfl
 rcases TY F nofun Y (ε (.int (n:Nat))) (ε (.ref a)) ((List.range (n+1)).map fun(k:Nat)=>Dt.int (k:Int)) 0 none none none _ M (fun h=>Es h nofun)with⟨s,d,j,y,E,a4⟩ | ⟨y5,y6,d,j,y,E⟩
 . refine .inl ⟨s.t,d,fun e f=>?_,E.els,?_⟩
   . obtain⟨x,Q,L,J,x3⟩:=(EI b).low e f;have:=y x Q;simp![BH]at this ⊢;rw[L,J]at this;omega
   . simp[OH,cS,H,q,o,C,a4]
 . rw[ni,Fy,Ao]at j y;obtain⟨p,ql,rfl⟩:=y nofun;obtain⟨u,D,I,_⟩:=BX T (fun e f=>HQ f) n;obtain⟨k,R,cd⟩:=Zb T I ql;have g:=gj F nofun j.dc T R cd;refine .inr ⟨(eF (cC b) (n+1) s0).c,XA (nxt (eF (cC b) (n+1) s0).c) n p,k,d.length,d++[.lst (LC (eF (cC b) (n+1) s0).c (XA (nxt (eF (cC b) (n+1) s0).c) n p) k)],R,fun m B=>?_,?_,?_,by rw[j.len];omega⟩
   . rw[Yo (by rw[j.len];omega)];exact j.els m B
   . rw[ag (Va _),Ea];rfl
   . simp[OH,cS,H,q,o,C,E,g]
def Jr{b:Nat->Int}(f:∀e∈a,b e.1-b e.2.1<=e.2.2)(R:rF n (cC a) (WG a) c P k):False:=by
 have h:∀i,i<=k->b P-b (XA (nxt c) i P)<=((List.range i).map fun m=>WG a (XA (nxt c) m P) (XA (nxt c) (m+1) P)).sum:=by
  intro i
  induction i with
  | zero=>intro _;show b P-b P<=0;omega
  | succ i ih=>intro j;have d:=ih nofun;have g:=f _ ((EI a).mem _ (R.edge i nofun).1);rw[Je,Gu,sum_append];simp![Uu,Xi,sum_cons,sum_nil,Int.add_zero]at g ⊢;omega
 have d:=h k (Va _);rw[R.back]at d;have:=R.sum;omega
noncomputable def lc:Oo (Nat×Nat):=[(0,0),(0,1),(0,2),(0,3),(0,4),(1,2),(1,3),(1,4),(2,2),(2,3),(2,4),(3,4),(4,4)]
noncomputable def pr(p:Nat×Nat):Dt:=.tup [.int (p.1:Int),.int (p.2:Int)]
noncomputable def mkS(n:Nat)(p:Nat->Bool):Nat:=match n with
 | 0=>0
 | n+1=>mkS n p+(if p n=true then 2^n else 0)
theorem KS(p):∀n,mkS n p<2^n
 | 0=>by simp[mkS]
 | n+1=>by have:=KS p n;simp![mkS];rw[Nat.pow_succ];split<;>omega
theorem CY(p):∀n k,(mkS n p).testBit k=(decide (k<n)&&p k)
 | 0,k=>by simp[mkS]
 | n+1,k=>by
  have ih:=CY p n k;have lt:=KS p n;simp![mkS];by_cases hp:p n=true
  . rw[eG hp,Nat.add_comm];rcases Nat.lt_trichotomy k n with h | h | h
    . rw[Nat.testBit_two_pow_add_gt h,ih];simp[h,Ie h]
    . subst h;rw[Nat.testBit_two_pow_add_eq,ih];simp[hp]
    . have:2^n+mkS n p<2^k:=kj (show 2^n+mkS n p<2^(n+1) by rw[Nat.pow_succ];omega) (Nat.pow_le_pow_right (by decide) h);rw[Nat.testBit_lt_two_pow this];have:¬k<n+1:=by omega
      simp[this]
  . rw[eH hp,Nat.add_zero,ih];by_cases h:k=n
    . subst h;simp[hp]
    . have:(k<n+1)=(k<n):=by apply propext;omega
      simp[this]
def KG(f:a<8192)(e:b<8192)(h:∀k<13,a.testBit k=b.testBit k):a=b:=by
 apply Ja;intro k;by_cases d:k<13
 . exact h k d
 . have hp:8192<=2^k:=by have:=Nat.pow_le_pow_right (show 1<=2 by decide) (show 13<=k by omega);exact this
   rw[Nat.testBit_lt_two_pow nofun,Nat.testBit_lt_two_pow nofun]
def mk(p:Nat->Bool):Nat:=mkS 13 p
def UI(p):mk p<8192:=KS p 13
def GI(p)(a:k<13):(mk p).testBit k=p k:=by unfold mk;rw[CY];simp[a]
def Vy(h:∀k<13,p k=q k):mk p=mk q:=KG (UI _) (UI _) fun k a=>by rw[GI _ a,GI _ a,h k a]
noncomputable def HA(m:Nat):Oo Nat:=(List.range 13).filter m.testBit
def bv:k∈HA m↔k<13/\m.testBit k=true:=by simp[HA]
def Nx(g:Nat->Int)(p)(xs:Oo Nat):((xs.filter p).map g).sum=(xs.map fun k=>if p k=true then g k else 0).sum:=by
 induction xs with
 | nil=>rfl
 | cons x xs ih=>by_cases h:p x=true<;>simp[h,ih]
theorem RY(p):∀n,((List.range n).map fun k=>if p k=true then(2:Int)^k else 0).sum=(mkS n p:Int)
 | 0=>rfl
 | n+1=>by
  have f:(if p n=true then(2:Int)^n else 0)=((if p n=true then 2^n else 0:Nat):Int):=by cases p n<;>simp
  rw[Je,Gu,sum_append,RY p n,Uu,Xi,sum_cons,sum_nil,Int.add_zero,f];rfl
def Jh(p):((((List.range 13).filter p).map fun k=>(2:Int)^(12-k))).sum=(mk (fun j=>p (12-j)):Int):=by rw[Nx,<- sum_reverse,<- map_reverse,show(List.range 13).reverse=(List.range 13).map (12 - ·) by decide,map_map];refine Eq.trans (congrArg List.sum (map_congr_left fun k a=>?_)) (RY _ 13);show(if p (12-k)=true then(2:Int)^(12-(12-k))else 0)=_;rw[Nat.sub_sub_self (Nat.le_of_lt_succ (Ci.mp a))]
def Zo(m:Nat):Nat:=mk fun j=>m.testBit (12-j)
def ZJ(m):Zo m<8192:=UI _
def VE(m)(a:k<13):(Zo m).testBit k=m.testBit (12-k):=GI _ a
def AO(a:m<8192):Zo (Zo m)=m:=KG (ZJ _) a fun k b=>by
 rw[VE _ b,VE _ nofun]
 congr 1
 omega
def PJ(a b:Nat):Builtin.bitAnd (a:Int) (b:Int)=((a&&&b:Nat):Int):=by unfold Builtin.bitAnd;simp
def gY(a b:Nat):Builtin.bitOr (a:Int) (b:Int)=((a|||b:Nat):Int):=by
 unfold Builtin.bitOr Builtin.bitAnd Builtin.bitNot;have f:decide (0<=-(a:Int)-1)=false:=by simp;omega
 have d:decide (0<=-(b:Int)-1)=false:=by simp;omega
 have e:∀x:Int,-(-x-1)-1=x:=by intro x;omega
 simp![f,d,e];simp
def NS(m k:Nat):decide (Builtin.bitAnd ((m:Int)/2^k) 1=1)=m.testBit k:=by
 have e:((m:Int)/2^k)=((m/2^k:Nat):Int):=by simp
 rw[e];have:=PJ (m/2^k) 1;simp![Io]at this;rw[this,Nat.testBit_eq_decide_div_mod_eq];have e2:(m/2^k&&&1)=m/2^k%2:=Nat.and_one_is_mod _;rw[e2]
 congr 1
 apply propext;omega
def JK{k:Nat}(a:k<13):XG 1 (k:Int):=⟨by omega,by omega,by decide⟩
def r13(h):A2 (.int 13,h)=ε (.vals ((List.range 13).map fun(k:Nat)=>Dt.int (k:Int)),h):=dG (by decide) (by decide)
def T3{a:Type}(f:Nat->a):((List.range 13).map f).length<sizeLine:=by rw[ni,Fy];decide
def B4(h:i<13):i=0\/i=1\/i=2\/i=3\/i=4\/i=5\/i=6\/i=7\/i=8\/i=9\/i=10\/i=11\/i=12:=by revert i;decide
def YL(m):(HA m).length<=13:=by unfold HA;exact uq (length_filter_le _ _) ⋯
def wL(m:Nat)(h):pH [.int m] h=ε (.lst ((HA m).map fun(k:Nat)=>Dt.int (k:Int)),h):=by
 have a:=KO (te:=iR) (tc:=jR) (i:=0) (fun(k:Nat)=>Dt.int (k:Int)) m.testBit (fun(k:Nat)=>Dt.int (k:Int)) h (List.range 13) [none,ε (.int m)] fun k q=>⟨by
  simp[jR,eT,NS],fun q=>by simp[iR]⟩
 simp[pH,tW,r13,aE _ _ _ (T3 _),a,HA]
def Fg(a:Oo Nat)(f:∀k∈a,k<13)(e:a.length<=13)(h):qO [.lst (a.map fun(k:Nat)=>Dt.int (k:Int))] h=ε (.int ((a.map fun k=>(2:Int)^k).sum),h):=by
 have g:=xF (te:=cR) (tc:=cB) (i:=0) (fun(k:Nat)=>Dt.int (k:Int)) (fun(k:Nat)=>Dt.int ((2:Int)^k)) h a [none] fun k d=>⟨rfl,by
  simp[cR,UM (JK (f k d))]⟩
 have hs:((a.map fun(k:Nat)=>Dt.int (k:Int))).length<sizeLine:=by rw[ni];exact Ei e (by decide)
 have b:=C0 (h:=h) (a.map fun k=>(2:Int)^k);rw[map_map]at b;have:(Dt.int ∘ fun k=>(2:Int)^k)=fun(k:Nat)=>Dt.int ((2:Int)^k):=rfl
 rw[this]at b;simp[qO,LW,aE _ _ _ hs,g,b]
def Ig(m:Nat)(h):rO [.int m] h=ε (.int (Zo m),h):=by
 have e:=xF (te:=dR) (tc:=cB) (i:=0) (fun(k:Nat)=>Dt.int (k:Int)) (fun(k:Nat)=>Dt.int (((12-k:Nat):Nat):Int)) h (HA m) [none] fun k b=>⟨rfl,by
  have:=(bv.mp b).1;simp[dR];omega⟩
 have hs:((HA m).map fun(k:Nat)=>Dt.int (k:Int)).length<sizeLine:=by rw[ni];exact Ei (YL m) (by decide)
 have a:=Fg ((HA m).map fun k=>12-k) (by intro k d;obtain⟨j,_,rfl⟩:=Ce.mp d;omega) (by rw[ni];exact YL m) h;rw[map_map,map_map]at a;have g:((fun(k:Nat)=>Dt.int (k:Int)) ∘ fun k=>12-k)=fun(k:Nat)=>Dt.int (((12-k:Nat):Nat):Int):=rfl
 have e2:((fun(k:Nat)=>(2:Int)^k) ∘ fun k=>12-k)=fun(k:Nat)=>(2:Int)^(12-k):=rfl
 have f:((HA m).map fun k=>(2:Int)^(12-k)).sum=(Zo m:Int):=Jh _;rw[g,e2,f]at a;simp[rO,MW,wL,aE _ _ _ hs,e,a]
def CH(i j:Nat):Nat:=match cv[i]? with
 | some (.tup r)=>(match r[j]? with
  | some (.int n)=>n.toNat
  | _=>0)
 | _=>0
noncomputable def C4:Dt->Nat
 | .int n=>n.toNat
 | _=>0
def tN:Dt->Oo Nat
 | .tup r=>r.map C4
 | _=>[]
def Ec:cv=(cv.map tN).map fun r=>.tup (r.map fun n:Nat=>.int (n:Int)):=by rfl
def N6:(cv.map tN).length=13/\∀r∈cv.map tN,r.length=13:=by decide +kernel
def P6(hi:i<13)(f:j<13):∃r,cv[i]?=ε (.tup r)/\r[j]?=ε (.int (CH i j)):=by
 obtain⟨N,g⟩:∃N,cv.map tN=N:=⟨_,rfl⟩
 have T:=Ec;have d:=N6;rw[g]at T d;have a:i<N.length:=by rw[d.1];exact hi
 have e:cv[i]?=ε (.tup (N[i].map fun n:Nat=>.int (n:Int))):=by rw[T,w5,jo a];rfl
 have b:j<N[i].length:=by rw[d.2 _ (getElem_mem a)];exact f
 have e2:(N[i].map fun n:Nat=>Dt.int (n:Int))[j]?=ε (.int (N[i][j]:Int)):=by rw[w5,jo b];rfl
 refine⟨_,e,?_⟩;rw[e2];unfold CH;rw[e];dsimp only;rw[e2];rfl
def Dc:∀i<13,∀j<13,1<=CH i j/\CH i j<8192:=by decide +kernel
def dY:∀i<13,∀j<13,∀k<13,(CH (12-j) (12-i)).testBit (12-k)=(CH i j).testBit k:=by decide +kernel
noncomputable def cN(f:Nat->Nat)(xs:Oo Nat)(a:Nat):Nat:=xs.foldl (fun b x=>b|||f x) a
theorem FY(f)(k):∀xs a,(cN f xs a).testBit k=(a.testBit k || xs.any fun x=>(f x).testBit k)
 | [],a=>by simp[cN]
 | x::xs,a=>by have:=FY f k xs (a|||f x);unfold cN at this ⊢;rw[foldl_cons,this];simp[Nat.testBit_or,Bool.or_assoc]
theorem FZ(f):∀xs a,a<8192->(∀x∈xs,f x<8192)->cN f xs a<8192
 | [],a,ha,_=>ha
 | x::xs,a,ha,h=>by unfold cN;rw[foldl_cons];exact FZ f xs (a|||f x) (Nat.or_lt_two_pow (n:=13) ha (h x ⋯)) fun y b=>h y (by simp[b])
def FK(a b:Nat):Nat:=(HA a).foldl (fun d i=>cN (CH i) (HA b) d) 0
theorem yV(b k):∀(xs:Oo Nat)(a:Nat),(xs.foldl (fun d i=>cN (CH i) (HA b) d) a).testBit k=(a.testBit k || xs.any fun i=>(HA b).any fun j=>(CH i j).testBit k)
 | [],a=>by simp
 | x::xs,a=>by rw[foldl_cons,yV b k xs,FY];simp[Bool.or_assoc]
def ZO(a b k):(FK a b).testBit k=true↔∃i j,i<13/\a.testBit i=true/\j<13/\b.testBit j=true/\(CH i j).testBit k=true:=by
 unfold FK;rw[yV];simp![Nat.zero_testBit,Bool.false_or,any_eq_true,bv];constructor
 . rintro⟨i,⟨h,g⟩,j,⟨f,e⟩,d⟩;exact⟨i,j,h,g,f,e,d⟩
 . rintro⟨i,j,h,g,f,e,d⟩;exact⟨i,⟨h,g⟩,j,⟨f,e⟩,d⟩
theorem CW(b):∀(xs:Oo Nat)(a:Nat),a<8192->(∀i∈xs,i<13)->xs.foldl (fun d i=>cN (CH i) (HA b) d) a<8192
 | [],a,ha,_=>ha
 | x::xs,a,ha,h=>by rw[foldl_cons];exact CW b xs _ (FZ _ _ _ ha fun j f=>(Dc x (h x ⋯) j (bv.mp f).1).2) fun y e=>h y (by simp[e])
def Rf(a b):FK a b<8192:=CW b _ 0 (by decide) fun i d=>(bv.mp d).1
def Dw(h:a=true↔b=true):a=b:=by cases a<;>cases b<;>simp_all
def Gd(f:a<8192)(e:b<8192)(h:∀k<13,a.testBit k=true↔b.testBit k=true):a=b:=KG f e fun k d=>Dw (h k d)
def Iw(a b):FK (Zo b) (Zo a)=Zo (FK a b):=by
 refine Gd (Rf _ _) (ZJ _) fun k m=>?_
 rw[VE _ m,ZO,ZO];constructor
 . rintro⟨i,j,g,f,e,d,h⟩;rw[VE _ g]at f;rw[VE _ e]at d;refine⟨12-j,12-i,by omega,d,by omega,f,?_⟩;have:=dY i g j e k m;rw[this];exact h
 . rintro⟨i,j,g,f,e,d,h⟩;refine⟨12-j,12-i,by omega,?_,by omega,?_,?_⟩
   . rw[VE _ nofun,show 12-(12-j)=j by omega];exact d
   . rw[VE _ nofun,show 12-(12-i)=i by omega];exact f
   . have:=dY i g j e (12-k) nofun;rw[show 12-(12-k)=k by omega]at this;rw[this];exact h
def Yr{i:Nat}(hi:i<13)(b d:Nat)(x y z:O4 Dt)(h):∃f,DN [x,y,ε (.lst ((HA b).map fun(k:Nat)=>Dt.int (k:Int))),ε (.int d),ε (.int i),z] h=ε (.nx [x,y,ε (.lst ((HA b).map fun(k:Nat)=>Dt.int (k:Int))),ε (.int (cN (CH i) (HA b) d)),ε (.int i),f] h):=by
 obtain⟨o,g,e,⟨f,rfl⟩,rfl⟩:=jX (i:=5) (body:=LQ) (fun(k:Nat)=>Dt.int (k:Int)) (fun(a:Nat) l g=>(∃f,l=[x,y,ε (.lst ((HA b).map fun(k:Nat)=>Dt.int (k:Int))),ε (.int a),ε (.int i),f])/\g=h) (fun a j=>a|||CH i j) (HA b) (by
  rintro j m a l h ⟨⟨f,rfl⟩,rfl⟩;obtain⟨r,n,e2⟩:=P6 hi (bv.mp m).1;refine⟨.nx [x,y,ε (.lst ((HA b).map fun(k:Nat)=>Dt.int (k:Int))),ε (.int ((a|||CH i j:Nat):Int)),some (.int i),some (.int j)] h,?_,⟨_,rfl⟩,rfl⟩;simp[LQ,n,e2,gY]) d [x,y,some (.lst ((HA b).map fun(k:Nat)=>Dt.int (k:Int))),ε (.int d),ε (.int i),z] h ⟨⟨z,rfl⟩,rfl⟩
 refine⟨f,?_⟩;simp[DN,e];rfl
def y9(a b:Nat)(h):RN [.int a,.int b] h=ε (.int (FK a b),h):=by
 obtain⟨m,f,e,⟨z,w,rfl⟩,rfl⟩:=jX (i:=4) (body:=DN) (fun(k:Nat)=>Dt.int (k:Int)) (fun(c:Nat) l f=>(∃z w,l=[ε (.int a),ε (.int b),ε (.lst ((HA b).map fun(k:Nat)=>Dt.int (k:Int))),ε (.int c),z,w])/\f=h) (fun d i=>cN (CH i) (HA b) d) (HA a) (by
  rintro i g c l h ⟨⟨z,w,rfl⟩,rfl⟩;obtain⟨j,e⟩:=Yr (bv.mp g).1 b c (ε (.int a)) (ε (.int b)) w h;exact⟨_,e,⟨_,_,rfl⟩,rfl⟩) 0 [ε (.int a),ε (.int b),ε (.lst ((HA b).map fun(k:Nat)=>Dt.int (k:Int))),ε (.int 0),none,none] h ⟨⟨none,none,rfl⟩,rfl⟩
 simp[RN,MU,wL,e];rfl
noncomputable def MC(c:Nat)(g:Nat->Nat):Oo Dt:=(List.range c).map fun(j:Nat)=>Dt.int (g j:Nat)
noncomputable def TF(b c:Nat):Oo Dt:=(List.range c).map fun(k:Nat)=>Dt.ref (b+k)
structure Wi(h:HI)(b c:Nat)(f:Nat->Nat->Nat):Prop where
 row:∀i<c,h[b+i]?=ε (.lst (MC c (f i)))
 top:h[b+c]?=ε (.lst (TF b c))
def aD(b c:Nat)(f:Nat->Nat->Nat):HI:=((List.range c).map fun i=>Ob.lst (MC c (f i)))++[.lst (TF b c)]
def Wi.lt(N:Wi h b c f):b+c<h.length:=(Xa N.top).1
def Wi.grow(N:Wi h b c f)(e):Wi (h++e) b c f:=by have:=N.lt;exact⟨fun i a=>by rw[Yo nofun];exact N.row i a,by rw[Yo nofun];exact N.top⟩
def yG(h)(c)(f):Wi (h++aD h.length c f) h.length c f:=by
 constructor
 . intro i a;rw[ag nofun];unfold aD;rw[Yo (by simp;omega)];simp[a]
 . rw[ag nofun];unfold aD;rw[ag ⋯];simp
def BO(c)(g):(MC c g).length=c:=by simp[MC]
def KL(b c):(TF b c).length=c:=by simp[TF]
def UL(a:j<c)(g):(MC c g)[j]?=ε (.int (g j:Nat)):=by simp[MC,a]
def EO(a:j<c):(TF b c)[j]?=ε (.ref (b+j)):=by simp[TF,a]
def Dz(e:∀j<c,g j=g' j):MC c g=MC c g':=map_congr_left fun j a=>by rw[e j (Ci.mp a)]
def uh(g)(v):(MC c g).set j (.int (v:Nat))=MC c (fun x=>if x=j then v else g x):=by
 apply ext_getElem?;intro k;rw[getElem?_set];simp![MC,ni,Fy,w5];by_cases a:k<c
 . rw[Oa a];by_cases b:j=k
   . subst b;simp[a]
   . have:¬k=j:=fun z=>b z.symm
     simp[b,this]
 . rw[lu (by simpa using a)];split
   . have:¬j<c:=by omega
     simp[this]
   . rfl
def Wi.congr(N:Wi h b c f)(e:∀i<c,∀j<c,f i j=g i j):Wi h b c g:=
 ⟨fun i a=>by rw[<- Dz (e i a)];exact N.row i a,N.top⟩
noncomputable def yB(f:Nat->Nat->Nat)(i j v:Nat):Nat->Nat->Nat:=fun a b=>if a=i then(if b=j then v else f a b)else f a b
def Wi.other(N:Wi h b c f)(d:n<b\/b+c<n)(o):Wi (h.set n o) b c f:=
 ⟨fun i a=>by rw[m8 nofun];exact N.row i a,by rw[m8 nofun];exact N.top⟩
def Wi.ix(N:Wi h b c f)(hi:i<c):nA (.ref (b+c)) (.int (i:Nat)) h=ε (.ref (b+i),h):=by rw[LF N.top,SM.PD,EO hi];rfl
def Wi.ix2(N:Wi h b c f)(hi:i<c)(a:j<c):nA (.ref (b+i)) (.int (j:Nat)) h=ε (.int (f i j:Nat),h):=by rw[LF (N.row i hi),SM.PD,UL a];rfl
def Wi.len(N:Wi h b c f):eB (.ref (b+c)) h=ε (.int (c:Nat),h):=by rw[TH N.top,KL]
def Wi.seq(N:Wi h b c f):IG (.ref (b+c),h)=ε (.rf (b+c),h):=SE N.top
def Wi.len1(N:Wi h b c f)(hi:i<c):eB (.ref (b+i)) h=ε (.int (c:Nat),h):=by rw[TH (N.row i hi),BO]
def Tv{i n:Nat}:∀l h b h',GB UD (eV i) l h=ε (b,h')->h[n]?=ε (.lst xs)->h'[n]?=ε (.lst xs):=by
 intro l h b h' e q;have a:=(Xa q).1;rw[LB,gA]at e;cases z:l[i]? with
 | none=>rw[z]at e;simp[fI]at e
 | some o=>
  rw[z]at e;cases o with
  | none=>simp[fI]at e
  | some d=>
   simp![iA,fA,UD]at e;cases y:XC h d with
   | none=>rw[y]at e;cases e
   | some f=>rw[y]at e;simp![Vu,Ge,xr]at e;obtain⟨_,rfl⟩:=e;rw[Yo a];exact q
def eX{n:Nat}:∀l h b h',cB l h=ε (b,h')->h[n]?=ε (.lst xs)->h'[n]?=ε (.lst xs):=by intro l h b h' e q;simp![bM,Ge,xr]at e;rw[<- e.2];exact q
def FW(d:te=GB UD (eV 0))(N:Wi h b c f)(j:c<=1000)(l)(g:0<l.length):XD (BA 0) cB te l (.rf (b+c),h)=ε (TF h.length c,h++(List.range c).map fun i=>Ob.lst (MC c (f i))):=by
 subst d;rw[tO N.top (by rw[KL];simp;omega) eX Tv];have:=vR (te:=GB UD (eV 0)) (i:=0) (fun(k:Nat)=>Dt.ref (b+k)) (fun i=>Ob.lst (MC c (f i))) h (List.range c) l [] (by
  intro k a e;have a:=Ci.mp a;have q:=(N.grow e).row k a;rw[LB,gA,vm g,iA,fA];simp![UD,XC,yA,q,Vu])
 rw[Ve,Fy]at this;exact this
noncomputable def mC(i j:Nat):Nat:=if i=j then 64 else 8191
def ZV(b c)(f):(aD b c f).length=c+1:=by simp[aD]
def aW(h)(hi:i<c)(f)(j v):(h++aD h.length c f).set (h.length+i) (.lst ((MC c (f i)).set j (.int (v:Nat))))=h++aD h.length c (yB f i j v):=by
 rw[set_append_right _ _ nofun,Ju]
 congr 1
 unfold aD;rw[set_append_left _ _ (by simpa using hi)]
 congr 1
 apply ext_getElem?;intro k;rw[getElem?_set];simp![ni,Fy,w5];by_cases a:k<c
 . rw[Oa a];by_cases e:i=k
   . subst e;have:(fun x=>if x=j then v else f i x)=yB f i j v i:=by funext x;simp[yB]
     simp[hi,uh,this]
   . have:¬k=i:=by omega
     have q:yB f i j v k=f k:=by funext x;simp[yB,this]
     simp[e,q]
 . rw[lu (by simpa using a)];have:¬i=k:=by omega
   simp[this]
def Gb(f)(i j v):yB f i j v i j=v:=by simp[yB]
def KB(f:Nat->Nat->Nat)(i m j:Nat):Nat->Nat->Nat:=yB (yB f i j (f i j&&&m)) j i (Zo (f i j&&&m))
def lO(N:Wi h b c f)(q:c<=1000)(hi:i<c)(a:j<c)(m) :
 sI [.ref (b+c),.int (i:Nat),.int (m:Nat),.int (j:Nat)] h=ε (.ref (h.length+c),h++aD h.length c (KB f i m j)):=by
 have x:=FW (te:=jV) rfl N q [none] ⋯;have e:=N.grow (aD h.length c f);have M1:=yG h c f;have M2:=yG h c (yB f i j (f i j&&&m));have p:=aW h hi f j (f i j&&&m);have o:=aW h a (yB f i j (f i j&&&m)) i (Zo (f i j&&&m));have g:=Ig (f i j&&&m) (h++aD h.length c (yB f i j (f i j&&&m)));have n:=fun(l:LI)=>VL (l:=l) (v:=.int ((f i j&&&m:Nat):Nat)) (M1.row i hi) (show j<(MC c (f i)).length by rw[BO];exact a)
 have k:=fun(l:LI)=>VL (l:=l) (v:=.int ((Zo (f i j&&&m):Nat):Nat)) (M2.row j a) (show i<(MC c (yB f i j (f i j&&&m) j)).length by rw[BO];exact hi)
 have d:=M2.ix2 hi a;rw[Gb]at d;have r:(h++(List.range c).map fun i=>Ob.lst (MC c (f i)))++[Ob.lst (TF h.length c)]=h++aD h.length c f:=by rw[tu];rfl
 have u:(h++(List.range c).map fun i=>Ob.lst (MC c (f i))).length=h.length+c:=by simp
 dsimp![sI,CV,zB,YA,MB,TL,FC,gA,Uu,Xi,Yi,Ye,Ti,Ui,iA,N.seq,MD,QD,x,r,u,jB,Nat.reduceSub,List.replicate,Wu,Wa,yS,oA,e.ix hi,e.ix2 hi a,M1.ix hi,jK,PJ,n,p,OA,zA,xA,M2.ix hi,d,Ve,g,M2.ix a,k,o,qB,HB];rfl
def yp(c)(g)(z)(e:h[n]?=ε (.lst (MC c g))):HG false (.int (z:Nat)) (.ref n) h=ε (.bl ((List.range c).any fun j=>g j==z),h):=by
 have d:∀a:Oo Nat,pF (a.map fun(j:Nat)=>Dt.int (g j:Nat))=ε (a.map fun(j:Nat)=>V.int (g j:Nat)):=by
  intro a
  induction a with
  | nil=>rfl
  | cons x a ih=>simp[pF,ZD,ih]
 have b:gQ (V.int (z:Nat)) ((List.range c).map fun(j:Nat)=>V.int (g j:Nat))=(List.range c).any fun j=>g j==z:=by
  unfold gQ;rw[any_map]
  congr 1
  funext j
  simp![Function.comp];unfold jN;by_cases q:g j=z
  . simp[q]
  . have:(g j:Int)≠(z:Int):=by omega
    show((g j:Int)==(z:Int))=(g j==z);rw[Fd.mpr this,Fd.mpr q]
 simp![HG,ZD,XC,yA,e,Wo,MC,d,b];simp
noncomputable def bB(c:Nat)(f:Nat->Nat->Nat):Bool:=(List.range c).any fun i=>(List.range c).any fun j=>f i j==0
def Rt{n:Nat}(a)(i):∀l h b h',e2 (HG false) (eC a) (eV i) l h=ε (b,h')->h[n]?=ε (.lst xs)->h'[n]?=ε (.lst xs):=by
 intro l h b h' e q;rw[oA,pA,fA,gA]at e;cases z:l[i]? with
 | none=>rw[z]at e;simp[fI]at e
 | some o=>
  rw[z]at e;cases o with
  | none=>simp[fI]at e
  | some d=>
   simp![iA,fA,HG]at e;cases j:ZD a with
   | none=>rw[j]at e;cases e
   | some p=>
    rw[j]at e;cases g:XC h d with
    | none=>rw[g]at e;cases e
    | some k=>
     rw[g]at e;cases f:pF k with
     | none=>simp[f]at e
     | some m=>simp![Wo,f,Ge,xr]at e;rw[<- e.2];exact q
def yg(a:te=e2 (HG false) (nS 0) (eV 0))(N:Wi h b c f)(e:c<=1000):XD (BA 0) cB te [none] (.rf (b+c),h)=ε (((List.range c).map fun i=>(List.range c).any fun j=>f i j==0).map Dt.bl,h):=by
 subst a;rw[tO N.top (by rw[KL];simp;omega) eX (Rt _ _)];have:=xF (te:=e2 (HG false) (nS 0) (eV 0)) (tc:=cB) (i:=0) (fun(k:Nat)=>Dt.ref (b+k)) (fun i=>Dt.bl ((List.range c).any fun j=>f i j==0)) h (List.range c) [none] (by
  intro k d;have:=yp c (f k) 0 (N.row k (Ci.mp d));simp![Io]at this;exact⟨rfl,by simp[this]⟩)
 rw[TF,this];simp[map_map]
def rR(N:Wi h b c f)(d:c<=1000):sG [.ref (b+c)] h=ε (.bl (bB c f),h):=by have e:=yg (te:=iV) rfl N d;have a:=Y6 (h:=h) ((List.range c).map fun i=>(List.range c).any fun j=>f i j==0);dsimp![sG,BV,zB,qB,LB,bF,FC,gA,Uu,Xi,Yi,Ye,Ti,iA,N.seq,MD,QD,e,a,HB];simp[bB,any_map]
noncomputable def DA(p:Nat×Nat):Dt:=.tup [.int (p.1:Nat),.int (p.2:Nat)]
noncomputable def eD(c:Nat)(n:Nat):Oo (Nat×Nat):=(List.range n).flatMap fun i=>(List.range (c-i-1)).map fun k=>(i,i+1+k)
def WA(c:Nat):Oo (Nat×Nat):=eD c c
def cz:p∈WA c↔p.1<p.2/\p.2<c:=by
 obtain⟨i,j⟩:=p;unfold WA eD;simp![Nu,Ci,Ce,xr];constructor
 . rintro⟨a,d,k,b,rfl,rfl⟩;omega
 . rintro⟨f,e⟩;exact⟨i,by omega,j-i-1,by omega,rfl,by omega⟩
def JJ(c n):(eD c n).length<=n*c:=by
 induction n with
 | zero=>simp[eD]
 | succ n ih=>
  have:eD c (n+1)=eD c n++(List.range (c-n-1)).map fun k=>(n,n+1+k):=by unfold eD;rw[Je,flatMap_append];simp
  rw[this,jj,ni,Fy,Nat.succ_mul];omega
def mO(p:c<=1000)(h):NH [.int (c:Nat)] h=ε (.ref h.length,h++[.lst ((WA c).map DA)]):=by
 have b:=dG (h:=h++[.lst []]) (show(-(2^62):Int)<=(c:Int) by omega) (show(c:Int)<2^62 by omega);simp![ou]at b;have u:c*c<=1000*1000:=Js p p;obtain⟨q,a,e,⟨y,z,rfl⟩,rfl⟩:=MJ (i:=2) (body:=aR) (fun(k:Nat)=>Dt.int (k:Int)) (fun(n:Nat) l a=>(∃y z,l=[ε (.int (c:Nat)),ε (.ref h.length),y,z])/\a=h++[.lst ((eD c n).map DA)]) c (by
  rintro n E l x ⟨⟨y,z,rfl⟩,rfl⟩;have H:=JJ c n;have r:n*c<=c*c:=Nat.mul_le_mul_right _ nofun;obtain⟨q,a,e,⟨y,rfl⟩,rfl⟩:=MJ (i:=3) (body:=ZQ) (fun(k:Nat)=>Dt.int ((n:Int)+1+(k:Int))) (fun(m:Nat) l a=>(∃y,l=[ε (.int (c:Nat)),ε (.ref h.length),ε (.int (n:Nat)),y])/\a=h++[.lst ((eD c n++(List.range m).map fun k=>(n,n+1+k)).map DA)]) (c-n-1) (by
   rintro m F l x ⟨⟨y,rfl⟩,rfl⟩;refine⟨.nx [ε (.int (c:Nat)),ε (.ref h.length),ε (.int (n:Nat)),ε (.int ((n:Int)+1+(m:Int)))] (h++[.lst ((eD c n++(List.range (m+1)).map fun k=>(n,n+1+k)).map DA)]),?_,⟨_,rfl⟩,rfl⟩;have D:=fun(l:LI) (g:RE) (d:Dt) (C:g l (h++[.lst ((eD c n++(List.range m).map fun k=>(n,n+1+k)).map DA)])=ε (d,h++[.lst ((eD c n++(List.range m).map fun k=>(n,n+1+k)).map DA)]))=>vG (h:=h++[.lst ((eD c n++(List.range m).map fun k=>(n,n+1+k)).map DA)]) (l:=l) (n:=h.length) (ys:=(eD c n++(List.range m).map fun k=>(n,n+1+k)).map DA) (xs:=(eD c n++(List.range m).map fun k=>(n,n+1+k)).map DA) ⋯ C ⋯ (by simp;omega)
   simp![ZQ,lF,uG,gA,Wa,Wu,Ti,Ui,iA,fA];rw[D _ _ (DA (n,n+1+m))]
   . simp![fA];rw[show ∀(o f:Ob),(h++[o]).set h.length f=h++[f] by simp];simp[Je]
   . simp[DA]) [ε (.int (c:Nat)),ε (.ref h.length),ε (.int (n:Nat)),z] (h++[.lst ((eD c n).map DA)]) ⟨⟨z,rfl⟩,by simp⟩
  have b:=Vb (h:=h++[.lst ((eD c n).map DA)]) (i:=(n:Int)+1) (j:=(c:Int)) nofun nofun nofun nofun;rw[show((c:Int)-((n:Int)+1)).toNat=c-n-1 by omega]at b;have B:eD c (n+1)=eD c n++(List.range (c-n-1)).map fun k=>(n,n+1+k):=by unfold eD;rw[Je,flatMap_append];simp
  refine⟨.nx [ε (.int (c:Nat)),ε (.ref h.length),ε (.int (n:Nat)),y] (h++[.lst ((eD c (n+1)).map DA)]),?_,⟨_,_,rfl⟩,rfl⟩
  . simp![aR,ND,p8,oA,gA,pA,Wa,Wu,Ti,Ui,iA,fA,AE,b,VF];rw[e,B]) [ε (.int (c:Nat)),ε (.ref h.length),none,none] (h++[.lst []]) ⟨⟨none,none,rfl⟩,by simp[eD]⟩
 dsimp![NH,DV,zB,YA,MB,nK,xA,Uu,Xi,Yi,Ye,jB,Nat.reduceSub,List.replicate,Wa,Wu,ND,XI,gA,Ti,Ui,iA,b,VF,CO,nW,e,qB,HB];rfl
structure ZA(c:Nat)(f:Nat->Nat->Nat):Prop where
 lt:∀i<c,∀j<c,f i j<8192
 tn:∀i<c,∀j<c,f j i=Zo (f i j)
def jM(c):ZA c mC:=by
 constructor
 . intro i _ j _;unfold mC;split<;>decide
 . intro i _ j _;unfold mC;by_cases h:i=j
   . subst h;rw[eG rfl];decide +kernel
   . have:¬j=i:=fun z=>h z.symm
     rw[eH h,eH this];decide +kernel
def II(o:ZA c f)(hi:i<c)(r:j<c)(d:i≠j)(m):ZA c (KB f i m j):=by
 have p:f i j&&&m<8192:=Ei Nat.and_le_left (o.lt i hi j r);have q:¬j=i:=fun z=>d z.symm
 constructor
 . intro a g b e;unfold KB yB
   repeat' split
   all_goals first | exact ZJ _ | exact p | exact o.lt a g b e
 . intro a g b e;unfold KB yB;by_cases n:a=i
   . subst n;by_cases k:b=j
     . subst k;simp[d]
     . by_cases h:b=a
       . subst h;simp[d];exact o.tn _ g _ e
       . simp[k,h,d];exact o.tn _ g _ e
   . by_cases k:a=j
     . subst k;by_cases h:b=i
       . subst h;simp[d,AO p]
       . simp[n,h];exact o.tn _ g _ e
     . simp[n,k];exact o.tn _ g _ e
noncomputable def jD(i k j:Nat):Dt:=.tup [.int (i:Nat),.int (k:Nat),.int (j:Nat)]
def Wk(f:Nat->Nat->Nat)(i k j:Nat):Nat:=f i j&&&FK (f i k) (f k j)
def JW(N:Wi h b c f)(hi:i<c)(a:k<c)(d:j<c):CL [.ref (b+c),jD i k j] h=ε (.int (Wk f i k j:Nat),h):=by dsimp![CL,pW,jD,zB,YA,MB,oA,gA,pA,Uu,Xi,Yi,Ye,Nat.reduceSub,List.replicate,Ti,Ui,iA,kC,RC,DG,DM,Vu,N.ix hi,N.ix2 hi a,N.ix a,N.ix2 a d,N.ix2 hi d,jB,Wa,Wu,qB,OA,zA,xA,Ve,y9,jK,PJ,HB];rfl
def cW(N:Wi h b c f)(g:c<=1000)(hi:i<c)(e:k<c)(a:j<c):DL [.ref (b+c),jD i k j] h=ε (.ref (h.length+c),h++aD h.length c (KB f i (Wk f i k j) j)):=by have d:=JW N hi e a;have e2:=lO N g hi a (Wk f i k j);unfold jD at d ⊢;dsimp![DL,qW,zB,oA,gA,pA,Uu,Xi,Nat.reduceSub,List.replicate,Ti,Ui,iA,kC,RC,DM,Vu,qB,OA,zA,xA,Ve,d,e2,HB]
def vX(f)(i k j):f i j&&&Wk f i k j=Wk f i k j:=by unfold Wk;rw[<- Nat.and_assoc,Nat.and_self]
def OC{rest:RS}(e:f l h=ε (d,h1))(a:l.set i (ε d)=l'):jA (CA i f) rest l h=rest l' h1:=by simp![YA,MB,e,fA,jB,a]
def gD{a rest:RS}(e:t l h=ε (false,h1)):jA (bC t a SA) rest l h=rest l h1:=by simp![YA,FB,e,fA,Xo,g8,OD,jB]
def D7{rest:RS}(e:t l h=ε (true,h1))(a:f l h1=ε (d,h2)):jA (bC t (wA f) SA) rest l h=ε (.rt d h2):=by simp![YA,FB,e,fA,eO,qB,a,xE]
def JC{rest:RS}(e:t l h=ε (true,h1))(a:f l h1=ε (d,h2)):vC (jA (bC t (wA f) SA) rest l h)=ε (d,h2):=by rw[D7 e a,HB]
def sH(e:f l h=ε (d,h1)):vC (wA f l h)=ε (d,h1):=by simp![qB,e,fA,HB]
def gn{rest:RS}(e:l[i]?=ε (ε (.ref n)))(a:iN g l (.ref n,h)=ε (.non,h1)):jA (TD (fE (eV i) g)) rest l h=rest l h1:=by simp![YA,lF,uG,gA,e,iA,fA,a,jB]
section
variable{f:RE}{rest body:RS}{l l':LI}{h h1 h2:HI}{d:Dt}{R:O4 (Dt×HI)}{i:Nat}{t:RT}{g:RI}{b:RG}{src:mo}
def uE(e:f l h=ε (d,h1))(a:l.set i (ε d)=l')(k:vC (rest l' h1)=R):vC (jA (CA i f) rest l h)=R:=by rw[OC e a];exact k
def KC(e:t l h=ε (false,h1))(k:vC (rest l h1)=R):vC (jA (bC t a SA) rest l h)=R:=by rw[gD e];exact k
def jZ(e:g l h=ε (src,h1))(a:xD b body l (src,h1)=ε (.nx l' h2))(k:vC (rest l' h2)=R):vC (jA (GC g b body) rest l h)=R:=by rw[<- k];simp![YA,ND,e,fA,a,jB]
end
def PB(f:Nat->Nat->Nat)(i k j:Nat):Nat->Nat->Nat:=KB f i (Wk f i k j) j
def fG(f)(a:i≠j):PB f i k j i j=Wk f i k j:=by unfold PB KB yB;simp[a,vX]
def JL(f)(i k j):PB f i k j j i=Zo (Wk f i k j):=by unfold PB KB yB;simp[vX]
def XF(f)(h1:¬(a=i/\b=j))(h2:¬(a=j/\b=i)):PB f i k j a b=f a b:=by
 unfold PB KB yB;by_cases q1:a=j
 . subst q1;have:¬b=i:=fun z=>h2 ⟨rfl,z⟩
   by_cases q2:a=i
   . subst q2;simp[this]
   . simp[this,q2]
 . by_cases q2:a=i
   . subst q2;have:¬b=j:=fun z=>h1 ⟨rfl,z⟩
     simp[q1,this]
   . simp[q1,q2]
def Yu(a b:Nat):Prop:=a&&&b=a
def bm:Yu a b↔∀k,a.testBit k=true->b.testBit k=true:=by
 unfold Yu;constructor
 . intro h k d;rw[<- h,Ae,w6]at d;exact d.2
 . intro h;apply Ja;intro k;rw[Ae];cases q:a.testBit k with
   | false=>rfl
   | true=>rw[h k q];rfl
def Yu.refl(a):Yu a a:=Nat.and_self a
def Yu.trans(h1:Yu a b)(h2:Yu b c):Yu a c:=bm.mpr fun k d=>bm.mp h2 k (bm.mp h1 k d)
def fL(a b):Yu (a&&&b) a:=bm.mpr fun k d=>by rw[Ae,w6]at d;exact d.1
def Hh(h1:Yu a b)(h2:Yu a c):Yu a (b&&&c):=bm.mpr fun k d=>by rw[Ae,bm.mp h1 k d,bm.mp h2 k d];rfl
def Hw(h1:Yu a e)(h2:Yu b d):Yu (FK a b) (FK e d):=bm.mpr fun k f=>by obtain⟨i,j,q1,q2,q3,q4,q5⟩:=(ZO a b k).mp f;exact(ZO e d k).mpr ⟨i,j,q1,bm.mp h1 i q2,q3,bm.mp h2 j q4,q5⟩
def tY(a b):Zo (a&&&b)=Zo a&&&Zo b:=by
 refine KG (ZJ _) (Ei Nat.and_le_left (ZJ a)) fun k d=>?_
 rw[VE _ d,Ae,Ae,VE _ d,VE _ d]
def uY(e:a<8192)(d:b<8192)(h:Zo a=Zo b):a=b:=by rw[<- AO e,h,AO d]
def ld:Zo 0=0:=by decide +kernel
def dX(h:Yu a b):Yu (Zo a) (Zo b):=by unfold Yu at h ⊢;rw[<- tY,h]
def bP(o:ZA c f)(hi:i<c)(a:j<c):Wk f i k j<8192:=Ei Nat.and_le_left (o.lt i hi j a)
def VO(o:ZA c f)(hi:i<c)(a:k<c)(b:j<c):Wk f j k i=Zo (Wk f i k j):=by unfold Wk;rw[o.tn i hi j b,o.tn k a j b,o.tn i hi k a,Iw,tY]
def tS(o:ZA c f)(hi:i<c)(b:k<c)(a:j<c)(h:Wk f j k i≠f j i):Wk f i k j≠f i j:=by intro e;apply h;rw[VO o hi b a,e,<- o.tn i hi j a]
def dM(o:ZA c f)(hi:i<c)(b:j<c)(a:i≠j):ZA c (PB f i k j):=II o hi b a _
def FD(W:Oo (Nat×Nat))(i k j:Nat):Prop:=(i,k)∈W\/(k,i)∈W\/(k,j)∈W\/(j,k)∈W
def NF(i k j:Nat):Prop:=i≠k/\k≠j/\i≠j
def qD(c:Nat)(f:Nat->Nat->Nat)(W:Oo (Nat×Nat))(R:Oo (Nat×Nat×Nat)):Prop:=
 ∀i<c,∀k<c,∀j<c,NF i k j->Wk f i k j≠f i j->FD W i k j\/(i,k,j)∈R\/(j,k,i)∈R
noncomputable def AG(a b c:Nat):Oo (Nat×Nat×Nat):=(List.range c).flatMap fun o=>if o=a\/o=b then []else [(a,b,o),(b,a,o)]
def gi:t∈AG a b c↔∃o,o<c/\o≠a/\o≠b/\(t=(a,b,o)\/t=(b,a,o)):=by
 unfold AG;simp![Nu,Ci];constructor
 . rintro⟨o,d,h⟩;by_cases q:o=a\/o=b
   . rw[eG q]at h;cases h
   . rw[eH q]at h;simp![Bu,not_mem_nil,or_false]at h;exact⟨o,d,fun z=>q (.inl z),fun z=>q (.inr z),h⟩
 . rintro⟨o,d,f,e,h⟩;refine⟨o,d,?_⟩;rw[eH (by rintro(z | z);exact f z;exact e z)];simpa using h
def Vw(h:qD c f ((a,b)::W) []):qD c f W (AG a b c):=by
 intro i m k q j g d n;obtain⟨p,o,e⟩:=d;rcases h i m k q j g ⟨p,o,e⟩ n with h | h | h
 . unfold FD at h ⊢;simp![Bu,xr]at h;rcases h with(⟨rfl,rfl⟩ | h) | (⟨rfl,rfl⟩ | h) | (⟨rfl,rfl⟩ | h) | (⟨rfl,rfl⟩ | h)
   . exact .inr (.inl (gi.mpr ⟨j,g,n7 e,n7 o,.inl rfl⟩))
   . exact .inl (.inl h)
   . exact .inr (.inl (gi.mpr ⟨j,g,n7 o,n7 e,.inr rfl⟩))
   . exact .inl (.inr (.inl h))
   . exact .inr (.inr (gi.mpr ⟨i,m,p,e,.inr rfl⟩))
   . exact .inl (.inr (.inr (.inl h)))
   . exact .inr (.inr (gi.mpr ⟨i,m,e,p,.inl rfl⟩))
   . exact .inl (.inr (.inr (.inr h)))
 . cases h
 . cases h
def Ux(o:ZA c f)(b:x<c)(a:y<c)(hz:z<c)(h:qD c f W ((x,y,z)::R))(n:Wk f x y z=f x z):qD c f W R:=by
 intro i p k e j g d m;rcases h i p k e j g d m with h | h | h
 . exact .inl h
 . rcases Bu.mp h with h | h
   . cases h;exact Es n m
   . exact .inr (.inl h)
 . rcases Bu.mp h with h | h
   . cases h;exact Es n (tS o b a hz m)
   . exact .inr (.inr h)
def OW(h:Yu a b)(q:b&&&e=b):a&&&e=a:=Yu.trans h q
def Vx(o:ZA c f)(M:x<c)(T:y<c)(hz:z<c)(Q:NF x y z)(h:qD c f W ((x,y,z)::R)):qD c (PB f x y z) (W++[(x,z)]) R:=by
 obtain⟨Y,U,S⟩:=Q;have I:=dM (k:=y) o M hz S;have e:∀i<c,∀k<c,∀j<c,NF i k j->¬(i=z/\j=x)->Wk (PB f x y z) i k j≠PB f x y z i j->FD (W++[(x,z)]) i k j\/(i,k,j)∈R\/(j,k,i)∈R:=by
  intro i r k g j p d B m;obtain⟨u,e2,b⟩:=d;have grow:∀{i k j},FD W i k j->FD (W++[(x,z)]) i k j:=by
   intro i k j q;unfold FD at q ⊢;simp![Ca];rcases q with q | q | q | q
   . exact .inl (.inl q)
   . exact .inr (.inl (.inl q))
   . exact .inr (.inr (.inl (.inl q)))
   . exact .inr (.inr (.inr (.inl q)))
  by_cases E:i=x/\j=z
  . obtain⟨rfl,rfl⟩:=E;have D:PB f i y j i k=f i k:=XF f (fun q=>e2 q.2) (fun q=>u q.2.symm);have C:PB f i y j k j=f k j:=XF f (fun q=>u q.1.symm) (fun q=>e2 q.1);have F:Wk (PB f i y j) i k j=Wk f i y j&&&FK (f i k) (f k j):=by unfold Wk;rw[D,C,fG f b];rfl
    by_cases H:k=y
    . subst H;exfalso;apply m;rw[F,fG f b];unfold Wk;rw[Nat.and_assoc,Nat.and_self]
    . have n:Wk f i k j≠f i j:=by intro q;apply m;rw[F,fG f b];exact OW (fL (f i j) _) q
      rcases h i r k g j p ⟨u,e2,b⟩ n with q | q | q
      . exact .inl (grow q)
      . rcases Bu.mp q with q | q
        . cases q;exact Es rfl H
        . exact .inr (.inl q)
      . rcases Bu.mp q with q | q
        . simp![xr]at q;exact Es q.1.symm b
        . exact .inr (.inr q)
  . by_cases a:FD [(x,z)] i k j
    . refine .inl ?_;unfold FD at a ⊢;simp![Ca];rcases a with q | q | q | q
      . exact .inl (.inr q)
      . exact .inr (.inl (.inr q))
      . exact .inr (.inr (.inl (.inr q)))
      . exact .inr (.inr (.inr (.inr q)))
    . unfold FD at a;simp![Bu,not_mem_nil,or_false,xr,not_or]at a;obtain⟨P,g2,g3,O⟩:=a;have L:PB f x y z i j=f i j:=XF f (fun q=>E q) (fun q=>B q);have D:PB f x y z i k=f i k:=XF f (fun q=>P q) (fun q=>g2 ⟨q.2,q.1⟩);have C:PB f x y z k j=f k j:=XF f (fun q=>g3 q) (fun q=>O ⟨q.2,q.1⟩);have n:Wk f i k j≠f i j:=by unfold Wk at m ⊢;rw[L,D,C]at m;exact m
      rcases h i r k g j p ⟨u,e2,b⟩ n with q | q | q
      . exact .inl (grow q)
      . rcases Bu.mp q with q | q
        . simp![xr]at q;exact Es ⟨q.1,q.2.2⟩ E
        . exact .inr (.inl q)
      . rcases Bu.mp q with q | q
        . simp![xr]at q;exact Es ⟨q.2.2,q.1⟩ B
        . exact .inr (.inr q)
 intro i r k g j p d m;by_cases B:i=z/\j=x
 . obtain⟨u,e2,b⟩:=d;have J:=tS I p g r m;rcases e j p k g i r ⟨n7 e2,n7 u,n7 b⟩ (fun q=>b nofun) J with q | q | q
   . refine .inl ?_;unfold FD at q ⊢;rcases q with q | q | q | q
     . exact .inr (.inr (.inr q))
     . exact .inr (.inr (.inl q))
     . exact .inr (.inl q)
     . exact .inl q
   . exact .inr (.inr q)
   . exact .inr (.inl q)
 . exact e i r k g j p d B m
def HC(c:Nat)(f:Nat->Nat->Nat):Prop:=∀i<c,∀k<c,∀j<c,NF i k j->Wk f i k j=f i j
def vq(h:qD c f [] []):HC c f:=by
 intro i e k a j b d;apply Classical.byContradiction;intro n;rcases h i e k a j b d n with q | q | q
 . unfold FD at q;simp at q
 . cases q
 . cases q
def tR(c)(f):qD c f (WA c) []:=by
 intro i b k a j g d _;refine .inl ?_;unfold FD;obtain⟨e,_,_⟩:=d;rcases Nat.lt_or_gt_of_ne e with h | h
 . exact .inl (cz.mpr ⟨h,a⟩)
 . exact .inr (.inl (cz.mpr ⟨h,b⟩))
def nI(m:Nat):Nat:=(HA m).length
theorem yR{b:Type}{p q:b->Bool}:∀(xs:Oo b),(∀x∈xs,p x=true->q x=true)->(xs.filter p).length<=(xs.filter q).length
 | [],_=>by simp
 | x::xs,H=>by
  have ih:=yR xs fun y e=>H y (by simp[e])
  have f:=H x ⋯;by_cases a:p x=true
  . simp[a,f a];exact ih
  . by_cases d:q x=true
    . simp[a,d];omega
    . simp[a,d];exact ih
theorem zR{e:Type}{p q:e->Bool}:∀(xs:Oo e),(∀x∈xs,p x=true->q x=true)->(∃x∈xs,p x=false/\q x=true)->(xs.filter p).length<(xs.filter q).length
 | [],_,h=>by obtain⟨x,h,_⟩:=h;cases h
 | x::xs,H,h=>by
  have g:=H x ⋯;have f:=yR xs fun y hy=>H y (by simp[hy])
  by_cases a:p x=true
  . obtain⟨y,hy,b,g2⟩:=h;rcases Bu.mp hy with rfl | hy
    . rw[a]at b;cases b
    . have:=zR xs (fun y hy=>H y (by simp[hy])) ⟨y,hy,b,g2⟩;simp[a,g a];exact this
  . by_cases d:q x=true
    . simp[a,d];omega
    . obtain⟨y,hy,b,g2⟩:=h;rcases Bu.mp hy with rfl | hy
      . rw[g2]at d;exact Es rfl d
      . have:=zR xs (fun y hy=>H y (by simp[hy])) ⟨y,hy,b,g2⟩;simp[a,d];exact this
def UY(h:Yu a b):nI a<=nI b:=yR _ fun k q d=>bm.mp h k d
def Ac(h:Yu a b)(g:a<8192)(f:b<8192)(n:a≠b):nI a<nI b:=by
 refine zR _ (fun k z e=>bm.mp h k e) ?_;apply Classical.byContradiction;intro d;apply n;refine KG g f fun k e=>?_
 cases q:b.testBit k with
 | true=>
  cases q2:a.testBit k with
  | true=>rfl
  | false=>exact Es ⟨k,Ci.mpr e,q2,q⟩ d
 | false=>
  cases q2:a.testBit k with
  | false=>rfl
  | true=>rw[bm.mp h k q2]at q;cases q
theorem oK{a:Type}{u v:a->Nat}:∀(xs:Oo a),(∀x∈xs,u x<=v x)->(xs.map u).sum<=(xs.map v).sum
 | [],_=>by simp
 | x::xs,H=>by
  have:=oK xs fun y b=>H y (by simp[b])
  have:=H x ⋯;simp![Uu,sum_cons];omega
theorem WS{a:Type}{u v:a->Nat}:∀(xs:Oo a),(∀x∈xs,u x<=v x)->(∃x∈xs,u x<v x)->(xs.map u).sum<(xs.map v).sum
 | [],_,h=>by obtain⟨x,h,_⟩:=h;cases h
 | x::xs,H,h=>by
  have d:=oK xs fun y hy=>H y (by simp[hy])
  have b:=H x ⋯;simp![Uu,sum_cons];obtain⟨y,hy,g⟩:=h;rcases Bu.mp hy with rfl | hy
  . omega
  . have:=WS xs (fun y hy=>H y (by simp[hy])) ⟨y,hy,g⟩;omega
def dE(c:Nat)(f:Nat->Nat->Nat):Nat:=((List.range c).map fun i=>((List.range c).map fun j=>nI (f i j)).sum).sum
theorem XQ{a:Type}{u:a->Nat}:∀(xs:Oo a),(∀x∈xs,u x<=m)->(xs.map u).sum<=xs.length*m
 | [],_=>by simp
 | x::xs,H=>by
  have:=XQ xs fun y b=>H y (by simp[b])
  have:=H x ⋯;simp![Uu,sum_cons,Ua,Nat.succ_mul];omega
def NR(c)(f):dE c f<=c*(c*13):=by
 have:=XQ (u:=fun i=>((List.range c).map fun j=>nI (f i j)).sum) (m:=c*13) (List.range c) fun i q=>by
  have:=XQ (u:=fun j=>nI (f i j)) (m:=13) (List.range c) fun j q=>YL _
  simpa using this
 simpa[dE]using this
def MR(o:ZA c f)(hi:i<c)(h:j<c)(d:i≠j)(a b):Yu (PB f i k j a b) (f a b):=by
 by_cases g:a=i/\b=j
 . obtain⟨rfl,rfl⟩:=g;rw[fG f d];exact fL _ _
 . by_cases e:a=j/\b=i
   . obtain⟨rfl,rfl⟩:=e;rw[JL,o.tn b hi a h];exact dX (fL _ _)
   . rw[XF f g e];exact Yu.refl _
def TV(o:ZA c f)(hi:i<c)(e:j<c)(d:i≠j)(n:Wk f i k j≠f i j):dE c (PB f i k j)<dE c f:=by refine WS _ (fun a q=>oK _ fun b q=>UY (MR o hi e d a b)) ⟨i,Ci.mpr hi,WS _ (fun b q=>UY (MR o hi e d i b)) ⟨j,Ci.mpr e,?_⟩⟩;rw[fG f d];exact Ac (fL _ _) (bP o hi e) (o.lt i hi j e) n
inductive mr(c:Nat)(f:Nat->Nat->Nat):List (Nat×Nat×Nat)->(Nat->Nat->Nat)->Prop where
 | nil:mr c f [] f
 | snoc {st:List (Nat×Nat×Nat)} {g:Nat->Nat->Nat} {i k j:Nat} (h:mr c f st g) (hi:i<c) (hk:k<c) (hj:j<c) (d:NF i k j) (ne:bB c g=false) (n:Wk g i k j≠g i j):mr c f (st++[(i,k,j)]) (PB g i k j)
def mr.ok{st:Oo (Nat×Nat×Nat)}(h:mr c f st g)(o:ZA c f):ZA c g:=by
 induction h with
 | nil=>exact o
 | snoc h b e a d ne n ih=>exact dM ih b a d.2.2
def gm:bB c f=true↔∃i<c,∃j<c,f i j=0:=by unfold bB;simp![any_eq_true,Ci,beq_iff_eq]
def di(h:bB c f=false)(hi:i<c)(a:j<c):f i j≠0:=fun e=>by have:=gm.mpr ⟨i,hi,j,a,e⟩;rw[h]at this;cases this
def jc(b:a<8192)(h:a≠0):Zo a≠0:=fun e=>h (uY b (by decide) (e.trans ld.symm))
def Lx(o:ZA c f)(hi:i<c)(g:j<c)(d:i≠j)(ne:bB c f=false):bB c (PB f i k j)=decide (Wk f i k j=0):=by
 by_cases h:Wk f i k j=0
 . rw[je h];exact gm.mpr ⟨i,hi,j,g,by rw[fG f d];exact h⟩
 . rw[iu h];cases q:bB c (PB f i k j)with
   | false=>rfl
   | true=>
    obtain⟨a,r,b,p,e⟩:=gm.mp q;exfalso;by_cases n:a=i/\b=j
    . obtain⟨rfl,rfl⟩:=n;rw[fG f d]at e;exact h e
    . by_cases m:a=j/\b=i
      . obtain⟨rfl,rfl⟩:=m;rw[JL]at e;exact jc (bP o hi g) h e
      . rw[XF f n m]at e;exact di ne r p e
def zD(t:Nat×Nat×Nat):Dt:=jD t.1 t.2.1 t.2.2
def dW(N:Wi h b c f)(hi:i<c)(e:k<c)(a:j<c):EL [.ref (b+c),jD i k j] h=ε (.bl (!decide (Wk f i k j=f i j)),h):=by
 have d:=JW N hi e a;have q:decide (((Wk f i k j:Nat):Int)=((f i j:Nat):Int))=decide (Wk f i k j=f i j):=by
  congr 1
  apply propext;omega
 unfold jD at d ⊢;dsimp![EL,rW,zB,oA,gA,pA,Uu,Xi,Nat.reduceSub,List.replicate,Ti,Ui,iA,kC,RC,DM,Vu,qB,OA,zA,xA,Ve,d,N.ix hi,N.ix2 hi a,gH,q,HB]
def Ot(o a b)(h):HG true (.int (o:Nat)) (DA (a,b)) h=ε (.bl (!(decide (o=a) || decide (o=b))),h):=by
 have d:gQ (V.int (o:Nat)) [V.int (a:Nat),V.int (b:Nat)]=(decide (o=a) || decide (o=b)):=by
  unfold gQ;simp![Ku,any_nil,Bool.or_false];show(((a:Nat):Int)==((o:Nat):Int) || ((b:Nat):Int)==((o:Nat):Int))=_;have f:(((a:Nat):Int)==((o:Nat):Int))=decide (o=a):=by
   by_cases q:o=a
   . subst q;simp
   . have:((a:Nat):Int)≠((o:Nat):Int):=by omega
     simp[q,this]
  have e2:(((b:Nat):Int)==((o:Nat):Int))=decide (o=b):=by
   by_cases q:o=b
   . subst q;simp
   . have:((b:Nat):Int)≠((o:Nat):Int):=by omega
     simp[q,this]
  rw[f,e2]
 have e:pF [Dt.int (a:Nat),Dt.int (b:Nat)]=ε [V.int (a:Nat),V.int (b:Nat)]:=rfl;simp![HG,ZD,XC,DA,Wo,e,d];rfl
noncomputable def mD(a b n:Nat):Oo (Nat×Nat×Nat):=(List.range n).flatMap fun o=>if o=a\/o=b then []else [(a,b,o),(b,a,o)]
def nq(a b n):(mD a b n).length<=2*n:=by
 induction n with
 | zero=>simp[mD]
 | succ n ih=>
  have:mD a b (n+1)=mD a b n++(if n=a\/n=b then []else [(a,b,n),(b,a,n)]):=by unfold mD;rw[Je,flatMap_append];simp
  rw[this,jj];split<;>simp<;>omega
def Hg(F:c<=1000)(h):TN [DA (a,b),.int (c:Nat)] h=ε (.ref h.length,h++[.lst ((AG a b c).map zD)]):=by
 have u:=dG (h:=h++[.lst []]) (show(-(2^62):Int)<=(c:Int) by omega) (show(c:Int)<2^62 by omega);simp![ou]at u;have d:∀(o p:Ob),(h++[o]).set h.length p=h++[p]:=by simp
 obtain⟨C,r,e,⟨y,rfl⟩,rfl⟩:=MJ (i:=3) (body:=NQ) (fun(k:Nat)=>Dt.int (k:Int)) (fun(n:Nat) l r=>(∃y,l=[ε (DA (a,b)),ε (.int (c:Nat)),ε (.ref h.length),y])/\r=h++[.lst ((mD a b n).map zD)]) c (by
  rintro n D l H ⟨⟨y,rfl⟩,rfl⟩;have E:=nq a b n;have x:mD a b (n+1)=mD a b n++(if n=a\/n=b then []else [(a,b,n),(b,a,n)]):=by unfold mD;rw[Je,flatMap_append];simp
  refine⟨.nx [ε (DA (a,b)),ε (.int (c:Nat)),ε (.ref h.length),ε (.int (n:Nat))] (h++[.lst ((mD a b (n+1)).map zD)]),?_,⟨_,rfl⟩,rfl⟩;have B:=Ot n a b (h++[.lst ((mD a b n).map zD)]);have m:=fun(l:LI) (g:RE) (f:g l (h++[.lst ((mD a b n).map zD)])=ε (zD (a,b,n),h++[.lst ((mD a b n).map zD)]))=>vG (h:=h++[.lst ((mD a b n).map zD)]) (l:=l) (n:=h.length) (ys:=(mD a b n).map zD) (xs:=(mD a b n).map zD) ⋯ f ⋯ (by simp;omega)
  have j:=fun(l:LI) (g:RE) (f:g l (h++[.lst ((mD a b n).map zD++[zD (a,b,n)])])=ε (zD (b,a,n),h++[.lst ((mD a b n).map zD++[zD (a,b,n)])]))=>vG (h:=h++[.lst ((mD a b n).map zD++[zD (a,b,n)])]) (l:=l) (n:=h.length) (ys:=(mD a b n).map zD++[zD (a,b,n)]) (xs:=(mD a b n).map zD++[zD (a,b,n)]) ⋯ f ⋯ (by simp;omega)
  simp![NQ,FB,IA,oA,gA,Wa,Wu,Ti,Ui,iA,fA,B,NA,YA,lF,uG,OD];by_cases q:n=a\/n=b
  . have:(decide (n=a) || decide (n=b))=true:=by simpa using q
    rw[this,x,eG q];simp
  . have:(decide (n=a) || decide (n=b))=false:=by simpa using q
    rw[this,x,eH q];simp![wu,eO];rw[m _ _ (by simp[DA,zD,jD])];simp![fA,jB,d,lF,uG,gA,Ti,Ui,iA];rw[j _ _ (by simp[DA,zD,jD])];simp![fA,d];simp) [ε (DA (a,b)),ε (.int (c:Nat)),ε (.ref h.length),none] (h++[.lst []]) ⟨⟨_,rfl⟩,by simp[mD]⟩
 dsimp![TN,PU,zB,YA,MB,nK,xA,Uu,Xi,Yi,Ye,jB,Nat.reduceSub,List.replicate,Wa,Wu,ND,XI,gA,Ti,Ui,iA,u,VF,CO,nW,e,qB,HB];rfl
structure Rst(h0:HI)(c:Nat)(f:Nat->Nat->Nat)(s w b:Nat)(st:List (Nat×Nat×Nat))(W:List (Nat×Nat))(g:Nat->Nat->Nat)(h:HI):Prop where
 low:∀n,n<h0.length->h[n]?=h0[n]?
 len:h0.length<=h.length
 hs:h[s]?=ε (.lst (st.map zD))
 hw:h[w]?=ε (.lst (W.map DA))
 net:Wi h b c g
 s0:h0.length<=s
 w0:h0.length<=w
 b0:h0.length<=b
 sw:s≠w
 sb:s<b\/b+c<s
 wb:w<b\/b+c<w
 run:mr c f st g
 ne:bB c g=false
 sm:st.length+dE c g<=dE c f
 wc:∀p∈W,p.1<c/\p.2<c/\p.1≠p.2
def Rst.grow{st:Oo (Nat×Nat×Nat)}(R:Rst a c f s w b st W g h)(e):Rst a c f s w b st W g (h++e):=by
 have i:=(Xa R.hs).1;have d:=(Xa R.hw).1;exact { R with
  low:=fun n j=>by rw[Yo (by have:=R.len;omega)];exact R.low n j
  len:=by have:=R.len;rw[jj];omega
  hs:=by rw[Yo i];exact R.hs
  hw:=by rw[Yo d];exact R.hw
  net:=R.net.grow e }
inductive bJ(h0:HI)(c:Nat)(f:Nat->Nat->Nat)(d:Dt)(h:HI):Prop
 | mk (x:Dt) (s:Nat) (st:List (Nat×Nat×Nat)) (g:Nat->Nat->Nat) (p0:d=.tup [x,.ref s]) (p1:h0.length<=s) (p2:h0.length<=h.length) (p3:∀n,n<h0.length->h[n]?=h0[n]?) (p4:h[s]?=ε (.lst (st.map zD))) (p5:mr c f st g) (p6:st.length<=dE c f)
  (p7:(x=.non/\bB c g=true)\/∃b,x=.ref (b+c)/\h0.length<=b/\Wi h b c g/\HC c g/\bB c g=false/\(s<b\/b+c<s)):bJ h0 c f d h
def zf(hc:c<=100)(of:ZA c f){st:Oo (Nat×Nat×Nat)}(R:Rst P c f s w b st W g h)(D:x<c)(U:y<c)(hz:z<c)(d:NF x y z)(lW:W.length<=2000000)(u m j:O4 Dt) :
 ∃r,pJ [u,m,ε (.ref s),ε (.ref (b+c)),ε (.ref w),j,ε (jD x y z)] h=ε r/\
  KI (fun l' h'=>∃b' J W' Q,l'=[u,m,ε (.ref s),ε (.ref (b'+c)),ε (.ref w),j,ε (jD x y z)]/\Rst P c f s w b' J W' Q h'/\(∀n,n<h.length->n≠s->n≠w->h'[n]?=h[n]?)/\h.length<=h'.length/\
   ((Wk g x y z=g x z/\b'=b/\J=st/\W'=W/\Q=g/\h'=h)\/(W'=W++[(x,z)]/\Q=PB g x y z/\dE c Q<dE c g))) (bJ P c f) r:=by
 have og:=R.run.ok of;have tl:=NR c f;have a5:c*(c*13)<=100*(100*13):=Js hc (Nat.mul_le_mul_right 13 hc);have en:=dW R.net D U hz;by_cases q:Wk g x y z=g x z
 . refine⟨.nx [u,m,ε (.ref s),ε (.ref (b+c)),ε (.ref w),j,ε (jD x y z)] h,?_,b,st,W,g,rfl,R,fun v v v v=>rfl,Va _,.inl ⟨q,rfl,rfl,rfl,rfl,rfl⟩⟩;simp![pJ,FB,IA,OA,zA,xA,gA,Ti,Ui,iA,fA,Ve,en,NA,q,decide_true,wz,Xo,g8,OD]
 . have em:=cW R.net (show c<=1000 by omega) D U hz;obtain⟨C,e⟩:∃C,C=h++aD h.length c (PB g x y z):=⟨_,rfl⟩
   rw[show KB g x (Wk g x y z) z=PB g x y z from rfl,<- e]at em;have len1:C.length=h.length+(c+1):=by rw[e,jj,ZV]
   have M1:Wi C h.length c (PB g x y z):=e ▸ yG h c _;have ls:=(Xa R.hs).1;have S:=(Xa R.hw).1;have M:C[s]?=ε (.lst (st.map zD)):=by rw[e,Yo ls];exact R.hs
   have Y:C[w]?=ε (.lst (W.map DA)):=by rw[e,Yo S];exact R.hw
   have sm:=R.sm;have ts:=TV og D hz d.2.2 q;obtain⟨i,a⟩:∃i,i=C.set s (.lst (st.map zD++[jD x y z])):=⟨_,rfl⟩
   have ea:=vG (h:=C) (l:=[u,m,ε (.ref s),ε (.ref (h.length+c)),ε (.ref w),j,ε (jD x y z)]) (g:=eV 6) (n:=s) (ys:=st.map zD) (xs:=st.map zD) (d:=jD x y z) (h':=C) M ⋯ M (by simp;omega);rw[<- a]at ea;have M2:Wi i h.length c (PB g x y z):=a ▸ M1.other (.inl ls) _;have L:i[s]?=ε (.lst ((st++[(x,y,z)]).map zD)):=by rw[a,vm nofun];simp[zD]
   have E:i[w]?=ε (.lst (W.map DA)):=by rw[a,m8 R.sw];exact Y
   have H:=R.run.snoc D U hz d R.ne q;have I:∀n,n<P.length->i[n]?=P[n]?:=fun n O=>by have:=R.len;have:=R.s0;rw[a,m8 nofun,e,Yo nofun];exact R.low n O
   have cH:i.length=h.length+(c+1):=by rw[a,Le];exact len1
   have T:=M2.ix D;have ix2:=M2.ix2 D hz;rw[fG g d.2.2]at ix2;have se:=Lx (k:=y) og D hz d.2.2 R.ne;have zi:(decide (((Wk g x y z:Nat):Int)=0))=decide (Wk g x y z=0):=by
    congr 1
    apply propext;omega
   generalize F:pJ [u,m,ε (.ref s),ε (.ref (b+c)),ε (.ref w),j,ε (jD x y z)] h=X;simp![pJ,FB,IA,OA,zA,xA,gA,Ti,Ui,iA,fA,Ve,en,NA,q,decide_false,wu,eO]at F;have B:mn (e2 pG (e2 nA (e2 nA (eV 3) (e2 nA (eV 6) (nS 0))) (e2 nA (eV 6) (nS 2))) (nS 0)) [u,m,ε (.ref s),ε (.ref (h.length+c)),ε (.ref w),j,ε (jD x y z)] i=ε (decide (Wk g x y z=0),i):=by simp![jD,IA,oA,gA,pA,Ti,Ui,iA,fA,kC,RC,DM,Vu,T,ix2,M5,zi,NA]
   rw[OC (l':=[u,m,ε (.ref s),ε (.ref (h.length+c)),ε (.ref w),j,ε (jD x y z)]) (by simp![OA,zA,xA,gA,Ti,Ui,iA,fA,Ve];exact em) rfl,gn (n:=s) rfl ea]at F;by_cases q0:Wk g x y z=0
   . refine⟨.rt (.tup [.non,.ref s]) i,?_,.non,s,st++[(x,y,z)],PB g x y z,rfl,R.s0,by have:=R.len;omega,I,L,H,by simp;omega,.inl ⟨rfl,by rw[se];simp[q0]⟩⟩;rw[je q0]at B;dsimp![YA,FB,B,qB,AC,zA,xA,pA,gA,Ti,Ui,iA]at F;rw[<- F,eG (by decide)];rfl
   . have a3:=vG (h:=i) (l:=[u,m,ε (.ref s),ε (.ref (h.length+c)),ε (.ref w),j,ε (jD x y z)]) (g:=EA (aA (e2 nA (eV 6) (nS 0)) (aA (e2 nA (eV 6) (nS 2)) dA))) (n:=w) (ys:=W.map DA) (xs:=W.map DA) (d:=DA (x,z)) (h':=i) E (by simp[jD,DA]) E (by simp;omega);have hJ:∀o,(i.set w o).length=h.length+(c+1):=fun o=>by rw[Le];exact cH
     have Z:w<i.length:=(Xa E).1;have a4:=R.w0;have a0:=R.len;refine⟨.nx [u,m,ε (.ref s),ε (.ref (h.length+c)),ε (.ref w),j,ε (jD x y z)] (i.set w (.lst (W.map DA++[DA (x,z)]))),?_,h.length,st++[(x,y,z)],W++[(x,z)],PB g x y z,rfl,?_,?_,by rw[hJ];omega,.inr ⟨rfl,rfl,ts⟩⟩
     . rw[iu q0]at B;rw[gD B]at F;rw[<- F];simp![lF,uG,gA,Ti,Ui,iA,fA,a3]
     . exact {
        low:=fun n O=>by rw[m8 nofun];exact I n O
        len:=by rw[hJ];omega
        hs:=by rw[m8 (n7 R.sw)];exact L
        hw:=by rw[vm Z];simp
        net:=M2.other (.inl S) _
        s0:=R.s0
        w0:=R.w0
        b0:=a0
        sw:=R.sw
        sb:=.inl ls
        wb:=.inl S
        run:=H
        ne:=by rw[se];simp[q0]
        sm:=by simp;omega
        wc:=fun p hp=>by
         rcases Ca.mp hp with hp | hp
         . exact R.wc p hp
         . rw[Bs.mp hp];exact⟨D,hz,d.2.2⟩ }
     . intro n O a2 a1;rw[m8 (n7 a1),a,m8 (n7 a2),e,Yo O]
def Am{W:Oo (Nat×Nat)}(e:h[w]?=ε (.lst (W.map DA))):VC (.ref w) (.lst []) h=ε (.bl (!W.isEmpty),h):=by rw[uT (xs:=W.map DA) (by simp![yA,e])];cases W<;>rfl
def Xr(hc:c<=100)(of:ZA c f)(N0:Wi L I c f0){st:Oo (Nat×Nat×Nat)}(R:Rst L c f s w b st ((u,v)::W) g h)
 (wt:qD c g ((u,v)::W) []) (Q Z C:O4 Dt) (lM:2*dE c g+(W.length+1)<=1000000) :
 ∃r,HN [ε (.ref (I+c)),Q,ε (.ref s),ε (.ref (b+c)),ε (.ref w),Z,C] h=ε r/\
  KI (fun S M=>∃J m E D Z C,S=[ε (.ref (I+c)),Q,ε (.ref s),ε (.ref (J+c)),ε (.ref w),Z,C]/\Rst L c f s w J m E D M/\qD c D E []/\2*dE c D+E.length<2*dE c g+(W.length+1)) (bJ L c f) r:=by
 have P:=R.wc (u,v) ⋯;simp only at P;have pk:=sy (fa:=eC (Dt.int 0)) (l:=[ε (.ref (I+c)),Q,ε (.ref s),ε (.ref (b+c)),ε (.ref w),Z,C]) (show h[w]?=ε (.lst (DA (u,v)::W.map DA))from R.hw) rfl;obtain⟨h1,B⟩:∃h1,h1=h.set w (.lst (W.map DA)):=⟨_,rfl⟩
 rw[<- B]at pk;have lw:=(Xa R.hw).1;have len1:h1.length=h.length:=by rw[B,Le]
 have R1:Rst L c f s w b st W g h1:={ R with
  low:=fun n hn=>by rw[B,m8 (Eo (kj hn R.w0))];exact R.low n hn
  len:=by rw[len1];exact R.len
  hs:=by rw[B,m8 (n7 R.sw)];exact R.hs
  hw:=by rw[B,vm lw]
  net:=B ▸ R.net.other R.wb _
  wc:=fun p hp=>R.wc p (by simp[hp]) }
 have N1:eB (.ref (I+c)) h1=ε (.int (c:Nat),h1):=by have:=N0.lt;rw[TH (xs:=TF I c) (by rw[R1.low _ this];exact N0.top),KL]
 have et:=Hg (a:=u) (b:=v) (uq hc (by decide)) h1;obtain⟨h2,F⟩:∃h2,h2=h1++[.lst ((AG u v c).map zD)]:=⟨_,rfl⟩
 rw[<- F]at et;have R2:Rst L c f s w b st W g h2:=F ▸ R1.grow _;have q2:h2[h1.length]?=ε (.lst ((AG u v c).map zD)):=by rw[F];simp
 have sk:=SE q2;have ls:=(Xa R1.hs).1;have a1:=(Xa R1.hw).1;obtain⟨r,e,H⟩:=LZ (i:=6) (n:=h1.length) (body:=pJ) zD (fun k S M=>∃J m E D C,S=[ε (.ref (I+c)),Q,ε (.ref s),ε (.ref (J+c)),ε (.ref w),ε (DA (u,v)),C]/\Rst L c f s w J m E D M/\qD c D E ((AG u v c).drop k)/\M[h1.length]?=ε (.lst ((AG u v c).map zD))/\h1.length<M.length/\2*dE c D+E.length<=2*dE c g+W.length) (bJ L c f) (AG u v c) (by
  rintro k S M ⟨J,m,E,D,C,rfl,Y,j,q',lq,mm⟩;exact q') (by
  rintro k t ht S M ⟨J,m,E,D,C,rfl,Y,j,q',lq,mm⟩;have hk:=(Xa ht).1;have dk:(AG u v c).drop k=t::(AG u v c).drop (k+1):=by rw[Ai hk,(Xa ht).2]
  obtain⟨o,ho,U,T,hto⟩:=gi.mp (m6 ht);obtain⟨x,y,z⟩:=t;have dd:x<c/\y<c/\z<c/\NF x y z:=by
   rcases hto with hto | hto<;>(simp![xr]at hto;obtain⟨rfl,rfl,rfl⟩:=hto)
   . exact⟨P.1,P.2.1,ho,P.2.2,n7 T,n7 U⟩
   . exact⟨P.2.1,P.1,ho,n7 P.2.2,n7 U,n7 T⟩
  obtain⟨hx,hy,hz,O⟩:=dd;rw[dk]at j;have og:=Y.run.ok of;obtain⟨r,e,H⟩:=zf hc of Y hx hy hz O nofun (ε (.ref (I+c))) Q (ε (DA (u,v)));refine⟨r,e,?_⟩;cases r with
  | nx l2 h2=>
   obtain⟨b2,a0,W2,g2,rfl,a2,kp,ll,q⟩:=H;refine⟨b2,a0,W2,g2,_,rfl,a2,?_,by rw[kp _ lq (Eo ls) (Eo a1)];exact q',kj lq ll,?_⟩
   . rcases q with⟨n,rfl,rfl,rfl,rfl,rfl⟩ | ⟨rfl,rfl,tt⟩
     . exact Ux og hx hy hz j n
     . exact Vx og hx hy hz O j
   . rcases q with⟨n,rfl,rfl,rfl,rfl,rfl⟩ | ⟨rfl,rfl,tt⟩
     . exact mm
     . simp![jj,Ua,Vi];omega
  | rt d h2=>exact H
  | bk l2 h2=>exact H.elim
  | ct l2 h2=>exact H.elim) [ε (.ref (I+c)),Q,ε (.ref s),ε (.ref (b+c)),ε (.ref w),ε (DA (u,v)),C] h2 ⟨b,st,W,g,C,rfl,R2,Vw wt,q2,by rw[F];simp,Va _⟩
 refine⟨r,?_,?_⟩
 . simp![HN,YA,MB,Rb,gA,Ti,Ui,iA,fA,pk,jB,Wa,Wu,ND,FC,OA,zA,xA,LB,N1,Ve,et,sk];exact e
 . cases r with
   | nx S M=>obtain⟨J,m,E,D,C,rfl,Y,j,q',lq,mm⟩:=H;rw[drop_length]at j;exact⟨J,m,E,D,_,_,rfl,Y,j,by omega⟩
   | rt d h2=>exact H
   | bk l2 h2=>exact H.elim
   | ct l2 h2=>exact H.elim
def VQ(W:c<=100)(of:ZA c f)(N:Wi h q c f)(hp:∀e,XC (h++e) pd=ε (P.map DA))(pc:∀p∈P,p.1<c/\p.2<c/\p.1≠p.2)(wt:qD c f P [])(lP:P.length<=100000) :
 ∃d h',pI [.ref (q+c),pd] h=ε (d,h')/\bJ h c f d h':=by
 have tl:=NR c f;have a0:c*(c*13)<=100*(100*13):=Js W (Nat.mul_le_mul_right 13 W);have lN:=N.lt;have Q:=N.grow [.lst []];have em:=rR Q (show c<=1000 by omega);have ef:pI [.ref (q+c),pd] h=vC (QQ [ε (.ref (q+c)),ε pd,none,none,none,none,none] h):=by rw[pI,zB];rfl
 have I:mn (rA sG [] (aA (eV 0) dA)) [ε (.ref (q+c)),ε pd,ε (.ref h.length),none,none,none,none] (h++[.lst []])=ε (bB c f,h++[.lst []]):=by simp![IA,OA,zA,xA,gA,Ti,iA,fA,Ve,em,NA]
 rw[ef,QQ,OC (d:=.ref h.length) (h1:=h++[.lst []]) (l':=[ε (.ref (q+c)),ε pd,ε (.ref h.length),none,none,none,none]) rfl rfl];by_cases ne:bB c f=true
 . refine⟨.tup [.non,.ref h.length],h++[.lst []],?_,.non,h.length,[],f,rfl,Va _,by simp,fun n O=>by rw[Yo O],by simp,.nil,by simp,.inl ⟨rfl,ne⟩⟩;rw[ne]at I;exact JC I rfl
 . have J:bB c f=false:=by simpa using ne
   rw[J]at I;obtain⟨h1,o⟩:∃h1:HI,h1=h++[.lst []]:=⟨_,rfl⟩
   rw[<- o]at I Q;have len1:h1.length=h.length+1:=by rw[o];simp
   have cp:=FW (te:=KQ) rfl Q (show c<=1000 by omega) [none] ⋯;have en:(h1++(List.range c).map fun i=>Ob.lst (MC c (f i)))++[Ob.lst (TF h1.length c)]=h1++aD h1.length c f:=by rw[tu];rfl
   have el:(h1++(List.range c).map fun i=>Ob.lst (MC c (f i))).length=h1.length+c:=by simp
   obtain⟨a,k⟩:∃a:HI,a=h1++aD h1.length c f:=⟨_,rfl⟩
   have cH:a.length=h1.length+(c+1):=by rw[k,jj,ZV]
   have M:h.length<h1.length:=by rw[len1];exact zu _
   have E:h1.length+c<a.length:=by rw[cH];exact zu _
   have L:=Nat.lt_trans M (Ei (Ms _ c) E);have C2:Wi a h1.length c f:=k ▸ yG h1 c f;have U:XC a pd=ε (P.map DA):=by rw[k,o,tu];exact hp _
   have fl:UD pd a=ε (.ref a.length,a++[.lst (P.map DA)]):=by simp![UD,U,Vu]
   obtain⟨h3,j⟩:∃h3:HI,h3=a++[.lst (P.map DA)]:=⟨_,rfl⟩
   rw[<- j]at fl;have R:Rst h c f h.length a.length h1.length [] P f h3:={
    low:=fun n O=>by rw[j,Yo (Nat.lt_trans O L),k,Yo (Nat.lt_trans O M),o,Yo O]
    len:=by rw[j,jj];exact uq (Du L) (Ms _ _)
    hs:=by rw[j,Yo L,k,Yo M,o];simp
    hw:=by rw[j];simp
    net:=j ▸ C2.grow _
    s0:=Va _
    w0:=Du L
    b0:=Du M
    sw:=su L
    sb:=.inl M
    wb:=.inr E
    run:=.nil
    ne:=J
    sm:=by simp
    wc:=pc }
   obtain⟨r,e,B⟩:=kX (t:=CN) (body:=HN) (fun m l' h'=>∃x b F y D C,l'=[ε (.ref (q+c)),ε pd,ε (.ref h.length),ε (.ref (x+c)),ε (.ref a.length),D,C]/\Rst h c f h.length a.length x b F y h'/\qD c y F []/\m=2*dE c y+F.length/\m<=1000000)
    (fun l' h'=>∃x b y D C,l'=[ε (.ref (q+c)),ε pd,ε (.ref h.length),ε (.ref (x+c)),ε (.ref a.length),D,C]/\Rst h c f h.length a.length x b [] y h'/\HC c y) (bJ h c f) (by
    rintro m l' h' ⟨x,b,F,y,D,C,rfl,g,H,rfl,Z⟩;have Y:=Am g.hw;cases F with
    | nil=>
     refine⟨false,h',?_,?_⟩
     . simp![CN,IA,oA,gA,kE,xA,Ti,Ui,iA,fA,Vi,CO,nW,eO,Y,NA];rfl
     . rw[eH Xe];exact⟨x,b,y,D,C,rfl,g,vq H⟩
    | cons p F=>
     obtain⟨u,v⟩:=p;refine⟨true,h',?_,?_⟩
     . simp![CN,IA,oA,gA,kE,xA,Ti,Ui,iA,fA,Vi,CO,nW,eO,Y,NA];rfl
     . rw[eG rfl];obtain⟨r,e,B⟩:=Xr W of N g H (ε pd) D C Z;refine⟨r,e,?_⟩;cases r with
       | nx E a=>obtain⟨b2,T,W2,g2,y5,y6,rfl,R2,S,mm⟩:=B;exact⟨_,mm,b2,T,W2,g2,y5,y6,rfl,R2,S,rfl,by simp![Ua]at Z;omega⟩
       | rt d a=>exact B
       | bk E a=>exact B.elim
       | ct E a=>exact B.elim) 1000000 (2*dE c f+P.length) [ε (.ref (q+c)),ε pd,ε (.ref h.length),ε (.ref (h1.length+c)),ε (.ref a.length),none,none] h3 ⟨h1.length,[],P,f,none,none,rfl,R,wt,rfl,by omega⟩ nofun
   have s3:GF (RB (eV 0)) (BA 0) cB KQ [none] [ε (.ref (q+c)),ε pd,ε (.ref h.length),none,none,none,none] h1=ε (.ref (h1.length+c),a):=by simp![TL,FC,gA,Ti,iA,fA,Q.seq,MD,QD,cp,en,el,k]
   rw[<- o,gD I,OC (l':=[ε (.ref (q+c)),ε pd,ε (.ref h.length),ε (.ref (h1.length+c)),none,none,none]) s3 rfl,OC (l':=[ε (.ref (q+c)),ε pd,ε (.ref h.length),ε (.ref (h1.length+c)),ε (.ref a.length),none,none]) fl rfl];simp![YA,Ub,e,fA];cases r with
   | nx l' h'=>obtain⟨x,b,y,D,C,rfl,g,cl⟩:=B;refine⟨.tup [.ref (x+c),.ref h.length],h',?_,.ref (x+c),h.length,b,y,rfl,g.s0,g.len,g.low,g.hs,g.run,by have:=g.sm;omega,.inr ⟨x,rfl,g.b0,g.net,cl,g.ne,g.sb⟩⟩;simp
   | rt d h'=>exact⟨d,h',by simp,B⟩
   | bk E a=>exact B.elim
   | ct E a=>exact B.elim
def oQ(c:Nat)(m f:Nat->Nat->Nat):Prop:=∀i<c,∀j<c,Yu (m i j) (f i j)
def Yu.antisymm(h1:Yu a b)(h2:Yu b a):a=b:=by unfold Yu at h1 h2;rw[Nat.and_comm]at h2;exact h1.symm.trans h2
def mr.sub{st:Oo (Nat×Nat×Nat)}(h:mr c f st g)(o:ZA c f):oQ c g f:=by
 induction h with
 | nil=>exact fun i z j z=>Yu.refl _
 | snoc h k q e d ne n ih=>exact fun a p b m=>(MR (h.ok o) k e d.2.2 a b).trans (ih a p b m)
def mr.keeps{st:Oo (Nat×Nat×Nat)}(h:mr c f st g)(u:ZA c m)(B:HC c m)(s:oQ c m f):oQ c m g:=by
 induction h with
 | nil=>exact s
 | @snoc st g i k j h o p e d ne n ih=>
  have l:Yu (m i j) (Wk g i k j):=by have:=B i o k p j e d;unfold Wk at this ⊢;exact Hh (ih i o j e) ((show Yu (m i j) (FK (m i k) (m k j))from this).trans (Hw (ih i o k p) (ih k p j e)))
  intro a y b x;by_cases r:a=i/\b=j
  . obtain⟨rfl,rfl⟩:=r;rw[fG g d.2.2];exact l
  . by_cases q:a=j/\b=i
    . obtain⟨rfl,rfl⟩:=q;rw[JL,u.tn b o a e];exact dX l
    . rw[XF g r q];exact ih a y b x
structure ia(c:Nat)(p q:Nat->Nat):Prop where
 pl:∀i<c,p i<c
 ql:∀i<c,q i<c
 qp:∀i<c,q (p i)=i
 pq:∀i<c,p (q i)=i
def ia.symm{c:Nat}{p q:Nat->Nat}(P:ia c p q):ia c q p:=⟨P.ql,P.pl,P.pq,P.qp⟩
def Up(h h':HI):Prop:=h.length<=h'.length/\∀n,n<h.length->h'[n]?=h[n]?
def Up.refl(h):Up h h:=⟨Va _,fun q q=>rfl⟩
def Up.trans(a:Up h h1)(b:Up h1 h2):Up h h2:=⟨uq a.1 b.1,fun n d=>by rw[b.2 n (by have:=a.1;omega),a.2 n d]⟩
def Up.app(h e):Up h (h++e):=⟨by simp,fun n a=>Yo a⟩
def Up.net{h h':HI}(u:Up h h'){b c:Nat}{f:Nat->Nat->Nat}(N:Wi h b c f):Wi h' b c f:=by have:=N.lt;exact⟨fun i a=>by rw[u.2 _ nofun];exact N.row i a,by rw[u.2 _ this];exact N.top⟩
def Up.get{h h':HI}(u:Up h h'){n:Nat}{o:Ob}(e:h[n]?=ε o):h'[n]?=ε o:=by rw[u.2 n (Xa e).1];exact e
section
variable{a b c:RE}{l:LI}{h h1:HI}{A B C:Dt}
def ev(q:l[i]?=ε (ε A)):eV i l h=ε (A,h):=by rw[gA,q];rfl
def bN(x:a l h=ε (A,h))(y:b l h=ε (B,h))(r:op A B h=R):e2 op a b l h=R:=by rw[oA,x,fA,y,fA,r]
def o2(x:a l h=ε (A,h))(r:F A h=R):GB F a l h=R:=by rw[LB,x,fA,r]
def tb(v)(x:a l h=ε (.bl v,h)):mn a l h=ε (v,h):=by rw[IA,x];rfl
def lI(x:a l h=ε (A,h))(y:b l h=ε (B,h))(z:c l h=ε (C,h)):EA (aA a (aA b (aA c dA))) l h=ε (.tup [A,B,C],h):=by dsimp![AC,zA,xA,x,y,z,show 3<=sizeLine by decide]
end
noncomputable def yH(p q:Nat)(a b d:Int):Oo Bd:=(if b<=a then [(p,q,if b<a then -1 else 0)]else [])++(if a<=d then [(q,p,if a<d then -1 else 0)]else [])
def ZY[Decidable C](a:l[4]?=ε (ε (.ref h.length)))(e:xs.length<5)(t:T l (h++[.lst (xs.map vA)])=ε (decide C,h++[.lst (xs.map vA)]))(g:G l (h++[.lst (xs.map vA)])=ε (vA d,h++[.lst (xs.map vA)])) :
 bC T (TD (fE (eV 4) G)) SA l (h++[.lst (xs.map vA)])=ε (.nx l (h++[.lst ((xs++if C then [d]else []).map vA)])):=by
 rw[FB,t,fA];by_cases c:C
 . have b:=vG (h:=h++[.lst (xs.map vA)]) (l:=l) (n:=h.length) (ys:=xs.map vA) (xs:=xs.map vA) (d:=vA d) ⋯ g ⋯ (by simp[sizeLine];omega);rw[je c,eG rfl,eG c,lF,uG,ev a,fA,b,fA,Gu];simp
 . rw[iu c,eH Xe,eH c,Ve];rfl
def qU[Decidable C](t:T l h=ε (decide C,h)):GQ T (dB (nS 1)) (nS 0) l h=ε (.int (if C then -1 else 0),h):=by
 rw[BK,t,fA];by_cases c:C
 . rw[je c,eG rfl,eG c];rfl
 . rw[iu c,eH Xe,eH c];rfl
def FU(p q)(a)(hs:b ≠ [])(h):wJ [.int (p:Nat),.int (q:Nat),.int a,.lst (b.map Dt.int)] h=ε (.ref h.length,h++[.lst ((yH p q a (EC b) (hC b)).map vA)]):=by
 have n:=fun h=>b7 (h:=h) hs
 have m:=fun h=>d7 (h:=h) hs
 obtain⟨l,e⟩:∃l:LI,l=[ε (.int (p:Nat)),ε (.int (q:Nat)),ε (.int a),ε (.lst (b.map Dt.int)),ε (.ref h.length)]:=⟨_,rfl⟩
 have k:l[0]?=ε (ε (.int (p:Nat))):=by rw[e];rfl
 have j:l[1]?=ε (ε (.int (q:Nat))):=by rw[e];rfl
 have g:l[2]?=ε (ε (.int a)):=by rw[e];rfl
 have f:l[3]?=ε (ε (.lst (b.map Dt.int))):=by rw[e];rfl
 have i:l[4]?=ε (ε (.ref h.length)):=by rw[e];rfl
 have u:=ZY (xs:=[]) (C:=EC b<=a) (d:=(p,q,if EC b<a then -1 else 0)) i (by decide) (tb _ (bN (o2 (ev f) (n _)) (ev g) (F4 _ _))) (lI (ev k) (ev j) (qU (tb _ (bN (o2 (ev f) (n _)) (ev g) (kI _ _)))));have r:=ZY (xs:=[]++if EC b<=a then [(p,q,if EC b<a then -1 else 0)]else []) (C:=a<=hC b) (d:=(q,p,if a<hC b then -1 else 0)) i (by split<;>simp) (tb _ (bN (o2 (ev f) (m _)) (ev g) (eU _ _))) (lI (ev j) (ev k) (qU (tb _ (bN (o2 (ev f) (m _)) (ev g) (jI _ _)))));have o:PF dA [ε (.int (p:Nat)),ε (.int (q:Nat)),ε (.int a),ε (.lst (b.map Dt.int)),none] h=ε (.ref h.length,h++[.lst []]):=rfl;show vC (PQ [ε (.int (p:Nat)),ε (.int (q:Nat)),ε (.int a),ε (.lst (b.map Dt.int)),none] h)=_;unfold yH PQ;rw[YA,MB,o,fA,fA,jB,YA,show([ε (.int (p:Nat)),ε (.int (q:Nat)),ε (.int a),ε (.lst (b.map Dt.int)),none]:LI).set 4 (ε (.ref h.length))=l by rw[e];rfl];rw[show(h++[Ob.lst []])=h++[Ob.lst (([]:Oo Bd).map vA)]from rfl,u,fA,jB,YA,r,fA,jB,qB,ev i];rfl
def pz(w:Nat):Nat×Nat:=lc.getD w (0,0)
def Af{w:Nat}(hw:w<13)(h):dS [.int w] h=ε (pr (pz w),h):=by rcases B4 hw with rfl | rfl | rfl | rfl | rfl | rfl | rfl | rfl | rfl | rfl | rfl | rfl | rfl<;>kernel_rfl
def zs(side w:Nat):Int:=if side=0 then((pz w).1:Int)else((pz w).2:Int)
def TB(side m:Nat):Oo Int:=(HA m).map (zs side)
def LY(a:HA m ≠ []):TB side m ≠ []:=by unfold TB;intro z;exact a (map_eq_nil_iff.mp z)
def JF(i j side m:Nat):Oo Bd:=yH (2*i+side) (2*j) 1 (EC (TB side m)) (hC (TB side m))++yH (2*i+side) (2*j+1) 3 (EC (TB side m)) (hC (TB side m))
def DY[Decidable c](x:Bd):(if c then [x]else []).length<=1:=by split<;>simp
def vS(p q)(a b d):(yH p q a b d).length<=2:=by unfold yH;rw[jj];exact Nat.add_le_add (DY _) (DY _)
def wZ{F G:Oo Bd}{rest:Oo Ob}(c:F.length+G.length<=100000)(b:g l (h++.lst (F.map vA)::rest)=ε (.ref (h++.lst (F.map vA)::rest).length,(h++.lst (F.map vA)::rest)++[.lst (G.map vA)])) :
 LK g l (.ref h.length,h++.lst (F.map vA)::rest)=ε (.non,h++.lst ((F++G).map vA)::(rest++[.lst (G.map vA)])):=by
 have a:(h++Ob.lst (F.map vA)::rest)[h.length]?=ε (.lst (F.map vA)):=by simp
 have d:((h++Ob.lst (F.map vA)::rest)++[Ob.lst (G.map vA)])[h.length]?=ε (.lst (F.map vA)):=by rw[Yo ⋯];exact a
 have e2:((h++Ob.lst (F.map vA)::rest)++[Ob.lst (G.map vA)])[(h++Ob.lst (F.map vA)::rest).length]?=ε (.lst (G.map vA)):=by rw[ag (Va _),Ea];rfl
 rw[sX a b d e2 (by simp;omega)];simp
def ZW(i j m side)(hs:side=0\/side=1)(hi:i<=1000)(Q:j<=1000)(f:HA m ≠ [])(h)(F)(R:F.length<=1000)(rest)(x:O4 Dt):∃y b,jL [ε (.int (i:Nat)),ε (.int (m:Nat)),ε (.int (j:Nat)),ε (.ref h.length),ε (.int (side:Nat)),x] (h++.lst (F.map vA)::rest) =
 ε (.nx [ε (.int (i:Nat)),ε (.int (m:Nat)),ε (.int (j:Nat)),ε (.ref h.length),ε (.int (side:Nat)),y] (h++.lst ((F++JF i j side m).map vA)::b)):=by
 have M:=fun h=>wL m h
 have D:∀k∈HA m,k<13:=fun k d=>Ci.mp (mem_filter.mp d).1
 have J:((HA m).map fun(k:Nat)=>Dt.int (k:Int)).length<sizeLine:=by have:(HA m).length<=13:=uq (length_filter_le _ _) ⋯;simp;omega
 have O:=xF (te:=iL) (tc:=cB) (i:=0) (fun(k:Nat)=>Dt.int (k:Int)) (fun k=>Dt.int (zs side k)) (h++.lst (F.map vA)::rest) (HA m) [none,ε (.int (side:Nat))] (by
  intro k d;have n:=Af (D k d) (h++.lst (F.map vA)::rest);refine⟨by simp,?_⟩;rcases hs with rfl | rfl
  . simp[iL,n,pr,zs]
  . simp[iL,n,pr,zs])
 have e:=aE (l:=[none,ε (.int (side:Nat))]) (h:=h++.lst (F.map vA)::rest) (BA 0) cB iL J;rw[O]at e;have E:(HA m).map (fun k=>Dt.int (zs side k))=(TB side m).map Dt.int:=by unfold TB;rw[map_map];rfl
 rw[E]at e;have hp:=fun h=>FU (2*i+side) (2*j) 1 (LY (side:=side) f) h
 have L:=fun h=>FU (2*i+side) (2*j+1) 3 (LY (side:=side) f) h
 have pl:∀p q a H I,(yH p q a H I).length<=2:=vS
 have u:=fun(i:Int) (h:HI)=>EG (h:=h) (i:=2) (j:=i) (Or.inl ⟨by decide,by decide⟩)
 have r:(2:Int)*(i:Int)+(side:Int)=((2*i+side:Nat):Int):=by omega
 have o:(2:Int)*(j:Int)=((2*j:Nat):Int):=by omega
 have P:((2*j:Nat):Int)+1=((2*j+1:Nat):Int):=by omega
 have C:=wZ (h:=h) (F:=F) (G:=yH (2*i+side) (2*j) 1 (EC (TB side m)) (hC (TB side m))) (rest:=rest) (l:=[ε (.int (i:Nat)),ε (.int (m:Nat)),ε (.int (j:Nat)),ε (.ref h.length),ε (.int (side:Nat)),ε (.lst ((TB side m).map Dt.int))])
  (g:=rA wJ [] (aA (e2 VB (e2 wC (nS 2) (eV 0)) (eV 4)) (aA (e2 wC (nS 2) (eV 2)) (aA (nS 1) (aA (eV 5) (dA)))))) (by have:=pl (2*i+side) (2*j) 1 (EC (TB side m)) (hC (TB side m));omega) (by
   simp![OA,zA,xA,oA,pA,gA,Ti,Ui,iA,fA,u,AE,r,o,Ve];exact hp _)
 have B:=wZ (h:=h) (F:=F++yH (2*i+side) (2*j) 1 (EC (TB side m)) (hC (TB side m))) (G:=yH (2*i+side) (2*j+1) 3 (EC (TB side m)) (hC (TB side m))) (rest:=rest++[.lst ((yH (2*i+side) (2*j) 1 (EC (TB side m)) (hC (TB side m))).map vA)]) (l:=[ε (.int (i:Nat)),ε (.int (m:Nat)),ε (.int (j:Nat)),ε (.ref h.length),ε (.int (side:Nat)),ε (.lst ((TB side m).map Dt.int))])
  (g:=rA wJ [] (aA (e2 VB (e2 wC (nS 2) (eV 0)) (eV 4)) (aA (e2 VB (e2 wC (nS 2) (eV 2)) (nS 1)) (aA (nS 3) (aA (eV 5) (dA)))))) (by have:=pl (2*i+side) (2*j) 1 (EC (TB side m)) (hC (TB side m));have:=pl (2*i+side) (2*j+1) 3 (EC (TB side m)) (hC (TB side m));simp;omega) (by
   simp![OA,zA,xA,oA,pA,gA,Ti,Ui,iA,fA,u,AE,r,o,P,Ve];exact L _)
 refine⟨ε (.lst ((TB side m).map Dt.int)),rest++[.lst ((yH (2*i+side) (2*j) 1 (EC (TB side m)) (hC (TB side m))).map vA)]++[.lst ((yH (2*i+side) (2*j+1) 3 (EC (TB side m)) (hC (TB side m))).map vA)],?_⟩;unfold JF;rw[<- tu];simp![jL,YA,MB,bF,FC,OA,zA,xA,gA,Ti,Ui,iA,fA,Ve,M,CF,MD,xG,QD,Option.join,Wo,id,e,Wu,Wa,jB,lF,IR,C,B]
def WL(i j side m):(JF i j side m).length<=4:=by unfold JF;rw[jj];have b:=vS (2*i+side) (2*j) 1 (EC (TB side m)) (hC (TB side m));have a:=vS (2*i+side) (2*j+1) 3 (EC (TB side m)) (hC (TB side m));omega
def eE(i m j:Nat):Oo Bd:=JF i j 0 m++JF i j 1 m
def Jj(i m j)(hi:i<=1000)(k:j<=1000)(g:HA m ≠ [])(h):∃rest,vL [.int (i:Nat),.int (m:Nat),.int (j:Nat)] h=ε (.ref h.length,h++.lst ((eE i m j).map vA)::rest):=by
 obtain⟨a,b,p⟩:=ZW i j m 0 (.inl rfl) hi k g h [] ⋯ [] none;obtain⟨n,f,e2⟩:=ZW i j m 1 (.inr rfl) hi k g h (JF i j 0 m) (by have:=WL i j 0 m;omega) b a;have o:A2 (.int 2,h++[.lst []])=ε (.vals [.int 0,.int 1],h++[.lst []]):=by rw[dG (by decide) (by decide)];rfl
 refine⟨f,?_⟩;have e:jL [ε (.int (i:Nat)),ε (.int (m:Nat)),ε (.int (j:Nat)),ε (.ref h.length),ε (.int 0),none] (h++[.lst []])=ε (.nx [ε (.int (i:Nat)),ε (.int (m:Nat)),ε (.int (j:Nat)),ε (.ref h.length),ε (.int 0),a] (h++.lst ((JF i j 0 m).map vA)::b)):=p;have d:jL [ε (.int (i:Nat)),ε (.int (m:Nat)),ε (.int (j:Nat)),ε (.ref h.length),ε (.int 1),a] (h++.lst ((JF i j 0 m).map vA)::b)=ε (.nx [ε (.int (i:Nat)),ε (.int (m:Nat)),ε (.int (j:Nat)),ε (.ref h.length),ε (.int 1),n] (h++.lst ((eE i m j).map vA)::f)):=e2;simp[vL,hV,o,lC,e,d]
def G9(i)(lo hi)(a:g<=1000)(h):pL [.tup [.int (i:Nat),.int lo,.int hi],.int (g:Nat)] h=ε (.ref h.length,h++[.lst (([(2*i,2*i+1,-lo*g),(2*i+1,2*i,hi*g)]:Oo Bd).map vA)]):=by
 have u:=fun(h:HI)=>EG (h:=h) (i:=2) (j:=(i:Int)) (Or.inl ⟨by decide,by decide⟩)
 have v:=fun(x:Int) (h:HI)=>EG (h:=h) (i:=x) (j:=(g:Int)) (Or.inr ⟨by omega,by omega⟩)
 simp[pL,wU,u,v,vA]
noncomputable abbrev Ln:=Nat×Int×Int
noncomputable def uB(x:Ln):Dt:=.tup [.int (x.1:Nat),.int x.2.1,.int x.2.2]
noncomputable def UC(g:Nat)(x:Ln):Oo Bd:=[(2*x.1,2*x.1+1,-x.2.1*g),(2*x.1+1,2*x.1,x.2.2*g)]
noncomputable def WC(c:Nat):Oo Bd:=(List.range c).map fun i=>(2*i,2*i+1,-1)
def CC(c:Nat)(N:Nat->Nat->Nat)(ls:Oo Ln):Oo Bd:=WC c++ls.flatMap (UC (2*c+1))++(WA c).flatMap fun p=>eE p.1 (N p.1 p.2) p.2
def TX{F G:Oo Bd}{rest eP:Oo Ob}(c:F.length+G.length<=100000)(b:g l (h++.lst (F.map vA)::rest)=ε (.ref (h++.lst (F.map vA)::rest).length,(h++.lst (F.map vA)::rest)++.lst (G.map vA)::eP)) :
 LK g l (.ref h.length,h++.lst (F.map vA)::rest)=ε (.non,h++.lst ((F++G).map vA)::(rest++.lst (G.map vA)::eP)):=by
 have a:(h++Ob.lst (F.map vA)::rest)[h.length]?=ε (.lst (F.map vA)):=by simp
 have d:((h++Ob.lst (F.map vA)::rest)++Ob.lst (G.map vA)::eP)[h.length]?=ε (.lst (F.map vA)):=by rw[Yo ⋯];exact a
 have e2:((h++Ob.lst (F.map vA)::rest)++Ob.lst (G.map vA)::eP)[(h++Ob.lst (F.map vA)::rest).length]?=ε (.lst (G.map vA)):=by rw[ag (Va _),Ea];rfl
 rw[sX a b d e2 (by simp;omega)];simp
def xO{a b:Type}(f:a->Oo b){xs:Oo a}{x:a}(d:xs[k]?=ε x):(xs.take (k+1)).flatMap f=(xs.take k).flatMap f++f x:=by rw[take_add_one,d,flatMap_append];simp
def bf(c)(h):nM [.int (c:Nat)] h=ε (.int ((2*c+1:Nat):Int),h):=by
 have u:=fun(h:HI)=>EG (h:=h) (i:=2) (j:=(c:Int)) (Or.inl ⟨by decide,by decide⟩)
 simp[nM,bY,u]
def HR(h:p∈WA c):p.1<c/\p.2<c:=by unfold WA eD at h;obtain⟨i,b,h⟩:=Nu.mp h;obtain⟨k,a,rfl⟩:=Ce.mp h;have:=Ci.mp b;have:=Ci.mp a;exact⟨by omega,by show i+1+k<c;omega⟩
def Zj(hi:i<c):List.replicate i (Dt.int 8191)++[Dt.int 64]++List.replicate (c-i-1) (Dt.int 8191)=MC c (mC i):=by
 apply ext_getElem?;intro k;by_cases a:k<c
 . rw[UL a];rcases Nat.lt_trichotomy k i with h | h | h
   . rw[tu,Yo (by simpa using h)];have:¬i=k:=by omega
     simp[h,mC,this]
   . subst h;rw[tu,ag ⋯];simp[mC]
   . rw[ag (by simp;omega)];have:¬i=k:=by omega
     have q:k-(i+1)<c-i-1:=by omega
     simp[mC,this,q]
 . rw[lu (by simp;omega),lu (by rw[BO];omega)]
def Sq(hi:i<c)(f:c<=1000)(h):iO [.int (c:Nat),.int (i:Nat)] h=ε (.ref h.length,h++[.lst (MC c (mC i))]):=by
 have e:=pX (h:=h) (Dt.int 8191) (show i<=1000000 by omega);have e2:=pX (h:=h) (Dt.int 8191) (show c-i-1<=1000000 by omega);have b:(c:Int)-(i:Int)-1=((c-i-1:Nat):Int):=by omega
 have d:=UP (h:=h) (xs:=List.replicate i (Dt.int 8191)) (ys:=[Dt.int 64]) (by simp;omega);have a:yK (.lst (List.replicate i (Dt.int 8191)++[Dt.int 64])) (.lst (List.replicate (c-i-1) (Dt.int 8191))) h=ε (.ref h.length,h++[.lst (List.replicate i (Dt.int 8191)++[Dt.int 64]++List.replicate (c-i-1) (Dt.int 8191))]):=by simp![yK,yA,Wo];rw[eG (by simp;omega)]
 rw[Zj hi]at a;simp[iO,EV,e,b,e2,d,a]
def Al(f:c<=1000)(h):jP [.int (c:Nat)] h=ε (.ref (h.length+c),h++aD h.length c mC):=by
 have b:=dG (h:=h) (show(-(2^62):Int)<=(c:Int) by omega) (show(c:Int)<2^62 by omega);simp![ou]at b;have a:=vR (te:=PR) (i:=0) (fun(k:Nat)=>Dt.int (k:Int)) (fun i=>Ob.lst (MC c (mC i))) h (List.range c) [none,ε (.int (c:Nat))] [] (by
  intro k d e;have:=Sq (Ci.mp d) f (h++e);simp[PR,this])
 rw[Ve,Fy]at a;have hs:((List.range c).map fun(k:Nat)=>Dt.int (k:Int)).length<sizeLine:=by simp;omega
 simp[jP,WY,b,aE _ _ _ hs,a,aD,TF]
structure mu(h h':HI):Prop where
 le:h.length<=h'.length
 ls:∀(n:Nat)(xs:List Dt),h[n]?=ε (.lst xs)->h'[n]?=ε (.lst xs)
 dk:∀(n:Nat)(kv:List (dC×Dt)),h[n]?=ε (.dk kv)->h'[n]?=ε (.dk kv)
def mu.refl(h):mu h h:=⟨Va _,fun q q e=>e,fun q q e=>e⟩
def mu.trans(a:mu h h1)(b:mu h1 h2):mu h h2:=⟨uq a.1 b.1,fun n d e=>b.2 n d (a.2 n d e),fun n d e=>b.3 n d (a.3 n d e)⟩
def Up.l(u:Up h h'):mu h h':=⟨u.1,fun q q e=>u.get e,fun q q e=>u.get e⟩
def mu.app(h e):mu h (h++e):=(Up.app h e).l
def mu.net{h h':HI}(u:mu h h'){b c:Nat}{f:Nat->Nat->Nat}(N:Wi h b c f):Wi h' b c f:=⟨fun i a=>u.2 _ _ (N.row i a),u.2 _ _ N.top⟩
def mu.set(e:h[n]?=ε (.ins x fs)):mu h (h.set n (.ins x a)):=by
 have g:∀(k:Nat)(o:Ob),(∀x fs,o≠.ins x fs)->h[k]?=ε o->(h.set n (.ins x a))[k]?=ε o:=fun k o no q=>by
  rw[getElem?_set];by_cases z:n=k
  . subst z;rw[e]at q;exact Es (uo q).symm (no _ _)
  . rw[eH z];exact q
 exact⟨by simp,fun k b q=>g k _ (fun v v z=>by cases z) q,fun k b q=>g k _ (fun v v z=>by cases z) q⟩
noncomputable abbrev UB:=Nat×Nat×Nat
noncomputable def kB (m:UB):Dt:=.tup [.str "ways", .int (m.1:Nat),.int (m.2.1:Nat),.int (m.2.2:Nat)]
def oF(c:Nat)(m:UB):Prop:=m.1<c/\m.2.2<c/\m.1≠m.2.2/\m.2.1<8192
def gp(h:HI)(d:Dt)(g:Oo UB):Prop:=∃n,d=.ref n/\h[n]?=ε (.lst (g.map kB))
def gp.up(q:gp h d g)(u:mu h h'):gp h' d g:=by obtain⟨n,e,q⟩:=q;exact⟨n,e,u.2 _ _ q⟩
noncomputable def wB(c:Nat)(g:Nat->Nat->Nat):Nat->Nat->Nat:=fun i j=>if i<c/\j<c then g i j else 0
def ZE(g)(hi:i<c)(a:j<c):wB c g i j=g i j:=eG ⟨hi,a⟩
theorem Uv(e:∀i<c,∀j<c,g i j=g' i j):wB c g=wB c g':=by
 funext i j
 unfold wB;split
 . rename_i q;exact e i q.1 j q.2
 . rfl
def kY(N:Wi h b c g):Wi h b c (wB c g):=N.congr fun q d q a=>(ZE g d a).symm
def sP(o:ZA c g):ZA c (wB c g):=⟨fun i b j a=>by rw[ZE g b a];exact o.lt i b j a,fun i b j a=>by rw[ZE g b a,ZE g a b];exact o.tn i b j a⟩
def Ag(hi:i<c)(a:k<c)(b:j<c):Wk (wB c g) i k j=Wk g i k j:=by unfold Wk;rw[ZE g hi b,ZE g hi a,ZE g a b]
def Oq(o:HC c g):HC c (wB c g):=fun i b k e j a d=>by rw[Ag b e a,ZE g b a];exact o i b k e j a d
theorem kR{a:Type}{p q:a->Bool}:∀{xs:Oo a},(∀x∈xs,p x=q x)->xs.any p=xs.any q
 | [],_=>rfl
 | x::xs,h=>by rw[Ku,Ku,h x ⋯,kR fun y b=>h y (by simp[b])]
def Mj(e:∀i<c,∀j<c,g i j=g' i j):bB c g=bB c g':=by unfold bB;exact kR fun i b=>kR fun j a=>by rw[e i (Ci.mp b) j (Ci.mp a)]
def GW(c)(g):bB c (wB c g)=bB c g:=Mj fun q b q a=>ZE g b a
def cq(c:Nat)(f:Nat->Nat->Nat)(st:Oo (Nat×Nat×Nat))(g:Nat->Nat->Nat):Prop:=∃a,mr c f st a/\HC c a/\bB c a=false/\g=wB c a
def cq.ok{st:Oo (Nat×Nat×Nat)}(e:cq c f st g)(o:ZA c f):ZA c g/\HC c g/\bB c g=false:=by obtain⟨b,s,a,ne,rfl⟩:=e;exact⟨sP (s.ok o),Oq a,by rw[GW];exact ne⟩
def cq.unique{st a:Oo (Nat×Nat×Nat)}(o:ZA c f)(e:cq c f st g)(n:cq c f a g'):g=g':=by
 obtain⟨x,s,p,ne,rfl⟩:=e;obtain⟨u,b,d,m,rfl⟩:=n;refine Uv fun i k j h=>?_
 have r:=s.keeps (b.ok o) d (b.sub o) i k j h;have q:=b.keeps (s.ok o) p (s.sub o) i k j h;exact Yu.antisymm q r
def cq.di{st a:Oo (Nat×Nat×Nat)}(o:ZA c f)(e:cq c f st g)(h:mr c f a g'):bB c g'=false:=by
 obtain⟨m,s,n,ne,rfl⟩:=e;have p:=h.keeps (s.ok o) n (s.sub o);cases z:bB c g' with
 | false=>rfl
 | true=>
  obtain⟨i,d,j,b,e⟩:=gm.mp z;have:=p i d j b;rw[e]at this;have k:m i j=0:=by unfold Yu at this;rw[Nat.and_zero]at this;exact this.symm
  exact Es k (G.di ne d b)
noncomputable def nw(m:Nat):Nat:=8191-m
def nF(f:Nat->Nat->Nat)(k:Nat):Oo UB->Nat->(Nat->Nat->Nat)
 | [],_=>f
 | m::ms,p=>nF (KB f m.1 (if p=k then m.2.1 else nw m.2.1) m.2.2) k ms (p+1)
def VP(f:Nat->Nat->Nat)(g:Oo UB)(k:Nat):Nat->Nat->Nat:=nF f k g 0
theorem NV(k)(m):∀a f p,nF f k (a++[m]) p=KB (nF f k a p) m.1 (if p+a.length=k then m.2.1 else nw m.2.1) m.2.2
 | [],f,p=>by simp[nF]
 | x::a,f,p=>by show nF (KB f x.1 (if p=k then x.2.1 else nw x.2.1) x.2.2) k (a++[m]) (p+1)=_;rw[NV k m a _ (p+1),Ua,show p+(a.length+1)=p+1+a.length by omega];rfl
theorem QW:∀(e:Oo UB)(_:∀m∈e,oF c m)(f:Nat->Nat->Nat)(p:Nat),ZA c f->ZA c (nF f k e p)
 | [],_,f,p,o=>o
 | m::e,h,f,p,o=>by obtain⟨a,b,d,_⟩:=h m ⋯;exact QW e (fun x g=>h x (by simp[g])) _ _ (II o a b d _)
def cG(c:Nat)(g:Nat->Nat->Nat):O4 (Nat×Nat):=(WA c).find? fun p=>decide (1<(HA (g p.1 p.2)).length)
def Ph(h:m<8192):Builtin.bitAnd 8191 (Builtin.bitNot ((m:Nat):Int))=((nw m:Nat):Int):=by
 have d:Builtin.bitNot (Builtin.bitNot ((m:Nat):Int))=(m:Int):=by unfold Builtin.bitNot;omega
 have b:¬(0<=Builtin.bitNot ((m:Nat):Int)):=by unfold Builtin.bitNot;omega
 have a:(8191:Nat)&&&m=m:=by rw[Nat.and_comm,show(8191:Nat)=2^13-1 from rfl,Nat.and_two_pow_sub_one_eq_mod];exact Nat.mod_eq_of_lt h
 unfold Builtin.bitAnd;have f:decide ((8191:Int) >=0)=true:=by decide
 have e:decide (Builtin.bitNot ((m:Nat):Int) >=0)=false:=iu b;simp![f,e,d];show(8191:Int)-(((8191:Int).toNat&&&(m:Int).toNat:Nat):Int)=_;rw[show(8191:Int).toNat=8191 from rfl,ou,a];unfold nw;omega
def Kh{a:Type}{xs:Oo a}(h:k<=xs.length):(xs.take k).length=k:=by rw[Di];omega
def KJ{a:Type}{xs:Oo a}{x:a}(h:xs[k]?=ε x):xs.take (k+1)=xs.take k++[x]:=by rw[take_add_one,h];rfl
def fj(N:Wi h b c f)(H:c<=1000)(E:h[n]?=ε (.lst (g.map kB)))(ok:∀m∈g,oF c m)(k) :
 ∃d h',ON [.ref (b+c),.ref n,.int (k:Nat)] h=ε (.ref (d+c),h')/\Wi h' d c (VP f g k)/\Up h h':=by
 obtain⟨O,h',e,d,u,r,q,rfl,p,U⟩:=X6 (i:=3) (j:=4) (n:=n) (body:=QN) kB (fun a l h'=>∃d u r q,l=[ε (.ref (d+c)),ε (.ref n),ε (.int (k:Nat)),u,r,q]/\Wi h' d c (nF f k (g.take a) 0)/\Up h h') g (by
  rintro a l h' ⟨d,u,r,q,rfl,p,U⟩;exact U.get E) (by
  rintro a x y l h' ⟨d,u,r,q,rfl,p,U⟩;obtain⟨L,J,Q,I⟩:=ok x (m6 y);have P:a<g.length:=(Xa y).1;have eq:nF f k (g.take (a+1)) 0=KB (nF f k (g.take a) 0) x.1 (if a=k then x.2.1 else nw x.2.1) x.2.2:=by rw[KJ y,NV,Kh nofun,Ao]
  have o:=lO p H L J (if a=k then x.2.1 else nw x.2.1);rw[<- eq]at o;have M:=yG h' c (nF f k (g.take (a+1)) 0);refine⟨.nx [ε (.ref (h'.length+c)),ε (.ref n),ε (.int (k:Nat)),ε (.int (a:Nat)),ε (kB x),ε (.int ((if a=k then x.2.1 else nw x.2.1:Nat):Int))] (h'++aD h'.length c (nF f k (g.take (a+1)) 0)),?_,h'.length,_,_,_,rfl,M,U.trans (Up.app _ _)⟩;have C:atI [Dt.str "ways",Dt.int (x.1:Nat),Dt.int (x.2.1:Nat),Dt.int (x.2.2:Nat)] 2=ε (.int (x.2.1:Nat)):=rfl;have D:atI [Dt.str "ways",Dt.int (x.1:Nat),Dt.int (x.2.1:Nat),Dt.int (x.2.2:Nat)] 1=ε (.int (x.1:Nat)):=rfl;have B:atI [Dt.str "ways",Dt.int (x.1:Nat),Dt.int (x.2.1:Nat),Dt.int (x.2.2:Nat)] 3=ε (.int (x.2.2:Nat)):=rfl;by_cases z:a=k
  . subst z;rw[eG rfl]at o ⊢;have F:decide ((a:Int)=(a:Int))=true:=je rfl;simp![QN,YA,MB,BK,IA,oA,gA,pA,Wu,Wa,Ti,Ui,iA,fA,lD,decide_true,NA,eO,kB,kC,D,C,B,Vu,jB,OA,zA,xA,Ve,o]
  . rw[eH z]at o ⊢;have F:decide ((a:Int)=(k:Int))=false:=iu nofun;simp![QN,YA,MB,BK,IA,oA,gA,pA,Wu,Wa,Ti,Ui,iA,fA,lD,F,NA,Xo,g8,kB,kC,D,C,B,Vu,w8,Gy,jK,Ph I,jB,OA,zA,xA,Ve,o]) [ε (.ref (b+c)),ε (.ref n),ε (.int (k:Nat)),none,none,none] h ⟨b,_,_,_,rfl,N,Up.refl h⟩
 rw[Li]at p;refine⟨d,h',?_,p,U⟩;dsimp![ON,WU,zB,Uu,Xi,Nat.reduceSub,List.replicate,Yi,Ye,YA,ND,Lb,gA,Ti,Ui,iA,yw E,e,jB,qB,HB]
def dj(N:Wi h b c g)(H:c<=1000) :
 ∃h',dL [.ref (b+c)] h=ε ((match cG c g with | none=>.non | some p=>DA p),h')/\Up h h':=by
 have D:=mO H h;have U:Up h (h++[.lst ((WA c).map DA)]):=Up.app _ _;have E:Wi (h++[.lst ((WA c).map DA)]) b c g:=U.net N;have m:(h++[Ob.lst ((WA c).map DA)])[h.length]?=ε (.lst ((WA c).map DA)):=by simp
 refine⟨h++[.lst ((WA c).map DA)],?_,U⟩;have body:∀p∈WA c,∀y,yN [ε (.ref (b+c)),ε (DA p)] (h++[.lst ((WA c).map DA)])=ε (if decide (1<(HA (g p.1 p.2)).length)=true then .rt (DA p) (h++[.lst ((WA c).map DA)])else .nx [ε (.ref (b+c)),ε (DA p)] (h++[.lst ((WA c).map DA)]))\/y:=by
  intro p hp y;obtain⟨o,F⟩:=HR hp
  left
  have B:=LF E.top (p.1:Int);rw[SM.PD,EO o,Vu]at B;have u:=LF (E.row _ o) (p.2:Int);rw[SM.PD,UL F,Vu]at u;have J:decide ((1:Int)<(((HA (g p.1 p.2)).map fun(k:Nat)=>Dt.int (k:Int)).length:Nat))=decide (1<(HA (g p.1 p.2)).length):=by
   rw[ni];by_cases z:1<(HA (g p.1 p.2)).length
   . rw[je z,je nofun]
   . rw[iu z,iu nofun]
  simp![yN,FB,IA,oA,LB,OA,zA,xA,gA,pA,Ti,Ui,iA,fA,DA,kC,RC,DG,Vu,B,u,Ve,wL,vP,jI,J,NA,qB,OD];split<;>rfl
 obtain⟨r,e,f⟩:=LZ (i:=1) (n:=h.length) (body:=yN) DA (fun k l h'=>(∃y,l=[ε (.ref (b+c)),y])/\h'=h++[.lst ((WA c).map DA)]/\((WA c).take k).find? (fun p=>decide (1<(HA (g p.1 p.2)).length))=none) (fun d h'=>h'=h++[.lst ((WA c).map DA)]/\∃p,cG c g=ε p/\d=DA p) (WA c) (by
  rintro k l h' ⟨_,rfl,_⟩;exact m) (by
  rintro k x j l h' ⟨⟨y,rfl⟩,rfl,a⟩;rcases body x (m6 j) False with bb | bb
  . refine⟨_,bb,?_⟩;by_cases z:decide (1<(HA (g x.1 x.2)).length)=true
    . rw[eG z];refine⟨rfl,x,?_,rfl⟩;unfold cG;rw[<- take_append_drop k (WA c),find?_append,a,Option.none_or];have:(WA c).drop k=x::(WA c).drop (k+1):=by obtain⟨q1,q2⟩:=Xa j;rw[<- q2];exact Ai q1
      rw[this,Ji,z]
    . rw[eH z];refine⟨⟨_,rfl⟩,rfl,?_⟩;rw[KJ j,find?_append,a,Option.none_or,Ji];simp![show decide (1<(HA (g x.1 x.2)).length)=false by simpa using z];rfl
  . exact bb.elim) [ε (.ref (b+c)),none] (h++[.lst ((WA c).map DA)]) ⟨⟨_,rfl⟩,rfl,rfl⟩
 have C:=N.len;cases r with
 | nx q h'=>obtain⟨_,rfl,a⟩:=f;rw[Li]at a;have:cG c g=none:=a;rw[this];dsimp![dL,OQ,zB,Uu,Xi,Nat.reduceSub,List.replicate,Yi,Ye,YA,ND,FC,OA,zA,xA,LB,gA,Ti,iA,C,Ve,D,SE m,e,jB,qB,pA,HB]
 | rt d h'=>obtain⟨rfl,p,I,rfl⟩:=f;rw[I];dsimp![dL,OQ,zB,Uu,Xi,Nat.reduceSub,List.replicate,Yi,Ye,YA,ND,FC,OA,zA,xA,LB,gA,Ti,iA,C,Ve,D,SE m,e,xE,HB]
 | bk q h'=>exact f.elim
 | ct q h'=>exact f.elim
inductive mh where
 | ways (m:UB)
 | long (x:Ln)
 | one (g:List UB)
def ar(h:HI)(d:Dt):mh->Prop
 | .ways m=>d=kB m
 | .long x=>d=.tup [.str "long", .int (x.1:Nat),.int x.2.1,.int x.2.2]
 | .one g=>∃a,d=.tup [.str "one",a]/\gp h a g
def ar.up(q:ar h d f)(u:mu h h'):ar h' d f:=by
 cases f with
 | ways m=>exact q
 | long x=>exact q
 | one g=>obtain⟨a,e,q⟩:=q;exact⟨a,e,q.up u⟩
noncomputable def ZF(c:Nat):mh->Prop
 | .ways m=>oF c m
 | .long x=>x.1<c
 | .one g=>∀m∈g,oF c m
inductive ad(h:HI):List Dt->List mh->Prop where
 | nil:ad h [] []
 | cons {d:Dt} {f:mh} {ds:List Dt} {fs:List mh} (a:ar h d f) (r:ad h ds fs):ad h (d::ds) (f::fs)
def ad.up(q:ad h ds fs)(u:mu h h'):ad h' ds fs:=by
 induction q with
 | nil=>exact .nil
 | cons a r ih=>exact .cons (a.up u) ih
def ad.len(q:ad h ds fs):ds.length=fs.length:=by
 induction q with
 | nil=>rfl
 | cons a r ih=>simp[ih]
def ad.get{h:HI}{ds:Oo Dt}{fs:Oo mh}(q:ad h ds fs):∀{k:Nat}{d:Dt},ds[k]?=ε d->∃f,fs[k]?=ε f/\ar h d f:=by
 induction q with
 | nil=>intro k d e;simp at e
 | cons a r ih=>
  intro k d e;cases k with
  | zero=>simp at e;subst e;exact⟨_,by simp,a⟩
  | succ k=>exact(by obtain⟨f,b,e2⟩:=ih (k:=k) (by simpa using e);exact⟨f,by simpa using b,e2⟩)
def ad.snoc{h:HI}{ds:Oo Dt}{fs:Oo mh}(q:ad h ds fs){d:Dt}{f:mh}(a:ar h d f):ad h (ds++[d]) (fs++[f]):=by
 induction q with
 | nil=>exact .cons a .nil
 | cons b r ih=>exact .cons b ih
noncomputable def xQ:mh->Bool
 | .ways _=>true
 | _=>false
noncomputable def mN:mh->Bool
 | .long _=>true
 | _=>false
noncomputable def GK:mh->Bool
 | .one _=>true
 | _=>false
def l_w:decide ((("long" :Str))=(("ways" :Str)))=false:=by decide +kernel
def o_w:decide ((("one" :Str))=(("ways" :Str)))=false:=by decide +kernel
def w_l:decide ((("ways" :Str))=(("long" :Str)))=false:=by decide +kernel
def o_l:decide ((("one" :Str))=(("long" :Str)))=false:=by decide +kernel
def w_o:decide ((("ways" :Str))=(("one" :Str)))=false:=by decide +kernel
def l_o:decide ((("long" :Str))=(("one" :Str)))=false:=by decide +kernel
def T7 (q:ar h d f) (l) (k) (i) (hi:l[i]?=ε (ε d)):e2 QA (e2 nA (eV i) (nS 0)) (eC (.str "ways")) l k=ε (.bl (xQ f),k):=by
 cases f with
 | ways m=>rw[show d=kB m from q]at hi;simp![oA,gA,hi,iA,fA,pA,kB,kC,RC,Ti,Vu,BE,decide_true,xQ]
 | long x=>rw[show d=_ from q]at hi;simp![oA,gA,hi,iA,fA,pA,kC,RC,Ti,Vu,BE,l_w,xQ]
 | one g=>obtain⟨a,rfl,_⟩:=q;simp![oA,gA,hi,iA,fA,pA,kC,RC,Ti,Vu,BE,o_w,xQ]
def S7 (q:ar h d f) (l) (k) (i) (hi:l[i]?=ε (ε d)):e2 QA (e2 nA (eV i) (nS 0)) (eC (.str "long")) l k=ε (.bl (mN f),k):=by
 cases f with
 | ways m=>rw[show d=kB m from q]at hi;simp![oA,gA,hi,iA,fA,pA,kB,kC,RC,Ti,Vu,BE,w_l,mN]
 | long x=>rw[show d=_ from q]at hi;simp![oA,gA,hi,iA,fA,pA,kC,RC,Ti,Vu,BE,decide_true,mN]
 | one g=>obtain⟨a,rfl,_⟩:=q;simp![oA,gA,hi,iA,fA,pA,kC,RC,Ti,Vu,BE,o_l,mN]
def QZ (q:ar h d f) (l) (k) (i) (hi:l[i]?=ε (ε d)):e2 QA (e2 nA (eV i) (nS 0)) (eC (.str "one")) l k=ε (.bl (GK f),k):=by
 cases f with
 | ways m=>rw[show d=kB m from q]at hi;simp![oA,gA,hi,iA,fA,pA,kB,kC,RC,Ti,Vu,BE,w_o,GK]
 | long x=>rw[show d=_ from q]at hi;simp![oA,gA,hi,iA,fA,pA,kC,RC,Ti,Vu,BE,l_o,GK]
 | one g=>obtain⟨a,rfl,_⟩:=q;simp![oA,gA,hi,iA,fA,pA,kC,RC,Ti,Vu,BE,decide_true,GK]
def NC(f:Nat->Nat->Nat):Oo mh->(Nat->Nat->Nat)
 | []=>f
 | .ways m::fs=>NC (KB f m.1 m.2.1 m.2.2) fs
 | _::fs=>NC f fs
theorem bO(x):∀fs f,NC f (fs++[x])=NC (NC f fs) [x]
 | [],f=>rfl
 | .ways m::fs,f=>bO x fs _
 | .long m::fs,f=>bO x fs _
 | .one m::fs,f=>bO x fs _
theorem tI:∀(fs:Oo mh)(_:∀x∈fs,ZF c x)(f:Nat->Nat->Nat),ZA c f->ZA c (NC f fs)
 | [],_,f,o=>o
 | .ways m::fs,h,f,o=>by obtain⟨a,b,d,_⟩:=h (.ways m) ⋯;exact tI fs (fun x e=>h x (by simp[e])) _ (II o a b d _)
 | .long m::fs,h,f,o=>tI fs (fun x e=>h x (by simp[e])) _ o
 | .one m::fs,h,f,o=>tI fs (fun x e=>h x (by simp[e])) _ o
def HV(r:c<=1000)(u:h[a]?=ε (.lst ds))(F:ad h ds fs)(ok:∀x∈fs,ZF c x) :
 ∃b h',AJ [.int (c:Nat),.ref a] h=ε (.ref (b+c),h')/\Wi h' b c (NC mC fs)/\Up h h':=by
 have H:=Al r h;have U0:Up h (h++aD h.length c mC):=Up.app _ _;have O:=yG h c mC;have B:ds=ds.map id:=by simp
 obtain⟨Q,h',e,f,y,rfl,g,U⟩:=DT (i:=3) (n:=a) (body:=kL) id (fun k l h'=>∃f y,l=[ε (.int (c:Nat)),ε (.ref a),ε (.ref (f+c)),y]/\Wi h' f c (NC mC (fs.take k))/\Up h h') ds (by
  rintro k l h' ⟨f,y,rfl,g,U⟩;rw[<- B];exact U.get u) (by
  rintro k d hd l h' ⟨f,y,rfl,g,U⟩;obtain⟨x,p,q⟩:=F.get hd;have j:=T7 q [ε (.int (c:Nat)),ε (.ref a),ε (.ref (f+c)),ε d] h' 3 rfl;have o:=ok x (m6 p);have eq:NC mC (fs.take (k+1))=NC (NC mC (fs.take k)) [x]:=by rw[KJ p,bO]
  have P:([ε (.int (c:Nat)),ε (.ref a),ε (.ref (f+c)),y]:LI).set 3 (ε (id d))=[ε (.int (c:Nat)),ε (.ref a),ε (.ref (f+c)),ε d]:=rfl;rw[P];cases x with
  | ways m=>obtain⟨L,J,S,R⟩:=o;have qd:d=kB m:=q;have I:=lO g r L J m.2.1;have M:=yG h' c (KB (NC mC (fs.take k)) m.1 m.2.1 m.2.2);refine⟨.nx [ε (.int (c:Nat)),ε (.ref a),ε (.ref (h'.length+c)),ε d] (h'++aD h'.length c (KB (NC mC (fs.take k)) m.1 m.2.1 m.2.2)),?_,h'.length,_,rfl,by rw[eq];exact M,U.trans (Up.app _ _)⟩;have D:atI [Dt.str "ways",Dt.int (m.1:Nat),Dt.int (m.2.1:Nat),Dt.int (m.2.2:Nat)] 2=ε (.int (m.2.1:Nat)):=rfl;have E:atI [Dt.str "ways",Dt.int (m.1:Nat),Dt.int (m.2.1:Nat),Dt.int (m.2.2:Nat)] 1=ε (.int (m.1:Nat)):=rfl;have C:atI [Dt.str "ways",Dt.int (m.1:Nat),Dt.int (m.2.1:Nat),Dt.int (m.2.2:Nat)] 3=ε (.int (m.2.2:Nat)):=rfl;unfold kL;rw[FB,IA,j];rw[qd];simp![xQ,fA,NA,eO,MB,OA,zA,xA,oA,gA,pA,Ti,Ui,iA,kB,kC,E,D,C,Vu,Ve,I,Wu,Wa]
  | long m=>refine⟨.nx [ε (.int (c:Nat)),ε (.ref a),ε (.ref (f+c)),ε d] h',?_,f,_,rfl,by rw[eq];exact g,U⟩;unfold kL;rw[FB,IA,j];simp![xQ,fA,NA,Xo,g8,OD]
  | one m=>
   refine⟨.nx [ε (.int (c:Nat)),ε (.ref a),ε (.ref (f+c)),ε d] h',?_,f,_,rfl,by rw[eq];exact g,U⟩;unfold kL;rw[FB,IA,j];simp![xQ,fA,NA,Xo,g8,OD]) [ε (.int (c:Nat)),ε (.ref a),ε (.ref (h.length+c)),none] (h++aD h.length c mC) ⟨h.length,_,rfl,O,U0⟩
 rw[F.len,Li]at g;refine⟨f,h',?_,g,U⟩;dsimp![AJ,qV,zB,Uu,Xi,Nat.reduceSub,List.replicate,Yi,Ye,YA,MB,OA,zA,xA,gA,Ti,Ui,iA,Ve,H,jB,Wu,Wa,ND,FC,SE (U0.get u),e,qB,HB]
def DW(p:mh->Bool)(o:Dt->mh->Dt)(l)(h)(F:ad h ds fs)(e:h[n]?=ε (.lst ds))(E:ds.length<sizeLine)
 (H:∀d f,ar h d f->f∈fs->tc (l.set 0 (ε d)) h=ε (p f,h)/\(p f=true->te (l.set 0 (ε d)) h=ε (o d f,h))) :
 XD (BA 0) tc te l (.rf n,h)=ε (((ds.zip fs).filter fun x=>p x.2).map fun x=>o x.1 x.2,h):=by
 have go:∀(m k:Nat)(i:LI),(∀d,i.set 0 d=l.set 0 d)->m=ds.length-k+1->k<=ds.length->∀g:Oo Dt,g.length<=k->g=((((ds.zip fs).take k).filter fun x=>p x.2).map fun x=>o x.1 x.2)->RD (BA 0) tc te (.rf n) m k i h g=ε (((ds.zip fs).filter fun x=>p x.2).map fun x=>o x.1 x.2,h):=by
  intro m
  induction m with
  | zero=>intro k i _ e;omega
  | succ m ih=>
   intro k i r I J g C b;unfold RD;simp![mo.at,e];by_cases a:k<ds.length
   . obtain⟨f,j,q⟩:=F.get (jo a);have u:(ds.zip fs)[k]?=ε (ds[k],f):=by rw[getElem?_zip_eq_some];exact⟨jo a,j⟩
     obtain⟨B,y⟩:=H ds[k] f q (m6 j);rw[jo a];simp![vE,Wo,r,B];by_cases z:p f=true
     . rw[eG z];simp![y z,Wo];rw[eG nofun];refine ih (k+1) _ (fun d=>by rw[set_set]) nofun nofun _ (by simp;omega) ?_;rw[KJ u,filter_append,Gu,<- b];simp[z]
     . rw[eH z];refine ih (k+1) _ (fun d=>by rw[set_set]) nofun nofun _ nofun ?_;rw[KJ u,filter_append,Gu,<- b];simp[z]
   . rw[lu nofun];have D:(ds.zip fs).length=ds.length:=by rw[length_zip,F.len];omega
     rw[Ko nofun]at b;rw[b]
 have j:mo.fuel (.rf n) h=ds.length-0+1:=by simp![mo.fuel,e];omega
 unfold XD;simp![j];exact go _ 0 l (fun v=>rfl) rfl (nW _) [] ⋯ ⋯
def pD:Oo mh->Oo Ln
 | []=>[]
 | .long x::fs=>x::pD fs
 | _::fs=>pD fs
def JB:Oo mh->Oo (Oo UB)
 | []=>[]
 | .one g::fs=>g::JB fs
 | _::fs=>JB fs
def lfD:mh->Dt
 | .long x=>uB x
 | _=>.non
noncomputable def g1D:Dt->Dt
 | .tup [_,x]=>x
 | _=>.non
def uV(b:h[a]?=ε (.lst ds))(hz:ds.length<sizeLine)(F:ad h ds fs):uL [.ref a] h=ε (.lst ((pD fs).map uB),h):=by
 have e:=DW (te:=QU) (tc:=RQ) mN (fun v f=>lfD f) [none] h F b hz (by
  intro d f q _;refine⟨?_,fun z=>?_⟩
  . unfold RQ;rw[IA,S7 q _ _ 0 rfl];rfl
  . cases f with
    | long x=>rw[show d=_ from q];rfl
    | ways m=>cases z
    | one g=>cases z)
 have eq:∀(ds:Oo Dt)(fs:Oo mh),ad h ds fs->((ds.zip fs).filter fun x=>mN x.2).map (fun x=>lfD x.2)=(pD fs).map uB:=by
  intro ds fs F
  induction F with
  | nil=>rfl
  | @cons d f ds fs a r ih=>
   rw[zip_cons_cons,filter_cons];cases f with
   | long x=>rw[eG (show mN (mh.long x)=true from rfl),Uu,ih];rfl
   | ways m=>rw[eH (show ¬mN (mh.ways m)=true from Xe),ih];rfl
   | one g=>rw[eH (show ¬mN (mh.one g)=true from Xe),ih];rfl
 rw[eq _ _ F]at e;dsimp![uL,fV,zB,Uu,Xi,Nat.reduceSub,List.replicate,Ve,qB,bF,FC,gA,Ti,iA,SE b,MD,QD,e,HB]
inductive ay(h:HI):List Dt->List (List UB)->Prop where
 | nil:ay h [] []
 | cons {d:Dt} {g:List UB} {ds:List Dt} {gs:List (List UB)} (a:gp h d g) (r:ay h ds gs):ay h (d::ds) (g::gs)
def ay.up(q:ay h ds gs)(u:mu h h'):ay h' ds gs:=by
 induction q with
 | nil=>exact .nil
 | cons a r ih=>exact .cons (a.up u) ih
def IV(e:h[a]?=ε (.lst ds))(hz:ds.length<sizeLine)(F:ad h ds fs):∃b,ay h b (JB fs)/\BJ [.ref a] h=ε (.lst b,h):=by
 have i:=DW (te:=YU) (tc:=bR) GK (fun d v=>g1D d) [none] h F e hz (by
  intro d f q _;refine⟨?_,fun z=>?_⟩
  . unfold bR;rw[IA,QZ q _ _ 0 rfl];rfl
  . cases f with
    | one g=>obtain⟨j,rfl,_⟩:=q;rfl
    | ways m=>cases z
    | long x=>cases z)
 refine⟨((ds.zip fs).filter fun x=>GK x.2).map fun x=>g1D x.1,?_,?_⟩
 rotate_left
 . dsimp![BJ,rV,zB,Uu,Xi,Nat.reduceSub,List.replicate,Ve,qB,bF,FC,gA,Ti,iA,SE e,MD,QD,i,HB]
 . clear i e hz
   induction F with
   | nil=>exact .nil
   | @cons d f ds fs a r ih=>
    rw[zip_cons_cons,filter_cons];cases f with
    | one g=>obtain⟨j,rfl,q⟩:=a;rw[eG (show GK (mh.one g)=true from rfl),Uu];exact .cons q ih
    | ways m=>rw[eH (show ¬GK (mh.ways m)=true from Xe)];exact ih
    | long x=>rw[eH (show ¬GK (mh.long x)=true from Xe)];exact ih
def EW{j:Type}(D F:j->Dt)(xs:Oo j)(l)(h)(e:h[n]?=ε (.lst (xs.map D)))(q:xs.length<sizeLine)(H:∀x∈xs,te (l.set i (ε (D x))) h=ε (F x,h)) :
 XD (BA i) cB te l (.rf n,h)=ε (xs.map F,h):=by
 have go:∀(m k:Nat)(b:LI),(∀d,b.set i d=l.set i d)->m=xs.length-k+1->k<=xs.length->RD (BA i) cB te (.rf n) m k b h ((xs.take k).map F)=ε (xs.map F,h):=by
  intro m
  induction m with
  | zero=>intro k b _ e;omega
  | succ m ih=>
   intro k b g r u;unfold RD;simp![mo.at,e,w5];by_cases a:k<xs.length
   . rw[jo a];have f:=H xs[k] (getElem_mem a);have o:((xs.take k).map F).length<sizeLine:=by rw[ni,Di];omega
     simp![Vu,vE,Wo,bM,eO,g,f,eG o];have:=ih (k+1) (l.set i (ε (D xs[k]))) (fun d=>by rw[set_set]) nofun nofun;rw[take_add_one,jo a,Gu]at this;exact this
   . rw[lu nofun];have:k=xs.length:=by omega
     subst this;simp![Option.map_none,Li]
 have p:mo.fuel (.rf n) h=xs.length-0+1:=by simp![mo.fuel,e,ni];omega
 unfold XD;have:=go (xs.length-0+1) 0 l (fun z=>rfl) rfl (nW _);simp![p];exact this
inductive am{α β:Type}(R:α->β->Prop):List α->List β->Prop where
 | nil:am R [] []
 | cons {a:α} {b:β} {as:List α} {bs:List β} (h:R a b) (r:am R as bs):am R (a::as) (b::bs)
def am.imp(i:∀a b,R a b->S a b)(h:am R f bs):am S f bs:=by
 induction h with
 | nil=>exact .nil
 | cons a r ih=>exact .cons (i _ _ a) ih
def am.len(h:am R e bs):e.length=bs.length:=by
 induction h with
 | nil=>rfl
 | cons a r ih=>simp[ih]
theorem am.ib:∀{i:Oo g}{bs:Oo e},am (fun a b=>R (f a) b) i bs->am R (i.map f) bs
 | _,_,.nil=>.nil
 | _,_,.cons h r=>.cons h (am.ib r)
theorem qR(D:e->Dt)(P:HI->e->Dt->Prop)(up:∀h a x d,Up h a->P h x d->P a x d):∀xs l h,(∀x∈xs,∀a,Up h a->∃d b,te (l.set 0 (ε (D x))) a=ε (d,b)/\Up a b/\P b x d)->
 ∃ds a,SD (BA 0) cB te (xs.map D) l h=ε (ds,a)/\Up h a/\am (P a) xs ds
 | [],l,h,_=>⟨[],h,rfl,Up.refl h,.nil⟩
 | x::xs,l,h,H=>by
  obtain⟨d,m,n,g,j⟩:=H x ⋯ h (Up.refl h);obtain⟨ds,b,e2,f,i⟩:=qR D P up xs (l.set 0 (ε (D x))) m (fun y k a u=>by
   rw[set_set];exact H y (by simp[k]) a (g.trans u))
  refine⟨d::ds,b,?_,g.trans f,.cons (up _ _ _ _ f j) i⟩;simp![Uu,SD,vE,Wo,bM,eO,n,e2]
def bz(h:HI)(c:Nat)(f:Nat->Nat->Nat)(d:Dt):Prop:=∃b,d=.ref (b+c)/\Wi h b c f
def bz.up(n:bz h c f d)(u:mu h h'):bz h' c f d:=by obtain⟨b,e,N⟩:=n;exact⟨b,e,u.net N⟩
def oC(c:Nat)(g:Nat->Nat->Nat):Oo (Oo UB)->O4 (O4 (Nat×Nat)×Oo (Nat->Nat->Nat)×Oo (Nat×Nat))
 | grp::_=>ε (none,(List.range grp.length).map (VP g grp),grp.map fun m=>(m.1,m.2.2))
 | []=>match cG c g with
  | none=>none
  | some p=>ε (ε p,(HA (g p.1 p.2)).map fun w=>KB g p.1 (2^w) p.2,[p])
def YC(tag:O4 (Nat×Nat))(a:Oo Dt)(ps:Oo (Nat×Nat)):Dt:=match tag with
 | none=>.tup [.str "one", .tup [],.lst a,.lst (ps.map DA)]
 | some p=>.tup [.str "split",DA p,.lst a,.lst (ps.map DA)]
def Jt(q:ay h ds a):VC (.lst ds) (.lst []) h=ε (.bl (!a.isEmpty),h):=by rw[uT (xs:=ds) rfl];cases q<;>rfl
def WV{h:HI}{b c:Nat}{g:Nat->Nat->Nat}(N:Wi h b c g)(og:ZA c g)(hc:c<=100){gds:Oo Dt}{E:Oo (Oo UB)}(Q:ay h gds E)(ok:∀x∈E,∀m∈x,oF c m)(sm:∀x∈E,x.length<=1000) :
 ∃j,Up h j/\match oC c g E with
  | none=>zF [.ref (b+c),.lst gds] h=ε (.non,j)
  | some (tag,bs,ps)=>∃f,am (bz j c) bs f/\zF [.ref (b+c),.lst gds] h=ε (YC tag f ps,j):=by
 have ne:=Jt Q;cases Q with
 | @cons d grp ds a0 a r=>
  obtain⟨n,rfl,y⟩:=a;have gl:=sm grp ⋯;have J:=ok grp ⋯;have T:=fun h=>dG (h:=h) (show(-(2^62):Int)<=(grp.length:Int) by omega) (show(grp.length:Int)<2^62 by omega)
  simp![ou]at T;obtain⟨f,j,e,U,A⟩:=qR (te:=VN) (fun(k:Nat)=>Dt.int (k:Int)) (fun h k d=>bz h c (VP g grp k) d) (fun h j k d u q=>q.up u.l) (List.range grp.length) [none,ε (.ref (b+c)),ε (.ref n)] h (by
   intro k _ j u;obtain⟨b',h2,e,N',U'⟩:=fj (u.net N) nofun (u.get y) J k;refine⟨_,h2,?_,U',b',rfl,N'⟩;simp![VN,OA,zA,xA,gA,Wa,Ti,Ui,iA,fA,Ve,e])
  have D:=aE (l:=[none,ε (.ref (b+c)),ε (.ref n)]) (h:=h) (BA 0) cB VN (xs:=(List.range grp.length).map fun(k:Nat)=>Dt.int (k:Int)) (by simp[sizeLine];omega);rw[e]at D;have C:=EW (te:=lV) (i:=0) kB (fun m:UB=>DA (m.1,m.2.2)) grp [none] j (U.get y) (by simp[sizeLine];omega) (by
   intro m _;rfl)
  have S:=TH y;rw[ni]at S;refine⟨j,U,?_⟩;show ∃f,am (bz j c) ((List.range grp.length).map (VP g grp)) f/\zF [.ref (b+c),.lst (.ref n::ds)] h=ε (YC none f (grp.map fun m=>(m.1,m.2.2)),j)
  refine⟨f,A.ib,?_⟩;have pm:grp.map (fun m:UB=>DA (m.1,m.2.2))=(grp.map fun m=>(m.1,m.2.2)).map DA:=by rw[map_map];rfl
  rw[pm]at C;have Z:=SE (U.get y);dsimp![zF,fR,zB,Uu,Xi,Nat.reduceSub,List.replicate,Yi,Ye,YA,FB,IA,oA,gA,pA,kE,xA,Ti,Ui,iA,nW,ne,isEmpty_cons,wu,NA,MB,VI,RC,Vu,Wu,Wa,jB,bF,XI,LB,S,T,MD,xG,QD,Mi,D,qB,AC,zA,FC,Z,C];rfl
 | nil=>
  obtain⟨o,F,U1⟩:=dj N (show c<=1000 by omega);generalize B:zF [.ref (b+c),.lst []] h=X;dsimp![zF,fR,zB,Uu,Xi,Nat.reduceSub,List.replicate,Yi,Ye,YA,FB,IA,oA,gA,pA,kE,xA,Ti,Ui,iA,nW,ne,isEmpty_nil,wz,NA,Xo,g8,OD,jB,MB,OA,zA,Ve]at B;cases lp:cG c g with
  | none=>
   rw[lp]at F;refine⟨o,U1,?_⟩;have H:oC c g []=none:=by simp![oC,lp]
   rw[H];simp![F,fA,jB,YA,FB,IA,oA,gA,pA,Ti,Ui,iA,Wu,Wa,L0,SI,NA,eO,qB,xE,HB]at B;exact B.symm
  | some p=>
   rw[lp]at F;have H:oC c g []=ε (ε p,(HA (g p.1 p.2)).map (fun w=>KB g p.1 (2^w) p.2),[p]):=by simp![oC,lp]
   rw[H];have hp:p∈WA c:=Bo lp;obtain⟨I,O⟩:=HR hp;have L:=U1.net N;obtain⟨f,j,e,U,A⟩:=qR (te:=WN) (fun(w:Nat)=>Dt.int (w:Int)) (fun h w d=>bz h c (KB g p.1 (2^w) p.2) d) (fun h j k d u q=>q.up u.l) (HA (g p.1 p.2)) [none,ε (.ref (b+c)),ε (DA p)] o (by
    intro w hw j u;have M:=(bv.mp hw).1;have y:=lO (u.net L) (show c<=1000 by omega) I O (2^w);refine⟨_,_,?_,Up.app _ _,j.length,rfl,yG j c _⟩;have sh:=UM (h:=j) (JK M);have pw:(1:Int)*2^w=((2^w:Nat):Int):=by simp
    simp![WN,OA,zA,xA,oA,pA,gA,Wa,Ti,Ui,iA,fA,DA,kC,RC,DG,Vu,sh,ou,pw,Ve,y])
   have M:=YL (g p.1 p.2);have D:=aE (l:=[none,ε (.ref (b+c)),ε (DA p)]) (h:=o) (BA 0) cB WN (xs:=(HA (g p.1 p.2)).map fun(w:Nat)=>Dt.int (w:Int)) (by simp[sizeLine];omega);rw[e]at D;have R:=LF L.top (p.1:Int);rw[SM.PD,EO I,Vu]at R;have P:=LF (L.row _ I) (p.2:Int);rw[SM.PD,UL O,Vu]at P;refine⟨j,U1.trans U,f,A.ib,?_⟩;have np:SI (DA p)=false:=rfl;have Y:nA (DA p) (.int 0) o=ε (.int (p.1:Nat),o):=rfl;have W:nA (DA p) (.int 1) o=ε (.int (p.2:Nat),o):=rfl;simp![F,fA,jB,YA,FB,IA,oA,gA,pA,Ti,Ui,iA,Wu,Wa,L0,np,NA,Xo,g8,OD,MB,OA,zA,xA,Ve,Y,W,R,P,bF,FC,wL,CF,MD,xG,QD,Mi,D,qB,AC]at B;rw[<- B];rfl
def Iv(D:c<=100){ls:Oo Ln}(C:ls.length<=1000)(r:Wi h b c N)(a d:O4 Dt):∃y rest,lC (BA 3) jO (ls.map uB) [ε (.ref (b+c)),a,ε (.ref h.length),none,d] (h++[.lst ((WC c).map vA)]) =
 ε (.nx [ε (.ref (b+c)),a,ε (.ref h.length),y,d] (h++.lst ((WC c++ls.flatMap (UC (2*c+1))).map vA)::rest)):=by
 have n:(WC c).length=c:=by simp[WC]
 obtain⟨u,j,e,⟨y,rfl⟩,rest,rfl,_⟩:=dP (i:=3) (body:=jO) uB (fun k l j=>(∃y,l=[ε (.ref (b+c)),a,ε (.ref h.length),y,d])/\∃rest,j=h++.lst ((WC c++(ls.take k).flatMap (UC (2*c+1))).map vA)::rest/\((ls.take k).flatMap (UC (2*c+1))).length<=2*k) ls 0 (by
  rintro k x f l j ⟨⟨y,rfl⟩,rest,rfl,p⟩;rw[Ao]at p ⊢;have B:k<ls.length:=(Xa f).1;have m:(UC (2*c+1) x).length=2:=rfl;have o:=(r.grow (.lst ((WC c++(ls.take k).flatMap (UC (2*c+1))).map vA)::rest)).len;have q:=G9 x.1 x.2.1 x.2.2 (g:=2*c+1) nofun (h++.lst ((WC c++(ls.take k).flatMap (UC (2*c+1))).map vA)::rest);have a:=TX (h:=h) (F:=WC c++(ls.take k).flatMap (UC (2*c+1))) (G:=UC (2*c+1) x) (rest:=rest) (eP:=[]) (l:=[ε (.ref (b+c)),a,ε (.ref h.length),ε (uB x),d]) (g:=rA pL [] (aA (eV 3) (aA (rA nM [] (aA (GB eB (eV 0)) (dA))) (dA)))) (by rw[jj,n,m];omega) (by
   simp![OA,zA,xA,LB,gA,Ti,Ui,iA,fA,o,bf,Ve,uB];exact q)
  refine⟨.nx [ε (.ref (b+c)),_,ε (.ref h.length),ε (uB x),d] (h++.lst ((WC c++(ls.take (k+1)).flatMap (UC (2*c+1))).map vA)::(rest++[.lst ((UC (2*c+1) x).map vA)])),?_,⟨ε (uB x),rfl⟩,rest++[.lst ((UC (2*c+1) x).map vA)],rfl,?_⟩
  . rw[xO _ f,<- tu];simp![jO,lF,IR,gA,Wu,Wa,Ti,Ui,iA,fA,a]
  . rw[xO _ f,jj,m];omega) [ε (.ref (b+c)),a,ε (.ref h.length),none,d] (h++[.lst ((WC c).map vA)]) ⟨⟨_,rfl⟩,[],by simp,by simp⟩
 rw[Ao,Li]at *;exact⟨y,rest,e⟩
def Rk(R:c<=100)(I:∀i j,i<c->j<c->HA (N i j) ≠ [])(L:Wi h d c N)(S:F.length<=3000)(db:∀G:Oo Bd,∀a,(h++.lst (G.map vA)::(r0++a))[b]?=ε (.lst ((WA c).map DA)))(m f:O4 Dt)(pl:(WA c).length<=10000)(pin:∀p∈WA c,p.1<c/\p.2<c) :
 ∃y rest,xD (BA 4) kO [ε (.ref (d+c)),m,ε (.ref h.length),f,none] (.rf b,h++.lst (F.map vA)::r0) =
 ε (.nx [ε (.ref (d+c)),m,ε (.ref h.length),f,y] (h++.lst ((F++(WA c).flatMap fun p=>eE p.1 (N p.1 p.2) p.2).map vA)::rest)):=by
 obtain⟨O,q,e,⟨y,rfl⟩,a,rfl,_⟩:=DT (i:=4) (n:=b) (body:=kO) DA (fun k l q=>(∃y,l=[ε (.ref (d+c)),m,ε (.ref h.length),f,y])/\∃a,q=h++.lst ((F++((WA c).take k).flatMap fun p=>eE p.1 (N p.1 p.2) p.2).map vA)::(r0++a)/\(((WA c).take k).flatMap fun p=>eE p.1 (N p.1 p.2) p.2).length<=8*k) (WA c) (by
  rintro k l q ⟨_,a,rfl,_⟩;exact db _ a) (by
  rintro k x o l q ⟨⟨y,rfl⟩,a,rfl,Q⟩;have P:k<(WA c).length:=(Xa o).1;obtain⟨r,B⟩:=pin x (m6 o);have M:(eE x.1 (N x.1 x.2) x.2).length<=8:=by unfold eE;rw[jj];have:=WL x.1 x.2 0 (N x.1 x.2);have:=WL x.1 x.2 1 (N x.1 x.2);omega
  have E:=L.grow (.lst ((F++((WA c).take k).flatMap fun p=>eE p.1 (N p.1 p.2) p.2).map vA)::(r0++a));obtain⟨u,J⟩:=Jj x.1 (N x.1 x.2) x.2 nofun nofun (I _ _ r B) (h++.lst ((F++((WA c).take k).flatMap fun p=>eE p.1 (N p.1 p.2) p.2).map vA)::(r0++a));have D:=LF E.top (x.1:Int);rw[SM.PD,EO r,Vu]at D;have C:=LF (E.row _ r) (x.2:Int);rw[SM.PD,UL B,Vu]at C;have H:=TX (h:=h) (F:=F++((WA c).take k).flatMap fun p=>eE p.1 (N p.1 p.2) p.2) (G:=eE x.1 (N x.1 x.2) x.2) (rest:=r0++a) (eP:=u) (l:=[ε (.ref (d+c)),m,ε (.ref h.length),f,ε (DA x)]) (g:=rA vL [] (aA (e2 nA (eV 4) (nS 0)) (aA (e2 nA (e2 nA (eV 0) (e2 nA (eV 4) (nS 0))) (e2 nA (eV 4) (nS 1))) (aA (e2 nA (eV 4) (nS 1)) (dA))))) (by rw[jj];omega) (by
   simp![OA,zA,xA,oA,pA,gA,Ti,Ui,iA,fA,DA,kC,RC,DG,Vu,D,C,Ve];exact J)
  refine⟨.nx [ε (.ref (d+c)),m,ε (.ref h.length),f,ε (DA x)] (h++.lst ((F++((WA c).take (k+1)).flatMap fun p=>eE p.1 (N p.1 p.2) p.2).map vA)::(r0++(a++.lst ((eE x.1 (N x.1 x.2) x.2).map vA)::u))),?_,⟨_,rfl⟩,_,rfl,?_⟩
  . rw[xO _ o,<- tu,<- tu];simp![kO,lF,IR,gA,Wu,Wa,Ti,Ui,iA,fA,H]
  . rw[xO _ o,jj];omega) [ε (.ref (d+c)),m,ε (.ref h.length),f,none] (h++.lst (F.map vA)::r0) ⟨⟨_,rfl⟩,[],by simp,by simp⟩
 rw[Li]at e;exact⟨y,_,e⟩
def IW(d:c<=100)(E:∀i j,i<c->j<c->HA (N i j) ≠ [])(o:ls.length<=1000)(f:Wi h m c N) :
 ∃rest,SH [.ref (m+c),.lst (ls.map uB)] h=ε (.ref h.length,h++.lst ((CC c N ls).map vA)::rest):=by
 have D:=f.len;have r:=dG (h:=h) (show(-(2^62):Int)<=(c:Int) by omega) (show(c:Int)<2^62 by omega);simp![ou]at r;have u:=fun(i:Int) (h:HI)=>EG (h:=h) (i:=2) (j:=i) (Or.inl ⟨by decide,by decide⟩)
 have J:=xF (te:=gO) (tc:=cB) (i:=0) (fun(k:Nat)=>Dt.int (k:Int)) (fun k=>vA (2*k,2*k+1,-1)) h (List.range c) [none] (by
  intro k _;exact⟨by simp,by simp[gO,u,vA]⟩)
 have e:=aE (l:=[none]) (h:=h) (BA 0) cB gO (xs:=(List.range c).map fun(k:Nat)=>Dt.int (k:Int)) (by simp;omega);rw[J]at e;have I:(List.range c).map (fun k=>vA (2*k,2*k+1,-1))=(WC c).map vA:=by unfold WC;rw[map_map];rfl
 rw[I]at e;obtain⟨y,r0,B⟩:=Iv d o f (ε (.lst (ls.map uB))) none;have a:=(f.grow (.lst ((WC c++ls.flatMap (UC (2*c+1))).map vA)::r0)).len;have g:=mO (c:=c) nofun (h++.lst ((WC c++ls.flatMap (UC (2*c+1))).map vA)::r0);have H:(ls.flatMap (UC (2*c+1))).length<=2*ls.length:=by
  clear B g e a
  induction ls with
  | nil=>simp
  | cons x ls ih=>rw[flatMap_cons,jj,Ua];have:(UC (2*c+1) x).length=2:=rfl;have:=ih (by simp at o;omega);omega
 have pl:(WA c).length<=10000:=by have:=JJ c c;have M:c*c<=100*100:=Js d d;unfold WA;omega
 obtain⟨L,rest,e2⟩:=Rk (b:=(h++Ob.lst ((WC c++ls.flatMap (UC (2*c+1))).map vA)::r0).length) d E f (F:=WC c++ls.flatMap (UC (2*c+1))) (by simp[WC]at H ⊢;omega) (r0:=r0++[.lst ((WA c).map DA)]) (fun G r2=>by
  have:h++Ob.lst (G.map vA)::(r0++[Ob.lst ((WA c).map DA)]++r2)=(h++Ob.lst (G.map vA)::r0)++Ob.lst ((WA c).map DA)::r2:=by simp
  rw[this,ag ⋯];simp) (ε (.lst (ls.map uB))) y pl (fun p hp=>HR hp)
 refine⟨rest,?_⟩;have q:(h++Ob.lst ((WC c++ls.flatMap (UC (2*c+1))).map vA)::r0)++[Ob.lst ((WA c).map DA)]=h++Ob.lst ((WC c++ls.flatMap (UC (2*c+1))).map vA)::(r0++[Ob.lst ((WA c).map DA)]):=by simp
 rw[q]at g;have C:=SE (h:=h++Ob.lst ((WC c++ls.flatMap (UC (2*c+1))).map vA)::(r0++[Ob.lst ((WA c).map DA)])) (n:=(h++Ob.lst ((WC c++ls.flatMap (UC (2*c+1))).map vA)::r0).length) (xs:=(WA c).map DA) (by
  rw[<- q,ag (Va _),Ea];rfl)
 unfold CC;dsimp![SH,KW,zB,Uu,Xi,Nat.reduceSub,List.replicate,Yi,Ye,YA,MB,TL,XI,LB,gA,Ti,Ui,iA,D,a,r,MD,QD,e,Wu,Wa,jB,ND,FC,CF,VF,B,OA,zA,xA,Ve,g,C,e2,qB,HB]
def zm(f)(m)(a:i≠j):KB f i m j i j=f i j&&&m:=by unfold KB yB;have:¬i=j:=a;simp[this]
def IJ(f)(h1:¬(a=i/\b=j))(h2:¬(a=j/\b=i)):KB f i m j a b=f a b:=by
 unfold KB yB;by_cases g:a=j
 . by_cases e2:b=i
   . exact Es ⟨g,e2⟩ h2
   . rw[eG g,eH e2];by_cases d:a=i
     . by_cases e:b=j
       . exact Es ⟨d,e⟩ h1
       . rw[eG d,eH e]
     . rw[eH d]
 . rw[eH g];by_cases d:a=i
   . by_cases e:b=j
     . exact Es ⟨d,e⟩ h1
     . rw[eG d,eH e]
   . rw[eH d]
def TU(h:HC c f):qD c f [] []:=fun i e k a j b d n=>Es (h i e k a j b d) n
def iX(o:ZA c f)(J:x<c)(hz:z<c)(O:x≠z)(b)(h:qD c f W []):qD c (KB f x b z) (W++[(x,z)]) []:=by
 have F:=II o J hz O b;have e:∀i<c,∀k<c,∀j<c,NF i k j->¬(i=z/\j=x)->Wk (KB f x b z) i k j≠KB f x b z i j->FD (W++[(x,z)]) i k j:=by
  intro i r k g j p d B m;obtain⟨y,e2,u⟩:=d;have grow:∀{i k j},FD W i k j->FD (W++[(x,z)]) i k j:=by
   intro i k j q;unfold FD at q ⊢;simp![Ca];rcases q with q | q | q | q
   . exact .inl (.inl q)
   . exact .inr (.inl (.inl q))
   . exact .inr (.inr (.inl (.inl q)))
   . exact .inr (.inr (.inr (.inl q)))
  have un:∀{i k j},Wk f i k j≠f i j->i<c->k<c->j<c->NF i k j->FD W i k j:=by
   intro i k j n r g p d;rcases h i r k g j p d n with q | q | q
   . exact q
   . cases q
   . cases q
  by_cases E:i=x/\j=z
  . obtain⟨rfl,rfl⟩:=E;have D:KB f i b j i k=f i k:=IJ f (fun q=>e2 q.2) (fun q=>y q.2.symm);have C:KB f i b j k j=f k j:=IJ f (fun q=>y q.1.symm) (fun q=>e2 q.1);have n:Wk f i k j≠f i j:=by intro q;apply m;unfold Wk;rw[D,C,zm f b u];exact OW (fL (f i j) _) q
    exact grow (un n r g p ⟨y,e2,u⟩)
  . by_cases a:FD [(x,z)] i k j
    . unfold FD at a ⊢;simp![Ca];rcases a with q | q | q | q
      . exact .inl (.inr q)
      . exact .inr (.inl (.inr q))
      . exact .inr (.inr (.inl (.inr q)))
      . exact .inr (.inr (.inr (.inr q)))
    . unfold FD at a;simp![Bu,not_mem_nil,or_false,xr,not_or]at a;obtain⟨M,g2,g3,L⟩:=a;have I:KB f x b z i j=f i j:=IJ f (fun q=>E q) (fun q=>B q);have D:KB f x b z i k=f i k:=IJ f (fun q=>M q) (fun q=>g2 ⟨q.2,q.1⟩);have C:KB f x b z k j=f k j:=IJ f (fun q=>g3 q) (fun q=>L ⟨q.2,q.1⟩);have n:Wk f i k j≠f i j:=by unfold Wk at m ⊢;rw[I,D,C]at m;exact m
      exact grow (un n r g p ⟨y,e2,u⟩)
 intro i r k g j p d m
 left
 by_cases B:i=z/\j=x
 . obtain⟨y,e2,u⟩:=d;have H:=tS F p g r m;have q:=e j p k g i r ⟨n7 e2,n7 y,n7 u⟩ (fun q=>u nofun) H;unfold FD at q ⊢;rcases q with q | q | q | q
   . exact .inr (.inr (.inr q))
   . exact .inr (.inr (.inl q))
   . exact .inr (.inl q)
   . exact .inl q
 . exact e i r k g j p d B m
theorem UV:∀(e:Oo UB)(_:∀m∈e,oF c m)(f:Nat->Nat->Nat)(p:Nat)(W:Oo (Nat×Nat)),ZA c f->qD c f W []->qD c (nF f k e p) (W++e.map fun m=>(m.1,m.2.2)) []
 | [],_,f,p,W,o,h=>by simpa[nF]using h
 | m::e,hm,f,p,W,o,h=>by obtain⟨a,b,d,_⟩:=hm m ⋯;have:=UV (k:=k) e (fun x g=>hm x (by simp[g])) _ (p+1) _ (II o a b d (if p=k then m.2.1 else nw m.2.1)) (iX o a b d (if p=k then m.2.1 else nw m.2.1) h);rw[tu]at this;exact this
inductive Tr where
 | Ws (st:List (Nat×Nat×Nat))
 | ring (st:List (Nat×Nat×Nat)) (cs:Nat->Option Nat) (P k:Nat)
 | one (st:List (Nat×Nat×Nat)) (bs:List Tr)
 | split (st:List (Nat×Nat×Nat)) (p:Nat×Nat) (bs:List Tr)
inductive nv where
 | opn
 | laid (t:Nat->Int)
 | clash (tr:Tr)
inductive Wd where | opn | laid | clash
noncomputable def nv.wd:nv->Wd
 | .opn=>.opn
 | .laid _=>.laid
 | .clash _=>.clash
noncomputable def yQ(tag:O4 (Nat×Nat))(st:Oo (Nat×Nat×Nat))(bs:Oo Tr):Tr:=match tag with
 | none=>.one st bs
 | some p=>.split st p bs
noncomputable abbrev FA:=Nat->Nat->Nat
def fF(L:FA->Oo (Oo UB)->Nat->nv->Nat->Prop)(tag:O4 (Nat×Nat))(st:Oo (Nat×Nat×Nat))(e:Oo (Oo UB)):Oo FA->Nat->Oo Tr->nv->Nat->Prop
 | [],made,acc,a,cr=>a=.clash (yQ tag st acc)/\cr=made
 | b::bs,made,acc,a,cr=>(∃f d,L b e made (.clash f) d/\fF L tag st e bs d (acc++[f]) a cr)\/(a.wd≠.clash/\L b e made a cr)
def TC(c m:Nat)(ls:Oo Ln):Nat->FA->Oo (Oo UB)->Nat->nv->Nat->Prop
 | 0,_,_,_,_,_=>False
 | n+1,f,gs,made,a,cr=>
  (∃st g,mr c f st g/\bB c g=true/\a=.clash (.Ws st)/\cr=made)\/
  ∃st g,cq c f st g/\
   ((∃d P k,rF (2*c) (cC (CC c g ls)) (WG (CC c g ls)) d P k/\a=.clash (.ring st d P k)/\cr=made)\/
    (∃t,(∀e∈CC c g ls,BH t e)/\
     ((oC c g gs=none/\a=.laid t/\cr=made)\/
      (∃b bs h,oC c g gs=ε (b,bs,h)/\
       ((m<=made/\a=.opn/\cr=made)\/(made<m/\fF (TC c m ls n) b st gs.tail bs (made+1) [] a cr))))))
def bg(c:Nat)(a:Oo (Oo UB)):Prop:=∀x∈a,∀m∈x,oF c m
def bg.tail(h:bg c a):bg c a.tail:=fun x b=>h x (mem_of_mem_tail b)
def SJ(o:ZA c g)(ok:bg c a)(h:oC c g a=ε (tag,bs,ps)):∀b∈bs,ZA c b:=by
 cases a with
 | cons grp a=>simp![oC,Ge,xr]at h;obtain⟨_,rfl,_⟩:=h;intro b d;obtain⟨k,_,rfl⟩:=Ce.mp d;exact QW grp (ok grp ⋯) g 0 o
 | nil=>
  simp![oC]at h;cases lp:cG c g with
  | none=>rw[lp]at h;cases h
  | some p=>rw[lp]at h;simp![Ge,xr]at h;obtain⟨_,rfl,_⟩:=h;intro b d;obtain⟨w,_,rfl⟩:=Ce.mp d;have hp:p∈WA c:=Bo lp;obtain⟨q1,q2⟩:=cz.mp hp;exact II o nofun nofun nofun _
def JR(R:rF (2*c) (cC (CC c g ls)) (WG (CC c g ls)) cs P k)(a:∀e∈CC c g ls,BH t e):False:=
 Jr (b:=t) (fun e d=>by have:=a e d;unfold BH at this;omega) R
theorem vI:∀n f E made a y s s',ZA c f->bg c E->TC c m ls n f E made a s->TC c m ls n f E made y s'->a.wd=y.wd/\s=s'
 | 0,_,_,_,_,_,_,_,_,_,h,_=>h.elim
 | n+1,f,E,made,a,y,s,s',of,og,h,e=>by
  rcases h with⟨st,g,L,h2,rfl,rfl⟩ | ⟨st,g,L,h⟩
  . rcases e with⟨p,U,D,k2,rfl,rfl⟩ | ⟨p,U,D,e⟩
    . exact⟨rfl,rfl⟩
    . have:=D.di of L;rw[h2]at this;cases this
  . rcases e with⟨p,U,D,k2,rfl,rfl⟩ | ⟨p,U,D,e⟩
    . have:=L.di of D;rw[k2]at this;cases this
    . have eg:=L.unique of D;subst eg;have Q:=(L.ok of).1;rcases h with⟨cs,P,k,R,rfl,rfl⟩ | ⟨t,ht,h⟩
      . rcases e with⟨W,P',k',R',rfl,rfl⟩ | ⟨t',J,e⟩
        . exact⟨rfl,rfl⟩
        . exact(JR R J).elim
      . rcases e with⟨W,P',k',R',rfl,rfl⟩ | ⟨t',J,e⟩
        . exact(JR R' ht).elim
        . rcases h with⟨I,rfl,rfl⟩ | ⟨H,bs,ps,I,h⟩
          . rcases e with⟨d,rfl,rfl⟩ | ⟨F,Y,O,d,e⟩
            . exact⟨rfl,rfl⟩
            . rw[I]at d;cases d
          . rcases e with⟨d,rfl,rfl⟩ | ⟨F,Y,O,d,e⟩
            . rw[I]at d;cases d
            . rw[I]at d;cases d;rcases h with⟨lm,rfl,rfl⟩ | ⟨lm,h⟩
              . rcases e with⟨B,rfl,rfl⟩ | ⟨B,e⟩
                . exact⟨rfl,rfl⟩
                . omega
              . rcases e with⟨B,rfl,rfl⟩ | ⟨B,e⟩
                . omega
                . have Z:=SJ Q og I;have go:∀(bs:Oo FA),(∀b∈bs,ZA c b)->∀(u:Nat)(C o:Oo Tr)(a y:nv)(s s':Nat),fF (TC c m ls n) H st E.tail bs u C a s->fF (TC c m ls n) H p E.tail bs u o y s'->a.wd=y.wd/\s=s':=by
                   intro bs
                   induction bs with
                   | nil=>rintro _ u C o a y s s' ⟨rfl,rfl⟩ ⟨rfl,rfl⟩;exact⟨rfl,rfl⟩
                   | cons b bs ih=>
                    intro hb u C o a y s s' q q';have r:=hb b ⋯;have T:∀x∈bs,ZA c x:=fun x hx=>hb x (by simp[hx])
                    rcases q with⟨tr,m1,q1,q2⟩ | ⟨q1,q2⟩
                    . rcases q' with⟨M,S,j,i⟩ | ⟨j,i⟩
                      . obtain⟨_,rfl⟩:=vI n b _ u _ _ _ _ r og.tail q1 j;exact ih T _ _ _ _ _ _ _ q2 i
                      . obtain⟨z,_⟩:=vI n b _ u _ _ _ _ r og.tail q1 i;exact Es z.symm j
                    . rcases q' with⟨M,S,j,i⟩ | ⟨j,i⟩
                      . obtain⟨z,_⟩:=vI n b _ u _ _ _ _ r og.tail q2 j;exact Es z q1
                      . exact vI n b _ u _ _ _ _ r og.tail q2 i
                  exact go bs Z _ _ _ _ _ _ _ h e
theorem rS:∀n f o made a s,TC c m ls n f o made a s->made<=s/\(made<=m->s<=m)/\(made<=m->a.wd=.opn->s=m)
 | 0,_,_,_,_,_,h=>h.elim
 | n+1,f,o,made,a,s,h=>by
  rcases h with⟨st,g,u,I,rfl,rfl⟩ | ⟨st,g,u,h⟩
  . exact⟨Va _,id,fun v z=>by cases z⟩
  . rcases h with⟨J,P,k,R,rfl,rfl⟩ | ⟨t,H,h⟩
    . exact⟨Va _,id,fun v z=>by cases z⟩
    . rcases h with⟨p,rfl,rfl⟩ | ⟨j,bs,E,p,h⟩
      . exact⟨Va _,id,fun v z=>by cases z⟩
      . rcases h with⟨r,rfl,rfl⟩ | ⟨r,h⟩
        . exact⟨Va _,id,fun v v=>by omega⟩
        . have go:∀(bs:Oo FA)(d:Nat)(e:Oo Tr)(a:nv)(s:Nat),fF (TC c m ls n) j st o.tail bs d e a s->d<=s/\(d<=m->s<=m)/\(d<=m->a.wd=.opn->s=m):=by
           intro bs
           induction bs with
           | nil=>rintro d e a s ⟨rfl,rfl⟩;refine⟨Va _,id,fun v z=>by cases z⟩
           | cons b bs ih=>
            intro d e a s q;rcases q with⟨D,F,q1,q2⟩ | ⟨q1,q2⟩
            . obtain⟨C,i,_⟩:=rS n b _ d _ _ q1;obtain⟨L,y,x⟩:=ih _ _ _ _ q2;exact⟨by omega,fun z=>y (i z),fun z=>x (i z)⟩
            . exact rS n b _ d _ _ q2
          obtain⟨C,i,B⟩:=go bs _ _ _ _ h;exact⟨by omega,fun v=>i nofun,fun v=>B nofun⟩
mutual
noncomputable def ae(lo:Nat)(h:HI):Tr->Dt->Prop
 | .Ws st,d=>∃s,d=.tup [.str "threes", .ref s]/\lo<=s/\h[s]?=ε (.lst (st.map zD))
 | .ring st cs P k,d=>∃s r,d=.tup [.str "ring", .ref s,.ref r]/\lo<=s/\lo<=r/\h[s]?=ε (.lst (st.map zD))/\h[r]?=ε (.lst (LC cs P k))
 | .one st bs,d=>∃s r ds,d=.tup [.str "one", .ref s,.ref r]/\lo<=s/\lo<=r/\h[s]?=ε (.lst (st.map zD))/\h[r]?=ε (.lst ds)/\Zu lo h bs ds
 | .split st p bs,d=>∃s r ds,d=.tup [.str "split", .ref s,.int (p.1:Nat),.int (p.2:Nat),.ref r]/\lo<=s/\lo<=r/\h[s]?=ε (.lst (st.map zD))/\h[r]?=ε (.lst ds)/\Zu lo h bs ds
noncomputable def Zu(lo:Nat)(h:HI):Oo Tr->Oo Dt->Prop
 | [],ds=>ds=[]
 | t::ts,ds=>∃d r,ds=d::r/\ae lo h t d/\Zu lo h ts r
end
def OT(lo:Nat)(h h':HI):Prop:=∀(n:Nat)(a:Oo Dt),lo<=n->h[n]?=ε (.lst a)->h'[n]?=ε (.lst a)
mutual
theorem ae.up{lo a:Nat}(g:a<=lo){h h':HI}(u:OT lo h h'):∀(t:Tr){d:Dt},ae lo h t d->ae a h' t d
 | .Ws st,d,q=>by simp![ae]at q ⊢;obtain⟨s,e,l,q⟩:=q;exact⟨s,e,by omega,u _ _ l q⟩
 | .ring st cs P k,d,q=>by simp![ae]at q ⊢;obtain⟨s,r,e,f,b,q1,q2⟩:=q;exact⟨s,r,e,by omega,by omega,u _ _ f q1,u _ _ b q2⟩
 | .one st bs,d,q=>by simp![ae]at q ⊢;obtain⟨s,r,ds,e,f,b,q1,q2,q3⟩:=q;exact⟨s,r,ds,e,by omega,by omega,u _ _ f q1,u _ _ b q2,Zu.up g u bs q3⟩
 | .split st p bs,d,q=>by simp![ae]at q ⊢;obtain⟨s,r,ds,e,f,b,q1,q2,q3⟩:=q;exact⟨s,r,ds,e,by omega,by omega,u _ _ f q1,u _ _ b q2,Zu.up g u bs q3⟩
theorem Zu.up{lo a:Nat}(f:a<=lo){h h':HI}(u:OT lo h h'):∀(b:Oo Tr){ds:Oo Dt},Zu lo h b ds->Zu a h' b ds
 | [],ds,q=>by simp![Zu]at q ⊢;exact q
 | t::b,ds,q=>by simp![Zu]at q ⊢;obtain⟨d,r,e,q1,q2⟩:=q;exact⟨d,r,e,ae.up f u t q1,Zu.up f u b q2⟩
end
theorem Zu.snoc{lo:Nat}{h:HI}{t:Tr}{d:Dt}(a:ae lo h t d):∀b{ds:Oo Dt},Zu lo h b ds->Zu lo h (b++[t]) (ds++[d])
 | [],ds,q=>by simp![Zu]at q;subst q;simp![Ye,Zu];exact⟨d,[],rfl,a,rfl⟩
 | t'::b,ds,q=>by simp![Zu]at q;obtain⟨e,r,rfl,q1,q2⟩:=q;simp![Yi,Zu];exact⟨e,r++[d],rfl,q1,Zu.snoc a b q2⟩
noncomputable def FM(c:Nat)(u:Nat->Int):Oo Dt:=(List.range c).map fun k=>.tup [.int (u (2*k)),.int (u (2*k+1))]
def dm(lo:Nat)(h:HI)(c:Nat):nv->Dt->Prop
 | .opn,d=>d=.tup [.str "open", .non]
 | .laid t,d=>d=.tup [.str "laid", .lst (FM c (VD (2*c) t))]
 | .clash tr,d=>∃x,d=.tup [.str "clash",x]/\ae lo h tr x
def dm.up{lo b:Nat}(g:b<=lo)(u:OT lo h h')(q:dm lo h c a d):dm b h' c a d:=by
 cases a with
 | opn=>exact q
 | laid t=>exact q
 | clash f=>obtain⟨x,e,q⟩:=q;exact⟨x,e,ae.up g u f q⟩
def A9(p:c<=100)(u)(h):SN [.lst (gC (2*c) u)] h=ε (.lst (FM c u),h):=by
 have j:K4 2 (.int 0) (.int ((2*c:Nat):Int),h)=ε (.vals ((List.range c).map fun(k:Nat)=>Dt.int (0+(k:Int)*(2:Nat))),h):=by
  have n:((((2*c:Nat):Int)-0+((2:Nat):Int)-1)/((2:Nat):Int)).toNat=c:=by omega
  have o:(0:Int)<=0/\(0:Int)<2^61/\0<=((2*c:Nat):Int)/\((2*c:Nat):Int)<2^61/\0<2/\2<1000:=by omega
  simp![K4,eG o,n]
 have m:=xF (te:=BN) (tc:=cB) (i:=0) (fun(k:Nat)=>Dt.int (0+(k:Int)*(2:Nat))) (fun k=>Dt.tup [.int (u (2*k)),.int (u (2*k+1))]) h (List.range c) [none,ε (.lst (gC (2*c) u))] (by
  intro k a;have a:=Ci.mp a;refine⟨by simp,?_⟩;have g:(0:Int)+(k:Int)*((2:Nat):Int)=((2*k:Nat):Int):=by omega
  have g2:((2*k:Nat):Int)+1=((2*k+1:Nat):Int):=by omega
  have f:=DO u (show 2*k<2*c by omega);have e:=DO u (show 2*k+1<2*c by omega);rw[g];simp![BN,AC,zA,xA,oA,pA,gA,Wa,Ti,Ui,iA,fA,AE,g2,VI,SM.PD,f,e,Vu];rfl)
 have b:=aE (l:=[none,ε (.lst (gC (2*c) u))]) (h:=h) (BA 0) cB BN (xs:=(List.range c).map fun(k:Nat)=>Dt.int (0+(k:Int)*(2:Nat))) (by simp[sizeLine];omega);rw[m]at b;have d:=GR (2*c) u;dsimp![SN,OU,zB,Uu,Xi,Nat.reduceSub,List.replicate,Ve,qB,bF,v8,pA,LB,gA,Ti,iA,vP,d,j,MD,xG,QD,Mi,b,HB];rfl
def ie(h:HI)(d:Dt)(P:Oo (Nat×Nat)):Prop:=d=.lst (P.map DA)\/∃n,d=.ref n/\h[n]?=ε (.lst (P.map DA))
def ie.seq(q:ie h d P)(e):XC (h++e) d=ε (P.map DA):=by
 rcases q with rfl | ⟨n,rfl,q⟩
 . rfl
 . have:=(Up.app h e).get q;simp![XC,yA,this]
def aw (h:HI) (o:Nat) (ls:Oo Ln) (m made:Nat):Prop:=h[o]?=ε (.ins "Search" [("lengths", .lst (ls.map uB)),("most", .int (m:Nat)),("made", .int (made:Nat))])
def aw.up(u:Up h h')(s:aw h o ls m made):aw h' o ls m made:=u.get s
def VY(a:m<8192)(h:m≠0):HA m ≠ []:=by
 intro e;apply h;refine KG a (by decide) fun k b=>?_
 cases z:m.testBit k with
 | false=>simp
 | true=>have:k∈HA m:=bv.mpr ⟨b,z⟩;rw[e]at this;cases this
def Zy(o:ZA c g)(ne:bB c g=false):∀i j,i<c->j<c->HA (g i j) ≠ []:=fun i j b a=>VY (o.lt i b j a) (di ne b a)
def ug(h:p∈WA c):p.1<p.2/\p.2<c:=by unfold WA eD at h;obtain⟨i,b,h⟩:=Nu.mp h;obtain⟨k,a,rfl⟩:=Ce.mp h;have:=Ci.mp b;have:=Ci.mp a;exact⟨by show i<i+1+k;omega,by show i+1+k<c;omega⟩
def GZ(h:e∈yH p q a b d):(e.1=p/\e.2.1=q)\/(e.1=q/\e.2.1=p):=by
 unfold yH at h;rcases Ca.mp h with h | h
 . split at h
   . rw[Bs.mp h];exact .inl ⟨rfl,rfl⟩
   . exact nomatch h
 . split at h
   . rw[Bs.mp h];exact .inr ⟨rfl,rfl⟩
   . exact nomatch h
def PY(h:e∈JF i j side m):∃z,z<2/\((e.1=2*i+side/\e.2.1=2*j+z)\/(e.1=2*j+z/\e.2.1=2*i+side)):=by
 unfold JF at h;rcases Ca.mp h with h | h
 . exact⟨0,by omega,GZ h⟩
 . exact⟨1,by omega,GZ h⟩
def CI(N)(g:∀x∈ls,x.1<c):∀e∈CC c N ls,e.1<2*c/\e.2.1<2*c/\e.1≠e.2.1:=by
 intro e he;unfold CC at he;rcases Ca.mp he with he | he
 . rcases Ca.mp he with he | he
   . obtain⟨i,h,rfl⟩:=Ce.mp he;have:=Ci.mp h;refine⟨?_,?_,?_⟩<;>simp only<;>omega
   . obtain⟨x,f,he⟩:=Nu.mp he;have:=g x f;unfold UC at he;simp![Bu,not_mem_nil,or_false]at he;rcases he with rfl | rfl
     . refine⟨?_,?_,?_⟩<;>simp only<;>omega
     . refine⟨?_,?_,?_⟩<;>simp only<;>omega
 . obtain⟨p,hp,he⟩:=Nu.mp he;obtain⟨k,j⟩:=ug hp;unfold eE at he;rcases Ca.mp he with he | he
   . obtain⟨z,d,⟨a,b⟩ | ⟨a,b⟩⟩:=PY he
     . rw[a,b];omega
     . rw[a,b];omega
   . obtain⟨z,d,⟨a,b⟩ | ⟨a,b⟩⟩:=PY he
     . rw[a,b];omega
     . rw[a,b];omega
theorem VR{a b:Type}(f:a->Oo b)(n):∀(xs:Oo a)(_:∀x∈xs,(f x).length<=n),(xs.flatMap f).length<=n*xs.length
 | [],_=>by simp
 | x::xs,h=>by have:=VR f n xs (fun y d=>h y (by simp[d]));have:=h x ⋯;rw[flatMap_cons,jj,Ua,Nat.mul_succ];omega
def TR(a:c<=8)(N)(b:ls.length<=100):(CC c N ls).length<=1000:=by
 unfold CC;rw[jj,jj];have i:(WC c).length=c:=by simp[WC]
 have h:=VR (UC (2*c+1)) 2 ls (fun x q=>Va _);have g:=VR (fun p:Nat×Nat=>eE p.1 (N p.1 p.2) p.2) 8 (WA c) (fun x q=>by
  unfold eE;rw[jj];have:=WL x.1 x.2 0 (N x.1 x.2);have:=WL x.1 x.2 1 (N x.1 x.2);omega)
 have f:=JJ c c;have d:c*c<=8*8:=Js a a;have e:(WA c).length<=64:=by unfold WA;omega
 omega
def TZ(f:∀m,m<h.length->h'[m]?=h[m]?):Up h h':=by refine⟨?_,f⟩;apply Classical.byContradiction;intro n;have e:=f h'.length nofun;rw[lu (Va _),jo nofun]at e;cases e
def Mt(q:ay h ds b):ay h (ds.drop 1) b.tail:=by
 cases q with
 | nil=>exact .nil
 | cons a r=>exact r
def Z6:sD "lengths" [("lengths",x),("most",y),("made",z)]=ε x:=by rfl
def Jl:sD "most" [("lengths",x),("most",y),("made",z)]=ε y:=by
 have:¬((("most" :Str))=(("lengths" :Str))):=by decide +kernel
 simp![sD,eH this,eO]
def xZ:sD "made" [("lengths",x),("most",y),("made",z)]=ε z:=by
 have b:¬((("made" :Str))=(("lengths" :Str))):=by decide +kernel
 have a:¬((("made" :Str))=(("most" :Str))):=by decide +kernel
 simp![sD,eH b,eH a,eO]
def UX:sD "look" [("lengths",x),("most",y),("made",z)]=none:=by
 have d:¬((("look" :Str))=(("lengths" :Str))):=by decide +kernel
 have b:¬((("look" :Str))=(("most" :Str))):=by decide +kernel
 have a:¬((("look" :Str))=(("made" :Str))):=by decide +kernel
 simp![sD,eH d,eH b,eH a]
def Kl:sD "look_at_branches" [("lengths",x),("most",y),("made",z)]=none:=by
 have d:¬((("look_at_branches" :Str))=(("lengths" :Str))):=by decide +kernel
 have b:¬((("look_at_branches" :Str))=(("most" :Str))):=by decide +kernel
 have a:¬((("look_at_branches" :Str))=(("made" :Str))):=by decide +kernel
 simp![sD,eH d,eH b,eH a]
def Wm:KE "made" v [("lengths",x),("most",y),("made",z)]=([("lengths",x),("most",y),("made",v)]:Oo (Str×Dt)):=by
 have b:¬((("lengths" :Str))=(("made" :Str))):=by decide +kernel
 have a:¬((("most" :Str))=(("made" :Str))):=by decide +kernel
 simp![KE,eH b,eH a,eO]
def o_c:decide ((("open" :Str))=(("clash" :Str)))=false:=by decide +kernel
def V3:decide ((("laid" :Str))=(("clash" :Str)))=false:=by decide +kernel
def t_r:decide ((("times" :Str))=(("ring" :Str)))=false:=by decide +kernel
def Xg(c m:Nat)(ls:Oo Ln)(n:Nat)(f:FA)(e:Oo (Oo UB))(made o:Nat)(h:HI)(r:O4 (Dt×HI)):Prop:=
 ∃d b a s,r=ε (d,b)/\TC c m ls n f e made a s/\dm h.length b c a d/\mu h b/\aw b o ls m s
structure K6(c m:Nat)(ls:List Ln)(n:Nat)(f:FA)(gs:List (List UB))(gds:List Dt)(made b o:Nat)(pd:Dt)(P:List (Nat×Nat))(h:HI):Prop where
 ex:∃a s,TC c m ls n f gs made a s
 of:ZA c f
 og:bg c gs
 sg:∀x∈gs,x.length<=1000
 net:Wi h b c f
 grp:ay h gds gs
 prs:ie h pd P
 pc:∀p∈P,p.1<c/\p.2<c/\p.1≠p.2
 wt:qD c f P []
 lp:P.length<=1000
 ob:aw h o ls m made
def BS(c m:Nat)(ls:Oo Ln)(n:Nat):Prop:=∀(f:FA)(e:Oo (Oo UB))(a:Oo Dt)(made b o:Nat)(d:Dt)(P:Oo (Nat×Nat))(h:HI),K6 c m ls n f e a made b o d P h->Xg c m ls n f e made o h (kF n [.ref o,.ref (b+c),d,.lst a] h)
def B8(tag)(a)(ps)(k):nA (YC tag a ps) (.int 2) k=ε (.lst a,k):=by cases tag<;>rfl
def C8(tag)(a)(ps)(k):nA (YC tag a ps) (.int 3) k=ε (.lst (ps.map DA),k):=by cases tag<;>rfl
def Ew(IH:BS c m ls n){st st0:Oo (Nat×Nat×Nat)}(og:bg c C)(sg:∀x∈C,x.length<=1000)(G0:ay hB gds C)(pc:∀p∈ps,p.1<c/\p.2<c/\p.1≠p.2)(lp:ps.length<=1000) :
 ∀bs M made i D f h y5 Y a0 s0,fF (TC c m ls n) tag st0 C bs made D a0 s0->(∀b∈bs,ZA c b)->(∀b∈bs,qD c b ps [])->am (bz hB c) bs M->mu hB h->h[hB.length]?=ε (.lst f)->Zu (hB.length+1) h i f->f.length+bs.length<=5000->aw h o ls m made->
  ∃r,lC (BA 5) (UK (kF n)) M [ε (.ref o),ε (YC tag fg ps),ε (.ref sr),ε (.lst gds),ε (.ref hB.length),y5,Y] h=ε r/\
   ((∃W S j u H I,r=.nx [ε (.ref o),ε (YC tag fg ps),ε (.ref sr),ε (.lst gds),ε (.ref hB.length),W,S] j/\mu hB j/\j[hB.length]?=ε (.lst H)/\Zu (hB.length+1) j u H/\aw j o ls m I/\fF (TC c m ls n) tag st C bs made i (.clash (yQ tag st u)) I)\/
    (∃d j a I,r=.rt d j/\mu hB j/\dm (hB.length+1) j c a d/\aw j o ls m I/\a.wd≠.clash/\fF (TC c m ls n) tag st C bs made i a I)):=by
 intro bs
 induction bs with
 | nil=>intro M made i D f h y5 Y a0 s0 q _ _ A U hb T _ O;cases A;exact⟨_,rfl,.inl ⟨y5,Y,h,i,f,made,rfl,U,hb,T,O,rfl,rfl⟩⟩
 | cons b bs ih=>
  intro M made i D f h y5 Y a0 s0 q J a2 A U hb T sz O;cases A with
  | @cons _ nd _ a3 a4 A=>
  have a5:hB.length+1<=h.length:=(Xa hb).1;obtain⟨b1,rfl,N1⟩:=a4;have a7:∃a s,TC c m ls n b C made a s:=by
   rcases q with⟨tr,m1,q1,_⟩ | ⟨_,q2⟩
   . exact⟨_,_,q1⟩
   . exact⟨_,_,q2⟩
  obtain⟨d,E,a,s,e,L,AN,U1,O1⟩:=IH b C gds made b1 o (.lst (ps.map DA)) ps h ⟨a7,J b ⋯,og,sg,U.net N1,G0.up U,.inl rfl,pc,a2 b ⋯,lp,O⟩;have mt:=DR (x := "Search") (m := "look") (F:=kF n) (ga:=aA (eV 5) (aA (e2 nA (eV 1) (nS 3)) (aA (eV 3) dA))) (l:=[ε (.ref o),ε (YC tag fg ps),ε (.ref sr),ε (.lst gds),ε (.ref hB.length),ε (.ref (b1+c)),Y]) O UX;have ev:NI "Search" "look" (kF n) (eV 0) (aA (eV 5) (aA (e2 nA (eV 1) (nS 3)) (aA (eV 3) dA))) [ε (.ref o),ε (YC tag fg ps),ε (.ref sr),ε (.lst gds),ε (.ref hB.length),ε (.ref (b1+c)),Y] h=ε (d,E):=by simp![ES,gA,Ti,iA,fA,mt,zA,xA,oA,pA,Ui,C8,e]
  cases a with
  | opn=>have dd:d=.tup [.str "open", .non]:=AN;refine⟨.rt d E,?_,.inr ⟨d,E,.opn,s,rfl,U.trans U1,AN,O1,(fun z=>by cases z),.inr ⟨(fun z=>by cases z),L⟩⟩⟩;subst dd;simp![lC,vE,Wo,Wu,Wa,UK,YA,MB,ev,fA,jB,FB,IA,oA,gA,pA,Ti,Ui,iA,kC,RC,Vu,RM,o_c,wu,NA,eO,qB,xE,VS]
  | laid t=>have dd:d=.tup [.str "laid", .lst (FM c (VD (2*c) t))]:=AN;refine⟨.rt d E,?_,.inr ⟨d,E,.laid t,s,rfl,U.trans U1,AN,O1,(fun z=>by cases z),.inr ⟨(fun z=>by cases z),L⟩⟩⟩;subst dd;simp![lC,vE,Wo,Wu,Wa,UK,YA,MB,ev,fA,jB,FB,IA,oA,gA,pA,Ti,Ui,iA,kC,RC,Vu,RM,V3,wu,NA,eO,qB,xE,VS]
  | clash tr=>
   obtain⟨x,rfl,TA⟩:=AN;have Q:=U1.2 _ _ hb;obtain⟨h2,P⟩:∃h2:HI,h2=E.set hB.length (.lst (f++[x])):=⟨_,rfl⟩
   have l1:hB.length<E.length:=(Xa Q).1;have g2:∀k,k≠hB.length->h2[k]?=E[k]?:=fun k B=>by rw[P,m8 (n7 B)]
   have U2:mu hB h2:=⟨by rw[P,Le];exact uq U.1 U1.1,fun k Z B=>by
    have kl:=(Xa B).1;rw[g2 k nofun];exact U1.2 _ _ (U.2 _ _ B),fun k Z B=>by
    have kl:=(Xa B).1;rw[g2 k nofun];exact U1.3 _ _ (U.3 _ _ B)⟩
   have F2:OT (hB.length+1) E h2:=fun k Z B hx=>by rw[g2 k nofun];exact hx
   have a6:h2[hB.length]?=ε (.lst (f++[x])):=by rw[P,vm l1]
   have O2:aw h2 o ls m s:=by
    have:o≠hB.length:=by intro z;unfold aw at O1;rw[z,Q]at O1;cases O1
    unfold aw;rw[g2 o this];exact O1
   have T2:Zu (hB.length+1) h2 (i++[tr]) (f++[x]):=Zu.snoc (ae.up a5 (fun k Z B hx=>F2 k Z nofun hx) tr TA) i (Zu.up (Va _) (fun k Z B hx=>F2 k Z B (U1.2 _ _ hx)) i T);have ap:=vG (l:=[ε (.ref o),ε (YC tag fg ps),ε (.ref sr),ε (.lst gds),ε (.ref hB.length),ε (.ref (b1+c)),ε (.tup [.str "clash",x])]) (h:=E) (g:=e2 nA (eV 6) (nS 1)) (d:=x) Q ⋯ Q (by simp at sz;simp[sizeLine];omega);rw[<- P]at ap;obtain⟨a1,s1,R,q3⟩:∃a1 s1 R,fF (TC c m ls n) tag st0 C bs s R a1 s1:=by
    rcases q with⟨b2,m1,q1,q2⟩ | ⟨q1,q2⟩
    . obtain⟨_,z⟩:=vI n b C made _ _ _ _ (J b ⋯) og q1 L;subst z;exact⟨_,_,_,q2⟩
    . obtain⟨z,_⟩:=vI n b C made _ _ _ _ (J b ⋯) og q2 L;exact Es z q1
   obtain⟨r,e3,er⟩:=ih a3 s (i++[tr]) R (f++[x]) h2 (ε (.ref (b1+c))) (ε (.tup [.str "clash",x])) a1 s1 q3 (fun y hy=>J y (by simp[hy])) (fun y hy=>a2 y (by simp[hy])) A U2 a6 T2 (by simp at sz ⊢;omega) O2;refine⟨r,?_,?_⟩
   . simp![lC,vE,Wo,Wu,Wa,UK,YA,MB,ev,fA,jB,FB,IA,oA,gA,pA,Ti,Ui,iA,kC,RC,Vu,RM,decide_true,wz,NA,Xo,g8,OD,lF,uG,ap,BZ];exact e3
   . rcases er with⟨W,S,j,u,H,I,z1,z2,z3,z4,z5,z6⟩ | ⟨d,j,a,I,z1,z2,z3,z4,z5,z6⟩
     . exact .inl ⟨W,S,j,u,H,I,z1,z2,z3,z4,z5,.inl ⟨tr,s,L,z6⟩⟩
     . exact .inr ⟨d,j,a,I,z1,z2,z3,z4,z5,.inl ⟨tr,s,L,z6⟩⟩
def vN:1<=sizeLine:=by decide
def JH:2<=sizeLine:=by decide
def HK:3<=sizeLine:=by decide
def W6(IH:BS c m ls n){st st0:Oo (Nat×Nat×Nat)}{o sr lo made:Nat}{s0:Nat}(og:bg c j)(sg:∀x∈j,x.length<=1000)(G0:ay hB gds j)(pc:∀p∈ps,p.1<c/\p.2<c/\p.1≠p.2)(lp:ps.length<=1000)
 (q:fF (TC c m ls n) tag st0 j bs made [] R s0) (H:∀b∈bs,ZA c b) (E:∀b∈bs,qD c b ps []) (A:am (bz hB c) bs f) (lb:bs.length<=4000) (O:aw hB o ls m made) (hs:hB[sr]?=ε (.lst (st.map zD))) (P:lo<=sr) (M:lo<=hB.length) :
 ∃d g a s,KH (kF n) [.ref o,YC tag f ps,.ref sr,.lst gds] hB=ε (d,g)/\fF (TC c m ls n) tag st j bs made [] a s/\dm lo g c a d/\mu hB g/\aw g o ls m s:=by
 have U0:mu hB (hB++[.lst []]):=mu.app _ _;obtain⟨r,e,er⟩:=Ew IH (tag:=tag) (st:=st) (st0:=st0) (fg:=f) (sr:=sr) og sg G0 pc lp bs f made [] [] [] (hB++[.lst []]) none none R s0 q H E A U0 ⋯ (by simp![Zu]) (by simp;omega) (aw.up (Up.app hB [.lst []]) O);have F:=fun k=>B8 tag f ps k
 rcases er with⟨y5,y6,g,h,ij,s,rfl,U,Q,T,u,B⟩ | ⟨d,g,a,s,rfl,U,AN,u,na,B⟩
 . have i:=U.2 _ _ hs;have S:Zu lo g h ij:=Zu.up nofun (fun k W hk I=>I) h T;cases tag with
   | none=>
    refine⟨.tup [.str "clash", .tup [.str "one", .ref sr,.ref hB.length]],g,_,s,?_,B,⟨_,rfl,?_⟩,U,u⟩
    . have L:∀k:HI,GD (.tup [.str "one", .ref sr]) (.tup []) k=ε (.tup [.str "one", .ref sr],k):=fun z=>rfl
      have J:∀k:HI,GD (.tup [.str "one", .ref sr]) (.tup [.ref hB.length]) k=ε (.tup [.str "one", .ref sr,.ref hB.length],k):=fun z=>rfl
      have Y:∀x y:Dt,[x,y].length<=sizeLine:=fun z z=>by simp[sizeLine]
      have Z:∀x:Dt,[x].length<=sizeLine:=fun z=>by simp[sizeLine]
      have D:∀k:HI,nA (YC none f ps) (.int 0) k=ε (.str "one",k):=fun z=>rfl
      have C:∀k:HI,nA (YC none f ps) (.int 1) k=ε (.tup [],k):=fun z=>rfl
      dsimp![KH,TK,zB,Uu,Xi,Nat.reduceSub,List.replicate,Yi,Ye,YA,MB,nK,xA,nW,Wu,Wa,jB,ND,FC,oA,gA,pA,Ti,Ui,iA,F,CF,VF,e,qB,AC,zA,D,C,vN,JH,L,J,HB]
    . show ae lo g (.one st h) _;simp![ae];exact⟨sr,hB.length,ij,rfl,P,M,i,Q,S⟩
   | some p=>
    refine⟨.tup [.str "clash", .tup [.str "split", .ref sr,.int (p.1:Nat),.int (p.2:Nat),.ref hB.length]],g,_,s,?_,B,⟨_,rfl,?_⟩,U,u⟩
    . have L:∀k:HI,GD (.tup [.str "split", .ref sr]) (DA p) k=ε (.tup [.str "split", .ref sr,.int (p.1:Nat),.int (p.2:Nat)],k):=fun z=>rfl
      have J:∀k:HI,GD (.tup [.str "split", .ref sr,.int (p.1:Nat),.int (p.2:Nat)]) (.tup [.ref hB.length]) k=ε (.tup [.str "split", .ref sr,.int (p.1:Nat),.int (p.2:Nat),.ref hB.length],k):=fun z=>rfl
      have Y:∀x y:Dt,[x,y].length<=sizeLine:=fun z z=>by simp[sizeLine]
      have Z:∀x:Dt,[x].length<=sizeLine:=fun z=>by simp[sizeLine]
      have D:∀k:HI,nA (YC (ε p) f ps) (.int 0) k=ε (.str "split",k):=fun z=>rfl
      have C:∀k:HI,nA (YC (ε p) f ps) (.int 1) k=ε (DA p,k):=fun z=>rfl
      dsimp![KH,TK,zB,Uu,Xi,Nat.reduceSub,List.replicate,Yi,Ye,YA,MB,nK,xA,nW,Wu,Wa,jB,ND,FC,oA,gA,pA,Ti,Ui,iA,F,CF,VF,e,qB,AC,zA,D,C,vN,JH,L,J,HB]
    . show ae lo g (.split st p h) _;simp![ae];exact⟨sr,hB.length,ij,rfl,P,M,i,Q,S⟩
 . refine⟨d,g,a,s,?_,B,AN.up nofun (fun k W hk I=>I),U,u⟩;dsimp![KH,TK,zB,Uu,Xi,Nat.reduceSub,List.replicate,Yi,Ye,YA,MB,nK,xA,nW,Wu,Wa,jB,ND,FC,oA,gA,pA,Ti,Ui,iA,F,CF,VF,e,xE,HB]
def Gh(o:ZA c g)(m:HC c g)(ok:bg c e)(sg:∀x∈e,x.length<=1000)(h:oC c g e=ε (tag,bs,ps)):(∀p∈ps,p.1<c/\p.2<c/\p.1≠p.2)/\ps.length<=1000/\(∀b∈bs,qD c b ps [])/\bs.length<=1000:=by
 cases e with
 | cons grp e=>
  simp![oC,Ge,xr]at h;obtain⟨_,rfl,rfl⟩:=h;have j:=ok grp ⋯;refine⟨fun p hp=>?_,by simp;exact sg grp ⋯,fun b i=>?_,by simp;exact sg grp ⋯⟩
  . obtain⟨x,f,rfl⟩:=Ce.mp hp;obtain⟨a,b,d,_⟩:=j x f;exact⟨a,b,d⟩
  . obtain⟨k,_,rfl⟩:=Ce.mp i;have:=UV (k:=k) grp j g 0 [] o (TU m);rw[Ye]at this;exact this
 | nil=>
  simp![oC]at h;cases lp:cG c g with
  | none=>rw[lp]at h;cases h
  | some p=>
   rw[lp]at h;simp![Ge,xr]at h;obtain⟨_,rfl,rfl⟩:=h;have hp:p∈WA c:=Bo lp;obtain⟨q1,q2⟩:=cz.mp hp;refine⟨fun x f=>?_,by simp,fun b i=>?_,by have:=YL (g p.1 p.2);simp;omega⟩
   . rw[Bs.mp f];omega
   . obtain⟨w,_,rfl⟩:=Ce.mp i;have:=iX o (show p.1<c by omega) (show p.2<c by omega) nofun (2^w) (TU m);rw[Ye]at this;exact this
def xq(n):kF (n+1)=QB 4 9 (sJ (kF n)):=rfl
noncomputable def jG(o:Nat)(n p g:Dt)(a b c d e:O4 Dt):LI:=[ε (.ref o),ε n,ε p,ε g,a,b,c,d,e]
section
variable{o:Nat}{n p g:Dt}{a b c d e:O4 Dt}
def Y3:(jG o n p g a b c d e)[0]?=ε (ε (.ref o)):=rfl
def lk1:(jG o n p g a b c d e)[1]?=ε (ε n):=rfl
def lk2:(jG o n p g a b c d e)[2]?=ε (ε p):=rfl
def lk3:(jG o n p g a b c d e)[3]?=ε (ε g):=rfl
def lk5:(jG o n p g a b c d e)[5]?=ε b:=rfl
def lk6:(jG o n p g a b c d e)[6]?=ε c:=rfl
def lk7:(jG o n p g a b c d e)[7]?=ε d:=rfl
def lk8:(jG o n p g a b c d e)[8]?=ε e:=rfl
end
def jd(b6:1<=c)(hc:c<=8)(hl:ls.length<=100)(a2:∀x∈ls,x.1<c):∀n,BS c m ls n:=by
 intro n
 induction n with
 | zero=>intro f gs gds made b o pd P h K;obtain⟨a,s,q⟩:=K.ex;exact q.elim
 | succ n IH=>
  intro f gs gds made b o pd P h K;obtain⟨a0,s0,q0⟩:=K.ex;obtain⟨d,h1,e1,x,sr,st,g,rfl,r1,r2,r3,r4,r5,r6,r7⟩:=VQ (show c<=100 by omega) K.of K.net (pd:=pd) (P:=P) (fun e=>K.prs.seq e) K.pc K.wt (by have:=K.lp;omega);have U1:Up h h1:=⟨r2,r3⟩;have ef:kF (n+1) [.ref o,.ref (b+c),pd,.lst gds] h=vC (sJ (kF n) (jG o (.ref (b+c)) pd (.lst gds) none none none none none) h):=by rw[xq,zB];rfl
  have s1:rA pI [] (aA (eV 1) (aA (eV 2) dA)) (jG o (.ref (b+c)) pd (.lst gds) none none none none none) h=ε (.tup [x,.ref sr],h1):=by simp![OA,zA,xA,gA,lk1,lk2,iA,fA,Ve,e1]
  generalize u:kF (n+1) [.ref o,.ref (b+c),pd,.lst gds] h=X;rw[ef,sJ,OC s1 (l':=jG o (.ref (b+c)) pd (.lst gds) (ε (.tup [x,.ref sr])) none none none none) rfl,OC (d:=x) (h1:=h1) rfl (l':=jG o (.ref (b+c)) pd (.lst gds) (ε (.tup [x,.ref sr])) (ε x) none none none) rfl,OC (d:=.ref sr) (h1:=h1) rfl (l':=jG o (.ref (b+c)) pd (.lst gds) (ε (.tup [x,.ref sr])) (ε x) (ε (.ref sr)) none none) rfl]at u;have O1:aw h1 o ls m made:=K.ob.up U1;rcases r7 with⟨rfl,em⟩ | ⟨p,rfl,bl,Ng,cl,ne,_⟩
  . refine⟨.tup [.str "clash", .tup [.str "threes", .ref sr]],h1,.clash (.Ws st),made,?_,.inl ⟨st,g,r5,em,rfl,rfl⟩,⟨_,rfl,?_⟩,U1.l,O1⟩
    . rw[JC (h1:=h1) rfl (d:=.tup [.str "clash", .tup [.str "threes", .ref sr]]) (h2:=h1) rfl]at u;exact u.symm
    . show ae h.length h1 (.Ws st) _;simp![ae];exact⟨sr,rfl,r1,r4⟩
  . have M:cq c f st (wB c g):=⟨g,r5,cl,ne,rfl⟩;obtain⟨D,Y,neg⟩:=M.ok K.of;have L:=kY Ng;generalize wB c g=g' at M D Y neg L;obtain⟨rest,eb⟩:=IW (show c<=100 by omega) (Zy D neg) (show ls.length<=1000 by omega) L;obtain⟨h2,Q⟩:∃h2:HI,h2=h1++.lst ((CC c g' ls).map vA)::rest:=⟨_,rfl⟩
    rw[<- Q]at eb;have U2:Up h1 h2:=Q ▸ Up.app _ _;have a5:h2[h1.length]?=ε (.lst ((CC c g' ls).map vA)):=by rw[Q];simp
    have O2:=O1.up U2;have nl:=L.len;have u1:=fun(h:HI)=>EG (h:=h) (i:=2) (j:=(c:Int)) (Or.inl ⟨by decide,by decide⟩)
    have g2:(2:Int)*(c:Int)=((2*c:Nat):Int):=by omega
    have a6:=QO (x := "Search") (k := "lengths") O1 (Z6);have s4:∀(d:Dt) (h3:HI),OH [.int ((2*c:Nat):Int),.ref h1.length] h2=ε (d,h3)->rA OH [] (aA (e2 wC (nS 2) (GB eB (eV 5))) (aA (rA SH [] (aA (eV 5) (aA (nG "Search" "lengths" (eV 0)) dA))) dA)) (jG o (.ref (b+c)) pd (.lst gds) (ε (.tup [.ref (p+c),.ref sr])) (ε (.ref (p+c))) (ε (.ref sr)) none none) h1=ε (d,h3):=fun d h3 e=>by simp![OA,zA,xA,oA,LB,gA,pA,Y3,lk5,iA,fA,nl,u1,g2,WP,a6,eb,Ve,e]
    rw[gD (h1:=h1) rfl]at u;rcases QX (n:=2*c) (a:=h1.length) nofun nofun (CC c g' ls) (CI g' a2) (TR hc g' hl) h2 a5 with⟨t,h3,I,fr,et⟩ | ⟨cs,PP,k,r,h3,R,fr,hr,et,rl⟩
    . have U3:Up h2 h3:=TZ fr;have O3:=O2.up U3;obtain⟨h4,U4,U⟩:=WV ((U2.trans U3).net L) D (show c<=100 by omega) (K.grp.up (U1.trans (U2.trans U3)).l) K.og K.sg;have T:=O3.up U4;rw[OC (s4 _ _ et) (l':=jG o (.ref (b+c)) pd (.lst gds) (ε (.tup [.ref (p+c),.ref sr])) (ε (.ref (p+c))) (ε (.ref sr)) (ε (.tup [.str "times", .lst (gC (2*c) (VD (2*c) t))])) none) rfl]at u;have s5:mn (e2 QA (e2 nA (eV 7) (nS 0)) (eC (.str "ring"))) (jG o (.ref (b+c)) pd (.lst gds) (ε (.tup [.ref (p+c),.ref sr])) (ε (.ref (p+c))) (ε (.ref sr)) (ε (.tup [.str "times", .lst (gC (2*c) (VD (2*c) t))])) none) h3=ε (false,h3):=by simp![IA,oA,gA,pA,lk7,iA,fA,kC,RC,Ti,Vu,BE,t_r,NA]
      have s6:∀y,zF [.ref (p+c),.lst gds] h3=ε (y,h4)->rA zF [] (aA (eV 5) (aA (eV 3) dA)) (jG o (.ref (b+c)) pd (.lst gds) (ε (.tup [.ref (p+c),.ref sr])) (ε (.ref (p+c))) (ε (.ref sr)) (ε (.tup [.str "times", .lst (gC (2*c) (VD (2*c) t))])) none) h3=ε (y,h4):=fun y e=>by simp![OA,zA,xA,gA,lk5,lk3,iA,fA,Ve,e]
      rw[gD s5]at u;have S:Up h h4:=U1.trans (U2.trans (U3.trans U4));cases H:oC c g' gs with
      | none=>rw[H]at U;have b1:=A9 (c:=c) nofun (VD (2*c) t) h4;refine⟨.tup [.str "laid", .lst (FM c (VD (2*c) t))],h4,.laid t,made,?_,.inr ⟨st,g',M,.inr ⟨t,I,.inl ⟨H,rfl,rfl⟩⟩⟩,rfl,S.l,T⟩;rw[OC (s6 _ U) (l':=jG o (.ref (b+c)) pd (.lst gds) (ε (.tup [.ref (p+c),.ref sr])) (ε (.ref (p+c))) (ε (.ref sr)) (ε (.tup [.str "times", .lst (gC (2*c) (VD (2*c) t))])) (ε .non)) rfl,JC (h1:=h4) rfl (d:=.tup [.str "laid", .lst (FM c (VD (2*c) t))]) (h2:=h4) (by dsimp![AC,zA,xA,OA,oA,gA,pA,lk7,iA,kC,DG,Ui,Ti,Vu,Ve,b1,JH])]at u;exact u.symm
      | some v=>
       obtain⟨tag,bs,O⟩:=v;rw[H]at U;obtain⟨E,A,U⟩:=U;have fm:=QO (x := "Search") (k := "made") T (xZ);have fM:=QO (x := "Search") (k := "most") T (Jl);have Z:mn (e2 dU (nG "Search" "made" (eV 0)) (nG "Search" "most" (eV 0))) (jG o (.ref (b+c)) pd (.lst gds) (ε (.tup [.ref (p+c),.ref sr])) (ε (.ref (p+c))) (ε (.ref sr)) (ε (.tup [.str "times", .lst (gC (2*c) (VD (2*c) t))])) (ε (YC tag E O))) h4=ε (decide (((m:Nat):Int)<=((made:Nat):Int)),h4):=by simp![IA,oA,gA,WP,Y3,iA,fA,fm,fM,eU,NA]
       rw[OC (s6 _ U) (l':=jG o (.ref (b+c)) pd (.lst gds) (ε (.tup [.ref (p+c),.ref sr])) (ε (.ref (p+c))) (ε (.ref sr)) (ε (.tup [.str "times", .lst (gC (2*c) (VD (2*c) t))])) (ε (YC tag E O))) rfl,gD (h1:=h4) (by cases tag<;>rfl)]at u;by_cases lm:m<=made
       . refine⟨.tup [.str "open", .non],h4,.opn,made,?_,.inr ⟨st,g',M,.inr ⟨t,I,.inr ⟨tag,bs,O,H,.inl ⟨lm,rfl,rfl⟩⟩⟩⟩,rfl,S.l,T⟩;have dg:decide (((m:Nat):Int)<=((made:Nat):Int))=true:=je nofun;rw[dg]at Z;rw[JC Z (d:=.tup [.str "open", .non]) (h2:=h4) rfl]at u;exact u.symm
       . have dg:decide (((m:Nat):Int)<=((made:Nat):Int))=false:=iu nofun;have b2:=SJ D K.og H;obtain⟨pc,pl,wb,lb⟩:=Gh D Y K.og K.sg H;obtain⟨h5,J⟩:∃h5:HI,h5=h4.set o (.ins "Search" [("lengths", .lst (ls.map uB)),("most", .int (m:Nat)),("made", .int ((made+1:Nat):Int))]):=⟨_,rfl⟩
         have ol:=(Xa T).1;have O5:aw h5 o ls m (made+1):=by unfold aw;rw[J,vm ol]
         have U5:mu h4 h5:=J ▸ mu.set T;have l5:h5.length=h4.length:=by rw[J,Le]
         have sf:=yO (x := "Search") (k := "made") (v:=.int ((made+1:Nat):Int)) (l:=(jG o (.ref (b+c)) pd (.lst gds) (ε (.tup [.ref (p+c),.ref sr])) (ε (.ref (p+c))) (ε (.ref sr)) (ε (.tup [.str "times", .lst (gC (2*c) (VD (2*c) t))])) (ε (YC tag E O)))) T ⋯;rw[Wm,<- J]at sf;have m1:((made:Nat):Int)+1=((made+1:Nat):Int):=by omega
         have a4:h5[sr]?=ε (.lst (st.map zD)):=U5.2 _ _ ((U2.trans (U3.trans U4)).get r4);have qb:∃W,fF (TC c m ls n) tag W gs.tail bs (made+1) [] a0 s0:=by
          rcases q0 with⟨a1,g1,k1,k2,_,_⟩ | ⟨a1,g1,k1,k⟩
          . have:=M.di K.of k1;rw[k2]at this;cases this
          . have eg:=M.unique K.of k1;subst eg;rcases k with⟨c0,P',k',R',_,_⟩ | ⟨t',b5,k⟩
            . exact(JR R' I).elim
            . rcases k with⟨C,_,_⟩ | ⟨b3,c1,b4,C,k⟩
              . rw[H]at C;cases C
              . rw[H]at C;cases C;rcases k with⟨a3,_,_⟩ | ⟨a3,k⟩
                . omega
                . exact⟨_,k⟩
         obtain⟨W,qb⟩:=qb;obtain⟨d,h',a,s,e6,B,AN,U6,O6⟩:=W6 IH (tag:=tag) (st:=st) (gds:=gds.drop 1) (sr:=sr) (lo:=h.length) (hB:=h5) K.og.tail (fun x hx=>K.sg x (mem_of_mem_tail hx)) (Mt (K.grp.up (S.l.trans U5))) pc pl qb b2 wb (A.imp fun w w z=>z.up U5) nofun O5 a4 r1 (by have:=S.1;omega);refine⟨d,h',a,s,?_,.inr ⟨st,g',M,.inr ⟨t,I,.inr ⟨tag,bs,O,H,.inr ⟨by omega,B⟩⟩⟩⟩,AN,S.l.trans (U5.trans U6),O6⟩;have mt:=DR (x := "Search") (m := "look_at_branches") (F:=KH (kF n)) (ga:=aA (eV 8) (aA (eV 6) (aA (IE (eV 3) (WB (nS 1)) LD) dA))) (l:=(jG o (.ref (b+c)) pd (.lst gds) (ε (.tup [.ref (p+c),.ref sr])) (ε (.ref (p+c))) (ε (.ref sr)) (ε (.tup [.str "times", .lst (gC (2*c) (VD (2*c) t))])) (ε (YC tag E O)))) O5 Kl;have cf:fC gds (ε 1) none=gds.drop 1:=QJ gds 1;have a7:IE (eV 3) (WB (nS 1)) LD (jG o (.ref (b+c)) pd (.lst gds) (ε (.tup [.ref (p+c),.ref sr])) (ε (.ref (p+c))) (ε (.ref sr)) (ε (.tup [.str "times", .lst (gC (2*c) (VD (2*c) t))])) (ε (YC tag E O))) h5=ε (.lst (gds.drop 1),h5):=by simp![WI,gA,lk3,iA,fA,zK,pA,VJ,AK,DF,Vu,cf]
         rw[dg]at Z;rw[gD Z]at u;simp![YA,qB,ES,gA,oA,pA,Y3,lk6,lk8,iA,fA,WP,fm,KZ,AE,m1,sf,jB,mt,zA,xA,a7,e6,HB]at u;exact u.symm
    . have U3:Up h2 h3:=TZ fr;have S:Up h h3:=U1.trans (U2.trans U3);refine⟨.tup [.str "clash", .tup [.str "ring", .ref sr,.ref r]],h3,.clash (.ring st cs PP k),made,?_,.inr ⟨st,g',M,.inl ⟨cs,PP,k,R,rfl,rfl⟩⟩,⟨_,rfl,?_⟩,S.l,O2.up U3⟩
      . rw[OC (s4 _ _ et) (l':=jG o (.ref (b+c)) pd (.lst gds) (ε (.tup [.ref (p+c),.ref sr])) (ε (.ref (p+c))) (ε (.ref sr)) (ε (.tup [.str "ring", .ref r])) none) rfl,JC (h1:=h3) rfl (d:=.tup [.str "clash", .tup [.str "ring", .ref sr,.ref r]]) (h2:=h3) rfl]at u;exact u.symm
      . show ae h.length h3 (.ring st cs PP k) _;simp![ae];refine⟨sr,r,rfl,r1,?_,(U2.trans U3).get r4,hr⟩;have:=(U1.trans U2).1;omega
def uw(b:c<=8)(of:ZA c f):∃st,(∃g,mr c f st g/\bB c g=true)\/(∃g,cq c f st g):=by
 have N:=yG [] c f;have y:=JJ c c;have i:c*c<=8*8:=Js b b;obtain⟨d,B,C,x,m,st,g,rfl,u,r,q,o,a,n,h⟩:=VQ (show c<=100 by omega) of N (pd:=.lst ((WA c).map DA)) (P:=WA c) (fun e=>rfl) (fun p hp=>by
  obtain⟨q1,q2⟩:=cz.mp hp;omega) (tR c f) (by unfold WA;omega)
 rcases h with⟨rfl,j⟩ | ⟨E,rfl,D,F,k,ne,_⟩
 . exact⟨st,.inl ⟨g,a,j⟩⟩
 . exact⟨st,.inr ⟨_,g,a,k,ne,rfl⟩⟩
def Yq(U:1<=c)(H:c<=8)(T:ls.length<=100)(y:∀x∈ls,x.1<c):∀n f j made,ZA c f->bg c j->made<=m->m+1<=made+n->∃a s,TC c m ls n f j made a s:=by
 intro n
 induction n with
 | zero=>intro f j made _ _ Z Y;omega
 | succ n ih=>
  intro f j made of og Z Y;obtain⟨st,⟨g,s,em⟩ | ⟨g,o⟩⟩:=uw H of
  . exact⟨_,_,.inl ⟨st,g,s,em,rfl,rfl⟩⟩
  . obtain⟨u,a0,neg⟩:=o.ok of;rcases QX (n:=2*c) (a:=0) nofun nofun (CC c g ls) (CI g y) (TR H g T) [.lst ((CC c g ls).map vA)] rfl with⟨t,W,h,fr,et⟩ | ⟨cs,PP,k,r,W,R,fr,hr,et,rl⟩
    . cases p:oC c g j with
      | none=>exact⟨_,_,.inr ⟨st,g,o,.inr ⟨t,h,.inl ⟨p,rfl,rfl⟩⟩⟩⟩
      | some v=>
       obtain⟨e,bs,E⟩:=v;by_cases Q:m<=made
       . exact⟨_,_,.inr ⟨st,g,o,.inr ⟨t,h,.inr ⟨e,bs,E,p,.inl ⟨Q,rfl,rfl⟩⟩⟩⟩⟩
       . have C:=SJ u og p;have go:∀(bs:Oo FA),(∀b∈bs,ZA c b)->∀(i:Nat)(d:Oo Tr),i<=m->m+1<=i+n->∃a s,fF (TC c m ls n) e st j.tail bs i d a s:=by
          intro bs
          induction bs with
          | nil=>intro _ i d _ _;exact⟨_,_,rfl,rfl⟩
          | cons b bs B=>
           intro I i d F P;obtain⟨a,s,q⟩:=ih b j.tail i (I b ⋯) og.tail F P;obtain⟨z1,L,_⟩:=rS n b _ i _ _ q;have J:=L F;cases a with
           | clash D=>obtain⟨a',M,O⟩:=B (fun x S=>I x (by simp[S])) s (d++[D]) J nofun;exact⟨a',M,.inl ⟨D,s,q,O⟩⟩
           | opn=>exact⟨_,_,.inr ⟨(fun z=>by cases z),q⟩⟩
           | laid t=>exact⟨_,_,.inr ⟨(fun z=>by cases z),q⟩⟩
         obtain⟨a,s,q⟩:=go bs C (made+1) [] nofun nofun;exact⟨a,s,.inr ⟨st,g,o,.inr ⟨t,h,.inr ⟨e,bs,E,p,.inr ⟨by omega,q⟩⟩⟩⟩⟩
    . exact⟨_,_,.inr ⟨st,g,o,.inl ⟨cs,PP,k,R,rfl,rfl⟩⟩⟩
noncomputable def oJ:Wd->Dt
 | .opn=>.str "open"
 | .laid=>.str "laid"
 | .clash=>.str "clash"
structure nt(c:Nat)(h:HI)(a:Nat)(fs:List mh):Prop where
 ds:∃ds,h[a]?=ε (.lst ds)/\ad h ds fs
 ok:∀x∈fs,ZF c x
 sg:∀x∈JB fs,x.length<=1000
 len:fs.length<=100
theorem HJ:∀fs,(pD fs).length<=fs.length
 | []=>Va _
 | .long x::fs=>by have:=HJ fs;simp![pD,Ua];omega
 | .ways x::fs=>by have:=HJ fs;simp![pD,Ua];omega
 | .one x::fs=>by have:=HJ fs;simp![pD,Ua];omega
theorem OL:∀fs,(∀x∈fs,ZF c x)->∀x∈pD fs,x.1<c
 | [],_,x,hx=>nomatch hx
 | .long y::fs,h,x,hx=>by
  simp![pD,Bu]at hx;rcases hx with rfl | hx
  . exact h (.long x) ⋯
  . exact OL fs (fun z a=>h z (by simp[a])) x hx
 | .ways y::fs,h,x,hx=>OL fs (fun z a=>h z (by simp[a])) x hx
 | .one y::fs,h,x,hx=>OL fs (fun z a=>h z (by simp[a])) x hx
theorem WJ:∀fs,(∀x∈fs,ZF c x)->bg c (JB fs)
 | [],_,x,hx=>nomatch hx
 | .one y::fs,h,x,hx=>by
  simp![JB,Bu]at hx;rcases hx with rfl | hx
  . exact h (.one x) ⋯
  . exact WJ fs (fun z a=>h z (by simp[a])) x hx
 | .ways y::fs,h,x,hx=>WJ fs (fun z a=>h z (by simp[a])) x hx
 | .long y::fs,h,x,hx=>WJ fs (fun z a=>h z (by simp[a])) x hx
def YZ(c m:Nat)(fs:Oo mh)(n:Nat)(a:nv)(s:Nat):Prop:=TC c m (pD fs) n (NC mC fs) (JB fs) 0 a s
def Zf (ls:Oo Ln) (m):YK [.ref h.length,.lst (ls.map uB),.int (m:Nat)] (h++[.ins "Search" []])=ε (.non,h++[.ins "Search" [("lengths", .lst (ls.map uB)),("most", .int (m:Nat)),("made", .int ((0:Nat):Int))]]):=by
 have o:¬((("lengths" :Str))=(("most" :Str))):=by decide +kernel
 have j:¬((("lengths" :Str))=(("made" :Str))):=by decide +kernel
 have i:¬((("most" :Str))=(("made" :Str))):=by decide +kernel
 have g:KE "lengths" (.lst (ls.map uB)) []=([("lengths", .lst (ls.map uB))]:Oo (Str×Dt)):=rfl;have f:KE "most" (.int (m:Nat)) [("lengths", .lst (ls.map uB))]=([("lengths", .lst (ls.map uB)),("most", .int (m:Nat))]:Oo (Str×Dt)):=by simp![KE,eH o]
 have e:KE "made" (.int 0) [("lengths", .lst (ls.map uB)),("most", .int (m:Nat))]=([("lengths", .lst (ls.map uB)),("most", .int (m:Nat)),("made", .int 0)]:Oo (Str×Dt)):=by simp![KE,eH j,eH i]
 have d:=yO (h:=h++[.ins "Search" []]) (n:=h.length) (x := "Search") (k := "lengths") (v:=.lst (ls.map uB)) (l:=[ε (.ref h.length),ε (.lst (ls.map uB)),ε (.int (m:Nat))]) (fs:=[]) ⋯ ⋯;have b:=yO (h:=h++[.ins "Search" [("lengths", .lst (ls.map uB))]]) (n:=h.length) (x := "Search") (k := "most") (v:=.int (m:Nat)) (l:=[ε (.ref h.length),ε (.lst (ls.map uB)),ε (.int (m:Nat))]) (fs:=[("lengths", .lst (ls.map uB))]) ⋯ ⋯;have a:=yO (h:=h++[.ins "Search" [("lengths", .lst (ls.map uB)),("most", .int (m:Nat))]]) (n:=h.length) (x := "Search") (k := "made") (v:=.int 0) (l:=[ε (.ref h.length),ε (.lst (ls.map uB)),ε (.int (m:Nat))]) (fs:=[("lengths", .lst (ls.map uB)),("most", .int (m:Nat))]) ⋯ ⋯;rw[g]at d;rw[f]at b;rw[e]at a;have hs:∀x y:Ob,(h++[x]).set h.length y=h++[y]:=fun x y=>by simp
 rw[hs]at d b a;dsimp![YK,IQ,zB,Uu,Xi,Nat.reduceSub,List.replicate,Ve,YA,KZ,gA,pA,Ti,Ui,iA,d,jB,b,a,Lf];rfl
inductive ZZ(c m:Nat)(h:HI)(a:Nat)(fs:List mh):Prop
 | mk (A:nv) (s:Nat) (x:Dt) (h':HI) (p0:YZ c m fs 12 A s) (p1:yI [.int (c:Nat),.ref a,.int (m:Nat)] h=ε (.tup [oJ A.wd,x,.int (s:Nat)],h')) (p2:dm h.length h' c A (.tup [oJ A.wd,x])) (p3:mu h h'):ZZ c m h a fs
def gw(q:1<=c)(r:c<=8)(F:nt c h a fs)(ex:∃A s,YZ c m fs 12 A s):ZZ c m h a fs:=by
 obtain⟨ds,u,D⟩:=F.ds;have T:=D.len;have fl:=F.len;have B:ds.length<sizeLine:=by rw[T];simp[sizeLine];omega
 have R:=uV u B D;obtain⟨h1,g⟩:∃h1:HI,h1=h++[.ins "Search" [("lengths", .lst ((pD fs).map uB)),("most", .int (m:Nat)),("made", .int ((0:Nat):Int))]]:=⟨_,rfl⟩
 have C:=Zf (h:=h) (pD fs) m;rw[<- g]at C;have U1:Up h h1:=g ▸ Up.app _ _;have H:aw h1 h.length (pD fs) m 0:=by unfold aw;rw[g];simp
 obtain⟨b,i,Q,W,U2⟩:=HV (show c<=1000 by omega) (U1.get u) (D.up U1.l) F.ok;have E:=mO (show c<=1000 by omega) i;obtain⟨h3,f⟩:∃h3:HI,h3=i++[.lst ((WA c).map DA)]:=⟨_,rfl⟩
 rw[<- f]at E;have U3:Up i h3:=f ▸ Up.app _ _;have j:Up h h3:=U1.trans (U2.trans U3);obtain⟨y,Y,S⟩:=IV (j.get u) B (D.up j.l);have pl:=JJ c c;have M:c*c<=8*8:=Js r r;obtain⟨d,O,A,s,e,L,n,U4,U⟩:=jd (m:=m) q r (show(pD fs).length<=100 by have:=HJ fs;omega) (OL fs F.ok) 12 (NC mC fs) (JB fs) y 0 b h.length (.ref i.length) (WA c) h3
  ⟨ex,tI fs F.ok _ (jM c),WJ fs F.ok,F.sg,U3.net W,Y,.inr ⟨i.length,rfl,by rw[f];simp⟩,(fun p hp=>by obtain⟨q1,q2⟩:=cz.mp hp;omega),tR c _,by unfold WA;omega,(H.up U2).up U3⟩
 have J:h.length<=h3.length:=j.1;have P:=QO (x := "Search") (k := "made") U (xZ);have I:=DR (h:=h1) (x := "Search") (m := "look") (F:=kF 12) (ga:=aA (rA AJ [] (aA (eV 0) (aA (eV 1) dA))) (aA (rA NH [] (aA (eV 0) dA)) (aA (rA BJ [] (aA (eV 1) dA)) dA))) (l:=[ε (.int (c:Nat)),ε (.ref a),ε (.int (m:Nat)),ε (.ref h.length),none]) H UX;obtain⟨x,o⟩:∃x,d=.tup [oJ A.wd,x]:=by
  cases A with
  | opn=>exact⟨_,n⟩
  | laid t=>exact⟨_,n⟩
  | clash tr=>obtain⟨x,e,_⟩:=n;exact⟨x,e⟩
 subst o;refine⟨A,s,x,O,L,?_,n.up J (fun k Z hk o=>o),(j.l).trans U4⟩;dsimp![yI,pR,zB,Uu,Xi,Nat.reduceSub,List.replicate,Yi,Ye,YA,MB,B7,OA,zA,xA,gA,Ti,Ui,iA,Ve,R,C,Nv,Wu,Wa,jB,ES,I,Q,E,S,e,qB,AC,oA,pA,kC,RC,DG,Vu,WP,P,HK,HB]
def Xy(d:∀i<c,f i i=64)(a:i≠j)(m):∀k<c,KB f i m j k k=64:=fun k b=>by rw[IJ f (fun q=>a (q.1.symm.trans q.2)) (fun q=>a (q.2.symm.trans q.1))];exact d k b
def jg(a:m<8192)(b:k<13):(nw m).testBit k=!m.testBit k:=by
 have:nw m=2^13-(m+1):=by unfold nw;omega
 rw[this,Nat.testBit_two_pow_sub_succ a];simp[b]
def W7(a b c):decide ((EB [a,b,c]).length=3)=decide (a≠b/\b≠c/\a≠c):=by
 by_cases g:a=b
 . subst g;by_cases f:a=c
   . subst f;simp[EB]
   . have d:¬c=a:=fun z=>f z.symm
     simp[EB,d]
 . have e:¬b=a:=fun z=>g z.symm
   by_cases f:b=c
   . subst f;simp[EB,e]
   . have d:¬c=b:=fun z=>f z.symm
     by_cases i:a=c
     . subst i;simp[EB,g,e]
     . have h:¬c=a:=fun z=>i z.symm
       simp[EB,g,f,i,e,d,h]
noncomputable def MF(c:Nat)(i k j:Int):Bool:=decide (i≠k/\k≠j/\i≠j)&&decide ((0<=i/\i<c)/\(0<=k/\k<c)/\0<=j/\j<c)
noncomputable abbrev IB:=Int×Int×Int
noncomputable def pC(t:IB):Dt:=.tup [.int t.1,.int t.2.1,.int t.2.2]
def Rq(c)(i k j)(h):GL [pC (i,k,j),.int (c:Nat)] h=ε (.bl (MF c i k j),h):=by
 have fs:OO (.tup [.int i,.int k,.int j]) h=ε (.int ((EB [i,k,j]).length:Nat),h):=by simp![OO,IC,Wo,Vu];rw[eG (show [i,k,j].length+1<4096 by simp)]
 have b:decide ((((EB [i,k,j]).length:Nat):Int)=3)=decide (i≠k/\k≠j/\i≠j):=by have:decide ((((EB [i,k,j]).length:Nat):Int)=3)=decide ((EB [i,k,j]).length=3):=decide_eq_decide.mpr nofun;rw[this,W7 i k j]
 have e:=xF (te:=tL) (tc:=cB) (i:=0) (fun(x:Int)=>Dt.int x) (fun x=>Dt.bl (decide (0<=x/\x<c))) h [i,k,j] [none,ε (.int (c:Nat))] fun x q=>⟨rfl,by
  by_cases a:(0:Int)<=x
  . simp[tL,a]
  . simp[tL,a]⟩
 have e:SD (BA 0) cB tL [.int i,.int k,.int j] [none,ε (.int (c:Nat))] h=ε ([.bl (decide (0<=i/\i<c)),.bl (decide (0<=k/\k<c)),.bl (decide (0<=j/\j<c))],h):=e;have fa:GG (.lst [.bl (decide (0<=i/\i<c)),.bl (decide (0<=k/\k<c)),.bl (decide (0<=j/\j<c))]) h=ε (.bl (decide ((0<=i/\i<c)/\(0<=k/\k<c)/\0<=j/\j<c)),h):=by have:=mT (h:=h) [decide (0<=i/\i<(c:Int)),decide (0<=k/\k<(c:Int)),decide (0<=j/\j<(c:Int))];simp![Uu,Xi]at this;rw[this];by_cases o:0<=i/\i<(c:Int)<;>by_cases n:0<=k/\k<(c:Int)<;>by_cases m:0<=j/\j<(c:Int)<;>simp[o,n,m]
 have g:[Dt.int i,.int k,.int j].length<sizeLine:=show 3<sizeLine by decide
 unfold pC;by_cases d:i≠k/\k≠j/\i≠j
 . rw[je d]at b;dsimp![GL,eR,zB,Uu (f:=some),Xi (f:=some),Nat.reduceSub,List.replicate,Ve,qB,oP,oA,LB,gA,pA,Ti,Ui,iA,fs,lD,b,FO,bF,Nb,Lh,MD,xG,QD,Mi,aE _ _ _ g,e,fa,HB,MF,je d,Hi]
 . rw[iu d]at b;dsimp![GL,eR,zB,Uu (f:=some),Xi (f:=some),Nat.reduceSub,List.replicate,Ve,qB,oP,oA,LB,gA,pA,Ti,iA,fs,lD,b,FO,Xo,g8,HB,MF,iu d,Hs]
noncomputable def zT(t:Nat×Nat×Nat):IB:=(t.1,t.2.1,t.2.2)
def vB(c:Nat):FA->Oo IB->O4 FA
 | f,[]=>ε f
 | f,(i,k,j)::st=>if bB c f=true\/MF c i k j=false\/Wk f i.toNat k.toNat j.toNat=f i.toNat j.toNat then none else vB c (PB f i.toNat k.toNat j.toNat) st
def wG(c)(f)(i k j)(st):vB c f ((i,k,j)::st)=if bB c f=true\/MF c i k j=false\/Wk f i.toNat k.toNat j.toNat=f i.toNat j.toNat then none else vB c (PB f i.toNat k.toNat j.toNat) st:=rfl
def eM:MF c i k j=true↔∃a b d:Nat,i=a/\k=b/\j=d/\NF a b d/\a<c/\b<c/\d<c:=by
 unfold MF NF;rw[w6,decide_eq_true_eq,decide_eq_true_eq];constructor
 . rintro⟨n,h⟩;exact⟨i.toNat,k.toNat,j.toNat,by omega,by omega,by omega,by omega,by omega,by omega,by omega⟩
 . rintro⟨a,b,d,rfl,rfl,rfl,n,g,f,e⟩;omega
theorem fS:∀st a f g,vB c f st=ε g->vB c f (st++a)=vB c g a
 | [],_,f,g,e=>by cases e;rfl
 | (i,k,j)::st,a,f,g,e=>by
  rw[Yi,wG];rw[wG]at e;split at e
  . cases e
  . rename_i n;rw[eH n];exact fS st a _ _ e
def dO{st:Oo (Nat×Nat×Nat)}(S:mr c f st g):vB c f (st.map zT)=ε g:=by
 induction S with
 | nil=>rfl
 | @snoc st g i k j h e a b d ne n ih=>rw[Gu,fS _ _ _ _ ih];show vB c g [((i:Int),(k:Int),(j:Int))]=_;have t:MF c i k j=true:=eM.mpr ⟨i,k,j,rfl,rfl,rfl,d,e,a,b⟩;rw[wG,eH (by rw[ne,t];simp![ou];simp[n])];rfl
theorem fP:∀st f g,ZA c f->vB c f st=ε g->ZA c g
 | [],f,g,o,e=>by cases e;exact o
 | (i,k,j)::st,f,g,o,e=>by
  unfold vB at e;split at e
  . cases e
  . rename_i n;have t:MF c i k j=true:=by
     cases q:MF c i k j with
     | true=>rfl
     | false=>exact Es (.inr (.inl q)) n
    obtain⟨a,b,w,rfl,rfl,rfl,d,m,p,h⟩:=eM.mp t;exact fP st _ _ (dM o m h d.2.2) e
inductive oT(c:Nat)(f:FA)(st:List IB)(h':HI):Dt->Prop
 | no:vB c f st=none->oT c f st h' .non
 | net {g:FA} {b:Nat}:vB c f st=ε g->Wi h' b c g->oT c f st h' (.ref (b+c))
def ur(N:Wi h b c f):eB (.ref (b+c)) h=ε (.int (c:Nat),h):=by have:=TH N.top;rwa[KL]at this
def EX(N:Wi h b c f)(x:c<=100)(n u:O4 Dt)(i k j) :
 rG ([ε (.ref (b+c)),n,u].set 2 (ε (pC (i,k,j)))) h=if bB c f=true\/MF c i k j=false\/Wk f i.toNat k.toNat j.toNat=f i.toNat j.toNat then ε (.rt .non h)else ε (.nx [ε (.ref (h.length+c)),n,ε (pC (i,k,j))] (h++aD h.length c (KB f i.toNat (Wk f i.toNat k.toNat j.toNat) j.toNat))):=by
 have e:=rR N nofun;have a:=Rq c i k j h;have m:=ur N;cases q1:bB c f with
 | true=>rw[q1]at e;rw[eG (.inl rfl)];simp![rG,Wu,Wa,YA,FB,HD,IA,OA,zA,xA,gA,pA,Ti,iA,fA,Ve,e,NA,eO,qB,xE]
 | false=>
  rw[q1]at e;cases q2:MF c i k j with
  | false=>rw[q2]at a;rw[eG (.inr (.inl rfl))];simp![rG,Wu,Wa,YA,FB,HD,xH,IA,OA,zA,xA,LB,gA,pA,Ti,Ui,iA,fA,Ve,e,m,a,NA,Xo,g8,wu,eO,qB,xE]
  | true=>
   rw[q2]at a;obtain⟨i,k,j,rfl,rfl,rfl,d,q,o,p⟩:=eM.mp q2;simp![ou];have g:=dW N q o p;have r:=cW N nofun q o p;rw[show jD i k j=pC ((i:Int),(k:Int),(j:Int))from rfl]at g r;by_cases q3:Wk f i k j=f i j
   . rw[je q3]at g;rw[eG (.inr (.inr q3))];simp![rG,Wu,Wa,YA,FB,HD,xH,IA,OA,zA,xA,LB,gA,pA,Ti,Ui,iA,fA,Ve,e,m,a,g,NA,Xo,g8,wz,wu,eO,qB,xE]
   . rw[iu q3]at g;rw[eH (by simp[q3])];simp![rG,Wu,Wa,YA,FB,HD,xH,IA,OA,zA,xA,LB,gA,Ti,Ui,iA,fA,Ve,e,m,a,g,r,NA,Xo,g8,wz,wu,OD,jB,MB]
theorem FX(p:c<=100)(m:O4 Dt):∀st h b f d,Wi h b c f->
 ∃a,(∀(n:Nat)(o:Ob),h[n]?=ε o->a[n]?=ε o)/\((vB c f st=none/\lC (BA 2) rG (st.map pC) [ε (.ref (b+c)),m,d] h=ε (.rt .non a))\/
  ∃g u x,vB c f st=ε g/\Wi a u c g/\lC (BA 2) rG (st.map pC) [ε (.ref (b+c)),m,d] h=ε (.nx [ε (.ref (u+c)),m,x] a))
 | [],h,b,f,d,N=>⟨h,fun z z e=>e,.inr ⟨f,b,d,rfl,N,rfl⟩⟩
 | (i,k,j)::st,h,b,f,d,N=>by
  have t:=EX N p m d i k j;by_cases q:bB c f=true\/MF c i k j=false\/Wk f i.toNat k.toNat j.toNat=f i.toNat j.toNat
  . rw[eG q]at t;refine⟨h,fun z z e=>e,.inl ⟨by unfold vB;rw[eG q],?_⟩⟩;simp![Uu,lC,vE,Wo,t,VS]
  . rw[eH q]at t;obtain⟨a,y,r⟩:=FX p m st (h++aD h.length c (KB f i.toNat (Wk f i.toNat k.toNat j.toNat) j.toNat)) h.length (PB f i.toNat k.toNat j.toNat) (ε (pC (i,k,j))) (yG h c _);have kp:∀(n:Nat)(o:Ob),h[n]?=ε o->a[n]?=ε o:=fun n o e=>y n o (by rw[Yo (Xa e).1];exact e)
    have B:vB c f ((i,k,j)::st)=vB c (PB f i.toNat k.toNat j.toNat) st:=by rw[vB,eH q]
    refine⟨a,kp,?_⟩;rw[B];simp![Uu,lC,vE,Wo,t];exact r
theorem Dg(N:Wi h b c f)(C:c<=100){st:Oo IB}(e:yA h d=ε (st.map pC)) :
 ∃x h2,uJ [.ref (b+c),d] h=ε (x,h2)/\(∀(n:Nat)(o:Ob),h[n]?=ε o->h2[n]?=ε o)/\oT c f st h2 x:=by
 obtain⟨h2,kp,r⟩:=FX C (ε d) st h b f none N;have E:∃src,IG (d,h)=ε (src,h)/\xD (BA 2) rG [ε (.ref (b+c)),ε d,none] (src,h)=lC (BA 2) rG (st.map pC) [ε (.ref (b+c)),ε d,none] h:=by
  cases d with
  | lst M=>cases e;exact⟨.vals (st.map pC),rfl,VF _ _ _⟩
  | ref s=>
   have hs:h[s]?=ε (.lst (st.map pC)):=by
    simp![yA]at e;split at e
    . rename_i q;cases e;exact q
    . cases e
   refine⟨.rf s,SE hs,Bt (fun l H=>H[s]?=ε (.lst (st.map pC))/\∃b f m,l=[ε (.ref (b+c)),ε (.ref s),m]/\Wi H b c f) (fun _ _ q=>q.1) ?_ ⟨hs,b,f,none,rfl,N⟩⟩;rintro x F l H r ⟨q1,J,P,m,rfl,L⟩ a;obtain⟨⟨i,k,j⟩,_,rfl⟩:=Ce.mp F;have t:=EX L C (ε (.ref s)) m i k j;have a:rG ([ε (.ref (J+c)),ε (.ref s),m].set 2 (ε (pC (i,k,j)))) H=ε r:=a;rw[t]at a;split at a
   . cases a;trivial
   . cases a;exact⟨by rw[Yo (Xa q1).1];exact q1,_,_,_,rfl,yG H c _⟩
  | _=>cases e
 obtain⟨src,B,p⟩:=E;rcases r with⟨y,u⟩ | ⟨g,I,O,y,u,D⟩
 . rw[u]at p;refine⟨.non,h2,?_,kp,.no y⟩;dsimp![uJ,WQ,zB,Uu (f:=some),Xi (f:=some),Nat.reduceSub,List.replicate,Yi,Ye,YA,ND,FC,gA,Ti,Ui,iA,B,p,xE,HB]
 . rw[D]at p;refine⟨.ref (I+c),h2,?_,kp,.net y u⟩;dsimp![uJ,WQ,zB,Uu (f:=some),Xi (f:=some),Nat.reduceSub,List.replicate,Yi,Ye,YA,ND,FC,gA,Ti,Ui,iA,B,p,jB,qB,HB]
def Cp:nA (.lst (xs++[d])) (.int (-1)) h=ε (d,h):=by
 rw[VI];have:L2.atI (xs++[d]) (-1)=ε d:=by unfold L2.atI L2.gI;rw[eH (by decide),eG (by simp![jj,Ua,Vi];omega)];rw[show((-1:Int)+((xs++[d]).length:Nat)).toNat=xs.length by simp![jj,Ua,Vi];omega];simp
 rw[this];rfl
def Bp:nA (.lst (d::xs)) (.int 0) h=ε (d,h):=by rw[VI,show(0:Int)=((0:Nat):Int)from rfl,SM.PD];rfl
set_option tactic.hygienic true in
theorem bT(e:yA h d=ε xs)(i):nA d (.int i) h=(L2.atI xs i).map fun d=>(d,h):=by
 cases d with
 | lst a=>cases e;rfl
 | ref n=>
  simp![yA]at e;split at e
  . rename_i zs q;cases e;exact LF q i
  . cases e
 | _=>cases e
set_option tactic.hygienic true in
theorem xP(e:yA h d=ε xs):eB d h=ε (.int xs.length,h):=by
 cases d with
 | lst a=>cases e;rfl
 | ref n=>
  simp![yA]at e;split at e
  . rename_i zs q;cases e;exact TH q
  . cases e
 | _=>cases e
def YX(e:yA h d0=ε (xs++[d])):nA d0 (.int (-1)) h=ε (d,h):=by rw[bT e,<- VI (h:=h)];exact Cp
def Vt(e:yA h d0=ε (d::xs)):nA d0 (.int 0) h=ε (d,h):=by rw[bT e,<- VI (h:=h)];exact Bp
def I0(e:yA h d0=ε xs)(a:xs[k]?=ε d):nA d0 (.int (k:Nat)) h=ε (d,h):=by rw[bT e,SM.PD,a];rfl
def wT(T:Oo (Oo Int×Dt))(p:Int×Int):Int:=match nE T [p.1,p.2]with
 | some (.int w)=>w
 | _=>0
def cD(r:Oo Int)(T:Oo (Oo Int×Dt)):Bool:=
 (decide (3<=r.length)&&(decide (r.head?=r.getLast?)&&decide ((EB r).length+1=r.length)))&&(((r.zip r.tail).all fun p=>(nE T [p.1,p.2]).isSome)&&decide (((r.zip r.tail).map (wT T)).sum<0))
def Zv(e:yA h d=ε (r.map Dt.int))(R:r.length<=1000)(g:yA h2 d=ε (r.map Dt.int))(el:vJ [x] h=ε (.ref n,h2))(S:h2[n]?=ε (.dt T))(U:∀k v,nE T k=ε v->∃w,v=.int w) :
 ∃H,xI [d,x] h=ε (.bl (cD r T),H)/\(H=h\/H=h2):=by
 have D:=xP e;rw[ni]at D;have ef:xI [d,x] h=vC (oR [ε d,ε x,none,none] h):=by rw[xI,zB];rfl
 rw[ef];unfold oR;have j:mn (e2 ZI (GB eB (eV 0)) (nS 3)) [ε d,ε x,none,none] h=ε (decide (((r.length:Nat):Int)<3),h):=by simp![IA,oA,LB,gA,pA,Ti,iA,fA,D,kI,NA]
 by_cases o:3<=r.length
 . rw[iu (show ¬((r.length:Nat):Int)<3 by omega)]at j;obtain⟨a,m,b,rfl⟩:∃a m b,r=a::(m++[b]):=by
    cases r with
    | nil=>simp at o
    | cons a t=>
     rcases eq_nil_or_concat t with z | ⟨m,b,z⟩
     . rw[z]at o;simp at o
     . exact⟨a,m,b,by rw[z,concat_eq_append]⟩
   have Y:nA d (.int 0) h=ε (.int a,h):=Vt (xs:=(m++[b]).map Dt.int) e;have W:nA d (.int (-1)) h=ε (.int b,h):=YX (xs:=(a::m).map Dt.int) (by rw[e];simp);have fs:aM d h=ε (.int ((EB (a::(m++[b]))).length:Nat),h):=by simp![aM,e,Wo,YV];rw[eG nofun]
   obtain⟨r,f⟩:∃r,r=a::(m++[b]):=⟨_,rfl⟩
   have hd:r.head?=ε a:=by rw[f];rfl
   have y:r.getLast?=ε b:=by rw[f,<- Yi];exact getLast?_concat
   rw[<- f]at e R D fs g o ⊢;have u:mn (e2 yD (e2 nA (eV 0) (nS 0)) (e2 nA (eV 0) (dB (nS 1)))) [ε d,ε x,none,none] h=ε (!decide (a=b),h):=by simp![IA,oA,dF,QE,gA,pA,Ti,iA,fA,Y,W,gH,NA]
   have B:mn (e2 yD (GB aM (eV 0)) (e2 tF (GB eB (eV 0)) (nS 1))) [ε d,ε x,none,none] h=ε (!decide (((EB r).length:Int)=(r.length:Int)-1),h):=by simp![IA,oA,LB,gA,pA,Ti,iA,fA,fs,D,VM,gH,NA]
   by_cases E:a=b
   . rw[je E]at u;by_cases O:(EB r).length+1=r.length
     . rw[je (show(((EB r).length:Nat):Int)=((r.length:Nat):Int)-1 by omega)]at B;have zs:fC (r.map Dt.int) (ε 1) none=r.tail.map Dt.int:=by have:=SM.QJ (r.map Dt.int) 1;rw[show((1:Nat):Int)=1 from rfl]at this;rw[this,<- map_drop,drop_one]
       have Q:∀l:LI,l[0]?=ε (ε d)->NO (eV 0) (IE (eV 0) (WB (nS 1)) LD) l h2=ε (.lst ((r.zip r.tail).map fun p=>Dt.ntp [p.1,p.2]),h2):=by
        intro l M;have P:IE (eV 0) (WB (nS 1)) LD l h2=ε (.lst (r.tail.map Dt.int),h2):=by simp![WI,gA,M,iA,fA,zK,pA,VJ,AK,g,Vu,zs]
        have s0:eV 0 l h2=ε (d,h2):=by simp![gA,M,iA]
        simp![NO,s0,P,Wo,g,DF,YV]
       have lp:(r.zip r.tail).length<=1000:=by rw[length_zip];omega
       have hs:((r.zip r.tail).map fun p=>Dt.ntp [p.1,p.2]).length<sizeLine:=by rw[ni];exact Ei lp (by decide)
       have L:eJ h2 (.ref n)=ε T:=by simp![eJ,S]
       have ec:=xF (te:=UN) (tc:=cB) (i:=0) (fun(p:Int×Int)=>Dt.ntp [p.1,p.2]) (fun p=>Dt.bl (nE T [p.1,p.2]).isSome) h2 (r.zip r.tail) [none,ε (.ref n)] fun p c=>⟨rfl,by
        simp![UN,sQ,gA,Wa,Ti,Ui,iA,Wo,QM,L,Vu]⟩
       have fa:GG (.lst ((r.zip r.tail).map fun p=>Dt.bl (nE T [p.1,p.2]).isSome)) h2=ε (.bl ((r.zip r.tail).all fun p=>(nE T [p.1,p.2]).isSome),h2):=by have:=mT (h:=h2) ((r.zip r.tail).map fun p=>(nE T [p.1,p.2]).isSome);rw[map_map,all_map]at this;exact this
       have C:SC (mn (GB GG (qC (RB (eV 3)) (BA 0) cB UN [none,ε 2]))) [ε d,ε x,ε (.ref n),ε (.lst ((r.zip r.tail).map fun p=>Dt.ntp [p.1,p.2]))] h2=ε (!((r.zip r.tail).all fun p=>(nE T [p.1,p.2]).isSome),h2):=by simp![xH,IA,LB,bF,FC,gA,Ti,Ui,iA,fA,CF,MD,xG,QD,Mi,aE _ _ _ hs,ec,fa,NA]
       refine⟨h2,?_,.inr rfl⟩;refine KC (h1:=h) (by simp![HD,j,u,B,fA,wz,Xo,g8]) (uE (d:=.ref n) (h1:=h2) (l':=[ε d,ε x,ε (.ref n),none]) (by simp![OA,zA,xA,gA,Ti,Ui,iA,fA,Ve,el]) rfl (uE (Q _ rfl) rfl ?_));unfold cD;rw[je o,hd,y,E,je rfl,je O,Hi,Hi,Hi];cases q:(r.zip r.tail).all fun p=>(nE T [p.1,p.2]).isSome with
       | false=>rw[q]at C;exact JC C rfl
       | true=>
        rw[q]at C;have J:=xF (te:=gR) (tc:=cB) (i:=0) (fun(p:Int×Int)=>Dt.ntp [p.1,p.2]) (fun p=>Dt.int (wT T p)) h2 (r.zip r.tail) [none,ε (.ref n)] fun p hp=>⟨rfl,by
         have s:=all_eq_true.mp q p hp;obtain⟨v,F⟩:=Option.isSome_iff_exists.mp s;obtain⟨w,rfl⟩:=U _ _ F;have Z:wT T p=w:=by unfold wT;rw[F]
         simp![gR,jT,gA,Wa,Ti,Ui,iA,Wo,QM,L,F,Vu,Z]⟩
        have I:gJ (.lst ((r.zip r.tail).map fun p=>Dt.int (wT T p))) h2=ε (.int ((r.zip r.tail).map (wT T)).sum,h2):=by have:=C0 (h:=h2) ((r.zip r.tail).map (wT T));rw[map_map]at this;exact this
        exact KC C (sH (by simp![oA,LB,bF,FC,gA,pA,Wa,Wu,Ti,Ui,iA,fA,CF,MD,xG,QD,Mi,aE _ _ _ hs,J,I,kI,Hi]))
     . rw[iu (show ¬(((EB r).length:Nat):Int)=((r.length:Nat):Int)-1 by omega)]at B;refine⟨h,?_,.inl rfl⟩;unfold cD;rw[iu O,Hu,Hu,Hs];exact JC (h1:=h) (by simp![HD,j,u,B,fA,wz,wu,Xo,g8]) rfl
   . rw[iu E]at u;refine⟨h,?_,.inl rfl⟩;unfold cD;rw[hd,y,iu (show ¬ε a=ε b from fun z=>E (by injection z)),Hs,Hu,Hs];exact JC (h1:=h) (by simp![HD,j,u,fA,wu,Xo,g8,eO]) rfl
 . rw[je (show((r.length:Nat):Int)<3 by omega)]at j;refine⟨h,?_,.inl rfl⟩;unfold cD;rw[iu o,Hs,Hs];exact JC (h1:=h) (by simp![HD,j,fA,eO]) rfl
def mr.shut{c:Nat}{f g:Nat->Nat->Nat}{st:Oo (Nat×Nat×Nat)}(h:mr c f st g)(i:HC c f):st=[]/\g=f:=by
 induction h with
 | nil=>exact⟨rfl,rfl⟩
 | snoc h e a b d ne n ih=>obtain⟨rfl,rfl⟩:=ih;exact Es (i _ e _ a _ b d) n
def X5{st:Oo (Nat×Nat×Nat)}(e:h[w]?=ε (.lst (st.map zD))):VC (.ref w) (.lst []) h=ε (.bl (!st.isEmpty),h):=by rw[uT (xs:=st.map zD) (by simp![yA,e])];cases st<;>rfl
inductive o0(h:HI)(c:Nat)(f:FA)(bn:Nat):Prop
 | mk (x:Dt) (s:Nat) (h':HI) (v:Bool) (p0:NJ [.ref (bn+c)] h=ε (.tup [x,.ref s],h')) (p1:mu h h') (p2:VC (.ref s) (.lst []) h'=ε (.bl v,h')) (p3:(v=false↔HC c f)):o0 h c f bn
def vd(m:c<=100)(of:ZA c f)(N:Wi h bn c f)(ne:bB c f=false):o0 h c f bn:=by
 have J:=mO (show c<=1000 by omega) h;have Q:=JJ c c;have H:c*c<=100*100:=Js m m;obtain⟨d,y,e,x,s,st,g,rfl,O,F,E,D,j,M,u⟩:=VQ m of (N.grow [.lst ((WA c).map DA)]) (pd:=.ref h.length) (P:=WA c) (fun z=>by simp[XC,yA]) (fun p hp=>by
  obtain⟨q1,q2⟩:=cz.mp hp;omega) (tR c f) (by unfold WA;omega)
 have up:∀(n:Nat)(o:Ob),h[n]?=ε o->y[n]?=ε o:=fun n o i=>by have k:n<h.length:=(Xa i).1;rw[E n (by simp;omega),Yo k];exact i
 refine⟨x,s,y,!st.isEmpty,?_,⟨by simp at F;omega,fun n B i=>up n _ i,fun n B i=>up n _ i⟩,X5 D,?_⟩
 . dsimp![NJ,sW,zB,qB,OA,zA,xA,LB,gA,Uu,Xi,Yi,Ye,Ti,iA,N.len,Ve,J,e,HB]
 . constructor
   . intro z;have C:st=[]:=by
      cases st with
      | nil=>rfl
      | cons a r=>cases z
     subst C;have I:g=f:=by
      generalize hs:([]:Oo (Nat×Nat×Nat))=st at j;cases j with
      | nil=>rfl
      | snoc=>simp at hs
     rw[I]at u;rcases u with⟨_,q⟩ | ⟨b,_,_,_,q,_⟩
     . rw[ne]at q;cases q
     . exact q
   . intro L;rw[(j.shut L).1];rfl
noncomputable abbrev Tri:=Nat×Nat×Nat
inductive nb where
 | Ws (st:List IB)
 | ring (st:List IB) (r:List Int)
 | one (st:List IB) (bs:List nb)
 | split (st:List IB) (p:Nat×Nat) (bs:List nb)
noncomputable def nb.st:nb->Oo IB
 | .Ws st=>st
 | .ring st _=>st
 | .one st _=>st
 | .split st _ _=>st
noncomputable def nb.kids:nb->Oo nb
 | .one _ bs=>bs
 | .split _ _ bs=>bs
 | _=>[]
noncomputable def nb.wd:nb->Str
 | .Ws _ => "threes"
 | .ring _ _ => "ring"
 | .one _ _ => "one"
 | .split _ _ _ => "split"
mutual
noncomputable def MA:nb->Nat
 | .Ws _=>1
 | .ring _ _=>1
 | .one _ bs=>DB bs+1
 | .split _ _ bs=>DB bs+1
noncomputable def DB:Oo nb->Nat
 | []=>0
 | t::ts=>max (MA t) (DB ts)
end
mutual
noncomputable def my(h:HI):nb->Dt->Prop
 | .Ws st,d=>∃s,d=.tup [.str "threes",s]/\yA h s=ε (st.map pC)
 | .ring st r,d=>∃s x,d=.tup [.str "ring",s,x]/\yA h s=ε (st.map pC)/\yA h x=ε (r.map Dt.int)/\r.length<=1000
 | .one st bs,d=>∃s x ds,d=.tup [.str "one",s,x]/\yA h s=ε (st.map pC)/\yA h x=ε ds/\Vo h bs ds
 | .split st p bs,d=>∃s x ds,d=.tup [.str "split",s,.int (p.1:Nat),.int (p.2:Nat),x]/\yA h s=ε (st.map pC)/\yA h x=ε ds/\Vo h bs ds
noncomputable def Vo(h:HI):Oo nb->Oo Dt->Prop
 | [],ds=>ds=[]
 | t::ts,ds=>∃d r,ds=d::r/\my h t d/\Vo h ts r
end
set_option tactic.hygienic true in
theorem cE(u:mu h h')(e:yA h d=ε xs):yA h' d=ε xs:=by
 cases d with
 | lst a=>exact e
 | ref n=>
  simp![yA]at e;split at e
  . rename_i zs q;cases e;simp![yA,u.2 _ _ q]
  . cases e
 | _=>cases e
mutual
theorem my.up{h h':HI}(u:mu h h'):∀(t:nb){d:Dt},my h t d->my h' t d
 | .Ws st,d,q=>by simp![my]at q ⊢;obtain⟨s,e,q⟩:=q;exact⟨s,e,cE u q⟩
 | .ring st r,d,q=>by simp![my]at q ⊢;obtain⟨s,x,e,q1,q2,q3⟩:=q;exact⟨s,x,e,cE u q1,cE u q2,q3⟩
 | .one st bs,d,q=>by simp![my]at q ⊢;obtain⟨s,x,ds,e,q1,q2,q3⟩:=q;exact⟨s,x,ds,e,cE u q1,cE u q2,Vo.up u bs q3⟩
 | .split st p bs,d,q=>by simp![my]at q ⊢;obtain⟨s,x,ds,e,q1,q2,q3⟩:=q;exact⟨s,x,ds,e,cE u q1,cE u q2,Vo.up u bs q3⟩
theorem Vo.up{h h':HI}(u:mu h h'):∀(a:Oo nb){ds:Oo Dt},Vo h a ds->Vo h' a ds
 | [],ds,q=>by simp![Vo]at q ⊢;exact q
 | t::a,ds,q=>by simp![Vo]at q ⊢;obtain⟨d,r,e,q1,q2⟩:=q;exact⟨d,r,e,my.up u t q1,Vo.up u a q2⟩
end
theorem Vo.len:∀a{ds:Oo Dt},Vo h a ds->ds.length=a.length
 | [],ds,q=>by simp![Vo]at q;rw[q];rfl
 | t::a,ds,q=>by simp![Vo]at q;obtain⟨d,r,rfl,_,q2⟩:=q;simp![Ua,Vo.len a q2]
def my.hd(q:my h t d):∃s,(∀H,nA d (.int 0) H=ε (.str t.wd,H))/\(∀H,nA d (.int 1) H=ε (s,H))/\yA h s=ε (t.st.map pC):=by
 cases t with
 | Ws st=>simp![my]at q;obtain⟨s,rfl,q⟩:=q;exact⟨s,fun z=>rfl,fun z=>rfl,q⟩
 | ring st r=>simp![my]at q;obtain⟨s,x,rfl,q,_⟩:=q;exact⟨s,fun z=>rfl,fun z=>rfl,q⟩
 | one st bs=>simp![my]at q;obtain⟨s,x,ds,rfl,q,_⟩:=q;exact⟨s,fun z=>rfl,fun z=>rfl,q⟩
 | split st p bs=>simp![my]at q;obtain⟨s,x,ds,rfl,q,_⟩:=q;exact⟨s,fun z=>rfl,fun z=>rfl,q⟩
def J6(kp:∀(n:Nat)(o:Ob),h[n]?=ε o->h2[n]?=ε o):mu h h2:=by
 refine⟨?_,fun n a e=>kp n _ e,fun n a e=>kp n _ e⟩;rcases Nat.eq_zero_or_pos h.length with z | z
 . omega
 . have:h[h.length-1]?=ε h[h.length-1]:=by simp
   have:=(Xa (kp _ _ this)).1;omega
noncomputable def AD:nb->O4 (Nat×Nat)
 | .split _ p _=>ε p
 | _=>none
noncomputable def cF:nb->Prop
 | .one _ _=>True
 | .split _ _ _=>True
 | _=>False
def vF(c:Nat)(g:FA)(ls:Oo Ln):Oo (Oo Int×Dt):=(cC (CC c g ls)).map BB
mutual
inductive Sh(c:Nat)(ls:List Ln):Nat->FA->List (List UB)->nb->Bool->Prop
 | no {n f gs t v}:vB c f t.st=none->v=false->Sh c ls n f gs t v
 | Ws {n f gs t v g}:t.wd=("threes" :Str)->vB c f t.st=ε g->v=bB c g->Sh c ls n f gs t v
 | loose {n f gs t v g}:t.wd≠("threes" :Str)->vB c f t.st=ε g->(bB c g=true\/¬HC c g)->v=false->Sh c ls n f gs t v
 | ring {n f gs t v st r g}:t=.ring st r->vB c f t.st=ε g->bB c g=false->HC c g->v=cD r (vF c (wB c g) ls)->Sh c ls n f gs t v
 | odd {n f gs t v g}:cF t->vB c f t.st=ε g->bB c g=false->HC c g->(∀bs ps,oC c (wB c g) gs=ε (AD t,bs,ps)->bs.length≠t.kids.length)->v=false->Sh c ls n f gs t v
 | cut {n f gs t g bs ps v m}:cF t->vB c f t.st=ε g->bB c g=false->HC c g->oC c (wB c g) gs=ε (AD t,bs,ps)->bs.length=t.kids.length->YM c ls m bs gs.tail t.kids v->Sh c ls n f gs t v
inductive YM(c:Nat)(ls:List Ln):Nat->List FA->List (List UB)->List nb->Bool->Prop
 | nil {n gs}:YM c ls n [] gs [] true
 | no {n f fs gs t ts}:Sh c ls n f gs t false->YM c ls n (f::fs) gs (t::ts) false
 | yes {n f fs gs t ts v}:Sh c ls n f gs t true->YM c ls n fs gs ts v->YM c ls n (f::fs) gs (t::ts) v
end
def YT(a b)(h):pG (.str a) (.str b) h=ε (.bl (decide (a=b)),h):=X7 a b
def D4(a b)(h):VC (.str a) (.str b) h=ε (.bl (!decide (a=b)),h):=RM a b
def Xd(c)(g)(ls):∀k v,nE (vF c g ls) k=ε v->∃w,v=.int w:=by intro k v e;unfold nE at e;obtain⟨p,hp,rfl⟩:=Gi.mp e;have:=Bo hp;unfold vF at this;obtain⟨x,_,rfl⟩:=Ce.mp this;exact⟨_,rfl⟩
inductive j0(h:HI)(b c:Nat)(g:FA)(ls:List Ln)(x:Dt)(r:List Int):Prop
 | mk (y:Dt) (h1:HI) (h':HI) (p0:SH [.ref (b+c),.lst (ls.map uB)] h=ε (y,h1)) (p1:xI [x,y] h1=ε (.bl (cD r (vF c g ls)),h')) (p2:mu h h'):j0 h b c g ls x r
def Ij(N:Wi h b c g)(n:c<=8)(og:ZA c g)(ne:bB c g=false)(m:ls.length<=100)(e:yA h x=ε (r.map Dt.int))(k:r.length<=1000):j0 h b c g ls x r:=by
 obtain⟨rest,q⟩:=IW nofun (fun i j f d=>VY (og.lt i f j d) (di ne f d)) (ls:=ls) nofun N;have y:(CC c g ls).length<=1000:=TR n g m;have da:(h++.lst ((CC c g ls).map vA)::rest)[h.length]?=ε (.lst ((CC c g ls).map vA)):=by simp
 have p:=KU (CC c g ls) y _ da;have a:mu h (h++.lst ((CC c g ls).map vA)::rest):=mu.app _ _;obtain⟨o,u,e2⟩:=Zv (cE a e) k (cE (a.trans (mu.app _ _)) e) p (T:=vF c g ls) (by unfold vF;simp) (Xd c g ls);refine⟨_,_,o,q,u,?_⟩;rcases e2 with rfl | rfl
 . exact a
 . exact a.trans (mu.app _ _)
def DS(c:Nat)(ls:Oo Ln)(n:Nat)(R:rB):Prop:=∀(f:FA)(e:Oo (Oo UB))(t:nb)(h:HI)(b:Nat)(a:Oo Dt)(d:Dt),Wi h b c f->ZA c f->ay h a e->bg c e->(∀x∈e,x.length<=1000)->my h t d->MA t<=n->
 ∃v g,R [.ref (b+c),.lst a,.lst (ls.map uB),d] h=ε (.bl v,g)/\mu h g/\Sh c ls n f e t v
theorem NW(F:DS c ls n R)(go:bg c p)(C:∀x∈p,x.length<=1000)(x):∀nr i bs g e dp h k j,e.length=dp.length->yA h x=ε (dp++i)->am (bz h c) bs nr->(∀b∈bs,ZA c b)->Vo h g i->bs.length=g.length->DB g<=n->ay h gds p->
 ∃v u,mu h u/\YM c ls n bs p g v/\((v=false/\aC (ED 4 5) (kH R) (.zp (.lst (e++nr)) x) (nr.length+1) e.length [ε (.lst (e++nr)),ε (.lst gds),ε (.lst (ls.map uB)),ε x,k,j] h=ε (.rt (.bl false) u))\/
  (v=true/\∃I H,aC (ED 4 5) (kH R) (.zp (.lst (e++nr)) x) (nr.length+1) e.length [ε (.lst (e++nr)),ε (.lst gds),ε (.lst (ls.map uB)),ε x,k,j] h=ε (.nx [ε (.lst (e++nr)),ε (.lst gds),ε (.lst (ls.map uB)),ε x,I,H] u)))
 | [],i,bs,g,e,dp,h,k,j,hl,hx,a,ob,ft,bl,dp',Q=>by
  cases a;have tn:g=[]:=by cases g with | nil=>rfl | cons=>simp at bl
  subst tn;have Z:i=[]:=by simpa only[Vo]using ft
  subst Z;refine⟨true,h,mu.refl h,.nil,.inr ⟨rfl,k,j,?_⟩⟩;unfold aC;rw[Ve]at hx;simp![mo.at,DF,hx,Ve,hl,lu (Va dp.length)];rw[lu nofun]
 | nd::nr,i,bs,g,e,dp,h,k,j,hl,hx,a,ob,ft,bl,dpp,Q=>by
  cases a with
  | @cons E _ y _ a1 a2=>
   obtain⟨f,rfl,N⟩:=a1;cases g with
   | nil=>simp at bl
   | cons t g=>
    simp![Vo]at ft;obtain⟨d,i,rfl,U,T⟩:=ft;have D:MA t<=n/\DB g<=n:=by simp![DB]at dpp;omega
    obtain⟨v,o,Y,m,B⟩:=F E p t h f gds d N (ob E ⋯) Q go C U D.1;have S:(e++Dt.ref (f+c)::nr)[e.length]?=ε (.ref (f+c)):=by simp
    have g2:(dp++d::i)[e.length]?=ε d:=by rw[hl];simp
    have bd:kH R [ε (.lst (e++Dt.ref (f+c)::nr)),ε (.lst gds),ε (.lst (ls.map uB)),ε x,ε (.ref (f+c)),ε d] h=if v=true then ε (.nx [ε (.lst (e++Dt.ref (f+c)::nr)),ε (.lst gds),ε (.lst (ls.map uB)),ε x,ε (.ref (f+c)),ε d] o)else ε (.rt (.bl false) o):=by cases v<;>simp![kH,FB,xH,IA,OA,zA,xA,gA,pA,Ti,Ui,iA,fA,Ve,Y,NA,wz,wu,Xo,g8,eO,qB,OD]
    have st:∀K,(aC (ED 4 5) (kH R) (.zp (.lst (e++Dt.ref (f+c)::nr)) x) (K+1) e.length [ε (.lst (e++Dt.ref (f+c)::nr)),ε (.lst gds),ε (.lst (ls.map uB)),ε x,k,j] h)=if v=true then aC (ED 4 5) (kH R) (.zp (.lst (e++Dt.ref (f+c)::nr)) x) K (e.length+1) [ε (.lst (e++Dt.ref (f+c)::nr)),ε (.lst gds),ε (.lst (ls.map uB)),ε x,ε (.ref (f+c)),ε d] o else ε (.rt (.bl false) o):=by intro K;rw[aC];simp![mo.at,DF,hx,S,g2,xS,Wo,Wu,Wa,bd];cases v<;>rfl
    cases v with
    | false=>refine⟨false,o,m,.no B,.inl ⟨rfl,?_⟩⟩;rw[Ua,st];rfl
    | true=>
     obtain⟨J,P,L,M,r⟩:=NW F go C x nr i y g (e++[.ref (f+c)]) (dp++[d]) o (ε (.ref (f+c))) (ε d) (by simp[hl]) (by rw[cE m hx];simp) (a2.imp fun z z q=>q.up m) (fun b O=>ob b (by simp[O])) (Vo.up m g T) (by simpa using bl) D.2 (Q.up m);refine⟨J,P,m.trans L,.yes B M,?_⟩;have W:e++[Dt.ref (f+c)]++nr=e++Dt.ref (f+c)::nr:=by simp
     rw[W,jj,length_singleton]at r;rw[Ua,st];exact r
def Bg(t):1<=MA t:=by cases t<;>simp[MA]
def Bm(p q):VC (DA p) (.tup [.int (q.1:Nat),.int (q.2:Nat)]) h=ε (.bl (!decide (p=q)),h):=by
 have e:decide ([(p.1:Int),p.2]=[(q.1:Int),q.2])=decide (p=q):=by obtain⟨a,b⟩:=p;obtain⟨f,d⟩:=q;rw[Bool.eq_iff_iff];simp;omega
 rw[<- e];rfl
def Dr:VC (.tup []) (.tup []) h=ε (.bl false,h):=rfl
def lZ(a s x):SM.fC [a,s,x] (ε 2) (ε (-1))=[]/\¬(HT.sIx [a,s,x].length 0 (ε 2)=0/\HT.sIx [a,s,x].length [a,s,x].length (ε (-1))=[a,s,x].length):=⟨rfl,show ¬(HT.sIx 3 0 (ε 2)=0/\HT.sIx 3 3 (ε (-1))=3) by decide⟩
def mZ(a s p q x):SM.fC [a,s,p,q,x] (ε 2) (ε (-1))=[p,q]/\¬(HT.sIx [a,s,p,q,x].length 0 (ε 2)=0/\HT.sIx [a,s,p,q,x].length [a,s,p,q,x].length (ε (-1))=[a,s,p,q,x].length):=⟨rfl,show ¬(HT.sIx 5 0 (ε 2)=0/\HT.sIx 5 5 (ε (-1))=5) by decide⟩
def QY(hd:d=.tup xs)(h1:SM.fC xs (ε 2) (ε (-1))=ys)(h2:¬(HT.sIx xs.length 0 (ε 2)=0/\HT.sIx xs.length xs.length (ε (-1))=xs.length))(a:l[3]?=ε (ε d)):DC (eV 3) (WB (nS 2)) (WB (dB (nS 1))) l h=ε (.tup ys,h):=by
 have f:eV 3 l h=ε (.tup xs,h):=by simp![gA,a,iA,hd]
 have e:WB (nS 2) l h=ε (ε 2,h):=rfl;have b:WB (dB (nS 1)) l h=ε (ε (-1),h):=rfl;simp![DC,f,e,b,Wo,RZ,eG h2,h1]
def Pq(D:DS c ls n R)(go:bg c i)(C:∀x∈i,x.length<=1000)(k:yA h x=ε ds)(a:am (bz h c) bs d)(ob:∀b∈bs,ZA c b)(y:Vo h e ds)(dp:DB e<=n)(Q:ay h gds i) :
 ∃v g,LH R [.lst d,.lst gds,.lst (ls.map uB),x] h=ε (.bl v,g)/\mu h g/\((v=false/\bs.length≠e.length)\/(bs.length=e.length/\YM c ls n bs i e v)):=by
 have o:=vP (xs:=d) (h:=h);have m:=xP k;have I:=a.len;have H:=Vo.len e y;by_cases q:bs.length=e.length
 . have j:decide (((d.length:Nat):Int)=((ds.length:Nat):Int))=true:=je nofun;obtain⟨v,g,u,s,r⟩:=NW D go C x d ds bs e [] [] h none none rfl k a ob y q dp Q;have p:=Xw (r:=.lst d) (q:=x) (DF d) k;have B:xD (ED 4 5) (kH R) [ε (.lst d),ε (.lst gds),ε (.lst (ls.map uB)),ε x,none,none] (.zp (.lst d) x,h)=aC (ED 4 5) (kH R) (.zp (.lst d) x) (d.length+1) 0 [ε (.lst d),ε (.lst gds),ε (.lst (ls.map uB)),ε x,none,none] h:=by unfold xD;simp![mo.fuel,DF]
   simp![Ye,Vi]at r;rcases r with⟨rfl,r⟩ | ⟨rfl,F,E,r⟩
   . refine⟨false,g,?_,u,.inr ⟨q,s⟩⟩;dsimp![LH,rL,zB,Uu (f:=some),Xi (f:=some),Nat.reduceSub,List.replicate,Yi,Ye,YA,FB,IA,oA,LB,gA,Ti,Ui,iA,o,m,gH,j,wz,NA,Xo,g8,OD,jB,ND,JZ,p,B,r,xE,HB]
   . refine⟨true,g,?_,u,.inr ⟨q,s⟩⟩;dsimp![LH,rL,zB,Uu (f:=some),Xi (f:=some),Nat.reduceSub,List.replicate,Yi,Ye,YA,FB,IA,oA,LB,gA,Ti,Ui,iA,o,m,gH,j,wz,NA,Xo,g8,OD,jB,ND,JZ,p,B,r,qB,pA,HB]
 . have j:decide (((d.length:Nat):Int)=((ds.length:Nat):Int))=false:=iu nofun;refine⟨false,h,?_,mu.refl h,.inl ⟨rfl,q⟩⟩;dsimp![LH,rL,zB,Uu (f:=some),Xi (f:=some),Nat.reduceSub,List.replicate,Yi,Ye,YA,FB,IA,oA,LB,gA,pA,Ti,Ui,iA,o,m,gH,j,wu,NA,qB,xE,HB]
noncomputable def jH:O4 (Nat×Nat)->Str
 | none => "one"
 | some _ => "split"
def wN:O4 (Nat×Nat)->Dt
 | none=>.tup []
 | some p=>DA p
theorem Lw:∀a,¬jH a=Str.ofString "ring"
 | none=>show ¬(Str.ofString "one" =Str.ofString "ring") by decide
 | some _=>show ¬(Str.ofString "split" =Str.ofString "ring") by decide
theorem Er:∀{a b:O4 (Nat×Nat)},jH a=jH b->VC (wN a) (wN b) h=ε (.bl (!decide (a=b)),h)
 | none,none,_=>Dr
 | some p,some q,_=>by
  have e:decide (ε p=ε q)=decide (p=q):=by simp
  rw[e];exact Bm p q
 | none,some _,w=>Es w (show ¬(Str.ofString "one" =Str.ofString "split") by decide)
 | some _,none,w=>Es w (show ¬(Str.ofString "split" =Str.ofString "one") by decide)
def n6 (F:my h t d) (i:¬t.wd=("threes" :Str)):(∃st r x,t=.ring st r/\(∀H,nA d (.int 2) H=ε (x,H))/\yA h x=ε (r.map Dt.int)/\r.length<=1000)\/
 ∃x ds,cF t/\yA h x=ε ds/\Vo h t.kids ds/\MA t=DB t.kids+1/\(∀H,nA d (.int (-1)) H=ε (x,H))/\(∀l H,l[3]?=ε (ε d)->DC (eV 3) (WB (nS 2)) (WB (dB (nS 1))) l H=ε (wN (AD t),H))/\t.wd=jH (AD t):=by
 cases t with
 | Ws st=>exact Es rfl i
 | ring st r=>simp![my]at F;obtain⟨b,a,rfl,_,f,e⟩:=F;exact .inl ⟨st,r,a,rfl,fun q=>rfl,f,e⟩
 | one st bs=>simp![my]at F;obtain⟨b,a,ds,rfl,_,f,e⟩:=F;exact .inr ⟨a,ds,trivial,f,e,by simp![MA,nb.kids],fun q=>rfl,fun l H g=>QY (l:=l) (h:=H) rfl (lZ (.str "one") b a).1 (lZ (.str "one") b a).2 g,rfl⟩
 | split st p bs=>simp![my]at F;obtain⟨b,a,ds,rfl,_,f,e⟩:=F;exact .inr ⟨a,ds,trivial,f,e,by simp![MA,nb.kids],fun q=>rfl,fun l H g=>QY (l:=l) (h:=H) rfl (mZ (.str "split") b (.int (p.1:Nat)) (.int (p.2:Nat)) a).1 (mZ (.str "split") b (.int (p.1:Nat)) (.int (p.2:Nat)) a).2 g,rfl⟩
def vf(hc:c<=8)(hl:ls.length<=100):∀n,DS c ls n (RH n):=by
 intro n
 induction n with
 | zero=>intro f gs t h b m d _ _ _ _ _ _ dp;have:=Bg t;omega
 | succ n IH=>
  intro f gs t h b m d N of Q go gl F dp;obtain⟨s,i0,i1,es⟩:=F.hd;obtain⟨x,p,eb,kp,B⟩:=Dg N nofun es;have u1:=J6 kp;obtain⟨L,E⟩:∃L:Dt->O4 Dt->LI,∀y z,L y z=[ε (.ref (b+c)),ε (.lst m),ε (.lst (ls.map uB)),ε d,ε y,z]:=⟨_,fun V V=>rfl⟩
  have l0:∀y z,(L y z)[0]?=ε (ε (.ref (b+c))):=fun y z=>by rw[E];rfl
  have l1:∀y z,(L y z)[1]?=ε (ε (.lst m)):=fun y z=>by rw[E];rfl
  have l2:∀y z,(L y z)[2]?=ε (ε (.lst (ls.map uB))):=fun y z=>by rw[E];rfl
  have l3:∀y z,(L y z)[3]?=ε (ε d):=fun y z=>by rw[E];rfl
  have U:∀y z,(L y z)[4]?=ε (ε y):=fun y z=>by rw[E];rfl
  have l5:∀y z,(L y (ε z))[5]?=ε (ε z):=fun y z=>by rw[E];rfl
  have wd:∀(y:Dt)(z:O4 Dt)(H:HI),e2 nA (eV 3) (nS 0) (L y z) H=ε (.str t.wd,H):=fun y z H=>by simp![oA,gA,pA,l3,iA,fA,i0]
  have no:∀(y:Dt)(z:O4 Dt)(H:HI),eC (.bl false) (L y z) H=ε (.bl false,H):=fun V V V=>rfl
  obtain⟨Y,k⟩:∃Y,RH (n+1) [.ref (b+c),.lst m,.lst (ls.map uB),d] h=Y:=⟨_,rfl⟩
  rw[k];have out:∀(v:Bool)(O:HI),Y=ε (.bl v,O)->mu h O->Sh c ls (n+1) f gs t v->∃v O,Y=ε (.bl v,O)/\mu h O/\Sh c ls (n+1) f gs t v:=fun v O a b d=>⟨v,O,a,b,d⟩
  have ef:RH (n+1) [.ref (b+c),.lst m,.lst (ls.map uB),d] h=vC (TJ (RH n) [ε (.ref (b+c)),ε (.lst m),ε (.lst (ls.map uB)),ε d,none,none] h):=by show QB 4 6 (TJ (RH n)) _ h=_;rw[zB];rfl
  have s1:rA uJ [] (aA (eV 0) (aA (e2 nA (eV 3) (nS 1)) dA)) [ε (.ref (b+c)),ε (.lst m),ε (.lst (ls.map uB)),ε d,none,none] h=ε (x,p):=by simp![OA,zA,xA,oA,gA,pA,Ti,Ui,iA,fA,Ve,i1,eb]
  rw[ef,TJ,OC (i:=4) (l':=L x none) s1 (E x none).symm]at k;cases B with
  | no q=>
   have s2:mn (e2 JE (eV 4) (eC .non)) (L .non none) p=ε (true,p):=by simp![IA,oA,gA,pA,U,iA,fA];rfl
   rw[JC s2 (no _ _ _)]at k;exact out false p k.symm u1 (.no q rfl)
  | @net g o q N1=>
   have og:=fP _ _ _ of q;have s2:mn (e2 JE (eV 4) (eC .non)) (L (.ref (o+c)) none) p=ε (false,p):=by simp![IA,oA,gA,pA,U,iA,fA];rfl
   have em:=rR N1 nofun;have ee:rA sG [] (aA (eV 4) dA) (L (.ref (o+c)) none) p=ε (.bl (bB c g),p):=by simp![OA,zA,xA,gA,U,iA,fA,Ve,em]
   have s3:mn (e2 pG (e2 nA (eV 3) (nS 0)) (eC (.str "threes"))) (L (.ref (o+c)) none) p=ε (decide (t.wd = "threes"),p):=by rw[IA,oA,wd];simp![pA,fA,YT,NA]
   rw[gD s2]at k;by_cases P:t.wd = "threes"
   . rw[je P]at s3;rw[JC s3 ee]at k;exact out _ p k.symm u1 (.Ws P q rfl)
   . rw[iu P]at s3;rw[gD s3]at k;cases ne:bB c g with
     | true=>
      rw[ne]at ee;have R:XB (mn (rA sG [] (aA (eV 4) dA))) (mn (e2 VC (e2 nA (rA NJ [] (aA (eV 4) dA)) (nS 1)) (AB dA))) (L (.ref (o+c)) none) p=ε (true,p):=by rw[HD,IA,ee];simp![fA,NA,eO]
      rw[JC R (no _ _ _)]at k;exact out false p k.symm u1 (.loose P q (.inl ne) rfl)
     | false=>
      rw[ne]at ee;obtain⟨x2,a0,I,v2,er,u2,en,cl⟩:=vd nofun og N1 ne;have j1:nA (.tup [x2,.ref a0]) (.int 1) I=ε (.ref a0,I):=rfl;have R:XB (mn (rA sG [] (aA (eV 4) dA))) (mn (e2 VC (e2 nA (rA NJ [] (aA (eV 4) dA)) (nS 1)) (AB dA))) (L (.ref (o+c)) none) p=ε (v2,I):=by rw[HD,IA,ee];simp![fA,NA,Xo,g8,IA,oA,OA,zA,xA,gA,pA,kE,Vi,nW,eO,U,iA,Ve,er,j1,en]
      have C:=u1.trans u2;cases hv:v2 with
      | true=>rw[hv]at R;rw[JC R (no _ _ _)]at k;exact out false I k.symm C (.loose P q (.inr fun z=>by rw[cl.mpr z]at hv;cases hv) rfl)
      | false=>
       have D:=cl.mp hv;rw[hv]at R;have N2:=kY (u2.net N1);have M:=sP og;have a6:bB c (wB c g)=false:=by rw[GW];exact ne
       have s5:mn (e2 pG (e2 nA (eV 3) (nS 0)) (eC (.str "ring"))) (L (.ref (o+c)) none) I=ε (decide (t.wd = "ring"),I):=by rw[IA,oA,wd];simp![pA,fA,YT,NA]
       have F2:=my.up C t F;have Q2:=Q.up C;rw[gD R]at k;rcases n6 F2 P with⟨st,r,x3,et,k2,f2,f3⟩ | ⟨x3,ds,ic,f2,f3,de,lst,sl,tg⟩
       . obtain⟨y,h3,h4,e3,e4,u4⟩:=Ij N2 hc M a6 hl f2 f3;rw[show decide (t.wd=("ring" :Str))=true by rw[et];exact je rfl]at s5;have s6:rA xI [] (aA (e2 nA (eV 3) (nS 2)) (aA (rA SH [] (aA (eV 4) (aA (eV 2) dA))) dA)) (L (.ref (o+c)) none) I=ε (.bl (cD r (vF c (wB c g) ls)),h4):=by simp![OA,zA,xA,oA,gA,pA,l2,l3,U,iA,fA,Ve,k2,e3,e4]
         rw[JC s5 s6]at k;exact out _ h4 k.symm (C.trans u4) (.ring et q ne D rfl)
       . have b2:DB t.kids<=n:=by omega
         rw[show decide (t.wd=("ring" :Str))=false by rw[tg];exact iu (Lw _)]at s5;obtain⟨h3,U3,ms⟩:=WV N2 M nofun Q2 go gl;have u3:mu h h3:=C.trans U3.l;rw[gD s5]at k;have gt:ay h3 m.tail gs.tail:=by
          have:=Q2.up U3.l;cases this with
          | nil=>exact .nil
          | cons a r=>exact r
         have s6:∀y,zF [.ref (o+c),.lst m] I=ε (y,h3)->rA zF [] (aA (eV 4) (aA (eV 1) dA)) (L (.ref (o+c)) none) I=ε (y,h3):=fun y e=>by simp![OA,zA,xA,gA,U,l1,iA,fA,Ve,e]
         have a1:∀y,(L (.ref (o+c)) none).set 5 (ε y)=L (.ref (o+c)) (ε y):=fun y=>by rw[E,E];rfl
         cases hs:oC c (wB c g) gs with
         | none=>
          rw[hs]at ms;rw[OC (s6 _ ms) (a1 _)]at k;have J:XB (mn (e2 JE (eV 5) (eC .non))) (XB (mn (e2 VC (e2 nA (eV 5) (nS 0)) (e2 nA (eV 3) (nS 0)))) (mn (e2 VC (e2 nA (eV 5) (nS 1)) (DC (eV 3) (WB (nS 2)) (WB (dB (nS 1))))))) (L (.ref (o+c)) (ε .non)) h3=ε (true,h3):=by rw[HD,IA,oA];simp![gA,pA,l5,iA,fA];rfl
          rw[JC J (no _ _ _)]at k;exact out false h3 k.symm u3 (.odd ic q ne D (fun a3 S z=>by rw[hs]at z;cases z) rfl)
         | some z=>
          obtain⟨j,b3,S⟩:=z;rw[hs]at ms;obtain⟨u,a2,e3⟩:=ms;have a5:=SJ M go hs;have a7:=cE U3.l f2;obtain⟨v,h4,e4,u4,r4⟩:=Pq IH go.tail (fun y hy=>gl y (mem_of_mem_tail hy)) a7 a2 a5 (Vo.up U3.l _ f3) b2 gt;have kn:JE (YC j u S) .non h3=ε (.bl false,h3):=by cases j<;>rfl
          have k0:nA (YC j u S) (.int 0) h3=ε (.str (jH j),h3):=by cases j<;>rfl
          have k2:nA (YC j u S) (.int 1) h3=ε (wN j,h3):=by cases j<;>rfl
          have k3:nA (YC j u S) (.int 2) h3=ε (.lst u,h3):=by cases j<;>rfl
          generalize YC j u S=T at e3 kn k0 k2 k3;rw[OC (s6 _ e3) (a1 _)]at k;have J:∀z,(jH j=t.wd->z=!decide (j=AD t))->(jH j≠t.wd->z=true)->XB (mn (e2 JE (eV 5) (eC .non))) (XB (mn (e2 VC (e2 nA (eV 5) (nS 0)) (e2 nA (eV 3) (nS 0)))) (mn (e2 VC (e2 nA (eV 5) (nS 1)) (DC (eV 3) (WB (nS 2)) (WB (dB (nS 1))))))) (L (.ref (o+c)) (ε T)) h3=ε (z,h3):=by
           intro z z1 z2;have t1:mn (e2 JE (eV 5) (eC .non)) (L (.ref (o+c)) (ε T)) h3=ε (false,h3):=by simp![IA,oA,gA,pA,l5,iA,fA,kn,NA]
           have t2:mn (e2 VC (e2 nA (eV 5) (nS 0)) (e2 nA (eV 3) (nS 0))) (L (.ref (o+c)) (ε T)) h3=ε (!decide (jH j=t.wd),h3):=by simp![IA,oA,gA,pA,l5,l3,iA,fA,k0,i0,D4,NA]
           rw[HD,t1];simp![fA,Xo,g8];rw[HD,t2];by_cases W:jH j=t.wd
           . rw[z1 W,je W];simp![wz,fA,Xo,g8,IA,oA,gA,pA,l5,iA,k2,sl _ h3 (l3 _ _),Er (W.trans tg),NA]
           . rw[z2 W,iu W];simp![wu,fA,eO]
          by_cases Z:j=AD t
          . have J:=J false (fun V=>by rw[je Z];rfl) (fun w=>Es (by rw[Z];exact tg.symm) w);have s8:rA (LH (RH n)) [] (aA (e2 nA (eV 5) (nS 2)) (aA (IE (eV 1) (WB (nS 1)) LD) (aA (eV 2) (aA (e2 nA (eV 3) (dB (nS 1))) dA)))) (L (.ref (o+c)) (ε T)) h3=ε (.bl v,h4):=by have:=SM.QJ m 1;rw[show((1:Nat):Int)=1 from rfl]at this;simp![OA,zA,xA,oA,gA,pA,WI,zK,VJ,AK,dF,QE,l1,l2,l3,l5,iA,fA,k3,DF,Vu,this,drop_one,lst,Ve,e4]
            rw[gD J,sH s8]at k;rw[Z]at hs;refine out v h4 k.symm (u3.trans u4) ?_;rcases r4 with⟨rfl,r4⟩ | ⟨r4,r5⟩
            . exact .odd ic q ne D (fun a3 a4 z=>by rw[hs]at z;cases z;exact r4) rfl
            . exact .cut ic q ne D hs r4 r5
          . have J:=J true (fun V=>by rw[iu Z];rfl) (fun V=>rfl);rw[JC J (no _ _ _)]at k;exact out false h3 k.symm u3 (.odd ic q ne D (fun a3 a4 z=>by rw[hs]at z;cases z;exact Es rfl Z) rfl)
def uc(xs):∀a:Oo Int,(a++xs).Nodup->xs.foldl (fun a k=>if a.any (· ==k)then a else a++[k]) a=a++xs:=by
 induction xs with
 | nil=>intro a _;rw[Ve];rfl
 | cons x xs ih=>
  intro a nd;have b:¬a.any (· ==x)=true:=by
   intro z;obtain⟨y,d,e⟩:=any_eq_true.mp z;have e:y=x:=by simpa using e
   subst e;rw[nodup_append]at nd;exact nd.2.2 y d y ⋯ rfl
  rw[foldl_cons,eH b,ih (a++[x]) (by rw[tu];exact nd),tu];rfl
def yc(h:xs.Nodup):EB xs=xs:=by have:=uc xs [] (by rw[Ye];exact h);rw[Ye]at this;exact this
def Uw(h:xs.Nodup)(m:x∈xs):EB (xs++[x])=xs:=by
 have e:EB (xs++[x])=if(EB xs).any (· ==x)then EB xs else EB xs++[x]:=by unfold EB;rw[foldl_append];rfl
 rw[e,yc h,eG (any_eq_true.mpr ⟨x,m,by simp⟩)]
def DE(cs:Nat->O4 Nat)(P k:Nat):Oo Int:=(List.range (k+1)).map fun m=>((XA (nxt cs) m P:Nat):Int)
def Yb(cs)(P k):LC cs P k=(DE cs P k).map Dt.int:=by unfold LC DE;rw[map_map];rfl
def o6(he:e∈cC a):nE ((cC a).map BB) [(e.1:Int),(e.2.1:Int)]=ε (.int (WG a e.1 e.2.1)):=by
 unfold nE;cases q:((cC a).map BB).find? fun p=>decide (p.1=[(e.1:Int),(e.2.1:Int)])with
 | none=>have:=find?_eq_none.mp q (BB e) (Ce.mpr ⟨e,he,rfl⟩);exact Es (je rfl) this
 | some p=>
  obtain⟨z,f,rfl⟩:=Ce.mp (Bo q);have k:=find?_some q;have k:(BB z).1=[(e.1:Int),(e.2.1:Int)]:=of_decide_eq_true k;unfold BB at k;simp![Ni,and_true]at k;have d:z.1=e.1:=by omega
  have b:z.2.1=e.2.1:=by omega
  have w:=HQ f;rw[d,b]at w;rw[w];rfl
def Zg(F:Nat->Int)(k):((List.range (k+1)).map F).zip ((List.range (k+1)).map F).tail=(List.range k).map fun i=>(F i,F (i+1)):=by
 apply ext_getElem
 . simp
 . intro i b a;simp
def KR(u:∀e∈d,e.1<n/\e.2.1<n/\e.1≠e.2.1)(R:rF n (cC d) (WG d) cs P k):cD (DE cs P k) ((cC d).map BB)=true:=by
 have T:=cP u;have H:2<=k:=by
  rcases Nat.lt_or_ge k 2 with z | z
  . have r:k=1:=by have:=R.pos;omega
    have e:=(T.lt _ (R.edge 0 nofun).1).2.2;have b:=R.back;rw[r]at b;exact Es b.symm e
  . exact z
 obtain⟨F,g⟩:∃F:Nat->Int,F=fun m=>((XA (nxt cs) m P:Nat):Int):=⟨_,rfl⟩
 have x:DE cs P k=(List.range (k+1)).map F:=by rw[g];rfl
 have q:F 0=F k:=by rw[g];show((P:Nat):Int)=((XA (nxt cs) k P:Nat):Int);rw[R.back]
 have o:(List.range (k+1)).map F=(List.range k).map F++[F k]:=by rw[Je,Gu];rfl
 have nd:((List.range k).map F).Nodup:=by unfold List.Nodup;rw[pairwise_map];refine List.Pairwise.imp_of_mem ?_ pairwise_lt_range;intro a b I h lt e;have h:=Ci.mp h;rw[g]at e;have e:((XA (nxt cs) a P:Nat):Int)=((XA (nxt cs) b P:Nat):Int):=e;exact apart R.back R.first lt nofun (fun v=>h) nofun
 have mem:F k∈(List.range k).map F:=Ce.mpr ⟨0,Ci.mpr nofun,q⟩;have edge:∀i,i<k->nE ((cC d).map BB) [F i,F (i+1)]=ε (.int (WG d (XA (nxt cs) i P) (XA (nxt cs) (i+1) P))):=fun i f=>by have:=o6 (R.edge i nofun).1;rw[g];exact this
 unfold cD;rw[x,Zg];have E:decide (3<=((List.range (k+1)).map F).length)=true:=je (by simp;omega);have D:decide (((List.range (k+1)).map F).head?=((List.range (k+1)).map F).getLast?)=true:=by
  apply je;rw[o,getLast?_concat,<- q];obtain⟨j,rfl⟩:∃j,k=j+1:=⟨k-1,by omega⟩
  rw[Ks];rfl
 have C:decide ((EB ((List.range (k+1)).map F)).length+1=((List.range (k+1)).map F).length)=true:=je (by
  rw[o,Uw nd mem];simp)
 have B:(((List.range k).map fun i=>(F i,F (i+1))).all fun p=>(nE ((cC d).map BB) [p.1,p.2]).isSome)=true:=by rw[all_eq_true];intro p hp;obtain⟨i,f,rfl⟩:=Ce.mp hp;rw[edge i (Ci.mp f)];rfl
 have y:(((List.range k).map fun i=>(F i,F (i+1))).map (wT ((cC d).map BB)))=(List.range k).map fun i=>WG d (XA (nxt cs) i P) (XA (nxt cs) (i+1) P):=by
  rw[map_map];refine map_congr_left fun i f=>?_
  show wT _ (F i,F (i+1))=_;unfold wT;rw[edge i (Ci.mp f)]
 rw[E,D,C,B,y,je R.sum];rfl
mutual
noncomputable def zE:Tr->nb
 | .Ws st=>.Ws (st.map zT)
 | .ring st a P k=>.ring (st.map zT) (DE a P k)
 | .one st bs=>.one (st.map zT) (EF bs)
 | .split st p bs=>.split (st.map zT) p (EF bs)
noncomputable def EF:Oo Tr->Oo nb
 | []=>[]
 | t::ts=>zE t::EF ts
end
theorem zW{st:Oo Tri}:∀bs i d g sp,fF L tag st m bs i d (.clash g) sp->
 ∃f,g=yQ tag st (d++f)/\am (fun b t=>∃j n,L b m j (.clash t) n) bs f
 | [],i,d,g,sp,h=>by
  obtain⟨e,_⟩:=h;injection e with e
  exact⟨[],by rw[Ve];exact e,.nil⟩
 | b::bs,i,d,g,sp,h=>by
  rcases h with⟨t,j,k,o⟩ | ⟨k,_⟩
  . obtain⟨f,e,a⟩:=zW bs j (d++[t]) g sp o;exact⟨t::f,by rw[e,tu];rfl,.cons ⟨_,_,k⟩ a⟩
  . exact Es rfl k
def M6(c:Nat)(g:FA)(ls:Oo Ln)(r:Oo Int):Prop:=∃a P k,rF (2*c) (cC (CC c g ls)) (WG (CC c g ls)) a P k/\r=DE a P k
mutual
inductive Ct(c:Nat)(ls:List Ln):Nat->FA->List (List UB)->nb->Prop
 | Ws {n f gs st g}:vB c f st=ε g->bB c g=true->Ct c ls (n+1) f gs (.Ws st)
 | ring {n f gs st r g}:vB c f st=ε g->bB c g=false->HC c g->M6 c (wB c g) ls r->Ct c ls (n+1) f gs (.ring st r)
 | cut {n f gs t g bs ps}:cF t->vB c f t.st=ε g->bB c g=false->HC c g->oC c (wB c g) gs=ε (AD t,bs,ps)->Cts c ls n bs gs.tail t.kids->Ct c ls (n+1) f gs t
inductive Cts(c:Nat)(ls:List Ln):Nat->List FA->List (List UB)->List nb->Prop
 | nil {n gs}:Cts c ls n [] gs []
 | cons {n f fs gs t ts}:Ct c ls n f gs t->Cts c ls n fs gs ts->Cts c ls n (f::fs) gs (t::ts)
end
def Cts.len:∀{d:Oo nb},Cts c ls n bs e d->bs.length=d.length:=by
 induction bs with
 | nil=>intro d a;cases a;rfl
 | cons b bs ih=>
  intro d a;cases a with
  | cons g f=>rw[Ua,Ua,ih f]
theorem aY:∀n f j made i sp,TC c m ls n f j made (.clash i) sp->Ct c ls n f j (zE i)
 | 0,_,_,_,_,_,h=>h.elim
 | n+1,f,j,made,i,sp,h=>by
  rcases h with⟨st,g,s0,y,e,_⟩ | ⟨st,g,⟨H,s0,u,ne,rfl⟩,h⟩
  . injection e with e
    subst e;simp![zE];exact .Ws (dO s0) y
  . rcases h with⟨B,P,k,R,e,_⟩ | ⟨t,F,h⟩
    . injection e with e
      subst e;simp![zE];exact .ring (dO s0) ne u ⟨B,P,k,R,rfl⟩
    . rcases h with⟨_,e,_⟩ | ⟨o,bs,E,hs,h⟩
      . cases e
      . rcases h with⟨_,e,_⟩ | ⟨_,h⟩
        . cases e
        . obtain⟨trs,d,a⟩:=zW bs _ [] i sp h;rw[Ye]at d;have go:∀(bs:Oo FA)(trs:Oo Tr),am (fun b t=>∃r q,TC c m ls n b j.tail r (.clash t) q) bs trs->Cts c ls n bs j.tail (EF trs):=by
           intro bs
           induction bs with
           | nil=>intro trs a;cases a;simp![EF];exact .nil
           | cons b bs ih=>
            intro trs a;cases a with
            | @cons _ t _ x D C=>simp![EF];obtain⟨r,q,L⟩:=D;exact .cons (aY n b _ r t q L) (ih x C)
          have k:=go bs trs a;cases o with
          | none=>have d:i=.one st trs:=d;subst d;simp![zE];exact .cut (t:=.one (st.map zT) (EF trs)) trivial (dO s0) ne u hs k
          | some p=>have d:i=.split st p trs:=d;subst d;simp![zE];exact .cut (t:=.split (st.map zT) p (EF trs)) trivial (dO s0) ne u hs k
section
variable{c N:Nat}{ls:Oo Ln}{f g:FA}{a:Oo (Oo UB)}{t:nb}{v:Bool}{st:Oo IB}{r:Oo Int}
def QS (b:cF t):¬t.wd=("threes" :Str):=by
 cases t with
 | one st bs=>show ¬("one" :Str) = "threes";decide
 | split st p bs=>show ¬("split" :Str) = "threes";decide
 | _=>exact b.elim
def FT (q:vB c f t.st=ε g) (S:Sh c ls N f a t v):(t.wd=("threes" :Str)/\v=bB c g)\/(t.wd≠("threes" :Str)/\((v=false/\(bB c g=true\/¬HC c g))\/
 ((∃st r,t=.ring st r/\v=cD r (vF c (wB c g) ls))\/(cF t/\((v=false/\∀bs d,oC c (wB c g) a=ε (AD t,bs,d)->bs.length≠t.kids.length)\/∃bs d m,oC c (wB c g) a=ε (AD t,bs,d)/\bs.length=t.kids.length/\YM c ls m bs a.tail t.kids v))))):=by
 cases S with
 | no z _=>exact nomatch q.symm.trans z
 | Ws w z e=>cases q.symm.trans z;exact .inl ⟨w,e⟩
 | loose w z y e=>cases q.symm.trans z;exact .inr ⟨w,.inl ⟨e,y⟩⟩
 | ring w z _ _ e=>cases q.symm.trans z;exact .inr ⟨by rw[w];show ¬("ring" :Str) = "threes";decide,.inr (.inl ⟨_,_,w,e⟩)⟩
 | odd b z _ _ y e=>cases q.symm.trans z;exact .inr ⟨QS b,.inr (.inr ⟨b,.inl ⟨e,y⟩⟩)⟩
 | cut b z _ _ hs h i=>cases q.symm.trans z;exact .inr ⟨QS b,.inr (.inr ⟨b,.inr ⟨_,_,_,hs,h,i⟩⟩)⟩
def zZ(q:vB c f st=ε g)(S:Sh c ls N f a (.Ws st) v):v=bB c g:=by
 rcases FT (t:=.Ws st) q S with⟨_,e⟩ | ⟨w,_⟩
 . exact e
 . exact Es rfl w
def yZ(q:vB c f st=ε g)(S:Sh c ls N f a (.ring st r) v):(v=false/\(bB c g=true\/¬HC c g))\/v=cD r (vF c (wB c g) ls):=by
 rcases FT (t:=.ring st r) q S with⟨w,_⟩ | ⟨_,e | ⟨_,_,e,z⟩ | ⟨b,_⟩⟩
 . exact Es w (by show ¬("ring" :Str) = "threes";decide)
 . exact .inl e
 . cases e;exact .inr z
 . exact b.elim
def US(d:cF t)(q:vB c f t.st=ε g)(S:Sh c ls N f a t v):(v=false/\(bB c g=true\/¬HC c g))\/(v=false/\∀bs b,oC c (wB c g) a=ε (AD t,bs,b)->bs.length≠t.kids.length)\/∃bs b m,oC c (wB c g) a=ε (AD t,bs,b)/\bs.length=t.kids.length/\YM c ls m bs a.tail t.kids v:=by
 rcases FT q S with⟨w,_⟩ | ⟨_,e | ⟨_,_,e,_⟩ | ⟨_,z⟩⟩
 . exact Es w (QS d)
 . exact .inl e
 . rw[e]at d;exact d.elim
 . exact .inr z
end
theorem LO(B:∀x∈ls,x.1<c):∀n f o t,Ct c ls n f o t->∀N v,Sh c ls N f o t v->v=true
 | 0,_,_,_,h=>nomatch h
 | n+1,f,o,t,h=>by
  intro N v S;have j:∀{g:FA},bB c g=false->HC c g->(bB c g=true\/¬HC c g)->False:=fun a b w=>by
   rcases w with w | w
   . rw[a]at w;cases w
   . exact w b
  cases h with
  | Ws q F=>rw[zZ q S,F]
  | @ring _ _ _ st r g q ne p R=>
   obtain⟨M,P,k,R,rfl⟩:=R;rcases yZ q S with⟨_,w⟩ | e
   . exact(j ne p w).elim
   . rw[e];exact KR (CI (wB c g) B) R
  | @cut _ _ _ _ g bs E y q ne p hs K=>
   rcases US y q S with⟨_,w⟩ | ⟨_,w⟩ | ⟨H,D,m,d,I,i⟩
   . exact(j ne p w).elim
   . exact Es K.len (w bs E hs)
   . rw[hs]at d;cases d;clear j y q hs I S;revert i K;generalize t.kids=ts
     induction bs generalizing ts v with
     | nil=>intro K i;cases K;cases i;rfl
     | cons b bs ih=>
      intro K i;cases K with
      | cons L J=>
       cases i with
       | no u=>exact LO B n b _ _ L m _ u
       | yes u C=>exact ih _ _ J C
mutual
noncomputable def rC:nb->Bool
 | .Ws st=>decide (st.length<=1000)
 | .ring st r=>decide (st.length<=1000)&&decide (3<=r.length/\r.length<=101)
 | .one st bs=>decide (st.length<=1000)&&(!bs.isEmpty&&decide (bs.length<=1000)&&tE bs)
 | .split st p bs=>decide (st.length<=1000/\p.1≠p.2)&&(!bs.isEmpty&&decide (bs.length<=1000)&&tE bs)
noncomputable def tE:Oo nb->Bool
 | []=>true
 | t::ts=>rC t&&tE ts
end
def sO(a:Oo (Oo UB)):Prop:=∀g∈a,1<=g.length/\g.length<=6
def Mz(b:sO a)(h:oC c g a=ε (tag,bs,ps)):1<=bs.length/\bs.length<=1000:=by
 cases a with
 | cons grp a=>simp![oC,Ge,xr]at h;obtain⟨_,rfl,_⟩:=h;have:=b grp ⋯;rw[ni,Fy];omega
 | nil=>
  simp![oC]at h;cases lp:cG c g with
  | none=>rw[lp]at h;cases h
  | some p=>rw[lp]at h;simp![Ge,xr]at h;obtain⟨_,rfl,_⟩:=h;have:=of_decide_eq_true (find?_some (p:=fun p:Nat×Nat=>decide (1<(HA (g p.1 p.2)).length)) lp);have T3:(HA (g p.1 p.2)).length<=13:=uq (length_filter_le _ _) (by decide);rw[ni];omega
def Jw(h:oC c g a=ε (ε p,bs,ps)):p.1≠p.2:=by
 cases a with
 | cons grp a=>simp[oC]at h
 | nil=>
  simp![oC]at h;cases lp:cG c g with
  | none=>rw[lp]at h;cases h
  | some b=>rw[lp]at h;simp![Ge,xr]at h;obtain⟨rfl,_⟩:=h;have:=cz.mp (Bo lp);omega
set_option tactic.hygienic true in
theorem iY:∀st f g,ZA c f->vB c f st=ε g->st.length+dE c g<=dE c f
 | [],f,g,o,e=>by cases e;rw[Vi];omega
 | (i,k,j)::st,f,g,o,e=>by
  rw[wG]at e;split at e
  . cases e
  . rename_i n;have t:MF c i k j=true:=by
     cases q:MF c i k j with
     | true=>rfl
     | false=>exact Es (.inr (.inl q)) n
    obtain⟨a,b,w,rfl,rfl,rfl,d,m,p,h⟩:=eM.mp t;simp![ou]at e n;have:=TV o m h d.2.2 fun z=>n (.inr (.inr z))
    have:=iY st _ _ (dM o m h d.2.2) e;rw[Ua];omega
def iS(a:c<=8){st:Oo IB}(o:ZA c f)(e:vB c f st=ε g):decide (st.length<=1000)=true:=by have:=iY st f g o e;have:=NR c f;have:c*(c*13)<=8*(8*13):=Js a (Nat.mul_le_mul_right _ a);exact je nofun
def Wz(a:cF t)(l:decide (t.st.length<=1000)=true)(pn:∀p,AD t=ε p->p.1≠p.2)(h:(!t.kids.isEmpty&&decide (t.kids.length<=1000)&&tE t.kids)=true):rC t=true:=by
 cases t with
 | one st bs=>simp![rC];exact Bool.and_eq_true_iff.mpr ⟨l,h⟩
 | split st p bs=>simp![rC];exact Bool.and_eq_true_iff.mpr ⟨je ⟨of_decide_eq_true l,pn p rfl⟩,h⟩
 | _=>exact a.elim
def Xv(a:cF t):MA t=DB t.kids+1:=by
 cases t with
 | one st bs=>simp![MA,nb.kids]
 | split st p bs=>simp![MA,nb.kids]
 | _=>exact a.elim
def oh(f:∀e∈a,e.1<n/\e.2.1<n/\e.1≠e.2.1)(R:rF n (cC a) (WG a) cs P k):2<=k:=by
 rcases Nat.lt_or_ge k 2 with z | z
 . have d:k=1:=by have:=R.pos;omega
   have e:=((cP f).lt _ (R.edge 0 nofun).1).2.2;have b:=R.back;rw[d]at b;exact Es b.symm e
 . exact z
theorem ZR(j:c<=8)(C:∀x∈ls,x.1<c):∀n f d t,sO d->ZA c f->bg c d->Ct c ls n f d t->rC t=true/\MA t<=n
 | 0,_,_,_,_,_,_,h=>nomatch h
 | n+1,f,d,t,gf,o,og,h=>by
  cases h with
  | Ws q W=>simp![rC,MA];exact⟨iS j o q,by omega⟩
  | @ring _ _ _ st r g q ne L R=>obtain⟨Y,P,k,R,rfl⟩:=R;have:=R.le;have:=oh (CI (wB c g) C) R;simp![rC,MA];exact⟨Bool.and_eq_true_iff.mpr ⟨iS j o q,je (by unfold DE;simp;omega)⟩,by omega⟩
  | @cut _ _ _ _ g bs U B q ne L hs K=>
   have m:sO d.tail:=fun g J=>gf g (mem_of_mem_tail J)
   have u:=SJ (sP (fP _ _ _ o q)) og hs;have go:∀(bs:Oo FA)(i:Oo nb),(∀b∈bs,ZA c b)->Cts c ls n bs d.tail i->tE i=true/\DB i<=n:=by
    intro bs
    induction bs with
    | nil=>intro i _ a;cases a;simp![tE,DB];exact⟨trivial,by omega⟩
    | cons b bs ih=>
     intro i ob a;cases a with
     | cons O M=>obtain⟨H,T⟩:=ZR j C n b _ _ m (ob b ⋯) og.tail O;obtain⟨F,S⟩:=ih _ (fun x I=>ob x (by simp[I])) M;simp![tE,DB,H,F];exact⟨rfl,by omega⟩
   obtain⟨E,Q⟩:=go bs _ u K;obtain⟨y,D⟩:=Mz gf hs;rw[K.len]at y D;refine⟨Wz B (iS j o q) (fun p e=>Jw (by rw[hs,e])) ?_,by rw[Xv B];omega⟩;rw[E,je D];cases w:t.kids with
   | nil=>rw[w]at y;simp at y
   | cons _ _=>rfl
mutual
theorem nU{lo:Nat}{h:HI}:∀(t:Tr){d:Dt},rC (zE t)=true->ae lo h t d->my h (zE t) d
 | .Ws st,d,_,q=>by simp![ae]at q;obtain⟨s,e,_,q⟩:=q;simp![zE,my];exact⟨_,e,by rw[map_map];exact UE q⟩
 | .ring st cs P k,d,sm,q=>by simp![ae]at q;simp![zE,rC,w6,decide_eq_true_eq]at sm;obtain⟨s,r,e,_,_,q1,q2⟩:=q;simp![zE,my];rw[Yb]at q2;exact⟨_,_,e,by rw[map_map];exact UE q1,UE q2,by omega⟩
 | .one st bs,d,sm,q=>by simp![ae]at q;simp![zE,rC,w6,decide_eq_true_eq]at sm;obtain⟨s,r,ds,e,_,_,q1,q2,q3⟩:=q;simp![zE,my];exact⟨_,_,ds,e,by rw[map_map];exact UE q1,UE q2,tT bs sm.2.2 q3⟩
 | .split st p bs,d,sm,q=>by simp![ae]at q;simp![zE,rC,w6,decide_eq_true_eq]at sm;obtain⟨s,r,ds,e,_,_,q1,q2,q3⟩:=q;simp![zE,my];exact⟨_,_,ds,e,by rw[map_map];exact UE q1,UE q2,tT bs sm.2.2 q3⟩
theorem tT{lo:Nat}{h:HI}:∀(a:Oo Tr){ds:Oo Dt},tE (EF a)=true->Zu lo h a ds->Vo h (EF a) ds
 | [],ds,_,q=>by simp![Zu]at q;simp![EF,Vo];exact q
 | t::a,ds,sm,q=>by simp![Zu]at q;simp![EF,tE,w6]at sm;obtain⟨d,r,e,q1,q2⟩:=q;simp![EF,Vo];exact⟨d,r,e,nU t sm.1 q1,tT a sm.2 q2⟩
end
def Yv(m:c<=8)(F:nt c h a fs)(p:my h t d)(dp:MA t<=12) :
 ∃v j,cO [.int (c:Nat),.ref a,d] h=ε (.bl v,j)/\mu h j/\Sh c (pD fs) 12 (NC mC fs) (JB fs) t v:=by
 obtain⟨ds,e,D⟩:=F.ds;have y:=D.len;have E:=F.len;have i:ds.length<sizeLine:=by rw[y];simp[sizeLine];omega
 obtain⟨b,o,r,B,U1⟩:=HV (show c<=1000 by omega) e D F.ok;obtain⟨g,C,x⟩:=IV (U1.get e) i (D.up U1.l);have u:=uV (U1.get e) i (D.up U1.l);obtain⟨v,n,q,k,S⟩:=vf m (show(pD fs).length<=100 by have:=HJ fs;omega) 12 (NC mC fs) (JB fs) t o b g d B (tI fs F.ok _ (jM c)) C (WJ fs F.ok) F.sg (my.up U1.l t p) dp;refine⟨v,n,?_,U1.l.trans k,S⟩;dsimp![cO,oW,zB,Uu (f:=some),Xi (f:=some),Nat.reduceSub,List.replicate,Ve,qB,OA,zA,xA,gA,Ti,Ui,iA,r,x,u,q,HB]
structure av(c:Nat)(h:HI)(x:Dt)(ds:List Dt)(fs:List mh):Prop where
 at':x=.lst ds\/∃a,x=.ref a/\h[a]?=ε (.lst ds)
 fa:ad h ds fs
 ok:∀x∈fs,ZF c x
 sg:∀x∈JB fs,x.length<=1000
 len:fs.length<=100
def av.up(q:av c h x ds fs)(u:mu h h'):av c h' x ds fs:=
 ⟨q.at'.imp id fun⟨a,e,k⟩=>⟨a,e,u.2 _ _ k⟩,q.fa.up u,q.ok,q.sg,q.len⟩
def av.lt(q:av c h x ds fs):ds.length<sizeLine:=by have:=q.len;rw[q.fa.len];simp[sizeLine];omega
theorem av.src(q:av c h x ds fs):∃src,IG (x,h)=ε (src,h)/\(∀b,Up h b->∀k,src.at b k=ε ds[k]?)/\src.fuel h=ds.length+1:=by
 rcases q.at' with rfl | ⟨a,rfl,e⟩
 . exact⟨.vals ds,by rw[CF],fun z z z=>rfl,rfl⟩
 . exact⟨.rf a,SE e,fun b u k=>by simp![mo.at,u.get e],by simp![mo.fuel,e]⟩
def nt.up(q:nt c h a fs)(u:mu h h'):nt c h' a fs:=by obtain⟨ds,e,F⟩:=q.ds;exact⟨⟨ds,u.2 _ _ e,F.up u⟩,q.ok,q.sg,q.len⟩
inductive XZ(c:Nat)(h:HI)(x:Dt)(ds:List Dt)(fs:List mh)(m:UB):Prop
 | mk (a:Nat) (h':HI) (p0:yK x (.lst [kB m]) h=ε (.ref a,h')) (p1:iC x (.lst [kB m]) h=ε (.lst (ds++[kB m]),h)) (p2:Up h h') (p3:nt c h' a (fs++[.ways m])) (p4:av c h (.lst (ds++[kB m])) (ds++[kB m]) (fs++[.ways m])):XZ c h x ds fs m
def av.more(q:av c h x ds fs)(g:oF c m)(i:fs.length<=99):XZ c h x ds fs m:=by
 have lt:=q.fa.len;have b:yA h x=ε ds:=by
  rcases q.at' with rfl | ⟨a,rfl,e⟩
  . rfl
  . exact UE e
 have of:∀fs:Oo mh,JB (fs++[.ways m])=JB fs:=by
  intro fs
  induction fs with
  | nil=>rfl
  | cons f fs ih=>cases f<;>simp[JB,ih]
 have d:ds.length+(0+1)<=sizeLine:=by simp[sizeLine];omega
 have ok:∀y∈fs++[.ways m],ZF c y:=fun y hy=>by
  rcases Ca.mp hy with hy | hy
  . exact q.ok y hy
  . rw[Bs.mp hy];exact g
 have sg:∀y∈JB (fs++[.ways m]),y.length<=1000:=fun y hy=>by rw[of]at hy;exact q.sg y hy
 have u:Up h (h++[Ob.lst (ds++[kB m])]):=Up.app _ _;have F:ad h (ds++[kB m]) (fs++[.ways m]):=q.fa.snoc rfl;refine⟨h.length,h++[.lst (ds++[kB m])],?_,?_,u,⟨⟨_,by simp,F.up u.l⟩,ok,sg,by simp;omega⟩,.inl rfl,F,ok,sg,by simp;omega⟩
 . simp![yK,b,DF,Wo,Ua,Vi,eG d]
 . simp![iC,b,DF,Wo,Ua,Vi,eG d]
def dn(lo:Nat)(h:HI)(d:Dt):mh->Prop
 | .one g=>∃n,d=.tup [.str "one", .ref n]/\lo<=n/\h[n]?=ε (.lst (g.map kB))/\g.length<=6
 | f=>ar h d f
def dn.at{lo:Nat}(q:dn lo h d f):ar h d f:=by
 cases f with
 | one g=>obtain⟨n,e,_,q,_⟩:=q;exact⟨_,e,n,rfl,q⟩
 | ways m=>exact q
 | long x=>exact q
def dn.up{lo a:Nat}(b:a<=lo)(u:OT lo h h')(q:dn lo h d f):dn a h' d f:=by
 cases f with
 | one g=>obtain⟨n,e,l,q,s⟩:=q;exact⟨n,e,by omega,u _ _ l q,s⟩
 | ways m=>exact q
 | long x=>exact q
inductive bi(lo:Nat)(h:HI):List Dt->List mh->Prop where
 | nil:bi lo h [] []
 | cons {d:Dt} {f:mh} {ds:List Dt} {fs:List mh} (a:dn lo h d f) (r:bi lo h ds fs):bi lo h (d::ds) (f::fs)
def bi.up{lo b:Nat}(d:b<=lo)(u:OT lo h h')(q:bi lo h ds fs):bi b h' ds fs:=by
 induction q with
 | nil=>exact .nil
 | cons a r ih=>exact .cons (a.up d u) ih
def bi.at{lo:Nat}(q:bi lo h ds fs):ad h ds fs:=by
 induction q with
 | nil=>exact .nil
 | cons a r ih=>exact .cons a.at ih
def bi.snoc{lo:Nat}{h:HI}{ds:Oo Dt}{fs:Oo mh}(q:bi lo h ds fs){d:Dt}{f:mh}(a:dn lo h d f):bi lo h (ds++[d]) (fs++[f]):=by
 induction q with
 | nil=>exact .cons a .nil
 | cons b r ih=>exact .cons b ih
def SS(ns:Oo Int)(k:Nat)(h):pE [.lst (ns.map Dt.int),.int (k:Int)] h=ε (.int (ns[k]?.getD 0),h):=by
 simp[pE,mV];by_cases a:k<ns.length
 . simp[a]
 . simp[a]
def e8(e:a<8192)(d:b<8192):a|||b<8192:=Nat.or_lt_two_pow (n:=13) e d
def HM(h:k<13):2^k<8192:=Nat.pow_lt_pow_right (by decide) h (m:=k) (n:=13)
def IP(x)(d:f<2147483648)(hp:0<p):∃N,∀h,MH [.int x,.int (f:Nat),.int (p:Nat)] h=ε (.int (N:Nat),h):=by
 have b:=fun(i:Int) (h:HI)=>YD (h:=h) (i:=i) (show(0:Int)<1000000007 by decide)
 have a:=fun(i:Int) (h:HI)=>YD (h:=h) (i:=i) (show(0:Int)<(p:Int) by omega)
 have u:=fun(i:Int) (h:HI)=>EG (h:=h) (i:=i) (j:=(f:Int)) (Or.inr ⟨by omega,by omega⟩)
 obtain⟨w,hw⟩:=Int.eq_ofNat_of_zero_le (Int.emod_nonneg ((x%1000000007+1)*(f:Int)) (show(p:Int)≠0 by omega));refine⟨w,fun h=>?_⟩;dsimp![MH,AV,zB,Uu,Xi,Nat.reduceSub,List.replicate,Ve,qB,oA,gA,pA,Ti,Ui,iA,b,AE,u,a,hw,HB]
def ud(N):∃M,M<8192/\∀h,zJ [.int (N:Nat)] h=ε (.int (M:Nat),h):=by
 have F:=fun(x:Int) (h:HI)=>YD (h:=h) (i:=x) (show(0:Int)<8192 by decide)
 have H:=fun(x:Int) (h:HI)=>YD (h:=h) (i:=x) (show(0:Int)<4 by decide)
 have m:=fun(x:Int) (h:HI)=>YD (h:=h) (i:=x) (show(0:Int)<13 by decide)
 have L:=fun(i:Int) (h:HI)=>UG (h:=h) (i:=i) (j:=8192) ⟨by decide,by decide⟩
 have J:=fun(i:Int) (h:HI)=>UG (h:=h) (i:=i) (j:=67108864) ⟨by decide,by decide⟩
 have Q:(N:Int)%8192=((N%8192:Nat):Int):=rfl;have P:(N:Int)/8192%8192=((N/8192%8192:Nat):Int):=rfl;have y:N%8192<8192:=Ka _ (by decide);generalize N%8192=u at *;generalize N/8192%8192=v at *;have C:(u:Int)%13=((u%13:Nat):Int):=rfl;have O:(v:Int)%13=((v%13:Nat):Int):=rfl;have n:u%13<13:=Ka _ (by decide);have B:v%13<13:=Ka _ (by decide);have o:=fun h=>UM (h:=h) (JK n)
 have D:=fun h=>UM (h:=h) (JK B)
 have p:(1:Int)*2^(u%13)=((2^(u%13):Nat):Int):=by simp
 have E:(1:Int)*2^(v%13)=((2^(v%13):Nat):Int):=by simp
 generalize u%13=a at *;generalize v%13=b at *;generalize I:(N:Int)/67108864%4=kd;have run:∀h,∃r,zJ [.int (N:Nat)] h=r/\r=(if kd=0 then ε (.int ((2^a:Nat):Int),h)else if kd=1 then ε (.int ((2^a|||2^b:Nat):Int),h)else if kd=2 then some (.int ((u&&&v:Nat):Int),h)else some (.int (u:Nat),h)):=fun h=>by
  generalize d:zJ [.int (N:Nat)] h=X;refine⟨X,rfl,?_⟩;dsimp![zJ,nV,zB,Uu,Xi,Nat.reduceSub,List.replicate,Yi,Ye,YA,MB,oA,gA,pA,Ti,Ui,iA,F,Q,L,P,J,H,I,Wu,Wa,jB,FB,IA,lD,NA]at d;by_cases f:kd=0
  . rw[je f]at d;simp![eO,qB,oA,gA,pA,Ti,Ui,iA,fA,m,C,o,ou,p,xE,HB]at d;rw[eG f,<- d]
  . rw[iu f]at d;simp![Xo,g8,OD,fA,jB,YA,FB,IA,oA,gA,pA,Ti,Ui,iA,lD,NA]at d;rw[eH f];by_cases g:kd=1
    . rw[je g]at d;simp![eO,qB,oA,gA,pA,Ti,Ui,iA,fA,m,C,O,o,D,ou,p,E,Y5,gY,xE,HB]at d;rw[eG g,<- d]
    . rw[iu g]at d;simp![Xo,g8,OD,fA,jB,YA,FB,IA,oA,gA,pA,Ti,Ui,iA,lD,NA]at d;rw[eH g];by_cases k:kd=2
      . rw[je k]at d;simp![eO,qB,oA,gA,Ti,Ui,iA,fA,jK,PJ,xE,HB]at d;rw[eG k,<- d]
      . rw[iu k]at d;simp![Xo,g8,OD,fA,jB,qB,gA,Ti,Ui,iA,HB]at d;rw[eH k,<- d]
 by_cases f:kd=0
 . exact⟨2^a,HM n,fun h=>by obtain⟨r,e,q⟩:=run h;rw[e,q,eG f]⟩
 . by_cases g:kd=1
   . exact⟨2^a|||2^b,e8 (HM n) (HM B),fun h=>by obtain⟨r,e,q⟩:=run h;rw[e,q,eH f,eG g]⟩
   . by_cases k:kd=2
     . exact⟨u&&&v,Ei Nat.and_le_left y,fun h=>by obtain⟨r,e,q⟩:=run h;rw[e,q,eH f,eH g,eG k]⟩
     . exact⟨u,y,fun h=>by obtain⟨r,e,q⟩:=run h;rw[e,q,eH f,eH g,eH k]⟩
def A6(b:2<=c)(n k:Nat):∃i j:Nat,i<c/\j<c/\i≠j/\((n:Int)%(c:Int))=(i:Int)/\((i:Int)+1+(n:Int)/(k:Int)%((c:Int)-1))%(c:Int)=(j:Int):=by
 refine⟨n%c,(n%c+1+n/k%(c-1))%c,Ka _ nofun,Ka _ nofun,?_,by simp,?_⟩
 . have t:n/k%(c-1)<c-1:=Ka _ nofun;have a:n%c<c:=Ka _ nofun;generalize n/k%(c-1)=q at t;generalize n%c=i at a;by_cases w:i+1+q<c
   . rw[Nat.mod_eq_of_lt w];omega
   . rw[Nat.mod_eq_sub_mod nofun,Nat.mod_eq_of_lt nofun];omega
 . rw[show(c:Int)-1=((c-1:Nat):Int) by omega];simp
def qZ(x)(g:2<=c)(E:c<=8):∃m,oF c m/\∀h,uI [.int x,.int (c:Nat)] h=ε (kB m,h):=by
 obtain⟨A,n⟩:=IP x (f:=950706376) (p:=2147483399) (by decide) (by decide);obtain⟨B,k⟩:=IP x (f:=742938285) (p:=2147483647) (by decide) (by decide);obtain⟨M,u,y⟩:=ud B;obtain⟨i,j,r,q,e,C,a⟩:=A6 g A 8;have o:=fun(x:Int) (h:HI)=>YD (h:=h) (i:=x) (show(0:Int)<(c:Int) by omega)
 have d:=fun(x:Int) (h:HI)=>YD (h:=h) (i:=x) (show(0:Int)<(c:Int)-1 by omega)
 have D:=fun(x:Int) (h:HI)=>UG (h:=h) (i:=x) (j:=8) ⟨by decide,by decide⟩
 have b:4<=sizeLine:=by decide
 simp![Io]at n k a;refine⟨(i,M,j),⟨r,q,e,u⟩,fun h=>?_⟩;dsimp![uI,pV,zB,Uu,Xi,Nat.reduceSub,List.replicate,Yi,Ye,Ve,YA,MB,OA,zA,xA,oA,gA,pA,Ti,Ui,iA,n,k,y,Wu,Wa,jB,o,C,AE,VM,D,d,a,qB,AC,b,HB];rfl
def Ol(x)(a)(H:2<=c)(Z:c<=8):∃f C,ZF c f/\((JB [f]).length+a=C/\(a<=2->C<=2))/\(∀g∈JB [f],1<=g.length/\g.length<=3)/\∀h r ds o n D b,h[r]?=ε (.lst ds)->ds.length<=1000->
 ∃d e P O,mH [o,ε (.int (c:Nat)),ε (.ref r),ε (.int (a:Nat)),n,ε (.int x),D,b] h=ε (.nx [o,ε (.int (c:Nat)),ε (.ref r),ε (.int (C:Nat)),n,ε (.int x),P,O] ((h++e).set r (.lst (ds++[d]))))/\dn h.length (h++e) d f:=by
 obtain⟨N,L⟩:=IP x (f:=62089911) (p:=2147483587) (by decide) (by decide);simp![Io]at L;have F:=fun(x:Int) (h:HI)=>YD (h:=h) (i:=x) (show(0:Int)<6 by decide)
 have m3:=fun(x:Int) (h:HI)=>YD (h:=h) (i:=x) (show(0:Int)<3 by decide)
 have m4:=fun(x:Int) (h:HI)=>YD (h:=h) (i:=x) (show(0:Int)<4 by decide)
 have m2:=fun(x:Int) (h:HI)=>YD (h:=h) (i:=x) (show(0:Int)<2 by decide)
 have mc:=fun(x:Int) (h:HI)=>YD (h:=h) (i:=x) (show(0:Int)<(c:Int) by omega)
 have d6:=fun(i:Int) (h:HI)=>UG (h:=h) (i:=i) (j:=6) ⟨by decide,by decide⟩
 have T:=fun(i:Int) (h:HI)=>UG (h:=h) (i:=i) (j:=24) ⟨by decide,by decide⟩
 have S:=fun(i:Int) (h:HI)=>UG (h:=h) (i:=i) (j:=96) ⟨by decide,by decide⟩
 have Q:4<=sizeLine:=by decide
 generalize B:(N:Int)%6=kd;by_cases J:kd=0/\a<2
 . have q3:=je J.1;have q4:decide (((a:Nat):Int)<2)=true:=je (by have:=J.2;omega);have Y:1+(N:Int)/6%3=((1+N/6%3:Nat):Int):=rfl;have W:1<=1+N/6%3/\1+N/6%3<=3:=by omega
   generalize 1+N/6%3=t at Y W;have mem:∀k:Nat,∃m,oF c m/\∀h,uI [.int (x+1009*(k:Int)*(k:Int)),.int (c:Nat)] h=ε (kB m,h):=fun k=>qZ _ H Z
   obtain⟨M,hM⟩:=Classical.axiomOfChoice mem;refine⟨.one ((List.range t).map M),a+1,fun m hm=>?_,⟨by simp[JB];omega,by have:=J.2;omega⟩,fun g E=>?_,fun h r ds o n D b y dl=>?_⟩
   . obtain⟨k,_,rfl⟩:=Ce.mp hm;exact(hM k).1
   . simp![JB,Bu,not_mem_nil,or_false]at E;subst E;simpa using W
   . have er:=fun h=>dG (h:=h) (show(-(2^62):Int)<=(t:Int) by omega) (show(t:Int)<2^62 by omega)
     simp![ou]at er;have ca:=xF (te:=gL) (i:=0) (tc:=cB) (fun k:Nat=>Dt.int (k:Int)) (fun k=>kB (M k)) h (List.range t) [none,ε (.int (c:Nat)),ε (.int x)] (by
      intro k B;have B:=Ci.mp B;have u1:=EG (h:=h) (i:=1009) (j:=(k:Int)) (Or.inl ⟨by decide,by decide⟩);have u2:=EG (h:=h) (i:=1009*(k:Int)) (j:=(k:Int)) (Or.inr ⟨by omega,by omega⟩);refine⟨by simp,?_⟩;simp![gL,OA,zA,xA,oA,gA,pA,Wa,Ti,Ui,iA,fA,u1,u2,AE,Ve,(hM k).2])
     have ck:=aE (l:=[none,ε (.int (c:Nat)),ε (.int x)]) (h:=h) (BA 0) cB gL (xs:=(List.range t).map fun(k:Nat)=>Dt.int (k:Int)) (by simp[sizeLine];omega);rw[ca]at ck;have rl:=(Xa y).1;have R:(h++[Ob.lst ((List.range t).map fun k=>kB (M k))])[r]?=ε (.lst ds):=by rw[Yo rl];exact y
     have g1:((a:Nat):Int)+1=((a+1:Nat):Int):=rfl;have I:=vG (l:=[o,ε (.int (c:Nat)),ε (.ref r),ε (.int ((a+1:Nat):Int)),n,ε (.int x),ε (.int (N:Nat)),b]) (h:=h) (h':=h++[Ob.lst ((List.range t).map fun k=>kB (M k))]) (g:=EA (aA (eC (.str "one")) (aA (GF (VG (e2 VB (nS 1) (e2 lB (e2 NB (eV 6) (nS 6)) (nS 3)))) (BA 0) cB gL [none,ε 1,ε 5]) dA))) (d:=.tup [.str "one", .ref h.length]) y (by
      dsimp![AC,zA,xA,pA,gA,oA,TL,XI,d6,m3,AE,Y,er,MD,xG,QD,Mi,Ti,Ui,iA,ck,JH]) R (by simp[sizeLine];omega)
     refine⟨.tup [.str "one", .ref h.length],[.lst ((List.range t).map fun k=>kB (M k))],ε (.int (N:Nat)),b,?_,h.length,rfl,Va _,by rw[map_map];simp,by simp;omega⟩;simp![mH,YA,MB,OA,zA,xA,oA,gA,pA,Ti,Ui,iA,fA,Ve,L,Wu,Wa,jB,FB,wH,IA,F,B,lD,q3,NA,eO,kI,q4,AE,g1,lF,uG,I]
 . have first:∀(k:Bool×HI->O4 Rs)(l:LI)(h:HI),l[6]?=ε (ε (.int (N:Nat)))->l[3]?=ε (ε (.int (a:Nat)))->mB (KF (mn (e2 QA (e2 lB (eV 6) (nS 6)) (nS 0))) (mn (e2 ZI (eV 3) (nS 2))) l h) k=k (false,h):=by
    intro k l h h3 h2;by_cases q:kd=0
    . have q1:decide (((a:Nat):Int)<2)=false:=iu (fun z=>J ⟨q,by omega⟩);have q0:decide (kd=0)=true:=je q;simp![wH,IA,oA,gA,h3,h2,iA,fA,pA,F,B,lD,q0,NA,eO,kI,q1]
    . have q0:decide (kd=0)=false:=iu q;simp![wH,IA,oA,gA,h3,iA,fA,pA,F,B,lD,q0,NA,Xo,g8]
   by_cases U:kd=1
   . have q1:=je U;have c1:(N:Int)/24%(c:Int)=((N/24%c:Nat):Int):=rfl;refine⟨.long (N/24%c,(N:Int)/6%4,(N:Int)/6%4+(N:Int)/96%2),a,Ka _ nofun,⟨by simp[JB],fun z=>z⟩,fun g E=>by simp[JB]at E,fun h r ds o n D b y dl=>?_⟩;have I:=vG (l:=[o,ε (.int (c:Nat)),ε (.ref r),ε (.int (a:Nat)),n,ε (.int x),ε (.int (N:Nat)),ε (.int ((N:Int)/6%4))]) (h:=h) (h':=h) (g:=EA (aA (eC (.str "long")) (aA (e2 lB (e2 NB (eV 6) (nS 24)) (eV 1)) (aA (eV 7) (aA (e2 VB (eV 7) (e2 lB (e2 NB (eV 6) (nS 96)) (nS 2))) dA))))) (d:=.tup [.str "long", .int ((N/24%c:Nat):Int),.int ((N:Int)/6%4),.int ((N:Int)/6%4+(N:Int)/96%2)]) y (by
      dsimp![AC,zA,xA,pA,gA,oA,Ti,Ui,iA,T,mc,c1,S,m2,AE,Q]) y (by simp[sizeLine];omega)
     refine⟨_,[],ε (.int (N:Nat)),ε (.int ((N:Int)/6%4)),?_,by rw[Ve];rfl⟩;generalize u:mH [o,ε (.int (c:Nat)),ε (.ref r),ε (.int (a:Nat)),n,ε (.int x),D,b] h=X;simp![mH,YA,MB,OA,zA,xA,gA,pA,Ti,Ui,iA,fA,Ve,L,Wu,Wa,jB]at u;rw[FB,first _ _ _ rfl rfl]at u;simp![Xo,g8,FB,IA,oA,gA,pA,Ti,Ui,iA,fA,F,B,lD,q1,NA,eO,YA,MB,d6,m4,Wu,Wa,jB,lF,uG,I]at u;rw[Ve];exact u.symm
   . have q1:=iu U;obtain⟨m,m1,ew⟩:=qZ x H Z;refine⟨.ways m,a,m1,⟨by simp[JB],fun z=>z⟩,fun g E=>by simp[JB]at E,fun h r ds o n D b y dl=>?_⟩;have I:=vG (l:=[o,ε (.int (c:Nat)),ε (.ref r),ε (.int (a:Nat)),n,ε (.int x),ε (.int (N:Nat)),b]) (h:=h) (h':=h) (g:=rA uI [] (aA (eV 5) (aA (eV 1) dA))) (d:=kB m) y (by
      simp![OA,zA,xA,gA,Ti,Ui,iA,fA,Ve,ew]) y (by simp[sizeLine];omega)
     refine⟨kB m,[],ε (.int (N:Nat)),b,?_,by rw[Ve];rfl⟩;generalize u:mH [o,ε (.int (c:Nat)),ε (.ref r),ε (.int (a:Nat)),n,ε (.int x),D,b] h=X;simp![mH,YA,MB,OA,zA,xA,gA,pA,Ti,Ui,iA,fA,Ve,L,Wu,Wa,jB]at u;rw[FB,first _ _ _ rfl rfl]at u;simp![Xo,g8,FB,IA,oA,gA,pA,Ti,Ui,iA,fA,F,B,lD,q1,NA,lF,uG,I]at u;rw[Ve];exact u.symm
def Vp(r:Nat)(h h':HI):Prop:=h.length<=h'.length/\∀(n:Nat)(o:Ob),n≠r->h[n]?=ε o->h'[n]?=ε o
theorem QL:∀a b,JB (a++b)=JB a++JB b
 | [],_=>rfl
 | .one g::a,b=>by rw[Yi,JB,JB,QL a b,Yi]
 | .ways _::a,b=>QL a b
 | .long x::a,b=>QL a b
structure Jp(c:Nat)(fs:List mh)(gr:Nat):Prop where
 ok:∀f∈fs,ZF c f
 g2:gr<=2->(JB fs).length+gr<=2
 g3:∀g∈JB fs,1<=g.length/\g.length<=3
theorem VX(u:2<=c)(U:c<=8):∀(p:Oo Int)(B:Nat),∃fs,Jp c fs B/\fs.length=p.length/\∀h r ds a m j M D C,h[r]?=ε (.lst ds)->ds.length+p.length<=1000->bi (r+1) h ds a->
 ∃i L J I o b,lC (BA 5) mH (p.map Dt.int) [m,ε (.int (c:Nat)),ε (.ref r),ε (.int (B:Nat)),j,M,D,C] h=ε (.nx [m,ε (.int (c:Nat)),ε (.ref r),i,j,L,J,I] o)/\o[r]?=ε (.lst b)/\bi (r+1) o b (a++fs)/\Vp r h o
 | [],B=>⟨[],⟨(fun v h=>nomatch h),(fun z=>by simpa[JB]using z),fun g hg=>by simp[JB]at hg⟩,rfl,fun h r ds a m j M D C H Y F=>⟨_,_,_,_,h,ds,rfl,H,by rw[Ve];exact F,Va _,fun v v v e=>e⟩⟩
 | x::p,B=>by
  obtain⟨f,R,fo,⟨g1,g2⟩,g3,bd⟩:=Ol x B u U;obtain⟨fs,T,fl,lp⟩:=VX u U p R;have W:f::fs=[f]++fs:=rfl;refine⟨f::fs,⟨fun y hy=>?_,fun z=>?_,fun g hg=>?_⟩,by simp[fl],fun h r ds a m j M D C H Y F=>?_⟩
  . rcases Bu.mp hy with rfl | hy
    . exact fo
    . exact T.ok y hy
  . have:=T.g2 (g2 z);rw[W,QL,jj];omega
  . rw[W,QL]at hg;rcases Ca.mp hg with hg | hg
    . exact g3 g hg
    . exact T.g3 g hg
  . rw[Ua]at Y;obtain⟨d,e,z6,z7,eb,FN⟩:=bd h r ds m j D C H nofun;have rl:=(Xa H).1;have P:r<(h++e).length:=by rw[jj];omega
    have q3:∀k,k≠r->((h++e).set r (.lst (ds++[d])))[k]?=(h++e)[k]?:=fun k Q=>by rw[m8 (n7 Q)]
    have U1:Vp r h ((h++e).set r (.lst (ds++[d]))):=⟨by simp,fun n O E q=>by rw[q3 n E];exact(Up.app h e).get q⟩;obtain⟨i,u5,u6,u7,o,b,ew,S,Z,U2⟩:=lp ((h++e).set r (.lst (ds++[d]))) r (ds++[d]) (a++[f]) m j (ε (.int x)) z6 z7 (by rw[vm P]) (by simp;omega) (by
     refine bi.snoc (F.up (Va _) (fun k O Q q=>?_)) (FN.up nofun (fun k O Q q=>?_))
     . exact U1.2 _ _ nofun q
     . rw[q3 k nofun];exact q)
    rw[tu]at Z;refine⟨i,u5,u6,u7,o,b,?_,S,Z,uq U1.1 U2.1,fun n O E q=>U2.2 _ _ E (U1.2 _ _ E q)⟩;simp![Uu,lC,vE,Wo,Wu,Wa,eb,BZ,ew]
def MX(ns:Oo Int)(lo hi):∃a:Oo Int,fC (ns.map Dt.int) lo hi=a.map Dt.int/\a.length<=ns.length:=by unfold SM.fC;rw[<- map_drop,<- map_take];refine⟨_,rfl,?_⟩;rw[Di,length_drop];omega
def Zr(ns:Oo Int)(hl:ns.length<=63)(y:2<=c)(L:c<=8):∃fs,Jp c fs 0/\fs.length<=63/\∀h,∃ds h',DJ [.lst (ns.map Dt.int),.int (c:Nat)] h=ε (.ref h.length,h')/\h'[h.length]?=ε (.lst ds)/\bi (h.length+1) h' ds fs/\mu h h':=by
 have m:=fun h=>SS ns 1 h
 simp![Io]at m;have u:=fun(x:Int) (h:HI)=>YD (h:=h) (i:=x) (show(0:Int)<3 by decide)
 obtain⟨b,J,Z⟩:=MX ns (ε 2) (ε 22);obtain⟨j,I,Y⟩:=MX ns (ε 2) (ε (5+ns[1]?.getD 0%3));obtain⟨d,hm,P⟩:∃d:Oo Int,d.length<=63/\∀(l:LI)(h:HI)(k:Rs->O4 Rs),l[0]?=ε (ε (.lst (ns.map Dt.int)))->l[4]?=ε (ε (.lst (b.map Dt.int)))->mB (bC (mn (e2 pN (e2 lB (rA pE [] (aA (eV 0) (aA (nS 1) dA))) (nS 3)) (nS 0))) (CA 4 (IE (eV 0) (WB (nS 2)) (WB (e2 VB (nS 5) (e2 lB (rA pE [] (aA (eV 0) (aA (nS 1) dA))) (nS 3)))))) SA l h) k=k (.nx (l.set 4 (ε (.lst (d.map Dt.int)))) h):=by
  by_cases z:(0:Int)<ns[1]?.getD (0:Int)%3
  . refine⟨j,by omega,fun l h k p E=>?_⟩;have r:IE (eV 0) (WB (nS 2)) (WB (e2 VB (nS 5) (e2 lB (rA pE [] (aA (eV 0) (aA (nS 1) dA))) (nS 3)))) l h=ε (.lst (j.map Dt.int),h):=by simp[p,m,u,I]
    simp![FB,IA,oA,OA,zA,xA,gA,pA,p,iA,fA,Ve,m,u,jI,je z,NA,eO,MB,r]
  . refine⟨b,by omega,fun l h k p E=>?_⟩;have ls:l.set 4 (ε (.lst (b.map Dt.int)))=l:=by obtain⟨lt,e⟩:=Xa E;rw[<- e,set_getElem_self]
    simp![FB,IA,oA,OA,zA,xA,gA,pA,p,iA,fA,Ve,m,u,jI,iu z,NA,Xo,g8,OD,ls]
 obtain⟨fs,Q,fl,lp⟩:=VX y L d 0;refine⟨fs,Q,by omega,fun h=>?_⟩;obtain⟨M,U,T,S,h',C,O,D,R,U2⟩:=lp (h++[.lst []]) h.length [] [] (ε (.lst (ns.map Dt.int))) (ε (.lst (d.map Dt.int))) none none none ⋯ (by simp;omega) .nil;have up:∀(n:Nat)(o:Ob),h[n]?=ε o->h'[n]?=ε o:=fun n o q=>by have W:=(Xa q).1;exact U2.2 n o nofun ((Up.app h _).get q)
 refine⟨C,h',?_,D,R,by have:=U2.1;simp at this;omega,fun n F q=>up n _ q,fun n F q=>up n _ q⟩;have B:lC (BA 5) mH (d.map Dt.int) [ε (.lst (ns.map Dt.int)),ε (.int (c:Nat)),ε (.ref h.length),ε (.int 0),ε (.lst (d.map Dt.int)),none,none,none] (h++[.lst []])=_:=O;have r:∀(l:LI)(H:HI),l[0]?=ε (ε (.lst (ns.map Dt.int)))->IE (eV 0) (WB (nS 2)) (WB (nS 22)) l H=ε (.lst (b.map Dt.int),H):=fun l H a=>by simp[a,J]
 generalize g:DJ [.lst (ns.map Dt.int),.int (c:Nat)] h=X;dsimp![DJ,cV,zB,Uu (f:=some),Xi (f:=some),Nat.reduceSub,List.replicate,Yi,Ye,YA,MB,nK,xA,pA,nW,Wu,Wa,jB]at g;rw[r _ _ rfl]at g;simp![fA,Wu,Wa,jB,YA]at g;rw[P _ _ _ rfl rfl]at g;simp![Wu,Wa,jB,YA,ND,FC,gA,Ti,Ui,iA,fA,CF,VF,B,qB,HB]at g;exact g.symm
def Jx(x:∀h d f,ar h d f->∃o b,te [ε d] h=ε (o,b)/\Up h b/\ar b o f)(hs:∀b,Up h b->∀k,src.at b k=ε ds[k]?)(E:src.fuel h=ds.length+1)(hz:ds.length<sizeLine)(F:ad h ds fs) :
 ∃g b,XD (BA 0) cB te [none] (src,h)=ε (g,b)/\Up h b/\ad b g fs:=by
 have go:∀(m k:Nat)(y:O4 Dt)(a:HI)(i:Oo Dt),Up h a->m=ds.length-k+1->k<=ds.length->i.length<=k->ad a i (fs.take k)->∃g j,RD (BA 0) cB te src m k [y] a i=ε (g,j)/\Up a j/\ad j g fs:=by
  intro m
  induction m with
  | zero=>intro k y a i _ e;omega
  | succ m ih=>
   intro k y a i u L M J p;unfold RD;simp![hs a u k];by_cases n:k<ds.length
   . obtain⟨f,B,q⟩:=F.get (jo n);obtain⟨o,j,I,r,q1⟩:=x a ds[k] f (q.up u.l);have C:=(p.up r.l).snoc q1;rw[<- KJ B]at C;obtain⟨g,H,e2,D,q2⟩:=ih (k+1) (ε ds[k]) j (i++[o]) (u.trans r) nofun nofun (by simp;omega) C;refine⟨g,H,?_,r.trans D,q2⟩;rw[jo n];simp![vE,Wo,bM,eO,Wa,I];rw[eG nofun];exact e2
   . rw[lu nofun];rw[Ko (by rw[<- F.len];omega)]at p;exact⟨i,a,rfl,Up.refl a,p⟩
 obtain⟨g,j,e,u,q⟩:=go (ds.length+1) 0 none h [] (Up.refl h) nofun (nW _) (Va _) .nil;refine⟨g,j,?_,u,q⟩;unfold XD;simp![E];exact e
def BY(h)(n)(m):hG h (n+2) (kB m) (kB m)=true:=by simp[kB,hG,HE]
theorem wX(h)(n):∀g:Oo UB,HE (hG h (n+2)) (g.map kB) (g.map kB)=true
 | []=>rfl
 | m::g=>by show(hG h (n+2) (kB m) (kB m)&&HE (hG h (n+2)) (g.map kB) (g.map kB))=true;rw[BY,wX h n g];rfl
def Sg(q:ar h d f)(b:ar h d' f):hG h 6 d d'=true:=by
 cases f with
 | ways m=>rw[show d=kB m from q,show d'=kB m from b];exact BY h 4 m
 | long x=>rw[show d=.tup [.str "long", .int (x.1:Nat),.int x.2.1,.int x.2.2]from q,show d'=.tup [.str "long", .int (x.1:Nat),.int x.2.1,.int x.2.2]from b];simp[hG,HE]
 | one g=>
  obtain⟨o,rfl,n,rfl,j⟩:=q;obtain⟨k,rfl,a,rfl,i⟩:=b;have e:hG h 5 (.ref n) (.ref a)=true:=by
   have e:hG h 5 (.ref n) (.ref a)=HE (hG h 4) (g.map kB) (g.map kB):=by simp[hG,yA,j,i]
   rw[e,wX h 2 g]
  have t:hG h 6 (.tup [.str "one", .ref n]) (.tup [.str "one", .ref a])=(hG h 5 (.str "one") (.str "one")&&(hG h 5 (.ref n) (.ref a)&&true)):=rfl;rw[t,e,show hG h 5 (.str "one") (.str "one")=true by simp[hG]];rfl
def fW(a:ad h ds fs):ad h g fs->HE (hG h 6) ds g=true:=by
 induction a generalizing g with
 | nil=>intro b;cases b;rfl
 | @cons d f ds fs a r ih=>
  intro b;cases b with
  | @cons e _ g _ j i=>show(hG h 6 d e&&HE (hG h 6) ds g)=true;rw[Sg a j,ih i];rfl
def Yy(q:av c h x ds fs)(b:av g h y es fs):iI x y h=ε (.bl false,h):=by
 have f:yA h x=ε ds:=by
  rcases q.at' with rfl | ⟨a,rfl,e⟩
  . rfl
  . exact UE e
 have d:yA h y=ε es:=by
  rcases b.at' with rfl | ⟨a,rfl,e⟩
  . rfl
  . exact UE e
 unfold iI;rw[eG (show eQ h x y=true by unfold eQ;rw[f,d];exact fW q.fa b.fa)]
def Pg(q:av c h x ds fs)(b:av g h y es fs):iJ x y h=ε (.bl true,h):=by
 have f:yA h x=ε ds:=by
  rcases q.at' with rfl | ⟨a,rfl,e⟩
  . rfl
  . exact UE e
 have d:yA h y=ε es:=by
  rcases b.at' with rfl | ⟨a,rfl,e⟩
  . rfl
  . exact UE e
 unfold iJ;rw[eG (show eQ h x y=true by unfold eQ;rw[f,d];exact fW q.fa b.fa)]
def iw(h)(d)(f)(q:ar h d f):∃e b,nL [ε d] h=ε (e,b)/\Up h b/\ar b e f:=by
 have a:=QZ q [ε d] h 0 rfl;cases f with
 | ways m=>refine⟨d,h,?_,Up.refl h,q⟩;simp![nL,BK,IA,a,GK,gA,Ti,iA,fA,NA,Xo,g8]
 | long x=>refine⟨d,h,?_,Up.refl h,q⟩;simp![nL,BK,IA,a,GK,gA,Ti,iA,fA,NA,Xo,g8]
 | one g=>
  obtain⟨j,rfl,n,rfl,i⟩:=q;have fn:UD (.ref n) h=ε (.ref h.length,h++[.lst (g.map kB)]):=by simp![UD,XC,yA,i,Vu]
  refine⟨.tup [.str "one", .ref h.length],h++[.lst (g.map kB)],?_,Up.app _ _,_,rfl,_,rfl,by simp⟩;dsimp![nL,BK,IA,a,GK,oA,gA,pA,LB,AC,zA,xA,Ti,iA,kC,DG,Ui,decide_true,Vu,NA,fn,JH]
def PX(q:av c h x ds fs):∃a d,tJ [x] h=ε (.ref a,d)/\Up h d/\nt c d a fs:=by obtain⟨src,m,k,j⟩:=q.src;obtain⟨g,b,e,u,E⟩:=Jx iw k j q.lt q.fa;have i:Up b (b++[Ob.lst g]):=Up.app _ _;refine⟨b.length,b++[.lst g],?_,u.trans i,⟨g,by simp,E.up i.l⟩,q.ok,q.sg,q.len⟩;dsimp![tJ,VU,zB,Uu (f:=some),Xi (f:=some),Nat.reduceSub,List.replicate,Ve,qB,TL,FC,gA,Ti,iA,m,MD,QD,e,HB]
def nt.s(F:nt c h a fs):∃ds,av c h (.ref a) ds fs:=by obtain⟨ds,e,A⟩:=F.ds;exact⟨ds,.inr ⟨a,rfl,e⟩,A,F.ok,F.sg,F.len⟩
def HL(n:c<=8)(q:av c h x ds fs)(o:my h t d)(dp:MA t<=12)(m:∀v,Sh c (pD fs) 12 (NC mC fs) (JB fs) t v->v=due) :
 ∃h',wF [.int (c:Nat),x,d,.bl due] h=ε (.bl true,h')/\mu h h':=by
 obtain⟨a,y,r,g,i⟩:=PX q;obtain⟨v,b,e2,e,S⟩:=Yv n i (my.up g.l t o) dp;obtain rfl:=m v S;have u:=g.l.trans e;obtain⟨B,q2⟩:=(i.up e).s;have ex:iJ (.ref a) x b=ε (.bl true,b):=Pg q2 (q.up u);have p:QA (.bl v) (.bl v) b=ε (.bl true,b):=by cases v<;>rfl
 have k:kG b (.bl v)=ε "bool" :=rfl;have j:SM.nN "bool" "bool" =true:=by decide
 refine⟨b,?_,u⟩;dsimp![wF,oV,zB,Uu (f:=some),Xi (f:=some),Nat.reduceSub,List.replicate,Yi,Ye,YA,MB,OA,zA,xA,oA,gA,Ti,Ui,iA,Ve,r,Wu,Wa,jB,e2,qB,oP,JM,k,j,Vu,FO,p,ex,HB]
section
variable{a b c d e:RE}{l:LI}{h:HI}{A B C D E:Dt}
def Z3(x:a l h=ε (A,h)):AB (aA a dA) l h=ε (.lst [A],h):=by dsimp![kE,zA,xA,x,vN]
def o4(x:a l h=ε (A,h))(y:b l h=ε (B,h))(z:c l h=ε (C,h)):AB (aA a (aA b (aA c dA))) l h=ε (.lst [A,B,C],h):=by dsimp![kE,zA,xA,x,y,z,HK]
def A4(x:a l h=ε (A,h))(y:b l h=ε (B,h))(z:c l h=ε (C,h))(w:d l h=ε (D,h)):AB (aA a (aA b (aA c (aA d dA)))) l h=ε (.lst [A,B,C,D],h):=by dsimp![kE,zA,xA,x,y,z,w,show 4<=sizeLine by decide]
def F5(x:a l h=ε (A,h)):EA (aA a dA) l h=ε (.tup [A],h):=by dsimp![AC,zA,xA,x,vN]
def oU(x:a l h=ε (A,h))(y:b l h=ε (B,h)):EA (aA a (aA b dA)) l h=ε (.tup [A,B],h):=by dsimp![AC,zA,xA,x,y,JH]
def J5(x:a l h=ε (A,h))(y:b l h=ε (B,h))(z:c l h=ε (C,h))(w:d l h=ε (D,h))(v:e l h=ε (E,h)):EA (aA a (aA b (aA c (aA d (aA e dA))))) l h=ε (.tup [A,B,C,D,E],h):=by dsimp![AC,zA,xA,x,y,z,w,v,show 5<=sizeLine by decide]
def bQ{lo hi:RO}(x:a l h=ε (A,h))(s:yA h A=ε xs)(p:lo l h=ε (o,h))(q:hi l h=ε (u,h))(e:SM.fC xs o u=ys):IE a lo hi l h=ε (.lst ys,h):=by rw[WI,x,fA,p,fA,q,fA,s,<- e];rfl
end
def DZ{r:Oo Int}(h:3<=r.length):∃a b r',r=a::b::r':=by
 cases r with
 | nil=>simp at h
 | cons a r=>
  cases r with
  | nil=>simp at h
  | cons b r=>exact⟨a,b,r,rfl⟩
set_option tactic.hygienic true in
theorem aK (e:yA h s=ε xs):kG h s=ε "list" :=by
 cases s with
 | lst a=>rfl
 | ref n=>
  simp![yA]at e;split at e
  . rename_i q;simp![kG,q]
  . cases e
 | _=>cases e
theorem nT:∀a{ds:Oo Dt},Vo h a ds->∀d∈ds,∃t∈a,my h t d
 | [],_,q,d,hd=>by simp![Vo]at q;rw[q]at hd;cases hd
 | t::a,_,q,d,hd=>by
  simp![Vo]at q;obtain⟨e,r,rfl,q1,q2⟩:=q;rcases Bu.mp hd with rfl | hd
  . exact⟨t,by simp,q1⟩
  . obtain⟨b,m,f⟩:=nT a q2 d hd;exact⟨b,by simp[m],f⟩
theorem SO:∀{a:Oo nb}{t:nb},tE a=true->t∈a->rC t=true
 | x::a,t,h,m=>by
  rw[tE,w6]at h;rcases Bu.mp m with rfl | m
  . exact h.1
  . exact SO h.2 m
theorem MO:∀{a:Oo nb}{t:nb},t∈a->MA t<=DB a
 | x::a,t,m=>by
  rw[DB];rcases Bu.mp m with rfl | m
  . exact Nat.le_max_left _ _
  . exact uq (MO m) (Nat.le_max_right _ _)
set_option tactic.hygienic true in
theorem IX(F:Dt->Dt)(e:yA h x=ε ds)(hz:ds.length<sizeLine)(l)(H:∀d∈ds,te (l.set 0 (ε d)) h=ε (F d,h)):mB (IG (x,h)) (XD (BA 0) cB te l)=ε (ds.map F,h):=by
 cases x with
 | lst b=>cases e;rw[CF,fA,aE _ _ _ hz];have:=xF (te:=te) (i:=0) (tc:=cB) (fun d:Dt=>d) F h ds l (fun d hd=>⟨by simp,H d hd⟩);rw[map_id']at this;exact this
 | ref n=>
  have a:h[n]?=ε (.lst ds):=by
   simp![yA]at e;split at e
   . rename_i q;cases e;exact q
   . cases e
  rw[SE a,fA];exact EW (te:=te) (i:=0) (fun d:Dt=>d) F ds l h (by rw[map_id'];exact a) hz H
 | _=>cases e
def Aw{a:Type}(ds:Oo a)(h):GG (.lst (ds.map fun q=>Dt.bl true)) h=ε (.bl true,h):=by
 have:(ds.map fun q=>Dt.bl true)=(ds.map fun q=>true).map Dt.bl:=by rw[map_map];rfl
 rw[this,mT]
 congr 2
 simp
section
variable{h:HI}{d s:Dt}{k L:Nat}
def rT (hd:kG h d=ε "tuple") (b:eB d h=ε (.int (L:Nat),h)) (h2:2<=L) (h1:nA d (.int 1) h=ε (s,h)) (a:kG h s=ε "list") (j:k≠0) :
 XB (SC (mn (OF "tuple" (eV 0)))) (XB (mn (e2 ZI (GB eB (eV 0)) (nS 2))) (XB (SC (mn (OF "list" (e2 nA (eV 0) (nS 1))))) (mn (e2 QA (eV 1) (nS 0))))) [ε d,ε (.int (k:Nat))] h=ε (false,h):=by
 have i:SM.nN "tuple" "tuple" =true:=by decide
 have g:SM.nN "list" "list" =true:=by decide
 have f:decide ((L:Int)<2)=false:=iu nofun;have e:decide ((k:Int)=0)=false:=iu nofun;simp![HD,xH,IA,JM,gA,pA,oA,LB,Ti,Ui,iA,fA,hd,b,h1,a,Vu,i,g,kI,f,lD,e,NA,wz,Xo,g8]
def yM(a:nA d (.int 0) h=ε (.str w,h))(v):mn (e2 QA (e2 nA (eV 0) (nS 0)) (eC (.str v))) [ε d,ε (.int (k:Nat))] h=ε (decide (w=v),h):=by simp![IA,oA,gA,pA,Ti,iA,fA,a,BE,NA]
end
def bw:∀n t{d:Dt}(k:Nat),my h t d->MA t<=n->MA t<=k->rC t=true->lH n [d,.int (k:Nat)] h=ε (.bl true,h):=by
 intro n
 induction n with
 | zero=>intro t d k _ dp;cases t<;>simp[MA]at dp
 | succ n ih=>
  intro t d k g dp dk i;have fn:∀R,vC (qL (lH n) [ε d,ε (.int (k:Nat))] h)=R->lH (n+1) [d,.int (k:Nat)] h=R:=fun R e=>by rw[<- e];show QB 2 2 (qL (lH n)) [d,.int (k:Nat)] h=_;simp![zB,Ua,Vi,eO,Uu (f:=some),Xi (f:=some),Nat.reduceAdd,Nat.reduceSub,List.replicate,Ve]
  have D:SM.nN "list" "list" =true:=by decide
  have o:k≠0:=by cases t<;>simp![MA]at dk<;>omega
  have kids:∀(w:Str) (x:Dt) (ds:Oo Dt) (bs:Oo nb) (L:Nat),(w = "one" /\ L=3\/w = "split" /\ L=5)->kG h d=ε "tuple" ->eB d h=ε (.int (L:Nat),h)->nA d (.int 0) h=ε (.str w,h)->nA d (.int (-1)) h=ε (x,h)->(∃s,nA d (.int 1) h=ε (s,h)/\kG h s=ε "list")->yA h x=ε ds->Vo h bs ds->DB bs+1<=n+1->DB bs+1<=k->(!bs.isEmpty&&decide (bs.length<=1000)&&tE bs)=true->lH (n+1) [d,.int (k:Nat)] h=ε (.bl true,h):=by
   intro w x ds bs L hw I B y C ⟨s,e1,E⟩ q F d1 d2 i;simp![w6,decide_eq_true_eq]at i;obtain⟨⟨f1,f2⟩,f3⟩:=i;have dl:=F.len;have d0:0<ds.length:=by
    rw[dl];cases bs with
    | nil=>cases f1
    | cons _ _=>simp
   have hz:ds.length<sizeLine:=by simp[sizeLine];omega
   have fx:eB x h=ε (.int (ds.length:Nat),h):=xP q;have W:((k:Nat):Int)-1=((k-1:Nat):Int):=by omega
   have ca:=IX (te:=JQ (lH n)) (fun v=>.bl true) q hz [none,ε (.int (k:Nat))] (fun d' hd=>by
    obtain⟨O,m,u⟩:=nT bs F d' hd;have:=MO m;have r:=ih O (k-1) u nofun nofun (SO f3 m);simp![JQ,OA,zA,xA,oA,gA,pA,Wa,Ti,Ui,iA,fA,VM,W,Ve,r])
   refine fn _ (KC (rT I B nofun e1 E o) ?_);have a:=yM (k:=k) y "threes";have j:=yM (k:=k) y "ring";have Q:decide (w=("threes" :Str))=false:=by rcases hw with⟨rfl,_⟩ | ⟨rfl,_⟩<;>decide +kernel
   have P:decide (w=("ring" :Str))=false:=by rcases hw with⟨rfl,_⟩ | ⟨rfl,_⟩<;>decide +kernel
   rw[Q]at a;rw[P]at j;have M:XB (mn (e2 (HG true) (e2 nA (eV 0) (nS 0)) (EA (aA (eC (.str "one")) (aA (eC (.str "split")) dA))))) (mn (e2 yD (GB eB (eV 0)) (e2 VB (nS 3) (e2 wC (nS 2) (GB MK (e2 QA (e2 nA (eV 0) (nS 0)) (eC (.str "split")))))))) [ε d,ε (.int (k:Nat))] h=ε (false,h):=by
    have Z:HG true (.str w) (.tup [.str "one", .str "split"]) h=ε (.bl false,h):=by rcases hw with⟨rfl,_⟩ | ⟨rfl,_⟩<;>rfl
    have S:∀b:Bool,wC (.int 2) (.int (if b=true then 1 else 0)) h=ε (.int (if b=true then 2 else 0),h):=fun b=>by cases b<;>rfl
    have ei:∀b:Bool,MK (.bl b) h=ε (.int (if b=true then 1 else 0),h):=fun b=>by cases b<;>rfl
    have T:(!decide ((L:Int)=3+(if decide (w=("split" :Str))=true then 2 else 0)))=false:=by rcases hw with⟨rfl,rfl⟩ | ⟨rfl,rfl⟩<;>decide +kernel
    dsimp![HD,IA,oA,gA,pA,LB,AC,zA,xA,Ti,iA,y,JH,Z,NA,Xo,g8,B,BE,ei,S,AE,gH,T]
   have J:XB (SC (mn (OF "list" (e2 nA (eV 0) (dB (nS 1)))))) (mn (e2 QA (GB eB (e2 nA (eV 0) (dB (nS 1)))) (nS 0))) [ε d,ε (.int (k:Nat))] h=ε (false,h):=by have z:decide ((ds.length:Int)=0)=false:=iu nofun;simp![HD,xH,IA,JM,oA,gA,pA,dF,QE,LB,Ti,iA,fA,C,aK q,Vu,D,NA,wz,Xo,g8,fx,lD,z]
   refine KC a (KC j (KC M (KC J (sH ?_))));simp![LB,bF,FC,oA,gA,pA,dF,QE,Ti,Ui,iA,fA,C,MD,xG,QD,Mi,ca,Aw]
  cases t with
  | Ws st=>simp![my]at g;obtain⟨s,rfl,e⟩:=g;refine fn _ (KC (rT (L:=2) (s:=s) rfl rfl (by decide) rfl (aK e) o) ?_);have a:=yM (h:=h) (k:=k) (d:=.tup [.str "threes",s]) (w := "threes") rfl "threes";rw[je rfl]at a;exact JC (h1:=h) a rfl
  | ring st r=>
   simp![my]at g;obtain⟨s,x,rfl,e,ex,_⟩:=g;refine fn _ (KC (rT (L:=3) (s:=s) rfl rfl (by decide) rfl (aK e) o) ?_);have a:=yM (h:=h) (k:=k) (d:=.tup [.str "ring",s,x]) (w := "ring") rfl "threes";have j:=yM (h:=h) (k:=k) (d:=.tup [.str "ring",s,x]) (w := "ring") rfl "ring";rw[je rfl]at j;rw[show decide (("ring" :Str) = "threes")=false by decide +kernel]at a;refine KC a (JC (h1:=h) j ?_);have U:∀H,eB (.tup [.str "ring",s,x]) H=ε (.int 3,H):=fun v=>rfl
   have Y:∀H,nA (.tup [.str "ring",s,x]) (.int 2) H=ε (x,H):=fun v=>rfl
   simp![oP,oA,LB,JM,gA,pA,Ti,iA,fA,U,lD,decide_true,FO,eO,Y,aK ex,Vu,D]
  | one st bs=>simp![my]at g;obtain⟨s,x,ds,rfl,e,ex,F⟩:=g;exact kids "one" x ds bs 3 (.inl ⟨rfl,rfl⟩) rfl rfl rfl rfl ⟨s,rfl,aK e⟩ ex F (by simpa only[MA]using dp) (by simpa only[MA]using dk) (by simp![rC,w6]at i;simpa only[w6]using i.2)
  | split st p bs=>simp![my]at g;obtain⟨s,x,ds,rfl,e,ex,F⟩:=g;exact kids "split" x ds bs 5 (.inr ⟨rfl,rfl⟩) rfl rfl rfl rfl ⟨s,rfl,aK e⟩ ex F (by simpa only[MA]using dp) (by simpa only[MA]using dk) (by simp![rC,w6]at i;simpa only[w6]using i.2)
def Xq(of:ZA c f)(og:bg c b)(L:TC c m ls (n+1) f b made a sp)(w:a.wd≠.clash):bB c f=false:=by
 cases e:bB c f with
 | false=>rfl
 | true=>have d:TC c m ls (n+1) f b made (.clash (.Ws [])) made:=.inl ⟨[],f,.nil,e,rfl,rfl⟩;exact Es (vI (n+1) f b made _ _ _ _ of og L d).1 w
def Eh(ne:bB c f=false)(h:Sh c ls n f a (.Ws []) v):v=false:=by
 cases h with
 | no _ e=>exact e
 | Ws _ z e=>rw[e,<- ne];cases z;rfl
 | loose w _ _ _=>exact Es rfl w
 | ring e _ _ _ _=>cases e
 | odd i _ _ _ _ _=>exact i.elim
 | cut i _ _ _ _ _ _=>exact i.elim
noncomputable def oE(t:IB):IB:=(t.2.2,t.2.1,t.1)
def Kw(o:ZA c f)(hi:i<c)(h:k<c)(e:j<c)(d:i≠j):PB f j k i=PB f i k j:=by
 funext a b
 by_cases g:a=i/\b=j
 . obtain⟨rfl,rfl⟩:=g;rw[fG f d,JL,VO o hi h e,AO (bP o hi e)]
 . by_cases e2:a=j/\b=i
   . obtain⟨rfl,rfl⟩:=e2;rw[fG f (n7 d),JL,VO o hi h e]
   . rw[XF f e2 g,XF f g e2]
def Hy(c)(i k j):MF c j k i=MF c i k j:=by rw[Bool.eq_iff_iff];unfold MF;simp![w6,decide_eq_true_eq];omega
theorem fO:∀st f,ZA c f->vB c f (st.map oE)=vB c f st
 | [],_,_=>rfl
 | (i,k,j)::st,f,o=>by
  show vB c f ((j,k,i)::st.map oE)=_;rw[wG,wG,Hy];cases t:MF c i k j with
  | false=>rw[eG (.inr (.inl rfl)),eG (.inr (.inl rfl))]
  | true=>
   obtain⟨i,k,j,rfl,rfl,rfl,⟨n,m,g⟩,b,h,a⟩:=eM.mp t;simp![ou];have d:Wk f j k i=f j i↔Wk f i k j=f i j:=by rw[VO o b h a,o.tn i b j a];exact⟨fun e=>uY (bP o b a) (o.lt i b j a) e,fun e=>by rw[e]⟩
   by_cases z:bB c f=true\/true=false\/Wk f i k j=f i j
   . rw[eG z,eG (z.imp id (Or.imp id d.mpr))]
   . rw[eH z,eH (fun q=>z (q.imp id (Or.imp id d.mp))),Kw o b h a g,fO st _ (dM o b a g)]
def PH(f)(x i):XA f i (f x)=XA f (i+1) x:=by rw[zG f x 1 i];rfl
def Ck(R:rF n E w c P k):rF n E w c (nxt c P) k:=by
 have bk:XA (nxt c) (k+1) P=XA (nxt c) 1 P:=by show nxt c (XA (nxt c) k P)=nxt c P;rw[R.back]
 refine⟨R.pos,R.le,?_,fun i g f=>?_,fun i d=>?_,?_⟩
 . rw[PH];exact bk
 . rw[PH];exact fun e=>apart R.back R.first (i:=1) (j:=i+1) nofun nofun nofun e.symm
 . rw[PH,PH];by_cases e:i=k
   . subst e;have b:XA (nxt c) (i+1+1) P=XA (nxt c) (1+1) P:=by show nxt c (XA (nxt c) (i+1) P)=nxt c (XA (nxt c) 1 P);rw[bk]
     rw[bk,b];exact R.edge 1 R.pos
   . exact R.edge (i+1) nofun
 . have a:((List.range k).map fun i=>w (XA (nxt c) i (nxt c P)) (XA (nxt c) (i+1) (nxt c P)))=(List.range k).map fun i=>w (XA (nxt c) (i+1) P) (XA (nxt c) (i+1+1) P):=map_congr_left fun i q=>by rw[PH,PH]
   rw[a];have go:∀(F:Nat->Int)(k:Nat),((List.range k).map fun i=>F (i+1)).sum+F 0=((List.range k).map F).sum+F k:=by
    intro F k
    induction k with
    | zero=>simp
    | succ k ih=>rw[Je,Gu,Gu,sum_append,sum_append];simp![Uu,Xi,sum_cons,sum_nil];omega
   have:=go (fun i=>w (XA (nxt c) i P) (XA (nxt c) (i+1) P)) k;have t:w (XA (nxt c) k P) (XA (nxt c) (k+1) P)=w (XA (nxt c) 0 P) (XA (nxt c) (0+1) P):=by rw[R.back,bk];rfl
   have s:=R.sum;have this:_+w (XA (nxt c) 0 P) (XA (nxt c) (0+1) P)=_+w (XA (nxt c) k P) (XA (nxt c) (k+1) P):=this;omega
def Az(b:1<=k)(back:XA (nxt c) k P=P):(DE c P k).tail++[((XA (nxt c) 1 P:Nat):Int)]=DE c (nxt c P) k:=by
 have a:(DE c P k).tail=(List.range k).map fun m=>((XA (nxt c) (m+1) P:Nat):Int):=by unfold DE;rw[Ks,Uu,tail_cons,map_map];rfl
 have e2:DE c (nxt c P) k=((List.range k).map fun m=>((XA (nxt c) (m+1) P:Nat):Int))++[((XA (nxt c) 1 P:Nat):Int)]:=by
  unfold DE;rw[Je,Gu,Uu,Xi,PH]
  congr 1
  . exact map_congr_left fun i q=>by rw[PH]
  . show [((nxt c (XA (nxt c) k P):Nat):Int)]=_;rw[back];rfl
 rw[a,e2]
mutual
noncomputable def bI:nb->nb
 | .Ws st=>.Ws (st.map oE)
 | .ring st r=>.ring (st.map oE) (r.tail++[r.getD 1 0])
 | .one st bs=>.one (st.map oE) (qG bs)
 | .split st p bs=>.split (st.map oE) p (qG bs)
noncomputable def qG:Oo nb->Oo nb
 | []=>[]
 | t::ts=>bI t::qG ts
end
def Vm(a:cF t):cF (bI t)/\(bI t).st=t.st.map oE/\(bI t).kids=qG t.kids/\AD (bI t)=AD t:=by
 cases t with
 | one st bs=>simp![bI];exact⟨trivial,rfl,rfl,rfl⟩
 | split st p bs=>simp![bI];exact⟨trivial,rfl,rfl,rfl⟩
 | _=>exact a.elim
theorem JX:∀n f d t,ZA c f->bg c d->Ct c ls n f d t->Ct c ls n f d (bI t)
 | 0,_,_,_,_,_,h=>nomatch h
 | n+1,f,d,t,o,og,h=>by
  cases h with
  | Ws q F=>simp![bI];exact .Ws ((fO _ _ o).trans q) F
  | @ring _ _ _ st r g q ne m R=>
   obtain⟨j,P,k,R,rfl⟩:=R;have e:(DE j P k).getD 1 0=((XA (nxt j) 1 P:Nat):Int):=by have:=R.pos;unfold DE;rw[getD_eq_getElem?_getD,w5,Oa nofun];rfl
   simp![bI];rw[e,Az R.pos R.back];exact .ring ((fO _ _ o).trans q) ne m ⟨j,_,k,Ck R,rfl⟩
  | @cut _ _ _ _ g bs J u q ne m hs K=>
   obtain⟨E,D,C,B⟩:=Vm u;have p:=SJ (sP (fP _ _ _ o q)) og hs;have go:∀(bs:Oo FA)(i:Oo nb),(∀b∈bs,ZA c b)->Cts c ls n bs d.tail i->Cts c ls n bs d.tail (qG i):=by
    intro bs
    induction bs with
    | nil=>intro i _ a;cases a;simp![qG];exact .nil
    | cons b bs ih=>
     intro i ob a;cases a with
     | cons I H=>simp![qG];exact .cons (JX n b _ _ (ob b ⋯) og.tail I) (ih _ (fun x y=>ob x (by simp[y])) H)
   exact .cut E (by rw[D];exact(fO _ _ o).trans q) ne m (by rw[B];exact hs) (by rw[C];exact go bs _ p K)
set_option tactic.hygienic true in
theorem mq{st:Oo IB}(e:yA h x=ε (st.map pC))(hz:st.length<=1000):mB (IG (x,h)) (XD (QI 0 1 2) cB (qI R) [none,none,none])=ε ((st.map oE).map pC,h):=by
 have HK:3<=sizeLine:=by decide
 have go:∀(st:Oo IB)(a b c:O4 Dt),SD (QI 0 1 2) cB (qI R) (st.map pC) [a,b,c] h=ε ((st.map oE).map pC,h):=by
  intro st
  induction st with
  | nil=>intro _ _ _;rfl
  | cons t st ih=>
   intro a b c;have d:QI 0 1 2 (pC t) [a,b,c]=ε [ε (.int t.1),ε (.int t.2.1),ε (.int t.2.2)]:=rfl;have j:qI R [ε (.int t.1),ε (.int t.2.1),ε (.int t.2.2)] h=ε (pC (oE t),h):=by dsimp![qI,AC,zA,xA,gA,Ti,Ui,iA,HK];rfl
   simp![Uu,SD,d,Wo,cB,eO,j,ih]
 have g:(st.map pC).length<sizeLine:=by rw[ni];simp[sizeLine];omega
 cases x with
 | lst k=>cases e;rw[CF,fA,aE _ _ _ g,go]
 | ref n=>
  have f:h[n]?=ε (.lst (st.map pC)):=by
   simp![yA]at e;split at e
   . rename_i q;cases e;exact q
   . cases e
  rw[SE f,fA,tO f g (fun l h b i e q=>by cases e;exact q) (fun l H b i e q=>?_),go];have:i=H:=by
   simp![qI,AC,zA,xA,gA]at e;revert e;cases l[2]? with
   | none=>intro e;cases e
   | some a=>
    cases a with
    | none=>intro e;cases e
    | some a=>
     cases l[1]? with
     | none=>intro e;cases e
     | some b=>
      cases b with
      | none=>intro e;cases e
      | some b=>
       cases l[0]? with
       | none=>intro e;cases e
       | some c=>
        cases c with
        | none=>intro e;cases e
        | some c=>intro e;dsimp![iA,HK,Ge,xr]at e;exact e.2.symm
  rw[this];exact q
 | _=>cases e
def AZ(a:l[0]?=ε (ε (.tup xs)))(e:SM.fC xs (ε 2) (ε (-1))=ys)(n:¬(HT.sIx xs.length 0 (ε 2)=0/\HT.sIx xs.length xs.length (ε (-1))=xs.length)):DC (eV 0) (WB (nS 2)) (WB (dB (nS 1))) l H=ε (.tup ys,H):=by
 have:DC (eV 0) (WB (nS 2)) (WB (dB (nS 1))) l H=(if ¬(HT.sIx xs.length 0 (ε 2)=0/\HT.sIx xs.length xs.length (ε (-1))=xs.length)then ε (.tup (SM.fC xs (ε 2) (ε (-1))),H)else none):=by unfold DC eV;rw[a];rfl
 rw[this,eG n,e]
def bW(ih:∀t{d:Dt},my h t d->MA t<=n->rC t=true->∃a,NE n [d] h=ε (a,h)/\my h (bI t) a){Z:Oo IB}(u:∀H,nA d (.int 0) H=ε (.str W,H))(M:tg'.length<=2)(hs:∀l H,l[0]?=ε (ε d)->DC (eV 0) (WB (nS 2)) (WB (dB (nS 1))) l H=ε (.tup tg',H))(C:∀H,nA d (.int (-1)) H=ε (x,H))(B:yA h x=ε ds)(F:Vo h bs ds)(o:DB bs<=n)(f:tE bs=true)(O:bs.length<=1000) :
 ∃ys,e2 GD (e2 GD (EA (aA (e2 nA (eV 0) (nS 0)) (aA (eV 1) dA))) (DC (eV 0) (WB (nS 2)) (WB (dB (nS 1))))) (EA (aA (qC (RB (e2 nA (eV 0) (dB (nS 1)))) (BA 0) cB (IN (NE n)) [none]) dA)) [ε d,ε (.lst (Z.map pC))] h=ε (.tup ([.str W,.lst (Z.map pC)]++tg'++[.lst ys]),h)/\Vo h (qG bs) ys:=by
 have lJ:∀a∈ds,∃y,NE n [a] h=ε (y,h):=fun a hd=>by obtain⟨p,m,k⟩:=nT bs F a hd;obtain⟨y,e,_⟩:=ih p k (by have:=MO m;omega) (SO f m);exact⟨y,e⟩
 obtain⟨Y,g⟩:∃Y:Dt->Dt,∀a∈ds,NE n [a] h=ε (Y a,h):=by refine⟨fun a=>((NE n [a] h).map Prod.fst).getD .non,fun a hd=>?_⟩;obtain⟨y,e⟩:=lJ a hd;simp![e,Vu,Option.getD_some]
 have j:ds.length<sizeLine:=by rw[F.len];simp[sizeLine];omega
 have J:=IX (te:=IN (NE n)) Y B j [none] (fun a hd=>by
  simp![IN,OA,zA,xA,gA,Wa,Ti,iA,fA,Ve,g a hd])
 have L:∀(bs:Oo nb)(ds:Oo Dt),Vo h bs ds->DB bs<=n->tE bs=true->(∀a∈ds,NE n [a] h=ε (Y a,h))->Vo h (qG bs) (ds.map Y):=by
  intro bs
  induction bs with
  | nil=>intro ds F _ _ _;simp![Vo]at F;subst F;simp![qG,Vo,Xi]
  | cons b bs i=>intro ds F dp f g;simp![Vo]at F;obtain⟨a,r,rfl,I,E⟩:=F;simp![DB]at dp;simp![tE,w6]at f;obtain⟨y,e,D⟩:=ih b I nofun f.1;rw[g a ⋯]at e;cases e;simp![qG,Vo,Uu];exact⟨_,_,rfl,D,i r E nofun f.2 fun z j=>g z (by simp[j])⟩
 refine⟨ds.map Y,?_,L bs ds F o f g⟩;have q:9<=sizeLine:=by decide
 refine bN (bN (oU (A:=.str W) (bN (ev rfl) rfl (u h)) (ev rfl)) (hs _ _ rfl) (cZ ⋯ (by simp;omega))) (F5 (A:=.lst (ds.map Y)) ?_) (cZ ⋯ (by simp;omega));simp![oA,gA,pA,dF,QE,bF,FC,Ti,iA,fA,C,MD,QD,J]
def uf:∀n t{d:Dt},my h t d->MA t<=n->rC t=true->∃d',NE n [d] h=ε (d',h)/\my h (bI t) d':=by
 intro n
 induction n with
 | zero=>intro t d _ dp;cases t<;>simp[MA]at dp
 | succ n ih=>
  intro t d q dp g;have fn:∀R,vC (aL (NE n) [ε d,none] h)=R->NE (n+1) [d] h=R:=fun R e=>by rw[<- e];show QB 1 2 (aL (NE n)) [d] h=_;simp![zB,Ua,Vi,eO,Uu (f:=some),Xi (f:=some),Nat.reduceAdd,Nat.reduceSub,List.replicate,Yi,Ye]
  obtain⟨s,D,C,M⟩:=q.hd;have J:t.st.length<=1000:=by cases t<;>simp![rC,w6,decide_eq_true_eq]at g<;>first | exact g | exact g.1 | exact g.1.1
  have u:qC (RB (e2 nA (eV 0) (nS 1))) (QI 0 1 2) cB (qI (NE n)) [none,none,none] [ε d,none] h=ε (.lst ((t.st.map oE).map pC),h):=by simp![bF,FC,oA,gA,pA,Ti,iA,fA,C,MD,QD,mq M J]
  have i:∀v:Str,mn (e2 QA (e2 nA (eV 0) (nS 0)) (eC (.str v))) [ε d,ε (.lst ((t.st.map oE).map pC))] h=ε (decide (t.wd=v),h):=fun v=>by simp![IA,oA,gA,pA,Ti,iA,fA,D,BE,NA]
  cases t with
  | Ws st=>
   have i:=i "threes";rw[show decide (nb.wd (.Ws st) = "threes")=true from je rfl]at i;refine⟨_,fn _ (uE u rfl (JC (h1:=h) i (d:=.tup [.str "threes", .lst ((st.map oE).map pC)]) (h2:=h) ?_)),?_⟩
   . dsimp![AC,zA,xA,pA,gA,Ti,Ui,iA,JH];rfl
   . simp![bI,my];exact⟨_,rfl,rfl⟩
  | ring st r=>
   have m:=i "threes";have j:=i "ring";rw[show decide (nb.wd (.ring st r) = "ring")=true from je rfl]at j;rw[show decide (nb.wd (.ring st r) = "threes")=false from(by show decide (("ring" :Str) = "threes")=false;decide +kernel)]at m;simp![my]at q;obtain⟨B,x,rfl,_,ex,I⟩:=q;simp![rC,w6,decide_eq_true_eq]at g;obtain⟨a,b,r,rfl⟩:=DZ g.2.1;have L:∀H,nA (.tup [.str "ring",B,x]) (.int 2) H=ε (x,H):=fun z=>rfl
   have ix:nA x (.int 1) h=ε (.int b,h):=I0 (k:=1) ex rfl;have O:SM.fC ((a::b::r).map Dt.int) (ε 1) none=(b::r).map Dt.int:=QJ _ 1;have ct:iC (.lst ((b::r).map Dt.int)) (.lst [.int b]) h=ε (.lst ((b::r++[b]).map Dt.int),h):=by rw[UP (by simp[sizeLine]at I ⊢;omega)];simp
   refine⟨_,fn _ (uE u rfl (KC m (JC (h1:=h) j (d:=.tup [.str "ring", .lst ((st.map oE).map pC),.lst ((b::r++[b]).map Dt.int)]) (h2:=h) ?_))),?_⟩
   . dsimp![Wu,Wa,AC,zA,xA,pA,gA,oA,WI,zK,VJ,AK,kE,Ti,Ui,iA,L,ex,Vu,O,ix,HK,vN,ct];rfl
   . simp![bI,my];exact⟨_,_,rfl,rfl,rfl,by simp at I ⊢;omega⟩
  | one st bs=>have m:=i "threes";have j:=i "ring";rw[show decide (nb.wd (.one st bs) = "ring")=false from(by show decide (("one" :Str) = "ring")=false;decide +kernel)]at j;rw[show decide (nb.wd (.one st bs) = "threes")=false from(by show decide (("one" :Str) = "threes")=false;decide +kernel)]at m;simp![my]at q;obtain⟨B,x,ds,rfl,_,ex,F⟩:=q;have o:=C h;cases o;simp![rC,w6,decide_eq_true_eq]at g;simp![MA]at dp;obtain⟨y,e,E⟩:=bW ih (Z:=st.map oE) (tg':=[]) D (by decide) (fun l H e=>AZ e rfl (show ¬(HT.sIx 3 0 (ε 2)=0/\HT.sIx 3 3 (ε (-1))=3) by decide)) (fun z=>rfl) ex F nofun g.2.2 g.2.1.2;refine⟨_,fn _ (uE u rfl (KC m (KC j (sH e)))),?_⟩;simp![bI,my];exact⟨_,_,y,rfl,rfl,rfl,E⟩
  | split st p bs=>have m:=i "threes";have j:=i "ring";rw[show decide (nb.wd (.split st p bs) = "ring")=false from(by show decide (("split" :Str) = "ring")=false;decide +kernel)]at j;rw[show decide (nb.wd (.split st p bs) = "threes")=false from(by show decide (("split" :Str) = "threes")=false;decide +kernel)]at m;simp![my]at q;obtain⟨B,x,ds,rfl,_,ex,F⟩:=q;have o:=C h;cases o;simp![rC,w6,decide_eq_true_eq]at g;simp![MA]at dp;obtain⟨y,e,E⟩:=bW ih (Z:=st.map oE) (tg':=[.int (p.1:Nat),.int (p.2:Nat)]) D ⋯ (fun l H e=>AZ e rfl (show ¬(HT.sIx 5 0 (ε 2)=0/\HT.sIx 5 5 (ε (-1))=5) by decide)) (fun z=>rfl) ex F nofun g.2.2 g.2.1.2;refine⟨_,fn _ (uE u rfl (KC m (KC j (sH e)))),?_⟩;simp![bI,my];exact⟨_,_,y,rfl,rfl,rfl,E⟩
def XE:nb->Oo IB->nb
 | .Ws _,st=>.Ws st
 | .ring _ r,st=>.ring st r
 | .one _ bs,st=>.one st bs
 | .split _ p bs,st=>.split st p bs
def lS(t)(st):(XE t st).st=st:=by cases t<;>rfl
def Z0(a:IB):Prop:=∀c:Nat,c<=8->MF c a.1 a.2.1 a.2.2=false
inductive YI:nb->nb->Prop
 | bad {t a st}:Z0 a->YI t (XE t (a::st))
 | again {t st a}:t.st=st++[a]->YI t (XE t (t.st++[a]))
 | less {t st a}:t.st=st++[a]->YI t (XE t st)
 | shut {st t'}:t'.st=st->t'.wd≠("threes" :Str)->YI (.Ws st) t'
 | thr {st r}:YI (.ring st r) (.Ws st)
 | jb {st r}:YI (.ring st r) (.ring st r.dropLast)
 | jn {st a b r x}:(x<0\/16<=x)->YI (.ring st (a::b::r)) (.ring st (a::x::r))
 | jp {st r}:YI (.ring st r) (.ring st (r++r.tail))
 | odd {t t'}:cF t->cF t'->t'.st=t.st->(t'.kids.length≠t.kids.length\/AD t'≠AD t)->YI t t'
def fX(xs)(x):EB (xs++[x])=if(EB xs).any (· ==x)then EB xs else EB xs++[x]:=by unfold EB;rw[foldl_append];rfl
set_option tactic.hygienic true in
theorem Oh:∀n xs,xs.length=n->∀x∈xs,(EB xs).any (· ==x)=true:=by
 intro n
 induction n with
 | zero=>intro xs e x m;rw[length_eq_zero_iff.mp e]at m;cases m
 | succ n ih=>
  intro xs e x m;rcases eq_nil_or_concat xs with z | ⟨a,y,z⟩
  . rw[z]at m;cases m
  . rw[concat_eq_append]at z;subst z;rw[fX];have l:a.length=n:=by simpa using e
    split
    . rename_i q;rcases Ca.mp m with m | m
      . exact ih a l x m
      . rw[Bs.mp m];exact q
    . rw[any_append];rcases Ca.mp m with m | m
      . rw[ih a l x m];rfl
      . rw[Bs.mp m];simp
theorem sR:∀ys xs,(∀y∈ys,y∈xs)->EB (xs++ys)=EB xs
 | [],xs,_=>by rw[Ve]
 | y::ys,xs,h=>by
  have e:xs++y::ys=(xs++[y])++ys:=by simp
  rw[e,sR ys (xs++[y]) fun z a=>za _ (h z (by simp[a])),fX,eG (Oh _ xs rfl y (h y ⋯))]
def dh(e:cD r T=true):cD r.dropLast i=false:=by
 cases z:cD r.dropLast i with
 | false=>rfl
 | true=>
  simp![cD,w6,decide_eq_true_eq]at e z;obtain⟨⟨h,e2,d⟩,_⟩:=e;obtain⟨⟨g,k,f⟩,_⟩:=z;rcases eq_nil_or_concat r with w | ⟨b,y,w⟩
  . rw[w]at h;simp at h
  . rw[concat_eq_append]at w;subst w;rw[dropLast_concat]at g f;cases b with
    | nil=>simp at g
    | cons a b=>
     have m:y=a:=by rw[getLast?_concat]at e2;simpa using e2.symm
     rw[sR [y] (a::b) (fun q j=>by rw[Bs.mp j,m];simp)]at d;rw[jj]at d;simp at d f;omega
def Cz(e:cD r T=true):cD (r++r.tail) a=false:=by
 cases z:cD (r++r.tail) a with
 | false=>rfl
 | true=>simp![cD,w6,decide_eq_true_eq]at e z;obtain⟨⟨i,e2,h⟩,_⟩:=e;obtain⟨⟨g,f,b⟩,_⟩:=z;rw[sR r.tail r (fun y d=>mem_of_mem_tail d),jj,length_tail]at b;omega
def kh(h:c<=8)(b:∀x∈ls,x.1<c)(f:x<0\/16<=x):cD (a::x::r) (vF c g ls)=false:=by
 cases z:cD (a::x::r) (vF c g ls)with
 | false=>rfl
 | true=>
  simp![cD,w6]at z;have z:=z.2.1;simp![tail_cons,zip_cons_cons,La,w6]at z;have z:=z.1;unfold nE at z;cases q:(vF c g ls).find? fun p=>decide (p.1=[a,x])with
  | none=>rw[q]at z;cases z
  | some p=>obtain⟨e,d,rfl⟩:=Ce.mp (Bo q);have k:=find?_some q;have k:(BB e).1=[a,x]:=of_decide_eq_true k;unfold BB at k;simp![Ni,and_true]at k;have:=(cP (CI g b)).lt e d;omega
def MY(q:vB c f t.st=none)(S:Sh c ls N f a t v):v=false:=by
 cases S with
 | no _ e=>exact e
 | Ws _ z _=>exact nomatch q.symm.trans z
 | loose _ _ _ e=>exact e
 | ring _ z _ _ _=>exact nomatch q.symm.trans z
 | odd _ _ _ _ _ e=>exact e
 | cut _ z _ _ _ _ _=>exact nomatch q.symm.trans z
def NY (q:vB c f t.st=ε g) (w:bB c g=true\/¬HC c g) (m:t.wd=("threes" :Str)->bB c g=false) (S:Sh c ls N f n t v):v=false:=by
 have no:∀{i:FA},vB c f t.st=ε i->bB c i=false->HC c i->v=false:=fun z a b=>by
  cases q.symm.trans z;rcases w with w | w
  . rw[a]at w;cases w
  . exact Es b w
 cases S with
 | no _ e=>exact e
 | Ws w z e=>rw[e,<- m w];cases q.symm.trans z;rfl
 | loose _ _ _ e=>exact e
 | ring k z h d j=>exact no z h d
 | odd _ _ _ _ _ e=>exact e
 | cut k z h d j p o=>exact no z h d
def jS{st:Oo IB}(q:vB c f st=ε g)(w:cD r (vF c (wB c g) ls)=false)(S:Sh c ls N f a (.ring st r) v):v=false:=by
 rcases yZ q S with⟨e,_⟩ | e
 . exact e
 . rw[e,w]
set_option tactic.hygienic true in
theorem QR:∀st f g,vB c f (st++[a])=ε g->∃b,vB c f st=ε b/\vB c b [a]=ε g
 | [],f,g,e=>⟨f,rfl,e⟩
 | (i,k,j)::st,f,g,e=>by
  rw[Yi,wG]at e;split at e
  . cases e
  . rename_i n;obtain⟨b,d,e2⟩:=QR st _ g e;exact⟨b,by rw[wG,eH n];exact d,e2⟩
set_option tactic.hygienic true in
theorem jY(e:vB c f [a]=ε g):∃i k j:Nat,a=((i:Int),(k:Int),(j:Int))/\NF i k j/\i<c/\k<c/\j<c/\bB c f=false/\Wk f i k j≠f i j/\g=PB f i k j:=by
 obtain⟨i,k,j⟩:=a;rw[wG]at e;split at e
 . cases e
 . rename_i n;have t:MF c i k j=true:=by
    cases q:MF c i k j with
    | true=>rfl
    | false=>exact Es (.inr (.inl q)) n
   obtain⟨a,b,w,rfl,rfl,rfl,d,o,h,m⟩:=eM.mp t;cases e;refine⟨a,b,w,rfl,d,o,h,m,?_,fun z=>n (.inr (.inr z)),rfl⟩;cases q:bB c f with
   | false=>rfl
   | true=>exact Es (.inl q) n
def Yx(e:vB c f [a]=ε g):vB c g [a]=none:=by obtain⟨i,k,j,rfl,⟨m,d,h⟩,_,_,_,_,_,rfl⟩:=jY e;refine eG (.inr (.inr ?_));simp![ou];have l:Wk (PB f i k j) i k j=PB f i k j i j&&&FK (PB f i k j i k) (PB f i k j k j):=rfl;rw[l,fG f h,XF f (a:=i) (b:=k) (fun z=>d z.2) (fun z=>h z.1),XF f (a:=k) (b:=j) (fun z=>m z.1.symm) (fun z=>d z.1)];unfold Wk;rw[Nat.and_assoc,Nat.and_self]
def K7(D:c<=8)(u:∀x∈ls,x.1<c)(C:Ct c ls n f E t)(P:YI t t')(S:Sh c ls N f E t' v):v=false:=by
 have F:∃g,vB c f t.st=ε g:=by
  cases C with
  | Ws q _=>exact⟨_,q⟩
  | ring q _ _ _=>exact⟨_,q⟩
  | cut _ q _ _ _ _=>exact⟨_,q⟩
 cases P with
 | @bad _ a st H=>refine MY ?_ S;obtain⟨i,k,j⟩:=a;rw[lS,wG,eG (.inr (.inl (H c D)))]
 | @again _ st a e=>refine MY ?_ S;obtain⟨g,q⟩:=F;rw[e]at q ⊢;obtain⟨Q,q1,q2⟩:=QR _ _ _ q;rw[lS,fS _ _ _ _ q,Yx q2]
 | @less _ st a e=>obtain⟨g,q⟩:=F;rw[e]at q;obtain⟨Q,q1,q2⟩:=QR _ _ _ q;obtain⟨i,k,j,_,d,M,J,L,ne,n,_⟩:=jY q2;exact NY (by rw[lS];exact q1) (.inr fun z=>n (z i M k J j L d)) (fun s=>ne) S
 | @shut st _ e w=>
  cases C with
  | Ws q T=>exact NY (by rw[e];exact q) (.inl T) (fun z=>Es z w) S
  | cut h _ _ _ _ _=>exact h.elim
 | @thr st r=>
  cases C with
  | ring q ne B R=>rw[zZ q S,ne]
  | cut h _ _ _ _ _=>exact h.elim
 | @jb st r=>
  cases C with
  | @ring _ _ _ _ _ g q ne B R=>obtain⟨U,P,k,R,rfl⟩:=R;exact jS q (dh (KR (CI (wB c g) u) R)) S
  | cut h _ _ _ _ _=>exact h.elim
 | @jp st r=>
  cases C with
  | @ring _ _ _ _ _ g q ne B R=>obtain⟨U,P,k,R,rfl⟩:=R;exact jS q (Cz (KR (CI (wB c g) u) R)) S
  | cut h _ _ _ _ _=>exact h.elim
 | @jn st a b r x I=>
  cases C with
  | @ring _ _ _ _ _ g q ne B R=>exact jS q (kh D u I) S
  | cut h _ _ _ _ _=>exact h.elim
 | @odd _ _ h p e w=>
  cases C with
  | Ws _ _=>exact h.elim
  | ring _ _ _ _=>exact h.elim
  | cut _ q _ _ hs K=>
   rcases US p (by rw[e];exact q) S with⟨z,_⟩ | ⟨z,_⟩ | ⟨bs,Y,m,o,W,_⟩
   . exact z
   . exact z
   . rw[hs]at o;injection o with o
     injection o with O y
     injection y with y Z
     subst y;rcases w with w | w
     . exact Es (W.symm.trans K.len) w
     . exact Es O.symm w
inductive mG:nb->nb->Prop
 | here {t t'}:YI t t'->mG t t'
 | one {st bs i b b'}:bs[i]?=ε b->mG b b'->mG (.one st bs) (.one st (bs.set i b'))
 | split {st p bs i b b'}:bs[i]?=ε b->mG b b'->mG (.split st p bs) (.split st p (bs.set i b'))
theorem OY:∀{fs:Oo FA}{bs:Oo nb}{i:Nat}{b:nb}{v:Bool},Cts c ls n fs d bs->bs[i]?=ε b->(∀f v,Ct c ls n f d b->Sh c ls N f d g v->v=false)->YM c ls N fs d (bs.set i g) v->v=false
 | _,_,i,b,v,.nil,e,H,S=>by simp at e
 | _,_,0,b,v,.cons a r,e,H,S=>by
  simp at e;subst e;rw[Wa]at S;cases S with
  | no _=>rfl
  | yes s _=>exact Es (H _ _ a s) (by decide)
 | _,_,i+1,b,v,.cons a r,e,H,S=>by
  rw[Wu]at S;cases S with
  | no _=>rfl
  | yes _ s=>exact OY r (by simpa using e) H s
def Ld(u:c<=8)(r:∀x∈ls,x.1<c)(P:mG t t'):∀{n:Nat}{f:FA}{d:Oo (Oo UB)},Ct c ls n f d t->∀{N:Nat}{v:Bool},Sh c ls N f d t' v->v=false:=by
 have o:∀{n N:Nat}{f:FA}{d:Oo (Oo UB)}{t t' b j:nb}{i:Nat}{v:Bool},cF t->cF t'->t'.st=t.st->AD t'=AD t->t'.kids=t.kids.set i j->t.kids[i]?=ε b->(∀{n:Nat}{f:FA}{d:Oo (Oo UB)},Ct c ls n f d b->∀{N:Nat}{v:Bool},Sh c ls N f d j v->v=false)->Ct c ls n f d t->Sh c ls N f d t' v->v=false:=by
  intro n N f d t t' b j i v k h D e2 B y H C S;cases C with
  | Ws _ _=>exact k.elim
  | ring _ _ _ _=>exact k.elim
  | cut _ q _ _ hs K=>
   rcases US h (by rw[D];exact q) S with⟨z,_⟩ | ⟨z,_⟩ | ⟨bs,E,m,g,F,p⟩
   . exact z
   . exact z
   . rw[e2,hs]at g;cases g;rw[B]at p;exact OY K y (fun f v a s=>H a s) p
 induction P with
 | here P=>intro n f d C N v S;exact K7 u r C P S
 | one e P ih=>intro n f d C N v S;refine o ?_ ?_ ?_ ?_ ?_ e ih C S<;>first | exact trivial | rfl
 | split e P ih=>intro n f d C N v S;refine o ?_ ?_ ?_ ?_ ?_ e ih C S<;>first | exact trivial | rfl
def wK{a rest:RS}(e:t l h=ε (true,h1))(b:a l h1=ε (.rt d h2)):vC (jA (bC t a SA) rest l h)=ε (d,h2):=by simp![YA,FB,e,fA,eO,b,xE,HB]
def LX(xs)(x):SM.fC (xs++[x]) none (ε (-1))=xs:=by unfold SM.fC HT.sIx;simp;rw[show(-1+((xs.length:Int)+1)).toNat=xs.length by omega,take_left]
def lJ(a:k<xs.length):∃d,xs[k]?=ε d/\nA (.lst xs) (.int (k:Nat)) h=ε (d,h):=by refine⟨xs[k],by simp[a],?_⟩;rw[VI,SM.PD,jo a];rfl
structure L6(h:HI)(t:nb)(d s:Dt)(rest:List Dt):Prop where
 eq:d=.tup (.str t.wd::s::rest)
 st:yA h s=ε (t.st.map pC)
 cut:∀l H,l[0]?=ε (ε d)->DC (eV 0) (WB (nS 2)) LD l H=ε (.tup rest,H)
 cat:∀x H,GD (.tup [.str t.wd,x]) (.tup rest) H=ε (.tup (.str t.wd::x::rest),H)
 at_:∀x st',yA h x=ε (st'.map pC)->my h (XE t st') (.tup (.str t.wd::x::rest))
def my.parts(q:my h t d):∃s rest,L6 h t d s rest:=by
 have g:∀(a i:Oo Dt),SM.fC a (ε 2) none=i->¬(HT.sIx a.length 0 (ε 2)=0/\HT.sIx a.length a.length none=a.length)->∀(l:LI)(H:HI),l[0]?=ε (ε (.tup a))->DC (eV 0) (WB (nS 2)) LD l H=ε (.tup i,H):=by
  intro a i e n l H k;have:DC (eV 0) (WB (nS 2)) LD l H=(if ¬(HT.sIx a.length 0 (ε 2)=0/\HT.sIx a.length a.length none=a.length)then ε (.tup (SM.fC a (ε 2) none),H)else none):=by unfold DC eV;rw[k];rfl
  rw[this,eG n,e]
 cases t with
 | Ws st=>simp![my]at q;obtain⟨s,rfl,e⟩:=q;exact⟨s,[],rfl,e,g _ _ rfl (show ¬(HT.sIx 2 0 (ε 2)=0/\HT.sIx 2 2 none=2) by decide),fun z z=>rfl,fun x b f=>by simp![XE,my];exact⟨x,rfl,f⟩⟩
 | ring st r=>simp![my]at q;obtain⟨s,x,rfl,e,ex,j⟩:=q;exact⟨s,[x],rfl,e,g _ _ rfl (show ¬(HT.sIx 3 0 (ε 2)=0/\HT.sIx 3 3 none=3) by decide),fun z z=>rfl,fun y b f=>by simp![XE,my];exact⟨y,x,rfl,f,ex,j⟩⟩
 | one st bs=>simp![my]at q;obtain⟨s,x,ds,rfl,e,ex,F⟩:=q;exact⟨s,[x],rfl,e,g _ _ rfl (show ¬(HT.sIx 3 0 (ε 2)=0/\HT.sIx 3 3 none=3) by decide),fun z z=>rfl,fun y b f=>by simp![XE,my];exact⟨y,x,ds,rfl,f,ex,F⟩⟩
 | split st p bs=>simp![my]at q;obtain⟨s,x,ds,rfl,e,ex,F⟩:=q;exact⟨s,[.int (p.1:Nat),.int (p.2:Nat),x],rfl,e,g _ _ rfl (show ¬(HT.sIx 5 0 (ε 2)=0/\HT.sIx 5 5 none=5) by decide),fun z z=>rfl,fun y b f=>by simp![XE,my];exact⟨y,x,ds,rfl,f,ex,F⟩⟩
noncomputable def gu:Oo IB:=[(-1,0,1),(1,-2,0),(0,1,8),(1,0,1),(0,1,10^30),(0,0,1)]
def aT(h:¬(i≠k/\k≠j/\i≠j)):Z0 (i,k,j):=fun c q=>by unfold MF;rw[iu h,Hs]
def RP(h:i<0\/k<0\/8<=j):Z0 (i,k,j):=fun c a=>by unfold MF;rw[iu (p:=(0<=i/\i<(c:Int))/\(0<=k/\k<(c:Int))/\0<=j/\j<(c:Int)) nofun,Hu]
def Ww:∀a∈gu,Z0 a:=by
 intro a b;simp![gu,Bu,not_mem_nil,or_false]at b;rcases b with rfl | rfl | rfl | rfl | rfl | rfl
 . exact RP (by decide)
 . exact RP (by decide)
 . exact RP (by decide)
 . exact aT (by decide)
 . exact RP (.inr (.inr (by decide +kernel)))
 . exact aT (by decide)
def KM(h:n<=3000):n<=sizeLine:=by simp[sizeLine];omega
def kS{b:Type}{xs:Oo b}(h:xs ≠ []):∃a y,xs=a++[y]:=by
 rcases eq_nil_or_concat xs with z | ⟨a,y,z⟩
 . exact Es z h
 . exact⟨a,y,by rw[z,concat_eq_append]⟩
def cQ{t:nb}(e:l[2]?=ε (ε (.str t.wd)))(v):mn (e2 QA (eV 2) (eC (.str v))) l h=ε (decide (t.wd=v),h):=by simp![IA,oA,gA,pA,e,iA,fA,BE,NA]
def NM(e:l[4]?=ε (ε (.int (k:Nat))))(v):mn (e2 QA (eV 4) (eC (.int (v:Nat)))) l h=ε (decide (k=v),h):=by have:decide ((k:Int)=(v:Int))=decide (k=v):=decide_eq_decide.mpr nofun;simp![IA,oA,gA,pA,e,iA,fA,lD,this,NA]
def QP(g:0<a/\a<100)(f:0<b)(e:l[1]?=ε (ε (.int (N:Nat)))):e2 lB (e2 NB (eV 1) (eC (.int (a:Nat)))) (eC (.int (b:Nat))) l h=ε (.int ((N/a%b:Nat):Int),h):=by have d:=UG (h:=h) (i:=(N:Int)) (j:=(a:Int)) ⟨by omega,by omega⟩;have m:=YD (h:=h) (i:=(N:Int)/(a:Int)) (show(0:Int)<(b:Int) by omega);simp![oA,gA,pA,e,iA,fA,d,m];rfl
theorem gZ:∀{a b:Oo nb}{x y:Oo Dt},Vo h a x->Vo h b y->Vo h (a++b) (x++y)
 | [],b,x,y,p,q=>by simp![Vo]at p;subst p;exact q
 | t::a,b,x,y,p,q=>by simp![Vo]at p;obtain⟨d,r,rfl,f,e⟩:=p;simp![Yi,Vo];exact⟨d,_,rfl,f,gZ e q⟩
theorem mS:∀{a:Oo nb}{x:Oo Dt}(k:Nat),Vo h a x->Vo h (a.take k) (x.take k)
 | [],x,k,p=>by simp![Vo]at p;subst p;simp![take_nil,Vo]
 | t::a,x,0,p=>by simp![take_zero,Vo]
 | t::a,x,k+1,p=>by simp![Vo]at p;obtain⟨d,r,rfl,e,b⟩:=p;simp![take_succ_cons,Vo];exact⟨d,_,rfl,e,mS k b⟩
def HW(h:xs ≠ []):SM.fC xs none (ε (-1))=xs.take (xs.length-1):=by obtain⟨a,y,rfl⟩:=kS h;rw[LX];simp
def qP(a:l[0]?=ε (ε d))(hd:d=.tup xs)(e:SM.fC xs none (ε (-1))=ys)(n:¬(HT.sIx xs.length 0 none=0/\HT.sIx xs.length xs.length (ε (-1))=xs.length)):DC (eV 0) LD (WB (dB (nS 1))) l H=ε (.tup ys,H):=by
 have:DC (eV 0) LD (WB (dB (nS 1))) l H=(if ¬(HT.sIx xs.length 0 none=0/\HT.sIx xs.length xs.length (ε (-1))=xs.length)then ε (.tup (SM.fC xs none (ε (-1))),H)else none):=by unfold DC eV;rw[a,hd];rfl
 rw[this,eG n,e]
def vO(t)(st):MA (XE t st)<=MA t:=by cases t<;>simp![XE,MA]<;>exact Va _
theorem wR:∀k a,DB (a.take k)<=DB a
 | 0,_=>by rw[take_zero];simp![DB];exact nW _
 | _+1,[]=>Va _
 | k+1,t::a=>by have:=wR k a;simp![take_succ_cons,DB];omega
theorem NX:∀a b,DB (a++b)=max (DB a) (DB b)
 | [],b=>by rw[Ye,DB,Nat.zero_max]
 | t::a,b=>by rw[Yi,DB,DB,NX a b,Nat.max_assoc]
theorem OX(h:MA a<=MA b):∀{bs:Oo nb}{i:Nat},bs[i]?=ε b->DB (bs.set i a)<=DB bs
 | [],_,e=>by simp at e
 | t::bs,0,e=>by simp at e;subst e;simp![Wa,DB];omega
 | t::bs,i+1,e=>by have:=OX h (bs:=bs) (i:=i) (by simpa using e);simp![Wu,DB];omega
def J0(ex:yA h x=ε ds)(F:Vo j bs ds)(b0:(!bs.isEmpty)=true)(E:bs.length<=1000)(o:l[1]?=ε (ε (.int (N:Nat))))(n:l[8]?=ε (ε x)) :
 ∃d ds',d.length≠bs.length/\DB d<=DB bs/\EA (aA (e2 nA (AB (aA (IE (eV 8) LD (WB (dB (nS 1)))) (aA (e2 iC (eV 8) (IE (eV 8) LD (WB (nS 1)))) dA))) (e2 lB (e2 NB (eV 1) (nS 5)) (nS 2))) dA) l h=ε (.tup [.lst ds'],h)/\Vo j d ds':=by
 have f:=F.len;have D:0<bs.length:=by
  cases bs with
  | nil=>cases b0
  | cons _ _=>simp
 have q:ds ≠ []:=fun z=>by rw[z]at f;simp at f;omega
 have C:=HW q;have B:SM.fC ds none (ε 1)=ds.take 1:=nZ ds 1;have u:iC x (.lst (ds.take 1)) h=ε (.lst (ds++ds.take 1),h):=by simp![iC,ex,DF,Wo,eG (KM (show ds.length+(ds.take 1).length<=3000 by rw[Di];omega))]
 have V:AB (aA (IE (eV 8) LD (WB (dB (nS 1)))) (aA (e2 iC (eV 8) (IE (eV 8) LD (WB (nS 1)))) dA)) l h=ε (.lst [.lst (ds.take (ds.length-1)),.lst (ds++ds.take 1)],h):=by dsimp![kE,zA,xA,oA,pA,gA,dF,QE,WI,AK,zK,VJ,n,iA,ex,Vu,C,B,u,JH]
 have i:=QP (h:=h) (N:=N) (a:=5) (b:=2) (by decide) (by decide) o;simp![Io]at i;obtain⟨r,g,m⟩:=lJ (h:=h) (xs:=[.lst (ds.take (ds.length-1)),.lst (ds++ds.take 1)]) (k:=N/5%2) (show N/5%2<2 by omega);have e:∀y,r=.lst y->EA (aA (e2 nA (AB (aA (IE (eV 8) LD (WB (dB (nS 1)))) (aA (e2 iC (eV 8) (IE (eV 8) LD (WB (nS 1)))) dA))) (e2 lB (e2 NB (eV 1) (nS 5)) (nS 2))) dA) l h=ε (.tup [.lst y],h):=fun y p=>by rw[AC,zA,oA,V,fA,i,fA,m,p];dsimp![xA,vN]
 rcases(show N/5%2=0\/N/5%2=1 by omega)with z | z<;>rw[z]at g<;>cases g
 . exact⟨bs.take (bs.length-1),_,by rw[Di];omega,wR _ _,e _ rfl,by rw[f];exact mS _ F⟩
 . exact⟨bs++bs.take 1,_,by rw[jj,Di];omega,by have:=wR 1 bs;rw[NX];omega,e _ rfl,gZ F (mS 1 F)⟩
noncomputable abbrev K8(d:Dt)(N:Nat)(w:Str)(s x:Dt):LI:=[ε d,ε (.int (N:Nat)),ε (.str w),ε s,ε (.int ((N%5:Nat):Int)),none,none,none,ε x]
def mj(ft:my S t d)(u:mu S h)(I:rC t=true)(N):∃o n,cL [d,.int (N:Nat)] h=ε (o,h)/\my S n o/\YI t n/\MA n<=MA t:=by
 obtain⟨s,rest,P⟩:=ft.parts;obtain⟨g,i0,i1,m⟩:=ft.hd;have es:=cE u m;have sl:t.st.length<=1000:=by cases t<;>simp![rC,w6,decide_eq_true_eq]at I<;>first | exact I | exact I.1 | exact I.1.1
 have ss:g=s:=by have:=i1 h;rw[P.eq]at this;simp![kC,DG,Ui,Ti,Vu,Ge,xr,and_true]at this;exact this.symm
 subst ss;obtain⟨L,D⟩:∃L:O4 Dt->O4 Dt->LI,∀y z,L y z=[ε d,ε (.int (N:Nat)),ε (.str t.wd),ε g,ε (.int ((N%5:Nat):Int)),y,z,none,none]:=⟨_,fun v v=>rfl⟩
 have l0:∀y z,(L y z)[0]?=ε (ε d):=fun y z=>by rw[D];rfl
 have l1:∀y z,(L y z)[1]?=ε (ε (.int (N:Nat))):=fun y z=>by rw[D];rfl
 have l2:∀y z,(L y z)[2]?=ε (ε (.str t.wd)):=fun y z=>by rw[D];rfl
 have Z:∀y z,(L y z)[3]?=ε (ε g):=fun y z=>by rw[D];rfl
 have l4:∀y z,(L y z)[4]?=ε (ε (.int ((N%5:Nat):Int))):=fun y z=>by rw[D];rfl
 have l5:∀y z,(L (ε y) z)[5]?=ε (ε y):=fun y z=>by rw[D];rfl
 have l6:∀y z,(L y (ε z))[6]?=ε (ε z):=fun y z=>by rw[D];rfl
 have m5:=YD (h:=h) (i:=(N:Int)) (show(0:Int)<5 by decide);have fl:=xP es;rw[ni]at fl;have h0:=fun y z=>NM (h:=h) (l4 y z) 0
 have h1:=fun y z=>NM (h:=h) (l4 y z) 1
 have h2:=fun y z=>NM (h:=h) (l4 y z) 2
 simp![Io]at h0 h1 h2;have cat:∀ys:Oo IB,ys.length<=3->iC g (.lst (ys.map pC)) h=ε (.lst ((t.st++ys).map pC),h):=fun ys hy=>by simp![iC,es,DF,Wo,ni,eG (KM (show t.st.length+ys.length<=3000 by omega)),Gu]
 have a4:∀a:IB,iC (.lst [pC a]) g h=ε (.lst ((a::t.st).map pC),h):=fun a=>by simp![iC,es,DF,Wo,ni,Ua,Vi,eG (KM (show 0+1+t.st.length<=3000 by omega)),Uu,Yi,Ye]
 have U:∀(f:RE)(y z:O4 Dt)(a0:Oo IB),f (L y z) h=ε (.lst (a0.map pC),h)->wA (e2 GD (EA (aA (eV 2) (aA f dA))) (DC (eV 0) (WB (nS 2)) LD)) (L y z) h=ε (.rt (.tup (.str t.wd::.lst (a0.map pC)::rest)) h):=fun f y z a0 e=>by dsimp![qB,oA,AC,zA,xA,gA,l2,iA,e,JH,P.cut _ _ (l0 y z),P.cat]
 have e1:e2 nA (eV 0) (nS 0) [ε d,ε (.int (N:Nat)),none,none,none,none,none,none,none] h=ε (.str t.wd,h):=by simp![oA,gA,pA,Ti,iA,fA,i0]
 have a6:e2 nA (eV 0) (nS 1) [ε d,ε (.int (N:Nat)),ε (.str t.wd),none,none,none,none,none,none] h=ε (g,h):=by simp![oA,gA,pA,Ti,iA,fA,i1]
 have e3:e2 lB (eV 1) (nS 5) [ε d,ε (.int (N:Nat)),ε (.str t.wd),ε g,none,none,none,none,none] h=ε (.int ((N%5:Nat):Int),h):=by simp![oA,gA,pA,Ti,Ui,iA,fA,m5];rfl
 have fn:∀R,vC (uU [ε d,ε (.int (N:Nat)),none,none,none,none,none,none,none] h)=R->cL [d,.int (N:Nat)] h=R:=fun R e=>by rw[<- e];simp![cL,zB,Ua,Vi,eO,Uu (f:=some),Xi (f:=some),Nat.reduceAdd,Nat.reduceSub,List.replicate,Yi,Ye]
 have E:=fn _ (uE e1 rfl (uE a6 rfl (uE e3 (D none none).symm rfl)));rw[E];have Y:∀y z w,(L y z).set 5 (ε w)=L (ε w) z:=fun y z w=>by rw[D,D];rfl
 have a3:∀y z w,(L y z).set 6 (ε w)=L y (ε w):=fun y z w=>by rw[D,D];rfl
 have z0:∀y z,mn (e2 QA (GB eB (eV 3)) (nS 0)) (L y z) h=ε (decide (t.st=[]),h):=fun y z=>by have:decide ((t.st.length:Int)=0)=decide (t.st=[]):=decide_eq_decide.mpr (by rw[<- length_eq_zero_iff];omega);simp![IA,oA,LB,gA,pA,Z,iA,fA,fl,lD,this,NA]
 by_cases c1:N%5=0\/(N%5=1/\t.st=[])
 . have T:XB (mn (e2 QA (eV 4) (nS 0))) (KF (mn (e2 QA (eV 4) (nS 1))) (mn (e2 QA (GB eB (eV 3)) (nS 0)))) (L none none) h=ε (true,h):=by
    rw[HD,h0,fA];by_cases c0:N%5=0
    . rw[je c0];rfl
    . obtain⟨a,b⟩:=c1.resolve_left c0;rw[iu c0,eH Xe,wH,h1,je a,fA,eG rfl,z0,je b]
   have t5:EA (aA (nS 0) (aA (nS 0) (aA (nS 1) dA))) (L none none) h=ε (pC (0,0,1),h):=rfl;have S:mn (e2 pN (GB eB (eV 3)) (nS 0)) (L (ε (pC (0,0,1))) none) h=ε (decide (0<t.st.length),h):=by have:decide ((0:Int)<(t.st.length:Int))=decide (0<t.st.length):=decide_eq_decide.mpr nofun;simp![IA,oA,LB,gA,pA,Z,iA,fA,fl,jI,this,NA]
   have a5:∀(a:IB)(ys:Oo IB),t.st=ys++[a]->e2 nA (eV 3) (dB (nS 1)) (L (ε (pC (0,0,1))) none) h=ε (pC a,h):=fun a ys e=>by have ix:=YX (h:=h) (d0:=g) (xs:=ys.map pC) (d:=pC a) (by rw[es,e,Gu];rfl);simp![oA,gA,pA,dF,QE,Z,iA,fA,ix]
   have app:∀a:IB,e2 iC (eV 3) (AB (aA (eV 5) dA)) (L (ε (pC a)) none) h=ε (.lst ((t.st++[a]).map pC),h):=fun a=>by dsimp![oA,gA,kE,zA,xA,Z,l5,iA,vN];exact cat [a] ⋯
   by_cases z:t.st=[]
   . rw[z,Vi]at S;have a1:=U _ _ _ _ (app (0,0,1));rw[z,Ye]at a1;refine⟨_,XE t [(0,0,1)],wK T ?_,P.at_ (.lst ([(0,0,1)].map pC)) _ rfl,.bad (aT (by decide)),vO _ _⟩;rw[OC t5 (Y _ _ _),gD S];exact a1
   . obtain⟨ys,a,e⟩:=kS z;rw[je (by rw[e];simp)]at S;refine⟨_,XE t (t.st++[a]),wK T ?_,P.at_ (.lst ((t.st++[a]).map pC)) _ rfl,.again e,vO _ _⟩;rw[OC t5 (Y _ _ _)];simp![YA,FB,S,fA,eO,MB,a5 a ys e,jB,Y];exact U _ _ _ _ (app a)
 . have T:XB (mn (e2 QA (eV 4) (nS 0))) (KF (mn (e2 QA (eV 4) (nS 1))) (mn (e2 QA (GB eB (eV 3)) (nS 0)))) (L none none) h=ε (false,h):=by
    rw[HD,h0,fA,iu fun z=>c1 (.inl z),eH Xe,wH,h1,fA];by_cases c0:N%5=1
    . rw[je c0,eG rfl,z0,iu fun z=>c1 (.inr ⟨c0,z⟩)]
    . rw[iu c0,eH Xe]
   have T1:=h1 none none;have T2:=h2 none none;by_cases c2:N%5=1
   . rw[je c2]at T1;obtain⟨ys,a,e⟩:=kS fun z=>c1 (.inr ⟨c2,z⟩)
     have sl:IE (eV 3) LD (WB (dB (nS 1))) (L none none) h=ε (.lst (ys.map pC),h):=by
      have:SM.fC (t.st.map pC) none (ε (-1))=ys.map pC:=by rw[e,Gu];exact LX _ _
      simp![WI,AK,zK,dF,pA,QE,gA,Z,iA,fA,VJ,es,Vu,this]
     exact⟨_,XE t ys,KC T (wK T1 (U _ _ _ _ sl)),P.at_ (.lst (ys.map pC)) _ rfl,.less e,vO _ _⟩
   rw[iu c2]at T1;by_cases c3:N%5=2
   . rw[je c3]at T2;have wl:AB (aA (EA (aA (dB (nS 1)) (aA (nS 0) (aA (nS 1) dA)))) (aA (EA (aA (nS 1) (aA (dB (nS 2)) (aA (nS 0) dA)))) (aA (EA (aA (nS 0) (aA (nS 1) (aA (nS 8) dA)))) (aA (EA (aA (nS 1) (aA (nS 0) (aA (nS 1) dA)))) (aA (EA (aA (nS 0) (aA (nS 1) (aA (e2 dH (nS 10) (nS 30)) dA)))) (aA (EA (aA (nS 0) (aA (nS 0) (aA (nS 1) dA)))) dA)))))) (L none none) h=ε (.lst (gu.map pC),h):=by
      have p:=O0 (h:=h) (i:=10) (j:=30) (by decide);have a7:6<=sizeLine:=by decide
      dsimp![kE,zA,xA,AC,oA,pA,dF,QE,p,HK,a7];rfl
     obtain⟨dw,C,J⟩:=lJ (h:=h) (xs:=gu.map pC) (k:=N/5%6) (show N/5%6<6 by omega);rw[w5]at C;obtain⟨a,wa,rfl⟩:=Gi.mp C;have ii:=QP (h:=h) (N:=N) (a:=5) (b:=6) (by decide) (by decide) (l1 none none);simp![Io]at ii;have pk:∀(f:RE),f (L none none) h=ε (.lst (gu.map pC),h)->e2 nA f (e2 lB (e2 NB (eV 1) (nS 5)) (nS 6)) (L none none) h=ε (pC a,h):=fun f e=>by rw[oA,e,fA,ii,fA,J]
     have ap:e2 iC (AB (aA (eV 6) dA)) (eV 3) (L none (ε (pC a))) h=ε (.lst ((a::t.st).map pC),h):=by dsimp![oA,gA,kE,zA,xA,Z,l6,iA,vN];exact a4 a
     refine⟨_,XE t (a::t.st),KC T (KC T1 (wK T2 ?_)),P.at_ (.lst ((a::t.st).map pC)) _ rfl,.bad (Ww a (m6 wa)),vO _ _⟩;rw[OC (pk _ wl) (a3 _ _ _)];exact U _ _ _ _ ap
   . rw[iu c3]at T2;rw[gD T,gD T1,gD T2];have W1:=cQ (h:=h) (l2 none none) "threes";have W2:=cQ (h:=h) (l2 none none) "ring";have pk:∀(f:RE)(l:LI)(xs:Oo Dt)(b:Nat),0<b->l[1]?=ε (ε (.int (N:Nat)))->f l h=ε (.lst xs,h)->xs.length=b->∃o,xs[N/5%b]?=ε o/\∀k:Int,k=b->e2 nA f (e2 lB (e2 NB (eV 1) (nS 5)) (eC (.int k))) l h=ε (o,h):=fun f l xs b hb h1 e hl=>by obtain⟨o,C,J⟩:=lJ (h:=h) (xs:=xs) (k:=N/5%b) (by rw[hl];exact Ka _ hb);have ii:=QP (h:=h) (N:=N) (a:=5) (b:=b) (by decide) hb h1;simp![Io]at ii;exact⟨o,C,fun k hk=>by rw[hk,oA,e,fA,ii,fA,J]⟩
     have b5:5<=sizeLine:=by decide
     have b6:4<=sizeLine:=by decide
     clear E fn e1 a6 e3 z0 Y a3 U cat a4 h0 h1 h2 T T1 T2 fl l2 l4 l5 l6 P i0 sl;cases t with
     | Ws st=>
      rw[show decide (nb.wd (.Ws st) = "threes")=true from je rfl]at W1;have V:AB (aA (EA (aA (eC (.str "ring")) (aA (eV 3) (aA (AB (aA (nS 0) (aA (nS 1) (aA (nS 0) dA)))) dA)))) (aA (EA (aA (eC (.str "one")) (aA (eV 3) (aA (AB dA) dA)))) (aA (EA (aA (eC (.str "split")) (aA (eV 3) (aA (nS 0) (aA (nS 1) (aA (AB dA) dA)))))) dA))) (L none none) h=ε (.lst [.tup [.str "ring",g,.lst [.int 0,.int 1,.int 0]],.tup [.str "one",g,.lst []],.tup [.str "split",g,.int 0,.int 1,.lst []]],h):=o4 (lI rfl (ev (Z none none)) rfl) (lI rfl (ev (Z none none)) rfl) (J5 rfl (ev (Z none none)) rfl rfl rfl);obtain⟨o,C,J⟩:=pk _ _ _ 3 (by decide) (l1 none none) V rfl
      suffices M:∃n,my S n o/\n.st=st/\n.wd≠("threes" :Str)/\MA n<=MA (.Ws st) by obtain⟨n,a,b,w,dp⟩:=M;exact⟨o,n,JC W1 (J 3 rfl),a,.shut b w,dp⟩
      rcases(show N/5%3=0\/N/5%3=1\/N/5%3=2 by omega)with z | z | z<;>rw[z]at C<;>cases C
      . exact⟨.ring st [0,1,0],by simp![my];exact⟨_,_,rfl,m,rfl,by decide⟩,rfl,by show("ring" :Str) ≠ "threes";decide,by simp[MA,DB]⟩
      . exact⟨.one st [],by simp![my,Vo];exact⟨_,_,[],rfl,m,rfl,rfl⟩,rfl,by show("one" :Str) ≠ "threes";decide,by simp[MA,DB]⟩
      . exact⟨.split st (0,1) [],by simp![my,Vo];exact⟨_,_,[],rfl,m,rfl,rfl⟩,rfl,by show("split" :Str) ≠ "threes";decide,by simp[MA,DB]⟩
     | ring st r=>
      rw[show decide (nb.wd (.ring st r) = "ring")=true from je rfl]at W2;rw[show decide (nb.wd (.ring st r) = "threes")=false from(by show decide (("ring" :Str) = "threes")=false;decide +kernel)]at W1;rw[gD W1];simp![my]at ft;obtain⟨s1,x,hd,_,B,rl⟩:=ft;have ex:=cE u B;simp![rC,w6,decide_eq_true_eq]at I;obtain⟨a,b,r,rfl⟩:=DZ I.2.1;have hr:=I.2.2;simp![Ua]at hr;have i2:∀H,nA d (.int 2) H=ε (x,H):=fun H=>by rw[hd];rfl
      obtain⟨K,hK⟩:∃K:O4 Dt->LI,∀z,K z=[ε d,ε (.int (N:Nat)),ε (.str "ring"),ε g,ε (.int ((N%5:Nat):Int)),none,z,ε x,none]:=⟨_,fun v=>rfl⟩
      have k1:∀z,(K z)[1]?=ε (ε (.int (N:Nat))):=fun z=>by rw[hK];rfl
      have k2:∀z,(K z)[2]?=ε (ε (.str "ring")):=fun z=>by rw[hK];rfl
      have k3:∀z,(K z)[3]?=ε (ε g):=fun z=>by rw[hK];rfl
      have k6:∀z,(K (ε z))[6]?=ε (ε z):=fun z=>by rw[hK];rfl
      have k7:∀z,(K z)[7]?=ε (ε x):=fun z=>by rw[hK];rfl
      have s7:e2 nA (eV 0) (nS 2) (L none none) h=ε (x,h):=by simp![oA,gA,pA,l0,iA,fA,i2]
      have b2:SM.fC ((a::b::r).map Dt.int) none (ε 1)=[.int a]:=nZ _ 1;have b4:SM.fC ((a::b::r).map Dt.int) (ε 1) none=(b::r).map Dt.int:=QJ _ 1;have b3:SM.fC ((a::b::r).map Dt.int) (ε 2) none=r.map Dt.int:=QJ _ 2;have cl:SM.fC ((a::b::r).map Dt.int) none (ε (-1))=((a::b::r).dropLast).map Dt.int:=by rw[HW ⋯,dropLast_eq_take,map_take,ni]
      have b1:=O0 (h:=h) (i:=10) (j:=30) (by decide);have O:∃y:Int,(y<0\/16<=y)/\e2 nA (AB (aA (dB (nS 1)) (aA (nS 16) (aA (e2 dH (nS 10) (nS 30)) dA)))) (e2 lB (e2 NB (eV 1) (nS 25)) (nS 3)) (K none) h=ε (.int y,h):=by
       have V:AB (aA (dB (nS 1)) (aA (nS 16) (aA (e2 dH (nS 10) (nS 30)) dA))) (K none) h=ε (.lst [.int (-1),.int 16,.int (10^30)],h):=by dsimp![kE,zA,xA,oA,pA,dF,QE,b1,HK];rfl
       obtain⟨o,C,J⟩:=lJ (h:=h) (xs:=[.int (-1),.int 16,.int (10^30)]) (k:=N/25%3) (show N/25%3<3 by omega);have ii:=QP (h:=h) (N:=N) (a:=25) (b:=3) (by decide) (by decide) (k1 none);simp![Io]at ii;have e:∀y,o=.int y->e2 nA (AB (aA (dB (nS 1)) (aA (nS 16) (aA (e2 dH (nS 10) (nS 30)) dA)))) (e2 lB (e2 NB (eV 1) (nS 25)) (nS 3)) (K none) h=ε (.int y,h):=fun y e=>by rw[oA,V,fA,ii,fA,J,e]
       rcases(show N/25%3=0\/N/25%3=1\/N/25%3=2 by omega)with z | z | z<;>rw[z]at C<;>cases C
       . exact⟨-1,by decide,e _ rfl⟩
       . exact⟨16,by decide,e _ rfl⟩
       . exact⟨10^30,.inr (by decide +kernel),e _ rfl⟩
      obtain⟨y,hy,ey⟩:=O;have c1:iC (.lst [.int a]) (.lst [.int y]) h=ε (.lst [.int a,.int y],h):=UP (xs:=[.int a]) (ys:=[.int y]) JH;have c2:iC (.lst [.int a,.int y]) (.lst (r.map Dt.int)) h=ε (.lst ((a::y::r).map Dt.int),h):=UP (xs:=[.int a,.int y]) (KM (by simp;omega));have c3:iC x (.lst ((b::r).map Dt.int)) h=ε (.lst (((a::b::r)++(b::r)).map Dt.int),h):=by simp![iC,ex,DF,Wo,ni,eG (KM (show(a::b::r).length+(b::r).length<=3000 by simp;omega)),Gu]
      have n1:∀(z:O4 Dt),WB (dB (nS 1)) (K z) h=ε (ε (-1),h):=fun v=>rfl
      have s6:=bN (op:=iC) (bN (op:=iC) (bQ (ev (k7 none)) ex (lo:=LD) rfl (hi:=WB (nS 1)) rfl b2) (Z3 ey) c1) (bQ (ev (k7 none)) ex (lo:=WB (nS 2)) rfl (hi:=LD) rfl b3) c2;have V:=A4 (oU (a:=eC (.str "threes")) (A:=.str "threes") rfl (ev (k3 (ε (.lst ((a::y::r).map Dt.int)))))) (lI (ev (k2 _)) (ev (k3 _)) (bQ (ev (k7 _)) ex (lo:=LD) rfl (n1 _) cl)) (lI (ev (k2 _)) (ev (k3 _)) (ev (k6 _))) (lI (ev (k2 _)) (ev (k3 _)) (bN (op:=iC) (ev (k7 _)) (bQ (ev (k7 _)) ex (lo:=WB (nS 1)) rfl (hi:=LD) rfl b4) c3));obtain⟨o,C,J⟩:=pk _ _ _ 4 (by decide) (k1 _) V rfl
      suffices M:∃n,my S n o/\YI (.ring st (a::b::r)) n/\MA n<=MA (.ring st (a::b::r)) by
       obtain⟨n,p,q,dp⟩:=M;exact⟨o,n,wK W2 (by
        rw[OC s7 (l':=K none) (by rw[D,hK];rfl),OC s6 (l':=K (ε (.lst ((a::y::r).map Dt.int)))) (by rw[hK,hK];rfl),qB,J 4 rfl];rfl),p,q,dp⟩
      rcases(show N/5%4=0\/N/5%4=1\/N/5%4=2\/N/5%4=3 by omega)with z | z | z | z<;>rw[z]at C<;>cases C
      . exact⟨.Ws st,by simp![my];exact⟨_,rfl,m⟩,.thr,by simp[MA]⟩
      . exact⟨.ring st (a::b::r).dropLast,by simp![my];exact⟨_,_,rfl,m,rfl,by simp;omega⟩,.jb,by simp[MA]⟩
      . exact⟨.ring st (a::y::r),by simp![my];exact⟨_,_,rfl,m,rfl,by simp;omega⟩,.jn hy,by simp[MA]⟩
      . exact⟨.ring st ((a::b::r)++(b::r)),by simp![my];exact⟨_,_,rfl,m,rfl,by simp;omega⟩,.jp,by simp[MA]⟩
     | one st bs=>
      rw[show decide (nb.wd (.one st bs) = "ring")=false from(by show decide (("one" :Str) = "ring")=false;decide +kernel)]at W2;rw[show decide (nb.wd (.one st bs) = "threes")=false from(by show decide (("one" :Str) = "threes")=false;decide +kernel)]at W1;rw[gD W1,gD W2];simp![my]at ft;obtain⟨s1,x,ds,hd,_,B,F⟩:=ft;have ex:=cE u B;simp![rC,w6,decide_eq_true_eq]at I;have s8:e2 nA (eV 0) (dB (nS 1)) (L none none) h=ε (x,h):=by
       have hm:∀H,nA d (.int (-1)) H=ε (x,H):=fun H=>by rw[hd];rfl
       simp![oA,gA,pA,dF,QE,l0,iA,fA,hm]
      rw[OC (l':=K8 d N "one" g x) s8 (by rw[D];rfl)];obtain rfl:g=s1:=by have:=i1 h;rw[hd]at this;cases this;rfl
      have Q:=NM (h:=h) (k:=N%5) (l:=K8 d N "one" g x) rfl 3;simp![Io]at Q;by_cases c4:N%5=3
      . rw[je c4]at Q;obtain⟨a2,W,ne,dk,e',F'⟩:=J0 (N:=N) (l:=K8 d N "one" g x) ex F I.2.1.1 I.2.1.2 rfl rfl;refine⟨.tup [.str "one",g,.lst W],.one st a2,JC Q ?_,by simp![my];exact⟨_,_,W,rfl,m,rfl,F'⟩,.odd trivial trivial rfl (.inl ne),by simp![MA];omega⟩;rw[oA,qP (l:=K8 d N "one" g x) rfl hd (ys:=[.str "one",g]) rfl (show ¬(HT.sIx 3 0 none=0/\HT.sIx 3 3 (ε (-1))=3) by decide),fA,e',fA];rfl
      . rw[iu c4]at Q;have W3:=cQ (h:=h) (t:=.one st bs) (l:=K8 d N "one" g x) rfl "one";rw[show decide (nb.wd (.one st bs) = "one")=true from je rfl]at W3;rw[gD Q];exact⟨.tup [.str "split",g,.int 0,.int 1,x],.split st (0,1) bs,JC W3 rfl,by simp![my];exact⟨_,_,ds,rfl,m,B,F⟩,.odd trivial trivial rfl (.inr (by simp[AD])),by simp![MA];omega⟩
     | split st p bs=>
      rw[show decide (nb.wd (.split st p bs) = "ring")=false from(by show decide (("split" :Str) = "ring")=false;decide +kernel)]at W2;rw[show decide (nb.wd (.split st p bs) = "threes")=false from(by show decide (("split" :Str) = "threes")=false;decide +kernel)]at W1;rw[gD W1,gD W2];simp![my]at ft;obtain⟨s1,x,ds,hd,_,B,F⟩:=ft;have ex:=cE u B;simp![rC,w6,decide_eq_true_eq]at I;have s8:e2 nA (eV 0) (dB (nS 1)) (L none none) h=ε (x,h):=by
       have hm:∀H,nA d (.int (-1)) H=ε (x,H):=fun H=>by rw[hd];rfl
       simp![oA,gA,pA,dF,QE,l0,iA,fA,hm]
      rw[OC (l':=K8 d N "split" g x) s8 (by rw[D];rfl)];obtain rfl:g=s1:=by have:=i1 h;rw[hd]at this;cases this;rfl
      have Q:=NM (h:=h) (k:=N%5) (l:=K8 d N "split" g x) rfl 3;simp![Io]at Q;by_cases c4:N%5=3
      . rw[je c4]at Q;obtain⟨a2,W,ne,dk,e',F'⟩:=J0 (N:=N) (l:=K8 d N "split" g x) ex F I.2.1.1 I.2.1.2 rfl rfl;refine⟨.tup [.str "split",g,.int (p.1:Nat),.int (p.2:Nat),.lst W],.split st p a2,JC Q ?_,by simp![my];exact⟨_,_,W,rfl,m,rfl,F'⟩,.odd trivial trivial rfl (.inl ne),by simp![MA];omega⟩;rw[oA,qP (l:=K8 d N "split" g x) rfl hd (ys:=[.str "split",g,.int (p.1:Nat),.int (p.2:Nat)]) rfl (show ¬(HT.sIx 5 0 none=0/\HT.sIx 5 5 (ε (-1))=5) by decide),fA,e',fA];rfl
      . rw[iu c4]at Q;have W3:=cQ (h:=h) (t:=.split st p bs) (l:=K8 d N "split" g x) rfl "one";rw[show decide (nb.wd (.split st p bs) = "one")=false from(by show decide (("split" :Str) = "one")=false;decide +kernel)]at W3;rw[gD Q,gD W3];have V:AB (aA (EA (aA (eV 2) (aA (eV 3) (aA (e2 nA (eV 0) (nS 3)) (aA (e2 nA (eV 0) (nS 2)) (aA (eV 8) dA)))))) (aA (EA (aA (eC (.str "one")) (aA (eV 3) (aA (eV 8) dA)))) dA)) (K8 d N "split" g x) h=ε (.lst [.tup [.str "split",g,.int (p.2:Nat),.int (p.1:Nat),x],.tup [.str "one",g,x]],h):=by rw[hd];rfl
        obtain⟨o,C,J⟩:=pk _ _ _ 2 (by decide) (show(K8 d N "split" g x)[1]?=_ from rfl) V rfl
        suffices M:∃n,my S n o/\YI (.split st p bs) n/\MA n<=MA (.split st p bs) by obtain⟨n,a,b,dp⟩:=M;exact⟨o,n,sH (J 2 rfl),a,b,dp⟩
        rcases(show N/5%2=0\/N/5%2=1 by omega)with z | z<;>rw[z]at C<;>cases C
        . exact⟨.split st (p.2,p.1) bs,by simp![my];exact⟨_,_,ds,rfl,m,B,F⟩,.odd trivial trivial rfl (.inr fun z=>by
           simp![AD,Ge]at z;exact I.1.2 (congrArg Prod.fst z).symm),by simp![MA];omega⟩
        . exact⟨.one st bs,by simp![my];exact⟨_,_,ds,rfl,m,B,F⟩,.odd trivial trivial rfl (.inr (by simp[AD])),by simp![MA];omega⟩
theorem F0:∀{bs:Oo nb}{ds:Oo Dt}{i:Nat}{b:nb},Vo h bs ds->bs[i]?=ε b->∃d,ds[i]?=ε d/\my h b d
 | [],_,_,_,_,e=>by simp at e
 | t::bs,ds,0,b,p,e=>by simp at e;subst e;simp![Vo]at p;obtain⟨d,r,rfl,f,_⟩:=p;exact⟨d,rfl,f⟩
 | t::bs,ds,i+1,b,p,e=>by simp![Vo]at p;obtain⟨d,r,rfl,_,a⟩:=p;exact F0 (i:=i) a (by simpa using e)
theorem iZ(q:my h b d'):∀{bs:Oo nb}{ds:Oo Dt}(i:Nat),Vo h bs ds->Vo h (bs.set i b) (ds.set i d')
 | [],_,_,p=>by simp![Vo]at p;subst p;simp![set_nil,Vo]
 | t::bs,ds,0,p=>by simp![Vo]at p;obtain⟨d,r,rfl,_,a⟩:=p;simp![Wa,Vo];exact⟨_,_,rfl,q,a⟩
 | t::bs,ds,i+1,p=>by simp![Vo]at p;obtain⟨d,r,rfl,e,a⟩:=p;simp![Wu,Vo];exact⟨_,_,rfl,e,iZ q i a⟩
def Gg:∀n t{h:HI}{d:Dt}(N:Nat),my M t d->mu M h->MA t<=n->rC t=true->∃B J D,nH n [d,.int (N:Nat)] h=ε (B,J)/\mu h J/\(∀H,mu M H->(∀k xs,h.length<=k->J[k]?=ε (.lst xs)->H[k]?=ε (.lst xs))->my H D B)/\mG t D/\MA D<=MA t:=by
 intro n
 induction n with
 | zero=>intro t h d N _ _ dp;cases t<;>simp[MA]at dp
 | succ n ih=>
  intro t h d N Y u dp L;have fn:∀R,vC (MN (nH n) [ε d,ε (.int (N:Nat)),none,none] h)=R->nH (n+1) [d,.int (N:Nat)] h=R:=fun R e=>e
  have m2:=YD (h:=h) (i:=(N:Int)) (show(0:Int)<2 by decide);have d2:∀(l:LI)(H:HI),l[1]?=ε (ε (.int (N:Nat)))->e2 NB (eV 1) (nS 2) l H=ε (.int ((N/2:Nat):Int),H):=fun l H e=>by have:=UG (h:=H) (i:=(N:Int)) (j:=2) ⟨by decide,by decide⟩;simp![oA,gA,pA,e,iA,fA,this];rfl
  obtain⟨s,i0,i1,es⟩:=Y.hd;have O:∀b:Bool,HG false (.str t.wd) (.tup [.str "one", .str "split"]) h=ε (.bl b,h)->KF (mn (e2 (HG false) (e2 nA (eV 0) (nS 0)) (EA (aA (eC (.str "one")) (aA (eC (.str "split")) dA))))) (mn (e2 QA (e2 lB (eV 1) (nS 2)) (nS 0))) [ε d,ε (.int (N:Nat)),none,none] h=ε (b&&decide (N%2=0),h):=fun b e=>by have ez:decide ((N:Int)%2=0)=decide (N%2=0):=decide_eq_decide.mpr nofun;dsimp![wH,IA,oA,AC,zA,xA,gA,pA,Ti,Ui,iA,i0,JH,e,NA,m2,lD,ez];cases b<;>rfl
  have E:KF (mn (e2 (HG false) (e2 nA (eV 0) (nS 0)) (EA (aA (eC (.str "one")) (aA (eC (.str "split")) dA))))) (mn (e2 QA (e2 lB (eV 1) (nS 2)) (nS 0))) [ε d,ε (.int (N:Nat)),none,none] h=ε (false,h)->∃B J D,nH (n+1) [d,.int (N:Nat)] h=ε (B,J)/\mu h J/\(∀H,mu M H->(∀(k:Nat) (xs:Oo Dt),h.length<=k->J[k]?=ε (.lst xs)->H[k]?=ε (.lst xs))->my H D B)/\mG t D/\MA D<=MA t:=fun T=>by obtain⟨B,D,e,q,P,dd⟩:=mj Y u L (N/2);refine⟨B,h,D,fn _ (KC T (sH ?_)),mu.refl h,fun H a z=>my.up a D q,.here P,dd⟩;have dd:=d2 [ε d,ε (.int (N:Nat)),none,none] h rfl;simp![OA,zA,xA,gA,Ti,iA,fA,dd,Ve,e]
  have kids:∀(C:Oo nb->nb) (pre:Oo Dt) (x:Dt) (ds:Oo Dt) (bs:Oo nb),t=C bs->(∀l H,l[0]?=ε (ε d)->DC (eV 0) LD (WB (dB (nS 1))) l H=ε (.tup pre,H))->(∀y H,GD (.tup pre) (.tup [y]) H=ε (.tup (pre++[y]),H))->(∀H,nA d (.int (-1)) H=ε (x,H))->yA M x=ε ds->Vo M bs ds->(!bs.isEmpty)=true->bs.length<=1000->DB bs<=n->tE bs=true->(∀H y g I,mu M H->yA H y=ε I->Vo H g I->my H (C g) (.tup (pre++[y])))->(∀i b U,bs[i]?=ε b->mG b U->mG (C bs) (C (bs.set i U)))->(∀g,MA (C g)=DB g+1)->HG false (.str t.wd) (.tup [.str "one", .str "split"]) h=ε (.bl true,h)->
   ∃B J D,nH (n+1) [d,.int (N:Nat)] h=ε (B,J)/\mu h J/\(∀H,mu M H->(∀(k:Nat)(xs:Oo Dt),h.length<=k->J[k]?=ε (.lst xs)->H[k]?=ε (.lst xs))->my H D B)/\mG t D/\MA D<=MA t:=by
   intro C pre x ds bs et sl cat ix ex F b0 bl dk ff a2 mkS Z wt;have T:=O true wt;by_cases ev:N%2=0
   . rw[je ev]at T;have dl:=F.len;have bp:0<bs.length:=by
      cases bs with
      | nil=>cases b0
      | cons _ _=>simp
     obtain⟨i,hi⟩:∃i,i=N/2%ds.length:=⟨_,rfl⟩
     have il:i<ds.length:=by rw[hi];exact Ka _ nofun
     obtain⟨b,hb⟩:∃b,bs[i]?=ε b:=⟨bs[i]'nofun,by simp⟩
     obtain⟨db,a3,fb⟩:=F0 F hb;have Q:(h++[Ob.lst ds])[h.length]?=ε (.lst ds):=by simp
     have mb:=m6 hb;obtain⟨B,W,U,e,U2,K,SP,DP⟩:=ih b (h:=h++[.lst ds]) (N/2/ds.length) fb (u.trans (mu.app h _)) (by have:=MO mb;omega) (SO ff mb);have a0:=U2.2 _ _ Q;have l2:h.length<W.length:=(Xa a0).1;have ot:∀k,k≠h.length->(W.set h.length (.lst (ds.set i B)))[k]?=W[k]?:=fun k hk=>m8 (n7 hk)
     have lst:(W.set h.length (.lst (ds.set i B)))[h.length]?=ε (.lst (ds.set i B)):=vm l2;have lt:∀{k:Nat}{o:Ob},h[k]?=ε o->k≠h.length:=fun e=>su (Xa e).1
     have UA:=(mu.app h [Ob.lst ds]).trans U2;have a4:UD x h=ε (.ref h.length,h++[.lst ds]):=by
      have:=cE u ex;cases x with
      | lst ys=>cases this;rfl
      | ref k=>simp![UD,XC,this,Vu]
      | _=>cases this
     refine⟨.tup (pre++[.ref h.length]),W.set h.length (.lst (ds.set i B)),C (bs.set i U),fn _ (wK T ?_),⟨by rw[Le];exact UA.1,fun k xs q=>by rw[ot k (lt q)];exact UA.2 _ _ q,fun k xs q=>by rw[ot k (lt q)];exact UA.3 _ _ q⟩,fun H a c=>?_,by rw[et];exact mkS i b U hb SP,?_⟩
     . have s2:GB UD (e2 nA (eV 0) (dB (nS 1))) [ε d,ε (.int (N:Nat)),none,none] h=ε (.ref h.length,h++[.lst ds]):=by simp![LB,oA,gA,pA,dF,QE,Ti,iA,fA,ix,a4]
       have a1:eB (.ref h.length) (h++[Ob.lst ds])=ε (.int (ds.length:Nat),h++[.lst ds]):=TH Q;have s3:e2 lB (e2 NB (eV 1) (nS 2)) (GB eB (eV 2)) [ε d,ε (.int (N:Nat)),ε (.ref h.length),none] (h++[.lst ds])=ε (.int (i:Nat),h++[.lst ds]):=by have m:=YD (h:=h++[Ob.lst ds]) (i:=((N/2:Nat):Int)) (show(0:Int)<(ds.length:Int) by omega);rw[oA,d2 _ _ rfl];simp![fA,LB,gA,Ti,Ui,iA,a1,m,hi];rfl
       have s4:rA (nH n) [] (aA (e2 nA (eV 2) (eV 3)) (aA (e2 NB (e2 NB (eV 1) (nS 2)) (GB eB (eV 2))) dA)) [ε d,ε (.int (N:Nat)),ε (.ref h.length),ε (.int (i:Nat))] (h++[.lst ds])=ε (B,W):=by
        have x1:=I0 (UE Q) a3;have dv:=UG (h:=h++[Ob.lst ds]) (i:=((N/2:Nat):Int)) (j:=(ds.length:Int)) ⟨by omega,by rw[dl];omega⟩;have a5:e2 NB (e2 NB (eV 1) (nS 2)) (GB eB (eV 2)) [ε d,ε (.int (N:Nat)),ε (.ref h.length),ε (.int (i:Nat))] (h++[.lst ds])=ε (.int ((N/2/ds.length:Nat):Int),h++[.lst ds]):=by rw[oA,d2 _ _ rfl];simp![fA,LB,gA,Ti,Ui,iA,a1,dv];rfl
        have a6:e2 nA (eV 2) (eV 3) [ε d,ε (.int (N:Nat)),ε (.ref h.length),ε (.int (i:Nat))] (h++[.lst ds])=ε (db,h++[.lst ds]):=by simp![oA,gA,Ti,Ui,iA,fA,x1]
        simp![OA,zA,xA,a6,a5,fA,Ve,e]
       rw[OC s2 rfl];simp![Wu,Wa];rw[OC s3 rfl];simp![Wu,Wa];rw[YA,yS,s4];dsimp![gA,Ti,Ui,iA,VL a0 il,jB,qB,oA GD,sl _ _ (show [ε d,ε (.int (N:Nat)),ε (.ref h.length),ε (.int (i:Nat))][0]?=_ from rfl),AC,zA,xA,vN,cat]
     . refine a2 H _ _ (ds.set i B) a (UE (c _ _ (Va _) lst)) (iZ (K H a fun k xs hk q=>c k xs (by rw[jj]at hk;omega) ?_) i (Vo.up a bs F));rw[ot k (by rw[jj]at hk;simp at hk;omega)];exact q
     . rw[et,Z,Z];have:=OX DP hb;omega
   . rw[iu ev]at T;exact E T
  cases t with
  | Ws st=>exact E (O false rfl)
  | ring st r=>exact E (O false rfl)
  | one st bs=>simp![my]at Y;obtain⟨s1,x,ds,hd,S,ex,F⟩:=Y;simp![rC,w6,decide_eq_true_eq]at L;simp![MA]at dp;exact kids (.one st) [.str "one",s1] x ds bs rfl (fun l H hl=>qP hl hd rfl (show ¬(HT.sIx 3 0 none=0/\HT.sIx 3 3 (ε (-1))=3) by decide)) (fun z z=>rfl) (fun H=>by rw[hd];rfl) ex F L.2.1.1 L.2.1.2 nofun L.2.2 (fun H y g I a e f=>by simp![my];exact⟨_,_,I,rfl,cE a S,e,f⟩) (fun i b U e p=>.one e p) (fun g=>by simp![MA]) rfl
  | split st p bs=>simp![my]at Y;obtain⟨s1,x,ds,hd,S,ex,F⟩:=Y;simp![rC,w6,decide_eq_true_eq]at L;simp![MA]at dp;exact kids (.split st p) [.str "split",s1,.int (p.1:Nat),.int (p.2:Nat)] x ds bs rfl (fun l H hl=>qP hl hd rfl (show ¬(HT.sIx 5 0 none=0/\HT.sIx 5 5 (ε (-1))=5) by decide)) (fun z z=>rfl) (fun H=>by rw[hd];rfl) ex F L.2.1.1 L.2.1.2 nofun L.2.2 (fun H y g I a e f=>by simp![my];exact⟨_,_,I,rfl,cE a S,e,f⟩) (fun i b U e p=>.split e p) (fun g=>by simp![MA]) rfl
def Low(A B:Oo Bd):Prop:=∀e∈A,∃x∈B,x.1=e.1/\x.2.1=e.2.1/\x.2.2<=e.2.2
def Low.app(h:Low A B)(k:Low b a):Low (A++b) (B++a):=fun e he=>by
 rcases Ca.mp he with he | he
 . obtain⟨x,m,r⟩:=h e he;exact⟨x,za _ m,r⟩
 . obtain⟨x,m,r⟩:=k e he;exact⟨x,yu _ m,r⟩
def Low.refl(A):Low A A:=fun e a=>⟨e,a,rfl,rfl,Int.le_refl _⟩
set_option tactic.hygienic true in
theorem GY(h1:b<=g)(h2:h<=d):Low (yH p q a g h) (yH p q a b d):=by
 unfold yH;refine Low.app (fun e f=>?_) (fun e f=>?_)
 . split at f
   . rename_i k;rw[eG (Int.le_trans h1 k),Bs.mp f];exact⟨_,Bs.mpr rfl,rfl,rfl,by show(if b<a then(-1:Int)else 0)<=if g<a then -1 else 0;split<;>split<;>omega⟩
   . cases f
 . split at f
   . rename_i k;rw[eG (Int.le_trans k h2),Bs.mp f];exact⟨_,Bs.mpr rfl,rfl,rfl,by show(if a<d then(-1:Int)else 0)<=if a<h then -1 else 0;split<;>split<;>omega⟩
   . cases f
def qY(sub:∀w∈HA d,w∈HA m)(ne:HA d ≠ [])(i j s):Low (JF i j s m) (JF i j s d):=by
 have e:TB s d ≠ []:=by unfold TB;simpa using ne
 have b:∀a∈TB s d,a∈TB s m:=fun a h=>by obtain⟨w,hw,rfl⟩:=Ce.mp h;exact Ce.mpr ⟨w,sub w hw,rfl⟩
 have n:TB s m ≠ []:=fun z=>by have:=b _ (zL _ e).1;rw[z]at this;cases this
 have g:=(zL _ n).2 _ (b _ (zL _ e).1);have f:=(AL _ n).2 _ (b _ (AL _ e).1);exact(GY g f).app (GY g f)
def Cw(h:∀p∈WA c,(∀w∈HA (b p.1 p.2),w∈HA (N p.1 p.2))/\HA (b p.1 p.2) ≠ [])(ls):Low (CC c N ls) (CC c b ls):=by
 unfold CC;refine(Low.refl _).app fun e a=>?_
 obtain⟨p,hp,a⟩:=Nu.mp a;obtain⟨sub,ne⟩:=h p hp;obtain⟨x,m,r⟩:=(qY sub ne p.1 p.2 0).app (qY sub ne p.1 p.2 1) e a;exact⟨x,Nu.mpr ⟨p,hp,m⟩,r⟩
def jh(L:Low A B)(R:rF n (cC A) (WG A) cs P k):rF n (cC B) (WG B) cs P k:=by
 have o:∀i,i<=k->(XA (nxt cs) i P,XA (nxt cs) (i+1) P,WG B (XA (nxt cs) i P) (XA (nxt cs) (i+1) P))∈cC B/\WG B (XA (nxt cs) i P) (XA (nxt cs) (i+1) P)<=WG A (XA (nxt cs) i P) (XA (nxt cs) (i+1) P):=fun i d=>by have e:=(EI A).mem _ (R.edge i d).1;obtain⟨x,m,r,q,p⟩:=L _ e;obtain⟨y,h,q1,q2,q3⟩:=(EI B).low x m;have w:=HQ h;have g:y.1=XA (nxt cs) i P:=q1.trans r;have f:y.2.1=XA (nxt cs) (i+1) P:=q2.trans q;rw[g,f]at w;exact⟨by rw[w,<- g,<- f];exact h,by rw[w];exact Int.le_trans q3 p⟩
 refine⟨R.pos,R.le,R.back,R.first,fun i d=>⟨(o i d).1,(R.edge i d).2⟩,?_⟩;have go:∀j,j<=k->((List.range j).map fun i=>WG B (XA (nxt cs) i P) (XA (nxt cs) (i+1) P)).sum<=((List.range j).map fun i=>WG A (XA (nxt cs) i P) (XA (nxt cs) (i+1) P)).sum:=by
  intro j
  induction j with
  | zero=>intro _;exact Int.le_refl _
  | succ j ih=>intro u;have a:=ih nofun;have b:=(o j nofun).2;rw[Je,Gu,Gu,sum_append,sum_append];simp![Uu,Xi,sum_cons,sum_nil];omega
 have:=go k (Va _);have:=R.sum;omega
def A3{st:Oo IB}(e:vB 2 f st=ε g):st=[]/\g=f:=by
 cases st with
 | nil=>cases e;exact⟨rfl,rfl⟩
 | cons a st=>
  obtain⟨i,k,j⟩:=a;have z:MF 2 i k j=false:=by
   cases z:MF 2 i k j with
   | false=>rfl
   | true=>obtain⟨a,b,d,_,_,_,⟨q1,q2,q3⟩,_⟩:=eM.mp z;omega
  rw[wG,eG (.inr (.inl z))]at e;cases e
def Ur(f):HC 2 f:=fun i m k g j h d=>by obtain⟨a,b,e⟩:=d;omega
def Hl(h:∀i<2,∀j<2,f i j≠0):bB 2 f=false:=by
 cases e:bB 2 f with
 | false=>rfl
 | true=>obtain⟨i,b,j,a,z⟩:=gm.mp e;exact Es z (h i b j a)
def xX{f:FA}(h:w∈HA (f 0 1)):f 0 1&&&2^w=2^w:=by
 obtain⟨b,a⟩:=bv.mp h;apply Ja;intro k;rw[Ae,Nat.testBit_two_pow];by_cases e:w=k
 . subst e;simp[a]
 . simp[e]
def Tf{st:Oo IB}(o:ZA 2 f)(E:∀i<2,f i i=64)(C:Ct 2 ls n f S (.ring st r))(h2:1<(HA (f 0 1)).length):Ct 2 ls (n'+2) f [] (.split [] (0,1) ((HA (f 0 1)).map fun v=>.ring [] r)):=by
 cases C with
 | cut O _ _ _ _ _=>exact O.elim
 | ring q ne H R=>
  obtain⟨_,Q⟩:=A3 q;rw[Q]at ne H R;obtain⟨F,P,k,R,rfl⟩:=R;have lp:cG 2 (wB 2 f)=ε (0,1):=by unfold cG;rw[show WA 2=[(0,1)]from rfl,Ji,show wB 2 f 0 1=f 0 1 from ZE f (by decide) (by decide),je h2]
  have L:oC 2 (wB 2 f) []=ε (ε (0,1),(HA (f 0 1)).map (fun w=>KB (wB 2 f) 0 (2^w) 1),[(0,1)]):=by simp![oC,lp];rw[show wB 2 f 0 1=f 0 1 from ZE f (by decide) (by decide)]
  refine .cut trivial rfl ne H L ?_;have go:∀d:Oo Nat,(∀w∈d,w∈HA (f 0 1))->Cts 2 ls (n'+1) (d.map fun w=>KB (wB 2 f) 0 (2^w) 1) [] (d.map fun v=>nb.ring [] (DE F P k)):=by
   intro d
   induction d with
   | nil=>intro _;exact .nil
   | cons w d ih=>
    intro hw;have a:=hw w ⋯;obtain⟨I,wb⟩:=bv.mp a;obtain⟨g,m⟩:∃g,g=KB (wB 2 f) 0 (2^w) 1:=⟨_,rfl⟩
    have b:wB 2 f 0 1=f 0 1:=ZE f (by decide) (by decide);have e:g 0 1=2^w:=by rw[m];show yB (yB (wB 2 f) 0 1 (wB 2 f 0 1&&&2^w)) 1 0 _ 0 1=_;rw[b,xX a];rfl
    have B:g 1 0=Zo (2^w):=by rw[m];show yB (yB (wB 2 f) 0 1 (wB 2 f 0 1&&&2^w)) 1 0 (Zo (wB 2 f 0 1&&&2^w)) 1 0=_;rw[b,xX a];rfl
    have D:∀i<2,g i i=64:=fun i y=>by
     rw[m];rcases(show i=0\/i=1 by omega)with rfl | rfl
     . exact(ZE (c:=2) f (by decide) (by decide)).trans (E 0 (by decide))
     . exact(ZE (c:=2) f (by decide) (by decide)).trans (E 1 (by decide))
    have M:(2^w:Nat)≠0:=Nat.pos_iff_ne_zero.mp (Nat.two_pow_pos w);have J:Zo (2^w)≠0:=fun z=>by have:=VE (2^w) (k:=12-w) nofun;rw[z,Nat.zero_testBit,show 12-(12-w)=w by omega,Nat.testBit_two_pow_self]at this;cases this
    rw[Uu,Uu,<- m];refine .cons (.ring (g:=g) rfl (Hl fun i y j T=>?_) (Ur g) ⟨F,P,k,jh (Cw (fun p hp=>?_) ls) R,rfl⟩) (ih fun x u=>hw x (by simp[u]))
    . rcases(show i=0\/i=1 by omega)with rfl | rfl<;>rcases(show j=0\/j=1 by omega)with rfl | rfl
      . rw[D 0 y];decide
      . rw[e];exact M
      . rw[B];exact J
      . rw[D 1 y];decide
    . rw[show WA 2=[(0,1)]from rfl]at hp;rw[Bs.mp hp];show(∀x∈HA (wB 2 g 0 1),x∈HA (wB 2 f 0 1))/\HA (wB 2 g 0 1) ≠ [];rw[b,show wB 2 g 0 1=g 0 1 from ZE g (by decide) (by decide),e];have sg:∀x,x∈HA (2^w)↔x=w:=fun x=>by rw[bv,Nat.testBit_two_pow];simp;omega
      exact⟨fun x u=>by rw[(sg x).mp u];exact a,fun z=>by have:=(sg w).mpr rfl;rw[z]at this;cases this⟩
  exact go _ fun v h=>h
def Mr(m k:Nat):decide (Builtin.bitAnd ((m:Int)/2^k) 1=0)=!m.testBit k:=by
 have e:((m:Int)/2^k)=((m/2^k:Nat):Int):=by simp
 have:=PJ (m/2^k) 1;simp![Io]at this;rw[<- NS,e,this,Nat.and_one_is_mod];rcases Nat.mod_two_eq_zero_or_one (m/2^k)with z | z<;>rw[z]<;>decide
def mM(m:UB):Nat:=if m.1=0 then m.2.1 else Zo m.2.1
def um(a:k<13):(mM m).testBit k=m.2.1.testBit (if m.1=0 then k else 12-k):=by
 unfold mM;split
 . rfl
 . exact VE _ a
def Od(D:oF 2 m)(o:k<13)(M)(n j g:O4 Dt)(h) :
 qJ [n,j,ε (.int (M:Nat)),ε (kB m),ε (.int (k:Nat)),g] h=ε (.nx [n,j,ε (.int ((if(mM m).testBit k=true then M else M&&&nw (2^k):Nat):Int)),ε (kB m),ε (.int (k:Nat)),g] h):=by
 obtain⟨a,b,d,e⟩:=D;have C:∀H,nA (kB m) (.int 0) H=ε (.str "ways",H):=fun v=>rfl
 have B:∀H,nA (kB m) (.int 1) H=ε (.int (m.1:Nat),H):=fun v=>rfl
 have y:∀H,nA (kB m) (.int 2) H=ε (.int (m.2.1:Nat),H):=fun v=>rfl
 have q1:decide (("ways" :Str) = "one")=false:=by decide +kernel
 have sb:(12:Int)-(k:Int)=((12-k:Nat):Int):=by omega
 have ix:∀H,nA (.lst [.int (k:Nat),.int ((12-k:Nat):Int)]) (.int (m.1:Nat)) H=ε (.int ((if m.1=0 then k else 12-k:Nat):Int),H):=fun H=>by generalize m.1=i at a;rcases(show i=0\/i=1 by omega)with rfl | rfl<;>rfl
 have q:=fun H=>eT (h:=H) (i:=(m.2.1:Int)) (show(0:Int)<=((if m.1=0 then k else 12-k:Nat):Int) by omega)
 have p:=Mr m.2.1 (if m.1=0 then k else 12-k);rw[<- um o]at p;have u:=UM (h:=h) (JK o);have x:(1:Int)*2^k=((2^k:Nat):Int):=by simp
 have E:=HM o;have r:(8191:Int)-((2^k:Nat):Int)=((nw (2^k):Nat):Int):=by unfold nw;omega
 generalize f:qJ [n,j,ε (.int (M:Nat)),ε (kB m),ε (.int (k:Nat)),g] h=X;dsimp![qJ,FB,IA,wH,oA,gA,pA,kE,zA,xA,Ti,Ui,iA,C,BE,q1,NA,Xo,g8,decide_true,y,VM,sb,JH,B,ix,q,ou,jK,lD,p]at f;cases z:(mM m).testBit k with
 | true=>rw[z]at f;simp![wz,Xo,g8,OD]at f;rw[eG rfl,<- f]
 | false=>rw[z]at f;simp![wu,eO,MB,oA,gA,pA,Ti,Ui,iA,fA,u,ou,x,VM,r,jK,PJ,Wu,Wa]at f;rw[eH Xe,<- f]
def stM(M:Nat):mh->Nat
 | .ways m=>M&&&mM m
 | .one _=>0
 | .long _=>M
def fU(l)(h):VG (nS 13) l h=ε (.vals ((List.range 13).map fun(k:Nat)=>Dt.int (k:Int)),h):=by rw[XI];exact dG (j:=13) (by decide) (by decide)
def nP(h:a<8192):a&&&b<8192:=Ei Nat.and_le_left h
set_option tactic.hygienic true in
theorem Sd(q:ar h d f)(fo:ZF 2 f)(u:M<8192)(j b p a:O4 Dt):∃n,rJ [j,b,ε (.int (M:Nat)),ε d,p,a] h=ε (.nx [j,b,ε (.int ((stM M f:Nat):Int)),ε d,n,a] h):=by
 have run:∀(S:Nat->Nat),S 0=M->(∀k<13,qJ [j,b,ε (.int (S k:Nat)),ε d,ε (.int (k:Nat)),a] h=ε (.nx [j,b,ε (.int (S (k+1):Nat)),ε d,ε (.int (k:Nat)),a] h))->∃n,rJ [j,b,ε (.int (M:Nat)),ε d,p,a] h=ε (.nx [j,b,ε (.int (S 13:Nat)),ε d,n,a] h):=fun S s0 hs=>by
  obtain⟨B,r,e,⟨y,rfl⟩,rfl⟩:=MJ (i:=4) (body:=qJ) (fun k:Nat=>Dt.int (k:Int)) (fun k l r=>(∃y,l=[j,b,ε (.int (S k:Nat)),ε d,y,a])/\r=h) 13 (by
   rintro k o l r ⟨⟨y,rfl⟩,rfl⟩;exact⟨_,hs k o,⟨_,rfl⟩,rfl⟩) [j,b,ε (.int (M:Nat)),ε d,p,a] h ⟨⟨p,by rw[s0]⟩,rfl⟩
  exact⟨y,by simp![rJ,ND,fU,fA,VF,e]⟩
 cases f with
 | ways m=>
  have q:d=kB m:=q;subst q;obtain⟨y,e⟩:=run (fun k=>mk fun w=>M.testBit w&&(decide (k<=w) || (mM m).testBit w)) (KG (UI _) u fun w hw=>by rw[GI _ hw];simp) (fun k o=>by
   rw[Od fo o];have:(if(mM m).testBit k=true then mk (fun w=>M.testBit w&&(decide (k<=w) || (mM m).testBit w))else mk (fun w=>M.testBit w&&(decide (k<=w) || (mM m).testBit w))&&&nw (2^k))=mk fun w=>M.testBit w&&(decide (k+1<=w) || (mM m).testBit w):=by
    split
    . rename_i z;refine Vy fun w hw=>?_
      by_cases e:w=k
      . subst e;simp[z]
      . rw[show decide (k<=w)=decide (k+1<=w)from decide_eq_decide.mpr nofun]
    . rename_i z;refine KG (nP (UI _)) (UI _) fun w hw=>?_
      rw[Ae,GI _ hw,GI _ hw,jg (HM o) hw,Nat.testBit_two_pow];by_cases e:k=w
      . subst e;rw[Bool.eq_false_iff.mpr z];simp
      . rw[show decide (k<=w)=decide (k+1<=w)from decide_eq_decide.mpr nofun,iu e];simp
   rw[this])
  refine⟨y,?_⟩;rw[e];have:(mk fun w=>M.testBit w&&(decide (13<=w) || (mM m).testBit w))=M&&&mM m:=KG (UI _) (nP u) fun w hw=>by rw[GI _ hw,Ae,iu nofun,Bool.false_or]
  rw[this];rfl
 | long x=>have q:d=.tup [.str "long", .int (x.1:Nat),.int x.2.1,.int x.2.2]:=q;subst q;exact run (fun _=>M) rfl fun k o=>rfl
 | one g=>obtain⟨C,rfl,_⟩:=q;exact run (fun k=>if k=0 then M else 0) rfl fun k o=>rfl
def Uz(hs:∀k,src.at h k=ε ds[k]?)(F:ad h ds fs)(S:Nat->LI->Prop)(H:∀k d f,fs[k]?=ε f->ar h d f->∀l,S k l->∃l',body (l.set i (ε d)) h=ε (.nx l' h)/\S (k+1) l') :
 ∀n k l,n=ds.length-k+1->k<=ds.length->S k l->∃l',aC (BA i) body src n k l h=ε (.nx l' h)/\S ds.length l':=by
 intro n
 induction n with
 | zero=>intro k _ e;omega
 | succ n ih=>
  intro k l r u s;by_cases a:k<ds.length
  . obtain⟨f,o,q⟩:=F.get (jo a);obtain⟨m,p,g⟩:=H k _ f o q l s;obtain⟨j,e2,b⟩:=ih (k+1) m nofun nofun g;exact⟨j,by simp![aC,hs k,jo a,vE,Wo,p,e2],b⟩
  . refine⟨l,by simp![aC,hs k,lu (show ds.length<=k by omega)],?_⟩;rwa[show ds.length=k by omega]
def L7(h:M<8192)(f):stM M f<8192:=by
 cases f with
 | ways m=>exact nP h
 | long x=>exact h
 | one g=>exact(by decide:0<8192)
theorem LS:∀(fs:Oo mh){M:Nat},M<8192->fs.foldl stM M<8192
 | [],_,h=>h
 | f::fs,_,h=>LS fs (L7 h f)
theorem WO:∀fs:Oo mh,fs.foldl stM 0=0
 | []=>rfl
 | .ways m::fs=>by rw[foldl_cons,show stM 0 (.ways m)=0 from Nat.zero_and _];exact WO fs
 | .long x::fs=>WO fs
 | .one g::fs=>WO fs
theorem sS:∀fs M,JB fs ≠ []->fs.foldl stM M=0
 | [],_,h=>Es rfl h
 | .one g::fs,_,_=>WO fs
 | .ways m::fs,M,h=>sS fs _ h
 | .long x::fs,M,h=>sS fs _ h
def W5(o:ZA 2 f)(h:oF 2 m):KB f m.1 m.2.1 m.2.2 0 1=f 0 1&&&mM m:=by
 obtain⟨a,b,d,e⟩:=h;unfold mM;generalize m.1=i at a d;generalize m.2.2=j at b d;rcases(show(i=0/\j=1)\/(i=1/\j=0) by omega)with⟨rfl,rfl⟩ | ⟨rfl,rfl⟩
 . rfl
 . show Zo (f 1 0&&&m.2.1)=f 0 1&&&Zo m.2.1;rw[o.tn 0 (by decide) 1 (by decide)];refine KG (ZJ _) (nP (o.lt 0 (by decide) 1 (by decide))) fun k g=>?_
   rw[VE _ g,Ae,Ae,VE _ nofun,VE _ g,show 12-(12-k)=k by omega]
theorem ER:∀fs f,ZA 2 f->(∀x∈fs,ZF 2 x)->JB fs=[]->fs.foldl stM (f 0 1)=NC f fs 0 1
 | [],_,_,_,_=>rfl
 | .ways m::fs,f,o,ok,h=>by have i:oF 2 m:=ok (.ways m) ⋯;obtain⟨a,b,d,_⟩:=i;have:=ER fs (KB f m.1 m.2.1 m.2.2) (II o a b d _) (fun x e=>ok x (by simp[e])) h;rw[W5 o (ok (.ways m) ⋯)]at this;exact this
 | .long x::fs,f,o,ok,h=>ER fs f o (fun x e=>ok x (by simp[e])) h
 | .one g::fs,_,_,_,h=>by cases h
theorem GP:∀fs f,(∀x∈fs,ZF 2 x)->(∀i<2,f i i=64)->∀i<2,NC f fs i i=64
 | [],_,_,h=>h
 | .ways m::fs,f,ok,h=>by obtain⟨a,b,d,_⟩:oF 2 m:=ok (.ways m) ⋯;exact GP fs _ (fun x e=>ok x (by simp[e])) (Xy h d _)
 | .long x::fs,f,ok,h=>GP fs f (fun x e=>ok x (by simp[e])) h
 | .one g::fs,f,ok,h=>GP fs f (fun x e=>ok x (by simp[e])) h
def Lj(q:av 2 h a ds fs)(u:my h t d)(fu:rC t=true)(dp:MA t<=12)(C:Ct 2 (pD fs) n (NC mC fs) (JB fs) t) :
 ∃U t',bL [a,d] h=ε (U,h)/\my h t' U/\MA t'<=12/\∃n',Ct 2 (pD fs) n' (NC mC fs) (JB fs) t':=by
 obtain⟨src,s1,s2,Z⟩:=q.src;obtain⟨M,o⟩:∃M,M=fs.foldl stM 8191:=⟨_,rfl⟩
 have Ml:M<8192:=by rw[o];exact LS fs (by decide)
 obtain⟨l',lp,⟨j,g,T⟩⟩:=Uz (i:=3) (body:=rJ) (s2 h (Up.refl h)) q.fa (fun k l=>∃j g,l=[ε a,ε d,ε (.int (((fs.take k).foldl stM 8191:Nat):Int)),j,g,none]) (by
  rintro k dk f S fa l ⟨j,g,rfl⟩;obtain⟨y,e⟩:=Sd fa (q.ok f (m6 S)) (LS (fs.take k) (M:=8191) (by decide)) (ε a) (ε d) g none;refine⟨_,e,ε dk,y,?_⟩;obtain⟨Q,e'⟩:=Xa S;rw[take_succ_eq_append_getElem Q,foldl_append,e'];rfl) (ds.length+1) 0 [ε a,ε d,ε (.int (8191:Nat)),none,none,none] nofun (nW _) ⟨none,none,rfl⟩
 rw[q.fa.len,Li,<- o]at T;subst T;have fk:xD (BA 3) rJ [ε a,ε d,ε (.int 8191),none,none,none] (src,h)=ε (.nx [ε a,ε d,ε (.int (M:Nat)),j,g,none] h):=by unfold xD;rw[Z];exact lp
 obtain⟨s,i0,i1,es⟩:=u.hd;have cw:qC (VG (nS 13)) (BA 0) LN JN [none,ε 2] [ε a,ε d,ε (.int (M:Nat)),j,g,none] h=ε (.lst ((HA M).map fun(k:Nat)=>Dt.int (k:Int)),h):=by
  have ec:=KO (te:=JN) (tc:=LN) (i:=0) (fun(k:Nat)=>Dt.int (k:Int)) M.testBit (fun(k:Nat)=>Dt.int (k:Int)) h (List.range 13) [none,ε (.int M)] fun k v=>⟨by
   simp[LN,eT,NS],fun v=>by simp[JN]⟩
  simp![bF,fU,fA,MD,xG,QD,Ti,Ui,Mi,aE _ _ _ (T3 _),ec,HA]
 have fn:∀R,vC (xU [ε a,ε d,none,none,none,none] h)=R->bL [a,d] h=R:=fun R e=>e
 have E:=fn _ (uE (d:=.int 8191) (h1:=h) rfl rfl (jZ (src:=src) (h1:=h) (by rw[FC,gA];exact s1) fk (uE cw rfl rfl)));rw[E];obtain⟨L,F⟩:∃L:LI,L=[ε a,ε d,ε (.int (M:Nat)),j,g,ε (.lst ((HA M).map fun(k:Nat)=>Dt.int (k:Int)))]:=⟨_,rfl⟩
 have e5:[ε a,ε d,ε (.int (M:Nat)),j,g,none].set 5 (ε (.lst ((HA M).map fun(k:Nat)=>Dt.int (k:Int))))=L:=by rw[F];rfl
 rw[e5];have D:L[1]?=ε (ε d):=by rw[F];rfl
 have P:L[5]?=ε (ε (.lst ((HA M).map fun(k:Nat)=>Dt.int (k:Int)))):=by rw[F];rfl
 have b:XB (mn (e2 yD (e2 nA (eV 1) (nS 0)) (eC (.str "ring")))) (mn (e2 ZI (GB eB (eV 5)) (nS 2))) L h=ε (!decide (t.wd=("ring" :Str)) || decide ((HA M).length<2),h):=by have lt:decide (((HA M).length:Int)<2)=decide ((HA M).length<2):=decide_eq_decide.mpr nofun;simp![HD,IA,oA,gA,pA,LB,D,P,iA,fA,i0,RM,NA,vP,ni,kI,lt];cases decide (t.wd=("ring" :Str))<;>rfl
 by_cases bk:(!decide (t.wd=("ring" :Str)) || decide ((HA M).length<2))=true
 . rw[bk]at b;exact⟨d,t,JC b (by rw[gA,D];rfl),u,dp,n,C⟩
 cases t with
 | ring st r=>
  by_cases z:(HA M).length<2
  . exact Es (by rw[je z,Bool.or_true]) bk
  . rw[iu z,show decide (nb.wd (.ring st r)=("ring" :Str))=true from je rfl]at b;simp![my]at u;obtain⟨s',x,hd,_,ex,rl⟩:=u;have O:JB fs=[]:=Classical.byContradiction fun nz=>z (by rw[o,sS fs 8191 nz];decide)
    have M0:M=NC mC fs 0 1:=by rw[o];exact ER fs mC (jM 2) q.ok O
    have I:LM x h=ε (.lst (r.map Dt.int),h):=by
     cases x with
     | lst ys=>cases ex;rfl
     | ref k=>simp![LM,XC,ex,Vu]
     | _=>cases ex
    have i2:∀H,nA d (.int 2) H=ε (x,H):=fun H=>by rw[hd];rfl
    have Y:((HA M).map fun(k:Nat)=>Dt.int (k:Int)).length<sizeLine:=by have:(HA M).length<=13:=uq (length_filter_le _ _) (by decide);rw[ni];simp[sizeLine];omega
    have ca:=xF (te:=KN) (i:=0) (tc:=cB) (fun k:Nat=>Dt.int (k:Int)) (fun v=>Dt.tup [.str "ring", .lst [],.lst (r.map Dt.int)]) h (HA M) [none,ε d] (fun k Q=>⟨rfl,by
     dsimp![KN,AC,zA,xA,pA,kE,LB,oA,gA,Wa,Ti,Ui,iA,i2,I,nW,HK]⟩)
    have B:5<=sizeLine:=by decide
    have J:EA (aA (eC (.str "split")) (aA (AB dA) (aA (nS 0) (aA (nS 1) (aA (qC (RB (eV 5)) (BA 0) cB KN [none,ε 1]) dA))))) L h=ε (.tup [.str "split", .lst [],.int 0,.int 1,.lst ((HA M).map fun v=>Dt.tup [.str "ring", .lst [],.lst (r.map Dt.int)])],h):=by dsimp![AC,zA,xA,pA,kE,bF,FC,gA,P,iA,CF,MD,xG,QD,D,Mi,aE _ _ _ Y,ca,nW,B]
    have W:∀m:Oo Nat,Vo h (m.map fun v=>nb.ring [] r) (m.map fun v=>Dt.tup [.str "ring", .lst [],.lst (r.map Dt.int)])/\DB (m.map fun v=>nb.ring [] r)<=1:=by
     intro m
     induction m with
     | nil=>simp![Xi,Vo,DB];exact⟨trivial,by omega⟩
     | cons w m ih=>simp![Uu,Vo,my,DB,MA];exact⟨⟨_,_,rfl,⟨_,_,rfl,rfl,rfl,rl⟩,ih.1⟩,by have:=ih.2;omega⟩
    refine⟨_,.split [] (0,1) ((HA M).map fun v=>.ring [] r),KC b (sH J),?_,?_,2,?_⟩
    . simp![my];exact⟨_,_,_,rfl,rfl,rfl,(W _).1⟩
    . have:=(W (HA M)).2;simp![MA];omega
    . rw[O];rw[M0]at z ⊢;exact Tf (n':=0) (tI fs q.ok _ (jM 2)) (GP fs mC q.ok fun i v=>eG rfl) C nofun
 | Ws st=>exact Es (by rw[show decide (nb.wd (.Ws st)=("ring" :Str))=false from(by show decide (("threes" :Str) = "ring")=false;decide +kernel)];rfl) bk
 | one st bs=>exact Es (by rw[show decide (nb.wd (.one st bs)=("ring" :Str))=false from(by show decide (("one" :Str) = "ring")=false;decide +kernel)];rfl) bk
 | split st p bs=>exact Es (by rw[show decide (nb.wd (.split st p bs)=("ring" :Str))=false from(by show decide (("split" :Str) = "ring")=false;decide +kernel)];rfl) bk
def wg{lo c:Nat}(b:dm lo h c A (.tup [oJ A.wd,x]))(w:A.wd=.clash):∃a,A=.clash a/\ae lo h a x:=by
 cases A with
 | opn=>cases w
 | laid t=>cases w
 | clash a=>
  obtain⟨x',e,TA⟩:=b;obtain rfl:x=x':=by injection e with e;injection e with _ e;injection e
  exact⟨a,rfl,TA⟩
def law_true(ns:Oo Int)(hl:ns.length<=63):∃h',qK [.lst (ns.map Dt.int)] []=ε (.bl true,h'):=by
 have c0:=fun h=>SS ns 0 h
 have c1:=fun h=>SS ns 1 h
 simp![Io]at c0 c1;have m2:=fun(x:Int) (h:HI)=>YD (h:=h) (i:=x) (show(0:Int)<2 by decide)
 have m4:=fun(x:Int) (h:HI)=>YD (h:=h) (i:=x) (show(0:Int)<4 by decide)
 have d2:=fun(x:Int) (h:HI)=>UG (h:=h) (i:=x) (j:=2) ⟨by decide,by decide⟩
 obtain⟨c,a1,a7,ec⟩:∃c:Nat,2<=c/\c<=4/\∀(rest:RS)(R:O4 (Dt×HI)),vC (rest [ε (.lst (ns.map Dt.int)),ε (.int (c:Nat)),none,none,none,none,none] [])=R->vC (jA (CA 1 (e2 VB (nS 2) (e2 lB (rA pE [] (aA (eV 0) (aA (nS 0) dA))) (nS 2)))) (jA (bC (mn (e2 QA (e2 lB (e2 NB (rA pE [] (aA (eV 0) (aA (nS 0) dA))) (nS 2)) (nS 4)) (nS 1))) (CA 1 (nS 4)) SA) rest) [ε (.lst (ns.map Dt.int)),none,none,none,none,none,none] [])=R:=by
  obtain⟨x,hx⟩:∃x,x=ns[0]?.getD (0:Int):=⟨_,rfl⟩
  rw[<- hx]at c0;obtain⟨k,hk⟩:=Int.eq_ofNat_of_zero_le (Int.emod_nonneg x (show(2:Int)≠0 by decide));have k2:k<2:=by have:=Int.emod_lt_of_pos x (show(0:Int)<2 by decide);omega
  have s1:e2 VB (nS 2) (e2 lB (rA pE [] (aA (eV 0) (aA (nS 0) dA))) (nS 2)) [ε (.lst (ns.map Dt.int)),none,none,none,none,none,none] []=ε (.int ((2+k:Nat):Int),[]):=by simp![oA,pA,OA,zA,xA,gA,Ti,iA,fA,Ve,c0,m2,hk,AE];rfl
  have t1:mn (e2 QA (e2 lB (e2 NB (rA pE [] (aA (eV 0) (aA (nS 0) dA))) (nS 2)) (nS 4)) (nS 1)) [ε (.lst (ns.map Dt.int)),ε (.int ((2+k:Nat):Int)),none,none,none,none,none] []=ε (decide (x/2%4=1),[]):=by simp![IA,oA,pA,OA,zA,xA,gA,Ti,iA,fA,Ve,c0,d2,m4,lD,NA]
  by_cases z:x/2%4=1
  . rw[je z]at t1;refine⟨4,by omega,by omega,fun rest R e=>uE s1 rfl ?_⟩;rw[<- e];simp![Wu,Wa,YA,FB,t1,fA,eO,MB,pA,jB];rfl
  . rw[iu z]at t1;exact⟨2+k,by omega,by omega,fun rest R e=>uE s1 rfl (KC t1 e)⟩
 obtain⟨fs,M,fl,ef⟩:=Zr ns hl a1 (show c<=8 by omega);obtain⟨ds,h1,ef,hd,FL,U1⟩:=ef [];have hd:h1[0]?=ε (.lst ds):=hd;have q1:av c h1 (.ref 0) ds fs:=⟨.inr ⟨0,rfl,hd⟩,FL.at,M.ok,fun g hg=>uq (M.g3 g hg).2 (by decide),by omega⟩;obtain⟨a,h2,a2,u2,F2⟩:=PX q1;have n:=OL fs M.ok;have u:=tI fs M.ok _ (jM c);have q:=WJ fs M.ok;have ex:=Yq (m:=2) (show 1<=c by omega) (show c<=8 by omega) (show(pD fs).length<=100 by have:=HJ fs;omega) n 12 (NC mC fs) (JB fs) 0 u q nofun nofun;obtain⟨A,r,x,b,P,ep,AN,U3⟩:=gw (m:=2) (show 1<=c by omega) (show c<=8 by omega) F2 ex;have q3:av c b (.ref 0) ds fs:=(q1.up u2.l).up U3;obtain⟨es,a0⟩:=(F2.up U3).s;have ne:iI (.ref a) (.ref 0) b=ε (.bl false,b):=Yy a0 q3;obtain⟨L,o⟩:∃L:O4 Dt->O4 Dt->LI,∀y z,L y z=[ε (.lst (ns.map Dt.int)),ε (.int (c:Nat)),ε (.ref 0),ε (.ref a),ε (.tup [oJ A.wd,x,.int (r:Nat)]),y,z]:=⟨_,fun V V=>rfl⟩
 have l0:∀y z,(L y z)[0]?=ε (ε (.lst (ns.map Dt.int))):=fun y z=>by rw[o];rfl
 have Q:∀y z,(L y z)[1]?=ε (ε (.int (c:Nat))):=fun y z=>by rw[o];rfl
 have I:∀y z,(L y z)[2]?=ε (ε (.ref 0)):=fun y z=>by rw[o];rfl
 have l3:∀y z,(L y z)[3]?=ε (ε (.ref a)):=fun y z=>by rw[o];rfl
 have l4:∀y z,(L y z)[4]?=ε (ε (.tup [oJ A.wd,x,.int (r:Nat)])):=fun y z=>by rw[o];rfl
 have l5:∀y z,(L (ε y) z)[5]?=ε (ε y):=fun y z=>by rw[o];rfl
 have l6:∀y z,(L y (ε z))[6]?=ε (ε z):=fun y z=>by rw[o];rfl
 have fn:∀R,vC (CP [ε (.lst (ns.map Dt.int)),none,none,none,none,none,none] [])=R->qK [.lst (ns.map Dt.int)] []=R:=fun R e=>e
 have s2:rA DJ [] (aA (eV 0) (aA (eV 1) dA)) [ε (.lst (ns.map Dt.int)),ε (.int (c:Nat)),none,none,none,none,none] []=ε (.ref 0,h1):=by simp![OA,zA,xA,gA,Ti,Ui,iA,fA,Ve,ef];rfl
 have s3:rA tJ [] (aA (eV 2) dA) [ε (.lst (ns.map Dt.int)),ε (.int (c:Nat)),ε (.ref 0),none,none,none,none] h1=ε (.ref a,h2):=by simp![OA,zA,xA,gA,Ti,Ui,iA,fA,Ve,a2]
 have s4:rA yI [] (aA (eV 1) (aA (eV 3) (aA (nS 2) dA))) [ε (.lst (ns.map Dt.int)),ε (.int (c:Nat)),ε (.ref 0),ε (.ref a),none,none,none] h2=ε (.tup [oJ A.wd,x,.int (r:Nat)],b):=by simp![OA,zA,xA,gA,pA,Ti,Ui,iA,fA,Ve];exact ep
 have t5:XB (SC (mn (OF "tuple" (eV 4)))) (XB (mn (e2 yD (GB eB (eV 4)) (nS 3))) (mn (e2 iI (eV 3) (eV 2)))) (L none none) b=ε (false,b):=by
  have ty:kG b (.tup [oJ A.wd,x,.int (r:Nat)])=ε "tuple" :=rfl;have tt:SM.nN "tuple" "tuple" =true:=by decide
  have fl:eB (.tup [oJ A.wd,x,.int (r:Nat)]) b=ε (.int 3,b):=rfl;simp![HD,xH,IA,JM,oA,LB,gA,pA,I,l3,l4,iA,fA,ty,Vu,tt,NA,wz,Xo,g8,fl,gH,decide_true,ne]
 have E:=fn _ (ec _ _ (uE s2 rfl (uE s3 rfl (uE (l':=L none none) s4 (by rw[o];rfl) (KC t5 rfl)))));rw[E];have W:∀(D:RE)(due:Bool)(l:LI)(H H1 J:HI)(d:Dt),l[1]?=ε (ε (.int (c:Nat)))->l[2]?=ε (ε (.ref 0))->D l H=ε (d,H1)->wF [.int (c:Nat),.ref 0,d,.bl due] H1=ε (.bl true,J)->rA wF [] (aA (eV 1) (aA (eV 2) (aA D (aA (eC (.bl due)) dA)))) l H=ε (.bl true,J):=fun D due l H H1 J d z1 z2 e1 e2=>by simp![OA,zA,xA,gA,pA,z1,z2,iA,fA,e1,Ve,e2]
 have Y:∀(f:RE)(l:LI)(H J:HI),f l H=ε (.bl true,J)->SC (mn f) l H=ε (false,J):=fun f l H J e=>by simp![xH,IA,e,fA,NA,wz]
 have w0:∀(y z:O4 Dt)(H:HI),e2 nA (eV 4) (nS 0) (L y z) H=ε (oJ A.wd,H):=fun y z H=>by
  have:∀H,nA (.tup [oJ A.wd,x,.int (r:Nat)]) (.int 0) H=ε (oJ A.wd,H):=fun V=>rfl
  simp![oA,gA,pA,l4,iA,fA,this]
 have T:∀(y z:O4 Dt)(H:HI),e2 nA (eV 4) (nS 1) (L y z) H=ε (x,H):=fun y z H=>by
  have:∀H,nA (.tup [oJ A.wd,x,.int (r:Nat)]) (.int 1) H=ε (x,H):=fun V=>rfl
  simp![oA,gA,pA,l4,iA,fA,this]
 have O:mn (e2 yD (e2 nA (eV 4) (nS 0)) (eC (.str "clash"))) (L none none) b=ε (match A.wd with | .clash=>false | _=>true,b):=by rw[IA,oA,w0];cases A.wd<;>rfl
 by_cases wc:A.wd=.clash
 . have O:mn (e2 yD (e2 nA (eV 4) (nS 0)) (eC (.str "clash"))) (L none none) b=ε (false,b):=by rw[O,wc]
   obtain⟨tr,eA,TA⟩:=wg AN wc;have P:TC c 2 (pD fs) 12 (NC mC fs) (JB fs) 0 (.clash tr) r:=by rw[<- eA];exact P
   have C:=aY 12 _ _ 0 tr r P;have gf:sO (JB fs):=fun g hg=>⟨(M.g3 g hg).1,uq (M.g3 g hg).2 (by decide)⟩
   obtain⟨Z,dp⟩:=ZR (show c<=8 by omega) n 12 _ _ _ gf u q C;have ft:=nU tr Z TA;have Co:=JX 12 _ _ _ u q C;obtain⟨b1,a3⟩:=ZR (show c<=8 by omega) n 12 _ _ _ gf u q Co;generalize zE tr=t at *;have i1:=bw 14 t 40 ft nofun nofun Z;obtain⟨h4,e4,U4⟩:=HL (show c<=8 by omega) q3 ft dp (due:=true) (fun v S=>LO n 12 _ _ _ C 12 v S);have t6:XB (SC (mn (rA (lH 14) [] (aA (e2 nA (eV 4) (nS 1)) (aA (nS 40) dA))))) (SC (mn (rA wF [] (aA (eV 1) (aA (eV 2) (aA (e2 nA (eV 4) (nS 1)) (aA (eC (.bl true)) dA))))))) (L none none) b=ε (false,h4):=by rw[HD,Y _ _ _ b (by rw[OA,zA,T];exact i1),fA,eH Xe];exact Y _ _ _ _ (W _ _ _ _ _ _ _ (Q _ _) (I _ _) (T _ _ _) e4)
   obtain⟨d5,eo,fo⟩:=uf 14 t (my.up U4 t ft) nofun Z;obtain⟨F,e5,U5⟩:=HL (show c<=8 by omega) (q3.up U4) fo a3 (due:=true) (fun v S=>LO n 12 _ _ _ Co 12 v S);have t7:SC (mn (rA wF [] (aA (eV 1) (aA (eV 2) (aA (rA (NE 14) [] (aA (e2 nA (eV 4) (nS 1)) dA)) (aA (eC (.bl true)) dA)))))) (L none none) h4=ε (false,F):=Y _ _ _ _ (W _ _ _ _ _ _ _ (Q _ _) (I _ _) (by rw[OA,zA,T];exact eo) e5);have B:=U4.trans U5;obtain⟨h6,t8,a5⟩:∃h6,KF (mn (e2 QA (eV 1) (nS 2))) (SC (mn (rA wF [] (aA (eV 1) (aA (eV 2) (aA (rA bL [] (aA (eV 2) (aA (e2 nA (eV 4) (nS 1)) dA))) (aA (eC (.bl true)) dA))))))) (L none none) F=ε (false,h6)/\mu F h6:=by
    have ce:mn (e2 QA (eV 1) (nS 2)) (L none none) F=ε (decide ((c:Int)=2),F):=by simp![IA,oA,gA,pA,Q,iA,fA,lD,NA]
    by_cases z:c=2
    . subst z;rw[show decide (((2:Nat):Int)=2)=true from rfl]at ce;obtain⟨d',t',e,f',a4,n',C'⟩:=Lj (q3.up B) (my.up B t ft) Z dp C;obtain⟨h6,e6,U6⟩:=HL (show 2<=8 by omega) (q3.up B) f' a4 (due:=true) (fun v S=>LO n n' _ _ _ C' 12 v S);refine⟨h6,?_,U6⟩;rw[wH,ce,fA,eG rfl];refine Y _ _ _ _ (W _ _ _ _ _ _ _ (Q _ _) (I _ _) ?_ e6);rw[OA,zA,gA,I];show mB (mB (aA _ dA (L none none) F) _) _=_;rw[zA,T];exact e
    . rw[iu nofun]at ce;exact⟨F,by rw[wH,ce,fA,eH Xe],mu.refl F⟩
   have a6:=B.trans a5;obtain⟨l',h7,ew,_⟩:=MJ (i:=5) (body:=XO) (fun k:Nat=>Dt.int (k:Int)) (fun k l h=>(∃y z,l=L y z)/\mu b h) 2 (by
    rintro k hk l h ⟨⟨y,z,rfl⟩,U⟩;obtain⟨N,eN⟩:=IP (ns[1]?.getD 0+7*(k:Int)*(k:Int)) (f:=1226874159) (p:=2147483629) (by decide) (by decide);simp![Io]at eN;have k5:(L y z).set 5 (ε (.int (k:Nat)))=L (ε (.int (k:Nat))) z:=by rw[o,o];rfl
    have u1:=EG (h:=h) (i:=7) (j:=(k:Int)) (Or.inl ⟨by decide,by decide⟩);have u2:=EG (h:=h) (i:=7*(k:Int)) (j:=(k:Int)) (Or.inr ⟨by omega,by omega⟩);have sN:rA MH [] (aA (e2 VB (rA pE [] (aA (eV 0) (aA (nS 1) dA))) (e2 wC (e2 wC (nS 7) (eV 5)) (eV 5))) (aA (nS 1226874159) (aA (nS 2147483629) dA))) (L (ε (.int (k:Nat))) z) h=ε (.int (N:Nat),h):=by simp![OA,zA,xA,oA,gA,pA,l0,l5,iA,fA,Ve,c1,u1,u2,AE,eN]
    obtain⟨d',h8,t',es,Us,K,SP,DP⟩:=Gg 14 t N (my.up U t ft) (mu.refl h) nofun Z;obtain⟨h9,e9,U9⟩:=HL (show c<=8 by omega) (q3.up (U.trans Us)) (K h8 Us fun V V V e=>e) nofun (due:=false) (fun v S=>Ld (show c<=8 by omega) n SP C S);refine⟨.nx (L (ε (.int (k:Nat))) (ε (.int (N:Nat)))) h9,?_,⟨_,_,rfl⟩,U.trans (Us.trans U9)⟩;rw[k5,XO,OC sN (l':=L (ε (.int (k:Nat))) (ε (.int (N:Nat)))) (by rw[o,o];rfl)];have sp:rA (nH 14) [] (aA (e2 nA (eV 4) (nS 1)) (aA (eV 6) dA)) (L (ε (.int (k:Nat))) (ε (.int (N:Nat)))) h=ε (d',h8):=by simp![OA,zA,xA,T,gA,l6,iA,fA,Ve,es]
    simp![FB,Y _ _ _ _ (W _ _ _ _ _ _ _ (Q _ _) (I _ _) sp e9),fA,Xo,g8,OD]) (L none none) h6 ⟨⟨_,_,rfl⟩,a6⟩
   have r2:VG (nS 2) (L none none) h6=ε (.vals ((List.range 2).map fun(k:Nat)=>Dt.int (k:Int)),h6):=by rw[XI];exact dG (j:=2) (by decide) (by decide)
   exact⟨h7,KC O (KC t6 (KC t7 (KC t8 (jZ r2 (by rw[VF];exact ew) (sH rfl)))))⟩
 . have O:mn (e2 yD (e2 nA (eV 4) (nS 0)) (eC (.str "clash"))) (L none none) b=ε (true,b):=by
    rw[O];cases w:A.wd with
    | clash=>exact Es w wc
    | _=>rfl
   have em:=Xq u q P wc;obtain⟨h4,e4,_⟩:=HL (show c<=8 by omega) q3 (t:=.Ws []) (d:=.tup [.str "threes", .lst []]) (by simp![my];exact⟨_,rfl,rfl⟩) (by simp![MA];omega) (due:=false) (fun v S=>Eh em S);exact⟨h4,JC O (W _ _ _ _ _ _ _ (Q _ _) (I _ _) rfl e4)⟩
set_option maxHeartbeats 0 in
def Jc {l:PySem.W.OpenLaw} {K:Ra} (T:B1 K mg h d j i b g) (k:mg "law" =ε (.ref fa))
 :∃m,(∀s v,BindsTo s m ⟨[v],[]⟩ [("_law_script",v)])/\∀base,K.In base->base.Ns mainGlobals mg->ai l.prog w K mg base lG 33 fa m ["_law_script"] (nJ K 1 qK):=by
 obtain⟨f,x,u,kV,dc,r,B,y,ct,q,a,n,p,o⟩:=T.Qm;have e:=k.symm.trans (PySem.W.mg_of T.X T.G a);cases e;exact⟨_,fun s v=>.of_eq rfl,fun base z z=>Ul T (yP n p o)⟩
end G
open PySem.W
set_option maxRecDepth 100000 in
set_option maxHeartbeats 0 in
theorem PySem.Challenge.cw_spanways_k20_trees_followed_holds : PySem.Challenge.rw_spanways_k20_trees_followed.Holds := by
 w_on;o_law;k_head;(case hw=>w_witness2)
 k_fill
 refine SM.Ry (l:=PySem.Challenge.rw_spanways_k20_trees_followed) (F:=G.qK) (k:=33) (x := "_law_script") rfl rfl ⟨rfl,by decide,by decide⟩ (fun w h Y=>PySem.W.kIn_of Y) ?F G.law_true
 case F=>
  intro w mg fa h b d a
  refine' G.Jc ⟨b,d,?q0,?q1,?q2,?q3,?q4,?q5,?q6,?q7,?q8,?q9,?qa,?qb,?qc,?qd,?qe,?qf,?qg,?qh,?qi,?qj,?qk,?ql,?qm,?qn,?qo,?qp,?qq,?qr,?qs,?qt,?qu,?qv,?qw,?qx,?qy,?qz,?Q0,?Q1,?Q2,?Q3,?Q4,?Q5,?Q6,?Q7,?Q8,?Q9,?Qa,?Qb,?Qc,?Qd,?Qe,?Qf,?Qg,?Qh,?Qi,?Qj,?Qk,?Ql,?Qm,?Qn,?Qo,?Qp,?Qq,?Qr,?Qs,?Qt,?Qu,?Qv,?Qw,?Qx,?Qy,?Qz,?U0,?U1,?U2,?U3,?U4,?U5,?U6,?U7,?U8,?U9⟩ a
  (case q0=>exact⟨by k_is,by k_is,by k_is,by k_is,by k_is,by k_is,by k_is⟩)
  (case q1 | q2 | q3=>k_is)
  (case q4 | q5 | q6 | q7 | q8 | q9 | qa | qb | qc | qd | qe | qf | qg | qh | qi | qj | qk | ql | qm | qn | qo | qp | qq | qr | qs | qt | qu | qv | qw | qx | qy | qz | Q0 | Q1 | Q2 | Q3 | Q4=>exact⟨_,_,_,_,_,_,_,_,_,_,by k_is,by k_is,by k_is,by k_is⟩)
  (case Q5 | Q6 | Q7=>exact⟨_,_,_,_,_,_,_,_,_,_,by k_is,by k_is,by k_is,by k_is,by k_is⟩)
  (case Q8=>exact⟨_,_,_,_,_,_,_,_,_,_,by k_is,by k_is,by k_is,by k_is⟩)
  (case Q9=>exact⟨_,_,_,_,_,_,_,_,_,_,_,_,_,_,by k_is,by k_is,by k_is,by k_is,by k_is,by rfl⟩)
  (case Qa | Qb | Qc | Qd | Qe | Qf | Qg | Qh | Qi | Qj | Qk | Ql | Qm=>exact⟨_,_,_,_,_,_,_,_,_,_,by k_is,by k_is,by k_is,by k_is⟩)
  (case Qn | Qo | Qp | Qq | Qr | Qs | Qt | Qu | Qv | Qw | Qx | Qy | Qz | U0 | U1 | U2=>k_is)
  (case U3=>kernel_rfl)
  (case U4=>k_is)
  (case U5=>kernel_rfl)
  (case U6=>k_is)
  (case U7=>kernel_rfl)
  (case U8=>k_is)
  (case U9=>kernel_rfl)
end
