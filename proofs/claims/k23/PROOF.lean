import PyProof.Rows.All
import Wide.All
import OpenK.AllK
import Wide.FinOn
import Lean
import PyProof.EqAt
import PyProof.EqKinds
import PyProof.TupleCall
import PyProof.Rows.SetFrom
import PySem.Challenge.RW_spanways_k23_whole_questions
set_option Elab.async false
set_option linter.all false
set_option maxRecDepth 100000
set_option tactic.hygienic false
set_option bootstrap.genMatcherCode false
noncomputable section
set_option compiler.extract_closed false
namespace PySem.W.Fast
abbrev Z:=Nat
def tw3416516883474393981:=Z
def tw11843589209123302336:=Z
def tw12237945956116506594:=Z
def tw16972115918848149749:=Z
def tw11139298636201305882:=Z
def tw8306002702297298314:=Z
def tw16908288028289934307:=Z
def tw5364381650704068316:=Z
def tw8034530493361656757:=Z
def tw13892476727811605451:=Z
def tw8564854062955423179:=Z
def tw627471677297821094:=Z
def tw12554465919718112121:=Z
def tw7984757473492118667:=Z
def tw5815182310352220241:=Z
def tw13513631637277602990:=Z
def tw12155085286496757307:=Z
def tw6865655632119595889:=Z
def tw2811711633951862642:=Z
def tw2460494944052463717:=Z
def tw2749856171418433516:=Z
def tw18228341930683214217:=Z
def tw9798212046225643384:=Z
def tw10889750734934901898:=Z
def tw8037740608592311192:=Z
def tw662080329374331065:=Z
def tw9888850504721278402:=Z
def tw6364590803484331985:=Z
def tw10528267242080809706:=Z
def tw2606602535700024945:=Z
def tw10005340124015170756:=Z
def tw11113753849372681201:=Z
def tw10115363970449150545:=Z
def tw11390748196487806136:=Z
def tw3683896824253976245:=Z
def tw13639790983961907541:=Z
def tw4713836958718411366:=Z
def tw15136287399478403254:=Z
def tw9910784109908450345:=Z
def tw6324858759620739901:=Z
def tw14123650819034011736:=Z
def tw16540778799801392420:=Z
def tw12873491494794194022:=Z
def tw1074621175743977701:=Z
def tw4951674303192643372:=Z
def tw858428726261392347:=Z
def tw5201690614438387868:=Z
def tw11370155460052794671:=Z
def tw6368464967261370012:=Z
def tw13405773431495495871:=Z
def tw8786806323773172226:=Z
def tw10899794154485271156:=Z
def tw6059001243208000685:=Z
def tw1673592140943328038:=Z
def tw12999709146470159647:=Z
def tw7376508298188616717:=Z
def tw1461088319567172890:=Z
def tw17877311251172687269:=Z
def tw16870602365951000761:=Z
def tw13130906603649419105:=Z
def tw7946579224663047141:=Z
def tw17762765097619049490:=Z
def tw13457516877323262352:=Z
def tw5849249113861928386:=Z
def tw9814977834611291491:=Z
def tw8992612453523441463:=Z
def tw8136805092365425832:=Z
def tw17809970175045700518:=Z
def tw6230369668739994150:=Z
def tw590746430505560525:=Z
def tw16819219508699842544:=Z
def tw3984608314107235005:=Z
def tw13879962563114638347:=Z
def tw7292737742381638041:=Z
def tw11710157651442637313:=Z
def tw10340809201928959843:=Z
def tw13936973950310223692:=Z
def tw5250045853888873084:=Z
def tw7537374935445272237:=Z
def tw17927999246734667238:=Z
def tw10727697068632467092:=Z
def tw8056699544571792706:=Z
def tw14755470415313189341:=Z
def tw1386549616885304839:=Z
def tw18175620998321466739:=Z
def tw884121881991978715:=Z
def tw18056505234340601010:=Z
def tw15120514670986863936:=Z
def tw17303085362761629404:=Z
def tw10889109453754613873:=Z
def tw17131125406018005334:=Z
def tw11381301275287150600:=Z
def tw8616100774473035918:=Z
def tw12485962198090731511:=Z
def tw16717390286596338580:=Z
def tw15325810185176700156:=Z
def tw9750271350705878492:=Z
def tw8847768922352213917:=Z
def tw4230207879123441908:=Z
def tw5684013925606858091:=Z
def tw4042368519564277262:=Z
def tw10666400408746261638:=Z
def tw13164740556265303843:=Z
def tw13268657115427353831:=Z
def tw2944063589623152719:=Z
def tw7211195123588947141:=Z
def tw1802310807013143472:=Z
def tw18395424858382760696:=Z
def tw1589622655603134305:=Z
def tw118864741446361196:=Z
def tw2943079552821382679:=Z
def tw16024192423073409227:=Z
def tw16676174967657293585:=Z
def tw14849806619508375386:=Z
def tw547544591467903127:=Z
def tw11376493624450609324:=Z
def tw5953424681398641140:=Z
def tw174727960149768970:=Z
def tw7674495314365299111:=Z
def tw4499757274910384031:=Z
def tw6913173151111812586:=Z
def tw18100046596173896141:=Z
def tw13134029998858472079:=Z
def tw1881203026195449118:=Z
def tw13867956758768698973:=Z
def tw1889859189667803340:=Z
def tw6509569776117497482:=Z
def tw17090388411992735592:=Z
def tw18411981336324782689:=Z
def tw2916315796245745352:=Z
def tw9773055518772031059:=Z
def tw24472734210154813:=Z
def tw4852402237370241669:=Z
def tw9227486098299999642:=Z
def tw11627094361337270344:=Z
def tw6852396071251219468:=Z
def tw6560853256004315:=Z
def tw18091822956105805585:=Z
def tw13022736678235482175:=Z
def tw2008101685185371729:=Z
def tw4183364155675867211:=Z
def tw9020766988241698604:=Z
def tw12042807721873212235:=Z
def tw12891533680408570199:=Z
def tw10140417911148198632:=Z
def tw14813806619876621864:=Z
def tw3543921540810760842:=Z
def tw3941741776111358419:=Z
def tw14073470546615177542:=Z
def tw1464811054467663166:=Z
def tw7017689755816233889:=Z
def tw8788605609846097406:=Z
def tw15625110315218226071:=Z
def tw18292545036696360055:=Z
def tw2892857767319721231:=Z
def tw7204136267180973941:=Z
def tw15311606132644254088:=Z
def tw12692756475166734276:=Z
def tw4813166192255789460:=Z
def tw945598153448855419:=Z
def tw926484024194281067:=Z
def tw2541285892438978314:=Z
def tw14440061579597566383:=Z
def tw4910492423906225925:=Z
def tw10410485134925598736:=Z
def tw2849811730836578671:=Z
def tw10051097883159149088:=Z
def tw5502022667141943833:=Z
def tw14631046445402925435:=Z
def tw10948208087378143153:=Z
def tw5335570789800006876:=Z
def tw3598056816092808809:=Z
def tw18125065988983823237:=Z
def tw10063898697127313373:=Z
def tw13708094233902976388:=Z
def tw1056774605833885939:=Z
def tw2588092844704014376:=Z
def tw7626275024471299224:=Z
def tw12503687010851593097:=Z
def tw3621052486612030032:=Z
def tw2872076686331831103:=Z
def tw10943033658030523024:=Z
def tw5831842213250823505:=Z
def tw3739580444706158739:=Z
def tw13203133505887379604:=Z
def tw1307551144762624779:=Z
def tw11568399879358480187:=Z
def tw9885432846514244899:=Z
def tw10783232774829088079:=Z
def tw15083759621660792174:=Z
def tw15545772749331986339:=Z
def tw17635978797744306444:=Z
def tw8834239520222065822:=Z
def tw16205658184210656254:=Z
def tw17985854895656868684:=Z
def tw7686750320544341109:=Z
def tw1128399677269927732:=Z
def tw18209157323919887593:=Z
def tw5343359869328150741:=Z
def tw15876046226222756300:=Z
def tw7932039268216350289:=Z
def tw16317399270845138276:=Z
def tw12306983692100937599:=Z
def tw2997090545815384275:=Z
def tw1363426046479972416:=Z
def tw6422539220863046648:=Z
def tw4799285262142749085:=Z
def tw8237656613170427331:=Z
def tw10654800007403281329:=Z
def tw12127290979566074845:=Z
def tw8329366785142495626:=Z
def tw11279754560538056123:=Z
def tw4695965086397423017:=Z
def tw4912106507916995657:=Z
def tw11211568180318411377:=Z
def tw6249276657022849698:=Z
def tw18310610216549832143:=Z
def tw12977042756642997594:=Z
def tw17884142612387845635:=Z
def tw11953006193769291580:=Z
def tw9129489514806713178:=Z
def tw6328528545221138662:=Z
def tw2862349239257351328:=Z
def tw1038721848772346823:=Z
def tw18372166291848936682:=Z
def tw8754091455997805160:=Z
def tw15964497893640933221:=Z
def tw11823724779020848110:=Z
def tw14038868664727753692:=Z
def tw15114493179869830185:=Z
def tw4723097381082522527:=Z
def tw1908365835347739048:=Z
def tw11394273031364527973:=Z
def tw3447454363356211339:=Z
def tw14315775150139550052:=Z
def tw8679352763228786769:=Z
def tw8377362343061345831:=Z
def tw16031768354678434850:=Z
def tw2777510200834314501:=Z
def tw17740579974986530442:=Z
def tw5755198287143303824:=Z
def tw4605701848051452080:=Z
def tw16080466072596337635:=Z
def tw3857739028004623670:=Z
def tw10911948489236934384:=Z
def tw14878500198125544470:=Z
def tw1220700874978999632:=Z
def tw2787251942032771555:=Z
def tw2824611019540370634:=Z
def tw8581214792509247693:=Z
def tw4094849445401383617:=Z
def tw13362336280022066775:=Z
def tw5701610818363877504:=Z
def tw13728017613120920047:=Z
def tw4556656811646803620:=Z
def tw5901558043100555419:=Z
def tw3648824703019668388:=Z
def tw17352627250825229380:=Z
def tw15540399983765121003:=Z
def tw17916327862392062487:=Z
def tw419941840754427588:=Z
def tw10117728467260634080:=Z
def tw1652669528732440804:=Z
def tw12177544381925189050:=Z
def tw5504505760078533122:=Z
def tw538681775467294101:=Z
def tw16971709724378220178:=Z
def tw10004693728081166279:=Z
def tw6939940154805902397:=Z
def tw16690608205957413272:=Z
def tw11720829205587408196:=Z
def tw6575323401976526196:=Z
def tw17562786527224991705:=Z
def tw6143663450023575118:=Z
def tw1601444239359372675:=Z
def tw667148372161121812:=Z
def tw11356502643950316894:=Z
def tw4054294239843151893:=Z
def tw5862136456303564605:=Z
def tw12918030025947328348:=Z
def tw14574152431084868926:=Z
def tw1768825474593058486:=Z
def tw7691164648074936352:=Z
def tw11246230790189486734:=Z
def tw2303662079707016649:=Z
def tw15837526302584129425:=Z
def tw7241451515277943179:=Z
def tw2103686826588108590:=Z
def tw13852998039072595959:=Z
def tw12059585159378071636:=Z
def tw8125843296941747531:=Z
def tw14975802038645149320:=Z
def tw1488599461290336445:=Z
def tw12673750349453941010:=Z
def tw9219076701578244501:=Z
def tw4999135670311656104:=Z
def tw12335704456224802960:=Z
def tw11204774057668317893:=Z
def tw17341294424158764356:=Z
def tw5612723049487081504:=Z
def tw9457121549744854437:=Z
def tw13653350906224062109:=Z
def tw13222609681938621871:=Z
def tw16809855890386398932:=Z
def tw17097206654827963997:=Z
def tw15985152443758361011:=Z
def tw6030010387912958598:=Z
def tw13793439499673990152:=Z
def tw2926952262526935360:=Z
def tw2115477954287267442:=Z
def tw9655110676058132585:=Z
def tw3094437400205987524:=Z
def tw10068427637967648957:=Z
def tw16637901111639351712:=Z
def tw2126554870336032462:=Z
def tw1052855339133824907:=Z
def tw12319163278946766962:=Z
def tw13612750291965185019:=Z
def tw7631971218249775717:=Z
def tw3552663933026243573:=Z
def tw3733420166955847179:=Z
def tw17066009386234629973:=Z
def tw3772573572528843038:=Z
def tw11022385062029303761:=Z
def tw11496810902082347333:=Z
def tw8490143614902648816:=Z
def tw16251262509268915117:=Z
def tw4313088932023222141:=Z
def tw16182883732480918275:=Z
def tw9760900577284042810:=Z
def tw15406753064434730553:=Z
def tw1986059029304220422:=Z
def tw10902966497247867900:=Z
def tw10520893419740212696:=Z
def tw2772782333662040663:=Z
def tw16621691608549864012:=Z
def tw1121870380480500145:=Z
def tw17021749622262350972:=Z
def tw7688453387205733438:=Z
def tw2609628572651946191:=Z
def tw8725906317956724473:=Z
def tw7105292504041326133:=Z
def tw3581966055372005589:=Z
def tw4388731760078142347:=Z
def tw3259806749673727901:=Z
def tw739584492423105723:=Z
def tw12248248633382004669:=Z
def tw3551878530230420397:=Z
def tw5077494475945066479:=Z
def tw1560478158886687429:=Z
def tw17839087754998872222:=Z
def tw9152904952131847368:=Z
def tw4098892228778302470:=Z
def tw14851713867295250114:=Z
def tw7398879604490241811:=Z
def tw73197225587489868:=Z
def tw3084995867799099388:=Z
def tw2071879505840300520:=Z
def tw3576072524655698454:=Z
def tw1515490336875581619:=Z
def tw18211436243009958522:=Z
def tw8608096310511192173:=Z
def tw17514791092583868889:=Z
def tw11849208349614782413:=Z
def tw10125081773198506125:=Z
def tw641663651005387526:=Z
def tw15888946296192024859:=Z
def tw16168056690524592481:=Z
def tw6765023036399719783:=Z
def tw15095614978674582868:=Z
def tw12626501898473511966:=Z
def tw17555615149441150360:=Z
def tw6412604492142421630:=Z
def tw12883553663633591650:=Z
def tw4444061266888954348:=Z
def tw3335661412692005835:=Z
def tw10147914091614848632:=Z
def tw12610878166979675224:=Z
def tw13277301065177296988:=Z
def tw1482733435622036345:=Z
def tw11091209885597973912:=Z
def tw1389810848723872037:=Z
def tw6348335133587495499:=Z
def tw11561022308592266438:=Z
def tw1398868576134594335:=Z
def tw13061171341597637206:=Z
def tw7904594576538663526:=Z
def tw11326547255094797816:=Z
def tw17975282069633032061:=Z
def tw3560594796473868103:=Z
def tw13333137454650188803:=Z
end PySem.W.Fast
namespace L2
end L2
namespace SM
end SM
namespace BF
end BF
namespace G
end G
open PySem PySem.Spec PyProof.Rows L2 SM BF G List
universe u
def ao:=@wpAny_bind
def au:=@wpAny_pure
def cu:=@Heap.get?_push_of_some
def cG:=@size_toArray
def dh:=@if_pos
def dz:=@if_neg
def dG:=@if_true
def eG:=@if_false
def eH:=@decide_eq_false
def eO:=@decide_eq_true
def fu:=@Heap.lt_size
def iu:=@length_append
def je:=@getElem?_eq_getElem
def ji:=@Heap.get?_push_size
def jj:=@Nat.lt_of_lt_of_le
def jo:=@getElem?_eq_none
def ju:=@mem_of_getElem?
def lu:=@getElem?_set_ne
def mq:=@length_map
def m5:=@PassesOwn.never
def m8:=@Nat.zero_le
def ni:=@Ne.symm
def nu:=@Int.toNat_natCast
def nW:=@mem_cons_of_mem
def n7:=@Nat.ne_of_lt
def ou:=@append_assoc
def rz:=@Option.some.inj
def su:=@Nat.le_trans
def tu:=@getElem?_set_self
def um:=@mem_cons_self
def uo:=@Bool.not_false
def uq:=@Bool.not_true
def u5:=@getElem?_map
def vm:=@Bool.and_eq_true
def vo:=@Prod.mk.injEq
def wu:=@Heap.get?_update_other
def xr:=@mem_append_right
def xu:=@mem_append_left
def yu:=@Nat.lt_succ_self
def za:=@Array.length_toList
def zc:=@Nat.testBit_and
def zu:=@drop_eq_getElem_cons
def Aa:=@Nat.zero_add
def Ae:=@wpAny_newObj_type
def Ai:=@mem_of_find?_eq_some
def Ao:=@mem_singleton
def Ba:=@mem_cons
def Bo:=@mem_append
def Bs:=@mem_map
def Bu:=@mem_range
def Ca:=@sizeLine_eq
def Ce:=@length_take
def Ci:=@Nat.le_of_lt
def Cu:=@Nat.sub_self
def Di:=@Nat.lt_of_le_of_lt
def Ds:=@Nat.ne_of_gt
def Du:=@absurd
def Ea:=@List.getElem?_eq_none_iff
def Ei:=@beq_eq_false_iff_ne
def Eo:=@wpAny_holding
def Es:=@Nat.lt_irrefl
def Eu:=@False.elim
def Fd:=@length_range
def Fe:=@wpAny_truthy_bool
def Fi:=@Option.some.injEq
def Fo:=@Option.map_eq_some_iff
def FN:=@Heap.get?_update_self
def Ga:=@map_append
def Ge:=@Bool.true_and
def Gi:=@wpAny_field
def Gs:=@Bool.false_and
def Gu:=@Bool.and_false
def Hi:=@Around.under_plainId
def Ho:=@Nat.lt_succ_of_lt
def Hs:=@wpAny_mono
def Hu:=@Int.cast_ofNat_Int
def Ia:=@codeAny_builtin
def Ie:=@Nat.eq_of_testBit_eq
def Ii:=@range_succ
def Io:=@find?_cons
def Iu:=@Nat.not_lt
def Ja:=@Nat.mul_le_mul
def Je:=@Nat.add_sub_cancel_left
def Ji:=@Nat.mod_lt
def Jo:=@True.intro
def Js:=@range_succ_eq_map
def Ju:=@any_cons
def Ka:=@all_cons
def Ke:=@length_set
def Ko:=@take_length
def Ks:=@replicate_succ
def Ku:=@Heap.size_push
def La:=@Option.join_some
def Le:=@Nat.le_add_right
def Li:=@nodup_cons
def Ls:=@List.cons.injEq
def Ma:=@mem_flatMap
def Mi:=@getElem?_range
def Ms:=@drop_eq_nil_of_le
def Mu:=@wpAny_updateSeq
abbrev Ni(a:Type u):=List a
abbrev Nu:=Value
abbrev Oa(a:Type u):=Option a
abbrev Oe:=Shared
abbrev Oi:=Addr
abbrev Oo:=Expr
abbrev Ou:=PySem.W.Frag
abbrev O4:=Program
abbrev Pa:=Stmt
abbrev Pb:=World
abbrev Pu:=Around
abbrev Ra(a:Type u):=Array a
abbrev Ri:=Heap
set_option hygiene false
local macro_rules|`(ε $x*)=>`(some $x*)
local macro_rules|`(tactic|dsimp![$x,*]$[$l]?)=>`(tactic|simp only[List.replicate,Nat.reduceAdd,Nat.reduceSub,Ro,Ss,Uo,dG,fA,jA,kA,mB,$x,*]$[$l]?)
set_option hygiene true
local macro_rules|`(tactic|unhygienic $t)=>`(tactic|with_unfolding_all $t)
local macro_rules|`(nofun)=>`(by omega)
local macro_rules|`(⋯)=>`(by simp)
local macro_rules|`(tactic|simp![$x,*]$[$l]?)=>`(tactic|simp only[$x,*]$[$l]?)
theorem Ro{b:Type _}{a:b}{l:Ni b}:(a::l)[0]?=ε a:=rfl
theorem Rr{b:Type _}{a:b}{l:Ni b}{i:Nat}:(a::l)[i+1]?=l[i]?:=rfl
theorem Ss{b:Type _}{a:b}{l:Ni b}:(a::l).length=l.length+1:=rfl
theorem Uo{a:Type _}:([]:Ni a).length=0:=rfl
theorem Ti{b d:Type _}{f:b->d}{a:b}{l:Ni b}:(a::l).map f=f a::l.map f:=rfl
theorem Vu{b a:Type _}{f:b->a}:[].map f=[]:=rfl
theorem Va{d:Type _}{a b:d}{l:Ni d}:(a::l).set 0 b=b::l:=rfl
theorem Vo{d:Type _}{a b:d}{l:Ni d}{i:Nat}:(a::l).set (i+1) b=a::l.set i b:=rfl
theorem Uu{b d:Type _}{f:b->d}{a:b}:(ε a).map f=ε (f a):=rfl
theorem Wa{b d:Type _}{a:b}{f:b->Oa d}:(ε a).bind f=f a:=rfl
theorem Wo{a:Type _}{l:Ni a}:[]++l=l:=rfl
theorem Wu{b:Type _}{a:b}{l k:Ni b}:a::l++k=a::(l++k):=rfl
theorem Wi{b:Type _}{l:Ni b}{i:Nat}{a:b}:l[i]?=ε a->∃h:i<l.length,l[i]=a:=List.getElem?_eq_some_iff.mp
theorem Xa{a:Type _}{l k:Ni a}{i:Nat}(h:i<l.length):(l++k)[i]?=l[i]?:=List.getElem?_append_left h
theorem Wk:false≠true:=Bool.false_ne_true
theorem Ue(n:Nat):n<=n:=Nat.le_refl n
theorem Zo{a:Type _}{l k:Ni a}{i:Nat}(h:l.length<=i):(l++k)[i]?=k[i-l.length]?:=List.getElem?_append_right h
theorem Ui{a:Type _}(l:Ni a):l++[]=l:=List.append_nil l
theorem Vi:(false=true)=False:=Bool.false_eq_true
open PySem.W (Frag nsIn findIn keepIn fnOf mg_none_of)
namespace L2
noncomputable abbrev rB:=Sum Int Str
noncomputable def nK:rB->Nu->Bool
 | .inl k,v=>Value.isInt k v
 | .inr x,v=>Value.isStrOf x v
noncomputable def Y4(w:Pb):rB->Int
 | .inl k=>hashInt k
 | .inr x=>hashStr w x
theorem LG:∀{k:rB}{v:Nu},nK k v=true->(∃i t,k=Sum.inl i/\v=Value.int i t)\/(∃x t,k=Sum.inr x/\v=Value.str x t)
 | .inl i,v,h=>by obtain⟨t,e⟩:=Value.isInt_shape (k:=i) (v:=v) h;exact .inl ⟨i,t,rfl,e⟩
 | .inr x,v,h=>by obtain⟨t,e⟩:=Value.isStrOf_shape (x:=x) (v:=v) h;exact .inr ⟨x,t,rfl,e⟩
theorem Fy(i:Int)(t:Tok):nK (.inl i) (.int i t)=true:=by simp[nK,Value.isInt]
theorem Gy(x:Str)(t:Tok):nK (.inr x) (.str x t)=true:=by simp[nK,Value.isStrOf]
theorem jl(a b:Int):decide ((Sum.inl a:rB)=Sum.inl b)=(a==b):=by
 by_cases e:a=b
 . subst e;simp
 . have h:¬(Sum.inl a:rB)=Sum.inl b:=fun q=>e (Sum.inl.inj q)
   rw[eH h];exact(Ei.mpr e).symm
theorem z7(a b:Str):decide ((Sum.inr a:rB)=Sum.inr b)=decide (a=b):=by
 by_cases e:a=b
 . subst e;simp
 . have h:¬(Sum.inr a:rB)=Sum.inr b:=fun q=>e (Sum.inr.inj q)
   rw[eH h,eH e]
theorem Al(a:Int)(b:Str):decide ((Sum.inl a:rB)=Sum.inr b)=false:=eH (fun q=>nomatch q)
theorem y7(a:Str)(b:Int):decide ((Sum.inr a:rB)=Sum.inl b)=false:=eH (fun q=>nomatch q)
def AD(prog:O4)(w:Pb):PySem.KeyKind prog w rB where
 is:=nK
 hash:=Y4 w
 inj:=fun v a b n g=>by
  rcases LG n with⟨i,t,rfl,rfl⟩ | ⟨x,t,rfl,rfl⟩
  . rcases LG g with⟨j,u,rfl,e⟩ | ⟨y,u,rfl,e⟩
    . injection e with d _;rw[d]
    . exact nomatch e
  . rcases LG g with⟨j,u,rfl,e⟩ | ⟨y,u,rfl,e⟩
    . exact nomatch e
    . injection e with d _;rw[d]
 byValue:=fun k v h=>by rcases LG h with⟨i,t,rfl,rfl⟩ | ⟨x,t,rfl,rfl⟩<;>rfl
 pyHash:=fun f h=>by
  rcases LG f with⟨i,t,rfl,rfl⟩ | ⟨x,t,rfl,rfl⟩
  . exact wpAny_pyHash_int h
  . exact wpAny_pyHash_str h
 eqBool:=fun m f h=>by
  rcases LG m with⟨i,t,rfl,rfl⟩ | ⟨x,t,rfl,rfl⟩
  . rcases LG f with⟨j,u,rfl,rfl⟩ | ⟨y,u,rfl,rfl⟩
    . rw[jl]at h;exact wpAny_eqBool_int h
    . rw[Al]at h;exact SeqAt.EqAt.int_str i t y u _ _ _ _ h
  . rcases LG f with⟨j,u,rfl,rfl⟩ | ⟨y,u,rfl,rfl⟩
    . rw[y7]at h;exact SeqAt.EqAt.str_int x t j u _ _ _ _ h
    . rw[z7]at h;exact wpAny_eqBool_str h
 «strs»:=fun k x t v h=>by
  rcases LG h with⟨i,u,rfl,e⟩ | ⟨y,u,rfl,e⟩
  . exact nomatch e
  . injection e with d _
    subst d;cases v<;>rfl
theorem Hx(prog:O4)(w:Pb)(i:Int)(t:Tok):(AD prog w).is (.inl i) (.int i t)=true:=Fy i t
theorem Jx(prog:O4)(w:Pb)(x:Str)(t:Tok):(AD prog w).is (.inr x) (.str x t)=true:=Gy x t
inductive V where
 | non | bl (b:Bool) | int (i:Int) | str (x:Str) | byt (b:Array UInt8) | flt (b:UInt64) | ref (a:Addr) | ty (n:String)
 deriving DecidableEq
noncomputable def mr:V->Nu->Prop
 | .non,u=>u=Value.none
 | .bl b,u=>u=Value.bool b
 | .int i,u=>∃t,u=Value.int i t
 | .str x,u=>∃t,u=Value.str x t
 | .byt b,u=>∃t,u=Value.bytes b t
 | .flt b,u=>∃t,u=Value.float b t
 | .ref a,u=>u=Value.ref a
 | .ty n,u=>u=Value.type n
abbrev mh:Ni V->Ni Nu->Prop:=Paired mr
theorem mh.length{xs:Ni V}{us:Ni Nu}(r:mh xs us):xs.length=us.length:=Paired.length r
theorem mh.get:∀{xs:Ni V}{us:Ni Nu}{i:Nat}{x:V},mh xs us->xs[i]?=ε x->∃u,us[i]?=ε u/\mr x u
 | _,_,_,_,.nil,e=>by simp at e
 | _,_,0,_,.cons r _,e=>by simp at e;subst e;exact⟨_,rfl,r⟩
 | _,_,i+1,x,.cons _ t,e=>by obtain⟨u,b,a⟩:=mh.get (i:=i) (x:=x) t (by simpa using e);exact⟨u,by simpa using b,a⟩
theorem mh.set{x:V}{u:Nu}(r:mr x u):∀{xs:Ni V}{us:Ni Nu}(i:Nat),mh xs us->mh (xs.set i x) (us.set i u)
 | _,_,_,.nil=>.nil
 | _,_,0,.cons _ t=>.cons r t
 | _,_,i+1,.cons q t=>.cons q (mh.set r i t)
theorem mh.append:∀{xs ys:Ni V}{us a:Ni Nu},mh xs us->mh ys a->mh (xs++ys) (us++a)
 | _,_,_,_,.nil,s=>s
 | _,_,_,_,.cons r t,s=>.cons r (mh.append t s)
theorem mh.take:∀{xs:Ni V}{us:Ni Nu}(n:Nat),mh xs us->mh (xs.take n) (us.take n)
 | _,_,0,_=>.nil
 | _,_,_+1,.nil=>.nil
 | _,_,n+1,.cons r t=>.cons r (mh.take n t)
theorem mh.drop:∀{xs:Ni V}{us:Ni Nu}(n:Nat),mh xs us->mh (xs.drop n) (us.drop n)
 | _,_,0,r=>r
 | _,_,_+1,.nil=>.nil
 | _,_,n+1,.cons _ t=>mh.drop n t
theorem mh.none_of:∀{xs:Ni V}{us:Ni Nu}{i:Nat},mh xs us->xs[i]?=none->us[i]?=none:=fun {xs us i} r e=>by have b:=r.length;have a:xs.length<=i:=Ea.mp e;exact Ea.mpr nofun
def ah:Oa V->Oa Nu->Prop
 | some v,some u=>mr v u
 | none,none=>True
 | _,_=>False
def KV{a:Type}:Ni (a×V)->Ni (a×Nu)->Prop:=Paired fun(p:a×V) (q:a×Nu)=>p.1=q.1/\mr p.2 q.2
noncomputable def kV:rB->V
 | .inl i=>.int i
 | .inr x=>.str x
inductive HO where
 | lst (xs:List V)
 | tup (xs:List V)
 | dK (kvs:List (rB×V)) | dT (kvs:List (List rB×V))
 | set (S:Int->Bool) (n:Nat)
 | ins (C dx:Addr) (fs:List (Str×V))
 | own (x:Addr)
 | xd (fs:List (Str×V))
 | met (f x:Addr)
 | rng (lo hi:Int)
 | frz (o:Obj) (u:HO)
 | tbl (ps:Array Value)
 | ext (φ:Heap->Prop)
noncomputable abbrev Hp:=Oi->Oa HO
noncomputable def oB(H:Hp)(a:Oi)(o:HO):Hp:=fun b=>if b=a then ε o else H b
theorem fC{H:Hp}{a:Oi}{o:HO}:oB H a o a=ε o:=by unfold oB;rw[dh rfl]
theorem XA{H:Hp}{a b:Oi}{o:HO}(h:b≠a):oB H a o b=H b:=by unfold oB;rw[dz h]
theorem hZ{H:Hp}{a:Oi}{o u:HO}:oB (oB H a o) a u=oB H a u:=by funext b;unfold oB;split<;>rfl
theorem qT{H:Hp}{a b:Oi}{o u:HO}(h:H a=ε o)(h':H b=ε u)(d:o≠u):a≠b:=by intro e;subst e;rw[h]at h';exact d (rz h')
theorem MC{H:Hp}{a b:Oi}{o:HO}(h:H a=ε o)(h':H b=none):a≠b:=by intro e;subst e;rw[h]at h';cases h'
section
variable(P:O4)(w:Pb)
def Xo(H:Hp)(h:Ri)(a:Oi):HO->Prop
 | .lst e=>e.length<=sizeLine/\∃(d:Ni Nu) (n:Nat),mh e d/\h.get? a=ε { cls:=.type "list",data:=.seq d.toArray n }
 | .tup e=>e.length<=sizeLine/\∃d:Ni Nu,mh e d/\IsTup h a d.toArray
 | .dK b=>b.length<=sizeLine/\(a==sysModules)=false/\∃m,KV b m/\h.DictOf (AD P w) a m
 | .dT b=>b.length<=sizeLine/\(a==sysModules)=false/\∃e:Ni (Ni rB×Oi×Nu),
  Paired (fun(p:Ni rB×V) (q:Ni rB×Oi×Nu)=>p.1=q.1/\H q.2.1=ε (.tup (p.1.map kV))/\mr p.2 q.2.2) b e/\
  ∃o y F,h.get? a=ε o/\o.ExactDict/\o.data=.dict y F/\y.toList=e.map (entryOfKey (tupleKind (AD P w)))/\(e.map (·.1)).Nodup
 | .set S n=>h.SetOf (intKind P w) a S n
 | .ins C i fs=>H i=ε (.own a)/\fs.length<=1000/\i≠a/\h.get? a=ε (PySem.W.instObj C i)/\
  ∃g,h.Ns1 i g/\(∀f,ah (fs.lookup f) (g f))/\PySem.Within g (fs.map (·.1))
 | .own _=>∃o,h.get? a=ε o
 | .xd fs=>∃g,h.Ns1 a g/\∀f,ah (fs.lookup f) (g f)
 | .rng D E=>∃t u v,h.get? a=ε { cls:=.type "range",data:=.fields #[.int D t,.int E u,.int 1 v] }
 | .frz o u=>h.get? a=ε o/\Xo H h a u
 | .tbl B=>h.get? a=ε { cls:=.none,data:=.fields B }
 | .met f x=>h.get? a=ε (PySem.W.methodObj (.ref f) (.ref x))
 | .ext j=>j h/\(∃o,h.get? a=ε o)/\∀s r:Ri,j s->(∀o,s.get? a=ε o->r.get? a=ε o)->j r
def ny(H:Hp)(h:Ri):Prop:=∀a o,H a=ε o->Xo P w H h a o
end
section
variable{P:O4}{w:Pb}{H g:Hp}{h h':Ri}{a:Oi}{o:HO}
theorem Xo.lt(x:Xo P w H h a o):a<h.objs.size:=by
 cases o with
 | lst d=>obtain⟨_,_,_,_,e⟩:=x;exact fu e
 | tup d=>obtain⟨_,_,_,p⟩:=x;exact p.lt
 | dK b=>obtain⟨_,_,_,_,o,_,_,e,_⟩:=x;exact fu e
 | dT b=>obtain⟨_,_,_,_,o,_,_,e,_⟩:=x;exact fu e
 | set S n=>obtain⟨o,_,_,_,e,_⟩:=x;exact fu e
 | ins C r fs=>obtain⟨_,_,_,e,_⟩:=x;exact fu e
 | own y=>obtain⟨_,e⟩:=x;exact fu e
 | xd fs=>obtain⟨_,⟨_,_,_,e,_⟩,_⟩:=x;exact fu e
 | rng m q=>obtain⟨_,_,_,e⟩:=x;exact fu e
 | frz ob u=>obtain⟨e,_⟩:=x;exact fu e
 | tbl j=>exact fu (show h.get? a=ε _ from x)
 | met f y=>exact fu (show h.get? a=ε _ from x)
 | ext i=>obtain⟨_,⟨_,e⟩,_⟩:=x;exact fu e
theorem Paired.fk{j i:Type}{F G:j->i->Prop}:∀{e:Ni j}{d:Ni i},Paired F e d->(∀a b,F a b->G a b)->Paired G e d
 | _,_,.nil,_=>.nil
 | _,_,.cons r t,f=>.cons (f _ _ r) (Paired.fk t f)
theorem Xo.stay(x:Xo P w H h a o)(k:∀b u,(b=a\/H b=ε (.own a))->h.get? b=ε u->h'.get? b=ε u)
 (L:∀b,H b=ε (.own a)->g b=ε (.own a)) (J:∀b s,H b=ε (.tup s)->g b=ε (.tup s)):Xo P w g h' a o:=by
 induction o with
 | lst s=>obtain⟨z,m,n,r,e⟩:=x;exact⟨z,m,n,r,k _ _ (.inl rfl) e⟩
 | tup s=>obtain⟨z,m,r,ob,e,c⟩:=x;exact⟨z,m,r,ob,k _ _ (.inl rfl) e,c⟩
 | dK E=>obtain⟨z,y,I,r,ob,i,j,e,c⟩:=x;exact⟨z,y,I,r,ob,i,j,k _ _ (.inl rfl) e,c⟩
 | dT E=>obtain⟨z,y,s,r,ob,i,j,e,c⟩:=x;exact⟨z,y,s,Paired.fk r fun p q z=>⟨z.1,J _ _ z.2.1,z.2.2⟩,ob,i,j,k _ _ (.inl rfl) e,c⟩
 | set S n=>obtain⟨ob,i,j,t,e,c⟩:=x;exact⟨ob,i,j,t,k _ _ (.inl rfl) e,c⟩
 | ins C R fs=>obtain⟨d,z,ne,e,D,⟨B,i,j,e2,c⟩,r⟩:=x;exact⟨L _ d,z,ne,k _ _ (.inl rfl) e,D,⟨B,i,j,k _ _ (.inr d) e2,c⟩,r⟩
 | own y=>obtain⟨ob,e⟩:=x;exact⟨ob,k _ _ (.inl rfl) e⟩
 | xd fs=>obtain⟨D,⟨B,i,j,e,c⟩,r⟩:=x;exact⟨D,⟨B,i,j,k _ _ (.inl rfl) e,c⟩,r⟩
 | rng O Q=>obtain⟨t,u,v,e⟩:=x;exact⟨t,u,v,k _ _ (.inl rfl) e⟩
 | frz ob u ih=>obtain⟨e,q⟩:=x;exact⟨k _ _ (.inl rfl) e,ih q⟩
 | tbl F=>have e:h.get? a=ε { cls:=.none,data:=.fields F }:=x;show h'.get? a=ε { cls:=.none,data:=.fields F };exact k a _ (.inl rfl) e
 | met f y=>have e:h.get? a=ε (PySem.W.methodObj (.ref f) (.ref y)):=x;show h'.get? a=ε (PySem.W.methodObj (.ref f) (.ref y));exact k a _ (.inl rfl) e
 | ext M=>obtain⟨p,⟨o,e⟩,st⟩:=x;exact⟨st _ _ p fun o q=>k _ _ (.inl rfl) q,⟨o,k _ _ (.inl rfl) e⟩,st⟩
theorem ny.lt(x:ny P w H h)(e:H a=ε o):a<h.objs.size:=(x a o e).lt
theorem ny.fresh(x:ny P w H h)(e:h.objs.size<=a):H a=none:=by
 cases q:H a with
 | none=>rfl
 | some u=>exact Du (jj (x.lt q) e) (Es _)
theorem ny.kept(x:ny P w H h)(k:∀b u,h.get? b=ε u->h'.get? b=ε u):ny P w H h':=fun a o e=>(x a o e).stay (fun b u z q=>k b u q) (fun z q=>q) fun z z q=>q
theorem ny.laid(x:ny P w H h)(k:∀b u,h.get? b=ε u->h'.get? b=ε u)(i:h.objs.size<=a)(new:Xo P w (oB H a o) h' a o):ny P w (oB H a o) h':=fun b u e=>by
 have d:=x.fresh i;by_cases f:b=a
 . subst f;rw[fC]at e;cases e;exact new
 . rw[XA f]at e;exact(x b u e).stay (fun c v z q=>k c v q) (fun c q=>by rw[XA (MC q d)];exact q) fun c j q=>by rw[XA (MC q d)];exact q
end
def Rd(H:Hp)(a:Oi)(u:HO):Prop:=H a=ε u\/∃o,H a=ε (.frz o u)
theorem Rd.ok{P:O4}{w:Pb}{H:Hp}{h:Ri}{a:Oi}{u:HO}(r:Rd H a u)(x:ny P w H h):Xo P w H h a u:=by
 rcases r with r | ⟨o,r⟩
 . exact x a u r
 . obtain⟨_,q⟩:=x a _ r;exact q
noncomputable def JT:Oa HO->Prop
 | some (.lst _)=>True
 | some (.dK _)=>True
 | some (.dT _)=>True
 | some (.set _ _)=>True
 | some (.ins _ _ _)=>True
 | some (.ext _)=>True
 | _=>False
section
variable{P:O4}{w:Pb}{H:Hp}{h h':Ri}{x e:Oi}{a:HO}
theorem ny.write(ok:ny P w H h)(i:JT (H x))(he:e=x\/H e=ε (.own x))(k:∀b u,b≠e->h.get? b=ε u->h'.get? b=ε u)(n:∃u,h'.get? e=ε u)
 (new:Xo P w (oB H x a) h' x a):ny P w (oB H x a) h':=fun b u q=>by
 have f:∀c y,H c=ε (.own y)->c≠x:=fun c y r z=>by subst z;rw[r]at i;exact i
 have m:∀c g,H c=ε (.tup g)->c≠x:=fun c g r z=>by subst z;rw[r]at i;exact i
 by_cases j:b=x
 . subst j;rw[fC]at q;cases q;exact new
 . rw[XA j]at q;by_cases d:b=e
   . have o:H b=ε (.own x):=by
      rcases he with z | z
      . exact Du (d.trans z) j
      . rw[d];exact z
     rw[q]at o;cases o;obtain⟨v,p⟩:=n;exact⟨v,by rw[d];exact p⟩
   . refine(ok b u q).stay (fun c v hc r=>k c v ?_ r) (fun c r=>by rw[XA (f c b r)];exact r) fun c g r=>by rw[XA (m c g r)];exact r
     rcases hc with rfl | hc
     . exact d
     . rintro rfl;rcases he with z | z
       . exact f c b hc z
       . rw[hc]at z;cases z;exact j rfl
end
structure Un(fs ex:List Addr)(H H':Hp)(h h':Heap):Prop where
 keep:∀b o,h.get? b=ε o->H b=none->b∉fs->b∉ex->h'.get? b=ε o
 slot:∀b o,h.get? b=ε o->H b=none->b∈fs->b∉ex->∃sl,h'.get? b=ε { o with slots:=sl }
 free:∀b o,h.get? b=ε o->H b=none->b∉ex->H' b=none
 there:∀b o,h.get? b=ε o->b∉ex->∃o',h'.get? b=ε o'
 tups:∀b xs,H b=ε (.tup xs)->H' b=ε (.tup xs)
 bg:∀b o u,H b=ε (.frz o u)->H' b=ε (.frz o u)
 bj:∀b ps,H b=ε (.tbl ps)->∃more,H' b=ε (.tbl (ps++more))
section
variable{fs d ex f:Ni Oi}{H g i:Hp}{h h1 h2 h':Ri}{a x e:Oi}{o:HO}
theorem Un.any(u:Un fs ex H g h h1){b:Oi}{ob:Obj}(q:h.get? b=ε ob)(n:H b=none)(j:b∉ex):∃p,h1.get? b=ε { ob with slots:=p }:=by
 by_cases m:b∈fs
 . exact u.slot b ob q n m j
 . exact⟨ob.slots,u.keep b ob q n m j⟩
theorem Un.trans(a:Un fs ex H g h h1)(b:Un fs ex g i h1 h2):Un fs ex H i h h2 where
 keep:=fun c ob q n r j=>b.keep c ob (a.keep c ob q n r j) (a.free c ob q n j) r j
 slot:=fun c ob q n r j=>by obtain⟨D,m⟩:=a.slot c ob q n r j;obtain⟨s,e2⟩:=b.slot c _ m (a.free c ob q n j) r j;exact⟨s,e2⟩
 free:=fun c ob q n j=>by obtain⟨u,m⟩:=a.there c ob q j;exact b.free c u m (a.free c ob q n j) j
 there:=fun c ob q j=>by obtain⟨u,m⟩:=a.there c ob q j;exact b.there c u m j
 tups:=fun c p q=>b.tups c p (a.tups c p q)
 bg:=fun c ob p q=>b.bg c ob p (a.bg c ob p q)
 bj:=fun c y q=>by obtain⟨C,m⟩:=a.bj c y q;obtain⟨B,e2⟩:=b.bj c _ m;exact⟨C++B,by rw[e2,Array.append_assoc]⟩
theorem Un.kept(k:∀b u,h.get? b=ε u->h'.get? b=ε u):Un fs ex H H h h':=
 ⟨fun b ob q z z z=>k b ob q,fun b ob q z z z=>⟨ob.slots,k b ob q⟩,fun z z z n z=>n,fun b ob q z=>⟨ob,k b ob q⟩,fun z z q=>q,fun z z z q=>q,fun z j q=>⟨#[],by rw[q];simp⟩⟩
theorem Un.refl:Un fs ex H H h h:=Un.kept fun z z q=>q
theorem Un.laid(k:∀b u,h.get? b=ε u->h'.get? b=ε u)(p:h.objs.size<=a)(j:H a=none):Un fs ex H (oB H a o) h h' where
 keep:=fun b u q z z z=>k b u q
 slot:=fun b u q z z z=>⟨u.slots,k b u q⟩
 free:=fun b u q n z=>by rw[XA (n7 (jj (fu q) p))];exact n
 there:=fun b u q z=>⟨u,k b u q⟩
 tups:=fun b m q=>by rw[XA (MC q j)];exact q
 bg:=fun b u m q=>by rw[XA (MC q j)];exact q
 bj:=fun b r q=>⟨#[],by rw[XA (MC q j),q];simp⟩
theorem Un.write(m:JT (H x))(he:e=x\/H e=ε (.own x))(k:∀b u,b≠e->h.get? b=ε u->h'.get? b=ε u)(s:∃u,h'.get? e=ε u):Un fs ex H (oB H x o) h h':=by
 have y:∀b,H b=none->b≠x:=fun b n z=>by subst z;rw[n]at m;exact m
 have B:∀b,H b=none->b≠e:=fun b n z=>by
  subst z;rcases he with r | r
  . exact y b n r
  . rw[n]at r;cases r
 have p:∀b u,H b=ε u->¬JT (ε u)->b≠x:=fun b u q D z=>by subst z;rw[q]at m;exact D m
 refine⟨fun b u q n v v=>k b u (B b n) q,fun b u q n v v=>⟨u.slots,k b u (B b n) q⟩,fun b u q n v=>by rw[XA (y b n)];exact n,fun b u q v=>?_,
  fun b C q=>by rw[XA (p b _ q fun z=>z)];exact q,fun b u C q=>by rw[XA (p b _ q fun z=>z)];exact q,fun b E q=>⟨#[],by rw[XA (p b _ q fun z=>z),q];simp⟩⟩
 by_cases j:b=e
 . subst j;exact s
 . exact⟨u,k b u j q⟩
theorem Un.mono(u:Un fs ex H g h h1)(hs:∀b∈fs,b∈d)(m:∀b∈ex,b∈f):Un d f H g h h1:=
 ⟨fun b ob q n p j=>u.keep b ob q n (fun z=>p (hs b z)) fun z=>j (m b z),fun v v q n v j=>u.any q n fun z=>j (m _ z),fun b ob q n j=>u.free b ob q n fun z=>j (m b z),fun b ob q j=>u.there b ob q fun z=>j (m b z),u.tups,u.bg,u.bj⟩
end
noncomputable def X3(h:Ri)(H:Hp):Ni Oi:=(List.range h.objs.size).filter fun a=>(H a).isSome
def FG(h:Ri)(H:Hp):Ri:=PySem.W.hideAll h (X3 h H)
theorem Vv(h:Ri)(H:Hp):(FG h H).objs.size=h.objs.size:=PySem.W.hideAll_size _ _
theorem Ug{h:Ri}{H:Hp}{b:Oi}{o:Obj}(e:h.get? b=ε o)(n:H b=none):(FG h H).get? b=ε o:=
 PySem.W.hideAll_get _ e fun a=>by have q:(H b).isSome=true:=(mem_filter.mp a).2;rw[n]at q;simp at q
theorem Nm{h:Ri}{H:Hp}{b:Oi}{o:Obj}(e:(FG h H).get? b=ε o):h.get? b=ε o/\H b=none:=by
 have a:h.get? b=ε o:=PySem.W.of_hideAll (X3 h H) e;refine⟨a,?_⟩;cases q:H b with
 | none=>rfl
 | some x=>have d:b∈X3 h H:=mem_filter.mpr ⟨Bu.mpr (fu a),by simp[q]⟩;have z:(FG h H).get? b=none:=PySem.W.hideAll_none (X3 h H) d;rw[z]at e;cases e
noncomputable def Hf(g h:Ri)(L:Oi):Ni (Oi×Obj):=(List.range h.objs.size).filterMap fun a=>if a=L\/(g.get? a).isSome=true then none else(h.get? a).map fun o=>(a,o)
def rest(g h:Ri)(L d:Oi):Ni (Oi×Obj):=(Hf g h L).filter fun p=>decide (p.1≠d)
structure Mod(K:Frag)(mg:Str->Option Value)(base:Heap):Prop where
 kin:K.In base
 glob:base.Ns mainGlobals mg
 blt:∃mb,base.Ns builtinsNs mb/\∀x:Str,x ≠ "__name__" ->mb x=bootBuiltins x
 nolimit:base.NoLimit
structure Cx where
 prog:Program
 w:World
 K:Frag
 mg:Str->Option Value
 base:Heap
 A:Around
 N:List Str
 s₀:Shared
 H₀:Hp
 env:Env
 outer:List Env
 stack:List Env
 ex:List Addr
 fn:Str->Bool
 calm:Bool
 pn:List (Addr×Obj)
 xe:Value->Shared->Prop
noncomputable def BK(l:Ni Env):Ni Oi:=l.filterMap (·.frame)
abbrev Cx.fs(X:Cx):Ni Oi:=BK X.outer
def L3(a:Scope)(x:Str):Prop:=a.names.lookup x=ε .local\/a.names.lookup x=ε .cell\/a.names.lookup x=ε .free
def FM(a:Scope)(x:Str):Prop:=a.names.lookup x=ε .local\/a.names.lookup x=ε .cell
def o4(env:Env)(h:Ri)(m:Str->Oa Nu)(x:Str)(u:Nu):Prop:=
 (env.kindOf x=ε .local/\m x=ε u)\/((env.kindOf x=ε .cell\/env.kindOf x=ε .free)/\∃c,env.cells.lookup x=ε c/\h.IsCell c (ε u))
structure Cx.Ok(X:Cx):Prop where
 mod:Mod X.K X.mg X.base
 kind:X.env.scope.kind=.function
 glob:X.env.globals=mainGlobals
 blt:X.env.builtins=builtinsNs
 above:X.s₀.heap.objs.size<=X.env.locals
 inj:∀x y c,X.env.cells.lookup x=ε c->X.env.cells.lookup y=ε c->x=y
 has:∀x,(X.env.kindOf x=ε .cell\/X.env.kindOf x=ε .free)->∃c,X.env.cells.lookup x=ε c
 cab:∀x c,X.fn x=true->X.env.cells.lookup x=ε c->X.s₀.heap.objs.size<=c
 hd:X.calm=true->X.A.handled=none
 frames:X.A.frames=ε X.stack
 stk:X.stack=X.outer\/(X.stack=X.env::X.outer/\X.env.frame=ε X.env.locals)
 exf:∀b∈X.ex,b≠X.env.locals/\∀x c,X.env.cells.lookup x=ε c->c≠b
 bs:∀b o,X.base.get? b=ε o->X.s₀.heap.get? b=ε o/\X.H₀ b=none
 bsz:X.base.objs.size<=X.s₀.heap.objs.size
 dm:∀b o,X.base.get? b=ε o->b∉X.ex
 dq:∀b∈X.ex,b∉X.fs
 bm:X.s₀.heap.FunFrames X.base X.outer
 frf:∀b∈X.fs,X.H₀ b=none
structure mf(X:Cx)(pins:List (Addr×Obj))(σ:List (Option V))(H:Hp)(s:Shared):Prop where
 ok:X.Ok
 os:s.os=X.s₀.os
 bare:AllBare s.gens
 base:Un X.fs X.ex X.H₀ H X.s₀.heap s.heap
 loc:∃m,s.heap.Ns X.env.locals m/\∀(i:Nat)(x:Str)(v:V),X.N[i]?=ε x->σ[i]?=ε (ε v)->L3 X.env.scope x->∃u,mr v u/\o4 X.env s.heap m x u
 cell:∀x c,X.env.cells.lookup x=ε c->∃v,s.heap.IsCell c v
 free:H X.env.locals=none
 bt:∀x c,X.env.cells.lookup x=ε c->H c=none
 pin:∀p∈X.pn++pins,s.heap.get? p.1=ε p.2/\H p.1=none/\p.1≠X.env.locals/\p.1∉X.fs/\∀v,p.2.data≠.cell v
 hok:ny X.prog X.w H s.heap
 len:σ.length=X.N.length
section
variable{X:Cx}{f:Ni (Oi×Obj)}{g:Ni (Oa V)}{H w:Hp}{s:Oe}{h':Ri}
theorem Cx.Ok.h6(ok:X.Ok){b:Oi}{o:Obj}(e:X.base.get? b=ε o):b∉X.fs:=fun a=>by have:=(ok.bm.mem a).1;rw[e]at this;cases this
theorem mf.bs(I:mf X f g H s):∀b o,X.base.get? b=ε o->s.heap.get? b=ε o/\H b=none:=fun b o e=>⟨I.base.keep b o (I.ok.bs b o e).1 (I.ok.bs b o e).2 (I.ok.h6 e) (I.ok.dm b o e),I.base.free b o (I.ok.bs b o e).1 (I.ok.bs b o e).2 (I.ok.dm b o e)⟩
theorem mf.bk(I:mf X f g H s):∀b o,X.base.get? b=ε o->s.heap.get? b=ε o:=fun b o e=>(I.bs b o e).1
theorem mf.mod(I:mf X f g H s):Mod X.K X.mg X.base:=I.ok.mod
theorem mf.kIn(I:mf X f g H s):X.K.In s.heap:=I.ok.mod.kin.keeps I.bk
theorem mf.nolimit(I:mf X f g H s):s.heap.NoLimit:=I.ok.mod.nolimit.keeps I.bk
theorem mf.lt(I:mf X f g H s):X.env.locals<s.heap.objs.size:=let ⟨_,hn,_⟩:=I.loc;hn.lt
theorem mf.sz(I:mf X f g H s):X.s₀.heap.objs.size<=s.heap.objs.size:=su I.ok.above (Ci I.lt)
theorem mf.h7(I:mf X f g H s){a:Oi}(h:s.heap.objs.size<=a):a∉X.fs:=fun d=>by obtain⟨_,o,b,_⟩:=I.ok.bm.mem d;exact Du (jj (fu b) (su I.sz h)) (Es _)
theorem mf.cne(I:mf X f g H s):∀x c,X.env.cells.lookup x=ε c->c≠X.env.locals:=fun x c e z=>by obtain⟨v,o,d,hd⟩:=I.cell x c e;obtain⟨m,⟨h,i,j,a,b,_⟩,_⟩:=I.loc;rw[z,a]at d;cases d;rw[b]at hd;cases hd
theorem mf.bm(I:mf X f g H s):s.heap.FunFrames X.base X.outer:=by
 have all:∀(l:Ni Env),(∀b∈BK l,b∈X.fs)->X.s₀.heap.FunFrames X.base l->s.heap.FunFrames X.base l:=by
  intro l
  induction l with
  | nil=>intro _ _;trivial
  | cons env r ih=>
   intro hs n;obtain⟨p,⟨L,o,a,m,j,hd⟩,i⟩:=n;have h:L∈X.fs:=hs L (by unfold BK;rw[filterMap_cons,a];exact um);obtain⟨q,e⟩:=I.base.slot L o j (I.ok.frf L h) h fun z=>I.ok.dq L z h
   exact⟨p,⟨L,_,a,m,e,hd⟩,ih (fun b d=>hs b (by unfold BK;rw[filterMap_cons,a];exact nW _ d)) i⟩
 exact all X.outer (fun v d=>d) I.ok.bm
theorem mf.stack(I:mf X f g H s):s.heap.FunFrames X.base X.stack:=by
 rcases I.ok.stk with e | ⟨e,b⟩
 . rw[e];exact I.bm
 . rw[e];obtain⟨m,a,_⟩:=I.loc;refine .cons (by rw[I.ok.kind];decide) b a ?_ I.bm;exact Heap.get?_none_of_le (su I.ok.bsz I.ok.above)
theorem mf.fq(I:mf X f g H s):∀b∈BK X.stack,b∈X.env.locals::X.fs:=fun b a=>by
 rcases I.ok.stk with e | ⟨e,d⟩
 . rw[e]at a;exact nW _ a
 . rw[e]at a;unfold BK at a;rw[filterMap_cons,d]at a;exact a
theorem mf.gv(I:mf X f g H s):∀b∈BK X.stack,H b=none:=fun b hb=>by
 rcases Ba.mp (I.fq b hb)with e | hb
 . rw[e];exact I.free
 . obtain⟨_,o,a,_⟩:=I.ok.bm.mem hb;exact I.base.free b o a (I.ok.frf b hb) fun z=>I.ok.dq b z hb
theorem mf.step{g':Ra GenState}{t':Nat}{d':Drawn}{ch:Ni Oi}(I:mf X f g H s)
 (j:∀b∈ch,(b∈X.ex\/X.s₀.heap.objs.size<=b)/\b≠X.env.locals/\(∀x c,X.env.cells.lookup x=ε c->c≠b)/\∀p∈X.pn++f,p.1≠b)
 (keep:∀b o,b≠X.env.locals->b∉X.fs->b∉ch->s.heap.get? b=ε o->H b=none->h'.get? b=ε o)
 (slot:∀b o,b≠X.env.locals->b∈X.fs->b∉ch->s.heap.get? b=ε o->H b=none->∃P,h'.get? b=ε { o with slots:=P }) (free:∀b o,b∉ch->s.heap.get? b=ε o->H b=none->w b=none)
 (there:∀b o,b∉ch->s.heap.get? b=ε o->∃J,h'.get? b=ε J)
 (tups:∀b D,H b=ε (.tup D)->w b=ε (.tup D)) (bg:∀b o u,H b=ε (.frz o u)->w b=ε (.frz o u)) (bj:∀b M,H b=ε (.tbl M)->∃more,w b=ε (.tbl (M++more)))
 (ns:∀m,s.heap.Ns X.env.locals m->h'.Ns X.env.locals m) (hok:ny X.prog X.w w h') (hg:AllBare g') :
 mf X f g w { s with heap:=h',gens:=g',drawn:=d',toks:=t' }:=by
 have L:∀b o,X.s₀.heap.get? b=ε o->b≠X.env.locals:=fun b o e=>n7 (jj (fu e) I.ok.above)
 have B:∀b o,X.s₀.heap.get? b=ε o->b∉X.ex->b∉ch:=fun b o e a E=>by
  rcases(j b E).1 with z | z
  . exact a z
  . exact Du (jj (fu e) z) (Es _)
 have y:∀x c,X.env.cells.lookup x=ε c->∀v,s.heap.IsCell c v->h'.IsCell c v:=fun x c e v T=>by
  obtain⟨o,F,hd⟩:=T;have h:c∉ch:=fun z=>(j c z).2.2.1 x c e rfl
  by_cases S:c∈X.fs
  . obtain⟨P,q⟩:=slot c o (I.cne x c e) S h F (I.bt x c e);exact⟨_,q,hd⟩
  . exact⟨o,keep c o (I.cne x c e) S h F (I.bt x c e),hd⟩
 refine⟨I.ok,I.os,hg,⟨fun b o e n E a=>?_,fun b o e n E a=>?_,fun b o e n a=>?_,fun b o e a=>?_,fun b D e=>tups b D (I.base.tups b D e),fun b o D e=>bg b o D (I.base.bg b o D e),fun b M e=>?_⟩,?_,fun x c e=>?_,?_,fun x c e=>?_,fun p R=>?_,hok,I.len⟩
 . exact keep b o (L b o e) E (B b o e a) (I.base.keep b o e n E a) (I.base.free b o e n a)
 . obtain⟨P,C⟩:=I.base.slot b o e n E a;obtain⟨O,e2⟩:=slot b _ (L b o e) E (B b o e a) C (I.base.free b o e n a);exact⟨O,e2⟩
 . obtain⟨J,C⟩:=I.base.there b o e a;exact free b J (B b o e a) C (I.base.free b o e n a)
 . obtain⟨J,C⟩:=I.base.there b o e a;exact there b J (B b o e a) C
 . obtain⟨W,C⟩:=I.base.bj b M e;obtain⟨U,e2⟩:=bj b _ C;exact⟨W++U,by rw[e2,Array.append_assoc]⟩
 . obtain⟨m,Y,Z⟩:=I.loc;refine⟨m,ns m Y,fun i x v C e2 e3=>?_⟩;obtain⟨u,r,l⟩:=Z i x v C e2 e3;refine⟨u,r,?_⟩;rcases l with l | ⟨k,c,e,z⟩
   . exact .inl l
   . exact .inr ⟨k,c,e,y x c e _ z⟩
 . obtain⟨v,z⟩:=I.cell x c e;exact⟨v,y x c e v z⟩
 . obtain⟨m,⟨o,_,_,F,_⟩,_⟩:=I.loc;exact free _ o (fun z=>(j _ z).2.1 rfl) F I.free
 . obtain⟨v,o,F,hd⟩:=I.cell x c e;exact free c o (fun z=>(j c z).2.2.1 x c e rfl) F (I.bt x c e)
 . obtain⟨e,n,ne,Q,d⟩:=I.pin p R;have h:p.1∉ch:=fun z=>(j p.1 z).2.2.2 p R rfl
   exact⟨keep p.1 p.2 ne Q h e n,free p.1 p.2 h e n,ne,Q,d⟩
theorem mf.un{t':Nat}(I:mf X f g H s)(u:Un X.fs [] H w s.heap h')(hok:ny X.prog X.w w h'):mf X f g w { s with heap:=h',toks:=t' }:=by
 obtain⟨m,⟨o,D,E,j,r⟩,_⟩:=id I.loc;obtain⟨y,x⟩:=u.any j I.free ⋯;exact I.step (g':=s.gens) (d':=s.drawn) (ch:=[]) (fun v z=>nomatch z) (fun b o v d v e n=>u.keep b o e n d ⋯) (fun b o v d v e n=>u.slot b o e n d ⋯) (fun b o v e n=>u.free b o e n ⋯) (fun b o v e=>u.there b o e ⋯) u.tups u.bg u.bj (fun C q=>by
  obtain⟨B,h,i,a,p⟩:=q;rw[j]at a;cases a;exact⟨_,h,i,x,p⟩) hok I.bare
theorem mf.call{g':Ra GenState}{t':Nat}{d':Drawn}{ch:Ni Oi}(I:mf X f g H s)(u:Un (BK X.stack) ch H w s.heap h')(hok:ny X.prog X.w w h')(D:AllBare g')
 (h:∀b∈ch,(b∈X.ex\/X.s₀.heap.objs.size<=b)/\b≠X.env.locals/\(∀x c,X.env.cells.lookup x=ε c->c≠b)/\∀p∈X.pn++f,p.1≠b) :
 mf X f g w { s with heap:=h',gens:=g',drawn:=d',toks:=t' }:=by
 obtain⟨m,⟨o,M,O,y,r⟩,_⟩:=id I.loc;obtain⟨F,i⟩:=u.any y I.free fun z=>(h _ z).2.1 rfl
 exact I.step (ch:=ch) h (fun b o i E a e n=>u.keep b o e n (fun z=>(Ba.mp (I.fq b z)).elim i E) a) (fun b o v v a e n=>u.any e n a) (fun b o a e n=>u.free b o e n a) (fun b o a e=>u.there b o e a) u.tups u.bg u.bj (fun L C=>by
  obtain⟨J,j,q,d,B⟩:=C;rw[y]at d;cases d;exact⟨_,j,q,i,B⟩) hok D
theorem mf.turned{t':Nat}{it:Oi}(I:mf X f g H s)(k:∀b o,b≠it->s.heap.get? b=ε o->h'.get? b=ε o)(j:H it=none)(h:it≠X.env.locals)
 (h1:it∈X.ex\/X.s₀.heap.objs.size<=it) (h2:∀x c,X.env.cells.lookup x=ε c->c≠it) (C:∀p∈X.pn++f,p.1≠it):mf X f g H { s with heap:=h',toks:=t' }:=by
 have d:∀b u,H b=ε u->b≠it:=fun b u e z=>by rw[z,j]at e;cases e
 refine I.step (g':=s.gens) (d':=s.drawn) (ch:=[it]) (fun b B=>?_) (fun b o t t a e t=>k b o (fun z=>a (by simp[z])) e) (fun b o t t a e t=>⟨o.slots,k b o (fun z=>a (by simp[z])) e⟩) (fun t t t t n=>n)
  (fun b o a e=>⟨o,k b o (fun z=>a (by simp[z])) e⟩) (fun t t e=>e) (fun t t t e=>e) (fun b F e=>⟨#[],by rw[e];simp⟩) (fun m y=>?_) (fun b u e=>?_) I.bare
 . have e:b=it:=by simpa using B
   subst e;exact⟨h1,h,h2,C⟩
 . obtain⟨o,D,E,i,r⟩:=y;exact⟨o,D,E,k _ o (ni h) i,r⟩
 . refine(I.hok b u e).stay (fun c v a q=>k c v ?_ q) (fun t q=>q) fun t t q=>q
   rcases a with z | z
   . rw[z];exact d b u e
   . exact d c _ z
theorem mf.tok(I:mf X f g H s)(t:Nat):mf X f g H { s with toks:=t }:=I.un (h':=s.heap) (t':=t) Un.refl I.hok
theorem mf.kept{t':Nat}(I:mf X f g H s)(k:∀b u,s.heap.get? b=ε u->h'.get? b=ε u):mf X f g H { s with heap:=h',toks:=t' }:=I.un (Un.kept k) (I.hok.kept k)
theorem mf.laid{a:Oi}{o:HO}{t':Nat}(I:mf X f g H s)(k:∀b u,s.heap.get? b=ε u->h'.get? b=ε u)(d:s.heap.objs.size<=a)(new:Xo X.prog X.w (oB H a o) h' a o) :
 mf X f g (oB H a o) { s with heap:=h',toks:=t' }:=I.un (Un.laid k d (I.hok.fresh d)) (I.hok.laid k d new)
theorem mf.write{x e:Oi}{o:HO}{t':Nat}(I:mf X f g H s)(d:JT (H x))(he:e=x\/H e=ε (.own x))(k:∀b u,b≠e->s.heap.get? b=ε u->h'.get? b=ε u)(a:∃u,h'.get? e=ε u)
 (new:Xo X.prog X.w (oB H x o) h' x o):mf X f g (oB H x o) { s with heap:=h',toks:=t' }:=I.un (Un.write d he k a) (I.hok.write d he k a new)
theorem mf.gx{a:Ni (Oi×Obj)}(I:mf X f g H s)(h:∀p∈a,s.heap.get? p.1=ε p.2/\H p.1=none/\p.1≠X.env.locals/\p.1∉X.fs/\∀v,p.2.data≠.cell v):mf X a g H s:=
 ⟨I.ok,I.os,I.bare,I.base,I.loc,I.cell,I.free,I.bt,fun p b=>(Bo.mp b).elim (fun z=>I.pin p (xu _ z)) (h p),I.hok,I.len⟩
theorem VX{N:Ni Str}(d:N.Nodup){i j:Nat}{x:Str}(a:N[i]?=ε x)(b:N[j]?=ε x):i=j:=by obtain⟨m,e⟩:=Wi a;obtain⟨h,e2⟩:=Wi b;exact(getElem_inj d).mp (e.trans e2.symm)
theorem yX{M:Model}{A:Pu}{E:Nu->Oe->Prop}{i:Nat}{x:Str}{v:V}{u:Nu}{Q:Unit->Oe->Prop}(I:mf X f g H s)(hN:X.N.Nodup)(R:X.N[i]?=ε x)(C:FM X.env.scope x)(r:mr v u)
 (h:∀s',mf X f (g.set i (ε v)) H s'->(∃a,Heap.SameBut a s.heap s'.heap/\(a=X.env.locals\/X.env.cells.lookup x=ε a))->Q () s') (hf:X.fn x=true\/X.env.scope.names.lookup x=ε .local:=by first | exact .inl rfl | exact .inr rfl | assumption):wpAny M A (storeName X.env x u) Q E s:=by
 obtain⟨m,hn,hl⟩:=id I.loc;have S:(X.env.scope.kind==.class || (X.env.scope.kind==.module&&X.env.locals !=X.env.globals))=false:=by rw[I.ok.kind];rfl
 have F:i<g.length:=by rw[I.len];exact(Wi R).1
 have cne:=I.cne;have tracked:∀{a:Oi}{h':Ri},(∃o,s.heap.get? a=ε o/\H a=none)->Heap.SameBut a s.heap h'->ny X.prog X.w H h':=fun {a h'} ha hs b ob e=>by
  obtain⟨_,_,D⟩:=ha;refine(I.hok b ob e).stay (fun c W hc q=>(hs.2 c ?_).trans q) (fun t q=>q) fun t t q=>q
  rintro rfl;rcases hc with rfl | hc
  . rw[D]at e;cases e
  . rw[D]at hc;cases hc
 rcases C with hk | hk
 . refine wpAny_storeName_local hk hn (fun h' a1 hs=>?_) S;obtain⟨oL,_,_,a0,_⟩:=id hn;refine h _ ⟨I.ok,I.os,I.bare,⟨fun b o e n O C=>?_,fun b o e n O C=>?_,I.base.free,fun b o e C=>?_,I.base.tups,I.base.bg,I.base.bj⟩,⟨_,a1,fun j y v' B e2 e3=>?_⟩,fun y c e=>?_,I.free,I.bt,fun p hp=>?_,tracked ⟨oL,a0,I.free⟩ hs,by simpa using I.len⟩ ⟨_,hs,.inl rfl⟩
   . exact(hs.2 b (n7 (jj (fu e) I.ok.above))).trans (I.base.keep b o e n O C)
   . obtain⟨sl,B⟩:=I.base.slot b o e n O C;exact⟨sl,(hs.2 b (n7 (jj (fu e) I.ok.above))).trans B⟩
   . obtain⟨o',B⟩:=I.base.there b o e C;exact⟨o',(hs.2 b (n7 (jj (fu e) I.ok.above))).trans B⟩
   . by_cases J:j=i
     . subst J;rw[R]at B;cases B;rw[tu F]at e2;cases e2;exact⟨u,r,.inl ⟨hk,by simp⟩⟩
     . rw[lu (ni J)]at e2;obtain⟨u',r',q⟩:=hl j y v' B e2 e3;refine⟨u',r',?_⟩;rcases q with⟨k,e⟩ | ⟨k,c,e,z⟩
       . refine .inl ⟨k,?_⟩;have:y≠x:=fun e=>J (VX hN B (e ▸ R))
         simp[this,e]
       . exact .inr ⟨k,c,e,z.sameBut hs (cne y c e)⟩
   . obtain⟨W,z⟩:=I.cell y c e;exact⟨W,z.sameBut hs (cne y c e)⟩
   . obtain⟨e,n,ne,nf,d⟩:=I.pin p hp;exact⟨(hs.2 p.1 ne).trans e,n,ne,nf,d⟩
 . have L:X.fn x=true:=by
    rcases hf with z | z
    . exact z
    . rw[z]at hk;cases hk
   obtain⟨c,hc⟩:=I.ok.has x (.inl hk);obtain⟨W,z⟩:=I.cell x c hc;refine wpAny_storeName_cell I.ok.kind hk hc z (fun h' U hs=>?_);obtain⟨oc,P,Z⟩:=id z;refine h { s with heap:=h' } ⟨I.ok,I.os,I.bare,⟨fun b o e n O C=>?_,fun b o e n O C=>?_,I.base.free,fun b o e C=>?_,I.base.tups,I.base.bg,I.base.bj⟩,⟨m,hn.sameBut hs (ni (cne x c hc)),fun j y v' B e2 e3=>?_⟩,fun y Y e=>?_,I.free,I.bt,fun p hp=>?_,tracked ⟨oc,P,I.bt x c hc⟩ hs,by simpa using I.len⟩ ⟨c,hs,.inr hc⟩
   . exact(hs.2 b (n7 (jj (fu e) (I.ok.cab x c L hc)))).trans (I.base.keep b o e n O C)
   . obtain⟨sl,B⟩:=I.base.slot b o e n O C;exact⟨sl,(hs.2 b (n7 (jj (fu e) (I.ok.cab x c L hc)))).trans B⟩
   . obtain⟨o',B⟩:=I.base.there b o e C;exact⟨o',(hs.2 b (n7 (jj (fu e) (I.ok.cab x c L hc)))).trans B⟩
   . by_cases J:j=i
     . subst J;rw[R]at B;cases B;rw[tu F]at e2;cases e2;exact⟨u,r,.inr ⟨.inl hk,c,hc,U⟩⟩
     . rw[lu (ni J)]at e2;obtain⟨u',r',q⟩:=hl j y v' B e2 e3;refine⟨u',r',?_⟩;rcases q with q | ⟨k,Y,e,z'⟩
       . exact .inl q
       . refine .inr ⟨k,Y,e,z'.sameBut hs ?_⟩;rintro rfl;exact J (VX hN B (I.ok.inj _ _ _ e hc ▸ R))
   . by_cases T:Y=c
     . subst T;exact⟨_,U⟩
     . obtain⟨w2,z2⟩:=I.cell y Y e;exact⟨w2,z2.sameBut hs T⟩
   . obtain⟨e,n,ne,nf,d⟩:=I.pin p hp;refine⟨(hs.2 p.1 ?_).trans e,n,ne,nf,d⟩;intro q;rw[q,P]at e;have q':oc=p.2:=rz e;exact d W (by rw[<- q'];exact Z)
theorem EY{M:Model}{A:Pu}{E:Nu->Oe->Prop}{i:Nat}{x:Str}{v:V}{u:Nu}{Q:Unit->Oe->Prop}(I:mf X f g H s)(j:X.N.Nodup)(d:X.N[i]?=ε x)(b:FM X.env.scope x)(r:mr v u)
 (h:∀a,mf X f (g.set i (ε v)) H a->Q () a) (e:X.fn x=true\/X.env.scope.names.lookup x=ε .local:=by first | exact .inl rfl | exact .inr rfl | assumption):wpAny M A (storeName X.env x u) Q E s:=
 yX I j d b r (fun a m q=>h a m) e
theorem mf.call'{s':Oe}{ch:Ni Oi}(I:mf X f g H s)(h:s'.os=s.os)(u:Un (BK X.stack) ch H w s.heap s'.heap)(hok:ny X.prog X.w w s'.heap)(i:AllBare s'.gens)
 (a:∀b∈ch,(b∈X.ex\/X.s₀.heap.objs.size<=b)/\b≠X.env.locals/\(∀x c,X.env.cells.lookup x=ε c->c≠b)/\∀p∈X.pn++f,p.1≠b):mf X f g w s':=by
 obtain⟨h',g',d',t',d⟩:=s';have e:d=s.os:=h;subst e;exact I.call (g':=g') (t':=t') (d':=d') u hok i a
end
abbrev XK:=Nu->Oa Oi->Hp->Prop
noncomputable abbrev St:=Ni (Oa V)
abbrev VK:=V->Hp->Prop
abbrev TE:=St->Hp->VK->Prop
abbrev TT:=St->Hp->(Bool->Hp->Prop)->Prop
abbrev TA:=St->Hp->(Ni V->Hp->Prop)->Prop
structure kH where
 nx:St->Hp->Prop
 rt:VK
 bk:St->Hp->Prop:=fun _ _=>False
 ct:St->Hp->Prop:=fun _ _=>False
abbrev TS:=kH->St->Hp->Prop
def EP(X:Cx)(a:Ni (Oi×Obj))(d:St)(Q:VK)(u:Nu)(e:Oe):Prop:=∃v b,mf X a d b e/\mr v u/\Q v b
def TP(X:Cx)(a:Ni (Oi×Obj))(e:St)(Q:Bool->Hp->Prop)(b:Bool)(f:Oe):Prop:=∃d,mf X a e d f/\Q b d
def AP(X:Cx)(a:Ni (Oi×Obj))(e:St)(Q:Ni V->Hp->Prop)(us:Ni Nu)(f:Oe):Prop:=∃b d,mf X a e d f/\mh b us/\Q b d
set_option tactic.hygienic true in
def SP(X:Cx)(b:Ni (Oi×Obj))(D:kH)(f:Flow)(e:Oe):Prop:=
 match f with
 | .next=>∃a d,mf X b a d e/\D.nx a d
 | .brk=>∃a d,mf X b a d e/\D.bk a d
 | .cont=>∃a d,mf X b a d e/\D.ct a d
 | .ret u=>∃v a d,mf X b a d e/\mr v u/\D.rt v d
def PE(X:Cx)(e:Oo)(t:TE):Prop:=
 ∀(a:Ni (Oi×Obj))(s:Oe)(b:St)(H:Hp)(Q:VK),mf X a b H s->t b H Q->wpAny (model X.prog X.w) X.A (eval e X.env) (EP X a b Q) X.xe s
def PT(X:Cx)(e:Oo)(t:TT):Prop:=
 ∀(a:Ni (Oi×Obj))(s:Oe)(b:St)(H:Hp)(Q:Bool->Hp->Prop),mf X a b H s->t b H Q->wpAny (model X.prog X.w) X.A (isTrue e X.env (eval e X.env)) (TP X a b Q) X.xe s
def PW(X:Cx)(e:Oo)(t:TT):Prop:=
 ∀(b:Sem Nu)(a:Ni (Oi×Obj))(s:Oe)(d:St)(H:Hp)(Q:Bool->Hp->Prop),mf X a d H s->t d H Q->wpAny (model X.prog X.w) X.A (isTrue e X.env b) (TP X a d Q) X.xe s
theorem PW.pt{X:Cx}{e:Oo}{t:TT}(h:PW X e t):PT X e t:=h _
def PA(X:Cx)(d:Ni Oo)(t:TA):Prop:=
 ∀(pos:Pos)(a:Ni (Oi×Obj))(s:Oe)(b:St)(H:Hp)(Q:Ni V->Hp->Prop),mf X a b H s->t b H Q->wpAny (model X.prog X.w) X.A (spliced (backTo pos (starEach d X.env))) (AP X a b Q) X.xe s
def PS(X:Cx)(st:Pa)(t:TS):Prop:=
 ∀(a:Ni (Oi×Obj))(s:Oe)(b:St)(H:Hp)(D:kH),mf X a b H s->t D b H->wpAny (model X.prog X.w) X.A (exec st X.env) (SP X a D) X.xe s
def PSs(X:Cx)(st:Ni Pa)(t:TS):Prop:=
 ∀(a:Ni (Oi×Obj))(s:Oe)(b:St)(H:Hp)(D:kH),mf X a b H s->t D b H->wpAny (model X.prog X.w) X.A (execs st X.env) (SP X a D) X.xe s
theorem uB{b:Type}{t:Sem b}{Q d:b->Oe->Prop}{M:Model}{A:Pu}{E:Nu->Oe->Prop}{s:Oe}(h:wpAny M A t Q E s)(e:∀a s,Q a s->d a s):wpAny M A t d E s:=Hs h e fun q q x=>x
section
variable{X:Cx}
noncomputable def o6(i:Nat):TE:=fun a H Q=>∃v,a[i]?=ε (ε v)/\Q v H
noncomputable def tC(v:V):TE:=fun _ H Q=>Q v H
theorem P6 {i:Nat} {x:Str} {pos:Pos} (y:X.N[i]?=ε x) (n:L3 X.env.scope x) (hd:(x==("__debug__" :Str))=false:=by decide) (f:(x==("__classdict__" :Str))=false:=by decide):PE X (.Name x pos) (o6 i):=by
 intro d s j H Q I h;obtain⟨v,e,h⟩:=h;obtain⟨m,o,q⟩:=I.loc;obtain⟨u,r,l⟩:=q i x v y e n;have b:EP X d j Q u s:=⟨v,H,I,r,h⟩;rcases l with⟨hk,p⟩ | ⟨hk,c,g,a⟩
 . exact wpAny_Name (wpAny_loadName_local I.ok.kind hk o p b) hd
 . rcases hk with hk | hk
   . exact wpAny_Name (wpAny_loadName_cell I.ok.kind hk g a b) hd
   . exact wpAny_Name (wpAny_loadName_free I.ok.kind hk g a b f) hd
theorem Y7{i j pos}:PE X (.Constant (.int i) j pos) (tC (.int i)):=fun q q q H q I h=>wpAny_Constant_int ⟨.int i,H,I.tok _,⟨_,rfl⟩,h⟩
theorem K8{b j pos}:PE X (.Constant (.bool b) j pos) (tC (.bl b)):=fun q q q H q I h=>Constant_bool ⟨.bl b,H,I,rfl,h⟩
theorem Z7{j pos}:PE X (.Constant .none j pos) (tC .non):=fun q q q H q I h=>Constant_none ⟨.non,H,I,rfl,h⟩
theorem aG{x j pos}:PE X (.Constant (.str x) j pos) (tC (.str x)):=fun q q q H q I h=>Calls.Constant_str ⟨.str x,H,I.tok _,⟨_,rfl⟩,h⟩
def Gl(X:Cx)(x:Str):Prop:=X.env.kindOf x=ε .globalImplicit
theorem UR{E:Nu->Oe->Prop}{a:Ni (Oi×Obj)}{s:Oe}{b:St}{H:Hp}{x:Str}{u:Nu}{pos:Pos}{Q:Nu->Oe->Prop}(I:mf X a b H s)(e:Gl X x)(d:X.mg x=ε u)(h:Q u s)
 (hd:(x==("__debug__" :Str))=false:=by decide):wpAny (model X.prog X.w) X.A (eval (.Name x pos) X.env) Q E s:=
 Calls.Name_function_global I.ok.kind e (Calls.loadGlobal_global (by rw[I.ok.glob];exact I.mod.glob.keeps I.bk) d h) hd
theorem WF{E:Nu->Oe->Prop}{a:Ni (Oi×Obj)}{s:Oe}{b:St}{H:Hp}{x:Str}{u:Nu}{pos:Pos}{Q:Nu->Oe->Prop}(I:mf X a b H s)(g:Gl X x)(f:X.mg x=none)(d:bootBuiltins x=ε u)(h:Q u s)
 (e:x ≠ "__name__" :=by decide) (hd:(x==("__debug__" :Str))=false:=by decide):wpAny (model X.prog X.w) X.A (eval (.Name x pos) X.env) Q E s:=by
 obtain⟨m,j,i⟩:=I.mod.blt;exact Calls.Name_function_global I.ok.kind g (Calls.loadGlobal_builtin (by rw[I.ok.glob];exact I.mod.glob.keeps I.bk) f (by rw[I.ok.blt];exact j.keeps I.bk) ((i x e).trans d) h) hd
theorem Xc {x:Str} {v:V} {u:Nu} {pos:Pos} (b:Gl X x) (a:X.mg x=ε u) (r:mr v u) (hd:(x==("__debug__" :Str))=false:=by decide):PE X (.Name x pos) (tC v):=
 fun q q q H q I h=>UR I b a ⟨v,H,I,r,h⟩ hd
theorem Kc {x:Str} {v:V} {u:Nu} {pos:Pos} (e:Gl X x) (d:X.mg x=none) (a:bootBuiltins x=ε u) (r:mr v u) (b:x ≠ "__name__" :=by decide) (hd:(x==("__debug__" :Str))=false:=by decide):PE X (.Name x pos) (tC v):=
 fun q q q H q I h=>WF I e d a ⟨v,H,I,r,h⟩ b hd
variable{a b:Oo}{f g:TE}{pos:Pos}
def PC(X:Cx)(op:CmpOp)(a b:Oo)(t:TE):Prop:=
 ∀(d:Ni (Oi×Obj))(s:Oe)(i:St)(H:Hp)(Q:VK),mf X d i H s->t i H Q->
  wpAny (model X.prog X.w) X.A (eval a X.env) (fun v h=>wpAny (model X.prog X.w) X.A (eval b X.env) (fun u e=>wpAny (model X.prog X.w) X.A (compareOp op v u) (EP X d i Q) X.xe e) X.xe h) X.xe s
theorem yr(b:Oo){op:CmpOp}(h:op≠.In)(h2:op≠.NotIn):behindInMarks op b=false:=by
 have d:(op==CmpOp.In)=false:=by cases op<;>first | rfl | exact Du rfl h
 have e2:(op==CmpOp.NotIn)=false:=by cases op<;>first | rfl | exact Du rfl h2
 cases b<;>simp[behindInMarks,d,e2]
noncomputable def tB(t:TE):TT:=fun d H Q=>t d H fun x e=>∃c,x=.bl c/\Q c e
theorem W7{op:CmpOp}{t:TE}(h:PC X op a b t)(h1:behindInMarks op b=false:=by first | exact yr _ (by decide) (by decide) | rfl):PE X (.Compare a [op] [b] pos) t:=fun d s e H Q I hw=>wpAny_Compare1 (h d s e H Q I hw) h1
theorem f7{e:Oo}{t:TE}(h:PE X e t)(he:∀i,isTrue e X.env i=(do let v <- i;standAt e.pos;holding [v] (truthy v)):=by intro _;rfl):PT X e (tB t):=by intro j s m H Q I hw;refine isTrue_plain (uB (h j s m H _ I hw) fun v u n=>?_) (he _);obtain⟨x,r,p,o,q1⟩:=n;obtain⟨d,rfl,q⟩:=q1;cases o;exact Fe ⟨r,p,q⟩
variable{k n:TT}{rest:Ni Oo}
noncomputable def V5(t u:TT):TT:=fun d H Q=>t d H fun c e=>if c=true then u d e Q else Q false e
noncomputable def tOr(t u:TT):TT:=fun d H Q=>t d H fun c e=>if c=true then Q true e else u d e Q
noncomputable def d6(t:TT):TT:=fun d H Q=>t d H fun c e=>Q (!c) e
theorem Yb(j:PT X a k):PW X (.BoolOp .And [a] pos) k:=by
 intro m d s i H Q I h;refine isTrue_and (uB (j d s i H Q I h) fun c o e=>?_);cases c with
 | true=>exact isTrue_and_nil e
 | false=>exact e
theorem j7(j:PT X a k):PW X (.BoolOp .Or [a] pos) k:=by
 intro m d s i H Q I h;refine isTrue_or (uB (j d s i H Q I h) fun c o e=>?_);cases c with
 | false=>exact isTrue_or_nil e
 | true=>exact e
theorem i7(r:PT X a k)(q:PW X (.BoolOp .And (b::rest) pos) n):PW X (.BoolOp .And (a::b::rest) pos) (V5 k n):=by
 intro o d s e H Q I h;refine isTrue_and (uB (r d s e H _ I h) fun c p m=>?_);obtain⟨j,i,q1⟩:=m;cases c with
 | true=>exact q o d p e j Q i q1
 | false=>exact⟨j,i,q1⟩
theorem O8(r:PT X a k)(q:PW X (.BoolOp .Or (b::rest) pos) n):PW X (.BoolOp .Or (a::b::rest) pos) (tOr k n):=by
 intro o d s e H Q I h;refine isTrue_or (uB (r d s e H _ I h) fun c p m=>?_);obtain⟨j,i,q1⟩:=m;cases c with
 | true=>exact⟨j,i,q1⟩
 | false=>exact q o d p e j Q i q1
theorem e7(i:PT X a k):PT X (.UnaryOp .Not a pos) (d6 k):=by intro d s e H Q I h;exact isTrue_not (i d s e H (fun c j=>Q (!c) j) I h)
noncomputable def e8(f g:TE):TE:=fun d H Q=>f d H fun x e=>∃c,x=.bl c/\if c=true then g d e Q else Q (.bl false) e
noncomputable def i6(f g:TE):TE:=fun d H Q=>f d H fun x e=>∃c,x=.bl c/\if c=true then Q (.bl true) e else g d e Q
noncomputable def L9(f:TE):TE:=fun d H Q=>f d H fun x e=>∃c,x=.bl c/\Q (.bl (!c)) e
theorem N6{op}{t:TE}(h:PE X a t):PE X (.BoolOp op [a] pos) t:=fun d s e H Q I hw=>BoolOp_one (h d s e H Q I hw)
theorem V7(r:PE X a f)(q:PE X (.BoolOp .And (b::rest) pos) g):PE X (.BoolOp .And (a::b::rest) pos) (e8 f g):=by
 intro d s e H Q I h;refine BoolOp_and (uB (r d s e H _ I h) fun v o m=>?_);obtain⟨x,j,i,p,q1⟩:=m;obtain⟨c,rfl,q1⟩:=q1;cases p;refine Fe ?_;cases c with
 | true=>exact q d o e j Q i q1
 | false=>exact⟨.bl false,j,i,rfl,q1⟩
theorem M8(r:PE X a f)(q:PE X (.BoolOp .Or (b::rest) pos) g):PE X (.BoolOp .Or (a::b::rest) pos) (i6 f g):=by
 intro d s e H Q I h;refine BoolOp_or (uB (r d s e H _ I h) fun v o m=>?_);obtain⟨x,j,i,p,q1⟩:=m;obtain⟨c,rfl,q1⟩:=q1;cases p;refine Fe ?_;cases c with
 | false=>exact q d o e j Q i q1
 | true=>exact⟨.bl true,j,i,rfl,q1⟩
theorem M6(m:PE X a f):PE X (.UnaryOp .Not a pos) (L9 f):=by intro d s e H Q I h;refine UnaryOp_ (uB (m d s e H _ I h) fun v q i=>?_);obtain⟨x,p,o,j,q1⟩:=i;obtain⟨c,rfl,q1⟩:=q1;cases j;exact not_of (Fe ⟨.bl (!c),p,o,rfl,q1⟩)
noncomputable def tIf(t:TT)(f g:TE):TE:=fun d H Q=>t d H fun c e=>if c=true then f d e Q else g d e Q
theorem Ir{c:Oo}(q:PT X c k)(u:PE X a f)(r:PE X b g):PE X (.IfExp c a b pos) (tIf k f g):=by
 intro e s i H Q I h;refine wpAny_IfExp (uB (q e s i H _ I h) fun d j p=>?_);obtain⟨o,m,q1⟩:=p;cases d with
 | true=>exact u e j i o Q m q1
 | false=>exact r e j i o Q m q1
end
def m4(K:Ou)(H:Hp)(a:Oi)(xs:Ni V):Prop:=
 Rd H a (.lst xs)\/
  ∃(o:Obj) (b:Ra Nu) (n:Nat),K.lookup a=ε o/\o.cls=.type "list" /\ o.dict=none/\o.data=.seq b n/\b.size<=sizeLine/\mh xs b.toList
def AG(K:Ou)(H:Hp)(a:Oi)(xs:Ni V):Prop:=
 Rd H a (.tup xs)\/
  ∃(o:Obj) (b:Ra Nu) (n:Nat),K.lookup a=ε o/\o.cls=.type "tuple" /\ o.data=.seq b n/\b.size<=sizeLine/\mh xs b.toList
noncomputable def F4:Nu->Oa V
 | .none=>ε .non
 | .bool b=>ε (.bl b)
 | .int i _=>ε (.int i)
 | .str x _=>ε (.str x)
 | .bytes b _=>ε (.byt b)
 | .float b _=>ε (.flt b)
 | .ref a=>ε (.ref a)
 | .type n=>ε (.ty n)
 | _=>none
theorem mr.abs{x:V}{u:Nu}(r:mr x u):F4 u=ε x:=by
 cases x with
 | non=>cases r;rfl
 | bl _=>cases r;rfl
 | int _=>obtain⟨t,rfl⟩:=r;rfl
 | str _=>obtain⟨t,rfl⟩:=r;rfl
 | byt _=>obtain⟨t,rfl⟩:=r;rfl
 | flt _=>obtain⟨t,rfl⟩:=r;rfl
 | ref _=>cases r;rfl
 | ty _=>cases r;rfl
theorem mr.inj{x y:V}{u:Nu}(r:mr x u)(q:mr y u):x=y:=rz (r.abs.symm.trans q.abs)
theorem mh.inj:∀{xs ys:Ni V}{us:Ni Nu},mh xs us->mh ys us->xs=ys
 | _,_,_,.nil,.nil=>rfl
 | _,_,_,.cons r t,.cons r' t'=>by rw[r.inj r',mh.inj t t']
section
variable{X:Cx}{b:Ni (Oi×Obj)}{c:St}{H:Hp}{s:Oe}{a:Oi}{xs ys:Ni V}
theorem m4.of{K:Ou}(h:H a=ε (.lst xs)):m4 K H a xs:=.inl (.inl h)
theorem mf.list(I:mf X b c H s)(h:m4 X.K H a xs):∃d:Ni Nu,mh xs d/\PlainL s.heap a d.toArray/\xs.length<=sizeLine:=by
 rcases h with h | ⟨o,d,n,f,g,hd,hs,i,r⟩
 . obtain⟨z,d,n,r,e⟩:=h.ok I.hok;exact⟨d,r,⟨_,n,e,rfl,rfl,rfl⟩,z⟩
 . refine⟨d.toList,r,⟨o,n,I.kIn a o f,g,hd,by simpa using hs⟩,?_⟩;have e:=r.length;simp![za]at e;omega
theorem mf.tuple(I:mf X b c H s)(h:AG X.K H a xs):∃d:Ni Nu,mh xs d/\IsTup s.heap a d.toArray/\xs.length<=sizeLine:=by
 rcases h with h | ⟨o,d,n,f,g,hs,i,r⟩
 . obtain⟨z,d,r,p⟩:=h.ok I.hok;exact⟨d,r,p,z⟩
 . refine⟨d.toList,r,⟨o,I.kIn a o f,g,n,by simpa using hs⟩,?_⟩;have e:=r.length;simp![za]at e;omega
theorem mf.eR(I:mf X b c H s)(h:m4 X.K H a xs)(h':m4 X.K H a ys):xs=ys:=by
 obtain⟨f,r,⟨o,n,e,_,_,d⟩,_⟩:=I.list h;obtain⟨its',j,⟨p,q,g,_,_,i⟩,_⟩:=I.list h';rw[e]at g;cases g;rw[d]at i;injection i with m _
 have:f=its':=by simpa using congrArg Array.toList m
 subst this;exact r.inj j
theorem mf.gy(I:mf X b c H s)(h:AG X.K H a xs)(h':AG X.K H a ys):xs=ys:=by
 obtain⟨f,r,⟨o,e,_,n,d⟩,_⟩:=I.tuple h;obtain⟨its',j,⟨p,g,_,q,i⟩,_⟩:=I.tuple h';rw[e]at g;cases g;rw[d]at i;injection i with m _
 have:f=its':=by simpa using congrArg Array.toList m
 subst this;exact r.inj j
end
noncomputable abbrev Cx.wish(X:Cx)(E:Nu->Oe->Prop):Cx:={ X with xe:=E }
abbrev Cx.nox(X:Cx):Cx:=X.wish fun _ _=>False
theorem Cx.Ok.wish{X:Cx}(ok:X.Ok)(E:Nu->Oe->Prop):(X.wish E).Ok:=
 ⟨ok.mod,ok.kind,ok.glob,ok.blt,ok.above,ok.inj,ok.has,ok.cab,ok.hd,ok.frames,ok.stk,ok.exf,ok.bs,ok.bsz,ok.dm,ok.dq,ok.bm,ok.frf⟩
theorem Cx.Ok.cn{X:Cx}{E:Nu->Oe->Prop}(ok:(X.wish E).Ok):X.Ok:=
 ⟨ok.mod,ok.kind,ok.glob,ok.blt,ok.above,ok.inj,ok.has,ok.cab,ok.hd,ok.frames,ok.stk,ok.exf,ok.bs,ok.bsz,ok.dm,ok.dq,ok.bm,ok.frf⟩
section
variable{X:Cx}{a:Ni (Oi×Obj)}{b:St}{H:Hp}{s:Oe}{E:Nu->Oe->Prop}
theorem mf.wish(I:mf X a b H s)(E:Nu->Oe->Prop):mf (X.wish E) a b H s:=⟨I.ok.wish E,I.os,I.bare,I.base,I.loc,I.cell,I.free,I.bt,I.pin,I.hok,I.len⟩
theorem mf.cn(I:mf (X.wish E) a b H s):mf X a b H s:=⟨I.ok.cn,I.os,I.bare,I.base,I.loc,I.cell,I.free,I.bt,I.pin,I.hok,I.len⟩
set_option tactic.hygienic true in
theorem SP.cn{D:kH}{f:Flow}{s':Oe}(h:SP (X.wish E) a D f s'):SP X a D f s':=by
 cases f with
 | next=>obtain⟨d,e,I,q⟩:=h;exact⟨d,e,I.cn,q⟩
 | brk=>obtain⟨d,e,I,q⟩:=h;exact⟨d,e,I.cn,q⟩
 | cont=>obtain⟨d,e,I,q⟩:=h;exact⟨d,e,I.cn,q⟩
 | ret u=>obtain⟨v,d,e,I,r,q⟩:=h;exact⟨v,d,e,I.cn,r,q⟩
theorem PSs.nox{st:Ni Pa}{t:TS}(h:PSs X.nox st t):PSs X st t:=fun a s b H D I hw=>Hs (h a s b H D (I.wish _) hw) (fun v v q=>q.cn) fun v v z=>Eu z
end
section
variable{X:Cx}{st:Pa}{rest:Ni Pa}{t u:TS}{e:Oo}{te:TE}{pos:Pos}
noncomputable def v8:TS:=fun D a H=>D.nx a H
noncomputable def l6(t u:TS):TS:=fun D a H=>t { D with nx:=u D } a H
theorem Rb:PSs X [] v8:=fun q q a H q I h=>wpAny_execs_nil ⟨a,H,I,h⟩
theorem Vr(h1:PS X st t)(h2:PSs X rest u):PSs X (st::rest) (l6 t u):=by
 intro a s d H D I h;refine wpAny_execs_cons (uB (h1 a s d H { D with nx:=u D } I h) fun f g q=>?_);cases f with
 | next=>obtain⟨b,j,i,q⟩:=q;exact h2 a g b j D i q
 | ret v=>exact q
 | brk=>exact q
 | cont=>exact q
theorem Vb(h1:PS X st t):PSs X [st] t:=by
 intro a s b H D I h;refine wpAny_execs_cons (uB (h1 a s b H D I h) fun f d q=>?_);cases f with
 | next=>exact wpAny_execs_nil q
 | ret v=>exact q
 | brk=>exact q
 | cont=>exact q
theorem mf.quiet{a:Ni (Oi×Obj)}{b:St}{H:Hp}{s:Oe}(I:mf X a b H s):interactive X.env=false:=by simp[interactive,I.ok.kind]
noncomputable def n8(te:TE):TS:=fun D a H=>te a H fun _ b=>D.nx a b
theorem Nb(he:PE X e te)(hs:swapsWith e none pos.line X.env=pure false:=by rfl):PS X (.Expr e pos) (n8 te):=by intro a s b H D I h;exact wpAny_Expr_any (uB (he a s b H _ I h) fun v g ⟨x,f,d,i,q1⟩=>⟨b,f,d,q1⟩) I.quiet hs
noncomputable def j6(te:TE):TS:=fun D a H=>te a H D.rt
theorem b7(he:PE X e te):PS X (.Return (ε e) pos) (j6 te):=by intro a s b H D I h;exact wpAny_Return_some (uB (he a s b H _ I h) fun v i ⟨x,g,f,d,q1⟩=>⟨x,b,g,f,d,q1⟩)
noncomputable def Z5(c:TT)(t u:TS):TS:=fun D a H=>c a H fun b d=>if b=true then t D a d else u D a d
theorem N8{c:Oo}{a b:Ni Pa}{tc:TT}(o:PT X c tc)(q:PSs X a t)(p:PSs X b u):PS X (.If c a b pos) (Z5 tc t u):=by
 intro f s g H D I h;refine wpAny_If (uB (o f s g H _ I h) fun d i n=>?_);obtain⟨m,j,q1⟩:=n;cases d with
 | true=>exact q f i g m D j q1
 | false=>exact p f i g m D j q1
end
abbrev TG:=V->St->Hp->(St->Hp->Prop)->Prop
abbrev KP:=Ni V->St->Hp->(St->Hp->Prop)->Prop
def PG(X:Cx)(a:Oo)(t:TG):Prop:=
 ∀(b:Ni (Oi×Obj))(s:Oe)(e:St)(H:Hp)(v:V)(u:Nu)(Q:St->Hp->Prop),mf X b e H s->mr v u->t v e H Q->
  wpAny (model X.prog X.w) X.A (assign a X.env u) (fun _ g=>∃d f,mf X b d f g/\Q d f) X.xe s
def D3(X:Cx)(h:Ni Oo)(t:KP):Prop:=
 ∀(a:Ni (Oi×Obj))(s:Oe)(d:St)(H:Hp)(e:Ni V)(f:Ni Nu)(Q:St->Hp->Prop),mf X a d H s->mh e f->t e d H Q->
  wpAny (model X.prog X.w) X.A (assignInOrder ((assignEach h X.env).map (·.2)) f) (fun _ i=>∃b g,mf X a b g i/\Q b g) X.xe s
abbrev LP:=V->V->V->Hp->(Hp->Prop)->Prop
def NT(X:Cx)(t:LP):Prop:=
 ∀(a:Ni (Oi×Obj))(s:Oe)(b:St)(H:Hp)(o i v:V)(d e u:Nu)(Q:Hp->Prop),mf X a b H s->mr o d->mr i e->mr v u->t o i v H Q->
  wpAny (model X.prog X.w) X.A (setItem d e u) (fun _ g=>∃f,mf X a b f g/\Q f) X.xe s
section
variable{X:Cx}{pos:Pos}
noncomputable def nP(i:Nat):TG:=fun v a H Q=>Q (a.set i (ε v)) H
theorem aS{i:Nat}{x:Str}(f:X.N.Nodup)(d:X.N[i]?=ε x)(b:FM X.env.scope x)(e:X.fn x=true\/X.env.scope.names.lookup x=ε .local:=by first | exact .inl rfl | exact .inr rfl | assumption):PG X (.Name x pos) (nP i):=by intro a s j H v u Q I r h;exact wpAny_assign_Name (EY I f d b r (fun m g=>⟨_,H,g,h⟩) e)
noncomputable def N4:KP:=fun b a H Q=>b=[]/\Q a H
noncomputable def D9(t:TG)(u:KP):KP:=fun d b H Q=>∃v r,d=v::r/\t v b H fun a e=>u r a e Q
theorem Ab:D3 X [] N4:=by intro a s b H d f Q I r h;obtain⟨e,h⟩:=h;subst e;cases r;exact assignInOrder_nil ⟨b,H,I,h⟩
theorem wY{e:Oo}{b:Ni Oo}{t:TG}{u:KP}(h1:PG X e t)(h2:D3 X b u)
 (hs:(assignEach (e::b) X.env).map (·.2)=assign e X.env::(assignEach b X.env).map (·.2):=by rfl):D3 X (e::b) (D9 t u):=by
 intro a s f H p x Q I r h;obtain⟨v,q,m,h⟩:=h;subst m;cases r with
 | cons r j=>rw[hs];refine assignInOrder_cons (uB (h1 a s f H _ _ _ I r h) fun z i g=>?_);obtain⟨d,o,n,q1⟩:=g;exact h2 a i d o _ _ Q n j q1
noncomputable def T4(K:Ou)(n:Nat)(t:KP):TG:=fun v d H Q=>∃a b,v=.ref a/\AG K H a b/\b.length=n/\t b d H Q
theorem V6{f:Ni Oo}{k:Nat}{t:KP}{n:Nat}(D:X.calm=true)(h:D3 X f t)
 (B:(assignEach f X.env).length=n:=by rfl) (g:(assignEach f X.env).findIdx? (·.1)=none:=by rfl):PG X (.Tuple f k pos) (T4 X.K n t):=by
 intro d s i H v u Q I r hw;obtain⟨a,m,F,y,C,hw⟩:=hw;subst F;cases r;obtain⟨p,j,x,L⟩:=I.tuple y;refine assign_Tuple_tuple (I.ok.hd D) x (by simp[B,<- C,j.length]) g fun E q=>?_
 have J:mf X d i H { s with heap:=E }:=I.kept (t':=s.toks) fun b o e=>q b o (n7 (fu e)) e
 exact h d _ i H m _ Q J (by simpa using j) hw
noncomputable def P4(b d:TE)(t:LP):TG:=fun v a H Q=>b a H fun o g=>d a g fun i f=>t o i v f fun e=>Q a e
theorem T6{o i:Oo}{g j:TE}{t:LP}(B:PE X o g)(C:PE X i j)(hs:NT X t)
 (D:∀v,assign (.Subscript o i pos) X.env v=(do
  let b <- holding [v] (eval o X.env)
  let e <- holding [v,b] (eval i X.env)
  standAt pos
  holding [v,b,e] (setItem b e v)
  release [v,b,e] []):=by intro _;rfl):PG X (.Subscript o i pos) (P4 g j t):=by
 intro a s f H v u Q I r h;rw[D];refine ao (Eo (uB (B a s f H _ I h) fun b n d=>?_));obtain⟨x,O,J,q,q1⟩:=d;refine ao (Eo (uB (C a n f O _ J q1) fun e m d=>?_));obtain⟨y,M,F,p,q2⟩:=d;refine ao (wpAny_standAt (ao (Eo (uB (hs a m f M x y v b e u _ F q p r q2) fun z P d=>?_))));obtain⟨L,E,q3⟩:=d;exact wpAny_release ⟨f,L,E,q3⟩
noncomputable def jQ(te:TE)(g:TG):TS:=fun D a H=>te a H fun x b=>g x a b D.nx
theorem A0{b e:Oo}{te:TE}{g:TG}(he:PE X e te)(m:PG X b g)(hs:swapsWithSole [b] e pos.line X.env=pure false:=by rfl)(hw:swappedStores [b] e X.env=pure none:=by rfl)
 (h1:(assignEach [b] X.env).map (·.2)=[assign b X.env]:=by rfl):PS X (.Assign [b] e pos) (jQ te g):=by
 intro a s d H D I h;refine wpAny_Assign_stores (uB (he a s d H _ I h) fun v i f=>?_) hs hw;obtain⟨x,o,n,j,q1⟩:=f;rw[h1];exact uB (m a i d o x v _ n j q1) fun z p q=>q
theorem d7{i:Nat}{x:Str}{e:Oo}{te:TE}{a:Pos}(o:X.N.Nodup)(m:X.N[i]?=ε x)(j:FM X.env.scope x)(he:PE X e te)(hs:swapsWith e (ε (.Name x a)) pos.line X.env=pure false:=by rfl)(n:X.fn x=true\/X.env.scope.names.lookup x=ε .local:=by first | exact .inl rfl | exact .inr rfl | assumption) :
 PS X (.Assign [.Name x a] e pos) (jQ te (nP i)):=by
 intro b s d H D I h;refine wpAny_Assign_Name (uB (he b s d H _ I h) fun v B f=>?_) hs;obtain⟨y,r,q,g,q1⟩:=f;exact EY q o m j g (fun u p=>⟨_,r,p,q1⟩) n
def K6(c:TT)(h:TS):TS:=fun D a H=>∃W:Nat->St->Hp->Prop,(∃m,W m a H)/\∀m a H,W m a H->
 c a H fun b f=>if b=true then ∃N:St->Hp->Prop,(∀d g,N d g->∃e,e<m/\W e d g)/\h { D with nx:=N,ct:=N,bk:=D.nx } a f else D.nx a f
theorem Ur{c:Oo}{body:Ni Pa}{tc:TT}{r:TS}(u:PassesOwn (model X.prog X.w) X.A X.env X.xe)(R:PT X c tc)(S:PSs X body r):PS X (.While c body [] pos) (K6 tc r):=by
 intro d s F H D I h;obtain⟨W,⟨Q,w0⟩,turn⟩:=h;refine wpAny_While (codeAny_whileLoop (fun n P=>∃g E,mf X d g E P/\W n g E) ?_ Q ⟨F,H,I,w0⟩);rintro n O ⟨e,C,T,L⟩;refine wpAny_passesOwn u (uB (R d O e C _ T (turn n e C L)) fun b M J=>?_);obtain⟨B,y,q2⟩:=J;cases b with
 | true=>
  obtain⟨N,x,q2⟩:=q2;rw[dh rfl];refine wpAny_passesOwn u (uB (S d M e B _ y q2) fun f U q3=>?_);cases f with
  | next=>obtain⟨a,i,q,m⟩:=q3;obtain⟨o,p,j⟩:=x a i m;exact⟨o,p,a,i,q,j⟩
  | cont=>obtain⟨a,i,q,m⟩:=q3;obtain⟨o,p,j⟩:=x a i m;exact⟨o,p,a,i,q,j⟩
  | brk=>exact q3
  | ret v=>exact q3
 | false=>rw[dz Wk];exact wpAny_execs_nil ⟨e,B,y,q2⟩
end
structure It where
 go:Nat->Hp->Prop
 yld:Nat->Hp->V->Hp->Prop
 stop:Nat->Hp->Prop
def FE(X:Cx)(a:Ni (Oi×Obj))(H:Hp)(b:Oi):Prop:=
 H b=none/\b≠X.env.locals/\b∉X.fs/\(b∈X.ex\/X.s₀.heap.objs.size<=b)/\(∀x c,X.env.cells.lookup x=ε c->c≠b)/\∀p∈X.pn++a,p.1≠b
theorem mf.cq{X:Cx}{a:Ni (Oi×Obj)}{g:St}{H f:Hp}{s:Oe}{b:Oi}(I:mf X a g H s)(d:s.heap.objs.size<=b)(i:f b=none):FE X a f b:=by
 refine⟨i,Ds (jj I.lt d),I.h7 d,.inr (su I.sz d),fun x c e z=>?_,fun p h z=>?_⟩
 . obtain⟨v,q⟩:=I.cell x c e;exact Du (jj q.lt (by rw[z];exact d)) (Es _)
 . exact Du (jj (fu (I.pin p h).1) (by rw[z];exact d)) (Es _)
structure DG(P:Program)(w:World)(K:Frag)(tg:Expr)(J:It)(fp:List Addr)(it:Addr)(tn:Nat->Heap->Prop):Prop where
 mem:it∈fp
 obj:∀i h,tn i h->∀b∈fp,∃o,h.get? b=ε o/\∀v,o.data≠.cell v
 keep:∀i h h',tn i h->(∀b∈fp,∀o,h.get? b=ε o->h'.get? b=ε o)->tn i h'
 item:∀(X:Cx),X.prog=P->X.w=w->X.K=K->X.calm=true->∀(i:Nat)(pins:List (Addr×Obj))(s:Shared)(σ:St)(H:Hp)(E:Value->Shared->Prop),mf X pins σ H s->(∀b∈fp,FE X pins H b)->tn i s.heap->J.go i H->
  wpAny (model P w) X.A (pyNext (.ref it)) (fun r s1=>∃u,r=ε u/\
   wpAny (model P w) X.A (letOwnedTupleGo tg (.ref it) u) (fun _ s2=>∃x H',mf X pins σ H' s2/\mr x u/\J.yld i H x H'/\tn (i+1) s2.heap/\∀b∈fp,H' b=none) E s1) E s
 done:∀(X:Cx),X.prog=P->X.w=w->X.K=K->X.calm=true->∀(i:Nat)(pins:List (Addr×Obj))(s:Shared)(σ:St)(H:Hp)(E:Value->Shared->Prop),mf X pins σ H s->(∀b∈fp,FE X pins H b)->tn i s.heap->J.stop i H->
  wpAny (model P w) X.A (pyNext (.ref it)) (fun r s1=>r=none/\mf X pins σ H s1) E s
 self:∀(A:Around)(i:Nat)(s:Shared)(Q:Value->Shared->Prop)(E:Value->Shared->Prop),tn i s.heap->Q (.ref it) s->wpAny (model P w) A (pyIter (.ref it)) Q E s
abbrev TI:=St->Hp->(It->Hp->Prop)->Prop
def C4(X:Cx)(a:Ni (Oi×Obj))(i:St)(j:Oo)(R:It->Hp->Prop)(d:Nu)(f:Oe):Prop:=
 ∃(g:Oi)(h:Ni Oi)(tn:Nat->Ri->Prop)(J:It)(e:Hp),d=.ref g/\mf X a i e f/\DG X.prog X.w X.K j J h g tn/\tn 0 f.heap/\(∀b∈h,FE X a e b)/\R J e
def PI(X:Cx)(f b:Oo)(e:TI):Prop:=
 ∀(a:Ni (Oi×Obj))(s:Oe)(d:St)(H:Hp)(R:It->Hp->Prop),mf X a d H s->e d H R->
  wpAny (model X.prog X.w) X.A (eval b X.env) (fun v g=>wpAny (model X.prog X.w) X.A (pyIter v) (C4 X a d f R) X.xe g) X.xe s
theorem oP{M:Model}{A:Pu}{E:Nu->Oe->Prop}{s:Oe}{b:Oo}{d:Oi}{u:Nu}{o:Obj}{n:String}{vs:Ra Nu}{Q:Unit->Oe->Prop}(e:s.heap.get? d=ε o)(g:o.cls=.type n)(hd:o.data=.fields vs)
 (f:["enumerate", "zip", "dict_itemiterator", "dict_reverseitemiterator", "odict_iterator", "itertools.zip_longest", "itertools.pairwise"].contains n=false) (a:Q () s):wpAny M A (letOwnedTupleGo b (.ref d) u) Q E s:=by
 unfold letOwnedTupleGo;cases b<;>first
  | exact au a
  | (cases u<;>first
   | exact au a
   | (refine ao (wpAny_load e ?_);rw[g,hd];show wpAny M A (if(["enumerate", "zip", "dict_itemiterator", "dict_reverseitemiterator", "odict_iterator", "itertools.zip_longest", "itertools.pairwise"].contains n&&vs[0]?==ε (rawInt _))=true then _ else _) Q E s;rw[dz (by intro h;rw[f,Gs]at h;cases h)];exact au a))
noncomputable def Itl(K:Ou)(a:Oi):It:=
 ⟨fun i H=>∃b x,m4 K H a b/\b[i]?=ε x,fun i H x d=>d=H/\∀b,m4 K H a b->b[i]?=ε x,fun i H=>∃b,m4 K H a b/\b.length<=i⟩
noncomputable def Itt(K:Ou)(a:Oi):It:=
 ⟨fun i H=>∃b x,AG K H a b/\b[i]?=ε x,fun i H x d=>d=H/\∀b,AG K H a b->b[i]?=ε x,fun i H=>∃b,AG K H a b/\b.length<=i⟩
noncomputable def C3(lo:Int)(n:Nat):It:=⟨fun i _=>i<n,fun i H x a=>a=H/\x=.int (lo+i),fun i _=>n<=i⟩
theorem bh{P:O4}{w:Pb}{K:Ou}{U:Oo}(a it:Oi):DG P w K U (Itl K a) [it] it (fun i h=>h.IsListIter it a i) where
 mem:=by simp
 obj:=fun i h st b g=>by
  have e:b=it:=by simpa using g
  subst e;obtain⟨o,e,c,d⟩:=st;exact⟨o,e,fun v z=>by rw[d]at z;cases z⟩
 keep:=fun i h q st k=>st.at fun o e=>k it ⋯ o e
 item:=by
  intro X D hw F S i f s R H E I n st C;subst D hw F;obtain⟨T,x,m,B⟩:=C;obtain⟨y,r,p,Y⟩:=I.list m;obtain⟨u,hu,W⟩:=r.get B;obtain⟨Q,O,f2,M,L,J⟩:=n it ⋯;refine wpAny_pyNext_list_item st p.isList (x:=u) (by simpa using hu) fun q j sb=>?_
  have I1:mf X f R H { s with heap:=q }:=I.turned (t':=s.toks) (fun b o g e=>(sb.2 b g).trans e) Q O M L J;obtain⟨o,e,c,d⟩:=id j;exact⟨u,rfl,oP (s:={ s with heap:=q }) e c d (by decide) ⟨x,H,I1,W,⟨rfl,fun ys Z=>by rw[I.eR Z m];exact B⟩,j,fun b g=>(n b g).1⟩⟩
 done:=by intro X D hw F S i f s R H E I n st C;subst D hw F;obtain⟨T,m,B⟩:=C;obtain⟨y,r,p,Y⟩:=I.list m;obtain⟨Q,O,f2,M,L,J⟩:=n it ⋯;have hl:=r.length;exact wpAny_pyNext_list_end (I.ok.hd S) st p.isList (by simp;omega) fun q eb=>⟨rfl,I.turned (t':=s.toks) (fun b o g e=>eb b o g e) Q O M L J⟩
 self:=fun t t t t t st h=>wpAny_pyIter_listiter st h
theorem Hw{P:O4}{w:Pb}{K:Ou}{U:Oo}(a it:Oi):DG P w K U (Itt K a) [it] it (fun i h=>h.IsTupleIter it a i) where
 mem:=by simp
 obj:=fun i h st b j=>by
  have e:b=it:=by simpa using j
  subst e;obtain⟨o,e,c,d⟩:=st;exact⟨o,e,fun v z=>by rw[d]at z;cases z⟩
 keep:=fun i h r st k=>st.at fun o e=>k it ⋯ o e
 item:=by
  intro X D hw F S i f s R H E I q st C;subst D hw F;obtain⟨T,x,n,B⟩:=C;obtain⟨g,y,p,Y⟩:=I.tuple n;obtain⟨u,hu,W⟩:=y.get B;obtain⟨Q,O,f2,M,L,J⟩:=q it ⋯;refine wpAny_pyNext_tuple_item st (show s.heap.IsTuple a g.toArray from p) (x:=u) (by simpa using hu) fun r m sb=>?_
  have I1:mf X f R H { s with heap:=r }:=I.turned (t':=s.toks) (fun b o j e=>(sb.2 b j).trans e) Q O M L J;obtain⟨o,e,c,d⟩:=id m;exact⟨u,rfl,oP (s:={ s with heap:=r }) e c d (by decide) ⟨x,H,I1,W,⟨rfl,fun ys Z=>by rw[I.gy Z n];exact B⟩,m,fun b j=>(q b j).1⟩⟩
 done:=by intro X D hw F S i f s R H E I q st C;subst D hw F;obtain⟨T,n,B⟩:=C;obtain⟨g,y,p,Y⟩:=I.tuple n;obtain⟨Q,O,f2,M,L,J⟩:=q it ⋯;have hl:=y.length;exact wpAny_pyNext_tuple_end (I.ok.hd S) st (show s.heap.IsTuple a g.toArray from p) (by simp;omega) fun r eb=>⟨rfl,I.turned (t':=s.toks) (fun b o j e=>eb b o j e) Q O M L J⟩
 self:=fun t t t t t st h=>wpAny_pyIter_tupleiter st h
theorem Gw{P:O4}{w:Pb}{K:Ou}{L:Oo}(it:Oi)(lo:Int)(n:Nat):DG P w K L (C3 lo n) [it] it (fun i h=>IsRangeIter h it (lo+(i:Nat)*1) ((n:Int)-(i:Nat)) 1) where
 mem:=by simp
 obj:=fun i h st b d=>by
  have e:b=it:=by simpa using d
  subst e;exact⟨_,st,fun v z=>by
   have J:Data.fields _=Data.cell v:=z;cases J⟩
 keep:=fun i h j st k=>k it ⋯ _ st
 item:=by
  intro X q hw r p i a s D H E I g st m;subst q hw r;obtain⟨C,B,Q,y,x,u⟩:=g it ⋯;have W:=Walks.range (prog:=X.prog) (w:=X.w) (I.ok.hd p) it lo 1 n;refine W.item i s _ _ m st fun v j F O f M=>?_
  obtain⟨t,rfl⟩:=O;have S:mf X a D H { s with heap:=j,toks:=F }:=I.turned (fun b o d e=>M b o (by simpa using d) e) C B y x u;refine⟨_,rfl,oP (s:={ s with heap:=j,toks:=F }) (n := "range_iterator") f rfl rfl (by decide) ⟨.int (lo+i),H,S,⟨t,?_⟩,⟨rfl,rfl⟩,f,fun b d=>(g b d).1⟩⟩;rw[Int.mul_one]
 done:=by intro X q hw r p i a s D H E I g st m;subst q hw r;obtain⟨C,B,Q,y,x,u⟩:=g it ⋯;exact wpAny_pyNext_range_end (I.ok.hd p) st (by have:n<=i:=m;omega) fun j R=>⟨rfl,I.turned (t':=s.toks) (fun b o d e=>R b o d e) C B y x u⟩
 self:=fun _ _ _ _ _ st h=>wpAny_pyIter_rangeiter st h
section
variable{X:Cx}{c:Oo}
def E9(K:Ou)(f:TE):TI:=fun d H R=>f d H fun x b=>∃a,x=.ref a/\(∃e,m4 K b a e)/\R (Itl K a) b
def X4(K:Ou)(f:TE):TI:=fun d H R=>f d H fun x b=>∃a,x=.ref a/\(∃e,AG K b a e)/\R (Itt K a) b
theorem Eb{l:Oo}{i:TE}(y:PE X l i):PI X c l (E9 X.K i):=by
 intro d s j H R I h;refine uB (y d s j H _ I h) fun v f m=>?_
 obtain⟨x,C,g,n,q1⟩:=m;obtain⟨a,e,⟨D,u⟩,q⟩:=q1;subst e;cases n;obtain⟨r,E,p,F⟩:=g.list u;refine wpAny_pyIter_list p.isList ?_;refine⟨f.heap.objs.size,[f.heap.objs.size],_,_,C,rfl,g.kept (t':=f.toks) fun b o e=>cu _ e,bh a _,⟨_,ji _ rfl,rfl,rfl⟩,fun b B=>?_,q⟩;have e:b=f.heap.objs.size:=by simpa using B
 subst e;exact g.cq (Ue _) (g.hok.fresh (Ue _))
theorem W6{l:Oo}{j:TE}(y:PE X l j):PI X c l (X4 X.K j):=by
 intro f s m H R I h;refine uB (y f s m H _ I h) fun v d n=>?_
 obtain⟨x,C,g,r,q1⟩:=n;obtain⟨a,e,⟨D,u⟩,q⟩:=q1;subst e;cases r;obtain⟨i,E,p,F⟩:=g.tuple u;refine wpAny_pyIter_tuple (show d.heap.IsTuple a i.toArray from p) ?_;refine⟨d.heap.objs.size,[d.heap.objs.size],_,_,C,rfl,g.kept (t':=d.toks) fun b o e=>cu _ e,Hw a _,⟨_,ji _ rfl,rfl,rfl⟩,fun b B=>?_,q⟩;have e:b=d.heap.objs.size:=by simpa using B
 subst e;exact g.cq (Ue _) (g.hok.fresh (Ue _))
theorem xY{d:Ni (Oi×Obj)}{f:St}{H:Hp}{s:Oe}{R:It->Hp->Prop}{E:Nu->Oe->Prop}{lo a:Int}{t u v:Tok}{g:Nat}(I:mf X d f H s)(h1:-(2^62)<=lo)(h2:lo<2^62)(m:-(2^62)<=a)(j:a<2^62)
 (q:R (C3 lo (a-lo).toNat) H):wpAny (model X.prog X.w) X.A (pyIter (.ref s.heap.objs.size)) (C4 X d f c R) E { s with heap:=s.heap.push { cls:=.type "range",data:=.fields #[.int lo t,.int a u,.int 1 v] },toks:=g }:=by
 refine wpAny_pyIter_range (IsRange.new ..) (small_one h1 h2 m j) ?_;have h:mf X d f H { s with heap:=s.heap.push { cls:=.type "range",data:=.fields #[.int lo t,.int a u,.int 1 v] },toks:=g }:=I.kept fun b o e=>cu _ e
 refine⟨(s.heap.push { cls:=.type "range",data:=.fields #[.int lo t,.int a u,.int 1 v] }).objs.size,[(s.heap.push { cls:=.type "range",data:=.fields #[.int lo t,.int a u,.int 1 v] }).objs.size],_,_,H,rfl,
  h.kept (t':=g) fun b o e=>cu _ e,Gw _ lo (a-lo).toNat,?_,fun b i=>?_,q⟩
 . have n:lo+((0:Nat):Int)*1=lo:=by simp
   have e2:(((a-lo).toNat:Nat):Int)-((0:Nat):Int)=Builtin.Range.rangeSize lo a 1:=by rw[rangeSize_one];split<;>omega
   show IsRangeIter _ _ (lo+((0:Nat):Int)*1) ((((a-lo).toNat:Nat):Int)-((0:Nat):Int)) 1;rw[n,e2];exact ji _ rfl
 . have e:b=(s.heap.push { cls:=.type "range",data:=.fields #[.int lo t,.int a u,.int 1 v] }).objs.size:=by simpa using i
   subst e;exact h.cq (Ue _) (h.hok.fresh (Ue _))
def F9(d:TA):TI:=fun a H R=>d a H fun b e=>∃j:Int,b=[.int j]/\-(2^62)<=j/\j<2^62/\R (C3 0 j.toNat) e
def G9(d:TA):TI:=fun a H R=>d a H fun b e=>∃i j:Int,b=[.int i,.int j]/\(-(2^62)<=i/\i<2^62/\-(2^62)<=j/\j<2^62)/\R (C3 i (j-i).toNat) e
theorem Jk {a:Oo} {d:TA} {p pos:Pos} (o:Gl X "range") (n:X.mg "range" =none) (u:PA X [a] d) (hs:starEach [a] X.env=[(false,eval a X.env)]:=by rfl):PI X c (.Call (.Name "range" p) [a] [] pos) (F9 d):=by
 intro b s f H R I h;refine Call_ (WF I o n boot_range (PyProof.Rows.callWith_type1 (uB (u pos b s f H _ I h) fun B C g=>?_) hs rfl));obtain⟨y,D,x,m,q1⟩:=g;obtain⟨j,e,q1,q2,q⟩:=q1;subst e;cases m with
 | cons r i=>cases i;obtain⟨t,rfl⟩:=r;exact call_range_1 (xY x nofun nofun q1 q2 (by simpa using q))
theorem Lk {a b:Oo} {m:TA} {p pos:Pos} (B:Gl X "range") (y:X.mg "range" =none) (C:PA X [a,b] m) (hs:starEach [a,b] X.env=[(false,eval a X.env),(false,eval b X.env)]:=by rfl) (f:starEach [b] X.env=[(false,eval b X.env)]:=by rfl) :
 PI X c (.Call (.Name "range" p) [a,b] [] pos) (G9 m):=by
 intro d s n H R I h;refine Call_ (WF I B y boot_range (PyProof.Rows.callWith_type1 (uB (C pos d s n H _ I h) fun F L o=>?_) (by rw[hs,f]) (by rw[f];rfl)));obtain⟨E,M,D,u,q1⟩:=o;obtain⟨i,j,e,⟨q1,q2,q3,q4⟩,q⟩:=q1;subst e;cases u with
 | cons r g=>
  cases g with
  | cons x g=>cases g;obtain⟨t,rfl⟩:=r;obtain⟨J,rfl⟩:=x;exact call_range_2 (xY D q1 q2 q3 q4 q)
def Y5(h:TI)(g:TG)(j:TS):TS:=fun D a H=>h a H fun J o=>∃W:Nat->Nat->St->Hp->Prop,(∃m,W 0 m a o)/\∀i m a H,W i m a H->
 (J.stop i H/\D.nx a H)\/(J.go i H/\∃N:St->Hp->Prop,(∀b d,N b d->∃f,f<m/\W (i+1) f b d)/\∀x d,J.yld i H x d->g x a d fun e n=>j { D with nx:=N,ct:=N,bk:=D.nx } e n)
noncomputable def UL(fp:Ni Oi)(h:Ri):Ni (Oi×Obj):=fp.filterMap fun b=>(h.get? b).map fun o=>(b,o)
theorem ZN{fp:Ni Oi}{h:Ri}{b:Oi}{o:Obj}(a:b∈fp)(e:h.get? b=ε o):(b,o)∈UL fp h:=mem_filterMap.mpr ⟨b,a,by rw[e];rfl⟩
theorem Ek{fp:Ni Oi}{h:Ri}{p:Oi×Obj}(a:p∈UL fp h):p.1∈fp/\h.get? p.1=ε p.2:=by
 obtain⟨b,d,e⟩:=mem_filterMap.mp a;cases q:h.get? b with
 | none=>rw[q]at e;cases e
 | some o=>rw[q]at e;have f:(b,o)=p:=rz e;subst f;exact⟨d,q⟩
theorem mf.pinned{a:Ni (Oi×Obj)}{f:St}{H:Hp}{s:Oe}{fp:Ni Oi}(I:mf X a f H s)(m:∀b∈fp,FE X a H b)(j:∀b∈fp,∃o,s.heap.get? b=ε o/\∀v,o.data≠.cell v):mf X (a++UL fp s.heap) f H s:=
 I.gx fun p i=>(Bo.mp i).elim (fun z=>I.pin p (xr _ z)) fun z=>by obtain⟨g,e⟩:=Ek z;obtain⟨r,q,n,_⟩:=m p.1 g;obtain⟨o,h,d⟩:=j p.1 g;rw[e]at h;cases h;exact⟨e,r,q,n,d⟩
theorem mf.ff{a pl:Ni (Oi×Obj)}{b:St}{H:Hp}{s:Oe}(I:mf X (a++pl) b H s):mf X a b H s:=I.gx fun p d=>I.pin p (xr _ (xu _ d))
theorem Z6{B:Oo}{body:Ni Pa}{wi:TI}{g:TG}{tb:TS}{pos:Pos}(R:PassesOwn (model X.prog X.w) X.A X.env X.xe)(hc:X.calm=true)(hi:PI X c B wi)(hg:PG X c g)(C:PSs X body tb)
 (hs:∀x,foldedSetIterable B X.env x=pure x:=by intro _;rfl):PS X (.For c B body [] pos) (Y5 wi g tb):=by
 intro j s σ H D I h;refine wpAny_For (uB (hi j s σ H _ I h) fun v s1 h1=>uB h1 fun a3 s2 h2=>?_) hs;obtain⟨it,U,tn,J,H2,e,I2,T,a0,f2,W,⟨m0,w0⟩,turn⟩:=h2;subst e;have y:∀{H':Hp},(∀b∈U,H' b=none)->∀b∈U,FE X j H' b:=fun hn b C=>⟨hn b C,(f2 b C).2⟩
 refine codeAny_forLoop_any (fun n s'=>∃i q H',mf X j q H' s'/\tn i s'.heap/\(∀b∈U,H' b=none)/\W i n q H') ?_ m0 ⟨0,σ,H2,I2,a0,fun b C=>(f2 b C).1,w0⟩;rintro n s3 ⟨i,p,Y,I3,P,S,w3⟩;rcases turn i n p Y w3 with⟨stop,qn⟩ | ⟨go,N,hN,step⟩
 . refine wpAny_passesOwn R (uB (T.done X rfl rfl rfl hc i j s3 p Y X.xe I3 (y S) P stop) fun r s4 M=>?_);obtain⟨hr,I4⟩:=M;subst hr;exact wpAny_execs_nil ⟨p,Y,I4,qn⟩
 . refine wpAny_passesOwn R (uB (T.item X rfl rfl rfl hc i j s3 p Y X.xe I3 (y S) P go) fun r s4 M=>?_);obtain⟨u,hr,h4⟩:=M;subst hr;refine wpAny_passesOwn R (uB h4 fun _ s5 M=>?_);obtain⟨x,H5,I5,r5,y5,O,a1⟩:=M;have a2:=I5.pinned (y a1) (T.obj _ _ O);refine wpAny_passesOwn R (uB (hg _ s5 p H5 x u _ a2 r5 (step x H5 y5)) fun _ s6 M=>?_);obtain⟨Z,H6,I6,q6⟩:=M;refine wpAny_passesOwn R (uB (C _ s6 Z H6 _ I6 q6) fun f s7 q7=>?_);have E:∀{a:St}{L:Hp},mf X (j++UL U s5.heap) a L s7->N a L->∃m,m<n/\∃i q H',mf X j q H' s7/\tn i s7.heap/\(∀b∈U,H' b=none)/\W i m q H':=fun {a L} F Q=>by obtain⟨m',hm,w7⟩:=hN a L Q;refine⟨m',hm,i+1,a,L,F.ff,T.keep _ _ _ O fun b C o e=>(F.pin (b,o) (xr _ (xr _ (ZN C e)))).1,fun b C=>?_,w7⟩;obtain⟨o,e,d⟩:=T.obj _ _ O b C;exact(F.pin (b,o) (xr _ (xr _ (ZN C e)))).2.1
   cases f with
   | next=>obtain⟨a,L,F,Q⟩:=q7;exact E F Q
   | cont=>obtain⟨a,L,F,Q⟩:=q7;exact E F Q
   | brk=>obtain⟨a,L,F,q7⟩:=q7;exact⟨a,L,F.ff,q7⟩
   | ret v=>obtain⟨x7,a,L,F,r7,q7⟩:=q7;exact⟨x7,a,L,F.ff,r7,q7⟩
end
abbrev R2:=V->V->Hp->VK->Prop
def nc(X:Cx)(f:Nu->Nu->Sem Nu)(r:R2):Prop:=
 ∀(a:Ni (Oi×Obj))(s:Oe)(b:St)(H:Hp)(x y:V)(v u:Nu)(Q:VK),mf X a b H s->mr x v->mr y u->r x y H Q->
  wpAny (model X.prog X.w) X.A (f v u) (EP X a b Q) X.xe s
def K3(X:Cx)(f:Nu->Sem Nu)(r:V->Hp->VK->Prop):Prop:=
 ∀(a:Ni (Oi×Obj))(s:Oe)(b:St)(H:Hp)(x:V)(v:Nu)(Q:VK),mf X a b H s->mr x v->r x H Q->
  wpAny (model X.prog X.w) X.A (f v) (EP X a b Q) X.xe s
def Zu(X:Cx)(f:Nu)(r:Ni V->Hp->VK->Prop):Prop:=
 ∀(a:Ni (Oi×Obj))(s:Oe)(b:St)(H:Hp)(d:Ni V)(e:Ni Nu)(Q:VK),mf X a b H s->mh d e->r d H Q->
  wpAny (model X.prog X.w) X.A (call f e) (EP X a b Q) X.xe s
noncomputable def iU(r:R2)(d b:TE):TE:=fun a H Q=>d a H fun x f=>b a f fun y e=>r x y e Q
noncomputable def tUn(r:V->Hp->VK->Prop)(b:TE):TE:=fun a H Q=>b a H fun x d=>r x d Q
noncomputable def rI(C:Int->Int->Prop)(g:Int->Int->V):R2:=fun x y H Q=>∃i j,x=.int i/\y=.int j/\C i j/\Q (g i j) H
noncomputable def uK(g:Int->Int->V):R2:=fun x y H Q=>∃i j,x=.int i/\y=.int j/\Q (g i j) H
noncomputable def rU(g:Int->V):V->Hp->VK->Prop:=fun x H Q=>∃i,x=.int i/\Q (g i) H
section
variable{X:Cx}{a b c:Oo}{d e tc:TE}{pos:Pos}
theorem MP(F:PE X a d)(E:PE X b e){g:Ni (Oi×Obj)}{s:Oe}{i:St}{H:Hp}{R:V->V->Hp->Prop}(I:mf X g i H s)
 (h:d i H fun x q=>e i q fun y j=>R x y j) {Q:Nu->Oe->Prop} {f:Nu->Nu->Sem Nu}
 (D:∀v u o x y j,mf X g i j o->mr x v->mr y u->R x y j->wpAny (model X.prog X.w) X.A (f v u) Q X.xe o) :
 wpAny (model X.prog X.w) X.A (eval a X.env) (fun v n=>wpAny (model X.prog X.w) X.A (eval b X.env) (fun u m=>wpAny (model X.prog X.w) X.A (f v u) Q X.xe m) X.xe n) X.xe s:=by
 refine uB (F g s i H _ I h) fun v r p=>?_
 obtain⟨x,q,L,C,q1⟩:=p;refine uB (E g r i q _ L q1) fun u o p=>?_
 obtain⟨y,j,J,B,q2⟩:=p;exact D v u o x y j J C B q2
theorem XS{op:Operator}{r:R2}(n:nc X (binaryOp op) r)(p:PE X a d)(o:PE X b e):PE X (.BinOp a op b pos) (iU r d e):=by intro f s g H Q I h;exact wpAny_BinOp (MP p o I h fun v u i x y C B m j q=>n f i g C x y v u Q B m j q)
theorem X1{op:UnaryOp}{r:V->Hp->VK->Prop}(m:K3 X (unaryOp op) r)(n:PE X a d):PE X (.UnaryOp op a pos) (tUn r d):=by intro f s g H Q I h;exact UnaryOp_ (uB (n f s g H _ I h) fun v i ⟨x,p,o,j,q1⟩=>m f i g p x v Q o j q1)
theorem ZT{f:Nu->Nu->Sem Nu}{C:Int->Int->Prop}{g:Int->Int->Int}
 (m:∀(i j:Int)(t u:Tok)(s:Oe)(Q:Nu->Oe->Prop)(E:Nu->Oe->Prop),C i j->Q (.int (g i j) s.toks) { s with toks:=s.toks+1 }->wpAny (model X.prog X.w) X.A (f (.int i t) (.int j u)) Q E s) :
 nc X f (rI C fun i j=>.int (g i j)):=by
 intro n s D H x y v u Q I r p h;obtain⟨i,j,rfl,rfl,B,q⟩:=h;obtain⟨t,rfl⟩:=r;obtain⟨o,rfl⟩:=p;exact m i j t o s _ _ B ⟨.int (g i j),H,I.tok _,⟨_,rfl⟩,q⟩
theorem JK{f:Nu->Nu->Sem Nu}{g:Int->Int->Int}
 (m:∀(i j:Int)(t u:Tok)(s:Oe)(Q:Nu->Oe->Prop)(E:Nu->Oe->Prop),Q (.int (g i j) s.toks) { s with toks:=s.toks+1 }->wpAny (model X.prog X.w) X.A (f (.int i t) (.int j u)) Q E s) :
 nc X f (uK fun i j=>.int (g i j)):=by
 intro n s B H x y v u Q I r p h;obtain⟨i,j,rfl,rfl,q⟩:=h;obtain⟨t,rfl⟩:=r;obtain⟨o,rfl⟩:=p;exact m i j t o s _ _ ⟨.int (g i j),H,I.tok _,⟨_,rfl⟩,q⟩
theorem VM{f:Nu->Nu->Sem Nu}{g:Int->Int->Bool}
 (m:∀(i j:Int)(t u:Tok)(s:Oe)(Q:Nu->Oe->Prop)(E:Nu->Oe->Prop),Q (.bool (g i j)) s->wpAny (model X.prog X.w) X.A (f (.int i t) (.int j u)) Q E s) :
 nc X f (uK fun i j=>.bl (g i j)):=by
 intro n s B H x y v u Q I r p h;obtain⟨i,j,rfl,rfl,q⟩:=h;obtain⟨t,rfl⟩:=r;obtain⟨o,rfl⟩:=p;exact m i j t o s _ _ ⟨.bl (g i j),H,I,rfl,q⟩
def wK(i j:Int):Prop:=0<j/\j<1073741824
def aJ(i j:Int):Prop:=0<=j/\j<=1000000/\i.natAbs<2^64
def cv(i j:Int):Prop:=(-(2^64)<i/\i<2^64)\/(-(2^64)<j/\j<2^64)
theorem cv.ok{i j:Int}(h:cv i j):IntMulOk i j:=by
 rcases h with⟨g,f⟩ | ⟨g,f⟩
 . exact .of_left (intBits_le_64 g f)
 . exact .of_right (intBits_le_64 g f)
theorem Iw(k:Nat):(0:Int)<=2^k:=by rw[two_pow_cast];exact Int.natCast_nonneg _
theorem G7:nc X (binaryOp .Add) (uK fun i j=>.int (i+j)):=JK fun z z z z z z z q=>add_int q
theorem P7:nc X (binaryOp .Sub) (uK fun i j=>.int (i-j)):=JK fun z z z z z z z q=>sub_int q
theorem M7:nc X (binaryOp .Mult) (rI cv fun i j=>.int (i*j)):=ZT fun z z z z z z z f q=>mul_int q f.ok
theorem Ec:nc X (binaryOp .FloorDiv) (rI wK fun i j=>.int (i/j)):=ZT fun i j z z z z z f q=>by have h:(0:Int)<j:=f.1;have g:j<1073741824:=f.2;exact floordiv_int nofun (by rw[Int.fdiv_eq_ediv_of_nonneg i nofun];exact q) (.inl (PyProof.noPylong_small nofun))
theorem L7:nc X (binaryOp .Mod) (rI (fun z j=>0<j) fun i j=>.int (i%j)):=ZT fun i j z z z z z f q=>by have g:(0:Int)<j:=f;exact mod_int' nofun (by rw[Int.fmod_eq_emod_of_nonneg i nofun];exact q)
theorem N7:nc X (binaryOp .LShift) (rI aJ fun i j=>.int (i*2^j.toNat)):=ZT fun z z z z z z z f q=>lshift_int_small f.1 f.2.1 f.2.2 q
theorem O7:nc X (binaryOp .RShift) (rI (fun z j=>0<=j) fun i j=>.int (i/2^j.toNat)):=ZT fun i j z z z z z f q=>rshift_int f (by rw[Int.fdiv_eq_ediv_of_nonneg i (Iw _)];exact q)
theorem J7:nc X (binaryOp .BitAnd) (uK fun i j=>.int (Builtin.bitAnd i j)):=JK fun z z z z z z z q=>and_int q
theorem J8:nc X (binaryOp .BitOr) (uK fun i j=>.int (Builtin.bitOr i j)):=JK fun z z z z z z z q=>or_int q
theorem R7:nc X (binaryOp .BitXor) (uK fun i j=>.int (Builtin.bitXor i j)):=JK fun z z z z z z z q=>xor_int q
theorem unI{f:Nu->Sem Nu}{g:Int->Int}
 (j:∀(i:Int)(t:Tok)(s:Oe)(Q:Nu->Oe->Prop)(E:Nu->Oe->Prop),Q (.int (g i) s.toks) { s with toks:=s.toks+1 }->wpAny (model X.prog X.w) X.A (f (.int i t)) Q E s) :
 K3 X f (rU fun i=>.int (g i)):=by
 intro m s o H x v Q I n h;obtain⟨i,rfl,q⟩:=h;obtain⟨t,rfl⟩:=n;exact j i t s _ _ ⟨.int (g i),H,I.tok _,⟨_,rfl⟩,q⟩
theorem j9:K3 X (unaryOp .USub) (rU fun i=>.int (-i)):=unI fun z z z z z q=>neg_int q
theorem i9:K3 X (unaryOp .Invert) (rU fun i=>.int (Builtin.bitNot i)):=unI fun z z z z z q=>invert_int q
end
noncomputable def aN:V->V->Bool
 | .non,.non=>true | .non,.int _=>true | .int _,.non=>true | .non,.bl _=>true | .bl _,.non=>true | .non,.str _=>true | .str _,.non=>true
 | .int _,.int _=>true | .bl _,.bl _=>true | .str _,.str _=>true | .byt _,.byt _=>true
 | .int _,.str _=>true | .str _,.int _=>true | .bl _,.str _=>true | .str _,.bl _=>true
 | _,_=>false
def rEq:R2:=fun x y H Q=>aN x y=true/\Q (.bl (decide (x=y))) H
def rNe:R2:=fun x y H Q=>aN x y=true/\Q (.bl (!decide (x=y))) H
theorem XY{i j:Int}:decide (V.int i=V.int j)=(i==j):=by rw[Bool.eq_iff_iff];simp
theorem HZ{i j:Bool}:decide (V.bl i=V.bl j)=(i==j):=by rw[Bool.eq_iff_iff];simp
theorem YY{i j:Str}:decide (V.str i=V.str j)=(i==j):=by rw[Bool.eq_iff_iff];simp
theorem qY{i j:Ra UInt8}:decide (V.byt i=V.byt j)=(i.toList==j.toList):=by rw[Bool.eq_iff_iff];cases i;cases j;simp
section
variable{X:Cx}{a b c:Oo}{g f tc:TE}{pos:Pos}
theorem gC{d:Ni (Oi×Obj)}{h:St}{H:Hp}{s:Oe}{Q:VK}{k i:Bool}(I:mf X d h H s)(q:Q (.bl k) H)(e:k=i):EP X d h Q (.bool i) s:=by subst e;exact⟨.bl k,H,I,rfl,q⟩
theorem A8:nc X (compareOp .Eq) rEq:=by
 intro n s o H x y v u Q I m d h;obtain⟨hs,q⟩:=h;cases x with
 | non=>
  cases m;cases y with
  | non=>cases d;exact PySem.EqNone.eq_none_none (gC I q ⋯)
  | bl j=>cases d;exact PySem.EqNone.eq_none_bool (gC I q ⋯)
  | int j=>obtain⟨e,rfl⟩:=d;exact PySem.EqNone.eq_none_int (gC I q ⋯)
  | str j=>obtain⟨e,rfl⟩:=d;exact PySem.EqNone.eq_none_str (gC I q ⋯)
  | _=>exact Du (show false=true from hs) Wk
 | bl i=>
  cases m;cases y with
  | non=>cases d;exact PySem.EqNone.eq_bool_none (gC I q ⋯)
  | bl j=>cases d;exact eq_bool (gC I q HZ)
  | str j=>obtain⟨e,rfl⟩:=d;exact PySem.EqMixed.eq_bool_str (gC I q ⋯)
  | _=>exact Du (show false=true from hs) Wk
 | int i=>
  obtain⟨t,rfl⟩:=m;cases y with
  | non=>cases d;exact PySem.EqNone.eq_int_none (gC I q ⋯)
  | int j=>obtain⟨e,rfl⟩:=d;exact eq_int (gC I q XY)
  | str j=>obtain⟨e,rfl⟩:=d;exact PySem.EqMixed.eq_int_str (gC I q ⋯)
  | _=>exact Du (show false=true from hs) Wk
 | str i=>
  obtain⟨t,rfl⟩:=m;cases y with
  | non=>cases d;exact PySem.EqNone.eq_str_none (gC I q ⋯)
  | bl j=>cases d;exact PySem.EqMixed.eq_str_bool (gC I q ⋯)
  | int j=>obtain⟨e,rfl⟩:=d;exact PySem.EqMixed.eq_str_int (gC I q ⋯)
  | str j=>obtain⟨e,rfl⟩:=d;exact eq_str (gC I q YY)
  | _=>exact Du (show false=true from hs) Wk
 | byt i=>
  obtain⟨t,rfl⟩:=m;cases y with
  | byt j=>obtain⟨e,rfl⟩:=d;exact PySem.W.eq_bytes (gC I q qY)
  | _=>exact Du (show false=true from hs) Wk
 | _=>cases y<;>exact Du (show false=true from hs) Wk
theorem G8:nc X (compareOp .NotEq) rNe:=by
 intro n s o H x y v u Q I m d h;obtain⟨hs,q⟩:=h;cases x with
 | non=>
  cases m;cases y with
  | non=>cases d;exact PySem.EqNone.ne_none_none (gC I q ⋯)
  | bl j=>cases d;exact PySem.EqNone.ne_none_bool (gC I q ⋯)
  | int j=>obtain⟨e,rfl⟩:=d;exact PySem.EqNone.ne_none_int (gC I q ⋯)
  | str j=>obtain⟨e,rfl⟩:=d;exact PySem.EqNone.ne_none_str (gC I q ⋯)
  | _=>exact Du (show false=true from hs) Wk
 | bl i=>
  cases m;cases y with
  | non=>cases d;exact PySem.EqNone.ne_bool_none (gC I q ⋯)
  | bl j=>cases d;exact ne_bool (gC I q (congrArg not HZ))
  | str j=>obtain⟨e,rfl⟩:=d;exact PySem.EqMixed.ne_bool_str (gC I q ⋯)
  | _=>exact Du (show false=true from hs) Wk
 | int i=>
  obtain⟨t,rfl⟩:=m;cases y with
  | non=>cases d;exact PySem.EqNone.ne_int_none (gC I q ⋯)
  | int j=>obtain⟨e,rfl⟩:=d;exact ne_int (gC I q (congrArg not XY))
  | str j=>obtain⟨e,rfl⟩:=d;exact PySem.EqMixed.ne_int_str (gC I q ⋯)
  | _=>exact Du (show false=true from hs) Wk
 | str i=>
  obtain⟨t,rfl⟩:=m;cases y with
  | non=>cases d;exact PySem.EqNone.ne_str_none (gC I q ⋯)
  | bl j=>cases d;exact PySem.EqMixed.ne_str_bool (gC I q ⋯)
  | int j=>obtain⟨e,rfl⟩:=d;exact PySem.EqMixed.ne_str_int (gC I q ⋯)
  | str j=>obtain⟨e,rfl⟩:=d;exact ne_str (gC I q (congrArg not YY))
  | _=>exact Du (show false=true from hs) Wk
 | byt i=>
  obtain⟨t,rfl⟩:=m;cases y with
  | byt j=>obtain⟨e,rfl⟩:=d;exact PySem.W.ne_bytes (gC I q (congrArg not qY))
  | _=>exact Du (show false=true from hs) Wk
 | _=>cases y<;>exact Du (show false=true from hs) Wk
theorem E8:nc X (compareOp .Lt) (uK fun i j=>.bl (decide (i<j))):=VM fun z z z z z z z q=>lt_int q
theorem D8:nc X (compareOp .LtE) (uK fun i j=>.bl (decide (i<=j))):=VM fun z z z z z z z q=>le_int q
theorem C8:nc X (compareOp .Gt) (uK fun i j=>.bl (decide (j<i))):=VM fun z z z z z z z q=>gt_int q
theorem B8:nc X (compareOp .GtE) (uK fun i j=>.bl (decide (j<=i))):=VM fun z z z z z z z q=>ge_int q
theorem K7:nc X (compareOp .Is) (fun x y H Q=>y=.non/\Q (.bl (decide (x=.non))) H):=by
 intro e s j H x y v u Q I d i h;obtain⟨rfl,q⟩:=h;cases i;refine is_none_gen (gC I q ?_);cases x<;>first
  | (cases d;rfl)
  | (obtain⟨t,rfl⟩:=d;rfl)
theorem K0(b:Oo){op:CmpOp}(h:op≠.In:=by decide)(h2:op≠.NotIn:=by decide):behindInMarks op b=false:=by
 have d:(op==CmpOp.In)=false:=by cases op<;>first | rfl | exact Du rfl h
 have e2:(op==CmpOp.NotIn)=false:=by cases op<;>first | rfl | exact Du rfl h2
 cases b<;>simp[behindInMarks,d,e2]
theorem Vc{op:CmpOp}{r:R2}(n:nc X (compareOp op) r)(B:PE X a g)(p:PE X b f)(o:behindInMarks op b=false):PE X (.Compare a [op] [b] pos) (iU r g f):=by intro d s e H Q I h;exact wpAny_Compare1 (MP B p I h fun v u i x y D C m j q=>n d i e D x y v u Q C m j q) o
noncomputable def N9(t:TE):TT:=fun d H Q=>t d H fun x e=>∃k,x=.bl k/\Q k e
theorem Wb{op:CmpOp}{r:R2}(q:nc X (compareOp op) r)(D:PE X a g)(C:PE X b f)(B:behindInMarks op b=false):PT X (.Compare a [op] [b] pos) (N9 (iU r g f)):=by
 intro d s i H Q I h;refine wpAny_isTrue_Compare1 (uB (D d s i H _ I h) fun v m ⟨x,O,J,p,q1⟩=>uB (C d m i O _ J q1) fun u j ⟨y,M,F,o,q2⟩=>
  uB (q d j i M x y v u _ F p o q2) fun c P ⟨z,L,E,n,k,e,q3⟩=>?_) B
 subst e;cases n;exact Fe ⟨L,E,q3⟩
noncomputable def VZ(r i:R2)(g f tc:TE):TE:=fun d H Q=>g d H fun x n=>f d n fun y m=>r x y m fun z e=>∃k,z=.bl k/\
 (if k=true then tc d e fun h j=>i y h j Q else Q (.bl false) e)
theorem Dr{op j:CmpOp}{r p:R2}(R:nc X (compareOp op) r)(n:nc X (compareOp j) p)(W:PE X a g)(U:PE X b f)(T:PE X c tc)
 (S:lastMarks [op,j] [b,c]=false:=by unhygienic rfl):PE X (.Compare a [op,j] [b,c] pos) (VZ r p g f tc):=by
 intro i s m H Q I h;refine Compare_chain (uB (W i s m H _ I h) fun v L ⟨x,H1,I1,P,q1⟩=>chain_link (uB (U i L m H1 _ I1 q1) fun u J ⟨y,H2,Z,o,q2⟩=>
  uB (R i J m H2 x y v u _ Z P o q2) fun d F ⟨z,B,q,O,k,e,q3⟩=>?_)) S
 subst e;cases O;refine Fe ?_;cases k with
 | false=>exact ite_ff ⟨.bl false,B,q,rfl,q3⟩
 | true=>exact ite_tt (chain_last (uB (T i F m B _ q q3) fun D E ⟨C,H4,Y,M,q4⟩=>n i E m H4 y C u D Q Y o M q4))
theorem GI:(sizeLine:Nat)<2^63:=by rw[Ca];decide
theorem lE{x:V}{us:Ni Nu}(r:mh [x] us):∃u,us=[u]/\mr x u:=by
 cases r with
 | cons e d=>cases d;exact⟨_,rfl,e⟩
theorem pM{x y:V}{us:Ni Nu}(r:mh [x,y] us):∃u w',us=[u,w']/\mr x u/\mr y w':=by
 cases r with
 | cons i h=>
  cases h with
  | cons e d=>cases d;exact⟨_,_,rfl,i,e⟩
theorem Zw (n:X.calm=true):Zu X (.builtin "max") (fun e H Q=>∃i j,e=[.int i,.int j]/\Q (.int (if j>i then j else i)) H):=by
 intro m s o H e x Q I r h;obtain⟨i,j,rfl,q⟩:=h;obtain⟨u,p,rfl,⟨t,rfl⟩,⟨B,rfl⟩⟩:=pM r;refine max_two_ints (I.ok.hd n) fun C y k=>⟨_,H,I.kept k,?_,q⟩
 by_cases d:j>i
 . rw[dh d,dh d];exact⟨_,rfl⟩
 . rw[dz d,dz d];exact⟨_,rfl⟩
theorem Xv (n:X.calm=true):Zu X (.builtin "min") (fun e H Q=>∃i j,e=[.int i,.int j]/\Q (.int (if j<i then j else i)) H):=by
 intro m s o H e x Q I r h;obtain⟨i,j,rfl,q⟩:=h;obtain⟨u,p,rfl,⟨t,rfl⟩,⟨B,rfl⟩⟩:=pM r;refine min_two_ints (I.ok.hd n) fun C y k=>⟨_,H,I.kept k,?_,q⟩
 by_cases d:j<i
 . rw[dh d,dh d];exact⟨_,rfl⟩
 . rw[dz d,dz d];exact⟨_,rfl⟩
theorem Yw:Zu X (.type "int") (fun d H Q=>(∃i,d=[.int i]/\Q (.int i) H)\/∃k,d=[.bl k]/\Q (.int (if k then 1 else 0)) H):=by
 intro e s m H d n Q I r h;rcases h with⟨i,rfl,q⟩ | ⟨k,rfl,q⟩
 . obtain⟨u,rfl,t,rfl⟩:=lE r;exact call_int_int ⟨.int i,H,I,⟨_,rfl⟩,q⟩
 . obtain⟨u,rfl,j⟩:=lE r;cases j;exact call_int_bool ⟨.int (if k then 1 else 0),H,I.tok _,⟨_,rfl⟩,q⟩
end
structure cw(h:Heap)(x dx C:Addr)(mA:Str->Option Value):Prop where
 obj:h.get? x=ε (PySem.W.instObj C dx)
 ns:h.Ns1 dx mA
 ne:dx≠x
set_option tactic.hygienic true in
theorem Ny{h:Ri}{j:Oi}{g:Str->Oa Nu}(n:h.Ns1 j g):∃f,h.get? j=ε f/\∀b,PySem.W.lookIn b f=ε (g b):=by
 obtain⟨o,i,x,p,hd,s,_,r⟩:=n;refine⟨o,p,fun b=>?_⟩;have e:=r b;unfold nsFind findBy at e;rw[<- Array.find?_toList]at e;unfold PySem.W.lookIn;rw[hd];dsimp only;split
 . rename_i y q;rw[q]at e;exact congrArg some e
 . rename_i q;rw[q]at e;have a:i.toList.any (·.refKey)=false:=by rw[any_eq_false];intro y m;obtain⟨z,t,d⟩:=s y (Array.mem_toList_iff.mp m);simp[DictEntry.refKey,d]
   have u:¬i.toList.any (·.refKey)=true:=by rw[a];exact Wk
   rw[dz u];exact congrArg some e
theorem cw.look{h:Ri}{x e C:Oi}{d:Str->Oa Nu}(I:cw h x e C d):∃b,PySem.W.InstAt h x (PySem.W.instObj C e) C (ε b)/\∀a,PySem.W.lookIn a b=ε (d a):=
 let ⟨b,ho,hl⟩:=Ny I.ns
 ⟨b,⟨I.obj,rfl,rfl,ho⟩,hl⟩
section
variable{prog:O4}{w:Pb}{A:Pu}{E:Nu->Oe->Prop}{s:Oe}{K:Ou}{x e C f:Oi}{c:Str->Oa Nu}{name:Str}{v:Nu}
theorem jf{a:Bool}{Q:Nu->Oe->Prop}(X:K.In s.heap)(I:cw s.heap x e C c)(j:PySem.W.plainGet K C name=true)(i:PySem.W.hasDictIn K C=true)
 (m:findIn K (.ref C) name=ε none) (d:c name=ε v) (b:PySem.W.handedIn v=true) (h:Q v { s with toks:=s.toks+1 }) :
 wpAny (model prog w) A (getAttr (.ref x) name a) Q E s:=by
 obtain⟨n,J,g⟩:=I.look;exact PySem.W.get_value X J (PySem.W.plainGet_of j).1 (PySem.W.findObj_own i m rfl (by rw[g,d])) b h
theorem Tg{pl:Sem Bool}{Q:Nu×Ni Nu->Oe->Prop}(X:K.In s.heap)(I:cw s.heap x e C c)(a:PySem.W.plainGet K C name=true)
 (j:findIn K (.ref C) name=ε (ε (.ref f))) (g:PySem.W.isFn K (.ref f)=true) (d:c name=none) (h:Q (.ref f,[.ref x]) s) :
 wpAny (model prog w) A (getMethod (.ref x) name pl) Q E s:=by
 obtain⟨b,J,i⟩:=I.look;exact PySem.W.method_fn X J (PySem.W.plainGet_of a).1 (PySem.W.plainGet_of a).2 j (beq_iff_eq.mp g) (by show(PySem.W.lookIn name b).map (·.isSome)=ε false;rw[i,d];rfl) h
theorem Tp{ns:Ni Str}{Q:Unit->Oe->Prop}(X:K.In s.heap)(I:cw s.heap x e C c)
 (hs:findIn K (.ref C) "__setattr__" =ε (ε (.builtin "object.__setattr__"))) (u:PySem.W.plainOver K C=true) (q:PySem.W.takerIn K C name=ε none) (B:PySem.W.hasDictIn K C=true)
 (hw:PySem.Within c ns) (hsz:ns.length<=sizeLine)
 (h:∀i,cw i x e C (fun y=>if y=name then ε v else c y)->Heap.SameBut e s.heap i->Q () { s with heap:=i,toks:=s.toks+2 }) :
 wpAny (model prog w) A (setAttr (.ref x) name v) Q E s:=by
 obtain⟨L,J,O⟩:=I.look;refine PySem.W.set_plain X J hs (PySem.W.osa_open (s:={ s with toks:=s.toks+1 }) (r:=none) X J u q fun b=>?_);obtain⟨P,D,n⟩:=PySem.W.any_some B;have p:s.heap.get? x=ε ⟨.ref C,ε e,.plain,#[]⟩:=I.obj;refine ao (au (ao (ao (wpAny_loadPart p (ao (PySem.W.Looks.here (s:={ s with toks:=s.toks+1 }) (PySem.W.looks_clsIn X D) ?_))))));rw[n];refine au (a:=ε e) (ao (au (ao ?_)));refine wpAny_nsSet1 (s:={ s with toks:=s.toks+1 }) I.ns fun i g d=>?_
 obtain⟨M,F,H,j,m,o⟩:=g.count (PySem.Within.cons name v hw);refine ao (wpAny_lookBehind j (by rw[m];exact pastItsLine_dict (su o (by rw[Ss];omega))) ?_);exact au (h _ ⟨(d.2 _ (ni I.ne)).trans I.obj,g,I.ne⟩ d)
theorem Yt{R:Result->Oe->Prop}{vs:Ni Nu}{a:Ni (Str×Nu)}(X:K.In s.heap)(b:PySem.W.makesIn K C=true)
 (i:findIn K (.ref C) "__init__" =ε (ε (.ref f))) (j:PySem.W.typeIn K (.ref f)=ε (.type "function"))
 (h:codeAny (model prog w) (A.under (.builtin "type.__call__" ⟨.ref C::vs,a⟩)) (.call (.ref f) ⟨.ref (s.heap.objs.size+1)::vs,a⟩) (PySem.W.InitBack (s.heap.objs.size+1) R)
  { s with heap:=(s.heap.push PySem.W.emptyDict).push (PySem.W.instObj C s.heap.objs.size) }) :
 codeAny (model prog w) A (.call (.ref C) ⟨vs,a⟩) R s:=by
 obtain⟨m,g,d,t,os⟩:=s;exact PySem.W.make_core (PySem.W.makes_of X b) (PySem.W.looks_findIn X i) (fun self=>PySem.W.bind_fn X self j) (.inl rfl) h
end
noncomputable def CB(f:Str)(v:V):Ni (Str×V)->Ni (Str×V)
 | []=>[(f,v)]
 | (g,x)::r=>if g=f then(g,v)::r else(g,x)::CB f v r
theorem OV(f g:Str)(v:V):∀fs:Ni (Str×V),(CB f v fs).lookup g=if g=f then ε v else fs.lookup g
 | []=>by
  show List.lookup g [(f,v)]=_;by_cases h:g=f
  . have a:(g==f)=true:=beq_iff_eq.mpr h;simp![List.lookup,a,dh h]
  . have a:(g==f)=false:=Ei.mpr h;simp![List.lookup,a,dz h]
 | (k,x)::r=>by
  have ih:=OV f g v r;rw[show CB f v ((k,x)::r)=(if k=f then(k,v)::r else(k,x)::CB f v r)from rfl];by_cases b:k=f
  . rw[dh b];by_cases h:g=k
    . have a:(g==k)=true:=beq_iff_eq.mpr h;simp![List.lookup,a,dh (h.trans b)]
    . have a:(g==k)=false:=Ei.mpr h;simp![List.lookup,a,dz (fun e:g=f=>h (e.trans b.symm))]
  . rw[dz b];by_cases h:g=k
    . have a:(g==k)=true:=beq_iff_eq.mpr h;simp![List.lookup,a,dz (fun e:g=f=>b (h.symm.trans e))]
    . have a:(g==k)=false:=Ei.mpr h;simp![List.lookup,a];exact ih
theorem nR(f:Str)(v:V):∀fs:Ni (Str×V),f∈(CB f v fs).map (·.1)/\∀g,g∈fs.map (·.1)->g∈(CB f v fs).map (·.1)
 | []=>⟨by simp[CB],fun g h=>by simp at h⟩
 | (k,x)::r=>by
  obtain⟨d,b⟩:=nR f v r;rw[show CB f v ((k,x)::r)=(if k=f then(k,v)::r else(k,x)::CB f v r)from rfl];by_cases a:k=f
  . rw[dh a];subst a;exact⟨by simp,fun g h=>by simpa using h⟩
  . rw[dz a];refine⟨?_,fun g h=>?_⟩
    . rw[Ti];exact nW _ d
    . rw[Ti]at h ⊢;rcases Ba.mp h with e | e
      . exact Ba.mpr (.inl e)
      . exact nW _ (b g e)
theorem NV(f:Str)(v:V):∀fs:Ni (Str×V),(CB f v fs).length<=fs.length+1
 | []=>by simp[CB]
 | (k,x)::r=>by
  have ih:=NV f v r;rw[show CB f v ((k,x)::r)=(if k=f then(k,v)::r else(k,x)::CB f v r)from rfl];by_cases a:k=f
  . rw[dh a,Ss,Ss];omega
  . rw[dz a,Ss,Ss];omega
theorem ah.some_of{v:V}{o:Oa Nu}(r:ah (ε v) o):∃u,o=ε u/\mr v u:=by
 cases o with
 | none=>exact(show False from r).elim
 | some u=>exact⟨u,rfl,r⟩
theorem ah.none_of{o:Oa Nu}(r:ah none o):o=none:=by
 cases o with
 | none=>rfl
 | some u=>exact(show False from r).elim
theorem Uv{v:V}{u:Nu}(r:mr v u):PySem.W.handedIn u=true:=by
 cases v with
 | non=>cases (show u=Value.none from r);rfl
 | bl b=>cases (show u=Value.bool b from r);rfl
 | int i=>obtain⟨t,e⟩:=(show ∃t,u=Value.int i t from r);cases e;rfl
 | str x=>obtain⟨t,e⟩:=(show ∃t,u=Value.str x t from r);cases e;rfl
 | byt b=>obtain⟨t,e⟩:=(show ∃t,u=Value.bytes b t from r);cases e;rfl
 | flt b=>obtain⟨t,e⟩:=(show ∃t,u=Value.float b t from r);cases e;rfl
 | ref a=>cases (show u=Value.ref a from r);rfl
 | ty n=>cases (show u=Value.type n from r);rfl
section
variable{P:O4}{w:Pb}{H H':Hp}{h h':Ri}{a C b:Oi}{fs fs':Ni (Str×V)}
theorem TR(hok:ny P w H h)(e:H a=ε (.ins C b fs)):∃g,cw h a b C g/\(∀f,ah (fs.lookup f) (g f))/\PySem.Within g (fs.map (·.1))/\fs.length<=1000/\H b=ε (.own a):=by obtain⟨d,z,ne,ob,g,n,r,q⟩:=(show Xo P w H h a (.ins C b fs)from hok a _ e);exact⟨g,⟨ob,n,ne⟩,r,q,z,d⟩
end
structure Cls(K:Frag)(C:Addr):Prop where
 pg:PySem.W.plainGet K C Str.empty=true
 hd:PySem.W.hasDictIn K C=true
 po:PySem.W.plainOver K C=true
 sa:findIn K (.ref C) "__setattr__" =ε (ε (.builtin "object.__setattr__"))
theorem Cls.get{K:Ou}{C:Oi}(c:Cls K C)(f:Str):PySem.W.plainGet K C f=true:=c.pg
def cx(K:Ou)(C:Oi)(f:Str):Prop:=findIn K (.ref C) f=ε none
theorem cx.taker{K:Ou}{C:Oi}{f:Str}(n:cx K C f):PySem.W.takerIn K C f=ε none:=by unfold PySem.W.takerIn;rw[show findIn K (.ref C) f=ε none from n];rfl
structure HM(K:Frag)(C:Addr)(m:Str)(f:Addr):Prop where
 at_:findIn K (.ref C) m=ε (ε (.ref f))
 fn:PySem.W.isFn K (.ref f)=true
 kp:keepIn K (.ref f)=true
section
variable{X:Cx}{d:Ni (Oi×Obj)}{i:St}{H:Hp}{s:Oe}{a C j:Oi}{fs:Ni (Str×V)}{f:Str}{v:V}{A:Pu}{E:Nu->Oe->Prop}
theorem Fv{b:Bool}{Q:Nu->Oe->Prop}(I:mf X d i H s)(e:H a=ε (.ins C j fs))(c:Cls X.K C)(n:cx X.K C f)(l:fs.lookup f=ε v)
 (h:∀u g,mf X d i H g->mr v u->Q u g):wpAny (model X.prog X.w) A (getAttr (.ref a) f b) Q E s:=by
 obtain⟨p,O,r,_,_,_⟩:=TR I.hok e;obtain⟨u,q,m⟩:=ah.some_of (v:=v) (o:=p f) (by rw[<- l];exact r f);exact jf I.kIn O (c.get f) c.hd n q (Uv m) (h u _ (I.tok _) m)
theorem Gv{m:Str}{g:Oi}{pl:Sem Bool}{Q:Nu×Ni Nu->Oe->Prop}(I:mf X d i H s)(e:H a=ε (.ins C j fs))(c:Cls X.K C)(k:HM X.K C m g)(l:fs.lookup m=none)
 (h:Q (.ref g,[.ref a]) s):wpAny (model X.prog X.w) A (getMethod (.ref a) m pl) Q E s:=by
 obtain⟨b,O,r,_,_,_⟩:=TR I.hok e;have n:b m=none:=ah.none_of (by rw[<- l];exact r m);exact Tg I.kIn O (c.get m) k.at_ k.fn n h
theorem Yz{y:V}{u:Nu}{Q:Unit->Oe->Prop}(I:mf X d i H s)(e:H a=ε (.ins C j fs))(c:Cls X.K C)(n:cx X.K C f)(S:fs.length<1000)(J:mr y u)
 (h:∀B,mf X d i (oB H a (.ins C j (CB f y fs))) B->Q () B):wpAny (model X.prog X.w) A (setAttr (.ref a) f u) Q E s:=by
 obtain⟨D,O,r,p,_,F⟩:=TR I.hok e;have L:(fs.map (·.1)).length<=sizeLine:=by rw[mq,Ca];omega
 refine Tp I.kIn O c.sa c.po n.taker c.hd p L fun R m sb=>h _ ?_
 have hd:∃o,R.get? j=ε o:=let ⟨o,_,_,e',_⟩:=m.ns;⟨o,e'⟩
 refine I.write (x:=a) (e:=j) (by rw[e];exact Jo) (.inr F) (fun b q P z=>(sb.2 b P).trans z) hd ?_;refine⟨by rw[XA O.ne];exact F,?_,O.ne,m.obj,_,m.ns,fun g=>?_,fun g M=>?_⟩
 . have:=NV f y fs;omega
 . show ah ((CB f y fs).lookup g) (if g=f then ε u else D g);rw[OV];by_cases q:g=f
   . rw[dh q,dh q];exact J
   . rw[dz q,dz q];exact r g
 . by_cases q:g=f
   . rw[q];exact(nR f y fs).1
   . refine(nR f y fs).2 g (p g fun z=>M ?_);show(if g=f then ε u else D g)=none;rw[dz q];exact z
theorem mf.made(I:mf X d i H s):mf X d i (oB (oB H s.heap.objs.size (.own (s.heap.objs.size+1))) (s.heap.objs.size+1) (.ins C s.heap.objs.size []))
 { s with heap:=(s.heap.push PySem.W.emptyDict).push (PySem.W.instObj C s.heap.objs.size) }:=by
 have g:(s.heap.push PySem.W.emptyDict).get? s.heap.objs.size=ε PySem.W.emptyDict:=ji s.heap rfl;have e2:((s.heap.push PySem.W.emptyDict).push (PySem.W.instObj C s.heap.objs.size)).get? (s.heap.objs.size+1)=ε (PySem.W.instObj C s.heap.objs.size):=by have:=ji (s.heap.push PySem.W.emptyDict) (o:=PySem.W.instObj C s.heap.objs.size) rfl;rwa[Ku]at this
 have n:(s.heap.push PySem.W.emptyDict).Ns s.heap.objs.size (fun z=>none):=⟨PySem.W.emptyDict,#[],_,g,rfl,(fun e m=>Du m ⋯),fun z=>rfl⟩;have p:=I.laid (a:=s.heap.objs.size) (o:=.own (s.heap.objs.size+1)) (h':=s.heap.push PySem.W.emptyDict) (t':=s.toks) (fun b u q=>cu _ q) (Ue _) ⟨_,g⟩;refine p.laid (a:=s.heap.objs.size+1) (o:=.ins C s.heap.objs.size []) (t':=s.toks) (fun b u q=>cu _ q) (Nat.le_of_eq (Ku _ _)) ?_;have ne:s.heap.objs.size≠s.heap.objs.size+1:=n7 (yu _);refine⟨by rw[XA ne,fC],m8 _,ne,e2,fun z=>none,(Heap.Ns1.of_empty n).at fun o q=>cu _ q,fun z=>Jo,fun y h=>Du rfl h⟩
theorem Jf{prog:O4}{w:Pb}{env:Env}{e:Oo}{f:Str}{pos:Pos}{s:Oe}{Q:Nu->Oe->Prop}(g:attributeBase e f env (eval e env)=eval e env)
 (h:wpAny (model prog w) A (eval e env) (fun o b=>wpAny (model prog w) A (getAttr o f true) Q E b) E s):wpAny (model prog w) A (eval (.Attribute e f pos) env) Q E s:=
 Attribute_any_ h (by rw[arm_eval_Attribute,g])
end
def X5(K:Ou)(e:TE)(f:Str):TE:=fun d H Q=>e d H fun x b=>∃a C g fs v,x=.ref a/\b a=ε (.ins C g fs)/\Cls K C/\cx K C f/\fs.lookup f=ε v/\Q v b
def N5(K:Ou)(h g:TE)(f:Str):TS:=fun D b H=>g b H fun y i=>h b i fun x e=>∃a C d fs,x=.ref a/\e a=ε (.ins C d fs)/\Cls K C/\cx K C f/\fs.length<1000/\
 D.nx b (oB e a (.ins C d (CB f y fs)))
section
variable{X:Cx}{o e b:Oo}{f:Str}{pos d tpos:Pos}{g i:TE}
theorem X7(he:PE X e g)(B:attributeBase e f X.env (eval e X.env)=eval e X.env):PE X (.Attribute e f pos) (X5 X.K g f):=by intro j s m H Q I h;refine Jf B (uB (he j s m H _ I h) fun u O p=>?_);obtain⟨x,J,F,r,a,C,P,fs,v,ex,D,c,n,l,q⟩:=p;subst ex;obtain rfl:u=Value.ref a:=r;exact Fv F D c n l fun L M E y=>⟨v,J,E,y,q⟩
theorem Y6(L:PE X o g)(J:PE X b i)(hs:swapsWith b (ε (.Attribute o f d)) pos.line X.env=pure false):PS X (.Assign [.Attribute o f d] b pos) (N5 X.K g i f):=by intro j s m H D I h;refine plainObj_wpAny_Assign_Attribute (uB (J j s m H _ I h) fun u r ⟨y,R,Q,B,q⟩=>uB (L j r m R _ Q q) fun F T p=>?_) hs;obtain⟨x,W,P,E,a,C,U,fs,ex,M,c,n,l,q2⟩:=p;subst ex;obtain rfl:F=Value.ref a:=E;exact Yz P M c n l B fun S O=>⟨m,_,O,q2⟩
end
section
variable{X:Cx}{pins:Ni (Oi×Obj)}{σ:St}{H:Hp}{s:Oe}{A:Pu}{E:Nu->Oe->Prop}{Q:Nu->Oe->Prop}{c:Nu}{b:Bool}
end
structure Xe(k:Nat)(A:Around):Prop where
 hd:A.handled=none
 dp:A.depth+3*k+5<recursionLimit
 un:A.units+16*k+200<cLine
theorem Xe.mono{j k:Nat}{A:Pu}(r:Xe k A)(h:j<=k):Xe j A:=⟨r.hd,by have:=r.dp;omega,by have:=r.un;omega⟩
theorem Xe.deeper{k:Nat}{A:Pu}(r:Xe (k+1) A)(env:Env):Xe k (A.deeper env):=
 ⟨r.hd,by have:=r.dp;show A.depth+1+3*k+5<_;omega,by have:=r.un;show A.units+3+16*k+200<_;omega⟩
theorem Kv {A:Pu} {C:Oi} {us:Ni Nu} {a:Ni (Str×Nu)}:(A.under (.builtin "type.__call__" ⟨.ref C::us,a⟩)).depth=A.depth+1:=by first | rfl | simp[Around.under,Code.weight,Code.isCreation,Code.isGuard,Code.isCaller,Code.frames,Code.isFrame,guardIds]
theorem Mv {A:Pu} {C:Oi} {us:Ni Nu} {a:Ni (Str×Nu)}:(A.under (.builtin "type.__call__" ⟨.ref C::us,a⟩)).units=A.units+1:=by first | rfl | simp[Around.under,Code.cUnits,Code.frames,Code.isFrame]
theorem Xe.make {k:Nat} {A:Pu} (r:Xe (k+1) A) (C:Oi) (us:Ni Nu) (a:Ni (Str×Nu)):Xe k (A.under (.builtin "type.__call__" ⟨.ref C::us,a⟩)):=
 ⟨r.hd,by have:=r.dp;rw[Kv];omega,by have:=r.un;rw[Mv];omega⟩
theorem Xe.depth{k:Nat}{A:Pu}(r:Xe k A):A.depth<recursionLimit:=by have:=r.dp;omega
theorem Xe.units{k:Nat}{A:Pu}(r:Xe k A):A.units+64<cLine:=by have:=r.un;omega
noncomputable def hU:TA:=fun _ H Q=>Q [] H
noncomputable def K2(e:TE)(d:TA):TA:=fun a H Q=>e a H fun x g=>d a g fun b f=>Q (x::b) f
section
variable{X:Cx}{e:Oo}{a:Ni Oo}{te:TE}{t:TA}{pos:Pos}
theorem RC:PA X [] hU:=fun q q q q H Q I h=>Calls.spliced_nil ⟨[],H,I,.nil,h⟩
theorem bC(o:PE X e te)(n:PA X a t)(hs:starEach (e::a) X.env=(false,eval e X.env)::starEach a X.env:=by rfl):PA X (e::a) (K2 te t):=by intro pos b s d H Q I h;rw[hs];show wpAny _ _ (spliced ((false,eval e X.env)::backTo pos (starEach a X.env))) _ _ s;refine Calls.spliced_cons (uB (o b s d H _ I h) fun u i f=>?_);obtain⟨x,y,q,m,q1⟩:=f;exact uB (n pos b i d y _ q q1) fun B C ⟨g,r,p,j,q2⟩=>⟨x::g,r,p,.cons m j,q2⟩
def n6(t:TA):TE:=fun f H Q=>t f H fun b d=>b.length<=sizeLine/\∀p,d p=none->Q (.ref p) (oB d p (.tup b))
def gU(t:TA):TE:=fun f H Q=>t f H fun b d=>b.length<=sizeLine/\∀p,d p=none->Q (.ref p) (oB d p (.lst b))
theorem u0{x1}(h:PA X a t):PE X (.Tuple a x1 pos) (n6 t):=by intro d s j H Q I o;refine wpAny_Tuple_spliced (uB (h pos d s j H _ I o) fun n f ⟨m,i,g,r,z,q⟩=>⟨by rw[<- r.length];exact z,?_⟩);have p:i f.heap.objs.size=none:=g.hok.fresh (Ue _);refine⟨.ref f.heap.objs.size,oB i f.heap.objs.size (.tup m),g.laid (t':=f.toks) (fun b u e=>cu _ e) (Ue _) ?_,rfl,q _ p⟩;exact⟨z,n,r,⟨_,ji _ rfl,rfl,_,rfl⟩⟩
theorem OO(h:PA X a t):PE X (.List a pos) (gU t):=by intro d s j H Q I o;refine wpAny_List_spliced (uB (h pos d s j H _ I o) fun n f ⟨m,i,g,r,z,q⟩=>⟨by rw[<- r.length];exact z,?_⟩);have p:i f.heap.objs.size=none:=g.hok.fresh (Ue _);refine⟨.ref f.heap.objs.size,oB i f.heap.objs.size (.lst m),g.laid (t':=f.toks) (fun b u e=>cu _ e) (Ue _) ?_,rfl,q _ p⟩;exact⟨z,n,0,r,ji _ rfl⟩
end
abbrev Sp:=Ni V->Hp->VK->XK->Prop
abbrev oK:=Ni Env->Hp->Oe->XK->Nu->Oe->Prop
structure cy(P:Program)(w:World)(K:Frag)(mg:Str->Option Value)(base:Heap)(A:Around)(outer:List Env)(s:Shared)(H:Hp):Prop where
 frames:A.frames=ε outer
 mod:Mod K mg base
 bs:∀b o,base.get? b=ε o->s.heap.get? b=ε o/\H b=none
 bsz:base.objs.size<=s.heap.objs.size
 bm:s.heap.FunFrames base outer
 frf:∀b∈BK outer,H b=none
 hok:ny P w H s.heap
 bare:AllBare s.gens
def CE(outer:Ni Env)(P:O4)(w:Pb)(H:Hp)(s:Oe)(Q:VK)(u:Nu)(a:Oe):Prop:=
 ∃v b,a.os=s.os/\AllBare a.gens/\Un (BK outer) [] H b s.heap a.heap/\ny P w b a.heap/\mr v u/\Q v b
def CR(CX:oK)(outer:Ni Env)(P:O4)(w:Pb)(H:Hp)(s:Oe)(Q:VK)(E:XK)(r:Result)(a:Oe):Prop:=
 match r with
 | .ok (.ret u)=>CE outer P w H s Q u a
 | .ok _=>False
 | .error e=>CX outer H s E e a
structure ab(P:Program)(w:World)(K:Frag)(mg:Str->Option Value)(base:Heap)(CX:oK)(k:Nat)(f:Addr)(fd:FuncData)(ps:List Str)(sp:Sp):Prop where
 len:∀vs H Q E,sp vs H Q E->vs.length=ps.length
 run:∀(A:Around)(outer:List Env)(s:Shared)(H:Hp)(args:Args)(us:List Value)(vs:List V)(Q:VK)(E:XK),Xe k A->cy P w K mg base A outer s H->BindsTo s fd args (ps.zip us)->mh vs us->sp vs H Q E->
  codeAny (model P w) A (.call (.ref f) args) (CR CX outer P w H s Q E) s
theorem ab.mono{P:O4}{w:Pb}{K:Ou}{mg:Str->Oa Nu}{base:Ri}{CX:oK}{j k:Nat}{f:Oi}{b:FuncData}{ps:Ni Str}{sp:Sp}(F:ab P w K mg base CX j f b ps sp)(h:j<=k) :
 ab P w K mg base CX k f b ps sp:=⟨F.len,fun A outer s H a e d Q E g=>F.run A outer s H a e d Q E (g.mono h)⟩
theorem cy.make{P:O4}{w:Pb}{K:Ou}{mg:Str->Oa Nu}{base:Ri}{A:Pu}{outer:Ni Env}{s:Oe}{H:Hp}(e:cy P w K mg base A outer s H)(C:Oi)(us:Ni Nu)(a:Ni (Str×Nu)) :
 cy P w K mg base (A.under (.builtin "type.__call__" ⟨.ref C::us,a⟩)) outer s H:=⟨by first | exact e.frames | (simpa[Around.under,Code.envs,Code.isFrame,pushEnvs]using e.frames),e.mod,e.bs,e.bsz,e.bm,e.frf,e.hok,e.bare⟩
section
variable{X:Cx}{a:Ni (Oi×Obj)}{c:St}{H:Hp}{s e:Oe}
theorem mf.env0(I:mf X a c H s):cy X.prog X.w X.K X.mg X.base X.A X.stack s H:=
 ⟨I.ok.frames,I.ok.mod,I.bs,su I.ok.bsz I.sz,I.stack,I.gv,I.hok,I.bare⟩
theorem mf.after{Q:VK}{u:Nu}(I:mf X a c H s)(h:CE X.stack X.prog X.w H s Q u e):EP X a c Q u e:=by obtain⟨v,j,os,bare,un,hok,r,q⟩:=h;obtain⟨i,g,d,t,f⟩:=e;obtain rfl:f=s.os:=os;exact⟨v,j,I.call (h':=i) (g':=g) (d':=d) (t':=t) (ch:=[]) un hok bare (fun b z=>Du z ⋯),r,q⟩
end
noncomputable def h8(sp:Sp)(a:Ni V)(E:XK)(t:TA):TE:=fun b H Q=>t b H fun d e=>sp (d++a) e Q E
def p8(C:Oi)(m:Str)(sp:Sp)(b:Ni V)(E:XK)(g:TE)(t:TA):TE:=fun d H Q=>g d H fun x e=>∃a h fs,x=.ref a/\e a=ε (.ins C h fs)/\fs.lookup m=none/\
 t d e fun f i=>sp (x::(f++b)) i Q E
def o8(C:Oi)(sp:Sp)(b:Ni V)(E:XK)(t:TA):TE:=fun e H Q=>t e H fun f d=>∀x a,d x=none->d a=none->a≠x->
 sp (.ref x::(f++b)) (oB (oB d a (.own x)) x (.ins C a [])) (fun v g=>v=.non/\Q (.ref x) g) E
def nb(K:Ou)(b:FuncData)(ps:Ni Str)(ds:Ni Nu):Prop:=
 ∀(s:Oe)(a:Ni Nu),K.In s.heap->(a++ds).length=ps.length->BindsTo s b ⟨a,[]⟩ (ps.zip (a++ds))
theorem nb.all{K:Ou}{d:FuncData}{ps:Ni Str}(h:∀a:Ni Nu,a.length=ps.length->bindArgs d ⟨a,[]⟩=pure (ps.zip a)):nb K d ps []:=fun s a q b=>by rw[Ui]at b ⊢;exact .of_eq (h a b)
def ZJ(CX:oK)(X:Cx)(E:XK):Prop:=∀(a:Ni (Oi×Obj))(d:St)(H:Hp)(s:Oe)(e:Nu)(b:Oe),mf X a d H s->CX X.stack H s E e b->X.xe e b
section
variable{X:Cx}{CX:oK}{k:Nat}{f C:Oi}{fd:FuncData}{ps:Ni Str}{sp:Sp}{dvs:Ni V}{ds:Ni Nu}{E:XK}{x m:Str}{p pos apos:Pos}{e o:Oo}{es:Ni Oo}{ta:TE}{t:TA}
theorem I0{a:Ni (Oi×Obj)}{d:St}{H:Hp}{s:Oe}{Q:VK}{us:Ni Nu}{vs:Ni V}(F:ab X.prog X.w X.K X.mg X.base CX k f fd ps sp)(n:Xe k X.A)(y:nb X.K fd ps ds)(hd:mh dvs ds)(j:ZJ CX X E)
 (I:mf X a d H s) (r:mh vs us) (h:sp (vs++dvs) H Q E):wpAny (model X.prog X.w) X.A (call (.ref f) us) (EP X a d Q) X.xe s:=by
 have g:mh (vs++dvs) (us++ds):=r.append hd;have q:(us++ds).length=ps.length:=by rw[<- g.length];exact F.len _ _ _ _ h
 refine wpAny_call (codeAny_mono (F.run X.A X.stack s H ⟨us,[]⟩ (us++ds) (vs++dvs) Q E n I.env0 (y s us I.kIn q) g h) fun r i b=>?_);cases r with
 | error e=>exact j a d H s e i I b
 | ok B=>
  cases B with
  | ret u=>exact I.after b
  | next=>exact Eu b
  | brk=>exact Eu b
  | cont=>exact Eu b
theorem Rc(F:ab X.prog X.w X.K X.mg X.base CX k f fd ps sp)(j:Xe k X.A)(y:Gl X x)(n:X.mg x=ε (.ref f))(u:keepIn X.K (.ref f)=true)(B:nb X.K fd ps ds)(hd:mh dvs ds)(i:ZJ CX X E)
 (D:PA X (e::es) t) (b:(x==("__debug__" :Str))=false:=by decide) (he:starEach (e::es) X.env=(false,eval e X.env)::starEach es X.env:=by rfl) (hpl:(backTo pos (starEach es X.env)).any (·.1)=false:=by rfl) :
 PE X (.Call (.Name x p) (e::es) [] pos) (h8 sp dvs E t):=by
 intro a s g H Q I h;refine wpAny_Call_Name_kw (UR I y n ?_ b);refine PySem.W.callWith_K (h₀:=X.base) I.ok.mod.kin u (uB (D pos a s g H _ I h) fun L M ⟨J,O,d,r,q⟩=>⟨d.kIn,?_⟩) he hpl;exact I0 F j B hd i d r q
theorem Zc{pl:Sem Bool}(he:PE X o ta)(c:Cls X.K C)(i:HM X.K C m f)(F:ab X.prog X.w X.K X.mg X.base CX k f fd ps sp)(M:Xe k X.A)(O:nb X.K fd ps ds)(hd:mh dvs ds)(J:ZJ CX X E)(P:PA X (e::es) t)
 (d:starEach (e::es) X.env=(false,eval e X.env)::starEach es X.env:=by rfl) (hpl:(backTo pos (starEach es X.env)).any (·.1)=false:=by rfl)
 (L:eval (.Call (.Attribute o m apos) (e::es) [] pos) X.env=(do
  let ov <- eval o X.env
  standAt apos.atName
  let (f,first) <- holding [ov] (getMethod ov m pl)
  callWith pos f first (backTo pos (starEach (e::es) X.env)) (backToKw pos (keywordEach [] X.env))):=by rfl) :
 PE X (.Call (.Attribute o m apos) (e::es) [] pos) (p8 C m sp dvs E ta t):=by
 intro b s g H Q I h;refine PySem.W.methodCall_KW (pl:=pl) (uB (he b s g H _ I h) fun u B y=>?_) L;obtain⟨x,S,n,D,a,U,fs,ex,R,l,q⟩:=y;subst ex;obtain rfl:u=Value.ref a:=D;refine Gv n R c i l ?_;refine PySem.W.callWith_K (first:=[.ref a]) (h₀:=X.base) I.ok.mod.kin i.kp (uB (P pos b B g S _ n q) fun us T ⟨vs,W,j,r,q2⟩=>⟨j.kIn,?_⟩) d hpl;exact I0 (us:=.ref a::us) (vs:=.ref a::vs) F M O hd J j (.cons rfl r) q2
structure Mk(K:Frag)(C f:Addr):Prop where
 makes:PySem.W.makesIn K C=true
 init:findIn K (.ref C) "__init__" =ε (ε (.ref f))
 fn:PySem.W.isFn K (.ref f)=true
 kp:keepIn K (.ref C)=true
theorem Uh{a:Ni (Oi×Obj)}{i:St}{H:Hp}{s:Oe}{Q:VK}{us:Ni Nu}{vs:Ni V}(M:Mk X.K C f)(F:ab X.prog X.w X.K X.mg X.base CX k f fd ps sp)(D:Xe (k+1) X.A)(L:nb X.K fd ps ds)(hd:mh dvs ds)
 (B:ZJ CX X E) (I:mf X a i H s) (r:mh vs us)
 (h:∀x d,H x=none->H d=none->d≠x->sp (.ref x::(vs++dvs)) (oB (oB H d (.own x)) x (.ins C d [])) (fun v S=>v=.non/\Q (.ref x) S) E) :
 wpAny (model X.prog X.w) X.A (call (.ref C) us) (EP X a i Q) X.xe s:=by
 have n:=h (s.heap.objs.size+1) s.heap.objs.size (I.hok.fresh (Nat.le_succ _)) (I.hok.fresh (Ue _)) (n7 (yu _));have g:=mf.made (C:=C) I;have j:mh (V.ref (s.heap.objs.size+1)::(vs++dvs)) (Value.ref (s.heap.objs.size+1)::(us++ds)):=.cons rfl (r.append hd);have J:(Value.ref (s.heap.objs.size+1)::us++ds).length=ps.length:=by have e:=j.length;rw[F.len _ _ _ _ n]at e;exact e.symm
 refine wpAny_call (Yt (f:=f) I.kIn M.makes M.init (beq_iff_eq.mp M.fn) (codeAny_mono (F.run _ X.stack _ _ ⟨Value.ref (s.heap.objs.size+1)::us,[]⟩ (Value.ref (s.heap.objs.size+1)::(us++ds)) _ _ E (D.make C us [])
  (g.env0.make C us []) (L _ (Value.ref (s.heap.objs.size+1)::us) g.kIn J) j n) fun r q b=>?_))
 cases r with
 | error e=>exact B a i _ _ e q g b
 | ok O=>
  cases O with
  | ret u=>obtain⟨v,T,R,y,P,q3⟩:=g.after b;subst P;exact⟨y,⟨V.ref (s.heap.objs.size+1),T,R,rfl,q3⟩⟩
  | next=>exact Eu b
  | brk=>exact Eu b
  | cont=>exact Eu b
theorem Yc(M:Mk X.K C f)(F:ab X.prog X.w X.K X.mg X.base CX k f fd ps sp)(j:Xe (k+1) X.A)(u:Gl X x)(n:X.mg x=ε (.ref C))(y:nb X.K fd ps ds)(hd:mh dvs ds)(i:ZJ CX X E)
 (B:PA X (e::es) t) (b:(x==("__debug__" :Str))=false:=by decide) (he:starEach (e::es) X.env=(false,eval e X.env)::starEach es X.env:=by rfl) (hpl:(backTo pos (starEach es X.env)).any (·.1)=false:=by rfl) :
 PE X (.Call (.Name x p) (e::es) [] pos) (o8 C sp dvs E t):=by
 intro a s g H Q I h;refine wpAny_Call_Name_kw (UR I u n ?_ b);refine PySem.W.callWith_K (h₀:=X.base) I.ok.mod.kin M.kp (uB (B pos a s g H _ I h) fun J L ⟨D,O,d,r,q⟩=>⟨d.kIn,?_⟩) he hpl;exact Uh M F j y hd i d r q
end
section
variable{X:Cx}{CX:oK}{k:Nat}{f C:Oi}{fd:FuncData}{ps ks:Ni Str}{sp:Sp}{E:XK}{x m:Str}{p pos apos kpos:Pos}{e o:Oo}{es:Ni Oo}{kws:Ni Keyword}{te ta:TE}{t tk:TA}{nm:Oa Str}
variable{g:Ni Nu->Ni Nu->Ni Nu}{gV:Ni V->Ni V->Ni V}
end
structure Yi(N P:List Str)(sc:Scope):Prop where
 kind:sc.kind=.function
 co:sc.isCoroutine=false
 gen:sc.isGenerator=false
 nd:N.Nodup
 pre:N.take P.length=P
 par:∀x∈P,sc.names.lookup x=ε .local\/sc.names.lookup x=ε .cell
 ia:∀y∈sc.names,y.2≠.free
theorem IW{a:Str->Oa NameKind}{x:Str}:∀{binds:Ni (Str×Nu)}{m:Str->Oa Nu},(∀v,(x,v)∉binds)->bindL a binds m x=m x
 | [],_,_=>rfl
 | (n,v)::r,m,h=>by
  unfold bindL;rw[IW fun w hw=>h w (nW _ hw)];split
  . have:x≠n:=by rintro rfl;exact h v um
    simp[this]
  . rfl
theorem GW{a:Str->Oa NameKind}{x:Str}:∀{binds:Ni (Str×Nu)}{m:Str->Oa Nu},(∀v,(x,v)∉binds)->bindC a binds m x=m x
 | [],_,_=>rfl
 | (n,v)::r,m,h=>by
  unfold bindC;rw[GW fun w hw=>h w (nW _ hw)];split
  . rfl
  . have:x≠n:=by rintro rfl;exact h v um
    simp[this]
theorem HW{a:Str->Oa NameKind}{x:Str}{v:Nu}:∀{P:Ni Str}{vs:Ni Nu}{i:Nat}{m:Str->Oa Nu},P.Nodup->P[i]?=ε x->vs[i]?=ε v->a x=ε .local->
 bindL a (P.zip vs) m x=ε v
 | [],_,_,_,_,h,_,_=>by simp at h
 | _::_,[],_,_,_,_,h,_=>by simp at h
 | p::P,w::vs,0,m,nd,h1,h2,hk=>by simp at h1 h2;subst h1;subst h2;show bindL a ((p,w)::P.zip vs) m p=_;unfold bindL;rw[IW fun v b=>(Li.mp nd).1 (of_mem_zip b).1,dh hk];simp
 | p::P,w::vs,i+1,m,nd,h1,h2,hk=>by show bindL a ((p,w)::P.zip vs) m x=_;unfold bindL;exact HW (i:=i) (Li.mp nd).2 (by simpa using h1) (by simpa using h2) hk
theorem FW{a:Str->Oa NameKind}{x:Str}{v:Nu}:∀{P:Ni Str}{vs:Ni Nu}{i:Nat}{m:Str->Oa Nu},P.Nodup->P[i]?=ε x->vs[i]?=ε v->a x≠ε .local->
 bindC a (P.zip vs) m x=ε v
 | [],_,_,_,_,h,_,_=>by simp at h
 | _::_,[],_,_,_,_,h,_=>by simp at h
 | p::P,w::vs,0,m,nd,h1,h2,hk=>by simp at h1 h2;subst h1;subst h2;show bindC a ((p,w)::P.zip vs) m p=_;unfold bindC;rw[GW fun v b=>(Li.mp nd).1 (of_mem_zip b).1,dz hk];simp
 | p::P,w::vs,i+1,m,nd,h1,h2,hk=>by show bindC a ((p,w)::P.zip vs) m x=_;unfold bindC;exact FW (i:=i) (Li.mp nd).2 (by simpa using h1) (by simpa using h2) hk
noncomputable def gG(N:Ni Str)(vs:Ni V):St:=vs.map some++List.replicate (N.length-vs.length) none
noncomputable def oE(CX:oK)(P:O4)(w:Pb)(K:Ou)(mg:Str->Oa Nu)(base:Ri)(N:Ni Str)(b:Str)(a:Scope)(f:Oi)(g:Nu)(A:Pu)(outer:Ni Env)(s:Oe)(H:Hp)(E:XK):Cx where
 prog:=P
 w:=w
 K:=K
 mg:=mg
 base:=base
 A:=A.deeper (envOfC b a s.heap.objs.size f g)
 N:=N
 s₀:=s
 H₀:=H
 env:=envOfC b a s.heap.objs.size f g
 outer:=outer
 stack:=envOfC b a s.heap.objs.size f g::outer
 ex:=[]
 calm:=true
 fn:=fun _=>true
 pn:=[]
 xe:=fun e h=>wpAny (model P w) (A.deeper (envOfC b a s.heap.objs.size f g)) (leaving (envOfC b a s.heap.objs.size f g) e) (fun _ d=>CX outer H s E e d) (fun i d=>CX outer H s E i d) h
theorem eY{a:Scope}{n:Nat}{x:Str}(h:a.names.lookup x=ε .cell):∃c,(cellsFrom n a.names []).lookup x=ε c:=by have q:=PySem.W.cellsFrom_some a.names n [] (.inl h);exact Option.isSome_iff_exists.mp q
theorem Cy{CX:oK}{P:O4}{w:Pb}{K:Ou}{mg:Str->Oa Nu}{base:Ri}{N ps:Ni Str}{g:Str}{d:Scope}{f:Oi}{I:Nu}{A:Pu}{outer:Ni Env}{s s1:Oe}{H:Hp}{E:XK}{us:Ni Nu}{vs:Ni V}
 (S:Yi N ps d) (hd:A.handled=none) (m:cy P w K mg base A outer s H) (T:vs.length=ps.length) (r:mh vs us)
 (x:InCallC s s.heap.objs.size (bindL (envOfC g d s.heap.objs.size f I).kindOf (ps.zip us) fun t=>none) (cellsFrom (s.heap.objs.size+1) d.names []) (bindC (envOfC g d s.heap.objs.size f I).kindOf (ps.zip us) fun t=>none) s1) :
 mf (oE CX P w K mg base N g d f I A outer s H E) [] (gG N vs) H s1:=by
 have O:ps.length<=N.length:=by have:=congrArg List.length S.pre;rw[Ce]at this;omega
 obtain⟨F,R,rfl,L⟩:=x.done;have o:∀b:Oi,b∉(oE CX P w K mg base N g d f I A outer s H E).ex:=fun b z=>Du (show b∈([]:Ni Oi)from z) ⋯
 refine⟨⟨m.mod,S.kind,rfl,rfl,Ue _,fun y z c F j=>?_,fun y hy=>?_,fun y c t h=>?_,fun t=>hd,Around.frames_deeper m.frames,.inr ⟨rfl,rfl⟩,fun b z=>Du z (o b),m.bs,m.bsz,fun b t t=>o b,fun b z=>Du z (o b),m.bm,m.frf⟩,
  rfl,m.bare,Un.kept L,⟨_,x.toInCall.ns,fun i y v F j U=>?_⟩,fun y c h=>⟨_,x.cell y c h⟩,m.hok.fresh (Ue _),fun y c h=>?_,fun p C=>Du (show p∈([]:Ni (Oi×Obj))from C) ⋯,m.hok.kept L,?_⟩
 . exact name_of_addr x.apart (PySem.mem_of_lookup F) (PySem.mem_of_lookup j)
 . have hy:d.names.lookup y=ε .cell\/d.names.lookup y=ε .free:=hy;rcases hy with hy | hy
   . exact eY hy
   . exact Du rfl (S.ia _ (PySem.mem_of_lookup hy))
 . exact Ci (x.above y c (PySem.mem_of_lookup h))
 . have D:i<vs.length:=by
    unfold gG at j;by_cases D:i<vs.length
    . exact D
    . rw[Zo (by simpa using D)]at j;rw[getElem?_replicate]at j;split at j<;>cases j
   have Q:vs[i]?=ε v:=by
    unfold gG at j;rw[Xa (by simpa using D),u5]at j;cases e:vs[i]? with
    | none=>rw[e]at j;cases j
    | some a=>rw[e]at j;cases j;rfl
   obtain⟨u,J,M⟩:=r.get Q;have C:ps[i]?=ε y:=by rw[<- S.pre,getElem?_take_of_lt nofun];exact F
   have B:ps.Nodup:=by rw[<- S.pre];exact S.nd.sublist (take_sublist _ _)
   refine⟨u,M,?_⟩;rcases S.par y (ju C)with k | k
   . exact .inl ⟨k,HW B C J k⟩
   . obtain⟨c,e⟩:=eY (n:=s.heap.objs.size+1) k;refine .inr ⟨.inl k,c,e,?_⟩;have q:=x.cell y c e;rw[FW B C J (by show d.names.lookup y≠_;rw[k];decide)]at q;exact q
 . exact m.hok.fresh (Ci (x.above y c (PySem.mem_of_lookup h)))
 . unfold gG;show _=N.length;rw[iu,mq,length_replicate];omega
theorem Z0{CX:oK}{P:O4}{w:Pb}{K:Ou}{mg:Str->Oa Nu}{base:Ri}{k:Nat}{f:Oi}{name d:Str}{h:Arguments}{body:Ni Pa}{a:Scope}{W kV F U g ct oc:Nu}{Z od:Oa Oi}
 {M:Ra (Oa Nu)} {N ps:Ni Str} {sp:Sp} (lk:K.lookup f=ε ⟨oc,od,.func (fnOf name d h body a W kV F U Z g ct),M⟩) (T:PySem.W.codeIn K g d=true) (S:Yi N ps a)
 (len:∀vs H Q E,sp vs H Q E->vs.length=ps.length)
 (p:∀(A:Pu)(outer:Ni Env)(s:Oe)(H:Hp)(vs:Ni V)(Q:VK)(E:XK),Xe k (A.deeper (envOfC d a s.heap.objs.size f g))->sp vs H Q E->
  ∃t,PSs (oE CX P w K mg base N d a f g A outer s H E) body t/\t { nx:=fun _ j=>Q .non j,rt:=Q } (gG N vs) H) :
 ab P w K mg base CX (k+1) f (fnOf name d h body a W kV F U Z g ct) ps sp:=by
 refine⟨len,fun A outer s H Y us vs Q E R D hb r B=>?_⟩;have hl:=len _ _ _ _ B;have KX:K.In s.heap:=D.mod.kin.keeps fun b o e=>(D.bs b o e).1
 have O:s.heap.NoLimit:=D.mod.nolimit.keeps fun b o e=>(D.bs b o e).1
 have m:∀y∈ps.zip us,a.names.lookup y.1=ε .local\/(a.names.lookup y.1=ε .cell/\((cellsFrom (s.heap.objs.size+1) a.names []).lookup y.1).isSome=true):=fun zz hy=>by
  obtain⟨n,v⟩:=zz;rcases S.par n (of_mem_zip hy).1 with q | q
  . exact .inl q
  . exact .inr ⟨q,PySem.W.cellsFrom_some _ _ _ (.inl q)⟩
 refine codeAny_call_function R.depth (KX _ _ lk) rfl S.co S.gen rfl (PySem.W.codeRec_of KX T) (hb _ _ _ _ ?_);refine wpAny_newFunctionEnv_cells S.kind m fun env he s1 x=>?_
 subst he;refine⟨O.keeps x.toInCall.keep,codeAny_func ?_⟩;obtain⟨t,ht,hq⟩:=p A outer s H vs Q E (R.deeper _) B;have I:mf (oE CX P w K mg base N d a f g A outer s H E) [] (gG N vs) H s1:=Cy S R.hd D hl r x;refine Hs (ht [] s1 (gG N vs) H _ I hq) (fun fl s' hs=>?_) fun e s' hs=>hs
 have C:∀{i:St}{j:Hp}{v:V}{u:Nu},mf (oE CX P w K mg base N d a f g A outer s H E) [] i j s'->mr v u->Q v j->CE outer P w H s Q u s':=
  fun {i j v u} J L q=>⟨v,j,J.os,J.bare,J.base,J.hok,L,q⟩
 cases fl with
 | ret u=>obtain⟨v,i,j,J,L,q⟩:=hs;exact C J L q
 | next=>obtain⟨i,j,J,q⟩:=hs;exact C (v:=V.non) (u:=Value.none) J rfl q
 | brk=>obtain⟨_,_,_,q⟩:=hs;exact Eu q
 | cont=>obtain⟨_,_,_,q⟩:=hs;exact Eu q
section
variable{X:Cx}{x:Str}{p pos:Pos}{e:Oo}{a:Ni Oo}{t:TA}{b T:String}{r:Ni V->Hp->VK->Prop}
noncomputable def tCB(r:Ni V->Hp->VK->Prop)(t:TA):TE:=fun d H Q=>t d H fun f g=>r f g Q
theorem JJ (B:Zu X (.builtin b) r) (y:Gl X x) (u:X.mg x=none) (o:bootBuiltins x=ε (.builtin b)) (C:PA X (e::a) t) (q:x ≠ "__name__" :=by decide) (f:(x==("__debug__" :Str))=false:=by decide)
 (he:starEach (e::a) X.env=(false,eval e X.env)::starEach a X.env:=by rfl) (hpl:(backTo pos (starEach a X.env)).any (·.1)=false:=by rfl):PE X (.Call (.Name x p) (e::a) [] pos) (tCB r t):=by
 intro d s g H Q I h;refine wpAny_Call_Name_kw (WF I y u o ?_ q f);exact PyProof.Rows.callWith_builtin1 (uB (C pos d s g H _ I h) fun j m ⟨i,E,D,n,q1⟩=>B d m g E i j Q D n q1) he hpl
theorem qR (B:Zu X (.type T) r) (y:Gl X x) (u:X.mg x=none) (o:bootBuiltins x=ε (.type T)) (C:PA X (e::a) t) (q:x ≠ "__name__" :=by decide) (f:(x==("__debug__" :Str))=false:=by decide)
 (he:starEach (e::a) X.env=(false,eval e X.env)::starEach a X.env:=by rfl) (hpl:(backTo pos (starEach a X.env)).any (·.1)=false:=by rfl):PE X (.Call (.Name x p) (e::a) [] pos) (tCB r t):=by
 intro d s g H Q I h;refine wpAny_Call_Name_kw (WF I y u o ?_ q f);exact PyProof.Rows.callWith_type1 (uB (C pos d s g H _ I h) fun j m ⟨i,E,D,n,q1⟩=>B d m g E i j Q D n q1) he hpl
end
end L2
namespace HT
section
open PySem.SeqAt
open PySem.AutoSeq1 (wpAny_loadPart')
open PySem.MeetsSeq PySem.MeetsSeq2 PySem.MeetsSeq3
end
section
variable{prog:O4}{w:Pb}{A:Pu}{E:Nu->Oe->Prop}{s:Oe}
theorem ib{t b:Oi}{vs a:Ni Nu}{Q:Nu->Oe->Prop}(y:IsTup s.heap t vs.toArray)(B:IsTup s.heap b a.toArray)(q:vs ≠ [])
 (h1:a=[]->Q (.ref t) s) (h2:a ≠ []->Q (.ref s.heap.objs.size) { s with heap:=s.heap.push { cls:=.type "tuple",data:=.seq (vs++a).toArray } })
 (hsz:vs.length+a.length<=sizeLine):wpAny (model prog w) A (binaryOp .Add (.ref t) (.ref b)) Q E s:=by
 obtain⟨⟨cls,u,data,o⟩,j,r,n,hd⟩:=id y;obtain⟨⟨x,i,m,f⟩,d,h,p,g⟩:=id B;simp only at r hd h g;subst r hd h g;have e:vs.toArray++a.toArray=(vs++a).toArray:=by simp
 by_cases hw:a=[]
 . exact concat_meets ⟨_,j,rfl⟩ ⟨_,d,rfl⟩ noFill_tuple_add seq_tuple_add PySem.F.slot_tuple_add PySem.F.entry_tuple_add (PySem.F.args_tuple_add_2 _ _)
    (tuple_addW1 t b vs.toArray a.toArray n p u i o f (by simpa using q) (by simp[hw])) ⟨j,d,h1 hw⟩
 . refine concat_meets ⟨_,j,rfl⟩ ⟨_,d,rfl⟩ noFill_tuple_add seq_tuple_add PySem.F.slot_tuple_add PySem.F.entry_tuple_add (PySem.F.args_tuple_add_2 _ _)
    (tuple_addW2 t b vs.toArray a.toArray n p u i o f (by simpa using q) (by simpa using hw) (by rw[cG,cG];exact hsz)) ⟨j,d,?_⟩
   rw[e];exact h2 hw
noncomputable def sIx(n d:Nat):Oa Int->Nat
 | none=>d
 | some v=>if v<0 then(v+(n:Int)).toNat else min v.toNat n
theorem A6(n d:Nat)(hd:d<=n)(o:Oa Int):sIx n d o<=n:=by
 cases o with
 | none=>exact hd
 | some v=>
  show(if v<0 then(v+(n:Int)).toNat else min v.toNat n)<=n;by_cases a:v<0
  . rw[dh a];omega
  . rw[dz a];exact Nat.min_le_right _ _
theorem nY(v:Int)(n d:Nat):(if v<0 then max (v+(n:Int)) 0 else min v (n:Int))=((sIx n d (ε v):Nat):Int):=by
 show(if v<0 then max (v+(n:Int)) 0 else min v (n:Int))=(((if v<0 then(v+(n:Int)).toNat else min v.toNat n):Nat):Int);by_cases a:v<0
 . simp![dh a];omega
 . simp![dz a];omega
theorem Fz(lo a:Oa Int)(n:Nat):Builtin.Slice.sliceAdjust lo a 1 (n:Int)=(((sIx n 0 lo:Nat):Int),((sIx n n a:Nat):Int)):=by
 have b:¬((1:Int)<0):=by omega
 unfold Builtin.Slice.sliceAdjust;simp![b,eG];refine Prod.ext ?_ ?_
 . cases lo with
   | none=>rfl
   | some v=>exact nY v n 0
 . cases a with
   | none=>rfl
   | some v=>exact nY v n n
theorem Oz(i j:Nat):Builtin.Slice.slicePlaces (i:Int) (j:Int) 1=j-i:=by
 unfold Builtin.Slice.slicePlaces;have a:(1:Int)>0:=by omega
 simp![a,dG,Int.ediv_one];split<;>omega
theorem TV{v:Nu}{o:Oa Int}{Q:Oa Int->Oe->Prop}(p:IsPart v o)(h:Q o s):wpAny (model prog w) A (Builtin.Slice.slicePartIndex v) Q E s:=by
 cases p with
 | none=>exact slicePart_none h
 | int i t=>exact slicePart_int h
theorem Bj{g:Oi}{f e:Nu}{lo b:Oa Int}{n:Nat}{Q:Int×Int×Nat->Oe->Prop}(hs:s.heap.IsSliceOf g f e .none)(pl:IsPart f lo)(i:IsPart e b)
 (h:Q (((sIx n 0 lo:Nat):Int),1,sIx n n b-sIx n 0 lo) s):wpAny (model prog w) A (Builtin.Slice.sliceApplied (.ref g) (pure (n:Int))) Q E s:=by
 obtain⟨os,a,j,d⟩:=id hs;unfold Builtin.Slice.sliceApplied Builtin.Slice.sliceFields;refine ao (ao (Gi a d (x:=f) rfl (ao (Gi a d (x:=e) rfl (ao (Gi a d (x:=.none) rfl (au ?_)))))));refine ao (slicePart_none ?_);show wpAny _ _ (if((1:Int)==0)=true then _ else _) _ _ s;rw[dz (by decide)];refine ao (TV pl (ao (TV i (ao (au ?_)))));show wpAny _ _ (match Builtin.Slice.sliceAdjust lo b 1 (n:Int)with | (lo,b)=>pure (lo,(1:Int),Builtin.Slice.slicePlaces lo b 1)) _ _ s;rw[Fz lo b n];show wpAny _ _ (pure (((sIx n 0 lo:Nat):Int),(1:Int),Builtin.Slice.slicePlaces ((sIx n 0 lo:Nat):Int) ((sIx n n b:Nat):Int) 1)) _ _ s;rw[Oz];exact au h
theorem Kr(xs:Ra Nu)(i k:Nat):((List.range k).filterMap fun(m:Nat)=>xs[((i:Int)+(m:Int)*1).toNat]?).toArray=((xs.toList.drop i).take k).toArray:=by
 have e:(fun(m:Nat)=>xs[((i:Int)+(m:Int)*1).toNat]?)=fun m=>xs[i+m]?:=by
  funext m
  have:((i:Int)+(m:Int)*1).toNat=i+m:=by omega
  rw[this]
 rw[e];have:=pick_run xs i k;rw[filterMap_map]at this;have e2:((fun x=>xs[x]?) ∘ fun x=>i+x)=fun m=>xs[i+m]?:=rfl
 rw[e2]at this;rw[this]
theorem ie{t e:Oi}{items:Ra Nu}{o n:Nu}{lo a:Oa Int}{Q:Nu->Oe->Prop}(d:IsTup s.heap t items)(hs:s.heap.IsSliceOf e o n .none)(pl:IsPart o lo)(p:IsPart n a)
 (hw:¬(sIx items.size 0 lo=0/\sIx items.size items.size a=items.size))
 (h:Q (.ref s.heap.objs.size) { s with heap:=s.heap.push { cls:=.type "tuple",data:=.seq ((items.toList.drop (sIx items.size 0 lo)).take (sIx items.size items.size a-sIx items.size 0 lo)).toArray } })
 (hsz:items.size<=sizeLine):wpAny (model prog w) A (getItem (.ref t) (.ref e)) Q E s:=by
 have b:sizeOk (.seq ((items.toList.drop (sIx items.size 0 lo)).take (sIx items.size items.size a-sIx items.size 0 lo)).toArray):=by show((items.toList.drop (sIx items.size 0 lo)).take (sIx items.size items.size a-sIx items.size 0 lo)).toArray.size<=sizeLine;rw[cG,Ce,length_drop,za];omega
 have u:sIx items.size items.size a<=items.size:=A6 _ _ (Ue _) a;obtain⟨os,f,i,r⟩:=id hs;have j:s.TypeIs (.ref e) "slice" :=⟨os,f,i⟩;unfold getItem
 try with_reducible refine Eo ?_
 first | refine ao (au ?_) | skip
 refine ao (wpAny_sequenceKey d.typeIs (by decide) ?_);refine ao (wpAny_callSpecial?_slot (name:=Str.ofString "__getitem__") d.typeIs PyProof.Rows.slot_tuple_getitem
  (wpAny_call_entry PyProof.Rows.slot_tuple_getitem d.typeIs entry_tuple_getitem ?_ (args_tuple_getitem _ _)))
 show wpAny _ _ (Builtin.Tuple.tupleItemsOf (.ref t) >>=_) _ _ s;refine ao (tupleItemsOf_ d ?_);refine ao (wpAny_typeOf j ?_);rw[dh (by decide)];refine ao (Bj hs pl p ?_);have g:¬((((sIx items.size 0 lo:Nat):Int)==0&&(1:Int)==1&&(sIx items.size items.size a-sIx items.size 0 lo)==items.size)=true):=by intro q;rw[vm,vm]at q;have q1:((sIx items.size 0 lo:Nat):Int)=0:=eq_of_beq q.1.1;have q2:sIx items.size items.size a-sIx items.size 0 lo=items.size:=eq_of_beq q.2;exact hw ⟨by omega,by omega⟩
 show wpAny _ _ (if(((sIx items.size 0 lo:Nat):Int)==0&&(1:Int)==1&&(sIx items.size items.size a-sIx items.size 0 lo)==items.size)=true then _ else _) _ _ s;rw[dz g,Kr]
 first
  | exact ao (m:=Builtin.Tuple.tupleExact _) (Ae (au ⟨_,rfl,au h⟩) b)
  | exact ao (m:=Builtin.Tuple.tupleExact _) (Ae (ao (au (au ⟨_,rfl,au h⟩))) b)
  | exact ao (ao (m:=Builtin.Tuple.tupleExact _) (Ae (au (au ⟨_,rfl,au h⟩)) b))
  | exact ao (ao (m:=Builtin.Tuple.tupleExact _) (Ae (au ⟨_,rfl,au h⟩) b))
end
end HT
namespace L2
abbrev TO:=St->Hp->(Oa Int->Hp->Prop)->Prop
def PO(X:Cx)(e:Oa Oo)(t:TO):Prop:=
 ∀(a:Ni (Oi×Obj))(s:Oe)(b:St)(H:Hp)(Q:Oa Int->Hp->Prop),mf X a b H s->t b H Q->
  wpAny (model X.prog X.w) X.A (evalPart e X.env) (fun u f=>∃o d,mf X a b d f/\IsPart u o/\Q o d) X.xe s
noncomputable def Yp:TO:=fun _ H Q=>Q none H
noncomputable def M9(t:TE):TO:=fun a H Q=>t a H fun x b=>∃i,x=.int i/\Q (ε i) b
theorem FJ{ns:Ni Int}:∀{us:Ni Nu},mh (ns.map V.int) us->IntsAre us ns:=by
 induction ns with
 | nil=>intro us r;rw[Vu]at r;cases r;exact .nil
 | cons n ns ih=>
  intro us r;rw[Ti]at r;cases r with
  | cons b a=>obtain⟨t,e⟩:=b;subst e;exact .cons n t (ih a)
section
variable{X:Cx}{e:Oo}{te:TE}{lo c:Oa Oo}{d f:TO}{pos g:Pos}
theorem Gb:PO X none Yp:=by intro a s b H Q I h;rw[evalPart_none];exact au ⟨none,H,I,.none,h⟩
theorem Ib(h:PE X e te):PO X (ε e) (M9 te):=by
 intro a s b H Q I hw;rw[evalPart_some];refine uB (h a s b H _ I hw) fun u p j=>?_
 obtain⟨x,o,n,m,q1⟩:=j;obtain⟨i,rfl,q⟩:=q1;obtain⟨t,rfl⟩:=m;exact⟨ε i,o,n,.int i t,q⟩
def D4(X:Cx)(r:V->Oa Int->Oa Int->Hp->VK->Prop):Prop:=
 ∀(a:Ni (Oi×Obj))(s:Oe)(b:St)(H:Hp)(x:V)(v i h:Nu)(lo c:Oa Int)(j:Oi)(Q:VK),mf X a b H s->mr x v->s.heap.IsSliceOf j i h .none->IsPart i lo->IsPart h c->r x lo c H Q->
  ∃T m,typeLookup (.type T) "__getitem__" =pure (ε (.builtin m))/\s.TypeIs v T/\wpAny (model X.prog X.w) X.A (getItem v (.ref j)) (EP X a b Q) X.xe s
noncomputable def tSl(r:V->Oa Int->Oa Int->Hp->VK->Prop)(te:TE)(d f:TO):TE:=fun a H Q=>te a H fun x i=>d a i fun l h=>f a h fun u b=>r x l u b Q
theorem JX{r:V->Oa Int->Oa Int->Hp->VK->Prop}(J:D4 X r)(he:PE X e te)(L:PO X lo d)(E:PO X c f):PE X (.Subscript e (.Slice lo c none g) pos) (tSl r te d f):=by
 intro a s j H Q I h;refine Subscript_ (uB (he a s j H _ I h) fun v B o=>?_);obtain⟨x,Y,U,C,q1⟩:=o;refine wpAny_Slice (uB (L a B j Y _ U q1) fun n y ⟨l,W,S,pl,q2⟩=>uB (E a y j W _ S q2) fun m i o=>?_);obtain⟨u,p,R,D,q3⟩:=o;rw[evalPart_none];refine au ?_;have P:mf X a j p { i with heap:=i.heap.push { cls:=.type "slice",data:=.fields #[n,m,.none] } }:=R.kept (t':=i.toks) fun b ob q=>cu _ q
 obtain⟨T,Z,O,F,M⟩:=J a { i with heap:=i.heap.push { cls:=.type "slice",data:=.fields #[n,m,.none] } } j p x v n m l u i.heap.objs.size Q P C (Heap.IsSliceOf.new ..) pl D q3;show wpAny (model X.prog X.w) X.A (subscriptTail e (.Slice lo c none g) v (.ref i.heap.objs.size)) (EP X a j Q) X.xe { i with heap:=i.heap.push { cls:=.type "slice",data:=.fields #[n,m,.none] } };exact tail_any (ops:=[.ref i.heap.objs.size,v]) F O M (by unhygienic rfl)
def nH(xs:Ni V)(lo c:Oa Int):Ni V:=(xs.drop (HT.sIx xs.length 0 lo)).take (HT.sIx xs.length xs.length c-HT.sIx xs.length 0 lo)
theorem IV(xs:Ni V)(lo c:Oa Int):(nH xs lo c).length<=xs.length:=by unfold nH;rw[Ce,length_drop];omega
def M5(K:Ou):V->Oa Int->Oa Int->Hp->VK->Prop:=fun x lo c H Q=>∃a b,x=.ref a/\AG K H a b/\
 ¬(HT.sIx b.length 0 lo=0/\HT.sIx b.length b.length c=b.length)/\∀p,H p=none->Q (.ref p) (oB H p (.tup (nH b lo c)))
theorem C6:D4 X (M5 X.K):=by
 intro n s D H x v F E lo c J Q I y hs pl B h;obtain⟨a,j,rfl,C,hw,q⟩:=h;cases y;obtain⟨m,r,u,p⟩:=I.tuple C;have i:m.toArray.size=j.length:=by rw[cG];exact r.length.symm
 refine⟨"tuple",_,PyProof.Rows.slot_tuple_getitem.lookup,u.typeIs,?_⟩;refine HT.ie u hs pl B (by rw[i];exact hw) ?_ (by rw[i];exact p);rw[i];refine⟨.ref s.heap.objs.size,_,I.laid (t':=s.toks) (o:=.tup (nH j lo c)) (fun b ob q=>cu _ q) (Ue _) ?_,rfl,q _ (I.hok.fresh (Ue _))⟩;exact⟨su (IV j lo c) p,_,(r.drop (HT.sIx j.length 0 lo)).take (HT.sIx j.length j.length c-HT.sIx j.length 0 lo),IsTup.new _ _⟩
def W8(K:Ou):R2:=fun x y H Q=>∃a b i h,x=.ref a/\y=.ref b/\AG K H a i/\AG K H b h/\i ≠ []/\i.length+h.length<=sizeLine/\
 (h=[]->Q (.ref a) H)/\(h ≠ []->∀p,H p=none->Q (.ref p) (oB H p (.tup (i++h))))
theorem mh.fw{xs:Ni V}{us:Ni Nu}(r:mh xs us):us=[]↔xs=[]:=by
 cases r with
 | nil=>simp
 | cons _ _=>simp
theorem Dc:nc X (binaryOp .Add) (W8 X.K):=by intro m s O H x y v u Q I D C h;obtain⟨a,b,B,r,rfl,rfl,M,L,J,p,q1,q2⟩:=h;cases D;cases C;obtain⟨F,j,E,_⟩:=I.tuple M;obtain⟨n,i,g,_⟩:=I.tuple L;refine HT.ib E g (fun z=>J (j.fw.mp z)) (fun z=>⟨.ref a,H,I,rfl,q1 (i.fw.mp z)⟩) (fun z=>?_) (by rw[<- j.length,<- i.length];exact p);refine⟨.ref s.heap.objs.size,_,I.laid (t':=s.toks) (o:=.tup (B++r)) (fun b ob q=>cu _ q) (Ue _) ?_,rfl,q2 (fun w=>z (i.fw.mpr w)) _ (I.hok.fresh (Ue _))⟩;exact⟨by rw[iu];exact p,_,j.append i,IsTup.new _ _⟩
end
noncomputable def cI(n:Nat)(i:Int):Oa Nat:=if 0<=i then(if i<n then ε i.toNat else none)else if -(n:Int)<=i then ε (i+n).toNat else none
def atI{α:Type}(xs:Ni α)(i:Int):Oa α:=(cI xs.length i).bind fun j=>xs[j]?
theorem kZ{n:Nat}{i:Int}{j:Nat}(h:cI n i=ε j):seqIndex? i n=ε j/\j<n/\-(n:Int)<=i/\i<n:=by
 unfold cI at h;by_cases b:0<=i
 . rw[dh b]at h;by_cases a:i<n
   . rw[dh a]at h;have e:i.toNat=j:=rz h;exact⟨by rw[seqIndex_of b a,e],by omega,by omega,a⟩
   . rw[dz a]at h;cases h
 . rw[dz b]at h;by_cases a:-(n:Int)<=i
   . rw[dh a]at h;have e:(i+n).toNat=j:=rz h;exact⟨by rw[seqIndex_neg nofun a,e],by omega,a,by omega⟩
   . rw[dz a]at h;cases h
theorem PR{a:Type}{xs:Ni a}{i:Int}{v:a}(h:atI xs i=ε v):∃j,seqIndex? i xs.length=ε j/\xs[j]?=ε v/\j<xs.length/\-(xs.length:Int)<=i/\i<xs.length:=by
 unfold atI at h;cases e:cI xs.length i with
 | none=>rw[e]at h;cases h
 | some j=>rw[e]at h;obtain⟨g,f,d,b⟩:=kZ e;exact⟨j,g,h,f,d,b⟩
theorem zD{a:Type}{xs:Ni a}{j:Nat}{v:a}(h:xs[j]?=ε v):atI xs (j:Int)=ε v:=by
 have b:j<xs.length:=(Wi h).1;have e:cI xs.length (j:Int)=ε j:=by unfold cI;rw[dh nofun,dh nofun];simp
 unfold atI;rw[e];exact h
def kY(b:Oo):Prop:=∀o i,subscripted b false o i=operate [o,i] (getItem o i)
def IxR(X:Cx)(r:R2):Prop:=
 ∀(d a:Oo)(b:Ni (Oi×Obj))(s:Oe)(e:St)(H:Hp)(x y:V)(v u:Nu)(Q:VK),mf X b e H s->mr x v->mr y u->r x y H Q->
  subscripted a false v u=operate [v,u] (getItem v u)->wpAny (model X.prog X.w) X.A (subscriptTail d a v u) (EP X b e Q) X.xe s
def A4(X:Cx)(f:String)(r:V->Ni V->Hp->VK->Prop):Prop:=
 ∀(a:Ni (Oi×Obj))(s:Oe)(b:St)(H:Hp)(x:V)(d:Ni V)(v:Nu)(e:Ni Nu)(Q:VK),mf X a b H s->mr x v->mh d e->r x d H Q->
  wpAny (model X.prog X.w) X.A (call (.builtin f) (v::e)) (EP X a b Q) X.xe s
section
variable{X:Cx}{a b:Oo}{E D:TE}{pos:Pos}
theorem IxR.or{r m:R2}(h:IxR X r)(h':IxR X m):IxR X (fun x y H Q=>r x y H Q\/m x y H Q):=by
 intro d e f s g H x y v u Q I j i q hs;rcases q with q | q
 . exact h d e f s g H x y v u Q I j i q hs
 . exact h' d e f s g H x y v u Q I j i q hs
theorem L8{r:R2}(j:IxR X r)(n:PE X a E)(m:PE X b D)(hs:kY b):PE X (.Subscript a b pos) (iU r E D):=by intro d s e H Q I h;exact Subscript_ (MP n m I h fun v u f x y p o i g q=>j a b d f e p x y v u Q o i g q (hs _ _))
def cU(K:Ou):R2:=fun x y H Q=>∃p d i v,x=.ref p/\y=.int i/\m4 K H p d/\atI d i=ε v/\Q v H
def eU(K:Ou):R2:=fun x y H Q=>∃p d i v,x=.ref p/\y=.int i/\AG K H p d/\atI d i=ε v/\Q v H
def dU:R2:=fun x y H Q=>∃z i c,x=.str z/\y=.int i/\z.length<=sizeLine/\atI z.cps.toList i=ε c/\Q (.str ⟨#[c]⟩) H
theorem ii:IxR X (cU X.K):=by
 intro g m d s C H x y v u Q I O M h hs;obtain⟨p,Y,i,z,rfl,rfl,P,S,q⟩:=h;cases O;obtain⟨t,rfl⟩:=M;obtain⟨o,r,pl,Z⟩:=I.list P;obtain⟨j,f,W,h3,U,T⟩:=PR S;obtain⟨w,J,n⟩:=r.get W;have R:=r.length;have hn:=GI;have e:EP X d C Q w s:=⟨z,H,I,n,q⟩;by_cases F:0<=i
 . have B:i.toNat=j:=by rw[seqIndex_of F T]at f;exact rz f
   exact item_listR pl.isList F nofun (by rw[B];simpa using J) e hs
 . have B:(i+(o.toArray.size:Int)).toNat=j:=by rw[seqIndex_neg nofun U]at f;rw[cG,<- R];exact rz f
   exact subscriptTail_builtinR (x:=w) pl.isList.typeIs slot_list_getitem.lookup
    (wpAny_getItem_list_neg (Q:=fun r L=>r=w/\EP X d C Q r L) pl.isList nofun (by rw[cG]<;>omega) nofun (by rw[B];simpa using J) ⟨rfl,e⟩) hs
theorem ij:IxR X (eU X.K):=by
 intro e f d s n H x y v u Q I C B h hs;obtain⟨p,S,i,z,rfl,rfl,J,M,q⟩:=h;cases C;obtain⟨t,rfl⟩:=B;obtain⟨F,r,pl,T⟩:=I.tuple J;obtain⟨j,P,O,Z,Y,W⟩:=PR M;obtain⟨w,R,g⟩:=r.get O;have L:=r.length;have U:=GI;have m:EP X d n Q w s:=⟨z,H,I,g,q⟩;exact subscriptTail_builtinR (x:=w) pl.typeIs slot_tuple_getitem.lookup
  (getItem_tuple (j:=j) (Q:=fun r o=>r=w/\EP X d n Q r o) pl nofun nofun (by rw[cG,<- L];exact P) (by simpa using R) ⟨rfl,m⟩) hs
theorem Zm:IxR X dU:=by
 intro d e f s J H x y v u Q I n m h hs;obtain⟨z,i,c,rfl,rfl,M,p,q⟩:=h;obtain⟨t,rfl⟩:=n;obtain⟨L,rfl⟩:=m;obtain⟨j,g,C,P,B,r⟩:=PR p;have o:z.cps.toList.length=z.length:=by simp[Str.length]
 rw[o]at g B r;have O:=GI;exact tail_any (typeIs_str s z t) slot_str_getitem.lookup (getItem_str (c:=c) (by
  have F:decide (i < -(2^63:Int))=false:=eH nofun;have e2:decide (i >=2^63)=false:=eH nofun;rw[F,e2,Bool.or_false]) (by rw[g];simpa using C) ⟨.str ⟨#[c]⟩,H,I.tok _,⟨_,rfl⟩,q⟩) hs
def rIx(K:Ou):R2:=fun x y H Q=>cU K x y H Q\/eU K x y H Q\/dU x y H Q
theorem Ym:IxR X (rIx X.K):=ii.or (ij.or Zm)
theorem Nv (its:Ni Nu) (n j:Nat) (u:Nu):Obj.mapSeq (·.setIfInBounds j u) { cls:=.type "list",data:=.seq its.toArray n }={ cls:=.type "list",data:=.seq (its.set j u).toArray n }:=by simp[Obj.mapSeq]
theorem mf.lst{d:Ni (Oi×Obj)}{f:St}{H:Hp}{s:Oe}{p:Oi}{xs:Ni V}(I:mf X d f H s)(h:H p=ε (.lst xs)) :
 ∃(its:Ni Nu) (n:Nat),mh xs its/\s.heap.get? p=ε { cls:=.type "list",data:=.seq its.toArray n }/\xs.length<=sizeLine:=by
 obtain⟨z,its,n,r,e⟩:=I.hok p _ h;exact⟨its,n,r,e,z⟩
theorem mf.ik{d:Ni (Oi×Obj)}{i:St}{H:Hp}{s:Oe}{p:Oi}{xs ys:Ni V}{its its':Ni Nu}{n g:Nat}{f:Obj->Obj}(I:mf X d i H s)(h:H p=ε (.lst xs))
 (m:s.heap.get? p=ε { cls:=.type "list",data:=.seq its.toArray n }) (j:f { cls:=.type "list",data:=.seq its.toArray n }={ cls:=.type "list",data:=.seq its'.toArray g }) (r:mh ys its') (hz:ys.length<=sizeLine) (t:Nat) :
 mf X d i (oB H p (.lst ys)) { s with heap:=s.heap.update p f,toks:=t }:=by
 have e:(s.heap.update p f).get? p=ε { cls:=.type "list",data:=.seq its'.toArray g }:=by rw[FN f m (by rw[j]<;>rfl),j]
 refine I.write (x:=p) (e:=p) (by rw[h];trivial) (.inl rfl) (fun b u o q=>(wu _ _ (ni o)).trans q) ⟨_,e⟩ ?_;exact⟨hz,its',g,r,e⟩
def Y8:V->V->V->Hp->(Hp->Prop)->Prop:=fun o i v H Q=>∃p d k j,o=.ref p/\i=.int k/\H p=ε (.lst d)/\cI d.length k=ε j/\Q (oB H p (.lst (d.set j v)))
theorem Zh:NT X Y8:=by
 intro d s L H o i v U W u Q I P R O h;obtain⟨p,M,k,j,rfl,rfl,y,T,q⟩:=h;cases P;obtain⟨t,rfl⟩:=R;obtain⟨e,n,r,g,S⟩:=I.lst y;obtain⟨f,Z,C,B⟩:=kZ T;have m:=r.length;have Y:=GI;have J:mf X d L (oB H p (.lst (M.set j v))) { s with heap:=s.heap.update p (Obj.mapSeq (·.setIfInBounds j u)) }:=
  I.ik y g (Nv e n j u) (r.set O j) (by rw[Ke];exact S) s.toks
 by_cases F:0<=k
 . have x:k.toNat=j:=by rw[seqIndex_of F B]at f;exact rz f
   exact PySem.W.ki_setAt g F nofun (by rw[cG,<- m];exact B) (by rw[x];exact⟨_,J,q⟩)
 . have x:(k+(e.toArray.size:Int)).toNat=j:=by rw[seqIndex_neg nofun C]at f;rw[cG,<- m];exact rz f
   exact PySem.W.ki_setBack g nofun (by rw[cG,<- m];exact C) nofun (by rw[x];exact⟨_,J,q⟩)
theorem jz(lo d:Oa Int)(n:Nat):(sliceBounds lo d none n).1=((HT.sIx n 0 lo:Nat):Int)/\(sliceBounds lo d none n).2.1=((HT.sIx n n d:Nat):Int)/\(sliceBounds lo d none n).2.2=1:=by
 refine⟨?_,?_,rfl⟩
 . cases lo with
   | none=>simp[sliceBounds,HT.sIx]
   | some i=>
    simp![sliceBounds,HT.sIx,Option.getD_none,show(1:Int)>0 by decide,dG];by_cases h:i<0
    . simp![h,dG]<;>omega
    . simp![h,eG]<;>omega
 . cases d with
   | none=>simp[sliceBounds,HT.sIx]
   | some i=>
    simp![sliceBounds,HT.sIx,Option.getD_none,show(1:Int)>0 by decide,dG];by_cases h:i<0
    . simp![h,dG]<;>omega
    . simp![h,eG]<;>omega
theorem Hq(its:Ni Nu)(lo d:Oa Int):slicePick its.toArray lo d none=((its.drop (HT.sIx its.length 0 lo)).take (HT.sIx its.length its.length d-HT.sIx its.length 0 lo)).toArray:=by obtain⟨g,f,e⟩:=jz lo d its.toArray.size;unfold slicePick;rw[g,f,e];simp![sliceRange_one,pick_run,cG]<;>rfl
def K5(K:Ou):V->Oa Int->Oa Int->Hp->VK->Prop:=fun x e f H Q=>∃a d,x=.ref a/\m4 K H a d/\∀p,H p=none->Q (.ref p) (oB H p (.lst (nH d e f)))
theorem Vp:D4 X (K5 X.K):=by intro i s B H x v F C f g J Q I m hs pl n h;obtain⟨a,d,rfl,y,q⟩:=h;cases m;obtain⟨p,r,j,u⟩:=I.list y;have e:=r.length;refine⟨"list",_,slot_list_getitem.lookup,j.isList.typeIs,?_⟩;refine wpAny_getItem_list_slice j.isList hs pl n .none ⋯ ?_ (by rw[cG]<;>omega);rw[Hq,<- e];refine⟨.ref s.heap.objs.size,_,I.laid (t':=s.toks) (o:=.lst (nH d f g)) (fun b ob q=>cu _ q) (Ue _) ?_,rfl,q _ (I.hok.fresh (Ue _))⟩;exact⟨su (IV d f g) u,_,0,(r.drop (HT.sIx d.length 0 f)).take (HT.sIx d.length d.length g-HT.sIx d.length 0 f),ji _ rfl⟩
noncomputable def yG:V->Bool
 | .non=>true
 | .bl _=>true
 | .int _=>true
 | .str _=>true
 | _=>false
noncomputable def PM:V->V->Bool
 | .non,.non=>true
 | .bl a,.bl b=>a==b
 | .bl a,.int b=>(if a then 1 else 0)==b
 | .int a,.bl b=>a==(if b then 1 else 0)
 | .int a,.int b=>a==b
 | .str a,.str b=>a==b
 | _,_=>false
theorem Bp{A:Pu}{s:Oe}{y x:V}{u v:Nu}(f:mr y u)(d:mr x v)(fy:yG y=true)(fx:yG x=true):SeqAt.EqAt A s u v (PM y x):=by
 cases y with
 | non=>
  cases f;cases x with
  | non=>cases d;exact SeqAt.EqAt.same _
  | bl b=>cases d;exact SeqAt.EqAt.none_bool b
  | int b=>obtain⟨t,rfl⟩:=d;exact SeqAt.EqAt.none_int b t
  | str b=>obtain⟨t,rfl⟩:=d;exact SeqAt.EqAt.none_str b t
  | _=>exact Du (show false=true from fx) Wk
 | bl a=>
  cases f;cases x with
  | non=>cases d;exact SeqAt.EqAt.bool_none a
  | bl b=>cases d;exact SeqAt.EqAt.bool_bool a b
  | int b=>obtain⟨t,rfl⟩:=d;exact SeqAt.EqAt.bool_int a b t
  | str b=>obtain⟨t,rfl⟩:=d;exact SeqAt.EqAt.bool_str a b t
  | _=>exact Du (show false=true from fx) Wk
 | int a=>
  obtain⟨e,rfl⟩:=f;cases x with
  | non=>cases d;exact SeqAt.EqAt.int_none a e
  | bl b=>cases d;exact SeqAt.EqAt.int_bool a e b
  | int b=>obtain⟨t,rfl⟩:=d;exact SeqAt.EqAt.int_int a e b t
  | str b=>obtain⟨t,rfl⟩:=d;exact SeqAt.EqAt.int_str a e b t
  | _=>exact Du (show false=true from fx) Wk
 | str a=>
  obtain⟨e,rfl⟩:=f;cases x with
  | non=>cases d;exact SeqAt.EqAt.str_none a e
  | bl b=>cases d;exact SeqAt.EqAt.str_bool a e b
  | int b=>obtain⟨t,rfl⟩:=d;exact SeqAt.EqAt.str_int a e b t
  | str b=>obtain⟨t,rfl⟩:=d;exact SeqAt.EqAt.str_str a e b t
  | _=>exact Du (show false=true from fx) Wk
 | _=>exact Du (show false=true from fy) Wk
def aI(x:V)(u:Nu):Bool:=match u with
 | .none=>PM .non x
 | .bool b=>PM (.bl b) x
 | .int i _=>PM (.int i) x
 | .str z _=>PM (.str z) x
 | _=>false
theorem yZ{x y:V}{u:Nu}(r:mr y u)(f:yG y=true):aI x u=PM y x:=by
 cases y with
 | non=>cases r;rfl
 | bl b=>cases r;rfl
 | int i=>obtain⟨t,rfl⟩:=r;rfl
 | str z=>obtain⟨t,rfl⟩:=r;rfl
 | _=>exact Du (show false=true from f) Wk
theorem JL{x:V}:∀{xs:Ni V}{us:Ni Nu},mh xs us->xs.all yG=true->us.any (aI x)=xs.any fun y=>PM y x
 | _,_,.nil,_=>rfl
 | y::xs,u::us,.cons r t,f=>by rw[Ka,vm]at f;rw[Ju,Ju,yZ r f.1,JL t f.2]
theorem CL{A:Pu}{s:Oe}{x:V}{v:Nu}(d:mr x v)(fx:yG x=true):∀{xs:Ni V}{us:Ni Nu},mh xs us->xs.all yG=true->∀u∈us,SeqAt.EqAt A s u v (aI x u)
 | _,_,.nil,_=>fun u hu=>by cases hu
 | y::xs,u::us,.cons r t,f=>fun e hu=>by
  rw[Ka,vm]at f;rcases Ba.mp hu with rfl | hu
  . rw[yZ r f.1];exact Bp r d f.1 fx
  . exact CL d fx t f.2 e hu
def CP(x:V)(xs:Ni V):Bool:=xs.any fun y=>PM y x
def J5(K:Ou)(neg:Bool):R2:=fun x y H Q=>∃p d,y=.ref p/\(m4 K H p d\/AG K H p d)/\yG x=true/\d.all yG=true/\Q (.bl (if neg then !CP x d else CP x d)) H
theorem Gk:nc X (compareOp .In) (J5 X.K false):=by
 intro f s m H x y v u Q I e i h;obtain⟨p,n,rfl,hq,g,fs,q⟩:=h;cases i;rcases hq with hq | hq
 . obtain⟨d,r,pl,j⟩:=I.list hq;refine SeqAt.in_listAt (aI x) pl.isList (fun w hw=>CL e g r fs w (by simpa using hw)) ⟨.bl _,H,I,rfl,?_⟩;rw[show d.toArray.any (aI x)=d.any (aI x) by simp,JL r fs];exact q
 . obtain⟨d,r,pl,j⟩:=I.tuple hq;refine SeqAt.in_tupleAt (aI x) pl (fun w hw=>CL e g r fs w (by simpa using hw)) ⟨.bl _,H,I,rfl,?_⟩;rw[show d.toArray.any (aI x)=d.any (aI x) by simp,JL r fs];exact q
theorem Lq:nc X (compareOp .NotIn) (J5 X.K true):=by
 intro f s m H x y v u Q I e i h;obtain⟨p,n,rfl,hq,g,fs,q⟩:=h;cases i;rcases hq with hq | hq
 . obtain⟨d,r,pl,j⟩:=I.list hq;refine SeqAt.notIn_listAt (aI x) pl.isList (fun w hw=>CL e g r fs w (by simpa using hw)) ⟨.bl _,H,I,rfl,?_⟩;rw[show d.toArray.any (aI x)=d.any (aI x) by simp,JL r fs];exact q
 . obtain⟨d,r,pl,j⟩:=I.tuple hq;refine SeqAt.notIn_tupleAt (aI x) pl (fun w hw=>CL e g r fs w (by simpa using hw)) ⟨.bl _,H,I,rfl,?_⟩;rw[show d.toArray.any (aI x)=d.any (aI x) by simp,JL r fs];exact q
theorem Tq:Zu X (.builtin "len") (fun i H Q=>∃p e,i=[.ref p]/\(m4 X.K H p e\/AG X.K H p e)/\Q (.int e.length) H):=by
 intro j s o H i x Q I r h;obtain⟨p,e,rfl,hq,q⟩:=h;obtain⟨u,rfl,m⟩:=lE r;cases m;have y:=GI;rcases hq with hq | hq
 . obtain⟨g,f,pl,n⟩:=I.list hq;have d:=f.length;exact Calls.call_len_list pl.isList (by simp![cG]<;>omega) ⟨.int e.length,H,I.tok _,⟨s.toks+1,by rw[cG,d]⟩,q⟩
 . obtain⟨g,f,pl,n⟩:=I.tuple hq;have d:=f.length;exact len_tuple pl (by simp![cG]<;>omega) ⟨.int e.length,H,I.tok _,⟨s.toks+1,by rw[cG,d]⟩,q⟩
theorem Uq:Zu X (.builtin "len") (fun d H Q=>∃z,d=[.str z]/\z.length<=sizeLine/\Q (.int z.length) H):=by intro e s f H d g Q I r h;obtain⟨z,rfl,i,q⟩:=h;obtain⟨u,rfl,t,rfl⟩:=lE r;have j:=GI;exact len_str nofun ⟨.int z.length,H,I.tok _,⟨_,rfl⟩,q⟩
theorem Zu.or{f:Nu}{r m:Ni V->Hp->VK->Prop}(h:Zu X f r)(h':Zu X f m):Zu X f (fun e H Q=>r e H Q\/m e H Q):=by
 intro d s g H e i Q I j q;rcases q with q | q
 . exact h d s g H e i Q I j q
 . exact h' d s g H e i Q I j q
theorem XU:Zu X (.type "list") (fun J H Q=>∃p g,J=[.ref p]/\(m4 X.K H p g\/AG X.K H p g)/\∀l,H l=none->Q (.ref l) (oB H l (.lst g))):=by
 intro m s M H J P Q I r h;obtain⟨p,g,rfl,hq,q⟩:=h;obtain⟨u,rfl,O⟩:=lE r;cases O;have B:∀(d:Ni Nu),mh g d->g.length<=sizeLine->∀(f:Ri)(j:Nat),(∀b L,s.heap.get? b=ε L->f.get? b=ε L)->
  f.get? s.heap.objs.size=ε { cls:=.type "list",dict:=none,data:=.seq d.toArray j,slots:=#[] }->EP X m M Q (.ref s.heap.objs.size) { s with heap:=f }:=fun d i x f j kp e=>
  ⟨.ref s.heap.objs.size,_,I.laid (t':=s.toks) kp (Ue _) (show Xo X.prog X.w _ f _ (.lst g)from⟨x,d,j,i,e⟩),rfl,q _ (I.hok.fresh (Ue _))⟩
 rcases hq with hq | hq
 . obtain⟨d,i,pl,x⟩:=I.list hq;have y:=i.length;obtain⟨o,C,F,n,hd⟩:=pl.isList;exact call_list_seq p (.inl rfl) C F hd (fun f j kp e=>B d i x f j kp e) (by simp![cG]<;>omega)
 . obtain⟨d,i,pl,x⟩:=I.tuple hq;have y:=i.length;obtain⟨o,C,F,n,hd⟩:=pl;exact call_list_seq p (.inr rfl) C F hd (fun f j kp e=>B d i x f j kp e) (by simp![cG]<;>omega)
def p6(K:Ou)(T:String)(x:V)(H:Hp):Prop:=match x with
 | .str _=>T = "str"
 | .int _=>T = "int"
 | .ref p=>(T = "list" /\ ∃e,m4 K H p e)\/(T = "tuple" /\ ∃o,K.lookup p=ε o/\o.cls=.type "tuple" /\ o.dict=none)\/
  (T = "dict" /\ ((∃d,H p=ε (.dK d))\/∃d,H p=ε (.dT d)))\/(T = "set" /\ ∃S n,H p=ε (.set S n))
 | _=>False
theorem h9{f:Ni (Oi×Obj)}{j:St}{H:Hp}{s:Oe}{T:String}{x:V}{v:Nu}(I:mf X f j H s)(r:mr x v)(g:p6 X.K T x H) :
 s.TypeIs v T/\∀a,v=.ref a->∃ob,s.heap.get? a=ε ob/\ob.dict=none:=by
 cases x with
 | str z=>obtain⟨t,rfl⟩:=r;cases (show T = "str" from g);exact⟨typeIs_str s z t,fun l e=>nomatch e⟩
 | int i=>obtain⟨t,rfl⟩:=r;cases (show T = "int" from g);exact⟨typeIs_int s i t,fun l e=>nomatch e⟩
 | ref p=>
  cases r;rcases g with⟨rfl,y,q⟩ | ⟨rfl,o,d,u,hd⟩ | ⟨rfl,d⟩ | ⟨rfl,S,n,d⟩
  . obtain⟨m,_,pl,_⟩:=I.list q;refine⟨pl.isList.typeIs,fun a e=>?_⟩;cases e;obtain⟨o,n,e,c,hd,_⟩:=pl;exact⟨o,e,hd⟩
  . refine⟨⟨o,I.kIn p o d,u⟩,fun a e=>?_⟩;cases e;exact⟨o,I.kIn _ o d,hd⟩
  . have z:∃o,s.heap.get? p=ε o/\o.ExactDict:=by
     rcases d with⟨h,d⟩ | ⟨h,d⟩
     . obtain⟨_,_,_,_,o,_,_,e,ex,_⟩:=I.hok p _ d;exact⟨o,e,ex⟩
     . obtain⟨_,_,_,_,o,_,_,e,ex,_⟩:=I.hok p _ d;exact⟨o,e,ex⟩
    obtain⟨o,e,ex⟩:=z;refine⟨⟨o,e,ex.1⟩,fun a e2=>?_⟩;cases e2;exact⟨o,e,ex.2.1⟩
  . obtain⟨o,_,_,_,e,ex,_⟩:=I.hok p _ d;refine⟨⟨o,e,ex.1⟩,fun a e2=>?_⟩;cases e2;exact⟨o,e,ex.2.1⟩
 | _=>exact Eu g
noncomputable def tBM(K:Ou)(T:String)(r:V->Ni V->Hp->VK->Prop)(B:TE)(t:TA):TE:=fun d H Q=>B d H fun x e=>p6 K T x e/\t d e fun f g=>r x f g Q
variable{o e:Oo}{g:Ni Oo}{B:TE}{t:TA}{name:Str}{m d:Pos}{T C:String}{r:V->Ni V->Hp->VK->Prop}
theorem oM (W:PlainAttrs T) (slot:Slot T name C) (u:typeOf (.builtin C)=pure (.type "method_descriptor")) (Z:A4 X C r) (Y:PE X o B) (ha:PA X (e::g) t)
 (n:attributeBase o name X.env (eval o X.env)=eval o X.env:=by rfl)
 (p:((backTo d (starEach (e::g) X.env)).all (fun x=>!x.1)&&(backToKw d (keywordEach [] X.env)).all (fun x=>x.1.isSome)
  && decide ((e::g).length+([]:Ni Keyword).length+(if([]:Ni Keyword).isEmpty then 0 else 1)<30))=true:=by rfl)
 (j:(m.endLine==d.line)=true:=by rfl) (hs:starEach (e::g) X.env=(false,eval e X.env)::starEach g X.env:=by rfl) (i:(backTo d (starEach g X.env)).any (·.1)=false:=by rfl) :
 PE X (.Call (.Attribute o name m) (e::g) [] d) (tBM X.K T r B t):=by
 intro f s q H Q I h;refine wpAny_Call_method_late n p j rfl (uB (Y f s q H _ I h) fun v S L=>?_);obtain⟨x,H1,J,y,P,q1⟩:=L;obtain⟨h1,h2⟩:=h9 J y P;refine⟨T,C,W,slot,u,h1,h2,?_⟩;have F:=ha d f S q H1 _ J q1;rw[hs]at F ⊢;refine Calls.callWith_builtin (by show(false || (backTo d (starEach g X.env)).any (·.1))=false;rw[i]<;>rfl) (Calls.evalArgs_plain ?_);exact uB F fun O R ⟨M,H2,I2,U,q2⟩=>Z f R q H2 x M v O Q I2 y U q2
end
def p4(X:Cx)(f:String)(r:V->Ni V->Hp->VK->Prop):Prop:=
 ∀(a:Ni (Oi×Obj))(s:Oe)(b:St)(H:Hp)(x:V)(d:Ni V)(v:Nu)(e:Ni Nu)(Q:VK),mf X a b H s->mr x v->mh d e->r x d H Q->
  wpAny (model X.prog X.w) X.A (call (.builtin f) (v::e)) (EP X a b Q) X.xe s
theorem mh.one:∀{x:V}{us:Ni Nu},mh [x] us->∃u,us=[u]/\mr x u
 | _,_,.cons r .nil=>⟨_,rfl,r⟩
theorem mh.zero:∀{us:Ni Nu},mh [] us->us=[]
 | _,.nil=>rfl
theorem mh.eraseIdx:∀{xs:Ni V}{us:Ni Nu}(i:Nat),mh xs us->mh (xs.eraseIdx i) (us.eraseIdx i)
 | _,_,_,.nil=>.nil
 | _,_,0,.cons _ t=>t
 | _,_,i+1,.cons r t=>.cons r (mh.eraseIdx i t)
theorem mh.reverse{xs:Ni V}{us:Ni Nu}(h:mh xs us):mh xs.reverse us.reverse:=by
 induction h with
 | nil=>exact .nil
 | cons r t ih=>rw[reverse_cons,reverse_cons];exact mh.append ih (.cons r .nil)
theorem mh.rep{xs:Ni V}{us:Ni Nu}(h:mh xs us):∀k:Nat,mh (List.replicate k xs).flatten (List.replicate k us).flatten
 | 0=>.nil
 | k+1=>by rw[Ks,Ks,flatten_cons,flatten_cons];exact mh.append h (mh.rep h k)
theorem tW{a:Type}:∀(l:Ni a)(i:Nat),(l.eraseIdx i).length<=l.length
 | [],_=>Ue _
 | _::_,0=>Nat.le_succ _
 | _::r,i+1=>Nat.succ_le_succ (tW r i)
theorem qW(its:Ni Nu):∀(k:Nat)(a:Ni Nu),
 List.foldl (fun d b=>d++b) a.toArray (List.replicate k its.toArray)=(a++(List.replicate k its).flatten).toArray
 | 0,a=>by simp
 | k+1,a=>by
  have e:a.toArray++its.toArray=(a++its).toArray:=by simp
  have e2:(a++its)++(List.replicate k its).flatten=a++(List.replicate (k+1) its).flatten:=by rw[Ks,flatten_cons,ou]
  rw[<- e2,<- qW its k (a++its),<- e,Ks,foldl_cons]
section
variable{X:Cx}{a:Ni (Oi×Obj)}{c:St}{H:Hp}{s:Oe}{l b:Oi}{xs ys zs:Ni V}
theorem mf.f6{its its':Ni Nu}{n:Nat}{f:Ra Nu->Ra Nu}{t':Nat}(I:mf X a c H s)(j:H l=ε (.lst xs))
 (e:s.heap.get? l=ε { cls:=.type "list",data:=.seq its.toArray n }) (h:f its.toArray=its'.toArray) (d:mh ys its') (hz:ys.length<=sizeLine) :
 mf X a c (oB H l (.lst ys)) { s with heap:=s.heap.update l (Obj.mapSeq f),toks:=t' }:=by
 have q:=PySem.IsL.update e f;rw[h]at q;refine I.write (x:=l) (e:=l) (by rw[j];exact trivial) (.inl rfl) (fun m u i g=>(wu s.heap (Obj.mapSeq f) (ni i)).trans g) ⟨_,q⟩ ?_;exact⟨hz,its',_,d,q⟩
theorem mf.gc{its:Ni Nu}{t':Nat}(I:mf X a c H s)(d:mh ys its)(hz:ys.length<=sizeLine) :
 mf X a c (oB H s.heap.objs.size (.lst ys)) { s with heap:=s.heap.push { cls:=.type "list",data:=.seq its.toArray },toks:=t' }:=
 I.laid (fun z z q=>cu _ q) (Ue _) ⟨hz,its,0,d,ji _ rfl⟩
theorem mf.fresh(I:mf X a c H s):H s.heap.objs.size=none:=I.hok.fresh (Ue _)
theorem mf.dr (I:mf X a c H s) (d:H l=ε (.lst xs)):xs.length<=sizeLine/\∃(its:Ni Nu) (n:Nat),mh xs its/\xs.length=its.length/\s.heap.get? l=ε { cls:=.type "list",data:=.seq its.toArray n }:=by obtain⟨z,its,n,r,e⟩:=I.hok l _ d;exact⟨z,its,n,r,r.length,e⟩
theorem WX{n:Nat}(h:n<=sizeLine):Builtin.List.listTooLong n=false:=by unfold Builtin.List.listTooLong;exact eH nofun
end
section
variable{X:Cx}
def jc:V->Ni V->Hp->VK->Prop:=fun x b H Q=>∃l a y,x=.ref l/\b=[y]/\H l=ε (.lst a)/\a.length<sizeLine/\Q .non (oB H l (.lst (a++[y])))
theorem fX:p4 X "list.append" jc:=by intro b s j H x o v p Q I f g h;obtain⟨l,m,y,rfl,rfl,d,B,q⟩:=h;cases f;obtain⟨u,rfl,i⟩:=g.one;obtain⟨z,a,n,r,C,e⟩:=I.dr d;refine call_meets F.slot_list_append ⟨_,e,rfl⟩ F.entry_list_append (F.args_list_append_2 _ _) (PySem.list_append l a.toArray n u (by rw[cG];omega)) ⟨e,?_⟩;refine⟨.non,_,I.f6 (its':=a++[u]) d e ⋯ (r.append (.cons i .nil)) ?_,rfl,q⟩;rw[iu,length_singleton];omega
def uc:V->Ni V->Hp->VK->Prop:=fun x d H Q=>∃l b a zs,x=.ref l/\d=[.ref b]/\H l=ε (.lst a)/\H b=ε (.lst zs)/\a.length+zs.length<=sizeLine/\Q .non (oB H l (.lst (a++zs)))
theorem Xy:p4 X "list.extend" uc:=by
 intro i s E H x M v O Q I m o h;obtain⟨l,b,L,zs,rfl,rfl,j,D,P,q⟩:=h;cases m;obtain⟨u,rfl,p⟩:=o.one;cases p;obtain⟨z,d,n,r,R,e⟩:=I.dr j;obtain⟨J,a,B,y,C,e2⟩:=I.dr D;have g:d.toArray.size+a.toArray.size<=sizeLine:=by rw[cG,cG];omega
 have f:¬(!d.toArray.isEmpty&&Builtin.List.listTooLong (d.toArray.size+a.toArray.size))=true:=by rw[WX g,Gu];exact Wk
 refine call_meets F.slot_list_extend ⟨_,e,rfl⟩ F.entry_list_extend (F.args_list_extend_2 _ _)
  (AutoSeq1.list_extend_list_list_0 l d.toArray n b a.toArray B f (by rw[cG];omega) nofun) ⟨e,e2,?_⟩
 refine⟨.non,_,I.f6 (its':=d++a) j e ⋯ (r.append y) ?_,rfl,q⟩;rw[iu];omega
def t7:V->Ni V->Hp->VK->Prop:=fun x b H Q=>∃l a i k y,x=.ref l/\b=[.int i]/\H l=ε (.lst a)/\-(2^63)<=i/\i<2^63/\seqIndex? i a.length=ε k/\a[k]?=ε y/\Q y (oB H l (.lst (a.eraseIdx k)))
theorem Zt:p4 X "list.pop" t7:=by
 intro d s J H x L v M Q I j m h;obtain⟨l,g,i,k,y,rfl,rfl,f,E,D,C,p,q⟩:=h;cases j;obtain⟨u,rfl,o⟩:=m.one;obtain⟨t,rfl⟩:=o;obtain⟨z,a,n,r,B,e⟩:=I.dr f;obtain⟨w,hw,b⟩:=r.get p;refine call_meets F.slot_list_pop ⟨_,e,rfl⟩ F.entry_list_pop (F.args_list_pop_2 _ _)
  (MeetsSeq.list_pop_at l a.toArray n i t k w (fitsIndex_both E D) (by rw[cG,<- B];exact C) (by rw[<- Array.getElem?_toList];exact hw) (by rw[cG];omega)) ⟨e,?_⟩
 refine⟨y,_,I.f6 (its':=a.eraseIdx k) f e ?_ (r.eraseIdx k) ?_,b,q⟩
 . show a.toArray.eraseIdxIfInBounds k=(a.eraseIdx k).toArray;rw[eraseIdxIfInBounds_toArray]
 . have:=tW g k;omega
def fU:R2:=fun x y H Q=>∃l k a,x=.ref l/\y=.int k/\H l=ε (.lst a)/\-(2^63)<=k/\k<2^63/\a.length*k.toNat<=sizeLine/\
 ∀p,H p=none->Q (.ref p) (oB H p (.lst (List.replicate k.toNat a).flatten))
theorem jm{a:Type}(xs:Ni a)(k:Nat):(List.replicate k xs).flatten.length=k*xs.length:=by
 induction k with
 | zero=>simp
 | succ k ih=>rw[Ks,flatten_cons,iu,ih,Nat.succ_mul,Nat.add_comm]
theorem YZ:nc X (binaryOp .Mult) fU:=by
 intro B s S H x y v u Q I J E h;obtain⟨l,k,W,rfl,rfl,M,P,O,C,q⟩:=h;cases J;obtain⟨t,rfl⟩:=E;obtain⟨z,b,n,r,L,e⟩:=I.dr M;have f:b.toArray.size*k.toNat<=sizeLine:=by rw[cG,<- L];exact C
 have i:¬b.toArray.size*k.toNat>(2^63-1)/8:=by
  have:(sizeLine:Nat)<=(2^63-1)/8:=by decide
  omega
 have g:¬(!Builtin.List.listFitsIndex k)=true:=by rw[fitsIndex_both P O];exact Wk
 have j:¬Builtin.List.listTooLong (b.toArray.size*k.toNat)=true:=by rw[WX f];exact Wk
 have d:List.foldl (fun p o=>p++o) #[] (List.replicate (if b.toArray.isEmpty=true then 0 else k.toNat) b.toArray)=(List.replicate k.toNat b).flatten.toArray:=by
  have R:∀m:Nat,List.foldl (fun p o=>p++o) #[] (List.replicate m b.toArray)=(List.replicate m b).flatten.toArray:=fun m=>by have:=qW b m [];rw[Wo]at this;exact this
  rw[R];cases b with
  | nil=>simp
  | cons a Y=>rw[dz ⋯]
 refine wpAny_binaryOp_repeat_ref (T := "list") (U := "int") (by decide) ⟨_,e,rfl⟩ (fun D=>typeIs_int D k t) noFill_list_mul F.fills_int_mul F.slot_int_rmul repeat_list F.slot_int_index.lookup
  (call_meets F.slot_int_rmul (typeIs_int s k t) F.entry_int_rmul (F.args_int_rmul_2 _ _) (int___rmul___int_list k t l b.toArray n)
   ⟨e,rfl,⟨_,e,rfl⟩,call_meets F.slot_list_mul ⟨_,e,rfl⟩ F.entry_list_mul (F.args_list_mul_2 _ _) (AutoListH.list___mul___list_int_3 l b.toArray n k t g i j) ⟨e,?_⟩⟩)
 rw[d];exact⟨.ref _,_,I.gc (t':=s.toks) (r.rep k.toNat) (by rw[jm,Nat.mul_comm];exact C),rfl,q _ I.fresh⟩
end
section
variable{prog:O4}{w:Pb}{A:Pu}{E:Nu->Oe->Prop}{s:Oe}
end
section
variable{X:Cx}
end
end L2
namespace Att
open PySem.W PySem.Calls
theorem Tj{P:Params}{h:Ri}:∀(ns:Ni Int)(vs:Ni Nu),WellAll P h vs (ns.map WData.int)->IntsAre vs ns:=by
 intro ns
 induction ns with
 | nil=>intro vs w;rw[Vu]at w;cases w;exact .nil
 | cons n ns ih=>
  intro vs w;rw[Ti]at w;cases w with
  | cons a b=>cases a;exact .cons _ _ (ih _ b)
theorem wk{l:OpenLaw}{n:Nat}(C:l.most=ε n){P:Params}{h:Ri}{args:Ni WData}{b:Ni Nu}
 (e:l.row.toRowW.claim.pre args=true) (m:WellAll P h b args) :
 ∃a p ns,b=[Value.ref a]/\args=[WData.list (ns.map WData.int)]/\h.get? a=ε { cls:=.type "list",data:=.seq p.toArray }/\IntsAre p ns/\ns.length<=n:=by
 have o:WShape.hasAll [] args [.list .int]=true:=(pre_splitW e).1;have s:l.pre.holds [] { args:=args }=true:=(pre_splitW e).2;obtain⟨d,r,rfl,F,E⟩:=hasAllW_cons o;obtain rfl:=hasAllW_nil E;obtain⟨H,rfl,D⟩:=hasW_list F;obtain⟨ns,rfl⟩:=items_int D;have f:ns.length<=n:=by
  unfold OpenLaw.pre at s;have j:(WTm.not (.lt (.lit (.int (n:Int))) (.len (.arg 0)))).holds [] { args:=[.list (ns.map .int)] }=true:=by have j:=(holds_andW s).1;rw[C]at j;exact j
  have i:=condW_of j (w_not (w_lt w_lit (w_len_list (w_arg rfl))));rw[mq]at i;refine Nat.le_of_not_lt fun q=>?_
  have y:(n:Int)<((ns.length:Nat):Int):=by omega
  first
   | (rw[eO y]at i;exact Du i (by decide))
   | (simp at i;omega)
 cases m with
 | cons x u=>
  cases u;cases x with
  | list B g=>exact⟨_,_,ns,rfl,rfl,B,Tj ns _ g,f⟩
theorem Pk(l:OpenLaw)(args:Ni WData):l.row.toRowW.claim.post args (.bool true) args=true:=
 postW_of (r:=l.row.toRowW) (X:=(true==true))
  (show WShape.has [] (.bool true) .bool=true by first | rfl | decide | simp[WShape.has,WShape.arms,WShape.armsAll])
  (show(WTm.eq .res (.lit (.bool true))).value [] { args:=args,res:=ε (.bool true),after:=args }=ε (.bool (true==true))from w_eq_bool (w_res rfl) w_lit) rfl
theorem im{l:OpenLaw}{n:Nat}{q:O4}{e:Ni Str}{L:(Str->Oa Nu)->Ri->Prop}{J:Pb->Ri->Prop}{d:DefRec}
 (Q:l.most=ε n) (C:d.params.defaults=[])
 (call:∀(w:Pb)(s₀ b:Oe)(mg x:Str->Oa Nu)(fa:Oi)(o:Obj)(u s h:Nu)(a:Oi)(vs:Ni Nu)(ns:Ni Int),
  Ground q e [] L w s₀ mg x b.heap->J w b.heap->
  b.heap.get? fa=ε o->o.data=.func (docDef d.name d.params d.body d.scope u s h)->b.heap.CodeRec s d.name->mg d.name=ε (.ref fa)->
  b.heap.get? a=ε { cls:=.type "list",data:=.seq vs.toArray }->IntsAre vs ns->ns.length<=n->b.gens=#[]->
  codeAny (model l.prog w) callerA (.call (.ref fa) ⟨[.ref a],[]⟩) (fun r p=>r=.ok (.ret (.bool true))/\OldK b.heap p.heap/\p.os=b.os/\AllBare p.gens) b) :
 WalkO q e L J l.row.toRowW d [] (fun f vs=>PySem.call f vs):=by
 intro w s₀ b mg x G Y fa o u s h dV kV P hd D H B T I E as i F M y S;obtain rfl:dV=.none:=Dflts.none H C;obtain rfl:kV=.none:=Dflts.noKw H;obtain⟨a,vs,ns,rfl,rfl,j,g,m⟩:=wk Q i y;refine enter_call (codeAny_mono (call w s₀ b mg x fa o u s h a vs ns G Y P (fd_plain hd) D B j g m T) fun r p O=>?_);obtain⟨rfl,Z,W,U⟩:=O;exact⟨.inl ⟨.bool true,.bool true,[],rfl,fun z=>rfl,.bool true,Pk l _,fun z=>⟨List.Pairwise.nil,fun z R=>(nomatch R)⟩⟩,Z,W,U⟩
section
variable{prog:O4}{w:Pb}{A:Pu}{E:Nu->Oe->Prop}{s:Oe}{K:Ou}
end
end Att
namespace L2
theorem BX:∀{vs:Ni Nu}{ns:Ni Int},IntsAre vs ns->mh (ns.map V.int) vs
 | _,_,.nil=>.nil
 | _,_,.cons n t h=>.cons ⟨t,rfl⟩ (BX h)
def JP(H:Hp):Prop:=∀b,H b=none\/∃o a,H b=ε (.frz o (.lst a))
theorem wg{P:O4}{w:Pb}{K:Ou}{mg Q:Str->Oa Nu}{CX:oK}{k:Nat}{fa a:Oi}{fd:FuncData}{x:Str}{sp:Sp}{s₁:Oe}{vs:Ni Nu}{ns:Ni Int}
 (KX:K.In s₁.heap) (E:s₁.heap.Ns mainGlobals mg) (f:s₁.heap.Ns builtinsNs Q) (T:∀x:Str,x ≠ "__name__" ->Q x=bootBuiltins x) (I:s₁.heap.NoLimit) (hg:s₁.gens=#[])
 (M:s₁.heap.get? a=ε { cls:=.type "list",data:=.seq vs.toArray }) (hi:IntsAre vs ns) (Z:ns.length<=sizeLine) (hr:Xe k callerA)
 (F:∀base:Ri,K.In base->base.Ns mainGlobals mg->ab P w K mg base CX k fa fd [x] sp) (p:∀(s:Oe)(u:Nu),BindsTo s fd ⟨[u],[]⟩ [(x,u)])
 (R:∀H:Hp,JP H->m4 K H a (ns.map V.int)->sp [.ref a] H (fun v _=>v=.bl true) fun _ _ _=>False)
 (U:∀H e g,CX [] H s₁ (fun _ _ _=>False) e g->False) :
 codeAny (model P w) callerA (.call (.ref fa) ⟨[.ref a],[]⟩) (fun r g=>r=.ok (.ret (.bool true))/\OldK s₁.heap g.heap/\g.os=s₁.os/\AllBare g.gens) s₁:=by
 have Y:=BX hi;have C:=hi.length;have j:∀H:Hp,JP H->m4 K H a (ns.map V.int)->ny P w H s₁.heap->(∀b,H b≠none->b=a)->(H a≠none->K.lookup a=none)->
  codeAny (model P w) callerA (.call (.ref fa) ⟨[.ref a],[]⟩) (fun r g=>r=.ok (.ret (.bool true))/\OldK s₁.heap g.heap/\g.os=s₁.os/\AllBare g.gens) s₁:=by
  intro H hO hS hok hA hK;have y:∀{b:Oi}{o:Obj},s₁.heap.get? b=ε o->H b=none->(FG s₁.heap H).get? b=ε o:=fun e n=>Ug e n
  have O:∀{b:Oi}{o:Obj}{L:Ra DictEntry}{ep:Nat},s₁.heap.get? b=ε o->o.data=.dict L ep->H b=none:=fun {b o L ep} e d=>by
   cases q:H b with
   | none=>rfl
   | some u=>have W:b=a:=hA b (by rw[q];simp);subst W;rw[M]at e;cases e;have d':Data.seq vs.toArray _=Data.dict L ep:=d;cases d'
  have i:∀{b:Oi}{m:Str->Oa Nu},s₁.heap.Ns b m->(FG s₁.heap H).Ns b m:=fun {b m} ⟨o,L,ep,e,d,r⟩=>⟨o,L,ep,y e (O e d),d,r⟩
  have J:K.In (FG s₁.heap H):=fun b o e=>y (KX b o e) (by
   cases q:H b with
   | none=>rfl
   | some u=>
    have W:b=a:=hA b (by rw[q];simp);subst W;rw[hK (by rw[q];simp)]at e;cases e)
  have hM:Mod K mg (FG s₁.heap H):=⟨J,i E,⟨Q,i f,T⟩,let ⟨mc,h1,h2⟩:=I;⟨mc,i h1,h2⟩⟩;have e0:cy P w K mg (FG s₁.heap H) callerA [] s₁ H:=⟨rfl,hM,fun b o e=>Nm e,Nat.le_of_eq (Vv _ _),trivial,fun b f=>Du (show b∈([]:Ni Oi)from f) ⋯,hok,.of_eq hg⟩;refine codeAny_mono ((F _ J (i E)).run callerA [] s₁ H ⟨[.ref a],[]⟩ [.ref a] [.ref a] _ _ hr e0 (p s₁ (.ref a)) (.cons rfl .nil) (R H hO hS)) fun r g h=>?_
  cases r with
  | error e=>exact(U H e g h).elim
  | ok fl=>
   cases fl with
   | next=>exact Eu h
   | brk=>exact Eu h
   | cont=>exact Eu h
   | ret u=>
    obtain⟨v,H',os,bare,un,D,r',q⟩:=h;have q':v=.bl true:=q;subst q';obtain rfl:u=Value.bool true:=r';refine⟨rfl,OldK.of_keep fun b o e=>?_,os,bare⟩;cases q:H b with
    | none=>exact un.keep b o e q (by intro z;exact Du (show b∈([]:Ni Oi)from z) ⋯) ⋯
    | some u=>
     rcases hO b with z | ⟨ob,xs,z⟩
     . rw[q]at z;cases z
     . have z2:=un.bg b ob _ z;obtain⟨e1,_⟩:=hok b _ z;obtain⟨e2,_⟩:=D b _ z2;rw[e]at e1;cases e1;exact e2
 cases S:K.lookup a with
 | some o=>have e:=KX a o S;rw[M]at e;cases e;refine j (fun _=>none) (fun _=>.inl rfl) (.inr ⟨_,vs.toArray,_,S,rfl,rfl,rfl,by rw[cG,C];exact Z,by simpa using Y⟩) (fun b u z=>by have B:(none:Oa HO)=ε u:=z;cases B) (fun b z=>Du rfl z) fun z=>Du rfl z
 | none=>
  refine j (fun b=>if b=a then ε (.frz { cls:=.type "list",data:=.seq vs.toArray } (.lst (ns.map V.int)))else none) (fun b=>?_) (.inl (.inr ⟨{ cls:=.type "list",data:=.seq vs.toArray },dh rfl⟩)) (fun b u z=>?_) (fun b z=>?_) fun _=>S
  . by_cases f:b=a
    . exact .inr ⟨_,_,dh f⟩
    . exact .inl (dz f)
  . by_cases f:b=a
    . have B:=(dh f).symm.trans z;cases B;subst f;exact⟨M,by rw[mq];exact Z,vs,_,Y,M⟩
    . have B:=(dz f).symm.trans z;cases B
  . by_cases f:b=a
    . exact f
    . exact Du (dz f) z
theorem io{l:PySem.W.OpenLaw}{n k:Nat}{q:O4}{g:Ni Str}{XP:(Str->Oa Nu)->Ri->Prop}{J:Pb->Ri->Prop}{d:DefRec}{K:Params->Ou}{CX:Pb->oK}{sp:Pb->Sp}{x:Str}
 (O:l.most=ε n) (y:n<=sizeLine) (C:d.params.defaults=[]) (M:Xe k callerA)
 (S:∀(w:Pb)(h:Ri),J w h->(K w.params).In h)
 (F:∀(w:Pb)(mg:Str->Oa Nu)(fa:Oi)(h:Ri),(K w.params).In h->h.Ns mainGlobals mg->mg d.name=ε (.ref fa)->
  ∃E:FuncData,(∀(s:Oe)(u:Nu),BindsTo s E ⟨[u],[]⟩ [(x,u)])/\
   ∀base:Ri,(K w.params).In base->base.Ns mainGlobals mg->ab l.prog w (K w.params) mg base (CX w) k fa E [x] (sp w))
 (r:∀(w:Pb)(H:Hp)(a:Oi)(ns:Ni Int),ns.length<=n->JP H->m4 (K w.params) H a (ns.map V.int)->sp w [.ref a] H (fun v z=>v=.bl true) fun z z z=>False)
 (D:∀(w:Pb)(H:Hp)(s:Oe)(e:Nu)(p:Oe),CX w [] H s (fun z z z=>False) e p->False) :
 PySem.W.WalkO q g XP J l.row.toRowW d [] (fun f I=>PySem.call f I):=by
 refine Att.im O C fun w s₀ j mg mb fa o pm cd Z a I ns G Y ho hd Q B m i b P=>?_
 have L:=S w _ Y;obtain⟨E,R,W⟩:=F w mg fa _ L G.T.g B;exact wg L G.T.g G.T.b G.T.builtins G.T.nolimit P m i (su b y) M W R (fun H U T=>r w H a ns b U T) fun H e p=>D w H j e p
noncomputable def KR(s:Pa)(j:Nat):Pa:=match s with
 | .ClassDef _ _ _ a _ _ _ _ _ _ _=>a.getD j (.Pass ⟨0,0,0,0⟩)
 | _=>.Pass ⟨0,0,0,0⟩
noncomputable def bE(s:Pa):Arguments:=match s with
 | .FunctionDef _ a _ _ _ _ _ _ _ _=>a
 | _=>{ posonlyargs:=[],args:=[],vararg:=none,kwonlyargs:=[],kw_defaults:=[],kwarg:=none,defaults:=[] }
noncomputable def CC(s:Pa):Ni Pa:=match s with
 | .FunctionDef _ _ b _ _ _ _ _ _ _=>b
 | _=>[]
noncomputable def jB(s:Pa):Scope:=match s with
 | .FunctionDef _ _ _ _ _ _ a _ _ _=>a
 | _=>{ kind:=.function,names:=[],isGenerator:=false,isCoroutine:=false }
noncomputable abbrev GF:oK:=fun _ _ _ _ _ _=>False
noncomputable abbrev E0:XK:=fun _ _ _=>False
theorem WS{X:Cx}:ZJ GF X E0:=fun q q q q q q q h=>h.elim
structure Fun(K:Frag)(x qual:Str)(st:Stmt)(f:Addr)(fd:FuncData):Prop where
 ex:∃(oc:Value)(od:Option Addr)(kV doc pm:Value)(an:Option Addr)(cdv ct:Value)(osl:Array (Option Value)),
  fd=fnOf x qual (bE st) (CC st) (jB st) .none kV doc pm an cdv ct/\K.lookup f=ε ⟨oc,od,.func fd,osl⟩/\PySem.W.codeIn K cdv qual=true
 kp:keepIn K (.ref f)=true
section
variable{P:O4}{w:Pb}{K:Ou}{b:Str->Oa Nu}{a:Ri}
theorem Fun.ok{x d:Str}{st:Pa}{f:Oi}{m:FuncData}{N ps:Ni Str}{k:Nat}{sp:Sp}(F:Fun K x d st f m)(S:Yi N ps (jB st))(len:∀vs H Q E,sp vs H Q E->vs.length=ps.length)
 (g:∀(e:Nu)(A:Pu)(outer:Ni Env)(s:Oe)(H:Hp)(vs:Ni V)(Q:VK)(E:XK),Xe k (A.deeper (envOfC d (jB st) s.heap.objs.size f e))->sp vs H Q E->
  ∃t,PSs (oE GF P w K b a N d (jB st) f e A outer s H E).nox (CC st) t/\t { nx:=fun z u=>Q .non u,rt:=Q } (gG N vs) H):ab P w K b a GF (k+1) f m ps sp:=by
 obtain⟨C,B,kV,r,y,D,e,ct,n,rfl,o,j⟩:=F.ex;refine Z0 o j S len fun A outer s H vs Q E p i=>?_
 obtain⟨t,h,q⟩:=g e A outer s H vs Q E p i;exact⟨t,h.nox,q⟩
theorem Fun.binds{x d:Str}{st:Pa}{f:Oi}{m:FuncData}{ps:Ni Str}(F:Fun K x d st f m)
 (h:∀(kV e i:Nu)(j:Oa Oi)(g ct:Nu)(us:Ni Nu),us.length=ps.length->bindArgs (fnOf x d (bE st) (CC st) (jB st) .none kV e i j g ct) ⟨us,[]⟩=pure (ps.zip us)):nb K m ps []:=by
 obtain⟨q,p,kV,e,i,j,g,ct,n,rfl,r,o⟩:=F.ex;exact .all (h kV e i j g ct)
theorem YO{x d:Str}{st:Pa}{f:Oi}{m:Nu}{od j:Oa Oi}{h:Ra (Oa Nu)}{kV g i e ct:Nu}(l:K.lookup f=ε ⟨m,od,.func (fnOf x d (bE st) (CC st) (jB st) .none kV g i j e ct),h⟩)
 (c:PySem.W.codeIn K e d=true) (k:keepIn K (.ref f)=true):Fun K x d st f (fnOf x d (bE st) (CC st) (jB st) .none kV g i j e ct):=⟨⟨m,od,kV,g,i,j,e,ct,h,rfl,l,c⟩,k⟩
end
section
variable{X:Cx}
end
theorem GG{A B:Prop}(h:B):if false=true then A else B:=by rw[dz Wk];exact h
theorem HG{A B:Prop}(h:A):if true=true then A else B:=by rw[dh rfl];exact h
def Same(H a:Hp):Prop:=∀b o,H b=ε o->a b=ε o
theorem Same.refl(H:Hp):Same H H:=fun q q h=>h
theorem Same.trans{H d H2:Hp}(a:Same H d)(b:Same d H2):Same H H2:=fun c o h=>b c o (a c o h)
theorem Same.free{H a:Hp}(e:Same H a){l:Oi}(h:a l=Option.none):H l=Option.none:=by
 cases q:H l with
 | none=>rfl
 | some o=>rw[e l o q]at h;cases h
open PySem.AutoSeq1 (wpAny_loadPart')
open PySem.SeqAt PySem.MeetsSeq PySem.MeetsSeq2 PySem.MeetsSeq3
theorem Ky(l b:Oi)(items a:Ra Nu)(n j:Nat)(q f:Oa Oi)(i e:Ra (Oa Nu))(o:items.size+a.size<=sizeLine) :
 Meets (Builtin.«list.__add__» ⟨[.ref l,.ref b],[]⟩) (fun z R s=>s.heap.get? l=ε { cls:=.type "list",dict:=q,data:=.seq items n,slots:=i }/\s.heap.get? b=ε { cls:=.type "list",dict:=f,data:=.seq a j,slots:=e }/\R (.ok (.ret (Value.ref s.heap.objs.size))) { s with heap:=s.heap.push { cls:=Value.type "list",data:=Data.seq (items++a) },toks:=s.toks }):=
 .of_wp fun prog w A R s h=>by obtain⟨u,g,d,r,os⟩:=s;obtain⟨m,p,h⟩:=h;have D:=AutoSeq1.idx_int;have C:=AutoSeq1.sub_tuple_tuple;have B:=AutoSeq1.sub_list_list;have y:=AutoSeq1.sub_tuple_list;have x:=AutoSeq1.sub_list_tuple;wp_walk using wpAny_loadPart' m,wpAny_loadPart' p;exact⟨_,rfl,h⟩
section
variable{X:Cx}
theorem sZ:nc X (binaryOp .Add) (fun x y H Q=>∃l b f zs,x=.ref l/\y=.ref b/\m4 X.K H l f/\m4 X.K H b zs/\f.length+zs.length<=sizeLine/\∀p,H p=none->Q (.ref p) (oB H p (.lst (f++zs)))):=by
 intro m s U H x y v u Q I M L h;obtain⟨l,b,f,zs,rfl,rfl,R,S,hz,q⟩:=h;cases M;cases L;obtain⟨d,r,⟨⟨c1,d1,Z,i⟩,n,e,J,E,D⟩,z⟩:=I.list R;obtain⟨a,j,⟨⟨c2,d2,Y,g⟩,O,e2,C,B,o⟩,W⟩:=I.list S;simp only at J E D C B o;subst J E D C B o;have hl:=r.length;have P:=j.length;refine concat_meets ⟨_,e,rfl⟩ ⟨_,e2,rfl⟩ noFill_list_add seq_list_add F.slot_list_add F.entry_list_add (F.args_list_add_2 _ _) (Ky l b d.toArray a.toArray n O none none i g (by rw[cG,cG];omega)) ⟨e,e2,?_⟩;have T:d.toArray++a.toArray=(d++a).toArray:=by simp
 rw[T];exact⟨.ref _,_,I.gc (t':=s.toks) (r.append j) (by rw[iu];omega),rfl,q _ I.fresh⟩
theorem XN{us:Ni Nu}{ns:Ni Int}(h:IntsAre us ns):∃a:Ra (Int×Tok),us.toArray=intItems a/\a.toList.map (·.1)=ns:=by obtain⟨a,e⟩:=h.allInts.items;refine⟨a,e,?_⟩;have e2:=h.numsOf;rw[<- nums_intItems,<- e];exact e2
theorem dw (n:X.calm=true):Zu X (.builtin "sum") (fun a H Q=>∃(p:Oi) (ns:Ni Int),a=[.ref p]/\m4 X.K H p (ns.map V.int)/\Q (.int ns.sum) H):=by
 intro b s o H a y Q I r h;obtain⟨p,ns,rfl,m,q⟩:=h;obtain⟨u,rfl,g⟩:=lE r;cases g;obtain⟨j,i,pl,C⟩:=I.list m;obtain⟨x,e,e2⟩:=XN (FJ i);have d:=pl.isList;rw[e]at d;refine sum_intListG (I.ok.hd n) d fun D B f k=>⟨.int ns.sum,H,I.kept k,⟨f,?_⟩,q⟩
 rw[preSum_eq,take_of_length_le ⋯,e2]
theorem Wv (E:X.calm=true):Zu X (.builtin "max") (fun g H Q=>∃(p:Oi) (ns:Ni Int),g=[.ref p]/\m4 X.K H p (ns.map V.int)/\ns ≠ []/\∀M,M∈ns->(∀a∈ns,a<=M)->Q (.int M) H):=by
 intro i s J H g L Q I r h;obtain⟨p,ns,rfl,C,f,q⟩:=h;obtain⟨u,rfl,o⟩:=lE r;cases o;obtain⟨y,x,pl,P⟩:=I.list C;obtain⟨b,e,e2⟩:=XN (FJ x);have m:=pl.isList;rw[e]at m;have d:0<b.size:=by
  rcases Nat.eq_zero_or_pos b.size with z | z
  . exfalso;apply f;rw[<- e2];have:b.toList=[]:=by apply eq_nil_of_length_eq_zero;simpa using z
    rw[this];rfl
  . exact z
 refine max_intList (I.ok.hd E) m d fun v S O B k=>?_
 obtain⟨t,rfl⟩:=intItems_at B;obtain⟨R,F⟩:=argBest_gt (numAt b) (b.size-1);refine⟨.int _,H,I.kept k,⟨t,rfl⟩,q _ ?_ fun a n=>?_⟩
 . rw[numAt_eq,<- e2];exact getD_mem (by rw[mq,za];omega)
 . rw[<- e2]at n;obtain⟨j,D,rfl⟩:=mem_getD n;rw[mq,za]at D;rw[<- numAt_eq];exact F j nofun
theorem Yv (E:X.calm=true):Zu X (.builtin "min") (fun g H Q=>∃(p:Oi) (ns:Ni Int),g=[.ref p]/\m4 X.K H p (ns.map V.int)/\ns ≠ []/\∀M,M∈ns->(∀a∈ns,M<=a)->Q (.int M) H):=by
 intro i s J H g L Q I r h;obtain⟨p,ns,rfl,C,f,q⟩:=h;obtain⟨u,rfl,o⟩:=lE r;cases o;obtain⟨y,x,pl,P⟩:=I.list C;obtain⟨b,e,e2⟩:=XN (FJ x);have m:=pl.isList;rw[e]at m;have d:0<b.size:=by
  rcases Nat.eq_zero_or_pos b.size with z | z
  . exfalso;apply f;rw[<- e2];have:b.toList=[]:=by apply eq_nil_of_length_eq_zero;simpa using z
    rw[this];rfl
  . exact z
 refine min_intList (I.ok.hd E) m d fun v S O B k=>?_
 obtain⟨t,rfl⟩:=intItems_at B;obtain⟨R,F⟩:=argBest_lt (numAt b) (b.size-1);refine⟨.int _,H,I.kept k,⟨t,rfl⟩,q _ ?_ fun a n=>?_⟩
 . rw[numAt_eq,<- e2];exact getD_mem (by rw[mq,za];omega)
 . rw[<- e2]at n;obtain⟨j,D,rfl⟩:=mem_getD n;rw[mq,za]at D;rw[<- numAt_eq];exact F j nofun
def TyD(K:Ou)(H:Hp)(x:V)(t:String):Prop:=match x with
 | .non=>t = "NoneType"
 | .bl _=>t = "bool"
 | .int _=>t = "int"
 | .str _=>t = "str"
 | .ref a=>(t = "list" /\ ∃b,m4 K H a b)\/(t = "tuple" /\ ∃b,AG K H a b)
 | _=>False
theorem Hh {T:String}:Zu X (.builtin "isinstance") (fun C H Q=>∃x t b,C=[x,.ty T]/\TyD X.K H x t/\PySem.W.kitOne X.K (.type t) (.type T)=ε b/\Q (.bl b) H):=by
 intro g s D H C J Q I r h;obtain⟨x,t,b,rfl,ty,e,q⟩:=h;obtain⟨u,L,rfl,f,F⟩:=pM r;cases F;have d:∀j,EP X g D Q (.bool b) { s with toks:=j }:=fun j=>⟨.bl b,H,I.tok j,rfl,q⟩
 cases x with
 | non=>cases (show t = "NoneType" from ty);cases f;exact PySem.W.kia_one PySem.W.kitx_none I.kIn Jo e (fun z=>nomatch z) d
 | bl y=>cases (show t = "bool" from ty);cases f;exact PySem.W.kia_one PySem.W.kitx_bool I.kIn Jo e (fun z=>nomatch z) d
 | int i=>cases (show t = "int" from ty);obtain⟨_,rfl⟩:=f;exact PySem.W.kia_one PySem.W.kitx_int I.kIn Jo e (fun z=>nomatch z) d
 | str y=>cases (show t = "str" from ty);obtain⟨_,rfl⟩:=f;exact PySem.W.kia_one PySem.W.kitx_str I.kIn Jo e (fun z=>nomatch z) d
 | ref a=>
  cases f;rcases ty with⟨rfl,E,sq⟩ | ⟨rfl,E,sq⟩
  . obtain⟨m,_,⟨o,n,B,p,_,_⟩,_⟩:=I.list sq;exact PySem.W.kia_one PySem.W.kitx_list I.kIn ⟨o,B,p⟩ e (fun z=>nomatch z) d
  . obtain⟨m,_,⟨o,B,p,_⟩,_⟩:=I.tuple sq;exact PySem.W.kia_one PySem.W.kitx_tuple I.kIn ⟨o,B,p⟩ e (fun z=>nomatch z) d
 | byt _=>exact Eu ty
 | flt _=>exact Eu ty
 | ty _=>exact Eu ty
end
open PySem.AutoSeq1 (wpAny_loadPart')
open PySem.SeqAt PySem.MeetsSeq PySem.MeetsSeq2 PySem.MeetsSeq3
theorem Fw(l b:Oi)(items a:Ra Nu)(n O:Nat)(U F:Oa Oi)(M B:Ra (Oa Nu))(e:Nat->Bool) :
 Meets (Builtin.«tuple.__ne__» ⟨[.ref l,.ref b],[]⟩)
  (fun A R s=>s.heap.get? l=ε { cls:=.type "tuple",dict:=U,data:=.seq items n,slots:=M }/\s.heap.get? b=ε { cls:=.type "tuple",dict:=F,data:=.seq a O,slots:=B }/\
   (∀j (L:j<items.size) (h2:j<a.size),EqAt A.in1 s items[j] a[j] (e j))/\
   R (.ok (.ret (.bool (!((List.range (min items.size a.size)).all e&&items.size==a.size))))) s):=
 .of_wp fun prog w A R s h=>by
  obtain⟨I,g,d,H,os⟩:=s;obtain⟨Q,T,S,h⟩:=h;have W:=AutoSeq1.sub_tuple_tuple;have J:(items.toList.zip a.toList).length=min items.size a.size:=by simp
  wp_walk using wpAny_loadPart' Q,wpAny_loadPart' T,wpAny_forIn_list _ (fun rest b C=>b.1=none/\C=⟨I,g,d,H,os⟩/\∃i,rest=(items.toList.zip a.toList).drop i/\
   R (.ok (.ret (.bool (!(((List.range (min items.size a.size)).drop i).all e&&items.size==a.size))))) ⟨I,g,d,H,os⟩) _
  case turn=>
   rintro⟨y,x⟩ rest b C ⟨p,rfl,i,m,f⟩;have r:i<(items.toList.zip a.toList).length:=by
    rcases Nat.lt_or_ge i (items.toList.zip a.toList).length with h' | h'
    . exact h'
    . rw[drop_of_length_le h']at m;cases m
   have D:i<min items.size a.size:=J ▸ r;have L:i<items.size:=jj D (Nat.min_le_left _ _);have h2:i<a.size:=jj D (Nat.min_le_right _ _);rw[zu r]at m;injection m with q o
   have u:y=items[i]:=by have:=congrArg Prod.fst q;simpa using this
   have P:x=a[i]:=by have:=congrArg Prod.snd q;simpa using this
   subst u P;have hd:(List.range (min items.size a.size)).drop i=i::(List.range (min items.size a.size)).drop (i+1):=by simp[zu,D]
   rw[hd,Ka]at f;refine ao (S i L h2 prog w _ _ ?_);cases u:e i with
   | true=>
    rw[u]at f
    wp_walk
    exact⟨rfl,rfl,i+1,o,by simpa only[Ge]using f⟩
   | false=>
    rw[u]at f
    wp_walk
    exact⟨_,rfl,by simpa only[Gs,uo]using f⟩
  case fin=>
   rintro⟨Z,Y⟩ C ⟨p,rfl,i,m,f⟩;simp only at p;subst p;have E:min items.size a.size<=i:=by
    rcases Nat.lt_or_ge i (items.toList.zip a.toList).length with h' | h'
    . rw[zu h']at m;cases m
    . exact J ▸ h'
   rw[drop_of_length_le (by simpa using E)]at f
   wp_walk
   exact⟨_,rfl,by simpa[Builtin.Tuple.tupleCompareSizes,bne]using f⟩
  case h=>exact⟨rfl,rfl,0,rfl,by simpa only[drop_zero]using h⟩
theorem Zy(l b:Oi)(items a:Ra Nu)(n E:Nat)(J B:Oa Oi)(D x:Ra (Oa Nu))(hsz:items.size=a.size)(e:Nat->Bool)(k:Nat) :
 ∀i:Nat,items.size-i=k->Meets (Builtin.«list.__eq__.loop» ⟨[.ref l,.ref b,rawInt i,rawInt 3],[]⟩)
  (fun A R s=>s.heap.get? l=ε { cls:=.type "list",dict:=J,data:=.seq items n,slots:=D }/\s.heap.get? b=ε { cls:=.type "list",dict:=B,data:=.seq a E,slots:=x }/\
   (∀j (L:j<items.size) (h2:j<a.size),EqAt A.in1 s items[j] a[j] (e j))/\
   R (.ok (.ret (.bool (!(((List.range items.size).drop i).all e))))) s):=by
 induction k with
 | zero=>
  intro i H prog w A R s h;obtain⟨F,g,d,C,os⟩:=s;obtain⟨q,r,y,h⟩:=h
  wp_walk using wpAny_loadPart' q,wpAny_loadPart' r
  have m:items[((i:Nat):Int).toNat]?=none:=by simp;omega
  have f:a[((i:Nat):Int).toNat]?=none:=by simp;omega
  have hd:(List.range items.size).drop i=[]:=by simp;omega
  rw[hd]at h;rw[m,f]
  wp_walk using wpAny_loadPart' q,wpAny_loadPart' r
  show R (.ok (.ret (.bool (items.size !=a.size)))) _;rw[hsz];simpa using h
 | succ k ih=>
  intro i H prog w A R s h;obtain⟨F,g,d,C,os⟩:=s;obtain⟨q,r,y,h⟩:=h
  wp_walk using wpAny_loadPart' q,wpAny_loadPart' r
  have p:i<items.size:=by omega
  have o:i<a.size:=by omega
  have m:items[((i:Nat):Int).toNat]?=ε items[i]:=by simp[p]
  have f:a[((i:Nat):Int).toNat]?=ε a[i]:=by simp[o]
  have hd:(List.range items.size).drop i=i::(List.range items.size).drop (i+1):=by simp[zu,p]
  have I:((i:Int)+1)=((i+1:Nat):Int):=by push_cast;rfl
  rw[hd,Ka]at h;rw[m,f];refine ao (y i p o prog w _ _ ?_);cases u:e i with
  | true=>
   rw[u]at h
   wp_walk
   rw[I];exact⟨plainId_quiet plain_eq_loop _,Ia entry_eq_loop (by
    rw[Hi plain_eq_loop _];exact ih (i+1) nofun prog w A R _ ⟨q,r,y,by simpa only[Ge]using h⟩)⟩
  | false=>
   rw[u]at h
   wp_walk using wpAny_loadPart' q,wpAny_loadPart' r
   rw[m,f]
   wp_walk
   simpa using h
theorem Ly(l b:Oi)(items a:Ra Nu)(n o:Nat)(r i:Oa Oi)(m f:Ra (Oa Nu))(hsz:items.size=a.size)(e:Nat->Bool) :
 Meets (Builtin.«list.__ne__» ⟨[.ref l,.ref b],[]⟩)
  (fun A R s=>s.heap.get? l=ε { cls:=.type "list",dict:=r,data:=.seq items n,slots:=m }/\s.heap.get? b=ε { cls:=.type "list",dict:=i,data:=.seq a o,slots:=f }/\
   (∀j (C:j<items.size) (h2:j<a.size),EqAt A.in1 s items[j] a[j] (e j))/\
   R (.ok (.ret (.bool (!((List.range items.size).all e))))) s):=by
 intro prog w A R s h;obtain⟨B,g,d,y,os⟩:=s;obtain⟨p,q,x,h⟩:=h;have D:=AutoSeq1.sub_list_list;have u:¬(items.size !=a.size)=true:=by simp[hsz]
 wp_walk using wpAny_loadPart' p,wpAny_loadPart' q
 exact⟨plainId_quiet plain_eq_loop _,Ia entry_eq_loop (by
  rw[Hi plain_eq_loop _];exact Zy l b items a n o r i m f hsz e _ 0 rfl prog w A R _ ⟨p,q,x,by simpa only[drop_zero]using h⟩)⟩
theorem cj(l b:Oi)(items a:Ra Nu)(n j:Nat)(q f:Oa Oi)(i e:Ra (Oa Nu))(o:(items.size !=a.size)=true) :
 Meets (Builtin.«list.__ne__» ⟨[.ref l,.ref b],[]⟩)
  (fun z R s=>s.heap.get? l=ε { cls:=.type "list",dict:=q,data:=.seq items n,slots:=i }/\s.heap.get? b=ε { cls:=.type "list",dict:=f,data:=.seq a j,slots:=e }/\
   R (.ok (.ret (.bool true))) s):=
 .of_wp fun prog w A R s h=>by
  obtain⟨u,g,d,r,os⟩:=s;obtain⟨m,p,h⟩:=h;have x:=AutoSeq1.sub_list_list
  wp_walk using wpAny_loadPart' m,wpAny_loadPart' p
  exact⟨_,rfl,h⟩
section
variable{prog:O4}{w:Pb}{A:Pu}{E:Nu->Oe->Prop}{s:Oe}{Q:Nu->Oe->Prop}
theorem cg{l b:Oi}{items a:Ra Nu}{e:Nat->Bool}(D:s.heap.IsTuple l items)(H:s.heap.IsTuple b a)(C:A.units<cLine)
 (he:∀j (L:j<items.size) (h2:j<a.size),EqAt A.in1 s items[j] a[j] (e j)) (h:Q (.bool (!((List.range (min items.size a.size)).all e&&items.size==a.size))) s):wpAny (model prog w) A (compareOp .NotEq (.ref l) (.ref b)) Q E s:=by
 obtain⟨⟨J,I,r,y⟩,p,q,n,hd⟩:=id D;obtain⟨⟨u,m,o,i⟩,d,g,B,f⟩:=id H;simp only at q hd g f;subst q hd g f;exact richCompare_meets_room (op:=.NotEq) ⟨_,p,rfl⟩ ⟨_,d,rfl⟩ F.slot_tuple_ne F.entry_tuple_ne (F.args_tuple_ne_2 _ _) (Fw l b items a n B I m y i e) ⟨p,d,he,⟨(fun x=>nomatch x),h⟩⟩ C
theorem jr{l b:Oi}{items a:Ra Nu}{e:Nat->Bool}(D:s.heap.IsList l items)(H:s.heap.IsList b a)(hsz:items.size=a.size)(C:A.units<cLine)
 (he:∀j (L:j<items.size) (h2:j<a.size),EqAt A.in1 s items[j] a[j] (e j)) (h:Q (.bool (!((List.range items.size).all e))) s):wpAny (model prog w) A (compareOp .NotEq (.ref l) (.ref b)) Q E s:=by
 obtain⟨⟨J,I,r,y⟩,p,q,n,hd⟩:=id D;obtain⟨⟨u,m,o,i⟩,d,g,B,f⟩:=id H;simp only at q hd g f;subst q hd g f;exact richCompare_meets_room (op:=.NotEq) ⟨_,p,rfl⟩ ⟨_,d,rfl⟩ F.slot_list_ne F.entry_list_ne (F.args_list_ne_2 _ _) (Ly l b items a n B I m y i hsz e) ⟨p,d,he,⟨(fun x=>nomatch x),h⟩⟩ C
theorem Nq{l b:Oi}{items a:Ra Nu}(B:s.heap.IsList l items)(C:s.heap.IsList b a)(hsz:(items.size !=a.size)=true)(y:A.units<cLine)
 (h:Q (.bool true) s):wpAny (model prog w) A (compareOp .NotEq (.ref l) (.ref b)) Q E s:=by
 obtain⟨⟨H,D,p,r⟩,m,o,n,hd⟩:=id B;obtain⟨⟨q,i,j,g⟩,d,f,u,e⟩:=id C;simp only at o hd f e;subst o hd f e;exact richCompare_meets_room (op:=.NotEq) ⟨_,m,rfl⟩ ⟨_,d,rfl⟩ F.slot_list_ne F.entry_list_ne (F.args_list_ne_2 _ _) (cj l b items a n u D i r g hsz) ⟨m,d,⟨(fun x=>nomatch x),h⟩⟩ y
end
end L2
namespace SM
inductive Dt where
 | non | bl (b:Bool) | int (i:Int) | str (x:Str) | tup (xs:List Dt) | lst (xs:List Dt) | ref (n:Nat) | ntp (xs:List Int)
inductive Ob where
 | lst (xs:List Dt)
 | ins (x:Str) (fs:List (Str×Dt))
 | dk (kvs:List (rB×Dt))
 | dt (kvs:List (List Int×Dt))
 | df (kvs:List (List Int×Dt))
noncomputable abbrev HI:=Ni Ob
noncomputable abbrev LI:=Ni (Oa Dt)
structure Rg where
 v:List Addr
 z:List Addr
def Rg.no(ρ:Rg)(a:Oi):Prop:=a∉ρ.v/\a∉ρ.z
noncomputable def Rg.add(ρ:Rg)(p:Oi):Rg:=⟨ρ.v++[p],ρ.z⟩
noncomputable def Rg.hide(ρ:Rg)(p:Oi):Rg:=⟨ρ.v,p::ρ.z⟩
noncomputable def Rg.nil:Rg:=⟨[],[]⟩
def nt(K:Ou)(H:Hp)(ρ:Rg)(a:Oi)(vs:Ni V):Prop:=
 (ρ.no a/\Rd H a (.tup vs))\/
  ∃(o:Obj) (b:Ra Nu) (n:Nat),K.lookup a=ε o/\o.cls=.type "tuple" /\ o.data=.seq b n/\b.size<=sizeLine/\mh vs b.toList
def nv(K:Ou)(H:Hp)(ρ:Rg)(a:Oi)(vs:Ni V):Prop:=
 (ρ.no a/\Rd H a (.lst vs))\/
  ∃(o:Obj) (b:Ra Nu) (n:Nat),K.lookup a=ε o/\o.cls=.type "list" /\ o.dict=none/\o.data=.seq b n/\b.size<=sizeLine/\mh vs b.toList
theorem nt.sq{K:Ou}{H:Hp}{ρ:Rg}{a:Oi}{vs:Ni V}(h:nt K H ρ a vs):AG K H a vs:=by
 rcases h with⟨_,h⟩ | h
 . exact .inl h
 . exact .inr h
theorem nv.sq{K:Ou}{H:Hp}{ρ:Rg}{a:Oi}{vs:Ni V}(h:nv K H ρ a vs):m4 K H a vs:=by
 rcases h with⟨_,h⟩ | h
 . exact .inl h
 . exact .inr h
mutual
noncomputable def Te(K:Ou)(H:Hp)(ρ:Rg):Dt->V->Prop
 | .non,v=>v=.non
 | .bl b,v=>v=.bl b
 | .int i,v=>v=.int i
 | .str x,v=>v=.str x
 | .tup xs,v=>∃a d,v=.ref a/\nt K H ρ a d/\Ru K H ρ xs d
 | .lst xs,v=>∃a d,v=.ref a/\nv K H ρ a d/\Ru K H ρ xs d
 | .ref n,v=>∃a,v=.ref a/\ρ.v[n]?=ε a
 | .ntp xs,v=>∃a,v=.ref a/\ρ.no a/\H a=ε (.tup (xs.map V.int))
noncomputable def Ru(K:Ou)(H:Hp)(ρ:Rg):Ni Dt->Ni V->Prop
 | [],vs=>vs=[]
 | x::xs,vs=>∃v r,vs=v::r/\Te K H ρ x v/\Ru K H ρ xs r
end
structure mo(ρ ρ':Rg)(H H':Hp):Prop where
 pre:∃e,ρ'.v=ρ.v++e/\∀a∈e,H a=none
 hid:ρ'.z=ρ.z
 keep:∀a o,H a=ε o->a∉ρ.v->H' a=ε o
 live:∀a,H' a=none->H a=none
 fz:∀a o u,H a=ε (.frz o u)->H' a=ε (.frz o u)
theorem mo.refl(ρ:Rg)(H:Hp):mo ρ ρ H H:=⟨⟨[],by simp,by simp⟩,rfl,fun q q h q=>h,fun q h=>h,fun q q q h=>h⟩
theorem mo.gz{ρ b:Rg}{H g:Hp}(x:mo ρ b H g){a:Oi}{o:HO}(h:H a=ε o)(n:a∉ρ.v):a∉b.v:=by
 obtain⟨e,f,d⟩:=x.pre;rw[f];intro hm;rcases Bo.mp hm with hm | hm
 . exact n hm
 . have:=d a hm;rw[h]at this;cases this
theorem mo.gf{ρ b:Rg}{H d:Hp}(x:mo ρ b H d){a:Oi}{o:HO}(h:H a=ε o)(n:ρ.no a):b.no a:=⟨x.gz h n.1,by rw[x.hid];exact n.2⟩
theorem mo.trans{ρ d b:Rg}{H f H2:Hp}(x:mo ρ d H f)(y:mo d b f H2):mo ρ b H H2:=by
 refine⟨?_,y.hid.trans x.hid,fun a o h n=>y.keep a o (x.keep a o h n) (x.gz h n),fun a h=>x.live a (y.live a h),fun a o u h=>y.fz a o u (x.fz a o u h)⟩;obtain⟨e,q1,i⟩:=x.pre;obtain⟨j,q2,g⟩:=y.pre;refine⟨e++j,by rw[q2,q1,ou],fun a ha=>?_⟩;rcases Bo.mp ha with ha | ha
 . exact i a ha
 . exact x.live a (g a ha)
theorem mo.get{ρ b:Rg}{H f:Hp}(x:mo ρ b H f){n:Nat}{a:Oi}(h:ρ.v[n]?=ε a):b.v[n]?=ε a:=by obtain⟨e,d,_⟩:=x.pre;have:=(Wi h).1;rw[d,Xa this];exact h
theorem mo.fresh{ρ:Rg}{H:Hp}{p:Oi}{o:HO}(h:H p=none):mo ρ ρ H (oB H p o):=by
 refine⟨⟨[],by simp,by simp⟩,rfl,fun a u e q=>?_,fun a e=>?_,fun a o u e=>by rw[XA (MC e h)];exact e⟩
 . rw[XA (MC e h)];exact e
 . by_cases b:a=p
   . subst b;exact h
   . rw[XA b]at e;exact e
theorem mo.own{ρ:Rg}{H:Hp}{p:Oi}{o:HO}(h:H p=none):mo ρ (ρ.add p) H (oB H p o):=by refine⟨⟨[p],rfl,fun a b=>?_⟩,rfl,(mo.fresh (ρ:=ρ) h).keep,(mo.fresh (ρ:=ρ) h).live,(mo.fresh (ρ:=ρ) h).fz⟩;rw[Ao.mp b];exact h
def vT(H:Hp)(a:Oi):Prop:=∀o u,H a≠ε (.frz o u)
theorem sH{H:Hp}{a:Oi}{vs:Ni V}(h:H a=ε (.lst vs)):vT H a:=fun q q e=>by rw[h]at e;cases e
theorem mo.write{ρ:Rg}{H:Hp}{a:Oi}{o:HO}(g:a∈ρ.v)(f:vT H a):mo ρ ρ H (oB H a o):=by
 refine⟨⟨[],by simp,by simp⟩,rfl,fun b u e n=>?_,fun b e=>?_,fun b q u e=>by rw[XA (fun z:b=a=>f q u (by rw[<- z];exact e))];exact e⟩
 . rw[XA (fun z=>n (by rw[z];exact g))];exact e
 . by_cases d:b=a
   . subst d;rw[fC]at e;cases e
   . rw[XA d]at e;exact e
structure am(ρ ρ':Rg)(H H':Hp):Prop where
 no:∀a u,H a=ε u->ρ.no a->ρ'.no a
 eq:∀a u,H a=ε u->ρ.no a->H' a=ε u
 ix:∀(n:Nat) a,ρ.v[n]?=ε a->ρ'.v[n]?=ε a
 fz:∀a o u,H a=ε (.frz o u)->H' a=ε (.frz o u)
theorem mo.same{ρ a:Rg}{H H':Hp}(x:mo ρ a H H'):am ρ a H H':=⟨fun q q e n=>x.gf e n,fun q q e n=>x.keep _ _ e n.1,fun q q e=>x.get e,x.fz⟩
theorem am.trans{ρ d b:Rg}{H f H2:Hp}(x:am ρ d H f)(y:am d b f H2):am ρ b H H2:=
 ⟨fun a u e n=>y.no a u (x.eq a u e n) (x.no a u e n),fun a u e n=>y.eq a u (x.eq a u e n) (x.no a u e n),fun n a e=>y.ix n a (x.ix n a e),fun a o u e=>y.fz a o u (x.fz a o u e)⟩
theorem nt.same{K:Ou}{ρ b:Rg}{H d:Hp}(x:am ρ b H d){a:Oi}{vs:Ni V}(h:nt K H ρ a vs):nt K d b a vs:=by
 rcases h with⟨n,t | ⟨y,t⟩⟩ | t
 . exact .inl ⟨x.no _ _ t n,.inl (x.eq _ _ t n)⟩
 . exact .inl ⟨x.no _ _ t n,.inr ⟨y,x.eq _ _ t n⟩⟩
 . exact .inr t
theorem nv.same{K:Ou}{ρ b:Rg}{H d:Hp}(x:am ρ b H d){a:Oi}{vs:Ni V}(h:nv K H ρ a vs):nv K d b a vs:=by
 rcases h with⟨n,t | ⟨y,t⟩⟩ | t
 . exact .inl ⟨x.no _ _ t n,.inl (x.eq _ _ t n)⟩
 . exact .inl ⟨x.no _ _ t n,.inr ⟨y,x.eq _ _ t n⟩⟩
 . exact .inr t
mutual
theorem Te.same{K:Ou}{ρ b:Rg}{H g:Hp}(x:am ρ b H g):∀(d:Dt){v:V},Te K H ρ d v->Te K g b d v
 | .non,_,h=>by simp![Te]at h ⊢;exact h
 | .bl _,_,h=>by simp![Te]at h ⊢;exact h
 | .int _,_,h=>by simp![Te]at h ⊢;exact h
 | .str _,_,h=>by simp![Te]at h ⊢;exact h
 | .tup xs,_,h=>by simp![Te]at h ⊢;obtain⟨a,f,e,t,r⟩:=h;exact⟨a,f,e,t.same x,Ru.same x xs r⟩
 | .lst xs,_,h=>by simp![Te]at h ⊢;obtain⟨a,f,e,t,r⟩:=h;exact⟨a,f,e,t.same x,Ru.same x xs r⟩
 | .ref _,_,h=>by simp![Te]at h ⊢;obtain⟨a,e,t⟩:=h;exact⟨a,e,x.ix _ _ t⟩
 | .ntp _,_,h=>by simp![Te]at h ⊢;obtain⟨a,e,n,t⟩:=h;exact⟨a,e,x.no _ _ t n,x.eq _ _ t n⟩
theorem Ru.same{K:Ou}{ρ a:Rg}{H b:Hp}(x:am ρ a H b):∀(ds:Ni Dt){vs:Ni V},Ru K H ρ ds vs->Ru K b a ds vs
 | [],_,h=>by simp![Ru]at h ⊢;exact h
 | d::ds,_,h=>by simp![Ru]at h ⊢;obtain⟨v,r,e,g,f⟩:=h;exact⟨v,r,e,Te.same x d g,Ru.same x ds f⟩
end
theorem Te.ext{K:Ou}{ρ a:Rg}{H b:Hp}(x:mo ρ a H b)(d:Dt){v:V}(h:Te K H ρ d v):Te K b a d v:=Te.same x.same d h
theorem Ru.ext{K:Ou}{ρ a:Rg}{H b:Hp}{ds:Ni Dt}{vs:Ni V}(h:Ru K H ρ ds vs)(x:mo ρ a H b):Ru K b a ds vs:=Ru.same x.same ds h
section
variable{K:Ou}{H:Hp}{ρ:Rg}
theorem Ru.nil:Ru K H ρ [] []:=by simp![Ru]
theorem Ru.cons{d:Dt}{v:V}{ds:Ni Dt}{vs:Ni V}(h:Te K H ρ d v)(r:Ru K H ρ ds vs):Ru K H ρ (d::ds) (v::vs):=by simp![Ru];exact⟨v,vs,rfl,h,r⟩
theorem Ru.Ys{d:Dt}{ds:Ni Dt}{vs:Ni V}(h:Ru K H ρ (d::ds) vs):∃v r,vs=v::r/\Te K H ρ d v/\Ru K H ρ ds r:=by simpa only[Ru]using h
theorem Ru.ar{vs:Ni V}(h:Ru K H ρ [] vs):vs=[]:=by simpa only[Ru]using h
theorem Ru.length:∀{ds:Ni Dt}{vs:Ni V},Ru K H ρ ds vs->vs.length=ds.length
 | [],_,h=>by rw[h.ar];rfl
 | d::ds,_,h=>by obtain⟨v,r,rfl,_,a⟩:=h.Ys;rw[Ss,Ss,Ru.length a]
theorem Ru.get:∀{ds:Ni Dt}{vs:Ni V}{i:Nat}{d:Dt},Ru K H ρ ds vs->ds[i]?=ε d->∃v,vs[i]?=ε v/\Te K H ρ d v
 | [],_,_,_,_,e=>by simp at e
 | d::ds,_,0,_,h,e=>by obtain⟨v,r,rfl,b,_⟩:=h.Ys;simp at e;subst e;exact⟨v,rfl,b⟩
 | d::ds,_,i+1,d',h,e=>by obtain⟨v,r,rfl,_,a⟩:=h.Ys;obtain⟨u,q1,q2⟩:=Ru.get (i:=i) a (by simpa using e);exact⟨u,by simpa using q1,q2⟩
theorem Ru.append:∀{ds a:Ni Dt}{vs us:Ni V},Ru K H ρ ds vs->Ru K H ρ a us->Ru K H ρ (ds++a) (vs++us)
 | [],_,_,_,h,h'=>by rw[h.ar];exact h'
 | d::ds,_,_,_,h,h'=>by obtain⟨v,r,rfl,e,b⟩:=h.Ys;exact .cons e (Ru.append b h')
theorem Ru.set:∀{ds:Ni Dt}{vs:Ni V}{d:Dt}{v:V}(i:Nat),Ru K H ρ ds vs->Te K H ρ d v->Ru K H ρ (ds.set i d) (vs.set i v)
 | [],_,_,_,_,h,_=>by rw[h.ar];exact .nil
 | d::ds,_,_,_,0,h,q=>by obtain⟨v,r,rfl,b,a⟩:=h.Ys;exact .cons q a
 | d::ds,_,_,_,i+1,h,q=>by obtain⟨v,r,rfl,b,a⟩:=h.Ys;exact .cons b (Ru.set i a q)
theorem Ru.take:∀{ds:Ni Dt}{vs:Ni V}(n:Nat),Ru K H ρ ds vs->Ru K H ρ (ds.take n) (vs.take n)
 | [],_,n,h=>by rw[h.ar];simp;exact .nil
 | d::ds,_,0,h=>.nil
 | d::ds,_,n+1,h=>by obtain⟨v,r,rfl,b,a⟩:=h.Ys;exact .cons b (Ru.take n a)
theorem Ru.drop:∀{ds:Ni Dt}{vs:Ni V}(n:Nat),Ru K H ρ ds vs->Ru K H ρ (ds.drop n) (vs.drop n)
 | [],_,n,h=>by rw[h.ar];simp;exact .nil
 | d::ds,_,0,h=>h
 | d::ds,_,n+1,h=>by obtain⟨v,r,rfl,b,a⟩:=h.Ys;exact Ru.drop n a
theorem Ru.ints(ns:Ni Int):Ru K H ρ (ns.map Dt.int) (ns.map V.int):=by
 induction ns with
 | nil=>exact .nil
 | cons n ns ih=>exact .cons (by simp![Te]) ih
theorem Ru.bu:∀{ns:Ni Int}{vs:Ni V},Ru K H ρ (ns.map Dt.int) vs->vs=ns.map V.int
 | [],_,h=>h.ar
 | n::ns,_,h=>by obtain⟨v,r,rfl,a,b⟩:=Ru.Ys h;simp![Te]at a;rw[a,Ru.bu b];rfl
theorem Ws{i:Int}{v:V}:Te K H ρ (.int i) v↔v=.int i:=by simp![Te]
theorem Yo{i:Bool}{v:V}:Te K H ρ (.bl i) v↔v=.bl i:=by simp![Te]
theorem bv{i:Str}{v:V}:Te K H ρ (.str i) v↔v=.str i:=by simp![Te]
theorem bp{v:V}:Te K H ρ .non v↔v=.non:=by simp![Te]
theorem ai{xs:Ni Dt}{v:V}:Te K H ρ (.tup xs) v↔∃a vs,v=.ref a/\nt K H ρ a vs/\Ru K H ρ xs vs:=by simp![Te]
theorem bn{xs:Ni Dt}{v:V}:Te K H ρ (.lst xs) v↔∃a vs,v=.ref a/\nv K H ρ a vs/\Ru K H ρ xs vs:=by simp![Te]
theorem cz{xs:Ni Int}{v:V}:Te K H ρ (.ntp xs) v↔∃a,v=.ref a/\ρ.no a/\H a=ε (.tup (xs.map V.int)):=by simp![Te]
theorem Zi{n:Nat}{v:V}:Te K H ρ (.ref n) v↔∃a,v=.ref a/\ρ.v[n]?=ε a:=by simp![Te]
end
def bq(K:Ou)(H:Hp)(ρ:Rg)(a:Oi):Ob->Prop
 | .lst e=>∃b,H a=ε (.lst b)/\Ru K H ρ e b
 | .ins x fs=>∃C f b,nsIn K mainGlobals x=ε (ε (.ref C))/\H a=ε (.ins C f b)/\fs.map (·.1)=b.map (·.1)/\Ru K H ρ (fs.map (·.2)) (b.map (·.2))
 | .dk d=>∃b,H a=ε (.dK b)/\d.map (·.1)=b.map (·.1)/\Ru K H ρ (d.map (·.2)) (b.map (·.2))
 | .dt d=>∃b:Ni (Ni rB×V),H a=ε (.dT b)/\b.map (·.1)=d.map (fun p=>p.1.map Sum.inl)/\Ru K H ρ (d.map (·.2)) (b.map (·.2))
 | .df d=>∃(o:Obj)(b:Ni (Ni rB×V)),H a=ε (.frz o (.dT b))/\b.map (·.1)=d.map (fun p=>p.1.map Sum.inl)/\Ru K H ρ (d.map (·.2)) (b.map (·.2))
structure Us(K:Frag)(ρ:Rg)(h:HI)(H:Hp):Prop where
 nd:ρ.v.Nodup
 len:ρ.v.length=h.length
 ob:∀(n:Nat) a o,ρ.v[n]?=ε a->h[n]?=ε o->bq K H ρ a o
 zt:∀a∈ρ.z,a∉ρ.v/\∃vs,H a=ε (.lst vs)
theorem bq.ext{K:Ou}{H m:Hp}{ρ i:Rg}{a:Oi}{o:Ob}(x:mo ρ i H m)(e:m a=H a)(h:bq K H ρ a o):bq K m i a o:=by
 cases o with
 | lst q=>obtain⟨b,f,d⟩:=h;exact⟨b,e.trans f,d.ext x⟩
 | ins y fs=>obtain⟨C,p,b,n,f,d,g⟩:=h;exact⟨C,p,b,n,e.trans f,d,g.ext x⟩
 | dk j=>obtain⟨b,f,d,g⟩:=h;exact⟨b,e.trans f,d,g.ext x⟩
 | dt j=>obtain⟨b,f,d,g⟩:=h;exact⟨b,e.trans f,d,g.ext x⟩
 | df j=>obtain⟨o,b,f,d,g⟩:=h;exact⟨o,b,e.trans f,d,g.ext x⟩
theorem bq.some{K:Ou}{H:Hp}{ρ:Rg}{a:Oi}{o:Ob}(h:bq K H ρ a o):∃u,H a=ε u:=by
 cases o with
 | lst f=>obtain⟨e,b,_⟩:=h;exact⟨_,b⟩
 | ins y fs=>obtain⟨C,g,e,_,b,_⟩:=h;exact⟨_,b⟩
 | dk d=>obtain⟨e,b,_⟩:=h;exact⟨_,b⟩
 | dt d=>obtain⟨e,b,_⟩:=h;exact⟨_,b⟩
 | df d=>obtain⟨o,e,b,_⟩:=h;exact⟨_,b⟩
section
variable{K:Ou}{H H':Hp}{ρ:Rg}{h:HI}
theorem Us.nil:Us K .nil [] H:=⟨nodup_nil,rfl,fun q q q e=>by simp[Rg.nil]at e,fun q h=>nomatch h⟩
theorem Us.tracked(S:Us K ρ h H){a:Oi}(e:a∈ρ.v):∃u,H a=ε u:=by
 obtain⟨n,b⟩:=mem_iff_getElem?.mp e;have d:n<h.length:=by rw[<- S.len];exact(Wi b).1
 exact(S.ob n a _ b (je d)).some
theorem Us.out(S:Us K ρ h H){p:Oi}(b:H p=none):ρ.no p:=by
 refine⟨fun a=>?_,fun a=>?_⟩
 . obtain⟨u,e⟩:=S.tracked a;rw[b]at e;cases e
 . obtain⟨_,u,e⟩:=S.zt p a;rw[b]at e;cases e
theorem Us.fresh(S:Us K ρ h H){p:Oi}{o:HO}(b:H p=none):Us K ρ h (oB H p o):=
 ⟨S.nd,S.len,fun n a u d e2=>(S.ob n a u d e2).ext (mo.fresh b) (XA (fun z=>(S.out b).1 (z ▸ ju d))),fun a f=>by
  obtain⟨n,u,e⟩:=S.zt a f;exact⟨n,u,by rw[XA (MC e b)];exact e⟩⟩
theorem Us.own(S:Us K ρ h H){p:Oi}{o:HO}{u:Ob}(f:H p=none)(q:bq K (oB H p o) (ρ.add p) p u):Us K (ρ.add p) (h++[u]) (oB H p o):=by
 refine⟨?_,by simp![Rg.add];rw[iu,iu,S.len];rfl,fun n a ob d e2=>?_,fun a j=>?_⟩
 . simp![Rg.add];rw[nodup_append];refine⟨S.nd,Li.mpr ⟨by simp,nodup_nil⟩,fun a j b r=>?_⟩;rw[Ao.mp r];intro z;exact(S.out f).1 (z ▸ j)
 . simp![Rg.add]at d;by_cases i:n<h.length
   . rw[Xa i]at e2;rw[Xa (by rw[S.len];exact i)]at d;exact(S.ob n a ob d e2).ext (mo.own f) (XA (fun z=>(S.out f).1 (z ▸ ju d)))
   . have g:h.length<=n:=Iu.mp i;rw[Zo g]at e2;rw[Zo (by rw[S.len];exact g),S.len]at d;cases m:n-h.length with
     | zero=>rw[m]at d e2;simp at d e2;subst d e2;exact q
     | succ k=>rw[m]at e2;simp at e2
 . obtain⟨n,u,e⟩:=S.zt a j;refine⟨fun hm=>?_,u,by rw[XA (MC e f)];exact e⟩;simp![Rg.add]at hm;rcases Bo.mp hm with hm | hm
   . exact n hm
   . rw[Ao.mp hm,f]at e;cases e
theorem Us.write(S:Us K ρ h H){n:Nat}{p:Oi}{o:HO}{u:Ob}(b:ρ.v[n]?=ε p)(g:vT H p)(i:bq K (oB H p o) ρ p u):Us K ρ (h.set n u) (oB H p o):=by
 refine⟨S.nd,by rw[Ke];exact S.len,fun m a ob d e2=>?_,fun a q=>?_⟩
 . by_cases f:m=n
   . subst f;rw[b]at d;cases d;have j:m<h.length:=by rw[<- S.len];exact(Wi b).1
     rw[tu j]at e2;cases e2;exact i
   . rw[lu (ni f)]at e2;refine(S.ob m a ob d e2).ext (mo.write (ju b) g) (XA fun z=>f ?_);subst z;obtain⟨s,q1⟩:=Wi d;obtain⟨r,q2⟩:=Wi b;exact(getElem_inj S.nd).mp (q1.trans q2.symm)
 . obtain⟨m,w,e⟩:=S.zt a q;exact⟨m,w,by rw[XA (fun z=>m (by rw[z];exact ju b))];exact e⟩
theorem Us.lst(S:Us K ρ h H){n:Nat}{a:Oi}{xs:Ni Dt}(b:ρ.v[n]?=ε a)(e:h[n]?=ε (.lst xs)):∃vs,H a=ε (.lst vs)/\Ru K H ρ xs vs:=S.ob n a _ b e
end
structure Xu(K:Frag)(H:Hp)(ρ:Rg)(l:LI)(σ:L2.St):Prop where
 len:l.length=σ.length
 val:∀(i:Nat) d,l[i]?=ε (ε d)->∃v,σ[i]?=ε (ε v)/\Te K H ρ d v
theorem Xu.ext{K:Ou}{H b:Hp}{ρ a:Rg}{l:LI}{σ:L2.St}(L:Xu K H ρ l σ)(x:mo ρ a H b):Xu K b a l σ:=
 ⟨L.len,fun i d e=>let ⟨v,e1,r⟩:=L.val i d e;⟨v,e1,Te.ext x d r⟩⟩
theorem Xu.set{K:Ou}{H:Hp}{ρ:Rg}{l:LI}{b:L2.St}(L:Xu K H ρ l b){d:Dt}{v:V}(i:Nat)(r:Te K H ρ d v):Xu K H ρ (l.set i (ε d)) (b.set i (ε v)):=by
 refine⟨by rw[Ke,Ke];exact L.len,fun j g e=>?_⟩;by_cases a:j=i
 . subst a;have f:j<l.length:=by have:=(Wi e).1;rwa[Ke]at this
   rw[tu f]at e;cases e;exact⟨v,tu (by rw[<- L.len];exact f),r⟩
 . rw[lu (ni a)]at e;rw[lu (ni a)];exact L.val j g e
abbrev RE:=LI->HI->Oa (Dt×HI)
abbrev RT:=LI->HI->Oa (Bool×HI)
abbrev RA:=LI->HI->Oa (Ni Dt×HI)
inductive Rs where
 | nx (l:LI) (h:HI) | rt (d:Dt) (h:HI) | bk (l:LI) (h:HI) | ct (l:LI) (h:HI)
abbrev RS:=LI->HI->Oa Rs
abbrev sD:=Dt->Dt->HI->Oa (Dt×HI)
abbrev sB:=Ni Dt->HI->Oa (Dt×HI)
noncomputable def lB:Oo->Bool
 | .Starred _ _=>false
 | _=>true
theorem bB{e:Oo}(h:lB e=true)(a:Ni Oo)(env:Env):starEach (e::a) env=(false,eval e env)::starEach a env:=by cases e<;>first | rfl | (exact Du h Wk)
theorem MH{pos:Pos}{env:Env}:∀{a:Ni Oo},a.all lB=true->(backTo pos (starEach a env)).any (·.1)=false
 | [],_=>rfl
 | e::a,h=>by rw[Ka,vm]at h;have ih:=MH (pos:=pos) (env:=env) h.2;rw[bB h.1];unfold backTo at ih ⊢;simp![Ti,Ju,Bool.false_or];exact ih
theorem HL{pos:Pos}{env:Env}{b:Oo}(h:lB b=true):((backTo pos (starEach [b] env)).all (fun x=>!x.1)&&(backToKw pos (keywordEach [] env)).all (fun x=>x.1.isSome)
 && decide ([b].length+([]:Ni Keyword).length+(if([]:Ni Keyword).isEmpty then 0 else 1)<30))=true:=by
 rw[bB h];rfl
def Out(K:Ou)(ρ:Rg)(H:Hp)(d:Dt)(h':HI)(Q:VK):Prop:=
 ∀a v b,Te K b a d v->Us K a h' b->mo ρ a H b->Q v b
def du(K:Ou)(ρ:Rg)(H:Hp)(h':HI)(Q:Hp->Prop):Prop:=
 ∀a b,Us K a h' b->mo ρ a H b->Q b
inductive tM(K:Frag)(f:RE)(σ:L2.St)(H:Hp)(Q:VK):Prop where
 | mk (ρ:Rg) (l:LI) (h:HI) (d:Dt) (h':HI) (S:Us K ρ h H) (L:Xu K H ρ l σ) (e:f l h=ε (d,h')) (k:Out K ρ H d h' Q)
inductive FP(K:Frag)(f:RT)(σ:L2.St)(H:Hp)(Q:Bool->Hp->Prop):Prop where
 | mk (ρ:Rg) (l:LI) (h:HI) (b:Bool) (h':HI) (S:Us K ρ h H) (L:Xu K H ρ l σ) (e:f l h=ε (b,h')) (k:du K ρ H h' (Q b))
inductive tMA(K:Frag)(f:RA)(σ:L2.St)(H:Hp)(Q:List V->Hp->Prop):Prop where
 | mk (ρ:Rg) (l:LI) (h:HI) (ds:List Dt) (h':HI) (S:Us K ρ h H) (L:Xu K H ρ l σ) (e:f l h=ε (ds,h')) (k:∀ρ' vs H',Ru K H' ρ' ds vs->Us K ρ' h' H'->mo ρ ρ' H H'->Q vs H')
inductive rM(K:Frag)(op:sD)(x y:V)(H:Hp)(Q:VK):Prop where
 | mk (ρ:Rg) (h:HI) (d1 d2 d:Dt) (h':HI) (S:Us K ρ h H) (r1:Te K H ρ d1 x) (r2:Te K H ρ d2 y) (e:op d1 d2 h=ε (d,h')) (k:Out K ρ H d h' Q)
noncomputable def fg(K:Ou)(ρ:Rg)(H:Hp)(D:kH):Rs->Prop
 | .nx l h=>∀a b e,Us K a h e->Xu K e a l b->mo ρ a H e->D.nx b e
 | .bk l h=>∀a b e,Us K a h e->Xu K e a l b->mo ρ a H e->D.bk b e
 | .ct l h=>∀a b e,Us K a h e->Xu K e a l b->mo ρ a H e->D.ct b e
 | .rt d h=>Out K ρ H d h D.rt
inductive sM(K:Frag)(f:RS)(D:kH)(σ:L2.St)(H:Hp):Prop where
 | mk (ρ:Rg) (l:LI) (h:HI) (r:Rs) (S:Us K ρ h H) (L:Xu K H ρ l σ) (e:f l h=ε r) (k:fg K ρ H D r)
theorem Out.ext{K:Ou}{ρ a:Rg}{H f:Hp}{d:Dt}{h':HI}{Q:VK}(k:Out K ρ H d h' Q)(x:mo ρ a H f):Out K a f d h' Q:=fun b v g r s e=>k b v g r s (x.trans e)
theorem du.ext{K:Ou}{ρ a:Rg}{H d:Hp}{h':HI}{Q:Hp->Prop}(k:du K ρ H h' Q)(x:mo ρ a H d):du K a d h' Q:=fun b f s e=>k b f s (x.trans e)
theorem fg.ext{K:Ou}{ρ f:Rg}{H i:Hp}{D:kH}{r:Rs}(k:fg K ρ H D r)(x:mo ρ f H i):fg K f i D r:=by
 cases r with
 | nx l h=>exact fun b a g s l e=>k b a g s l (x.trans e)
 | bk l h=>exact fun b a g s l e=>k b a g s l (x.trans e)
 | ct l h=>exact fun b a g s l e=>k b a g s l (x.trans e)
 | rt d h=>exact Out.ext k x
@[irreducible] def EM(X:Cx)(e:Oo)(f:RE):Prop:=PE X e (tM X.K f)
@[irreducible] def TM(X:Cx)(e:Oo)(f:RT):Prop:=PT X e (FP X.K f)
@[irreducible] def WM(X:Cx)(e:Oo)(f:RT):Prop:=PW X e (FP X.K f)
@[irreducible] def AM(X:Cx)(a:Ni Oo)(f:RA):Prop:=PA X a (tMA X.K f)
@[irreducible] def OM(X:Cx)(f:Nu->Nu->Sem Nu)(op:sD):Prop:=nc X f (rM X.K op)
@[irreducible] def ZM(X:Cx)(st:Pa)(f:RS):Prop:=PS X st (sM X.K f)
@[irreducible] def mH(X:Cx)(st:Ni Pa)(f:RS):Prop:=PSs X st (sM X.K f)
theorem PE.imp{X:Cx}{e:Oo}{t t':TE}(h:PE X e t)(i:∀a H Q,t' a H Q->t a H Q):PE X e t':=fun b s a H Q I q=>h b s a H Q I (i a H Q q)
theorem PT.imp{X:Cx}{e:Oo}{t t':TT}(h:PT X e t)(i:∀a H Q,t' a H Q->t a H Q):PT X e t':=fun b s a H Q I q=>h b s a H Q I (i a H Q q)
theorem PW.imp{X:Cx}{e:Oo}{t t':TT}(h:PW X e t)(i:∀a H Q,t' a H Q->t a H Q):PW X e t':=fun d b s a H Q I q=>h d b s a H Q I (i a H Q q)
theorem PA.imp{X:Cx}{e:Ni Oo}{t t':TA}(h:PA X e t)(i:∀a H Q,t' a H Q->t a H Q):PA X e t':=fun pos b s a H Q I q=>h pos b s a H Q I (i a H Q q)
theorem PS.imp{X:Cx}{e:Pa}{t t':TS}(h:PS X e t)(i:∀D a H,t' D a H->t D a H):PS X e t':=fun b s a H D I q=>h b s a H D I (i D a H q)
theorem PSs.imp{X:Cx}{e:Ni Pa}{t t':TS}(h:PSs X e t)(i:∀D a H,t' D a H->t D a H):PSs X e t':=fun b s a H D I q=>h b s a H D I (i D a H q)
theorem nc.imp{X:Cx}{f:Nu->Nu->Sem Nu}{t t':R2}(h:nc X f t)(i:∀x y H Q,t' x y H Q->t x y H Q):nc X f t':=fun a s b H x y v u Q I e d q=>h a s b H x y v u Q I e d (i x y H Q q)
noncomputable def eC(d:Dt):RE:=fun _ h=>ε (d,h)
abbrev oe(i:Int):=eC (.int i)
noncomputable def eV(i:Nat):RE:=fun l h=>match l[i]? with | some (some d)=>ε (d,h) | _=>none
noncomputable def e2(op:sD)(fa fb:RE):RE:=fun l h=>(fa l h).bind fun r=>(fb l r.2).bind fun q=>op r.1 q.1 q.2
noncomputable def eA:RA:=fun _ h=>ε ([],h)
noncomputable def bA(f:RE)(g:RA):RA:=fun l h=>(f l h).bind fun r=>(g l r.2).bind fun q=>ε (r.1::q.1,q.2)
section
variable{X:Cx}{a b c:Oo}{fa fb s:RE}{pos:Pos}
theorem dA{i j pos}:EM X (.Constant (.int i) j pos) (eC (.int i)):=by unhygienic exact PE.imp Y7 fun m H Q g=>by obtain⟨f,l,h,d,n,S,L,e,k⟩:=g;cases e;exact k f _ H (Ws.mpr rfl) S (mo.refl _ _)
theorem pD{i j pos}:EM X (.Constant (.bool i) j pos) (eC (.bl i)):=by unhygienic exact PE.imp K8 fun m H Q g=>by obtain⟨f,l,h,d,n,S,L,e,k⟩:=g;cases e;exact k f _ H (Yo.mpr rfl) S (mo.refl _ _)
theorem qB{i j pos}:EM X (.Constant (.str i) j pos) (eC (.str i)):=by unhygienic exact PE.imp aG fun m H Q g=>by obtain⟨f,l,h,d,n,S,L,e,k⟩:=g;cases e;exact k f _ H (bv.mpr rfl) S (mo.refl _ _)
theorem kE{j pos}:EM X (.Constant .none j pos) (eC .non):=by unhygienic exact PE.imp Z7 fun i H Q g=>by obtain⟨f,l,h,d,m,S,L,e,k⟩:=g;cases e;exact k f _ H (bp.mpr rfl) S (mo.refl _ _)
set_option tactic.hygienic true in
theorem aA (i:Nat) {x:Str} {pos:Pos} (n:X.N[i]?=ε x:=by rfl) (m:L3 X.env.scope x:=by first | exact Or.inl rfl | exact Or.inr (Or.inl rfl) | exact Or.inr (Or.inr rfl)) (hd:(x==("__debug__" :Str))=false:=by decide)
 (f:(x==("__classdict__" :Str))=false:=by decide):EM X (.Name x pos) (eV i):=by
 unhygienic
  exact PE.imp (P6 n m hd f) fun p H Q j=>by
   obtain⟨g,l,h,d,u,S,L,e,k⟩:=j;unfold eV at e;split at e
   . rename_i y q;cases e;obtain⟨v,o,r⟩:=L.val i _ q;exact⟨v,o,k g v H r S (mo.refl _ _)⟩
   . cases e
theorem ud {x:Str} {v:V} {u:Nu} {d:Dt} {pos:Pos} (m:Gl X x) (j:X.mg x=ε u) (r:mr v u) (i:∀H f,Te X.K H f d v) (hd:(x==("__debug__" :Str))=false:=by decide):EM X (.Name x pos) (eC d):=by unhygienic exact PE.imp (Xc m j r hd) fun n H Q g=>by obtain⟨f,l,h,p,o,S,L,e,k⟩:=g;cases e;exact k f v H (i H f) S (mo.refl _ _)
theorem oA{e d:Type}{o:Oa e}{f:e->Oa d}{b:d}(h:o.bind f=ε b):∃a,o=ε a/\f a=ε b:=by
 cases o with
 | none=>cases h
 | some a=>exact⟨a,rfl,h⟩
theorem uA{op:Operator}{o:sD}(B:OM X (binaryOp op) o)(D:EM X a fa)(C:EM X b fb):EM X (.BinOp a op b pos) (e2 o fa fb):=by
 unhygienic
  exact PE.imp (XS B D C) fun O H Q u=>by
   obtain⟨r,l,h,d,E,S,L,e,k⟩:=u;obtain⟨⟨n,j⟩,F,e⟩:=oA e;obtain⟨⟨m,i⟩,e2,e⟩:=oA e;exact⟨r,l,h,n,j,S,L,F,fun g x R M J q=>⟨g,l,j,m,i,J,L.ext q,e2,fun f y P R2 I p=>
    ⟨f,i,n,m,d,E,I,Te.ext p _ M,R2,e,k.ext (q.trans p)⟩⟩⟩
theorem VE{op:CmpOp}{o:sD}(B:OM X (compareOp op) o)(E:EM X a fa)(D:EM X b fb)(C:behindInMarks op b=false:=by first | exact K0 _ | unhygienic rfl):EM X (.Compare a [op] [b] pos) (e2 o fa fb):=by
 unhygienic
  exact PE.imp (Vc B E D C) fun P H Q u=>by
   obtain⟨r,l,h,d,F,S,L,e,k⟩:=u;obtain⟨⟨n,j⟩,I,e⟩:=oA e;obtain⟨⟨m,i⟩,e2,e⟩:=oA e;exact⟨r,l,h,n,j,S,L,I,fun g x T O M q=>⟨g,l,j,m,i,M,L.ext q,e2,fun f y R R2 J p=>
    ⟨f,i,n,m,d,F,J,Te.ext p _ O,R2,e,k.ext (q.trans p)⟩⟩⟩
noncomputable def mu(f:RE):RT:=fun l h=>(f l h).bind fun r=>match r.1 with | .bl b=>ε (b,r.2) | _=>none
theorem SA{op:CmpOp}{o:sD}(E:OM X (compareOp op) o)(J:EM X a fa)(I:EM X b fb)(F:behindInMarks op b=false:=by first | exact K0 _ | unhygienic rfl):TM X (.Compare a [op] [b] pos) (mu (e2 o fa fb)):=by
 unhygienic
  exact PT.imp (Wb E J I F) fun σ H Q D=>by
   obtain⟨C,l,h,P,h',S,L,e,k⟩:=D;obtain⟨⟨d,M⟩,f,e⟩:=oA e;obtain⟨⟨r,n⟩,O,f⟩:=oA f;obtain⟨⟨p,m⟩,e2,f⟩:=oA f;refine⟨C,l,h,r,n,S,L,O,fun j x H1 Y U B=>⟨j,l,n,p,m,U,L.ext B,e2,fun i y H2 R2 T u=>
    ⟨i,m,r,p,d,M,T,Te.ext u _ Y,R2,f,fun g v Z W R E3=>?_⟩⟩⟩
   cases d with
   | bl q=>cases e;exact⟨P,Yo.mp W,k g Z R (B.trans (u.trans E3))⟩
   | _=>cases e
theorem rD{e:Oo}{f:RE}(h:EM X e f)(he:∀g,isTrue e X.env g=(do let v <- g;standAt e.pos;holding [v] (truthy v)):=by intro _;rfl):TM X e (mu f):=by
 unhygienic
  exact PT.imp (f7 h he) fun B H Q m=>by
   obtain⟨j,l,h,p,C,S,L,e,k⟩:=m;obtain⟨⟨d,n⟩,o,e⟩:=oA e;refine⟨j,l,h,d,n,S,L,o,fun i v x u r y=>?_⟩;cases d with
   | bl q=>cases e;exact⟨p,Yo.mp u,k i x r y⟩
   | _=>cases e
noncomputable def TL(o d:sD)(fa fb s:RE):RE:=fun l h=>(fa l h).bind fun r=>(fb l r.2).bind fun q=>(o r.1 q.1 q.2).bind fun z=>match z.1 with
 | .bl true=>(s l z.2).bind fun y=>d q.1 y.1 y.2
 | .bl false=>ε (.bl false,z.2)
 | _=>none
theorem Cz{r C:sD}{B:L2.St}{H:Hp}{Q:VK}(h:tM X.K (TL r C fa fb s) B H Q):VZ (rM X.K r) (rM X.K C) (tM X.K fa) (tM X.K fb) (tM X.K s) B H Q:=by
 obtain⟨T,l,h,d,U,S,L,e,k⟩:=h;obtain⟨⟨O,I⟩,Z,e⟩:=oA e;obtain⟨⟨p,F⟩,e2,e⟩:=oA e;obtain⟨⟨M,E⟩,Y,e⟩:=oA e;refine⟨T,l,h,O,I,S,L,Z,fun o x H1 R1 S1 j=>⟨o,l,I,p,F,S1,L.ext j,e2,fun n y H2 R2 S2 i=>
  ⟨n,F,O,p,M,E,S2,Te.ext i _ R1,R2,Y,fun f v H3 R3 P g=>?_⟩⟩⟩
 cases M with
 | bl q=>
  refine⟨q,Yo.mp R3,?_⟩;cases q with
  | true=>dsimp only at e;obtain⟨⟨J,D⟩,W,e⟩:=oA e;refine HG ⟨f,l,E,J,D,P,(L.ext (j.trans (i.trans g))),W,fun m u H4 R4 S4 R=>⟨m,D,p,J,d,U,S4,Te.ext (g.trans R) _ R2,R4,e,k.ext (j.trans (i.trans (g.trans R)))⟩⟩
  | false=>cases e;exact GG (k f _ H3 (Yo.mpr rfl) P (j.trans (i.trans g)))
 | _=>cases e
theorem Mg{op d:CmpOp}{r f:sD}(g:OM X (compareOp op) r)(e:OM X (compareOp d) f)(n:EM X a fa)(m:EM X b fb)(j:EM X c s)
 (i:lastMarks [op,d] [b,c]=false:=by unhygienic rfl):EM X (.Compare a [op,d] [b,c] pos) (TL r f fa fb s):=by
 unhygienic exact PE.imp (Dr g e n m j i) fun q q q h=>Cz h
noncomputable def YI(t u:RT):RT:=fun l h=>(t l h).bind fun r=>if r.1=true then u l r.2 else ε (false,r.2)
noncomputable def pC(t u:RT):RT:=fun l h=>(t l h).bind fun r=>if r.1=true then ε (true,r.2)else u l r.2
noncomputable def TD(t:RT):RT:=fun l h=>(t l h).bind fun r=>ε (!r.1,r.2)
variable{m n:RT}{rest:Ni Oo}
theorem WM.tm{e:Oo}{f:RT}(h:WM X e f):TM X e f:=by unhygienic exact PW.pt h
theorem DO(d:TM X a m):WM X (.BoolOp .And [a] pos) m:=by unhygienic exact Yb d
theorem iF(d:TM X a m):WM X (.BoolOp .Or [a] pos) m:=by unhygienic exact j7 d
theorem UO(r:TM X a m)(q:WM X (.BoolOp .And (b::rest) pos) n):WM X (.BoolOp .And (a::b::rest) pos) (YI m n):=by
 unhygienic
  exact PW.imp (i7 r q) fun C H Q p=>by
   obtain⟨o,l,h,y,u,S,L,e,k⟩:=p;obtain⟨⟨i,g⟩,x,e⟩:=oA e;refine⟨o,l,h,i,g,S,L,x,fun d B j f=>?_⟩;cases i with
   | true=>rw[dh rfl]at e;exact HG ⟨d,l,g,y,u,j,L.ext f,e,k.ext f⟩
   | false=>rw[dz Wk]at e;cases e;exact GG (k d B j f)
theorem wD(r:TM X a m)(q:WM X (.BoolOp .Or (b::rest) pos) n):WM X (.BoolOp .Or (a::b::rest) pos) (pC m n):=by
 unhygienic
  exact PW.imp (O8 r q) fun C H Q p=>by
   obtain⟨o,l,h,y,u,S,L,e,k⟩:=p;obtain⟨⟨i,g⟩,x,e⟩:=oA e;refine⟨o,l,h,i,g,S,L,x,fun d B j f=>?_⟩;cases i with
   | true=>rw[dh rfl]at e;cases e;exact HG (k d B j f)
   | false=>rw[dz Wk]at e;exact GG ⟨d,l,g,y,u,j,L.ext f,e,k.ext f⟩
theorem UE(i:TM X a m):TM X (.UnaryOp .Not a pos) (TD m):=by unhygienic exact PT.imp (e7 i) fun x H Q g=>by obtain⟨f,l,h,B,y,S,L,e,k⟩:=g;obtain⟨⟨p,j⟩,o,e⟩:=oA e;cases e;exact⟨f,l,h,p,j,S,L,o,fun d r q u=>k d r q u⟩
noncomputable def cF(t u:RE):RE:=fun l h=>(t l h).bind fun r=>match r.1 with | .bl true=>u l r.2 | .bl false=>ε (.bl false,r.2) | _=>none
noncomputable def lU(t u:RE):RE:=fun l h=>(t l h).bind fun r=>match r.1 with | .bl true=>ε (.bl true,r.2) | .bl false=>u l r.2 | _=>none
noncomputable def mJ(t:RE):RE:=fun l h=>(t l h).bind fun r=>match r.1 with | .bl b=>ε (.bl (!b),r.2) | _=>none
theorem VF{op}(h:EM X a fa):EM X (.BoolOp op [a] pos) fa:=by unhygienic exact N6 h
theorem tG(x:EM X a fa)(u:EM X (.BoolOp .And (b::rest) pos) fb):EM X (.BoolOp .And (a::b::rest) pos) (cF fa fb):=by
 unhygienic
  exact PE.imp (V7 x u) fun E H Q r=>by
   obtain⟨p,l,h,d,y,S,L,e,k⟩:=r;obtain⟨⟨j,i⟩,B,e⟩:=oA e;refine⟨p,l,h,j,i,S,L,B,fun f v D C o g=>?_⟩;cases j with
   | bl q=>
    refine⟨q,Yo.mp C,?_⟩;cases q with
    | true=>exact HG ⟨f,l,i,d,y,o,L.ext g,e,k.ext g⟩
    | false=>cases e;exact GG (k f _ D (Yo.mpr rfl) o g)
   | _=>cases e
theorem V0(x:EM X a fa)(u:EM X (.BoolOp .Or (b::rest) pos) fb):EM X (.BoolOp .Or (a::b::rest) pos) (lU fa fb):=by
 unhygienic
  exact PE.imp (M8 x u) fun E H Q r=>by
   obtain⟨p,l,h,d,y,S,L,e,k⟩:=r;obtain⟨⟨j,i⟩,B,e⟩:=oA e;refine⟨p,l,h,j,i,S,L,B,fun f v D C o g=>?_⟩;cases j with
   | bl q=>
    refine⟨q,Yo.mp C,?_⟩;cases q with
    | true=>cases e;exact HG (k f _ D (Yo.mpr rfl) o g)
    | false=>exact GG ⟨f,l,i,d,y,o,L.ext g,e,k.ext g⟩
   | _=>cases e
theorem oS(o:EM X a fa):EM X (.UnaryOp .Not a pos) (mJ fa):=by
 unhygienic
  exact PE.imp (M6 o) fun C H Q j=>by
   obtain⟨i,l,h,d,D,S,L,e,k⟩:=j;obtain⟨⟨g,p⟩,r,e⟩:=oA e;refine⟨i,l,h,g,p,S,L,r,fun f v y x u B=>?_⟩;cases g with
   | bl q=>cases e;exact⟨q,Yo.mp x,k f _ y (Yo.mpr rfl) u B⟩
   | _=>cases e
noncomputable def dN(t:RT)(f g:RE):RE:=fun l h=>(t l h).bind fun r=>if r.1=true then f l r.2 else g l r.2
theorem kT{c:Oo}(u:TM X c m)(y:EM X a fa)(x:EM X b fb):EM X (.IfExp c a b pos) (dN m fa fb):=by
 unhygienic
  exact PE.imp (Ir u y x) fun C H Q r=>by
   obtain⟨q,l,h,d,j,S,L,e,k⟩:=r;obtain⟨⟨o,i⟩,B,e⟩:=oA e;refine⟨q,l,h,o,i,S,L,B,fun f D p g=>?_⟩;cases o with
   | true=>rw[dh rfl]at e;exact HG ⟨f,l,i,d,j,p,L.ext g,e,k.ext g⟩
   | false=>rw[dz Wk]at e;exact GG ⟨f,l,i,d,j,p,L.ext g,e,k.ext g⟩
theorem gA:AM X [] eA:=by unhygienic exact PA.imp RC fun g H Q f=>by obtain⟨d,l,h,ds,i,S,L,e,k⟩:=f;cases e;exact k d [] H .nil S (mo.refl _ _)
theorem cA{e:Oo}{j:Ni Oo}{f:RE}{g:RA}(C:EM X e f)(B:AM X j g)(hs:lB e=true:=by rfl):AM X (e::j) (bA f g):=by unhygienic exact PA.imp (bC C B (bB hs j X.env)) fun P H Q y=>by obtain⟨u,l,h,ds,T,S,L,e,k⟩:=y;obtain⟨⟨F,p⟩,E,e⟩:=oA e;obtain⟨⟨o,D⟩,e2,e⟩:=oA e;cases e;exact⟨u,l,h,F,p,S,L,E,fun i x U M J r=>⟨i,l,p,o,D,J,L.ext r,e2,fun d R O R2 I q=>k d _ O (.cons (Te.ext q _ M) R2) I (r.trans q)⟩⟩
noncomputable def QA(g:RA):RE:=fun l h=>(g l h).bind fun r=>if r.1.length<=sizeLine then ε (.tup r.1,r.2)else none
noncomputable def TC(g:RA):RE:=fun l h=>(g l h).bind fun r=>if r.1.length<=sizeLine then ε (.lst r.1,r.2)else none
noncomputable def mF(g:RA):RE:=fun l h=>(g l h).bind fun r=>if r.1.length<=sizeLine then ε (.ref r.2.length,r.2++[.lst r.1])else none
theorem II{K:Ou}{H:Hp}{ρ:Rg}{h:HI}{ds:Ni Dt}{vs:Ni V}{p:Oi}(S:Us K ρ h H)(R:Ru K H ρ ds vs)(d:H p=none):Te K (oB H p (.tup vs)) ρ (.tup ds) (.ref p):=
 ai.mpr ⟨p,vs,rfl,.inl ⟨S.out d,.inl fC⟩,R.ext (mo.fresh d)⟩
theorem WJ{K:Ou}{H:Hp}{ρ:Rg}{h:HI}{ds:Ni Dt}{vs:Ni V}{p:Oi}(S:Us K ρ h H)(R:Ru K H ρ ds vs)(d:H p=none):Te K (oB H p (.lst vs)) ρ (.lst ds) (.ref p):=
 bn.mpr ⟨p,vs,rfl,.inl ⟨S.out d,.inl fC⟩,R.ext (mo.fresh d)⟩
theorem OH{K:Ou}{H:Hp}{ρ:Rg}{h:HI}{ds:Ni Dt}{vs:Ni V}{p:Oi}(S:Us K ρ h H)(R:Ru K H ρ ds vs)(d:H p=none) :
 Te K (oB H p (.lst vs)) (ρ.add p) (.ref h.length) (.ref p)/\Us K (ρ.add p) (h++[.lst ds]) (oB H p (.lst vs)):=by
 refine⟨Zi.mpr ⟨p,rfl,?_⟩,S.own d ⟨vs,fC,R.ext (mo.own d)⟩⟩;simp![Rg.add];rw[<- S.len,Zo (Ue _),Cu];rfl
theorem oF{e:Type}{c:Prop}[Decidable c]{a b:e}(h:(if c then ε a else none)=ε b):c/\a=b:=by
 by_cases d:c
 . rw[dh d]at h;exact⟨d,rz h⟩
 . rw[dz d]at h;cases h
theorem ZA{j:Ni Oo}{g:RA}{x1}(h:AM X j g):EM X (.Tuple j x1 pos) (QA g):=by unhygienic exact PE.imp (u0 h) fun D H Q u=>by obtain⟨r,l,h,d,F,S,L,e,k⟩:=u;obtain⟨⟨ds,y⟩,B,e⟩:=oA e;obtain⟨x,e⟩:=oF e;cases e;exact⟨r,l,h,ds,y,S,L,B,fun f E I q o C=>⟨by rw[q.length];exact x,fun p i=>k f _ _ (II o q i) (o.fresh i) (C.trans (mo.fresh i))⟩⟩
theorem RD{j:Ni Oo}{g:RA}(h:AM X j g):EM X (.List j pos) (TC g):=by unhygienic exact PE.imp (OO h) fun D H Q u=>by obtain⟨r,l,h,d,F,S,L,e,k⟩:=u;obtain⟨⟨ds,y⟩,B,e⟩:=oA e;obtain⟨x,e⟩:=oF e;cases e;exact⟨r,l,h,ds,y,S,L,B,fun f E I q o C=>⟨by rw[q.length];exact x,fun p i=>k f _ _ (WJ o q i) (o.fresh i) (C.trans (mo.fresh i))⟩⟩
theorem uG{j:Ni Oo}{g:RA}(h:AM X j g):EM X (.List j pos) (mF g):=by unhygienic exact PE.imp (OO h) fun D H Q u=>by obtain⟨r,l,h,d,F,S,L,e,k⟩:=u;obtain⟨⟨ds,y⟩,B,e⟩:=oA e;obtain⟨x,e⟩:=oF e;cases e;exact⟨r,l,h,ds,y,S,L,B,fun q E I i o C=>⟨by rw[i.length];exact x,fun p f=>k _ _ _ (OH o i f).1 (OH o i f).2 (C.trans (mo.own f))⟩⟩
end
noncomputable def oI(C:Int->Int->Prop)[∀i j,Decidable (C i j)](g:Int->Int->Dt):sD:=fun a b h=>match a,b with
 | .int i,.int j=>if C i j then ε (g i j,h)else none
 | _,_=>none
noncomputable def tK(g:Int->Int->Dt):sD:=fun a b h=>match a,b with
 | .int i,.int j=>ε (g i j,h)
 | _,_=>none
instance:∀i j,Decidable (wK i j):=fun i j=>by unfold wK;infer_instance
instance:∀i j,Decidable (cv i j):=fun i j=>by unfold cv;infer_instance
instance:∀i j,Decidable (aJ i j):=fun i j=>by unfold aJ;infer_instance
noncomputable def GD:Dt->Oa V
 | .non=>ε .non
 | .bl b=>ε (.bl b)
 | .int i=>ε (.int i)
 | .str x=>ε (.str x)
 | _=>none
theorem PX{K:Ou}{H:Hp}{ρ:Rg}{d:Dt}{v:V}(e:GD d=ε v):Te K H ρ d v:=by cases d<;>simp![GD]at e<;>first | (cases e;simp![Te]) | cases e
theorem KJ{K:Ou}{H:Hp}{ρ:Rg}{d:Dt}{v u:V}(e:GD d=ε v)(r:Te K H ρ d u):u=v:=by cases d<;>simp![GD]at e<;>first | (cases e;simpa only[Te]using r) | cases e
section
variable{X:Cx}
set_option tactic.hygienic true in
theorem IK{f:Nu->Nu->Sem Nu}{C:Int->Int->Prop}[∀i j,Decidable (C i j)]{g:Int->Int->Dt}{g':Int->Int->V}(m:nc X f (rI C g'))(n:∀i j,GD (g i j)=ε (g' i j)):OM X f (oI C g):=by
 unhygienic
  exact nc.imp m fun x y H Q b=>by
   obtain⟨a,h,s,r,d,q,S,p,R2,e,k⟩:=b;unfold oI at e;split at e
   . rename_i i j;obtain⟨o,e⟩:=oF e;cases e;exact⟨i,j,Ws.mp p,Ws.mp R2,o,k a _ H (PX (n i j)) S (mo.refl _ _)⟩
   . cases e
set_option tactic.hygienic true in
theorem fH{f:Nu->Nu->Sem Nu}{g:Int->Int->Dt}{g':Int->Int->V}(m:nc X f (uK g'))(n:∀i j,GD (g i j)=ε (g' i j)):OM X f (tK g):=by
 unhygienic
  exact nc.imp m fun x y H Q b=>by
   obtain⟨a,h,r,q,d,p,S,o,R2,e,k⟩:=b;unfold tK at e;split at e
   . rename_i i j;cases e;exact⟨i,j,Ws.mp o,Ws.mp R2,k a _ H (PX (n i j)) S (mo.refl _ _)⟩
   . cases e
def FB:sD:=tK fun i j=>.int (i+j)
def pE:sD:=tK fun i j=>.int (i-j)
def AC:sD:=oI cv fun i j=>.int (i*j)
def XD:sD:=oI wK fun i j=>.int (i/j)
def MB:sD:=oI (fun _ j=>0<j) fun i j=>.int (i%j)
def fI:sD:=oI aJ fun i j=>.int (i*2^j.toNat)
def GK:sD:=oI (fun _ j=>0<=j) fun i j=>.int (i/2^j.toNat)
def dH:sD:=tK fun i j=>.int (Builtin.bitAnd i j)
def tH:sD:=tK fun i j=>.int (Builtin.bitOr i j)
def vH:sD:=tK fun i j=>.int (Builtin.bitXor i j)
def dI:sD:=tK fun i j=>.bl (decide (i<j))
def YT:sD:=tK fun i j=>.bl (decide (i<=j))
def DP:sD:=tK fun i j=>.bl (decide (j<i))
def dQ:sD:=tK fun i j=>.bl (decide (j<=i))
theorem hC:OM X (binaryOp .Add) FB:=by unhygienic exact fH G7 fun q q=>rfl
theorem ZF:OM X (binaryOp .Sub) pE:=by unhygienic exact fH P7 fun q q=>rfl
theorem JD:OM X (binaryOp .Mult) AC:=by unhygienic exact IK M7 fun q q=>rfl
theorem yF:OM X (binaryOp .FloorDiv) XD:=by unhygienic exact IK Ec fun q q=>rfl
theorem WC:OM X (binaryOp .Mod) MB:=by unhygienic exact IK L7 fun q q=>rfl
theorem aP:OM X (binaryOp .LShift) fI:=by unhygienic exact IK N7 fun q q=>rfl
theorem XZ:OM X (binaryOp .RShift) GK:=by unhygienic exact IK O7 fun q q=>rfl
theorem xI:OM X (binaryOp .BitAnd) dH:=by unhygienic exact fH J7 fun q q=>rfl
theorem ZO:OM X (binaryOp .BitOr) tH:=by unhygienic exact fH J8 fun q q=>rfl
theorem NO:OM X (binaryOp .BitXor) vH:=by unhygienic exact fH R7 fun q q=>rfl
theorem gH:OM X (compareOp .Lt) dI:=by unhygienic exact fH E8 fun q q=>rfl
theorem L1:OM X (compareOp .LtE) YT:=by unhygienic exact fH D8 fun q q=>rfl
theorem uP:OM X (compareOp .Gt) DP:=by unhygienic exact fH C8 fun q q=>rfl
theorem US:OM X (compareOp .GtE) dQ:=by unhygienic exact fH B8 fun q q=>rfl
def T3:sD:=fun a b h=>match GD a,GD b with
 | some x,some y=>if aN x y=true then ε (.bl (decide (x=y)),h)else none
 | _,_=>none
def V3:sD:=fun a b h=>match GD a,GD b with
 | some x,some y=>if aN x y=true then ε (.bl (!decide (x=y)),h)else none
 | _,_=>none
set_option tactic.hygienic true in
theorem K1:OM X (compareOp .Eq) T3:=by
 unhygienic
  exact nc.imp A8 fun x y H Q b=>by
   obtain⟨a,h,n,m,d,j,S,i,R2,e,k⟩:=b;unfold T3 at e;split at e
   . rename_i u v g e2;obtain⟨f,e⟩:=oF e;cases e;rw[KJ g i,KJ e2 R2];exact⟨f,k a _ H (Yo.mpr rfl) S (mo.refl _ _)⟩
   . cases e
set_option tactic.hygienic true in
theorem W1:OM X (compareOp .NotEq) V3:=by
 unhygienic
  exact nc.imp G8 fun x y H Q b=>by
   obtain⟨a,h,n,m,d,j,S,i,R2,e,k⟩:=b;unfold V3 at e;split at e
   . rename_i u v g e2;obtain⟨f,e⟩:=oF e;cases e;rw[KJ g i,KJ e2 R2];exact⟨f,k a _ H (Yo.mpr rfl) S (mo.refl _ _)⟩
   . cases e
noncomputable def UI:Dt->Bool
 | .non=>true
 | _=>false
def ND:sD:=fun a b h=>match b with
 | .non=>ε (.bl (UI a),h)
 | _=>none
theorem Rk{K:Ou}{H:Hp}{ρ:Rg}{d:Dt}{v:V}(r:Te K H ρ d v):decide (v=.non)=UI d:=by
 cases d with
 | non=>have e:=bp.mp r;subst e;rfl
 | bl b=>have e:=Yo.mp r;subst e;rfl
 | int i=>have e:=Ws.mp r;subst e;rfl
 | str x=>have e:=bv.mp r;subst e;rfl
 | tup f=>obtain⟨a,g,e,_⟩:=ai.mp r;subst e;rfl
 | lst f=>obtain⟨a,g,e,_⟩:=bn.mp r;subst e;rfl
 | ref n=>obtain⟨a,e,_⟩:=Zi.mp r;subst e;rfl
 | ntp n=>obtain⟨a,e,_⟩:=cz.mp r;subst e;rfl
theorem JI:OM X (compareOp .Is) ND:=by
 unhygienic
  exact nc.imp K7 fun x y H Q b=>by
   obtain⟨a,h,j,i,d,g,S,f,R2,e,k⟩:=b;unfold ND at e;split at e
   . cases e;exact⟨bp.mp R2,k a _ H (Yo.mpr (by rw[Rk f])) S (mo.refl _ _)⟩
   . cases e
noncomputable def HC(f:RE):RE:=fun l h=>(f l h).bind fun r=>match r.1 with | .int i=>ε (.int (-i),r.2) | _=>none
theorem cH{a:Oo}{fa:RE}{pos:Pos}(m:EM X a fa):EM X (.UnaryOp .USub a pos) (HC fa):=by
 unhygienic
  exact PE.imp (X1 j9 m) fun u H Q j=>by
   obtain⟨g,l,h,d,y,S,L,e,k⟩:=j;obtain⟨⟨f,n⟩,o,e⟩:=oA e;refine⟨g,l,h,f,n,S,L,o,fun b x r q p s=>?_⟩;cases f with
   | int i=>cases e;exact⟨i,Ws.mp q,k b _ r (Ws.mpr rfl) p s⟩
   | _=>cases e
end
noncomputable def EA(h:HI):Dt->Oa (Ni Dt)
 | .lst a=>ε a
 | .ref n=>match h[n]? with | some (.lst a)=>ε a | _=>none
 | _=>none
def eD(h:HI):Dt->Oa (Ni Dt)
 | .tup a=>ε a
 | d=>EA h d
set_option tactic.hygienic true in
theorem ZC{K:Ou}{H:Hp}{ρ:Rg}{h:HI}{d:Dt}{v:V}{xs:Ni Dt}(S:Us K ρ h H)(R:Te K H ρ d v)(e:EA h d=ε xs):∃a vs,v=.ref a/\m4 K H a vs/\Ru K H ρ xs vs:=by
 cases d with
 | lst b=>cases e;obtain⟨a,vs,e,q,r⟩:=bn.mp R;exact⟨a,vs,e,q.sq,r⟩
 | ref n=>
  simp![EA]at e;split at e
  . rename_i b q;cases e;obtain⟨a,rfl,f⟩:=Zi.mp R;obtain⟨vs,i,g⟩:=S.lst f q;exact⟨a,vs,rfl,m4.of i,g⟩
  . cases e
 | _=>simp![EA]at e<;>cases e
theorem QL{K:Ou}{H:Hp}{ρ:Rg}{h:HI}{d:Dt}{v:V}{xs:Ni Dt}(S:Us K ρ h H)(R:Te K H ρ d v)(e:eD h d=ε xs):∃a vs,v=.ref a/\(m4 K H a vs\/AG K H a vs)/\Ru K H ρ xs vs:=by
 cases d with
 | tup b=>cases e;obtain⟨a,vs,e,q,r⟩:=ai.mp R;exact⟨a,vs,e,.inr q.sq,r⟩
 | lst b=>obtain⟨a,vs,e,q,r⟩:=ZC S R (show EA h (.lst b)=ε xs from e);exact⟨a,vs,e,.inl q,r⟩
 | ref n=>obtain⟨a,vs,e,q,r⟩:=ZC S R (show EA h (.ref n)=ε xs from e);exact⟨a,vs,e,.inl q,r⟩
 | _=>cases e
theorem Ru.atI{K:Ou}{H:Hp}{ρ:Rg}{ds:Ni Dt}{vs:Ni V}{i:Int}{d:Dt}(r:Ru K H ρ ds vs)(e:L2.atI ds i=ε d):∃v,L2.atI vs i=ε v/\Te K H ρ d v:=by
 unfold L2.atI at e ⊢;rw[r.length];cases q:cI ds.length i with
 | none=>rw[q]at e;cases e
 | some j=>rw[q]at e;exact r.get e
def pA:sD:=fun a b h=>match b with
 | .int i=>match a with
  | .str z=>if z.length<=sizeLine then(L2.atI z.cps.toList i).map fun c=>(.str ⟨#[c]⟩,h)else none
  | _=>(eD h a).bind fun e=>(L2.atI e i).map fun d=>(d,h)
 | _=>none
section
variable{X:Cx}{a b c:Oo}{fa fb fc:RE}{pos:Pos}
set_option tactic.hygienic true in
theorem Tn{x y:V}{H:Hp}{Q:VK}(h:rM X.K pA x y H Q):rIx X.K x y H Q:=by
 obtain⟨f,h,D,C,d,B,S,m,R2,e,k⟩:=h;unfold pA at e;split at e
 . rename_i i;have g:=Ws.mp R2;split at e
   . rename_i z;split at e
     . rename_i o;cases q:L2.atI z.cps.toList i with
       | none=>rw[q]at e;cases e
       | some c=>rw[q]at e;cases e;exact .inr (.inr ⟨z,i,c,bv.mp m,g,o,q,k f _ H (bv.mpr rfl) S (mo.refl _ _)⟩)
     . cases e
   . obtain⟨n,s,e⟩:=oA e;cases q:L2.atI n i with
     | none=>rw[q]at e;cases e
     | some u=>
      rw[q]at e;cases e;obtain⟨p,j,e2,sq,r⟩:=QL S m s;obtain⟨v,q1,q2⟩:=r.atI q;rcases sq with sq | sq
      . exact .inl ⟨p,j,i,v,e2,g,sq,q1,k f _ H q2 S (mo.refl _ _)⟩
      . exact .inr (.inl ⟨p,j,i,v,e2,g,sq,q1,k f _ H q2 S (mo.refl _ _)⟩)
 . cases e
theorem iA(u:EM X a fa)(s:EM X b fb)(hs:kY b:=by intro _ _;rfl):EM X (.Subscript a b pos) (e2 pA fa fb):=by
 unhygienic
  exact PE.imp (L8 Ym u s hs) fun I H Q r=>by
   obtain⟨q,l,h,d,B,S,L,e,k⟩:=r;obtain⟨⟨n,j⟩,C,e⟩:=oA e;obtain⟨⟨m,i⟩,e2,e⟩:=oA e;exact⟨q,l,h,n,j,S,L,C,fun g x M F E p=>⟨g,l,j,m,i,E,L.ext p,e2,fun f y J R2 D o=>
    Tn ⟨f,i,n,m,d,B,D,Te.ext o _ F,R2,e,k.ext (p.trans o)⟩⟩⟩
end
noncomputable def UA:RS:=fun l h=>ε (.nx l h)
noncomputable def lA(f g:RS):RS:=fun l h=>(f l h).bind fun r=>match r with | .nx a b=>g a b | r=>ε r
noncomputable def AA(i:Nat)(f:RE):RS:=fun l h=>(f l h).bind fun r=>ε (.nx (l.set i (ε r.1)) r.2)
noncomputable def vD(f:RE):RS:=fun l h=>(f l h).bind fun r=>ε (.nx l r.2)
noncomputable def xA(f:RE):RS:=fun l h=>(f l h).bind fun r=>ε (.rt r.1 r.2)
noncomputable def VB(t:RT)(f g:RS):RS:=fun l h=>(t l h).bind fun r=>if r.1=true then f l r.2 else g l r.2
section
variable{X:Cx}{st:Pa}{rest:Ni Pa}{e:Oo}{f:RE}{t u:RS}{c:RT}{pos:Pos}
theorem iB:mH X [] UA:=by unhygienic exact PSs.imp Rb fun D a H d=>by obtain⟨b,l,h,r,S,L,e,k⟩:=d;cases e;exact k b a H S L (mo.refl _ _)
theorem nA(h1:ZM X st t)(h2:mH X rest u):mH X (st::rest) (lA t u):=by
 unhygienic
  exact PSs.imp (Vr h1 h2) fun D x H n=>by
   obtain⟨m,l,h,r,S,L,e,k⟩:=n;obtain⟨i,o,e⟩:=oA e;refine⟨m,l,h,i,S,L,o,?_⟩;cases i with
   | nx g a=>exact fun b j y p q s=>⟨b,g,a,r,p,q,e,k.ext s⟩
   | rt d a=>cases e;exact k
   | bk g a=>cases e;exact k
   | ct g a=>cases e;exact k
theorem rA(h1:ZM X st t):mH X [st] t:=by unhygienic exact Vb h1
theorem uE(he:EM X e f)(hs:swapsWith e none pos.line X.env=pure false:=by rfl):ZM X (.Expr e pos) (vD f):=by unhygienic exact PS.imp (Nb he hs) fun D d H i=>by obtain⟨g,l,h,r,S,L,e,k⟩:=i;obtain⟨⟨n,j⟩,m,e⟩:=oA e;cases e;exact⟨g,l,h,n,j,S,L,m,fun a v p q o b=>k a d p o (L.ext b) b⟩
theorem yA(he:EM X e f):ZM X (.Return (ε e) pos) (xA f):=by unhygienic exact PS.imp (b7 he) fun D j H b=>by obtain⟨a,l,h,r,S,L,e,k⟩:=b;obtain⟨⟨i,d⟩,g,e⟩:=oA e;cases e;exact⟨a,l,h,i,d,S,L,g,k⟩
theorem gB{b:Oo}{j d:Ni Pa}(q:TM X b c)(x:mH X j t)(s:mH X d u):ZM X (.If b j d pos) (VB c t u):=by
 unhygienic
  exact PS.imp (N8 q x s) fun D B H p=>by
   obtain⟨o,l,h,r,S,L,e,k⟩:=p;obtain⟨⟨m,i⟩,y,e⟩:=oA e;refine⟨o,l,h,m,i,S,L,y,fun a C n g=>?_⟩;cases m with
   | true=>rw[dh rfl]at e;exact HG ⟨a,l,i,r,n,L.ext g,e,k.ext g⟩
   | false=>rw[dz Wk]at e;exact GG ⟨a,l,i,r,n,L.ext g,e,k.ext g⟩
theorem IA(i:Nat){x:Str}{a:Pos}(p:X.N.Nodup)(he:EM X e f)(n:X.N[i]?=ε x:=by rfl)(m:FM X.env.scope x:=by first | exact Or.inl rfl | exact Or.inr rfl)
 (hs:swapsWith e (ε (.Name x a)) pos.line X.env=pure false:=by rfl) (o:X.fn x=true\/X.env.scope.names.lookup x=ε .local:=by first | exact .inl rfl | exact .inr rfl | assumption) :
 ZM X (.Assign [.Name x a] e pos) (AA i f):=by
 unhygienic exact PS.imp (d7 p n m he hs o) fun D F H j=>by obtain⟨g,l,h,r,S,L,e,k⟩:=j;obtain⟨⟨y,q⟩,s,e⟩:=oA e;cases e;exact⟨g,l,h,y,q,S,L,s,fun b v E C B d=>k b _ E B ((L.ext d).set i C) d⟩
end
inductive mv where
 | vals (xs:List Dt)
 | rf (n:Nat)
 | zp (a b:Dt)
 | it (n:Nat)
 | en (n:Nat)
def mv.at(s:mv)(h:HI)(i:Nat):Oa (Oa Dt):=match s with
 | .vals d=>ε d[i]?
 | .rf n=>match h[n]? with | some (.lst d)=>ε d[i]? | _=>none
 | .zp a b=>match EA h a,EA h b with
  | some d,some ys=>ε (match d[i]?,ys[i]? with | some x,some y=>ε (.tup [x,y]) | _,_=>none)
  | _,_=>none
 | .it n=>match h[n]? with | some (.df kvs)=>ε (kvs[i]?.map fun p=>.tup [.tup (p.1.map Dt.int),p.2]) | _=>none
 | .en n=>match h[n]? with | some (.lst d)=>ε (d[i]?.map fun x=>.tup [.int (i:Int),x]) | _=>none
def mv.fuel(s:mv)(h:HI):Nat:=match s with
 | .vals b=>b.length+1
 | .rf n=>match h[n]? with | some (.lst b)=>b.length+1 | _=>0
 | .zp a _=>match EA h a with | some b=>b.length+1 | _=>0
 | .it n=>match h[n]? with | some (.df kvs)=>kvs.length+1 | _=>0
 | .en n=>match h[n]? with | some (.lst b)=>b.length+1 | _=>0
abbrev RI:=LI->HI->Oa (mv×HI)
def O0(K:Ou)(H:Hp)(ρ:Rg)(s:mv)(J:It):Prop:=
 ∀b a f,am ρ a H b->Us K a f b->∀i:Nat,match s.at f i with
  | none=>True
  | some none=>J.stop i b
  | some (some d)=>J.go i b/\∀v e,J.yld i b v e->Te K e a d v/\mo a a b e/\Us K a f e
inductive iM(K:Frag)(g:RI)(σ:L2.St)(H:Hp)(R:It->Hp->Prop):Prop where
 | mk (ρ:Rg) (l:LI) (h:HI) (s:mv) (h':HI) (S:Us K ρ h H) (L:Xu K H ρ l σ) (e:g l h=ε (s,h')) (k:∀ρ' J H',O0 K H' ρ' s J->Us K ρ' h' H'->mo ρ ρ' H H'->R J H')
@[irreducible] def IM(X:Cx)(b a:Oo)(g:RI):Prop:=PI X b a (iM X.K g)
theorem PI.imp{X:Cx}{d e:Oo}{t t':TI}(h:PI X d e t)(i:∀a H Q,t' a H Q->t a H Q):PI X d e t':=fun b s a H Q I q=>h b s a H Q I (i a H Q q)
abbrev RG:=Dt->LI->Oa LI
inductive gM(K:Frag)(g:RG)(v:V)(σ:L2.St)(H:Hp)(Q:L2.St->Hp->Prop):Prop where
 | mk (ρ:Rg) (l:LI) (h:HI) (d:Dt) (l':LI) (S:Us K ρ h H) (L:Xu K H ρ l σ) (r:Te K H ρ d v) (e:g d l=ε l') (k:∀σ',Xu K H ρ l' σ'->Q σ' H)
@[irreducible] def GM(X:Cx)(a:Oo)(g:RG):Prop:=PG X a (gM X.K g)
theorem PG.imp{X:Cx}{e:Oo}{t t':TG}(h:PG X e t)(i:∀v a H Q,t' v a H Q->t v a H Q):PG X e t':=fun b s a H v u Q I r q=>h b s a H v u Q I r (i v a H Q q)
noncomputable def CA(i:Nat):RG:=fun d l=>ε (l.set i (ε d))
def JB(e:RG)(body:RS)(s:mv):Nat->Nat->RS
 | 0,_,_,_=>none
 | k+1,i,l,h=>match s.at h i with
  | none=>none
  | some none=>ε (.nx l h)
  | some (some d)=>(e d l).bind fun f=>(body f h).bind fun r=>match r with
   | .nx b a=>JB e body s k (i+1) b a
   | .ct b a=>JB e body s k (i+1) b a
   | .bk b a=>ε (.nx b a)
   | .rt d a=>ε (.rt d a)
def GC(g:RI)(a:RG)(body:RS):RS:=fun l h=>(g l h).bind fun r=>JB a body r.1 (r.1.fuel r.2) 0 l r.2
section
variable{X:Cx}{w t:Oo}{pos:Pos}
theorem kD(i:Nat){x:Str}{pos:Pos}(j:X.N.Nodup)(f:X.N[i]?=ε x:=by rfl)(b:FM X.env.scope x:=by first | exact Or.inl rfl | exact Or.inr rfl)
 (g:X.fn x=true\/X.env.scope.names.lookup x=ε .local:=by first | exact .inl rfl | exact .inr rfl | assumption):GM X (.Name x pos) (CA i):=by
 unhygienic exact PG.imp (aS j f b g) fun v m H Q a=>by obtain⟨n,l,h,d,o,S,L,R,e,k⟩:=a;cases e;exact k _ (L.set i R)
noncomputable def ZI(f:RE):RI:=fun l h=>(f l h).bind fun r=>match r.1 with | .int j=>if -(2^62)<=j/\j<2^62 then ε (.vals ((List.range j.toNat).map fun(k:Nat)=>Dt.int (k:Int)),r.2)else none | _=>none
noncomputable def M3(f g:RE):RI:=fun l h=>(f l h).bind fun r=>(g l r.2).bind fun q=>match r.1,q.1 with
 | .int i,.int j=>if -(2^62)<=i/\i<2^62/\-(2^62)<=j/\j<2^62 then ε (.vals ((List.range (j-i).toNat).map fun(k:Nat)=>Dt.int (i+(k:Int))),q.2)else none | _,_=>none
theorem OF {a:Oo} {f:RE} {p pos:Pos} (u:Gl X "range") (r:X.mg "range" =none) (x:EM X a f) (hs:lB a=true:=by rfl) :
 IM X w (.Call (.Name "range" p) [a] [] pos) (ZI f):=by
 unhygienic
  exact PI.imp (Jk u r (bC x RC (bB hs _ _)) (bB hs _ _)) fun O H R o=>by
   obtain⟨n,l,h,s,Q,S,L,e,k⟩:=o;obtain⟨⟨g,y⟩,B,e⟩:=oA e;refine⟨n,l,h,g,y,S,L,B,fun d v J I F M=>?_⟩;cases g with
   | int j=>
    obtain⟨⟨D,C⟩,e⟩:=oF e;cases e;refine⟨j,by rw[Ws.mp I],D,C,k d _ J (fun U m P W E i=>?_) F M⟩;simp![mv.at,u5];by_cases b:i<j.toNat
    . rw[Mi b];refine⟨b,fun v T q=>?_⟩;obtain⟨rfl,rfl⟩:=q;exact⟨Ws.mpr ⋯,mo.refl _ _,E⟩
    . rw[jo (by simpa using Iu.mp b)];exact Iu.mp b
   | _=>cases e
theorem sy {a b:Oo} {f g:RE} {p pos:Pos} (J:Gl X "range") (I:X.mg "range" =none) (O:EM X a f) (M:EM X b g) (hs:lB a=true:=by rfl) (d:lB b=true:=by rfl) :
 IM X w (.Call (.Name "range" p) [a,b] [] pos) (M3 f g):=by
 unhygienic
  exact PI.imp (Lk J I (bC O (bC M RC (bB d _ _)) (bB hs _ _)) (by rw[bB hs,bB d];rfl) (bB d _ _)) fun σ H R F=>by
   obtain⟨E,l,h,s,h',S,L,e,k⟩:=F;obtain⟨⟨B,x⟩,Q,e⟩:=oA e;obtain⟨⟨y,P⟩,e2,e⟩:=oA e;refine⟨E,l,h,B,x,S,L,Q,fun r v H1 Y W C=>⟨r,l,x,y,P,W,L.ext C,e2,fun o u Z R2 U E2=>?_⟩⟩;cases B with
   | int i=>
    cases y with
    | int j=>
     obtain⟨c,e⟩:=oF e;cases e;refine⟨i,j,by rw[Ws.mp Y,Ws.mp R2],c,k o _ Z (fun H3 D h3 E3 T n=>?_) U (C.trans E2)⟩;simp![mv.at,u5];by_cases m:n<(j-i).toNat
     . rw[Mi m];refine⟨m,fun v H4 q=>?_⟩;obtain⟨rfl,rfl⟩:=q;exact⟨Ws.mpr rfl,mo.refl _ _,T⟩
     . rw[jo (by simpa using Iu.mp m)];exact Iu.mp m
    | _=>cases e
   | _=>cases e
noncomputable def QT(f:RE):RI:=fun l h=>(f l h).bind fun r=>match r.1 with | .lst a=>ε (.vals a,r.2) | .ref n=>ε (.rf n,r.2) | _=>none
def UB(f:RE):RI:=fun l h=>(QT f l h).bind fun r=>if 0<r.1.fuel r.2 then ε r else none
theorem uC{a:Oo}{f:RE}(x:EM X a f):IM X w a (UB f):=by
 unhygienic
  exact PI.imp (Eb x) fun σ H R Z=>by
   obtain⟨Y,l,h,s,h',S,L,e,k⟩:=Z;obtain⟨⟨s1,h1⟩,e,I⟩:=oA e;obtain⟨E,I⟩:=oF I;cases I;obtain⟨⟨Q,F⟩,e1,e⟩:=oA e;refine⟨Y,l,h,Q,F,S,L,e1,fun j v U T J W=>?_⟩;cases Q with
   | lst O=>
    cases e;obtain⟨a,b,rfl,q,r⟩:=bn.mp T;refine⟨a,rfl,⟨b,q.sq⟩,k j _ U (fun H2 C F B p i=>?_) J W⟩;have q2:=q.same B;have r2:=Ru.same B _ r;simp![mv.at];cases P:O[i]? with
    | none=>refine⟨b,q2.sq,?_⟩;rw[r.length];exact Ea.mp P
    | some d=>obtain⟨v,g,g2⟩:=r2.get P;refine⟨⟨b,v,q2.sq,g⟩,fun u H3 y=>?_⟩;obtain⟨rfl,y⟩:=y;have m:=y b q2.sq;rw[g]at m;cases m;exact⟨g2,mo.refl _ _,p⟩
   | ref n=>
    cases e;obtain⟨a,rfl,x⟩:=Zi.mp T;simp![mv.fuel]at E;split at E
    . rename_i O q0;obtain⟨D,g0,_⟩:=J.lst x q0;refine⟨a,rfl,⟨D,m4.of g0⟩,k j _ U (fun H2 C F B p i=>?_) J W⟩;have o:=B.ix _ _ x;simp![mv.at];split
      . trivial
      . rename_i y;split at y
        . rename_i ys q2;obtain⟨b,g,r⟩:=p.lst o q2;refine⟨b,m4.of g,?_⟩;rw[r.length];exact Ea.mp (rz y)
        . cases y
      . rename_i d y;split at y
        . rename_i ys q2;obtain⟨b,g,r⟩:=p.lst o q2;obtain⟨v,M,z2⟩:=r.get (rz y);refine⟨⟨b,v,m4.of g,M⟩,fun u H3 y=>?_⟩;obtain⟨rfl,y⟩:=y;have m:=y b (m4.of g);rw[M]at m;cases m;exact⟨z2,mo.refl _ _,p⟩
        . cases y
    . exact Du E nofun
   | _=>cases e
noncomputable def qP(f:RE):RI:=fun l h=>(f l h).bind fun r=>match r.1 with | .tup a=>ε (.vals a,r.2) | _=>none
theorem Rm{a:Oo}{f:RE}(I:EM X a f):IM X w a (qP f):=by
 unhygienic
  exact PI.imp (W6 I) fun W H R D=>by
   obtain⟨C,l,h,s,Y,S,L,e,k⟩:=D;obtain⟨⟨p,m⟩,M,e⟩:=oA e;refine⟨C,l,h,p,m,S,L,M,fun g v T Q P U=>?_⟩;cases p with
   | tup E=>
    cases e;obtain⟨a,b,rfl,q,r⟩:=ai.mp Q;refine⟨a,rfl,⟨b,q.sq⟩,k g _ T (fun H2 B m x O i=>?_) P U⟩;have q2:=q.same x;have F:=Ru.same x _ r;simp![mv.at];cases o:E[i]? with
    | none=>refine⟨b,q2.sq,?_⟩;rw[r.length];exact Ea.mp o
    | some d=>obtain⟨v,n,J⟩:=F.get o;refine⟨⟨b,v,q2.sq,n⟩,fun u Z y=>?_⟩;obtain⟨rfl,y⟩:=y;have j:=y b q2.sq;rw[n]at j;cases j;exact⟨J,mo.refl _ _,O⟩
   | _=>cases e
theorem XC{body:Ni Pa}{g:RI}{Y:RG}{f:RS}(hp:PassesOwn (model X.prog X.w) X.A X.env X.xe)(hc:X.calm=true)(hi:IM X w t g)(hg:GM X w Y)(hb:mH X body f)
 (hs:∀x,foldedSetIterable t X.env x=pure x:=by intro _;rfl):ZM X (.For w t body [] pos) (GC g Y f):=by
 unhygienic
  exact PS.imp (Z6 hp hc hi hg hb hs) fun D σ H zz=>by
   obtain⟨ρ,l,h,r,S,L,e,k⟩:=zz;obtain⟨⟨s,h1⟩,e1,e⟩:=oA e;refine⟨ρ,l,h,s,h1,S,L,e1,fun C J H1 ok S1 E1=>?_⟩;refine⟨fun i m B M=>∃a E n,Us X.K a n M/\Xu X.K M a E B/\mo C a H1 M/\JB Y f s m i E n=ε r,⟨_,C,l,h1,S1,L.ext E1,mo.refl _ _,e⟩,?_⟩;rintro i m B M ⟨a,E,n,S',L',O,b⟩;cases m with
   | zero=>simp![JB]at b;cases b
   | succ m=>
    simp![JB]at b;have p:=ok M a n O.same S' i;cases q:s.at n i with
    | none=>rw[q]at b;cases b
    | some o=>
     rw[q]at b p;cases o with
     | none=>cases b;exact .inl ⟨p,k a B M S' L' (E1.trans O)⟩
     | some d=>
      dsimp only at b;obtain⟨l1,b1,b⟩:=oA b;obtain⟨r1,b2,b⟩:=oA b;refine .inr ⟨p.1,fun P Z=>∃m',m'<m+1/\∃a E n,Us X.K a n Z/\Xu X.K Z a E P/\mo C a H1 Z/\JB Y f s m' (i+1) E n=ε r,fun P Z q=>q,fun v H3 y=>?_⟩;obtain⟨R3,U,S3⟩:=p.2 v H3 y;refine⟨a,E,n,d,l1,S3,L'.ext U,R3,b1,fun a0 L4=>⟨a,l1,n,r1,S3,L4,b2,?_⟩⟩;cases r1 with
      | nx W Q=>exact fun j u T F R I=>⟨m,yu _,j,W,Q,F,R,O.trans (U.trans I),b⟩
      | ct W Q=>exact fun j u T F R I=>⟨m,yu _,j,W,Q,F,R,O.trans (U.trans I),b⟩
      | bk W Q=>cases b;exact fun j u T F R I=>k j u T F R (E1.trans (O.trans (U.trans I)))
      | rt d2 Q=>cases b;exact fun j v5 T R5 F I=>k j v5 T R5 F (E1.trans (O.trans (U.trans I)))
end
noncomputable def HB(n N:Nat)(body:RS):sB:=fun ds h=>if ds.length=n then match body (ds.map some++List.replicate (N-n) none) h with
 | some (.rt d h')=>ε (d,h')
 | some (.nx _ h')=>ε (.non,h')
 | _=>none
 else none
inductive lJ(K:Frag)(n:Nat)(F:sB)(vs:List V)(H:Hp)(Q:VK)(E:XK):Prop where
 | mk (ρ:Rg) (ds:List Dt) (h:HI) (d:Dt) (h':HI) (S:Us K ρ h H) (r:Ru K H ρ ds vs) (n:ds.length=n) (e:F ds h=ε (d,h')) (k:Out K ρ H d h' Q)
section
variable{P:O4}{w:Pb}{K:Ou}{b:Str->Oa Nu}{a:Ri}
theorem lO{H:Hp}{ρ:Rg}{N:Ni Str}{ds:Ni Dt}{vs:Ni V}(R:Ru K H ρ ds vs):Xu K H ρ (ds.map some++List.replicate (N.length-ds.length) none) (L2.gG N vs):=by
 have g:=R.length;refine⟨by simp[L2.gG,g],fun i d e=>?_⟩;by_cases f:i<ds.length
 . rw[Xa (by simpa using f),u5]at e;cases q:ds[i]? with
   | none=>rw[q]at e;cases e
   | some m=>rw[q]at e;cases e;obtain⟨v,j,h⟩:=R.get q;refine⟨v,?_,h⟩;unfold L2.gG;rw[Xa (by simpa[g]using f),u5,j];rfl
 . rw[Zo (by simpa using Iu.mp f),getElem?_replicate]at e;split at e<;>cases e
theorem mP{x g:Str}{st:Pa}{f:Oi}{o:FuncData}{N ps:Ni Str}{k:Nat}{body:RS}(F:Fun K x g st f o)(S:Yi N ps (jB st))
 (y:∀(i:Nu)(A:Pu)(outer:Ni Env)(s:Oe)(H:Hp)(E:XK),Xe k (A.deeper (envOfC g (jB st) s.heap.objs.size f i))->
  mH (oE GF P w K b a N g (jB st) f i A outer s H E).nox (CC st) body):ab P w K b a GF (k+1) f o ps (lJ K ps.length (HB ps.length N.length body)):=by
 unhygienic
  refine F.ok S (fun r H Q E h=>?_) (fun i A outer s H r Q E u h=>?_)
  . obtain⟨n,ds,h,d,C,S,R,j,_⟩:=h;rw[R.length,j]
  . obtain⟨n,ds,h,d,C,S,R,j,e,k⟩:=h;refine⟨_,y i A outer s H E u,?_⟩;unfold HB at e;rw[dh j]at e;rw[<- j]at e;split at e
    . rename_i M B q;cases e;exact⟨n,_,h,_,S,lO R,q,k⟩
    . rename_i L B q;cases e;exact⟨n,_,h,_,S,lO R,q,fun m p I D O J=>k m _ I (bp.mpr rfl) D J⟩
    . cases e
end
noncomputable def qA(F:sB)(a:Ni Dt)(g:RA):RE:=fun l h=>(g l h).bind fun r=>F (r.1++a) r.2
section
variable{X:Cx}{k n:Nat}{f:Oi}{j:FuncData}{ps:Ni Str}{F:sB}{x:Str}{p pos:Pos}{e:Oo}{i:Ni Oo}{g:RA}{b:Ni V}{a:Ni Nu}{c:Ni Dt}
theorem MX(T:ab X.prog X.w X.K X.mg X.base GF k f j ps (lJ X.K n F))(D:Xe k X.A)(O:Gl X x)(J:X.mg x=ε (.ref f))(M:keepIn X.K (.ref f)=true)(P:nb X.K j ps a)(hd:mh b a)(q:∀H o,Ru X.K H o c b)
 (R:AM X (e::i) g) (I:∀(B:Ni Dt->HI->Oa (Dt×HI)),B=F->∀a h r,B a h=ε r->a.length=n) (s:(x==("__debug__" :Str))=false:=by decide) (he:lB e=true:=by rfl) (hpl:i.all lB=true:=by rfl) :
 EM X (.Call (.Name x p) (e::i) [] pos) (qA F c g):=by
 unhygienic exact PE.imp (Rc T D O J M P hd (E:=E0) WS R s (bB he _ _) (MH hpl)) fun σ H Q C=>by obtain⟨o,l,h,d,U,S,L,e,k⟩:=C;obtain⟨⟨u,y⟩,W,e⟩:=oA e;exact⟨o,l,h,u,y,S,L,W,fun m vs H1 Z Y E1=>⟨m,_,y,d,U,Y,Z.append (q H1 m),I F rfl _ _ _ e,e,k.ext E1⟩⟩
theorem JO{n N:Nat}{body:RS}{a:Ni Dt}{h:HI}{r:Dt×HI}(e:HB n N body a h=ε r):a.length=n:=by
 unfold HB at e;split at e
 . assumption
 . cases e
end
end SM
namespace L2
noncomputable def fE(b:Ni (Str×Oi)):Ni (Str×NameKind)->Ni (Str×Oi)->Oa (Ni (Str×Oi))
 | [],cs=>ε cs
 | (n,k)::r,cs=>if k==.free then match b.lookup n with
  | some a=>fE b r ((n,a)::cs)
  | none=>none
  else fE b r cs
theorem HR{env:Env}:∀{l:Ni (Str×NameKind)}{cs d:Ni (Str×Oi)},fE env.cells l cs=ε d->
 (forIn l cs fun(x:Str×NameKind) (r:Ni (Str×Oi))=>if(x.2==NameKind.free)=true then(do let a <- cellOf env x.1;pure (ForInStep.yield ((x.1,a)::r)):Sem _)else pure (ForInStep.yield r))=pure d
 | [],cs,d,h=>by simp![fE]at h;cases h;rfl
 | (n,k)::r,cs,d,h=>by
  simp![fE]at h;rw[forIn_cons];cases b:k==NameKind.free with
  | true=>
   rw[b,dh rfl]at h;cases f:env.cells.lookup n with
   | none=>rw[f]at h;cases h
   | some a=>
    rw[f]at h;have ih:=HR (env:=env) h;simp![b,dG];have e:cellOf env n=pure a:=by unfold cellOf;rw[f]
    rw[e];simp![pure_bind];exact ih
  | false=>rw[b,dz (by decide)]at h;have ih:=HR (env:=env) h;simp![b,Vi,eG,pure_bind];exact ih
theorem bW{a:Scope}{env:Env}{cl:Ni (Str×Oi)}(h:fE env.cells a.names []=ε cl):closureFor a env=pure cl:=by have e:=HR (env:=env) h;unfold closureFor;simp![bind_pure];exact e
theorem XQ{b:Ni (Str×Oi)}:∀{l:Ni (Str×NameKind)}{cs f:Ni (Str×Oi)},fE b l cs=ε f->(∀x c,cs.lookup x=ε c->b.lookup x=ε c)->
 (∀x c,f.lookup x=ε c->b.lookup x=ε c)/\(∀x c,cs.lookup x=ε c->∃B,f.lookup x=ε B)/\∀n,(n,NameKind.free)∈l->∃c,f.lookup n=ε c
 | [],cs,f,h,i=>by simp![fE]at h;cases h;exact⟨i,fun x c e=>⟨c,e⟩,fun n y=>nomatch y⟩
 | (n,k)::r,cs,f,h,i=>by
  simp![fE]at h;cases o:k==NameKind.free with
  | true=>
   rw[o,dh rfl]at h;cases p:b.lookup n with
   | none=>rw[p]at h;cases h
   | some a=>
    rw[p]at h;have u:∀x c,((n,a)::cs).lookup x=ε c->b.lookup x=ε c:=fun x c e=>by
     rw[lookup_cons]at e;cases d:x==n with
     | true=>rw[d]at e;cases e;rw[eq_of_beq d];exact p
     | false=>rw[d]at e;exact i x c e
    obtain⟨s,g,q⟩:=XQ h u;refine⟨s,fun x c e=>?_,fun m j=>?_⟩
    . cases d:x==n with
      | true=>exact g x a (by rw[lookup_cons,d])
      | false=>exact g x c (by rw[lookup_cons,d];exact e)
    . rcases Ba.mp j with z | z
      . cases z;exact g _ a (by rw[lookup_cons,beq_self_eq_true])
      . exact q m z
  | false=>
   rw[o,dz (by decide)]at h;obtain⟨s,g,q⟩:=XQ h i;refine⟨s,g,fun m j=>?_⟩;rcases Ba.mp j with z | z
   . cases z;cases o
   . exact q m z
noncomputable def tgN:Oo->Ni Str
 | .Name x _=>[x]
 | .Tuple a _ _=>a.filterMap fun | .Name x _=>ε x | _=>none
 | _=>[]
def VH(b:Oo)(N:Ni Str)(a:Ni (Oa Nat)):Ni Str:=tgN b++a.filterMap fun o=>o.bind fun i=>N[i]?
theorem ndB{N:Ni Str}(h:decide N.Nodup=true):N.Nodup:=of_decide_eq_true h
noncomputable def cC(X:Cx)(d:Ni Str)(a:Scope)(b:Ni (Str×Oi))(C:Oi)(s0:Oe)(e:Hp)(fp:Ni Oi):Cx:=
 { X with N:=d,s₀:=s0,H₀:=e,env:=compEnvC a b C X.env,outer:=X.stack,stack:=X.stack,ex:=fp,fn:=fun _=>false,pn:=[],xe:=fun _ _=>False }
theorem sV{env:Env}:∀{a:Ni (Str×NameKind)}{x:Str},(∀y∈a,y.2≠.cell)->
 ((a.map fun(n,k)=>if(k==NameKind.free&&env.scope.kind==.function&&env.kindOf n==ε .cell)then(n,NameKind.cell)else(n,k)).lookup x=ε .cell\/
  (a.map fun(n,k)=>if(k==NameKind.free&&env.scope.kind==.function&&env.kindOf n==ε .cell)then(n,NameKind.cell)else(n,k)).lookup x=ε .free)->(x,NameKind.free)∈a
 | [],_,_,h=>by simp at h
 | (n,k)::r,x,hc,h=>by
  have ih:=@sV env r x (fun y f=>hc y (nW _ f));have g:k≠.cell:=hc (n,k) um;rw[Ti]at h;cases b:x==n with
  | true=>
   have ex:=eq_of_beq b;subst ex;by_cases e:k=.free
   . subst e;exact um
   . have i:(k==NameKind.free)=false:=by simpa using e
     simp![i,Gs,Vi,eG,lookup_cons,beq_self_eq_true]at h;rcases h with h | h
     . exact Du (rz h) g
     . exact Du (rz h) e
  | false=>
   refine nW _ (ih ?_);by_cases d:(k==NameKind.free&&env.scope.kind==.function&&env.kindOf n==ε .cell)=true
   . simp![d,dG,lookup_cons,b]at h;exact h
   . rw[Bool.not_eq_true]at d;simp![d,Vi,eG,lookup_cons,b]at h;exact h
noncomputable def av(X:Cx)(a:Scope)(b:Ni (Str×Oi)):Ni Str->Ni (Oa Nat)->Prop
 | [],[]=>True
 | _::N,none::cs=>av X a b N cs
 | x::N,some j::cs=>(X.N[j]?=ε x/\(X.env.kindOf x=ε .cell\/X.env.kindOf x=ε .free)/\((relabel a X.env).names.lookup x=ε .cell\/(relabel a X.env).names.lookup x=ε .free)/\
  b.lookup x=X.env.cells.lookup x)/\av X a b N cs
 | _,_=>False
noncomputable def xG(b:St)(a:Ni (Oa Nat)):St:=a.map fun o=>match o with | some j=>(b[j]?).join | none=>none
theorem av.get{X:Cx}{a:Scope}{b:Ni (Str×Oi)}:∀{N:Ni Str}{cs:Ni (Oa Nat)},av X a b N cs->∀{i j:Nat}{x:Str},N[i]?=ε x->cs[i]?=ε (ε j)->
 X.N[j]?=ε x/\(X.env.kindOf x=ε .cell\/X.env.kindOf x=ε .free)/\((relabel a X.env).names.lookup x=ε .cell\/(relabel a X.env).names.lookup x=ε .free)/\b.lookup x=X.env.cells.lookup x
 | [],[],_,i,j,x,h,_=>by simp at h
 | y::N,none::cs,h,0,j,x,_,e=>by simp at e
 | y::N,none::cs,h,i+1,j,x,e1,e2=>av.get (N:=N) (cs:=cs) h (i:=i) (by simpa using e1) (by simpa using e2)
 | y::N,some k::cs,h,0,j,x,e1,e2=>by simp at e1 e2;subst e1 e2;exact h.1
 | y::N,some k::cs,h,i+1,j,x,e1,e2=>av.get (N:=N) (cs:=cs) h.2 (i:=i) (by simpa using e1) (by simpa using e2)
 | [],_::_,h,_,_,_,_,_=>h.elim
 | _::_,[],h,_,_,_,_,_=>h.elim
theorem av.length{X:Cx}{a:Scope}{b:Ni (Str×Oi)}:∀{N:Ni Str}{cs:Ni (Oa Nat)},av X a b N cs->cs.length=N.length
 | [],[],_=>rfl
 | y::N,none::cs,h=>by rw[Ss,Ss,av.length (N:=N) (cs:=cs) h]
 | y::N,some k::cs,h=>by rw[Ss,Ss,av.length (N:=N) (cs:=cs) h.2]
 | [],_::_,h=>h.elim
 | _::_,[],h=>h.elim
def cJ(X:Cx)(d:Ni Oo)(t:TT):Prop:=
 ∀(a:Ni (Oi×Obj))(s:Oe)(b:St)(H:Hp)(Q:Bool->Hp->Prop),mf X a b H s->t b H Q->
  wpAny (model X.prog X.w) X.A (forIn d true fun c r=>if r=true then do let ok <- isTrue c X.env (eval c X.env);pure (ForInStep.yield ok)else pure (ForInStep.yield r)) (TP X a b Q) X.xe s
theorem Lr{X:Cx}:cJ X [] (fun z H Q=>Q true H):=fun z z z H z I q=>wpAny_tests_nil ⟨H,I,q⟩
theorem Mr{X:Cx}{c:Oo}{t:TT}(h:PT X c t):cJ X [c] t:=fun a s b H Q I q=>wpAny_tests_one (h a s b H Q I q)
def NS(s:TI)(g:TG)(tc:TT)(te:TE)(j:Ni (Oa Nat)):TE:=fun n H Q=>s n H fun J r=>∀D,r D=none->∃W:Nat->Nat->St->Ni V->Hp->Prop,
 (∃m,W 0 m (xG n j) [] (oB r D (.lst [])))/\∀i m e d h,W i m e d h->
  (J.stop i h/\Q (.ref D) h)\/(J.go i h/\∀x q,J.yld i h x q->g x e q fun a u=>tc a u fun b p=>if b=true then te a p fun y o=>
   o D=ε (.lst d)/\d.length<sizeLine/\∃f,f<m/\W (i+1) f a (d++[y]) (oB o D (.lst (d++[y])))else ∃f,f<m/\W (i+1) f a d p)
section
variable{prog:O4}{w:Pb}{A:Pu}{R:Result->Oe->Prop}{s:Oe}
theorem Vq{C a p:Oo}{y:Ni Oo}{f:Scope}{pos:Pos}{J D:Nu}{env:Env}(I:Nat->Oe->Prop)
 (turn:∀n s,I n s->wpAny (model prog w) A (pyNext J) (fun r e=>match r with
  | none=>R (.ok .next) e
  | some v=>wpAny (model prog w) A (letOwnedTupleGo a J v) (fun _ d=>wpAny (model prog w) A (assign a env v) (fun _ o=>
   wpAny (model prog w) A (forIn y true fun c r=>if r=true then do let ok <- isTrue c env (eval c env);pure (ForInStep.yield ok)else pure (ForInStep.yield r)) (fun ok b=>
    if ok=true then wpAny (model prog w) A (eval C env) (fun x j=>
     wpAny (model prog w) A (call (.builtin "list.append") [D,x]) (fun _ i=>∃m,m<n/\I m i) (fun _ _=>False) j) (fun _ _=>False) b
    else ∃m,m<n/\I m b) (fun _ _=>False) o) (fun _ _=>False) d) (fun _ _=>False) e) (fun _ _=>False) s)
 (n:Nat) (h:I n s):codeAny (model prog w) A (.compLoop (.ListComp C [⟨a,p,y,0⟩] f pos) 0 J D env) R s:=by
 refine codeAny_loop rfl I (fun n s L=>?_) n h;show wpAny _ A ((compTurn (.ListComp C [⟨a,p,y,0⟩] f pos) 0 J D env).onRaise (fun x=>do noteFrame x env;theTreesLotGoes x)) _ _ s;refine wpAny_noted ?_;rw[compTurn_list];refine ao (wpAny_standAt (ao (Hs (turn n s L) (fun r e u=>?_) fun _ _ g=>g.elim)));cases r with
 | none=>exact au u
 | some v=>
  refine ao (Hs u (fun _ d B=>?_) fun _ _ g=>g.elim);refine ao (Hs B (fun _ o H=>ao (Hs H (fun ok b q=>?_) fun _ _ g=>g.elim)) fun _ _ g=>g.elim);cases ok with
  | false=>exact au ⟨rfl,q⟩
  | true=>exact ao (ao (Hs q (fun x j F=>ao (Hs F (fun _ i E=>au (au ⟨rfl,E⟩)) fun _ _ g=>g.elim)) fun _ _ g=>g.elim))
end
section
variable{X:Cx}{B f F:Oo}{A:Ni Oo}{scope:Scope}{l:Ni (Str×Oi)}{pos:Pos}{t:Ni Str}{G:TI}{g:TG}{tc:TT}{te:TE}{w:Ni (Oa Nat)}
theorem cW{L:Ni (Oi×Obj)}{Z:St}{H:Hp}{s:Oe}{it:Oi}{fp:Ni Oi}{tn:Nat->Ri->Prop}{J:It}{Q:VK}{RR:Nu->Oi->Result->Oe->Prop}{E:Nu->Oe->Prop}
 (hc:X.calm=true) (d2:fE X.env.cells scope.names []=ε l) (a1:∀y∈scope.names,y.2≠.cell) (a0:scope.kind=.function) (a8:av X scope l t w)
 (hg:∀C s0 H0 fp,PG (cC X t scope l C s0 H0 fp) F g) (ht:∀C s0 H0 fp,cJ (cC X t scope l C s0 H0 fp) A tc) (he:∀C s0 H0 fp,PE (cC X t scope l C s0 H0 fp) B te)
 (I:mf X L Z H s) (T:DG X.prog X.w X.K F J fp it tn) (st:tn 0 s.heap) (hf:∀b∈fp,FE X L H b)
 (c4:∀D,H D=none->∃W:Nat->Nat->St->Ni V->Hp->Prop,
  (∃m,W 0 m (xG Z w) [] (oB H D (.lst [])))/\∀i m P ys H',W i m P ys H'->
   (J.stop i H'/\Q (.ref D) H')\/(J.go i H'/\∀x H2,J.yld i H' x H2->g x P H2 fun a5 S=>tc a5 S fun b H4=>if b=true then te a5 H4 fun y H5=>
    H5 D=ε (.lst ys)/\ys.length<sizeLine/\∃Y,Y<m/\W (i+1) Y a5 (ys++[y]) (oB H5 D (.lst (ys++[y])))else ∃Y,Y<m/\W (i+1) Y a5 ys H4))
 (d3:∀(C D:Oi)(s':Oe)(H':Hp) m,mf X L Z H' s'->s'.heap.Ns C m->H' C=none->C≠X.env.locals->X.s₀.heap.objs.size<=C->(∀x c,X.env.cells.lookup x=ε c->c≠C)->(∀p∈X.pn++L,p.1≠C)->Q (.ref D) H'->RR (.ref D) C (.ok .next) s') :
 wpAny (model X.prog X.w) X.A (newList []) (fun c7 c1=>wpAny (model X.prog X.w) X.A (newFunctionEnv scope X.env.globals l [] X.env.qual none .none (ε X.env)) (fun a9 c0=>
  codeAny (model X.prog X.w) X.A (.compStart (.ListComp B [⟨F,f,A,0⟩] scope pos) 0 (.ref it) c7 { a9 with scope:=relabel scope X.env }) (RR c7 a9.locals) c0) E c1) E s:=by
 obtain⟨sub,_,c8⟩:=XQ d2 (fun _ _ e=>by simp at e);refine Ae (wpAny_newFunctionEnv a1 (by intro y hy;simp at hy) (fun h₁ O M=>?_) a0);have hD:=I.fresh;have h:mf X L Z (oB H s.heap.objs.size (.lst [])) { s with heap:=s.heap.push { cls:=.type "list",data:=.seq ([]:Ni Nu).toArray } }:=I.gc (ys:=[]) (its:=[]) (t':=s.toks) .nil (m8 _);generalize d1:({ s with heap:=s.heap.push { cls:=.type "list",data:=.seq ([]:Ni Nu).toArray } }:Oe)=s3 at h;generalize c5:oB H s.heap.objs.size (.lst [])=S at h;have b4:s3.heap=s.heap.push { cls:=.type "list",dict:=none,data:=.seq ([]:Ni Nu).toArray }:=by rw[<- d1]
 dsimp only at O M ⊢;rw[<- b4]at O M;have d5:S s3.heap.objs.size=none:=h.fresh;have e0:s3.heap.objs.size≠X.env.locals:=fun z=>by have:=h.lt;rw[<- z]at this;exact Es _ this
 have e5:X.s₀.heap.objs.size<=s3.heap.objs.size:=h.sz;have d0:∀x c,X.env.cells.lookup x=ε c->c<s3.heap.objs.size:=fun x c e=>by obtain⟨v,o,ho,_⟩:=h.cell x c e;exact fu ho
 have d8:∀x c,X.env.cells.lookup x=ε c->c≠s3.heap.objs.size:=fun x c e z=>by have:=d0 x c e;rw[z]at this;exact Es _ this
 have d4:∀p∈X.pn++L,p.1≠s3.heap.objs.size:=fun p hp z=>by have:=fu (h.pin p hp).1;rw[z]at this;exact Es _ this
 have b6:∀b∈fp,b<s.heap.objs.size:=fun b a=>by obtain⟨o,e,_⟩:=T.obj 0 _ st b a;exact fu e
 have T5:s3.heap.objs.size=s.heap.objs.size+1:=by rw[b4,Ku]
 have old:∀b o,s3.heap.get? b=ε o->h₁.get? b=ε o:=fun b o e=>M.extBut b o (n7 (fu e)) (cu _ e)
 have c9:∀b o,s.heap.get? b=ε o->s3.heap.get? b=ε o:=fun b o e=>by rw[b4];exact cu _ e
 have f0:∀b∈fp,S b=none:=fun b a=>by rw[<- c5,XA (n7 (b6 b a))];exact(hf b a).1
 have a6:(cC X t scope l s3.heap.objs.size s3 S fp).Ok:=by
  refine⟨h.ok.mod,a0,h.ok.glob,h.ok.blt,Ue _,fun x y c e1 e2=>h.ok.inj x y c (sub x c e1) (sub y c e2),fun x hx=>?_,fun x c e _=>Du e Wk,h.ok.hd,h.ok.frames,.inl rfl,fun b a=>⟨?_,fun x c e=>?_⟩,fun b o e=>h.bs b o e,?_,fun b o e=>?_,fun b a=>?_,h.stack,h.gv⟩
  . exact c8 x (sV a1 hx)
  . intro z;have:=b6 b a;have z':b=s3.heap.objs.size:=z;rw[z',T5]at this;exact Du this (Iu.mpr (Nat.le_succ _))
  . exact(hf b a).2.2.2.2.1 x c (sub x c e)
  . exact su h.ok.bsz h.sz
  . intro a;have h1:=(hf b a).2.2.2.1;have h2:=h.ok.bs b o e;rcases h1 with z | z
    . exact h.ok.dm b o e z
    . exact Du (jj (fu h2.1) z) (Es _)
  . intro z;rcases Ba.mp (h.fq b z)with z | z
    . exact(hf b a).2.1 z
    . exact(hf b a).2.2.1 z
 have IY:mf (cC X t scope l s3.heap.objs.size s3 S fp) [] (xG Z w) S { s3 with heap:=h₁,toks:=s3.toks+([]:Ni (Str×Nu)).length }:=by
  refine⟨a6,rfl,h.bare,Un.kept old,⟨_,O,fun i x v e1 e2 _=>?_⟩,fun x c e=>?_,d5,fun x c e=>h.bt x c (sub x c e),fun p hp=>Du hp (by simp[cC]),h.hok.kept old,?_⟩
  . have R:(xG Z w)[i]?=ε (ε v):=e2;unfold xG at R;rw[u5]at R;cases q:w[i]? with
    | none=>rw[q]at R;cases R
    | some o=>
     rw[q]at R;cases o with
     | none=>cases R
     | some j=>
      have e3:(Z[j]?).join=ε v:=by simpa using R
      have e4:Z[j]?=ε (ε v):=by
       cases z:Z[j]? with
       | none=>rw[z]at e3;cases e3
       | some y=>rw[z]at e3;simpa using e3
      obtain⟨n1,n2,n3,n4⟩:=a8.get e1 q;obtain⟨m,_,hl⟩:=h.loc;have hv:L3 X.env.scope x:=.inr n2;obtain⟨u,r,lk⟩:=hl j x v n1 e4 hv;refine⟨u,r,.inr ⟨n3,?_⟩⟩;rcases lk with⟨k,_⟩ | ⟨_,c,ec,ob,z1,z2⟩
      . rcases n2 with n2 | n2<;>rw[k]at n2<;>cases n2
      . exact⟨c,n4.trans ec,ob,old c ob z1,z2⟩
  . obtain⟨v,o,z1,z2⟩:=h.cell x c (sub x c e);exact⟨v,o,old c o z1,z2⟩
  . show(xG Z w).length=t.length;unfold xG;rw[mq];exact a8.length
 obtain⟨W,⟨m0,w0⟩,turn⟩:=c4 s.heap.objs.size hD;rw[c5]at w0;have c3:tn 0 h₁:=T.keep 0 _ _ st fun b _ o e=>old b o (c9 b o e)
 have b5:∀{H':Hp},(∀b∈fp,H' b=none)->∀b∈fp,FE (cC X t scope l s3.heap.objs.size s3 S fp) [] H' b:=fun hn b a=>⟨hn b a,(a6.exf b a).1,a6.dq b a,.inl a,fun x c e=>(a6.exf b a).2 x c e,fun p hp=>Du hp (by simp[cC])⟩
 have a7:codeAny (model X.prog X.w) X.A (.compLoop (.ListComp B [⟨F,f,A,0⟩] scope pos) 0 (.ref it) (.ref s.heap.objs.size) (compEnvC scope l s3.heap.objs.size X.env)) (RR (.ref s.heap.objs.size) s3.heap.objs.size)
  { s3 with heap:=h₁,toks:=s3.toks+([]:Ni (Str×Nu)).length }:=by
  refine Vq (fun n s'=>∃i P ys H',mf (cC X t scope l s3.heap.objs.size s3 S fp) [] P H' s'/\tn i s'.heap/\(∀b∈fp,H' b=none)/\W i n P ys H') ?_ m0 ⟨0,_,[],S,IY,c3,f0,w0⟩;rintro n s4 ⟨i,a4,ys,H4,I4,c2,c6,w4⟩;rcases turn i n a4 ys H4 w4 with⟨stop,qn⟩ | ⟨go,step⟩
  . refine uB (T.done (cC X t scope l s3.heap.objs.size s3 S fp) rfl rfl rfl hc i [] s4 a4 H4 _ I4 (b5 c6) c2 stop) fun r s5 U=>?_
    obtain⟨hr,I5⟩:=U;subst hr;have I6:mf X L Z H4 s5:=h.call' (ch:=fp) I5.os I5.base I5.hok I5.bare fun b a=>⟨(hf b a).2.2.2.1,(hf b a).2.1,(hf b a).2.2.2.2.1,(hf b a).2.2.2.2.2⟩
    obtain⟨m,hn,_⟩:=I5.loc;exact d3 _ _ s5 H4 m I6 hn I5.free e0 e5 d8 d4 qn
  . refine uB (T.item (cC X t scope l s3.heap.objs.size s3 S fp) rfl rfl rfl hc i [] s4 a4 H4 _ I4 (b5 c6) c2 go) fun r s5 U=>?_
    obtain⟨u,hr,h5⟩:=U;subst hr;refine uB h5 fun _ s6 U=>?_
    obtain⟨x,H6,I6,r6,y6,b3,e6⟩:=U;have f2:=I6.pinned (b5 e6) (T.obj _ _ b3);refine uB (hg _ _ _ _ _ s6 a4 H6 x u _ f2 r6 (step x H6 y6)) fun _ s7 U=>?_
    obtain⟨b1,H7,I7,q7⟩:=U;refine uB (ht _ _ _ _ _ s7 b1 H7 _ I7 q7) fun b s8 U=>?_
    obtain⟨H8,I8,q8⟩:=U;have a2:∀{a3:St}{H9:Hp}{s9:Oe}{b2:Ni V},mf (cC X t scope l s3.heap.objs.size s3 S fp) ([]++UL fp s6.heap) a3 H9 s9->(∃Y,Y<n/\W (i+1) Y a3 b2 H9)->
     ∃Y,Y<n/\∃i P ys H',mf (cC X t scope l s3.heap.objs.size s3 S fp) [] P H' s9/\tn i s9.heap/\(∀b∈fp,H' b=none)/\W i Y P ys H':=fun {a3 H9 s9 b2} I9 ⟨Y,hm,w9⟩=>by
     refine⟨Y,hm,i+1,a3,b2,H9,I9.ff,T.keep _ _ _ b3 fun b a o e=>(I9.pin (b,o) (xr _ (xr _ (ZN a e)))).1,fun b a=>?_,w9⟩;obtain⟨o,e,d⟩:=T.obj _ _ b3 b a;exact(I9.pin (b,o) (xr _ (xr _ (ZN a e)))).2.1
    cases b with
    | false=>rw[dz Wk]at q8 ⊢;exact a2 I8 q8
    | true=>
     rw[dh rfl]at q8 ⊢;refine uB (he _ _ _ _ _ s8 b1 H8 _ I8 q8) fun y s9 U=>?_
     obtain⟨v,H9,I9,r9,d9,z9,w9⟩:=U;refine uB (fX (X:=cC X t scope l s3.heap.objs.size s3 S fp) _ s9 b1 H9 (.ref s.heap.objs.size) [v] (.ref s.heap.objs.size) [y] (fun _ H'=>H'=oB H9 s.heap.objs.size (.lst (ys++[v]))) I9 rfl (.cons r9 .nil) ⟨_,ys,v,rfl,rfl,d9,z9,rfl⟩) fun _ f4 U=>?_
     obtain⟨_,f5,f3,_,f1⟩:=U;subst f1;exact a2 f3 w9
 exact codeAny_compStart_list a7 (T.self X.A 0 _ _ _ c3 a7)
theorem uZ(hc:X.calm=true)(hi:PI X F f G)(r:fE X.env.cells scope.names []=ε l)(i:∀y∈scope.names,y.2≠.cell)(a:scope.kind=.function)
 (d:∀y∈scope.names,y.2=.local->scope.names.lookup y.1=ε .local) (u:av X scope l t w)
 (hg:∀C s0 E j,PG (cC X t scope l C s0 E j) F g) (ht:∀C s0 E j,cJ (cC X t scope l C s0 E j) A tc) (he:∀C s0 E j,PE (cC X t scope l C s0 E j) B te)
 (hs:∀x,foldedSetIterable f X.env x=pure x:=by intro _;rfl):PE X (.ListComp B [⟨F,f,A,0⟩] scope pos) (NS G g tc te w):=by
 intro p s O H Q I h;rw[eval_ListComp];refine wpAny_comprehension_free (use:=none) rfl hs (bW r) a d (uB (hi p s O H _ I h) fun v s1 h1=>uB h1 fun Z s2 h2=>?_);obtain⟨it,j,tn,J,H2,e,I2,T,L,f2,n⟩:=h2;subst e;refine cW hc r i a u hg ht he I2 T L f2 n fun C D P H' m I' hn Y W U S R q=>?_
 refine⟨m,hn,fun h' M=>⟨.ref D,H',?_,rfl,q⟩⟩;exact I'.turned (t':=P.toks) (fun b o hb e=>M.extBut b o hb e) Y W (.inr U) S R
theorem RV{i:Nat}{y:Str}{L n:Pos}(hc:X.calm=true)(hN:X.N.Nodup)(Y:X.N[i]?=ε y)(hy:X.env.scope.names.lookup y=ε .local)(hi:PI X F f G)(M:fE X.env.cells scope.names []=ε l)(r:∀y∈scope.names,y.2≠.cell)(d:scope.kind=.function)
 (j:∀y∈scope.names,y.2=.local->scope.names.lookup y.1=ε .local) (O:av X scope l t w)
 (hg:∀C s0 P u,PG (cC X t scope l C s0 P u) F g) (ht:∀C s0 P u,cJ (cC X t scope l C s0 P u) A tc) (he:∀C s0 P u,PE (cC X t scope l C s0 P u) B te)
 (U:swapsWith (.ListComp B [⟨F,f,A,0⟩] scope pos) (ε (.Name y L)) n.line X.env=pure true)
 (hs:∀x,foldedSetIterable f X.env x=pure x:=by intro _;rfl):PS X (.Assign [.Name y L] (.ListComp B [⟨F,f,A,0⟩] scope pos) n) (jQ (NS G g tc te w) (nP i)):=by
 intro p s σ H D I h;rw[exec_Assign_Name_used _ _ _ _ U];refine ao (wpAny_standAt (ao ?_));show wpAny _ X.A (do let _ <- comprehension (.ListComp B [⟨F,f,A,0⟩] scope pos) scope X.env _ (newList []) false (eval f X.env) (ε (assign (.Name y L) X.env))) _ _ s;refine ao (Hs (wpAny_comprehension_free (use:=ε (assign (.Name y L) X.env)) (Q:=fun _ S=>SP X p D .next S) rfl hs (bW M) d j
  (uB (hi p s σ H _ I h) fun v s1 h1=>uB h1 fun a0 s2 h2=>?_)) (fun _ S hq=>au (au hq)) fun _ _ e=>e)
 obtain⟨it,u,tn,J,H2,e,I2,T,R,f2,E⟩:=h2;subst e;refine cW (Q:=fun x H1=>nP i x σ H1 D.nx) hc M r d O hg ht he I2 T R f2 E fun C Dd S H' m I' hn n1 n2 n3 n4 n5 q=>?_
 show wpAny _ X.A (assign (.Name y L) X.env (.ref Dd)) _ _ _;refine wpAny_assign_Name (yX I' hN Y (.inl hy) (v:=.ref Dd) rfl (fun s4 I4 zz=>?_) (.inr hy));obtain⟨a,sb,ha⟩:=zz;have Z:C≠a:=by
  rcases ha with ha | ha
  . rw[ha];exact n2
  . exact fun z=>n4 _ _ ha z.symm
 refine⟨m,hn.sameBut sb Z,fun h' W=>⟨_,H',?_,q⟩⟩;exact I4.turned (t':=s4.toks) (fun b o hb e=>W.extBut b o hb e) n1 n2 (.inr n3) n4 n5
end
end L2
namespace SM
def LD(e:RG)(tc:RT)(te:RE)(s:mv):Nat->Nat->LI->HI->Ni Dt->Oa (Ni Dt×HI)
 | 0,_,_,_,_=>none
 | k+1,i,l,h,ys=>match s.at h i with
  | none=>none
  | some none=>ε (ys,h)
  | some (some d)=>(e d l).bind fun a=>(tc a h).bind fun b=>if b.1=true then(te a b.2).bind fun r=>if ys.length<sizeLine then LD e tc te s k (i+1) a r.2 (ys++[r.1])else none
   else LD e tc te s k (i+1) a b.2 ys
noncomputable def aF(l:LI)(a:Ni (Oa Nat)):LI:=a.map fun o=>match o with | some j=>(l[j]?).join | none=>none
def aD(g:RI)(b:RG)(tc:RT)(te:RE)(a:Ni (Oa Nat)):RE:=fun l h=>(g l h).bind fun r=>(LD b tc te r.1 (r.1.fuel r.2) 0 (aF l a) r.2 []).bind fun q=>ε (.lst q.1,q.2)
def UF(g:RI)(b:RG)(tc:RT)(te:RE)(a:Ni (Oa Nat)):RE:=fun l h=>(g l h).bind fun r=>(LD b tc te r.1 (r.1.fuel r.2) 0 (aF l a) r.2 []).bind fun q=>ε (.ref q.2.length,q.2++[.lst q.1])
noncomputable def nB:RT:=fun _ h=>ε (true,h)
theorem Kf{K:Ou}{H:Hp}{ρ:Rg}{l:LI}{f:L2.St}(L:Xu K H ρ l f)(a:Ni (Oa Nat)):Xu K H ρ (aF l a) (xG f a):=by
 refine⟨by simp[aF,xG],fun i d e=>?_⟩;unfold aF at e;unfold xG;rw[u5]at e ⊢;cases q:a[i]? with
 | none=>rw[q]at e;cases e
 | some o=>
  rw[q]at e;cases o with
  | none=>cases e
  | some j=>
   have b:(l[j]?).join=ε d:=by simpa using e
   have m:l[j]?=ε (ε d):=by
    cases z:l[j]? with
    | none=>rw[z]at b;cases b
    | some y=>rw[z]at b;simpa using b
   obtain⟨v,h,g⟩:=L.val j d m;refine⟨v,?_,g⟩;simp[h]
section
variable{X:Cx}{elt iter tg:Oo}{a:Ni Oo}{scope:Scope}{cl:Ni (Str×Oi)}{pos:Pos}{Nc:Ni Str}{g:RI}{bd:RG}{tc:RT}{te:RE}{cap:Ni (Oa Nat)}
@[irreducible] def CM(X:Cx)(a:Ni Oo)(f:RT):Prop:=cJ X a (FP X.K f)
theorem BD:CM X [] nB:=by unhygienic exact fun d s f H Q I q=>by obtain⟨i,l,h,b,j,S,L,e,k⟩:=q;cases e;exact Lr d s f H Q I (k i H S (mo.refl _ _))
theorem yS{c:Oo}{f:RT}(h:TM X c f):CM X [c] f:=by unhygienic exact Mr h
end
section
variable{K:Ou}{H:Hp}{ρ:Rg}{p:Oi}{o:HO}{h:HI}
theorem Jm{a:Oi}{u:HO}(b:H p=none)(e:H a=ε u)(n:ρ.no a):(ρ.hide p).no a:=
 ⟨n.1,fun z=>by
  rcases Ba.mp z with z | z
  . rw[z,b]at e;cases e
  . exact n.2 z⟩
theorem mo.hE{b:Rg}{H':Hp}(x:mo (ρ.hide p) b H H'):∃a,b=a.hide p/\mo ρ a H H':=by
 refine⟨⟨b.v,ρ.z⟩,?_,⟨x.pre,rfl,x.keep,x.live,x.fz⟩⟩;have e:=x.hid;cases b with
 | mk v z=>have d:z=p::ρ.z:=e;subst d;rfl
theorem mo.ip{b:Rg}{g:Hp}(x:mo ρ b H g)(d:H p=none):mo ρ b H (oB g p o):=
 ⟨x.pre,x.hid,fun a u e n=>by rw[XA (MC e d)];exact x.keep a u e n,fun a e=>by
  by_cases f:a=p
  . rw[f];exact d
  . rw[XA f]at e;exact x.live a e,fun a q u e=>by rw[XA (MC e d)];exact x.fz a q u e⟩
theorem bq.same{i:Rg}{m:Hp}{a:Oi}{u:Ob}(x:am ρ i H m)(e:m a=H a)(q:bq K H ρ a u):bq K m i a u:=by
 cases u with
 | lst s=>obtain⟨b,f,d⟩:=q;exact⟨b,e.trans f,Ru.same x _ d⟩
 | ins y fs=>obtain⟨C,r,b,n,f,d,g⟩:=q;exact⟨C,r,b,n,e.trans f,d,Ru.same x _ g⟩
 | dk j=>obtain⟨b,f,d,g⟩:=q;exact⟨b,e.trans f,d,Ru.same x _ g⟩
 | dt j=>obtain⟨b,f,d,g⟩:=q;exact⟨b,e.trans f,d,Ru.same x _ g⟩
 | df j=>obtain⟨o,b,f,d,g⟩:=q;exact⟨o,b,e.trans f,d,Ru.same x _ g⟩
theorem Xu.same{a:Rg}{b:Hp}{l:LI}{σ:L2.St}(x:am ρ a H b)(L:Xu K H ρ l σ):Xu K b a l σ:=
 ⟨L.len,fun i d e=>let ⟨v,e1,r⟩:=L.val i d e;⟨v,e1,Te.same x d r⟩⟩
theorem rX(b:H p=none):am ρ (ρ.hide p) H (oB H p o):=
 ⟨fun z z e n=>Jm b e n,fun a u e z=>by rw[XA (MC e b)];exact e,fun z z e=>e,fun a q u e=>by rw[XA (MC e b)];exact e⟩
theorem bR{o:HO}(b:vT H p):am (ρ.hide p) (ρ.hide p) H (oB H p o):=
 ⟨fun v v v n=>n,fun a u e n=>by rw[XA (fun z=>n.2 (by rw[z];exact um))];exact e,fun v v e=>e,fun a q u e=>by rw[XA (fun z:a=p=>b q u (by rw[<- z];exact e))];exact e⟩
theorem sX:am (ρ.hide p) ρ H H:=⟨fun q q q n=>⟨n.1,fun z=>n.2 (nW _ z)⟩,fun q q e q=>e,fun q q e=>e,fun q q q e=>e⟩
theorem BY:am (ρ.hide p) (ρ.add p) H H:=
 ⟨fun a q q n=>⟨fun z=>(Bo.mp z).elim n.1 fun z=>n.2 (by rw[Ao.mp z];exact um),fun z=>n.2 (nW _ z)⟩,fun q q e q=>e,fun n a e=>by
  have b:ρ.v[n]?=ε a:=e;have:=(Wi b).1;show(ρ.v++[p])[n]?=ε a;rw[Xa this];exact b,fun q q q e=>e⟩
theorem Us.hide{xs:Ni V}(S:Us K ρ h H)(b:H p=none):Us K (ρ.hide p) h (oB H p (.lst xs)):=
 ⟨S.nd,S.len,fun n a u d e2=>(S.ob n a u d e2).same (rX b) (XA (fun z=>(S.out b).1 (z ▸ ju d))),fun a f=>by
  rcases Ba.mp f with z | z
  . rw[z];exact⟨(S.out b).1,xs,fC⟩
  . obtain⟨m,u,e⟩:=S.zt a z;exact⟨m,u,by rw[XA (MC e b)];exact e⟩⟩
theorem Us.iq{xs:Ni V}(S:Us K (ρ.hide p) h H):Us K (ρ.hide p) h (oB H p (.lst xs)):=
 ⟨S.nd,S.len,fun n a u d e2=>(S.ob n a u d e2).same (bR (sH (S.zt p um).2.choose_spec)) (XA (fun z=>(S.zt p um).1 (z ▸ ju d))),fun a f=>by
  obtain⟨m,u,e⟩:=S.zt a f;by_cases b:a=p
  . subst b;exact⟨m,xs,fC⟩
  . exact⟨m,u,by rw[XA b];exact e⟩⟩
theorem Us.show(S:Us K (ρ.hide p) h H):Us K ρ h H:=
 ⟨S.nd,S.len,fun n a u d e2=>(S.ob n a u d e2).same sX rfl,fun a b=>S.zt a (nW _ b)⟩
theorem Us.ir(S:Us K (ρ.hide p) h H)(hz:p∉ρ.z){ds:Ni Dt}{vs:Ni V}(e:H p=ε (.lst vs))(R:Ru K H (ρ.hide p) ds vs):Us K (ρ.add p) (h++[.lst ds]) H:=by
 have q:=(S.zt p um).1;refine⟨?_,by simp![Rg.add];rw[iu,iu,<- S.len];rfl,fun n a ob d e2=>?_,fun a g=>?_⟩
 . simp![Rg.add];rw[nodup_append];refine⟨S.nd,Li.mpr ⟨by simp,nodup_nil⟩,fun a g b r=>?_⟩;rw[Ao.mp r];intro z;exact q (z ▸ g)
 . simp![Rg.add]at d;have j:ρ.v.length=h.length:=S.len;by_cases i:n<h.length
   . rw[Xa i]at e2;rw[Xa (by rw[j];exact i)]at d;exact(S.ob n a ob d e2).same BY rfl
   . have f:h.length<=n:=Iu.mp i;rw[Zo f]at e2;rw[Zo (by rw[j];exact f),j]at d;cases m:n-h.length with
     | zero=>rw[m]at d e2;simp at d e2;subst d e2;exact⟨vs,e,Ru.same BY _ R⟩
     | succ k=>rw[m]at e2;simp at e2
 . obtain⟨n,u,s⟩:=S.zt a (nW _ g);refine⟨fun hm=>?_,u,s⟩;rcases Bo.mp hm with hm | hm
   . exact n hm
   . exact hz ((Ao.mp hm) ▸ g)
end
section
variable{X:Cx}{s f j:Oo}{p:Ni Oo}{scope:Scope}{t:Ni (Str×Oi)}{pos:Pos}{Nc:Ni Str}{g:RI}{A:RG}{tc:RT}{te:RE}{c:Ni (Oa Nat)}
theorem MN{σ:L2.St}{H:Hp}{Q:VK}(own:Bool){d:Dt}{h':HI}{ρ:Rg}{l:LI}{h:HI}(S:Us X.K ρ h H)(L:Xu X.K H ρ l σ)
 (e:(if own=true then UF g A tc te c else aD g A tc te c) l h=ε (d,h')) (k:Out X.K ρ H d h' Q):NS (iM X.K g) (gM X.K A) (FP X.K tc) (tM X.K te) c σ H Q:=by
 have e0:∃I M,g l h=ε (I,M)/\∃E F,LD A tc te I (I.fuel M) 0 (aF l c) M []=ε (E,F)/\h'=(if own=true then F++[.lst E]else F)/\d=(if own=true then .ref F.length else .lst E):=by
  cases own with
  | true=>rw[dh rfl]at e;obtain⟨⟨I,M⟩,e1,e⟩:=oA e;obtain⟨⟨E,F⟩,e2,e⟩:=oA e;cases e;exact⟨I,M,e1,E,F,e2,rfl,rfl⟩
  | false=>rw[dz Wk]at e;obtain⟨⟨I,M⟩,e1,e⟩:=oA e;obtain⟨⟨E,F⟩,e2,e⟩:=oA e;cases e;exact⟨I,M,e1,E,F,e2,rfl,rfl⟩
 obtain⟨I,M,e1,zs,F,e2,eh,ed⟩:=e0;refine⟨ρ,l,h,I,M,S,L,e1,fun O J H1 ok S1 E1 D W=>?_⟩;have a3:D∉O.z:=(S1.out W).2;refine⟨fun i m a0 E H'=>∃r l' h' ds,Us X.K (r.hide D) h' H'/\Xu X.K H' (r.hide D) l' a0/\mo O r H1 H'/\H' D=ε (.lst E)/\Ru X.K H' (r.hide D) ds E/\LD A tc te I m i l' h' ds=ε (zs,F),?_,?_⟩
 . exact⟨_,O,_,M,[],S1.hide W,Kf (Xu.same (rX W) (L.ext E1)) c,mo.fresh W,fC,.nil,e2⟩
 . rintro i m a0 E H' ⟨r,l',h3,ds,Z,L',C,R,R',B⟩;cases m with
   | zero=>simp![LD]at B;cases B
   | succ m=>
    simp![LD]at B;have sm:am O (r.hide D) H1 H':=⟨fun a u z n=>⟨(C.gf z n).1,fun w=>by
     rcases Ba.mp w with w | w
     . rw[w,W]at z;cases z
     . exact(C.gf z n).2 w⟩,fun a u z n=>C.keep a u z n.1,fun n a z=>C.get z,C.fz⟩
    have P:=ok H' (r.hide D) h3 sm Z i;cases q:I.at h3 i with
    | none=>rw[q]at B;cases B
    | some o=>
     rw[q]at B P;cases o with
     | none=>
      cases B;refine .inl ⟨P,?_⟩;have nD:r.no D:=⟨(Z.zt D um).1,by rw[C.hid];exact a3⟩;cases own with
      | false=>rw[dz Wk]at eh ed;subst eh ed;exact k r _ H' (bn.mpr ⟨D,E,rfl,.inl ⟨nD,.inl R⟩,Ru.same sX _ R'⟩) Z.show (E1.trans C)
      | true=>
       rw[dh rfl]at eh ed;subst eh ed;refine k (r.add D) _ H' (Zi.mpr ⟨D,rfl,?_⟩) (Z.ir nD.2 R R') (E1.trans ⟨?_,C.hid,C.keep,C.live,C.fz⟩)
       . have hl:r.v.length=F.length:=Z.len;show(r.v++[D])[F.length]?=ε D;rw[<- hl,Zo (Ue _),Cu];rfl
       . obtain⟨x,q1,q2⟩:=C.pre;refine⟨x++[D],by show r.v++[D]=_;rw[q1,ou],fun a ha=>?_⟩;rcases Bo.mp ha with ha | ha
         . exact q2 a ha
         . rw[Ao.mp ha];exact W
     | some d0=>
      dsimp only at B;obtain⟨l1,b1,B⟩:=oA B;obtain⟨⟨b,h4⟩,b2,B⟩:=oA B;refine .inr ⟨P.1,fun v H3 y=>?_⟩;obtain⟨R3,Y,S3⟩:=P.2 v H3 y;have a1:=(Z.zt D um).1;refine⟨r.hide D,l',h3,d0,l1,S3,L'.ext Y,R3,b1,fun a4 L4=>⟨r.hide D,l1,h3,b,h4,S3,L4,b2,fun a2 H5 S5 T=>?_⟩⟩;cases b with
      | true=>
       dsimp only at B;rw[dh rfl]at B;obtain⟨⟨d5,h5⟩,b3,B⟩:=oA B;by_cases hz:ds.length<sizeLine
       . rw[dh hz]at B;refine HG ⟨a2,l1,h4,d5,h5,S5,L4.ext T,b3,fun a5 v6 H6 R6 S6 E6=>⟨?_,by rw[R'.length];exact hz,m,yu _,?_⟩⟩
         . exact(Y.trans (T.trans E6)).keep D _ R a1
         . obtain⟨U,rfl,E7⟩:=(Y.trans (T.trans E6)).hE;refine⟨U,l1,h5,ds++[d5],S6.iq,Xu.same (bR (sH (S6.zt D um).2.choose_spec)) (L4.ext (T.trans E6)),(C.trans E7).ip W,fC,?_,B⟩;exact Ru.same (bR (sH (S6.zt D um).2.choose_spec)) _ ((R'.ext (Y.trans (T.trans E6))).append (.cons R6 .nil))
       . rw[dz hz]at B;cases B
      | false=>dsimp only at B;rw[dz Wk]at B;refine GG ⟨m,yu _,?_⟩;obtain⟨U,rfl,E7⟩:=(Y.trans T).hE;exact⟨U,l1,h4,ds,S5,L4.ext T,C.trans E7,(Y.trans T).keep D _ R a1,R'.ext (Y.trans T),B⟩
theorem iG(i:Nat){x:Str}{pos:Pos}(e:decide X.N.Nodup=true:=by kernel_rfl)(b:X.N[i]?=ε x:=by rfl)(a:FM X.env.scope x:=by first | exact Or.inl rfl | exact Or.inr rfl)(d:X.fn x=true\/X.env.scope.names.lookup x=ε .local:=by first | exact .inl rfl | exact .inr rfl | assumption):GM X (.Name x pos) (CA i):=kD i (of_decide_eq_true e) b a d
theorem OE(q:IM X j f g)(r:∀{C s0 H0 fp},GM (cC X (VH j X.N c) scope t C s0 H0 fp) j A)(o:∀{C s0 H0 fp},CM (cC X (VH j X.N c) scope t C s0 H0 fp) p tc)(he:∀{C s0 H0 fp},EM (cC X (VH j X.N c) scope t C s0 H0 fp) s te)
 (u:X.calm=true:=by rfl) (i:∀y∈scope.names,y.2≠.cell:=by decide +kernel) (b:scope.kind=.function:=by rfl)
 (a:∀y∈scope.names,y.2=.local->scope.names.lookup y.1=ε .local:=by decide +kernel) (n:fE X.env.cells scope.names []=ε t:=by rfl) (m:av X scope t (VH j X.N c) c:=by repeat' first | exact trivial | exact⟨rfl,.inl rfl,.inl rfl,rfl⟩ | refine⟨?_,?_⟩)
 (hs:∀x,foldedSetIterable f X.env x=pure x:=by intro _;rfl):EM X (.ListComp s [⟨j,f,p,0⟩] scope pos) (aD g A tc te c):=by
 unhygienic exact PE.imp (uZ (g:=gM X.K A) (tc:=FP X.K tc) (te:=tM X.K te) u q n i b a m (fun z z z z=>r) (fun z z z z=>o) (fun z z z z=>he) hs) fun B H Q ⟨D,l,h,d,E,S,L,e,k⟩=>MN (X:=X) false S L e k
theorem ZW(q:IM X j f g)(r:∀{C s0 H0 fp},GM (cC X (VH j X.N c) scope t C s0 H0 fp) j A)(o:∀{C s0 H0 fp},CM (cC X (VH j X.N c) scope t C s0 H0 fp) p tc)(he:∀{C s0 H0 fp},EM (cC X (VH j X.N c) scope t C s0 H0 fp) s te)
 (u:X.calm=true:=by rfl) (i:∀y∈scope.names,y.2≠.cell:=by decide +kernel) (b:scope.kind=.function:=by rfl)
 (a:∀y∈scope.names,y.2=.local->scope.names.lookup y.1=ε .local:=by decide +kernel) (n:fE X.env.cells scope.names []=ε t:=by rfl) (m:av X scope t (VH j X.N c) c:=by repeat' first | exact trivial | exact⟨rfl,.inl rfl,.inl rfl,rfl⟩ | refine⟨?_,?_⟩)
 (hs:∀x,foldedSetIterable f X.env x=pure x:=by intro _;rfl):EM X (.ListComp s [⟨j,f,p,0⟩] scope pos) (UF g A tc te c):=by
 unhygienic exact PE.imp (uZ (g:=gM X.K A) (tc:=FP X.K tc) (te:=tM X.K te) u q n i b a m (fun z z z z=>r) (fun z z z z=>o) (fun z z z z=>he) hs) fun B H Q ⟨D,l,h,d,E,S,L,e,k⟩=>MN (X:=X) true S L e k
theorem TQ(i:Nat){y:Str}{E b:Pos}(R:X.N.Nodup)(O:IM X j f g)(P:∀{C s0 H0 fp},GM (cC X (VH j X.N c) scope t C s0 H0 fp) j A)(M:∀{C s0 H0 fp},CM (cC X (VH j X.N c) scope t C s0 H0 fp) p tc)(he:∀{C s0 H0 fp},EM (cC X (VH j X.N c) scope t C s0 H0 fp) s te)
 (Q:X.calm=true:=by rfl) (m:∀y∈scope.names,y.2≠.cell:=by decide +kernel) (d:scope.kind=.function:=by rfl)
 (a:∀y∈scope.names,y.2=.local->scope.names.lookup y.1=ε .local:=by decide +kernel) (B:fE X.env.cells scope.names []=ε t:=by rfl) (n:av X scope t (VH j X.N c) c:=by repeat' first | exact trivial | exact⟨rfl,.inl rfl,.inl rfl,rfl⟩ | refine⟨?_,?_⟩)
 (q:swapsWith (.ListComp s [⟨j,f,p,0⟩] scope pos) (ε (.Name y E)) b.line X.env=pure true:=by rfl)
 (u:X.N[i]?=ε y:=by rfl) (J:X.env.scope.names.lookup y=ε .local:=by rfl) (hs:∀x,foldedSetIterable f X.env x=pure x:=by intro _;rfl) :
 ZM X (.Assign [.Name y E] (.ListComp s [⟨j,f,p,0⟩] scope pos) b) (AA i (aD g A tc te c)):=by
 unhygienic exact PS.imp (RV (g:=gM X.K A) (tc:=FP X.K tc) (te:=tM X.K te) Q R u J O B m d a n (fun z z z z=>P) (fun z z z z=>M) (fun z z z z=>he) q hs) fun D Z H I=>by obtain⟨ρ,l,h,r,S,L,e,k⟩:=I;obtain⟨⟨d1,h1⟩,T,e⟩:=oA e;cases e;exact MN (X:=X) false S L T fun o v Y W U F=>k o _ Y U ((L.ext F).set i W) F
theorem FQ(i:Nat){y:Str}{E b:Pos}(R:X.N.Nodup)(O:IM X j f g)(P:∀{C s0 H0 fp},GM (cC X (VH j X.N c) scope t C s0 H0 fp) j A)(M:∀{C s0 H0 fp},CM (cC X (VH j X.N c) scope t C s0 H0 fp) p tc)(he:∀{C s0 H0 fp},EM (cC X (VH j X.N c) scope t C s0 H0 fp) s te)
 (Q:X.calm=true:=by rfl) (m:∀y∈scope.names,y.2≠.cell:=by decide +kernel) (d:scope.kind=.function:=by rfl)
 (a:∀y∈scope.names,y.2=.local->scope.names.lookup y.1=ε .local:=by decide +kernel) (B:fE X.env.cells scope.names []=ε t:=by rfl) (n:av X scope t (VH j X.N c) c:=by repeat' first | exact trivial | exact⟨rfl,.inl rfl,.inl rfl,rfl⟩ | refine⟨?_,?_⟩)
 (q:swapsWith (.ListComp s [⟨j,f,p,0⟩] scope pos) (ε (.Name y E)) b.line X.env=pure true:=by rfl)
 (u:X.N[i]?=ε y:=by rfl) (J:X.env.scope.names.lookup y=ε .local:=by rfl) (hs:∀x,foldedSetIterable f X.env x=pure x:=by intro _;rfl) :
 ZM X (.Assign [.Name y E] (.ListComp s [⟨j,f,p,0⟩] scope pos) b) (AA i (UF g A tc te c)):=by
 unhygienic exact PS.imp (RV (g:=gM X.K A) (tc:=FP X.K tc) (te:=tM X.K te) Q R u J O B m d a n (fun z z z z=>P) (fun z z z z=>M) (fun z z z z=>he) q hs) fun D Z H I=>by obtain⟨ρ,l,h,r,S,L,e,k⟩:=I;obtain⟨⟨d1,h1⟩,T,e⟩:=oA e;cases e;exact MN (X:=X) true S L T fun o v Y W U F=>k o _ Y U ((L.ext F).set i W) F
end
end SM
namespace L2
section
variable{X:Cx}{elt iter tg:Oo}{ifs:Ni Oo}{scope:Scope}{cl:Ni (Str×Oi)}{pos:Pos}{Nc:Ni Str}{wi:TI}{g:TG}{tc:TT}{te:TE}{cap:Ni (Oa Nat)}{x0:Str}
end
end L2
namespace SM
section
variable{X:Cx}{elt iter tg:Oo}{ifs:Ni Oo}{scope:Scope}{cl:Ni (Str×Oi)}{pos:Pos}{Nc:Ni Str}{g:RI}{bd:RG}{tc:RT}{te:RE}{cap:Ni (Oa Nat)}{x0:Str}
end
noncomputable def WB:Ni Dt->Oa (Ni Int)
 | []=>ε []
 | .int i::ds=>(WB ds).map fun ns=>i::ns
 | _::_=>none
theorem YD:∀{ds:Ni Dt}{ns:Ni Int},WB ds=ε ns->ds=ns.map Dt.int
 | [],_,e=>by simp![WB]at e;cases e;rfl
 | d::ds,_,e=>by
  cases d with
  | int i=>
   simp![WB]at e;cases q:WB ds with
   | none=>rw[q]at e;cases e
   | some ns=>rw[q]at e;cases e;rw[YD q];rfl
  | _=>simp![WB]at e<;>cases e
theorem Ay(A:Pu):A.in1.units<=A.units+1:=by first | exact Ue _ | simp[Around.in1]
theorem YN{h:Ri}{a:Oi}{its:Ra Nu}(p:IsTup h a its):h.IsTuple a its:=by obtain⟨o,e,d,n,b⟩:=p;exact⟨o,e,d,n,b⟩
def BP:Dt->Dt->Bool
 | .tup xs,.tup ys=>decide (WB xs=WB ys)
 | _,_=>false
def iH:Dt->Bool
 | .tup a=>(WB a).isSome
 | _=>false
def XJ:Ni Dt->Bool
 | []=>true
 | x::xs=>iH x&&XJ xs
noncomputable def OP(_:Dt):Nat:=1
def fK:Ni Dt->Nat
 | []=>0
 | x::xs=>max (OP x) (fK xs)
theorem jO:∀{d:Dt},iH d=true->∃a ns,d=.tup a/\WB a=ε ns
 | .tup a,p=>by obtain⟨ns,e⟩:=Option.isSome_iff_exists.mp (show(WB a).isSome=true from p);exact⟨a,ns,rfl,e⟩
 | .non,p=>nomatch (show false=true from p)
 | .bl _,p=>nomatch (show false=true from p)
 | .int _,p=>nomatch (show false=true from p)
 | .str _,p=>nomatch (show false=true from p)
 | .lst _,p=>nomatch (show false=true from p)
 | .ref _,p=>nomatch (show false=true from p)
 | .ntp _,p=>nomatch (show false=true from p)
section
variable{X:Cx}{c:Ni (Oi×Obj)}{f:L2.St}{H:Hp}{s:Oe}{ρ:Rg}
theorem uI:∀{ns:Ni Int}{vs:Ni V},Ru X.K H ρ (ns.map Dt.int) vs->vs=ns.map V.int
 | [],_,r=>r.ar
 | n::ns,_,r=>by obtain⟨v,d,rfl,b,a⟩:=r.Ys;rw[Ws.mp b,uI a];rfl
theorem mR{A:Pu}:∀{ns b:Ni Int}{us a:Ni Nu},mh (ns.map V.int) us->mh (b.map V.int) a->∀(j:Nat)(h1:j<us.length)(h2:j<a.length),SeqAt.EqAt A s us[j] a[j] (decide (ns[j]?=b[j]?))
 | [],_,_,_,.nil,_,_,h1,_=>Du h1 ⋯
 | _::_,[],_,_,_,.nil,_,_,h2=>Du h2 ⋯
 | n::ns,m::b,_,_,.cons q1 _,.cons q2 _,0,_,_=>by
  obtain⟨t,rfl⟩:=q1;obtain⟨d,rfl⟩:=q2;have e:decide ((n::ns)[0]?=(m::b)[0]?)=(n==m):=by rw[Bool.eq_iff_iff];simp
  rw[e];exact SeqAt.EqAt.int_int n t m d
 | _::_,_::_,_,_,.cons _ q1,.cons _ q2,j+1,h1,h2=>mR q1 q2 j (Nat.lt_of_succ_lt_succ h1) (Nat.lt_of_succ_lt_succ h2)
theorem RX(ns d:Ni Int):((List.range (min ns.length d.length)).all (fun j=>decide (ns[j]?=d[j]?))&&ns.length==d.length)=decide (ns=d):=by
 rw[Bool.eq_iff_iff];simp![vm,all_eq_true,Bu,decide_eq_true_eq,beq_iff_eq];constructor
 . rintro⟨a,b⟩;refine ext_getElem? fun j=>?_
   by_cases e:j<ns.length
   . exact a j nofun
   . rw[jo nofun,jo nofun]
 . rintro rfl;exact⟨fun q q=>rfl,rfl⟩
theorem MY(I:mf X c f H s)(d d':Dt){v:V}(p:iH d=true)(o:iH d'=true)(r:Te X.K H ρ d v)(m:Te X.K H ρ d' v):d=d':=by obtain⟨y,ns,rfl,e⟩:=jO p;obtain⟨x,D,rfl,u⟩:=jO o;obtain⟨a,C,z,q,j⟩:=ai.mp r;obtain⟨b,B,i,n,g⟩:=ai.mp m;rw[z]at i;cases i;cases I.gy q.sq n.sq;rw[YD e]at j ⊢;rw[YD u]at g ⊢;have:=(uI j).symm.trans (uI g);rw[map_inj_right (fun t t h=>by cases h;rfl)]at this;rw[this]
theorem yp(I:mf X c f H s)(d d':Dt){v B:V}{u C:Nu}(A:Pu)(p:iH d=true)(J:iH d'=true)(U:A.units+OP d<cLine)(r:Te X.K H ρ d v)(F:Te X.K H ρ d' B)(q:mr v u)(S:mr B C):SeqAt.EqAt A s u C (BP d d'):=by
 obtain⟨y,ns,rfl,e⟩:=jO p;obtain⟨x,L,rfl,o⟩:=jO J;obtain⟨a,vs,z,t,E⟩:=ai.mp r;obtain⟨b,Z,P,R,h⟩:=ai.mp F;subst z P;cases q;cases S;have n:A.units<cLine:=Di (Le _ _) U;have O:BP (.tup y) (.tup x)=decide (ns=L):=by show decide (WB y=WB x)=_;rw[e,o,Bool.eq_iff_iff];simp
 by_cases i:a=b
 . subst i;cases MY I _ _ p J r F;cases e.symm.trans o;rw[O,eO rfl];exact SeqAt.EqAt.same _
 . refine .of_refs i ?_;obtain⟨T,D,Q,_⟩:=I.tuple t.sq;obtain⟨M,g,m,_⟩:=I.tuple R.sq;rw[YD e]at E;rw[YD o]at h;cases uI E;cases uI h;have z:=SeqAt.RcAt.tuples (e:=fun j=>decide (ns[j]?=L[j]?)) (YN Q) (YN m) n fun j Y W=>mR D g j Y W
   rw[cG,cG,<- D.length,<- g.length,mq,mq,RX]at z;rw[O];exact z
end
section
variable{X:Cx}{a b c e:Oo}{es:Ni Oo}{fa fb fc f:RE}{g:RA}{p p2 pos:Pos}
def YA:sD:=T3
def tD:sD:=V3
theorem OB(_:X.A.units+64<cLine):OM X (compareOp .Eq) YA:=K1
theorem QE(_:X.A.units+64<cLine):OM X (compareOp .NotEq) tD:=W1
def YE:Ni Dt->Oa (Ni V)
 | []=>ε []
 | d::ds=>(GD d).bind fun v=>(YE ds).map fun h=>v::h
theorem pW{K:Ou}{H:Hp}{ρ:Rg}:∀{ds:Ni Dt}{h vs:Ni V},YE ds=ε h->Ru K H ρ ds vs->vs=h
 | [],_,_,e,r=>by simp![YE]at e;cases e;exact r.ar
 | d::ds,_,_,e,r=>by
  simp![YE]at e;obtain⟨v,m,e⟩:=oA e;cases q:YE ds with
  | none=>rw[q]at e;cases e
  | some vs=>rw[q]at e;cases e;obtain⟨n,o,z,j,i⟩:=r.Ys;subst z;rw[KJ m j,pW q i]
theorem BZ{d:Dt}{v:V}(e:GD d=ε v):yG v=true:=by cases d<;>simp![GD]at e<;>first | (cases e;rfl) | cases e
theorem fZ:∀{ds:Ni Dt}{h:Ni V},YE ds=ε h->h.all yG=true
 | [],_,e=>by simp![YE]at e;cases e;rfl
 | d::ds,_,e=>by
  simp![YE]at e;obtain⟨v,i,e⟩:=oA e;cases q:YE ds with
  | none=>rw[q]at e;cases e
  | some j=>rw[q]at e;cases e;rw[Ka,BZ i,fZ q];rfl
def jJ(neg:Bool):sD:=fun a b h=>(GD a).bind fun x=>(eD h b).bind fun d=>(YE d).bind fun zs=>ε (.bl (if neg then !CP x zs else CP x zs),h)
theorem jZ{neg:Bool}{x y:V}{H:Hp}{Q:VK}(h:rM X.K (jJ neg) x y H Q):J5 X.K neg x y H Q:=by obtain⟨m,h,F,E,d,D,S,u,R2,e,k⟩:=h;obtain⟨C,j,e⟩:=oA e;obtain⟨B,e2,e⟩:=oA e;obtain⟨zs,i,e⟩:=oA e;cases e;obtain⟨p,n,s,sq,r⟩:=QL S R2 e2;have q:=pW i r;subst q;have o:=KJ j u;subst o;exact⟨p,n,s,sq,BZ j,fZ i,k m _ H (Yo.mpr rfl) S (mo.refl _ _)⟩
theorem z8:OM X (compareOp .In) (jJ false):=by unhygienic exact nc.imp Gk fun q q q q h=>jZ h
theorem Br:OM X (compareOp .NotIn) (jJ true):=by unhygienic exact nc.imp Lq fun q q q q h=>jZ h
def uH:sD:=fun a b h=>(EA h a).bind fun i=>(EA h b).bind fun d=>if i.length+d.length<=sizeLine then ε (.lst (i++d),h)else none
def ZE:sD:=fun a b h=>(EA h a).bind fun i=>(EA h b).bind fun d=>if i.length+d.length<=sizeLine then ε (.ref h.length,h++[.lst (i++d)])else none
theorem kS:OM X (binaryOp .Add) uH:=by unhygienic exact nc.imp sZ fun x y H Q o=>by obtain⟨n,h,L,J,d,I,S,D,R2,e,k⟩:=o;obtain⟨F,C,e⟩:=oA e;obtain⟨E,e2,e⟩:=oA e;obtain⟨B,e⟩:=oF e;cases e;obtain⟨l,u,r,q1,m⟩:=ZC S D C;obtain⟨b,s,q,q2,j⟩:=ZC S R2 e2;exact⟨l,b,u,s,r,q,q1,q2,by rw[m.length,j.length];exact B,fun p i=>k n _ _ (WJ S (m.append j) i) (S.fresh i) (mo.fresh i)⟩
theorem ZG:OM X (binaryOp .Add) ZE:=by unhygienic exact nc.imp sZ fun x y H Q n=>by obtain⟨D,h,L,J,d,I,S,C,R2,e,k⟩:=n;obtain⟨F,B,e⟩:=oA e;obtain⟨E,e2,e⟩:=oA e;obtain⟨u,e⟩:=oF e;cases e;obtain⟨l,s,q,q1,j⟩:=ZC S C B;obtain⟨b,r,o,q2,i⟩:=ZC S R2 e2;exact⟨l,b,s,r,q,o,q1,q2,by rw[j.length,i.length];exact u,fun p m=>k _ _ _ (OH S (j.append i) m).1 (OH S (j.append i) m).2 (mo.own m)⟩
noncomputable def LB(F:Dt->HI->Oa (Dt×HI))(f:RE):RE:=fun l h=>(f l h).bind fun r=>F r.1 r.2
theorem kK{x:Str}{o:String}{r:Ni V->Hp->VK->Prop}{F:Dt->HI->Oa (Dt×HI)}(I:Zu X (.builtin o) r)(M:∀i h d v u j H Q,Us X.K i h H->Te X.K H i d v->F d h=ε (u,j)->Out X.K i H u j Q->r [v] H Q)
 (E:Gl X x) (D:X.mg x=none) (B:bootBuiltins x=ε (.builtin o)) (J:EM X e f) (C:x ≠ "__name__" :=by decide) (n:(x==("__debug__" :Str))=false:=by decide) (hs:lB e=true:=by rfl) :
 EM X (.Call (.Name x p) [e] [] pos) (LB F f):=by
 unhygienic exact PE.imp (JJ I E D B (bC J RC (bB hs _ _)) C n (he:=bB hs _ _)) fun W H Q y=>by obtain⟨i,l,h,d,j,S,L,e,k⟩:=y;obtain⟨⟨s,q⟩,O,e⟩:=oA e;exact⟨i,l,h,s,q,S,L,O,fun m v T R P U=>M m q s v d j T Q P R e (k.ext U)⟩
theorem lT{x:Str}{T:String}{r:Ni V->Hp->VK->Prop}{F:Dt->HI->Oa (Dt×HI)}(E:Zu X (.type T) r)(J:∀i h d v s j H Q,Us X.K i h H->Te X.K H i d v->F d h=ε (s,j)->Out X.K i H s j Q->r [v] H Q)
 (D:Gl X x) (C:X.mg x=none) (y:bootBuiltins x=ε (.type T)) (I:EM X e f) (B:x ≠ "__name__" :=by decide) (n:(x==("__debug__" :Str))=false:=by decide) (hs:lB e=true:=by rfl) :
 EM X (.Call (.Name x p) [e] [] pos) (LB F f):=by
 unhygienic exact PE.imp (qR E D C y (bC I RC (bB hs _ _)) B n (he:=bB hs _ _)) fun W H Q u=>by obtain⟨i,l,h,d,j,S,L,e,k⟩:=u;obtain⟨⟨q,o⟩,M,e⟩:=oA e;exact⟨i,l,h,q,o,S,L,M,fun m v R P O U=>J m o q v d j R Q O P e (k.ext U)⟩
def xB:Dt->HI->Oa (Dt×HI):=fun d h=>match d with
 | .str z=>if z.length<=sizeLine then ε (.int z.length,h)else none
 | d=>(eD h d).map fun i=>(.int i.length,h)
theorem xC (o:Gl X "len") (n:X.mg "len" =none) (s:EM X e f) (hs:lB e=true:=by rfl):EM X (.Call (.Name "len" p) [e] [] pos) (LB xB f):=by
 unhygienic
  exact kK (Zu.or Tq Uq) (fun i h d v y x H Q S R e k=>by
   unfold xB at e;split at e
   . rename_i z;obtain⟨m,e⟩:=oF e;cases e;exact .inr ⟨z,by rw[bv.mp R],m,k i _ H (Ws.mpr rfl) S (mo.refl _ _)⟩
   . cases q:eD h d with
     | none=>rw[q]at e;cases e
     | some u=>
      rw[q]at e;cases e;obtain⟨a,j,z,sq,r⟩:=QL S R q;exact .inl ⟨a,j,by rw[z],sq,by rw[r.length];exact k i _ H (Ws.mpr rfl) S (mo.refl _ _)⟩) o n PySem.boot_len s (hs:=hs)
noncomputable def RM:Dt->HI->Oa (Dt×HI):=fun d h=>match d with
 | .int i=>ε (.int i,h)
 | .bl b=>ε (.int (if b then 1 else 0),h)
 | _=>none
theorem vd (n:Gl X "int") (m:X.mg "int" =none) (o:EM X e f) (hs:lB e=true:=by rfl):EM X (.Call (.Name "int" p) [e] [] pos) (LB RM f):=by
 unhygienic
  exact lT Yw (fun j h d v r q H Q S R e k=>by
   unfold RM at e;split at e
   . rename_i i;cases e;exact .inl ⟨i,by rw[Ws.mp R],k j _ H (Ws.mpr rfl) S (mo.refl _ _)⟩
   . rename_i b;cases e;exact .inr ⟨b,by rw[Yo.mp R],k j _ H (Ws.mpr rfl) S (mo.refl _ _)⟩
   . cases e) n m PyProof.Rows.boot_int o (hs:=hs)
def lK:Dt->HI->Oa (Dt×HI):=fun d h=>(eD h d).map fun i=>(.lst i,h)
def xF:Dt->HI->Oa (Dt×HI):=fun d h=>(eD h d).map fun i=>(.ref h.length,h++[.lst i])
theorem NX (o:Gl X "list") (n:X.mg "list" =none) (s:EM X e f) (hs:lB e=true:=by rfl):EM X (.Call (.Name "list" p) [e] [] pos) (LB lK f):=by
 unhygienic
  exact lT XU (fun j h d v y x H Q S R e k=>by
   unfold lK at e;cases q:eD h d with
   | none=>rw[q]at e;cases e
   | some u=>
    rw[q]at e;cases e;obtain⟨a,m,z,sq,r⟩:=QL S R q;exact⟨a,m,by rw[z],sq,fun l i=>k j _ _ (WJ S r i) (S.fresh i) (mo.fresh i)⟩) o n PyProof.Rows.boot_list s (hs:=hs)
theorem jR (n:Gl X "list") (m:X.mg "list" =none) (o:EM X e f) (hs:lB e=true:=by rfl):EM X (.Call (.Name "list" p) [e] [] pos) (LB xF f):=by
 unhygienic
  exact lT XU (fun s h d v y x H Q S R e k=>by
   unfold xF at e;cases q:eD h d with
   | none=>rw[q]at e;cases e
   | some u=>
    rw[q]at e;cases e;obtain⟨a,j,z,sq,r⟩:=QL S R q;exact⟨a,j,by rw[z],sq,fun l i=>k _ _ _ (OH S r i).1 (OH S r i).2 (mo.own i)⟩) n m PyProof.Rows.boot_list o (hs:=hs)
theorem hW(ns:Ni Int):WB (ns.map Dt.int)=ε ns:=by
 induction ns with
 | nil=>rfl
 | cons n ns ih=>rw[Ti];simp![WB];rw[ih];rfl
def hJ:Dt->HI->Oa (Dt×HI):=fun d h=>(EA h d).bind fun i=>(WB i).map fun ns=>(.int ns.sum,h)
theorem MZ (o:X.calm=true) (n:Gl X "sum") (m:X.mg "sum" =none) (s:EM X e f) (hs:lB e=true:=by rfl):EM X (.Call (.Name "sum" p) [e] [] pos) (LB hJ f):=by
 unhygienic
  exact kK (dw o) (fun i h d v B y H Q S R e k=>by
   obtain⟨j,u,e⟩:=oA e;cases q:WB j with
   | none=>rw[q]at e;cases e
   | some ns=>
    rw[q]at e;cases e;obtain⟨a,x,z,sq,r⟩:=ZC S R u;rw[YD q]at r;rw[r.bu]at sq;exact⟨a,ns,by rw[z],sq,k i _ H (Ws.mpr rfl) S (mo.refl _ _)⟩) n m PyProof.Rows.boot_sum s (hs:=hs)
noncomputable def JC:Ni Int->Int
 | []=>0
 | [a]=>a
 | a::b::r=>max a (JC (b::r))
noncomputable def RB:Ni Int->Int
 | []=>0
 | [a]=>a
 | a::b::r=>min a (RB (b::r))
theorem oR:∀(ns:Ni Int),ns ≠ []->JC ns∈ns/\∀a∈ns,a<=JC ns
 | [],h=>Du rfl h
 | [a],_=>by simp[JC]
 | a::b::r,_=>by
  obtain⟨j,i⟩:=oR (b::r) ⋯;simp![JC];refine⟨?_,fun c d=>?_⟩
  . rcases Int.le_total a (JC (b::r))with z | z
    . rw[Int.max_eq_right z];exact nW _ j
    . rw[Int.max_eq_left z];exact um
  . rcases Ba.mp d with z | z
    . rw[z];exact Int.le_max_left _ _
    . exact Int.le_trans (i c z) (Int.le_max_right _ _)
theorem FH:∀(ns:Ni Int),ns ≠ []->RB ns∈ns/\∀a∈ns,RB ns<=a
 | [],h=>Du rfl h
 | [a],_=>by simp[RB]
 | a::b::r,_=>by
  obtain⟨j,i⟩:=FH (b::r) ⋯;simp![RB];refine⟨?_,fun c d=>?_⟩
  . rcases Int.le_total a (RB (b::r))with z | z
    . rw[Int.min_eq_left z];exact um
    . rw[Int.min_eq_right z];exact nW _ j
  . rcases Ba.mp d with z | z
    . rw[z];exact Int.min_le_left _ _
    . exact Int.le_trans (Int.min_le_right _ _) (i c z)
def pH:Dt->HI->Oa (Dt×HI):=fun d h=>(EA h d).bind fun i=>(WB i).bind fun ns=>if ns ≠ []then ε (.int (JC ns),h)else none
def EG:Dt->HI->Oa (Dt×HI):=fun d h=>(EA h d).bind fun i=>(WB i).bind fun ns=>if ns ≠ []then ε (.int (RB ns),h)else none
theorem KZ (u:X.calm=true) (s:Gl X "max") (o:X.mg "max" =none) (x:EM X e f) (hs:lB e=true:=by rfl):EM X (.Call (.Name "max" p) [e] [] pos) (LB pH f):=by
 unhygienic
  exact kK (Wv u) (fun j h d v I F H Q S R e k=>by
   obtain⟨D,C,e⟩:=oA e;obtain⟨ns,q,e⟩:=oA e;obtain⟨i,e⟩:=oF e;cases e;obtain⟨a,E,z,sq,r⟩:=ZC S R C;rw[YD q]at r;rw[r.bu]at sq;obtain⟨n,m⟩:=oR ns i;refine⟨a,ns,by rw[z],sq,i,fun M B y=>?_⟩;have:M=JC ns:=Int.le_antisymm (m M B) (y _ n);rw[this];exact k j _ H (Ws.mpr rfl) S (mo.refl _ _)) s o PyProof.Rows.boot_max x (hs:=hs)
theorem mS (u:X.calm=true) (s:Gl X "min") (o:X.mg "min" =none) (x:EM X e f) (hs:lB e=true:=by rfl):EM X (.Call (.Name "min" p) [e] [] pos) (LB EG f):=by
 unhygienic
  exact kK (Yv u) (fun j h d v I F H Q S R e k=>by
   obtain⟨D,C,e⟩:=oA e;obtain⟨ns,q,e⟩:=oA e;obtain⟨i,e⟩:=oF e;cases e;obtain⟨a,E,z,sq,r⟩:=ZC S R C;rw[YD q]at r;rw[r.bu]at sq;obtain⟨n,m⟩:=FH ns i;refine⟨a,ns,by rw[z],sq,i,fun M B y=>?_⟩;have:M=RB ns:=Int.le_antisymm (y _ n) (m M B);rw[this];exact k j _ H (Ws.mpr rfl) S (mo.refl _ _)) s o PyProof.Rows.boot_min x (hs:=hs)
noncomputable def jG(h:HI):Dt->Oa String
 | .non=>ε "NoneType"
 | .bl _=>ε "bool"
 | .int _=>ε "int"
 | .str _=>ε "str"
 | .tup _=>ε "tuple"
 | .lst _=>ε "list"
 | .ref n=>match h[n]? with | some (.lst _)=>ε "list" | _=>none
 | .ntp _=>none
noncomputable def HF (t T:String):Bool:=t==T || (t == "bool" && T == "int")
def kG(T:String)(f:RE):RE:=fun l h=>(f l h).bind fun r=>(jG r.2 r.1).map fun t=>(.bl (HF t T),r.2)
theorem Yn (K:Ou):∀t ∈ ["NoneType", "bool", "int", "str", "tuple", "list"],∀T ∈ ["bool", "int", "str", "tuple", "list"],PySem.W.kitOne K (.type t) (.type T)=ε (HF t T):=by intro t d T h;simp![Ba,mem_nil_iff,or_false]at d h;rcases d with rfl | rfl | rfl | rfl | rfl | rfl<;>rcases h with rfl | rfl | rfl | rfl | rfl<;>unhygienic rfl
theorem f9 {h:HI} {d:Dt} {t:String} (e:jG h d=ε t):t ∈ ["NoneType", "bool", "int", "str", "tuple", "list"]:=by
 cases d with
 | ref n=>
  simp![jG]at e;split at e
  . cases e;decide
  . cases e
 | ntp n=>simp![jG]at e;cases e
 | _=>simp![jG]at e<;>cases e<;>decide
set_option tactic.hygienic true in
theorem O9{K:Ou}{H:Hp}{ρ:Rg}{h:HI}{d:Dt}{v:V}{t:String}(S:Us K ρ h H)(R:Te K H ρ d v)(e:jG h d=ε t):TyD K H v t:=by
 cases d with
 | non=>cases bp.mp R;simp![jG]at e;cases e;rfl
 | bl b=>cases Yo.mp R;simp![jG]at e;cases e;rfl
 | int b=>cases Ws.mp R;simp![jG]at e;cases e;rfl
 | str b=>cases bv.mp R;simp![jG]at e;cases e;rfl
 | tup j=>obtain⟨a,i,z,t,m⟩:=ai.mp R;subst z;simp![jG]at e;cases e;exact .inr ⟨rfl,i,t.sq⟩
 | lst j=>obtain⟨a,i,z,t,m⟩:=bn.mp R;subst z;simp![jG]at e;cases e;exact .inl ⟨rfl,i,t.sq⟩
 | ref n=>
  obtain⟨a,z,o⟩:=Zi.mp R;subst z;simp![jG]at e;split at e
  . rename_i j q;cases e;obtain⟨i,r,_⟩:=S.lst o q;exact .inl ⟨rfl,i,m4.of r⟩
  . cases e
 | ntp n=>simp![jG]at e;cases e
theorem QH {T:Str} {TT:String} (D:Gl X "isinstance") (C:X.mg "isinstance" =none) (n:Gl X T) (m:X.mg T=none) (B:bootBuiltins T=ε (.type TT)) (F:TT ∈ ["bool", "int", "str", "tuple", "list"]) (E:EM X e f)
 (j:T ≠ "__name__" :=by decide) (o:(T==("__debug__" :Str))=false:=by decide)
 (hs:lB e=true:=by rfl) :
 EM X (.Call (.Name "isinstance" p) [e,.Name T p2] [] pos) (kG TT f):=by
 unhygienic
  exact PE.imp (JJ (Hh (T:=TT)) D C PyProof.Rows.boot_isinstance (bC E (bC (Kc n m B (v:=.ty TT) rfl j o) RC (bB rfl _ _)) (bB hs _ _)) (he:=bB hs _ _)) fun P H Q y=>by
   obtain⟨x,l,h,d,R,S,L,e,k⟩:=y;obtain⟨⟨s,r⟩,I,e⟩:=oA e;refine⟨x,l,h,s,r,S,L,I,fun i v M J u O=>?_⟩;cases q:jG r s with
   | none=>rw[q]at e;cases e
   | some t=>rw[q]at e;cases e;exact⟨v,t,HF t TT,rfl,O9 u J q,Yn X.K t (f9 q) TT F,k i _ M (Yo.mpr rfl) u O⟩
abbrev RO:=LI->HI->Oa (Oa Int×HI)
noncomputable def yM:RO:=fun _ h=>ε (none,h)
noncomputable def bF(f:RE):RO:=fun l h=>(f l h).bind fun r=>match r.1 with | .int i=>ε (ε i,r.2) | _=>none
inductive tMO(K:Frag)(f:RO)(σ:L2.St)(H:Hp)(Q:Option Int->Hp->Prop):Prop where
 | mk (ρ:Rg) (l:LI) (h:HI) (o:Option Int) (h':HI) (S:Us K ρ h H) (L:Xu K H ρ l σ) (e:f l h=ε (o,h')) (k:du K ρ H h' (Q o))
@[irreducible] def xT(X:Cx)(e:Oa Oo)(f:RO):Prop:=PO X e (tMO X.K f)
theorem PO.imp{X:Cx}{e:Oa Oo}{t t':TO}(h:PO X e t)(i:∀d H Q,t' d H Q->t d H Q):PO X e t':=fun j s d H Q I q=>h j s d H Q I (i d H Q q)
theorem YR:xT X none yM:=by unhygienic exact PO.imp Gb fun j H Q i=>by obtain⟨d,l,h,o,m,S,L,e,k⟩:=i;cases e;exact k d H S (mo.refl _ _)
theorem yI(q:EM X a fa):xT X (ε a) (bF fa):=by
 unhygienic
  exact PO.imp (Ib q) fun C H Q n=>by
   obtain⟨m,l,h,o,D,S,L,e,k⟩:=n;obtain⟨⟨j,r⟩,s,e⟩:=oA e;refine⟨m,l,h,j,r,S,L,s,fun d v y x u B=>?_⟩;cases j with
   | int i=>cases e;exact⟨i,Ws.mp x,k d y u B⟩
   | _=>cases e
def HE(xs:Ni Dt)(lo d:Oa Int):Ni Dt:=(xs.drop (HT.sIx xs.length 0 lo)).take (HT.sIx xs.length xs.length d-HT.sIx xs.length 0 lo)
def qK(f:RE)(lo i:RO):RE:=fun l h=>(f l h).bind fun r=>(lo l r.2).bind fun o=>(i l o.2).bind fun u=>(EA u.2 r.1).map fun d=>(.lst (HE d o.1 u.1),u.2)
theorem pY{K:Ou}{H:Hp}{ρ:Rg}{xs:Ni Dt}{vs:Ni V}(r:Ru K H ρ xs vs)(lo d:Oa Int):Ru K H ρ (HE xs lo d) (nH vs lo d):=by unfold HE nH;rw[r.length];exact(r.drop _).take _
theorem pO{lo C:Oa Oo}{I J:RO}(Y:EM X a fa)(U:xT X lo I)(W:xT X C J):EM X (.Subscript a (.Slice lo C none p2) pos) (qK fa I J):=by
 unhygienic
  exact PE.imp (JX Vp Y U W) fun σ H Q R=>by
   obtain⟨P,l,h,d,h',S,L,e,k⟩:=R;obtain⟨⟨M,F⟩,e1,e⟩:=oA e;obtain⟨⟨o,E⟩,e2,e⟩:=oA e;obtain⟨⟨u,D⟩,Z,e⟩:=oA e;refine⟨P,l,h,M,F,S,L,e1,fun m v H1 R1 S1 B=>⟨m,l,F,o,E,S1,L.ext B,e2,fun j H2 S2 y=>⟨j,l,E,u,D,S2,L.ext (B.trans y),Z,fun i H3 s O=>?_⟩⟩⟩;cases q:EA D M with
   | none=>dsimp only at e;rw[q]at e;cases e
   | some xs=>dsimp only at e;rw[q]at e;cases e;obtain⟨x,T,z,sq,r⟩:=ZC s (Te.ext (y.trans O) _ R1) q;exact⟨x,T,z,sq,fun p n=>k i _ _ (WJ s (pY r o u) n) (s.fresh n) (B.trans (y.trans (O.trans (mo.fresh n))))⟩
noncomputable def M4(fo fa:RE):RE:=fun l h=>(fo l h).bind fun r=>match r.1 with
 | .ref n=>(fa l r.2).bind fun q=>match q.2[n]? with
  | some (.lst xs)=>if xs.length<sizeLine then ε (.non,q.2.set n (.lst (xs++[q.1])))else none
  | _=>none
 | _=>none
theorem rS {K:Ou} {H:Hp} {ρ:Rg} {h:HI} {n:Nat} {xs:Ni Dt} {v:V} (S:Us K ρ h H) (R:Te K H ρ (.ref n) v) (e:h[n]?=ε (.lst xs)):p6 K "list" v H:=by obtain⟨a,z,i⟩:=Zi.mp R;subst z;obtain⟨d,j,_⟩:=S.lst i e;exact .inl ⟨rfl,d,m4.of j⟩
def SD(fa fb:RE):RE:=fun l h=>(fa l h).bind fun r=>match r.1 with
 | .ref n=>match r.2[n]? with
  | some (.lst _)=>M4 (eC (.ref n)) fb l r.2
  | _=>none
 | _=>none
theorem NF {j i:Pos} (Z:EM X a fa) (hb:EM X b fb) (o:attributeBase a "append" X.env (eval a X.env)=eval a X.env:=by rfl)
 (m:(j.endLine==i.line)=true:=by rfl) (hs:lB b=true:=by rfl) :
 EM X (.Call (.Attribute a "append" j) [b] [] i) (SD fa fb):=by
 unhygienic
  exact PE.imp (oM PySem.F.plainAttrs_list PySem.F.slot_list_append PySem.F.type_list_append fX Z (bC hb RC (bB hs _ _)) o (HL hs) m (bB hs _ _)) fun σ H Q R=>by
   obtain⟨P,l,h,d,h',S,L,e,k⟩:=R;obtain⟨⟨E,C⟩,e1,e⟩:=oA e;refine⟨P,l,h,E,C,S,L,e1,fun x v H1 J I O=>?_⟩;cases E with
   | ref n=>
    dsimp only at e;split at e
    . rename_i U q0;obtain⟨⟨d0,h0⟩,T,e⟩:=oA e;cases T;dsimp only at e;obtain⟨⟨d2,h2⟩,e2,e⟩:=oA e;refine⟨rS I J q0,x,l,C,d2,h2,I,L.ext O,e2,fun u y H2 R2 F M=>?_⟩;dsimp only at e;split at e
      . rename_i xs q;obtain⟨Y,e⟩:=oF e;cases e;obtain⟨a,z,ha⟩:=Zi.mp J;subst z;have r:=M.get ha;obtain⟨W,s,D⟩:=F.lst r q;have B:=ju r;refine⟨a,W,y,rfl,rfl,s,by rw[D.length];exact Y,k u _ _ (bp.mpr rfl) (F.write r (sH s) ⟨_,fC,?_⟩) (O.trans (M.trans (mo.write B (sH s))))⟩;exact(D.append (.cons R2 .nil)).ext (mo.write B (sH s))
      . cases e
    . cases e
   | _=>cases e
end
def nF:Ni Dt->Dt->Oa Nat
 | [],_=>none
 | y::ys,x=>if BP y x=true then ε 0 else(nF ys x).map (· + 1)
theorem rW:∀{ys:Ni Dt}{x:Dt}{j:Nat},nF ys x=ε j->(∃y,ys[j]?=ε y/\BP y x=true)/\∀(m:Nat),m<j->∃y,ys[m]?=ε y/\BP y x=false
 | [],_,_,e=>by simp![nF]at e;cases e
 | y::ys,x,j,e=>by
  simp![nF]at e;by_cases h:BP y x=true
  . rw[dh h]at e;cases e;exact⟨⟨y,rfl,h⟩,fun m a=>Du a (Nat.not_lt_zero _)⟩
  . rw[dz h]at e;cases q:nF ys x with
    | none=>rw[q]at e;cases e
    | some k=>
     rw[q]at e;cases e;obtain⟨⟨z,d,b⟩,no⟩:=rW q;refine⟨⟨z,by simpa using d,b⟩,fun m a=>?_⟩;cases m with
     | zero=>exact⟨y,rfl,by simpa using h⟩
     | succ m=>obtain⟨u,g,f⟩:=no m (Nat.lt_of_succ_lt_succ a);exact⟨u,by simpa using g,f⟩
section
variable{X:Cx}{pins:Ni (Oi×Obj)}{σ:L2.St}{H:Hp}{s:Oe}{ρ:Rg}
def zK(xs:Ni Dt)(d:Dt)(k:Nat):Bool:=match xs[k]? with | some z=>BP z d | none=>false
theorem aO:∀{xs:Ni Dt}{k:Nat}{z:Dt},XJ xs=true->xs[k]?=ε z->iH z=true
 | [],_,_,_,e=>by simp at e
 | x::xs,0,z,h,e=>by simp![XJ,vm]at h;simp at e;subst e;exact h.1
 | x::xs,k+1,z,h,e=>by simp![XJ,vm]at h;exact aO h.2 (by simpa using e)
theorem SW:∀{xs:Ni Dt}{k:Nat}{z:Dt},xs[k]?=ε z->OP z<=fK xs
 | [],_,_,e=>by simp at e
 | x::xs,0,z,e=>by simp at e;subst e;simp![fK];exact Nat.le_max_left _ _
 | x::xs,k+1,z,e=>by simp![fK];exact su (SW (xs:=xs) (k:=k) (by simpa using e)) (Nat.le_max_right _ _)
open Classical in
theorem K9(I:mf X pins σ H s){xs:Ni Dt}{d:Dt}{i:Ni V}{v:V}{its:Ni Nu}{u:Nu}(A:Pu)(p:XJ xs=true)(L:iH d=true)(Y:A.units+fK xs<cLine)(x:Ru X.K H ρ xs i)(J:Te X.K H ρ d v)(r:mh i its)(F:mr v u) :
 ∃e:Nu->Bool,(∀(k:Nat)(b:k<its.length),e its[k]=zK xs d k)/\∀y∈its,SeqAt.EqAt A s y u (e y):=by
 have f:∀(k:Nat)(y:Nu),its[k]?=ε y->∃z w,xs[k]?=ε z/\i[k]?=ε w/\Te X.K H ρ z w/\mr w y:=fun k y e=>by
  have Z:=r.length;have b:k<xs.length:=by have:=(Wi e).1;have h2:=x.length;omega
  obtain⟨w,q,E⟩:=x.get (je b);obtain⟨U,o,D⟩:=r.get q;rw[e]at o;cases o;exact⟨_,w,je b,q,E,D⟩
 have same:∀(k m:Nat)(y:Nu),its[k]?=ε y->its[m]?=ε y->zK xs d k=zK xs d m:=fun k m y R e2=>by obtain⟨z,w,g,_,n,j⟩:=f k y R;obtain⟨C,W,B,_,T,S⟩:=f m y e2;have P:=mr.inj j S;subst P;have O:=MY I z C (aO p g) (aO p B) n T;unfold zK;rw[g,B,O]
 refine⟨fun y=>if h:∃k,its[k]?=ε y then zK xs d h.choose else false,fun k b=>?_,fun y M=>?_⟩
 . have a:∃m,its[m]?=ε its[k]:=⟨k,je b⟩
   dsimp only;rw[dif_pos a];exact same _ _ _ a.choose_spec (je b)
 . obtain⟨k,b⟩:=mem_iff_getElem?.mp M;have a:∃m,its[m]?=ε y:=⟨k,b⟩
   dsimp only;rw[dif_pos a];obtain⟨z,w,g,_,n,j⟩:=f _ y a.choose_spec;have Q:zK xs d a.choose=BP z d:=by unfold zK;rw[g]
   rw[Q];exact yp I z d A (aO p g) L (by have:=SW g;omega) n J j F
theorem zf{xs:Ni Dt}{d:Dt}{j:Nat}(h:nF xs d=ε j):j<xs.length/\zK xs d j=true/\∀m,m<j->zK xs d m=false:=by obtain⟨⟨y,a,f⟩,no⟩:=rW h;refine⟨(Wi a).1,by unfold zK;rw[a];exact f,fun m g=>?_⟩;obtain⟨z,e,b⟩:=no m g;unfold zK;rw[e];exact b
end
def SI(xs:Ni Dt)(d:Dt):Bool:=XJ xs&&iH d&&decide (fK xs<=50)
def D5(K:Ou)(f:Bool):V->Ni V->Hp->VK->Prop:=fun x h H Q=>∃g b d y a e j,x=.ref a/\h=[y]/\(if f=true then AG K H a e else m4 K H a e)/\Ru K H g b e/\Te K H g d y/\SI b d=true/\nF b d=ε j/\Q (.int (j:Nat)) H
section
variable{X:Cx}{a b:Oo}{fa fb:RE}
theorem Yy (hu:X.A.units+64<cLine):A4 X "list.index" (D5 X.K false):=by
 intro B s σ H x vs v us Q I P R h;obtain⟨ρ,O,d,y,p,ws,j,rfl,rfl,sq,r,T,ok,Z,q⟩:=h;rw[dz Wk]at sq;cases P;obtain⟨u,rfl,S⟩:=lE R;simp![SI,vm,decide_eq_true_eq]at ok;obtain⟨g,f,⟨⟨c1,d1,t1,i⟩,n,M,E,D,C⟩,z⟩:=I.list sq;simp only at E D C;subst E D C;obtain⟨e,L,e2⟩:=K9 I X.A.in1 ok.1.1 ok.1.2 (by have:=Ay X.A;omega) r T f S;obtain⟨j1,W,U⟩:=zf Z;have hl:g.length=O.length:=by rw[<- f.length,r.length]
 have F:j<g.length:=by omega
 have hn:=GI;refine call_meets PySem.F.slot_list_index ⟨_,M,rfl⟩ PySem.F.entry_list_index (PySem.F.args_list_index_2 _ _)
  (SeqAt.list_indexAt p g.toArray n none i u e j (by rw[cG];exact F) (by have:=f.length;omega) ?_ ?_) ⟨M,fun y Y=>e2 y (by simpa using Y),⟨.int (j:Nat),H,I.tok _,⟨_,rfl⟩,q⟩⟩
 . have:=L j F;rw[W]at this;simpa using this
 . intro m J o;rw[cG]at J;have:=L m J;rw[U m o]at this;simpa using this
def gP(fo fa:RE):RE:=fun l h=>(fo l h).bind fun r=>(fa l r.2).bind fun q=>match r.1 with
 | .lst d=>if SI d q.1=true then(nF d q.1).map fun j=>(.int (j:Nat),q.2)else none
 | _=>none
theorem Pg {g f:Pos} (J:X.A.units+64<cLine) (M:EM X a fa) (O:EM X b fb) (m:attributeBase a "index" X.env (eval a X.env)=eval a X.env:=by rfl)
 (i:(g.endLine==f.line)=true:=by rfl) (hs:lB b=true:=by rfl) :
 EM X (.Call (.Attribute a "index" g) [b] [] f) (gP fa fb):=by
 unhygienic
  exact PE.imp (oM PySem.F.plainAttrs_list PySem.F.slot_list_index PySem.F.type_list_index (Yy J) M (bC O RC (bB hs _ _)) m (HL hs) i (bB hs _ _)) fun Z H Q F=>by
   obtain⟨E,l,h,d,h',S,L,e,k⟩:=F;obtain⟨⟨C,B⟩,R,e⟩:=oA e;obtain⟨⟨o,P⟩,e2,e⟩:=oA e;refine⟨E,l,h,C,B,S,L,R,fun p v H1 W U D=>?_⟩;cases C with
   | lst r=>
    obtain⟨x,u,z,t,I⟩:=bn.mp W;subst z;refine⟨.inl ⟨rfl,u,t.sq⟩,p,l,B,o,P,U,L.ext D,e2,fun n y Y R2 T s=>?_⟩;dsimp only at e;by_cases ok:SI r o=true
    . rw[dh ok]at e;cases q:nF r o with
      | none=>rw[q]at e;cases e
      | some j=>rw[q]at e;cases e;exact⟨n,r,o,y,x,u,j,rfl,rfl,by rw[dz Wk];exact(t.same s.same).sq,I.ext s,R2,ok,q,k n _ Y (Ws.mpr rfl) T (D.trans s)⟩
    . rw[dz ok]at e;cases e
   | _=>cases e
noncomputable def mD(K:Ou):Nat->Nu->Oa Dt
 | _,.none=>ε .non
 | _,.bool b=>ε (.bl b)
 | _,.int i _=>ε (.int i)
 | _,.str x _=>ε (.str x)
 | 0,_=>none
 | n+1,.ref a=>match K.lookup a with
  | some ⟨.type T,dd,.seq its _,_⟩=>if its.size<=sizeLine then
   if T = "tuple" then(its.toList.mapM (mD K n)).map .tup
   else if T = "list" then match dd with | none=>(its.toList.mapM (mD K n)).map .lst | some _=>none
   else none
   else none
  | _=>none
 | _,_=>none
noncomputable def ET:Nu->V
 | .none=>.non
 | .bool b=>.bl b
 | .int i _=>.int i
 | .str x _=>.str x
 | .ref a=>.ref a
 | _=>.non
theorem vR{K:Ou}{H:Hp}{ρ:Rg}{f:Nu->Oa Dt}(h:∀u d,f u=ε d->mr (ET u) u/\Te K H ρ d (ET u)):∀{us:Ni Nu}{ds:Ni Dt},us.mapM f=ε ds->mh (us.map ET) us/\Ru K H ρ ds (us.map ET)
 | [],_,e=>by simp at e;subst e;exact⟨.nil,.nil⟩
 | u::us,ds,e=>by
  rw[mapM_cons]at e;cases q:f u with
  | none=>rw[q]at e;cases e
  | some d=>
   rw[q]at e;cases q2:us.mapM f with
   | none=>rw[q2]at e;cases e
   | some n=>rw[q2]at e;cases e;obtain⟨m,j⟩:=h u d q;obtain⟨i,g⟩:=vR h q2;exact⟨.cons m i,.cons j g⟩
set_option tactic.hygienic true in
theorem nX{K:Ou}{H:Hp}{ρ:Rg}:∀(n:Nat)(u:Nu)(d:Dt),mD K n u=ε d->mr (ET u) u/\Te K H ρ d (ET u):=by
 intro n
 induction n with
 | zero=>
  intro u d e;cases u with
  | none=>simp![mD]at e;cases e;exact⟨rfl,bp.mpr rfl⟩
  | bool b=>simp![mD]at e;cases e;exact⟨rfl,Yo.mpr rfl⟩
  | int i t=>simp![mD]at e;cases e;exact⟨⟨_,rfl⟩,Ws.mpr rfl⟩
  | str x t=>simp![mD]at e;cases e;exact⟨⟨_,rfl⟩,bv.mpr rfl⟩
  | _=>simp![mD]at e<;>cases e
 | succ n ih=>
  intro u d e;cases u with
  | none=>simp![mD]at e;cases e;exact⟨rfl,bp.mpr rfl⟩
  | bool b=>simp![mD]at e;cases e;exact⟨rfl,Yo.mpr rfl⟩
  | int i t=>simp![mD]at e;cases e;exact⟨⟨_,rfl⟩,Ws.mpr rfl⟩
  | str x t=>simp![mD]at e;cases e;exact⟨⟨_,rfl⟩,bv.mpr rfl⟩
  | ref a=>
   simp![mD]at e;split at e
   . rename_i T s f m r q;by_cases h:f.size<=sizeLine
     . rw[dh h]at e;by_cases j:T = "tuple"
       . rw[dh j]at e;cases q2:f.toList.mapM (mD K n)with
         | none=>rw[q2]at e;cases e
         | some ds=>rw[q2]at e;cases e;obtain⟨p,o⟩:=vR (K:=K) (H:=H) (ρ:=ρ) ih q2;subst j;exact⟨rfl,ai.mpr ⟨a,_,rfl,.inr ⟨_,f,m,q,rfl,rfl,h,p⟩,o⟩⟩
       . rw[dz j]at e;by_cases g:T = "list"
         . rw[dh g]at e;split at e
           . cases q2:f.toList.mapM (mD K n)with
             | none=>rw[q2]at e;cases e
             | some ds=>rw[q2]at e;cases e;obtain⟨p,o⟩:=vR (K:=K) (H:=H) (ρ:=ρ) ih q2;subst g;exact⟨rfl,bn.mpr ⟨a,_,rfl,.inr ⟨_,f,m,q,rfl,rfl,rfl,h,p⟩,o⟩⟩
           . cases e
         . rw[dz g]at e;cases e
     . rw[dz h]at e;cases e
   . cases e
  | _=>simp![mD]at e<;>cases e
structure Y3(K:Frag)(mg:Str->Option Value)(x:Str)(d:Dt):Prop where
 ex:∃u n,mg x=ε u/\mD K n u=ε d
theorem DI {x:Str} {d:Dt} {pos:Pos} (f:Gl X x) (c:Y3 X.K X.mg x d) (hd:(x==("__debug__" :Str))=false:=by decide):EM X (.Name x pos) (eC d):=by unhygienic obtain⟨u,n,g,e⟩:=c.ex;exact ud f g (nX (H:=fun q=>none) (ρ:=.nil) n u d e).1 (fun H ρ=>(nX n u d e).2) hd
end
theorem A7{K:Ou}{F:sB}{n:Nat}(h:∀ns:Ni Int,ns.length<=n->∃b,F [.lst (ns.map Dt.int)] []=ε (.bl true,b))(H:Hp)(a:Oi)(ns:Ni Int)(f:ns.length<=n)(hS:m4 K H a (ns.map V.int)) :
 lJ K 1 F [.ref a] H (fun v q=>v=.bl true) fun q q q=>False:=by
 obtain⟨b,e⟩:=h ns f;have R:Te K H .nil (.lst (ns.map Dt.int)) (.ref a):=bn.mpr ⟨a,_,rfl,by
  rcases hS with hS | hS
  . exact .inl ⟨⟨by simp[Rg.nil],by simp[Rg.nil]⟩,hS⟩
  . exact .inr hS,Ru.ints ns⟩
 exact⟨.nil,[.lst (ns.map Dt.int)],[],.bl true,b,Us.nil,.cons R .nil,rfl,e,fun d v j g i m=>Yo.mp g⟩
structure jC(P:Program)(w:World)(K:Frag)(mg:Str->Option Value)(base:Heap)(k n:Nat)(x:Str)(F:sB):Prop where
 ex:∃f fd ps,ab P w K mg base GF k f fd ps (lJ K n F)/\mg x=ε (.ref f)/\keepIn K (.ref f)=true/\nb K fd ps []
 len:∀ds h r,F ds h=ε r->ds.length=n
structure KS(K:Frag)(mg:Str->Option Value)(x:Str)(st:Stmt)(ps:List Str):Prop where
 ex:∃f fd,Fun K x x st f fd/\mg x=ε (.ref f)/\nb K fd ps []
section
variable{P:O4}{w:Pb}{K:Ou}{b:Str->Oa Nu}{a:Ri}
theorem Gp{x d:Str}{st:Pa}{f:Oi}{g:FuncData}{N ps:Ni Str}{k n m:Nat}{body:RS}(F:Fun K x d st f g)(S:Yi N ps (jB st))(h:ps.length=n)(i:N.length=m)
 (j:∀(e:Nu)(A:Pu)(outer:Ni Env)(s:Oe)(H:Hp)(E:XK),Xe k (A.deeper (envOfC d (jB st) s.heap.objs.size f e))->
  mH (oE GF P w K b a N d (jB st) f e A outer s H E).nox (CC st) body):ab P w K b a GF (k+1) f g ps (lJ K n (HB n m body)):=by
 unhygienic subst h i;exact mP F S j
theorem MO{x:Str}{st:Pa}{N ps:Ni Str}{k n m:Nat}{body:RS}(D:KS K b x st ps)(S:Yi N ps (jB st))(o:ps.length=n)(g:N.length=m)
 (p:∀(f:Oi)(d:Nu)(A:Pu)(outer:Ni Env)(s:Oe)(H:Hp)(E:XK),Xe k (A.deeper (envOfC x (jB st) s.heap.objs.size f d))->
  mH (oE GF P w K b a N x (jB st) f d A outer s H E).nox (CC st) body):jC P w K b a (k+1) n x (HB n m body):=by
 unhygienic subst o g;obtain⟨f,u,i,g,q⟩:=D.ex;exact⟨⟨f,u,ps,mP i S fun d A outer s H E j=>p f d A outer s H E j,g,i.kp,q⟩,fun ds h r e=>JO e⟩
end
section
variable{X:Cx}{k b n:Nat}{F:sB}{x:Str}{p pos:Pos}{e:Oo}{a:Ni Oo}{g:RA}
theorem sE (c:jC X.prog X.w X.K X.mg X.base k n x F) (i:Xe b X.A) (j:k<=b) (m:Gl X x) (o:AM X (e::a) g) (d:(x==("__debug__" :Str))=false:=by decide)
 (he:lB e=true:=by rfl) (hpl:a.all lB=true:=by rfl) :
 EM X (.Call (.Name x p) (e::a) [] pos) (qA F [] g):=by
 unhygienic obtain⟨f,D,C,B,y,u,s⟩:=c.ex;exact MX B (i.mono j) m y u s .nil (fun z z=>.nil) o (fun E e ds h r q=>c.len ds h r (e ▸ q)) d he hpl
end
theorem xg{l:PySem.W.OpenLaw}{q:O4}{b:Ni Str}{D:(Str->Oa Nu)->Ri->Prop}{i:Pb->Ri->Prop}{d:DefRec}{K:Params->Ou}{F:sB}{k:Nat}{x:Str}(o:l.most=ε 63)(e:d.params.defaults=[])(m:Xe k callerA)
 (r:∀(w:Pb)(h:Ri),i w h->(K w.params).In h)
 (B:∀(w:Pb)(mg:Str->Oa Nu)(fa:Oi)(h:Ri),(K w.params).In h->h.Ns mainGlobals mg->mg d.name=ε (.ref fa)->
  ∃g:FuncData,(∀(s:Oe)(u:Nu),BindsTo s g ⟨[u],[]⟩ [(x,u)])/\∀base:Ri,(K w.params).In base->base.Ns mainGlobals mg->ab l.prog w (K w.params) mg base GF k fa g [x] (lJ (K w.params) 1 F))
 (h:∀ns:Ni Int,ns.length<=63->∃C,F [.lst (ns.map Dt.int)] []=ε (.bl true,C)):PySem.W.WalkO q b D i l.row.toRowW d [] (fun f j=>PySem.call f j):=
 L2.io (n:=63) (k:=k) (x:=x) (CX:=fun v=>GF) (sp:=fun w=>lJ (K w.params) 1 F) o (by decide) e m r B (fun w H a ns p v y=>A7 h H a ns p y) fun v v v v v z=>z
end SM
namespace L2
section
variable{X:Cx}
theorem xS:∀{bs:Ni Bool}{us:Ni Nu},mh (bs.map V.bl) us->∀(i:Nat)(v:Nu),us[i]?=ε v->v=.bool (bs.getD i false)
 | [],us,r,i,v,e=>by cases r;simp at e
 | b::bs,us,r,i,v,e=>by
  cases r with
  | cons r a=>
   cases i with
   | zero=>simp at e;subst e;exact r
   | succ i=>simpa using xS a i v (by simpa using e)
theorem Ah(bs:Ni Bool):(List.range bs.length).all (fun i=>bs.getD i false)=bs.all id:=by
 induction bs with
 | nil=>rfl
 | cons b bs ih=>
  rw[Ss,Js,Ka,all_map,Ka];have:((fun i=>(b::bs).getD i false) ∘ Nat.succ)=fun i=>bs.getD i false:=by
   funext i
   simp
  rw[this,ih];simp
theorem Ww (x:X.calm=true):Zu X (.builtin "all") (fun d H Q=>∃(p:Oi) (bs:Ni Bool),d=[.ref p]/\m4 X.K H p (bs.map V.bl)/\Q (.bl (bs.all id)) H):=by
 intro g s B H d C Q I r h;obtain⟨p,bs,rfl,n,q⟩:=h;obtain⟨u,rfl,j⟩:=lE r;cases j;obtain⟨a,f,pl,F⟩:=I.list n;have b:p<s.heap.objs.size:=by obtain⟨_,e,_⟩:=pl.isList;exact fu e
 refine call_all_walk (wpAny_pyIter_list pl.isList ?_);refine⟨_,_,_,_,_,_,fun i=>bs.getD i false,rfl,Walks.list (A:=X.A.in1) (I.ok.hd x) s.heap.objs.size p (n7 b) a.toArray,⟨⟨_,ji _ rfl,rfl,rfl⟩,pl.isList.push _⟩,?_,fun J D k=>?_⟩
 . intro i v E Q2 L m y;have e:=xS f i v (by simpa using m);subst e;exact Fe y
 . have o:=f.length;have e:(List.range a.toArray.size).all (fun i=>bs.getD i false)=bs.all id:=by rw[show a.toArray.size=bs.length by simp at o ⊢;omega,Ah]
   rw[e];exact⟨.bl (bs.all id),H,I.kept (old_kept k),rfl,q⟩
end
end L2
namespace SM
noncomputable def eE:Ni Dt->Oa (Ni Bool)
 | []=>ε []
 | .bl b::ds=>(eE ds).map fun bs=>b::bs
 | _::_=>none
theorem dO:∀{ds:Ni Dt}{bs:Ni Bool},eE ds=ε bs->ds=bs.map Dt.bl
 | [],bs,e=>by simp![eE]at e;cases e;rfl
 | d::ds,bs,e=>by
  cases d with
  | bl b=>
   simp![eE]at e;cases q:eE ds with
   | none=>rw[q]at e;cases e
   | some a=>rw[q]at e;cases e;rw[dO q];rfl
  | _=>simp![eE]at e<;>cases e
theorem Ru.fh{K:Ou}{H:Hp}{ρ:Rg}:∀{bs:Ni Bool}{vs:Ni V},Ru K H ρ (bs.map Dt.bl) vs->vs=bs.map V.bl
 | [],_,h=>h.ar
 | n::ns,_,h=>by obtain⟨v,r,rfl,a,b⟩:=Ru.Ys h;simp![Te]at a;rw[a,Ru.fh b];rfl
def oH:Dt->HI->Oa (Dt×HI):=fun d h=>(EA h d).bind fun a=>(eE a).map fun bs=>(.bl (bs.all id),h)
section
variable{X:Cx}{e:Oo}{f:RE}{p pos:Pos}
theorem JZ (m:X.calm=true) (j:Gl X "all") (i:X.mg "all" =none) (n:EM X e f) (hs:lB e=true:=by rfl):EM X (.Call (.Name "all" p) [e] [] pos) (LB oH f):=by
 unhygienic
  exact kK (Ww m) (fun b h d v x u H Q S R e k=>by
   obtain⟨g,o,e⟩:=oA e;cases q:eE g with
   | none=>rw[q]at e;cases e
   | some ns=>
    rw[q]at e;cases e;obtain⟨a,s,z,sq,r⟩:=ZC S R o;rw[dO q]at r;rw[r.fh]at sq;exact⟨a,ns,by rw[z],sq,k b _ H (Yo.mpr rfl) S (mo.refl _ _)⟩) j i PyProof.Rows.boot_all n (hs:=hs)
end
noncomputable def QI:Nat->Ni Dt->Ni Dt
 | _,[]=>[]
 | k,x::xs=>.tup [.int (k:Int),x]::QI (k+1) xs
noncomputable def bD(i j:Nat):RG:=fun d l=>match d with
 | .tup [a,b]=>ε ((l.set i (ε a)).set j (ε b))
 | _=>none
end SM
namespace L2
section
variable{X:Cx}{a:Ni (Oi×Obj)}{d:Ni (Oa V)}{H:Hp}{s:Oe}{h':Ri}
theorem mf.i3{t':Nat}{e it p:Oi}{xs:Ni V}(I:mf X a d H s)(k:∀b o,b≠e->b≠it->s.heap.get? b=ε o->h'.get? b=ε o)(fe:FE X a H e)(P:FE X a H it)(B:s.heap.objs.size<=p)
 (new:Xo X.prog X.w (oB H p (.tup xs)) h' p (.tup xs)):mf X a d (oB H p (.tup xs)) { s with heap:=h',toks:=t' }:=by
 obtain⟨W,C,e2,U,T,S⟩:=fe;obtain⟨L,y,Z,J,F,E⟩:=P;have h:H p=none:=I.hok.fresh B;have ne:∀b u,H b=ε u->b≠e:=fun b u q z=>by rw[z,W]at q;cases q
 have x:∀b u,H b=ε u->b≠it:=fun b u q z=>by rw[z,L]at q;cases q
 have g:∀{b},b ∉ [e,it]->b≠e/\b≠it:=fun f=>⟨fun z=>f (by simp[z]),fun z=>f (by simp[z])⟩
 refine I.step (g':=s.gens) (d':=s.drawn) (ch:=[e,it]) (fun b i=>?_) (fun b o t t f q t=>k b o (g f).1 (g f).2 q) (fun b o t t f q t=>⟨o.slots,k b o (g f).1 (g f).2 q⟩)
  (fun b o t q n=>by rw[XA (n7 (jj (fu q) B))];exact n)
  (fun b o f q=>⟨o,k b o (g f).1 (g f).2 q⟩) (fun b D q=>by rw[XA (MC q h)];exact q) (fun b o u q=>by rw[XA (MC q h)];exact q)
  (fun b Y q=>⟨#[],by rw[XA (MC q h),q];simp⟩) (fun m O=>?_) (fun b u q=>?_) I.bare
 . have z:b=e\/b=it:=by simpa using i
   rcases z with rfl | rfl
   . exact⟨U,C,T,S⟩
   . exact⟨J,y,F,E⟩
 . obtain⟨o,Q,R,M,r⟩:=O;exact⟨o,Q,R,k _ o (ni C) (ni y) M,r⟩
 . by_cases i:b=p
   . subst i;rw[fC]at q;cases q;exact new
   . rw[XA i]at q;refine(I.hok b u q).stay (fun c v f j=>?_) (fun c q=>by rw[XA (MC q h)];exact q) fun c D q=>by rw[XA (MC q h)];exact q
     rcases f with z | z
     . subst z;exact k c v (ne c u q) (x c u q) j
     . exact k c v (ne c _ z) (x c _ z) j
theorem mf.i4{t':Nat}{e it:Oi}(I:mf X a d H s)(k:∀b o,b≠e->b≠it->s.heap.get? b=ε o->h'.get? b=ε o)(fe:FE X a H e)(L:FE X a H it):mf X a d H { s with heap:=h',toks:=t' }:=by
 obtain⟨S,p,e2,R,Q,P⟩:=fe;obtain⟨D,j,U,C,B,y⟩:=L;have ne:∀b u,H b=ε u->b≠e:=fun b u q z=>by rw[z,S]at q;cases q
 have i:∀b u,H b=ε u->b≠it:=fun b u q z=>by rw[z,D]at q;cases q
 have g:∀{b},b ∉ [e,it]->b≠e/\b≠it:=fun f=>⟨fun z=>f (by simp[z]),fun z=>f (by simp[z])⟩
 refine I.step (g':=s.gens) (d':=s.drawn) (ch:=[e,it]) (fun b J=>?_) (fun b o t t f q t=>k b o (g f).1 (g f).2 q) (fun b o t t f q t=>⟨o.slots,k b o (g f).1 (g f).2 q⟩)
  (fun b o t q n=>n) (fun b o f q=>⟨o,k b o (g f).1 (g f).2 q⟩) (fun b x q=>q) (fun b o u q=>q)
  (fun b T q=>⟨#[],by rw[q];simp⟩) (fun m F=>?_) (fun b u q=>?_) I.bare
 . have z:b=e\/b=it:=by simpa using J
   rcases z with rfl | rfl
   . exact⟨R,p,Q,P⟩
   . exact⟨C,j,B,y⟩
 . obtain⟨o,M,O,E,r⟩:=F;exact⟨o,M,O,k _ o (ni p) (ni j) E,r⟩
 . refine(I.hok b u q).stay (fun c v f h=>?_) (fun c q=>q) fun c x q=>q
   rcases f with z | z
   . subst z;exact k c v (ne c u q) (i c u q) h
   . exact k c v (ne c _ z) (i c _ z) h
end
def Ite(K:Ou)(a:Oi):It:=
 ⟨fun i H=>∃b x,m4 K H a b/\b[i]?=ε x,fun i H x d=>∃p y,H p=none/\x=.ref p/\(∀b,m4 K H a b->b[i]?=ε y)/\d=oB H p (.tup [.int (i:Nat),y]),fun i H=>∃b,m4 K H a b/\b.length<=i⟩
theorem Zg{P:O4}{w:Pb}{K:Ou}{B:Ni Oo}{x1}{pos:Pos}(a e it:Oi)(r:e≠it):DG P w K (.Tuple B x1 pos) (Ite K a) [e,it] e (fun i h=>(∃old,IsEnum h e it i old)/\h.IsListIter it a i) where
 mem:=by simp
 obj:=fun i h st b R=>by
  obtain⟨⟨old,f⟩,g⟩:=st;have z:b=e\/b=it:=by simpa using R
  rcases z with rfl | rfl
  . exact⟨_,f,fun v z=>by cases z⟩
  . obtain⟨o,e,c,d⟩:=g;exact⟨o,e,fun v z=>by rw[d]at z;cases z⟩
 keep:=fun i h Z st k=>by obtain⟨⟨old,f⟩,g⟩:=st;exact⟨⟨old,k e ⋯ _ f⟩,g.at fun o e=>k it ⋯ o e⟩
 item:=by
  intro X S hw T W i m s σ H E I y st O;subst S hw T;obtain⟨⟨old,f⟩,g⟩:=st;obtain⟨xs,x,C,L⟩:=O;obtain⟨F,D,p,hz⟩:=I.list C;obtain⟨u,hu,ru⟩:=D.get L;have fe:=y e ⋯;have fi:=y it ⋯;refine wpAny_pyNext_enum_item f g p.isList (x:=u) (by simpa using hu) r fun Z out J j sz kp=>?_
  refine⟨_,rfl,wpAny_letOwnedTupleGo_enum out fun h2 Q sb=>?_⟩;have n:s.heap.objs.size≠e:=(n7 (fu f)).symm;have M:s.heap.objs.size≠it:=by obtain⟨o,q,_⟩:=g;exact(n7 (fu q)).symm
  have t2:h2.get? s.heap.objs.size=ε { cls:=.type "tuple",data:=.seq #[.int i s.toks,u] }:=(sb.2 _ n).trans j;refine⟨.ref s.heap.objs.size,oB H s.heap.objs.size (.tup [.int (i:Nat),x]),I.i3 (fun b o Y U q=>(sb.2 b Y).trans (kp b o Y U q)) fe fi (Ue _) ⟨by simp![Ss,Uo];rw[Ca];decide,[.int i s.toks,u],.cons ⟨_,rfl⟩ (.cons ru .nil),⟨_,t2,rfl,_,rfl⟩⟩,rfl,⟨_,x,I.hok.fresh (Ue _),rfl,fun ys hy=>by rw[I.eR hy C];exact L,rfl⟩,⟨⟨_,Q⟩,J.at fun o q=>(sb.2 it (ni r)).trans q⟩,fun b R=>?_⟩;have z:b=e\/b=it:=by simpa using R
  rcases z with rfl | rfl
  . rw[XA (ni n)];exact fe.1
  . rw[XA (ni M)];exact fi.1
 done:=by intro X S hw T W i m s σ H E I y st O;subst S hw T;obtain⟨⟨old,f⟩,g⟩:=st;obtain⟨xs,C,L⟩:=O;obtain⟨F,D,p,hz⟩:=I.list C;have hl:=D.length;exact wpAny_pyNext_enum_end (I.ok.hd W) f g p.isList (by simp;omega) fun Z eb=>⟨rfl,I.i4 (t':=s.toks) (fun b o t U q=>eb b o U q) (y e ⋯) (y it ⋯)⟩
 self:=fun t t t t t st h=>by obtain⟨⟨old,f⟩,_⟩:=st;exact wpAny_pyIter_enum f h
section
variable{X:Cx}
def V4(K:Ou)(g:TA):TI:=fun d H R=>g d H fun f b=>∃a,f=[.ref a]/\(∃e,m4 K b a e)/\R (Ite K a) b
theorem Bb {i:Ni Oo} {x1} {y:Pos} {a:Oo} {n:TA} {p pos:Pos} (L:Gl X "enumerate") (J:X.mg "enumerate" =none) (O:PA X [a] n) (hs:starEach [a] X.env=[(false,eval a X.env)]:=by rfl) :
 PI X (.Tuple i x1 y) (.Call (.Name "enumerate" p) [a] [] pos) (V4 X.K n):=by
 intro f s m H R I h;refine Call_ (WF I L J boot_enumerate (PyProof.Rows.callWith_type1 (uB (O pos f s m H _ I h) fun U d x=>?_) hs rfl));obtain⟨T,u,g,C,q1⟩:=x;obtain⟨b,e,⟨S,F⟩,q⟩:=q1;subst e;cases C with
 | cons r B=>
  cases B;cases r;obtain⟨D,W,pl,Y⟩:=g.list F;refine call_enumerate_list pl.isList fun P o j E k=>?_
  have Q:mf X f m u { d with heap:=P }:=g.kept (t':=d.toks) k;refine wpAny_pyIter_enum o ?_;refine⟨d.heap.objs.size+1,[d.heap.objs.size+1,d.heap.objs.size],_,_,u,rfl,Q,Zg b (d.heap.objs.size+1) d.heap.objs.size (Nat.succ_ne_self _),⟨⟨_,o⟩,j⟩,fun c M=>?_,q⟩;have z:c=d.heap.objs.size+1\/c=d.heap.objs.size:=by simpa using M
  rcases z with rfl | rfl
  . exact g.cq (Nat.le_succ _) (g.hok.fresh (Nat.le_succ _))
  . exact g.cq (Ue _) (g.hok.fresh (Ue _))
end
end L2
namespace SM
theorem oW:∀(xs:Ni Dt)(k i:Nat),(QI k xs)[i]?=(xs[i]?).map fun x=>.tup [.int ((k+i:Nat):Int),x]
 | [],_,_=>by simp[QI]
 | x::xs,k,0=>by simp[QI]
 | x::xs,k,i+1=>by
  simp![QI,Rr];rw[oW xs (k+1) i];have:k+1+i=k+(i+1):=by omega
  rw[this]
section
variable{X:Cx}
theorem ZL(i j:Nat){x y:Str}{s p pos:Pos}{x1}(F:X.calm=true)(m:X.N.Nodup)(D:X.N[i]?=ε x:=by rfl)(C:X.N[j]?=ε y:=by rfl)
 (B:FM X.env.scope x:=by first | exact Or.inl rfl | exact Or.inr rfl) (u:FM X.env.scope y:=by first | exact Or.inl rfl | exact Or.inr rfl)
 (E:X.fn x=true\/X.env.scope.names.lookup x=ε .local:=by first | exact .inl rfl | exact .inr rfl | assumption)
 (f:X.fn y=true\/X.env.scope.names.lookup y=ε .local:=by first | exact .inl rfl | exact .inr rfl | assumption):GM X (.Tuple [.Name x s,.Name y p] x1 pos) (bD i j):=by
 unhygienic
  refine PG.imp (V6 (n:=2) F (wY (aS m D B E) (wY (aS m C u f) Ab))) fun v J H Q o=>?_
  obtain⟨M,l,h,d,U,S,L,R,e,k⟩:=o;unfold bD at e;split at e
  . cases e;obtain⟨a,O,rfl,q,r⟩:=ai.mp R;obtain⟨g,T,rfl,I,r⟩:=r.Ys;obtain⟨b,P,rfl,R2,r⟩:=r.Ys;cases r.ar;exact⟨a,[g,b],rfl,q.sq,rfl,g,[b],rfl,b,[],rfl,rfl,k _ ((L.set i I).set j R2)⟩
  . cases e
end
def KI(fe fo a:RE):RS:=fun l h=>(fe l h).bind fun v=>(fo l v.2).bind fun o=>(a l o.2).bind fun i=>match o.1,i.1 with
 | .ref n,.int k=>match i.2[n]? with
  | some (.lst xs)=>(cI xs.length k).bind fun j=>ε (.nx l (i.2.set n (.lst (xs.set j v.1))))
  | _=>none
 | _,_=>none
noncomputable def YM(g:RG)(fe:RE):RS:=fun l h=>(fe l h).bind fun v=>(g v.1 l).bind fun a=>ε (.nx a v.2)
noncomputable def JG(d:Dt)(k:Int):Ni Dt:=List.replicate k.toNat d
def gJ(fa fb:RE):RE:=fun l h=>(fa l h).bind fun a=>(fb l a.2).bind fun k=>match k.1 with
 | .int i=>if -(2^62)<=i/\i<=1000000 then ε (.lst (JG a.1 i),k.2)else none
 | _=>none
def jK(fa fb:RE):RE:=fun l h=>(fa l h).bind fun a=>(fb l a.2).bind fun k=>match k.1 with
 | .int i=>if -(2^62)<=i/\i<=1000000 then ε (.ref k.2.length,k.2++[.lst (JG a.1 i)])else none
 | _=>none
def QM:Dt->HI->Oa (Dt×HI):=fun d h=>(EA h d).bind fun a=>(eE a).map fun bs=>(.bl (bs.any id),h)
def VP(fa fb:RE):RI:=fun l h=>(fa l h).bind fun r=>(fb l r.2).bind fun q=>match EA q.2 r.1,EA q.2 q.1 with
 | some _,some _=>ε (.zp r.1 q.1,q.2)
 | _,_=>none
def mG:sD:=T3
def VC:sD:=fun a b h=>match a,b with
 | .tup d,.tup ys=>(WB d).bind fun ns=>(WB ys).bind fun e=>ε (.bl (!decide (ns=e)),h)
 | a,.lst []=>(EA h a).bind fun d=>ε (.bl (!d.isEmpty),h)
 | a,b=>V3 a b h
noncomputable def AF(t:RT)(body:RS):Nat->RS
 | 0,_,_=>none
 | n+1,l,h=>(t l h).bind fun c=>if c.1=true then(body l c.2).bind fun r=>match r with
  | .nx b a=>AF t body n b a
  | .ct b a=>AF t body n b a
  | .bk b a=>ε (.nx b a)
  | .rt d a=>ε (.rt d a)
  else ε (.nx l c.2)
def SO(n:Nat)(t:RT)(body:RS):RS:=fun l h=>AF t body n l h
noncomputable def CI(fo fa:RE):RE:=fun l h=>(fo l h).bind fun r=>match r.1 with
 | .ref n=>match r.2[n]? with
  | some (.lst _)=>(fa l r.2).bind fun q=>match q.1 with
   | .ref m=>match q.2[n]?,q.2[m]? with
    | some (.lst xs),some (.lst ys)=>if xs.length+ys.length<=sizeLine then ε (.non,q.2.set n (.lst (xs++ys)))else none
    | _,_=>none
   | _=>none
  | _=>none
 | _=>none
noncomputable def WO(fo fa:RE):RE:=fun l h=>(fo l h).bind fun r=>match r.1 with
 | .ref n=>match r.2[n]? with
  | some (.lst _)=>(fa l r.2).bind fun q=>match q.1 with
   | .int 0=>match q.2[n]? with
    | some (.lst (x::xs))=>ε (x,q.2.set n (.lst xs))
    | _=>none
   | _=>none
  | _=>none
 | _=>none
noncomputable def CT(F:Dt->Dt->Oa Dt)(fa fb:RE):RE:=fun l h=>(fa l h).bind fun r=>(fb l r.2).bind fun q=>(F r.1 q.1).map fun d=>(d,q.2)
noncomputable def kP:Dt->Dt->Oa Dt:=fun a b=>match a,b with | .int i,.int j=>ε (.int (if j>i then j else i)) | _,_=>none
noncomputable def qM:Dt->Dt->Oa Dt:=fun a b=>match a,b with | .int i,.int j=>ε (.int (if j<i then j else i)) | _,_=>none
noncomputable def cN(f:RE):RE:=fun l h=>(f l h).bind fun r=>match r.1 with | .int i=>ε (.int (Builtin.bitNot i),r.2) | _=>none
end SM
namespace L2
section
variable{X:Cx}
theorem Bh(bs:Ni Bool):(List.range bs.length).any (fun i=>bs.getD i false)=bs.any id:=by
 induction bs with
 | nil=>rfl
 | cons b bs ih=>
  rw[Ss,Js,Ju,any_map,Ju];have:((fun i=>(b::bs).getD i false) ∘ Nat.succ)=fun i=>bs.getD i false:=by
   funext i
   simp
  rw[this,ih];simp
theorem Xw (x:X.calm=true):Zu X (.builtin "any") (fun d H Q=>∃(p:Oi) (bs:Ni Bool),d=[.ref p]/\m4 X.K H p (bs.map V.bl)/\Q (.bl (bs.any id)) H):=by
 intro g s B H d C Q I r h;obtain⟨p,bs,rfl,n,q⟩:=h;obtain⟨u,rfl,j⟩:=lE r;cases j;obtain⟨a,f,pl,F⟩:=I.list n;have b:p<s.heap.objs.size:=by obtain⟨_,e,_⟩:=pl.isList;exact fu e
 refine call_any_walk (wpAny_pyIter_list pl.isList ?_);refine⟨_,_,_,_,_,_,fun i=>bs.getD i false,rfl,Walks.list (A:=X.A.in1) (I.ok.hd x) s.heap.objs.size p (n7 b) a.toArray,⟨⟨_,ji _ rfl,rfl,rfl⟩,pl.isList.push _⟩,?_,fun J D k=>?_⟩
 . intro i v E Q2 L m y;have e:=xS f i v (by simpa using m);subst e;exact Fe y
 . have o:=f.length;have e:(List.range a.toArray.size).any (fun i=>bs.getD i false)=bs.any id:=by rw[show a.toArray.size=bs.length by simp at o ⊢;omega,Bh]
   rw[e];exact⟨.bl (bs.any id),H,I.kept (old_kept k),rfl,q⟩
end
section
variable{X:Cx}{a:Ni (Oi×Obj)}{d:Ni (Oa V)}{H:Hp}{s:Oe}{h':Ri}
theorem mf.hF{t':Nat}{fp:Ni Oi}{p:Oi}{xs:Ni V}(I:mf X a d H s)(k:∀b o,b∉fp->s.heap.get? b=ε o->h'.get? b=ε o)(h:∀b∈fp,FE X a H b)(x:s.heap.objs.size<=p)
 (new:Xo X.prog X.w (oB H p (.tup xs)) h' p (.tup xs)):mf X a d (oB H p (.tup xs)) { s with heap:=h',toks:=t' }:=by
 have f:H p=none:=I.hok.fresh x;have j:∀b u,H b=ε u->b∉fp:=fun b u q z=>by rw[(h b z).1]at q;cases q
 refine I.step (g':=s.gens) (d':=s.drawn) (ch:=fp) (fun b g=>?_) (fun b o t t e q t=>k b o e q) (fun b o t t e q t=>⟨o.slots,k b o e q⟩)
  (fun b o t q n=>by rw[XA (n7 (jj (fu q) x))];exact n)
  (fun b o e q=>⟨o,k b o e q⟩) (fun b y q=>by rw[XA (MC q f)];exact q) (fun b o u q=>by rw[XA (MC q f)];exact q)
  (fun b O q=>⟨#[],by rw[XA (MC q f),q];simp⟩) (fun m C=>?_) (fun b u q=>?_) I.bare
 . obtain⟨P,M,e2,L,J,F⟩:=h b g;exact⟨L,M,J,F⟩
 . obtain⟨o,D,E,B,r⟩:=C;exact⟨o,D,E,k _ o (fun z=>(h _ z).2.1 rfl) B,r⟩
 . by_cases g:b=p
   . subst g;rw[fC]at q;cases q;exact new
   . rw[XA g]at q;refine(I.hok b u q).stay (fun c v e i=>?_) (fun c q=>by rw[XA (MC q f)];exact q) fun c y q=>by rw[XA (MC q f)];exact q
     rcases e with z | z
     . subst z;exact k c v (j c u q) i
     . exact k c v (j c _ z) i
theorem mf.hG{t':Nat}{fp:Ni Oi}(I:mf X a d H s)(k:∀b o,b∉fp->s.heap.get? b=ε o->h'.get? b=ε o)(f:∀b∈fp,FE X a H b):mf X a d H { s with heap:=h',toks:=t' }:=by
 have h:∀b u,H b=ε u->b∉fp:=fun b u q z=>by rw[(f b z).1]at q;cases q
 refine I.step (g':=s.gens) (d':=s.drawn) (ch:=fp) (fun b x=>?_) (fun b o t t e q t=>k b o e q) (fun b o t t e q t=>⟨o.slots,k b o e q⟩)
  (fun b o t q n=>n) (fun b o e q=>⟨o,k b o e q⟩) (fun b i q=>q) (fun b o u q=>q)
  (fun b J q=>⟨#[],by rw[q];simp⟩) (fun m p=>?_) (fun b u q=>?_) I.bare
 . obtain⟨L,F,e2,E,D,C⟩:=f b x;exact⟨E,F,D,C⟩
 . obtain⟨o,y,B,j,r⟩:=p;exact⟨o,y,B,k _ o (fun z=>(f _ z).2.1 rfl) j,r⟩
 . refine(I.hok b u q).stay (fun c v e g=>?_) (fun c q=>q) fun c i q=>q
   rcases e with z | z
   . subst z;exact k c v (h c u q) g
   . exact k c v (h c _ z) g
end
def Izp(K:Ou)(a b:Oi):It:=
 ⟨fun i H=>∃e d x y,m4 K H a e/\m4 K H b d/\e[i]?=ε x/\d[i]?=ε y,
  fun i H v f=>∃p x y,H p=none/\v=.ref p/\(∀e,m4 K H a e->e[i]?=ε x)/\(∀d,m4 K H b d->d[i]?=ε y)/\f=oB H p (.tup [x,y]),
  fun i H=>∃e d,m4 K H a e/\m4 K H b d/\(e.length<=i\/d.length<=i)⟩
theorem gR{h:Ri}{z TI TO f i2 m l2 n:Oi}{P:Nu}{x y a b:Nu}{I H:Nat}{xs ys:Ra Nu}(Q:z=n+4)(S:TI=n+2)(R:TO=n+3)(T:f=n)(e2:i2=n+1)(hz:IsZip h z TI TO P)(s:IsPair h TO a b)
 (h1:h.IsListIter f m I) (h2:h.IsListIter i2 l2 H) (q:h.IsList m xs) (p:h.IsList l2 ys):ZipApart z TI TO f i2 m l2:=by
 obtain⟨Z,O,W,_⟩:=h1;obtain⟨Y,M,U,_⟩:=h2;have B:∀{l:Oi}{u:Ra Nu},h.IsList l u->l≠z/\l≠TO/\l≠f/\l≠i2:=by
  intro l u J;obtain⟨o,g,c,_⟩:=J;refine⟨fun e=>?_,fun e=>?_,fun e=>?_,fun e=>?_⟩
  . subst e;rw[hz]at g;cases g;simp at c
  . subst e;rw[s]at g;cases g;simp at c
  . subst e;rw[O]at g;cases g;rw[W]at c;simp at c
  . subst e;rw[M]at g;cases g;rw[U]at c;simp at c
 obtain⟨q1,q2,q3,q4⟩:=B q;obtain⟨F,E,D,C⟩:=B p;have ne:∀(i j:Nat),i≠j->n+i≠n+j:=fun i j r e=>r (Nat.add_left_cancel e)
 have d:∀(i:Nat),i≠0->n+i≠n:=fun i L e=>L (Nat.add_left_cancel (e:n+i=n+0))
 subst Q S R T e2;exact⟨ne _ _ (by decide),ne _ _ (by decide),(d _ (by decide)).symm,ne _ _ (by decide),ne _ _ (by decide),d _ (by decide),ne _ _ (by decide),d _ (by decide),ne _ _ (by decide),(d _ (by decide)).symm,q1,q2,q3,q4,F,E,D,C⟩
theorem Tt{P:O4}{w:Pb}{K:Ou}{T:Ni Oo}{x1}{pos:Pos}(a b n:Oi):DG P w K (.Tuple T x1 pos) (Izp K a b) [n+4,n+2,n+3,n,n+1] (n+4)
 (fun i h=>IsZip h (n+4) (n+2) (n+3) .none/\IsPair h (n+2) (.ref n) (.ref (n+1))/\(∃u v,IsPair h (n+3) u v)/\h.IsListIter n a i/\h.IsListIter (n+1) b i) where
 mem:=by simp
 obj:=fun i h st c f=>by
  obtain⟨B,C,⟨u,v,r⟩,m,j⟩:=st;have z:c=n+4\/c=n+2\/c=n+3\/c=n\/c=n+1:=by simpa using f
  rcases z with z | z | z | z | z<;>subst z
  . exact⟨_,B,fun v z=>by cases z⟩
  . exact⟨_,C,fun v z=>by cases z⟩
  . exact⟨_,r,fun v z=>by cases z⟩
  . obtain⟨o,e,c,d⟩:=m;exact⟨o,e,fun v z=>by rw[d]at z;cases z⟩
  . obtain⟨o,e,c,d⟩:=j;exact⟨o,e,fun v z=>by rw[d]at z;cases z⟩
 keep:=fun i h h' st k=>by obtain⟨B,C,⟨u,v,r⟩,m,j⟩:=st;exact⟨k _ ⋯ _ B,k _ ⋯ _ C,⟨u,v,k _ ⋯ _ r⟩,m.at fun o e=>k _ ⋯ o e,j.at fun o e=>k _ ⋯ o e⟩
 item:=by
  intro X hP hw hK f i M s σ H E I W st hg;subst hP hw hK;obtain⟨B,C,⟨u,v,r⟩,m,j⟩:=st;obtain⟨xs,ys,x,y,U,F,hx,hy⟩:=hg;obtain⟨a2,rv,p,R⟩:=I.list U;obtain⟨Q,J,O,a3⟩:=I.list F;obtain⟨Z,a5,a1⟩:=rv.get hx;obtain⟨Y,a4,a0⟩:=J.get hy;have D:=gR (x:=.none) (y:=.none) rfl rfl rfl rfl rfl B r m j p.isList O.isList;refine wpAny_pyNext_zip_item D B C r m j p.isList O.isList (x:=Z) (y:=Y) (by simpa using a5) (by simpa using a4) fun h' z1 z2 z3 z4 L sz kp=>?_
  refine⟨_,rfl,wpAny_letOwnedTupleGo_zip z1 fun h2 a6 sb=>?_⟩;have S:∀c ∈ [n+4,n+2,n+3,n,n+1],s.heap.objs.size≠c:=fun c f e=>by
   have z:c=n+4\/c=n+2\/c=n+3\/c=n\/c=n+1:=by simpa using f
   have:∃o,s.heap.get? c=ε o:=by
    rcases z with z | z | z | z | z<;>subst z
    . exact⟨_,B⟩
    . exact⟨_,C⟩
    . exact⟨_,r⟩
    . obtain⟨o,g,_⟩:=m;exact⟨_,g⟩
    . obtain⟨o,g,_⟩:=j;exact⟨_,g⟩
   obtain⟨o,g⟩:=this;exact Du (fu g) (by rw[e];exact Es _)
  have t2:h2.get? s.heap.objs.size=ε { cls:=.type "tuple",data:=.seq #[Z,Y] }:=(sb.2 _ (S _ ⋯)).trans L;have kk:∀c o,c ∉ [n+4,n+2,n+3,n,n+1]->s.heap.get? c=ε o->h2.get? c=ε o:=fun c o f q=>by simp![Ba,not_mem_nil,or_false,not_or]at f;exact(sb.2 c f.1).trans (kp c o f.1 f.2.2.1 f.2.2.2.1 f.2.2.2.2 q)
  have n2:IsPair h2 (n+2) (.ref n) (.ref (n+1)):=(sb.2 _ D.TIz).trans (kp _ _ D.TIz D.TITO D.TIi1 D.TIi2 C);refine⟨.ref s.heap.objs.size,oB H s.heap.objs.size (.tup [x,y]),I.hF kk W (Ue _) ⟨by simp![Ss,Uo];rw[Ca];decide,[Z,Y],.cons a1 (.cons a0 .nil),⟨_,t2,rfl,_,rfl⟩⟩,rfl,
   ⟨_,x,y,I.hok.fresh (Ue _),rfl,fun zs R=>by rw[I.eR R U];exact hx,fun zs R=>by rw[I.eR R F];exact hy,rfl⟩,
   ⟨a6,n2,⟨_,_,(sb.2 _ D.TOz).trans z2⟩,z3.at fun o q=>(sb.2 _ D.i1z).trans q,z4.at fun o q=>(sb.2 _ D.i2z).trans q⟩,fun c f=>?_⟩
  rw[XA (ni (S c f))];exact(W c f).1
 done:=by
  intro X hP hw hK f i M s σ H E I W st hg;subst hP hw hK;obtain⟨B,C,⟨u,v,r⟩,m,j⟩:=st;obtain⟨xs,ys,U,F,hx⟩:=hg;obtain⟨a2,rv,p,R⟩:=I.list U;obtain⟨Q,J,O,a3⟩:=I.list F;have hl:=rv.length;have a7:=J.length;have D:=gR (x:=.none) (y:=.none) rfl rfl rfl rfl rfl B r m j p.isList O.isList;refine wpAny_pyNext_zip_end (I.ok.hd f) D B C r m j p.isList O.isList ?_ fun h' eb=>⟨rfl,I.hG (t':=s.toks) (fp:=[n+4,n+2,n+3,n,n+1]) (fun c o f q=>?_) W⟩
  . rcases hx with hx | hx
    . exact .inl (by simp;omega)
    . exact .inr (by simp;omega)
  . simp![Ba,not_mem_nil,or_false,not_or]at f;exact eb c o f.1 f.2.2.1 f.2.2.2.1 f.2.2.2.2 q
 self:=fun t t t t t st h=>wpAny_pyIter_zip st.1 h
section
variable{X:Cx}
def iZp(K:Ou)(i:TA):TI:=fun e H R=>i e H fun h d=>∃a b,h=[.ref a,.ref b]/\(∃g,m4 K d a g)/\(∃f,m4 K d b f)/\R (Izp K a b) d
theorem X6 {i:Ni Oo} {x1} {M:Pos} {a b:Oo} {y:TA} {p pos:Pos} (Z:Gl X "zip") (Y:X.mg "zip" =none) (ha:PA X [a,b] y) (hs:starEach [a,b] X.env=(false,eval a X.env)::starEach [b] X.env:=by rfl) (hpl:(backTo pos (starEach [b] X.env)).any (·.1)=false:=by rfl) :
 PI X (.Tuple i x1 M) (.Call (.Name "zip" p) [a,b] [] pos) (iZp X.K y):=by
 intro g s o H R I h;refine Call_ (WF I Z Y boot_zip (PyProof.Rows.callWith_type1 (uB (ha pos g s o H _ I h) fun us f D=>?_) hs hpl));obtain⟨vs,C,j,P,q1⟩:=D;obtain⟨c,d,e,⟨xs,W⟩,⟨ys,n⟩,q⟩:=q1;subst e;obtain⟨u,u',rfl,r,Q⟩:=pM P;cases r;cases Q;obtain⟨S,rv,pl,hz⟩:=j.list W;obtain⟨B,O,m,T⟩:=j.list n;refine call_zip_2 pl.isList m.isList fun h' x L J F E U k=>?_
 have I2:mf X g o C { f with heap:=h' }:=j.kept (t':=f.toks) k;refine wpAny_pyIter_zip x ?_;refine⟨f.heap.objs.size+4,[f.heap.objs.size+4,f.heap.objs.size+2,f.heap.objs.size+3,f.heap.objs.size,f.heap.objs.size+1],_,_,C,rfl,I2,Tt c d f.heap.objs.size,⟨x,L,⟨_,_,J⟩,F,E⟩,fun c hc=>?_,q⟩;have z:f.heap.objs.size<=c:=by
  have z:c=f.heap.objs.size+4\/c=f.heap.objs.size+2\/c=f.heap.objs.size+3\/c=f.heap.objs.size\/c=f.heap.objs.size+1:=by simpa using hc
  rcases z with z | z | z | z | z<;>rw[z]<;>first | exact Ue _ | exact Le _ _
 exact j.cq z (j.hok.fresh z)
end
end L2
namespace SM
section
variable{X:Cx}{e o i a b:Oo}{f g fe fo w fa fb:RE}{p pos m:Pos}
theorem Vl (x:X.calm=true) (u:Gl X "any") (s:X.mg "any" =none) (y:EM X e f) (hs:lB e=true:=by rfl):EM X (.Call (.Name "any" p) [e] [] pos) (LB QM f):=by
 unhygienic
  exact kK (Xw x) (fun j h d v E D H Q S R e k=>by
   obtain⟨n,B,e⟩:=oA e;cases q:eE n with
   | none=>rw[q]at e;cases e
   | some ns=>
    rw[q]at e;cases e;obtain⟨a,C,z,sq,r⟩:=ZC S R B;rw[dO q]at r;rw[r.fh]at sq;exact⟨a,ns,by rw[z],sq,k j _ H (Yo.mpr rfl) S (mo.refl _ _)⟩) u s PyProof.Rows.boot_any y (hs:=hs)
theorem oO(he:EM X e fe)(ho:EM X o fo)(hi:EM X i w)
 (hs:swapsWithSole [.Subscript o i m] e pos.line X.env=pure false:=by rfl) (hw:swappedStores [.Subscript o i m] e X.env=pure none:=by rfl) (h1:(assignEach [.Subscript o i m] X.env).map (·.2)=[assign (.Subscript o i m) X.env]:=by rfl)
 (s:∀v,assign (.Subscript o i m) X.env v=(do
  let ov <- holding [v] (eval o X.env)
  let iv <- holding [v,ov] (eval i X.env)
  standAt m
  holding [v,ov,iv] (setItem ov iv v)
  release [v,ov,iv] []):=by intro _;rfl):ZM X (.Assign [.Subscript o i m] e pos) (KI fe fo w):=by
 unhygienic
  exact PS.imp (A0 he (T6 ho hi Zh s) hs hw h1) fun D U H M=>by
   obtain⟨W,l,h,r,S,L,e,k⟩:=M;obtain⟨⟨v,Q⟩,e1,e⟩:=oA e;obtain⟨⟨d,hd⟩,e2,e⟩:=oA e;obtain⟨⟨j,hj⟩,e3,e⟩:=oA e;refine⟨W,l,h,v,Q,S,L,e1,fun J u H1 R1 S1 E=>⟨J,l,Q,d,hd,S1,L.ext E,e2,fun I y H2 R2 S2 C=>⟨I,l,hd,j,hj,S2,L.ext (E.trans C),e3,fun F z H3 R3 T B=>?_⟩⟩⟩;cases d with
   | ref n=>
    cases j with
    | int Z=>
     dsimp only at e;split at e
     . rename_i xs q;obtain⟨P,e4,e⟩:=oA e;cases e;obtain⟨aa,M,s⟩:=Zi.mp (Te.ext B _ R2);obtain⟨Y,x,R⟩:=T.lst s q;have O:=ju s;refine⟨aa,Y,Z,P,M,Ws.mp R3,x,by rw[R.length];exact e4,?_⟩;exact k F U _ (T.write s (sH x) ⟨_,fC,(R.set P (Te.ext (C.trans B) _ R1)).ext (mo.write O (sH x))⟩) (L.ext (E.trans (C.trans (B.trans (mo.write O (sH x)))))) (E.trans (C.trans (B.trans (mo.write O (sH x)))))
     . cases e
    | _=>cases e
   | _=>cases e
theorem WY{d:Oo}{t:RG}(he:EM X e fe)(E:GM X d t)(hs:swapsWithSole [d] e pos.line X.env=pure false:=by rfl)(hw:swappedStores [d] e X.env=pure none:=by rfl)
 (h1:(assignEach [d] X.env).map (·.2)=[assign d X.env]:=by rfl):ZM X (.Assign [d] e pos) (YM t fe):=by
 unhygienic exact PS.imp (A0 he E hs hw h1) fun D O H B=>by obtain⟨y,l,h,r,S,L,e,k⟩:=B;obtain⟨⟨v,q⟩,F,e⟩:=oA e;obtain⟨C,e2,e⟩:=oA e;cases e;exact⟨y,l,h,v,q,S,L,F,fun j u M I s x=>⟨j,l,q,v,C,s,L.ext x,I,e2,fun n J=>k j n M s J x⟩⟩
theorem QX{d:Type}(v:d):∀k:Nat,(List.replicate k [v]).flatten=List.replicate k v
 | 0=>rfl
 | k+1=>by rw[Ks,flatten_cons,QX v k];rfl
theorem NY{K:Ou}{H:Hp}{ρ:Rg}{d:Dt}{v:V}(r:Te K H ρ d v):∀k:Nat,Ru K H ρ (List.replicate k d) (List.replicate k v)
 | 0=>.nil
 | k+1=>.cons r (NY r k)
theorem AY{M:L2.St}{H:Hp}{Q:VK}(own:Bool)(h:tM X.K (if own=true then jK fa fb else gJ fa fb) M H Q):iU fU (gU (K2 (tM X.K fa) hU)) (tM X.K fb) M H Q:=by
 obtain⟨T,l,h,d,W,S,L,e,k⟩:=h;have Y:∃r s u n i,fa l h=ε (r,s)/\fb l s=ε (u,n)/\u=.int i/\(-(2^62)<=i/\i<=1000000)/\(if own=true then(Dt.ref n.length,n++[.lst (JG r i)])else(Dt.lst (JG r i),n))=(d,W):=by
  cases own with
  | true=>
   rw[dh rfl]at e;obtain⟨⟨r,s⟩,C,e⟩:=oA e;obtain⟨⟨u,n⟩,e2,e⟩:=oA e;cases u with
   | int i=>obtain⟨c,e⟩:=oF e;exact⟨r,s,_,n,i,C,e2,rfl,c,e⟩
   | _=>cases e
  | false=>
   rw[dz Wk]at e;obtain⟨⟨r,s⟩,C,e⟩:=oA e;obtain⟨⟨u,n⟩,e2,e⟩:=oA e;cases u with
   | int i=>obtain⟨c,e⟩:=oF e;exact⟨r,s,_,n,i,C,e2,rfl,c,e⟩
   | _=>cases e
 obtain⟨r,s,u,n,i,C,e2,rfl,c,D⟩:=Y;refine⟨T,l,h,r,s,S,L,C,fun F v H1 Z O R=>⟨by simp![Ss,Uo];rw[Ca];decide,fun q B=>?_⟩⟩;refine⟨F,l,s,.int i,n,O.fresh B,L.ext (R.trans (mo.fresh B)),e2,fun x y H2 R2 E J=>?_⟩;have U:=J.keep q _ fC (O.out B).1;have hi:i.toNat<=1000000:=by omega
 refine⟨q,i,[v],rfl,Ws.mp R2,U,by omega,by omega,by simp![Ss,Uo];rw[Ca];omega,fun q2 j=>?_⟩;rw[QX];have I:Ru X.K H2 x (JG r i) (List.replicate i.toNat v):=NY (Te.ext ((mo.fresh B).trans J) _ Z) _;have P:=R.trans ((mo.fresh B).trans J);cases own with
 | true=>rw[dh rfl]at D;cases D;exact k _ _ _ (OH E I j).1 (OH E I j).2 (P.trans (mo.own j))
 | false=>rw[dz Wk]at D;cases D;exact k x _ _ (WJ E I j) (E.fresh j) (P.trans (mo.fresh j))
theorem LZ(j:EM X a fa)(d:EM X b fb)(hs:lB a=true:=by rfl):EM X (.BinOp (.List [a] p) .Mult b pos) (gJ fa fb):=by unhygienic exact PE.imp (XS YZ (OO (bC j RC (bB hs _ _))) d) fun n H Q h=>AY (fa:=fa) (fb:=fb) false h
theorem cZ(j:EM X a fa)(d:EM X b fb)(hs:lB a=true:=by rfl):EM X (.BinOp (.List [a] p) .Mult b pos) (jK fa fb):=by unhygienic exact PE.imp (XS YZ (OO (bC j RC (bB hs _ _))) d) fun n H Q h=>AY (fa:=fa) (fb:=fb) true h
set_option tactic.hygienic true in
theorem Um {J:Ni Oo} {x1} {tp:Pos} (hg:Gl X "zip") (hm:X.mg "zip" =none) (ha:EM X a fa) (hb:EM X b fb) (hs:lB a=true:=by rfl) (I:lB b=true:=by rfl):IM X (.Tuple J x1 tp) (.Call (.Name "zip" p) [a,b] [] pos) (VP fa fb):=by
 unhygienic
  refine PI.imp (X6 hg hm (bC ha (bC hb RC (bB I _ _)) (bB hs _ _)) (bB hs _ _) (MH (by rw[Ka,I];rfl))) fun σ H R zz=>?_
  obtain⟨ρ,l,h,s,h',S,L,e,k⟩:=zz;obtain⟨⟨d1,h1⟩,e1,e⟩:=oA e;obtain⟨⟨d2,h2⟩,e2,e⟩:=oA e;refine⟨ρ,l,h,d1,h1,S,L,e1,fun Z v H1 R1 S1 E1=>⟨Z,l,h1,d2,h2,S1,L.ext E1,e2,fun Y u H2 R2 S2 E2=>?_⟩⟩;dsimp only at e;split at e
  . rename_i xs ys q1 q2;cases e;have M:=Te.ext E2 _ R1;obtain⟨c,vs,z1,t1,_⟩:=ZC S2 M q1;obtain⟨d,ws,z2,t2,_⟩:=ZC S2 R2 q2;refine⟨c,d,by rw[z1,z2],⟨vs,t1⟩,⟨ws,t2⟩,k Y _ H2 (fun H3 a1 h3 E3 r n=>?_) S2 (E1.trans E2)⟩;have B:=Te.same E3 _ M;have x:=Te.same E3 _ R2;simp![mv.at];split
    . trivial
    . rename_i y;split at y
      . rename_i F E w1 w2;obtain⟨c2,q,D,P,r3⟩:=ZC r B w1;obtain⟨d2,j,C,O,r4⟩:=ZC r x w2;rw[z1]at D;rw[z2]at C;cases D;cases C;refine⟨q,j,P,O,?_⟩;have y:=rz y;rw[r3.length,r4.length];split at y
        . cases y
        . rename_i a0;by_cases W:F.length<=n
          . exact .inl W
          . by_cases U:E.length<=n
            . exact .inr U
            . exact Du (je (Nat.lt_of_not_le U)) (a0 _ _ (je (Nat.lt_of_not_le W)))
      . cases y
    . rename_i dd y;split at y
      . rename_i F E w1 w2;obtain⟨c2,q,D,P,r3⟩:=ZC r B w1;obtain⟨d2,j,C,O,r4⟩:=ZC r x w2;rw[z1]at D;rw[z2]at C;cases D;cases C;have y:=rz y;split at y
        . rename_i x' y' W U;cases y;obtain⟨vx,m1,n1⟩:=r3.get W;obtain⟨vy,m2,n2⟩:=r4.get U;refine⟨⟨q,j,vx,vy,P,O,m1,m2⟩,fun u H4 y=>?_⟩;obtain⟨p0,x0,y0,hp,rfl,T,Q,rfl⟩:=y;have T:=T q P;have Q:=Q j O;rw[m1]at T;rw[m2]at Q;cases T;cases Q;exact⟨II r (.cons n1 (.cons n2 .nil)) hp,mo.fresh hp,r.fresh hp⟩
        . cases y
      . cases y
  . cases e
end
section
variable{X:Cx}{c:Ni (Oi×Obj)}{f:L2.St}{H:Hp}{s:Oe}{ρ:Rg}
theorem lS(_:X.A.units+64<cLine):OM X (compareOp .Eq) mG:=K1
theorem dM(hu:X.A.units+64<cLine):OM X (compareOp .NotEq) VC:=by
 unhygienic
  intro c s f H x y v u Q I F E h;obtain⟨ρ,h,Z,Y,d,W,S,M,R2,e,k⟩:=h;unfold VC at e;split at e
  . obtain⟨ns,q1,e⟩:=oA e;obtain⟨U,q2,e⟩:=oA e;cases e;obtain⟨a,T,z,t,B⟩:=ai.mp M;obtain⟨b,R,C,D,m⟩:=ai.mp R2;rw[YD q1]at B;rw[YD q2]at m;subst z C;cases uI B;cases uI m;cases F;cases E;obtain⟨o,r,p,_⟩:=I.tuple t.sq;obtain⟨n,i,g,_⟩:=I.tuple D.sq;refine cg (e:=fun j=>decide (ns[j]?=U[j]?)) (YN p) (YN g) nofun (fun j P L=>mR r i j P L) ?_;refine⟨.bl _,H,I,rfl,k ρ _ H (Yo.mpr (congrArg V.bl ?_)) S (mo.refl _ _)⟩;rw[cG,cG,<- r.length,<- i.length,mq,mq,RX]
  . obtain⟨O,q,e⟩:=oA e;cases e;obtain⟨a,T,z,t,B⟩:=ZC S M q;obtain⟨b,R,C,D,m⟩:=bn.mp R2;subst z C;cases m.ar;cases F;cases E;obtain⟨o,r,p,_⟩:=I.list t;obtain⟨n,i,g,_⟩:=I.list D.sq;cases i;have J:o.length=O.length:=by rw[<- r.length,B.length]
    cases O with
    | nil=>refine jr (e:=fun l=>true) p.isList g.isList J nofun (fun j P L=>Du L ⋯) ?_;refine⟨.bl _,H,I,rfl,k ρ _ H (Yo.mpr (congrArg V.bl ?_)) S (mo.refl _ _)⟩;rw[cG,J];rfl
    | cons _ _=>exact Nq p.isList g.isList (by rw[cG,J];rfl) nofun ⟨.bl _,H,I,rfl,k ρ _ H (Yo.mpr rfl) S (mo.refl _ _)⟩
  . exact W1 c s f H x y v u Q I F E ⟨ρ,h,Z,Y,d,W,S,M,R2,e,k⟩
end
section
variable{X:Cx}{e o i a b:Oo}{f g fe fo fi fa fb:RE}{p pos pos' w s:Pos}
set_option tactic.hygienic true in
theorem ON (ho:EM X a fa) (hb:EM X b fb) (q:attributeBase a "extend" X.env (eval a X.env)=eval a X.env:=by rfl)
 (j:(w.endLine==s.line)=true:=by rfl) (hs:lB b=true:=by rfl) :
 EM X (.Call (.Attribute a "extend" w) [b] [] s) (CI fa fb):=by
 unhygienic
  exact PE.imp (oM PySem.F.plainAttrs_list PySem.F.slot_list_extend PySem.F.type_list_extend Xy ho (bC hb RC (bB hs _ _)) q (HL hs) j (bB hs _ _)) fun σ H Q Y=>by
   obtain⟨W,l,h,d,h',S,L,e,k⟩:=Y;obtain⟨⟨O,F⟩,e1,e⟩:=oA e;refine⟨W,l,h,O,F,S,L,e1,fun C v H1 R P U=>?_⟩;cases O with
   | ref n=>
    dsimp only at e;split at e
    . rename_i a0 q0;obtain⟨⟨M,h2⟩,e2,e⟩:=oA e;refine⟨rS P R q0,C,l,F,M,h2,P,L.ext U,e2,fun B y H2 R2 D T=>?_⟩;dsimp only at e;cases M with
      | ref m=>
       dsimp only at e;split at e
       . rename_i xs ys q1 q2;obtain⟨hz,e⟩:=oF e;cases e;obtain⟨a,z,ha⟩:=Zi.mp R;subst z;obtain⟨a2,Z,u⟩:=Zi.mp R2;subst Z;have r:=T.get ha;obtain⟨vs,x,J⟩:=D.lst r q1;obtain⟨ws,g3,I⟩:=D.lst u q2;have E:=ju r;refine⟨a,a2,vs,ws,rfl,rfl,x,g3,by rw[J.length,I.length];exact hz,k B _ _ (bp.mpr rfl) (D.write r (sH x) ⟨_,fC,?_⟩) (U.trans (T.trans (mo.write E (sH x))))⟩;exact(J.append I).ext (mo.write E (sH x))
       . cases e
      | _=>cases e
    . cases e
   | _=>cases e
set_option tactic.hygienic true in
theorem Sg (ho:EM X a fa) (hb:EM X b fb) (m:attributeBase a "pop" X.env (eval a X.env)=eval a X.env:=by rfl)
 (j:(w.endLine==s.line)=true:=by rfl) (hs:lB b=true:=by rfl) :
 EM X (.Call (.Attribute a "pop" w) [b] [] s) (WO fa fb):=by
 unhygienic
  exact PE.imp (oM PySem.F.plainAttrs_list PySem.F.slot_list_pop PySem.F.type_list_pop Zt ho (bC hb RC (bB hs _ _)) m (HL hs) j (bB hs _ _)) fun σ H Q T=>by
   obtain⟨R,l,h,d,h',S,L,e,k⟩:=T;obtain⟨⟨I,F⟩,e1,e⟩:=oA e;refine⟨R,l,h,I,F,S,L,e1,fun B v H1 M J P=>?_⟩;cases I with
   | ref n=>
    dsimp only at e;split at e
    . rename_i U q0;obtain⟨⟨d2,h2⟩,e2,e⟩:=oA e;refine⟨rS J M q0,B,l,F,d2,h2,J,L.ext P,e2,fun u y H2 R2 D O=>?_⟩;dsimp only at e;split at e
      . rename_i z0;split at e
        . rename_i x xs q1;cases e;obtain⟨a,z,ha⟩:=Zi.mp M;subst z;have q:=O.get ha;obtain⟨vs,r,g2⟩:=D.lst q q1;have C:=ju q;obtain⟨E,W,rfl,Z,Y⟩:=g2.Ys;have a0:=D.len;refine⟨a,E::W,0,0,E,rfl,by rw[Ws.mp R2],r,by decide,by decide,?_,rfl,k u _ _ (Te.ext (mo.write C (sH r)) _ Z) (D.write q (sH r) ⟨_,fC,?_⟩) (P.trans (O.trans (mo.write C (sH r))))⟩
          . rw[seqIndex_of (by decide) (by simp![Ss];omega)];rfl
          . exact Y.ext (mo.write C (sH r))
        . cases e
      . cases e
    . cases e
   | _=>cases e
theorem Xl(r:EM X a fa):EM X (.UnaryOp .Invert a pos) (cN fa):=by
 unhygienic
  exact PE.imp (X1 i9 r) fun F H Q q=>by
   obtain⟨n,l,h,d,I,S,L,e,k⟩:=q;obtain⟨⟨m,u⟩,y,e⟩:=oA e;refine⟨n,l,h,m,u,S,L,y,fun j x D C B E=>?_⟩;cases m with
   | int i=>cases e;exact⟨i,Ws.mp C,k j _ D (Ws.mpr rfl) B E⟩
   | _=>cases e
theorem uY{c:Oo}{body:Ni Pa}{t:RT}{u:RS}{n:Nat}(hp:PassesOwn (model X.prog X.w) X.A X.env X.xe)(hc:TM X c t)(hb:mH X body u):ZM X (.While c body [] pos) (SO n t u):=by
 unhygienic
  exact PS.imp (Ur hp hc hb) fun D σ H zz=>by
   obtain⟨Z,l,h,r,S,L,e,k⟩:=zz;refine⟨fun m C Y=>∃d y E,Us X.K d E Y/\Xu X.K Y d y C/\mo Z d H Y/\AF t u m y E=ε r,⟨n,Z,l,h,S,L,mo.refl _ _,e⟩,?_⟩;rintro m C Y ⟨d,y,E,S',L',T,x⟩;cases m with
   | zero=>simp![AF]at x;cases x
   | succ m=>
    simp![AF]at x;obtain⟨⟨b,h1⟩,e1,x⟩:=oA x;refine⟨d,y,E,b,h1,S',L',e1,fun O H2 S2 J=>?_⟩;cases b with
    | true=>
     rw[dh rfl]at x;obtain⟨r1,e2,x⟩:=oA x;refine HG ⟨fun M W=>∃m',m'<m+1/\∃d y E,Us X.K d E W/\Xu X.K W d y M/\mo Z d H W/\AF t u m' y E=ε r,fun M W q=>q,O,y,h1,r1,S2,L'.ext J,e2,?_⟩;cases r1 with
     | nx U P=>exact fun j B R F Q I=>⟨m,yu _,j,U,P,F,Q,T.trans (J.trans I),x⟩
     | ct U P=>exact fun j B R F Q I=>⟨m,yu _,j,U,P,F,Q,T.trans (J.trans I),x⟩
     | bk U P=>cases x;exact fun j B R F Q I=>k j B R F Q (T.trans (J.trans I))
     | rt d2 P=>cases x;exact fun j v5 R R5 F I=>k j v5 R R5 F (T.trans (J.trans I))
    | false=>rw[dz Wk]at x;cases x;exact GG (k O C H2 S2 (L'.ext J) (T.trans J))
theorem Ed (I:X.calm=true) (F:Gl X "max") (E:X.mg "max" =none) (M:EM X a fa) (J:EM X b fb) (hs:lB a=true:=by rfl) (m:lB b=true:=by rfl):EM X (.Call (.Name "max" p) [a,b] [] pos) (CT kP fa fb):=by
 unhygienic
  exact PE.imp (JJ (Zw I) F E PyProof.Rows.boot_max (bC M (bC J RC (bB m _ _)) (bB hs _ _)) (he:=bB hs _ _) (hpl:=MH (by rw[Ka,m];rfl))) fun Z H Q D=>by
   obtain⟨C,l,h,d,h',S,L,e,k⟩:=D;obtain⟨⟨y,r⟩,P,e⟩:=oA e;obtain⟨⟨x,O⟩,e2,e⟩:=oA e;refine⟨C,l,h,y,r,S,L,P,fun q v H1 U T B=>⟨q,l,r,x,O,T,L.ext B,e2,fun n u W R2 R Y=>?_⟩⟩;cases y with
   | int i=>
    cases x with
    | int j=>cases e;exact⟨i,j,by rw[Ws.mp U,Ws.mp R2],k n _ W (Ws.mpr rfl) R (B.trans Y)⟩
    | _=>cases e
   | _=>cases e
theorem Gd (I:X.calm=true) (F:Gl X "min") (E:X.mg "min" =none) (M:EM X a fa) (J:EM X b fb) (hs:lB a=true:=by rfl) (m:lB b=true:=by rfl):EM X (.Call (.Name "min" p) [a,b] [] pos) (CT qM fa fb):=by
 unhygienic
  exact PE.imp (JJ (Xv I) F E PyProof.Rows.boot_min (bC M (bC J RC (bB m _ _)) (bB hs _ _)) (he:=bB hs _ _) (hpl:=MH (by rw[Ka,m];rfl))) fun Z H Q D=>by
   obtain⟨C,l,h,d,h',S,L,e,k⟩:=D;obtain⟨⟨y,r⟩,P,e⟩:=oA e;obtain⟨⟨x,O⟩,e2,e⟩:=oA e;refine⟨C,l,h,y,r,S,L,P,fun q v H1 U T B=>⟨q,l,r,x,O,T,L.ext B,e2,fun n u W R2 R Y=>?_⟩⟩;cases y with
   | int i=>
    cases x with
    | int j=>cases e;exact⟨i,j,by rw[Ws.mp U,Ws.mp R2],k n _ W (Ws.mpr rfl) R (B.trans Y)⟩
    | _=>cases e
   | _=>cases e
end
end SM
namespace L2
section
variable{X:Cx}
end
end L2
namespace SM
section
variable{X:Cx}{e o i a b:Oo}{f g fe fo fi fa fb:RE}{p pos pos' apos cpos:Pos}
end
end SM
namespace L2
section
variable{c:Type}[DecidableEq c]
noncomputable def HD(kvs:Ni (c×V))(k:c):Oa V:=(kvs.find? fun a=>decide (a.1=k)).map (·.2)
noncomputable def PD(kvs:Ni (c×V))(k:c)(v:V):Ni (c×V):=
 if(kvs.any fun a=>decide (a.1=k))=true then kvs.map (fun a=>if a.1=k then(a.1,v)else a)else kvs++[(k,v)]
noncomputable def R0(kvs:Ni (c×V))(k:c):Ni (c×V):=kvs.filter fun a=>decide (a.1≠k)
theorem BL{p:c×V}{r:Ni (c×V)}{k:c}(e:p.1=k):HD (p::r) k=ε p.2:=by simp[HD,Io,e]
theorem AL{p:c×V}{r:Ni (c×V)}{k:c}(e:¬p.1=k):HD (p::r) k=HD r k:=by simp[HD,Io,e]
theorem rY(k:c):∀a:Ni (c×V),(a.any fun b=>decide (b.1=k))=(HD a k).isSome
 | []=>rfl
 | p::r=>by
  rw[Ju];by_cases e:p.1=k
  . simp![BL e,eO e,Bool.true_or,Option.isSome_some]
  . rw[AL e,eH e,Bool.false_or];exact rY k r
theorem SQ(kvs:Ni (c×V))(k:c)(v:V):(PD kvs k v).length<=kvs.length+1:=by
 unfold PD;split
 . rw[mq];omega
 . rw[iu,Ss,Uo];omega
theorem ah.gg{o:Oa V}{u:Oa Nu}(r:ah o u):o.isSome=u.isSome:=by
 cases o with
 | none=>cases u with
  | none=>rfl
  | some _=>exact(show False from r).elim
 | some _=>cases u with
  | none=>exact(show False from r).elim
  | some _=>rfl
theorem ah.getD{o:Oa V}{u:Oa Nu}{d:V}{d':Nu}(r:ah o u)(a:mr d d'):mr (o.getD d) (u.getD d'):=by
 cases o with
 | none=>cases u with
  | none=>exact a
  | some _=>exact(show False from r).elim
 | some _=>cases u with
  | none=>exact(show False from r).elim
  | some _=>exact r
theorem KV.val{kvs:Ni (c×V)}{vs:Ni (c×Nu)}(r:KV kvs vs)(k:c):ah (HD kvs k) (valueAt vs k):=by
 unfold KV at r
 induction r with
 | nil=>exact Jo
 | @cons p q g qs h t ih=>
  obtain⟨d,f⟩:=h;by_cases e:p.1=k
  . have a:q.1=k:=d.symm.trans e;have b:valueAt (q::qs) k=ε q.2:=by simp[valueAt,Io,a]
    rw[BL e,b];exact f
  . have a:¬q.1=k:=fun z=>e (d.trans z)
    have b:valueAt (q::qs) k=valueAt qs k:=by simp[valueAt,Io,a]
    rw[AL e,b];exact ih
theorem KV.any{kvs:Ni (c×V)}{vs:Ni (c×Nu)}(r:KV kvs vs)(k:c):(kvs.any fun a=>decide (a.1=k))=vs.any fun a=>decide (a.1=k):=by
 unfold KV at r
 induction r with
 | nil=>rfl
 | cons h t ih=>rw[Ju,Ju,ih,h.1]
theorem KV.repl{kvs:Ni (c×V)}{vs:Ni (c×Nu)}(r:KV kvs vs)(k:c){y:V}{u:Nu}(d:mr y u) :
 KV (kvs.map fun a=>if a.1=k then(a.1,y)else a) (vs.map fun a=>if a.1=k then(a.1,u)else a):=by
 unfold KV at r ⊢
 induction r with
 | nil=>exact .nil
 | @cons p q g qs h t ih=>
  rw[Ti,Ti];refine .cons ?_ ih;obtain⟨b,f⟩:=h;by_cases e:p.1=k
  . rw[dh e,dh (b.symm.trans e)];exact⟨b,d⟩
  . rw[dz e,dz (fun z=>e (b.trans z))];exact⟨b,f⟩
theorem KV.put{kvs:Ni (c×V)}{vs:Ni (c×Nu)}(r:KV kvs vs)(k:c){y:V}{u:Nu}(a:mr y u):KV (PD kvs k y) (stored vs k u):=by
 unfold PD stored;rw[r.any k];by_cases e:(vs.any fun b=>decide (b.1=k))=true
 . rw[dh e,dh e];exact r.repl k a
 . rw[dz e,dz e];exact Paired.snoc r ⟨rfl,a⟩
theorem KV.drop{kvs:Ni (c×V)}{vs:Ni (c×Nu)}(r:KV kvs vs)(k:c):KV (R0 kvs k) (without vs k):=by
 unfold KV at r ⊢;unfold R0 without
 induction r with
 | nil=>exact .nil
 | @cons p q i qs h t ih=>
  obtain⟨d,f⟩:=h;rw[filter_cons,filter_cons];by_cases e:p.1=k
  . have a:¬decide (p.1≠k)=true:=by simp[e]
    have b:¬decide (q.1≠k)=true:=by simp[d.symm.trans e]
    rw[dz a,dz b];exact ih
  . have g:¬q.1=k:=fun z=>e (d.trans z)
    have a:decide (p.1≠k)=true:=by simp[e]
    have b:decide (q.1≠k)=true:=by simp[g]
    rw[dh a,dh b];exact .cons ⟨d,f⟩ ih
theorem KV.keys{kvs:Ni (c×V)}{vs:Ni (c×Nu)}(r:KV kvs vs):kvs.map (·.1)=vs.map (·.1):=by
 unfold KV at r
 induction r with
 | nil=>rfl
 | cons h t ih=>rw[Ti,Ti,ih,h.1]
theorem KV.length{kvs:Ni (c×V)}{vs:Ni (c×Nu)}(r:KV kvs vs):kvs.length=vs.length:=Paired.length r
end
theorem mK{P:O4}{w:Pb}{k:rB}{u:Nu}(r:mr (kV k) u):(AD P w).is k u=true:=by
 cases k with
 | inl i=>obtain⟨t,e⟩:=(show ∃t,u=Value.int i t from r);subst e;exact Hx P w i t
 | inr x=>obtain⟨t,e⟩:=(show ∃t,u=Value.str x t from r);subst e;exact Jx P w x t
theorem sW{P:O4}{w:Pb}:∀{a:Ni rB}{us:Ni Nu},mh (a.map kV) us->ItemsAre (AD P w) a us
 | [],_,r=>by rw[Vu]at r;cases r;exact .nil
 | k::a,_,r=>by
  rw[Ti]at r;cases r with
  | cons h t=>exact .cons (mK h) (sW t)
abbrev KT(H:Hp):Ni (Ni rB×V)->Ni (Ni rB×Oi×Nu)->Prop:=Paired fun p q=>p.1=q.1/\H q.2.1=ε (.tup (p.1.map kV))/\mr p.2 q.2.2
theorem KT.val{H:Hp}{kvs:Ni (Ni rB×V)}{xs:Ni (Ni rB×Oi×Nu)}(r:KT H kvs xs)(k:Ni rB):ah (HD kvs k) ((atKey xs k).map (·.2)):=by
 induction r with
 | nil=>exact Jo
 | @cons p q g qs h t ih=>
  obtain⟨d,_,f⟩:=h;by_cases e:p.1=k
  . have a:q.1=k:=d.symm.trans e;have b:atKey (q::qs) k=ε q.2:=by simp[atKey,Io,a]
    rw[BL e,b];exact f
  . have a:¬q.1=k:=fun z=>e (d.trans z)
    have b:atKey (q::qs) k=atKey qs k:=by simp[atKey,Io,a]
    rw[AL e,b];exact ih
theorem KT.repl{H:Hp}{kvs:Ni (Ni rB×V)}{xs:Ni (Ni rB×Oi×Nu)}(r:KT H kvs xs)(k:Ni rB){y:V}{u:Nu}(f:mr y u) :
 KT H (kvs.map fun b=>if b.1=k then(b.1,y)else b) (xs.map (putAt k u)):=by
 induction r with
 | nil=>exact .nil
 | @cons p q i qs h t ih=>
  rw[Ti,Ti];refine .cons ?_ ih;obtain⟨a,d,g⟩:=h;unfold putAt;by_cases e:p.1=k
  . rw[dh e,dh (a.symm.trans e)];exact⟨a,d,f⟩
  . rw[dz e,dz (fun z=>e (a.trans z))];exact⟨a,d,g⟩
theorem KT.put{H:Hp}{kvs:Ni (Ni rB×V)}{xs:Ni (Ni rB×Oi×Nu)}(r:KT H kvs xs)(k:Ni rB){b:Oi}{y:V}{u:Nu}(f:H b=ε (.tup (k.map kV)))(a:mr y u) :
 KT H (PD kvs k y) (storedH xs k b u):=by
 have e:(kvs.any fun d=>decide (d.1=k))=(atKey xs k).isSome:=by rw[rY,(r.val k).gg,Option.isSome_map]
 unfold PD storedH;rw[e];by_cases q:(atKey xs k).isSome=true
 . rw[dh q,dh q];exact r.repl k a
 . rw[dz q,dz q];exact Paired.snoc r ⟨rfl,f,a⟩
theorem KT.keeps{H d:Hp}{kvs:Ni (Ni rB×V)}{xs:Ni (Ni rB×Oi×Nu)}(r:KT H kvs xs)(e:∀b a,H b=ε (.tup a)->d b=ε (.tup a)):KT d kvs xs:=
 Paired.fk r fun q q z=>⟨z.1,e _ _ z.2.1,z.2.2⟩
section
variable{P:O4}{w:Pb}{H:Hp}{h:Ri}{a:Oi}
theorem B2{u:HO}(ok:ny P w H h)(e:Rd H a u):Xo P w H h a u:=e.ok ok
theorem gK{kvs:Ni (rB×V)}(ok:ny P w H h)(e:Rd H a (.dK kvs)):kvs.length<=sizeLine/\(a==sysModules)=false/\∃vs,KV kvs vs/\h.DictOf (AD P w) a vs:=
 show Xo P w H h a (.dK kvs)from B2 ok e
theorem P0{kvs:Ni (rB×V)}(ok:ny P w H h)(e:H a=ε (.dK kvs)):kvs.length<=sizeLine/\(a==sysModules)=false/\∃vs,KV kvs vs/\h.DictOf (AD P w) a vs:=gK ok (.inl e)
theorem bM{b:Ni rB}(ok:ny P w H h)(e:H a=ε (.tup (b.map kV))):(tupleKind (AD P w)).is h b a:=by obtain⟨_,d,r,o,i,g,n,f⟩:=(show Xo P w H h a (.tup (b.map kV))from ok a _ e);exact⟨o,d.toArray,n,i,g,f,by simpa using sW r⟩
theorem iK{kvs:Ni (Ni rB×V)}(ok:ny P w H h)(e:Rd H a (.dT kvs)):kvs.length<=sizeLine/\(a==sysModules)=false/\
 ∃xs,KT H kvs xs/\h.DictOfH (tupleKind (AD P w)) a xs:=by
 obtain⟨z,y,xs,r,o,n,s,j,i,g,f,d⟩:=(show Xo P w H h a (.dT kvs)from B2 ok e);refine⟨z,y,xs,r,o,n,s,j,i,g,f,fun x hx=>?_,d⟩;have all:∀{l:Ni (Ni rB×V)}{m:Ni (Ni rB×Oi×Nu)},KT H l m->∀x∈m,(tupleKind (AD P w)).is h x.1 x.2.1:=by
  intro l m q
  induction q with
  | nil=>intro x hx;exact nomatch hx
  | @cons p q u qs b t ih=>
   intro x hx;rcases Ba.mp hx with e | hx
   . subst e;exact bM ok (by rw[<- b.1];exact b.2.1)
   . exact ih x hx
 exact all r x hx
theorem v9{kvs:Ni (Ni rB×V)}(ok:ny P w H h)(e:H a=ε (.dT kvs)):kvs.length<=sizeLine/\(a==sysModules)=false/\
 ∃xs,KT H kvs xs/\h.DictOfH (tupleKind (AD P w)) a xs:=iK ok (.inl e)
end
def az(H:Hp)(a:Oi)(y:V)(r:Oa V):Prop:=
 (∃d k,Rd H a (.dK d)/\y=kV k/\r=HD d k)\/∃d k b,Rd H a (.dT d)/\y=.ref b/\H b=ε (.tup (k.map kV))/\r=HD d k
def dy(H:Hp)(a:Oi)(y v:V)(e:Hp):Prop:=
 (∃d k,H a=ε (.dK d)/\y=kV k/\d.length<sizeLine/\e=oB H a (.dK (PD d k v)))\/
 ∃d k b,H a=ε (.dT d)/\y=.ref b/\H b=ε (.tup (k.map kV))/\d.length<sizeLine/\e=oB H a (.dT (PD d k v))
theorem az.k{H:Hp}{a:Oi}{kvs:Ni (rB×V)}{k:rB}(e:H a=ε (.dK kvs)):az H a (kV k) (HD kvs k):=.inl ⟨kvs,k,.inl e,rfl,rfl⟩
theorem az.t{H:Hp}{a b:Oi}{kvs:Ni (Ni rB×V)}{k:Ni rB}(e:H a=ε (.dT kvs))(d:H b=ε (.tup (k.map kV))):az H a (.ref b) (HD kvs k):=.inr ⟨kvs,k,b,.inl e,rfl,d,rfl⟩
theorem dy.t{H:Hp}{a b:Oi}{kvs:Ni (Ni rB×V)}{k:Ni rB}{v:V}(e:H a=ε (.dT kvs))(f:H b=ε (.tup (k.map kV)))(d:kvs.length<sizeLine) :
 dy H a (.ref b) v (oB H a (.dT (PD kvs k v))):=.inr ⟨kvs,k,b,e,rfl,f,d,rfl⟩
section
variable{X:Cx}{d:Ni (Oi×Obj)}{f:St}{H:Hp}{s:Oe}{a:Oi}{y v:V}{u r:Nu}{o:Oa V}{A:Pu}{E:Nu->Oe->Prop}
theorem mf.big(I:mf X d f H s):sysModules<s.heap.objs.size:=by have h:mainGlobals<s.heap.objs.size:=(I.mod.glob.keeps I.bk).lt;exact Nat.lt_trans (by decide) h
theorem jw{Q:Nu->Oe->Prop}(L:A.units+1<cLine)(I:mf X d f H s)(g:az H a y (ε v))(D:mr y u)(h:∀m C,mf X d f H C->mr v m->Q m C) :
 wpAny (model X.prog X.w) A (getItem (.ref a) u) Q E s:=by
 rcases g with⟨n,k,e,x,l⟩ | ⟨n,k,b,e,x,O,l⟩
 . subst x;obtain⟨z,hd,J,j,B⟩:=gK I.hok e;obtain⟨m,hw,i⟩:=ah.some_of (v:=v) (o:=valueAt J k) (by rw[l];exact j.val k);exact wpAny_getItem_of (mK D) B.mapOf hw (h m _ (I.tok _) i)
 . subst x;cases (show u=Value.ref b from D);obtain⟨z,hd,F,j,B⟩:=iK I.hok e;obtain⟨m,hw,i⟩:=ah.some_of (v:=v) (o:=(atKey F k).map (·.2)) (by rw[l];exact j.val k);obtain⟨p,M,q⟩:=Fo.mp hw;refine wpAny_getItem_heap (tupleKind_room_in1 L) (bM I.hok O) B M ?_;rw[q];exact h m _ (I.tok _) i
theorem J4{Q:Nu->Oe->Prop}(B:A.units+1<cLine)(I:mf X d f H s)(g:az H a y o)(x:mr y u)(h:∀p,mf X d f H p->Q (.bool o.isSome) p) :
 wpAny (model X.prog X.w) A (compareOp .In u (.ref a)) Q E s:=by
 rcases g with⟨j,k,e,m,l⟩ | ⟨j,k,b,e,m,C,l⟩
 . subst m;obtain⟨z,hd,F,i,n⟩:=gK I.hok e;refine wpAny_in_of (mK x) hd n.mapOf ?_;rw[<- (i.val k).gg,<- l];exact h _ (I.tok _)
 . subst m;cases (show u=Value.ref b from x);obtain⟨z,hd,D,i,n⟩:=iK I.hok e;refine wpAny_in_heap (tupleKind_room_in1 B) (bM I.hok C) hd n ?_;have q:=(i.val k).gg;rw[Option.isSome_map]at q;rw[<- q,<- l];exact h _ (I.tok _)
theorem FO{h':Ri}{t':Nat}{ob:HO}(I:mf X d f H s)(g:JT (H a))(hs:Heap.SameBut a s.heap h')(he:∃q,h'.get? a=ε q)(new:Xo X.prog X.w (oB H a ob) h' a ob) :
 mf X d f (oB H a ob) { s with heap:=h',toks:=t' }:=
 I.write (x:=a) (e:=a) g (.inl rfl) (fun b q h z=>(hs.2 b h).trans z) he new
theorem IZ{P:O4}{w:Pb}{g:Hp}{h':Ri}{kvs:Ni (rB×V)}{vs:Ni (rB×Nu)}(z:kvs.length<=sizeLine)(hd:(a==sysModules)=false)(b:KV kvs vs)(e:h'.DictOf (AD P w) a vs) :
 Xo P w g h' a (.dK kvs):=⟨z,hd,vs,b,e⟩
theorem uw{R:Hp}{Q:Unit->Oe->Prop}(U:A.units+1<cLine)(I:mf X d f H s)(g:dy H a y v R)(J:mr y u)(L:mr v r)(h:∀F,mf X d f R F->Q () F) :
 wpAny (model X.prog X.w) A (setItem (.ref a) u r) Q E s:=by
 rcases g with⟨j,k,e,B,l,C⟩ | ⟨j,k,b,e,B,P,l,C⟩
 . subst B C;obtain⟨z,hd,T,i,D⟩:=P0 I.hok e;have p:T.length<=sizeLine:=by rw[<- i.length];exact z
   have x:(PD j k v).length<=sizeLine:=by have:=SQ j k v;omega
   refine wpAny_setItem_pairs (hsz:=p) (mK J) D fun M m hs=>h _ ?_
   have W:∃q,M.get? a=ε q:=let ⟨q,_,_,n,_⟩:=m;⟨q,n⟩
   exact FO I (by rw[e];exact Jo) hs W (IZ x hd (i.put k L) m)
 . subst B C;cases (show u=Value.ref b from J);obtain⟨z,hd,S,i,D⟩:=v9 I.hok e;have p:S.length<=sizeLine:=by rw[<- Paired.length i];exact z
   have x:(PD j k v).length<=sizeLine:=by have:=SQ j k v;omega
   refine wpAny_setItem_heap (hsz:=p) (tupleKind_room_in1 U) (bM I.hok P) D fun M m hs=>h _ ?_
   obtain⟨q,es,ep,n,h2,h3,Z,_,Y⟩:=m;refine FO I (by rw[e];exact Jo) hs ⟨q,n⟩ ⟨x,hd,_,(i.put k P L).keeps fun c ys O=>?_,q,es,ep,n,h2,h3,Z,Y⟩;rw[XA (qT O e (fun z=>nomatch z))];exact O
end
section
variable{X:Cx}{pins:Ni (Oi×Obj)}{σ:St}{H:Hp}{s:Oe}{a:Oi}{kvs:Ni (rB×V)}{k:rB}{u:Nu}{A:Pu}{E:Nu->Oe->Prop}
end
def JM(i:Oo):Prop:=∀a b,subscripted i false a b=operate [a,b] (getItem a b)
theorem Xp{prog:O4}{w:Pb}{A:Pu}{E:Nu->Oe->Prop}{s:Oe}{env:Env}{b a:Oo}{pos:Pos}{T p:String}{Q:Nu->Oe->Prop}
 (q:typeLookup (.type T) "__getitem__" =pure (ε (.builtin p))) (hs:JM a)
 (h:wpAny (model prog w) A (eval b env) (fun o f=>wpAny (model prog w) A (eval a env) (fun i s₂=>s₂.TypeIs o T/\wpAny (model prog w) A (getItem o i) Q E s₂) E f) E s) :
 wpAny (model prog w) A (eval (.Subscript b a pos) env) Q E s:=by
 refine Subscript_ (Hs h (fun o f m=>Hs m (fun i s₂ d=>?_) fun z z x=>x) fun z z x=>x);obtain⟨n,d⟩:=d;unfold subscriptTail;refine ao ?_;rw[getitemInPython_of_ne n.not_modules];refine ao (wpAny_specialOf n q ?_);have g:wpAny (model prog w) A (subscripted a false o i) (fun r e=>wpAny (model prog w) A (letTemporaryGo b o r >>=fun z=>pure r) Q E e) E s₂:=by rw[hs o i];exact wpAny_operating (Hs d (fun r e j=>ao (wpAny_letTemporaryGo (au j))) fun z z x=>x)
 first
  | exact au (ao g)
  | exact ao (au (ao g))
  | exact ao g
theorem Ax {X:Cx} {d:Ni (Oi×Obj)} {i:St} {H:Hp} {s:Oe} {a:Oi} {y:V} {o:Oa V} (I:mf X d i H s) (g:az H a y o):s.TypeIs (.ref a) "dict" :=by
 rcases g with⟨f,k,e,_,_⟩ | ⟨f,k,b,e,_,_,_⟩
 . obtain⟨_,_,m,_,h⟩:=gK I.hok e;exact h.typeIs
 . obtain⟨_,_,j,_,h⟩:=iK I.hok e;exact h.typeIs
noncomputable def i8(f e:TE):TE:=fun b H Q=>f b H fun x g=>e b g fun y d=>∃a v,x=.ref a/\az d a y (ε v)/\Q v d
noncomputable def W5(e f:TE):TE:=fun b H Q=>e b H fun y g=>f b g fun x d=>∃a o,x=.ref a/\az d a y o/\Q (.bl o.isSome) d
noncomputable def Z8(g e f:TE):TS:=fun D b H=>f b H fun v j=>g b j fun x i=>e b i fun y h=>∃a d,x=.ref a/\dy h a y v d/\D.nx b d
section
variable{X:Cx}{o i e b:Oo}{pos c tpos:Pos}{f d j:TE}
theorem vZ(E:X.A.units+1<cLine)(F:PE X o f)(J:PE X i d)(hs:JM i):PE X (.Subscript o i pos) (i8 f d):=by intro m s p H Q I h;refine Xp PySem.F.slot_dict_getitem.lookup hs (uB (F m s p H _ I h) fun u B ⟨x,P,M,D,q1⟩=>uB (J m B p P _ M q1) fun U T r=>?_);obtain⟨y,O,q,C,a,v,ex,g,q2⟩:=r;subst ex;obtain rfl:u=Value.ref a:=D;exact⟨Ax q g,jw E q g C fun R S L n=>⟨v,O,L,n,q2⟩⟩
theorem T7(D:X.A.units+1<cLine)(F:PE X i d)(E:PE X o f):PC X .In i o (W5 d f):=by
 intro m s n H Q I h;refine uB (F m s n H _ I h) fun T q ⟨y,P,M,r,q1⟩=>uB (E m q n P _ M q1) fun u S p=>?_
 obtain⟨x,O,L,B,a,C,ex,g,q2⟩:=p;subst ex;obtain rfl:u=Value.ref a:=B;exact J4 D L g r fun R J=>⟨.bl C.isSome,O,J,rfl,q2⟩
theorem Lb(L:X.A.units+1<cLine)(M:PE X o f)(O:PE X i d)(J:PE X b j)(hs:swapsWith b (ε (.Subscript o i c)) pos.line X.env=pure false) :
 PS X (.Assign [.Subscript o i c] b pos) (Z8 f d j):=by
 intro m s n H D I h;refine wpAny_Assign_Subscript (uB (J m s n H _ I h) fun r B ⟨v,W,S,F,q1⟩=>uB (M m B n W _ S q1) fun u q ⟨x,U,R,E,q2⟩=>uB (O m q n U _ R q2) fun iv Z p=>?_) hs;obtain⟨y,H3,Q,C,a,T,ex,g,q3⟩:=p;subst ex;obtain rfl:u=Value.ref a:=E;exact uw L Q g C F fun Y P=>⟨n,T,P,q3⟩
end
theorem Gg {P:O4} {w:Pb} {H:Hp} (h:Ri) (a:sysModules<h.objs.size):Xo P w H (h.push { cls:=.type "dict",data:=.dict #[] }) h.objs.size (.dK []):=
 ⟨m8 _,Ei.mpr (ni (n7 a)),[],.nil,Heap.DictOf.new h⟩
theorem Hg {P:O4} {w:Pb} {H:Hp} (h:Ri) (a:sysModules<h.objs.size):Xo P w H (h.push { cls:=.type "dict",data:=.dict #[] }) h.objs.size (.dT []):=
 ⟨m8 _,Ei.mpr (ni (n7 a)),[],.nil,_,#[],0,ji _ rfl,⟨rfl,rfl,rfl⟩,rfl,rfl,nodup_nil⟩
def J6:TE:=fun _ H Q=>∀p,H p=none->Q (.ref p) (oB H p (.dT []))
section
variable{X:Cx}{pos:Pos}
theorem Hr:PE X (.Dict [] [] pos) J6:=fun b s d H Q I h=>wpAny_Dict_empty ⟨.ref s.heap.objs.size,_,I.laid (a:=s.heap.objs.size) (o:=.dT []) (t':=s.toks) (fun z z q=>cu _ q) (Ue _) (Hg s.heap I.big),rfl,h _ (I.hok.fresh (Ue _))⟩
end
noncomputable def VL:Ni (TE×TE)->St->Hp->(Ni (V×V)->Hp->Prop)->Prop
 | [],_,H,Q=>Q [] H
 | (tk,tv)::r,σ,H,Q=>tk σ H fun x e=>tv σ e fun y d=>VL r σ d fun a b=>Q ((x,y)::a) b
abbrev VV:Ni (V×V)->Ni (Nu×Nu)->Prop:=Paired fun p q=>mr p.1 q.1/\mr p.2 q.2
def MT(X:Cx)(pos:Pos)(keys:Ni (Oa Oo))(a:Ni Oo)(e:Ni (TE×TE)):Prop:=
 ∀(b:Ni (Oi×Obj))(s:Oe)(d:St)(H:Hp)(Q:Ni (V×V)->Hp->Prop),mf X b d H s->VL e d H Q->
  wpAny (model X.prog X.w) X.A (evalPairs (pairTrees keys a X.env pos)) (fun h i=>∃f g,mf X b d g i/\VV f h/\Q f g) X.xe s
theorem Jb{X:Cx}{pos:Pos}:MT X pos [] [] []:=fun a s b H Q I h=>pairTrees_nil_walk ⟨[],H,I,.nil,h⟩
theorem DL{X:Cx}{pos:Pos}{k v:Oo}{i:Ni (Oa Oo)}{vs:Ni Oo}{g f:TE}{b:Ni (TE×TE)}(B:PE X k g)(q:PE X v f)(r:MT X pos i vs b) :
 MT X pos (ε k::i) (v::vs) ((g,f)::b):=fun a s d H Q I h=>
 pairTrees_cons_walk (uB (B a s d H _ I h) fun u m ⟨x,L,E,o,q1⟩=>uB (q a m d L _ E q1) fun O j ⟨y,J,D,n,q2⟩=>
  uB (r a j d J _ D q2) fun M P ⟨p,F,C,e,q3⟩=>⟨(x,y)::p,F,C,.cons ⟨o,n⟩ e,q3⟩)
def VJ(kvs more:Ni (rB×V)):Ni (rB×V):=more.foldl (fun a b=>PD a b.1 b.2) kvs
theorem KV.merge:∀{more:Ni (rB×V)}{a:Ni (rB×Nu)}{kvs:Ni (rB×V)}{vs:Ni (rB×Nu)},KV more a->KV kvs vs->KV (VJ kvs more) (merged vs a):=by
 intro more a kvs vs r;unfold KV at r
 induction r generalizing kvs vs with
 | nil=>intro q;exact q
 | @cons p q d qs h t ih=>
  intro b;have e:KV (PD kvs p.1 p.2) (stored vs q.1 q.2):=by have:=b.put p.1 h.2;rw[<- h.1];exact this
  exact ih e
theorem iV:∀(more kvs:Ni (rB×V)),(VJ kvs more).length<=kvs.length+more.length
 | [],kvs=>by show kvs.length<=kvs.length+0;omega
 | p::r,kvs=>by have b:=iV r (PD kvs p.1 p.2);have a:=SQ kvs p.1 p.2;show(VJ (PD kvs p.1 p.2) r).length<=_;rw[Ss];omega
theorem YV{P:O4}{w:Pb}:∀{kvs:Ni (rB×V)}{e:Ni (Nu×Nu)},VV (kvs.map fun f=>(kV f.1,f.2)) e->∃d,Carries (AD P w) e d/\KV kvs d
 | [],_,r=>by rw[Vu]at r;cases r;exact⟨[],Jo,.nil⟩
 | p::kvs,_,r=>by
  rw[Ti]at r;cases r with
  | @cons a b j bs h t=>obtain⟨d,c,q⟩:=YV (P:=P) (w:=w) t;obtain⟨i,g⟩:=b;exact⟨(p.1,g)::d,⟨mK h.1,rfl,c⟩,.cons ⟨rfl,h.2⟩ q⟩
def j8(b:Ni (TE×TE)):TE:=fun f H Q=>∀p,H p=none->VL b f (oB H p (.dK [])) fun g e=>e p=ε (.dK [])/\∃a:Ni (rB×V),g=a.map (fun d=>(kV d.1,d.2))/\a.length<=15/\Q (.ref p) (oB e p (.dK (VJ [] a)))
theorem Wc{X:Cx}{pos:Pos}{keys:Ni (Oa Oo)}{b:Ni Oo}{d:Ni (TE×TE)}(h:MT X pos keys b d)(i:keys.all (·.isSome)=true)(E:keys.length=b.length)(L:keys ≠ [])
 (n:keys.length<=15):PE X (.Dict keys b pos) (j8 d):=by
 intro f s r H Q I q;have D:=I.hok.fresh (Ue s.heap.objs.size);have R:=I.laid (a:=s.heap.objs.size) (o:=.dK []) (h':=s.heap.push { cls:=.type "dict",data:=.dict #[] }) (t':=s.toks) (fun v v q=>cu _ q) (Ue _) (Gg s.heap I.big);refine wpAny_Dict_walk (knd:=AD X.prog X.w) i E L n (uB (h f _ r _ _ R (q _ D)) fun S T u=>?_);obtain⟨U,Y,p,m,e,g,M,W,q2⟩:=u;subst M;obtain⟨y,c,rk⟩:=YV (P:=X.prog) (w:=X.w) m;obtain⟨z,hd,x,B,O⟩:=P0 p.hok e;cases B;refine⟨y,c,O,fun h' j hs=>⟨.ref s.heap.objs.size,_,?_,rfl,q2⟩⟩;have C:(VJ [] g).length<=sizeLine:=by have J:=iV g [];rw[Uo]at J;rw[Ca];omega
 have F:∃q,h'.get? s.heap.objs.size=ε q:=let ⟨q,_,_,hq,_⟩:=j;⟨q,hq⟩
 exact FO p (by rw[e];exact Jo) hs F (IZ C hd (rk.merge .nil) j)
structure M1(X:Cx)(o:Expr)(m:Str)(apos:Pos)(e:Expr)(cpos:Pos):Prop where
 base:attributeBase o m X.env (eval o X.env)=eval o X.env
 few:((backTo cpos (starEach [e] X.env)).all (fun x=>!x.1)&&(backToKw cpos (keywordEach [] X.env)).all (fun x=>x.1.isSome)
  && decide (([e]:List Expr).length+([]:List Keyword).length+(if([]:List Keyword).isEmpty then 0 else 1)<30))=true
 line:(apos.endLine==cpos.line)=true
 trees:backTo cpos (starEach [e] X.env)=[(false,eval e X.env)]
structure M2(X:Cx)(o:Expr)(m:Str)(apos:Pos)(e f:Expr)(cpos:Pos):Prop where
 base:attributeBase o m X.env (eval o X.env)=eval o X.env
 few:((backTo cpos (starEach [e,f] X.env)).all (fun x=>!x.1)&&(backToKw cpos (keywordEach [] X.env)).all (fun x=>x.1.isSome)
  && decide (([e,f]:List Expr).length+([]:List Keyword).length+(if([]:List Keyword).isEmpty then 0 else 1)<30))=true
 line:(apos.endLine==cpos.line)=true
 trees:backTo cpos (starEach [e,f] X.env)=[(false,eval e X.env),(false,eval f X.env)]
def Z3(H:Hp)(a:Oi):Prop:=(∃b,Rd H a (.dK b))\/∃b,Rd H a (.dT b)
theorem J0{X:Cx}{f:Ni (Oi×Obj)}{m:St}{H:Hp}{s:Oe}{a:Oi}(I:mf X f m H s)(d:Z3 H a) :
 s.TypeIs (.ref a) "dict" /\ (∀b,Value.ref a=.ref b->∃ob,s.heap.get? b=ε ob/\ob.dict=none)/\(a==sysModules)=false:=by
 rcases d with⟨h,e⟩ | ⟨h,e⟩
 . obtain⟨_,hd,o,_,g⟩:=gK I.hok e;refine⟨g.typeIs,fun b q=>?_,hd⟩;cases q;obtain⟨ob,_,_,j,i,_⟩:=g;exact⟨ob,j,i.2.1⟩
 . obtain⟨_,hd,n,_,g⟩:=iK I.hok e;refine⟨g.typeIs,fun b q=>?_,hd⟩;cases q;obtain⟨ob,_,_,j,i,_⟩:=g;exact⟨ob,j,i.2.1⟩
section
variable{X:Cx}{c:Ni (Oi×Obj)}{f:St}{H:Hp}{s:Oe}{a:Oi}{y d:V}{u r:Nu}{o:Oa V}{A:Pu}{E:Nu->Oe->Prop}
theorem Hl{Q:Nu->Oe->Prop}(D:A.units+1<cLine)(I:mf X c f H s)(g:az H a y o)(x:mr y u)(B:mr d r)(h:∀p q,mf X c f H q->mr (o.getD d) p->Q p q) :
 wpAny (model X.prog X.w) A (call (.builtin "dict.get") [.ref a,u,r]) Q E s:=by
 rcases g with⟨m,k,e,n,l⟩ | ⟨m,k,b,e,n,F,l⟩
 . subst n;obtain⟨z,hd,J,i,j⟩:=gK I.hok e;refine call_meetsIn PySem.F.slot_dict_get j.typeIs PySem.F.entry_dict_get (PySem.F.args_dict_get_3 _ _ _) (meets_dict_get_default (AD X.prog X.w) a (mK x) hd r) ⟨_,j.mapOf,h _ _ (I.tok _) ?_⟩;rw[l];exact(i.val k).getD B
 . subst n;cases (show u=Value.ref b from x);obtain⟨z,hd,C,i,j⟩:=iK I.hok e;refine call_meetsIn PySem.F.slot_dict_get j.typeIs PySem.F.entry_dict_get (PySem.F.args_dict_get_3 _ _ _) (meetsH_dict_get_default (tupleKind (AD X.prog X.w)) a b hd r) ⟨tupleKind_room_in1 D,k,C,bM I.hok F,j,h _ _ (I.tok _) ?_⟩;rw[l];exact(i.val k).getD B
end
noncomputable def D6(h f g:TE):TE:=fun b H Q=>h b H fun x e=>∃a,x=.ref a/\Z3 e a/\f b e fun y i=>g b i fun z d=>∃o,az d a y o/\Q (o.getD z) d
section
variable{X:Cx}{o e f:Oo}{c b:Pos}{k i j:TE}
theorem Er (O:X.A.units+1<cLine) (P:PE X o k) (he:PE X e i) (R:PE X f j) (m:M2 X o "get" c e f b):PE X (.Call (.Attribute o "get" c) [e,f] [] b) (D6 k i j):=by
 intro n s p H Q I h;refine wpAny_Call_method m.base m.few m.line PySem.F.plainAttrs_dict PySem.F.slot_dict_get PySem.F.type_dict_get (uB (P n s p H _ I h) fun u F B=>?_);obtain⟨x,Z,r,M,a,ex,d,q1⟩:=B;subst ex;obtain rfl:u=Value.ref a:=M;obtain⟨D,C,_⟩:=J0 r d;refine⟨D,C,?_⟩;rw[m.trees];refine Calls.callWith_builtin rfl (Calls.evalArgs_plain (Calls.spliced_cons (uB (he n F p Z _ r q1) fun iv E ⟨y,Y,U,L,q2⟩=>
  Calls.spliced_cons (uB (R n E p Y _ U q2) fun fv s3 ⟨z,W,T,J,ov,g,q3⟩=>Calls.spliced_nil ?_))))
 exact Hl O T g L J fun w' s4 S q=>⟨_,W,S,q,q3⟩
end
section
variable{X:Cx}{pins:Ni (Oi×Obj)}{σ:St}{H:Hp}{s:Oe}{a:Oi}{kvs:Ni (rB×V)}{A:Pu}{E:Nu->Oe->Prop}
end
section
variable{X:Cx}{pins:Ni (Oi×Obj)}{σ:St}{H:Hp}{s:Oe}{a:Oi}{y:V}{u:Nu}{A:Pu}{E:Nu->Oe->Prop}
end
section
variable{prog:O4}{w:Pb}{A:Pu}{E:Nu->Oe->Prop}{s:Oe}
theorem tO {a:Oi} {R:String->Oe->Prop} (b:s.TypeIs (.ref a) "dict_itemiterator") (q:R "dict_itemiterator" s) :
 wpAny (model prog w) A (typeNameOfWhole (.ref a)) R E s:=wpAny_typeNameOfWhole_itemiter b q
theorem vg{d:Oi}{g:Ra DictEntry}{h:Nat}{od:Obj}{v:Oi}{R:Nu->Oe->Prop}(b:s.heap.IsItemsView v d)(f:s.heap.get? d=ε od)(e:od.data=.dict g h)
 (q:R (.ref s.heap.objs.size) { s with heap:=s.heap.push { cls:=.type "dict_itemiterator",data:=.fields #[.none,.bool false,.ref d,.int 0 0,.int g.size 0,.int h 0,.none,.none] } }) :
 wpAny (model prog w) A (pyIter (.ref v)) R E s:=by
 obtain⟨m,j,n,i⟩:=id b;refine wpAny_pyIter_slot b.typeIs F.slot_dict_items_iter (wpAny_call_entry F.slot_dict_items_iter b.typeIs F.entry_dict_items_iter ?c1 (F.args_dict_items_iter_1 _));unfold Builtin.«dict_items.__iter__»;refine ao (au (ao ?c2));unfold Builtin.Dict_items.dictOf;refine ao (Gi j i (x:=.ref d) rfl (au (ao ?c3)));unfold Builtin.Dict_items.newIterator;refine ao (wpAny_dictEntries f e (ao (wpAny_dictEpoch f e ?c4)));have a:Builtin.Dict_items.ownsTuple "dict_itemiterator" =true:=by decide
 simp![a,dG];refine Ae (au ⟨_,rfl, "dict_itemiterator",_,⟨_,ji _ rfl,rfl⟩,F.slot_dict_itemiterator_next.lookup,?c5⟩) ?c6
 . simpa[rawInt,Builtin.Dict_items.ownedTupleFields]using q
 . simp![sizeOk,Builtin.Dict_items.ownedTupleFields,cG,iu,Ss,Uo,Ca];omega
theorem lg{f d:Oi}{i h:Nat}{a:Ra DictEntry}{od:Obj}{H v0:Nu}{R:Oa Nu->Oe->Prop}
 (I:IsItemIter s.heap f d i a.size h H v0) (gd:s.heap.get? d=ε od) (Z:od.data=.dict a h) (lt:i<a.size)
 (Q:∀q,IsItemIterOut q f d (i+1) a.size h a[i].key a[i].val s.heap.objs.size->
  q.get? s.heap.objs.size=ε { cls:=.type "tuple",data:=.seq #[a[i].key,a[i].val] }->q.objs.size=s.heap.objs.size+1->
  (∀b o,b≠f->s.heap.get? b=ε o->q.get? b=ε o)->R (ε (.ref s.heap.objs.size)) { s with heap:=q }) :
 wpAny (model prog w) A (pyNext (.ref f)) R E s:=by
 obtain⟨G,r,B,n,os⟩:=s;have m:Shared.TypeIs ⟨G,r,B,n,os⟩ (.ref f) "dict_itemiterator" :=⟨_,I,rfl⟩;unfold pyNext;refine ao (wpAny_attempt (wpAny_callSpecial?_slot (name:=Str.ofString "__next__") m F.slot_dict_itemiterator_next (wpAny_call_entry F.slot_dict_itemiterator_next m F.entry_dict_itemiterator_next ?c1 (F.args_dict_itemiterator_next_1 _))));refine ao (au (ao (ao ?c2)))
 first | refine ao (tO m (au ?c3)) | refine ao (wpAny_typeNameOf_itemiter m (au ?c3))
 refine ao (wpAny_fieldsOf I rfl ?c4);have p:Builtin.Dict_items.ownsTuple "dict_itemiterator" =true:=by decide
 simp![p,dG];show wpAny _ _ (if(Value.ref d==Value.none)=true then _ else _) _ _ _;rw[dz (show ¬((Value.ref d==Value.none)=true)from fun z=>Wk z)];refine ao (au (ao (wpAny_dictEntries gd Z ?c5)));rw[dz ⋯];refine ao (au (ao (wpAny_dictEpoch gd Z ?c6)));rw[dz ⋯];refine au ?c7;simp![show ¬((i:Int)<0)from by omega,eG,nu,Array.getElem?_eq_getElem lt];refine ao ?c8
 first | refine ao (tO m (au ?c9)) | refine ao (wpAny_typeNameOf_itemiter m (au ?c9))
 refine ao (wpAny_isOneOf_itemiter m ?c10);show wpAny _ _ (setField (.ref f) 3 (rawInt ((i:Int)+1)) >>=_) _ _ ⟨G,r,B,n,os⟩;refine ao (wpAny_setField_rec I ⋯ fun G1 y C=>?c11)
 replace C:Heap.SameBut f G G1:=C
 replace y:IsItemIter G1 f d (i+1) a.size h H v0:=by
  have z:((i+1:Nat):Int)=(i:Int)+1:=by omega
  unfold IsItemIter;rw[z];simpa[rawInt]using y
 have j:Shared.TypeIs ⟨G1,r,B,n,os⟩ (.ref f) "dict_itemiterator" :=⟨_,y,rfl⟩;refine ao (Eo (ao (wpAny_isOneOf_itemiter j (ao (wpAny_isOneOf_itemiter j ?c12)))));show wpAny _ _ (Builtin.Dict_items.pairFromOwner (.ref f) 6 a[i].key a[i].val) _ _ ⟨G1,r,B,n,os⟩;unfold Builtin.Dict_items.pairFromOwner;refine ao (wpAny_newTuple ?c13);have u:IsItemIter (G1.push { cls:=.type "tuple",data:=.seq #[a[i].key,a[i].val] }) f d (i+1) a.size h H v0:=cu _ y;generalize J:G1.push { cls:=.type "tuple",data:=.seq #[a[i].key,a[i].val] }=G2 at u;have D:G1.objs.size=G.objs.size:=C.1;have il:f<G.objs.size:=fu I;have t2:G2.get? G.objs.size=ε { cls:=.type "tuple",data:=.seq #[a[i].key,a[i].val] }:=by rw[<- J,<- D];exact ji _ rfl
 have z2:G2.objs.size=G.objs.size+1:=by rw[<- J,Ku,D]
 have k2:∀b o,b≠f->G.get? b=ε o->G2.get? b=ε o:=fun b o g e=>by rw[<- J];exact cu _ (C.extBut b o g e)
 show wpAny _ _ (Builtin.Dict_items.ownedTupleIsFree (.ref f) >>=_) _ _ ⟨G2,r,B,n,os⟩;rw[D];clear J y C j D G1;refine ao ?c14;unfold Builtin.Dict_items.ownedTupleIsFree;refine ao (Gi u rfl (x:=.none) rfl (au ?c15));simp![dG];refine ao (Gi u rfl (x:=H) rfl (ao (Gi u rfl (x:=v0) rfl ?c16)));refine ao (wpAny_setField_rec u ⋯ fun G3 W P=>?c17)
 replace P:Heap.SameBut f G2 G3:=P
 replace W:IsItemIter G3 f d (i+1) a.size h a[i].key v0:=W
 refine ao (wpAny_setField_rec W ⋯ fun G4 U O=>?c18)
 replace O:Heap.SameBut f G3 G4:=O
 replace U:IsItemIter G4 f d (i+1) a.size h a[i].key a[i].val:=U
 refine ao (wpAny_setField_rec U ⋯ fun G5 T M=>?c19)
 replace M:Heap.SameBut f G4 G5:=M
 replace T:IsItemIterOut G5 f d (i+1) a.size h a[i].key a[i].val G.objs.size:=T
 refine ao (wpAny_setField_rec T ⋯ fun G6 S L=>?c20)
 replace L:Heap.SameBut f G5 G6:=L
 replace S:IsItemIterOut G6 f d (i+1) a.size h a[i].key a[i].val G.objs.size:=S
 have Y:∀b o,b≠f->G2.get? b=ε o->G6.get? b=ε o:=fun b o g e=>L.extBut b o g (M.extBut b o g (O.extBut b o g (P.extBut b o g e)))
 refine ao (wpAny_letGo (au (au ⟨_,rfl,au (Q G6 S (Y _ _ (Ds il) t2) ?c21 fun b o g e=>Y b o g (k2 b o g e))⟩)));show G6.objs.size=G.objs.size+1;rw[L.1,M.1,O.1,P.1,z2]
theorem En{g d:Oi}{i r:Nat}{n:Ra DictEntry}{od:Obj}{x u:Nu}{R:Oa Nu->Oe->Prop}(y:A.handled=none)
 (h:IsItemIter s.heap g d i n.size r x u) (q:s.heap.get? d=ε od) (p:od.data=.dict n r) (B:n.size<=i)
 (j:∀o,Heap.ExtBut g s.heap o->R none { s with heap:=o }):wpAny (model prog w) A (pyNext (.ref g)) R E s:=by
 have e:s.TypeIs (.ref g) "dict_itemiterator" :=⟨_,h,rfl⟩;unfold pyNext;refine ao (wpAny_attempt (wpAny_callSpecial?_slot (name:=Str.ofString "__next__") e F.slot_dict_itemiterator_next (wpAny_call_entry F.slot_dict_itemiterator_next e F.entry_dict_itemiterator_next ?c1 (F.args_dict_itemiterator_next_1 _))));refine ao (au (ao (ao ?c2)))
 first | refine ao (tO e (au ?c3)) | refine ao (wpAny_typeNameOf_itemiter e (au ?c3))
 refine ao (wpAny_fieldsOf h rfl ?c4);have f:Builtin.Dict_items.ownsTuple "dict_itemiterator" =true:=by decide
 simp![f,dG];show wpAny _ _ (if(Value.ref d==Value.none)=true then _ else _) _ _ _;rw[dz (show ¬((Value.ref d==Value.none)=true)from fun z=>Wk z)];refine ao (au (ao (wpAny_dictEntries q p ?c5)));rw[dz ⋯];refine ao (au (ao (wpAny_dictEpoch q p ?c6)));rw[dz ⋯];refine au ?c7;simp![show ¬((i:Int)<0)from by omega,eG,nu,Array.getElem?_eq_none B];refine ao ?c8
 first | refine ao (tO e (au ?c9)) | refine ao (wpAny_typeNameOf_itemiter e (au ?c9))
 show wpAny _ _ (setField (.ref g) 2 .none >>=_) _ _ _;refine ao (wpAny_setField h rfl ⋯ ?c10);show wpAny _ _ (newExc (.type "StopIteration") [] >>=_) _ _ _;refine ao ?c11;simp![newExc,newTuple];refine ao (Ae (ao (m:=firstArgMember _ _) (wpAny_of_eq (a:=Value.none) (by first | rfl | (simp![firstArgMember];rfl)) ?c12)) (by size_fits));refine Ae ?c13 (by size_fits);simp![raiseNew];refine ao (wpAny_handled ?c14);rw[show A.in1.handled=none from y];refine ao (au (wpAny_throw ?c15));refine ao (wpAny_isInstance (T := "StopIteration") (b:=true) ⟨_,ji _ rfl,rfl⟩ isSubtype_stop (au ?c16));exact j _ (((Heap.SameBut.update ..).extBut.push _).push _)
theorem jg {d:Oi} {R:Nu->Oe->Prop} (a:s.TypeIs (.ref d) "dict") (g:(d==sysModules)=false)
 (q:R (.ref s.heap.objs.size) { s with heap:=s.heap.push { cls:=.type "dict_items",data:=.fields #[.ref d] } }):wpAny (model prog w) A (call (.builtin "dict.items") [.ref d]) R E s:=by
 have m:MeetsIn prog w (Builtin.«dict.items» ⟨[.ref d],[]⟩) (fun z R s=>s.TypeIs (.ref d) "dict" /\ R (.ok (.ret (.ref s.heap.objs.size))) { s with heap:=s.heap.push { cls:=.type "dict_items",data:=.fields #[.ref d] } }):=
  .of_wp fun A R s b=>by obtain⟨e,f⟩:=b;unfold Builtin.«dict.items»;refine ao ?c1;unfold Builtin.Dict.noArgs;refine ao (wpAny_notOrdered_dict e ?c2);show wpAny _ _ (pure d) _ _ s;refine au ?c3;show wpAny _ _ (Builtin.Dict.showsAll d >>=_) _ _ s;unfold Builtin.Dict.showsAll;rw[dz (by rw[g];exact Wk)];exact ao (au (ao (Ae (au ⟨_,rfl,f⟩))))
 exact call_meetsIn PySem.F.slot_dict_items a PySem.F.entry_dict_items (PySem.F.args_dict_items_1 _) m ⟨a,q⟩
theorem Lj:entryFor table "dict_itemiterator.__iter__" =ε Builtin.«dict_keyiterator.__iter__»:=entryFor_alias (id' := "dict_keyiterator.__iter__") (by kernel_rfl) rfl (by decide +kernel) (by kernel_rfl)
theorem ug{a d:Oi}{i n h:Nat}{f e:Nu}{R:Nu->Oe->Prop}(g:IsItemIter s.heap a d i n h f e)(q:R (.ref a) s):wpAny (model prog w) A (pyIter (.ref a)) R E s:=by have b:s.TypeIs (.ref a) "dict_itemiterator" :=⟨_,g,rfl⟩;refine wpAny_pyIter_slot b F.slot_dict_itemiterator_iter (wpAny_call_entry F.slot_dict_itemiterator_iter b Lj ?c1 (F.args_dict_itemiterator_iter_1 _));show wpAny _ _ (ret (.ref a)) _ _ s;exact au ⟨_,rfl, "dict_itemiterator",_,b,F.slot_dict_itemiterator_next.lookup,q⟩
end
theorem Paired.atI{a b:Type}{F:a->b->Prop}:∀{xs:Ni a}{ys:Ni b}{i:Nat}{x:a},Paired F xs ys->xs[i]?=ε x->∃y,ys[i]?=ε y/\F x y
 | _,_,i,x,.nil,e=>by simp at e
 | _,_,0,x,.cons r t,e=>by simp at e;subst e;exact⟨_,rfl,r⟩
 | _,_,i+1,x,.cons r t,e=>by obtain⟨y,d,e2⟩:=Paired.atI t (i:=i) (x:=x) (by simpa using e);exact⟨y,by simpa using d,e2⟩
def FT(a:Oi)(o:Obj):It:=
 ⟨fun i H=>∃b p,H a=ε (.frz o (.dT b))/\b[i]?=ε p,
  fun i H x e=>∃q d p,H q=none/\x=.ref q/\H d=ε (.tup (p.1.map kV))/\(∀b,H a=ε (.frz o (.dT b))->b[i]?=ε p)/\e=oB H q (.tup [.ref d,p.2]),
  fun i H=>∃b,H a=ε (.frz o (.dT b))/\b.length<=i⟩
theorem Ot{P:O4}{w:Pb}{K:Ou}{L:Ni Oo}{x1}{pos:Pos}(a it:Oi){o:Obj}{n:Ra DictEntry}{ep:Nat}(Q:o.data=.dict n ep) :
 DG P w K (.Tuple L x1 pos) (FT a o) [it] it (fun i h=>∃j f,IsItemIter h it a i n.size ep j f) where
 mem:=by simp
 obj:=fun i h zz c b=>by obtain⟨j,f,st⟩:=zz;rw[Ao.mp b];exact⟨_,st,fun v z=>by cases z⟩
 keep:=fun i h h' ⟨j,f,st⟩ k=>⟨j,f,k it ⋯ _ st⟩
 item:=by
  intro X U hw W b i x s σ H E I M st S;subst U hw W;obtain⟨j,f,m⟩:=st;obtain⟨d,p,e,R⟩:=S;obtain⟨go,z,y,xs,r,ob,Z,a0,J,O,F,Y,h5⟩:=(show Xo X.prog X.w H s.heap a (.frz o (.dT d))from I.hok a _ e);rw[go]at J;cases J;rw[Q]at F;cases F;obtain⟨q,hq,f1,f2,f3⟩:=Paired.atI r R;have e0:n.toList[i]?=ε (entryOfKey (tupleKind (AD X.prog X.w)) q):=by rw[Y,u5,hq];rfl
  have C:i<n.size:=by have:=(Wi e0).1;simpa using this
  have ei:n[i]=entryOfKey (tupleKind (AD X.prog X.w)) q:=by rw[Array.getElem?_toList,Array.getElem?_eq_getElem C]at e0;exact rz e0
  refine lg m go Q C fun h' z1 tp sz kp=>⟨_,rfl,wpAny_letOwnedTupleGo_items z1 fun O T sb=>?_⟩
  have B:s.heap.objs.size≠it:=Ds (fu m);have t2:O.get? s.heap.objs.size=ε { cls:=.type "tuple",data:=.seq #[.ref q.2.1,q.2.2] }:=by rw[sb.2 _ B,tp,ei];rfl
  have kk:∀c u,c ∉ [it]->s.heap.get? c=ε u->O.get? c=ε u:=fun c u b g=>by
   have D:c≠it:=fun z=>b (by rw[z];simp)
   exact(sb.2 c D).trans (kp c u D g)
  refine⟨.ref s.heap.objs.size,oB H s.heap.objs.size (.tup [.ref q.2.1,p.2]),I.hF kk M (Ue _) ⟨by simp![Ss,Uo];rw[Ca];decide,[.ref q.2.1,q.2.2],.cons rfl (.cons f3 .nil),⟨_,t2,rfl,_,rfl⟩⟩,rfl,
   ⟨_,q.2.1,p,I.hok.fresh (Ue _),rfl,f2,fun a1 e'=>by rw[e]at e';cases e';exact R,rfl⟩,⟨_,_,T⟩,fun c b=>?_⟩
  rw[Ao.mp b,XA (ni B)];exact(M it ⋯).1
 done:=by
  intro X U hw W b i x s σ H E I M st S;subst U hw W;obtain⟨j,f,m⟩:=st;obtain⟨d,e,R⟩:=S;obtain⟨go,z,y,xs,r,ob,Z,a0,J,O,F,Y,h5⟩:=(show Xo X.prog X.w H s.heap a (.frz o (.dT d))from I.hok a _ e);rw[go]at J;cases J;rw[Q]at F;cases F;have hs:n.size=d.length:=by rw[<- za,Y,mq,<- Paired.length r]
  refine En (I.ok.hd b) m go Q nofun fun h' eb=>⟨rfl,I.hG (t':=s.toks) (fp:=[it]) (fun c u b q=>eb c u (fun z=>b (by rw[z];simp)) q) M⟩
 self:=fun t t t t t st h=>by obtain⟨j,f,m⟩:=st;exact ug m h
section
variable{X:Cx}
theorem mf.freeze{d:Ni (Oi×Obj)}{f:St}{H:Hp}{s:Oe}{a:Oi}{o:Obj}{kvs:Ni (Ni rB×V)}(I:mf X d f H s)(e:H a=ε (.dT kvs))(go:s.heap.get? a=ε o) :
 mf X d f (oB H a (.frz o (.dT kvs))) s:=by
 refine FO (t':=s.toks) I (by rw[e];exact Jo) (Heap.SameBut.refl _ _) ⟨o,go⟩ ⟨go,?_⟩;refine Xo.stay (show Xo X.prog X.w H s.heap a (.dT kvs)from I.hok a _ e) (fun v v v g=>g) (fun b q=>?_) fun b h q=>?_
 . rw[XA (qT q e (fun z=>nomatch z))];exact q
 . rw[XA (qT q e (fun z=>nomatch z))];exact q
def W4(f:TE):TI:=fun e H R=>f e H fun x d=>∃a,x=.ref a/\((∃b,d a=ε (.dT b)/\∀o,R (FT a o) (oB d a (.frz o (.dT b))))\/∃o b,d a=ε (.frz o (.dT b))/\R (FT a o) d)
theorem Jr {j:Ni Oo} {x1} {O:Pos} {d:Oo} {P:TE} {n m:Pos} (Z:PE X d P) (r:attributeBase d "items" X.env (eval d X.env)=eval d X.env:=by rfl) (p:(n.endLine==m.line)=true:=by rfl) :
 PI X (.Tuple j x1 O) (.Call (.Attribute d "items" n) [] [] m) (W4 P):=by
 intro i s F H R I h;refine wpAny_Call_method0_late r p (uB (Z i s F H _ I h) fun v s1 T=>?_);obtain⟨x,M,D,Y,a,ex,q⟩:=T;subst ex;obtain rfl:v=Value.ref a:=Y;have dd:Z3 M a:=by
  rcases q with⟨f,e,_⟩ | ⟨o,f,e,_⟩
  . exact .inr ⟨f,.inl e⟩
  . exact .inr ⟨f,.inr ⟨o,e⟩⟩
 obtain⟨Q,W,U⟩:=J0 D dd;have base:∀(o:Obj)(y:Ra DictEntry)(B:Nat)(E:Hp),s1.heap.get? a=ε o->o.data=.dict y B->mf X i F E s1->R (FT a o) E->
  wpAny (model X.prog X.w) X.A (call (.builtin "dict.items") [.ref a]) (fun v s1=>wpAny (model X.prog X.w) X.A (pyIter v) (C4 X i F (.Tuple j x1 O) R) X.xe s1) X.xe s1:=by
  intro o y B E go S I2 q2;refine jg Q U ?_;have L:mf X i F E { s1 with heap:=s1.heap.push { cls:=.type "dict_items",data:=.fields #[.ref a] } }:=I2.kept (t':=s1.toks) fun b u g=>cu _ g
  refine vg (od:=o) ⟨_,ji _ rfl,rfl,rfl⟩ (cu _ go) S ?_;have I4:=L.kept (t':=s1.toks) (h':=(s1.heap.push { cls:=.type "dict_items",data:=.fields #[.ref a] }).push { cls:=.type "dict_itemiterator",data:=.fields #[.none,.bool false,.ref a,.int 0 0,.int y.size 0,.int B 0,.none,.none] }) fun b u g=>cu _ g
  refine⟨_,[_],_,_,E,rfl,I4,Ot a _ S,⟨.none,.none,ji _ rfl⟩,fun c hc=>?_,q2⟩;rw[Ao.mp hc];exact L.cq (Ue _) (L.hok.fresh (Ue _))
 refine⟨"dict", "dict.items",PySem.F.plainAttrs_dict,PySem.F.slot_dict_items,PySem.F.type_dict_items,Q,W,Calls.callWith_builtin rfl (PySem.evalArgs_none ?_)⟩;rcases q with⟨f,e,q⟩ | ⟨o,f,e,q⟩
 . obtain⟨_,_,_,_,o,y,B,C,_,J,_⟩:=(show Xo X.prog X.w M s1.heap a (.dT f)from D.hok a _ e);exact base o y B _ C J (D.freeze e C) (q o)
 . obtain⟨go,_,_,_,_,o',y,B,C,_,J,_⟩:=(show Xo X.prog X.w M s1.heap a (.frz o (.dT f))from D.hok a _ e);rw[go]at C;cases C;exact base o y B _ go J D q
end
end L2
namespace SM
noncomputable def mE(kvs:Ni (Ni Int×Dt))(k:Ni Int):Oa Dt:=(kvs.find? fun p=>decide (p.1=k)).map (·.2)
noncomputable def eJ(kvs:Ni (Ni Int×Dt))(k:Ni Int)(d:Dt):Ni (Ni Int×Dt):=
 if(kvs.any fun p=>decide (p.1=k))=true then kvs.map (fun p=>if p.1=k then(p.1,d)else p)else kvs++[(k,d)]
noncomputable def FS:RE:=fun _ h=>ε (.ref h.length,h++[.dt []])
def RP(g:RA):RE:=fun l h=>(g l h).bind fun r=>if r.1.length<=sizeLine then(WB r.1).map fun a=>(.ntp a,r.2)else none
def TJ(fo fy fx:RE):RE:=fun l h=>(fo l h).bind fun o=>match o.1 with
 | .ref n=>match o.2[n]? with
  | some (.dt _)=>(fy l o.2).bind fun y=>match y.1 with
   | .ntp k=>(fx l y.2).bind fun x=>match x.2[n]? with
    | some (.dt kvs)=>ε ((mE kvs k).getD x.1,x.2)
    | _=>none
   | _=>none
  | _=>none
 | _=>none
def cP(fe fo fy:RE):RS:=fun l h=>(fe l h).bind fun v=>(fo l v.2).bind fun o=>(fy l o.2).bind fun y=>match o.1,y.1 with
 | .ref n,.ntp k=>match y.2[n]? with
  | some (.dt kvs)=>if kvs.length<sizeLine then ε (.nx l (y.2.set n (.dt (eJ kvs k v.1))))else none
  | _=>none
 | _,_=>none
noncomputable def FI(f:RE):RI:=fun l h=>(f l h).bind fun r=>match r.1 with
 | .ref n=>match r.2[n]? with
  | some (.dt kvs)=>ε (.it n,r.2.set n (.df kvs))
  | some (.df _)=>ε (.it n,r.2)
  | _=>none
 | _=>none
section
variable{K:Ou}{H:Hp}{ρ:Rg}
abbrev KD(K:Ou)(H:Hp)(ρ:Rg)(kvs:Ni (Ni Int×Dt))(vs:Ni (Ni rB×V)):Prop:=vs.map (·.1)=kvs.map (fun p=>p.1.map Sum.inl)/\Ru K H ρ (kvs.map (·.2)) (vs.map (·.2))
theorem ej{k k':Ni Int}:k.map (Sum.inl:Int->rB)=k'.map Sum.inl↔k=k':=⟨fun h=>(map_inj_right (fun q q z=>Sum.inl.inj z)).mp h,fun h=>by rw[h]⟩
theorem aM(k:Ni Int):(k.map (Sum.inl:Int->rB)).map kV=k.map V.int:=by rw[map_map];rfl
theorem KD.ar{vs:Ni (Ni rB×V)}(r:KD K H ρ [] vs):vs=[]:=by have:=r.1;simpa using this
theorem KD.Ys{p:Ni Int×Dt}{kvs:Ni (Ni Int×Dt)}{vs:Ni (Ni rB×V)}(r:KD K H ρ (p::kvs) vs):∃v rs,vs=(p.1.map Sum.inl,v)::rs/\Te K H ρ p.2 v/\KD K H ρ kvs rs:=by
 obtain⟨a,d⟩:=r;cases vs with
 | nil=>simp at a
 | cons q rs=>simp![Ti,Ls]at a;obtain⟨v,i,e,g,f⟩:=Ru.Ys (by simpa only[Ti]using d);simp![Ti,Ls]at e;obtain⟨q1,q2⟩:=q;have b:q1=p.1.map Sum.inl:=a.1;have h:q2=v:=e.1;subst h;exact⟨q2,rs,by rw[b],g,a.2,by rw[e.2];exact f⟩
theorem KD.cons{p:Ni Int×Dt}{v:V}{kvs:Ni (Ni Int×Dt)}{vs:Ni (Ni rB×V)}(g:Te K H ρ p.2 v)(r:KD K H ρ kvs vs):KD K H ρ (p::kvs) ((p.1.map Sum.inl,v)::vs):=
 ⟨by simp![Ti];rw[r.1],.cons g r.2⟩
theorem KD.length{kvs:Ni (Ni Int×Dt)}{vs:Ni (Ni rB×V)}(r:KD K H ρ kvs vs):vs.length=kvs.length:=by have:=congrArg List.length r.1;simpa using this
theorem KD.get:∀{kvs:Ni (Ni Int×Dt)}{vs:Ni (Ni rB×V)}{i:Nat}{p:Ni Int×Dt},KD K H ρ kvs vs->kvs[i]?=ε p->∃v,vs[i]?=ε (p.1.map Sum.inl,v)/\Te K H ρ p.2 v
 | [],_,_,_,_,e=>by simp at e
 | q::kvs,_,0,p,r,e=>by obtain⟨v,a,rfl,g,_⟩:=r.Ys;simp at e;subst e;exact⟨v,rfl,g⟩
 | q::kvs,_,i+1,p,r,e=>by obtain⟨v,a,rfl,_,b⟩:=r.Ys;obtain⟨u,d,e2⟩:=KD.get (i:=i) b (by simpa using e);exact⟨u,by simpa using d,e2⟩
theorem KD.val(k:Ni Int):∀{kvs:Ni (Ni Int×Dt)}{vs:Ni (Ni rB×V)},KD K H ρ kvs vs->(∀d,mE kvs k=ε d->∃v,HD vs (k.map Sum.inl)=ε v/\Te K H ρ d v)/\(mE kvs k=none->HD vs (k.map Sum.inl)=none)
 | [],_,r=>by rw[r.ar];exact⟨fun d e=>by simp[mE]at e,fun q=>rfl⟩
 | p::kvs,_,r=>by
  obtain⟨v,f,rfl,g,b⟩:=r.Ys;by_cases c:p.1=k
  . have a:mE (p::kvs) k=ε p.2:=by simp[mE,Io,c]
    rw[a,BL (ej.mpr c)];exact⟨fun d e=>by cases e;exact⟨v,rfl,g⟩,fun e=>by cases e⟩
  . have a:mE (p::kvs) k=mE kvs k:=by simp[mE,Io,c]
    rw[a,AL (fun z=>c (ej.mp z))];exact KD.val k b
theorem KD.any(k:Ni Int):∀{kvs:Ni (Ni Int×Dt)}{vs:Ni (Ni rB×V)},KD K H ρ kvs vs->(vs.any fun p=>decide (p.1=k.map Sum.inl))=kvs.any fun p=>decide (p.1=k)
 | [],_,r=>by rw[r.ar];rfl
 | p::kvs,_,r=>by
  obtain⟨v,b,rfl,g,a⟩:=r.Ys;rw[Ju,Ju,KD.any k a]
  congr 1
  exact decide_eq_decide.mpr ej
theorem KD.repl(k:Ni Int){d:Dt}{v:V}(g:Te K H ρ d v):∀{kvs:Ni (Ni Int×Dt)}{vs:Ni (Ni rB×V)},KD K H ρ kvs vs->
 KD K H ρ (kvs.map fun p=>if p.1=k then(p.1,d)else p) (vs.map fun p=>if p.1=k.map Sum.inl then(p.1,v)else p)
 | [],_,r=>by rw[r.ar];exact⟨rfl,.nil⟩
 | p::kvs,_,r=>by
  obtain⟨u,e,rfl,b,a⟩:=r.Ys;rw[Ti,Ti];by_cases c:p.1=k
  . rw[dh c,dh (ej.mpr c)];exact KD.cons (p:=(p.1,d)) g (KD.repl k g a)
  . rw[dz c,dz (fun z=>c (ej.mp z))];exact KD.cons b (KD.repl k g a)
theorem KD.put(k:Ni Int){d:Dt}{v:V}(g:Te K H ρ d v){kvs:Ni (Ni Int×Dt)}{vs:Ni (Ni rB×V)}(r:KD K H ρ kvs vs):KD K H ρ (eJ kvs k d) (PD vs (k.map Sum.inl) v):=by
 unfold eJ PD;rw[r.any k];split
 . exact r.repl k g
 . refine⟨by rw[Ga,Ga,r.1];rfl,?_⟩;rw[Ga,Ga];exact r.2.append (.cons g .nil)
theorem KD.ext{a:Rg}{b:Hp}{kvs:Ni (Ni Int×Dt)}{vs:Ni (Ni rB×V)}(r:KD K H ρ kvs vs)(x:mo ρ a H b):KD K b a kvs vs:=⟨r.1,r.2.ext x⟩
theorem Us.i5{h:HI}(S:Us K ρ h H){a:Oi}{vs:Ni V}(e:H a=ε (.tup vs)):ρ.no a:=by
 refine⟨fun d=>?_,fun d=>?_⟩
 . obtain⟨n,f⟩:=mem_iff_getElem?.mp d;have i:n<h.length:=by rw[<- S.len];exact(Wi f).1
   have ob:=S.ob n a _ f (je i);cases q:h[n]with
   | lst j=>rw[q]at ob;obtain⟨_,g,_⟩:=ob;rw[e]at g;cases g
   | ins y fs=>rw[q]at ob;obtain⟨_,_,_,_,g,_⟩:=ob;rw[e]at g;cases g
   | dk b=>rw[q]at ob;obtain⟨_,g,_⟩:=ob;rw[e]at g;cases g
   | dt b=>rw[q]at ob;obtain⟨_,g,_⟩:=ob;rw[e]at g;cases g
   | df b=>rw[q]at ob;obtain⟨_,_,g,_⟩:=ob;rw[e]at g;cases g
 . obtain⟨_,_,g⟩:=S.zt a d;rw[e]at g;cases g
theorem bQ{a:Oi}{kvs:Ni (Ni rB×V)}(h:H a=ε (.dT kvs)):vT H a:=fun q q e=>by rw[h]at e;cases e
end
section
variable{X:Cx}{e o i d a b f:Oo}{fe fo B fa fb fy fx:RE}{pos A w t:Pos}
theorem jd:EM X (.Dict [] [] pos) FS:=by unhygienic exact PE.imp Hr fun n H Q m=>by obtain⟨j,l,h,d,q,S,L,e,k⟩:=m;cases e;intro p g;refine k (j.add p) _ _ (Zi.mpr ⟨p,rfl,?_⟩) (S.own g ⟨[],fC,rfl,.nil⟩) (mo.own g);simp![Rg.add];rw[<- S.len,Zo (Ue _),Cu];rfl
theorem vp{s:Ni Oo}{g:RA}{x1}(h:AM X s g):EM X (.Tuple s x1 pos) (RP g):=by
 unhygienic
  exact PE.imp (u0 h) fun E H Q y=>by
   obtain⟨x,l,h,d,M,S,L,e,k⟩:=y;obtain⟨⟨ds,J⟩,C,e⟩:=oA e;dsimp only at e;by_cases m:ds.length<=sizeLine
   . rw[dh m]at e;cases q:WB ds with
     | none=>rw[q]at e;cases e
     | some I=>rw[q]at e;cases e;refine⟨x,l,h,ds,_,S,L,C,fun j F O r u D=>⟨by rw[r.length];exact m,fun p n=>k j _ _ (cz.mpr ⟨p,rfl,u.out n,?_⟩) (u.fresh n) (D.trans (mo.fresh n))⟩⟩;rw[YD q]at r;rw[fC,r.bu]
   . rw[dz m]at e;cases e
set_option tactic.hygienic true in
theorem Og (hu:X.A.units+64<cLine) (ho:EM X o fo) (hy:EM X e fy) (hx:EM X f fx) (m:M2 X o "get" w e f t:=by exact⟨rfl,rfl,rfl,rfl⟩) :
 EM X (.Call (.Attribute o "get" w) [e,f] [] t) (TJ fo fy fx):=by
 unhygienic
  exact PE.imp (Er nofun ho hy hx m) fun σ H Q U=>by
   obtain⟨T,l,h,dd,h',S,L,e,k⟩:=U;obtain⟨⟨O,M⟩,e1,e⟩:=oA e;refine⟨T,l,h,O,M,S,L,e1,fun r x H1 R1 R F=>?_⟩;cases O with
   | ref n=>
    dsimp only at e;split at e
    . rename_i a0 q0;obtain⟨⟨y,J⟩,e2,e⟩:=oA e;dsimp only at e;cases y with
      | ntp g=>
       obtain⟨⟨dx,h3⟩,e3,e⟩:=oA e;dsimp only at e;split at e
       . rename_i u q;cases e;obtain⟨C,z,I⟩:=Zi.mp R1;obtain⟨s,g0,_⟩:=R.ob n C _ I q0;refine⟨C,z,.inr ⟨s,.inl g0⟩,r,l,M,.ntp g,J,R,L.ext F,e2,fun p y H2 R2 S2 E=>⟨p,l,J,dx,_,S2,L.ext (F.trans E),e3,fun j x3 H3 R3 P D=>?_⟩⟩;obtain⟨kb,W,nk,gk⟩:=cz.mp (Te.ext D _ R2);obtain⟨Y,g1,g2⟩:=P.ob n C _ ((E.trans D).get I) q;refine⟨HD Y (g.map Sum.inl),by rw[W];exact az.t g1 (by rw[aM];exact gk),?_⟩;obtain⟨v1,Z⟩:=KD.val (K:=X.K) g g2;refine k j _ H3 ?_ P (F.trans (E.trans D));cases c:mE u g with
         | none=>rw[Z c];exact R3
         | some d4=>obtain⟨v4,e4,r4⟩:=v1 d4 c;rw[e4];exact r4
       . cases e
      | _=>cases e
    . cases e
   | _=>cases e
set_option tactic.hygienic true in
theorem ja(hu:X.A.units+64<cLine)(he:EM X e fe)(ho:EM X o fo)(hi:EM X i B)(hs:swapsWith e (ε (.Subscript o i A)) pos.line X.env=pure false:=by rfl) :
 ZM X (.Assign [.Subscript o i A] e pos) (cP fe fo B):=by
 unhygienic
  exact PS.imp (Lb nofun ho hi he hs) fun D T H F=>by
   obtain⟨U,l,h,r,S,L,e,k⟩:=F;obtain⟨⟨v,O⟩,e1,e⟩:=oA e;obtain⟨⟨d,hd⟩,e2,e⟩:=oA e;obtain⟨⟨j,hj⟩,e3,e⟩:=oA e;refine⟨U,l,h,v,O,S,L,e1,fun E u H1 R1 S1 x=>⟨E,l,O,d,hd,S1,L.ext x,e2,fun C y H2 R2 S2 s=>⟨C,l,hd,j,hj,S2,L.ext (x.trans s),e3,fun g z H3 R3 R p=>?_⟩⟩⟩;cases d with
   | ref n=>
    cases j with
    | ntp Y=>
     dsimp only at e;split at e
     . rename_i I q;obtain⟨Z,e⟩:=oF e;cases e;obtain⟨Q,F,M⟩:=Zi.mp (Te.ext p _ R2);obtain⟨vs,m,g2⟩:=R.ob n Q _ M q;obtain⟨kb,W,nk,gk⟩:=cz.mp R3;have J:=ju M;have P:KD X.K H3 g I vs:=g2;refine⟨Q,_,F,by rw[W];exact dy.t m (by rw[aM];exact gk) (by rw[P.length];exact Z),?_⟩;exact k g T _ (R.write M (bQ m) ⟨_,fC,(P.put Y (Te.ext (s.trans p) _ R1)).ext (mo.write J (bQ m))⟩) (L.ext (x.trans (s.trans (p.trans (mo.write J (bQ m)))))) (x.trans (s.trans (p.trans (mo.write J (bQ m)))))
     . cases e
    | _=>cases e
   | _=>cases e
theorem wX{K:Ou}{H:Hp}{ρ:Rg}{n:Nat}{h:Oi}{ob:Obj}{g:Ni (Ni rB×V)}(R:ρ.v[n]?=ε h)(e:H h=ε (.frz ob (.dT g))):O0 K H ρ (.it n) (FT h ob):=by
 intro W s S sm r i;have m:=sm.fz h ob _ e;have D:=sm.ix n h R;simp![mv.at];cases q:S[n]? with
 | none=>trivial
 | some u=>
  cases u with
  | df j=>
   obtain⟨Z,vs,I,T⟩:=r.ob n h _ D q;have F:KD K W s j vs:=T;rw[m]at I;cases I;dsimp only;cases E:j[i]? with
   | none=>exact⟨g,m,by rw[F.length];exact Ea.mp E⟩
   | some p=>obtain⟨v,L,O⟩:=F.get E;refine⟨⟨g,_,m,L⟩,fun x H3 M=>?_⟩;obtain⟨qq,P,Y,y,ex,C,Q,U⟩:=M;have J:=Q g m;rw[L]at J;cases J;subst ex U;rw[aM]at C;exact⟨II r (.cons (ai.mpr ⟨P,_,rfl,.inl ⟨r.i5 C,.inl C⟩,Ru.ints p.1⟩) (.cons O .nil)) y,mo.fresh y,r.fresh y⟩
  | _=>trivial
set_option tactic.hygienic true in
theorem Vg {x:Ni Oo} {x1} {O:Pos} (P:EM X d fa) (m:attributeBase d "items" X.env (eval d X.env)=eval d X.env:=by rfl) (j:(w.endLine==t.line)=true:=by rfl) :
 IM X (.Tuple x x1 O) (.Call (.Attribute d "items" w) [] [] t) (FI fa):=by
 unhygienic
  exact PI.imp (Jr P m j) fun Z H R M=>by
   obtain⟨J,l,h,s,h',S,L,e,k⟩:=M;obtain⟨⟨F,Q⟩,U,e⟩:=oA e;refine⟨J,l,h,F,Q,S,L,U,fun g v Y W y I=>?_⟩;cases F with
   | ref n=>
    obtain⟨C,z,r⟩:=Zi.mp W;have D:=ju r;refine⟨C,z,?_⟩;dsimp only at e;split at e
    . rename_i u q;cases e;obtain⟨vs,p,E⟩:=y.ob n C _ r q;have T:KD X.K Y g u vs:=E;refine .inl ⟨vs,p,fun ob=>k g _ _ (wX r fC) (y.write r (bQ p) ⟨ob,vs,fC,T.ext (mo.write D (bQ p))⟩) (I.trans (mo.write D (bQ p)))⟩
    . rename_i u q;cases e;obtain⟨ob,vs,p,E⟩:=y.ob n C _ r q;exact .inr ⟨ob,vs,p,k g _ _ (wX r p) y I⟩
    . cases e
   | _=>cases e
end
end SM
namespace L2
section
variable{prog:O4}{w:Pb}{A:Pu}{R:Result->Oe->Prop}{I:Oi}{fp a:Ni Oi}{n:Nat}{P:Nat->Nu->Prop}{d:Nat->Ri->Prop}
noncomputable abbrev zP (b:Nu):Ni (Str×Nu):=[(Str.ofString "default",b)]
theorem Uy(dv:Nu)(E:Walks prog w A.in1 I fp a n P d)(x:Nat->Nat->Bool)(M:CmpOf prog w A.in1 .Lt P x)(S:Oi)(T:S∉fp) :
 ∀(k j:Nat)(s:Oe)(i:Nu)(c:Nat),n-(j+1)=k->j+1<=n->d (j+1) s.heap->P (argBest x j) i->
 s.heap.get? S=ε { cls:=.type "list",dict:=none,data:=.seq #[i,i] c,slots:=#[] }->
 (∀v D C,P (argBest x (n-1)) v->(∀b o,b∉a->b≠S->s.heap.get? b=ε o->D.get? b=ε o)->R (.ok (.ret v)) { s with heap:=D,toks:=C })->
 codeAny (model prog w) A (.builtin "min.loop" ⟨[.ref I,.none,.ref S],zP dv⟩) R s:=by
 have Q:S∉a:=fun h=>T (E.sub _ h)
 have O:(toString "min" ++ toString ".loop" :String) = "min.loop" :=by decide
 intro k
 induction k with
 | zero=>
  intro j s i c ek Z st H B m;have U:j+1=n:=by omega
  refine Ia F.entry_min_loop ?_;rw[Hi F.plain_min_loop _];show wpAny _ A.in1 (seqItems? (.ref S) >>=_) _ _ s;refine ao (wpAny_seqItems B rfl ?_);show wpAny _ A.in1 (tryCatch (pyNext (.ref I)) _ >>=_) _ _ s;refine ao (wpAny_tryCatch (E.done s _ _ (U ▸ st) fun D C kp=>?_));have g:=kp S _ Q B;show wpAny _ A.in1 (updateSeq S (fun t=>#[]) >>=_) _ _ _;refine ao (Mu g rfl (ao (wpAny_letGo (au ?_))));exact m i _ C (by rw[<- U];exact H) fun b o p ns e=>(wu _ _ (ni ns)).trans (kp b o p e)
 | succ k ih=>
  intro j s i c ek Z st H B m;have lt:j+1<n:=by omega
  refine Ia F.entry_min_loop ?_;rw[Hi F.plain_min_loop _];show wpAny _ A.in1 (seqItems? (.ref S) >>=_) _ _ s;refine ao (wpAny_seqItems B rfl ?_);show wpAny _ A.in1 (tryCatch (pyNext (.ref I)) _ >>=_) _ _ s;refine ao (wpAny_tryCatch (E.item (j+1) s _ _ lt st fun v D C Y y kp=>?_));have g:=kp S _ Q B;show wpAny _ A.in1 (tryCatch (holding [v,v] (richCompare .Lt v i >>=_)) _ >>=_) _ _ _;refine ao (wpAny_tryCatch (Eo (ao (M (j+1) (argBest x j) v i _ _ _ Y H ?_))));refine ao (Eo (Fe (ao (wpAny_letGo (au ?_)))));cases W:x (j+1) (argBest x j)with
  | true=>
   simp![dG];refine ao (Mu g rfl (ao (wpAny_letGo ?_)));rw[O];refine au ⟨plainId_quiet F.plain_min_loop _,ih (j+1) _ v _ nofun lt (E.frame _ _ _ y fun b L o e=>?_) (by simp![argBest,W,dG];exact Y) (FN _ g rfl) fun J r f u q=>?_⟩
   . exact(wu _ _ (fun z:S=b=>T (by rw[z];exact L))).trans e
   . exact m J r f u fun b o p ns e=>q b o p ns ((wu _ _ (ni ns)).trans (kp b o p e))
  | false=>simp![Vi,eG];refine ao (wpAny_letGo ?_);rw[O];refine au ⟨plainId_quiet F.plain_min_loop _,ih (j+1) _ i c nofun lt y (by simp![argBest,W,Vi,eG];exact H) g fun J r f u q=>?_⟩;exact m J r f u fun b o p ns e=>q b o p ns (kp b o p e)
theorem Ov(L:Nu)(i:Walks prog w A.in1 I fp a n P d)(B:Nat->Nat->Bool)(y:CmpOf prog w A.in1 .Lt P B)(S:Oi)(m:S∉fp)(H:0<n){s:Oe}{c:Nat}(st:d 0 s.heap)
 (J:s.heap.get? S=ε { cls:=.type "list",dict:=none,data:=.seq #[] c,slots:=#[] })
 (x:∀v u D,P (argBest B (n-1)) v->(∀b o,b∉a->b≠S->s.heap.get? b=ε o->u.get? b=ε o)->R (.ok (.ret v)) { s with heap:=u,toks:=D }) :
 codeAny (model prog w) A (.builtin "min.loop" ⟨[.ref I,.none,.ref S],zP L⟩) R s:=by
 have Q:S∉a:=fun h=>m (i.sub _ h)
 have O:(toString "min" ++ toString ".loop" :String) = "min.loop" :=by decide
 refine Ia F.entry_min_loop ?_;rw[Hi F.plain_min_loop _];show wpAny _ A.in1 (seqItems? (.ref S) >>=_) _ _ s;refine ao (wpAny_seqItems J rfl ?_);show wpAny _ A.in1 (tryCatch (pyNext (.ref I)) _ >>=_) _ _ s;refine ao (wpAny_tryCatch (i.item 0 s _ _ H st fun v u D T j kp=>?_));have g:=kp S _ Q J;show wpAny _ A.in1 (updateSeq S (fun t=>#[v,v]) >>=_) _ _ _;refine ao (Mu g rfl ?_);rw[O];refine au ⟨plainId_quiet F.plain_min_loop _,Uy L i B y S m _ 0 _ v _ rfl H (i.frame _ _ _ j fun b q o e=>?_) T (FN _ g rfl) fun M r f C p=>?_⟩
 . exact(wu _ _ (fun z:S=b=>m (by rw[z];exact q))).trans e
 . exact x M r f C fun b o E ns e=>p b o E ns ((wu _ _ (ni ns)).trans (kp b o E e))
end
section
variable{prog:O4}{w:Pb}{A:Pu}{E:Nu->Oe->Prop}{s:Oe}
theorem Rw (x d:Nu):argsOk "min" ⟨[x],zP d⟩:=by unfold argsOk;kernel_rfl
theorem Vy{x d:Nu}{R:Nu->Oe->Prop}
 (h:wpAny (model prog w) A.in1 (pyIter x) (fun q a=>∃I fp i n P St g,q=.ref I/\Walks prog w A.in1 I fp i n P St/\St 0 a.heap/\(∀b∈fp,b<a.heap.objs.size)/\0<n/\CmpOf prog w A.in1 .Lt P g/\
  ∀v f j,P (argBest g (n-1)) v->(∀b o,b∉i->a.heap.get? b=ε o->f.get? b=ε o)->R v { a with heap:=f,toks:=j }) E s) :
 wpAny (model prog w) A (call (.builtin "min") [x] (zP d)) R E s:=by
 have u:(toString "min" ++ toString ".loop" :String) = "min.loop" :=by decide
 refine kmk_tree PySem.F.kind_min PySem.F.plain_min PySem.F.entry_min (Rw _ _) ?_;show wpAny _ A.in1 (Builtin.Builtins.bindParams "min" ["key", "default"] 0 ⟨[],zP d⟩ >>=_) _ _ s;refine ao (wpAny_of_eq (show Builtin.Builtins.bindParams "min" ["key", "default"] 0 ⟨[],zP d⟩=pure [none,ε d]from rfl) (ao (au ?_)));refine ao (Hs h (fun q a J=>?_) fun z z e=>e);obtain⟨I,fp,i,n,P,St,g,rfl,r,st,C,D,p,m⟩:=J;refine ao (Ae ?_);have B:a.heap.objs.size∉fp:=fun H=>Es _ (C _ H)
 rw[u];refine au ⟨plainId_quiet F.plain_min_loop _,Ov d r g p a.heap.objs.size B D (r.frame _ _ _ st fun b z o e=>cu _ e) (ji _ rfl) fun v f j L kp=>?_⟩;exact m v f j L fun b o y e=>kp b o y (n7 (fu e)) (cu _ e)
theorem Sy{l:Oi}{xs:Ra (Int×Tok)}{q:Nu}{R:Nu->Oe->Prop}(p:A.handled=none)(n:s.heap.IsList l (intItems xs))(f:0<xs.size)
 (h:∀v a d,(intItems xs)[argBest (fun i j=>decide (numAt xs i<numAt xs j)) (xs.size-1)]?=ε v->(∀b o,s.heap.get? b=ε o->a.get? b=ε o)->R v { s with heap:=a,toks:=d }) :
 wpAny (model prog w) A (call (.builtin "min") [.ref l] (zP q)) R E s:=by
 refine Vy (iter_intList n fun u e st m g=>?_);subst e;refine⟨_,_,_,_,_,_,_,rfl,Walks.list (A:=A.in1) p _ l g (intItems xs),st,m,by simpa[intItems]using f,CmpOf.ints_lt (numAt xs) (fun z z=>intItems_at),fun v a d r kp=>?_⟩;exact h v a d (by simpa[intItems]using r) (old_kept kp)
end
section
variable{X:Cx}{e d:Oo}{c:TA}{b:TE}{p pos kp:Pos}
noncomputable def t8(K:Ou)(c:TA)(b:TE):TE:=fun f H Q=>c f H fun h i=>b f i fun _ g=>∃(q:Oi)(ns:Ni Int),h=[.ref q]/\m4 K g q (ns.map V.int)/\ns ≠ []/\∀M,M∈ns->(∀a∈ns,M<=a)->Q (.int M) g
theorem gb (T:X.calm=true) (S:Gl X "min") (P:X.mg "min" =none) (i:PA X [e] c) (hd:PE X d b) (he:starEach [e] X.env=[(false,eval e X.env)]:=by rfl) :
 PE X (.Call (.Name "min" p) [e] [⟨ε "default",d,kp⟩] pos) (t8 X.K c b):=by
 intro f s x H Q I h;refine wpAny_Call_Name_kw (WF I S P PyProof.Rows.boot_min ?_);refine callWith_kw ?z1 (by rw[he];rfl) (by rw[he];rfl) rfl rfl;refine uB (i pos f s x H _ I h) fun C D ⟨vs,H1,Y,F,q1⟩=>?z2
 refine kws_cons ?z3;refine uB (hd f D x H1 _ Y q1) fun v s2 ⟨y,Z,r,ry,q2⟩=>?z4
 refine kws_nil ?z5;show wpAny _ _ (call (.builtin "min") C (zP v)) _ _ _;obtain⟨q,ns,rfl,O,n,o⟩:=q2;obtain⟨u,rfl,E⟩:=lE F;cases E;obtain⟨L,J,pl,hz⟩:=r.list O;obtain⟨g,W,e2⟩:=XN (FJ J);have B:=pl.isList;rw[W]at B;have m:0<g.size:=by
  rcases Nat.eq_zero_or_pos g.size with z | z
  . exfalso;apply n;rw[<- e2];have:g.toList=[]:=eq_nil_of_length_eq_zero (by simpa using z);rw[this];rfl
  . exact z
 refine Sy (r.ok.hd T) B m fun v h' tk M k=>?_
 obtain⟨t,rfl⟩:=intItems_at M;obtain⟨h1,U⟩:=argBest_lt (numAt g) (g.size-1);refine⟨.int _,Z,r.kept k,⟨t,rfl⟩,o _ ?_ fun a i=>?_⟩
 . rw[numAt_eq,<- e2];exact getD_mem (by rw[mq,za];omega)
 . rw[<- e2]at i;obtain⟨j,R,rfl⟩:=mem_getD i;rw[mq,za]at R;rw[<- numAt_eq];exact U j nofun
end
end L2
namespace SM
def HS(fa b:RE):RE:=fun l h=>(fa l h).bind fun r=>(b l r.2).bind fun q=>(EA q.2 r.1).bind fun a=>(WB a).bind fun ns=>if ns ≠ []then ε (.int (RB ns),q.2)else none
section
variable{X:Cx}{e d:Oo}{fa b:RE}{p pos kp:Pos}
theorem Jd (D:X.calm=true) (C:Gl X "min") (B:X.mg "min" =none) (E:EM X e fa) (hd:EM X d b) (hs:lB e=true:=by rfl):EM X (.Call (.Name "min" p) [e] [⟨ε "default",d,kp⟩] pos) (HS fa b):=by unhygienic exact PE.imp (gb D C B (bC E RC (bB hs _ _)) hd (bB hs _ _)) fun Y H Q u=>by obtain⟨s,l,h,dd,h',S,L,e,k⟩:=u;obtain⟨⟨R,j⟩,O,e⟩:=oA e;obtain⟨⟨P,h2⟩,e2,e⟩:=oA e;obtain⟨Z,J,e⟩:=oA e;obtain⟨ns,q,e⟩:=oA e;obtain⟨f,e⟩:=oF e;cases e;refine⟨s,l,h,R,j,S,L,O,fun i v H1 U T o=>⟨i,l,j,P,_,T,L.ext o,e2,fun g v2 W R2 m n=>?_⟩⟩;obtain⟨a,vs,z,sq,r⟩:=ZC m (Te.ext n _ U) J;rw[YD q]at r;rw[r.bu]at sq;obtain⟨y,x⟩:=FH ns f;refine⟨a,ns,by rw[z],sq,f,fun M I F=>?_⟩;have:M=RB ns:=Int.le_antisymm (F _ y) (x M I);rw[this];exact k g _ W (Ws.mpr rfl) m (o.trans n)
end
end SM
namespace L2
noncomputable def NB(ns:Ni Int):Ni Int:=ns.foldl (fun a k=>if a.any (· ==k)then a else a++[k]) []
theorem JY(ns:Ni Int)(n:Nat)(h:n=ns.length):firstMet (fun i=>ns.getD i 0) n=NB ns:=by
 subst h;have e:(List.range ns.length).map (fun i=>ns.getD i 0)=ns:=by
  apply ext_getElem
  . simp
  . intro i b a;simp[a]
 unfold firstMet NB;rw[e];rfl
section
variable{X:Cx}
theorem Zv (E:X.calm=true):Zu X (.type "set") (fun i H Q=>∃(q:Oi) (ns:Ni Int),i=[.ref q]/\m4 X.K H q (ns.map V.int)/\ns.length+1<4096/\
 ∀p,H p=none->Q (.ref p) (oB H p (.set (fun k=>(NB ns).any (· ==k)) (NB ns).length))):=by
 intro j s F H i J Q I r h;obtain⟨q,ns,rfl,C,M,f⟩:=h;obtain⟨u,rfl,y⟩:=lE r;cases y;obtain⟨d,B,pl,L⟩:=I.list C;have m:=FJ B;have D:d.length=ns.length:=IntsAre.length m;have e:d.toArray.size=ns.length:=by rw[cG,D]
 refine PySem.call_set_list (items:=d.toArray) (ns:=ns) (I.ok.hd E) pl.isList (by simpa using m) (by rw[e];unfold scanBound;omega) fun O x n kp=>?_
 rw[JY ns _ e]at n;exact⟨.ref s.heap.objs.size,_,I.laid (a:=s.heap.objs.size) (o:=.set (fun k=>(NB ns).any (· ==k)) (NB ns).length) (t':=x) (fun b u g=>kp b u (fu g) g) (Ue _) n,rfl,f _ (I.hok.fresh (Ue _))⟩
theorem KW:Zu X (.builtin "len") (fun d H Q=>∃(p:Oi) (S:Int->Bool) (n:Nat),d=[.ref p]/\H p=ε (.set S n)/\Q (.int n) H):=by
 intro e s D H d E Q I r h;obtain⟨q,S,n,rfl,i,a⟩:=h;obtain⟨u,rfl,g⟩:=lE r;cases g;obtain⟨o,b,L,t,C,B,y,J,F,f,x,m⟩:=(show s.heap.SetOf (intKind X.prog X.w) q S n from I.hok q _ i);subst m;refine call_len_set C B y x ?_ ⟨.int b.size,H,I.tok _,⟨_,rfl⟩,a⟩;have:b.size<4096:=by unfold scanBound at f;exact f
 have j:(b.size:Int)<4096:=by omega
 exact Int.lt_trans j (by decide)
end
end L2
namespace SM
def OL:Dt->HI->Oa (Dt×HI):=fun d h=>(EA h d).bind fun a=>(WB a).bind fun ns=>if ns.length+1<4096 then ε (.int (NB ns).length,h)else none
section
variable{X:Cx}{e:Oo}{f:RE}{p p' pos pos':Pos}
theorem Dw (x:X.calm=true) (u:Gl X "len") (s:X.mg "len" =none) (i:Gl X "set") (g:X.mg "set" =none) (y:EM X e f) (hs:lB e=true:=by rfl) :
 EM X (.Call (.Name "len" p) [.Call (.Name "set" p') [e] [] pos'] [] pos) (LB OL f):=by
 unhygienic exact PE.imp (JJ KW u s PySem.boot_len (bC (qR (Zv x) i g boot_set (bC y RC (bB hs _ _)) (he:=bB hs _ _)) RC rfl)) fun F H Q n=>by obtain⟨m,l,h,d,O,S,L,e,k⟩:=n;obtain⟨⟨C,M⟩,B,e⟩:=oA e;obtain⟨I,e2,e⟩:=oA e;obtain⟨ns,q,e⟩:=oA e;obtain⟨o,e⟩:=oF e;cases e;refine⟨m,l,h,C,_,S,L,B,fun b v P D j E=>?_⟩;obtain⟨a,J,z,sq,r⟩:=ZC j D e2;rw[YD q]at r;rw[r.bu]at sq;exact⟨a,ns,by rw[z],sq,o,fun w hw=>⟨w,_,_,rfl,fC,k b _ _ (Ws.mpr rfl) (j.fresh hw) (E.trans (mo.fresh hw))⟩⟩
end
end SM
namespace L2
noncomputable def Its(lo c:Int)(n:Nat):It:=⟨fun i _=>i<n,fun i H x a=>a=H/\x=.int (lo+(i:Int)*c),fun i _=>n<=i⟩
theorem jh{P:O4}{w:Pb}{K:Ou}{L:Oo}(it:Oi)(lo c:Int)(n:Nat):DG P w K L (Its lo c n) [it] it (fun i h=>IsRangeIter h it (lo+(i:Nat)*c) ((n:Int)-(i:Nat)) c) where
 mem:=by simp
 obj:=fun i h st b d=>by
  have e:b=it:=by simpa using d
  subst e;exact⟨_,st,fun v z=>by
   have J:Data.fields _=Data.cell v:=z;cases J⟩
 keep:=fun i h j st k=>k it ⋯ _ st
 item:=by
  intro X q hw r p i a s D H E I g st m;subst q hw r;obtain⟨C,B,Q,y,x,u⟩:=g it ⋯;have W:=Walks.range (prog:=X.prog) (w:=X.w) (I.ok.hd p) it lo c n;refine W.item i s _ _ m st fun v j F O f M=>?_
  obtain⟨t,rfl⟩:=O;have S:mf X a D H { s with heap:=j,toks:=F }:=I.turned (fun b o d e=>M b o (by simpa using d) e) C B y x u;exact⟨_,rfl,oP (s:={ s with heap:=j,toks:=F }) (n := "range_iterator") f rfl rfl (by decide) ⟨.int (lo+(i:Int)*c),H,S,⟨t,rfl⟩,⟨rfl,rfl⟩,f,fun b d=>(g b d).1⟩⟩
 done:=by intro X q hw r p i a s D H E I g st m;subst q hw r;obtain⟨C,B,Q,y,x,u⟩:=g it ⋯;exact wpAny_pyNext_range_end (I.ok.hd p) st (by have:n<=i:=m;omega) fun j R=>⟨rfl,I.turned (t':=s.toks) (fun b o d e=>R b o d e) C B y x u⟩
 self:=fun _ _ _ _ _ st h=>wpAny_pyIter_rangeiter st h
section
variable{X:Cx}{tg:Oo}
def J9(d:TA):TI:=fun a H R=>d a H fun b e=>∃(i j:Int)(c:Nat),b=[.int i,.int j,.int (c:Int)]/\(0<=i/\i<2^61/\0<=j/\j<2^61/\0<c/\c<1000)/\R (Its i c ((j-i+(c:Int)-1)/(c:Int)).toNat) e
theorem xX{i j:Int}{c:Nat}(b:0<c):Builtin.Range.rangeSize i j (c:Int)=(((j-i+(c:Int)-1)/(c:Int)).toNat:Int):=by
 have a:(c:Int)>0:=by omega
 unfold Builtin.Range.rangeSize;rw[dh a];by_cases h:i<j
 . rw[dh h,show j-i+(c:Int)-1=(j-i-1)+1*(c:Int) by omega,Int.add_mul_ediv_right _ _ nofun];have:0<=(j-i-1)/(c:Int):=Int.ediv_nonneg nofun nofun;omega
 . rw[dz h];have:(j-i+(c:Int)-1)/(c:Int)<=0:=by have d:(j-i+(c:Int)-1)/(c:Int)<1:=Int.ediv_lt_of_lt_mul nofun nofun;omega
   omega
theorem Kz{i j:Int}{c:Nat}(q:0<=i/\i<2^61/\0<=j/\j<2^61/\0<c/\c<1000):Builtin.Range.small i j (c:Int)=true:=by
 obtain⟨n,m,h,g,b,f⟩:=q;have a:(c:Int)>0:=by omega
 have sz:Builtin.Range.rangeSize i j (c:Int)<=2^61+1/\0<=Builtin.Range.rangeSize i j (c:Int):=by
  rw[xX b];refine⟨?_,by omega⟩;have e:(j-i+(c:Int)-1)/(c:Int)<2^61+1:=Int.ediv_lt_of_lt_mul nofun (by
   have:(2^61+1:Int)*(c:Int)=2^61*(c:Int)+(c:Int):=by rw[Int.add_mul,Int.one_mul]
   have d:(2^61:Int)*1<=2^61*(c:Int):=Int.mul_le_mul_of_nonneg_left nofun (by decide);omega)
  omega
 unfold Builtin.Range.small;simp![Builtin.Range.rangeFitsLong,vm,Bool.or_eq_true,decide_eq_true_eq,beq_iff_eq,a,dG];omega
theorem Nk {a b d:Oo} {C:TA} {p pos:Pos} (M:Gl X "range") (L:X.mg "range" =none) (P:PA X [a,b,d] C) (hs:starEach [a,b,d] X.env=[(false,eval a X.env),(false,eval b X.env),(false,eval d X.env)]) (u:starEach [b,d] X.env=[(false,eval b X.env),(false,eval d X.env)]) :
 PI X tg (.Call (.Name "range" p) [a,b,d] [] pos) (J9 C):=by
 intro g s B H R I h;refine Call_ (WF I M L boot_range (PyProof.Rows.callWith_type1 (uB (P pos g s B H _ I h) fun W m E=>?_) (by rw[hs,u]) (by rw[u];rfl)));obtain⟨U,D,T,F,q1⟩:=E;obtain⟨i,j,c,e,qq,q⟩:=q1;subst e;cases F with
 | cons r n=>
  cases n with
  | cons J n=>
   cases n with
   | cons x n=>
    cases n;obtain⟨t,rfl⟩:=r;obtain⟨t',rfl⟩:=J;obtain⟨f,rfl⟩:=x;have S:=qq.2.2.2.2.1;have Y:=qq.2.2.2.2.2;refine call_range_3 (show((c:Nat):Int)≠0 by omega) ?_ (Or.inl (PyProof.noPylong_small nofun));refine wpAny_pyIter_range (IsRange.new ..) (Kz qq) ?_;have y:mf X g B D { m with heap:=m.heap.push { cls:=.type "range",data:=.fields #[.int i t,.int j t',.int (c:Int) f] },toks:=m.toks }:=T.kept fun b o e=>cu _ e
    refine⟨(m.heap.push { cls:=.type "range",data:=.fields #[.int i t,.int j t',.int (c:Int) f] }).objs.size,[(m.heap.push { cls:=.type "range",data:=.fields #[.int i t,.int j t',.int (c:Int) f] }).objs.size],_,_,D,rfl,
     y.kept (t':=m.toks) fun b o e=>cu _ e,jh _ i c ((j-i+(c:Int)-1)/(c:Int)).toNat,?_,fun b O=>?_,q⟩
    . have Q:i+((0:Nat):Int)*(c:Int)=i:=by simp
      have e2:((((j-i+(c:Int)-1)/(c:Int)).toNat:Nat):Int)-((0:Nat):Int)=Builtin.Range.rangeSize i j (c:Int):=by rw[xX S];omega
      show IsRangeIter _ _ (i+((0:Nat):Int)*(c:Int)) (((((j-i+(c:Int)-1)/(c:Int)).toNat:Nat):Int)-((0:Nat):Int)) (c:Int);rw[Q,e2];exact ji _ rfl
    . have e:b=(m.heap.push { cls:=.type "range",data:=.fields #[.int i t,.int j t',.int (c:Int) f] }).objs.size:=by simpa using O
      subst e;exact y.cq (Ue _) (y.hok.fresh (Ue _))
end
end L2
namespace SM
noncomputable def N3(f g:RE)(c:Nat):RI:=fun l h=>(f l h).bind fun r=>(g l r.2).bind fun q=>match r.1,q.1 with
 | .int i,.int j=>if 0<=i/\i<2^61/\0<=j/\j<2^61/\0<c/\c<1000 then ε (.vals ((List.range ((j-i+(c:Int)-1)/(c:Int)).toNat).map fun(k:Nat)=>Dt.int (i+(k:Int)*(c:Int))),q.2)else none | _,_=>none
noncomputable def VI:sD:=fun a b h=>match a,b with
 | .tup xs,.tup ys=>if xs ≠ []/\xs.length+ys.length<=sizeLine then ε (.tup (xs++ys),h)else none
 | _,_=>none
noncomputable def qE(f:Str)(v:Dt):Ni (Str×Dt)->Ni (Str×Dt)
 | []=>[(f,v)]
 | (g,x)::r=>if g=f then(g,v)::r else(g,x)::qE f v r
noncomputable def jD(f:Str):Ni (Str×Dt)->Oa Dt
 | []=>none
 | (g,x)::r=>if f=g then ε x else jD f r
def LF(x f:Str)(fo:RE):RE:=fun l h=>(fo l h).bind fun r=>match r.1 with
 | .ref n=>(match r.2[n]? with
  | some (.ins y fs)=>if y=x then(jD f fs).bind fun d=>ε (d,r.2)else none
  | _=>none)
 | _=>none
def XI(x f:Str)(fo fe:RE):RS:=fun l h=>(fe l h).bind fun r=>(fo l r.2).bind fun q=>match q.1 with
 | .ref n=>(match q.2[n]? with
  | some (.ins y fs)=>if y=x/\fs.length<1000 then ε (.nx l (q.2.set n (.ins y (qE f r.1 fs))))else none
  | _=>none)
 | _=>none
noncomputable def jP(x:Str)(F:sB)(g:RA):RE:=fun l h=>(g l h).bind fun r=>(F (.ref r.2.length::r.1) (r.2++[.ins x []])).bind fun q=>match q.1 with
 | .non=>ε (.ref r.2.length,q.2)
 | _=>none
def MI(x m:Str)(F:sB)(fo:RE)(g:RA):RE:=fun l h=>(fo l h).bind fun r=>match r.1 with
 | .ref n=>(match r.2[n]? with
  | some (.ins y fs)=>if y=x/\jD m fs=none then(g l r.2).bind fun q=>F (.ref n::q.1) q.2 else none
  | _=>none)
 | _=>none
section
variable{X:Cx}{tg:Oo}
theorem zy {a b:Oo} {f g:RE} {c:Nat} {p pos:Pos} {d:Oo} (T:Gl X "range") (Q:X.mg "range" =none) (W:EM X a f) (U:EM X b g) (hd:EM X d (eC (.int (c:Int)))) (hs:lB a=true:=by rfl) (o:lB b=true:=by rfl) (m:lB d=true:=by rfl) :
 IM X tg (.Call (.Name "range" p) [a,b,d] [] pos) (N3 f g c):=by
 unhygienic
  exact PI.imp (Nk T Q (bC W (bC U (bC hd RC (bB m _ _)) (bB o _ _)) (bB hs _ _)) (by rw[bB hs,bB o,bB m];rfl) (by rw[bB o,bB m];rfl)) fun σ H R P=>by
   obtain⟨O,l,h,s,h',S,L,e,k⟩:=P;obtain⟨⟨I,E⟩,Y,e⟩:=oA e;obtain⟨⟨F,C⟩,e2,e⟩:=oA e;refine⟨O,l,h,I,E,S,L,Y,fun B v H1 R1 S1 D=>⟨B,l,E,F,C,S1,L.ext D,e2,fun y u H2 R2 S2 J=>⟨y,l,C,.int (c:Int),C,S2,L.ext (D.trans J),rfl,fun x u3 H3 R3 S3 E3=>?_⟩⟩⟩;cases I with
   | int i=>
    cases F with
    | int j=>
     obtain⟨Z,e⟩:=oF e;cases e;refine⟨i,j,c,by rw[Ws.mp R1,Ws.mp R2,Ws.mp R3],Z,k x _ H3 (fun H4 M h4 E4 S4 n=>?_) S3 (D.trans (J.trans E3))⟩;simp![mv.at,u5];by_cases r:n<((j-i+(c:Int)-1)/(c:Int)).toNat
     . rw[Mi r];refine⟨r,fun v H5 q=>?_⟩;obtain⟨rfl,rfl⟩:=q;exact⟨Ws.mpr rfl,mo.refl _ _,S4⟩
     . rw[jo (by simpa using Iu.mp r)];exact Iu.mp r
    | _=>cases e
   | _=>cases e
theorem qZ:OM X (binaryOp .Add) VI:=by
 unhygienic
  exact nc.imp Dc fun x y H Q q=>by
   obtain⟨j,h,I,F,d,L,S,o,R2,e,k⟩:=q;cases I with
   | tup J=>
    cases F with
    | tup s=>
     obtain⟨⟨E,C⟩,e⟩:=oF e;cases e;obtain⟨a,B,m,q1,g⟩:=ai.mp o;obtain⟨b,u,r,q2,f⟩:=ai.mp R2;refine⟨a,b,B,u,m,r,q1.sq,q2.sq,fun z=>?_,by rw[g.length,f.length];exact C,fun z=>?_,fun z p i=>k j _ _ (II S (g.append f) i) (S.fresh i) (mo.fresh i)⟩
     . have:=g.length;rw[z]at this;exact E (length_eq_zero_iff.mp this.symm)
     . have n:=f.length;rw[z]at n;have D:s=[]:=length_eq_zero_iff.mp n.symm;subst D;rw[Ui]at k;exact k j _ _ (m ▸ o) S (mo.refl _ _)
    | _=>cases e
   | _=>cases e
end
def pP(f:RE):RI:=fun l h=>(f l h).bind fun r=>match r.1 with
 | .lst a=>ε (.vals (QI 0 a),r.2)
 | .ref n=>(match r.2[n]? with
  | some (.lst _)=>ε (.en n,r.2)
  | _=>none)
 | _=>none
theorem Af {X:Cx} {C:Ni Oo} {x1} {tp p pos:Pos} {a:Oo} {f:RE} (hg:Gl X "enumerate") (hm:X.mg "enumerate" =none) (ha:EM X a f) (hs:lB a=true:=by rfl):IM X (.Tuple C x1 tp) (.Call (.Name "enumerate" p) [a] [] pos) (pP f):=by
 unhygienic
  refine PI.imp (Bb hg hm (bC ha RC (bB hs _ _)) (bB hs _ _)) fun σ H R zz=>?_
  obtain⟨ρ,l,h,s,h',S,L,e,k⟩:=zz;obtain⟨⟨Z,E⟩,e1,e⟩:=oA e;refine⟨ρ,l,h,Z,E,S,L,e1,fun B v H1 R1 U E1=>?_⟩;cases Z with
  | lst O=>
   cases e;obtain⟨b,g,rfl,q,r⟩:=bn.mp R1;refine⟨b,rfl,⟨g,q.sq⟩,k B _ H1 (fun H2 M E J x i=>?_) U E1⟩;have q2:=q.same J;have r2:=Ru.same J _ r;simp![mv.at,oW,Aa];cases D:O[i]? with
   | none=>refine⟨g,q2.sq,?_⟩;rw[r.length];exact Ea.mp D
   | some d=>obtain⟨v,m,I⟩:=r2.get D;refine⟨⟨g,v,q2.sq,m⟩,fun u H3 y=>?_⟩;obtain⟨p0,y0,j,rfl,T,rfl⟩:=y;have F:=T g q2.sq;rw[m]at F;cases F;exact⟨II x (.cons (Ws.mpr rfl) (.cons I .nil)) j,mo.fresh j,x.fresh j⟩
  | ref n=>
   dsimp only at e;split at e
   . rename_i a0 q0;cases e;obtain⟨b,rfl,W⟩:=Zi.mp R1;obtain⟨P,g0,_⟩:=U.lst W q0;refine⟨b,rfl,⟨P,m4.of g0⟩,k B _ H1 (fun H2 M E J x i=>?_) U E1⟩;have Q:=J.ix _ _ W;simp![mv.at];cases q:E[n]? with
     | none=>trivial
     | some o=>
      cases o with
      | lst O=>
       obtain⟨g,m,r⟩:=x.lst Q q;dsimp only;cases D:O[i]? with
       | none=>refine⟨g,m4.of m,?_⟩;rw[r.length];exact Ea.mp D
       | some d=>obtain⟨v,I,F⟩:=r.get D;refine⟨⟨g,v,m4.of m,I⟩,fun u H3 y=>?_⟩;obtain⟨p0,y0,j,rfl,T,rfl⟩:=y;have Y:=T g (m4.of m);rw[I]at Y;cases Y;exact⟨II x (.cons (Ws.mpr rfl) (.cons F .nil)) j,mo.fresh j,x.fresh j⟩
      | _=>trivial
   . cases e
  | _=>cases e
theorem WP{c:Prop}[Decidable c]{a:Type}{x:Oa a}{b:a}(e:(if c then x else none)=ε b):c/\x=ε b:=by
 by_cases h:c
 . rw[dh h]at e;exact⟨h,e⟩
 . rw[dz h]at e;cases e
def oa(K:Ou)(x:Str)(C:Oi):Prop:=nsIn K mainGlobals x=ε (ε (.ref C))
theorem oa.inj{K:Ou}{x:Str}{C C':Oi}(h:oa K x C)(h':oa K x C'):C=C':=by have:=h.symm.trans h';cases this;rfl
theorem bS{K:Ou}{H:Hp}{ρ:Rg}{f:Str}:∀{fs:Ni (Str×Dt)}{vs:Ni (Str×V)},fs.map (·.1)=vs.map (·.1)->Ru K H ρ (fs.map (·.2)) (vs.map (·.2))->
 (∀d,jD f fs=ε d->∃v,vs.lookup f=ε v/\Te K H ρ d v)/\(jD f fs=none->vs.lookup f=none)
 | [],[],_,_=>⟨(fun t h=>by cases h),fun t=>rfl⟩
 | [],_::_,e,_=>by cases e
 | _::_,[],e,_=>by cases e
 | (x,d)::fs,(y,v)::vs,e,r=>by
  simp![Ti,Ls]at e;obtain⟨p,e⟩:=e;subst p;obtain⟨s,u,q,o,n⟩:=Ru.Ys r;cases q;obtain⟨m,j⟩:=bS (f:=f) e n;by_cases z:f=x
  . have a:(f==x)=true:=beq_iff_eq.mpr z;refine⟨fun b h=>?_,fun h=>?_⟩
    . simp![jD,dh z]at h;cases h;exact⟨v,by simp![List.lookup,a],o⟩
    . simp![jD,dh z]at h;cases h
  . have a:(f==x)=false:=by rw[<- Bool.not_eq_true,beq_iff_eq];exact z
    refine⟨fun b h=>?_,fun h=>?_⟩
    . simp![jD,dz z]at h;obtain⟨w,i,g⟩:=m b h;exact⟨w,by simp![List.lookup,a];exact i,g⟩
    . simp![jD,dz z]at h;simp![List.lookup,a];exact j h
theorem yY{K:Ou}{H:Hp}{ρ:Rg}{f:Str}{d:Dt}{v:V}(a:Te K H ρ d v):∀{fs:Ni (Str×Dt)}{vs:Ni (Str×V)},fs.map (·.1)=vs.map (·.1)->Ru K H ρ (fs.map (·.2)) (vs.map (·.2))->
 (qE f d fs).map (·.1)=(L2.CB f v vs).map (·.1)/\Ru K H ρ ((qE f d fs).map (·.2)) ((L2.CB f v vs).map (·.2))
 | [],[],_,_=>⟨rfl,.cons a .nil⟩
 | [],_::_,e,_=>by cases e
 | _::_,[],e,_=>by cases e
 | (x,d0)::fs,(y,v0)::vs,e,r=>by
  simp![Ti,Ls]at e;obtain⟨j,e⟩:=e;subst j;obtain⟨m,n,q,i,b⟩:=Ru.Ys r;cases q;by_cases z:x=f
  . simp![qE,L2.CB,dh z,Ti];exact⟨by rw[e],.cons a b⟩
  . obtain⟨h,g⟩:=yY a (f:=f) e b;simp![qE,L2.CB,dz z,Ti];exact⟨by rw[h],.cons i g⟩
structure iS(K:Frag)(x f:Str):Prop where
 ex:∃C,oa K x C/\Cls K C/\cx K C f
structure lH(P:Program)(w:World)(K:Frag)(mg:Str->Option Value)(base:Heap)(k n:Nat)(x m:Str)(F:sB):Prop where
 ex:∃C f fd ps,oa K x C/\Cls K C/\HM K C m f/\ab P w K mg base GF k f fd ps (lJ K n F)/\nb K fd ps []
 len:∀ds h r,F ds h=ε r->ds.length=n
structure uS(K:Frag)(x m qual:Str)(st:Stmt)(ps:List Str):Prop where
 ex:∃C f fd,oa K x C/\Cls K C/\HM K C m f/\Fun K m qual st f fd/\nb K fd ps []
structure HP(P:Program)(w:World)(K:Frag)(mg:Str->Option Value)(base:Heap)(k n:Nat)(x:Str)(F:sB):Prop where
 ex:∃C f fd ps,oa K x C/\Mk K C f/\ab P w K mg base GF k f fd ps (lJ K n F)/\mg x=ε (.ref C)/\nb K fd ps []
 len:∀ds h r,F ds h=ε r->ds.length=n
structure PZ(K:Frag)(mg:Str->Option Value)(x qual:Str)(st:Stmt)(ps:List Str):Prop where
 ex:∃C f fd,oa K x C/\Mk K C f/\Fun K "__init__" qual st f fd/\mg x=ε (.ref C)/\nb K fd ps []
section
variable{P:O4}{w:Pb}{K:Ou}{b:Str->Oa Nu}{a:Ri}
theorem nZ{x m d:Str}{st:Pa}{N ps:Ni Str}{k n i:Nat}{body:RS}(D:uS K x m d st ps)(S:Yi N ps (jB st))(o:ps.length=n)(p:N.length=i)
 (q:∀(f:Oi)(g:Nu)(A:Pu)(outer:Ni Env)(s:Oe)(H:Hp)(E:XK),Xe k (A.deeper (envOfC d (jB st) s.heap.objs.size f g))->
  mH (oE GF P w K b a N d (jB st) f g A outer s H E).nox (CC st) body):lH P w K b a (k+1) n x m (HB n i body):=by
 unhygienic subst o p;obtain⟨C,f,B,J,I,F,u,y⟩:=D.ex;exact⟨⟨C,f,B,ps,J,I,F,mP u S fun g A outer s H E j=>q f g A outer s H E j,y⟩,fun ds h r e=>JO e⟩
theorem Am{x m g:Str}{st:Pa}{ps:Ni Str}{k n:Nat}(D:uS K x m g st ps):lH P w K b a k n x m (fun z z=>none):=by
 unhygienic
  obtain⟨C,f,u,F,B,y,R,p⟩:=D.ex;refine⟨⟨C,f,u,ps,F,B,y,⟨fun o H Q E h=>?_,fun A outer s H i I o Q E L M O J h=>?_⟩,p⟩,fun ds h r e=>by cases e⟩
  . obtain⟨j,ds,h,d,q,_,_,_,e,_⟩:=h;cases e
  . obtain⟨j,ds,h,d,q,_,_,_,e,_⟩:=h;cases e
theorem Vn{x d:Str}{st:Pa}{N ps:Ni Str}{k n i:Nat}{body:RS}(D:PZ K b x d st ps)(S:Yi N ps (jB st))(m:ps.length=n)(o:N.length=i)
 (p:∀(f:Oi)(g:Nu)(A:Pu)(outer:Ni Env)(s:Oe)(H:Hp)(E:XK),Xe k (A.deeper (envOfC d (jB st) s.heap.objs.size f g))->
  mH (oE GF P w K b a N d (jB st) f g A outer s H E).nox (CC st) body):HP P w K b a (k+1) n x (HB n i body):=by
 unhygienic subst m o;obtain⟨C,f,y,I,F,q,B,u⟩:=D.ex;exact⟨⟨C,f,y,ps,I,F,mP q S fun g A outer s H E j=>p f g A outer s H E j,B,u⟩,fun ds h r e=>JO e⟩
end
theorem P3{H:Hp}{a C b:Oi}{vs:Ni (Str×V)}(h:H a=ε (.ins C b vs)):vT H a:=fun q q e=>by rw[h]at e;cases e
section
variable{X:Cx}{e o b:Oo}{s:Ni Oo}{x f m:Str}{fo fe:RE}{g:RA}{pos j i p:Pos}{k t n:Nat}{F:sB}
theorem YL(cl:iS X.K x f)(u:EM X e fo)(U:attributeBase e f X.env (eval e X.env)=eval e X.env:=by rfl):EM X (.Attribute e f pos) (LF x f fo):=by
 unhygienic
  exact PE.imp (X7 u U) fun σ H Q J=>by
   obtain⟨I,l,h,d,h',S,L,e,k⟩:=J;obtain⟨⟨B,W⟩,e1,e⟩:=oA e;refine⟨I,l,h,B,W,S,L,e1,fun r v H1 R1 D E1=>?_⟩;cases B with
   | ref n=>
    dsimp only at e;split at e
    . rename_i y fs q;obtain⟨T,e3⟩:=WP e;subst T;obtain⟨d2,q2,e4⟩:=oA e3;cases e4;obtain⟨a,z,u⟩:=Zi.mp R1;obtain⟨C,dx,P,c1,g1,Z,Y⟩:=D.ob n a _ u q;obtain⟨E,c2,c3,c4⟩:=cl.ex;have cc:E=C:=oa.inj c2 c1;subst cc;obtain⟨R,O,M⟩:=(bS Z Y).1 _ q2;exact⟨a,E,dx,P,R,z,g1,c3,c4,O,k r _ _ M D E1⟩
    . cases e
   | _=>cases e
set_option tactic.hygienic true in
theorem VO(cl:iS X.K x f)(E:EM X o fo)(J:EM X b fe)(hs:swapsWith b (ε (.Attribute o f j)) pos.line X.env=pure false:=by rfl):ZM X (.Assign [.Attribute o f j] b pos) (XI x f fo fe):=by
 unhygienic
  exact PS.imp (Y6 E J hs) fun D σ H P=>by
   obtain⟨ρ,l,h,r,S,L,e,k⟩:=P;obtain⟨⟨v,J⟩,e1,e⟩:=oA e;obtain⟨⟨d,hd⟩,e2,e⟩:=oA e;refine⟨ρ,l,h,v,J,S,L,e1,fun O u H1 R1 S1 T=>⟨O,l,J,d,hd,S1,L.ext T,e2,fun M y H2 R2 S2 R=>?_⟩⟩;cases d with
   | ref n=>
    dsimp only at e;split at e
    . rename_i y fs q;obtain⟨⟨hy,hl⟩,e⟩:=oF e;cases e;subst hy;obtain⟨a,P,E⟩:=Zi.mp R2;obtain⟨C,Z,W,c1,I,Y,g3⟩:=S2.ob n a _ E q;obtain⟨U,c2,c3,c4⟩:=cl.ex;have cc:U=C:=oa.inj c2 c1;subst cc;have Q:=ju E;have B:W.length=fs.length:=by have:=congrArg List.length Y;simpa using this.symm
      obtain⟨p1,p2⟩:=yY (f:=f) (Te.ext R _ R1) Y g3;refine⟨a,U,Z,W,P,I,c3,c4,by rw[B];exact hl,?_⟩;exact k M σ _ (S2.write E (P3 I) ⟨U,Z,_,c1,fC,p1,p2.ext (mo.write Q (P3 I))⟩) (L.ext (T.trans (R.trans (mo.write Q (P3 I))))) (T.trans (R.trans (mo.write Q (P3 I))))
    . cases e
   | _=>cases e
theorem Cd (c:HP X.prog X.w X.K X.mg X.base k n x F) (hr:Xe t X.A) (hk:k+1<=t) (hg:Gl X x) (ha:AM X (e::s) g) (P:(x==("__debug__" :Str))=false:=by decide)
 (he:lB e=true:=by rfl) (hpl:s.all lB=true:=by rfl):EM X (.Call (.Name x p) (e::s) [] pos) (jP x F g):=by
 unhygienic
  obtain⟨C,f,fd,ps,c1,c2,c3,c4,c5⟩:=c.ex;exact PE.imp (Yc c2 c3 (hr.mono hk) hg c4 c5 .nil (E:=E0) WS ha P (bB he _ _) (MH hpl)) fun σ H Q Y=>by
   obtain⟨W,l,h,d,h',S,L,e,k⟩:=Y;obtain⟨⟨B,J⟩,e1,e⟩:=oA e;obtain⟨⟨d2,h2⟩,e2,e⟩:=oA e;cases d2 with
   | non=>
    cases e;refine⟨W,l,h,B,J,S,L,e1,fun a Z I R1 R E1 xa q hx y O=>?_⟩;have S2:Us X.K a J (oB I q (.own xa)):=R.fresh y;have r:oB I q (.own xa) xa=none:=by rw[XA (ni O)];exact hx
    have S3:=S2.own (p:=xa) (o:=.ins C q []) (u:=.ins x []) r ⟨C,q,[],c1,fC,rfl,.nil⟩;have T:mo a (a.add xa) I (oB (oB I q (.own xa)) xa (.ins C q [])):=(mo.fresh y).trans (mo.own r);have D:(a.add xa).v[J.length]?=ε xa:=by simp[Rg.add,<- R.len]
    have R3:Ru X.K (oB (oB I q (.own xa)) xa (.ins C q [])) (a.add xa) (.ref J.length::B) (.ref xa::(Z++[])):=.cons (Zi.mpr ⟨xa,rfl,D⟩) (by rw[Ui];exact R1.ext T);exact⟨a.add xa,_,_,.non,h2,S3,R3,c.len _ _ _ e2,e2,fun M v H' R' S' U=>⟨bp.mp R',k M _ H' (Zi.mpr ⟨xa,rfl,U.get D⟩) S' (E1.trans (T.trans U))⟩⟩
   | _=>cases e
theorem JR{pl:Sem Bool}(c:lH X.prog X.w X.K X.mg X.base k n x m F)(hr:Xe t X.A)(hk:k<=t)(ho:EM X o fo)(B:AM X (e::s) g)
 (he:lB e=true:=by rfl) (hpl:s.all lB=true:=by rfl)
 (ht:eval (.Call (.Attribute o m i) (e::s) [] pos) X.env=(do
  let ov <- eval o X.env
  standAt i.atName
  let (f,first) <- holding [ov] (getMethod ov m pl)
  callWith pos f first (backTo pos (starEach (e::s) X.env)) (backToKw pos (keywordEach [] X.env))):=by rfl):EM X (.Call (.Attribute o m i) (e::s) [] pos) (MI x m F fo g):=by
 unhygienic
  obtain⟨C,f,fd,ps,c1,c2,c3,c4,c5⟩:=c.ex;exact PE.imp (Zc (pl:=pl) ho c2 c3 c4 (hr.mono hk) c5 .nil (E:=E0) WS B (bB he _ _) (MH hpl) ht) fun σ H Q Y=>by
   obtain⟨W,l,h,d,h',S,L,e,k⟩:=Y;obtain⟨⟨O,J⟩,e1,e⟩:=oA e;refine⟨W,l,h,O,J,S,L,e1,fun u v H1 R P U=>?_⟩;cases O with
   | ref nn=>
    dsimp only at e;split at e
    . rename_i y fs q;obtain⟨⟨hy,hl⟩,e3⟩:=WP e;subst hy;obtain⟨⟨ds,I⟩,e2,M⟩:=oA e3;obtain⟨a,z,B⟩:=Zi.mp R;obtain⟨C',dx,Z,D,g1,g2,g3⟩:=P.ob nn a _ B q;have cc:C'=C:=oa.inj D c1;subst cc;refine⟨a,dx,Z,z,g1,(bS g2 g3).2 hl,u,l,J,ds,I,P,L.ext U,e2,fun r us H2 R2 S2 T=>?_⟩;exact⟨r,_,I,d,h',S2,.cons (Te.ext T _ R) (by rw[Ui];exact R2),c.len _ _ _ M,M,(k.ext U).ext T⟩
    . cases e
   | _=>cases e
end
structure GP(K:Frag)(x qual:Str)(st:Stmt)(dV:Value)(f:Addr)(fd:FuncData):Prop where
 ex:∃(oc:Value)(od:Option Addr)(kV doc pm:Value)(an:Option Addr)(cdv ct:Value)(osl:Array (Option Value)),
  fd=fnOf x qual (bE st) (CC st) (jB st) dV kV doc pm an cdv ct/\K.lookup f=ε ⟨oc,od,.func fd,osl⟩/\PySem.W.codeIn K cdv qual=true
 kp:keepIn K (.ref f)=true
section
variable{P:O4}{w:Pb}{K:Ou}{mg:Str->Oa Nu}{base:Ri}
theorem bf{x a:Str}{st:Pa}{f:Oi}{j h:Nu}{od i:Oa Oi}{e:Ra (Oa Nu)}{kV d g b ct:Nu}(l:K.lookup f=ε ⟨j,od,.func (fnOf x a (bE st) (CC st) (jB st) h kV d g i b ct),e⟩)
 (c:PySem.W.codeIn K b a=true) (k:keepIn K (.ref f)=true):GP K x a st h f (fnOf x a (bE st) (CC st) (jB st) h kV d g i b ct):=⟨⟨j,od,kV,d,g,i,b,ct,e,rfl,l,c⟩,k⟩
theorem Ip{x a:Str}{st:Pa}{J:Nu}{f:Oi}{n:FuncData}{N ps:Ni Str}{k:Nat}{body:RS}(F:GP K x a st J f n)(S:Yi N ps (jB st))
 (B:∀(b:Nu)(A:Pu)(outer:Ni Env)(s:Oe)(H:Hp)(E:XK),Xe k (A.deeper (envOfC a (jB st) s.heap.objs.size f b))->
  mH (oE GF P w K mg base N a (jB st) f b A outer s H E).nox (CC st) body):ab P w K mg base GF (k+1) f n ps (lJ K ps.length (HB ps.length N.length body)):=by
 unhygienic
  obtain⟨W,U,kV,I,T,an,b,ct,r,rfl,u,m⟩:=F.ex;refine Z0 u m S (fun p H Q E h=>?_) fun A outer s H p Q E y h=>?_
  . obtain⟨j,ds,h,d,D,S,R,g,_⟩:=h;rw[R.length,g]
  . obtain⟨j,ds,h,d,D,S,R,g,e,k⟩:=h;refine⟨_,(B b A outer s H E y).nox,?_⟩;unfold HB at e;rw[dh g]at e;rw[<- g]at e;split at e
    . rename_i Z C q;cases e;exact⟨j,_,h,_,S,lO R,q,k⟩
    . rename_i Y C q;cases e;exact⟨j,_,h,_,S,lO R,q,fun i o M L L' O=>k i _ M (bp.mpr rfl) L O⟩
    . cases e
structure DM(K:Frag)(mg:Str->Option Value)(x:Str)(st:Stmt)(ps:List Str)(dds:List Dt):Prop where
 ex:∃dV f fd ds dvs,GP K x x st dV f fd/\mg x=ε (.ref f)/\nb K fd ps ds/\mh dvs ds/\∀H ρ,Ru K H ρ dds dvs
structure bJ(P:Program)(w:World)(K:Frag)(mg:Str->Option Value)(base:Heap)(k n:Nat)(x:Str)(F:sB)(dds:List Dt):Prop where
 ex:∃f fd ps ds dvs,ab P w K mg base GF k f fd ps (lJ K n F)/\mg x=ε (.ref f)/\keepIn K (.ref f)=true/\nb K fd ps ds/\mh dvs ds/\∀H ρ,Ru K H ρ dds dvs
 len:∀ds h r,F ds h=ε r->ds.length=n
theorem mY{x:Str}{st:Pa}{N ps:Ni Str}{k n m:Nat}{body:RS}{dds:Ni Dt}(D:DM K mg x st ps dds)(S:Yi N ps (jB st))(i:ps.length=n)(j:N.length=m)
 (o:∀(f:Oi)(a:Nu)(A:Pu)(outer:Ni Env)(s:Oe)(H:Hp)(E:XK),Xe k (A.deeper (envOfC x (jB st) s.heap.objs.size f a))->
  mH (oE GF P w K mg base N x (jB st) f a A outer s H E).nox (CC st) body):bJ P w K mg base (k+1) n x (HB n m body) dds:=by
 unhygienic subst i j;obtain⟨C,f,B,ds,b,d,y,u,q,p⟩:=D.ex;exact⟨⟨f,B,ps,ds,b,Ip d S fun a A outer s H E g=>o f a A outer s H E g,y,d.kp,u,q,p⟩,fun ds h r e=>JO e⟩
end
section
variable{X:Cx}{k d n:Nat}{F:sB}{x:Str}{p pos:Pos}{e:Oo}{b:Ni Oo}{g:RA}{a:Ni Dt}
theorem HJ (c:bJ X.prog X.w X.K X.mg X.base k n x F a) (j:Xe d X.A) (m:k<=d) (o:Gl X x) (s:AM X (e::b) g) (i:(x==("__debug__" :Str))=false:=by decide)
 (he:lB e=true:=by rfl) (hpl:b.all lB=true:=by rfl) :
 EM X (.Call (.Name x p) (e::b) [] pos) (qA F a g):=by
 unhygienic obtain⟨f,J,I,ds,H,E,D,C,B,y,u⟩:=c.ex;exact MX E (j.mono m) o D C B y u s (fun L e ds h r q=>c.len ds h r (e ▸ q)) i he hpl
end
def eB(K:Ou)(x:Str)(st:Pa):Prop:=∃(f:Oi)(g:Nu)(e:Oa Oi)(kV dc d:Nu)(h:Oa Oi)(a ct:Nu)(b:Ra (Oa Nu)),nsIn K mainGlobals x=ε (ε (.ref f))/\
 K.lookup f=ε ⟨g,e,.func (fnOf x x (bE st) (CC st) (jB st) .none kV dc d h a ct),b⟩/\PySem.W.codeIn K a x=true/\keepIn K (.ref f)=true
def LS(K:Ou)(x:Str)(st:Pa)(d:Int):Prop:=∃(f:Oi)(j:Nu)(i:Oa Oi)(a:Oi)(kV dc h:Nu)(n:Oa Oi)(e ct:Nu)(g:Ra (Oa Nu))(b:Obj)(t:Tok)(m:Nat),nsIn K mainGlobals x=ε (ε (.ref f))/\
 K.lookup f=ε ⟨j,i,.func (fnOf x x (bE st) (CC st) (jB st) (.ref a) kV dc h n e ct),g⟩/\PySem.W.codeIn K e x=true/\keepIn K (.ref f)=true/\K.lookup a=ε b/\b.data=.seq #[.int d t] m
def mM(K:Ou)(C:Oi)(m a:Str)(st:Pa):Prop:=∃(f:Oi)(h:Nu)(g:Oa Oi)(kV dc e:Nu)(i:Oa Oi)(b ct:Nu)(d:Ra (Oa Nu)),findIn K (.ref C) m=ε (ε (.ref f))/\PySem.W.isFn K (.ref f)=true/\
 K.lookup f=ε ⟨h,g,.func (fnOf m a (bE st) (CC st) (jB st) .none kV dc e i b ct),d⟩/\PySem.W.codeIn K b a=true/\keepIn K (.ref f)=true
structure BM(K:Frag)(x:Str)(C:Addr):Prop where
 ac:nsIn K mainGlobals x=ε (ε (.ref C))
 pg:PySem.W.plainGet K C Str.empty=true
 hd:PySem.W.hasDictIn K C=true
 po:PySem.W.plainOver K C=true
 sa:findIn K (.ref C) "__setattr__" =ε (ε (.builtin "object.__setattr__"))
 mkk:PySem.W.makesIn K C=true
 kc:keepIn K (.ref C)=true
section
variable{K:Ou}{h:Ri}{e:Str->Oa Nu}{x m b:Str}{st:Pa}{ps:Ni Str}{C:Oi}{d:Int}
theorem NL(X:K.In h)(G:h.Ns mainGlobals e)(D:eB K x st)(o:∀(kV g j:Nu)(n:Oa Oi)(i ct:Nu)(us:Ni Nu),us.length=ps.length->bindArgs (fnOf x x (bE st) (CC st) (jB st) .none kV g j n i ct) ⟨us,[]⟩=pure (ps.zip us)):KS K e x st ps:=by obtain⟨f,r,q,kV,dc,j,n,s,ct,p,a,l,c,k⟩:=D;have F:=YO l c k;exact⟨⟨f,_,F,PySem.W.mg_of X G a,F.binds o⟩⟩
theorem ZY(X:K.In h)(G:h.Ns mainGlobals e)(D:LS K x st d)(y:∀(s:Oe)(g:Oi)(i:Obj)(t:Tok)(j:Nat)(kV n p:Nu)(q:Oa Oi)(o ct:Nu)(us:Ni Nu),us.length=ps.length->s.heap.get? g=ε i->i.data=.seq #[.int d t] j->BindsTo s (fnOf x x (bE st) (CC st) (jB st) (.ref g) kV n p q o ct) ⟨us,[]⟩ (ps.zip (us++[]))):DM K e x st ps []:=by obtain⟨f,H,F,g,kV,dc,p,q,I,ct,E,i,t,j,a,l,c,k,r,e2⟩:=D;exact⟨⟨_,f,_,[],[],bf l c k,PySem.W.mg_of X G a,fun s us B u=>y s g i t j _ _ _ _ _ _ us (by simpa using u) (B _ _ r) e2,.nil,fun z z=>.nil⟩⟩
theorem wR(k:BM K x C)(D:mM K C m b st)(q:∀(kV g n:Nu)(p:Oa Oi)(j ct:Nu)(us:Ni Nu),us.length=ps.length->bindArgs (fnOf m b (bE st) (CC st) (jB st) .none kV g n p j ct) ⟨us,[]⟩=pure (ps.zip us)):uS K x m b st ps:=by obtain⟨f,u,s,kV,dc,n,p,y,ct,r,a,i,l,c,o⟩:=D;have F:=YO l c o;exact⟨⟨C,f,_,k.ac,⟨k.pg,k.hd,k.po,k.sa⟩,⟨a,i,o⟩,F,F.binds q⟩⟩
theorem Xg (X:K.In h) (G:h.Ns mainGlobals e) (k:BM K x C) (D:mM K C "__init__" b st) (q:∀(kV g n:Nu) (o:Oa Oi) (j ct:Nu) (us:Ni Nu),us.length=ps.length->bindArgs (fnOf "__init__" b (bE st) (CC st) (jB st) .none kV g n o j ct) ⟨us,[]⟩=pure (ps.zip us)):PZ K e x b st ps:=by obtain⟨f,u,s,kV,dc,n,o,y,ct,r,a,i,l,c,p⟩:=D;have F:=YO l c p;exact⟨⟨C,f,_,k.ac,⟨k.mkk,a,i,k.kc⟩,F,PySem.W.mg_of X G k.ac,F.binds q⟩⟩
theorem YG{f:Str}(k:BM K x C)(n:findIn K (.ref C) f=ε none):iS K x f:=⟨⟨C,k.ac,⟨k.pg,k.hd,k.po,k.sa⟩,n⟩⟩
end
section
variable{Q:Ni Nu->Prop}
theorem DK(h:Q []):∀a:Ni Nu,a.length=0->Q a | [],_=>h
theorem pF{n:Nat}(h:∀a b,b.length=n->Q (a::b)):∀b:Ni Nu,b.length=n+1->Q b | a::b,e=>h a b (Nat.succ.inj e)
theorem len1(h:∀a,Q [a]):∀us:Ni Nu,us.length=1->Q us:=pF fun a=>DK (h a)
theorem EK(h:∀a b,Q [a,b]):∀us:Ni Nu,us.length=2->Q us:=pF fun a=>pF fun b=>DK (h a b)
theorem iJ(h:∀a b c,Q [a,b,c]):∀us:Ni Nu,us.length=3->Q us:=pF fun a=>pF fun b=>pF fun c=>DK (h a b c)
theorem qH(h:∀a b c d,Q [a,b,c,d]):∀us:Ni Nu,us.length=4->Q us:=pF fun a=>pF fun b=>pF fun c=>pF fun d=>DK (h a b c d)
theorem VT(h:∀a b c d e,Q [a,b,c,d,e]):∀us:Ni Nu,us.length=5->Q us:=pF fun a=>qH (h a)
theorem WT(h:∀a b c d e f,Q [a,b,c,d,e,f]):∀us:Ni Nu,us.length=6->Q us:=pF fun a=>VT (h a)
end
theorem IG{N P:Ni Str}{sc:Scope}(a:sc.kind=.function:=by exact rfl)(b:sc.isCoroutine=false:=by exact rfl)(c:sc.isGenerator=false:=by exact rfl)(d:N.Nodup:=by decide +kernel)(e:N.take P.length=P:=by exact rfl)
 (f:∀x∈P,sc.names.lookup x=ε .local\/sc.names.lookup x=ε .cell:=by decide +kernel) (g:∀y∈sc.names,y.2≠.free:=by decide +kernel):Yi N P sc:=⟨a,b,c,d,e,f,g⟩
theorem FA {X:Cx} {k k' n:Nat} {x:Str} {F:sB} {e:Oo} {b:Ni Oo} {g:RA} {p pos:Pos} (c:jC X.prog X.w X.K X.mg X.base k n x F) (d:Xe k' X.A) (i:AM X (e::b) g) (f:k<=k':=by decide) (h:Gl X x:=by exact rfl) (a:(x==("__debug__" :Str))=false:=by decide)
 (he:lB e=true:=by rfl) (hpl:b.all lB=true:=by rfl):EM X (.Call (.Name x p) (e::b) [] pos) (qA F [] g):=sE c d f h i a he hpl
end SM
namespace L2
theorem sY:∀{bs:Ni Bool}{us:Ni Nu},mh (bs.map V.bl) us->us=bs.map Value.bool
 | [],_,h=>by cases h;rfl
 | b::bs,_,h=>by
  cases h with
  | cons r a=>rw[sY a];cases r;rfl
noncomputable def X8(K:Ou):V->Ni V->Hp->VK->Prop:=fun x d H Q=>∃(a:Oi)(bs:Ni Bool)(b:Bool),x=.ref a/\d=[.bl b]/\m4 K H a (bs.map V.bl)/\Q (.int ((bs.countP (· ==b):Nat):Int)) H
section
variable{X:Cx}
theorem Wy:A4 X "list.count" (X8 X.K):=by
 intro f s F H x J v L Q I r B h;obtain⟨p,bs,b,rfl,rfl,sq,q⟩:=h;cases r;obtain⟨u,rfl,C⟩:=lE B;cases C;obtain⟨its,e,⟨⟨P,O,M,d⟩,n,o,j,i,g⟩,z⟩:=I.list sq;simp only at j i g;subst j i g;have m:=sY e;refine call_meets PySem.F.slot_list_count ⟨_,o,rfl⟩ PySem.F.entry_list_count (PySem.F.args_list_count_2 _ _) (SeqAt.list_countAt p its.toArray n none d (.bool b) (isBoolOf b)) ⟨o,fun y D=>?_,?_⟩
 . have a:y∈its:=by simpa using D
   rw[m]at a;obtain⟨c,_,rfl⟩:=Bs.mp a;exact SeqAt.EqAt.bool_bool c b
 . have E:its.toArray.toList.countP (isBoolOf b)=bs.countP (· ==b):=by rw[show its.toArray.toList=its from rfl,m,countP_map];rfl
   rw[E];exact⟨.int _,H,I.tok _,⟨_,rfl⟩,q⟩
end
end L2
namespace SM
def IR(fa fb:RE):RE:=fun l h=>(fa l h).bind fun r=>(fb l r.2).bind fun q=>match r.1,q.1 with
 | .lst xs,.bl b=>(eE xs).bind fun bs=>ε (.int ((bs.countP (· ==b):Nat):Int),q.2)
 | _,_=>none
section
variable{X:Cx}{a b:Oo}{fa fb:RE}
theorem Cw {g f:Pos} (E:EM X a fa) (F:EM X b fb) (j:attributeBase a "count" X.env (eval a X.env)=eval a X.env:=by rfl)
 (i:(g.endLine==f.line)=true:=by rfl) (hs:lB b=true:=by rfl) :
 EM X (.Call (.Attribute a "count" g) [b] [] f) (IR fa fb):=by
 unhygienic
  exact PE.imp (oM PySem.F.plainAttrs_list PySem.F.slot_list_count PySem.F.type_list_count Wy E (bC F RC (bB hs _ _)) j (HL hs) i (bB hs _ _)) fun W H Q C=>by
   obtain⟨B,l,h,d,Z,S,L,e,k⟩:=C;obtain⟨⟨r,p⟩,M,e⟩:=oA e;obtain⟨⟨O,I⟩,e2,e⟩:=oA e;refine⟨B,l,h,r,p,S,L,M,fun n v H1 T R u=>?_⟩;cases r with
   | lst Y=>
    cases O with
    | bl b=>obtain⟨bs,q,e⟩:=oA e;cases e;obtain⟨x,D,z,t,o⟩:=bn.mp T;subst z;refine⟨.inl ⟨rfl,D,t.sq⟩,n,l,p,.bl b,I,R,L.ext u,e2,fun m y U R2 P s=>?_⟩;rw[dO q]at o;have J:=o.fh;rw[J]at t;exact⟨x,bs,b,rfl,by rw[Yo.mp R2],(t.same s.same).sq,k m _ U (Ws.mpr rfl) P (u.trans s)⟩
    | _=>cases e
   | _=>cases e
end
theorem El{P:O4}{w:Pb}{K:Ou}{mg:Str->Oa Nu}{base:Ri}{x:Str}{st:Pa}{ps:Ni Str}{k n:Nat}(D:KS K mg x st ps):jC P w K mg base k n x (fun z z=>none):=by
 unhygienic
  obtain⟨f,p,j,i,m⟩:=D.ex;refine⟨⟨f,p,ps,⟨fun g H Q E h=>?_,fun A outer s H a q g Q E y B C u h=>?_⟩,i,j.kp,m⟩,fun ds h r e=>by cases e⟩
  . obtain⟨b,ds,h,d,o,_,_,_,e,_⟩:=h;cases e
  . obtain⟨b,ds,h,d,o,_,_,_,e,_⟩:=h;cases e
end SM
namespace L2
section
variable{X:Cx}
end
end L2
namespace SM
noncomputable def fB{a β:Type}(o:Oa a)(f:a->Oa β):Oa β:=o.bind f
@[simp] theorem fA{b d:Type}(a:b)(f:b->Oa d):fB (ε a) f=f a:=by rfl
@[simp] theorem kx{b a:Type}(f:b->Oa a):fB none f=none:=by rfl
@[simp] theorem ky{d e:Type}{c:Prop}[Decidable c](a b:Oa d)(k:d->Oa e):fB (if c then a else b) k=if c then fB a k else fB b k:=by split<;>rfl
section
variable{l:LI}{h:HI}{f g fa fb m:RE}
@[simp] theorem sA(d:Dt):eC d l h=ε (d,h):=by rfl
noncomputable def bI(h:HI):Oa (Oa Dt)->Oa (Dt×HI)
 | some (some d)=>ε (d,h)
 | _=>none
@[simp] theorem kA(d:Dt):bI h (ε (ε d))=ε (d,h):=by rfl
@[simp] theorem jA(i:Nat):eV i l h=bI h l[i]?:=by unfold eV bI;rfl
@[simp] theorem vA(op:sD):e2 op fa fb l h=fB (fa l h) fun r=>fB (fb l r.2) fun q=>op r.1 q.1 q.2:=by rfl
@[simp] theorem zA:eA l h=ε ([],h):=by rfl
@[simp] theorem DA(r:RA):bA f r l h=fB (f l h) fun a=>fB (r l a.2) fun q=>ε (a.1::q.1,q.2):=by rfl
noncomputable def tbK:Dt×HI->Oa (Bool×HI)
 | (.bl b,h)=>ε (b,h)
 | _=>none
@[simp] theorem KA(b:Bool):tbK (.bl b,h)=ε (b,h):=by rfl
@[simp] theorem HA:mu f l h=fB (f l h) tbK:=by
 unfold fB;unfold mu
 congr 1
 funext r
 obtain⟨d,h⟩:=r;cases d<;>rfl
@[simp] theorem bG(t u:RT):YI t u l h=fB (t l h) fun r=>if r.1=true then u l r.2 else ε (false,r.2):=by rfl
@[simp] theorem DC(t u:RT):pC t u l h=fB (t l h) fun r=>if r.1=true then ε (true,r.2)else u l r.2:=by rfl
@[simp] theorem gF(t:RT):TD t l h=fB (t l h) fun r=>ε (!r.1,r.2):=by rfl
noncomputable def v3(u:RE)(l:LI):Dt×HI->Oa (Dt×HI)
 | (.bl true,h)=>u l h
 | (.bl false,h)=>ε (.bl false,h)
 | _=>none
noncomputable def mU(u:RE)(l:LI):Dt×HI->Oa (Dt×HI)
 | (.bl true,h)=>ε (.bl true,h)
 | (.bl false,h)=>u l h
 | _=>none
@[simp] theorem oG(u:RE)(b:Bool):v3 u l (.bl b,h)=if b=true then u l h else ε (.bl false,h):=by cases b<;>rfl
@[simp] theorem RL(u:RE)(b:Bool):mU u l (.bl b,h)=if b=true then ε (.bl true,h)else u l h:=by cases b<;>rfl
@[simp] theorem vG(u:RE):cF f u l h=fB (f l h) (v3 u l):=by
 unfold fB;unfold cF
 congr 1
 funext r
 obtain⟨d,h⟩:=r;cases d<;>(try rfl);rename_i b;cases b<;>rfl
@[simp] theorem A2(u:RE):lU f u l h=fB (f l h) (mU u l):=by
 unfold fB;unfold lU
 congr 1
 funext r
 obtain⟨d,h⟩:=r;cases d<;>(try rfl);rename_i b;cases b<;>rfl
noncomputable def A3:Dt×HI->Oa (Dt×HI)
 | (.bl b,h)=>ε (.bl (!b),h)
 | _=>none
@[simp] theorem ER(b:Bool):A3 (.bl b,h)=ε (.bl (!b),h):=by rfl
@[simp] theorem D0:mJ f l h=fB (f l h) A3:=by
 unfold fB;unfold mJ
 congr 1
 funext r
 obtain⟨d,h⟩:=r;cases d<;>rfl
@[simp] theorem Z1(t:RT):dN t f g l h=fB (t l h) fun r=>if r.1=true then f l r.2 else g l r.2:=by rfl
noncomputable def chK(a:sD)(m:RE)(l:LI)(q:Dt):Dt×HI->Oa (Dt×HI)
 | (.bl true,h)=>(m l h).bind fun r=>a q r.1 r.2
 | (.bl false,h)=>ε (.bl false,h)
 | _=>none
@[simp] theorem kz(a:sD)(q:Dt)(b:Bool):chK a m l q (.bl b,h)=if b=true then fB (m l h) fun r=>a q r.1 r.2 else ε (.bl false,h):=by cases b<;>rfl
@[simp] theorem la(o a:sD):TL o a fa fb m l h=fB (fa l h) fun r=>fB (fb l r.2) fun q=>fB (o r.1 q.1 q.2) (chK a m l q.1):=by
 unfold fB;unfold TL
 congr 1
 funext r
 congr 1
 funext q
 congr 1
 funext z
 obtain⟨d,h⟩:=z;cases d<;>(try rfl);rename_i b;cases b<;>rfl
@[simp] theorem NC(r:RA):QA r l h=fB (r l h) fun r=>if r.1.length<=sizeLine then ε (.tup r.1,r.2)else none:=by rfl
@[simp] theorem SE(r:RA):TC r l h=fB (r l h) fun r=>if r.1.length<=sizeLine then ε (.lst r.1,r.2)else none:=by rfl
@[simp] theorem PH(r:RA):mF r l h=fB (r l h) fun r=>if r.1.length<=sizeLine then ε (.ref r.2.length,r.2++[.lst r.1])else none:=by rfl
noncomputable def XT:Dt×HI->Oa (Dt×HI)
 | (.int b,h)=>ε (.int (-b),h)
 | _=>none
@[simp] theorem wO(b:Int):XT (.int b,h)=ε (.int (-b),h):=by rfl
@[simp] theorem bP:HC f l h=fB (f l h) XT:=by
 unfold fB;unfold HC
 congr 1
 funext r
 obtain⟨d,h⟩:=r;cases d<;>rfl
@[simp] theorem UD(i j:Int):FB (.int i) (.int j) h=ε (.int (i+j),h):=by rfl
@[simp] theorem vM(i j:Int):pE (.int i) (.int j) h=ε (.int (i-j),h):=by rfl
@[simp] theorem cM(i j:Int):dH (.int i) (.int j) h=ε (.int (Builtin.bitAnd i j),h):=by rfl
@[simp] theorem rT(i j:Int):tH (.int i) (.int j) h=ε (.int (Builtin.bitOr i j),h):=by rfl
@[simp] theorem tP(i j:Int):vH (.int i) (.int j) h=ε (.int (Builtin.bitXor i j),h):=by rfl
@[simp] theorem HK(i j:Int):dI (.int i) (.int j) h=ε (.bl (decide (i<j)),h):=by rfl
@[simp] theorem B5(i j:Int):YT (.int i) (.int j) h=ε (.bl (decide (i<=j)),h):=by rfl
@[simp] theorem UM(i j:Int):DP (.int i) (.int j) h=ε (.bl (decide (j<i)),h):=by rfl
@[simp] theorem eQ(i j:Int):dQ (.int i) (.int j) h=ε (.bl (decide (j<=i)),h):=by rfl
theorem FF{i j:Int}(c:cv i j):AC (.int i) (.int j) h=ε (.int (i*j),h):=by simp![AC,oI,dh c]
theorem SH{i j:Int}(c:wK i j):XD (.int i) (.int j) h=ε (.int (i/j),h):=by simp![XD,oI,dh c]
theorem DD{i j:Int}(c:0<j):MB (.int i) (.int j) h=ε (.int (i%j),h):=by simp![MB,oI,dh c]
theorem sP{i j:Int}(c:aJ i j):fI (.int i) (.int j) h=ε (.int (i*2^j.toNat),h):=by simp![fI,oI,dh c]
theorem J1{i j:Int}(c:0<=j):GK (.int i) (.int j) h=ε (.int (i/2^j.toNat),h):=by simp![GK,oI,dh c]
@[simp] theorem OD(i j:Int):YA (.int i) (.int j) h=ε (.bl (decide (i=j)),h):=by show ε (Dt.bl (decide (V.int i=V.int j)),h)=_;simp
@[simp] theorem IE(i j:Int):tD (.int i) (.int j) h=ε (.bl (!decide (i=j)),h):=by show ε (Dt.bl (!decide (V.int i=V.int j)),h)=_;simp
@[simp] theorem EF(i j:Str):YA (.str i) (.str j) h=ε (.bl (decide (i=j)),h):=by show ε (Dt.bl (decide (V.str i=V.str j)),h)=_;simp
@[simp] theorem rP(i j:Str):tD (.str i) (.str j) h=ε (.bl (!decide (i=j)),h):=by show ε (Dt.bl (!decide (V.str i=V.str j)),h)=_;simp
@[simp] theorem C1(d:Dt):ND d .non h=ε (.bl (UI d),h):=by rfl
@[simp] theorem zD{a:Type}(xs:Ni a)(k:Nat):atI xs (k:Int)=xs[k]?:=by
 unfold atI cI;rw[dh nofun];by_cases b:k<xs.length
 . rw[dh nofun];simp
 . rw[dz nofun];simp;omega
@[simp] theorem rC{a:Type}(xs:Ni a):atI xs 0=xs[0]?:=zD xs 0
@[simp] theorem DF{a:Type}(xs:Ni a):atI xs 1=xs[1]?:=zD xs 1
@[simp] theorem nM{a:Type}(xs:Ni a):atI xs 2=xs[2]?:=zD xs 2
@[simp] theorem YB(xs:Ni Dt)(i:Int):pA (.tup xs) (.int i) h=(atI xs i).map fun d=>(d,h):=by rfl
@[simp] theorem WI(xs:Ni Dt)(i:Int):pA (.lst xs) (.int i) h=(atI xs i).map fun d=>(d,h):=by rfl
theorem kF{n:Nat}{xs:Ni Dt}(e:h[n]?=ε (.lst xs))(i:Int):pA (.ref n) (.int i) h=(atI xs i).map fun d=>(d,h):=by simp![pA,eD,EA,e,Wa]
noncomputable def P5(g:RS):Rs->Oa Rs
 | .nx l h=>g l h
 | r=>ε r
@[simp] theorem LA(g:RS):P5 g (.nx l h)=g l h:=by rfl
@[simp] theorem dC(g:RS)(d:Dt):P5 g (.rt d h)=ε (.rt d h):=by rfl
@[simp] theorem JA(f g:RS):lA f g l h=fB (f l h) (P5 g):=by
 unfold fB;unfold lA
 congr 1
@[simp] theorem PB:UA l h=ε (.nx l h):=by rfl
@[simp] theorem vB(i:Nat):AA i f l h=fB (f l h) fun r=>ε (.nx (l.set i (ε r.1)) r.2):=by rfl
@[simp] theorem XE:vD f l h=fB (f l h) fun r=>ε (.nx l r.2):=by rfl
@[simp] theorem OA:xA f l h=fB (f l h) fun r=>ε (.rt r.1 r.2):=by rfl
@[simp] theorem dB(t:RT)(f g:RS):VB t f g l h=fB (t l h) fun r=>if r.1=true then f l r.2 else g l r.2:=by rfl
noncomputable def MD:Oa Rs->Oa (Dt×HI)
 | some (.rt d h')=>ε (d,h')
 | some (.nx _ h')=>ε (.non,h')
 | _=>none
@[simp] theorem WA(d:Dt):MD (ε (.rt d h))=ε (d,h):=by rfl
@[simp] theorem Ld:MD (ε (.nx l h))=ε (.non,h):=by rfl
@[simp] theorem lc{c:Prop}[Decidable c](a b:Oa Rs):MD (if c then a else b)=if c then MD a else MD b:=by split<;>rfl
@[simp] theorem mB(n N:Nat)(body:RS)(ds:Ni Dt):HB n N body ds h=if ds.length=n then MD (body (ds.map some++List.replicate (N-n) none) h)else none:=by unfold HB MD;rfl
@[simp] theorem NA(F:sB)(a:Ni Dt)(g:RA):qA F a g l h=fB (g l h) fun r=>F (r.1++a) r.2:=by rfl
noncomputable def DT(go:LI->HI->Oa Rs):Rs->Oa Rs
 | .nx l h=>go l h
 | .ct l h=>go l h
 | .bk l h=>ε (.nx l h)
 | .rt d h=>ε (.rt d h)
@[simp] theorem UZ(go:LI->HI->Oa Rs):DT go (.nx l h)=go l h:=by rfl
@[simp] theorem ld(go:LI->HI->Oa Rs):DT go (.ct l h)=go l h:=by rfl
@[simp] theorem DS(go:LI->HI->Oa Rs)(d:Dt):DT go (.rt d h)=ε (.rt d h):=by rfl
def QB(a:RG)(body:RS):Ni Dt->LI->HI->Oa Rs
 | [],l,h=>ε (.nx l h)
 | x::xs,l,h=>(a x l).bind fun b=>(body b h).bind (DT (QB a body xs))
theorem Tv(j:RG)(body:RS)(xs:Ni Dt):∀(n k:Nat)(l:LI)(h:HI),n=(xs.length-k)+1->k<=xs.length->JB j body (.vals xs) n k l h=QB j body (xs.drop k) l h:=by
 intro n
 induction n with
 | zero=>intro k l h e;omega
 | succ n ih=>
  intro k l h e o;unfold JB;simp![mv.at];by_cases i:k<xs.length
  . rw[je i,zu i];simp![QB]
    congr 1
    funext l1
    congr 1
    funext r
    cases r with
    | nx b a=>exact ih (k+1) b a nofun nofun
    | ct b a=>exact ih (k+1) b a nofun nofun
    | bk b a=>rfl
    | rt d a=>rfl
  . rw[jo nofun,Ms nofun];rfl
@[simp] theorem zE(i:Nat)(d:Dt):CA i d l=ε (l.set i (ε d)):=by rfl
def xD(a:RG)(body:RS)(l:LI):mv×HI->Oa Rs:=fun r=>JB a body r.1 (r.1.fuel r.2) 0 l r.2
@[simp] theorem qD(g:RI)(a:RG)(body:RS):GC g a body l h=fB (g l h) (xD a body l):=by rfl
@[simp] theorem tF(a:RG)(body:RS)(xs:Ni Dt):xD a body l (.vals xs,h)=QB a body xs l h:=by unfold xD;simp![mv.fuel];exact Tv a body xs _ 0 _ _ nofun nofun
noncomputable def W3:Dt×HI->Oa (mv×HI)
 | (.int j,h)=>if -(2^62)<=j/\j<2^62 then ε (.vals ((List.range j.toNat).map fun(k:Nat)=>Dt.int (k:Int)),h)else none
 | _=>none
@[simp] theorem aK:ZI f l h=fB (f l h) W3:=by
 unfold fB;unfold ZI
 congr 1
 funext r
 obtain⟨d,h⟩:=r;cases d<;>rfl
theorem XF{j:Int}(a:-(2^62)<=j)(b:j<2^62):W3 (.int j,h)=ε (.vals ((List.range j.toNat).map fun(k:Nat)=>Dt.int (k:Int)),h):=dh ⟨a,b⟩
noncomputable def r2K:Dt->Dt×HI->Oa (mv×HI)
 | .int i,(.int j,h)=>if -(2^62)<=i/\i<2^62/\-(2^62)<=j/\j<2^62 then ε (.vals ((List.range (j-i).toNat).map fun(k:Nat)=>Dt.int (i+(k:Int))),h)else none
 | _,_=>none
@[simp] theorem R8:M3 f g l h=fB (f l h) fun r=>fB (g l r.2) (r2K r.1):=by
 unfold fB;unfold M3
 congr 1
 funext r
 obtain⟨d,h⟩:=r
 congr 1
 funext q
 obtain⟨a,b⟩:=q;cases d<;>cases a<;>rfl
theorem Zd{i j:Int}(a:-(2^62)<=i)(e:i<2^62)(b:-(2^62)<=j)(d:j<2^62):r2K (.int i) (.int j,h)=ε (.vals ((List.range (j-i).toNat).map fun(k:Nat)=>Dt.int (i+(k:Int))),h):=dh ⟨a,e,b,d⟩
def wH:Dt×HI->Oa (mv×HI)
 | (.lst xs,h)=>ε (.vals xs,h)
 | (.ref n,h)=>if 0<mv.fuel (.rf n) h then ε (.rf n,h)else none
 | _=>none
@[simp] theorem TF(xs:Ni Dt):wH (.lst xs,h)=ε (.vals xs,h):=by rfl
@[simp] theorem OC:UB f l h=fB (f l h) wH:=by
 unfold fB;unfold UB QT;cases f l h with
 | none=>rfl
 | some r=>obtain⟨d,h⟩:=r;cases d<;>first | rfl | (simp[wH,mv.fuel];done)
noncomputable def kU:Dt×HI->Oa (mv×HI)
 | (.tup xs,h)=>ε (.vals xs,h)
 | _=>none
@[simp] theorem Mt(xs:Ni Dt):kU (.tup xs,h)=ε (.vals xs,h):=by rfl
@[simp] theorem Vd:qP f l h=fB (f l h) kU:=by
 unfold fB;unfold qP
 congr 1
 funext r
 obtain⟨d,h⟩:=r;cases d<;>rfl
noncomputable def CD(d:RG)(tc:RT)(te:RE):Ni Dt->LI->HI->Oa (Ni Dt×HI)
 | [],_,h=>ε ([],h)
 | x::xs,l,h=>(d x l).bind fun a=>(tc a h).bind fun b=>if b.1=true then(te a b.2).bind fun r=>(CD d tc te xs a r.2).bind fun q=>ε (r.1::q.1,q.2)
  else CD d tc te xs a b.2
theorem Dz(d:RG)(tc:RT)(te:RE)(xs:Ni Dt)(p:xs.length<sizeLine):∀(n k:Nat)(l:LI)(h:HI)(ys:Ni Dt),n=(xs.length-k)+1->k<=xs.length->ys.length<=k->
 LD d tc te (.vals xs) n k l h ys=(CD d tc te (xs.drop k) l h).bind fun q=>ε (ys++q.1,q.2):=by
 intro n
 induction n with
 | zero=>intro k l h ys e;omega
 | succ n ih=>
  intro k l h ys e s o;unfold LD;simp![mv.at];by_cases i:k<xs.length
  . rw[je i,zu i];simp![CD];cases d xs[k] l with
    | none=>rfl
    | some a=>
     simp![Wa];cases tc a h with
     | none=>rfl
     | some b=>
      simp![Wa];by_cases j:b.1=true
      . simp![dh j];cases te a b.2 with
        | none=>rfl
        | some r=>
         simp![Wa];rw[dh nofun,ih (k+1) a r.2 _ nofun nofun (by simp;omega)];cases CD d tc te (xs.drop (k+1)) a r.2 with
         | none=>rfl
         | some q=>simp
      . simp![dz j];exact ih (k+1) a b.2 ys nofun nofun nofun
  . rw[jo nofun,Ms nofun];simp[CD]
def DE(a:RG)(tc:RT)(te:RE)(l:LI):mv×HI->Oa (Ni Dt×HI):=fun r=>LD a tc te r.1 (r.1.fuel r.2) 0 l r.2 []
theorem rE(a:RG)(tc:RT)(te:RE){xs:Ni Dt}(b:xs.length<sizeLine):DE a tc te l (.vals xs,h)=CD a tc te xs l h:=by unfold DE;simp![mv.fuel];rw[Dz a tc te xs b _ 0 _ _ _ nofun nofun ⋯];rw[drop_zero];cases CD a tc te xs l h<;>simp
@[simp] theorem uF(g:RI)(b:RG)(tc:RT)(te:RE)(a:Ni (Oa Nat)):aD g b tc te a l h=fB (fB (g l h) (DE b tc te (aF l a))) fun q=>ε (.lst q.1,q.2):=by unfold fB;unfold aD DE;rw[Option.bind_assoc]
@[simp] theorem yO(g:RI)(b:RG)(tc:RT)(te:RE)(a:Ni (Oa Nat)):UF g b tc te a l h=fB (fB (g l h) (DE b tc te (aF l a))) fun q=>ε (.ref q.2.length,q.2++[.lst q.1]):=by unfold fB;unfold UF DE;rw[Option.bind_assoc]
@[simp] theorem BO:nB l h=ε (true,h):=by rfl
@[simp] theorem ZD:aF l []=[]:=by rfl
@[simp] theorem dE(cap:Ni (Oa Nat)):aF l (none::cap)=none::aF l cap:=by rfl
@[simp] theorem VG(j:Nat)(cap:Ni (Oa Nat)):aF l (ε j::cap)=(l[j]?).join::aF l cap:=by rfl
theorem sR{b:Type}{te:RE}{i:Nat}{tc:RT}(D:b->Dt)(p:b->Bool)(F:b->Dt)(h:HI):∀(xs:Ni b)(l:LI),(∀x∈xs,tc (l.set i (ε (D x))) h=ε (p x,h)/\(p x=true->te (l.set i (ε (D x))) h=ε (F x,h)))->
 CD (CA i) tc te (xs.map D) l h=ε ((xs.filter p).map F,h)
 | [],_,_=>rfl
 | x::xs,l,H=>by
  have d:=H x ⋯;have ih:=sR D p F h xs (l.set i (ε (D x))) (te:=te) (tc:=tc) (i:=i) (fun y e=>by
   rw[set_set];exact H y (by simp[e]))
  simp![Ti,CD,zE,Wa,d.1];by_cases a:p x=true
  . simp![a,dG,d.2 a,Wa,ih];simp[a]
  . simp![a];rw[dz ⋯,ih];simp[a]
theorem sF{a:Type}{te:RE}{i:Nat}{tc:RT}(D:a->Dt)(F:a->Dt)(h:HI)(xs:Ni a)(l:LI)(H:∀x∈xs,tc (l.set i (ε (D x))) h=ε (true,h)/\te (l.set i (ε (D x))) h=ε (F x,h)) :
 CD (CA i) tc te (xs.map D) l h=ε (xs.map F,h):=by
 rw[sR D (fun q=>true) F h xs l fun x b=>⟨(H x b).1,fun q=>(H x b).2⟩,filter_eq_self.mpr ⋯]
@[simp] theorem EB(F:Dt->HI->Oa (Dt×HI)):LB F f l h=fB (f l h) fun r=>F r.1 r.2:=by rfl
@[simp] theorem XO(xs:Ni Dt):xB (.lst xs) h=ε (.int xs.length,h):=by rfl
@[simp] theorem pS(xs:Ni Dt):xB (.tup xs) h=ε (.int xs.length,h):=by rfl
theorem EI{n:Nat}{xs:Ni Dt}(e:h[n]?=ε (.lst xs)):xB (.ref n) h=ε (.int xs.length,h):=by simp![xB,eD,EA,e,Uu]
@[simp] theorem Yg(ns:Ni Int):WB (ns.map Dt.int)=ε ns:=by
 induction ns with
 | nil=>rfl
 | cons n ns ih=>simp[WB,ih]
theorem Y0(ns:Ni Int):hJ (.lst (ns.map Dt.int)) h=ε (.int ns.sum,h):=by simp[hJ,EA]
theorem C9{ns:Ni Int}(c:ns ≠ []):pH (.lst (ns.map Dt.int)) h=ε (.int (JC ns),h):=by simp[pH,EA,c]
theorem X0{ns:Ni Int}(c:ns ≠ []):EG (.lst (ns.map Dt.int)) h=ε (.int (RB ns),h):=by simp[EG,EA,c]
@[simp] theorem bK(T:String):kG T f l h=fB (f l h) fun r=>(jG r.2 r.1).map fun t=>(.bl (HF t T),r.2):=by rfl
@[simp] theorem lf (b:Int):jG h (.int b)=ε "int" :=by rfl
@[simp] theorem lh:HF "int" "int" =true:=by decide +kernel
@[simp] theorem li:HF "int" "bool" =false:=by decide +kernel
@[simp] theorem bT:yM l h=ε (none,h):=by rfl
noncomputable def atK:Dt×HI->Oa (Oa Int×HI)
 | (.int i,h)=>ε (ε i,h)
 | _=>none
@[simp] theorem QR(i:Int):atK (.int i,h)=ε (ε i,h):=by rfl
@[simp] theorem aT:bF f l h=fB (f l h) atK:=by
 unfold fB;unfold bF
 congr 1
 funext r
 obtain⟨d,h⟩:=r;cases d<;>rfl
@[simp] theorem ZS(lo a:RO):qK f lo a l h=fB (f l h) fun r=>fB (lo l r.2) fun o=>fB (a l o.2) fun u=>(EA u.2 r.1).map fun b=>(.lst (HE b o.1 u.1),u.2):=by rfl
@[simp] theorem WG(xs:Ni Dt):EA h (.lst xs)=ε xs:=by rfl
theorem NE{n:Nat}{xs:Ni Dt}(e:h[n]?=ε (.lst xs)):EA h (.ref n)=ε xs:=by simp![EA,e]
theorem tR(xs:Ni Dt)(k:Nat):HE xs (ε (k:Int)) none=xs.drop k:=by
 unfold HE HT.sIx;have e:(if(k:Int)<0 then((k:Int)+(xs.length:Int)).toNat else min (k:Int).toNat xs.length)=min k xs.length:=by rw[dz nofun,nu]
 simp![e];rw[take_of_length_le (by rw[length_drop];omega)];by_cases a:k<=xs.length
 . rw[Nat.min_eq_left a]
 . rw[Nat.min_eq_right nofun,Ms (Ue _),Ms nofun]
theorem y8{xs ys:Ni Dt}(c:xs.length+ys.length<=sizeLine):uH (.lst xs) (.lst ys) h=ε (.lst (xs++ys),h):=by simp![uH,EA,Wa,dh c]
def ST(q:Dt×HI):Dt->Oa (Dt×HI)
 | .lst a=>if SI a q.1=true then(nF a q.1).map fun j=>(.int (j:Nat),q.2)else none
 | _=>none
@[simp] theorem lj(q:Dt×HI)(xs:Ni Dt):ST q (.lst xs)=if SI xs q.1=true then(nF xs q.1).map fun j=>(.int (j:Nat),q.2)else none:=by rfl
@[simp] theorem lr:gP f g l h=fB (f l h) fun r=>fB (g l r.2) fun q=>ST q r.1:=by
 unfold fB;unfold gP
 congr 1
@[simp] theorem GL:sizeLine=16777216:=by rfl
noncomputable def LM(g:RE)(l:LI):Dt×HI->Oa (Dt×HI)
 | (.ref n,h)=>(match h[n]? with
  | some (.lst _)=>(g l h).bind fun q=>match q.2[n]? with
   | some (.lst xs)=>if xs.length<sizeLine then ε (.non,q.2.set n (.lst (xs++[q.1])))else none
   | _=>none
  | _=>none)
 | _=>none
@[simp] theorem SF:SD f g l h=fB (f l h) (LM g l):=by
 unfold fB;unfold SD
 congr 1
 funext r
 obtain⟨d,h⟩:=r;cases d<;>(try rfl)
theorem nG{n:Nat}{xs ys:Ni Dt}{d:Dt}{h':HI}(e:h[n]?=ε (.lst ys))(a:g l h=ε (d,h'))(b:h'[n]?=ε (.lst xs))(c:xs.length<sizeLine):LM g l (.ref n,h)=ε (.non,h'.set n (.lst (xs++[d]))):=by simp![LM,e,a,Wa,b,dh c]
end
noncomputable def Pass(I:LI->HI->Prop):Rs->Prop
 | .nx l h=>I l h
 | .ct l h=>I l h
 | _=>False
theorem Ut{n:Type}{i:Nat}{body:RS}(D:n->Dt)(I:LI->HI->Prop)(xs:Ni n)(H:∀x∈xs,∀l h,I l h->∃r,body (l.set i (ε (D x))) h=ε r/\Pass I r) :
 ∀l h,I l h->∃a h',QB (CA i) body (xs.map D) l h=ε (.nx a h')/\I a h':=by
 induction xs with
 | nil=>intro l h i;exact⟨l,h,rfl,i⟩
 | cons x xs ih=>
  intro l h i;obtain⟨r,e,p⟩:=H x ⋯ l h i;cases r with
  | nx f b=>obtain⟨a,h',m,g⟩:=ih (fun y j=>H y (by simp[j])) f b p;exact⟨a,h',by simp[QB,e,m],g⟩
  | ct f b=>obtain⟨a,h',m,g⟩:=ih (fun y j=>H y (by simp[j])) f b p;exact⟨a,h',by simp[QB,e,m],g⟩
  | bk f b=>exact p.elim
  | rt d b=>exact p.elim
theorem EX{n m:Type}{i:Nat}{body:RS}(D:n->Dt)(S:m->LI->HI->Prop)(f:m->n->m)(xs:Ni n)(H:∀x∈xs,∀b l h,S b l h->∃r,body (l.set i (ε (D x))) h=ε r/\Pass (S (f b x)) r) :
 ∀b l h,S b l h->∃a h',QB (CA i) body (xs.map D) l h=ε (.nx a h')/\S (xs.foldl f b) a h':=by
 induction xs with
 | nil=>intro b l h i;exact⟨l,h,rfl,i⟩
 | cons x xs ih=>
  intro b l h i;obtain⟨r,e,p⟩:=H x ⋯ b l h i;cases r with
  | nx j g=>obtain⟨a,h',s,o⟩:=ih (fun y q=>H y (by simp[q])) _ j g p;exact⟨a,h',by simp[QB,e,s],o⟩
  | ct j g=>obtain⟨a,h',s,o⟩:=ih (fun y q=>H y (by simp[q])) _ j g p;exact⟨a,h',by simp[QB,e,s],o⟩
  | bk j g=>exact p.elim
  | rt d g=>exact p.elim
section
variable{l:LI}{h:HI}{f g:RE}
@[simp] theorem lv(bs:Ni Bool):eE (bs.map Dt.bl)=ε bs:=by
 induction bs with
 | nil=>rfl
 | cons n ns ih=>simp[eE,ih]
theorem W0(bs:Ni Bool):oH (.lst (bs.map Dt.bl)) h=ε (.bl (bs.all id),h):=by simp[oH,EA]
@[simp] theorem PL(i j:Nat)(a b:Dt):bD i j (.tup [a,b]) l=ε ((l.set i (ε a)).set j (ε b)):=by rfl
end
theorem ME{h:HI}{n:Nat}{xs:Ni Dt}(e:h[n]?=ε (.lst xs)):wH (.ref n,h)=ε (.rf n,h):=by
 have:0<mv.fuel (.rf n) h:=by simp![mv.fuel,e];omega
 simp![wH,dh this]
section
variable{l:LI}{h:HI}{f g fe fo b fa fb:RE}
def iQ(l:LI)(v o:Dt):Dt×HI->Oa Rs
 | (.int k,h)=>(match o with
  | .ref n=>(match h[n]? with
   | some (.lst xs)=>(cI xs.length k).bind fun j=>ε (.nx l (h.set n (.lst (xs.set j v))))
   | _=>none)
  | _=>none)
 | _=>none
@[simp] theorem LY:KI fe fo b l h=fB (fe l h) fun v=>fB (fo l v.2) fun o=>fB (b l o.2) (iQ l v.1 o.1):=by
 unfold fB KI
 congr 1
 funext v
 congr 1
 funext o
 congr 1
 funext i
 obtain⟨d,h⟩:=o;obtain⟨k,h⟩:=i;cases k<;>cases d<;>rfl
theorem Rn{n k:Nat}(a:k<n):cI n (k:Int)=ε k:=by unfold cI;rw[dh nofun,dh nofun];simp
theorem AO{n k:Nat}{xs:Ni Dt}{v:Dt}(e:h[n]?=ε (.lst xs))(a:k<xs.length):iQ l v (.ref n) (.int (k:Int),h)=ε (.nx l (h.set n (.lst (xs.set k v)))):=by simp![iQ,e,Rn a,Wa]
@[simp] theorem Y1(t:RG):YM t fe l h=fB (fe l h) fun v=>fB (t v.1 l) fun a=>ε (.nx a v.2):=by rfl
def gQ(a:Dt):Dt×HI->Oa (Dt×HI)
 | (.int i,h)=>if -(2^62)<=i/\i<=1000000 then ε (.lst (JG a i),h)else none
 | _=>none
def eT(a:Dt):Dt×HI->Oa (Dt×HI)
 | (.int i,h)=>if -(2^62)<=i/\i<=1000000 then ε (.ref h.length,h++[.lst (JG a i)])else none
 | _=>none
@[simp] theorem lx:gJ fa fb l h=fB (fa l h) fun a=>fB (fb l a.2) (gQ a.1):=by
 unfold fB gJ
 congr 1
 funext v
 congr 1
 funext o
 obtain⟨d,h⟩:=o;cases d<;>rfl
@[simp] theorem ly:jK fa fb l h=fB (fa l h) fun a=>fB (fb l a.2) (eT a.1):=by
 unfold fB jK
 congr 1
 funext v
 congr 1
 funext o
 obtain⟨d,h⟩:=o;cases d<;>rfl
theorem zY(a:Dt){k:Nat}(d:k<=1000000):gQ a (.int (k:Int),h)=ε (.lst (List.replicate k a),h):=by unfold gQ;simp only;rw[dh ⟨by omega,by omega⟩];simp[JG]
theorem oX(a:Dt){k:Nat}(d:k<=1000000):eT a (.int (k:Int),h)=ε (.ref h.length,h++[.lst (List.replicate k a)]):=by unfold eT;simp only;rw[dh ⟨by omega,by omega⟩];simp[JG]
theorem A9(bs:Ni Bool):QM (.lst (bs.map Dt.bl)) h=ε (.bl (bs.any id),h):=by simp[QM,EA]
def uT(r:Dt):Dt×HI->Oa (mv×HI):=fun q=>match EA q.2 r,EA q.2 q.1 with
 | some _,some _=>ε (.zp r q.1,q.2)
 | _,_=>none
@[simp] theorem B0:VP fa fb l h=fB (fa l h) fun r=>fB (fb l r.2) (uT r.1):=by rfl
theorem vh{r q:Dt}{xs ys:Ni Dt}(a:EA h r=ε xs)(e2:EA h q=ε ys):uT r (q,h)=ε (.zp r q,h):=by simp![uT,a,e2]
@[simp] theorem w6(i j:Int):mG (.int i) (.int j) h=ε (.bl (decide (i=j)),h):=OD i j
theorem S9(i j:Str):mG (.str i) (.str j) h=ε (.bl (decide (i=j)),h):=EF i j
theorem tT{a:Dt}{xs:Ni Dt}(e:EA h a=ε xs):VC a (.lst []) h=ε (.bl (!xs.isEmpty),h):=by
 cases a with
 | lst d=>cases e;rfl
 | ref n=>show(EA h (.ref n)).bind _=_;rw[e];rfl
 | _=>exact nomatch (show none=ε xs from e)
def whK(go:RS)(body:RS)(l:LI):Bool×HI->Oa Rs:=fun c=>if c.1=true then(body l c.2).bind (DT go)else ε (.nx l c.2)
theorem Sx(t:RT)(body:RS)(n:Nat):AF t body (n+1) l h=fB (t l h) (whK (AF t body n) body l):=by
 unfold fB;rw[AF]
 congr 1
noncomputable def AK(fa:RE)(l:LI):Dt×HI->Oa (Dt×HI)
 | (.ref n,h)=>(match h[n]? with
  | some (.lst _)=>(fa l h).bind fun q=>match q.1 with
   | .ref m=>(match q.2[n]?,q.2[m]? with
    | some (.lst xs),some (.lst ys)=>if xs.length+ys.length<=sizeLine then ε (.non,q.2.set n (.lst (xs++ys)))else none
    | _,_=>none)
   | _=>none
  | _=>none)
 | _=>none
@[simp] theorem zR:CI fo fa l h=fB (fo l h) (AK fa l):=by
 unfold fB CI
 congr 1
 funext r
 obtain⟨d,h⟩:=r;cases d<;>(try rfl)
theorem OX{n m:Nat}{xs ys zs:Ni Dt}{h':HI}(e:h[n]?=ε (.lst zs))(a:fa l h=ε (.ref m,h'))(d:h'[n]?=ε (.lst xs))(e2:h'[m]?=ε (.lst ys))(c:xs.length+ys.length<=sizeLine):AK fa l (.ref n,h)=ε (.non,h'.set n (.lst (xs++ys))):=by simp![AK,e,a,Wa,d,e2,dh c]
@[simp] theorem bU(F:Dt->Dt->Oa Dt):CT F fa fb l h=fB (fa l h) fun r=>fB (fb l r.2) fun q=>(F r.1 q.1).map fun d=>(d,q.2):=by rfl
@[simp] theorem Cp(i j:Int):kP (.int i) (.int j)=ε (.int (max i j)):=by
 unfold kP;simp only
 congr 2
 split<;>omega
@[simp] theorem l8(i j:Int):qM (.int i) (.int j)=ε (.int (min i j)):=by
 unfold qM;simp only
 congr 2
 split<;>omega
end
theorem Mh{f:RG}{tc:RT}{te:RE}{n:Nat}{xs:Ni Dt}(o:∀l h b a,tc l h=ε (b,a)->h[n]?=ε (.lst xs)->a[n]?=ε (.lst xs))(j:∀l h b a,te l h=ε (b,a)->h[n]?=ε (.lst xs)->a[n]?=ε (.lst xs)) :
 ∀(m k:Nat)(l:LI)(h:HI)(ys:Ni Dt),h[n]?=ε (.lst xs)->LD f tc te (.rf n) m k l h ys=LD f tc te (.vals xs) m k l h ys:=by
 intro m
 induction m with
 | zero=>intros;rfl
 | succ m ih=>
  intro k l h ys e;unfold LD;simp![mv.at,e];cases xs[k]? with
  | none=>rfl
  | some d=>
   simp only;cases f d l with
   | none=>rfl
   | some g=>
    simp![Wa];cases q:tc g h with
    | none=>rfl
    | some b=>
     obtain⟨b,p⟩:=b;have i:=o _ _ _ _ q e;simp![Wa];split
     . cases q2:te g p with
       | none=>rfl
       | some r=>
        obtain⟨r,s⟩:=r;have e2:=j _ _ _ _ q2 i;simp![Wa];split
        . exact ih _ _ _ _ e2
        . rfl
     . exact ih _ _ _ _ i
theorem rR{d:RG}{tc:RT}{te:RE}{n:Nat}{xs:Ni Dt}{l:LI}{h:HI}(e:h[n]?=ε (.lst xs))(i:xs.length<sizeLine)(g:∀l h b a,tc l h=ε (b,a)->h[n]?=ε (.lst xs)->a[n]?=ε (.lst xs))(f:∀l h b a,te l h=ε (b,a)->h[n]?=ε (.lst xs)->a[n]?=ε (.lst xs)) :
 DE d tc te l (.rf n,h)=CD d tc te xs l h:=by
 rw[<- rE d tc te i];unfold DE;have j:mv.fuel (.rf n) h=xs.length+1:=by simp![mv.fuel,e]
 have e2:mv.fuel (.vals xs) h=xs.length+1:=by simp![mv.fuel]
 simp![j,e2];exact Mh g f _ _ _ _ _ e
theorem iR{b:Type}{te:RE}{i:Nat}(D:b->Dt)(O:b->Ob)(a:HI):∀(xs:Ni b)(l:LI)(e:HI),(∀x∈xs,∀e,te (l.set i (ε (D x))) (a++e)=ε (.ref (a++e).length,a++e++[O x]))->
 CD (CA i) nB te (xs.map D) l (a++e)=ε ((List.range xs.length).map (fun(k:Nat)=>Dt.ref ((a++e).length+k)),a++e++xs.map O)
 | [],_,e,_=>by simp[CD]
 | x::xs,l,e,H=>by
  have f:=H x ⋯ e;have ih:=iR D O a xs (l.set i (ε (D x))) (e++[O x]) (te:=te) (i:=i) (fun y d e=>by
   rw[set_set];exact H y (by simp[d]) e)
  simp![Ti,CD,zE,Wa,BO,f,dG];rw[<- ou]at ih;rw[ih];simp![Wa,Ss,Js,Ti,map_map,ou,Wu,Wo]
  congr 2
  rw[Nat.add_zero]
  congr 1
  refine map_congr_left fun k q=>?_
  simp;omega
theorem CO{o:Type}{i:Nat}{body:RS}(D:o->Dt)(S:Nat->LI->HI->Prop):∀(xs:Ni o)(a:Nat)(_:∀(k:Nat) x,xs[k]?=ε x->∀l h,S (a+k) l h->∃r,body (l.set i (ε (D x))) h=ε r/\Pass (S (a+k+1)) r)(l:LI)(h:HI),S a l h->
 ∃b f,QB (CA i) body (xs.map D) l h=ε (.nx b f)/\S (a+xs.length) b f
 | [],a,_,l,h,s=>⟨l,h,rfl,s⟩
 | x::xs,a,H,l,h,s=>by
  obtain⟨r,e,p⟩:=H 0 x rfl l h s;have q:∀(k:Nat) y,xs[k]?=ε y->∀l h,S (a+1+k) l h->∃r,body (l.set i (ε (D y))) h=ε r/\Pass (S (a+1+k+1)) r:=by intro k y u l h s;have:=H (k+1) y (by simpa using u) l h (by rw[show a+(k+1)=a+1+k by omega];exact s);rw[show a+(k+1)+1=a+1+k+1 by omega]at this;exact this
  cases r with
  | nx j g=>obtain⟨b,f,n,m⟩:=CO D S xs (a+1) q j g p;exact⟨b,f,by simp[QB,e,n],by rw[Ss,show a+(xs.length+1)=a+1+xs.length by omega];exact m⟩
  | ct j g=>obtain⟨b,f,n,m⟩:=CO D S xs (a+1) q j g p;exact⟨b,f,by simp[QB,e,n],by rw[Ss,show a+(xs.length+1)=a+1+xs.length by omega];exact m⟩
  | bk j g=>exact p.elim
  | rt d g=>exact p.elim
theorem zL{i:Nat}{body:RS}(D:Nat->Dt)(S:Nat->LI->HI->Prop)(n:Nat)(H:∀k<n,∀l h,S k l h->∃r,body (l.set i (ε (D k))) h=ε r/\Pass (S (k+1)) r)(l:LI)(h:HI)(s:S 0 l h) :
 ∃a h',QB (CA i) body ((List.range n).map D) l h=ε (.nx a h')/\S n a h':=by
 obtain⟨a,h',e,f⟩:=CO (i:=i) (body:=body) D S (List.range n) 0 (fun k x g l h s=>by
  obtain⟨d,b⟩:=Wi g;simp at d b;subst b;rw[Aa]at s ⊢;exact H k d l h s) l h s
 exact⟨a,h',e,by simpa using f⟩
noncomputable def L0(I:LI->HI->Prop):Rs->Prop
 | .nx l h=>I l h
 | .ct l h=>I l h
 | _=>True
theorem Zr{i:Nat}{body:RS}{n:Nat}{xs:Ni Dt}(I:LI->HI->Prop)(f:∀l h,I l h->h[n]?=ε (.lst xs))(H:∀x∈xs,∀l h r,I l h->body (l.set i (ε x)) h=ε r->L0 I r) :
 ∀(m k:Nat)(l:LI)(h:HI),I l h->JB (CA i) body (.rf n) m k l h=JB (CA i) body (.vals xs) m k l h:=by
 intro m
 induction m with
 | zero=>intros;rfl
 | succ m ih=>
  intro k l h e;unfold JB;simp![mv.at,f l h e];cases z:xs[k]? with
  | none=>rfl
  | some d=>
   simp![zE,Wa];cases q:body (l.set i (ε d)) h with
   | none=>rfl
   | some r=>
    have:=H d (ju z) _ _ _ e q;simp![Wa];cases r with
    | nx b a=>exact ih _ _ _ this
    | ct b a=>exact ih _ _ _ this
    | bk b a=>rfl
    | rt d a=>rfl
theorem Yr{i:Nat}{body:RS}{n:Nat}{xs:Ni Dt}{l:LI}{h:HI}(I:LI->HI->Prop)(b:∀l h,I l h->h[n]?=ε (.lst xs))(H:∀x∈xs,∀l h r,I l h->body (l.set i (ε x)) h=ε r->L0 I r)(a:I l h) :
 xD (CA i) body l (.rf n,h)=QB (CA i) body xs l h:=by
 rw[<- tF];unfold xD;have d:mv.fuel (.rf n) h=xs.length+1:=by simp![mv.fuel,b l h a]
 have e2:mv.fuel (.vals xs) h=xs.length+1:=by simp![mv.fuel]
 simp![d,e2];exact Zr I b H _ _ _ _ a
theorem fT{o:Type}{i n:Nat}{body:RS}(D:o->Dt)(S:Nat->LI->HI->Prop)(xs:Ni o)(q:∀k l h,S k l h->h[n]?=ε (.lst (xs.map D)))(H:∀(k:Nat) x,xs[k]?=ε x->∀l h,S k l h->∃r,body (l.set i (ε (D x))) h=ε r/\Pass (S (k+1)) r)
 (l:LI) (h:HI) (s:S 0 l h):∃a h',xD (CA i) body l (.rf n,h)=ε (.nx a h')/\S xs.length a h':=by
 have go:∀(f k:Nat)(l:LI)(h:HI),S k l h->f=xs.length-k+1->k<=xs.length->∃a h',JB (CA i) body (.rf n) f k l h=ε (.nx a h')/\S xs.length a h':=by
  intro f
  induction f with
  | zero=>intro k l h _ e;omega
  | succ f ih=>
   intro k l h m e B;unfold JB;simp![mv.at,q k l h m,u5];by_cases p:k<xs.length
   . rw[je p];obtain⟨r,y,g⟩:=H k xs[k] (je p) l h m;simp![Uu,zE,Wa,y];cases r with
     | nx j b=>exact ih (k+1) j b g nofun nofun
     | ct j b=>exact ih (k+1) j b g nofun nofun
     | bk j b=>exact g.elim
     | rt d b=>exact g.elim
   . rw[jo nofun];have:k=xs.length:=by omega
     subst this;exact⟨l,h,rfl,m⟩
 have u:mv.fuel (.rf n) h=xs.length-0+1:=by simp![mv.fuel,q 0 l h s,mq];omega
 unfold xD;exact go _ 0 l h s u (m8 _)
section
variable{l:LI}{h:HI}{fo fi fe f fa:RE}
noncomputable def fQ(fa:RE)(l:LI):Dt×HI->Oa (Dt×HI)
 | (.ref n,h)=>(match h[n]? with
  | some (.lst _)=>(fa l h).bind fun q=>match q.1 with
   | .int 0=>(match q.2[n]? with
    | some (.lst (x::xs))=>ε (x,q.2.set n (.lst xs))
    | _=>none)
   | _=>none
  | _=>none)
 | _=>none
@[simp] theorem Xd:WO fo fa l h=fB (fo l h) (fQ fa l):=by
 unfold fB WO
 congr 1
 funext r
 obtain⟨d,h⟩:=r;cases d<;>(try rfl)
theorem Pr{n:Nat}{x:Dt}{xs:Ni Dt}(e:h[n]?=ε (.lst (x::xs)))(a:fa l h=ε (.int 0,h)):fQ fa l (.ref n,h)=ε (x,h.set n (.lst xs)):=by simp![fQ,e,a,Wa]
noncomputable def UT:Dt×HI->Oa (Dt×HI)
 | (.int b,h)=>ε (.int (Builtin.bitNot b),h)
 | _=>none
@[simp] theorem ig(b:Int):UT (.int b,h)=ε (.int (Builtin.bitNot b),h):=by rfl
@[simp] theorem T8:cN f l h=fB (f l h) UT:=by
 unfold fB cN
 congr 1
 funext r
 obtain⟨d,h⟩:=r;cases d<;>rfl
@[simp] theorem Yd(n:Nat)(t:RT)(body:RS):SO n t body l h=AF t body n l h:=by rfl
end
noncomputable def NI(I:LI->HI->Prop)(E:Dt->HI->Prop):Rs->Prop
 | .nx l h=>I l h
 | .rt d h=>E d h
 | _=>False
theorem FX{t:RT}{body:RS}(I:Nat->LI->HI->Prop)(N:LI->HI->Prop)(E:Dt->HI->Prop)
 (H:∀m l h,I m l h->∃b g,t l h=ε (b,g)/\if b=true then ∃r,body l g=ε r/\NI (fun e a=>∃f,f<m/\I f e a) E r else N l g) :
 ∀(n m:Nat)(l:LI)(h:HI),I m l h->m<n->∃r,AF t body n l h=ε r/\NI N E r:=by
 intro n
 induction n with
 | zero=>intro m l h _ o;omega
 | succ n ih=>
  intro m l h i o;obtain⟨b,g,p,q⟩:=H m l h i;rw[Sx,p,fA];unfold whK;cases b with
  | false=>rw[dz Wk]at q ⊢;exact⟨_,rfl,q⟩
  | true=>
   rw[dh rfl]at q ⊢;obtain⟨r,e2,q⟩:=q;simp![e2,Wa];cases r with
   | nx e a=>obtain⟨f,s,j⟩:=q;exact ih f e a j nofun
   | rt d a=>exact⟨_,rfl,q⟩
   | bk e a=>exact q.elim
   | ct e a=>exact q.elim
theorem F0{m:Type}{i n:Nat}{body:RS}(D:m->Dt)(S:Nat->LI->HI->Prop)(E:Dt->HI->Prop)(xs:Ni m)(p:∀k l h,S k l h->h[n]?=ε (.lst (xs.map D)))(H:∀(k:Nat) x,xs[k]?=ε x->∀l h,S k l h->∃r,body (l.set i (ε (D x))) h=ε r/\NI (S (k+1)) E r)
 (l:LI) (h:HI) (q:S 0 l h):∃r,xD (CA i) body l (.rf n,h)=ε r/\NI (S xs.length) E r:=by
 have go:∀(f k:Nat)(l:LI)(h:HI),S k l h->f=xs.length-k+1->k<=xs.length->∃r,JB (CA i) body (.rf n) f k l h=ε r/\NI (S xs.length) E r:=by
  intro f
  induction f with
  | zero=>intro k l h _ e;omega
  | succ f ih=>
   intro k l h j e y;unfold JB;simp![mv.at,p k l h j,u5];by_cases o:k<xs.length
   . rw[je o];obtain⟨r,u,a⟩:=H k xs[k] (je o) l h j;simp![Uu,zE,Wa,u];cases r with
     | nx g b=>exact ih (k+1) g b a nofun nofun
     | rt d b=>exact⟨_,rfl,a⟩
     | bk g b=>exact a.elim
     | ct g b=>exact a.elim
   . rw[jo nofun];have:k=xs.length:=by omega
     subst this;exact⟨_,rfl,j⟩
 have s:mv.fuel (.rf n) h=xs.length-0+1:=by simp![mv.fuel,p 0 l h q,mq];omega
 unfold xD;exact go _ 0 l h q s (m8 _)
section
variable{l:LI}{h:HI}{f g fo fe:RE}{ga:RA}
noncomputable def C5(c:Nat):Dt->Dt×HI->Oa (mv×HI)
 | .int i,(.int j,h)=>if 0<=i/\i<2^61/\0<=j/\j<2^61/\0<c/\c<1000 then ε (.vals ((List.range ((j-i+(c:Int)-1)/(c:Int)).toNat).map fun(k:Nat)=>Dt.int (i+(k:Int)*(c:Int))),h)else none
 | _,_=>none
@[simp] theorem S8(c:Nat):N3 f g c l h=fB (f l h) fun r=>fB (g l r.2) (C5 c r.1):=by
 unfold fB;unfold N3
 congr 1
 funext r
 obtain⟨d,h⟩:=r
 congr 1
 funext q
 obtain⟨a,b⟩:=q;cases d<;>cases a<;>rfl
def UP(x f:Str):Dt×HI->Oa (Dt×HI)
 | (.ref n,h)=>(match h[n]? with
  | some (.ins y fs)=>if y=x then(jD f fs).bind fun d=>ε (d,h)else none
  | _=>none)
 | _=>none
@[simp] theorem xP(x k:Str):LF x k fo l h=fB (fo l h) (UP x k):=by
 unfold fB LF
 congr 1
 funext r
 obtain⟨d,h⟩:=r;cases d<;>(try rfl)
theorem rO{x k:Str}{n:Nat}{fs:Ni (Str×Dt)}{d:Dt}(e:h[n]?=ε (.ins x fs))(a:jD k fs=ε d):UP x k (.ref n,h)=ε (d,h):=by simp![UP,e,dG,a,Wa]
def iT(x f:Str)(v:Dt)(l:LI):Dt×HI->Oa Rs
 | (.ref n,h)=>(match h[n]? with
  | some (.ins y fs)=>if y=x/\fs.length<1000 then ε (.nx l (h.set n (.ins y (qE f v fs))))else none
  | _=>none)
 | _=>none
@[simp] theorem C0(x k:Str):XI x k fo fe l h=fB (fe l h) fun r=>fB (fo l r.2) (iT x k r.1 l):=by
 unfold fB XI
 congr 1
 funext r
 congr 1
 funext q
 obtain⟨d,h⟩:=q;cases d<;>(try rfl)
theorem kO{x k:Str}{n:Nat}{fs:Ni (Str×Dt)}{v:Dt}(e:h[n]?=ε (.ins x fs))(a:fs.length<1000):iT x k v l (.ref n,h)=ε (.nx l (h.set n (.ins x (qE k v fs)))):=by simp![iT,e,true_and,dh a]
noncomputable def B1(n:Nat):Dt×HI->Oa (Dt×HI)
 | (.non,h)=>ε (.ref n,h)
 | _=>none
@[simp] theorem Py(n:Nat):B1 n (.non,h)=ε (.ref n,h):=by rfl
@[simp] theorem p7(x:Str)(F:sB):jP x F ga l h=fB (ga l h) fun r=>fB (F (.ref r.2.length::r.1) (r.2++[.ins x []])) (B1 r.2.length):=by
 unfold fB jP
 congr 1
 funext r
 congr 1
 funext q
 obtain⟨d,h⟩:=q;cases d<;>(try rfl)
def oT(x m:Str)(F:sB)(ga:RA)(l:LI):Dt×HI->Oa (Dt×HI)
 | (.ref n,h)=>(match h[n]? with
  | some (.ins y fs)=>if y=x/\jD m fs=none then(ga l h).bind fun q=>F (.ref n::q.1) q.2 else none
  | _=>none)
 | _=>none
@[simp] theorem CS(x m:Str)(F:sB):MI x m F fo ga l h=fB (fo l h) (oT x m F ga l):=by
 unfold fB MI
 congr 1
 funext r
 obtain⟨d,h⟩:=r;cases d<;>(try rfl)
theorem pR{x m:Str}{F:sB}{n:Nat}{fs:Ni (Str×Dt)}(e:h[n]?=ε (.ins x fs))(a:jD m fs=none):oT x m F ga l (.ref n,h)=fB (ga l h) fun q=>F (.ref n::q.1) q.2:=by simp![oT,e,true_and,dh a];rfl
def NP(fb:RE)(l:LI):Dt×HI->Oa (Dt×HI):=fun r=>(fb l r.2).bind fun q=>match r.1,q.1 with
 | .lst xs,.bl b=>(eE xs).bind fun bs=>ε (.int ((bs.countP (· ==b):Nat):Int),q.2)
 | _,_=>none
@[simp] theorem Wr(fa fb:RE):IR fa fb l h=fB (fa l h) (NP fb l):=by rfl
theorem Lh{fb:RE}{bs:Ni Bool}{b:Bool}(e:fb l h=ε (.bl b,h)):NP fb l (.lst (bs.map Dt.bl),h)=ε (.int ((bs.countP (· ==b):Nat):Int),h):=by
 have q:eE (bs.map Dt.bl)=ε bs:=by
  induction bs with
  | nil=>rfl
  | cons n ns ih=>simp![Ti,eE,ih,Uu]
 simp![NP,e,Wa,q]
def mT:Dt×HI->Oa (mv×HI)
 | (.lst xs,h)=>ε (.vals (QI 0 xs),h)
 | (.ref n,h)=>(match h[n]? with
  | some (.lst _)=>ε (.en n,h)
  | _=>none)
 | _=>none
@[simp] theorem Td:pP f l h=fB (f l h) mT:=by
 unfold fB pP
 congr 1
 funext r
 obtain⟨d,h⟩:=r;cases d<;>(try rfl)
theorem Sv{n:Nat}{xs:Ni Dt}(e:h[n]?=ε (.lst xs)):mT (.ref n,h)=ε (.en n,h):=by simp![mT,e]
end
theorem y9{p:Type}{i j n:Nat}{body:RS}(D:p->Dt)(S:Nat->LI->HI->Prop)(xs:Ni p)(s:∀k l h,S k l h->h[n]?=ε (.lst (xs.map D)))(H:∀(k:Nat) x,xs[k]?=ε x->∀l h,S k l h->∃r,body ((l.set i (ε (.int (k:Int)))).set j (ε (D x))) h=ε r/\Pass (S (k+1)) r)
 (l:LI) (h:HI) (u:S 0 l h):∃a h',xD (bD i j) body l (.en n,h)=ε (.nx a h')/\S xs.length a h':=by
 have go:∀(f k:Nat)(l:LI)(h:HI),S k l h->f=xs.length-k+1->k<=xs.length->∃a h',JB (bD i j) body (.en n) f k l h=ε (.nx a h')/\S xs.length a h':=by
  intro f
  induction f with
  | zero=>intro k l h _ e;omega
  | succ f ih=>
   intro k l h o e C;unfold JB;simp![mv.at,s k l h o,u5];by_cases q:k<xs.length
   . rw[je q];obtain⟨r,B,g⟩:=H k xs[k] (je q) l h o;simp![Uu,PL,Wa,B];cases r with
     | nx m b=>exact ih (k+1) m b g nofun nofun
     | ct m b=>exact ih (k+1) m b g nofun nofun
     | bk m b=>exact g.elim
     | rt d b=>exact g.elim
   . rw[jo nofun];have:k=xs.length:=by omega
     subst this;exact⟨l,h,rfl,o⟩
 have y:mv.fuel (.en n) h=xs.length-0+1:=by simp![mv.fuel,s 0 l h u,mq];omega
 unfold xD;exact go _ 0 l h u y (m8 _)
end SM
namespace PySem
open PySem.Sem (wp)
section
variable{prog:O4}{w:Pb}{A:Pu}{E:Nu->Oe->Prop}{s:Oe}
theorem mj{M:Model}{a:Oi}{o:Obj}{Q:Oa Obj->Oe->Prop}(h:s.heap.get? a=ε o)(q:Q (ε o) s):wpAny M A (loadIfAlive a) Q E s:=by intro Γ p hΓ;unfold loadIfAlive;simp![Sem.wp];rw[h];exact q
abbrev vF(h:Ri)(z TI TO:Oi)(b a:Nu):Prop:=
 h.get? z=ε { cls:=.type "zip",dict:=none,data:=.fields #[b,a,.bool false,.ref TI,.ref TO],slots:=#[] }
theorem tY{z TI TO T:Oi}{b:Bool}{Q:Bool->Oe->Prop}(hz:vF s.heap z TI TO (rawInt T) (.bool b))(h:∃o,s.heap.get? T=ε o)
 (f:∀a,vF a z TI TO (rawInt T) (.bool true)->Heap.SameBut z s.heap a->Q false { s with heap:=a }):wpAny (model prog w) A (Builtin.SmallTypes.ownedTupleIsFree (.ref z)) Q E s:=by
 obtain⟨o,g⟩:=h;unfold Builtin.SmallTypes.ownedTupleIsFree;refine ao (Gi hz rfl (x:=rawInt T) rfl ?_);show wpAny _ _ (loadIfAlive ((T:Int).toNat) >>=_) _ _ _;refine ao (mj (o:=o) (by rw[nu];exact g) ?_);simp![Option.isNone_some,Vi,eG];refine ao (Gi hz rfl (x:=.bool b) rfl ?_);cases b with
 | true=>rw[dz (by decide)];exact ao (au (au (f s.heap hz (Heap.SameBut.refl _ _))))
 | false=>rw[dh (by decide)];exact ao (wpAny_setField_rec hz ⋯ fun a d e=>au (f a d e))
end
section
variable{prog:O4}{w:Pb}{A:Pu}{E:Nu->Oe->Prop}{s:Oe}
theorem xq{z TI TO T j i B u:Oi}{f1:Bool}{F C:Nat}{xs ys:Ra Nu}{x y a b:Nu}{Q:Nu->Oe->Prop}(D:ZipApart z TI TO j i B u)
 (hz:vF s.heap z TI TO (rawInt T) (.bool f1)) (hT:∃o,s.heap.get? T=ε o) (J:IsPair s.heap TI (.ref j) (.ref i))
 (h1:s.heap.IsListIter j B F) (h2:s.heap.IsListIter i u C) (I:s.heap.IsList B xs) (H:s.heap.IsList u ys) (Y:xs[F]?=ε x) (W:ys[C]?=ε y)
 (hQ:∀r,vF r z TI TO (rawInt T) (.bool true)->r.IsListIter j B (F+1)->r.IsListIter i u (C+1)->IsPair r s.heap.objs.size x y->r.objs.size=s.heap.objs.size+1->
  (∀c o,c≠z->c≠j->c≠i->s.heap.get? c=ε o->r.get? c=ε o)->Q (.ref s.heap.objs.size) { s with heap:=r }) :
 wpAny (model prog w) A (Builtin.«zip.__next__» ⟨[.ref z],[]⟩) (fun L U=>∃v,L=.done (.ret v)/\Q v U) E s:=by
 show wpAny _ _ (field (.ref z) 2 >>=_) _ _ _;refine ao (Gi hz rfl (x:=.bool false) rfl ?_);show wpAny _ _ (field (.ref z) 3 >>=_) _ _ _;refine ao (Gi hz rfl (x:=.ref TI) rfl ?_);refine ao (wpAny_seqItems J rfl ?_);show wpAny _ _ (Builtin.SmallTypes.ownedTupleIsFree (.ref z) >>=_) _ _ _;refine ao (tY hz hT fun S n d=>?_);simp![Vi,eG];show wpAny _ _ (forIn #[Value.ref j,Value.ref i] _ _ >>=_) _ _ _;rw[<- Array.forIn_toList];refine ao ?_;simp![forIn_cons,forIn_nil];refine ao (ao (Eo ?_));show wpAny _ _ (Builtin.SmallTypes.nextOf (.ref j) >>=_) _ _ _;refine ao (wpAny_nextOf_list_item (h1.extBut d.extBut D.i1z) (I.extBut d.extBut D.l1z) Y fun R q f=>au (au ?_));refine ao (ao (Eo ?_));show wpAny _ _ (Builtin.SmallTypes.nextOf (.ref i) >>=_) _ _ _;refine ao (wpAny_nextOf_list_item ((h2.extBut d.extBut D.i2z).extBut f.extBut D.i12.symm) ((H.extBut d.extBut D.l2z).extBut f.extBut D.l2i1) W fun h p g=>au (au (au ?_)));refine ao (wpAny_newTuple (hsz:=show 2<=sizeLine by rw[Ca];decide) ?_);have hsz:h.objs.size=s.heap.objs.size:=by rw[g.1,f.1,d.1]
 have m:vF h z TI TO (rawInt T) (.bool true):=g.extBut _ _ D.i2z.symm (f.extBut _ _ D.i1z.symm n);refine au ⟨_,rfl,?_⟩;show Q (.ref h.objs.size) _;rw[hsz];have Z:∀c o,c≠z->c≠j->c≠i->s.heap.get? c=ε o->h.get? c=ε o:=fun c o P O M e=>g.extBut _ _ M (f.extBut _ _ O (d.extBut _ _ P e))
 refine hQ _ (cu _ m) ((q.extBut g.extBut D.i12).at fun o e=>cu _ e) (p.at fun o e=>cu _ e) ?_ (by rw[Ku,hsz]) fun c o P O M e=>cu _ (Z c o P O M e)
 rw[<- hsz];exact ji _ rfl
end
section
variable{prog:O4}{w:Pb}{A:Pu}{E:Nu->Oe->Prop}{s:Oe}
theorem Jq{z TI TO T i g q p:Oi}{W:Bool}{u r:Nat}{xs ys:Ra Nu}{Q:Fin->Oe->Prop}(P:A.handled=none)(D:ZipApart z TI TO i g q p)
 (hz:vF s.heap z TI TO (rawInt T) (.bool W)) (U:∃o,s.heap.get? T=ε o) (H:IsPair s.heap TI (.ref i) (.ref g))
 (h1:s.heap.IsListIter i q u) (h2:s.heap.IsListIter g p r) (m:s.heap.IsList q xs) (C:s.heap.IsList p ys) (n:xs[u]?=none\/ys[r]?=none)
 (R:∀J e,(∀c o,c≠z->c≠i->c≠g->s.heap.get? c=ε o->J.get? c=ε o)->(∃o,J.get? e=ε o/\o.cls=.type "StopIteration")->E (.ref e) { s with heap:=J }) :
 wpAny (model prog w) A (Builtin.«zip.__next__» ⟨[.ref z],[]⟩) Q E s:=by
 show wpAny _ _ (field (.ref z) 2 >>=_) _ _ _;refine ao (Gi hz rfl (x:=.bool false) rfl ?_);show wpAny _ _ (field (.ref z) 3 >>=_) _ _ _;refine ao (Gi hz rfl (x:=.ref TI) rfl ?_);refine ao (wpAny_seqItems H rfl ?_);show wpAny _ _ (Builtin.SmallTypes.ownedTupleIsFree (.ref z) >>=_) _ _ _;refine ao (tY hz U fun O y a=>?_);simp![Vi,eG];show wpAny _ _ (forIn #[Value.ref i,Value.ref g] _ _ >>=_) _ _ _;rw[<- Array.forIn_toList];refine ao ?_;simp![forIn_cons,forIn_nil];refine ao (ao (Eo ?_));show wpAny _ _ (Builtin.SmallTypes.nextOf (.ref i) >>=_) _ _ _;cases B:xs[u]? with
 | none=>exact ao (wpAny_nextOf_list_end P (h1.extBut a.extBut D.i1z) (m.extBut a.extBut D.l1z) B fun d e b F=>R d e (fun c o M L v x=>b _ _ L (a.extBut _ _ M x)) F)
 | some x=>
  have S:ys[r]?=none:=by rcases n with h | h;rw[B]at h;cases h;exact h
  refine ao (wpAny_nextOf_list_item (h1.extBut a.extBut D.i1z) (m.extBut a.extBut D.l1z) B fun d I b=>au (au ?_));refine ao (ao (Eo ?_));show wpAny _ _ (Builtin.SmallTypes.nextOf (.ref g) >>=_) _ _ _;exact ao (wpAny_nextOf_list_end P ((h2.extBut a.extBut D.i2z).extBut b.extBut D.i12.symm) ((C.extBut a.extBut D.l2z).extBut b.extBut D.l2i1) S fun j e f F=>R j e (fun c o M L Y x=>f _ _ Y (b.extBut _ _ L (a.extBut _ _ M x))) F)
theorem yj{z TI TO T f e i h:Oi}{H:Bool}{m j:Nat}{xs ys:Ra Nu}{x y:Nu}{Q:Oa Nu->Oe->Prop}(D:ZipApart z TI TO f e i h)
 (hz:vF s.heap z TI TO (rawInt T) (.bool H)) (B:∃o,s.heap.get? T=ε o) (q:IsPair s.heap TI (.ref f) (.ref e))
 (h1:s.heap.IsListIter f i m) (h2:s.heap.IsListIter e h j) (p:s.heap.IsList i xs) (n:s.heap.IsList h ys) (u:xs[m]?=ε x) (r:ys[j]?=ε y)
 (C:∀d,vF d z TI TO (rawInt T) (.bool true)->d.IsListIter f i (m+1)->d.IsListIter e h (j+1)->IsPair d s.heap.objs.size x y->d.objs.size=s.heap.objs.size+1->
  (∀c o,c≠z->c≠f->c≠e->s.heap.get? c=ε o->d.get? c=ε o)->Q (ε (.ref s.heap.objs.size)) { s with heap:=d }) :
 wpAny (model prog w) A (pyNext (.ref z)) Q E s:=by
 have g:s.TypeIs (.ref z) "zip" :=⟨_,hz,rfl⟩;unfold pyNext;exact ao (wpAny_attempt (wpAny_callSpecial?_slot (name:=Str.ofString "__next__") g F.slot_zip_next
  (wpAny_call_entry F.slot_zip_next g F.entry_zip_next
   (xq (a:=.none) (b:=.none) D hz B q h1 h2 p n u r fun d P O M L J I=>au (C d P O M L J I)) (F.args_zip_next_1 _))))
theorem Mj{z TI TO T g f i h:Oi}{J:Bool}{r q:Nat}{xs ys:Ra Nu}{Q:Oa Nu->Oe->Prop}(y:A.handled=none)(D:ZipApart z TI TO g f i h)
 (hz:vF s.heap z TI TO (rawInt T) (.bool J)) (H:∃o,s.heap.get? T=ε o) (n:IsPair s.heap TI (.ref g) (.ref f))
 (h1:s.heap.IsListIter g i r) (h2:s.heap.IsListIter f h q) (m:s.heap.IsList i xs) (j:s.heap.IsList h ys) (a:xs[r]?=none\/ys[q]?=none)
 (I:∀p,(∀c o,c≠z->c≠g->c≠f->s.heap.get? c=ε o->p.get? c=ε o)->Q none { s with heap:=p }) :
 wpAny (model prog w) A (pyNext (.ref z)) Q E s:=by
 have d:s.TypeIs (.ref z) "zip" :=⟨_,hz,rfl⟩;unfold pyNext;refine ao (wpAny_attempt (wpAny_callSpecial?_slot (name:=Str.ofString "__next__") d F.slot_zip_next (wpAny_call_entry F.slot_zip_next d F.entry_zip_next (Jq y D hz H n h1 h2 m j a fun p e x B=>?_) (F.args_zip_next_1 _))));obtain⟨o,u,C⟩:=B;refine ao (wpAny_isInstance (T := "StopIteration") (b:=true) ⟨o,u,C⟩ isSubtype_stop ?_);exact au (I _ x)
end
section
variable{prog:O4}{w:Pb}{A:Pu}{R:Result->Oe->Prop}
def eu(h:Ri)(z TI TO g f e d:Oi)(xs ys:Ra Nu)(i:Nat):Prop:=
 ((IsZip h z TI TO .none/\∃a b,IsPair h TO a b)\/∃(T:Oi)(j:Bool),vF h z TI TO (rawInt T) (.bool j)/\∃o,h.get? T=ε o)/\IsPair h TI (.ref g) (.ref f)/\h.IsListIter g e i/\h.IsListIter f d i/\h.IsList e xs/\h.IsList d ys
theorem eu.keep {h h':Ri} {z TI TO D C u s:Oi} {xs ys:Ra Nu} {i:Nat} (x:eu h z TI TO D C u s xs ys i) (k:∀b o,h.get? b=ε o->(∃j n,o.data=.seq j n/\o.cls=.type "list" /\ b≠u/\b≠s)\/h'.get? b=ε o) (M:∀b o,h.get? b=ε o->∃J,h'.get? b=ε J):eu h' z TI TO D C u s xs ys i:=by
 obtain⟨a,b,c,d,e,f⟩:=x;have go:∀{b:Oi} {o:Obj},h.get? b=ε o->((∀j n,o.data≠.seq j n)\/o.cls≠.type "list" \/ b=u\/b=s)->h'.get? b=ε o:=fun {b o} e q=>by
  rcases k b o e with⟨j,n,I,H,F,E⟩ | y
  . rcases q with q | q | q | q
    . exact Du I (q j n)
    . exact Du H q
    . exact Du q F
    . exact Du q E
  . exact y
 refine⟨?_,go b (.inr (.inl (by intro z;simp at z))),?_,?_,?_,?_⟩
 . rcases a with⟨a,p,q,r⟩ | ⟨T,L,a,o,r⟩
   . exact .inl ⟨go a (.inl (by intro _ _ z;cases z)),p,q,go r (.inr (.inl (by intro z;simp at z)))⟩
   . exact .inr ⟨T,L,go a (.inl (by intro _ _ z;cases z)),M _ _ r⟩
 . obtain⟨o,g,B,m⟩:=c;exact⟨o,go g (.inl (by intro _ _ z;rw[m]at z;cases z)),B,m⟩
 . obtain⟨o,g,B,m⟩:=d;exact⟨o,go g (.inl (by intro _ _ z;rw[m]at z;cases z)),B,m⟩
 . obtain⟨o,g,r⟩:=e;exact⟨o,go g (.inr (.inr (.inl rfl))),r⟩
 . obtain⟨o,g,r⟩:=f;exact⟨o,go g (.inr (.inr (.inr rfl))),r⟩
def EO(h:Ri)(n0:Nat)(xs ys:Ra Nu)(b:Ni Oi):Prop:=(∀(j:Nat) a,b[j]?=ε a->∃x y,xs[j]?=ε x/\ys[j]?=ε y/\IsPair h a x y)/\b.Nodup/\∀a∈b,n0<=a/\a<h.objs.size
theorem nj(hh:A.in1.handled=none){S z TI TO u r l1 l2 n0 n:Nat}{xs ys:Ra Nu}(E:Nu)(D:ZipApart z TI TO u r l1 l2)(hn:n<=sizeLine)(a5:S≠z/\S≠TI/\S≠TO/\S≠u/\S≠r/\S≠l1/\S≠l2)(a8:S<n0)
 (a7:z<n0/\TO<n0/\u<n0/\r<n0) (hx:∀i,i<n->∃x y,xs[i]?=ε x/\ys[i]?=ε y) (he:xs[n]?=none\/ys[n]?=none) :
 ∀(k i:Nat) (s:Oe) (M:Ni Oi) (q:Ra Nu) (c:Nat),n-i=k->i<=n->eu s.heap z TI TO u r l1 l2 xs ys i->n0<=s.heap.objs.size->s.heap.get? S=ε { cls:=.type "list",dict:=none,data:=.seq q c,slots:=#[] }->
 q=(M.map Value.ref).toArray->M.length=i->EO s.heap n0 xs ys M->
 (∀d B c',(∀b o,b≠S->b≠z->b≠TO->b≠u->b≠r->s.heap.get? b=ε o->d.get? b=ε o)->d.get? S=ε { cls:=.type "list",dict:=none,data:=.seq (B.map Value.ref).toArray c',slots:=#[] }->B.length=n->EO d n0 xs ys B->R (.ok (.ret E)) { s with heap:=d })->
 codeAny (model prog w) A (.builtin "list.extend.loop" ⟨[.ref S,.ref z,E],[]⟩) R s:=by
 obtain⟨q1,q2,q3,q4,q5,q6,q7⟩:=a5;intro k
 induction k with
 | zero=>
  intro i s M q c hk hi st a1 hS g hl P hR;have a4:i=n:=by omega
  subst a4;obtain⟨Q,m,s1,s2,s3,s4⟩:=st;refine Ia F.entry_extend_loop ?_;rw[Hi F.plain_extend_loop _];show wpAny _ A.in1 (pyNext (.ref z) >>=_) _ _ s;have h:∀d,(∀b o,b≠z->b≠TO->b≠u->b≠r->s.heap.get? b=ε o->d.get? b=ε o)->R (.ok (.ret E)) { s with heap:=d }:=fun d kp=>by
   refine hR d M c (fun b o b0 L b2 J I e=>kp b o L b2 J I e) (by rw[<- g];exact kp _ _ q1 q3 q4 q5 hS) hl ⟨fun j a ha=>?_,P.2.1,fun a ha=>?_⟩
   . obtain⟨x,y,e1,e2,e3⟩:=P.1 j a ha;have:=(P.2.2 a (ju ha)).1;exact⟨x,y,e1,e2,kp _ _ nofun nofun nofun nofun e3⟩
   . obtain⟨p1,p2⟩:=P.2.2 a ha;obtain⟨j,hj⟩:=getElem?_of_mem ha;obtain⟨x,y,_,_,e3⟩:=P.1 j a hj;exact⟨p1,fu (kp _ _ nofun nofun nofun nofun e3)⟩
  rcases Q with⟨sz,a,b,U⟩ | ⟨T,f1,sz,sT⟩
  . exact ao (wpAny_pyNext_zip_end hh D sz m U s1 s2 s3 s4 he fun d kp=>au (h d kp))
  . exact ao (Mj hh D sz sT m s1 s2 s3 s4 he fun d kp=>au (h d fun b o L v J I e=>kp b o L J I e))
 | succ k ih=>
  intro i s M q c hk hi st a1 hS g hl P hR;obtain⟨x,y,Y,W⟩:=hx i nofun;obtain⟨Q,m,s1,s2,s3,s4⟩:=st;refine Ia F.entry_extend_loop ?_;rw[Hi F.plain_extend_loop _];show wpAny _ A.in1 (pyNext (.ref z) >>=_) _ _ s;have h:∀d,((IsZip d z TI TO .none/\∃a b,IsPair d TO a b)\/∃(T:Oi)(f1:Bool),vF d z TI TO (rawInt T) (.bool f1)/\∃o,d.get? T=ε o)->d.IsListIter u l1 (i+1)->d.IsListIter r l2 (i+1)->IsPair d s.heap.objs.size x y->d.objs.size=s.heap.objs.size+1->(∀b o,b≠z->b≠TO->b≠u->b≠r->s.heap.get? b=ε o->d.get? b=ε o)->
   wpAny (model prog w) A.in1 (updateSeq S (·.push (.ref s.heap.objs.size)) >>=fun v=>again (.builtin "list.extend.loop" ⟨[.ref S,.ref z,E],[]⟩)) (fun h s'=>match h with | .done f=>R (.ok f) s' | .again c'=>c'.quiet=true/\codeAny (model prog w) A c' R s') (fun e s'=>R (.error e) s') { s with heap:=d }:=by
   intro d z1 z2 z3 z4 z5 kp;have Z:=kp _ _ q1 q3 q4 q5 hS;refine ao (Mu Z rfl (au ⟨plainId_quiet F.plain_extend_loop _,?_⟩) (by rw[g];simp![cG,mq,hl];omega) (by show(q.push _).size<=sizeLine+1;rw[Array.size_push,g];simp![cG,mq,hl];omega));have a2:=FN (Obj.mapSeq (·.push (Value.ref s.heap.objs.size))) Z rfl;have ot:∀b,b≠S->(d.update S (Obj.mapSeq (·.push (Value.ref s.heap.objs.size)))).get? b=d.get? b:=fun b H=>wu _ _ (ni H)
   have a0:(d.update S (Obj.mapSeq (·.push (Value.ref s.heap.objs.size)))).objs.size=d.objs.size:=(Heap.SameBut.update ..).1;refine ih (i+1) _ (M++[s.heap.objs.size]) (q.push (.ref s.heap.objs.size)) _ nofun nofun ?_ (by show n0<=Array.size _;rw[a0,z5];omega) a2 (by rw[g];simp) (by simp[hl]) ⟨fun j a ha=>?_,?_,fun a ha=>?_⟩ fun a6 B c' k2 k3 k4 k5=>hR a6 B c' (fun b o b0 L b2 J I e=>k2 b o b0 L b2 J I (by rw[ot b b0];exact kp b o L b2 J I e)) k3 k4 k5
   . have zs:eu d z TI TO u r l1 l2 xs ys (i+1):=⟨z1,kp _ _ D.TIz D.TITO D.TIi1 D.TIi2 m,z2,z3,s3.at fun o e=>kp _ o D.l1z D.l1TO D.l1i1 D.l1i2 e,s4.at fun o e=>kp _ o D.l2z D.l2TO D.l2i1 D.l2i2 e⟩;refine zs.keep (fun b o e=>?_) fun b o e=>?_
     . by_cases H:b=S
       . subst H;rw[Z]at e;cases e;exact .inl ⟨_,_,rfl,rfl,q6,q7⟩
       . exact .inr (by rw[ot b H];exact e)
     . by_cases H:b=S
       . subst H;exact⟨_,a2⟩
       . exact⟨o,by rw[ot b H];exact e⟩
   . by_cases hj:j<M.length
     . rw[Xa hj]at ha;obtain⟨x',y',e1,e2,e3⟩:=P.1 j a ha;have p:=P.2.2 a (ju ha);refine⟨x',y',e1,e2,?_⟩;show Heap.get? _ a=_;rw[ot a nofun];exact kp _ _ nofun nofun nofun nofun e3
     . rw[Zo nofun]at ha;have a3:j=i:=by have:=(Wi ha).1;simp at this;omega
       subst a3;rw[hl]at ha;simp at ha;subst ha;refine⟨x,y,Y,W,?_⟩;show Heap.get? _ s.heap.objs.size=_;rw[ot _ nofun];exact z4
   . rw[nodup_append];refine⟨P.2.1,by simp,fun a ha b H e=>?_⟩;rw[Ao.mp H]at e;exact Es _ (e ▸ (P.2.2 a ha).2)
   . show n0<=a/\a<Array.size _;rw[a0,z5];rcases Bo.mp ha with ha | ha
     . exact⟨(P.2.2 a ha).1,Ho (P.2.2 a ha).2⟩
     . rw[Ao.mp ha];exact⟨a1,yu _⟩
  rcases Q with⟨sz,a,b,U⟩ | ⟨T,f1,sz,o,sT⟩
  . exact ao (wpAny_pyNext_zip_item D sz m U s1 s2 s3 s4 Y W fun d z1 z2 z3 z4 C O kp=>h d (.inr ⟨_,false,z1,_,C⟩) z3 z4 C O kp)
  . have hT:∀d:Ri,(∀b o,b≠z->b≠u->b≠r->s.heap.get? b=ε o->d.get? b=ε o)->vF d z TI TO (rawInt T) (.bool true)->d.IsListIter u l1 (i+1)->d.IsListIter r l2 (i+1)->∃o,d.get? T=ε o:=fun d kp zz y1 y2=>by
     by_cases t1:T=z
     . subst t1;exact⟨_,zz⟩
     . by_cases t2:T=u
       . subst t2;obtain⟨o,e,_⟩:=y1;exact⟨o,e⟩
       . by_cases t3:T=r
         . subst t3;obtain⟨o,e,_⟩:=y2;exact⟨o,e⟩
         . exact⟨o,kp _ _ t1 t2 t3 sT⟩
    exact ao (yj D sz ⟨o,sT⟩ m s1 s2 s3 s4 Y W fun d z1 z3 z4 C O kp=>h d (.inr ⟨T,true,z1,hT d kp z1 z3 z4⟩) z3 z4 C O fun b o L v J I e=>kp b o L J I e)
end
theorem Lw:typeLookup (.type "zip") "__len__" =pure none:=by rw[typeLookup_type,builtinLookup_eq_fast];kernel_rfl
theorem Vx:typeLookup (.type "zip") "__length_hint__" =pure none:=by rw[typeLookup_type,builtinLookup_eq_fast];kernel_rfl
section
variable{prog:O4}{w:Pb}{A:Pu}{E:Nu->Oe->Prop}{s:Oe}{R:Result->Oe->Prop}
theorem Cj(hh:A.in1.handled=none){S z TI TO u r M L n0 n:Nat}{xs ys:Ra Nu}(m:Nu)(D:ZipApart z TI TO u r M L)(hn:n<=sizeLine)(H:S≠z/\S≠TI/\S≠TO/\S≠u/\S≠r/\S≠M/\S≠L)(W:S<n0)
 (Q:z<n0/\TO<n0/\u<n0/\r<n0) (hx:∀i,i<n->∃x y,xs[i]?=ε x/\ys[i]?=ε y) (he:xs[n]?=none\/ys[n]?=none) {I:Nat}
 (sz:IsZip s.heap z TI TO .none) (p:∃a b,IsPair s.heap TO a b) (P:IsPair s.heap TI (.ref u) (.ref r)) (s1:s.heap.IsListIter u M 0) (s2:s.heap.IsListIter r L 0) (s3:s.heap.IsList M xs) (s4:s.heap.IsList L ys) (hsz:n0<=s.heap.objs.size)
 (hS:s.heap.get? S=ε { cls:=.type "list",data:=.seq #[] I })
 (hR:∀B h C,(∀b o,b≠S->b≠z->b≠TO->b≠u->b≠r->s.heap.get? b=ε o->B.get? b=ε o)->B.get? S=ε { cls:=.type "list",dict:=none,data:=.seq (h.map Value.ref).toArray C,slots:=#[] }->h.length=n->EO B n0 xs ys h->R (.ok (.ret m)) { s with heap:=B }) :
 wpAny (model prog w) A.in1 (Builtin.List.listExtendWith (.ref S) (.ref z) m)
  (fun Y J=>match Y with | .done f=>R (.ok f) J | .again C=>C.quiet=true/\codeAny (model prog w) A C R J) (fun e J=>R (.error e) J) s:=by
 have U:s.TypeIs (.ref z) "zip" :=⟨_,sz,rfl⟩;unfold Builtin.List.listExtendWith;refine ao (wpAny_typeOf U ?_);have h1:Builtin.List.listSameRef (.ref S) (.ref z)=false:=by simp[Builtin.List.listSameRef,H.1]
 have h2:(Value.type "zip" ==Value.type "list")=false:=by decide
 have h3:(Value.type "zip" ==Value.type "tuple")=false:=by decide
 simp![h1,h2,h3,Bool.or_false,Vi,eG];refine ao (wpAny_pyIter_zip sz ?_);refine ao (Eo ?_);unfold Builtin.List.listLengthHint;refine ao (wpAny_specialOf U Lw ?_);show wpAny _ A.in1 (specialOf (Value.ref z) (Str.ofString "__length_hint__") >>=_) _ _ _;refine ao (wpAny_specialOf U Vx ?_);refine au ?_;show wpAny _ A.in1 (rule "list.extend.makes-room" >>=fun v=>Builtin.List.listTouch (.ref S) >>=fun v=>
  again (.builtin "list.extend.loop" ⟨[.ref S,.ref z,m],[]⟩)) _ _ _
 refine ao (wpAny_rule ?_);refine ao ?_;show wpAny _ A.in1 (updateSeq S (·.push .none) >>=fun v=>updateSeq S (·.pop)) _ _ _;refine ao (Mu hS rfl ?_);have g:=FN (Obj.mapSeq (·.push Value.none)) hS rfl;refine Mu (hz:=by seq_fits) g rfl ?_;have q:=FN (Obj.mapSeq (·.pop)) g rfl;have d:∀b,b≠S->((s.heap.update S (Obj.mapSeq (·.push Value.none))).update S (Obj.mapSeq (·.pop))).get? b=s.heap.get? b:=
  fun b Z=>(wu _ _ (ni Z)).trans (wu _ _ (ni Z))
 have O:((s.heap.update S (Obj.mapSeq (·.push Value.none))).update S (Obj.mapSeq (·.pop))).objs.size=s.heap.objs.size:=(Heap.SameBut.update ..).1.trans (Heap.SameBut.update ..).1;obtain⟨q1,q2,q3,q4,q5,q6,q7⟩:=H;obtain⟨a,b,p⟩:=p;refine au ⟨plainId_quiet F.plain_extend_loop _,nj hh m D hn ⟨q1,q2,q3,q4,q5,q6,q7⟩ W Q hx he n 0 _ [] #[] _ nofun (m8 _) ⟨.inl ⟨(d _ (ni q1)).trans sz,a,b,(d _ (ni q3)).trans p⟩,(d _ (ni q2)).trans P,s1.at fun o e=>(d _ (ni q4)).trans e,s2.at fun o e=>(d _ (ni q5)).trans e,s3.at fun o e=>(d _ (ni q6)).trans e,s4.at fun o e=>(d _ (ni q7)).trans e⟩ (by show n0<=Array.size _;rw[O];exact hsz) q rfl rfl ⟨fun j a T=>by simp at T,by simp,fun a T=>by simp at T⟩ fun B h C k2 k3 k4 k5=>hR B h C (fun b o b0 b1 b2 b3 b4 e=>k2 b o b0 b1 b2 b3 b4 ((d b b0).trans e)) k3 k4 k5⟩
theorem yq{Q:Nu->Oe->Prop}(hh:A.in1.in1.handled=none){z TI TO r q H C n:Nat}{xs ys:Ra Nu}(D:ZipApart z TI TO r q H C)(hn:n<=sizeLine)
 (U:z<s.heap.objs.size/\TI<s.heap.objs.size/\TO<s.heap.objs.size/\r<s.heap.objs.size/\q<s.heap.objs.size) (hx:∀i,i<n->∃x y,xs[i]?=ε x/\ys[i]?=ε y) (he:xs[n]?=none\/ys[n]?=none)
 (sz:IsZip s.heap z TI TO .none) (j:∃a b,IsPair s.heap TO a b) (P:IsPair s.heap TI (.ref r) (.ref q)) (s1:s.heap.IsListIter r H 0) (s2:s.heap.IsListIter q C 0) (s3:s.heap.IsList H xs) (s4:s.heap.IsList C ys)
 (hQ:∀p d W,(∀b o,b≠z->b≠TO->b≠r->b≠q->s.heap.get? b=ε o->p.get? b=ε o)->p.get? s.heap.objs.size=ε { cls:=.type "list",dict:=none,data:=.seq (d.map Value.ref).toArray W,slots:=#[] }->d.length=n->EO p (s.heap.objs.size+1) xs ys d->Q (.ref s.heap.objs.size) { s with heap:=p }) :
 wpAny (model prog w) A (call (.type "list") [.ref z]) Q E s:=by
 refine callType_codes (Q₁:=fun obj f=>obj=.ref s.heap.objs.size/\f={ s with heap:=s.heap.push { cls:=.type "list",data:=.seq #[] } }) F.called_list (F.typeCall_list_1 _) F.entry_list_init
  (code_list_new _ ⟨rfl,rfl⟩) fun obj f u=>?_
 obtain⟨rfl,rfl⟩:=u;have B:(s.heap.push { cls:=.type "list",data:=.seq #[] }).get? s.heap.objs.size=ε { cls:=.type "list",data:=.seq #[] }:=ji _ rfl;refine⟨⟨_,B,rfl⟩,F.args_list_init_2 _ _,?_⟩;obtain⟨M,t2,L,J,I⟩:=U;have Z:H<s.heap.objs.size:=by obtain⟨_,e,_⟩:=s3;exact fu e
 have Y:C<s.heap.objs.size:=by obtain⟨_,e,_⟩:=s4;exact fu e
 have up:∀{b:Oi} {o:Obj},s.heap.get? b=ε o->(s.heap.push { cls:=.type "list",data:=.seq #[] }).get? b=ε o:=fun e=>cu _ e
 generalize hp:s.heap.push { cls:=.type "list",data:=.seq #[] }=hp1 at B up;have T:hp1.objs.size=s.heap.objs.size+1:=by rw[<- hp];exact Ku ..
 show wpAny _ A.in1.in1 (do let old <- Builtin.List.listItems (.ref s.heap.objs.size);Builtin.List.listUpdate (.ref s.heap.objs.size) (fun v=>#[]);letGo old.toList.reverse;Builtin.List.listExtendWith (.ref s.heap.objs.size) (.ref z) .none) _ _ _;refine ao ?_;unfold Builtin.List.listItems;refine ao (wpAny_seqItems B rfl (au ?_));show wpAny _ A.in1.in1 (updateSeq s.heap.objs.size (fun v=>#[]) >>=fun v=>letGo (#[]:Ra Nu).toList.reverse >>=fun v=>Builtin.List.listExtendWith (.ref s.heap.objs.size) (.ref z) .none) _ _ _;refine ao (Mu B rfl ?_);have m:=FN (Obj.mapSeq (fun v=>(#[]:Ra Nu))) B rfl;have S:∀b,b≠s.heap.objs.size->(hp1.update s.heap.objs.size (Obj.mapSeq (fun v=>(#[]:Ra Nu)))).get? b=hp1.get? b:=fun b hb=>wu _ _ (ni hb)
 have O:(hp1.update s.heap.objs.size (Obj.mapSeq (fun v=>(#[]:Ra Nu)))).objs.size=s.heap.objs.size+1:=(Heap.SameBut.update ..).1.trans T;refine ao (wpAny_letGo ?_);have ne:∀{b:Nat},b<s.heap.objs.size->b≠s.heap.objs.size:=fun h=>n7 h
 have g:∀{b:Oi}{o:Obj},b<s.heap.objs.size->s.heap.get? b=ε o->(hp1.update s.heap.objs.size (Obj.mapSeq (fun v=>(#[]:Ra Nu)))).get? b=ε o:=fun h e=>(S _ (ne h)).trans (up e)
 obtain⟨a,b,j⟩:=j;refine Cj (A:=A.in1) hh .none D hn ⟨(ne M).symm,(ne t2).symm,(ne L).symm,(ne J).symm,(ne I).symm,(ne Z).symm,(ne Y).symm⟩ (n0:=s.heap.objs.size+1) (yu _) ⟨Ho M,Ho L,Ho J,Ho I⟩ hx he (g M sz) ⟨a,b,g L j⟩ (g t2 P) (s1.at fun o e=>g J e) (s2.at fun o e=>g I e) (s3.at fun o e=>g Z e) (s4.at fun o e=>g Y e) (by show _<=Array.size _;rw[O];exact Ue _) m fun p d W k2 k3 k4 k5=>?_
 exact⟨rfl,hQ p d W (fun b o b1 b2 b3 b4 e=>k2 b o (ne (fu e)) b1 b2 b3 b4 (g (fu e) e)) k3 k4 k5⟩
end
end PySem
namespace L2
def JE(H:Hp):Ni (Oi×HO)->Hp
 | []=>H
 | (a,o)::r=>oB (JE H r) a o
theorem GJ{H:Hp}{b:Oi}:∀{news:Ni (Oi×HO)},b∉news.map (·.1)->JE H news b=H b
 | [],_=>rfl
 | (a,o)::r,h=>by simp![Ti,Ba,not_or]at h;show oB (JE H r) a o b=H b;rw[XA h.1];exact GJ h.2
theorem KY{H:Hp}{b:Oi}{u:HO}:∀{news:Ni (Oi×HO)},(news.map (·.1)).Nodup->(b,u)∈news->JE H news b=ε u
 | (a,o)::r,nd,h=>by
  simp![Ti,Li]at nd;rcases Ba.mp h with e | h
  . cases e;exact fC
  . have:b≠a:=fun e=>nd.1 (e ▸ mem_map_of_mem (f:=(·.1)) h)
    show oB (JE H r) a o b=_;rw[XA this];exact KY nd.2 h
section
variable{X:Cx}{a:Ni (Oi×Obj)}{d:Ni (Oa V)}{H:Hp}{s:Oe}{h':Ri}
theorem mf.jb{t':Nat}{news:Ni (Oi×HO)}(I:mf X a d H s)(k:∀b u,s.heap.get? b=ε u->h'.get? b=ε u)(B:∀p∈news,s.heap.objs.size<=p.1)(nd:(news.map (·.1)).Nodup)(ok:∀p∈news,Xo X.prog X.w (JE H news) h' p.1 p.2) :
 mf X a d (JE H news) { s with heap:=h',toks:=t' }:=by
 have j:∀b,b<s.heap.objs.size->b∉news.map (·.1):=fun b f i=>by obtain⟨p,q,e⟩:=Bs.mp i;have:=B p q;rw[e]at this;exact Du f (Iu.mpr this)
 have g:∀b u,H b=ε u->JE H news b=ε u:=fun b u e=>by rw[GJ (j b (Nat.lt_of_not_le fun z=>by rw[I.hok.fresh z]at e;cases e))];exact e
 refine I.step (g':=s.gens) (d':=s.drawn) (ch:=[]) (fun b f=>Du f ⋯) (fun b o t t t q t=>k b o q) (fun b o t t t q t=>⟨o.slots,k b o q⟩)
  (fun b o t q n=>by rw[GJ (j b (fu q))];exact n) (fun b o t q=>⟨o,k b o q⟩) (fun b x q=>g b _ q) (fun b o u q=>g b _ q)
  (fun b F q=>⟨#[],by rw[g b _ q];simp⟩) (fun m i=>?_) (fun b u q=>?_) I.bare
 . obtain⟨o,D,E,C,r⟩:=i;exact⟨o,D,E,k _ o C,r⟩
 . by_cases f:b∈news.map (·.1)
   . obtain⟨p,h,e⟩:=Bs.mp f;have:=KY (H:=H) nd (b:=p.1) (u:=p.2) h;rw[e,q]at this;cases this;rw[<- e];exact ok p h
   . rw[GJ f]at q;exact(I.hok b u q).stay (fun c v t y=>k c v y) (fun c q=>g c _ q) fun c x q=>g c _ q
end
def tLZ(K:Ou)(j:TA):TE:=fun h H Q=>j h H fun i e=>∃a b g f,i=[.ref a,.ref b]/\m4 K e a g/\m4 K e b f/\
 ∀(d:Ni Oi)(l:Oi),d.length=min g.length f.length->(l::d).Nodup->(∀p∈l::d,e p=none)->Q (.ref l) (JE e ((l,.lst (d.map V.ref))::d.zip ((g.zip f).map fun p=>HO.tup [p.1,p.2])))
section
variable{X:Cx}
theorem Nz {a b:Oo} {ta:TA} {p1 p2 pos f:Pos} (hc:X.calm=true) (hg:Gl X "list") (hm:X.mg "list" =none) (a1:Gl X "zip") (a0:X.mg "zip" =none) (ha:PA X [a,b] ta) (hs:starEach [a,b] X.env=(false,eval a X.env)::starEach [b] X.env:=by rfl) (hpl:(backTo f (starEach [b] X.env)).any (·.1)=false:=by rfl) :
 PE X (.Call (.Name "list" p1) [.Call (.Name "zip" p2) [a,b] [] f] [] pos) (tLZ X.K ta):=by
 intro B s σ H Q I h;refine wpAny_Call_Name_kw (WF I hg hm boot_list ?_);refine PyProof.Rows.callWith_type1 ?_ rfl rfl;show wpAny _ _ (spliced ((false,eval (.Call (.Name "zip" p2) [a,b] [] f) X.env)::backTo pos (starEach [] X.env))) _ _ s;refine Calls.spliced_cons ?_;refine Call_ (WF I a1 a0 boot_zip (PyProof.Rows.callWith_type1 (uB (ha f B s σ H _ I h) fun us C zz=>?_) hs hpl));obtain⟨vs,H1,F,r1,q1⟩:=zz;obtain⟨c,d,P,O,e,hq,Z,q⟩:=q1;subst e;obtain⟨u,u',rfl,r,r'⟩:=pM r1;cases r;cases r';obtain⟨m,rv,pl,hz⟩:=F.list hq;obtain⟨g,J,E,a2⟩:=F.list Z;refine call_zip_2 pl.isList E.isList fun h' z1 z2 z3 z4 z5 a3 k=>?_
 refine Calls.spliced_nil ?_;have D:=gR (x:=.none) (y:=.none) rfl rfl rfl rfl rfl z1 z3 z4 z5 (pl.isList.at fun o e=>k _ o e) (E.isList.at fun o e=>k _ o e);have hl:=rv.length;have a4:=J.length;have hh:X.A.in1.in1.handled=none:=F.ok.hd hc;have I2:mf X B σ H1 { C with heap:=h' }:=F.kept (t':=C.toks) k;refine yq (s:={ C with heap:=h' }) hh (n:=min m.length g.length) D nofun ⟨by show _<h'.objs.size;omega,by show _<h'.objs.size;omega,by show _<h'.objs.size;omega,by show _<h'.objs.size;omega,by show _<h'.objs.size;omega⟩ (fun i hi=>⟨m[i],g[i],by simp[show i<m.length by omega],by simp[show i<g.length by omega]⟩) (by
  by_cases z:m.length<=g.length
  . exact .inl (by simp;omega)
  . exact .inr (by simp;omega)) z1 ⟨_,_,z3⟩ z2 z4 z5 (pl.isList.at fun o e=>k _ o e) (E.isList.at fun o e=>k _ o e) fun L as c' k2 k3 T M=>?_
 have kk:∀b o,C.heap.get? b=ε o->L.get? b=ε o:=fun b o e=>by
  have hb:=fu e;have ne:∀i:Nat,b≠C.heap.objs.size+i:=fun i=>n7 (jj hb (Le _ _))
  exact k2 b o (ne 4) (ne 3) (ne 0) (ne 1) (k b o e)
 have nd:(h'.objs.size::as).Nodup:=Li.mpr ⟨fun hm=>Nat.not_succ_le_self _ (M.2.2 _ hm).1,M.2.1⟩;have ge:∀p∈h'.objs.size::as,C.heap.objs.size<=p:=fun p hp=>by
  rcases Ba.mp hp with rfl | hp
  . omega
  . have:h'.objs.size+1<=p:=(M.2.2 p hp).1;omega
 have lz:((P.zip O).map fun p=>HO.tup [p.1,p.2]).length=as.length:=by rw[mq,length_zip,T];omega
 have keys:((h'.objs.size,HO.lst (as.map V.ref))::as.zip ((P.zip O).map fun p=>HO.tup [p.1,p.2])).map (·.1)=h'.objs.size::as:=by rw[Ti,map_fst_zip nofun]
 have vr:∀l:Ni Oi,mh (l.map V.ref) (l.map Value.ref):=fun l=>by
  induction l with
  | nil=>exact .nil
  | cons x l ih=>exact .cons rfl ih
 have I3:=F.jb (h':=L) (t':=C.toks) (news:=(h'.objs.size,.lst (as.map V.ref))::as.zip ((P.zip O).map fun p=>HO.tup [p.1,p.2])) kk (fun p hp=>by
  have:p.1∈h'.objs.size::as:=by rw[<- keys];exact mem_map_of_mem hp
  exact ge _ this) (by rw[keys];exact nd) (fun p hp=>by
  rcases Ba.mp hp with rfl | hp
  . exact⟨by rw[mq,T];omega,as.map Value.ref,c',vr as,k3⟩
  . obtain⟨j,hj⟩:=getElem?_of_mem hp;rw[getElem?_zip_eq_some]at hj;obtain⟨j1,j2⟩:=hj;rw[u5,Fo]at j2;obtain⟨w,U,j4⟩:=j2;rw[getElem?_zip_eq_some]at U;obtain⟨x,y,e1,e2,e3⟩:=M.1 j p.1 j1;obtain⟨ux,Y,S⟩:=rv.get U.1;obtain⟨uy,W,R⟩:=J.get U.2;have ex:x=ux:=by simpa using (e1.symm.trans (by simpa using Y):ε x=ε ux)
    have ey:y=uy:=by simpa using (e2.symm.trans (by simpa using W):ε y=ε uy)
    subst ex ey;rw[<- j4];exact⟨by simp![Ss,Uo];rw[Ca];decide,[x,y],.cons S (.cons R .nil),⟨_,e3,rfl,_,rfl⟩⟩)
 exact⟨.ref h'.objs.size,_,I3,rfl,q as h'.objs.size (by rw[T];omega) nd fun p hp=>F.hok.fresh (ge p hp)⟩
end
end L2
namespace SM
def fO(fa fb:RE):RE:=fun l h=>(fa l h).bind fun r=>(fb l r.2).bind fun q=>match EA q.2 r.1,EA q.2 q.1 with
 | some xs,some ys=>(match WB xs,WB ys with
  | some is,some js=>ε (.lst ((is.zip js).map fun p=>.ntp [p.1,p.2]),q.2)
  | _,_=>none)
 | _,_=>none
theorem kX{K:Ou}{ρ:Rg}{h:HI}:∀(d:Ni Oi)(ps:Ni (Int×Int))(H:Hp),Us K ρ h H->d.length=ps.length->d.Nodup->(∀a∈d,H a=none)->
 Us K ρ h (JE H (d.zip (ps.map fun p=>HO.tup [.int p.1,.int p.2])))/\mo ρ ρ H (JE H (d.zip (ps.map fun p=>HO.tup [.int p.1,.int p.2])))/\Ru K (JE H (d.zip (ps.map fun p=>HO.tup [.int p.1,.int p.2]))) ρ (ps.map fun p=>Dt.ntp [p.1,p.2]) (d.map V.ref)
 | [],[],H,S,_,_,_=>⟨S,mo.refl _ _,by simp[Ru]⟩
 | [],p::ps,_,_,e,_,_=>by simp at e
 | a::d,[],_,_,e,_,_=>by simp at e
 | a::d,p::ps,H,S,e,nd,no=>by
  obtain⟨j,i⟩:=Li.mp nd;obtain⟨g,s,r⟩:=kX d ps H S (by simpa using e) i (fun b o=>no b (by simp[o]));have f:JE H (d.zip (ps.map fun p=>HO.tup [.int p.1,.int p.2])) a=none:=by
   rw[GJ (fun n=>j (by
    obtain⟨q,m,e⟩:=Bs.mp n;rw[<- e];exact(of_mem_zip (a:=q.1) (b:=q.2) m).1))]
   exact no a ⋯
  refine⟨g.fresh f,s.trans (mo.fresh f),?_⟩;show Ru K (oB _ a (.tup [.int p.1,.int p.2])) ρ (.ntp [p.1,p.2]::_) (.ref a::_);simp![Ru];exact⟨_,_,rfl,cz.mpr ⟨a,rfl,g.out f,fC⟩,r.ext (mo.fresh f)⟩
set_option tactic.hygienic true in
theorem Dv {X:Cx} {a b:Oo} {fa fb:RE} {p1 p2 pos f:Pos} (hc:X.calm=true) (hg:Gl X "list") (s:X.mg "list" =none) (x:Gl X "zip") (r:X.mg "zip" =none) (ha:EM X a fa) (y:EM X b fb) (hs:lB a=true:=by rfl) (j:lB b=true:=by rfl) :
 EM X (.Call (.Name "list" p1) [.Call (.Name "zip" p2) [a,b] [] f] [] pos) (fO fa fb):=by
 unhygienic
  refine PE.imp (Nz hc hg s x r (bC ha (bC y RC (bB j _ _)) (bB hs _ _)) (bB hs _ _) (MH (by rw[Ka,j];rfl))) fun σ H Q W=>?_
  obtain⟨U,l,h,d,h',S,L,e,k⟩:=W;obtain⟨⟨d1,M⟩,e1,e⟩:=oA e;obtain⟨⟨d2,h2⟩,e2,e⟩:=oA e;refine⟨U,l,h,d1,M,S,L,e1,fun n v H1 R1 S1 T=>⟨n,l,M,d2,h2,S1,L.ext T,e2,fun m u P R2 C R=>?_⟩⟩;dsimp only at e;split at e
  . rename_i xs ys q1 q2;split at e
    . rename_i i g w1 w2;cases e;have D:=Te.ext R _ R1;obtain⟨c,vs,Z,F,J⟩:=ZC C D q1;obtain⟨dd,ws,Y,E,I⟩:=ZC C R2 q2;rw[YD w1]at J;rw[YD w2]at I;rw[J.bu]at F;rw[I.bu]at E;refine⟨c,dd,_,_,by rw[Z,Y],F,E,fun B p hl nd no=>?_⟩;obtain⟨n1,n2⟩:=Li.mp nd;have lz:B.length=(i.zip g).length:=by rw[hl,mq,mq,length_zip]
      obtain⟨O,E3,R3⟩:=kX B (i.zip g) P C lz n2 (fun b y=>no b (by simp[y]));have ez:((i.map V.int).zip (g.map V.int)).map (fun p=>HO.tup [p.1,p.2])=(i.zip g).map fun p=>HO.tup [.int p.1,.int p.2]:=by rw[zip_map,map_map];rfl
      rw[ez];have o:JE P (B.zip ((i.zip g).map fun p=>HO.tup [.int p.1,.int p.2])) p=none:=by
       rw[GJ (fun s=>n1 (by
        obtain⟨q,hq,e⟩:=Bs.mp s;rw[<- e];exact(of_mem_zip (a:=q.1) (b:=q.2) hq).1))]
       exact no p ⋯
      exact k m _ _ (WJ O R3 o) (O.fresh o) ((T.trans R).trans (E3.trans (mo.fresh o)))
    . cases e
  . cases e
noncomputable def fJ(h:HI):Dt->Oa (Ni (Ni Int×Dt))
 | .ref n=>match h[n]? with
  | some (.dt kvs)=>ε kvs
  | _=>none
 | _=>none
noncomputable def uM:Dt->Oa (Ni Int)
 | .ntp a=>ε a
 | _=>none
def jT(fo fy:RE):RE:=fun l h=>(fo l h).bind fun r=>(fy l r.2).bind fun q=>(uM q.1).bind fun b=>(fJ q.2 r.1).bind fun a=>(mE a b).map fun d=>(d,q.2)
def QP(fy fo:RE):RE:=fun l h=>(fy l h).bind fun r=>(fo l r.2).bind fun q=>(uM r.1).bind fun b=>(fJ q.2 q.1).map fun a=>(.bl (mE a b).isSome,q.2)
section
variable{K:Ou}{ρ:Rg}{H:Hp}
set_option tactic.hygienic true in
theorem S0{h:HI}(S:Us K ρ h H){d:Dt}{v:V}{kvs:Ni (Ni Int×Dt)}(e:fJ h d=ε kvs)(r:Te K H ρ d v):∃a vs,v=.ref a/\H a=ε (.dT vs)/\KD K H ρ kvs vs:=by
 cases d with
 | ref n=>
  simp![fJ]at e;split at e
  . rename_i b q;cases e;obtain⟨f,z,g⟩:=Zi.mp r;obtain⟨vs,j,i⟩:=S.ob n f _ g q;exact⟨f,vs,z,j,i⟩
  . cases e
 | _=>cases e
theorem WZ{d:Dt}{ks:Ni Int}(e:uM d=ε ks):d=.ntp ks:=by
 cases d with
 | ntp x=>cases e;rfl
 | _=>cases e
end
section
variable{X:Cx}{o i:Oo}{fo fy:RE}{pos:Pos}
theorem Kd(hu:X.A.units+64<cLine)(E:EM X o fo)(D:EM X i fy)(hs:JM i:=by intro _ _;rfl):EM X (.Subscript o i pos) (jT fo fy):=by unhygienic exact PE.imp (vZ nofun E D hs) fun Z H Q q=>by obtain⟨p,l,h,dd,h',S,L,e,k⟩:=q;obtain⟨⟨T,g⟩,R,e⟩:=oA e;obtain⟨⟨d2,h2⟩,e2,e⟩:=oA e;obtain⟨f,P,e⟩:=oA e;obtain⟨C,O,e⟩:=oA e;obtain⟨d4,c,e⟩:=Fo.mp e;cases e;cases WZ P;refine⟨p,l,h,T,g,S,L,R,fun d x H1 W U n=>⟨d,l,g,.ntp f,_,U,L.ext n,e2,fun b y Y R2 j m=>?_⟩⟩;obtain⟨a,vs,z,J,I⟩:=S0 j O (Te.ext m _ W);obtain⟨kb,r,nk,F⟩:=cz.mp R2;obtain⟨u,v2⟩:=KD.val (K:=X.K) f I;obtain⟨s,M,B⟩:=u _ c;exact⟨a,s,z,by rw[r,<- M];exact az.t J (by rw[aM];exact F),k b _ Y B j (n.trans m)⟩
theorem Yl(hu:X.A.units+64<cLine)(D:EM X i fy)(E:EM X o fo)(F:behindInMarks .In o=false:=by rfl):EM X (.Compare i [.In] [o] pos) (QP fy fo):=by
 unhygienic
  exact PE.imp (W7 (T7 nofun D E) F) fun σ H Q r=>by
   obtain⟨q,l,h,dd,h',S,L,e,k⟩:=r;obtain⟨⟨d1,j⟩,T,e⟩:=oA e;obtain⟨⟨W,h2⟩,e2,e⟩:=oA e;obtain⟨b,R,e⟩:=oA e;obtain⟨g,P,e⟩:=Fo.mp e;cases e;cases WZ R;refine⟨q,l,h,.ntp b,j,S,L,T,fun f x H1 Z Y p=>⟨f,l,j,W,_,Y,L.ext p,e2,fun d y H2 R2 m n=>?_⟩⟩;obtain⟨a,u,z,M,J⟩:=S0 m P R2;obtain⟨kb,s,nk,I⟩:=cz.mp (Te.ext n _ Z);obtain⟨C,B⟩:=KD.val (K:=X.K) b J;refine⟨a,HD u (b.map Sum.inl),z,by rw[s];exact az.t M (by rw[aM];exact I),k d _ H2 (Yo.mpr ?_) m (p.trans n)⟩;cases c:mE g b with
   | none=>rw[B c];rfl
   | some U=>obtain⟨v4,O,_⟩:=C U c;rw[O];rfl
end
end SM
namespace PySem
noncomputable def wM (a:Bool):Obj:={ cls:=.type "set",dict:=none,data:=.set #[] 0 (.fresh 0 0 a) }
section
variable{prog:O4}{w:Pb}{A:Pu}{E:Nu->Oe->Prop}{s:Oe}
set_option maxHeartbeats 3200000 in
theorem jn{l:Oi}{items:Ra Nu}{ns:Ni Int}{Q:Nu->Oe->Prop}(hh:A.handled=none)(hl:s.heap.IsTuple l items)(hi:IntsAre items.toList ns)(D:items.size+1<scanBound)
 (h:∀(h':Ri)(B:Nat),h'.SetOf (intKind prog w) s.heap.objs.size (fun J=>(firstMet (fun i=>ns.getD i 0) items.size).any (· ==J)) (firstMet (fun i=>ns.getD i 0) items.size).length->(∀b o,b<s.heap.objs.size->s.heap.get? b=ε o->h'.get? b=ε o)->Q (.ref s.heap.objs.size) { s with heap:=h',toks:=B }) :
 wpAny (model prog w) A (call (.type "set") [.ref l]) Q E s:=by
 obtain⟨c,tl,a0⟩:=PySem.F.called_set.mro;have M:=PySem.F.called_set.made;have Z:=PySem.F.called_set.sub;refine wpAny_call (codeAny_of_tree ?_);show wpAny _ _ (callAny (.type "set") _) _ _ _;refine au ⟨Code.quiet_builtin _ (by decide +kernel),Ia PySem.F.entry_type_call ?_⟩;rw[Around.under_plain (weight_type_call_type "set" [.ref l] []) rfl];have k1:=PySem.F.called_set.notType;have k2:=PySem.F.called_set.canCreate;have k3:=PySem.F.typeCall_set_1 (.ref l)
 repeat (any_goals (first | assumption | wp_step))
 refine codeAny_mono (code_set_new_1 (.ref l) (E:=E) (Q₁:=fun ob j=>∃a:Bool,ob=.ref s.heap.objs.size/\j={ s with heap:=s.heap.push (wM a) }) fun a=>⟨a,rfl,rfl⟩) fun r j L=>?_
 cases r with
 | error e=>exact L
 | ok fl=>
  cases fl with
  | ret ob=>
   obtain⟨a,rfl,rfl⟩:=L;have gS:(s.heap.push (wM a)).get? s.heap.objs.size=ε (wM a):=ji _ rfl;have gT:Shared.TypeIs { s with heap:=s.heap.push (wM a) } (.ref s.heap.objs.size) "set" :=⟨_,gS,rfl⟩;have k4:=PySem.F.called_set.init.lookup;have k5:=PySem.F.called_set.init.bind (.ref s.heap.objs.size)
   repeat (any_goals (first | assumption | wp_step))
   refine codeAny_mono (codeAny_call_builtin (R:=wants (fun r g=>r=.none/\∃h' B,g={ s with heap:=h',toks:=B }/\h'.SetOf (intKind prog w) s.heap.objs.size (fun J=>(firstMet (fun i=>ns.getD i 0) items.size).any (· ==J)) (firstMet (fun i=>ns.getD i 0) items.size).length/\(∀b o,b<s.heap.objs.size->s.heap.get? b=ε o->h'.get? b=ε o)) E)
    PySem.F.called_set.init.plain PySem.F.entry_set_init (check_set_init_1 gT ?_)) fun q g d=>?_
   . obtain⟨ol,u,y,W,x⟩:=hl;obtain⟨U,m,I,f⟩:=ol;dsimp only at y x;subst y x;have g2:(s.heap.push (wM a)).get? l=ε { cls:=.type "tuple",dict:=m,data:=.seq items W,slots:=f }:=cu _ u;have k6:=PySem.F.sub_tuple_set;have k7:=PySem.F.sub_tuple_frozenset;have k8:(Value.type "tuple" ==Value.type "dict")=false:=by decide
     have g3:(s.heap.push (wM a)).IsTuple l items:=⟨_,g2,rfl,W,rfl⟩;unfold Builtin.«set.__init__» noKeywords Builtin.Frozenset.updateFrom;generalize T:pyIter=PI
     wp_walk
     subst T;refine wpAny_pyIter_tuple g3 ?_;refine ao (wpAny_runValue ?_);have Y:l<s.heap.objs.size:=fu u;have xH:(s.heap.push (wM a)).objs.size=s.heap.objs.size+1:=Ku _ _;have k9:l≠(s.heap.push (wM a)).objs.size:=by rw[xH];exact n7 (Ho Y)
     have hf:s.heap.objs.size ∉ [(s.heap.push (wM a)).objs.size,l]:=by rw[xH];simp![Ba,not_mem_nil,or_false,not_or];exact⟨n7 (yu _),Ds Y⟩
     refine codeAny_set_update_loopS ((Walks.tuple (by simp[hh]) _ l k9 items).toS) s.heap.objs.size hf (fun i=>ns.getD i 0) (fun i v hv=>IntsAre.int_at hi i v (by rw[Array.getElem?_toList];exact hv)) D (items.size-0) 0 _ nofun (m8 _) ⟨⟨_,ji _ rfl,rfl,rfl⟩,(g3.push _)⟩ ?hS0 ?hR
     case hS0=>refine SetOf_congr (Obj.SetObjOf.setOf (knd:=intKind prog w) (o:=(wM a)) (S:=fun z=>false) (n:=0) (setObjOf_fresh a) (cu _ gS) (by unfold scanBound;omega)) (fun z=>rfl) rfl
     case hR=>intro s' C hS;obtain⟨h',g',d',F,H⟩:=s';have eg:g'=s.gens:=C.gens;have ed:d'=s.drawn:=C.drawn;have eo:H=s.os:=C.os;subst eg ed eo;show wpAny _ _ _ _ _ _;refine au ?_;show wpAny _ _ (ret Value.none) _ _ _;refine au ⟨rfl,h',F,rfl,hS,fun b o D e=>C.heap b o ?_ (cu _ (cu _ e))⟩;rw[xH];simp![Ba,not_mem_nil,or_false,not_or];exact⟨n7 D,n7 (Ho D)⟩
   . cases q with
     | error e=>exact d
     | ok p=>
      cases p with
      | ret r=>
       obtain⟨rfl,h',B,rfl,P,O⟩:=d
       repeat (any_goals (first | assumption | wp_step))
       exact h _ _ P O
      | _=>exact d.elim
  | _=>exact L.elim
end
end PySem
namespace L2
section
variable{X:Cx}
theorem bw (E:X.calm=true):Zu X (.type "set") (fun i H Q=>∃(q:Oi) (ns:Ni Int),i=[.ref q]/\AG X.K H q (ns.map V.int)/\ns.length+1<4096/\
 ∀p,H p=none->Q (.ref p) (oB H p (.set (fun k=>(NB ns).any (· ==k)) (NB ns).length))):=by
 intro j s F H i J Q I r h;obtain⟨q,ns,rfl,C,M,f⟩:=h;obtain⟨u,rfl,y⟩:=lE r;cases y;obtain⟨d,B,pl,L⟩:=I.tuple C;have m:=FJ B;have D:d.length=ns.length:=IntsAre.length m;have e:d.toArray.size=ns.length:=by rw[cG,D]
 refine PySem.jn (items:=d.toArray) (ns:=ns) (I.ok.hd E) pl (by simpa using m) (by rw[e];unfold scanBound;omega) fun O x n kp=>?_
 rw[JY ns _ e]at n;exact⟨.ref s.heap.objs.size,_,I.laid (a:=s.heap.objs.size) (o:=.set (fun k=>(NB ns).any (· ==k)) (NB ns).length) (t':=x) (fun b u g=>kp b u (fu g) g) (Ue _) n,rfl,f _ (I.hok.fresh (Ue _))⟩
end
end L2
namespace SM
def qO:Dt->HI->Oa (Dt×HI):=fun d h=>match d with
 | .tup a=>(WB a).bind fun ns=>if ns.length+1<4096 then ε (.int (NB ns).length,h)else none
 | _=>none
section
variable{X:Cx}{e:Oo}{f:RE}{p p' pos pos':Pos}
theorem Cv (u:X.calm=true) (s:Gl X "len") (o:X.mg "len" =none) (i:Gl X "set") (g:X.mg "set" =none) (x:EM X e f) (hs:lB e=true:=by rfl) :
 EM X (.Call (.Name "len" p) [.Call (.Name "set" p') [e] [] pos'] [] pos) (LB qO f):=by
 unhygienic
  exact PE.imp (JJ KW s o PySem.boot_len (bC (qR (bw u) i g boot_set (bC x RC (bB hs _ _)) (he:=bB hs _ _)) RC rfl)) fun F H Q m=>by
   obtain⟨j,l,h,d,O,S,L,e,k⟩:=m;obtain⟨⟨B,M⟩,y,e⟩:=oA e;cases B with
   | tup I=>obtain⟨ns,q,e⟩:=oA e;obtain⟨n,e⟩:=oF e;cases e;refine⟨j,l,h,_,_,S,L,y,fun b v P D C E=>?_⟩;obtain⟨a,J,z,sq,r⟩:=ai.mp D;rw[YD q]at r;rw[r.bu]at sq;exact⟨a,ns,by rw[z],sq.sq,n,fun w hw=>⟨w,_,_,rfl,fC,k b _ _ (Ws.mpr rfl) (C.fresh hw) (E.trans (mo.fresh hw))⟩⟩
   | _=>cases e
end
noncomputable def Y2:Dt->Oa (Ni Dt)
 | .tup a=>ε a
 | _=>none
def ZH(f:RE)(lo b:RO):RE:=fun l h=>(f l h).bind fun r=>(lo l r.2).bind fun o=>(b l o.2).bind fun u=>(Y2 r.1).bind fun a=>if ¬(HT.sIx a.length 0 o.1=0/\HT.sIx a.length a.length u.1=a.length)then ε (.tup (HE a o.1 u.1),u.2)else none
section
variable{X:Cx}{a:Oo}{fa:RE}{pos p2:Pos}
theorem Ew{lo n:Oa Oo}{y B:RO}(R:EM X a fa)(O:xT X lo y)(P:xT X n B):EM X (.Subscript a (.Slice lo n none p2) pos) (ZH fa y B):=by
 unhygienic
  exact PE.imp (JX C6 R O P) fun σ H Q J=>by
   obtain⟨I,l,h,d,h',S,L,e,k⟩:=J;obtain⟨⟨D,s⟩,U,e⟩:=oA e;obtain⟨⟨o,q⟩,e2,e⟩:=oA e;obtain⟨⟨u,h3⟩,T,e⟩:=oA e;obtain⟨xs,C,e⟩:=oA e;obtain⟨c,e⟩:=WP e;cases e;refine⟨I,l,h,D,s,S,L,U,fun g v H1 Z Y m=>⟨g,l,s,o,q,Y,L.ext m,e2,fun f H2 W j=>⟨f,l,q,u,_,W,L.ext (m.trans j),T,fun b H3 E F=>?_⟩⟩⟩;cases D with
   | tup ys=>cases C;obtain⟨x,M,z,sq,r⟩:=ai.mp (Te.ext (j.trans F) _ Z);exact⟨x,M,z,sq.sq,by rw[r.length];exact c,fun p i=>k b _ _ (II E (pY r o u) i) (E.fresh i) (m.trans (j.trans (F.trans (mo.fresh i))))⟩
   | _=>cases C
end
noncomputable def ZP:Dt->Oa rB
 | .str z=>ε (.inr z)
 | .int i=>ε (.inl i)
 | _=>none
noncomputable def sK(kvs:Ni (rB×Dt))(k:rB):Oa Dt:=(kvs.find? fun p=>decide (p.1=k)).map (·.2)
noncomputable def NM(h:HI):Dt->Oa (Ni (rB×Dt))
 | .ref n=>match h[n]? with | some (.dk kvs)=>ε kvs | _=>none
 | _=>none
def iP(fo fy:RE):RE:=fun l h=>(fo l h).bind fun o=>(fy l o.2).bind fun y=>(ZP y.1).bind fun k=>(NM y.2 o.1).bind fun a=>(sK a k).map fun d=>(d,y.2)
noncomputable def qF(kvs:Ni (Str×Str)):Ni (rB×Dt):=kvs.map fun p=>(.inr p.1,.str p.2)
noncomputable def rH(kvs:Ni (Str×Str)):Ni (rB×V):=kvs.map fun p=>(.inr p.1,.str p.2)
def GS(kvs:Ni (Str×Str)):RE:=fun _ h=>ε (.ref h.length,h++[.dk (qF kvs)])
section
variable{K:Ou}{H:Hp}{ρ:Rg}
abbrev KK(K:Ou)(H:Hp)(ρ:Rg)(kvs:Ni (rB×Dt))(vs:Ni (rB×V)):Prop:=kvs.map (·.1)=vs.map (·.1)/\Ru K H ρ (kvs.map (·.2)) (vs.map (·.2))
theorem Xn{d:Dt}{v:V}{k:rB}(e:ZP d=ε k)(r:Te K H ρ d v):v=kV k:=by
 cases d with
 | str z=>cases e;exact bv.mp r
 | int i=>cases e;exact Ws.mp r
 | _=>cases e
theorem KK.ar{vs:Ni (rB×V)}(r:KK K H ρ [] vs):vs=[]:=by have:=r.1;simpa using this.symm
theorem KK.Ys{p:rB×Dt}{kvs:Ni (rB×Dt)}{vs:Ni (rB×V)}(r:KK K H ρ (p::kvs) vs):∃v rs,vs=(p.1,v)::rs/\Te K H ρ p.2 v/\KK K H ρ kvs rs:=by
 obtain⟨a,d⟩:=r;cases vs with
 | nil=>simp at a
 | cons q rs=>simp![Ti,Ls]at a;obtain⟨v,i,e,g,f⟩:=Ru.Ys (by simpa only[Ti]using d);simp![Ti,Ls]at e;obtain⟨q1,q2⟩:=q;have b:p.1=q1:=a.1;have h:q2=v:=e.1;subst h;exact⟨q2,rs,by rw[b],g,a.2,by rw[e.2];exact f⟩
theorem KK.val(k:rB):∀{kvs:Ni (rB×Dt)}{vs:Ni (rB×V)},KK K H ρ kvs vs->(∀d,sK kvs k=ε d->∃v,HD vs k=ε v/\Te K H ρ d v)/\(sK kvs k=none->HD vs k=none)
 | [],_,r=>by rw[r.ar];exact⟨fun d e=>by simp[sK]at e,fun q=>rfl⟩
 | p::kvs,_,r=>by
  obtain⟨v,f,rfl,g,b⟩:=r.Ys;by_cases c:p.1=k
  . have a:sK (p::kvs) k=ε p.2:=by simp[sK,Io,c]
    rw[a,BL c];exact⟨fun d e=>by cases e;exact⟨v,rfl,g⟩,fun e=>by cases e⟩
  . have a:sK (p::kvs) k=sK kvs k:=by simp[sK,Io,c]
    rw[a,AL c];exact KK.val k b
set_option tactic.hygienic true in
theorem t9{h:HI}(S:Us K ρ h H){d:Dt}{v:V}{kvs:Ni (rB×Dt)}(e:NM h d=ε kvs)(r:Te K H ρ d v):∃a vs,v=.ref a/\H a=ε (.dK vs)/\KK K H ρ kvs vs:=by
 cases d with
 | ref n=>
  simp![NM]at e;split at e
  . rename_i i q;cases e;obtain⟨a,z,b⟩:=Zi.mp r;obtain⟨vs,g,f⟩:=S.ob n a _ b q;exact⟨a,vs,z,g,f⟩
  . cases e
 | _=>cases e
theorem mZ:∀a:Ni (Str×Str),Ru K H ρ ((qF a).map (·.2)) ((rH a).map (·.2))
 | []=>.nil
 | p::a=>.cons (bv.mpr rfl) (mZ a)
theorem uW(a:L2.St):∀(kvs:Ni (Str×Str))(H:Hp)(Q:Ni (V×V)->Hp->Prop),Q ((rH kvs).map fun b=>(kV b.1,b.2)) H->VL (kvs.map fun p=>(tC (.str p.1),tC (.str p.2))) a H Q
 | [],_,_,q=>q
 | p::kvs,H,Q,q=>by show VL (kvs.map fun p=>(tC (.str p.1),tC (.str p.2))) a H _;exact uW a kvs H _ q
end
section
variable{X:Cx}{e o i d a b f:Oo}{fe fo fi fa fb fy fx:RE}{pos pos' apos cpos:Pos}
theorem Ad{keys:Ni (Oa Oo)}{g:Ni Oo}(kvs:Ni (Str×Str))(h:MT X pos keys g (kvs.map fun p=>(tC (.str p.1),tC (.str p.2))))(j:keys.all (·.isSome)=true)(x:keys.length=g.length)(B:keys ≠ [])(m:keys.length<=15)(y:kvs.length<=15)(u:VJ [] (rH kvs)=rH kvs):EM X (.Dict keys g pos) (GS kvs):=by unhygienic exact PE.imp (Wc h j x B m) fun q H Q s=>by obtain⟨r,l,h,d,C,S,L,e,k⟩:=s;cases e;intro p n;refine uW q kvs _ _ ⟨fC,rH kvs,rfl,by simpa[rH]using y,?_⟩;rw[u,hZ];refine k (r.add p) _ _ (Zi.mpr ⟨p,rfl,?_⟩) (S.own n ⟨rH kvs,fC,by simp![qF,rH,map_map];rfl,mZ kvs⟩) (mo.own n);simp![Rg.add];rw[<- S.len,Zo (Ue _),Cu];rfl
theorem yd(hu:X.A.units+64<cLine)(E:EM X o fo)(D:EM X i fy)(hs:JM i:=by intro _ _;rfl):EM X (.Subscript o i pos) (iP fo fy):=by unhygienic exact PE.imp (vZ nofun E D hs) fun σ H Q s=>by obtain⟨r,l,h,dd,h',S,L,e,k⟩:=s;obtain⟨⟨U,m⟩,R,e⟩:=oA e;obtain⟨⟨T,h2⟩,e2,e⟩:=oA e;obtain⟨B,P,e⟩:=oA e;obtain⟨C,O,e⟩:=oA e;obtain⟨d4,M,e⟩:=Fo.mp e;cases e;refine⟨r,l,h,U,m,S,L,R,fun j x H1 Y W q=>⟨j,l,m,T,_,W,L.ext q,e2,fun g y Z R2 n p=>?_⟩⟩;obtain⟨a,vs,z,I,F⟩:=t9 n O (Te.ext p _ Y);obtain⟨v,J,u⟩:=(F.val B).1 _ M;refine⟨a,v,z,?_,k g _ Z u n (q.trans p)⟩;rw[Xn P R2,<- J];exact az.k I
end
def Dn(s:Pa)(m:Nat):Ni Str:=((jB s).names.map Prod.fst).take m
theorem ma{P:O4}{w:Pb}{K:Ou}{mg:Str->Oa Nu}{base h:Ri}{x:Str}{st:Pa}{k n m:Nat}{body:RS}(N:Ni Str)(X:K.In h)(G:h.Ns mainGlobals mg)(D:eB K x st)
 (i:∀(kV b e:Nu)(o:Oa Oi)(a ct:Nu)(us:Ni Nu),us.length=n->bindArgs (fnOf x x (bE st) (CC st) (jB st) .none kV b e o a ct) ⟨us,[]⟩=pure ((N.take n).zip us))
 (j:∀(f:Oi)(a:Nu)(A:Pu)(outer:Ni Env)(s:Oe)(H:Hp)(E:XK),Xe k (A.deeper (envOfC x (jB st) s.heap.objs.size f a))->
  mH (oE GF P w K mg base N x (jB st) f a A outer s H E).nox (CC st) body) (S:Yi N (N.take n) (jB st)) (d:(N.take n).length=n:=by rfl) (g:N.length=m:=by rfl):jC P w K mg base (k+1) n x (HB n m body):=
 MO (NL X G D (by rw[d];exact i)) S d g j
end SM
namespace G
def top(i:Nat):Pa:=PySem.Challenge.pw_spanways_k23_whole_questions.main.body.getD i (.Pass ⟨0,0,0,0⟩)
noncomputable abbrev jM:Dt:=(.int 8191)
noncomputable def Gf:Ni Dt:=[(.tup [(.int 0),(.int 0)]),(.tup [(.int 0),(.int 1)]),(.tup [(.int 0),(.int 2)]),(.tup [(.int 0),(.int 3)]),(.tup [(.int 0),(.int 4)]),(.tup [(.int 1),(.int 2)]),(.tup [(.int 1),(.int 3)]),(.tup [(.int 1),(.int 4)]),(.tup [(.int 2),(.int 2)]),(.tup [(.int 2),(.int 3)]),(.tup [(.int 2),(.int 4)]),(.tup [(.int 3),(.int 4)]),(.tup [(.int 4),(.int 4)])]
abbrev jY:Dt:=.tup Gf
noncomputable def ck:Ni Dt:=[(.tup [(.int 1),(.int 1),(.int 1),(.int 1),(.int 1),(.int 1),(.int 1),(.int 1),(.int 295),(.int 295),(.int 295),(.int 295),(.int 8191)]),(.tup [(.int 1),(.int 1),(.int 1),(.int 1),(.int 1),(.int 2),(.int 2),(.int 2),(.int 292),(.int 292),(.int 292),(.int 584),(.int 7312)]),(.tup [(.int 1),(.int 1),(.int 7),(.int 7),(.int 31),(.int 4),(.int 4),(.int 28),(.int 292),(.int 292),(.int 2044),(.int 1168),(.int 7312)]),(.tup [(.int 1),(.int 2),(.int 4),(.int 8),(.int 16),(.int 4),(.int 8),(.int 16),(.int 292),(.int 584),(.int 1168),(.int 1168),(.int 7312)]),(.tup [(.int 31),(.int 28),(.int 28),(.int 16),(.int 16),(.int 28),(.int 16),(.int 16),(.int 2044),(.int 1168),(.int 1168),(.int 1168),(.int 7312)]),(.tup [(.int 1),(.int 1),(.int 7),(.int 7),(.int 31),(.int 32),(.int 32),(.int 224),(.int 256),(.int 256),(.int 1792),(.int 2048),(.int 4096)]),(.tup [(.int 1),(.int 2),(.int 4),(.int 8),(.int 16),(.int 32),(.int 64),(.int 128),(.int 256),(.int 512),(.int 1024),(.int 2048),(.int 4096)]),(.tup [(.int 31),(.int 28),(.int 28),(.int 16),(.int 16),(.int 224),(.int 128),(.int 128),(.int 1792),(.int 1024),(.int 1024),(.int 2048),(.int 4096)]),(.tup [(.int 1),(.int 1),(.int 295),(.int 295),(.int 8191),(.int 256),(.int 256),(.int 7936),(.int 256),(.int 256),(.int 7936),(.int 4096),(.int 4096)]),(.tup [(.int 1),(.int 2),(.int 292),(.int 584),(.int 7312),(.int 256),(.int 512),(.int 7168),(.int 256),(.int 512),(.int 7168),(.int 4096),(.int 4096)]),(.tup [(.int 31),(.int 28),(.int 2044),(.int 1168),(.int 7312),(.int 1792),(.int 1024),(.int 7168),(.int 1792),(.int 1024),(.int 7168),(.int 4096),(.int 4096)]),(.tup [(.int 31),(.int 224),(.int 1792),(.int 2048),(.int 4096),(.int 1792),(.int 2048),(.int 4096),(.int 1792),(.int 2048),(.int 4096),(.int 4096),(.int 4096)]),(.tup [(.int 8191),(.int 7936),(.int 7936),(.int 4096),(.int 4096),(.int 7936),(.int 4096),(.int 4096),(.int 7936),(.int 4096),(.int 4096),(.int 4096),(.int 4096)])]
abbrev DW:Dt:=.tup ck
noncomputable abbrev OZ:Dt:=(.int 64)
abbrev Np:Pa:=top 3
def Od:RS:=xA (e2 pA (eC jY) (eV 0))
def NR:sB:=HB 1 1 Od
abbrev jk:Pa:=top 4
def QQ:RE:=eV 0
def RQ:RT:=mu (e2 YA (e2 dH (e2 GK (eV 1) (eV 0)) (oe 1)) (oe 1))
def CW:RS:=xA (aD (ZI (oe 13)) (CA 0) RQ QQ [none,ε 0])
def QG:sB:=HB 1 1 CW
abbrev Wh:Pa:=top 5
def NQ:RE:=e2 fI (oe 1) (eV 0)
def cX:RS:=xA (LB hJ (aD (UB (eV 0)) (CA 0) nB NQ [none]))
def bO:sB:=HB 1 1 cX
abbrev Xh:Pa:=top 6
def OQ:RE:=e2 pE (oe 12) (eV 0)
def dX:RS:=xA (qA bO [] (bA (aD (UB (qA QG [] (bA (eV 0) eA))) (CA 0) nB OQ [none]) eA))
def cO:sB:=HB 1 1 dX
abbrev Yj:Pa:=top 9
def oQ:RS:=AA 3 (e2 tH (eV 3) (e2 pA (e2 pA (eC DW) (eV 4)) (eV 5)))
def qN:RS:=GC (UB (eV 2)) (CA 5) oQ
def OU:RS:=lA (AA 2 (qA QG [] (bA (eV 1) eA))) (lA (AA 3 (oe 0)) (lA (GC (UB (qA QG [] (bA (eV 0) eA))) (CA 4) qN) (xA (eV 3))))
def xN:sB:=HB 2 6 OU
abbrev Xz:Pa:=top 12
def wV:RS:=xA (e2 ZE (e2 uH (gJ (eC jM) (eV 1)) (TC (bA (eC OZ) eA))) (gJ (eC jM) (e2 pE (e2 pE (eV 0) (eV 1)) (oe 1))))
def RN:sB:=HB 2 2 wV
abbrev B6:Pa:=top 13
def FR:RE:=qA RN [] (bA (eV 1) (bA (eV 0) eA))
def NZ:RS:=xA (UF (ZI (eV 0)) (CA 0) nB FR [none,ε 0])
def LO:sB:=HB 1 1 NZ
abbrev Vz:Pa:=top 14
def GQ:RS:=vD (SD (eV 1) (QA (bA (eV 2) (bA (eV 3) eA))))
def HQ:RS:=GC (M3 (e2 FB (eV 2) (oe 1)) (eV 0)) (CA 3) GQ
def vV:RS:=lA (AA 1 (mF eA)) (lA (GC (ZI (eV 0)) (CA 2) HQ) (xA (eV 1)))
def BH:sB:=HB 1 4 vV
abbrev Uz:Pa:=top 15
def qV:RE:=LB xF (eV 0)
def zV:RS:=lA (AA 4 (UF (UB (eV 0)) (CA 0) nB qV [none])) (lA (KI (e2 dH (e2 pA (e2 pA (eV 0) (eV 1)) (eV 3)) (eV 2)) (e2 pA (eV 4) (eV 1)) (eV 3)) (lA (KI (qA cO [] (bA (e2 pA (e2 pA (eV 4) (eV 1)) (eV 3)) eA)) (e2 pA (eV 4) (eV 3)) (eV 1)) (xA (eV 4))))
def tI:sB:=HB 4 5 zV
abbrev Yk:Pa:=top 16
def yW:RS:=lA (AA 2 (e2 pA (e2 pA (eV 0) (e2 pA (eV 1) (oe 0))) (e2 pA (eV 1) (oe 1)))) (lA (AA 3 (e2 pA (e2 pA (eV 0) (e2 pA (eV 1) (oe 1))) (e2 pA (eV 1) (oe 2)))) (xA (e2 dH (e2 pA (e2 pA (eV 0) (e2 pA (eV 1) (oe 0))) (e2 pA (eV 1) (oe 2))) (qA xN [] (bA (eV 2) (bA (eV 3) eA))))))
def tL:sB:=HB 2 4 yW
abbrev iy:Pa:=top 17
def AW:RS:=xA (e2 tD (qA tL [] (bA (eV 0) (bA (eV 1) eA))) (e2 pA (e2 pA (eV 0) (e2 pA (eV 1) (oe 0))) (e2 pA (eV 1) (oe 2))))
def vL:sB:=HB 2 2 AW
abbrev Zk:Pa:=top 18
def zW:RS:=xA (qA tI [] (bA (eV 0) (bA (e2 pA (eV 1) (oe 0)) (bA (qA tL [] (bA (eV 0) (bA (eV 1) eA))) (bA (e2 pA (eV 1) (oe 2)) eA)))))
def uL:sB:=HB 2 2 zW
abbrev Rz:Pa:=top 19
def pV:RE:=e2 (jJ false) (oe 0) (eV 0)
def yV:RS:=xA (LB QM (aD (UB (eV 0)) (CA 0) nB pV [none]))
def QF:sB:=HB 1 1 yV
abbrev vq:Pa:=top 20
def qQ:RS:=VB (mu (e2 (jJ true) (eV 3) (eV 0))) (lA (vD (SD (eV 2) (QA (bA (e2 pA (eV 0) (oe 0)) (bA (e2 pA (eV 0) (oe 1)) (bA (eV 3) eA)))))) (vD (SD (eV 2) (QA (bA (e2 pA (eV 0) (oe 1)) (bA (e2 pA (eV 0) (oe 0)) (bA (eV 3) eA))))))) UA
def SU:RS:=lA (AA 2 (mF eA)) (lA (GC (ZI (eV 1)) (CA 3) qQ) (xA (eV 2)))
def BN:sB:=HB 2 4 SU
abbrev jq:Pa:=top 21
def nQ:RE:=LB xF (eV 0)
def oJ:RS:=VB (mu (qA vL [] (bA (eV 3) (bA (eV 6) eA)))) (lA (AA 3 (qA uL [] (bA (eV 3) (bA (eV 6) eA)))) (lA (vD (SD (eV 2) (eV 6))) (lA (VB (mu (e2 mG (e2 pA (e2 pA (eV 3) (e2 pA (eV 6) (oe 0))) (e2 pA (eV 6) (oe 2))) (oe 0))) (xA (QA (bA (eC .non) (bA (eV 2) eA)))) UA) (vD (SD (eV 4) (QA (bA (e2 pA (eV 6) (oe 0)) (bA (e2 pA (eV 6) (oe 2)) eA)))))))) UA
def rN:RS:=lA (AA 5 (WO (eV 4) (oe 0))) (GC (UB (qA BN [] (bA (eV 5) (bA (LB xB (eV 0)) eA)))) (CA 6) oJ)
def pN:RT:=mu (e2 VC (eV 4) (TC eA))
def BQ:RS:=lA (AA 2 (mF eA)) (lA (VB (mu (qA QF [] (bA (eV 0) eA))) (xA (QA (bA (eC .non) (bA (eV 2) eA)))) UA) (lA (AA 3 (UF (UB (eV 0)) (CA 0) nB nQ [none])) (lA (AA 4 (LB xF (eV 1))) (lA (SO 1000000 pN rN) (xA (QA (bA (eV 3) (bA (eV 2) eA))))))))
def mI:sB:=HB 2 7 BQ
abbrev ak:Pa:=top 22
def BW:RS:=xA (qA mI [] (bA (eV 0) (bA (qA BH [] (bA (LB xB (eV 0)) eA)) eA)))
def DJ:sB:=HB 1 1 BW
abbrev Ox:Pa:=top 24
def dL:RS:=VB (mu (e2 YA (e2 pA (eV 3) (oe 0)) (eC (.str "ways")))) (AA 2 (qA tI [] (bA (eV 2) (bA (e2 pA (eV 3) (oe 1)) (bA (e2 pA (eV 3) (oe 2)) (bA (e2 pA (eV 3) (oe 3)) eA)))))) UA
def DV:RS:=lA (AA 2 (qA LO [] (bA (eV 0) eA))) (lA (GC (UB (eV 1)) (CA 3) dL) (xA (eV 2)))
def xJ:sB:=HB 2 4 DV
abbrev Zx:Pa:=top 25
def TU:RE:=QA (bA (e2 pA (eV 0) (oe 1)) (bA (e2 pA (eV 0) (oe 2)) (bA (e2 pA (eV 0) (oe 3)) eA)))
def DQ:RT:=mu (e2 YA (e2 pA (eV 0) (oe 0)) (eC (.str "long")))
def nV:RS:=xA (aD (UB (eV 0)) (CA 0) DQ TU [none])
def bL:sB:=HB 1 1 nV
abbrev Px:Pa:=top 26
def bV:RE:=e2 pA (eV 0) (oe 1)
def tQ:RT:=mu (e2 YA (e2 pA (eV 0) (oe 0)) (eC (.str "one")))
def EV:RS:=xA (aD (UB (eV 0)) (CA 0) tQ bV [none])
def yJ:sB:=HB 1 1 EV
abbrev Fq:Pa:=top 27
def mN:RS:=lA (AA 5 (dN (mu (e2 YA (eV 3) (eV 2))) (e2 pA (eV 4) (oe 2)) (e2 dH (eC jM) (cN (e2 pA (eV 4) (oe 2)))))) (AA 0 (qA tI [] (bA (eV 0) (bA (e2 pA (eV 4) (oe 1)) (bA (eV 5) (bA (e2 pA (eV 4) (oe 3)) eA))))))
def ZU:RS:=lA (GC (pP (eV 1)) (bD 3 4) mN) (xA (eV 0))
def vN:sB:=HB 3 6 ZU
abbrev kj:Pa:=top 28
def kN:RS:=VB (mu (e2 DP (LB xB (qA QG [] (bA (e2 pA (e2 pA (eV 0) (e2 pA (eV 1) (oe 0))) (e2 pA (eV 1) (oe 1))) eA))) (oe 1))) (xA (eV 1)) UA
def lQ:RS:=lA (GC (UB (qA BH [] (bA (LB xB (eV 0)) eA))) (CA 1) kN) (xA (eC .non))
def SK:sB:=HB 1 2 lQ
abbrev Wz:Pa:=top 29
def tN:RE:=qA vN [] (bA (eV 1) (bA (eV 2) (bA (eV 0) eA)))
def rV:RE:=QA (bA (e2 pA (eV 0) (oe 1)) (bA (e2 pA (eV 0) (oe 3)) eA))
def uN:RE:=qA tI [] (bA (eV 1) (bA (e2 pA (eV 2) (oe 0)) (bA (e2 fI (oe 1) (eV 0)) (bA (e2 pA (eV 2) (oe 1)) eA))))
def MQ:RS:=lA (VB (mu (e2 VC (eV 1) (TC eA))) (lA (AA 2 (e2 pA (eV 1) (oe 0))) (lA (AA 3 (aD (ZI (LB xB (eV 2))) (CA 0) nB tN [none,ε 0,ε 2])) (xA (QA (bA (eC (.str "one")) (bA (QA eA) (bA (eV 3) (bA (aD (UB (eV 2)) (CA 0) nB rV [none]) eA)))))))) UA) (lA (AA 4 (qA SK [] (bA (eV 0) eA))) (lA (VB (mu (e2 ND (eV 4) (eC .non))) (xA (eC .non)) UA) (lA (AA 5 (e2 pA (e2 pA (eV 0) (e2 pA (eV 4) (oe 0))) (e2 pA (eV 4) (oe 1)))) (lA (AA 3 (aD (UB (qA QG [] (bA (eV 5) eA))) (CA 0) nB uN [none,ε 0,ε 4])) (xA (QA (bA (eC (.str "split")) (bA (eV 4) (bA (eV 3) (bA (TC (bA (eV 4) eA)) eA))))))))))
def dF:sB:=HB 2 6 MQ
abbrev Kp:Pa:=top 31
def vY:RS:=xA (e2 FB (e2 AC (oe 2) (eV 0)) (oe 1))
def SL:sB:=HB 1 1 vY
abbrev Nj:Pa:=top 32
def wU:RS:=lA (AA 2 (e2 AC (oe 2) (e2 pA (eV 0) (oe 0)))) (xA (mF (bA (QA (bA (eV 2) (bA (e2 FB (eV 2) (oe 1)) (bA (e2 AC (HC (e2 pA (eV 0) (oe 1))) (eV 1)) eA)))) (bA (QA (bA (e2 FB (eV 2) (oe 1)) (bA (eV 2) (bA (e2 AC (e2 pA (eV 0) (oe 2)) (eV 1)) eA)))) eA))))
def UK:sB:=HB 2 3 wU
abbrev aq:Pa:=top 33
def QU:RS:=lA (AA 4 (mF eA)) (lA (VB (mu (e2 YT (LB pH (eV 3)) (eV 2))) (vD (SD (eV 4) (QA (bA (eV 0) (bA (eV 1) (bA (dN (mu (e2 dI (LB pH (eV 3)) (eV 2))) (HC (oe 1)) (oe 0)) eA)))))) UA) (lA (VB (mu (e2 dQ (LB EG (eV 3)) (eV 2))) (vD (SD (eV 4) (QA (bA (eV 1) (bA (eV 0) (bA (dN (mu (e2 DP (LB EG (eV 3)) (eV 2))) (HC (oe 1)) (oe 0)) eA)))))) UA) (xA (eV 4))))
def lI:sB:=HB 4 5 QU
abbrev iz:Pa:=top 34
def gL:RE:=e2 pA (qA NR [] (bA (eV 0) eA)) (eV 1)
def jL:RS:=lA (AA 5 (aD (UB (qA QG [] (bA (eV 1) eA))) (CA 0) nB gL [none,ε 4])) (lA (vD (CI (eV 3) (qA lI [] (bA (e2 FB (e2 AC (oe 2) (eV 0)) (eV 4)) (bA (e2 AC (oe 2) (eV 2)) (bA (oe 1) (bA (eV 5) eA))))))) (vD (CI (eV 3) (qA lI [] (bA (e2 FB (e2 AC (oe 2) (eV 0)) (eV 4)) (bA (e2 FB (e2 AC (oe 2) (eV 2)) (oe 1)) (bA (oe 3) (bA (eV 5) eA))))))))
def oV:RS:=lA (AA 3 (mF eA)) (lA (GC (ZI (oe 2)) (CA 4) jL) (xA (eV 3)))
def cL:sB:=HB 3 6 oV
abbrev Vh:Pa:=top 35
def QN:RE:=QA (bA (e2 AC (oe 2) (eV 0)) (bA (e2 FB (e2 AC (oe 2) (eV 0)) (oe 1)) (bA (HC (oe 1)) eA)))
def SN:RS:=vD (CI (eV 2) (qA UK [] (bA (eV 3) (bA (qA SL [] (bA (LB xB (eV 0)) eA)) eA))))
def TN:RS:=vD (CI (eV 2) (qA cL [] (bA (e2 pA (eV 4) (oe 0)) (bA (e2 pA (e2 pA (eV 0) (e2 pA (eV 4) (oe 0))) (e2 pA (eV 4) (oe 1))) (bA (e2 pA (eV 4) (oe 1)) eA)))))
def bX:RS:=lA (AA 2 (UF (ZI (LB xB (eV 0))) (CA 0) nB QN [none])) (lA (GC (UB (eV 1)) (CA 3) SN) (lA (GC (UB (qA BH [] (bA (LB xB (eV 0)) eA))) (CA 4) TN) (xA (eV 2))))
def DH:sB:=HB 2 5 bX
abbrev Zj:Pa:=top 36
def pQ:RS:=lA (AA 3 (RP (bA (e2 pA (eV 2) (oe 0)) (bA (e2 pA (eV 2) (oe 1)) eA)))) (cP (CT qM (TJ (eV 1) (eV 3) (e2 pA (eV 2) (oe 2))) (e2 pA (eV 2) (oe 2))) (eV 1) (eV 3))
def PU:RS:=lA (AA 1 FS) (lA (GC (UB (eV 0)) (CA 2) pQ) (xA (eV 1)))
def uJ:sB:=HB 1 4 PU
abbrev Lp:Pa:=top 37
def sI:RS:=VB (mu (e2 DP (e2 pA (eV 1) (e2 pA (eV 4) (oe 0))) (e2 FB (e2 pA (eV 1) (e2 pA (eV 4) (oe 1))) (eV 5)))) (lA (KI (e2 FB (e2 pA (eV 1) (e2 pA (eV 4) (oe 1))) (eV 5)) (eV 1) (e2 pA (eV 4) (oe 0))) (lA (KI (e2 pA (eV 4) (oe 1)) (eV 2) (e2 pA (eV 4) (oe 0))) (AA 3 (e2 pA (eV 4) (oe 0))))) UA
def gY:RS:=lA (AA 3 (eC .non)) (lA (GC (FI (eV 0)) (bD 4 5) sI) (xA (eV 3)))
def QJ:sB:=HB 3 6 gY
abbrev Gq:Pa:=top 38
def wQ:RS:=AA 0 (e2 pA (eV 1) (eV 0))
def xQ:RS:=vD (SD (eV 3) (e2 pA (eV 1) (e2 pA (eV 3) (HC (oe 1)))))
def vQ:RT:=mu (e2 tD (e2 pA (eV 3) (HC (oe 1))) (eV 0))
def aV:RS:=lA (GC (ZI (LB xB (eV 1))) (CA 2) wQ) (lA (AA 3 (mF (bA (eV 0) (bA (e2 pA (eV 1) (eV 0)) eA)))) (lA (SO 100 vQ xQ) (xA (eV 3))))
def wN:sB:=HB 2 4 aV
abbrev Mp:Pa:=top 39
def sL:RE:=e2 pE (eV 0) (eV 1)
def EJ:RS:=lA (AA 6 (qA QJ [] (bA (eV 2) (bA (eV 3) (bA (eV 4) eA))))) (VB (mu (e2 ND (eV 6) (eC .non))) (lA (AA 7 (HS (eV 3) (oe 0))) (xA (QA (bA (eC (.str "times")) (bA (aD (UB (eV 3)) (CA 0) nB sL [none,ε 7]) eA))))) UA)
def MR:RS:=lA (AA 2 (qA uJ [] (bA (eV 1) eA))) (lA (AA 3 (jK (oe 0) (eV 0))) (lA (AA 4 (jK (eC .non) (eV 0))) (lA (GC (ZI (e2 FB (eV 0) (oe 1))) (CA 5) EJ) (xA (QA (bA (eC (.str "ring")) (bA (qA wN [] (bA (eV 6) (bA (eV 4) eA))) eA)))))))
def KH:sB:=HB 2 8 MR
abbrev ZK:Pa:=KR (top 41) 0
def sQ:RS:=lA (XI "Search" "lengths" (eV 0) (eV 1)) (lA (XI "Search" "most" (eV 0) (eV 2)) (XI "Search" "made" (eV 0) (oe 0)))
def WK:sB:=HB 3 3 sQ
abbrev nq:Pa:=top 42
def oN:RE:=QA (bA (e2 pA (eV 1) (eV 0)) (bA (e2 pA (eV 1) (e2 FB (eV 0) (oe 1))) eA))
def RU:RS:=xA (aD (N3 (oe 0) (LB xB (eV 0)) 2) (CA 0) nB oN [none,ε 0])
def yN:sB:=HB 1 1 RU
abbrev PK:Pa:=KR (top 41) 2
def QK (R:sB):RS:=lA (AA 6 (MI "Search" "look" R (eV 0) (bA (eV 5) (bA (e2 pA (eV 1) (oe 3)) (bA (eV 3) eA))))) (lA (VB (mu (e2 tD (e2 pA (eV 6) (oe 0)) (eC (.str "clash")))) (xA (eV 6)) UA) (vD (SD (eV 4) (e2 pA (eV 6) (oe 1)))))
def RK (R:sB):RS:=lA (AA 4 (mF eA)) (lA (GC (UB (e2 pA (eV 1) (oe 2))) (CA 5) (QK R)) (xA (QA (bA (eC (.str "clash")) (bA (e2 VI (e2 VI (QA (bA (e2 pA (eV 1) (oe 0)) (bA (eV 2) eA))) (e2 pA (eV 1) (oe 1))) (QA (bA (eV 4) eA))) eA)))))
def yH(R:sB):sB:=HB 4 7 (RK R)
abbrev rJ:Pa:=KR (top 41) 1
def pJ (R:sB):RS:=lA (AA 4 (qA mI [] (bA (eV 1) (bA (eV 2) eA)))) (lA (AA 5 (e2 pA (eV 4) (oe 0))) (lA (AA 6 (e2 pA (eV 4) (oe 1))) (lA (VB (mu (e2 ND (eV 5) (eC .non))) (xA (QA (bA (eC (.str "clash")) (bA (QA (bA (eC (.str "threes")) (bA (eV 6) eA))) eA)))) UA) (lA (AA 7 (qA KH [] (bA (e2 AC (oe 2) (LB xB (eV 5))) (bA (qA DH [] (bA (eV 5) (bA (LF "Search" "lengths" (eV 0)) eA))) eA)))) (lA (VB (mu (e2 YA (e2 pA (eV 7) (oe 0)) (eC (.str "ring")))) (xA (QA (bA (eC (.str "clash")) (bA (QA (bA (eC (.str "ring")) (bA (eV 6) (bA (e2 pA (eV 7) (oe 1)) eA)))) eA)))) UA) (lA (AA 8 (qA dF [] (bA (eV 5) (bA (eV 3) eA)))) (lA (VB (mu (e2 ND (eV 8) (eC .non))) (xA (QA (bA (eC (.str "laid")) (bA (qA yN [] (bA (e2 pA (eV 7) (oe 1)) eA)) eA)))) UA) (lA (VB (mu (e2 dQ (LF "Search" "made" (eV 0)) (LF "Search" "most" (eV 0)))) (xA (QA (bA (eC (.str "open")) (bA (eC .non) eA)))) UA) (lA (XI "Search" "made" (eV 0) (e2 FB (LF "Search" "made" (eV 0)) (oe 1))) (xA (MI "Search" "look_at_branches" (yH R) (eV 0) (bA (eV 8) (bA (eV 6) (bA (qK (eV 3) (bF (oe 1)) yM) eA))))))))))))))
def KE(n:Nat):sB:=Nat.rec (fun _ _=>none) (fun _ R=>HB 4 9 (pJ R)) n
abbrev wI:Pa:=top 43
def aR:RS:=lA (AA 3 (jP "Search" WK (bA (qA bL [] (bA (eV 1) eA)) (bA (eV 2) eA)))) (lA (AA 4 (MI "Search" "look" (KE 12) (eV 3) (bA (qA xJ [] (bA (eV 0) (bA (eV 1) eA))) (bA (qA BH [] (bA (eV 0) eA)) (bA (qA yJ [] (bA (eV 1) eA)) eA))))) (xA (QA (bA (e2 pA (eV 4) (oe 0)) (bA (e2 pA (eV 4) (oe 1)) (bA (LF "Search" "made" (eV 3)) eA))))))
def pG:sB:=HB 3 5 aR
abbrev zI:Pa:=top 45
def LR:RS:=lA (AA 6 (qA pG [] (bA (eV 0) (bA (e2 ZE (eV 1) (TC (bA (QA (bA (eC (.str "ways")) (bA (eV 2) (bA (eV 3) (bA (eV 4) eA))))) eA))) (bA (eV 5) eA))))) (lA (AA 7 (qA pG [] (bA (eV 0) (bA (e2 ZE (eV 1) (TC (bA (QA (bA (eC (.str "ways")) (bA (eV 2) (bA (e2 pE (eC jM) (eV 3)) (bA (eV 4) eA))))) eA))) (bA (eV 5) eA))))) (lA (VB (pC (mu (e2 YA (e2 pA (eV 6) (oe 0)) (eC (.str "open")))) (mu (e2 YA (e2 pA (eV 7) (oe 0)) (eC (.str "open"))))) (xA (QA (bA (eC (.str "open")) (bA (eC .non) eA)))) UA) (lA (VB (YI (mu (e2 YA (e2 pA (eV 6) (oe 0)) (eC (.str "clash")))) (mu (e2 YA (e2 pA (eV 7) (oe 0)) (eC (.str "clash"))))) (xA (QA (bA (eC (.str "clash")) (bA (QA (bA (e2 pA (eV 6) (oe 1)) (bA (e2 pA (eV 7) (oe 1)) eA))) eA)))) UA) (lA (VB (mu (e2 YA (e2 pA (eV 7) (oe 0)) (eC (.str "clash")))) (xA (QA (bA (eC (.str "must")) (bA (e2 pA (eV 7) (oe 1)) eA)))) UA) (lA (VB (mu (e2 YA (e2 pA (eV 6) (oe 0)) (eC (.str "clash")))) (xA (QA (bA (eC (.str "never")) (bA (e2 pA (eV 6) (oe 1)) eA)))) UA) (xA (QA (bA (eC (.str "may")) (bA (QA (bA (e2 pA (eV 6) (oe 1)) (bA (e2 pA (eV 7) (oe 1)) eA))) eA)))))))))
def qG:sB:=HB 6 8 LR
abbrev Tz:Pa:=top 47
def sN:RE:=TL YT dI (oe 0) (eV 0) (eV 1)
def LQ:RS:=xA (cF (e2 YA (LB qO (eV 0)) (oe 3)) (LB oH (aD (qP (eV 0)) (CA 0) nB sN [none,ε 1])))
def lL:sB:=HB 2 2 LQ
abbrev Xj:Pa:=top 48
def MF:RS:=lA (VB (pC (mu (qA QF [] (bA (eV 0) eA))) (pC (TD (mu (qA lL [] (bA (eV 2) (bA (LB xB (eV 0)) eA))))) (TD (mu (qA vL [] (bA (eV 0) (bA (eV 2) eA))))))) (xA (eC .non)) UA) (AA 0 (qA uL [] (bA (eV 0) (bA (eV 2) eA))))
def AQ:RS:=lA (GC (UB (eV 1)) (CA 2) MF) (xA (eV 0))
def tJ:sB:=HB 2 3 AQ
abbrev Xk:Pa:=top 49
def DN:RE:=QP (eV 0) (eV 1)
def PQ:RE:=jT (eV 1) (eV 0)
def ZQ:RS:=lA (VB (pC (mu (e2 dI (LB xB (eV 0)) (oe 3))) (pC (mu (e2 tD (e2 pA (eV 0) (oe 0)) (e2 pA (eV 0) (HC (oe 1))))) (mu (e2 tD (LB OL (eV 0)) (e2 pE (LB xB (eV 0)) (oe 1)))))) (xA (eC (.bl false))) UA) (lA (AA 2 (qA uJ [] (bA (eV 1) eA))) (lA (AA 3 (fO (eV 0) (qK (eV 0) (bF (oe 1)) yM))) (lA (VB (TD (mu (LB oH (aD (UB (eV 3)) (CA 0) nB DN [none,ε 2])))) (xA (eC (.bl false))) UA) (xA (e2 dI (LB hJ (aD (UB (eV 3)) (CA 0) nB PQ [none,ε 2])) (oe 0))))))
def qI:sB:=HB 2 4 ZQ
abbrev yL:Pa:=top 51
def OG(R:sB):RS:=VB (TD (mu (qA R [] (bA (eV 4) (bA (eV 1) (bA (eV 2) (bA (eV 5) eA))))))) (xA (eC (.bl false))) UA
def kL(R:sB):RS:=lA (VB (mu (e2 tD (LB xB (eV 0)) (LB xB (eV 3)))) (xA (eC (.bl false))) UA) (lA (GC (VP (eV 0) (eV 3)) (bD 4 5) (OG R)) (xA (eC (.bl true))))
def zH(R:sB):sB:=HB 4 6 (kL R)
abbrev SJ:Pa:=top 50
def PJ (R:sB):RS:=lA (AA 4 (qA tJ [] (bA (eV 0) (bA (e2 pA (eV 3) (oe 1)) eA)))) (lA (VB (mu (e2 ND (eV 4) (eC .non))) (xA (eC (.bl false))) UA) (lA (VB (mu (e2 mG (e2 pA (eV 3) (oe 0)) (eC (.str "threes")))) (xA (qA QF [] (bA (eV 4) eA))) UA) (lA (VB (pC (mu (qA QF [] (bA (eV 4) eA))) (mu (e2 VC (e2 pA (qA DJ [] (bA (eV 4) eA)) (oe 1)) (TC eA)))) (xA (eC (.bl false))) UA) (lA (VB (mu (e2 mG (e2 pA (eV 3) (oe 0)) (eC (.str "ring")))) (xA (qA qI [] (bA (e2 pA (eV 3) (oe 2)) (bA (qA DH [] (bA (eV 4) (bA (eV 2) eA))) eA)))) UA) (lA (AA 5 (qA dF [] (bA (eV 4) (bA (eV 1) eA)))) (lA (VB (pC (mu (e2 ND (eV 5) (eC .non))) (pC (mu (e2 VC (e2 pA (eV 5) (oe 0)) (e2 pA (eV 3) (oe 0)))) (mu (e2 VC (e2 pA (eV 5) (oe 1)) (ZH (eV 3) (bF (oe 2)) (bF (HC (oe 1)))))))) (xA (eC (.bl false))) UA) (xA (qA (zH R) [] (bA (e2 pA (eV 5) (oe 2)) (bA (qK (eV 1) (bF (oe 1)) yM) (bA (eV 2) (bA (e2 pA (eV 3) (HC (oe 1))) eA))))))))))))
def JH(n:Nat):sB:=Nat.rec (fun _ _=>none) (fun _ R=>HB 4 6 (PJ R)) n
abbrev Vk:Pa:=top 52
def aX:RS:=xA (qA (JH 12) [] (bA (qA xJ [] (bA (eV 0) (bA (eV 1) eA))) (bA (qA yJ [] (bA (eV 1) eA)) (bA (qA bL [] (bA (eV 1) eA)) (bA (eV 2) eA)))))
def EH:sB:=HB 3 3 aX
abbrev Vj:Pa:=top 54
def MU:RS:=lA (VB (mu (e2 dI (eV 1) (LB xB (eV 0)))) (xA (e2 pA (eV 0) (eV 1))) UA) (xA (oe 0))
def sJ:sB:=HB 2 2 MU
abbrev Xx:Pa:=top 55
def lV:RS:=lA (AA 2 (e2 MB (e2 AC (e2 FB (e2 FB (e2 MB (eV 0) (oe 1000000007)) (e2 AC (oe 7) (eV 1))) (oe 1)) (oe 48271)) (oe 2147483647))) (xA (e2 MB (e2 AC (eV 2) (e2 FB (e2 FB (e2 MB (eV 2) (oe 1009)) (eV 1)) (oe 3))) (oe 998244353)))
def ID:sB:=HB 2 3 lV
abbrev Wj:Pa:=top 56
def NU:RS:=lA (AA 2 (e2 MB (eV 0) (eV 1))) (xA (QA (bA (eV 2) (bA (e2 MB (e2 FB (e2 FB (eV 2) (oe 1)) (e2 MB (e2 XD (eV 0) (eV 1)) (e2 pE (eV 1) (oe 1)))) (eV 1)) eA))))
def iL:sB:=HB 2 3 NU
abbrev Yx:Pa:=top 57
def mV:RS:=xA (cF (kG "int" (eV 0)) (mJ (kG "bool" (eV 0))))
def aL:sB:=HB 1 1 mV
abbrev Nx:Pa:=top 58
def CV:RS:=lA (VB (mu (e2 dI (eV 0) (e2 pA (eV 1) (oe 0)))) (xA (oe 0)) UA) (lA (VB (mu (e2 YA (eV 0) (e2 pA (eV 1) (oe 0)))) (xA (oe 1)) UA) (lA (VB (mu (e2 dI (eV 0) (e2 pA (eV 1) (oe 1)))) (xA (oe 2)) UA) (lA (VB (mu (e2 YA (eV 0) (e2 pA (eV 1) (oe 1)))) (xA (oe 3)) UA) (xA (oe 4)))))
def mL:sB:=HB 2 2 CV
abbrev Dq:Pa:=top 59
def YU:RS:=lA (AA 2 (TC (bA (QA (bA (oe 0) (bA (oe 0) eA))) (bA (QA (bA (oe 0) (bA (oe 1) eA))) (bA (QA (bA (oe 0) (bA (oe 2) eA))) (bA (QA (bA (oe 0) (bA (oe 3) eA))) (bA (QA (bA (oe 0) (bA (oe 4) eA))) (bA (QA (bA (oe 1) (bA (oe 2) eA))) (bA (QA (bA (oe 1) (bA (oe 3) eA))) (bA (QA (bA (oe 1) (bA (oe 4) eA))) (bA (QA (bA (oe 2) (bA (oe 2) eA))) (bA (QA (bA (oe 2) (bA (oe 3) eA))) (bA (QA (bA (oe 2) (bA (oe 4) eA))) (bA (QA (bA (oe 3) (bA (oe 4) eA))) (bA (QA (bA (oe 4) (bA (oe 4) eA))) eA))))))))))))))) (xA (gP (eV 2) (QA (bA (qA mL [] (bA (e2 pA (eV 0) (oe 0)) (bA (eV 1) eA))) (bA (qA mL [] (bA (e2 pA (eV 0) (oe 1)) (bA (eV 1) eA))) eA)))))
def qJ:sB:=HB 2 3 YU
abbrev Lx:Pa:=top 60
def AV:RS:=xA (e2 YA (e2 dH (e2 GK (e2 pA (eV 1) (oe 2)) (qA qJ [] (bA (e2 pA (eV 0) (e2 pA (eV 1) (oe 1))) (bA (e2 pA (eV 0) (e2 pA (eV 1) (oe 3))) eA)))) (oe 1)) (oe 1))
def vJ:sB:=HB 2 2 AV
abbrev Wx:Pa:=top 61
def CQ:RE:=qA vJ [] (bA (eV 1) (bA (eV 0) eA))
def AH:RS:=lA (VB (YI (mu (e2 YA (e2 pA (eV 3) (oe 0)) (eC (.str "ways")))) (TD (mu (qA vJ [] (bA (eV 0) (bA (eV 3) eA)))))) (xA (eC (.bl false))) UA) (lA (VB (YI (mu (e2 YA (e2 pA (eV 3) (oe 0)) (eC (.str "one")))) (mu (e2 tD (IR (aD (UB (e2 pA (eV 3) (oe 1))) (CA 0) nB CQ [none,ε 0]) (eC (.bl true))) (oe 1)))) (xA (eC (.bl false))) UA) (VB (mu (e2 YA (e2 pA (eV 3) (oe 0)) (eC (.str "long")))) (lA (AA 4 (e2 pE (e2 pA (e2 pA (eV 0) (e2 pA (eV 3) (oe 1))) (oe 1)) (e2 pA (e2 pA (eV 0) (e2 pA (eV 3) (oe 1))) (oe 0)))) (VB (pC (mu (e2 dI (eV 4) (e2 AC (e2 pA (eV 3) (oe 2)) (eV 2)))) (mu (e2 DP (eV 4) (e2 AC (e2 pA (eV 3) (oe 3)) (eV 2))))) (xA (eC (.bl false))) UA)) UA))
def jV:RS:=lA (AA 2 (e2 FB (e2 AC (oe 2) (LB xB (eV 0))) (oe 1))) (lA (GC (UB (eV 1)) (CA 3) AH) (xA (eC (.bl true))))
def AJ:sB:=HB 2 5 jV
abbrev fj:Pa:=top 62
def gN:RS:=lA (VB (pC (TD (mu (kG "tuple" (eV 3)))) (pC (mu (e2 tD (LB xB (eV 3)) (oe 2))) (pC (TD (mu (qA aL [] (bA (e2 pA (eV 3) (oe 0)) eA)))) (TD (mu (qA aL [] (bA (e2 pA (eV 3) (oe 1)) eA))))))) (xA (eC (.bl false))) UA) (VB (mu (e2 dQ (e2 pA (eV 3) (oe 0)) (e2 pA (eV 3) (oe 1)))) (xA (eC (.bl false))) UA)
def fN:RE:=e2 pA (eV 0) (oe 0)
def EU:RS:=lA (VB (pC (TD (mu (kG "list" (eV 0)))) (mu (e2 tD (LB xB (eV 0)) (eV 1)))) (xA (eC (.bl false))) UA) (lA (GC (UB (eV 0)) (CA 3) gN) (xA (cF (e2 YA (LB EG (aD (UB (eV 0)) (CA 0) nB fN [none])) (oe 0)) (qA AJ [] (bA (eV 0) (bA (eV 2) eA))))))
def nJ:sB:=HB 3 4 EU
abbrev Z9:Pa:=top 63
def mQ:RS:=lA (AA 4 (e2 MB (qA ID [] (bA (eV 0) (bA (e2 FB (oe 20) (eV 3)) eA))) (oe 30))) (vD (SD (eV 2) (QA (bA (eV 4) (bA (e2 FB (e2 FB (eV 4) (oe 1)) (e2 MB (qA ID [] (bA (eV 0) (bA (e2 FB (oe 30) (eV 3)) eA))) (oe 25))) eA)))))
def uU:RS:=lA (AA 2 (mF eA)) (lA (GC (ZI (eV 1)) (CA 3) mQ) (xA (eV 2)))
def kI:sB:=HB 2 5 uU
abbrev Aj:Pa:=top 64
def yU:RS:=lA (YM (bD 3 4) (qA iL [] (bA (eV 1) (bA (LB xB (eV 0)) eA)))) (lA (AA 5 (e2 fI (oe 1) (qA qJ [] (bA (e2 pA (eV 0) (eV 3)) (bA (e2 pA (eV 0) (eV 4)) eA))))) (lA (AA 6 (e2 dH (e2 dH (qA ID [] (bA (eV 1) (bA (oe 3) eA))) (qA ID [] (bA (eV 1) (bA (oe 4) eA)))) (oe 8191))) (lA (VB (mu (e2 YA (e2 MB (eV 1) (oe 5)) (oe 1))) (AA 6 (oe 8191)) UA) (lA (VB (mu (eV 2)) (xA (QA (bA (eC (.str "ways")) (bA (eV 3) (bA (e2 tH (eV 6) (eV 5)) (bA (eV 4) eA)))))) UA) (xA (QA (bA (eC (.str "ways")) (bA (eV 3) (bA (e2 vH (e2 tH (eV 6) (eV 5)) (eV 5)) (bA (eV 4) eA))))))))))
def pI:sB:=HB 3 7 yU
abbrev gj:Pa:=top 65
def sU:RS:=lA (AA 2 (e2 MB (eV 1) (LB xB (eV 0)))) (lA (AA 3 (e2 FB (e2 AC (oe 2) (LB xB (eV 0))) (oe 1))) (lA (AA 4 (e2 pE (e2 pA (e2 pA (eV 0) (eV 2)) (oe 1)) (e2 pA (e2 pA (eV 0) (eV 2)) (oe 0)))) (xA (QA (bA (eC (.str "long")) (bA (eV 2) (bA (CT kP (oe 0) (e2 pE (e2 XD (eV 4) (eV 3)) (e2 MB (e2 XD (eV 1) (oe 8)) (oe 3)))) (bA (e2 FB (e2 XD (e2 pE (e2 FB (eV 4) (eV 3)) (oe 1)) (eV 3)) (e2 MB (e2 XD (eV 1) (oe 32)) (oe 3))) eA))))))))
def jN:sB:=HB 2 5 sU
abbrev zj:Pa:=top 66
def iN:RE:=qA pI [] (bA (eV 1) (bA (qA ID [] (bA (eV 2) (bA (e2 FB (oe 10) (eV 0)) eA))) (bA (e2 YA (eV 0) (eV 3)) eA)))
def nN:RS:=lA (AA 3 (qA ID [] (bA (eV 1) (bA (oe 1) eA)))) (lA (VB (pC (mu (e2 YA (LB xB (eV 0)) (oe 1))) (mu (e2 YA (e2 MB (eV 3) (oe 8)) (oe 2)))) (xA (qA jN [] (bA (eV 0) (bA (e2 XD (eV 3) (oe 8)) eA)))) UA) (lA (VB (YI (mu (e2 YA (e2 MB (eV 3) (oe 8)) (oe 3))) (mu (e2 dI (eV 2) (oe 2)))) (lA (AA 4 (e2 FB (oe 1) (e2 MB (e2 XD (eV 3) (oe 8)) (oe 3)))) (lA (AA 5 (e2 MB (e2 XD (eV 3) (oe 24)) (eV 4))) (xA (QA (bA (eC (.str "one")) (bA (UF (ZI (eV 4)) (CA 0) nB iN [none,ε 0,ε 3,ε 5]) eA)))))) UA) (xA (qA pI [] (bA (eV 0) (bA (e2 XD (eV 3) (oe 8)) (bA (e2 tD (e2 MB (e2 XD (eV 3) (oe 8)) (oe 40)) (oe 7)) eA)))))))
def nI:sB:=HB 3 6 nN
abbrev Dj:Pa:=top 67
def TK:RS:=lA (AA 5 (qA nI [] (bA (eV 0) (bA (eV 4) (bA (eV 3) eA))))) (lA (AA 3 (e2 FB (eV 3) (LB RM (e2 YA (e2 pA (eV 5) (oe 0)) (eC (.str "one")))))) (vD (SD (eV 2) (eV 5))))
def FU:RS:=lA (AA 2 (mF eA)) (lA (AA 3 (oe 0)) (lA (GC (UB (eV 1)) (CA 4) TK) (xA (eV 2))))
def YK:sB:=HB 2 6 FU
abbrev Mx:Pa:=top 68
def BV:RS:=lA (AA 5 (QA (bA (eC (.str "ways")) (bA (e2 pA (eV 2) (oe 1)) (bA (e2 vH (oe 8191) (e2 pA (eV 2) (oe 2))) (bA (e2 pA (eV 2) (oe 3)) eA)))))) (lA (VB (pC (TD (mu (kG "tuple" (eV 3)))) (mu (e2 tD (LB xB (eV 3)) (oe 2)))) (xA (eC (.bl false))) UA) (lA (AA 6 (qA AJ [] (bA (eV 4) (bA (eV 1) eA)))) (lA (AA 7 (qA vJ [] (bA (eV 4) (bA (eV 2) eA)))) (lA (AA 8 (lU (e2 YA (e2 pA (qA pG [] (bA (eV 0) (bA (e2 ZE (eV 1) (TC (bA (eV 2) eA))) (bA (oe 3) eA)))) (oe 0)) (eC (.str "open"))) (e2 YA (e2 pA (qA pG [] (bA (eV 0) (bA (e2 ZE (eV 1) (TC (bA (eV 5) eA))) (bA (oe 3) eA)))) (oe 0)) (eC (.str "open"))))) (lA (VB (pC (mu (eV 8)) (mu (e2 YA (e2 pA (eV 3) (oe 0)) (eC (.str "open"))))) (xA (cF (eV 8) (cF (e2 YA (e2 pA (eV 3) (oe 0)) (eC (.str "open"))) (e2 ND (e2 pA (eV 3) (oe 1)) (eC .non))))) UA) (lA (VB (mu (e2 YA (e2 pA (eV 3) (oe 0)) (eC (.str "may")))) (lA (VB (pC (TD (mu (kG "tuple" (e2 pA (eV 3) (oe 1))))) (mu (e2 tD (LB xB (e2 pA (eV 3) (oe 1))) (oe 2)))) (xA (eC (.bl false))) UA) (lA (VB (TD (mu (qA nJ [] (bA (e2 pA (e2 pA (eV 3) (oe 1)) (oe 0)) (bA (eV 0) (bA (e2 uH (eV 1) (TC (bA (eV 2) eA))) eA)))))) (xA (eC (.bl false))) UA) (xA (qA nJ [] (bA (e2 pA (e2 pA (eV 3) (oe 1)) (oe 1)) (bA (eV 0) (bA (e2 uH (eV 1) (TC (bA (eV 5) eA))) eA))))))) UA) (lA (VB (mu (e2 YA (e2 pA (eV 3) (oe 0)) (eC (.str "must")))) (xA (cF (qA EH [] (bA (eV 0) (bA (e2 ZE (eV 1) (TC (bA (eV 5) eA))) (bA (e2 pA (eV 3) (oe 1)) eA)))) (lU (eV 7) (mJ (eV 6))))) UA) (lA (VB (mu (e2 YA (e2 pA (eV 3) (oe 0)) (eC (.str "never")))) (xA (cF (qA EH [] (bA (eV 0) (bA (e2 ZE (eV 1) (TC (bA (eV 2) eA))) (bA (e2 pA (eV 3) (oe 1)) eA)))) (mJ (cF (eV 7) (eV 6))))) UA) (lA (VB (pC (mu (e2 tD (e2 pA (eV 3) (oe 0)) (eC (.str "clash")))) (pC (mu (eV 6)) (pC (TD (mu (kG "tuple" (e2 pA (eV 3) (oe 1))))) (mu (e2 tD (LB xB (e2 pA (eV 3) (oe 1))) (oe 2)))))) (xA (eC (.bl false))) UA) (xA (cF (qA EH [] (bA (eV 0) (bA (e2 ZE (eV 1) (TC (bA (eV 2) eA))) (bA (e2 pA (e2 pA (eV 3) (oe 1)) (oe 0)) eA)))) (qA EH [] (bA (eV 0) (bA (e2 ZE (eV 1) (TC (bA (eV 5) eA))) (bA (e2 pA (e2 pA (eV 3) (oe 1)) (oe 1)) eA)))))))))))))))
def wJ:sB:=HB 5 9 BV
abbrev dP:Pa:=top 69
def IS:RS:=lA (AA 1 (e2 FB (oe 2) (e2 MB (qA sJ [] (bA (eV 0) (bA (oe 0) eA))) (oe 2)))) (lA (AA 2 (qA kI [] (bA (qA sJ [] (bA (eV 0) (bA (oe 1) eA))) (bA (eV 1) eA)))) (lA (AA 3 (qA YK [] (bA (eV 2) (bA (qK (eV 0) (bF (oe 3)) (bF (oe 40))) eA)))) (lA (AA 4 (qA ID [] (bA (qA sJ [] (bA (eV 0) (bA (oe 2) eA))) (bA (oe 2) eA)))) (lA (YM (bD 5 6) (qA iL [] (bA (e2 XD (eV 4) (oe 24)) (bA (eV 1) eA)))) (lA (AA 7 (e2 fI (oe 1) (qA qJ [] (bA (e2 pA (eV 2) (eV 5)) (bA (e2 pA (eV 2) (eV 6)) eA))))) (lA (AA 8 (e2 pA (TC (bA (e2 MB (qA ID [] (bA (eV 4) (bA (oe 5) eA))) (oe 8192)) (bA (eV 7) (bA (e2 vH (oe 8191) (eV 7)) (bA (e2 tH (e2 MB (qA ID [] (bA (eV 4) (bA (oe 6) eA))) (oe 8192)) (eV 7)) eA))))) (e2 MB (eV 4) (oe 4)))) (lA (VB (mu (e2 YA (e2 MB (e2 XD (eV 4) (oe 4)) (oe 6)) (oe 1))) (AA 2 (qA kI [] (bA (eV 4) (bA (eV 1) eA)))) UA) (lA (AA 9 (QA (bA (eC (.str "ways")) (bA (eV 5) (bA (eV 8) (bA (eV 6) eA)))))) (lA (AA 10 (qA qG [] (bA (eV 1) (bA (LB lK (eV 3)) (bA (eV 5) (bA (eV 8) (bA (eV 6) (bA (oe 3) eA)))))))) (lA (VB (TD (mu (qA wJ [] (bA (eV 1) (bA (eV 3) (bA (eV 9) (bA (eV 10) (bA (eV 2) eA)))))))) (xA (eC (.bl false))) UA) (lA (AA 11 (GS [("must", "never"),("never", "must"),("may", "may"),("clash", "clash"),("open", "open")])) (lA (AA 12 (qA qG [] (bA (eV 1) (bA (LB lK (eV 3)) (bA (eV 5) (bA (e2 vH (oe 8191) (eV 8)) (bA (eV 6) (bA (oe 3) eA)))))))) (xA (cF (kG "tuple" (eV 12)) (e2 YA (e2 pA (eV 12) (oe 0)) (iP (eV 11) (e2 pA (eV 10) (oe 0))))))))))))))))))
def OI:sB:=HB 1 13 IS
structure J3(K:Frag)(mg:Str->Option Value)(h:Heap)(de:Addr)(hH:Value)(hI:Addr)(hL:Addr)(hX:Value):Prop where
 X:K.In h
 G:h.Ns mainGlobals mg
 q0:BM K "Search" de
 q1:findIn K (.ref de) "lengths" =ε none
 q2:findIn K (.ref de) "most" =ε none
 q3:findIn K (.ref de) "made" =ε none
 q4:eB K "zones" Np
 q5:eB K "ways_in" jk
 q6:eB K "set_of" Wh
 q7:eB K "turned" Xh
 q8:eB K "chained_sets" Yj
 q9:eB K "wide_row" Xz
 qa:eB K "wide" B6
 qb:eB K "pairs_of" Vz
 qc:eB K "narrowed" Uz
 qd:eB K "left_by" Yk
 qe:eB K "narrows" iy
 qf:eB K "made_of" Zk
 qg:eB K "is_empty" Rz
 qh:eB K "threes_along" vq
 qi:eB K "rounded_from" jq
 qj:eB K "rounded" ak
 qk:eB K "first_net" Ox
 ql:eB K "lengths_in" Zx
 qm:eB K "groups_in" Px
 qn:eB K "only_member" Fq
 qo:eB K "first_loose_pair" kj
 qp:eB K "split_of" Wz
 qq:eB K "grain" Kp
 qr:eB K "length_bounds" Nj
 qs:eB K "point_bounds" aq
 qt:eB K "set_bounds" iz
 qu:eB K "bounds" Vh
 qv:eB K "least_bounds" Zj
 qw:eB K "moved" Lp
 qx:eB K "ring_behind" Gq
 qy:eB K "timed" Mp
 qz:mM K de "__init__" "Search.__init__" ZK
 Q0:mM K de "look" "Search.look" rJ
 Q1:mM K de "look_at_branches" "Search.look_at_branches" PK
 Q2:eB K "stretches_at" nq
 Q3:LS K "planned" wI 200
 Q4:LS K "asked" zI 200
 Q5:eB K "is_three" Tz
 Q6:eB K "behind_steps" Xj
 Q7:eB K "is_ring" Xk
 Q8:eB K "shows" SJ
 Q9:eB K "all_show" yL
 Qa:eB K "follows" Vk
 Qb:eB K "_law_cell_at" Vj
 Qc:eB K "_law_mixed" Xx
 Qd:eB K "_law_pair_by" Wj
 Qe:eB K "_law_whole" Yx
 Qf:eB K "_law_zone" Nx
 Qg:eB K "_law_way_of" Dq
 Qh:eB K "_law_lies" Lx
 Qi:eB K "_law_keeps" Wx
 Qj:eB K "_law_plan_right" fj
 Qk:eB K "_law_stretches_by" Z9
 Ql:eB K "_law_true_ways" Aj
 Qm:eB K "_law_true_length" gj
 Qn:eB K "_law_true_fact" zj
 Qo:eB K "_law_true_facts" Dj
 Qp:eB K "_law_told" Mx
 Qq:eB K "law" dP
 Qr:nsIn K mainGlobals "all" =ε none
 Qs:nsIn K mainGlobals "any" =ε none
 Qt:nsIn K mainGlobals "bool" =ε none
 Qu:nsIn K mainGlobals "enumerate" =ε none
 Qv:nsIn K mainGlobals "int" =ε none
 Qw:nsIn K mainGlobals "isinstance" =ε none
 Qx:nsIn K mainGlobals "len" =ε none
 Qy:nsIn K mainGlobals "list" =ε none
 Qz:nsIn K mainGlobals "max" =ε none
 U0:nsIn K mainGlobals "min" =ε none
 U1:nsIn K mainGlobals "range" =ε none
 U2:nsIn K mainGlobals "set" =ε none
 U3:nsIn K mainGlobals "sum" =ε none
 U4:nsIn K mainGlobals "tuple" =ε none
 U5:nsIn K mainGlobals "zip" =ε none
 U6:nsIn K mainGlobals "ALL" =ε (ε hH)
 U7:mD K 6 hH=ε jM
 U8:nsIn K mainGlobals "ZONES" =ε (ε (.ref hI))
 U9:mD K 6 (.ref hI)=ε jY
 Ua:nsIn K mainGlobals "CHAINED" =ε (ε (.ref hL))
 Ub:mD K 6 (.ref hL)=ε DW
 Uc:nsIn K mainGlobals "SAME" =ε (ε hX)
 Ud:mD K 6 hX=ε OZ
section
variable{P:O4}{w:Pb}{K:Ou}{a:Str->Oa Nu}
theorem qU:Yi (Dn ZK 3) (Dn ZK 3) (jB ZK):=IG
theorem oU:Yi (Dn PK 7) (Dn PK 4) (jB PK):=IG
theorem LU:Yi (Dn rJ 9) (Dn rJ 4) (jB rJ):=IG
theorem SV:Yi (Dn wI 5) (Dn wI 3) (jB wI):=IG
theorem CY:Yi (Dn zI 8) (Dn zI 6) (jB zI):=IG
theorem QV:Yi (Dn yL 6) (Dn yL 4) (jB yL):=IG
theorem DY:Yi (Dn SJ 6) (Dn SJ 4) (jB SJ):=IG
theorem TZ:Yi (Dn dP 13) ["_law_script"] (jB dP):=IG
theorem cT{h:Ri}{j:Oi}{d:Nu}{l:Oi}{i:Oi}{g:Nu}(T:J3 K a h j d l i g){b:Ri}{x:Str}{st:Pa}{k n m:Nat}{body:RS}(D:eB K x st)(B:∀{f:Oi}{e:Nu}{A:Pu}{outer:Ni Env}{s:Oe}{H:Hp}{E:XK},(Dn st m).Nodup->Xe k (A.deeper (envOfC x (jB st) s.heap.objs.size f e))->mH (oE GF P w K a b (Dn st m) x (jB st) f e A outer s H E).nox (CC st) body)(y:∀(kV o q:Nu)(C:Oa Oi)(e ct:Nu)(us:Ni Nu),us.length=n->bindArgs (fnOf x x (bE st) (CC st) (jB st) .none kV o q C e ct) ⟨us,[]⟩=pure (((Dn st m).take n).zip us):=by intro _ _ _ _ _ _;first | exact DK rfl | exact len1 fun z=>rfl | exact EK fun z z=>rfl | exact iJ fun z z z=>rfl | exact qH fun z z z z=>rfl | exact VT fun z z z z z=>rfl | exact WT fun z z z z z z=>rfl)(S:Yi (Dn st m) ((Dn st m).take n) (jB st):=by exact IG)(p:((Dn st m).take n).length=n:=by rfl)(u:(Dn st m).length=m:=by rfl):jC P w K a b (k+1) n x (HB n m body):=MO (NL T.X T.G D (by rw[p];exact y)) S p u fun z z z z z z z r=>B S.nd r
theorem zN{h:Ri}{j:Oi}{d:Nu}{l:Oi}{i:Oi}{g:Nu}(T:J3 K a h j d l i g){x:Str}(e:nsIn K mainGlobals x=ε none):a x=none:=mg_none_of T.X T.G e
variable{h:Ri}{j:Oi}{d:Nu}{l:Oi}{i:Oi}{g:Nu}(T:J3 K a h j d l i g){b:Ri}
include T
theorem Vw:jC P w K a b 1 1 "zones" NR:=cT T T.q4 fun S r=>rA (yA (iA (DI rfl (⟨⟨_,6,PySem.W.mg_of T.X T.G T.U8,T.U9⟩⟩)) (aA 0)))
theorem zJ:jC P w K a b 1 1 "ways_in" QG:=cT T T.q5 fun S r=>rA (yA (OE (OF rfl (zN T T.U1) dA) (iG 0) (yS (SA (OB r.units) (uA xI (uA XZ (aA 1) (aA 0)) dA) dA)) (aA 0)))
theorem Gz:jC P w K a b 1 1 "set_of" bO:=cT T T.q6 fun S r=>rA (yA (MZ rfl rfl (zN T T.U3) (OE (uC (aA 0)) (iG 0) (BD) (uA aP dA (aA 0)))))
theorem uz:jC P w K a b 2 1 "turned" cO:=cT T T.q7 fun S r=>rA (yA (FA (Gz T) r (cA (OE (uC (FA (zJ T) r (cA (aA 0) gA))) (iG 0) (BD) (uA ZF dA (aA 0))) gA)))
theorem Fj:jC P w K a b 2 2 "chained_sets" xN:=cT T T.q8 fun S r=>nA (IA 2 S (FA (zJ T) r (cA (aA 1) gA))) (nA (IA 3 S dA) (nA (XC m5 rfl (uC (FA (zJ T) r (cA (aA 0) gA))) (kD 4 S) (rA (XC m5 rfl (uC (aA 2)) (kD 5 S) (rA (IA 3 S (uA ZO (aA 3) (iA (iA (DI rfl (⟨⟨_,6,PySem.W.mg_of T.X T.G T.Ua,T.Ub⟩⟩)) (aA 4)) (aA 5)))))))) (rA (yA (aA 3)))))
theorem Rq:jC P w K a b 1 2 "wide_row" RN:=cT T T.q9 fun S r=>rA (yA (uA ZG (uA kS (LZ (DI rfl (⟨⟨_,6,PySem.W.mg_of T.X T.G T.U6,T.U7⟩⟩)) (aA 1)) (RD (cA (DI rfl (⟨⟨_,6,PySem.W.mg_of T.X T.G T.Uc,T.Ud⟩⟩)) gA))) (LZ (DI rfl (⟨⟨_,6,PySem.W.mg_of T.X T.G T.U6,T.U7⟩⟩)) (uA ZF (uA ZF (aA 0) (aA 1)) dA))))
theorem Gh:jC P w K a b 2 1 "wide" LO:=cT T T.qa fun S r=>rA (yA (ZW (OF rfl (zN T T.U1) (aA 0)) (iG 0) (BD) (FA (Rq T) r (cA (aA 1) (cA (aA 0) gA)))))
theorem KN:jC P w K a b 1 1 "pairs_of" BH:=cT T T.qb fun S r=>nA (IA 1 S (uG gA)) (nA (XC m5 rfl (OF rfl (zN T T.U1) (aA 0)) (kD 2 S) (rA (XC m5 rfl (sy rfl (zN T T.U1) (uA hC (aA 2) dA) (aA 0)) (kD 3 S) (rA (uE (NF (aA 1) (ZA (cA (aA 2) (cA (aA 3) gA))))))))) (rA (yA (aA 1))))
theorem JN:jC P w K a b 3 4 "narrowed" tI:=cT T T.qc fun S r=>nA (FQ 4 S (uC (aA 0)) (iG 0) (BD) (jR rfl (zN T T.Qy) (aA 0))) (nA (oO (uA xI (iA (iA (aA 0) (aA 1)) (aA 3)) (aA 2)) (iA (aA 4) (aA 1)) (aA 3)) (nA (oO (FA (uz T) r (cA (iA (iA (aA 4) (aA 1)) (aA 3)) gA)) (iA (aA 4) (aA 3)) (aA 1)) (rA (yA (aA 4)))))
theorem FV:jC P w K a b 3 2 "left_by" tL:=cT T T.qd fun S r=>nA (IA 2 S (iA (iA (aA 0) (iA (aA 1) dA)) (iA (aA 1) dA))) (nA (IA 3 S (iA (iA (aA 0) (iA (aA 1) dA)) (iA (aA 1) dA))) (rA (yA (uA xI (iA (iA (aA 0) (iA (aA 1) dA)) (iA (aA 1) dA)) (FA (Fj T) r (cA (aA 2) (cA (aA 3) gA)))))))
theorem HV:jC P w K a b 4 2 "narrows" vL:=cT T T.qe fun S r=>rA (yA (VE (QE r.units) (FA (FV T) r (cA (aA 0) (cA (aA 1) gA))) (iA (iA (aA 0) (iA (aA 1) dA)) (iA (aA 1) dA))))
theorem GV:jC P w K a b 4 2 "made_of" uL:=cT T T.qf fun S r=>rA (yA (FA (JN T) r (cA (aA 0) (cA (iA (aA 1) dA) (cA (FA (FV T) r (cA (aA 0) (cA (aA 1) gA))) (cA (iA (aA 1) dA) gA))))))
theorem IN:jC P w K a b 1 1 "is_empty" QF:=cT T T.qg fun S r=>rA (yA (Vl rfl rfl (zN T T.Qs) (OE (uC (aA 0)) (iG 0) (BD) (VE z8 dA (aA 0)))))
theorem Hj:jC P w K a b 1 2 "threes_along" BN:=cT T T.qh fun S r=>nA (IA 2 S (uG gA)) (nA (XC m5 rfl (OF rfl (zN T T.U1) (aA 1)) (kD 3 S) (rA (gB (SA Br (aA 3) (aA 0)) (nA (uE (NF (aA 2) (ZA (cA (iA (aA 0) dA) (cA (iA (aA 0) dA) (cA (aA 3) gA)))))) (rA (uE (NF (aA 2) (ZA (cA (iA (aA 0) dA) (cA (iA (aA 0) dA) (cA (aA 3) gA)))))))) iB))) (rA (yA (aA 2))))
theorem CU:jC P w K a b 5 2 "rounded_from" mI:=cT T T.qi fun S r=>nA (IA 2 S (uG gA)) (nA (gB (rD (FA (IN T) r (cA (aA 0) gA))) (rA (yA (ZA (cA kE (cA (aA 2) gA))))) iB) (nA (FQ 3 S (uC (aA 0)) (iG 0) (BD) (jR rfl (zN T T.Qy) (aA 0))) (nA (IA 4 S (jR rfl (zN T T.Qy) (aA 1))) (nA (uY m5 (SA (dM r.units) (aA 4) (RD gA)) (nA (IA 5 S (Sg (aA 4) dA)) (rA (XC m5 rfl (uC (FA (Hj T) r (cA (aA 5) (cA (xC rfl (zN T T.Qx) (aA 0)) gA)))) (kD 6 S) (rA (gB (rD (FA (HV T) r (cA (aA 3) (cA (aA 6) gA)))) (nA (IA 3 S (FA (GV T) r (cA (aA 3) (cA (aA 6) gA)))) (nA (uE (NF (aA 2) (aA 6))) (nA (gB (SA (lS r.units) (iA (iA (aA 3) (iA (aA 6) dA)) (iA (aA 6) dA)) dA) (rA (yA (ZA (cA kE (cA (aA 2) gA))))) iB) (rA (uE (NF (aA 4) (ZA (cA (iA (aA 6) dA) (cA (iA (aA 6) dA) gA))))))))) iB)))))) (rA (yA (ZA (cA (aA 3) (cA (aA 2) gA)))))))))
theorem yx:jC P w K a b 6 1 "rounded" DJ:=cT T T.qj fun S r=>rA (yA (FA (CU T) r (cA (aA 0) (cA (FA (KN T) r (cA (xC rfl (zN T T.Qx) (aA 0)) gA)) gA))))
theorem fV:jC P w K a b 4 2 "first_net" xJ:=cT T T.qk fun S r=>nA (IA 2 S (FA (Gh T) r (cA (aA 0) gA))) (nA (XC m5 rfl (uC (aA 1)) (kD 3 S) (rA (gB (SA (OB r.units) (iA (aA 3) dA) qB) (rA (IA 2 S (FA (JN T) r (cA (aA 2) (cA (iA (aA 3) dA) (cA (iA (aA 3) dA) (cA (iA (aA 3) dA) gA))))))) iB))) (rA (yA (aA 2))))
theorem IU:jC P w K a b 1 1 "lengths_in" bL:=cT T T.ql fun S r=>rA (yA (OE (uC (aA 0)) (iG 0) (yS (SA (OB r.units) (iA (aA 0) dA) qB)) (ZA (cA (iA (aA 0) dA) (cA (iA (aA 0) dA) (cA (iA (aA 0) dA) gA))))))
theorem hV:jC P w K a b 1 1 "groups_in" yJ:=cT T T.qm fun S r=>rA (yA (OE (uC (aA 0)) (iG 0) (yS (SA (OB r.units) (iA (aA 0) dA) qB)) (iA (aA 0) dA)))
theorem wj:jC P w K a b 4 3 "only_member" vN:=cT T T.qn fun S r=>nA (XC m5 rfl (Af rfl (zN T T.Qu) (aA 1)) (ZL 3 4 rfl S) (nA (IA 5 S (kT (SA (OB r.units) (aA 3) (aA 2)) (iA (aA 4) dA) (uA xI (DI rfl (⟨⟨_,6,PySem.W.mg_of T.X T.G T.U6,T.U7⟩⟩)) (Xl (iA (aA 4) dA))))) (rA (IA 0 S (FA (JN T) r (cA (aA 0) (cA (iA (aA 4) dA) (cA (aA 5) (cA (iA (aA 4) dA) gA))))))))) (rA (yA (aA 0)))
theorem W9:jC P w K a b 2 1 "first_loose_pair" SK:=cT T T.qo fun S r=>nA (XC m5 rfl (uC (FA (KN T) r (cA (xC rfl (zN T T.Qx) (aA 0)) gA))) (kD 1 S) (rA (gB (SA uP (xC rfl (zN T T.Qx) (FA (zJ T) r (cA (iA (iA (aA 0) (iA (aA 1) dA)) (iA (aA 1) dA)) gA))) dA) (rA (yA (aA 1))) iB))) (rA (yA kE))
theorem VU:jC P w K a b 5 2 "split_of" dF:=cT T T.qp fun S r=>nA (gB (SA (dM r.units) (aA 1) (RD gA)) (nA (IA 2 S (iA (aA 1) dA)) (nA (TQ 3 S (OF rfl (zN T T.U1) (xC rfl (zN T T.Qx) (aA 2))) (iG 0) (BD) (FA (wj T) r (cA (aA 1) (cA (aA 2) (cA (aA 0) gA))))) (rA (yA (ZA (cA qB (cA (ZA gA) (cA (aA 3) (cA (OE (uC (aA 2)) (iG 0) (BD) (ZA (cA (iA (aA 0) dA) (cA (iA (aA 0) dA) gA)))) gA))))))))) iB) (nA (IA 4 S (FA (W9 T) r (cA (aA 0) gA))) (nA (gB (SA JI (aA 4) kE) (rA (yA kE)) iB) (nA (IA 5 S (iA (iA (aA 0) (iA (aA 4) dA)) (iA (aA 4) dA))) (nA (TQ 3 S (uC (FA (zJ T) r (cA (aA 5) gA))) (iG 0) (BD) (FA (JN T) r (cA (aA 1) (cA (iA (aA 2) dA) (cA (uA aP dA (aA 0)) (cA (iA (aA 2) dA) gA)))))) (rA (yA (ZA (cA qB (cA (aA 4) (cA (aA 3) (cA (RD (cA (aA 4) gA)) gA)))))))))))
theorem Sw:jC P w K a b 1 1 "grain" SL:=cT T T.qq fun S r=>rA (yA (uA hC (uA JD dA (aA 0)) dA))
theorem aj:jC P w K a b 1 2 "length_bounds" UK:=cT T T.qr fun S r=>nA (IA 2 S (uA JD dA (iA (aA 0) dA))) (rA (yA (uG (cA (ZA (cA (aA 2) (cA (uA hC (aA 2) dA) (cA (uA JD (cH (iA (aA 0) dA)) (aA 1)) gA)))) (cA (ZA (cA (uA hC (aA 2) dA) (cA (aA 2) (cA (uA JD (iA (aA 0) dA) (aA 1)) gA)))) gA)))))
theorem BU:jC P w K a b 1 4 "point_bounds" lI:=cT T T.qs fun S r=>nA (IA 4 S (uG gA)) (nA (gB (SA L1 (KZ rfl rfl (zN T T.Qz) (aA 3)) (aA 2)) (rA (uE (NF (aA 4) (ZA (cA (aA 0) (cA (aA 1) (cA (kT (SA gH (KZ rfl rfl (zN T T.Qz) (aA 3)) (aA 2)) (cH dA) dA) gA))))))) iB) (nA (gB (SA US (mS rfl rfl (zN T T.U0) (aA 3)) (aA 2)) (rA (uE (NF (aA 4) (ZA (cA (aA 1) (cA (aA 0) (cA (kT (SA uP (mS rfl rfl (zN T T.U0) (aA 3)) (aA 2)) (cH dA) dA) gA))))))) iB) (rA (yA (aA 4)))))
theorem Oj:jC P w K a b 2 3 "set_bounds" cL:=cT T T.qt fun S r=>nA (IA 3 S (uG gA)) (nA (XC m5 rfl (OF rfl (zN T T.U1) dA) (kD 4 S) (nA (TQ 5 S (uC (FA (zJ T) r (cA (aA 1) gA))) (iG 0) (BD) (iA (FA (Vw T) r (cA (aA 0) gA)) (aA 1))) (nA (uE (ON (aA 3) (FA (BU T) r (cA (uA hC (uA JD dA (aA 0)) (aA 4)) (cA (uA JD dA (aA 2)) (cA dA (cA (aA 5) gA))))))) (rA (uE (ON (aA 3) (FA (BU T) r (cA (uA hC (uA JD dA (aA 0)) (aA 4)) (cA (uA hC (uA JD dA (aA 2)) dA) (cA dA (cA (aA 5) gA))))))))))) (rA (yA (aA 3))))
theorem xV:jC P w K a b 3 2 "bounds" DH:=cT T T.qu fun S r=>nA (FQ 2 S (OF rfl (zN T T.U1) (xC rfl (zN T T.Qx) (aA 0))) (iG 0) (BD) (ZA (cA (uA JD dA (aA 0)) (cA (uA hC (uA JD dA (aA 0)) dA) (cA (cH dA) gA))))) (nA (XC m5 rfl (uC (aA 1)) (kD 3 S) (rA (uE (ON (aA 2) (FA (aj T) r (cA (aA 3) (cA (FA (Sw T) r (cA (xC rfl (zN T T.Qx) (aA 0)) gA)) gA))))))) (nA (XC m5 rfl (uC (FA (KN T) r (cA (xC rfl (zN T T.Qx) (aA 0)) gA))) (kD 4 S) (rA (uE (ON (aA 2) (FA (Oj T) r (cA (iA (aA 4) dA) (cA (iA (iA (aA 0) (iA (aA 4) dA)) (iA (aA 4) dA)) (cA (iA (aA 4) dA) gA)))))))) (rA (yA (aA 2)))))
theorem AU:jC P w K a b 1 1 "least_bounds" uJ:=cT T T.qv fun S r=>nA (IA 1 S jd) (nA (XC m5 rfl (uC (aA 0)) (kD 2 S) (nA (IA 3 S (vp (cA (iA (aA 2) dA) (cA (iA (aA 2) dA) gA)))) (rA (ja r.units (Gd rfl rfl (zN T T.U0) (Og r.units (aA 1) (aA 3) (iA (aA 2) dA)) (iA (aA 2) dA)) (aA 1) (aA 3))))) (rA (yA (aA 1))))
theorem Tw:jC P w K a b 1 3 "moved" QJ:=cT T T.qw fun S r=>nA (IA 3 S kE) (nA (XC m5 rfl (Vg (aA 0)) (ZL 4 5 rfl S) (rA (gB (SA uP (iA (aA 1) (iA (aA 4) dA)) (uA hC (iA (aA 1) (iA (aA 4) dA)) (aA 5))) (nA (oO (uA hC (iA (aA 1) (iA (aA 4) dA)) (aA 5)) (aA 1) (iA (aA 4) dA)) (nA (oO (iA (aA 4) dA) (aA 2) (iA (aA 4) dA)) (rA (IA 3 S (iA (aA 4) dA))))) iB))) (rA (yA (aA 3))))
theorem Pj:jC P w K a b 1 2 "ring_behind" wN:=cT T T.qx fun S r=>nA (XC m5 rfl (OF rfl (zN T T.U1) (xC rfl (zN T T.Qx) (aA 1))) (kD 2 S) (rA (IA 0 S (iA (aA 1) (aA 0))))) (nA (IA 3 S (uG (cA (aA 0) (cA (iA (aA 1) (aA 0)) gA)))) (nA (uY m5 (SA (QE r.units) (iA (aA 3) (cH dA)) (aA 0)) (rA (uE (NF (aA 3) (iA (aA 1) (iA (aA 3) (cH dA))))))) (rA (yA (aA 3)))))
theorem Uw:jC P w K a b 2 2 "timed" KH:=cT T T.qy fun S r=>nA (IA 2 S (FA (AU T) r (cA (aA 1) gA))) (nA (IA 3 S (cZ dA (aA 0))) (nA (IA 4 S (cZ kE (aA 0))) (nA (XC m5 rfl (OF rfl (zN T T.U1) (uA hC (aA 0) dA)) (kD 5 S) (nA (IA 6 S (FA (Tw T) r (cA (aA 2) (cA (aA 3) (cA (aA 4) gA))))) (rA (gB (SA JI (aA 6) kE) (nA (IA 7 S (Jd rfl rfl (zN T T.U0) (aA 3) dA)) (rA (yA (ZA (cA qB (cA (OE (uC (aA 3)) (iG 0) (BD) (uA ZF (aA 0) (aA 1))) gA)))))) iB)))) (rA (yA (ZA (cA qB (cA (FA (Pj T) r (cA (aA 6) (cA (aA 4) gA))) gA))))))))
theorem Gx:HP P w K a b 1 3 "Search" WK:=
 by unfold WK;exact Vn (k:=0) (body:=sQ) (Xg (ps:=Dn ZK 3) T.X T.G T.q0 T.qz fun q q q q q q=>iJ (fun q q q=>rfl)) qU rfl rfl fun q q q q q q q r=>have S:=Yi.nd qU;nA (VO (YG T.q0 T.q1) (aA 0) (aA 1)) (nA (VO (YG T.q0 T.q2) (aA 0) (aA 2)) (rA (VO (YG T.q0 T.q3) (aA 0) dA)))
theorem Gj:jC P w K a b 1 1 "stretches_at" yN:=cT T T.Q2 fun S r=>rA (yA (OE (zy (c:=2) rfl (zN T T.U1) dA (xC rfl (zN T T.Qx) (aA 0)) dA) (iG 0) (BD) (ZA (cA (iA (aA 1) (aA 0)) (cA (iA (aA 1) (uA hC (aA 0) dA)) gA)))))
theorem T9 {R:sB} {k:Nat} (f:5<=k) (e:lH P w K a b k 4 "Search" "look" R):lH P w K a b (k+1) 4 "Search" "look_at_branches" (yH R):=
 by unfold yH;exact nZ (k:=k) (body:=RK R) (wR (ps:=Dn PK 4) T.q0 T.Q1 fun q q q q q q=>qH (fun q q q q=>rfl)) oU rfl rfl fun q q q q q q q r=>have S:=Yi.nd oU;nA (IA 4 S (uG gA)) (nA (XC m5 rfl (uC (iA (aA 1) dA)) (kD 5 S) (nA (IA 6 S (JR e r nofun (aA 0) (cA (aA 5) (cA (iA (aA 1) dA) (cA (aA 3) gA))))) (nA (gB (SA (QE r.units) (iA (aA 6) dA) qB) (rA (yA (aA 6))) iB) (rA (uE (NF (aA 4) (iA (aA 6) dA))))))) (rA (yA (ZA (cA qB (cA (uA qZ (uA qZ (ZA (cA (iA (aA 1) dA) (cA (aA 2) gA))) (iA (aA 1) dA)) (ZA (cA (aA 4) gA))) gA))))))
theorem dj {R:sB} {k:Nat} (e:5<=k) (f:lH P w K a b k 4 "Search" "look" R):lH P w K a b (k+2) 4 "Search" "look" (HB 4 9 (pJ R)):=
 nZ (k:=k+1) (body:=pJ R) (wR (ps:=Dn rJ 4) T.q0 T.Q0 fun q q q q q q=>qH (fun q q q q=>rfl)) LU rfl rfl fun q q q q q q q r=>have S:=Yi.nd LU;nA (IA 4 S (sE (CU T) r nofun rfl (cA (aA 1) (cA (aA 2) gA)))) (nA (IA 5 S (iA (aA 4) dA)) (nA (IA 6 S (iA (aA 4) dA)) (nA (gB (SA JI (aA 5) kE) (rA (yA (ZA (cA qB (cA (ZA (cA qB (cA (aA 6) gA))) gA))))) iB) (nA (IA 7 S (sE (Uw T) r nofun rfl (cA (uA JD dA (xC rfl (zN T T.Qx) (aA 5))) (cA (sE (xV T) r nofun rfl (cA (aA 5) (cA (YL (YG T.q0 T.q1) (aA 0)) gA))) gA)))) (nA (gB (SA (OB r.units) (iA (aA 7) dA) qB) (rA (yA (ZA (cA qB (cA (ZA (cA qB (cA (aA 6) (cA (iA (aA 7) dA) gA)))) gA))))) iB) (nA (IA 8 S (sE (VU T) r nofun rfl (cA (aA 5) (cA (aA 3) gA)))) (nA (gB (SA JI (aA 8) kE) (rA (yA (ZA (cA qB (cA (sE (Gj T) r nofun rfl (cA (iA (aA 7) dA) gA)) gA))))) iB) (nA (gB (SA US (YL (YG T.q0 T.q3) (aA 0)) (YL (YG T.q0 T.q2) (aA 0))) (rA (yA (ZA (cA qB (cA kE gA))))) iB) (nA (VO (YG T.q0 T.q3) (aA 0) (uA hC (YL (YG T.q0 T.q3) (aA 0)) dA)) (rA (yA (JR (T9 T e f) r nofun (aA 0) (cA (aA 8) (cA (aA 6) (cA (pO (aA 3) (yI dA) YR) gA)))))))))))))))
theorem DU:∀n:Nat,lH P w K a b (5+2*n) 4 "Search" "look" (KE n)
 | 0=>Am (wR (ps:=Dn rJ 4) T.q0 T.Q0 fun q q q q q q=>qH (fun q q q q=>rfl))
 | n+1=>dj T (Le _ _) (DU n)
theorem Sq {dds:Ni Dt} (D:DM K a "planned" wI (Dn wI 3) dds):bJ P w K a b 30 3 "planned" pG dds:=
 by unfold pG;exact mY (k:=29) (body:=aR) D SV rfl rfl fun q q q q q q q r=>have S:=Yi.nd SV;nA (IA 3 S (Cd (Gx T) r (by decide) rfl (cA (FA (IU T) r (cA (aA 1) gA)) (cA (aA 2) gA)))) (nA (IA 4 S (JR (DU T 12) r (by decide) (aA 3) (cA (FA (fV T) r (cA (aA 0) (cA (aA 1) gA))) (cA (FA (KN T) r (cA (aA 0) gA)) (cA (FA (hV T) r (cA (aA 1) gA)) gA))))) (rA (yA (ZA (cA (iA (aA 4) dA) (cA (iA (aA 4) dA) (cA (YL (YG T.q0 T.q3) (aA 3)) gA)))))))
theorem CN:bJ P w K a b 30 3 "planned" pG []:=Sq T (ZY (ps:=Dn wI 3) T.X T.G T.Q3 fun q q q q q q q q q q q=>iJ fun q q q f e=>BindsTo.of_defaults rfl f e rfl rfl)
theorem wz {dds:Ni Dt} (D:DM K a "asked" zI (Dn zI 6) dds):bJ P w K a b 31 6 "asked" qG dds:=
 by unfold qG;exact mY (k:=30) (body:=LR) D CY rfl rfl fun q q q q q q q r=>have S:=Yi.nd CY;nA (IA 6 S (HJ (CN T) r (by decide) rfl (cA (aA 0) (cA (uA ZG (aA 1) (RD (cA (ZA (cA qB (cA (aA 2) (cA (aA 3) (cA (aA 4) gA))))) gA))) (cA (aA 5) gA))))) (nA (IA 7 S (HJ (CN T) r (by decide) rfl (cA (aA 0) (cA (uA ZG (aA 1) (RD (cA (ZA (cA qB (cA (aA 2) (cA (uA ZF (DI rfl (⟨⟨_,6,PySem.W.mg_of T.X T.G T.U6,T.U7⟩⟩)) (aA 3)) (cA (aA 4) gA))))) gA))) (cA (aA 5) gA))))) (nA (gB (WM.tm (wD (SA (OB r.units) (iA (aA 6) dA) qB) (iF (SA (OB r.units) (iA (aA 7) dA) qB)))) (rA (yA (ZA (cA qB (cA kE gA))))) iB) (nA (gB (WM.tm (UO (SA (OB r.units) (iA (aA 6) dA) qB) (DO (SA (OB r.units) (iA (aA 7) dA) qB)))) (rA (yA (ZA (cA qB (cA (ZA (cA (iA (aA 6) dA) (cA (iA (aA 7) dA) gA))) gA))))) iB) (nA (gB (SA (OB r.units) (iA (aA 7) dA) qB) (rA (yA (ZA (cA qB (cA (iA (aA 7) dA) gA))))) iB) (nA (gB (SA (OB r.units) (iA (aA 6) dA) qB) (rA (yA (ZA (cA qB (cA (iA (aA 6) dA) gA))))) iB) (rA (yA (ZA (cA qB (cA (ZA (cA (iA (aA 6) dA) (cA (iA (aA 7) dA) gA))) gA))))))))))
theorem WU:bJ P w K a b 31 6 "asked" qG []:=wz T (ZY (ps:=Dn zI 6) T.X T.G T.Q4 fun q q q q q q q q q q q=>WT fun q q q q q q f e=>BindsTo.of_defaults rfl f e rfl rfl)
theorem Pq:jC P w K a b 1 2 "is_three" lL:=cT T T.Q5 fun S r=>rA (yA (tG (VE (OB r.units) (Cv rfl rfl (zN T T.Qx) rfl (zN T T.U2) (aA 0)) dA) (VF (JZ rfl rfl (zN T T.Qr) (OE (Rm (aA 0)) (iG 0) (BD) (Mg L1 gH dA (aA 0) (aA 1)))))))
theorem Ej:jC P w K a b 5 2 "behind_steps" tJ:=cT T T.Q6 fun S r=>nA (XC m5 rfl (uC (aA 1)) (kD 2 S) (nA (gB (WM.tm (wD (rD (FA (IN T) r (cA (aA 0) gA))) (wD (UE (rD (FA (Pq T) r (cA (aA 2) (cA (xC rfl (zN T T.Qx) (aA 0)) gA))))) (iF (UE (rD (FA (HV T) r (cA (aA 0) (cA (aA 2) gA))))))))) (rA (yA kE)) iB) (rA (IA 0 S (FA (GV T) r (cA (aA 0) (cA (aA 2) gA))))))) (rA (yA (aA 0)))
theorem jx:jC P w K a b 2 2 "is_ring" qI:=cT T T.Q7 fun S r=>nA (gB (WM.tm (wD (SA gH (xC rfl (zN T T.Qx) (aA 0)) dA) (wD (SA (QE r.units) (iA (aA 0) dA) (iA (aA 0) (cH dA))) (iF (SA (QE r.units) (Dw rfl rfl (zN T T.Qx) rfl (zN T T.U2) (aA 0)) (uA ZF (xC rfl (zN T T.Qx) (aA 0)) dA)))))) (rA (yA pD)) iB) (nA (IA 2 S (FA (AU T) r (cA (aA 1) gA))) (nA (IA 3 S (Dv rfl rfl (zN T T.Qy) rfl (zN T T.U5) (aA 0) (pO (aA 0) (yI dA) YR))) (nA (gB (UE (rD (JZ rfl rfl (zN T T.Qr) (OE (uC (aA 3)) (iG 0) (BD) (Yl r.units (aA 0) (aA 1)))))) (rA (yA pD)) iB) (rA (yA (VE gH (MZ rfl rfl (zN T T.U3) (OE (uC (aA 3)) (iG 0) (BD) (Kd r.units (aA 1) (aA 0)))) dA))))))
theorem Oq {R:sB} {k:Nat} (f:6<=k) (e:jC P w K a b k 4 "shows" R):jC P w K a b (k+1) 4 "all_show" (zH R):=
 by unfold zH;exact MO (k:=k) (body:=kL R) (NL (ps:=Dn yL 4) T.X T.G T.Q9 fun q q q q q q=>qH (fun q q q q=>rfl)) QV rfl rfl fun q q q q q q q r=>have S:=Yi.nd QV;nA (gB (SA (QE r.units) (xC rfl (zN T T.Qx) (aA 0)) (xC rfl (zN T T.Qx) (aA 3))) (rA (yA pD)) iB) (nA (XC m5 rfl (Um rfl (zN T T.U5) (aA 0) (aA 3)) (ZL 4 5 rfl S) (rA (gB (UE (rD (sE e r nofun rfl (cA (aA 4) (cA (aA 1) (cA (aA 2) (cA (aA 5) gA))))))) (rA (yA pD)) iB))) (rA (yA pD)))
theorem zx {R:sB} {k:Nat} (e:6<=k) (f:jC P w K a b k 4 "shows" R):jC P w K a b (k+2) 4 "shows" (HB 4 6 (PJ R)):=
 MO (k:=k+1) (body:=PJ R) (NL (ps:=Dn SJ 4) T.X T.G T.Q8 fun q q q q q q=>qH (fun q q q q=>rfl)) DY rfl rfl fun q q q q q q q r=>have S:=Yi.nd DY;nA (IA 4 S (sE (Ej T) r nofun rfl (cA (aA 0) (cA (iA (aA 3) dA) gA)))) (nA (gB (SA JI (aA 4) kE) (rA (yA pD)) iB) (nA (gB (SA (lS r.units) (iA (aA 3) dA) qB) (rA (yA (sE (IN T) r nofun rfl (cA (aA 4) gA)))) iB) (nA (gB (WM.tm (wD (rD (sE (IN T) r nofun rfl (cA (aA 4) gA))) (iF (SA (dM r.units) (iA (sE (yx T) r nofun rfl (cA (aA 4) gA)) dA) (RD gA))))) (rA (yA pD)) iB) (nA (gB (SA (lS r.units) (iA (aA 3) dA) qB) (rA (yA (sE (jx T) r nofun rfl (cA (iA (aA 3) dA) (cA (sE (xV T) r nofun rfl (cA (aA 4) (cA (aA 2) gA))) gA))))) iB) (nA (IA 5 S (sE (VU T) r nofun rfl (cA (aA 4) (cA (aA 1) gA)))) (nA (gB (WM.tm (wD (SA JI (aA 5) kE) (wD (SA (dM r.units) (iA (aA 5) dA) (iA (aA 3) dA)) (iF (SA (dM r.units) (iA (aA 5) dA) (Ew (aA 3) (yI dA) (yI (cH dA)))))))) (rA (yA pD)) iB) (rA (yA (sE (Oq T e f) r nofun rfl (cA (iA (aA 5) dA) (cA (pO (aA 1) (yI dA) YR) (cA (aA 2) (cA (iA (aA 3) (cH dA)) gA)))))))))))))
theorem JW:∀n:Nat,jC P w K a b (6+2*n) 4 "shows" (JH n)
 | 0=>El (NL (ps:=Dn SJ 4) T.X T.G T.Q8 fun q q q q q q=>qH (fun q q q q=>rfl))
 | n+1=>zx T (Le _ _) (JW n)
theorem HN:jC P w K a b 31 3 "follows" EH:=cT T T.Qa fun S r=>rA (yA (FA (JW T 12) r (cA (FA (fV T) r (cA (aA 0) (cA (aA 1) gA))) (cA (FA (hV T) r (cA (aA 1) gA)) (cA (FA (IU T) r (cA (aA 1) gA)) (cA (aA 2) gA))))))
theorem rQ:jC P w K a b 1 2 "_law_cell_at" sJ:=cT T T.Qb fun S r=>nA (gB (SA gH (aA 1) (xC rfl (zN T T.Qx) (aA 0))) (rA (yA (iA (aA 0) (aA 1)))) iB) (rA (yA dA))
theorem MG:jC P w K a b 1 2 "_law_mixed" ID:=cT T T.Qc fun S r=>nA (IA 2 S (uA WC (uA JD (uA hC (uA hC (uA WC (aA 0) dA) (uA JD dA (aA 1))) dA) dA) dA)) (rA (yA (uA WC (uA JD (aA 2) (uA hC (uA hC (uA WC (aA 2) dA) (aA 1)) dA)) dA)))
theorem zU:jC P w K a b 1 2 "_law_pair_by" iL:=cT T T.Qd fun S r=>nA (IA 2 S (uA WC (aA 0) (aA 1))) (rA (yA (ZA (cA (aA 2) (cA (uA WC (uA hC (uA hC (aA 2) dA) (uA WC (uA yF (aA 0) (aA 1)) (uA ZF (aA 1) dA))) (aA 1)) gA)))))
theorem HU:jC P w K a b 1 1 "_law_whole" aL:=cT T T.Qe fun S r=>rA (yA (tG (QH rfl (zN T T.Qw) rfl (zN T T.Qv) PyProof.Rows.boot_int (by decide) (aA 0)) (VF (oS (QH rfl (zN T T.Qw) rfl (zN T T.Qt) PyProof.Rows.boot_bool (by decide) (aA 0))))))
theorem cV:jC P w K a b 1 2 "_law_zone" mL:=cT T T.Qf fun S r=>nA (gB (SA gH (aA 0) (iA (aA 1) dA)) (rA (yA dA)) iB) (nA (gB (SA (OB r.units) (aA 0) (iA (aA 1) dA)) (rA (yA dA)) iB) (nA (gB (SA gH (aA 0) (iA (aA 1) dA)) (rA (yA dA)) iB) (nA (gB (SA (OB r.units) (aA 0) (iA (aA 1) dA)) (rA (yA dA)) iB) (rA (yA dA)))))
theorem yQ:jC P w K a b 2 2 "_law_way_of" qJ:=cT T T.Qg fun S r=>nA (IA 2 S (RD (cA (ZA (cA dA (cA dA gA))) (cA (ZA (cA dA (cA dA gA))) (cA (ZA (cA dA (cA dA gA))) (cA (ZA (cA dA (cA dA gA))) (cA (ZA (cA dA (cA dA gA))) (cA (ZA (cA dA (cA dA gA))) (cA (ZA (cA dA (cA dA gA))) (cA (ZA (cA dA (cA dA gA))) (cA (ZA (cA dA (cA dA gA))) (cA (ZA (cA dA (cA dA gA))) (cA (ZA (cA dA (cA dA gA))) (cA (ZA (cA dA (cA dA gA))) (cA (ZA (cA dA (cA dA gA))) gA))))))))))))))) (rA (yA (Pg r.units (aA 2) (ZA (cA (FA (cV T) r (cA (iA (aA 0) dA) (cA (aA 1) gA))) (cA (FA (cV T) r (cA (iA (aA 0) dA) (cA (aA 1) gA))) gA))))))
theorem uQ:jC P w K a b 3 2 "_law_lies" vJ:=cT T T.Qh fun S r=>rA (yA (VE (OB r.units) (uA xI (uA XZ (iA (aA 1) dA) (FA (yQ T) r (cA (iA (aA 0) (iA (aA 1) dA)) (cA (iA (aA 0) (iA (aA 1) dA)) gA)))) dA) dA))
theorem GU:jC P w K a b 4 2 "_law_keeps" AJ:=cT T T.Qi fun S r=>nA (IA 2 S (uA hC (uA JD dA (xC rfl (zN T T.Qx) (aA 0))) dA)) (nA (XC m5 rfl (uC (aA 1)) (kD 3 S) (nA (gB (WM.tm (UO (SA (OB r.units) (iA (aA 3) dA) qB) (DO (UE (rD (FA (uQ T) r (cA (aA 0) (cA (aA 3) gA)))))))) (rA (yA pD)) iB) (nA (gB (WM.tm (UO (SA (OB r.units) (iA (aA 3) dA) qB) (DO (SA (QE r.units) (Cw (OE (uC (iA (aA 3) dA)) (iG 0) (BD) (FA (uQ T) r (cA (aA 1) (cA (aA 0) gA)))) pD) dA)))) (rA (yA pD)) iB) (rA (gB (SA (OB r.units) (iA (aA 3) dA) qB) (nA (IA 4 S (uA ZF (iA (iA (aA 0) (iA (aA 3) dA)) dA) (iA (iA (aA 0) (iA (aA 3) dA)) dA))) (rA (gB (WM.tm (wD (SA gH (aA 4) (uA JD (iA (aA 3) dA) (aA 2))) (iF (SA uP (aA 4) (uA JD (iA (aA 3) dA) (aA 2)))))) (rA (yA pD)) iB))) iB))))) (rA (yA pD)))
theorem vU:jC P w K a b 5 3 "_law_plan_right" nJ:=cT T T.Qj fun S r=>nA (gB (WM.tm (wD (UE (rD (QH rfl (zN T T.Qw) rfl (zN T T.Qy) PyProof.Rows.boot_list (by decide) (aA 0)))) (iF (SA (QE r.units) (xC rfl (zN T T.Qx) (aA 0)) (aA 1))))) (rA (yA pD)) iB) (nA (XC m5 rfl (uC (aA 0)) (kD 3 S) (nA (gB (WM.tm (wD (UE (rD (QH rfl (zN T T.Qw) rfl (zN T T.U4) PyProof.Rows.boot_tuple (by decide) (aA 3)))) (wD (SA (QE r.units) (xC rfl (zN T T.Qx) (aA 3)) dA) (wD (UE (rD (FA (HU T) r (cA (iA (aA 3) dA) gA)))) (iF (UE (rD (FA (HU T) r (cA (iA (aA 3) dA) gA))))))))) (rA (yA pD)) iB) (rA (gB (SA US (iA (aA 3) dA) (iA (aA 3) dA)) (rA (yA pD)) iB)))) (rA (yA (tG (VE (OB r.units) (mS rfl rfl (zN T T.U0) (OE (uC (aA 0)) (iG 0) (BD) (iA (aA 0) dA))) dA) (VF (FA (GU T) r (cA (aA 0) (cA (aA 2) gA))))))))
theorem pU:jC P w K a b 2 2 "_law_stretches_by" kI:=cT T T.Qk fun S r=>nA (IA 2 S (uG gA)) (nA (XC m5 rfl (OF rfl (zN T T.U1) (aA 1)) (kD 3 S) (nA (IA 4 S (uA WC (FA (MG T) r (cA (aA 0) (cA (uA hC dA (aA 3)) gA))) dA)) (rA (uE (NF (aA 2) (ZA (cA (aA 4) (cA (uA hC (uA hC (aA 4) dA) (uA WC (FA (MG T) r (cA (aA 0) (cA (uA hC dA (aA 3)) gA))) dA)) gA)))))))) (rA (yA (aA 2))))
theorem tU:jC P w K a b 3 3 "_law_true_ways" pI:=cT T T.Ql fun S r=>nA (WY (FA (zU T) r (cA (aA 1) (cA (xC rfl (zN T T.Qx) (aA 0)) gA))) (ZL 3 4 rfl S)) (nA (IA 5 S (uA aP dA (FA (yQ T) r (cA (iA (aA 0) (aA 3)) (cA (iA (aA 0) (aA 4)) gA))))) (nA (IA 6 S (uA xI (uA xI (FA (MG T) r (cA (aA 1) (cA dA gA))) (FA (MG T) r (cA (aA 1) (cA dA gA)))) dA)) (nA (gB (SA (OB r.units) (uA WC (aA 1) dA) dA) (rA (IA 6 S dA)) iB) (nA (gB (rD (aA 2)) (rA (yA (ZA (cA qB (cA (aA 3) (cA (uA ZO (aA 6) (aA 5)) (cA (aA 4) gA))))))) iB) (rA (yA (ZA (cA qB (cA (aA 3) (cA (uA NO (uA ZO (aA 6) (aA 5)) (aA 5)) (cA (aA 4) gA)))))))))))
theorem V9:jC P w K a b 1 2 "_law_true_length" jN:=cT T T.Qm fun S r=>nA (IA 2 S (uA WC (aA 1) (xC rfl (zN T T.Qx) (aA 0)))) (nA (IA 3 S (uA hC (uA JD dA (xC rfl (zN T T.Qx) (aA 0))) dA)) (nA (IA 4 S (uA ZF (iA (iA (aA 0) (aA 2)) dA) (iA (iA (aA 0) (aA 2)) dA))) (rA (yA (ZA (cA qB (cA (aA 2) (cA (Ed rfl rfl (zN T T.Qz) dA (uA ZF (uA yF (aA 4) (aA 3)) (uA WC (uA yF (aA 1) dA) dA))) (cA (uA hC (uA yF (uA ZF (uA hC (aA 4) (aA 3)) dA) (aA 3)) (uA WC (uA yF (aA 1) dA) dA)) gA)))))))))
theorem X9:jC P w K a b 4 3 "_law_true_fact" nI:=cT T T.Qn fun S r=>nA (IA 3 S (FA (MG T) r (cA (aA 1) (cA dA gA)))) (nA (gB (WM.tm (wD (SA (OB r.units) (xC rfl (zN T T.Qx) (aA 0)) dA) (iF (SA (OB r.units) (uA WC (aA 3) dA) dA)))) (rA (yA (FA (V9 T) r (cA (aA 0) (cA (uA yF (aA 3) dA) gA))))) iB) (nA (gB (WM.tm (UO (SA (OB r.units) (uA WC (aA 3) dA) dA) (DO (SA gH (aA 2) dA)))) (nA (IA 4 S (uA hC dA (uA WC (uA yF (aA 3) dA) dA))) (nA (IA 5 S (uA WC (uA yF (aA 3) dA) (aA 4))) (rA (yA (ZA (cA qB (cA (ZW (OF rfl (zN T T.U1) (aA 4)) (iG 0) (BD) (FA (tU T) r (cA (aA 1) (cA (FA (MG T) r (cA (aA 2) (cA (uA hC dA (aA 0)) gA))) (cA (VE (OB r.units) (aA 0) (aA 3)) gA))))) gA))))))) iB) (rA (yA (FA (tU T) r (cA (aA 0) (cA (uA yF (aA 3) dA) (cA (VE (QE r.units) (uA WC (uA yF (aA 3) dA) dA) dA) gA))))))))
theorem Y9:jC P w K a b 5 2 "_law_true_facts" YK:=cT T T.Qo fun S r=>nA (IA 2 S (uG gA)) (nA (IA 3 S dA) (nA (XC m5 rfl (uC (aA 1)) (kD 4 S) (nA (IA 5 S (FA (X9 T) r (cA (aA 0) (cA (aA 4) (cA (aA 3) gA))))) (nA (IA 3 S (uA hC (aA 3) (vd rfl (zN T T.Qv) (VE (OB r.units) (iA (aA 5) dA) qB)))) (rA (uE (NF (aA 2) (aA 5))))))) (rA (yA (aA 2)))))
theorem Kq:jC P w K a b 32 5 "_law_told" wJ:=cT T T.Qp fun S r=>nA (IA 5 S (ZA (cA qB (cA (iA (aA 2) dA) (cA (uA NO dA (iA (aA 2) dA)) (cA (iA (aA 2) dA) gA)))))) (nA (gB (WM.tm (wD (UE (rD (QH rfl (zN T T.Qw) rfl (zN T T.U4) PyProof.Rows.boot_tuple (by decide) (aA 3)))) (iF (SA (QE r.units) (xC rfl (zN T T.Qx) (aA 3)) dA)))) (rA (yA pD)) iB) (nA (IA 6 S (FA (GU T) r (cA (aA 4) (cA (aA 1) gA)))) (nA (IA 7 S (FA (uQ T) r (cA (aA 4) (cA (aA 2) gA)))) (nA (IA 8 S (V0 (VE (OB r.units) (iA (HJ (CN T) r (by decide) rfl (cA (aA 0) (cA (uA ZG (aA 1) (RD (cA (aA 2) gA))) (cA dA gA)))) dA) qB) (VF (VE (OB r.units) (iA (HJ (CN T) r (by decide) rfl (cA (aA 0) (cA (uA ZG (aA 1) (RD (cA (aA 5) gA))) (cA dA gA)))) dA) qB)))) (nA (gB (WM.tm (wD (rD (aA 8)) (iF (SA (OB r.units) (iA (aA 3) dA) qB)))) (rA (yA (tG (aA 8) (tG (VE (OB r.units) (iA (aA 3) dA) qB) (VF (VE JI (iA (aA 3) dA) kE)))))) iB) (nA (gB (SA (OB r.units) (iA (aA 3) dA) qB) (nA (gB (WM.tm (wD (UE (rD (QH rfl (zN T T.Qw) rfl (zN T T.U4) PyProof.Rows.boot_tuple (by decide) (iA (aA 3) dA)))) (iF (SA (QE r.units) (xC rfl (zN T T.Qx) (iA (aA 3) dA)) dA)))) (rA (yA pD)) iB) (nA (gB (UE (rD (FA (vU T) r (cA (iA (iA (aA 3) dA) dA) (cA (aA 0) (cA (uA kS (aA 1) (RD (cA (aA 2) gA))) gA)))))) (rA (yA pD)) iB) (rA (yA (FA (vU T) r (cA (iA (iA (aA 3) dA) dA) (cA (aA 0) (cA (uA kS (aA 1) (RD (cA (aA 5) gA))) gA)))))))) iB) (nA (gB (SA (OB r.units) (iA (aA 3) dA) qB) (rA (yA (tG (FA (HN T) r (cA (aA 0) (cA (uA ZG (aA 1) (RD (cA (aA 5) gA))) (cA (iA (aA 3) dA) gA)))) (VF (V0 (aA 7) (VF (oS (aA 6)))))))) iB) (nA (gB (SA (OB r.units) (iA (aA 3) dA) qB) (rA (yA (tG (FA (HN T) r (cA (aA 0) (cA (uA ZG (aA 1) (RD (cA (aA 2) gA))) (cA (iA (aA 3) dA) gA)))) (VF (oS (tG (aA 7) (VF (aA 6)))))))) iB) (nA (gB (WM.tm (wD (SA (QE r.units) (iA (aA 3) dA) qB) (wD (rD (aA 6)) (wD (UE (rD (QH rfl (zN T T.Qw) rfl (zN T T.U4) PyProof.Rows.boot_tuple (by decide) (iA (aA 3) dA)))) (iF (SA (QE r.units) (xC rfl (zN T T.Qx) (iA (aA 3) dA)) dA)))))) (rA (yA pD)) iB) (rA (yA (tG (FA (HN T) r (cA (aA 0) (cA (uA ZG (aA 1) (RD (cA (aA 2) gA))) (cA (iA (iA (aA 3) dA) dA) gA)))) (VF (FA (HN T) r (cA (aA 0) (cA (uA ZG (aA 1) (RD (cA (aA 5) gA))) (cA (iA (iA (aA 3) dA) dA) gA)))))))))))))))))
theorem Fp {f:Oi} {e:FuncData} (F:Fun K "law" "law" dP f e):ab P w K a b GF 33 f e ["_law_script"] (lJ K 1 OI):=by unfold OI;exact Gp (k:=32) (body:=IS) F TZ rfl rfl fun m A outer s H E r=>have S:=Yi.nd TZ;nA (IA 1 S (uA hC dA (uA WC (FA (rQ T) r (cA (aA 0) (cA dA gA))) dA))) (nA (IA 2 S (FA (pU T) r (cA (FA (rQ T) r (cA (aA 0) (cA dA gA))) (cA (aA 1) gA)))) (nA (IA 3 S (FA (Y9 T) r (cA (aA 2) (cA (pO (aA 0) (yI dA) (yI dA)) gA)))) (nA (IA 4 S (FA (MG T) r (cA (FA (rQ T) r (cA (aA 0) (cA dA gA))) (cA dA gA)))) (nA (WY (FA (zU T) r (cA (uA yF (aA 4) dA) (cA (aA 1) gA))) (ZL 5 6 rfl S)) (nA (IA 7 S (uA aP dA (FA (yQ T) r (cA (iA (aA 2) (aA 5)) (cA (iA (aA 2) (aA 6)) gA))))) (nA (IA 8 S (iA (RD (cA (uA WC (FA (MG T) r (cA (aA 4) (cA dA gA))) dA) (cA (aA 7) (cA (uA NO dA (aA 7)) (cA (uA ZO (uA WC (FA (MG T) r (cA (aA 4) (cA dA gA))) dA) (aA 7)) gA))))) (uA WC (aA 4) dA))) (nA (gB (SA (OB r.units) (uA WC (uA yF (aA 4) dA) dA) dA) (rA (IA 2 S (FA (pU T) r (cA (aA 4) (cA (aA 1) gA))))) iB) (nA (IA 9 S (ZA (cA qB (cA (aA 5) (cA (aA 8) (cA (aA 6) gA)))))) (nA (IA 10 S (HJ (WU T) r (by decide) rfl (cA (aA 1) (cA (NX rfl (zN T T.Qy) (aA 3)) (cA (aA 5) (cA (aA 8) (cA (aA 6) (cA dA gA)))))))) (nA (gB (UE (rD (FA (Kq T) r (cA (aA 1) (cA (aA 3) (cA (aA 9) (cA (aA 10) (cA (aA 2) gA)))))))) (rA (yA pD)) iB) (nA (IA 11 S (Ad [("must", "never"),("never", "must"),("may", "may"),("clash", "clash"),("open", "open")] (DL aG aG (DL aG aG (DL aG aG (DL aG aG (DL aG aG Jb))))) rfl rfl (cons_ne_nil _ _) (by decide) (by decide) (by rfl))) (nA (IA 12 S (HJ (WU T) r (by decide) rfl (cA (aA 1) (cA (NX rfl (zN T T.Qy) (aA 3)) (cA (aA 5) (cA (uA NO dA (aA 8)) (cA (aA 6) (cA dA gA)))))))) (rA (yA (tG (QH rfl (zN T T.Qw) rfl (zN T T.U4) PyProof.Rows.boot_tuple (by decide) (aA 12)) (VF (VE (OB r.units) (iA (aA 12) dA) (yd r.units (aA 11) (iA (aA 10) dA)))))))))))))))))))
end
end G
namespace BF
noncomputable def put{α:Type}(f:Nat->α)(i:Nat)(a:α):Nat->α:=fun j=>if j=i then a else f j
theorem RF{b:Type}(f:Nat->b)(i:Nat)(a:b):put f i a i=a:=dh rfl
theorem yE{b:Type}(f:Nat->b){i j:Nat}(a:b)(h:j≠i):put f i a j=f j:=dz h
noncomputable abbrev Bd:=Nat×Nat×Int
structure CG where
 t:Nat->Int
 c:Nat->Option Nat
 l:Option Nat
def step(s:CG)(e:Bd):CG:=if s.t e.1>s.t e.2.1+e.2.2 then⟨put s.t e.1 (s.t e.2.1+e.2.2),put s.c e.1 (ε e.2.1),ε e.1⟩else s
def turn(E:Ni Bd)(s:CG):CG:=E.foldl step ⟨s.t,s.c,none⟩
def lF(t:Nat->Int)(e:Bd):Prop:=t e.1<=t e.2.1+e.2.2
structure yT(n:Nat)(E:List Bd):Prop where
 lt:∀e∈E,e.1<n/\e.2.1<n/\e.1≠e.2.1
 un:∀e∈E,∀e'∈E,e.1=e'.1->e.2.1=e'.2.1->e.2.2=e'.2.2
def B4(w:Nat->Nat->Int)(c:Nat->Oa Nat):Prop:=
 ∀C:Ni Nat,C ≠ []->C.Nodup->(C.map c).Perm (C.map some)->(C.map fun x=>w x ((c x).getD 0)).sum<0
structure Ok(n:Nat)(E:List Bd)(w:Nat->Nat->Int)(r:Nat)(D:List Bd)(u:Nat->Nat)(s:CG):Prop where
 cau:∀x y,s.c x=ε y->(x,y,w x y)∈E/\s.t y+w x y<=s.t x/\1<=u x/\u x<=u y+1
 top:∀x,u x<=r+1
 has:∀x,1<=u x->∃y,s.c x=ε y
 old:∀e∈E,r<=u e.2.1\/lF s.t e
 new:∀e∈D,r+1<=u e.2.1\/lF s.t e
 neg:B4 w s.c
 lst:∀x,s.l=ε x->u x=r+1
theorem YJ{f g:Nat->Int}:∀(D:Ni Nat),(∀x∈D,f x<=g x)->(D.map f).sum<=(D.map g).sum
 | [],_=>Int.le_refl _
 | x::D,h=>by
  simp![Ti,sum_cons];have d:=h x um;have b:=YJ D fun y a=>h y (nW _ a)
  omega
theorem SY{f g:Nat->Int}:∀(D:Ni Nat),(D.map fun x=>f x-g x).sum=(D.map f).sum-(D.map g).sum
 | []=>rfl
 | x::D=>by simp![Ti,sum_cons];have:=SY (f:=f) (g:=g) D;omega
theorem LX{l l':Ni Int}(h:l.Perm l'):l.sum=l'.sum:=by
 induction h with
 | nil=>rfl
 | cons x _ ih=>simp![sum_cons,ih]
 | swap x y l=>simp![sum_cons];omega
 | trans _ _ b a=>exact b.trans a
theorem map_none{C:Ni Nat}{c:Nat->Oa Nat}(h:(C.map c).Perm (C.map some)):∀x∈C,∃y,c x=ε y:=by intro x a;have:c x∈C.map some:=h.subset (mem_map_of_mem a);obtain⟨y,_,e⟩:=Bs.mp this;exact⟨y,e.symm⟩
theorem xL{a b:Type}{f g:a->b}{C:Ni a}(h:∀x∈C,f x=g x):C.map f=C.map g:=map_congr_left h
theorem Im{w:Nat->Nat->Int}{c:Nat->Oa Nat}{t:Nat->Int}{p q:Nat}(B:B4 w c)(E:∀x y,c x=ε y->t y+w x y<=t x)(J:t p>t q+w p q):B4 w (put c p (ε q)):=by
 intro C I hd m;by_cases b:p∈C
 . obtain⟨d,D2,rfl⟩:=append_of_mem b;have h:(d++p::D2).Perm (p::(d++D2)):=perm_middle;have nd:(p::(d++D2)).Nodup:=h.nodup_iff.mp hd;have j:p∉d++D2:=(Li.mp nd).1;generalize d++D2=D at h j;have r:D.map (put c p (ε q))=D.map c:=xL fun x a=>yE c _ (fun z=>j (z ▸ a))
   have n:((p::D).map (put c p (ε q))).Perm ((p::D).map some):=((h.map _).symm.trans m).trans (h.map _);rw[Ti,RF,r]at n;have i:∀x∈D,∃y,c x=ε y:=fun x a=>by have:c x∈(p::D).map some:=n.subset (nW _ (mem_map_of_mem a));obtain⟨y,_,e⟩:=Bs.mp this;exact⟨y,e.symm⟩
   have s:=LX (n.map fun o=>t (o.getD 0));simp![Ti,map_map,sum_cons,Function.comp_def,Option.getD_some]at s
   change t q+_=t p+(D.map t).sum at s
   have H:((d++p::D2).map fun x=>w x ((put c p (ε q) x).getD 0)).sum=w p q+(D.map fun x=>w x ((c x).getD 0)).sum:=by
    have:=LX (h.map fun x=>w x ((put c p (ε q) x).getD 0));rw[this,Ti,sum_cons,RF]
    congr 1
    rw[xL (f:=fun x=>w x ((put c p (ε q) x).getD 0)) (g:=fun x=>w x ((c x).getD 0)) fun x a=>by rw[yE c _ (fun z:x=p=>j (z ▸ a))]]
   have F:(D.map fun x=>w x ((c x).getD 0)).sum<=(D.map fun x=>t x-t ((c x).getD 0)).sum:=YJ D fun x a=>by obtain⟨y,u⟩:=i x a;have:=E x y u;rw[u];simp![Option.getD_some];omega
   rw[SY]at F;rw[H];omega
 . have r:C.map (put c p (ε q))=C.map c:=xL fun x a=>yE c _ (fun z=>b (z ▸ a))
   rw[r]at m;have:=B C I hd m;rw[xL (f:=fun x=>w x ((put c p (ε q) x).getD 0)) (g:=fun x=>w x ((c x).getD 0)) fun x a=>by rw[yE c _ (fun z:x=p=>b (z ▸ a))]];exact this
theorem Om{n:Nat}{E:Ni Bd}{w:Nat->Nat->Int}{r:Nat}{D:Ni Bd}{u:Nat->Nat}{s:CG}(T:yT n E)(hw:∀e∈E,w e.1 e.2.1=e.2.2)(I:Ok n E w r D u s){e:Bd}(he:e∈E) :
 ∃o,Ok n E w r (e::D) o (step s e):=by
 obtain⟨p,q,m⟩:=e;obtain⟨_,_,f⟩:=T.lt _ he;have j:w p q=m:=hw _ he;have b:q≠p:=fun z=>f z.symm
 by_cases g:s.t p>s.t q+m
 . have i:step s (p,q,m)=⟨put s.t p (s.t q+m),put s.c p (ε q),ε p⟩:=dh g;rw[i];have M:r<=u q:=by
    rcases I.old _ he with z | z
    . exact z
    . exact Du z (by simp![lF];omega)
   have up:u p<=r+1:=I.top p;have d:∀x,put s.t p (s.t q+m) x<=s.t x:=fun x=>by
    by_cases a:x=p
    . rw[a,RF];omega
    . rw[yE _ _ a];exact Int.le_refl _
   have grow:∀x,u x<=put u p (r+1) x:=fun x=>by
    by_cases a:x=p
    . rw[a,RF];exact up
    . rw[yE _ _ a];exact Ue _
   have keep:∀k,∀e:Bd,k<=r+1->(k<=u e.2.1\/lF s.t e)->(k<=put u p (r+1) e.2.1\/lF (put s.t p (s.t q+m)) e):=fun k e C h=>by
    by_cases a:e.2.1=p
    . exact .inl (by rw[a,RF];exact C)
    . rcases h with h | h
      . exact .inl (su h (grow _))
      . refine .inr ?_;simp![lF]at h ⊢;rw[yE _ _ a];exact Int.le_trans (d _) h
   refine⟨put u p (r+1),⟨fun x y h=>?_,fun x=>?_,fun x h=>?_,fun e h=>keep r e (Nat.le_succ r) (I.old e h),fun e h=>?_,Im I.neg (fun x y h=>(I.cau x y h).2.1) (by rw[j];exact g),fun x h=>?_⟩⟩
   . by_cases a:x=p
     . subst a;simp![RF]at h ⊢;cases h;rw[yE _ _ b,yE _ _ b,j];exact⟨he,Int.le_refl _,by omega,by omega⟩
     . simp![yE _ _ a]at h ⊢;obtain⟨L,J,H,F⟩:=I.cau x y h;exact⟨L,Int.le_trans (Int.add_le_add_right (d y) _) J,H,su F (Nat.add_le_add_right (grow y) 1)⟩
   . by_cases a:x=p
     . rw[a,RF];exact Ue _
     . rw[yE _ _ a];exact I.top x
   . by_cases a:x=p
     . subst a;exact⟨q,RF _ _ _⟩
     . rw[yE _ _ a]at h;obtain⟨y,B⟩:=I.has x h;exact⟨y,by simp![yE _ _ a];exact B⟩
   . rcases Ba.mp h with z | z
     . subst z;refine .inr ?_;simp![lF,RF,yE _ _ b];exact Int.le_refl _
     . exact keep (r+1) e (Ue _) (I.new e z)
   . cases h;exact RF _ _ _
 . have i:step s (p,q,m)=s:=dz g;rw[i];refine⟨u,⟨I.cau,I.top,I.has,I.old,fun e h=>?_,I.neg,I.lst⟩⟩;rcases Ba.mp h with z | z
   . subst z;exact .inr (by simp![lF];omega)
   . exact I.new e z
theorem XR{n:Nat}{E:Ni Bd}{w:Nat->Nat->Int}{r:Nat}(T:yT n E)(hw:∀e∈E,w e.1 e.2.1=e.2.2):∀(L D:Ni Bd)(u:Nat->Nat)(s:CG),(∀e∈L,e∈E)->Ok n E w r D u s->∃i b,Ok n E w r b i (L.foldl step s)/\(∀e∈L,e∈b)/\∀e∈D,e∈b
 | [],D,u,s,_,I=>⟨u,D,I,(fun q h=>nomatch h),fun q h=>h⟩
 | e::L,D,u,s,hs,I=>by
  obtain⟨g,o⟩:=Om T hw I (hs e um);obtain⟨f,p,m,j,d⟩:=XR T hw L (e::D) g (step s e) (fun x a=>hs x (nW _ a)) o;refine⟨f,p,m,fun x a=>?_,fun x a=>d x (nW _ a)⟩;rcases Ba.mp a with z | z
  . rw[z];exact d e um
  . exact j x z
def BE(E:Ni Bd):Nat->CG->CG
 | 0,s=>s
 | r+1,s=>turn E (BE E r s)
noncomputable def s0:CG:=⟨fun _=>0,fun _=>none,none⟩
theorem GX{n:Nat}{E:Ni Bd}{w:Nat->Nat->Int}(T:yT n E)(hw:∀e∈E,w e.1 e.2.1=e.2.2):∀r,∃u D,Ok n E w r D u (BE E (r+1) s0)/\∀e∈E,e∈D
 | 0=>by
  have I:Ok n E w 0 [] (fun q=>0) ⟨s0.t,s0.c,none⟩:=by
   refine⟨fun x y h=>(by cases h),fun x=>m8 _,fun x h=>nofun,fun e h=>.inl (m8 _),(fun e h=>nomatch h),fun C g hd d=>?_,fun x h=>(by cases h)⟩;cases C with
   | nil=>exact Du rfl g
   | cons x C=>obtain⟨y,e⟩:=map_none d x um;cases e
  obtain⟨u,D,m,a,_⟩:=XR T hw E [] _ _ (fun q h=>h) I;exact⟨u,D,m,a⟩
 | r+1=>by
  obtain⟨u,D,I,f⟩:=GX T hw r;have j:Ok n E w (r+1) [] u ⟨(BE E (r+1) s0).t,(BE E (r+1) s0).c,none⟩:=
   ⟨I.cau,fun x=>Nat.le_succ_of_le (I.top x),I.has,fun e h=>I.new e (f e h),(fun e h=>nomatch h),I.neg,fun x h=>(by cases h)⟩
  obtain⟨b,o,i,a,_⟩:=XR T hw E [] _ _ (fun q h=>h) j;exact⟨b,o,i,a⟩
theorem lX:∀(L:Ni Bd)(s:CG),(L.foldl step s).l=none->s.l=none/\L.foldl step s=s/\∀e∈L,lF s.t e
 | [],s,h=>⟨h,rfl,(fun q h=>nomatch h)⟩
 | e::L,s,h=>by
  obtain⟨a,g,f⟩:=lX L (step s e) h;by_cases d:s.t e.1>s.t e.2.1+e.2.2
  . have b:step s e=⟨put s.t e.1 (s.t e.2.1+e.2.2),put s.c e.1 (ε e.2.1),ε e.1⟩:=dh d;rw[b]at a;cases a
  . have b:step s e=s:=dz d;rw[b]at a g f;refine⟨a,by rw[foldl_cons,b];exact g,fun x i=>?_⟩;rcases Ba.mp i with z | z
    . subst z;simp![lF];omega
    . exact f x z
noncomputable def yB(f:Nat->Nat):Nat->Nat->Nat
 | 0,x=>x
 | k+1,x=>f (yB f k x)
theorem sG(f:Nat->Nat)(x:Nat)(b:Nat):∀a,yB f (a+b) x=yB f a (yB f b x)
 | 0=>by rw[Aa];rfl
 | a+1=>by rw[Nat.add_right_comm];show f (yB f (a+b) x)=f (yB f a (yB f b x));rw[sG f x b a]
theorem pig:∀(n:Nat)(g:Nat->Nat),(∀k,k<=n->g k<n)->∃i j,i<j/\j<=n/\g i=g j
 | 0,g,h=>Du (h 0 (Ue _)) (Nat.not_lt_zero _)
 | n+1,g,h=>by
  by_cases f:∃k,k<=n/\g k=g (n+1)
  . obtain⟨k,d,a⟩:=f;exact⟨k,n+1,by omega,Ue _,a⟩
  . have ne:∀k,k<=n->g k≠g (n+1):=fun k b e=>f ⟨k,b,e⟩
    have p:=h (n+1) (Ue _);obtain⟨i,j,d,a,o⟩:=pig n (fun k=>if g k>g (n+1)then g k-1 else g k) fun k b=>by have d:=h k nofun;have a:=ne k b;show(if g k>g (n+1)then g k-1 else g k)<n;split<;>omega
    refine⟨i,j,d,by omega,?_⟩;have r:=ne i nofun;have q:=ne j a;have m:(if g i>g (n+1)then g i-1 else g i)=(if g j>g (n+1)then g j-1 else g j):=o;split at m<;>split at m<;>omega
theorem Hy{Q:Nat->Prop}:∀d,1<=d->Q d->∃k,1<=k/\k<=d/\Q k/\∀i,1<=i->i<k->¬Q i:=by
 intro d
 induction d using Nat.strongRecOn with
 | ind d ih=>
  intro m j;by_cases e:∃i,1<=i/\i<d/\Q i
  . obtain⟨i,a,b,c⟩:=e;obtain⟨k,h,n,g,f⟩:=ih i b a c;exact⟨k,h,by omega,g,f⟩
  . exact⟨d,m,Ue _,j,fun i a b c=>e ⟨i,a,b,c⟩⟩
noncomputable def nxt(c:Nat->Oa Nat)(x:Nat):Nat:=(c x).getD 0
structure YH(n:Nat)(E:List Bd)(w:Nat->Nat->Int)(c:Nat->Option Nat)(P k:Nat):Prop where
 pos:1<=k
 le:k<=n
 back:yB (nxt c) k P=P
 first:∀i,1<=i->i<k->yB (nxt c) i P≠P
 edge:∀i,i<=k->(yB (nxt c) i P,yB (nxt c) (i+1) P,w (yB (nxt c) i P) (yB (nxt c) (i+1) P))∈E/\c (yB (nxt c) i P)=ε (yB (nxt c) (i+1) P)
 sum:((List.range k).map fun i=>w (yB (nxt c) i P) (yB (nxt c) (i+1) P)).sum<0
theorem apart{f:Nat->Nat}{P k:Nat}(g:yB f k P=P)(d:∀i,1<=i->i<k->yB f i P≠P){i j:Nat}(b:i<j)(a:j<=k)(m:i=0->j<k):yB f i P≠yB f j P:=by
 intro e;have e2:yB f ((k-j)+i) P=yB f ((k-j)+j) P:=by rw[sG,sG,e]
 rw[Nat.sub_add_cancel a,g]at e2;refine d (k-j+i) ?_ ?_ e2
 . by_cases h:i=0
   . have:=m h;omega
   . omega
 . omega
theorem Uj{e:Type}{g:Nat->e}(k:Nat)(h:∀i j,i<j->j<k->g i≠g j):((List.range k).map g).Nodup:=by rw[nodup_iff_pairwise_ne,pairwise_map];refine List.Pairwise.imp_of_mem ?_ (pairwise_lt_range (n:=k));intro a b m f d;exact h a b d (Bu.mp f)
theorem Ac{n:Nat}{E:Ni Bd}{w:Nat->Nat->Int}{D:Ni Bd}{u:Nat->Nat}{s:CG}{x:Nat}(T:yT n E)(I:Ok n E w n D u s)(S:s.l=ε x):∃k,YH n E w s.c (yB (nxt s.c) n x) k/\
 ∀i,i<=n->s.c (yB (nxt s.c) i x)=ε (yB (nxt s.c) (i+1) x)/\yB (nxt s.c) i x<n:=by
 have ux:=I.lst x S;have o:∀y,1<=u y->s.c y=ε (nxt s.c y):=fun y R=>by obtain⟨z,e⟩:=I.has y R;unfold nxt;rw[e];rfl
 have ch:∀i,i<=n->n+1<=u (yB (nxt s.c) i x)+i:=by
  intro i
  induction i with
  | zero=>intro _;show n+1<=u x+0;omega
  | succ i ih=>intro f;have h1:=ih nofun;have Y:=o (yB (nxt s.c) i x) nofun;have h3:=(I.cau _ _ Y).2.2.2;show n+1<=u (nxt s.c (yB (nxt s.c) i x))+(i+1);omega
 have r:∀i,i<=n->s.c (yB (nxt s.c) i x)=ε (yB (nxt s.c) (i+1) x):=fun i f=>o _ (by have:=ch i f;omega)
 have lt:∀i,i<=n->yB (nxt s.c) i x<n:=fun i f=>(T.lt _ (I.cau _ _ (r i f)).1).1
 obtain⟨i,j,U,hj,e⟩:=pig n (fun i=>yB (nxt s.c) i x) lt;have B:yB (nxt s.c) (j-i) (yB (nxt s.c) n x)=yB (nxt s.c) n x:=by
  rw[<- sG];have L:j-i+n=(n-i)+j:=by omega
  rw[L,sG,<- e,<- sG]
  congr 1
  omega
 obtain⟨k,O,k2,C,M⟩:=Hy (Q:=fun d=>yB (nxt s.c) d (yB (nxt s.c) n x)=yB (nxt s.c) n x) (j-i) nofun B;have p:∀m,yB (nxt s.c) (j+m) x=yB (nxt s.c) (i+m) x:=fun m=>by rw[Nat.add_comm j m,Nat.add_comm i m,sG,sG,e]
 have J:∀m,m<=k->s.c (yB (nxt s.c) m (yB (nxt s.c) n x))=ε (yB (nxt s.c) (m+1) (yB (nxt s.c) n x)):=fun m q=>by
  rw[<- sG,<- sG];by_cases h:m+n<=n
  . have:m=0:=by omega
    subst this;rw[Aa,Nat.add_comm];exact r n (Ue _)
  . have L:m+n=j+(m+n-j):=by omega
    have a2:m+1+n=j+(m+n-j+1):=by omega
    rw[L,a2,p,p];exact r _ nofun
 refine⟨k,⟨O,by omega,C,M,fun m q=>⟨(I.cau _ _ (J m q)).1,J m q⟩,?_⟩,fun i f=>⟨r i f,lt i f⟩⟩;generalize yB (nxt s.c) n x=P at *;have F:=I.neg ((List.range k).map fun m=>yB (nxt s.c) m P) (by
  intro z;have:=congrArg List.length z;simp at this;omega) (Uj k fun a b H W=>apart C M H nofun (fun v=>W)) (by
  rw[map_map,map_map];have e1:(List.range k).map (s.c ∘ fun m=>yB (nxt s.c) m P)=(List.range k).map (fun m=>ε (yB (nxt s.c) (m+1) P)):=xL fun m q=>J m (Ci (Bu.mp q))
  rw[e1];obtain⟨g,rfl⟩:∃g,k=g+1:=⟨k-1,by omega⟩
  rw[Ii,Ga];have e2:(List.range g++[g]).map (some ∘ fun m=>yB (nxt s.c) m P)=ε P::(List.range g).map (fun m=>ε (yB (nxt s.c) (m+1) P)):=by rw[<- Ii,Js,Ti,map_map];rfl
  rw[e2];have e3:[g].map (fun m=>ε (yB (nxt s.c) (m+1) P))=[ε P]:=by rw[Ti,Vu,C]
  rw[e3];exact perm_append_singleton _ _)
 rw[map_map]at F;have Z:(List.range k).map ((fun y=>w y ((s.c y).getD 0)) ∘ fun m=>yB (nxt s.c) m P)=(List.range k).map fun i=>w (yB (nxt s.c) i P) (yB (nxt s.c) (i+1) P):=rfl
 rw[Z]at F;exact F
end BF
namespace SM
section
variable{l:LI}{h:HI}{f g fo fy fx fe fa a:RE}
@[simp] theorem md:FS l h=ε (.ref h.length,h++[.dt []]):=by rfl
def cQ:Ni Dt×HI->Oa (Dt×HI):=fun r=>if r.1.length<=sizeLine then(WB r.1).map fun b=>(.ntp b,r.2)else none
@[simp] theorem V8(r:RA):RP r l h=fB (r l h) cQ:=by rfl
theorem Ar(i j:Int):cQ ([.int i,.int j],h)=ε (.ntp [i,j],h):=by unfold cQ;rw[dh (show([Dt.int i,Dt.int j]:Ni Dt).length<=sizeLine by simp)];rfl
def K4(n:Nat)(k:Ni Int):Dt×HI->Oa (Dt×HI):=fun x=>match x.2[n]? with
 | some (.dt kvs)=>ε ((mE kvs k).getD x.1,x.2)
 | _=>none
theorem Il{n:Nat}{k:Ni Int}{d:Dt}{kvs:Ni (Ni Int×Dt)}(e:h[n]?=ε (.dt kvs)):K4 n k (d,h)=ε ((mE kvs k).getD d,h):=by simp![K4,e]
theorem Sd{n:Nat}{k:Ni Int}{kvs:Ni (Ni Int×Dt)}(d:fo l h=ε (.ref n,h))(e2:h[n]?=ε (.dt kvs))(b:fy l h=ε (.ntp k,h)):TJ fo fy fx l h=fB (fx l h) (K4 n k):=by simp![TJ,d,e2,b,Wa];rfl
theorem o7{n:Nat}{k:Ni Int}{kvs:Ni (Ni Int×Dt)}{d:Dt}(i:fe l h=ε (d,h))(e:fo l h=ε (.ref n,h))(e2:h[n]?=ε (.dt kvs))(b:fy l h=ε (.ntp k,h))(c:kvs.length<sizeLine) :
 cP fe fo fy l h=ε (.nx l (h.set n (.dt (eJ kvs k d)))):=by
 simp![cP,i,e,e2,b,Wa,dh c]
theorem Ey{n:Nat}{kvs:Ni (Ni Int×Dt)}(b:f l h=ε (.ref n,h))(e2:h[n]?=ε (.dt kvs)):FI f l h=ε (.it n,h.set n (.df kvs)):=by simp![FI,b,e2,Wa]
theorem Dy{n:Nat}{kvs:Ni (Ni Int×Dt)}(b:f l h=ε (.ref n,h))(e2:h[n]?=ε (.df kvs)):FI f l h=ε (.it n,h):=by simp![FI,b,e2,Wa]
def pT(a:RE)(l:LI):Dt×HI->Oa (Dt×HI):=fun r=>fB (a l r.2) fun q=>(EA q.2 r.1).bind fun b=>(WB b).bind fun ns=>if ns ≠ []then ε (.int (RB ns),q.2)else none
@[simp] theorem me:HS fa a l h=fB (fa l h) (pT a l):=by rfl
end
theorem gn{g:Type}{i j n:Nat}{body:RS}{kvs:Ni (Ni Int×Dt)}(S:g->LI->HI->Prop)(F:g->Ni Int×Dt->g)(B:∀b l h,S b l h->h[n]?=ε (.df kvs))
 (H:∀x∈kvs,∀b l h,S b l h->∃r,body ((l.set i (ε (.tup (x.1.map Dt.int)))).set j (ε x.2)) h=ε r/\Pass (S (F b x)) r) :
 ∀(m k:Nat)(b:g)(l:LI)(h:HI),m=(kvs.length-k)+1->k<=kvs.length->S b l h->∃u h',JB (bD i j) body (.it n) m k l h=ε (.nx u h')/\S ((kvs.drop k).foldl F b) u h':=by
 intro m
 induction m with
 | zero=>intro k b l h y;omega
 | succ m ih=>
  intro k b l h y I s;have e:=B b l h s;by_cases a:k<kvs.length
  . have q:kvs[k]?=ε kvs[k]:=je a;obtain⟨r,E,p⟩:=H kvs[k] (getElem_mem a) b l h s;have D:(kvs.drop k).foldl F b=(kvs.drop (k+1)).foldl F (F b kvs[k]):=by rw[zu a,foldl_cons]
    rw[D];have C:JB (bD i j) body (.it n) (m+1) k l h=fB (body ((l.set i (ε (.tup (kvs[k].1.map Dt.int)))).set j (ε kvs[k].2)) h) (DT (JB (bD i j) body (.it n) m (k+1))):=by
     simp![JB,mv.at,e,q,Uu,PL,Wa];cases body ((l.set i (ε (.tup (kvs[k].1.map Dt.int)))).set j (ε kvs[k].2)) h with
     | none=>rfl
     | some r=>cases r<;>rfl
    rw[C,E,fA];cases r with
    | nx o f=>exact ih (k+1) _ o f nofun a p
    | ct o f=>exact ih (k+1) _ o f nofun a p
    | bk o f=>exact p.elim
    | rt d f=>exact p.elim
  . have q:kvs[k]?=none:=jo nofun;refine⟨l,h,by simp![JB,mv.at,e,q,Option.map_none],?_⟩;rw[Ms nofun];exact s
theorem Xr{a:Type}{i j n:Nat}{body:RS}{kvs:Ni (Ni Int×Dt)}{l:LI}{h:HI}(S:a->LI->HI->Prop)(F:a->Ni Int×Dt->a)(f:∀b l h,S b l h->h[n]?=ε (.df kvs))
 (H:∀x∈kvs,∀b l h,S b l h->∃r,body ((l.set i (ε (.tup (x.1.map Dt.int)))).set j (ε x.2)) h=ε r/\Pass (S (F b x)) r) (b:a) (s:S b l h) :
 ∃d h',xD (bD i j) body l (.it n,h)=ε (.nx d h')/\S (kvs.foldl F b) d h':=by
 have e:=f b l h s;have:=gn (i:=i) (j:=j) S F f H (kvs.length+1) 0 b l h nofun (m8 _) s;rw[drop_zero]at this;obtain⟨d,h',m,e2⟩:=this;refine⟨d,h',?_,e2⟩;show JB (bD i j) body (.it n) (mv.fuel (.it n) h) 0 l h=_;have g:mv.fuel (.it n) h=kvs.length+1:=by simp![mv.fuel,e]
 rw[g];exact m
end SM
namespace G
noncomputable def BB(e:Bd):Ni Int×Dt:=([(e.1:Int),(e.2.1:Int)],.int e.2.2)
noncomputable def wA(e:Bd):Dt:=.tup [.int (e.1:Nat),.int (e.2.1:Nat),.int e.2.2]
noncomputable def UC(p q:Nat)(x:Bd):Bool:=decide (x.1=p)&&decide (x.2.1=q)
def pK(E:Ni Bd)(p q:Nat):Oa Int:=(E.find? (UC p q)).map (·.2.2)
def kJ(E:Ni Bd)(p q:Nat)(v:Int):Ni Bd:=if E.any (UC p q)=true then E.map (fun x=>if UC p q x=true then(x.1,x.2.1,v)else x)else E++[(p,q,v)]
def nE(E:Ni Bd)(e:Bd):Ni Bd:=kJ E e.1 e.2.1 (min ((pK E e.1 e.2.1).getD e.2.2) e.2.2)
theorem qS(p q:Nat)(x:Bd):decide ((BB x).1=[(p:Int),(q:Int)])=UC p q x:=by unfold BB UC;by_cases b:x.1=p<;>by_cases a:x.2.1=q<;>simp[b,a]<;>omega
theorem GZ(p q:Nat):∀E:Ni Bd,mE (E.map BB) [(p:Int),(q:Int)]=(pK E p q).map Dt.int
 | []=>rfl
 | x::E=>by
  have ih:=GZ p q E;unfold mE pK at ih ⊢;rw[Ti,Io,Io,qS];cases UC p q x with
  | true=>rfl
  | false=>exact ih
theorem Dl(p q:Nat)(E:Ni Bd):((E.map BB).any fun y=>decide (y.1=[(p:Int),(q:Int)]))=E.any (UC p q):=by
 rw[any_map]
 congr 1
 funext x
 exact qS p q x
theorem Lf(p q:Nat)(v:Int)(E:Ni Bd):eJ (E.map BB) [(p:Int),(q:Int)] (.int v)=(kJ E p q v).map BB:=by
 unfold eJ kJ;rw[Dl];split
 . rw[map_map,map_map];refine map_congr_left fun x z=>?_
   have k:=qS p q x;simp![Function.comp_def];cases c:UC p q x with
   | true=>rw[c]at k;rw[dh (of_decide_eq_true k),dh rfl];rfl
   | false=>rw[c]at k;rw[dz (of_decide_eq_false k),dz Wk]
 . rw[Ga];rfl
structure eK(told E:List Bd):Prop where
 mem:∀x∈E,x∈told
 low:∀e∈told,∃x∈E,x.1=e.1/\x.2.1=e.2.1/\x.2.2<=e.2.2
 un:∀x∈E,∀y∈E,x.1=y.1->x.2.1=y.2.1->x.2.2=y.2.2
 len:E.length<=told.length
theorem di{p q:Nat}{x:Bd}:UC p q x=true↔x.1=p/\x.2.1=q:=by simp[UC]
theorem jp:eK [] []:=⟨fun q h=>h,fun q h=>(nomatch h),fun q h=>(nomatch h),Ue _⟩
theorem jv{f E:Ni Bd}(I:eK f E)(e:Bd):eK (f++[e]) (nE E e):=by
 obtain⟨p,q,m⟩:=e;unfold nE kJ;cases n:pK E p q with
 | none=>
  have u:∀x∈E,UC p q x=false:=by unfold pK at n;simpa using n
  have B:E.any (UC p q)=false:=by rw[any_eq_false];intro x hx;rw[u x hx];exact Wk
  simp![B,Vi,eG,Option.getD_none,Int.min_self];refine⟨fun x hx=>?_,fun o he=>?_,fun x hx y hy d b=>?_,by simp;exact I.len⟩
  . rcases Bo.mp hx with hx | hx
    . exact xu _ (I.mem x hx)
    . exact xr _ hx
  . rcases Bo.mp he with he | he
    . obtain⟨x,hx,r⟩:=I.low o he;exact⟨x,xu _ hx,r⟩
    . rw[Ao.mp he];exact⟨_,xr _ (Ao.mpr rfl),rfl,rfl,Int.le_refl _⟩
  . rcases Bo.mp hx with hx | hx<;>rcases Bo.mp hy with hy | hy
    . exact I.un x hx y hy d b
    . have:=u x hx;rw[Ao.mp hy]at d b;rw[di.mpr ⟨d,b⟩]at this;cases this
    . have:=u y hy;rw[Ao.mp hx]at d b;rw[di.mpr ⟨d.symm,b.symm⟩]at this;cases this
    . rw[Ao.mp hx,Ao.mp hy]
 | some v0=>
  obtain⟨a,O,rfl⟩:∃a,E.find? (UC p q)=ε a/\a.2.2=v0:=by unfold pK at n;simpa using n
  have F:=find?_some O;have j:=Ai O;have B:E.any (UC p q)=true:=any_eq_true.mpr ⟨a,j,F⟩;obtain⟨D,C⟩:=di.mp F;have s:∀x∈E,UC p q x=true->x.2.2=a.2.2:=fun x hx h=>by obtain⟨d,b⟩:=di.mp h;exact I.un x hx a j (d.trans D.symm) (b.trans C.symm)
  simp![B,dG,Option.getD_some];have P:((p,q,min a.2.2 m):Bd)∈f++[(p,q,m)]:=by
   by_cases h:a.2.2<=m
   . rw[Int.min_eq_left h];refine xu _ ?_;have:=I.mem a j;rw[<- D,<- C];exact this
   . rw[Int.min_eq_right nofun];exact xr _ (Ao.mpr rfl)
  refine⟨fun x hx=>?_,fun o he=>?_,fun x hx y hy d b=>?_,by simp;have:=I.len;omega⟩
  . obtain⟨y,hy,rfl⟩:=Bs.mp hx;split
    . rename_i h;obtain⟨d,b⟩:=di.mp h;rw[d,b];exact P
    . exact xu _ (I.mem y hy)
  . have new:∀x∈E,(if UC p q x=true then(x.1,x.2.1,min a.2.2 m)else x)∈E.map (fun x=>if UC p q x=true then(x.1,x.2.1,min a.2.2 m)else x):=fun x hx=>mem_map_of_mem hx
    rcases Bo.mp he with he | he
    . obtain⟨x,hx,M,L,Q⟩:=I.low o he;refine⟨_,new x hx,?_⟩;split
      . rename_i h;refine⟨M,L,?_⟩;have:=s x hx h;show min a.2.2 m<=o.2.2;have:=Int.min_le_left a.2.2 m;omega
      . exact⟨M,L,Q⟩
    . rw[Ao.mp he];refine⟨_,new a j,?_⟩;rw[dh F];exact⟨D,C,Int.min_le_right _ _⟩
  . obtain⟨i,J,rfl⟩:=Bs.mp hx;obtain⟨y',H,rfl⟩:=Bs.mp hy;have g:∀z:Bd,(if UC p q z=true then((z.1,z.2.1,min a.2.2 m):Bd)else z).1=z.1/\(if UC p q z=true then((z.1,z.2.1,min a.2.2 m):Bd)else z).2.1=z.2.1:=fun z=>by split<;>exact⟨rfl,rfl⟩
    rw[(g i).1,(g y').1]at d;rw[(g i).2,(g y').2]at b;have R:UC p q i=UC p q y':=by unfold UC;rw[d,b]
    rw[R];split
    . rfl
    . exact I.un i J y' H d b
theorem FY:∀(L a E:Ni Bd),eK a E->eK (a++L) (L.foldl nE E)
 | [],a,E,I=>by rw[Ui];exact I
 | e::L,a,E,I=>by have:=FY L (a++[e]) (nE E e) (jv I e);rw[ou]at this;exact this
def lC(a:Ni Bd):Ni Bd:=a.foldl nE []
theorem WL(a:Ni Bd):eK a (lC a):=by have:=FY a [] [] jp;rwa[Wo]at this
theorem Ag(E:Ni Bd)(p q:Nat)(v:Int):(kJ E p q v).length<=E.length+1:=by
 unfold kJ;split
 . simp
 . simp
theorem Ck{d a:Type}(f:a->d->a)(b:a){xs:Ni d}{k:Nat}{x:d}(e:xs[k]?=ε x):(xs.take (k+1)).foldl f b=f ((xs.take k).foldl f b) x:=by rw[take_add_one,e,foldl_append];rfl
noncomputable def xE:Oa Nat->Dt
 | none=>.non
 | some q=>.int (q:Nat)
noncomputable def XB(n:Nat)(t:Nat->Int):Ni Dt:=(List.range n).map fun i=>.int (t i)
def aE(n:Nat)(c:Nat->Oa Nat):Ni Dt:=(List.range n).map fun i=>xE (c i)
theorem cR(n:Nat)(t:Nat->Int):(XB n t).length=n:=by simp[XB]
theorem ZV(n:Nat)(c:Nat->Oa Nat):(aE n c).length=n:=by simp[aE]
theorem mO{n p:Nat}(t:Nat->Int)(a:p<n):(XB n t)[p]?=ε (.int (t p)):=by simp[XB,a]
theorem WQ{n p:Nat}(c:Nat->Oa Nat)(a:p<n):(aE n c)[p]?=ε (xE (c p)):=by simp[aE,a]
theorem mX{a e:Type}(n p:Nat)(f:Nat->a)(D:a->e)(v:a):((List.range n).map fun i=>D (f i)).set p (D v)=(List.range n).map fun i=>D (put f p v i):=by
 apply ext_getElem?;intro i;rw[getElem?_set];simp![u5,mq,Fd];by_cases h:p=i
 . subst h;by_cases b:p<n
   . simp[b,RF]
   . simp[b]
 . have g:i≠p:=fun z=>h z.symm
   rw[dz h];by_cases d:i<n
   . simp[d,yE _ _ g]
   . simp[d]
theorem Dk(n p:Nat)(t:Nat->Int)(v:Int):(XB n t).set p (.int v)=XB n (put t p v):=mX n p t Dt.int v
theorem Az(n p q:Nat)(c:Nat->Oa Nat):(aE n c).set p (.int (q:Nat))=aE n (put c p (ε q)):=mX n p c xE (ε q)
structure XH(h0:HI)(a b c n:Nat)(E:List Bd)(s:CG)(h:HI):Prop where
 len:h.length=h0.length
 da:h[a]?=ε (.df (E.map BB))
 db:h[b]?=ε (.lst (XB n s.t))
 dc:h[c]?=ε (.lst (aE n s.c))
 els:∀m,m≠a->m≠b->m≠c->h[m]?=h0[m]?
noncomputable def kQ(x:Ni Int×Dt):Bd:=match x with
 | ([p,q],.int m)=>(p.toNat,q.toNat,m)
 | _=>(0,0,0)
theorem Z2(e:Bd):kQ (BB e)=e:=rfl
theorem Cm{C:HI}{a b c n:Nat}(O:a≠b)(ac:a≠c)(H:b≠c){E:Ni Bd}{e:Bd}(he:e.1<n/\e.2.1<n){s:CG}{h:HI}(M:XH C a b c n E s h) :
 ∃h',sI [ε (.ref a),ε (.ref b),ε (.ref c),ε (xE s.l),ε (.tup [.int (e.1:Nat),.int (e.2.1:Nat)]),ε (.int e.2.2)] h=ε (.nx [ε (.ref a),ε (.ref b),ε (.ref c),ε (xE (step s e).l),ε (.tup [.int (e.1:Nat),.int (e.2.1:Nat)]),ε (.int e.2.2)] h')/\XH C a b c n E (step s e) h':=by
 obtain⟨p,q,m⟩:=e;obtain⟨g,I⟩:=he;have r:=fun i=>kF M.db i
 have x:=mO s.t g;have u:=mO s.t I;have blt:b<h.length:=(Wi M.db).1;have o:c<h.length:=(Wi M.dc).1;by_cases f:s.t p>s.t q+m
 . have j:step s (p,q,m)=⟨put s.t p (s.t q+m),put s.c p (ε q),ε p⟩:=dh f;rw[j];have d:decide (s.t q+m<s.t p)=true:=eO f;have F:=AO (l:=[ε (.ref a),ε (.ref b),ε (.ref c),ε (xE s.l),ε (.tup [.int (p:Nat),.int (q:Nat)]),ε (.int m)]) (v:=.int (s.t q+m)) (k:=p) M.db (by rw[cR];exact g);rw[Dk]at F;have L:(h.set b (.lst (XB n (put s.t p (s.t q+m)))))[c]?=ε (.lst (aE n s.c)):=by rw[lu H];exact M.dc
   have D:=AO (l:=[ε (.ref a),ε (.ref b),ε (.ref c),ε (xE s.l),ε (.tup [.int (p:Nat),.int (q:Nat)]),ε (.int m)]) (v:=.int (q:Nat)) (k:=p) L (by rw[ZV];exact g);rw[Az]at D;refine⟨(h.set b (.lst (XB n (put s.t p (s.t q+m))))).set c (.lst (aE n (put s.c p (ε q)))),?_,?_⟩
   . simp![sI,dB,HA,vA,jA,sA,Ro,Rr,kA,fA,YB,rC,DF,Uu,r,SM.zD,x,u,UD,UM,KA,d,dG,JA,LY,F,LA,D,vB,Vo,Va];rfl
   . refine⟨by simp[M.len],?_,?_,?_,fun k J B y=>?_⟩
     . rw[lu (ni ac),lu (ni O)];exact M.da
     . rw[lu (ni H),tu blt]
     . rw[tu (by simp;exact o)]
     . rw[lu (ni y),lu (ni B)];exact M.els k J B y
 . have j:step s (p,q,m)=s:=dz f;rw[j];have d:decide (s.t q+m<s.t p)=false:=eH f;refine⟨h,?_,M⟩;simp![sI,dB,HA,vA,jA,sA,Ro,Rr,kA,fA,YB,rC,DF,Uu,r,SM.zD,x,u,UD,UM,KA,d,Vi,eG,PB]
theorem Dm{p:HI}{a b c n:Nat}(H:a≠b)(ac:a≠c)(F:b≠c){E:Ni Bd}(B:∀e∈E,e.1<n/\e.2.1<n){s:CG}{h:HI}(M:XH p a b c n E s h)(r q:Oa Dt) :
 ∃o m h',xD (bD 4 5) sI [ε (.ref a),ε (.ref b),ε (.ref c),ε (xE s.l),r,q] (.it a,h)=ε (.nx [ε (.ref a),ε (.ref b),ε (.ref c),ε (xE (E.foldl step s).l),o,m] h')/\XH p a b c n E (E.foldl step s) h':=by
 obtain⟨I,h',e,⟨f,d,rfl⟩,g⟩:=Xr (i:=4) (j:=5) (n:=a) (body:=sI) (kvs:=E.map BB) (fun(s:CG) l h=>(∃f d,l=[ε (.ref a),ε (.ref b),ε (.ref c),ε (xE s.l),f,d])/\XH p a b c n E s h) (fun s x=>step s (kQ x)) (fun s l h ⟨_,M⟩=>M.da) (by
  rintro x u s l h ⟨⟨f,d,rfl⟩,M⟩;obtain⟨e,y,rfl⟩:=Bs.mp u;obtain⟨h',D,g⟩:=Cm H ac F (B e y) M;rw[Z2];exact⟨_,D,⟨_,_,rfl⟩,g⟩) s ⟨⟨r,q,rfl⟩,M⟩
 have C:(E.map BB).foldl (fun s x=>step s (kQ x)) s=E.foldl step s:=by simp![foldl_map,Z2]
 rw[C]at e g;exact⟨f,d,h',e,g⟩
theorem Vf{a b c n:Nat}(f:a≠b)(ac:a≠c)(o:b≠c){E:Ni Bd}(g:∀e∈E,e.1<n/\e.2.1<n){s:CG}{h:HI}(da:h[a]?=ε (.dt (E.map BB))\/h[a]?=ε (.df (E.map BB)))(db:h[b]?=ε (.lst (XB n s.t)))(dc:h[c]?=ε (.lst (aE n s.c))) :
 ∃h',QJ [.ref a,.ref b,.ref c] h=ε (xE (turn E s).l,h')/\XH h a b c n E (turn E s) h':=by
 have d:a<h.length:=by rcases da with da | da<;>exact(Wi da).1
 obtain⟨h1,i,M⟩:∃h1,FI (eV 0) [ε (.ref a),ε (.ref b),ε (.ref c),ε .non,none,none] h=ε (.it a,h1)/\XH h a b c n E ⟨s.t,s.c,none⟩ h1:=by
  rcases da with da | da
  . refine⟨_,Ey ⋯ da,⟨by simp,tu d,?_,?_,fun m h1 z z=>lu (ni h1)⟩⟩
    . rw[lu f];exact db
    . rw[lu ac];exact dc
  . exact⟨_,Dy ⋯ da,⟨rfl,da,db,dc,fun z z z z=>rfl⟩⟩
 obtain⟨r,q,h',e,p⟩:=Dm f ac o g M none none;refine⟨h',?_,p⟩;have j:xD (bD 4 5) sI [ε (.ref a),ε (.ref b),ε (.ref c),ε .non,none,none] (.it a,h1)=_:=e;simp![QJ,gY,mB,Ss,Uo,dG,Ti,Vu,List.replicate,Wu,Wo,JA,vB,sA,fA,Vo,Va,LA,qD];simp[i,j];rfl
theorem Ft(l:LI)(h:HI)(b:Dt)(h':HI)(e:sL l h=ε (b,h')):h'=h:=by
 simp![sL,vA,jA]at e;rcases h0:l[0]? with _ | _ | d0
 . rw[h0]at e;cases e
 . rw[h0]at e;cases e
 . rcases h1:l[1]? with _ | _ | d1
   . rw[h0,h1]at e;cases e
   . rw[h0,h1]at e;cases e
   . rw[h0,h1]at e;simp![kA,fA]at e;cases d0<;>cases d1<;>simp[pE,tK]at e;exact e.2.symm
theorem UV(n:Nat)(t:Nat->Int):XB n t=((List.range n).map t).map Dt.int:=by unfold XB;rw[map_map];rfl
structure dJ(h0:HI)(n:Nat)(E:List Bd)(s:CG)(h:HI):Prop where
 len:h.length=h0.length+3
 da:h[h0.length]?=ε (.dt (E.map BB))\/h[h0.length]?=ε (.df (E.map BB))
 db:h[h0.length+1]?=ε (.lst (XB n s.t))
 dc:h[h0.length+2]?=ε (.lst (aE n s.c))
 els:∀m,m<h0.length->h[m]?=h0[m]?
def kB(n:Nat)(t:Nat->Int):Nat->Int:=fun i=>t i-RB ((List.range n).map t)
theorem j0{d:HI}{n:Nat}(L:1<=n)(C:n<=1000){E:Ni Bd}(F:∀e∈E,e.1<n/\e.2.1<n){s:CG}{h:HI}(M:dJ d n E s h)(r o j B i:Oa Dt) :
 ∃f,dJ d n E (turn E s) f/\EJ [r,o,ε (.ref d.length),ε (.ref (d.length+1)),ε (.ref (d.length+2)),j,B,i] h =
  (match(turn E s).l with
  | none=>ε (.rt (.tup [.str "times", .lst (XB n (kB n (turn E s).t))]) f)
  | some p=>ε (.nx [r,o,ε (.ref d.length),ε (.ref (d.length+1)),ε (.ref (d.length+2)),j,ε (.int (p:Nat)),i] f)):=by
 obtain⟨f,e,g⟩:=Vf (a:=d.length) (b:=d.length+1) (c:=d.length+2) nofun nofun nofun F M.da M.db M.dc;refine⟨f,⟨by rw[g.len,M.len],.inr g.da,g.db,g.dc,fun m D=>(g.els m nofun nofun nofun).trans (M.els m D)⟩,?_⟩;cases q:(turn E s).l with
 | some p=>rw[q]at e;have y:QJ [.ref d.length,.ref (d.length+1),.ref (d.length+2)] h=ε (.int (p:Nat),f):=e;simp[EJ,y,UI]
 | none=>
  rw[q]at e;have y:QJ [.ref d.length,.ref (d.length+1),.ref (d.length+2)] h=ε (.non,f):=e;have u:(List.range n).map (turn E s).t ≠ []:=by intro z;have:=congrArg List.length z;simp at this;omega
  have H:pT (oe 0) [r,o,ε (.ref d.length),ε (.ref (d.length+1)),ε (.ref (d.length+2)),j,ε .non,i] (.ref (d.length+1),f)=ε (.int (RB ((List.range n).map (turn E s).t)),f):=by unfold pT;simp![sA,fA];rw[NE g.db,UV];simp![Wa,SM.Yg];rw[dh u]
  have I:DE (CA 0) nB sL [none,ε (.int (RB ((List.range n).map (turn E s).t)))] (.rf (d.length+1),f)=ε (XB n (kB n (turn E s).t),f):=by
   rw[rR g.db (by rw[cR];simp;omega) (fun l h b f e q=>by simp at e;rw[<- e.2];exact q) (fun l h b f e q=>by rw[Ft l h b f e];exact q)];rw[UV,sF Dt.int (fun x=>Dt.int (x-RB ((List.range n).map (turn E s).t))) f _ _ (by
    intro x J;exact⟨by simp,by simp[sL]⟩)]
   unfold XB kB;rw[map_map];rfl
  simp[EJ,y,UI,H,ME g.db,I]
theorem UY{a:HI}{n:Nat}(D:1<=n)(m:n<=1000){E:Ni Bd}(F:∀e∈E,e.1<n/\e.2.1<n)(j i:Oa Dt):∀(xs:Ni Dt)(k:Nat)(g f d:Oa Dt)(h:HI),dJ a n E (BE E k s0) h->(1<=k->∃p:Nat,(BE E k s0).l=ε p/\f=ε (.int (p:Nat)))->
 (∃s b,s.l=none/\(∀e∈E,lF s.t e)/\dJ a n E s b/\QB (CA 5) EJ xs [j,i,ε (.ref a.length),ε (.ref (a.length+1)),ε (.ref (a.length+2)),g,f,d] h=ε (.rt (.tup [.str "times", .lst (XB n (kB n s.t))]) b))\/
 (∃u r b,dJ a n E (BE E (k+xs.length) s0) b/\(1<=k+xs.length->∃p:Nat,(BE E (k+xs.length) s0).l=ε p/\r=ε (.int (p:Nat)))/\
  QB (CA 5) EJ xs [j,i,ε (.ref a.length),ε (.ref (a.length+1)),ε (.ref (a.length+2)),g,f,d] h=ε (.nx [j,i,ε (.ref a.length),ε (.ref (a.length+1)),ε (.ref (a.length+2)),u,r,d] b))
 | [],k,g,f,d,h,M,q=>.inr ⟨g,f,h,M,q,rfl⟩
 | x::xs,k,g,f,d,h,M,q=>by
  obtain⟨H,M1,o⟩:=j0 D m F M j i (ε x) f d;cases ql:(turn E (BE E k s0)).l with
  | none=>
   rw[ql]at o;obtain⟨_,J,I⟩:=lX E _ ql;refine .inl ⟨turn E (BE E k s0),H,ql,?_,M1,by simp[QB,o]⟩;show ∀e∈E,lF (E.foldl step _).t e
   rw[J];exact I
  | some p=>
   rw[ql]at o;have:=UY D m F j i xs (k+1) (ε x) (ε (.int (p:Nat))) d H M1 (fun z=>⟨p,ql,rfl⟩);rw[show k+(x::xs).length=k+1+xs.length by simp;omega];rcases this with⟨s,b,C,B,y,L⟩ | ⟨u,r,b,C,B,y⟩
   . exact .inl ⟨s,b,C,B,y,by simp[QB,o,L]⟩
   . exact .inr ⟨u,r,b,C,B,by simp[QB,o,y]⟩
def EC(c:Nat->Oa Nat)(P i:Nat):Ni Dt:=(List.range (i+1)).map fun m=>.int ((yB (nxt c) m P:Nat):Int)
theorem Uk(c:Nat->Oa Nat)(P i:Nat):atI (EC c P i) (-1)=ε (.int ((yB (nxt c) i P:Nat):Int)):=by
 unfold EC atI cI;have b:(1:Int)<=(i:Int)+1:=by omega
 have a:(-1+((i:Int)+1)).toNat=i:=by omega
 simp[b,a]
theorem Bq{n a k x:Nat}(hn:1<=n)(a0:n<=90){E:Ni Bd}{w:Nat->Nat->Int}{c:Nat->Oa Nat}{h:HI}(dc:h[a]?=ε (.lst (aE n c)))(T:yT n E)
 (R:YH n E w c (yB (nxt c) n x) k) (Y:∀i,i<=n->c (yB (nxt c) i x)=ε (yB (nxt c) (i+1) x)/\yB (nxt c) i x<n) :
 wN [.int (x:Nat),.ref a] h=ε (.ref h.length,h++[.lst (EC c (yB (nxt c) n x) k)]):=by
 have M:=fun i=>kF dc i
 have W:=XF (h:=h) (show(-(2^62):Int)<=(n:Int) by omega) (show(n:Int)<2^62 by omega);simp![nu]at W;obtain⟨l',b,e,⟨y,rfl⟩,S⟩:=zL (i:=2) (body:=wQ) (fun(k:Nat)=>Dt.int (k:Int)) (fun i l b=>(∃y,l=[ε (.int ((yB (nxt c) i x:Nat):Int)),ε (.ref a),y,none])/\b=h) n (by
  rintro i hi l b ⟨⟨y,rfl⟩,rfl⟩;obtain⟨q,p⟩:=Y i nofun;have o:=WQ c p;rw[q]at o;refine⟨.nx [ε (.int ((yB (nxt c) (i+1) x:Nat):Int)),ε (.ref a),ε (.int (i:Nat)),none] b,?_,⟨_,rfl⟩,rfl⟩;simp![wQ,vB,vA,jA,Vo,Va,Ro,Rr,kA,fA,M,SM.zD,o,Uu,xE]) [ε (.int (x:Nat)),ε (.ref a),none,none] h ⟨⟨_,rfl⟩,rfl⟩
 rw[S]at e;clear S;obtain⟨q,p⟩:=Y n (Ue _);generalize hP:yB (nxt c) n x=P at R e q p;have I:c P=ε (yB (nxt c) (n+1) x):=q;have f:=WQ c p;have f1:yB (nxt c) (n+1) x=nxt c P:=by show nxt c (yB (nxt c) n x)=_;rw[hP]
 rw[I,f1]at f;obtain⟨r,U,s⟩:=FX (t:=vQ) (body:=xQ) (fun m l b=>∃i,1<=i/\i<=k/\m=k-i/\l=[ε (.int (P:Nat)),ε (.ref a),y,ε (.ref h.length)]/\b=h++[.lst (EC c P i)])
  (fun l b=>l=[ε (.int (P:Nat)),ε (.ref a),y,ε (.ref h.length)]/\b=h++[.lst (EC c P k)]) (fun v v=>False) (by
  rintro m l b ⟨i,i1,Z,rfl,rfl,rfl⟩;have F:(h++[Ob.lst (EC c P i)])[h.length]?=ε (.lst (EC c P i)):=by simp
  have H:(h++[Ob.lst (EC c P i)])[a]?=ε (.lst (aE n c)):=by rw[Xa (Wi dc).1];exact dc
  have L:=fun j=>kF F j
  have u:=fun j=>kF H j
  have O:=Uk c P i;refine⟨!decide (((yB (nxt c) i P:Nat):Int)=(P:Int)),h++[.lst (EC c P i)],?_,?_⟩
  . simp![vQ,HA,vA,jA,bP,sA,wO,Ro,Rr,kA,fA,L,O,Uu,IE,KA]
  . by_cases hk:i=k
    . subst hk;rw[R.back];simp
    . have ne:=R.first i i1 nofun;have B:¬(((yB (nxt c) i P:Nat):Int)=(P:Int)):=fun z=>ne nofun
      rw[eH B];obtain⟨g1,g2⟩:=R.edge i Z;have D:=(T.lt _ g1).1;have o:=WQ c D;rw[g2]at o;have ea:e2 pA (eV 1) (e2 pA (eV 3) (HC (oe 1))) [ε (.int (P:Nat)),ε (.ref a),y,ε (.ref h.length)] (h++[.lst (EC c P i)])=ε (.int ((yB (nxt c) (i+1) P:Nat):Int),h++[.lst (EC c P i)]):=by simp![vA,jA,bP,sA,wO,Ro,Rr,kA,fA,L,O,Uu,u,SM.zD,o,xE]
      have J:=nG (l:=[ε (.int (P:Nat)),ε (.ref a),y,ε (.ref h.length)]) (g:=e2 pA (eV 1) (e2 pA (eV 3) (HC (oe 1)))) F ea F (by have:=R.le;simp[EC];omega);have en:EC c P i++[.int ((yB (nxt c) (i+1) P:Nat):Int)]=EC c P (i+1):=by unfold EC;rw[Ii (n:=i+1),Ga];rfl
      rw[en]at J;have es:(h++[Ob.lst (EC c P i)]).set h.length (.lst (EC c P (i+1)))=h++[.lst (EC c P (i+1))]:=by simp
      rw[es]at J;refine⟨.nx [ε (.int (P:Nat)),ε (.ref a),y,ε (.ref h.length)] (h++[.lst (EC c P (i+1))]),?_,k-(i+1),by omega,i+1,by omega,by omega,rfl,rfl,rfl⟩;simp![xQ,XE,SF,jA,Ro,Rr,kA,fA,J]) 100 (k-1) [ε (.int (P:Nat)),ε (.ref a),y,ε (.ref h.length)] (h++[.lst (EC c P 1)]) ⟨1,Ue _,R.pos,rfl,rfl,rfl⟩ (by have:=R.le;omega)
 cases r with
 | nx Q C=>obtain⟨rfl,rfl⟩:=s;have e1:EC c P 1=[.int (P:Nat),.int ((nxt c P:Nat):Int)]:=rfl;rw[e1]at U;simp[wN,aV,EI dc,ZV,W,e,M,f,xE,U]
 | rt d C=>exact s.elim
 | bk Q C=>exact s.elim
 | ct Q C=>exact s.elim
def NK(a:Ni Bd)(p q:Nat):Int:=(pK (lC a) p q).getD 0
theorem nU{a:Ni Bd}{e:Bd}(he:e∈lC a):NK a e.1 e.2.1=e.2.2:=by
 unfold NK pK;cases q:(lC a).find? (UC e.1 e.2.1)with
 | none=>have:=find?_eq_none.mp q e he;exact Du (di.mpr ⟨rfl,rfl⟩) this
 | some x=>obtain⟨d,b⟩:=di.mp (find?_some q);exact(WL a).un x (Ai q) e he d b
theorem TY{n:Nat}{a:Ni Bd}(d:∀e∈a,e.1<n/\e.2.1<n/\e.1≠e.2.1):yT n (lC a):=⟨fun e b=>d e ((WL a).mem e b),(WL a).un⟩
theorem xU(b:Ni Bd)(F:b.length<=1000)(h:HI){a:Nat}(da:h[a]?=ε (.lst (b.map wA))):uJ [.ref a] h=ε (.ref h.length,h++[.dt ((lC b).map BB)]):=by
 obtain⟨C,j,e,⟨g,f,rfl⟩,rfl,_⟩:=fT (i:=2) (n:=a) (body:=pQ) wA (fun k l j=>(∃g f,l=[ε (.ref a),ε (.ref h.length),g,f])/\j=h++[.dt (((b.take k).foldl nE []).map BB)]/\((b.take k).foldl nE []).length<=k) b (by
  rintro k l j ⟨_,rfl,_⟩;rw[Xa (Wi da).1];exact da) (by
  rintro k x p l j ⟨⟨g,f,rfl⟩,rfl,s⟩;have D:k<b.length:=(Wi p).1;rw[Ck nE [] p];generalize (b.take k).foldl nE []=E at s;have m:(h++[Ob.dt (E.map BB)])[h.length]?=ε (.dt (E.map BB)):=by simp
  have B:([ε (Dt.ref a),ε (.ref h.length),g,f]:LI).set 2 (ε (wA x))=[ε (Dt.ref a),ε (.ref h.length),ε (wA x),f]:=rfl;rw[B];refine⟨.nx [ε (.ref a),ε (.ref h.length),ε (wA x),ε (.ntp [(x.1:Int),(x.2.1:Int)])] (h++[.dt ((nE E x).map BB)]),?_,⟨_,_,rfl⟩,rfl,?_⟩
  . have u:TJ (eV 1) (eV 3) (e2 pA (eV 2) (oe 2)) [ε (.ref a),ε (.ref h.length),ε (wA x),ε (.ntp [(x.1:Int),(x.2.1:Int)])] (h++[.dt (E.map BB)])=ε (.int ((pK E x.1 x.2.1).getD x.2.2),h++[.dt (E.map BB)]):=by rw[Sd (n:=h.length) (k:=[(x.1:Int),(x.2.1:Int)]) (kvs:=E.map BB) ⋯ m ⋯];simp![vA,jA,sA,Ro,Rr,kA,fA,wA,YB,nM,Uu];rw[Il m,GZ];cases pK E x.1 x.2.1<;>rfl
    have r:=o7 (l:=[ε (.ref a),ε (.ref h.length),ε (wA x),ε (.ntp [(x.1:Int),(x.2.1:Int)])]) (h:=h++[.dt (E.map BB)]) (fe:=CT qM (TJ (eV 1) (eV 3) (e2 pA (eV 2) (oe 2))) (e2 pA (eV 2) (oe 2))) (fo:=eV 1) (fy:=eV 3) (n:=h.length) (k:=[(x.1:Int),(x.2.1:Int)]) (kvs:=E.map BB)
     (d:=.int (min ((pK E x.1 x.2.1).getD x.2.2) x.2.2)) (by
      rw[bU,u,fA];simp[wA]) ⋯ m ⋯ (by simp;omega)
    rw[Lf]at r;have y:(h++[Ob.dt (E.map BB)]).set h.length (.dt ((nE E x).map BB))=h++[.dt ((nE E x).map BB)]:=by simp
    simp![pQ,JA,vB,V8,DA,zA,vA,jA,sA,Ro,Rr,kA,fA,wA,YB,rC,DF,Uu,Ar,Vo,Va,LA];have q:=r;simp![wA]at q;rw[q];show ε (Rs.nx _ ((h++[Ob.dt (E.map BB)]).set h.length (.dt ((nE E x).map BB))))=_;rw[y]
  . have:=Ag E x.1 x.2.1 (min ((pK E x.1 x.2.1).getD x.2.2) x.2.2);show(nE E x).length<=k+1;unfold nE;omega) [ε (.ref a),ε (.ref h.length),none,none] (h++[.dt []]) ⟨⟨_,_,rfl⟩,by simp,by simp⟩
 have o:(h++[Ob.dt []])[a]?=ε (.lst (b.map wA)):=by rw[Xa (Wi da).1];exact da
 rw[Ko]at e;simp[uJ,PU,ME o,e];rfl
theorem fY{n a:Nat}(F:1<=n)(S:n<=16)(b:Ni Bd)(W:∀e∈b,e.1<n/\e.2.1<n/\e.1≠e.2.1)(U:b.length<=1000)(h:HI)(da:h[a]?=ε (.lst (b.map wA))) :
 (∃t d,(∀e∈b,lF t e)/\(∀m,m<h.length->d[m]?=h[m]?)/\KH [.int (n:Nat),.ref a] h=ε (.tup [.str "times", .lst (XB n (kB n t))],d))\/
 (∃c P k r d,YH n (lC b) (NK b) c P k/\(∀m,m<h.length->d[m]?=h[m]?)/\d[r]?=ε (.lst (EC c P k))/\KH [.int (n:Nat),.ref a] h=ε (.tup [.str "ring", .ref r],d)/\h.length<=r):=by
 have T:=TY W;have Y:∀e∈lC b,e.1<n/\e.2.1<n:=fun e f=>⟨(T.lt e f).1,(T.lt e f).2.1⟩
 have H:=xU b U h da;have q:=oX (h:=h++[.dt ((lC b).map BB)]) (Dt.int 0) (show n<=1000000 by omega);have o:=oX (h:=h++[.dt ((lC b).map BB)]++[.lst (List.replicate n (Dt.int 0))]) Dt.non (show n<=1000000 by omega);have O:List.replicate n (Dt.int 0)=XB n s0.t:=by unfold XB;rw[show(fun i=>Dt.int (s0.t i))=fun z=>Dt.int 0 from rfl,map_const',Fd]
 have c0:List.replicate n Dt.non=aE n s0.c:=by unfold aE;rw[show(fun i=>xE (s0.c i))=fun z=>Dt.non from rfl,map_const',Fd]
 rw[O]at q o;rw[c0]at o;simp![ou,Wu,Wo,iu,Ss,Uo,Aa]at q o;have C:=fun h=>XF (h:=h) (show(-(2^62):Int)<=(n:Int)+1 by omega) (show(n:Int)+1<2^62 by omega)
 have Z:((n:Int)+1).toNat=n+1:=by omega
 rw[Z]at C;have M:dJ h n (lC b) (BE (lC b) 0 s0) (h++[.dt ((lC b).map BB),.lst (XB n s0.t),.lst (aE n s0.c)]):=by
  refine⟨by simp,.inl ?_,?_,?_,fun m B=>Xa B⟩
  . rw[Zo (Ue _),Cu];rfl
  . rw[Zo nofun,Je];rfl
  . rw[Zo nofun,Je];rfl
 rcases UY F nofun Y (ε (.int (n:Nat))) (ε (.ref a)) ((List.range (n+1)).map fun(k:Nat)=>Dt.int (k:Int)) 0 none none none _ M (fun h=>Du h nofun)with⟨s,d,j,y,E,a4⟩ | ⟨y5,y6,d,j,y,E⟩
 . refine .inl ⟨s.t,d,fun e f=>?_,E.els,?_⟩
   . obtain⟨x,Q,L,J,x3⟩:=(WL b).low e f;have:=y x Q;simp![lF]at this ⊢;rw[L,J]at this;omega
   . simp[KH,MR,H,q,o,C,a4]
 . rw[mq,Fd,Aa]at j y;obtain⟨p,ql,rfl⟩:=y nofun;obtain⟨u,D,I,_⟩:=GX T (fun e f=>nU f) n;obtain⟨k,R,cd⟩:=Ac T I ql;have g:=Bq F nofun j.dc T R cd;refine .inr ⟨(BE (lC b) (n+1) s0).c,yB (nxt (BE (lC b) (n+1) s0).c) n p,k,d.length,d++[.lst (EC (BE (lC b) (n+1) s0).c (yB (nxt (BE (lC b) (n+1) s0).c) n p) k)],R,fun m B=>?_,?_,?_,by rw[j.len];omega⟩
   . rw[Xa (by rw[j.len];omega)];exact j.els m B
   . rw[Zo (Ue _),Cu];rfl
   . simp[KH,MR,H,q,o,C,E,g]
theorem pZ{n:Nat}{a:Ni Bd}{b:Nat->Int}{c:Nat->Oa Nat}{P k:Nat}(f:∀e∈a,b e.1-b e.2.1<=e.2.2)(R:YH n (lC a) (NK a) c P k):False:=by
 have h:∀i,i<=k->b P-b (yB (nxt c) i P)<=((List.range i).map fun m=>NK a (yB (nxt c) m P) (yB (nxt c) (m+1) P)).sum:=by
  intro i
  induction i with
  | zero=>intro _;show b P-b P<=0;omega
  | succ i ih=>intro j;have d:=ih nofun;have g:=f _ ((WL a).mem _ (R.edge i nofun).1);rw[Ii,Ga,sum_append];simp![Ti,Vu,sum_cons,sum_nil,Int.add_zero]at g ⊢;omega
 have d:=h k (Ue _);rw[R.back]at d;have:=R.sum;omega
theorem Ry{n:Nat}(o:1<=n)(t:Nat->Int):(List.range n).map (kB n t) ≠ []/\RB ((List.range n).map (kB n t))=0:=by
 have ne:∀g:Nat->Int,(List.range n).map g ≠ []:=fun g z=>by have:=congrArg List.length z;simp at this;omega
 refine⟨ne _,?_⟩;obtain⟨m,h⟩:=FH _ (ne t);obtain⟨f,d⟩:=FH _ (ne (kB n t));obtain⟨i,b,e⟩:=Bs.mp m;obtain⟨j,a,p⟩:=Bs.mp f;have u:=d (kB n t i) (mem_map_of_mem b);have s:=h (t j) (mem_map_of_mem a);have r:kB n t i=0:=by unfold kB;rw[e];omega
 have q:kB n t j=t j-RB ((List.range n).map t):=rfl;omega
noncomputable def iC(t a b:Int):Nat:=if t<a then 0 else if t=a then 1 else if t<b then 2 else if t=b then 3 else 4
noncomputable def bc:Ni (Nat×Nat):=[(0,0),(0,1),(0,2),(0,3),(0,4),(1,2),(1,3),(1,4),(2,2),(2,3),(2,4),(3,4),(4,4)]
theorem iO{a b c d:Int}(h1:a<b)(h2:c<d):(iC a c d,iC b c d)∈bc:=by
 unfold iC
 repeat' split
 all_goals first | (exfalso;omega) | decide
noncomputable def pr(p:Nat×Nat):Dt:=.tup [.int (p.1:Int),.int (p.2:Int)]
noncomputable def zG(s:Int×Int):Dt:=.tup [.int s.1,.int s.2]
def AB(s o:Int×Int):Nat:=bc.idxOf (iC s.1 o.1 o.2,iC s.2 o.1 o.2)
def dD(s:Int×Int):Prop:=s.1<s.2
theorem vE{s o:Int×Int}(h1:dD s)(h2:dD o):AB s o<13:=idxOf_lt_length_of_mem (iO h1 h2)
theorem jy:∀p∈bc,SI (bc.map pr) (pr p)=true/\nF (bc.map pr) (pr p)=ε (bc.idxOf p):=by intro p a;simp![bc,Ba,not_mem_nil,or_false]at a;rcases a with rfl | rfl | rfl | rfl | rfl | rfl | rfl | rfl | rfl | rfl | rfl | rfl | rfl<;>exact⟨rfl,rfl⟩
noncomputable def FK(n:Nat)(p:Nat->Bool):Nat:=match n with
 | 0=>0
 | n+1=>FK n p+(if p n=true then 2^n else 0)
theorem sS(p:Nat->Bool):∀n,FK n p<2^n
 | 0=>by simp[FK]
 | n+1=>by have:=sS p n;simp![FK];rw[Nat.pow_succ];split<;>omega
theorem oZ(p:Nat->Bool):∀n k,(FK n p).testBit k=(decide (k<n)&&p k)
 | 0,k=>by simp[FK]
 | n+1,k=>by
  have ih:=oZ p n k;have lt:=sS p n;simp![FK];by_cases a:p n=true
  . rw[dh a,Nat.add_comm];rcases Nat.lt_trichotomy k n with h | h | h
    . rw[Nat.testBit_two_pow_add_gt h,ih];simp[h,Ho h]
    . subst h;rw[Nat.testBit_two_pow_add_eq,ih];simp[a]
    . have:2^n+FK n p<2^k:=jj (show 2^n+FK n p<2^(n+1) by rw[Nat.pow_succ];omega) (Nat.pow_le_pow_right (by decide) h);rw[Nat.testBit_lt_two_pow this];have:¬k<n+1:=by omega
      simp[this]
  . rw[dz a,Nat.add_zero,ih];by_cases h:k=n
    . subst h;simp[a]
    . have:(k<n+1)=(k<n):=by apply propext;omega
      simp[this]
theorem BI{a b:Nat}(g:a<8192)(f:b<8192)(h:∀k<13,a.testBit k=b.testBit k):a=b:=by
 apply Ie;intro k;by_cases d:k<13
 . exact h k d
 . have e:8192<=2^k:=by have:=Nat.pow_le_pow_right (show 1<=2 by decide) (show 13<=k by omega);exact this
   rw[Nat.testBit_lt_two_pow nofun,Nat.testBit_lt_two_pow nofun]
def mk(p:Nat->Bool):Nat:=FK 13 p
theorem w8(p:Nat->Bool):mk p<8192:=sS p 13
theorem B7(p:Nat->Bool){k:Nat}(a:k<13):(mk p).testBit k=p k:=by unfold mk;rw[oZ];simp[a]
noncomputable def cB(m:Nat):Ni Nat:=(List.range 13).filter m.testBit
theorem bo{m k:Nat}:k∈cB m↔k<13/\m.testBit k=true:=by simp[cB]
theorem Lz(g:Nat->Int)(p:Nat->Bool)(xs:Ni Nat):((xs.filter p).map g).sum=(xs.map fun k=>if p k=true then g k else 0).sum:=by
 induction xs with
 | nil=>rfl
 | cons x xs ih=>by_cases h:p x=true<;>simp[h,ih]
theorem Ht(p:Nat->Bool):((((List.range 13).filter p).map fun k=>(2:Int)^(12-k))).sum=(mk (fun j=>p (12-j)):Int):=by
 rw[Lz];simp![mk,FK,List.range,List.range.loop,Ti,Vu,sum_cons,sum_nil,Nat.reduceSub];generalize p 0=a0;generalize p 1=a1;generalize p 2=a2;generalize p 3=a3;generalize p 4=a4;generalize p 5=a5;generalize p 6=a6;generalize p 7=a7;generalize p 8=a8;generalize p 9=a9;generalize p 10=a10;generalize p 11=a11;generalize p 12=a12;have f:∀(b:Bool)(k:Nat),(if b=true then(2:Int)^k else 0)=((if b=true then 2^k else 0:Nat):Int):=by intro b k;cases b<;>simp
 simp![f];omega
def Ze(m:Nat):Nat:=mk fun j=>m.testBit (12-j)
theorem NJ(m:Nat):Ze m<8192:=w8 _
theorem eF(m:Nat){k:Nat}(a:k<13):(Ze m).testBit k=m.testBit (12-k):=B7 _ a
theorem dR{m:Nat}(a:m<8192):Ze (Ze m)=m:=BI (NJ _) a fun k b=>by
 rw[eF _ b,eF _ nofun]
 congr 1
 omega
theorem MJ(a b:Nat):Builtin.bitAnd (a:Int) (b:Int)=((a&&&b:Nat):Int):=by unfold Builtin.bitAnd;simp
theorem KL(a b:Nat):Builtin.bitOr (a:Int) (b:Int)=((a|||b:Nat):Int):=by
 unfold Builtin.bitOr Builtin.bitAnd Builtin.bitNot;have f:decide (0<=-(a:Int)-1)=false:=by simp;omega
 have d:decide (0<=-(b:Int)-1)=false:=by simp;omega
 have e:∀x:Int,-(-x-1)-1=x:=by intro x;omega
 simp![f,d,e];simp
theorem aY(a b:Nat):Builtin.bitXor (a:Int) (b:Int)=((a|||b:Nat):Int)-((a&&&b:Nat):Int):=by unfold Builtin.bitXor;rw[MJ,KL]
theorem SZ(m k:Nat):decide (Builtin.bitAnd ((m:Int)/2^k) 1=1)=m.testBit k:=by
 have e:((m:Int)/2^k)=((m/2^k:Nat):Int):=by simp
 rw[e];have:=MJ (m/2^k) 1;simp![Hu]at this;rw[this,Nat.testBit_eq_decide_div_mod_eq];have e2:(m/2^k&&&1)=m/2^k%2:=Nat.and_one_is_mod _;rw[e2]
 congr 1
 apply propext;omega
theorem MM{k:Nat}(a:k<13):aJ 1 (k:Int):=⟨by omega,by omega,by decide⟩
theorem r13(h:HI):W3 (.int 13,h)=ε (.vals ((List.range 13).map fun(k:Nat)=>Dt.int (k:Int)),h):=XF (by decide) (by decide)
theorem l13{a:Type}(f:Nat->a):((List.range 13).map f).length<sizeLine:=by rw[mq,Fd];decide
theorem o5{i:Nat}(h:i<13):i=0\/i=1\/i=2\/i=3\/i=4\/i=5\/i=6\/i=7\/i=8\/i=9\/i=10\/i=11\/i=12:=by revert i;decide
theorem rL(m:Nat):(cB m).length<=13:=by unfold cB;exact su (length_filter_le _ _) ⋯
theorem wL(m:Nat)(h:HI):QG [.int m] h=ε (.lst ((cB m).map fun(k:Nat)=>Dt.int (k:Int)),h):=by
 have a:=sR (te:=QQ) (tc:=RQ) (i:=0) (fun(k:Nat)=>Dt.int (k:Int)) m.testBit (fun(k:Nat)=>Dt.int (k:Int)) h (List.range 13) [none,ε (.int m)] fun k q=>⟨by
  simp[RQ,J1,SZ],fun q=>by simp[QQ]⟩
 simp[QG,CW,r13,rE _ _ _ (l13 _),a,cB]
theorem Jg(a:Ni Nat)(f:∀k∈a,k<13)(e:a.length<=13)(h:HI):bO [.lst (a.map fun(k:Nat)=>Dt.int (k:Int))] h=ε (.int ((a.map fun k=>(2:Int)^k).sum),h):=by
 have g:=sF (te:=NQ) (tc:=nB) (i:=0) (fun(k:Nat)=>Dt.int (k:Int)) (fun(k:Nat)=>Dt.int ((2:Int)^k)) h a [none] fun k d=>⟨rfl,by
  simp[NQ,sP (MM (f k d))]⟩
 have hs:((a.map fun(k:Nat)=>Dt.int (k:Int))).length<sizeLine:=by rw[mq];exact Di e (by decide)
 have b:=Y0 (h:=h) (a.map fun k=>(2:Int)^k);rw[map_map]at b;have:(Dt.int ∘ fun k=>(2:Int)^k)=fun(k:Nat)=>Dt.int ((2:Int)^k):=rfl
 rw[this]at b;simp[bO,cX,rE _ _ _ hs,g,b]
theorem Lg(m:Nat)(h:HI):cO [.int m] h=ε (.int (Ze m),h):=by
 have e:=sF (te:=OQ) (tc:=nB) (i:=0) (fun(k:Nat)=>Dt.int (k:Int)) (fun(k:Nat)=>Dt.int (((12-k:Nat):Nat):Int)) h (cB m) [none] fun k b=>⟨rfl,by
  have:=(bo.mp b).1;simp[OQ];omega⟩
 have hs:((cB m).map fun(k:Nat)=>Dt.int (k:Int)).length<sizeLine:=by rw[mq];exact Di (rL m) (by decide)
 have a:=Jg ((cB m).map fun k=>12-k) (by intro k d;obtain⟨j,_,rfl⟩:=Bs.mp d;omega) (by rw[mq];exact rL m) h;rw[map_map,map_map]at a;have g:((fun(k:Nat)=>Dt.int (k:Int)) ∘ fun k=>12-k)=fun(k:Nat)=>Dt.int (((12-k:Nat):Nat):Int):=rfl
 have e2:((fun(k:Nat)=>(2:Int)^k) ∘ fun k=>12-k)=fun(k:Nat)=>(2:Int)^(12-k):=rfl
 have f:((cB m).map fun k=>(2:Int)^(12-k)).sum=(Ze m:Int):=Ht _;rw[g,e2,f]at a;simp[cO,dX,wL,rE _ _ _ hs,e,a]
theorem Mw(t a b:Int)(i:a<b):(t<a/\iC t a b=0)\/(t=a/\iC t a b=1)\/(a<t/\t<b/\iC t a b=2)\/(t=b/\iC t a b=3)\/(b<t/\iC t a b=4):=by
 unfold iC;rcases Int.lt_trichotomy t a with h | h | h
 . exact .inl ⟨h,dh h⟩
 . exact .inr (.inl ⟨h,by rw[dz (by rw[h];exact Int.lt_irrefl a),dh h]⟩)
 . have g:¬t<a:=fun z=>Int.lt_irrefl a (Int.lt_trans h z)
   have f:¬t=a:=fun z=>Int.lt_irrefl a (z ▸ h)
   rw[dz g,dz f];rcases Int.lt_trichotomy t b with k | k | k
   . exact .inr (.inr (.inl ⟨h,k,dh k⟩))
   . exact .inr (.inr (.inr (.inl ⟨k,by rw[dz (by rw[k];exact Int.lt_irrefl b),dh k]⟩)))
   . have e:¬t<b:=fun z=>Int.lt_irrefl b (Int.lt_trans k z)
     have d:¬t=b:=fun z=>Int.lt_irrefl b (z ▸ k)
     exact .inr (.inr (.inr (.inr ⟨k,by rw[dz e,dz d]⟩)))
theorem Rt{w:Nat}(hw:w<13):Ze (2^w)=2^(12-w):=by
 have b:2^(12-w)<8192:=Di (Nat.pow_le_pow_right (by decide) (show 12-w<=12 by omega)) (by decide);refine BI (NJ _) b fun k a=>?_
 rw[eF _ a,Nat.testBit_two_pow,Nat.testBit_two_pow]
 congr 1
 apply propext;omega
def CH(i j:Nat):Nat:=match ck[i]? with
 | some (.tup r)=>(match r[j]? with
  | some (.int n)=>n.toNat
  | _=>0)
 | _=>0
noncomputable def p5:Dt->Nat
 | .int n=>n.toNat
 | _=>0
def XM:Dt->Ni Nat
 | .tup r=>r.map p5
 | _=>[]
theorem j3:ck=(ck.map XM).map fun r=>.tup (r.map fun n:Nat=>.int (n:Int)):=by rfl
theorem o9:(ck.map XM).length=13/\∀r∈ck.map XM,r.length=13:=by decide +kernel
theorem p9{i j:Nat}(g:i<13)(f:j<13):∃r,ck[i]?=ε (.tup r)/\r[j]?=ε (.int (CH i j)):=by
 obtain⟨N,h⟩:∃N,ck.map XM=N:=⟨_,rfl⟩
 have T:=j3;have d:=o9;rw[h]at T d;have a:i<N.length:=by rw[d.1];exact g
 have e:ck[i]?=ε (.tup (N[i].map fun n:Nat=>.int (n:Int))):=by rw[T,u5,je a];rfl
 have b:j<N[i].length:=by rw[d.2 _ (getElem_mem a)];exact f
 have e2:(N[i].map fun n:Nat=>Dt.int (n:Int))[j]?=ε (.int (N[i][j]:Int)):=by rw[u5,je b];rfl
 refine⟨_,e,?_⟩;rw[e2];unfold CH;rw[e];dsimp only;rw[e2];rfl
theorem ka:∀i<13,∀j<13,1<=CH i j/\CH i j<8192:=by decide +kernel
theorem iY:∀i<13,∀j<13,∀k<13,(CH (12-j) (12-i)).testBit (12-k)=(CH i j).testBit k:=by decide +kernel
noncomputable def rk(l:Ni Int)(x:Int):Nat:=match l with
 | []=>0
 | z::l=>(if z<x then 1 else 0)+rk l x
theorem J2{x y:Int}(h:x<=y):∀l,rk l x<=rk l y
 | []=>Ue _
 | z::l=>by have:=J2 h l;unfold rk;split<;>split<;>omega
theorem TH{x y:Int}(h:x<y):∀l,x∈l->rk l x<rk l y
 | z::l,m=>by
  unfold rk;rcases Ba.mp m with rfl | m
  . have:=J2 (Int.le_of_lt h) l;rw[dz (Int.lt_irrefl _),dh h];omega
  . have:=TH h l m;split<;>split<;>omega
theorem QO{x:Int}:∀l,x∈l->rk l x<l.length
 | z::l,m=>by
  have q:∀l,rk l x<=l.length:=by
   intro l;induction l with
   | nil=>exact Ue _
   | cons z l ih=>unfold rk;rw[Ss];split<;>omega
  unfold rk;rw[Ss];rcases Ba.mp m with rfl | m
  . have:=q l;rw[dz (Int.lt_irrefl _)];omega
  . have:=QO l m;split<;>omega
theorem qX{l:Ni Int}{x y:Int}(b:x∈l)(a:y∈l):(x<y)=((rk l x:Int)<(rk l y:Int)):=by
 apply propext;constructor
 . intro h;have:=TH h l b;omega
 . intro h;rcases Int.lt_trichotomy x y with g | g | g
   . exact g
   . subst g;omega
   . have:=TH g l a;omega
theorem pX{l:Ni Int}{x y:Int}(b:x∈l)(a:y∈l):(x=y)=((rk l x:Int)=(rk l y:Int)):=by
 apply propext;constructor
 . intro h;rw[h]
 . intro h;rcases Int.lt_trichotomy x y with g | g | g
   . have:=TH g l b;omega
   . exact g
   . have:=TH g l a;omega
theorem OJ{l:Ni Int}{t a b:Int}(d:t∈l)(f:a∈l)(e:b∈l):iC t a b=iC (rk l t) (rk l a) (rk l b):=by unfold iC;simp![qX d f,pX d f,qX d e,pX d e]
noncomputable def UH(t a b:Nat):Nat:=if t<a then 0 else if t=a then 1 else if t<b then 2 else if t=b then 3 else 4
theorem m9(t a b:Nat):iC t a b=UH t a b:=by unfold iC UH;simp![Int.ofNat_lt,Int.ofNat_inj]
noncomputable def OK(z y:Nat):Nat:=[0,3,6,7,8].getD z 0+y
theorem R9:∀z<5,∀y<5,(z,y)∈bc->bc.idxOf (z,y)=OK z y:=by decide +kernel
theorem yh:∀b<6,∀a<b,∀d<6,∀c<d,∀q<6,∀p<q,
 (CH (OK (UH a c d) (UH b c d)) (OK (UH c p q) (UH d p q))).testBit (OK (UH a p q) (UH b p q))=true:=by decide +kernel
theorem B3(t a b:Int):iC t a b<5:=by
 unfold iC
 repeat' split
 all_goals decide
theorem eX{s o t:Int×Int}(h1:dD s)(h2:dD o)(g:dD t):(CH (AB s o) (AB o t)).testBit (AB s t)=true:=by
 obtain⟨a,b⟩:=s;obtain⟨c,d⟩:=o;obtain⟨p,q⟩:=t;unfold dD at h1 h2 g;simp only at h1 h2 g;have W:∀{a b c d:Int},a<b->c<d->AB (a,b) (c,d)=OK (iC a c d) (iC b c d):=fun D C=>R9 _ (B3 _ _ _) _ (B3 _ _ _) (iO D C)
 rw[W h1 h2,W h2 g,W h1 g];have m:a ∈ [a,b,c,d,p,q]:=by simp
 have j:b ∈ [a,b,c,d,p,q]:=by simp
 have i:c ∈ [a,b,c,d,p,q]:=by simp
 have h:d ∈ [a,b,c,d,p,q]:=by simp
 have f:p ∈ [a,b,c,d,p,q]:=by simp
 have e:q ∈ [a,b,c,d,p,q]:=by simp
 have B:=TH h1 _ m;have y:=TH h2 _ i;have x:=TH g _ f;have u:=QO _ j;have r:=QO _ h;have n:=QO _ e;rw[OJ m i h,OJ j i h,OJ i f e,OJ h f e,OJ m f e,OJ j f e];generalize rk [a,b,c,d,p,q] a=a' at *;generalize rk [a,b,c,d,p,q] b=b' at *;generalize rk [a,b,c,d,p,q] c=c' at *;generalize rk [a,b,c,d,p,q] d=d' at *;generalize rk [a,b,c,d,p,q] p=p' at *;generalize rk [a,b,c,d,p,q] q=q' at *;simp![m9];exact yh _ u _ B _ r _ y _ n _ x
theorem Df:∀i<13,∀j<13,(CH i j).testBit 6=true->j=12-i:=by decide +kernel
theorem Vt{s:Int×Int}(h:dD s):AB s s=6:=by obtain⟨a,b⟩:=s;have h:a<b:=h;unfold AB iC;simp[Int.ne_of_gt h,show ¬b<a by omega];rfl
theorem YQ{s o:Int×Int}(h1:dD s)(h2:dD o):AB o s=12-AB s o:=by have:=eX h1 h2 h1;rw[Vt h1]at this;exact Df _ (vE h1 h2) _ (vE h2 h1) this
noncomputable def xM(f:Nat->Nat)(xs:Ni Nat)(a:Nat):Nat:=xs.foldl (fun b x=>b|||f x) a
theorem tZ(f:Nat->Nat)(k:Nat):∀(xs:Ni Nat)(a:Nat),(xM f xs a).testBit k=(a.testBit k || xs.any fun x=>(f x).testBit k)
 | [],a=>by simp[xM]
 | x::xs,a=>by have:=tZ f k xs (a|||f x);unfold xM at this ⊢;rw[foldl_cons,this];simp[Nat.testBit_or,Bool.or_assoc]
theorem ZZ(f:Nat->Nat):∀(xs:Ni Nat)(a:Nat),a<8192->(∀x∈xs,f x<8192)->xM f xs a<8192
 | [],a,ha,_=>ha
 | x::xs,a,ha,h=>by unfold xM;rw[foldl_cons];exact ZZ f xs (a|||f x) (Nat.or_lt_two_pow (n:=13) ha (h x ⋯)) fun y b=>h y (by simp[b])
def yK(a b:Nat):Nat:=(cB a).foldl (fun d i=>xM (CH i) (cB b) d) 0
theorem aW(b k:Nat):∀(xs:Ni Nat)(a:Nat),(xs.foldl (fun d i=>xM (CH i) (cB b) d) a).testBit k=(a.testBit k || xs.any fun i=>(cB b).any fun j=>(CH i j).testBit k)
 | [],a=>by simp
 | x::xs,a=>by rw[foldl_cons,aW b k xs,tZ];simp[Bool.or_assoc]
theorem ML(a b k:Nat):(yK a b).testBit k=true↔∃i j,i<13/\a.testBit i=true/\j<13/\b.testBit j=true/\(CH i j).testBit k=true:=by
 unfold yK;rw[aW];simp![Nat.zero_testBit,Bool.false_or,any_eq_true,bo];constructor
 . rintro⟨i,⟨h,g⟩,j,⟨f,e⟩,d⟩;exact⟨i,j,h,g,f,e,d⟩
 . rintro⟨i,j,h,g,f,e,d⟩;exact⟨i,⟨h,g⟩,j,⟨f,e⟩,d⟩
theorem LW(b:Nat):∀(xs:Ni Nat)(a:Nat),a<8192->(∀i∈xs,i<13)->xs.foldl (fun d i=>xM (CH i) (cB b) d) a<8192
 | [],a,ha,_=>ha
 | x::xs,a,ha,h=>by rw[foldl_cons];exact LW b xs _ (ZZ _ _ _ ha fun j f=>(ka x (h x ⋯) j (bo.mp f).1).2) fun y e=>h y (by simp[e])
theorem Fl(a b:Nat):yK a b<8192:=LW b _ 0 (by decide) fun i d=>(bo.mp d).1
theorem Dh{a b:Bool}(h:a=true↔b=true):a=b:=by cases a<;>cases b<;>simp_all
theorem Rp{a b:Nat}(f:a<8192)(e:b<8192)(h:∀k<13,a.testBit k=true↔b.testBit k=true):a=b:=BI f e fun k d=>Dh (h k d)
theorem Jh(a b:Nat):yK (Ze b) (Ze a)=Ze (yK a b):=by
 refine Rp (Fl _ _) (NJ _) fun k m=>?_
 rw[eF _ m,ML,ML];constructor
 . rintro⟨i,j,g,f,e,d,h⟩;rw[eF _ g]at f;rw[eF _ e]at d;refine⟨12-j,12-i,by omega,d,by omega,f,?_⟩;have:=iY i g j e k m;rw[this];exact h
 . rintro⟨i,j,g,f,e,d,h⟩;refine⟨12-j,12-i,by omega,?_,by omega,?_,?_⟩
   . rw[eF _ nofun,show 12-(12-j)=j by omega];exact d
   . rw[eF _ nofun,show 12-(12-i)=i by omega];exact f
   . have:=iY i g j e (12-k) nofun;rw[show 12-(12-k)=k by omega]at this;rw[this];exact h
theorem Nf{i:Nat}(n:i<13)(b d:Nat)(x y z:Oa Dt)(h:HI):∃f,qN [x,y,ε (.lst ((cB b).map fun(k:Nat)=>Dt.int (k:Int))),ε (.int d),ε (.int i),z] h=ε (.nx [x,y,ε (.lst ((cB b).map fun(k:Nat)=>Dt.int (k:Int))),ε (.int (xM (CH i) (cB b) d)),ε (.int i),f] h):=by
 obtain⟨p,g,e,⟨f,rfl⟩,rfl⟩:=EX (i:=5) (body:=oQ) (fun(k:Nat)=>Dt.int (k:Int)) (fun(a:Nat) l g=>(∃f,l=[x,y,ε (.lst ((cB b).map fun(k:Nat)=>Dt.int (k:Int))),ε (.int a),ε (.int i),f])/\g=h) (fun a j=>a|||CH i j) (cB b) (by
  rintro j m a l h ⟨⟨f,rfl⟩,rfl⟩;obtain⟨r,o,e2⟩:=p9 n (bo.mp m).1;refine⟨.nx [x,y,ε (.lst ((cB b).map fun(k:Nat)=>Dt.int (k:Int))),ε (.int ((a|||CH i j:Nat):Int)),some (.int i),some (.int j)] h,?_,⟨_,rfl⟩,rfl⟩;simp[oQ,o,e2,KL]) d [x,y,some (.lst ((cB b).map fun(k:Nat)=>Dt.int (k:Int))),ε (.int d),ε (.int i),z] h ⟨⟨z,rfl⟩,rfl⟩
 refine⟨f,?_⟩;simp[qN,e];rfl
theorem Ij(a b:Nat)(h:HI):xN [.int a,.int b] h=ε (.int (yK a b),h):=by
 obtain⟨m,f,e,⟨z,w,rfl⟩,rfl⟩:=EX (i:=4) (body:=qN) (fun(k:Nat)=>Dt.int (k:Int)) (fun(c:Nat) l f=>(∃z w,l=[ε (.int a),ε (.int b),ε (.lst ((cB b).map fun(k:Nat)=>Dt.int (k:Int))),ε (.int c),z,w])/\f=h) (fun d i=>xM (CH i) (cB b) d) (cB a) (by
  rintro i g c l h ⟨⟨z,w,rfl⟩,rfl⟩;obtain⟨j,e⟩:=Nf (bo.mp g).1 b c (ε (.int a)) (ε (.int b)) w h;exact⟨_,e,⟨_,_,rfl⟩,rfl⟩) 0 [ε (.int a),ε (.int b),ε (.lst ((cB b).map fun(k:Nat)=>Dt.int (k:Int))),ε (.int 0),none,none] h ⟨⟨none,none,rfl⟩,rfl⟩
 simp[xN,OU,wL,e];rfl
noncomputable def FC(c:Nat)(g:Nat->Nat):Ni Dt:=(List.range c).map fun(j:Nat)=>Dt.int (g j:Nat)
noncomputable def rF(b c:Nat):Ni Dt:=(List.range c).map fun(k:Nat)=>Dt.ref (b+k)
structure Ve(h:HI)(b c:Nat)(f:Nat->Nat->Nat):Prop where
 row:∀i<c,h[b+i]?=ε (.lst (FC c (f i)))
 top:h[b+c]?=ε (.lst (rF b c))
def QC(b c:Nat)(f:Nat->Nat->Nat):HI:=((List.range c).map fun i=>Ob.lst (FC c (f i)))++[.lst (rF b c)]
theorem Ve.lt{h:HI}{b c:Nat}{f:Nat->Nat->Nat}(N:Ve h b c f):b+c<h.length:=(Wi N.top).1
theorem Ve.grow{h:HI}{b c:Nat}{f:Nat->Nat->Nat}(N:Ve h b c f)(e:HI):Ve (h++e) b c f:=by have:=N.lt;exact⟨fun i a=>by rw[Xa nofun];exact N.row i a,by rw[Xa nofun];exact N.top⟩
theorem PF(h:HI)(c:Nat)(f:Nat->Nat->Nat):Ve (h++QC h.length c f) h.length c f:=by
 constructor
 . intro i a;rw[Zo nofun];unfold QC;rw[Xa (by simp;omega)];simp[a]
 . rw[Zo nofun];unfold QC;rw[Zo ⋯];simp
theorem zO(c:Nat)(g:Nat->Nat):(FC c g).length=c:=by simp[FC]
theorem IL(b c:Nat):(rF b c).length=c:=by simp[rF]
theorem EL{c j:Nat}(a:j<c)(g:Nat->Nat):(FC c g)[j]?=ε (.int (g j:Nat)):=by simp[FC,a]
theorem nO{b c j:Nat}(a:j<c):(rF b c)[j]?=ε (.ref (b+j)):=by simp[rF,a]
theorem Pz{c:Nat}{g g':Nat->Nat}(e:∀j<c,g j=g' j):FC c g=FC c g':=map_congr_left fun j a=>by rw[e j (Bu.mp a)]
theorem Rh{c j:Nat}(g:Nat->Nat)(v:Nat):(FC c g).set j (.int (v:Nat))=FC c (fun x=>if x=j then v else g x):=by
 apply ext_getElem?;intro k;rw[getElem?_set];simp![FC,mq,Fd,u5];by_cases a:k<c
 . rw[Mi a];by_cases b:j=k
   . subst b;simp[a]
   . have:¬k=j:=fun z=>b z.symm
     simp[b,this]
 . rw[jo (by simpa using a)];split
   . have:¬j<c:=by omega
     simp[this]
   . rfl
theorem Ve.congr{h:HI}{b c:Nat}{f g:Nat->Nat->Nat}(N:Ve h b c f)(e:∀i<c,∀j<c,f i j=g i j):Ve h b c g:=
 ⟨fun i a=>by rw[<- Pz (e i a)];exact N.row i a,N.top⟩
noncomputable def CB(f:Nat->Nat->Nat)(i j v:Nat):Nat->Nat->Nat:=fun a b=>if a=i then(if b=j then v else f a b)else f a b
theorem Ve.other{h:HI}{b c:Nat}{f:Nat->Nat->Nat}(N:Ve h b c f){n:Nat}(d:n<b\/b+c<n)(o:Ob):Ve (h.set n o) b c f:=
 ⟨fun i a=>by rw[lu nofun];exact N.row i a,by rw[lu nofun];exact N.top⟩
theorem Ve.ix{h:HI}{b c:Nat}{f:Nat->Nat->Nat}(N:Ve h b c f){i:Nat}(a:i<c):pA (.ref (b+c)) (.int (i:Nat)) h=ε (.ref (b+i),h):=by rw[kF N.top,SM.zD,nO a];rfl
theorem Ve.ix2{h:HI}{b c:Nat}{f:Nat->Nat->Nat}(N:Ve h b c f){i j:Nat}(d:i<c)(a:j<c):pA (.ref (b+i)) (.int (j:Nat)) h=ε (.int (f i j:Nat),h):=by rw[kF (N.row i d),SM.zD,EL a];rfl
theorem Ve.len{h:HI}{b c:Nat}{f:Nat->Nat->Nat}(N:Ve h b c f):xB (.ref (b+c)) h=ε (.int (c:Nat),h):=by rw[EI N.top,IL]
theorem Ve.seq{h:HI}{b c:Nat}{f:Nat->Nat->Nat}(N:Ve h b c f):wH (.ref (b+c),h)=ε (.rf (b+c),h):=ME N.top
theorem Ve.len1{h:HI}{b c:Nat}{f:Nat->Nat->Nat}(N:Ve h b c f){i:Nat}(a:i<c):xB (.ref (b+i)) h=ε (.int (c:Nat),h):=by rw[EI (N.row i a),zO]
theorem gw{i n:Nat}{xs:Ni Dt}:∀(l:LI)(h:HI)(b:Dt)(h':HI),LB xF (eV i) l h=ε (b,h')->h[n]?=ε (.lst xs)->h'[n]?=ε (.lst xs):=by
 intro l h b h' e q;have a:=(Wi q).1;rw[EB,jA]at e;cases z:l[i]? with
 | none=>rw[z]at e;simp[bI]at e
 | some o=>
  rw[z]at e;cases o with
  | none=>simp[bI]at e
  | some d=>
   simp![kA,fA,xF]at e;cases y:eD h d with
   | none=>rw[y]at e;cases e
   | some f=>rw[y]at e;simp![Uu,Fi,vo]at e;obtain⟨_,rfl⟩:=e;rw[Xa a];exact q
theorem AX{n:Nat}{xs:Ni Dt}:∀(l:LI)(h:HI)(b:Bool)(h':HI),nB l h=ε (b,h')->h[n]?=ε (.lst xs)->h'[n]?=ε (.lst xs):=by intro l h b h' e q;simp![BO,Fi,vo]at e;rw[<- e.2];exact q
theorem OW{te:RE}(d:te=LB xF (eV 0)){h:HI}{b c:Nat}{f:Nat->Nat->Nat}(N:Ve h b c f)(j:c<=1000)(l:LI)(g:0<l.length):DE (CA 0) nB te l (.rf (b+c),h)=ε (rF h.length c,h++(List.range c).map fun i=>Ob.lst (FC c (f i))):=by
 subst d;rw[rR N.top (by rw[IL];simp;omega) AX gw];have:=iR (te:=LB xF (eV 0)) (i:=0) (fun(k:Nat)=>Dt.ref (b+k)) (fun i=>Ob.lst (FC c (f i))) h (List.range c) l [] (by
  intro k a e;have a:=Bu.mp a;have q:=(N.grow e).row k a;rw[EB,jA,tu g,kA,fA];simp![xF,eD,EA,q,Uu])
 rw[Ui,Fd]at this;exact this
noncomputable def kC(i j:Nat):Nat:=if i=j then 64 else 8191
theorem kW(b c:Nat)(f:Nat->Nat->Nat):(QC b c f).length=c+1:=by simp[QC]
theorem mW(h:HI){c i:Nat}(b:i<c)(f:Nat->Nat->Nat)(j v:Nat):(h++QC h.length c f).set (h.length+i) (.lst ((FC c (f i)).set j (.int (v:Nat))))=h++QC h.length c (CB f i j v):=by
 rw[set_append_right _ _ nofun,Je]
 congr 1
 unfold QC;rw[set_append_left _ _ (by simpa using b)]
 congr 1
 apply ext_getElem?;intro k;rw[getElem?_set];simp![mq,Fd,u5];by_cases a:k<c
 . rw[Mi a];by_cases e:i=k
   . subst e;have:(fun x=>if x=j then v else f i x)=CB f i j v i:=by funext x;simp[CB]
     simp[b,Rh,this]
   . have:¬k=i:=by omega
     have q:CB f i j v k=f k:=by funext x;simp[CB,this]
     simp[e,q]
 . rw[jo (by simpa using a)];have:¬i=k:=by omega
   simp[this]
theorem Xb(f:Nat->Nat->Nat)(i j v:Nat):CB f i j v i j=v:=by simp[CB]
def DB(f:Nat->Nat->Nat)(i m j:Nat):Nat->Nat->Nat:=CB (CB f i j (f i j&&&m)) j i (Ze (f i j&&&m))
theorem UN{h:HI}{b c:Nat}{f:Nat->Nat->Nat}(N:Ve h b c f)(s:c<=1000){i j:Nat}(a:i<c)(d:j<c)(m:Nat) :
 tI [.ref (b+c),.int (i:Nat),.int (m:Nat),.int (j:Nat)] h=ε (.ref (h.length+c),h++QC h.length c (DB f i m j)):=by
 have y:=OW (te:=qV) rfl N s [none] ⋯;have g:=N.grow (QC h.length c f);have M1:=PF h c f;have M2:=PF h c (CB f i j (f i j&&&m));have r:=mW h a f j (f i j&&&m);have q:=mW h d (CB f i j (f i j&&&m)) i (Ze (f i j&&&m));have n:=Lg (f i j&&&m) (h++QC h.length c (CB f i j (f i j&&&m)));have p:=fun(l:LI)=>AO (l:=l) (v:=.int ((f i j&&&m:Nat):Nat)) (M1.row i a) (show j<(FC c (f i)).length by rw[zO];exact d)
 have o:=fun(l:LI)=>AO (l:=l) (v:=.int ((Ze (f i j&&&m):Nat):Nat)) (M2.row j d) (show i<(FC c (CB f i j (f i j&&&m) j)).length by rw[zO];exact a)
 have e:=M2.ix2 a d;rw[Xb]at e;have u:(h++(List.range c).map fun i=>Ob.lst (FC c (f i)))++[Ob.lst (rF h.length c)]=h++QC h.length c f:=by rw[ou];rfl
 have x:(h++(List.range c).map fun i=>Ob.lst (FC c (f i))).length=h.length+c:=by simp
 dsimp![tI,zV,JA,vB,yO,OC,Ti,Vu,Wu,Wo,Rr,N.seq,dE,ZD,y,u,x,LA,Vo,Va,LY,vA,g.ix a,g.ix2 a d,M1.ix a,cM,MJ,p,r,NA,DA,zA,M2.ix a,e,Ui,n,M2.ix d,o,q,OA,WA];rfl
theorem Vm(c:Nat)(g:Nat->Nat)(z:Nat){h:HI}{n:Nat}(e:h[n]?=ε (.lst (FC c g))):jJ false (.int (z:Nat)) (.ref n) h=ε (.bl ((List.range c).any fun j=>g j==z),h):=by
 have d:∀a:Ni Nat,YE (a.map fun(j:Nat)=>Dt.int (g j:Nat))=ε (a.map fun(j:Nat)=>V.int (g j:Nat)):=by
  intro a
  induction a with
  | nil=>rfl
  | cons x a ih=>simp[YE,GD,ih]
 have b:CP (V.int (z:Nat)) ((List.range c).map fun(j:Nat)=>V.int (g j:Nat))=(List.range c).any fun j=>g j==z:=by
  unfold CP;rw[any_map]
  congr 1
  funext j
  simp![Function.comp];unfold PM;by_cases q:g j=z
  . simp[q]
  . have:(g j:Int)≠(z:Int):=by omega
    show((g j:Int)==(z:Int))=(g j==z);rw[Ei.mpr this,Ei.mpr q]
 simp![jJ,GD,eD,EA,e,Wa,FC,d,b];simp
noncomputable def wB(c:Nat)(f:Nat->Nat->Nat):Bool:=(List.range c).any fun i=>(List.range c).any fun j=>f i j==0
theorem Zb{n:Nat}{xs:Ni Dt}(a:Dt)(i:Nat):∀(l:LI)(h:HI)(b:Dt)(h':HI),e2 (jJ false) (eC a) (eV i) l h=ε (b,h')->h[n]?=ε (.lst xs)->h'[n]?=ε (.lst xs):=by
 intro l h b h' e q;rw[vA,sA,fA,jA]at e;cases z:l[i]? with
 | none=>rw[z]at e;simp[bI]at e
 | some o=>
  rw[z]at e;cases o with
  | none=>simp[bI]at e
  | some d=>
   simp![kA,fA,jJ]at e;cases j:GD a with
   | none=>rw[j]at e;cases e
   | some r=>
    rw[j]at e;cases g:eD h d with
    | none=>rw[g]at e;cases e
    | some m=>
     rw[g]at e;cases f:YE m with
     | none=>simp[f]at e
     | some p=>simp![Wa,f,Fi,vo]at e;rw[<- e.2];exact q
theorem Bg{te:RE}(a:te=e2 (jJ false) (oe 0) (eV 0)){h:HI}{b c:Nat}{f:Nat->Nat->Nat}(N:Ve h b c f)(e:c<=1000):DE (CA 0) nB te [none] (.rf (b+c),h)=ε (((List.range c).map fun i=>(List.range c).any fun j=>f i j==0).map Dt.bl,h):=by
 subst a;rw[rR N.top (by rw[IL];simp;omega) AX (Zb _ _)];have:=sF (te:=e2 (jJ false) (oe 0) (eV 0)) (tc:=nB) (i:=0) (fun(k:Nat)=>Dt.ref (b+k)) (fun i=>Dt.bl ((List.range c).any fun j=>f i j==0)) h (List.range c) [none] (by
  intro k d;have:=Vm c (f k) 0 (N.row k (Bu.mp d));simp![Hu]at this;exact⟨rfl,by simp[this]⟩)
 rw[rF,this];simp[map_map]
theorem KQ{h:HI}{b c:Nat}{f:Nat->Nat->Nat}(N:Ve h b c f)(d:c<=1000):QF [.ref (b+c)] h=ε (.bl (wB c f),h):=by have e:=Bg (te:=pV) rfl N d;have a:=A9 (h:=h) ((List.range c).map fun i=>(List.range c).any fun j=>f i j==0);simp![QF,yV,mB,OA,EB,uF,OC,jA,Ti,Vu,Wu,Wo,Ss,Uo,Ro,kA,fA,N.seq,dE,ZD,e,a,dG,WA,Nat.reduceAdd];simp[wB,any_map]
noncomputable def BA(p:Nat×Nat):Dt:=.tup [.int (p.1:Nat),.int (p.2:Nat)]
noncomputable def IC(c:Nat)(n:Nat):Ni (Nat×Nat):=(List.range n).flatMap fun i=>(List.range (c-i-1)).map fun k=>(i,i+1+k)
def VA(c:Nat):Ni (Nat×Nat):=IC c c
theorem bz{c:Nat}{p:Nat×Nat}:p∈VA c↔p.1<p.2/\p.2<c:=by
 obtain⟨i,j⟩:=p;unfold VA IC;simp![Ma,Bu,Bs,vo];constructor
 . rintro⟨a,d,k,b,rfl,rfl⟩;omega
 . rintro⟨f,e⟩;exact⟨i,by omega,j-i-1,by omega,rfl,by omega⟩
theorem CJ(c n:Nat):(IC c n).length<=n*c:=by
 induction n with
 | zero=>simp[IC]
 | succ n ih=>
  have:IC c (n+1)=IC c n++(List.range (c-n-1)).map fun k=>(n,n+1+k):=by unfold IC;rw[Ii,flatMap_append];simp
  rw[this,iu,mq,Fd,Nat.succ_mul];omega
theorem VN{c:Nat}(p:c<=1000)(h:HI):BH [.int (c:Nat)] h=ε (.ref h.length,h++[.lst ((VA c).map BA)]):=by
 have b:=XF (h:=h++[.lst []]) (show(-(2^62):Int)<=(c:Int) by omega) (show(c:Int)<2^62 by omega);simp![nu]at b;have s:c*c<=1000*1000:=Ja p p;obtain⟨q,a,e,⟨y,z,rfl⟩,rfl⟩:=zL (i:=2) (body:=HQ) (fun(k:Nat)=>Dt.int (k:Int)) (fun(n:Nat) l a=>(∃y z,l=[ε (.int (c:Nat)),ε (.ref h.length),y,z])/\a=h++[.lst ((IC c n).map BA)]) c (by
  rintro n D l u ⟨⟨y,z,rfl⟩,rfl⟩;have F:=CJ c n;have r:n*c<=c*c:=Nat.mul_le_mul_right _ nofun;obtain⟨q,a,e,⟨y,rfl⟩,rfl⟩:=zL (i:=3) (body:=GQ) (fun(k:Nat)=>Dt.int ((n:Int)+1+(k:Int))) (fun(m:Nat) l a=>(∃y,l=[ε (.int (c:Nat)),ε (.ref h.length),ε (.int (n:Nat)),y])/\a=h++[.lst ((IC c n++(List.range m).map fun k=>(n,n+1+k)).map BA)]) (c-n-1) (by
   rintro m E l u ⟨⟨y,rfl⟩,rfl⟩;refine⟨.nx [ε (.int (c:Nat)),ε (.ref h.length),ε (.int (n:Nat)),ε (.int ((n:Int)+1+(m:Int)))] (h++[.lst ((IC c n++(List.range (m+1)).map fun k=>(n,n+1+k)).map BA)]),?_,⟨_,rfl⟩,rfl⟩;have C:=fun(l:LI) (g:RE) (d:Dt) (B:g l (h++[.lst ((IC c n++(List.range m).map fun k=>(n,n+1+k)).map BA)])=ε (d,h++[.lst ((IC c n++(List.range m).map fun k=>(n,n+1+k)).map BA)]))=>nG (h:=h++[.lst ((IC c n++(List.range m).map fun k=>(n,n+1+k)).map BA)]) (l:=l) (n:=h.length) (ys:=(IC c n++(List.range m).map fun k=>(n,n+1+k)).map BA) (xs:=(IC c n++(List.range m).map fun k=>(n,n+1+k)).map BA) ⋯ B ⋯ (by simp;omega)
   simp![GQ,XE,SF,jA,Va,Vo,Ro,Rr,kA,fA];rw[C _ _ (BA (n,n+1+m))]
   . simp![fA];rw[show ∀(o f:Ob),(h++[o]).set h.length f=h++[f] by simp];simp[Ii]
   . simp[BA]) [ε (.int (c:Nat)),ε (.ref h.length),ε (.int (n:Nat)),z] (h++[.lst ((IC c n).map BA)]) ⟨⟨z,rfl⟩,by simp⟩
  have b:=Zd (h:=h++[.lst ((IC c n).map BA)]) (i:=(n:Int)+1) (j:=(c:Int)) nofun nofun nofun nofun;rw[show((c:Int)-((n:Int)+1)).toNat=c-n-1 by omega]at b;have x:IC c (n+1)=IC c n++(List.range (c-n-1)).map fun k=>(n,n+1+k):=by unfold IC;rw[Ii,flatMap_append];simp
  refine⟨.nx [ε (.int (c:Nat)),ε (.ref h.length),ε (.int (n:Nat)),y] (h++[.lst ((IC c (n+1)).map BA)]),?_,⟨_,_,rfl⟩,rfl⟩
  . simp![HQ,qD,R8,vA,jA,sA,Va,Vo,Ro,Rr,kA,fA,UD,b,tF];rw[e,x]) [ε (.int (c:Nat)),ε (.ref h.length),none,none] (h++[.lst []]) ⟨⟨none,none,rfl⟩,by simp[IC]⟩
 dsimp![BH,vV,JA,vB,PH,zA,Ti,Vu,Wu,Wo,LA,Va,Vo,qD,aK,Rr,b,tF,GL,m8,e,OA,WA];rfl
structure aB(c:Nat)(f:Nat->Nat->Nat):Prop where
 lt:∀i<c,∀j<c,f i j<8192
 tn:∀i<c,∀j<c,f j i=Ze (f i j)
theorem AI(c:Nat):aB c kC:=by
 constructor
 . intro i _ j _;unfold kC;split<;>decide
 . intro i _ j _;unfold kC;by_cases h:i=j
   . subst h;rw[dh rfl];decide +kernel
   . have:¬j=i:=fun z=>h z.symm
     rw[dz h,dz this];decide +kernel
theorem NH{c:Nat}{f:Nat->Nat->Nat}(o:aB c f){i j:Nat}(u:i<c)(s:j<c)(d:i≠j)(m:Nat):aB c (DB f i m j):=by
 have q:f i j&&&m<8192:=Di Nat.and_le_left (o.lt i u j s);have r:¬j=i:=fun z=>d z.symm
 constructor
 . intro a g b e;unfold DB CB
   repeat' split
   all_goals first | exact NJ _ | exact q | exact o.lt a g b e
 . intro a g b e;unfold DB CB;by_cases p:a=i
   . subst p;by_cases n:b=j
     . subst n;simp[d]
     . by_cases h:b=a
       . subst h;simp[d];exact o.tn _ g _ e
       . simp[n,h,d];exact o.tn _ g _ e
   . by_cases n:a=j
     . subst n;by_cases h:b=i
       . subst h;simp[d,dR q]
       . simp[p,h];exact o.tn _ g _ e
     . simp[p,n];exact o.tn _ g _ e
noncomputable def sC(i k j:Nat):Dt:=.tup [.int (i:Nat),.int (k:Nat),.int (j:Nat)]
def Vs(f:Nat->Nat->Nat)(i k j:Nat):Nat:=f i j&&&yK (f i k) (f k j)
theorem VW{h:HI}{b c:Nat}{f:Nat->Nat->Nat}(N:Ve h b c f){i k j:Nat}(d:i<c)(a:k<c)(e:j<c):tL [.ref (b+c),sC i k j] h=ε (.int (Vs f i k j:Nat),h):=by dsimp![tL,yW,sC,JA,vB,vA,sA,Ti,Vu,Wu,Wo,Rr,YB,rC,DF,nM,Uu,N.ix d,N.ix2 d a,N.ix a,N.ix2 a e,N.ix2 d e,LA,Va,Vo,OA,NA,DA,zA,Ui,Ij,cM,MJ,WA];rfl
theorem WW{h:HI}{b c:Nat}{f:Nat->Nat->Nat}(N:Ve h b c f)(m:c<=1000){i k j:Nat}(d:i<c)(g:k<c)(a:j<c):uL [.ref (b+c),sC i k j] h=ε (.ref (h.length+c),h++QC h.length c (DB f i (Vs f i k j) j)):=by have e:=VW N d g a;have e2:=UN N m d a (Vs f i k j);unfold sC at e ⊢;dsimp![uL,zW,vA,sA,Ti,Vu,Rr,YB,rC,nM,Uu,OA,NA,DA,zA,Ui,e,e2,WA]
theorem SX(f:Nat->Nat->Nat)(i k j:Nat):f i j&&&Vs f i k j=Vs f i k j:=by unfold Vs;rw[<- Nat.and_assoc,Nat.and_self]
theorem tE{i:Nat}{f:RE}{rest:RS}{l l':LI}{h h1:HI}{d:Dt}(e:f l h=ε (d,h1))(a:l.set i (ε d)=l'):lA (AA i f) rest l h=rest l' h1:=by simp![JA,vB,e,fA,LA,a]
theorem zF{t:RT}{a rest:RS}{l:LI}{h h1:HI}(e:t l h=ε (false,h1)):lA (VB t a UA) rest l h=rest l h1:=by simp![JA,dB,e,fA,Vi,eG,PB,LA]
theorem v7{t:RT}{f:RE}{rest:RS}{l:LI}{h h1 h2:HI}{d:Dt}(e:t l h=ε (true,h1))(a:f l h1=ε (d,h2)):lA (VB t (xA f) UA) rest l h=ε (.rt d h2):=by simp![JA,dB,e,fA,dG,OA,a,dC]
theorem cE{t:RT}{f:RE}{rest:RS}{l:LI}{h h1 h2:HI}{d:Dt}(e:t l h=ε (true,h1))(a:f l h1=ε (d,h2)):MD (lA (VB t (xA f) UA) rest l h)=ε (d,h2):=by rw[v7 e a,WA]
theorem OY{f:RE}{l:LI}{h h1:HI}{d:Dt}(e:f l h=ε (d,h1)):MD (xA f l h)=ε (d,h1):=by simp![OA,e,fA,WA]
theorem Jp{i n:Nat}{g:RE}{rest:RS}{l:LI}{h h1:HI}(e:l[i]?=ε (ε (.ref n)))(a:LM g l (.ref n,h)=ε (.non,h1)):lA (vD (SD (eV i) g)) rest l h=rest l h1:=by simp![JA,XE,SF,jA,e,kA,fA,a,LA]
section
variable{f:RE}{rest body:RS}{l l':LI}{h h1 h2:HI}{d:Dt}{R:Oa (Dt×HI)}{i:Nat}{t:RT}{g:RI}{bd:RG}{src:mv}
theorem CZ(e:f l h=ε (d,h1))(a:l.set i (ε d)=l')(k:MD (rest l' h1)=R):MD (lA (AA i f) rest l h)=R:=by rw[tE e a];exact k
theorem A1{a:RS}(e:t l h=ε (false,h1))(k:MD (rest l h1)=R):MD (lA (VB t a UA) rest l h)=R:=by rw[zF e];exact k
end
def aC(f:Nat->Nat->Nat)(i k j:Nat):Nat->Nat->Nat:=DB f i (Vs f i k j) j
theorem bH(f:Nat->Nat->Nat){i k j:Nat}(a:i≠j):aC f i k j i j=Vs f i k j:=by unfold aC DB CB;simp[a,SX]
theorem BR(f:Nat->Nat->Nat)(i k j:Nat):aC f i k j j i=Ze (Vs f i k j):=by unfold aC DB CB;simp[SX]
theorem UG(f:Nat->Nat->Nat){i k j a b:Nat}(h1:¬(a=i/\b=j))(h2:¬(a=j/\b=i)):aC f i k j a b=f a b:=by
 unfold aC DB CB;by_cases q1:a=j
 . subst q1;have:¬b=i:=fun z=>h2 ⟨rfl,z⟩
   by_cases q2:a=i
   . subst q2;simp[this]
   . simp[this,q2]
 . by_cases q2:a=i
   . subst q2;have:¬b=j:=fun z=>h1 ⟨rfl,z⟩
     simp[q1,this]
   . simp[q1,q2]
def Xi(a b:Nat):Prop:=a&&&b=a
theorem be{a b:Nat}:Xi a b↔∀k,a.testBit k=true->b.testBit k=true:=by
 unfold Xi;constructor
 . intro h k d;rw[<- h,zc,vm]at d;exact d.2
 . intro h;apply Ie;intro k;rw[zc];cases q:a.testBit k with
   | false=>rfl
   | true=>rw[h k q];rfl
theorem Xi.refl(a:Nat):Xi a a:=Nat.and_self a
theorem Xi.trans{a b c:Nat}(h1:Xi a b)(h2:Xi b c):Xi a c:=be.mpr fun k d=>be.mp h2 k (be.mp h1 k d)
theorem fL(a b:Nat):Xi (a&&&b) a:=be.mpr fun k d=>by rw[zc,vm]at d;exact d.1
theorem Et{a b c:Nat}(h1:Xi a b)(h2:Xi a c):Xi a (b&&&c):=be.mpr fun k d=>by rw[zc,be.mp h1 k d,be.mp h2 k d];rfl
theorem Ih{a b e d:Nat}(h1:Xi a e)(h2:Xi b d):Xi (yK a b) (yK e d):=be.mpr fun k f=>by obtain⟨i,j,q1,q2,q3,q4,q5⟩:=(ML a b k).mp f;exact(ML e d k).mpr ⟨i,j,q1,be.mp h1 i q2,q3,be.mp h2 j q4,q5⟩
theorem HY(a b:Nat):Ze (a&&&b)=Ze a&&&Ze b:=by
 refine BI (NJ _) (Di Nat.and_le_left (NJ a)) fun k d=>?_
 rw[eF _ d,zc,zc,eF _ d,eF _ d]
theorem Nt{a b:Nat}(e:a<8192)(d:b<8192)(h:Ze a=Ze b):a=b:=by rw[<- dR e,h,dR d]
theorem ke:Ze 0=0:=by decide +kernel
theorem zX{a b:Nat}(h:Xi a b):Xi (Ze a) (Ze b):=by unfold Xi at h ⊢;rw[<- HY,h]
theorem lZ{c:Nat}{f:Nat->Nat->Nat}(o:aB c f){i k j:Nat}(b:i<c)(a:j<c):Vs f i k j<8192:=Di Nat.and_le_left (o.lt i b j a)
theorem yg{c:Nat}{f:Nat->Nat->Nat}(o:aB c f){i k j:Nat}(d:i<c)(a:k<c)(b:j<c):Vs f j k i=Ze (Vs f i k j):=by unfold Vs;rw[o.tn i d j b,o.tn k a j b,o.tn i d k a,Jh,HY]
theorem WR{c:Nat}{f:Nat->Nat->Nat}(o:aB c f){i k j:Nat}(b:i<c)(d:k<c)(a:j<c)(h:Vs f j k i≠f j i):Vs f i k j≠f i j:=by intro e;apply h;rw[yg o b d a,e,<- o.tn i b j a]
theorem cS{c:Nat}{f:Nat->Nat->Nat}(o:aB c f){i k j:Nat}(d:i<c)(b:j<c)(a:i≠j):aB c (aC f i k j):=NH o d b a _
def lD(W:Ni (Nat×Nat))(i k j:Nat):Prop:=(i,k)∈W\/(k,i)∈W\/(k,j)∈W\/(j,k)∈W
def KF(i k j:Nat):Prop:=i≠k/\k≠j/\i≠j
def iD(c:Nat)(f:Nat->Nat->Nat)(W:Ni (Nat×Nat))(R:Ni (Nat×Nat×Nat)):Prop:=
 ∀i<c,∀k<c,∀j<c,KF i k j->Vs f i k j≠f i j->lD W i k j\/(i,k,j)∈R\/(j,k,i)∈R
noncomputable def YF(a b c:Nat):Ni (Nat×Nat×Nat):=(List.range c).flatMap fun o=>if o=a\/o=b then []else [(a,b,o),(b,a,o)]
theorem eI{a b c:Nat}{t:Nat×Nat×Nat}:t∈YF a b c↔∃o,o<c/\o≠a/\o≠b/\(t=(a,b,o)\/t=(b,a,o)):=by
 unfold YF;simp![Ma,Bu];constructor
 . rintro⟨o,d,h⟩;by_cases q:o=a\/o=b
   . rw[dh q]at h;cases h
   . rw[dz q]at h;simp![Ba,not_mem_nil,or_false]at h;exact⟨o,d,fun z=>q (.inl z),fun z=>q (.inr z),h⟩
 . rintro⟨o,d,f,e,h⟩;refine⟨o,d,?_⟩;rw[dz (by rintro(z | z);exact f z;exact e z)];simpa using h
theorem oh{c:Nat}{f:Nat->Nat->Nat}{a b:Nat}{W:Ni (Nat×Nat)}(h:iD c f ((a,b)::W) []):iD c f W (YF a b c):=by
 intro i m k q j g d n;obtain⟨p,o,e⟩:=d;rcases h i m k q j g ⟨p,o,e⟩ n with h | h | h
 . unfold lD at h ⊢;simp![Ba,vo]at h;rcases h with(⟨rfl,rfl⟩ | h) | (⟨rfl,rfl⟩ | h) | (⟨rfl,rfl⟩ | h) | (⟨rfl,rfl⟩ | h)
   . exact .inr (.inl (eI.mpr ⟨j,g,ni e,ni o,.inl rfl⟩))
   . exact .inl (.inl h)
   . exact .inr (.inl (eI.mpr ⟨j,g,ni o,ni e,.inr rfl⟩))
   . exact .inl (.inr (.inl h))
   . exact .inr (.inr (eI.mpr ⟨i,m,p,e,.inr rfl⟩))
   . exact .inl (.inr (.inr (.inl h)))
   . exact .inr (.inr (eI.mpr ⟨i,m,e,p,.inl rfl⟩))
   . exact .inl (.inr (.inr (.inr h)))
 . cases h
 . cases h
theorem Jw{c:Nat}{f:Nat->Nat->Nat}(o:aB c f){x y z:Nat}(b:x<c)(a:y<c)(hz:z<c){W:Ni (Nat×Nat)}{R:Ni (Nat×Nat×Nat)}(h:iD c f W ((x,y,z)::R))(n:Vs f x y z=f x z):iD c f W R:=by
 intro i p k e j g d m;rcases h i p k e j g d m with h | h | h
 . exact .inl h
 . rcases Ba.mp h with h | h
   . cases h;exact Du n m
   . exact .inr (.inl h)
 . rcases Ba.mp h with h | h
   . cases h;exact Du n (WR o b a hz m)
   . exact .inr (.inr h)
theorem ZX{a b e:Nat}(h:Xi a b)(q:b&&&e=b):a&&&e=a:=Xi.trans h q
theorem Kw{c:Nat}{f:Nat->Nat->Nat}(o:aB c f){x y z:Nat}(L:x<c)(U:y<c)(hz:z<c)(S:KF x y z){W:Ni (Nat×Nat)}{R:Ni (Nat×Nat×Nat)}(h:iD c f W ((x,y,z)::R)):iD c (aC f x y z) (W++[(x,z)]) R:=by
 obtain⟨Z,Y,T⟩:=S;have H:=cS (k:=y) o L hz T;have e:∀i<c,∀k<c,∀j<c,KF i k j->¬(i=z/\j=x)->Vs (aC f x y z) i k j≠aC f x y z i j->lD (W++[(x,z)]) i k j\/(i,k,j)∈R\/(j,k,i)∈R:=by
  intro i r k g j p d u m;obtain⟨s,e2,b⟩:=d;have grow:∀{i k j},lD W i k j->lD (W++[(x,z)]) i k j:=by
   intro i k j q;unfold lD at q ⊢;simp![Bo];rcases q with q | q | q | q
   . exact .inl (.inl q)
   . exact .inr (.inl (.inl q))
   . exact .inr (.inr (.inl (.inl q)))
   . exact .inr (.inr (.inr (.inl q)))
  by_cases D:i=x/\j=z
  . obtain⟨rfl,rfl⟩:=D;have C:aC f i y j i k=f i k:=UG f (fun q=>e2 q.2) (fun q=>s q.2.symm);have B:aC f i y j k j=f k j:=UG f (fun q=>s q.1.symm) (fun q=>e2 q.1);have E:Vs (aC f i y j) i k j=Vs f i y j&&&yK (f i k) (f k j):=by unfold Vs;rw[C,B,bH f b];rfl
    by_cases F:k=y
    . subst F;exfalso;apply m;rw[E,bH f b];unfold Vs;rw[Nat.and_assoc,Nat.and_self]
    . have n:Vs f i k j≠f i j:=by intro q;apply m;rw[E,bH f b];exact ZX (fL (f i j) _) q
      rcases h i r k g j p ⟨s,e2,b⟩ n with q | q | q
      . exact .inl (grow q)
      . rcases Ba.mp q with q | q
        . cases q;exact Du rfl F
        . exact .inr (.inl q)
      . rcases Ba.mp q with q | q
        . simp![vo]at q;exact Du q.1.symm b
        . exact .inr (.inr q)
  . by_cases a:lD [(x,z)] i k j
    . refine .inl ?_;unfold lD at a ⊢;simp![Bo];rcases a with q | q | q | q
      . exact .inl (.inr q)
      . exact .inr (.inl (.inr q))
      . exact .inr (.inr (.inl (.inr q)))
      . exact .inr (.inr (.inr (.inr q)))
    . unfold lD at a;simp![Ba,not_mem_nil,or_false,vo,not_or]at a;obtain⟨Q,P,O,M⟩:=a;have J:aC f x y z i j=f i j:=UG f (fun q=>D q) (fun q=>u q);have C:aC f x y z i k=f i k:=UG f (fun q=>Q q) (fun q=>P ⟨q.2,q.1⟩);have B:aC f x y z k j=f k j:=UG f (fun q=>O q) (fun q=>M ⟨q.2,q.1⟩);have n:Vs f i k j≠f i j:=by unfold Vs at m ⊢;rw[J,C,B]at m;exact m
      rcases h i r k g j p ⟨s,e2,b⟩ n with q | q | q
      . exact .inl (grow q)
      . rcases Ba.mp q with q | q
        . simp![vo]at q;exact Du ⟨q.1,q.2.2⟩ D
        . exact .inr (.inl q)
      . rcases Ba.mp q with q | q
        . simp![vo]at q;exact Du ⟨q.2.2,q.1⟩ u
        . exact .inr (.inr q)
 intro i r k g j p d m;by_cases u:i=z/\j=x
 . obtain⟨s,e2,b⟩:=d;have I:=WR H p g r m;rcases e j p k g i r ⟨ni e2,ni s,ni b⟩ (fun q=>b nofun) I with q | q | q
   . refine .inl ?_;unfold lD at q ⊢;rcases q with q | q | q | q
     . exact .inr (.inr (.inr q))
     . exact .inr (.inr (.inl q))
     . exact .inr (.inl q)
     . exact .inl q
   . exact .inr (.inr q)
   . exact .inr (.inl q)
 . exact e i r k g j p d u m
def jE(c:Nat)(f:Nat->Nat->Nat):Prop:=∀i<c,∀k<c,∀j<c,KF i k j->Vs f i k j=f i j
theorem Zq{c:Nat}{f:Nat->Nat->Nat}(h:iD c f [] []):jE c f:=by
 intro i e k a j b d;apply Classical.byContradiction;intro n;rcases h i e k a j b d n with q | q | q
 . unfold lD at q;simp at q
 . cases q
 . cases q
theorem fR(c:Nat)(f:Nat->Nat->Nat):iD c f (VA c) []:=by
 intro i b k a j g d _;refine .inl ?_;unfold lD;obtain⟨e,_,_⟩:=d;rcases Nat.lt_or_gt_of_ne e with h | h
 . exact .inl (bz.mpr ⟨h,a⟩)
 . exact .inr (.inl (bz.mpr ⟨h,b⟩))
def jI(m:Nat):Nat:=(cB m).length
theorem kR{b:Type}{p q:b->Bool}:∀(xs:Ni b),(∀x∈xs,p x=true->q x=true)->(xs.filter p).length<=(xs.filter q).length
 | [],_=>by simp
 | x::xs,H=>by
  have ih:=kR xs fun y e=>H y (by simp[e])
  have f:=H x ⋯;by_cases a:p x=true
  . simp[a,f a];exact ih
  . by_cases d:q x=true
    . simp[a,d];omega
    . simp[a,d];exact ih
theorem lR{f:Type}{p q:f->Bool}:∀(xs:Ni f),(∀x∈xs,p x=true->q x=true)->(∃x∈xs,p x=false/\q x=true)->(xs.filter p).length<(xs.filter q).length
 | [],_,h=>by obtain⟨x,h,_⟩:=h;cases h
 | x::xs,H,h=>by
  have i:=H x ⋯;have g:=kR xs fun y hy=>H y (by simp[hy])
  by_cases a:p x=true
  . obtain⟨y,hy,b,e⟩:=h;rcases Ba.mp hy with rfl | hy
    . rw[a]at b;cases b
    . have:=lR xs (fun y hy=>H y (by simp[hy])) ⟨y,hy,b,e⟩;simp[a,i a];exact this
  . by_cases d:q x=true
    . simp[a,d];omega
    . obtain⟨y,hy,b,e⟩:=h;rcases Ba.mp hy with rfl | hy
      . rw[e]at d;exact Du rfl d
      . have:=lR xs (fun y hy=>H y (by simp[hy])) ⟨y,hy,b,e⟩;simp[a,d];exact this
theorem VY{a b:Nat}(h:Xi a b):jI a<=jI b:=kR _ fun k q d=>be.mp h k d
theorem ki{a b:Nat}(h:Xi a b)(g:a<8192)(f:b<8192)(n:a≠b):jI a<jI b:=by
 refine lR _ (fun k z e=>be.mp h k e) ?_;apply Classical.byContradiction;intro d;apply n;refine BI g f fun k e=>?_
 cases q:b.testBit k with
 | true=>
  cases q2:a.testBit k with
  | true=>rfl
  | false=>exact Du ⟨k,Bu.mpr e,q2,q⟩ d
 | false=>
  cases q2:a.testBit k with
  | false=>rfl
  | true=>rw[be.mp h k q2]at q;cases q
theorem YJ{a:Type}{u v:a->Nat}:∀(xs:Ni a),(∀x∈xs,u x<=v x)->(xs.map u).sum<=(xs.map v).sum
 | [],_=>by simp
 | x::xs,H=>by
  have:=YJ xs fun y b=>H y (by simp[b])
  have:=H x ⋯;simp![Ti,sum_cons];omega
theorem ES{a:Type}{u v:a->Nat}:∀(xs:Ni a),(∀x∈xs,u x<=v x)->(∃x∈xs,u x<v x)->(xs.map u).sum<(xs.map v).sum
 | [],_,h=>by obtain⟨x,h,_⟩:=h;cases h
 | x::xs,H,h=>by
  have d:=YJ xs fun y hy=>H y (by simp[hy])
  have b:=H x ⋯;simp![Ti,sum_cons];obtain⟨y,hy,g⟩:=h;rcases Ba.mp hy with rfl | hy
  . omega
  . have:=ES xs (fun y hy=>H y (by simp[hy])) ⟨y,hy,g⟩;omega
def iE(c:Nat)(f:Nat->Nat->Nat):Nat:=((List.range c).map fun i=>((List.range c).map fun j=>jI (f i j)).sum).sum
theorem IQ{a:Type}{u:a->Nat}{m:Nat}:∀(xs:Ni a),(∀x∈xs,u x<=m)->(xs.map u).sum<=xs.length*m
 | [],_=>by simp
 | x::xs,H=>by
  have:=IQ xs fun y b=>H y (by simp[b])
  have:=H x ⋯;simp![Ti,sum_cons,Ss,Nat.succ_mul];omega
theorem GY(c:Nat)(f:Nat->Nat->Nat):iE c f<=c*(c*13):=by
 have:=IQ (u:=fun i=>((List.range c).map fun j=>jI (f i j)).sum) (m:=c*13) (List.range c) fun i q=>by
  have:=IQ (u:=fun j=>jI (f i j)) (m:=13) (List.range c) fun j q=>rL _
  simpa using this
 simpa[iE]using this
theorem DR{c:Nat}{f:Nat->Nat->Nat}(o:aB c f){i k j:Nat}(m:i<c)(h:j<c)(d:i≠j)(a b:Nat):Xi (aC f i k j a b) (f a b):=by
 by_cases g:a=i/\b=j
 . obtain⟨rfl,rfl⟩:=g;rw[bH f d];exact fL _ _
 . by_cases e:a=j/\b=i
   . obtain⟨rfl,rfl⟩:=e;rw[BR,o.tn b m a h];exact zX (fL _ _)
   . rw[UG f g e];exact Xi.refl _
theorem Mz{c:Nat}{f:Nat->Nat->Nat}(o:aB c f){i k j:Nat}(g:i<c)(e:j<c)(d:i≠j)(n:Vs f i k j≠f i j):iE c (aC f i k j)<iE c f:=by refine ES _ (fun a q=>YJ _ fun b q=>VY (DR o g e d a b)) ⟨i,Bu.mpr g,ES _ (fun b q=>VY (DR o g e d i b)) ⟨j,Bu.mpr e,?_⟩⟩;rw[bH f d];exact ki (fL _ _) (lZ o g e) (o.lt i g j e) n
inductive mw(c:Nat)(f:Nat->Nat->Nat):List (Nat×Nat×Nat)->(Nat->Nat->Nat)->Prop where
 | nil:mw c f [] f
 | snoc {st:List (Nat×Nat×Nat)} {g:Nat->Nat->Nat} {i k j:Nat} (h:mw c f st g) (hi:i<c) (hk:k<c) (hj:j<c) (d:KF i k j) (ne:wB c g=false) (n:Vs g i k j≠g i j):mw c f (st++[(i,k,j)]) (aC g i k j)
theorem mw.ok{c:Nat}{f g:Nat->Nat->Nat}{st:Ni (Nat×Nat×Nat)}(h:mw c f st g)(o:aB c f):aB c g:=by
 induction h with
 | nil=>exact o
 | snoc h b e a d ne n ih=>exact cS ih b a d.2.2
theorem eL{c:Nat}{f:Nat->Nat->Nat}:wB c f=true↔∃i<c,∃j<c,f i j=0:=by unfold wB;simp![any_eq_true,Bu,beq_iff_eq]
theorem cm{c:Nat}{f:Nat->Nat->Nat}(h:wB c f=false){i j:Nat}(b:i<c)(a:j<c):f i j≠0:=fun e=>by have:=eL.mpr ⟨i,b,j,a,e⟩;rw[h]at this;cases this
theorem km{a:Nat}(b:a<8192)(h:a≠0):Ze a≠0:=fun e=>h (Nt b (by decide) (e.trans ke.symm))
theorem Jz{c:Nat}{f:Nat->Nat->Nat}(o:aB c f){i k j:Nat}(m:i<c)(g:j<c)(d:i≠j)(ne:wB c f=false):wB c (aC f i k j)=decide (Vs f i k j=0):=by
 by_cases h:Vs f i k j=0
 . rw[eO h];exact eL.mpr ⟨i,m,j,g,by rw[bH f d];exact h⟩
 . rw[eH h];cases q:wB c (aC f i k j)with
   | false=>rfl
   | true=>
    obtain⟨a,s,b,r,e⟩:=eL.mp q;exfalso;by_cases p:a=i/\b=j
    . obtain⟨rfl,rfl⟩:=p;rw[bH f d]at e;exact h e
    . by_cases n:a=j/\b=i
      . obtain⟨rfl,rfl⟩:=n;rw[BR]at e;exact km (lZ o m g) h e
      . rw[UG f p n]at e;exact cm ne s r e
def oC(t:Nat×Nat×Nat):Dt:=sC t.1 t.2.1 t.2.2
theorem XW{h:HI}{b c:Nat}{f:Nat->Nat->Nat}(N:Ve h b c f){i k j:Nat}(a:i<c)(g:k<c)(d:j<c):vL [.ref (b+c),sC i k j] h=ε (.bl (!decide (Vs f i k j=f i j)),h):=by
 have e:=VW N a g d;have q:decide (((Vs f i k j:Nat):Int)=((f i j:Nat):Int))=decide (Vs f i k j=f i j):=by
  congr 1
  apply propext;omega
 unfold sC at e ⊢;dsimp![vL,AW,vA,sA,Ti,Vu,Rr,YB,rC,nM,Uu,OA,NA,DA,zA,Ui,e,N.ix a,N.ix2 a d,IE,q,WA]
theorem Bf(o a b:Nat)(h:HI):jJ true (.int (o:Nat)) (BA (a,b)) h=ε (.bl (!(decide (o=a) || decide (o=b))),h):=by
 have d:CP (V.int (o:Nat)) [V.int (a:Nat),V.int (b:Nat)]=(decide (o=a) || decide (o=b)):=by
  unfold CP;simp![Ju,any_nil,Bool.or_false];show(((a:Nat):Int)==((o:Nat):Int) || ((b:Nat):Int)==((o:Nat):Int))=_;have f:(((a:Nat):Int)==((o:Nat):Int))=decide (o=a):=by
   by_cases q:o=a
   . subst q;simp
   . have:((a:Nat):Int)≠((o:Nat):Int):=by omega
     simp[q,this]
  have e2:(((b:Nat):Int)==((o:Nat):Int))=decide (o=b):=by
   by_cases q:o=b
   . subst q;simp
   . have:((b:Nat):Int)≠((o:Nat):Int):=by omega
     simp[q,this]
  rw[f,e2]
 have e:YE [Dt.int (a:Nat),Dt.int (b:Nat)]=ε [V.int (a:Nat),V.int (b:Nat)]:=rfl;simp![jJ,GD,eD,BA,Wa,e,d];rfl
noncomputable def gD(a b n:Nat):Ni (Nat×Nat×Nat):=(List.range n).flatMap fun o=>if o=a\/o=b then []else [(a,b,o),(b,a,o)]
theorem mz(a b n:Nat):(gD a b n).length<=2*n:=by
 induction n with
 | zero=>simp[gD]
 | succ n ih=>
  have:gD a b (n+1)=gD a b n++(if n=a\/n=b then []else [(a,b,n),(b,a,n)]):=by unfold gD;rw[Ii,flatMap_append];simp
  rw[this,iu];split<;>simp<;>omega
theorem Kg{a b c:Nat}(E:c<=1000)(h:HI):BN [BA (a,b),.int (c:Nat)] h=ε (.ref h.length,h++[.lst ((YF a b c).map oC)]):=by
 have s:=XF (h:=h++[.lst []]) (show(-(2^62):Int)<=(c:Int) by omega) (show(c:Int)<2^62 by omega);simp![nu]at s;have d:∀(o p:Ob),(h++[o]).set h.length p=h++[p]:=by simp
 obtain⟨B,r,e,⟨y,rfl⟩,rfl⟩:=zL (i:=3) (body:=qQ) (fun(k:Nat)=>Dt.int (k:Int)) (fun(n:Nat) l r=>(∃y,l=[ε (BA (a,b)),ε (.int (c:Nat)),ε (.ref h.length),y])/\r=h++[.lst ((gD a b n).map oC)]) c (by
  rintro n C l F ⟨⟨y,rfl⟩,rfl⟩;have D:=mz a b n;have u:gD a b (n+1)=gD a b n++(if n=a\/n=b then []else [(a,b,n),(b,a,n)]):=by unfold gD;rw[Ii,flatMap_append];simp
  refine⟨.nx [ε (BA (a,b)),ε (.int (c:Nat)),ε (.ref h.length),ε (.int (n:Nat))] (h++[.lst ((gD a b (n+1)).map oC)]),?_,⟨_,rfl⟩,rfl⟩;have x:=Bf n a b (h++[.lst ((gD a b n).map oC)]);have m:=fun(l:LI) (g:RE) (f:g l (h++[.lst ((gD a b n).map oC)])=ε (oC (a,b,n),h++[.lst ((gD a b n).map oC)]))=>nG (h:=h++[.lst ((gD a b n).map oC)]) (l:=l) (n:=h.length) (ys:=(gD a b n).map oC) (xs:=(gD a b n).map oC) ⋯ f ⋯ (by simp;omega)
  have j:=fun(l:LI) (g:RE) (f:g l (h++[.lst ((gD a b n).map oC++[oC (a,b,n)])])=ε (oC (b,a,n),h++[.lst ((gD a b n).map oC++[oC (a,b,n)])]))=>nG (h:=h++[.lst ((gD a b n).map oC++[oC (a,b,n)])]) (l:=l) (n:=h.length) (ys:=(gD a b n).map oC++[oC (a,b,n)]) (xs:=(gD a b n).map oC++[oC (a,b,n)]) ⋯ f ⋯ (by simp;omega)
  simp![qQ,dB,HA,vA,jA,Va,Vo,Ro,Rr,kA,fA,x,KA,JA,XE,SF,PB];by_cases q:n=a\/n=b
  . have:(decide (n=a) || decide (n=b))=true:=by simpa using q
    rw[this,u,dh q];simp
  . have:(decide (n=a) || decide (n=b))=false:=by simpa using q
    rw[this,u,dz q];simp![uo,dG];rw[m _ _ (by simp[BA,oC,sC])];simp![fA,LA,d,XE,SF,jA,Ro,Rr,kA];rw[j _ _ (by simp[BA,oC,sC])];simp![fA,d];simp) [ε (BA (a,b)),ε (.int (c:Nat)),ε (.ref h.length),none] (h++[.lst []]) ⟨⟨_,rfl⟩,by simp[gD]⟩
 dsimp![BN,SU,JA,vB,PH,zA,Ti,Vu,Wu,Wo,LA,Va,Vo,qD,aK,Rr,s,tF,GL,m8,e,OA,WA];rfl
structure Rst(h0:HI)(c:Nat)(f:Nat->Nat->Nat)(s w b:Nat)(st:List (Nat×Nat×Nat))(W:List (Nat×Nat))(g:Nat->Nat->Nat)(h:HI):Prop where
 low:∀n,n<h0.length->h[n]?=h0[n]?
 len:h0.length<=h.length
 hs:h[s]?=ε (.lst (st.map oC))
 hw:h[w]?=ε (.lst (W.map BA))
 net:Ve h b c g
 s0:h0.length<=s
 w0:h0.length<=w
 b0:h0.length<=b
 sw:s≠w
 sb:s<b\/b+c<s
 wb:w<b\/b+c<w
 run:mw c f st g
 ne:wB c g=false
 sm:st.length+iE c g<=iE c f
 wc:∀p∈W,p.1<c/\p.2<c/\p.1≠p.2
theorem Rst.grow{a:HI}{c:Nat}{f:Nat->Nat->Nat}{s w b:Nat}{st:Ni (Nat×Nat×Nat)}{W:Ni (Nat×Nat)}{g:Nat->Nat->Nat}{h:HI}(R:Rst a c f s w b st W g h)(e:HI):Rst a c f s w b st W g (h++e):=by
 have i:=(Wi R.hs).1;have d:=(Wi R.hw).1;exact { R with
  low:=fun n j=>by rw[Xa (by have:=R.len;omega)];exact R.low n j
  len:=by have:=R.len;rw[iu];omega
  hs:=by rw[Xa i];exact R.hs
  hw:=by rw[Xa d];exact R.hw
  net:=R.net.grow e }
def xK(a:HI)(c:Nat)(f:Nat->Nat->Nat)(d:Dt)(h:HI):Prop:=
 ∃x s st g,d=.tup [x,.ref s]/\a.length<=s/\a.length<=h.length/\(∀n,n<a.length->h[n]?=a[n]?)/\h[s]?=ε (.lst (st.map oC))/\mw c f st g/\st.length<=iE c f/\
  ((x=.non/\wB c g=true)\/∃b,x=.ref (b+c)/\a.length<=b/\Ve h b c g/\jE c g/\wB c g=false/\(s<b\/b+c<s))
theorem Xf{P:HI}{c:Nat}(hc:c<=100){f:Nat->Nat->Nat}(of:aB c f){s w b:Nat}{st:Ni (Nat×Nat×Nat)}{W:Ni (Nat×Nat)}{g:Nat->Nat->Nat}{h:HI}(R:Rst P c f s w b st W g h){x y z:Nat}(D:x<c)(U:y<c)(hz:z<c)(d:KF x y z)(lW:W.length<=2000000)(u m j:Oa Dt) :
 ∃r,oJ [u,m,ε (.ref s),ε (.ref (b+c)),ε (.ref w),j,ε (sC x y z)] h=ε r/\
  NI (fun l' h'=>∃b' J W' Q,l'=[u,m,ε (.ref s),ε (.ref (b'+c)),ε (.ref w),j,ε (sC x y z)]/\Rst P c f s w b' J W' Q h'/\(∀n,n<h.length->n≠s->n≠w->h'[n]?=h[n]?)/\h.length<=h'.length/\
   ((Vs g x y z=g x z/\b'=b/\J=st/\W'=W/\Q=g/\h'=h)\/(W'=W++[(x,z)]/\Q=aC g x y z/\iE c Q<iE c g))) (xK P c f) r:=by
 have og:=R.run.ok of;have tl:=GY c f;have a5:c*(c*13)<=100*(100*13):=Ja hc (Nat.mul_le_mul_right 13 hc);have en:=XW R.net D U hz;by_cases q:Vs g x y z=g x z
 . refine⟨.nx [u,m,ε (.ref s),ε (.ref (b+c)),ε (.ref w),j,ε (sC x y z)] h,?_,b,st,W,g,rfl,R,fun v v v v=>rfl,Ue _,.inl ⟨q,rfl,rfl,rfl,rfl,rfl⟩⟩;simp![oJ,dB,HA,NA,DA,zA,jA,Ro,Rr,kA,fA,Ui,en,KA,q,decide_true,uq,Vi,eG,PB]
 . have em:=WW R.net (show c<=1000 by omega) D U hz;obtain⟨C,e⟩:∃C,C=h++QC h.length c (aC g x y z):=⟨_,rfl⟩
   rw[show DB g x (Vs g x y z) z=aC g x y z from rfl,<- e]at em;have len1:C.length=h.length+(c+1):=by rw[e,iu,kW]
   have M1:Ve C h.length c (aC g x y z):=e ▸ PF h c _;have ls:=(Wi R.hs).1;have S:=(Wi R.hw).1;have M:C[s]?=ε (.lst (st.map oC)):=by rw[e,Xa ls];exact R.hs
   have Y:C[w]?=ε (.lst (W.map BA)):=by rw[e,Xa S];exact R.hw
   have sm:=R.sm;have ts:=Mz og D hz d.2.2 q;obtain⟨i,a⟩:∃i,i=C.set s (.lst (st.map oC++[sC x y z])):=⟨_,rfl⟩
   have ea:=nG (h:=C) (l:=[u,m,ε (.ref s),ε (.ref (h.length+c)),ε (.ref w),j,ε (sC x y z)]) (g:=eV 6) (n:=s) (ys:=st.map oC) (xs:=st.map oC) (d:=sC x y z) (h':=C) M ⋯ M (by simp;omega);rw[<- a]at ea;have M2:Ve i h.length c (aC g x y z):=a ▸ M1.other (.inl ls) _;have L:i[s]?=ε (.lst ((st++[(x,y,z)]).map oC)):=by rw[a,tu nofun];simp[oC]
   have E:i[w]?=ε (.lst (W.map BA)):=by rw[a,lu R.sw];exact Y
   have H:=R.run.snoc D U hz d R.ne q;have I:∀n,n<P.length->i[n]?=P[n]?:=fun n O=>by have:=R.len;have:=R.s0;rw[a,lu nofun,e,Xa nofun];exact R.low n O
   have EK:i.length=h.length+(c+1):=by rw[a,Ke];exact len1
   have T:=M2.ix D;have ix2:=M2.ix2 D hz;rw[bH g d.2.2]at ix2;have se:=Jz (k:=y) og D hz d.2.2 R.ne;have zi:(decide (((Vs g x y z:Nat):Int)=0))=decide (Vs g x y z=0):=by
    congr 1
    apply propext;omega
   generalize F:oJ [u,m,ε (.ref s),ε (.ref (b+c)),ε (.ref w),j,ε (sC x y z)] h=X;simp![oJ,dB,HA,NA,DA,zA,jA,Ro,Rr,kA,fA,Ui,en,KA,q,decide_false,uo,dG]at F;have B:mu (e2 mG (e2 pA (e2 pA (eV 3) (e2 pA (eV 6) (oe 0))) (e2 pA (eV 6) (oe 2))) (oe 0)) [u,m,ε (.ref s),ε (.ref (h.length+c)),ε (.ref w),j,ε (sC x y z)] i=ε (decide (Vs g x y z=0),i):=by simp![sC,HA,vA,jA,sA,Ro,Rr,kA,fA,YB,rC,nM,Uu,T,ix2,w6,zi,KA]
   rw[tE (l':=[u,m,ε (.ref s),ε (.ref (h.length+c)),ε (.ref w),j,ε (sC x y z)]) (by simp![NA,DA,zA,jA,Ro,Rr,kA,fA,Ui];exact em) rfl,Jp (n:=s) rfl ea]at F;by_cases q0:Vs g x y z=0
   . refine⟨.rt (.tup [.non,.ref s]) i,?_,.non,s,st++[(x,y,z)],aC g x y z,rfl,R.s0,by have:=R.len;omega,I,L,H,by simp;omega,.inl ⟨rfl,by rw[se];simp[q0]⟩⟩;rw[eO q0]at B;simp![JA,dB,B,fA,dG,OA,NC,DA,zA,sA,jA,Ro,Rr,kA,Ss,Uo,Nat.reduceAdd]at F;rw[<- F,dh (by decide)];rfl
   . have a3:=nG (h:=i) (l:=[u,m,ε (.ref s),ε (.ref (h.length+c)),ε (.ref w),j,ε (sC x y z)]) (g:=QA (bA (e2 pA (eV 6) (oe 0)) (bA (e2 pA (eV 6) (oe 2)) eA))) (n:=w) (ys:=W.map BA) (xs:=W.map BA) (d:=BA (x,z)) (h':=i) E (by simp[sC,BA]) E (by simp;omega);have iJ:∀o,(i.set w o).length=h.length+(c+1):=fun o=>by rw[Ke];exact EK
     have Z:w<i.length:=(Wi E).1;have a4:=R.w0;have a0:=R.len;refine⟨.nx [u,m,ε (.ref s),ε (.ref (h.length+c)),ε (.ref w),j,ε (sC x y z)] (i.set w (.lst (W.map BA++[BA (x,z)]))),?_,h.length,st++[(x,y,z)],W++[(x,z)],aC g x y z,rfl,?_,?_,by rw[iJ];omega,.inr ⟨rfl,rfl,ts⟩⟩
     . rw[eH q0]at B;rw[zF B]at F;rw[<- F];simp![XE,SF,jA,Ro,Rr,kA,fA,a3]
     . exact {
        low:=fun n O=>by rw[lu nofun];exact I n O
        len:=by rw[iJ];omega
        hs:=by rw[lu (ni R.sw)];exact L
        hw:=by rw[tu Z];simp
        net:=M2.other (.inl S) _
        s0:=R.s0
        w0:=R.w0
        b0:=a0
        sw:=R.sw
        sb:=.inl ls
        wb:=.inl S
        run:=H
        ne:=by rw[se];simp[q0]
        sm:=by simp;omega
        wc:=fun p hp=>by
         rcases Bo.mp hp with hp | hp
         . exact R.wc p hp
         . rw[Ao.mp hp];exact⟨D,hz,d.2.2⟩ }
     . intro n O a2 a1;rw[lu (ni a1),a,lu (ni a2),e,Xa O]
theorem D7{h:HI}{w:Nat}{W:Ni (Nat×Nat)}(e:h[w]?=ε (.lst (W.map BA))):VC (.ref w) (.lst []) h=ε (.bl (!W.isEmpty),h):=by rw[tT (xs:=W.map BA) (by simp![EA,e])];cases W<;>rfl
theorem Mf{L:HI}{c:Nat}(hc:c<=100){f:Nat->Nat->Nat}(of:aB c f){I:Nat}{f0:Nat->Nat->Nat}(N0:Ve L I c f0){s w b:Nat}{st:Ni (Nat×Nat×Nat)}{W:Ni (Nat×Nat)}{g:Nat->Nat->Nat}{h:HI}{u v:Nat}(R:Rst L c f s w b st ((u,v)::W) g h)
 (wt:iD c g ((u,v)::W) []) (Q Z C:Oa Dt) (lM:2*iE c g+(W.length+1)<=1000000) :
 ∃r,rN [ε (.ref (I+c)),Q,ε (.ref s),ε (.ref (b+c)),ε (.ref w),Z,C] h=ε r/\
  NI (fun S M=>∃J m E D Z C,S=[ε (.ref (I+c)),Q,ε (.ref s),ε (.ref (J+c)),ε (.ref w),Z,C]/\Rst L c f s w J m E D M/\iD c D E []/\2*iE c D+E.length<2*iE c g+(W.length+1)) (xK L c f) r:=by
 have P:=R.wc (u,v) ⋯;simp only at P;have pk:=Pr (fa:=eC (Dt.int 0)) (l:=[ε (.ref (I+c)),Q,ε (.ref s),ε (.ref (b+c)),ε (.ref w),Z,C]) (show h[w]?=ε (.lst (BA (u,v)::W.map BA))from R.hw) rfl;obtain⟨h1,B⟩:∃h1,h1=h.set w (.lst (W.map BA)):=⟨_,rfl⟩
 rw[<- B]at pk;have lw:=(Wi R.hw).1;have len1:h1.length=h.length:=by rw[B,Ke]
 have R1:Rst L c f s w b st W g h1:={ R with
  low:=fun n hn=>by rw[B,lu (Ds (jj hn R.w0))];exact R.low n hn
  len:=by rw[len1];exact R.len
  hs:=by rw[B,lu (ni R.sw)];exact R.hs
  hw:=by rw[B,tu lw]
  net:=B ▸ R.net.other R.wb _
  wc:=fun p hp=>R.wc p (by simp[hp]) }
 have N1:xB (.ref (I+c)) h1=ε (.int (c:Nat),h1):=by have:=N0.lt;rw[EI (xs:=rF I c) (by rw[R1.low _ this];exact N0.top),IL]
 have et:=Kg (a:=u) (b:=v) (su hc (by decide)) h1;obtain⟨h2,F⟩:∃h2,h2=h1++[.lst ((YF u v c).map oC)]:=⟨_,rfl⟩
 rw[<- F]at et;have R2:Rst L c f s w b st W g h2:=F ▸ R1.grow _;have q2:h2[h1.length]?=ε (.lst ((YF u v c).map oC)):=by rw[F];simp
 have sk:=ME q2;have ls:=(Wi R1.hs).1;have a1:=(Wi R1.hw).1;obtain⟨r,e,H⟩:=F0 (i:=6) (n:=h1.length) (body:=oJ) oC (fun k S M=>∃J m E D C,S=[ε (.ref (I+c)),Q,ε (.ref s),ε (.ref (J+c)),ε (.ref w),ε (BA (u,v)),C]/\Rst L c f s w J m E D M/\iD c D E ((YF u v c).drop k)/\M[h1.length]?=ε (.lst ((YF u v c).map oC))/\h1.length<M.length/\2*iE c D+E.length<=2*iE c g+W.length) (xK L c f) (YF u v c) (by
  rintro k S M ⟨J,m,E,D,C,rfl,Y,j,q',lq,mm⟩;exact q') (by
  rintro k t ht S M ⟨J,m,E,D,C,rfl,Y,j,q',lq,mm⟩;have hk:=(Wi ht).1;have dk:(YF u v c).drop k=t::(YF u v c).drop (k+1):=by rw[zu hk,(Wi ht).2]
  obtain⟨o,ho,U,T,hto⟩:=eI.mp (ju ht);obtain⟨x,y,z⟩:=t;have dd:x<c/\y<c/\z<c/\KF x y z:=by
   rcases hto with hto | hto<;>(simp![vo]at hto;obtain⟨rfl,rfl,rfl⟩:=hto)
   . exact⟨P.1,P.2.1,ho,P.2.2,ni T,ni U⟩
   . exact⟨P.2.1,P.1,ho,ni P.2.2,ni U,ni T⟩
  obtain⟨hx,hy,hz,O⟩:=dd;rw[dk]at j;have og:=Y.run.ok of;obtain⟨r,e,H⟩:=Xf hc of Y hx hy hz O nofun (ε (.ref (I+c))) Q (ε (BA (u,v)));refine⟨r,e,?_⟩;cases r with
  | nx l2 h2=>
   obtain⟨b2,a0,W2,g2,rfl,a2,kp,ll,q⟩:=H;refine⟨b2,a0,W2,g2,_,rfl,a2,?_,by rw[kp _ lq (Ds ls) (Ds a1)];exact q',jj lq ll,?_⟩
   . rcases q with⟨n,rfl,rfl,rfl,rfl,rfl⟩ | ⟨rfl,rfl,tt⟩
     . exact Jw og hx hy hz j n
     . exact Kw og hx hy hz O j
   . rcases q with⟨n,rfl,rfl,rfl,rfl,rfl⟩ | ⟨rfl,rfl,tt⟩
     . exact mm
     . simp![iu,Ss,Uo];omega
  | rt d h2=>exact H
  | bk l2 h2=>exact H.elim
  | ct l2 h2=>exact H.elim) [ε (.ref (I+c)),Q,ε (.ref s),ε (.ref (b+c)),ε (.ref w),ε (BA (u,v)),C] h2 ⟨b,st,W,g,C,rfl,R2,oh wt,q2,by rw[F];simp,Ue _⟩
 refine⟨r,?_,?_⟩
 . simp![rN,JA,vB,Xd,jA,Ro,Rr,kA,fA,pk,LA,Va,Vo,qD,OC,NA,DA,zA,EB,N1,Ui,et,sk];exact e
 . cases r with
   | nx S M=>obtain⟨J,m,E,D,C,rfl,Y,j,q',lq,mm⟩:=H;rw[drop_length]at j;exact⟨J,m,E,D,_,_,rfl,Y,j,by omega⟩
   | rt d h2=>exact H
   | bk l2 h2=>exact H.elim
   | ct l2 h2=>exact H.elim
theorem zQ{h:HI}{c:Nat}(W:c<=100){f:Nat->Nat->Nat}(of:aB c f){s:Nat}{pd:Dt}(N:Ve h s c f){P:Ni (Nat×Nat)}(hp:∀e:HI,eD (h++e) pd=ε (P.map BA))(pc:∀p∈P,p.1<c/\p.2<c/\p.1≠p.2)(wt:iD c f P [])(lP:P.length<=100000) :
 ∃d h',mI [.ref (s+c),pd] h=ε (d,h')/\xK h c f d h':=by
 have tl:=GY c f;have a0:c*(c*13)<=100*(100*13):=Ja W (Nat.mul_le_mul_right 13 W);have lN:=N.lt;have Q:=N.grow [.lst []];have em:=KQ Q (show c<=1000 by omega);have ef:mI [.ref (s+c),pd] h=MD (BQ [ε (.ref (s+c)),ε pd,none,none,none,none,none] h):=by rw[mI,mB];rfl
 have I:mu (qA QF [] (bA (eV 0) eA)) [ε (.ref (s+c)),ε pd,ε (.ref h.length),none,none,none,none] (h++[.lst []])=ε (wB c f,h++[.lst []]):=by simp![HA,NA,DA,zA,jA,Ro,kA,fA,Ui,em,KA]
 rw[ef,BQ,tE (d:=.ref h.length) (h1:=h++[.lst []]) (l':=[ε (.ref (s+c)),ε pd,ε (.ref h.length),none,none,none,none]) rfl rfl];by_cases ne:wB c f=true
 . refine⟨.tup [.non,.ref h.length],h++[.lst []],?_,.non,h.length,[],f,rfl,Ue _,by simp,fun n O=>by rw[Xa O],by simp,.nil,by simp,.inl ⟨rfl,ne⟩⟩;rw[ne]at I;exact cE I rfl
 . have J:wB c f=false:=by simpa using ne
   rw[J]at I;obtain⟨h1,q⟩:∃h1:HI,h1=h++[.lst []]:=⟨_,rfl⟩
   rw[<- q]at I Q;have len1:h1.length=h.length+1:=by rw[q];simp
   have cp:=OW (te:=nQ) rfl Q (show c<=1000 by omega) [none] ⋯;have en:(h1++(List.range c).map fun i=>Ob.lst (FC c (f i)))++[Ob.lst (rF h1.length c)]=h1++QC h1.length c f:=by rw[ou];rfl
   have el:(h1++(List.range c).map fun i=>Ob.lst (FC c (f i))).length=h1.length+c:=by simp
   obtain⟨a,o⟩:∃a:HI,a=h1++QC h1.length c f:=⟨_,rfl⟩
   have EK:a.length=h1.length+(c+1):=by rw[o,iu,kW]
   have M:h.length<h1.length:=by rw[len1];exact yu _
   have E:h1.length+c<a.length:=by rw[EK];exact yu _
   have L:=Nat.lt_trans M (Di (Le _ c) E);have C2:Ve a h1.length c f:=o ▸ PF h1 c f;have U:eD a pd=ε (P.map BA):=by rw[o,q,ou];exact hp _
   have fl:xF pd a=ε (.ref a.length,a++[.lst (P.map BA)]):=by simp![xF,U,Uu]
   obtain⟨h3,j⟩:∃h3:HI,h3=a++[.lst (P.map BA)]:=⟨_,rfl⟩
   rw[<- j]at fl;have R:Rst h c f h.length a.length h1.length [] P f h3:={
    low:=fun n O=>by rw[j,Xa (Nat.lt_trans O L),o,Xa (Nat.lt_trans O M),q,Xa O]
    len:=by rw[j,iu];exact su (Ci L) (Le _ _)
    hs:=by rw[j,Xa L,o,Xa M,q];simp
    hw:=by rw[j];simp
    net:=j ▸ C2.grow _
    s0:=Ue _
    w0:=Ci L
    b0:=Ci M
    sw:=n7 L
    sb:=.inl M
    wb:=.inr E
    run:=.nil
    ne:=J
    sm:=by simp
    wc:=pc }
   obtain⟨r,e,B⟩:=FX (t:=pN) (body:=rN) (fun m l' h'=>∃x b F y D C,l'=[ε (.ref (s+c)),ε pd,ε (.ref h.length),ε (.ref (x+c)),ε (.ref a.length),D,C]/\Rst h c f h.length a.length x b F y h'/\iD c y F []/\m=2*iE c y+F.length/\m<=1000000)
    (fun l' h'=>∃x b y D C,l'=[ε (.ref (s+c)),ε pd,ε (.ref h.length),ε (.ref (x+c)),ε (.ref a.length),D,C]/\Rst h c f h.length a.length x b [] y h'/\jE c y) (xK h c f) (by
    rintro m l' h' ⟨x,b,F,y,D,C,rfl,g,H,rfl,Z⟩;have Y:=D7 g.hw;cases F with
    | nil=>
     refine⟨false,h',?_,?_⟩
     . simp![pN,HA,vA,jA,SE,zA,Ro,Rr,kA,fA,Uo,GL,m8,dG,Y,KA];rfl
     . rw[dz Wk];exact⟨x,b,y,D,C,rfl,g,Zq H⟩
    | cons p F=>
     obtain⟨u,v⟩:=p;refine⟨true,h',?_,?_⟩
     . simp![pN,HA,vA,jA,SE,zA,Ro,Rr,kA,fA,Uo,GL,m8,dG,Y,KA];rfl
     . rw[dh rfl];obtain⟨r,e,B⟩:=Mf W of N g H (ε pd) D C Z;refine⟨r,e,?_⟩;cases r with
       | nx E a=>obtain⟨b2,T,W2,g2,y5,y6,rfl,R2,S,mm⟩:=B;exact⟨_,mm,b2,T,W2,g2,y5,y6,rfl,R2,S,rfl,by simp![Ss]at Z;omega⟩
       | rt d a=>exact B
       | bk E a=>exact B.elim
       | ct E a=>exact B.elim) 1000000 (2*iE c f+P.length) [ε (.ref (s+c)),ε pd,ε (.ref h.length),ε (.ref (h1.length+c)),ε (.ref a.length),none,none] h3 ⟨h1.length,[],P,f,none,none,rfl,R,wt,rfl,by omega⟩ nofun
   have s3:UF (UB (eV 0)) (CA 0) nB nQ [none] [ε (.ref (s+c)),ε pd,ε (.ref h.length),none,none,none,none] h1=ε (.ref (h1.length+c),a):=by simp![yO,OC,jA,Ro,kA,fA,Q.seq,dE,ZD,cp,en,el,o]
   rw[<- q,zF I,tE (l':=[ε (.ref (s+c)),ε pd,ε (.ref h.length),ε (.ref (h1.length+c)),none,none,none]) s3 rfl,tE (l':=[ε (.ref (s+c)),ε pd,ε (.ref h.length),ε (.ref (h1.length+c)),ε (.ref a.length),none,none]) fl rfl];simp![JA,Yd,e,fA];cases r with
   | nx l' h'=>obtain⟨x,b,y,D,C,rfl,g,cl⟩:=B;refine⟨.tup [.ref (x+c),.ref h.length],h',?_,.ref (x+c),h.length,b,y,rfl,g.s0,g.len,g.low,g.hs,g.run,by have:=g.sm;omega,.inr ⟨x,rfl,g.b0,g.net,cl,g.ne,g.sb⟩⟩;simp
   | rt d h'=>exact⟨d,h',by simp,B⟩
   | bk E a=>exact B.elim
   | ct E a=>exact B.elim
def KM(c:Nat)(m f:Nat->Nat->Nat):Prop:=∀i<c,∀j<c,Xi (m i j) (f i j)
theorem Xi.antisymm{a b:Nat}(h1:Xi a b)(h2:Xi b a):a=b:=by unfold Xi at h1 h2;rw[Nat.and_comm]at h2;exact h1.symm.trans h2
theorem mw.sub{c:Nat}{f g:Nat->Nat->Nat}{st:Ni (Nat×Nat×Nat)}(h:mw c f st g)(o:aB c f):KM c g f:=by
 induction h with
 | nil=>exact fun i z j z=>Xi.refl _
 | snoc h m r e d ne n ih=>exact fun a q b p=>(DR (h.ok o) m e d.2.2 a b).trans (ih a q b p)
theorem mw.keeps{c:Nat}{f g m:Nat->Nat->Nat}{st:Ni (Nat×Nat×Nat)}(h:mw c f st g)(u:aB c m)(B:jE c m)(s:KM c m f):KM c m g:=by
 induction h with
 | nil=>exact s
 | @snoc st g i k j h o p e d ne n ih=>
  have l:Xi (m i j) (Vs g i k j):=by have:=B i o k p j e d;unfold Vs at this ⊢;exact Et (ih i o j e) ((show Xi (m i j) (yK (m i k) (m k j))from this).trans (Ih (ih i o k p) (ih k p j e)))
  intro a y b x;by_cases r:a=i/\b=j
  . obtain⟨rfl,rfl⟩:=r;rw[bH g d.2.2];exact l
  . by_cases q:a=j/\b=i
    . obtain⟨rfl,rfl⟩:=q;rw[BR,u.tn b o a e];exact zX l
    . rw[UG g r q];exact ih a y b x
theorem mw.diag{c:Nat}{f g:Nat->Nat->Nat}{st:Ni (Nat×Nat×Nat)}(h:mw c f st g)(e:∀i<c,f i i=64):∀i<c,g i i=64:=by
 induction h with
 | nil=>exact e
 | snoc h o j m d ne n ih=>intro a b;rw[UG _ (fun q=>d.2.2 (q.1.symm.trans q.2)) (fun q=>d.2.2 (q.2.symm.trans q.1))];exact ih a b
structure gh(c:Nat)(p q:Nat->Nat):Prop where
 pl:∀i<c,p i<c
 ql:∀i<c,q i<c
 qp:∀i<c,q (p i)=i
 pq:∀i<c,p (q i)=i
theorem gh.symm{c:Nat}{p q:Nat->Nat}(P:gh c p q):gh c q p:=⟨P.ql,P.pl,P.pq,P.qp⟩
def Up(h h':HI):Prop:=h.length<=h'.length/\∀n,n<h.length->h'[n]?=h[n]?
theorem Up.refl(h:HI):Up h h:=⟨Ue _,fun q q=>rfl⟩
theorem Up.trans{h h1 h2:HI}(a:Up h h1)(b:Up h1 h2):Up h h2:=⟨su a.1 b.1,fun n d=>by rw[b.2 n (by have:=a.1;omega),a.2 n d]⟩
theorem Up.app(h e:HI):Up h (h++e):=⟨by simp,fun n a=>Xa a⟩
theorem Up.net{h h':HI}(u:Up h h'){b c:Nat}{f:Nat->Nat->Nat}(N:Ve h b c f):Ve h' b c f:=by have:=N.lt;exact⟨fun i a=>by rw[u.2 _ nofun];exact N.row i a,by rw[u.2 _ this];exact N.top⟩
theorem Up.get{h h':HI}(u:Up h h'){n:Nat}{o:Ob}(e:h[n]?=ε o):h'[n]?=ε o:=by rw[u.2 n (Wi e).1];exact e
noncomputable def BG(p q:Nat)(a b d:Int):Ni Bd:=(if b<=a then [(p,q,if b<a then -1 else 0)]else [])++(if a<=d then [(q,p,if a<d then -1 else 0)]else [])
theorem JU(p q:Nat)(a:Int){b:Ni Int}(hs:b ≠ [])(h:HI):lI [.int (p:Nat),.int (q:Nat),.int a,.lst (b.map Dt.int)] h=ε (.ref h.length,h++[.lst ((BG p q a (JC b) (RB b)).map wA)]):=by
 have m:=fun h=>C9 (h:=h) hs
 have j:=fun h=>X0 (h:=h) hs
 generalize JC b=mx at m;generalize RB b=mn at j;have u:=fun(l:LI) (xs:Ni Bd) (g:RE) (d:Bd) (c:xs.length<5) (C:g l (h++[.lst (xs.map wA)])=ε (wA d,h++[.lst (xs.map wA)]))=>nG (h:=h++[.lst (xs.map wA)]) (l:=l) (n:=h.length) (ys:=xs.map wA) (xs:=xs.map wA) (d:=wA d) ⋯ C ⋯ (by simp;omega)
 have s:∀(xs:Ni Bd)(d:Bd),(h++[Ob.lst (xs.map wA)]).set h.length (.lst (xs.map wA++[wA d]))=h++[.lst ((xs++[d]).map wA)]:=fun xs d=>by simp
 have first:∀i:LI,i=[ε (.int (p:Nat)),ε (.int (q:Nat)),ε (.int a),ε (.lst (b.map Dt.int)),ε (.ref h.length)]->VB (mu (e2 YT (LB pH (eV 3)) (eV 2))) (vD (SD (eV 4) (QA (bA (eV 0) (bA (eV 1) (bA (dN (mu (e2 dI (LB pH (eV 3)) (eV 2))) (HC (oe 1)) (oe 0)) (eA))))))) (UA) i (h++[.lst []]) =
  ε (.nx i (h++[.lst ((if mx<=a then [((p,q,if mx<a then -1 else 0):Bd)]else []).map wA)])):=fun i o=>by
  subst o;by_cases f:mx<=a
  . have g:=u [ε (.int (p:Nat)),ε (.int (q:Nat)),ε (.int a),ε (.lst (b.map Dt.int)),ε (.ref h.length)] [] (QA (bA (eV 0) (bA (eV 1) (bA (dN (mu (e2 dI (LB pH (eV 3)) (eV 2))) (HC (oe 1)) (oe 0)) (eA))))) (p,q,if mx<a then -1 else 0) ⋯ (by
     by_cases r:mx<a<;>simp[m,r,wA])
    rw[s]at g;simp![Vu,Wo]at g;simp![dB,HA,vA,EB,jA,Ro,Rr,kA,fA,m,B5,KA,f,decide_true,dG,XE,SF,g]
  . simp[m,f]
 have e:∀(xs:Ni Bd),xs.length<5->VB (mu (e2 dQ (LB EG (eV 3)) (eV 2))) (vD (SD (eV 4) (QA (bA (eV 1) (bA (eV 0) (bA (dN (mu (e2 DP (LB EG (eV 3)) (eV 2))) (HC (oe 1)) (oe 0)) (eA))))))) (UA) [ε (.int (p:Nat)),ε (.int (q:Nat)),ε (.int a),ε (.lst (b.map Dt.int)),ε (.ref h.length)] (h++[.lst (xs.map wA)]) =
  ε (.nx [ε (.int (p:Nat)),ε (.int (q:Nat)),ε (.int a),ε (.lst (b.map Dt.int)),ε (.ref h.length)] (h++[.lst ((xs++if a<=mn then [((q,p,if a<mn then -1 else 0):Bd)]else []).map wA)])):=fun xs x=>by
  by_cases f:a<=mn
  . have g:=u [ε (.int (p:Nat)),ε (.int (q:Nat)),ε (.int a),ε (.lst (b.map Dt.int)),ε (.ref h.length)] xs (QA (bA (eV 1) (bA (eV 0) (bA (dN (mu (e2 DP (LB EG (eV 3)) (eV 2))) (HC (oe 1)) (oe 0)) (eA))))) (q,p,if a<mn then -1 else 0) x (by
     by_cases r:a<mn<;>simp[j,r,wA])
    rw[s]at g;simp![dB,HA,vA,EB,jA,Ro,Rr,kA,fA,j,eQ,KA,f,decide_true,dG,XE,SF,g]
  . simp[j,f]
 have B:=first _ rfl
 have y:=e (if mx<=a then [((p,q,if mx<a then -1 else 0):Bd)]else []) (by split<;>simp);unfold BG;dsimp![lI,QU,Ti,Vu,Wu,Wo,JA,vB,PH,zA,m8,GL,Vo,Va,LA,B,y,OA,Rr,WA]
def pz(w:Nat):Nat×Nat:=bc.getD w (0,0)
theorem Zf{w:Nat}(hw:w<13)(h:HI):NR [.int w] h=ε (pr (pz w),h):=by rcases o5 hw with rfl | rfl | rfl | rfl | rfl | rfl | rfl | rfl | rfl | rfl | rfl | rfl | rfl<;>kernel_rfl
def zs(side w:Nat):Int:=if side=0 then((pz w).1:Int)else((pz w).2:Int)
def KB(side m:Nat):Ni Int:=(cB m).map (zs side)
theorem PY{side m:Nat}(a:cB m ≠ []):KB side m ≠ []:=by unfold KB;intro z;exact a (map_eq_nil_iff.mp z)
def AE(i j side m:Nat):Ni Bd:=BG (2*i+side) (2*j) 1 (JC (KB side m)) (RB (KB side m))++BG (2*i+side) (2*j+1) 3 (JC (KB side m)) (RB (KB side m))
theorem rZ{c:Prop}[Decidable c](x:Bd):(if c then [x]else []).length<=1:=by split<;>simp
theorem ZR(p q:Nat)(a b d:Int):(BG p q a b d).length<=2:=by unfold BG;rw[iu];exact Nat.add_le_add (rZ _) (rZ _)
theorem zZ{h:HI}{F G:Ni Bd}{rest:Ni Ob}{l:LI}{g:RE}(c:F.length+G.length<=100000)(b:g l (h++.lst (F.map wA)::rest)=ε (.ref (h++.lst (F.map wA)::rest).length,(h++.lst (F.map wA)::rest)++[.lst (G.map wA)])) :
 AK g l (.ref h.length,h++.lst (F.map wA)::rest)=ε (.non,h++.lst ((F++G).map wA)::(rest++[.lst (G.map wA)])):=by
 have a:(h++Ob.lst (F.map wA)::rest)[h.length]?=ε (.lst (F.map wA)):=by simp
 have d:((h++Ob.lst (F.map wA)::rest)++[Ob.lst (G.map wA)])[h.length]?=ε (.lst (F.map wA)):=by rw[Xa ⋯];exact a
 have e2:((h++Ob.lst (F.map wA)::rest)++[Ob.lst (G.map wA)])[(h++Ob.lst (F.map wA)::rest).length]?=ε (.lst (G.map wA)):=by rw[Zo (Ue _),Cu];rfl
 rw[OX a b d e2 (by simp;omega)];simp
theorem uX(i j m side:Nat)(hs:side=0\/side=1)(R:i<=1000)(Q:j<=1000)(f:cB m ≠ [])(h:HI)(F:Ni Bd)(S:F.length<=1000)(rest:Ni Ob)(s:Oa Dt):∃y b,jL [ε (.int (i:Nat)),ε (.int (m:Nat)),ε (.int (j:Nat)),ε (.ref h.length),ε (.int (side:Nat)),s] (h++.lst (F.map wA)::rest) =
 ε (.nx [ε (.int (i:Nat)),ε (.int (m:Nat)),ε (.int (j:Nat)),ε (.ref h.length),ε (.int (side:Nat)),y] (h++.lst ((F++AE i j side m).map wA)::b)):=by
 have M:=fun h=>wL m h
 have C:∀k∈cB m,k<13:=fun k d=>Bu.mp (mem_filter.mp d).1
 have I:((cB m).map fun(k:Nat)=>Dt.int (k:Int)).length<sizeLine:=by have:(cB m).length<=13:=su (length_filter_le _ _) ⋯;simp;omega
 have O:=sF (te:=gL) (tc:=nB) (i:=0) (fun(k:Nat)=>Dt.int (k:Int)) (fun k=>Dt.int (zs side k)) (h++.lst (F.map wA)::rest) (cB m) [none,ε (.int (side:Nat))] (by
  intro k d;have n:=Zf (C k d) (h++.lst (F.map wA)::rest);refine⟨by simp,?_⟩;rcases hs with rfl | rfl
  . simp[gL,n,pr,zs]
  . simp[gL,n,pr,zs])
 have e:=rE (l:=[none,ε (.int (side:Nat))]) (h:=h++.lst (F.map wA)::rest) (CA 0) nB gL I;rw[O]at e;have D:(cB m).map (fun k=>Dt.int (zs side k))=(KB side m).map Dt.int:=by unfold KB;rw[map_map];rfl
 rw[D]at e;have L:=fun h=>JU (2*i+side) (2*j) 1 (PY (side:=side) f) h
 have J:=fun h=>JU (2*i+side) (2*j+1) 3 (PY (side:=side) f) h
 have pl:∀p q a E H,(BG p q a E H).length<=2:=ZR
 have u:=fun(i:Int) (h:HI)=>FF (h:=h) (i:=2) (j:=i) (Or.inl ⟨by decide,by decide⟩)
 have r:(2:Int)*(i:Int)+(side:Int)=((2*i+side:Nat):Int):=by omega
 have o:(2:Int)*(j:Int)=((2*j:Nat):Int):=by omega
 have P:((2*j:Nat):Int)+1=((2*j+1:Nat):Int):=by omega
 have B:=zZ (h:=h) (F:=F) (G:=BG (2*i+side) (2*j) 1 (JC (KB side m)) (RB (KB side m))) (rest:=rest) (l:=[ε (.int (i:Nat)),ε (.int (m:Nat)),ε (.int (j:Nat)),ε (.ref h.length),ε (.int (side:Nat)),ε (.lst ((KB side m).map Dt.int))])
  (g:=qA lI [] (bA (e2 FB (e2 AC (oe 2) (eV 0)) (eV 4)) (bA (e2 AC (oe 2) (eV 2)) (bA (oe 1) (bA (eV 5) (eA)))))) (by have:=pl (2*i+side) (2*j) 1 (JC (KB side m)) (RB (KB side m));omega) (by
   simp![NA,DA,zA,vA,sA,jA,Ro,Rr,kA,fA,u,UD,r,o,Ui];exact L _)
 have x:=zZ (h:=h) (F:=F++BG (2*i+side) (2*j) 1 (JC (KB side m)) (RB (KB side m))) (G:=BG (2*i+side) (2*j+1) 3 (JC (KB side m)) (RB (KB side m))) (rest:=rest++[.lst ((BG (2*i+side) (2*j) 1 (JC (KB side m)) (RB (KB side m))).map wA)]) (l:=[ε (.int (i:Nat)),ε (.int (m:Nat)),ε (.int (j:Nat)),ε (.ref h.length),ε (.int (side:Nat)),ε (.lst ((KB side m).map Dt.int))])
  (g:=qA lI [] (bA (e2 FB (e2 AC (oe 2) (eV 0)) (eV 4)) (bA (e2 FB (e2 AC (oe 2) (eV 2)) (oe 1)) (bA (oe 3) (bA (eV 5) (eA)))))) (by have:=pl (2*i+side) (2*j) 1 (JC (KB side m)) (RB (KB side m));have:=pl (2*i+side) (2*j+1) 3 (JC (KB side m)) (RB (KB side m));simp;omega) (by
   simp![NA,DA,zA,vA,sA,jA,Ro,Rr,kA,fA,u,UD,r,o,P,Ui];exact J _)
 refine⟨ε (.lst ((KB side m).map Dt.int)),rest++[.lst ((BG (2*i+side) (2*j) 1 (JC (KB side m)) (RB (KB side m))).map wA)]++[.lst ((BG (2*i+side) (2*j+1) 3 (JC (KB side m)) (RB (KB side m))).map wA)],?_⟩;unfold AE;rw[<- ou];simp![jL,JA,vB,uF,OC,NA,DA,zA,jA,Ro,Rr,kA,fA,Ui,M,TF,dE,VG,ZD,Option.join,Wa,id,e,Vo,Va,LA,XE,zR,B,x]
theorem nL(i j side m:Nat):(AE i j side m).length<=4:=by unfold AE;rw[iu];have b:=ZR (2*i+side) (2*j) 1 (JC (KB side m)) (RB (KB side m));have a:=ZR (2*i+side) (2*j+1) 3 (JC (KB side m)) (RB (KB side m));omega
def yD(i m j:Nat):Ni Bd:=AE i j 0 m++AE i j 1 m
theorem Yq(i m j:Nat)(o:i<=1000)(n:j<=1000)(g:cB m ≠ [])(h:HI):∃rest,cL [.int (i:Nat),.int (m:Nat),.int (j:Nat)] h=ε (.ref h.length,h++.lst ((yD i m j).map wA)::rest):=by
 obtain⟨a,b,r⟩:=uX i j m 0 (.inl rfl) o n g h [] ⋯ [] none;obtain⟨p,f,e2⟩:=uX i j m 1 (.inr rfl) o n g h (AE i j 0 m) (by have:=nL i j 0 m;omega) b a;have q:W3 (.int 2,h++[.lst []])=ε (.vals [.int 0,.int 1],h++[.lst []]):=by rw[XF (by decide) (by decide)];rfl
 refine⟨f,?_⟩;have e:jL [ε (.int (i:Nat)),ε (.int (m:Nat)),ε (.int (j:Nat)),ε (.ref h.length),ε (.int 0),none] (h++[.lst []])=ε (.nx [ε (.int (i:Nat)),ε (.int (m:Nat)),ε (.int (j:Nat)),ε (.ref h.length),ε (.int 0),a] (h++.lst ((AE i j 0 m).map wA)::b)):=r;have d:jL [ε (.int (i:Nat)),ε (.int (m:Nat)),ε (.int (j:Nat)),ε (.ref h.length),ε (.int 1),a] (h++.lst ((AE i j 0 m).map wA)::b)=ε (.nx [ε (.int (i:Nat)),ε (.int (m:Nat)),ε (.int (j:Nat)),ε (.ref h.length),ε (.int 1),p] (h++.lst ((yD i m j).map wA)::f)):=e2;simp[cL,oV,q,QB,e,d]
theorem Rj(i:Nat)(lo a:Int){g:Nat}(b:g<=1000)(h:HI):UK [.tup [.int (i:Nat),.int lo,.int a],.int (g:Nat)] h=ε (.ref h.length,h++[.lst (([(2*i,2*i+1,-lo*g),(2*i+1,2*i,a*g)]:Ni Bd).map wA)]):=by
 have u:=fun(h:HI)=>FF (h:=h) (i:=2) (j:=(i:Int)) (Or.inl ⟨by decide,by decide⟩)
 have v:=fun(x:Int) (h:HI)=>FF (h:=h) (i:=x) (j:=(g:Int)) (Or.inr ⟨by omega,by omega⟩)
 simp[UK,wU,u,v,wA]
noncomputable abbrev Ln:=Nat×Int×Int
noncomputable def pB(x:Ln):Dt:=.tup [.int (x.1:Nat),.int x.2.1,.int x.2.2]
noncomputable def wC(g:Nat)(x:Ln):Ni Bd:=[(2*x.1,2*x.1+1,-x.2.1*g),(2*x.1+1,2*x.1,x.2.2*g)]
noncomputable def KC(c:Nat):Ni Bd:=(List.range c).map fun i=>(2*i,2*i+1,-1)
def mC(c:Nat)(N:Nat->Nat->Nat)(ls:Ni Ln):Ni Bd:=KC c++ls.flatMap (wC (2*c+1))++(VA c).flatMap fun p=>yD p.1 (N p.1 p.2) p.2
theorem dZ{h:HI}{F G:Ni Bd}{rest dl:Ni Ob}{l:LI}{g:RE}(c:F.length+G.length<=100000)(b:g l (h++.lst (F.map wA)::rest)=ε (.ref (h++.lst (F.map wA)::rest).length,(h++.lst (F.map wA)::rest)++.lst (G.map wA)::dl)) :
 AK g l (.ref h.length,h++.lst (F.map wA)::rest)=ε (.non,h++.lst ((F++G).map wA)::(rest++.lst (G.map wA)::dl)):=by
 have a:(h++Ob.lst (F.map wA)::rest)[h.length]?=ε (.lst (F.map wA)):=by simp
 have d:((h++Ob.lst (F.map wA)::rest)++Ob.lst (G.map wA)::dl)[h.length]?=ε (.lst (F.map wA)):=by rw[Xa ⋯];exact a
 have e2:((h++Ob.lst (F.map wA)::rest)++Ob.lst (G.map wA)::dl)[(h++Ob.lst (F.map wA)::rest).length]?=ε (.lst (G.map wA)):=by rw[Zo (Ue _),Cu];rfl
 rw[OX a b d e2 (by simp;omega)];simp
theorem PN{a b:Type}(f:a->Ni b){xs:Ni a}{k:Nat}{x:a}(d:xs[k]?=ε x):(xs.take (k+1)).flatMap f=(xs.take k).flatMap f++f x:=by rw[take_add_one,d,flatMap_append];simp
theorem Rf(c:Nat)(h:HI):SL [.int (c:Nat)] h=ε (.int ((2*c+1:Nat):Int),h):=by
 have u:=fun(h:HI)=>FF (h:=h) (i:=2) (j:=(c:Int)) (Or.inl ⟨by decide,by decide⟩)
 simp[SL,vY,u]
theorem yR{c:Nat}{p:Nat×Nat}(h:p∈VA c):p.1<c/\p.2<c:=by unfold VA IC at h;obtain⟨i,b,h⟩:=Ma.mp h;obtain⟨k,a,rfl⟩:=Bs.mp h;have:=Bu.mp b;have:=Bu.mp a;exact⟨by omega,by show i+1+k<c;omega⟩
theorem Ux{c i:Nat}(b:i<c):List.replicate i (Dt.int 8191)++[Dt.int 64]++List.replicate (c-i-1) (Dt.int 8191)=FC c (kC i):=by
 apply ext_getElem?;intro k;by_cases a:k<c
 . rw[EL a];rcases Nat.lt_trichotomy k i with h | h | h
   . rw[ou,Xa (by simpa using h)];have:¬i=k:=by omega
     simp[h,kC,this]
   . subst h;rw[ou,Zo ⋯];simp[kC]
   . rw[Zo (by simp;omega)];have:¬i=k:=by omega
     have q:k-(i+1)<c-i-1:=by omega
     simp[kC,this,q]
 . rw[jo (by simp;omega),jo (by rw[zO];omega)]
theorem Bv{c i:Nat}(b:i<c)(g:c<=1000)(h:HI):RN [.int (c:Nat),.int (i:Nat)] h=ε (.ref h.length,h++[.lst (FC c (kC i))]):=by
 have f:=zY (h:=h) (Dt.int 8191) (show i<=1000000 by omega);have e2:=zY (h:=h) (Dt.int 8191) (show c-i-1<=1000000 by omega);have d:(c:Int)-(i:Int)-1=((c-i-1:Nat):Int):=by omega
 have e:=y8 (h:=h) (xs:=List.replicate i (Dt.int 8191)) (ys:=[Dt.int 64]) (by simp;omega);have a:ZE (.lst (List.replicate i (Dt.int 8191)++[Dt.int 64])) (.lst (List.replicate (c-i-1) (Dt.int 8191))) h=ε (.ref h.length,h++[.lst (List.replicate i (Dt.int 8191)++[Dt.int 64]++List.replicate (c-i-1) (Dt.int 8191))]):=by simp![ZE,EA,Wa];rw[dh (by simp;omega)]
 rw[Ux b]at a;simp[RN,wV,f,d,e2,e,a]
theorem Ul{c:Nat}(f:c<=1000)(h:HI):LO [.int (c:Nat)] h=ε (.ref (h.length+c),h++QC h.length c kC):=by
 have b:=XF (h:=h) (show(-(2^62):Int)<=(c:Int) by omega) (show(c:Int)<2^62 by omega);simp![nu]at b;have a:=iR (te:=FR) (i:=0) (fun(k:Nat)=>Dt.int (k:Int)) (fun i=>Ob.lst (FC c (kC i))) h (List.range c) [none,ε (.int (c:Nat))] [] (by
  intro k d e;have:=Bv (Bu.mp d) f (h++e);simp[FR,this])
 rw[Ui,Fd]at a;have hs:((List.range c).map fun(k:Nat)=>Dt.int (k:Int)).length<sizeLine:=by simp;omega
 simp[LO,NZ,b,rE _ _ _ hs,a,QC,rF]
structure my(h h':HI):Prop where
 le:h.length<=h'.length
 ls:∀(n:Nat)(xs:List Dt),h[n]?=ε (.lst xs)->h'[n]?=ε (.lst xs)
 dk:∀(n:Nat)(kv:List (rB×Dt)),h[n]?=ε (.dk kv)->h'[n]?=ε (.dk kv)
theorem my.refl(h:HI):my h h:=⟨Ue _,fun q q e=>e,fun q q e=>e⟩
theorem my.trans{h h1 h2:HI}(a:my h h1)(b:my h1 h2):my h h2:=⟨su a.1 b.1,fun n d e=>b.2 n d (a.2 n d e),fun n d e=>b.3 n d (a.3 n d e)⟩
theorem Up.l{h h':HI}(u:Up h h'):my h h':=⟨u.1,fun q q e=>u.get e,fun q q e=>u.get e⟩
theorem my.app(h e:HI):my h (h++e):=(Up.app h e).l
theorem my.net{h h':HI}(u:my h h'){b c:Nat}{f:Nat->Nat->Nat}(N:Ve h b c f):Ve h' b c f:=⟨fun i a=>u.2 _ _ (N.row i a),u.2 _ _ N.top⟩
theorem my.set{h:HI}{n:Nat}{x:Str}{fs a:Ni (Str×Dt)}(e:h[n]?=ε (.ins x fs)):my h (h.set n (.ins x a)):=by
 have g:∀(k:Nat)(o:Ob),(∀x fs,o≠.ins x fs)->h[k]?=ε o->(h.set n (.ins x a))[k]?=ε o:=fun k o no q=>by
  rw[getElem?_set];by_cases z:n=k
  . subst z;rw[e]at q;exact Du (rz q).symm (no _ _)
  . rw[dz z];exact q
 exact⟨by simp,fun k b q=>g k _ (fun v v z=>by cases z) q,fun k b q=>g k _ (fun v v z=>by cases z) q⟩
noncomputable abbrev IB:=Nat×Nat×Nat
noncomputable def zB (m:IB):Dt:=.tup [.str "ways", .int (m.1:Nat),.int (m.2.1:Nat),.int (m.2.2:Nat)]
def SC(c:Nat)(m:IB):Prop:=m.1<c/\m.2.2<c/\m.1≠m.2.2/\m.2.1<8192
def eP(h:HI)(d:Dt)(g:Ni IB):Prop:=∃n,d=.ref n/\h[n]?=ε (.lst (g.map zB))
theorem eP.up{h h':HI}{d:Dt}{g:Ni IB}(q:eP h d g)(u:my h h'):eP h' d g:=by obtain⟨n,e,q⟩:=q;exact⟨n,e,u.2 _ _ q⟩
noncomputable def zC(c:Nat)(g:Nat->Nat->Nat):Nat->Nat->Nat:=fun i j=>if i<c/\j<c then g i j else 0
theorem wF{c:Nat}(g:Nat->Nat->Nat){i j:Nat}(b:i<c)(a:j<c):zC c g i j=g i j:=dh ⟨b,a⟩
theorem iw{c:Nat}{g g':Nat->Nat->Nat}(e:∀i<c,∀j<c,g i j=g' i j):zC c g=zC c g':=by
 funext i j
 unfold zC;split
 . rename_i q;exact e i q.1 j q.2
 . rfl
theorem oY{h:HI}{b c:Nat}{g:Nat->Nat->Nat}(N:Ve h b c g):Ve h b c (zC c g):=N.congr fun q d q a=>(wF g d a).symm
theorem DZ{c:Nat}{g:Nat->Nat->Nat}(o:aB c g):aB c (zC c g):=⟨fun i b j a=>by rw[wF g b a];exact o.lt i b j a,fun i b j a=>by rw[wF g b a,wF g a b];exact o.tn i b j a⟩
theorem Dg{c:Nat}{g:Nat->Nat->Nat}{i k j:Nat}(d:i<c)(a:k<c)(b:j<c):Vs (zC c g) i k j=Vs g i k j:=by unfold Vs;rw[wF g d b,wF g d a,wF g a b]
theorem Ez{c:Nat}{g:Nat->Nat->Nat}(o:jE c g):jE c (zC c g):=fun i b k e j a d=>by rw[Dg b e a,wF g b a];exact o i b k e j a d
theorem UQ{a:Type}{p q:a->Bool}:∀{xs:Ni a},(∀x∈xs,p x=q x)->xs.any p=xs.any q
 | [],_=>rfl
 | x::xs,h=>by rw[Ju,Ju,h x ⋯,UQ fun y b=>h y (by simp[b])]
theorem Fx{c:Nat}{g g':Nat->Nat->Nat}(e:∀i<c,∀j<c,g i j=g' i j):wB c g=wB c g':=by unfold wB;exact UQ fun i b=>UQ fun j a=>by rw[e i (Bu.mp b) j (Bu.mp a)]
theorem RW(c:Nat)(g:Nat->Nat->Nat):wB c (zC c g)=wB c g:=Fx fun q b q a=>wF g b a
def cb(c:Nat)(f:Nat->Nat->Nat)(st:Ni (Nat×Nat×Nat))(g:Nat->Nat->Nat):Prop:=∃a,mw c f st a/\jE c a/\wB c a=false/\g=zC c a
theorem cb.ok{c:Nat}{f g:Nat->Nat->Nat}{st:Ni (Nat×Nat×Nat)}(e:cb c f st g)(o:aB c f):aB c g/\jE c g/\wB c g=false:=by obtain⟨b,s,a,ne,rfl⟩:=e;exact⟨DZ (s.ok o),Ez a,by rw[RW];exact ne⟩
theorem cb.unique{c:Nat}{f g g':Nat->Nat->Nat}{st a:Ni (Nat×Nat×Nat)}(o:aB c f)(e:cb c f st g)(p:cb c f a g'):g=g':=by
 obtain⟨y,s,q,ne,rfl⟩:=e;obtain⟨x,b,d,n,rfl⟩:=p;refine iw fun i m j h=>?_
 have u:=s.keeps (b.ok o) d (b.sub o) i m j h;have r:=b.keeps (s.ok o) q (s.sub o) i m j h;exact Xi.antisymm r u
theorem cb.cm{c:Nat}{f g g':Nat->Nat->Nat}{st a:Ni (Nat×Nat×Nat)}(o:aB c f)(e:cb c f st g)(h:mw c f a g'):wB c g'=false:=by
 obtain⟨n,s,p,ne,rfl⟩:=e;have q:=h.keeps (s.ok o) p (s.sub o);cases z:wB c g' with
 | false=>rfl
 | true=>
  obtain⟨i,d,j,b,e⟩:=eL.mp z;have:=q i d j b;rw[e]at this;have m:n i j=0:=by unfold Xi at this;rw[Nat.and_zero]at this;exact this.symm
  exact Du m (G.cm ne d b)
noncomputable def nS(m:Nat):Nat:=8191-m
def VD(f:Nat->Nat->Nat)(k:Nat):Ni IB->Nat->(Nat->Nat->Nat)
 | [],_=>f
 | m::ms,p=>VD (DB f m.1 (if p=k then m.2.1 else nS m.2.1) m.2.2) k ms (p+1)
def vP(f:Nat->Nat->Nat)(g:Ni IB)(k:Nat):Nat->Nat->Nat:=VD f k g 0
theorem PV(k:Nat)(m:IB):∀(a:Ni IB)(f:Nat->Nat->Nat)(p:Nat),VD f k (a++[m]) p=DB (VD f k a p) m.1 (if p+a.length=k then m.2.1 else nS m.2.1) m.2.2
 | [],f,p=>by simp[VD]
 | x::a,f,p=>by show VD (DB f x.1 (if p=k then x.2.1 else nS x.2.1) x.2.2) k (a++[m]) (p+1)=_;rw[PV k m a _ (p+1),Ss,show p+(a.length+1)=p+1+a.length by omega];rfl
theorem iX{c k:Nat}:∀(e:Ni IB)(_:∀m∈e,SC c m)(f:Nat->Nat->Nat)(p:Nat),aB c f->aB c (VD f k e p)
 | [],_,f,p,o=>o
 | m::e,h,f,p,o=>by obtain⟨a,b,d,_⟩:=h m ⋯;exact iX e (fun x g=>h x (by simp[g])) _ _ (NH o a b d _)
def WE(c:Nat)(g:Nat->Nat->Nat):Oa (Nat×Nat):=(VA c).find? fun p=>decide (1<(cB (g p.1 p.2)).length)
theorem Km{m:Nat}(h:m<8192):Builtin.bitAnd 8191 (Builtin.bitNot ((m:Nat):Int))=((nS m:Nat):Int):=by
 have d:Builtin.bitNot (Builtin.bitNot ((m:Nat):Int))=(m:Int):=by unfold Builtin.bitNot;omega
 have b:¬(0<=Builtin.bitNot ((m:Nat):Int)):=by unfold Builtin.bitNot;omega
 have a:(8191:Nat)&&&m=m:=by rw[Nat.and_comm,show(8191:Nat)=2^13-1 from rfl,Nat.and_two_pow_sub_one_eq_mod];exact Nat.mod_eq_of_lt h
 unfold Builtin.bitAnd;have f:decide ((8191:Int) >=0)=true:=by decide
 have e:decide (Builtin.bitNot ((m:Nat):Int) >=0)=false:=eH b;simp![f,e,d];show(8191:Int)-(((8191:Int).toNat&&&(m:Int).toNat:Nat):Int)=_;rw[show(8191:Int).toNat=8191 from rfl,nu,a];unfold nS;omega
theorem Jt{a:Type}{xs:Ni a}{k:Nat}(h:k<=xs.length):(xs.take k).length=k:=by rw[Ce];omega
theorem qL{a:Type}{xs:Ni a}{k:Nat}{x:a}(h:xs[k]?=ε x):xs.take (k+1)=xs.take k++[x]:=by rw[take_add_one,h];rfl
theorem Aq{h:HI}{b c:Nat}{f:Nat->Nat->Nat}(N:Ve h b c f)(F:c<=1000){n:Nat}{g:Ni IB}(D:h[n]?=ε (.lst (g.map zB)))(ok:∀m∈g,SC c m)(k:Nat) :
 ∃d h',vN [.ref (b+c),.ref n,.int (k:Nat)] h=ε (.ref (d+c),h')/\Ve h' d c (vP f g k)/\Up h h':=by
 obtain⟨L,h',e,d,s,r,q,rfl,p,U⟩:=y9 (i:=3) (j:=4) (n:=n) (body:=mN) zB (fun a l h'=>∃d s r q,l=[ε (.ref (d+c)),ε (.ref n),ε (.int (k:Nat)),s,r,q]/\Ve h' d c (VD f k (g.take a) 0)/\Up h h') g (by
  rintro a l h' ⟨d,s,r,q,rfl,p,U⟩;exact U.get D) (by
  rintro a x u l h' ⟨d,s,r,q,rfl,p,U⟩;obtain⟨J,I,P,H⟩:=ok x (ju u);have O:a<g.length:=(Wi u).1;have eq:VD f k (g.take (a+1)) 0=DB (VD f k (g.take a) 0) x.1 (if a=k then x.2.1 else nS x.2.1) x.2.2:=by rw[qL u,PV,Jt nofun,Aa]
  have o:=UN p F J I (if a=k then x.2.1 else nS x.2.1);rw[<- eq]at o;have M:=PF h' c (VD f k (g.take (a+1)) 0);refine⟨.nx [ε (.ref (h'.length+c)),ε (.ref n),ε (.int (k:Nat)),ε (.int (a:Nat)),ε (zB x),ε (.int ((if a=k then x.2.1 else nS x.2.1:Nat):Int))] (h'++QC h'.length c (VD f k (g.take (a+1)) 0)),?_,h'.length,_,_,_,rfl,M,U.trans (Up.app _ _)⟩;have B:atI [Dt.str "ways",Dt.int (x.1:Nat),Dt.int (x.2.1:Nat),Dt.int (x.2.2:Nat)] 2=ε (.int (x.2.1:Nat)):=rfl;have C:atI [Dt.str "ways",Dt.int (x.1:Nat),Dt.int (x.2.1:Nat),Dt.int (x.2.2:Nat)] 1=ε (.int (x.1:Nat)):=rfl;have y:atI [Dt.str "ways",Dt.int (x.1:Nat),Dt.int (x.2.1:Nat),Dt.int (x.2.2:Nat)] 3=ε (.int (x.2.2:Nat)):=rfl;by_cases z:a=k
  . subst z;rw[dh rfl]at o ⊢;have E:decide ((a:Int)=(a:Int))=true:=eO rfl;simp![mN,JA,vB,Z1,HA,vA,jA,sA,Vo,Va,Ro,Rr,kA,fA,OD,decide_true,KA,dG,zB,YB,C,B,y,Uu,LA,NA,DA,zA,Ui,o]
  . rw[dz z]at o ⊢;have E:decide ((a:Int)=(k:Int))=false:=eH nofun;simp![mN,JA,vB,Z1,HA,vA,jA,sA,Vo,Va,Ro,Rr,kA,fA,OD,E,KA,Vi,eG,zB,YB,C,B,y,Uu,T8,ig,cM,Km H,LA,NA,DA,zA,Ui,o]) [ε (.ref (b+c)),ε (.ref n),ε (.int (k:Nat)),none,none,none] h ⟨b,_,_,_,rfl,N,Up.refl h⟩
 rw[Ko]at p;refine⟨d,h',?_,p,U⟩;dsimp![vN,ZU,Ti,Vu,Wu,Wo,JA,qD,Td,Rr,Sv D,e,LA,OA,WA]
theorem zq{h:HI}{b c:Nat}{g:Nat->Nat->Nat}(N:Ve h b c g)(H:c<=1000) :
 ∃h',SK [.ref (b+c)] h=ε ((match WE c g with | none=>.non | some p=>BA p),h')/\Up h h':=by
 have C:=VN H h;have U:Up h (h++[.lst ((VA c).map BA)]):=Up.app _ _;have D:Ve (h++[.lst ((VA c).map BA)]) b c g:=U.net N;have m:(h++[Ob.lst ((VA c).map BA)])[h.length]?=ε (.lst ((VA c).map BA)):=by simp
 refine⟨h++[.lst ((VA c).map BA)],?_,U⟩;have body:∀p∈VA c,∀y,kN [ε (.ref (b+c)),ε (BA p)] (h++[.lst ((VA c).map BA)])=ε (if decide (1<(cB (g p.1 p.2)).length)=true then .rt (BA p) (h++[.lst ((VA c).map BA)])else .nx [ε (.ref (b+c)),ε (BA p)] (h++[.lst ((VA c).map BA)]))\/y:=by
  intro p F y;obtain⟨o,E⟩:=yR F
  left
  have u:=kF D.top (p.1:Int);rw[SM.zD,nO o,Uu]at u;have s:=kF (D.row _ o) (p.2:Int);rw[SM.zD,EL E,Uu]at s;have J:decide ((1:Int)<(((cB (g p.1 p.2)).map fun(k:Nat)=>Dt.int (k:Int)).length:Nat))=decide (1<(cB (g p.1 p.2)).length):=by
   rw[mq];by_cases z:1<(cB (g p.1 p.2)).length
   . rw[eO z,eO nofun]
   . rw[eH z,eH nofun]
  simp![kN,dB,HA,vA,EB,NA,DA,zA,jA,sA,Ro,Rr,kA,fA,BA,YB,rC,DF,Uu,u,s,Ui,wL,XO,UM,J,KA,OA,PB];split<;>rfl
 obtain⟨r,e,f⟩:=F0 (i:=1) (n:=h.length) (body:=kN) BA (fun k l h'=>(∃y,l=[ε (.ref (b+c)),y])/\h'=h++[.lst ((VA c).map BA)]/\((VA c).take k).find? (fun p=>decide (1<(cB (g p.1 p.2)).length))=none) (fun d h'=>h'=h++[.lst ((VA c).map BA)]/\∃p,WE c g=ε p/\d=BA p) (VA c) (by
  rintro k l h' ⟨_,rfl,_⟩;exact m) (by
  rintro k x j l h' ⟨⟨y,rfl⟩,rfl,a⟩;rcases body x (ju j) False with bb | bb
  . refine⟨_,bb,?_⟩;by_cases z:decide (1<(cB (g x.1 x.2)).length)=true
    . rw[dh z];refine⟨rfl,x,?_,rfl⟩;unfold WE;rw[<- take_append_drop k (VA c),find?_append,a,Option.none_or];have:(VA c).drop k=x::(VA c).drop (k+1):=by obtain⟨q1,q2⟩:=Wi j;rw[<- q2];exact zu q1
      rw[this,Io,z]
    . rw[dz z];refine⟨⟨_,rfl⟩,rfl,?_⟩;rw[qL j,find?_append,a,Option.none_or,Io];simp![show decide (1<(cB (g x.1 x.2)).length)=false by simpa using z];rfl
  . exact bb.elim) [ε (.ref (b+c)),none] (h++[.lst ((VA c).map BA)]) ⟨⟨_,rfl⟩,rfl,rfl⟩
 have B:=N.len;cases r with
 | nx q h'=>obtain⟨_,rfl,a⟩:=f;rw[Ko]at a;have:WE c g=none:=a;rw[this];dsimp![SK,lQ,Ti,Vu,Wu,Wo,JA,qD,OC,NA,DA,zA,EB,B,Ui,C,ME m,e,LA,OA,sA,WA]
 | rt d h'=>obtain⟨rfl,p,I,rfl⟩:=f;rw[I];dsimp![SK,lQ,Ti,Vu,Wu,Wo,JA,qD,OC,NA,DA,zA,EB,B,Ui,C,ME m,e,dC,WA]
 | bk q h'=>exact f.elim
 | ct q h'=>exact f.elim
inductive ml where
 | ways (m:IB)
 | long (x:Ln)
 | one (g:List IB)
def bi(h:HI)(d:Dt):ml->Prop
 | .ways m=>d=zB m
 | .long x=>d=.tup [.str "long", .int (x.1:Nat),.int x.2.1,.int x.2.2]
 | .one g=>∃a,d=.tup [.str "one",a]/\eP h a g
theorem bi.up{h h':HI}{d:Dt}{f:ml}(q:bi h d f)(u:my h h'):bi h' d f:=by
 cases f with
 | ways m=>exact q
 | long x=>exact q
 | one g=>obtain⟨a,e,q⟩:=q;exact⟨a,e,q.up u⟩
noncomputable def uD(c:Nat):ml->Prop
 | .ways m=>SC c m
 | .long x=>x.1<c
 | .one g=>∀m∈g,SC c m
inductive ad(h:HI):List Dt->List ml->Prop where
 | nil:ad h [] []
 | cons {d:Dt} {f:ml} {ds:List Dt} {fs:List ml} (a:bi h d f) (r:ad h ds fs):ad h (d::ds) (f::fs)
theorem ad.up{h h':HI}{ds:Ni Dt}{fs:Ni ml}(q:ad h ds fs)(u:my h h'):ad h' ds fs:=by
 induction q with
 | nil=>exact .nil
 | cons a r ih=>exact .cons (a.up u) ih
theorem ad.len{h:HI}{ds:Ni Dt}{fs:Ni ml}(q:ad h ds fs):ds.length=fs.length:=by
 induction q with
 | nil=>rfl
 | cons a r ih=>simp[ih]
theorem ad.get{h:HI}{ds:Ni Dt}{fs:Ni ml}(q:ad h ds fs):∀{k:Nat}{d:Dt},ds[k]?=ε d->∃f,fs[k]?=ε f/\bi h d f:=by
 induction q with
 | nil=>intro k d e;simp at e
 | cons a r ih=>
  intro k d e;cases k with
  | zero=>simp at e;subst e;exact⟨_,by simp,a⟩
  | succ k=>exact(by obtain⟨f,b,e2⟩:=ih (k:=k) (by simpa using e);exact⟨f,by simpa using b,e2⟩)
theorem ad.snoc{h:HI}{ds:Ni Dt}{fs:Ni ml}(q:ad h ds fs){d:Dt}{f:ml}(a:bi h d f):ad h (ds++[d]) (fs++[f]):=by
 induction q with
 | nil=>exact .cons a .nil
 | cons b r ih=>exact .cons b ih
noncomputable def CK:ml->Bool
 | .ways _=>true
 | _=>false
noncomputable def rK:ml->Bool
 | .long _=>true
 | _=>false
noncomputable def jH:ml->Bool
 | .one _=>true
 | _=>false
theorem l_w:decide ((("long" :Str))=(("ways" :Str)))=false:=by decide +kernel
theorem o_w:decide ((("one" :Str))=(("ways" :Str)))=false:=by decide +kernel
theorem w_l:decide ((("ways" :Str))=(("long" :Str)))=false:=by decide +kernel
theorem o_l:decide ((("one" :Str))=(("long" :Str)))=false:=by decide +kernel
theorem w_o:decide ((("ways" :Str))=(("one" :Str)))=false:=by decide +kernel
theorem l_o:decide ((("long" :Str))=(("one" :Str)))=false:=by decide +kernel
theorem X2 {h:HI} {d:Dt} {f:ml} (q:bi h d f) (l:LI) (k:HI) (i:Nat) (a:l[i]?=ε (ε d)):e2 YA (e2 pA (eV i) (oe 0)) (eC (.str "ways")) l k=ε (.bl (CK f),k):=by
 cases f with
 | ways m=>rw[show d=zB m from q]at a;simp![vA,jA,a,kA,fA,sA,zB,YB,rC,Ro,Uu,EF,decide_true,CK]
 | long x=>rw[show d=_ from q]at a;simp![vA,jA,a,kA,fA,sA,YB,rC,Ro,Uu,EF,l_w,CK]
 | one g=>obtain⟨b,rfl,_⟩:=q;simp![vA,jA,a,kA,fA,sA,YB,rC,Ro,Uu,EF,o_w,CK]
theorem V2 {h:HI} {d:Dt} {f:ml} (q:bi h d f) (l:LI) (k:HI) (i:Nat) (a:l[i]?=ε (ε d)):e2 YA (e2 pA (eV i) (oe 0)) (eC (.str "long")) l k=ε (.bl (rK f),k):=by
 cases f with
 | ways m=>rw[show d=zB m from q]at a;simp![vA,jA,a,kA,fA,sA,zB,YB,rC,Ro,Uu,EF,w_l,rK]
 | long x=>rw[show d=_ from q]at a;simp![vA,jA,a,kA,fA,sA,YB,rC,Ro,Uu,EF,decide_true,rK]
 | one g=>obtain⟨b,rfl,_⟩:=q;simp![vA,jA,a,kA,fA,sA,YB,rC,Ro,Uu,EF,o_l,rK]
theorem OS {h:HI} {d:Dt} {f:ml} (q:bi h d f) (l:LI) (k:HI) (i:Nat) (a:l[i]?=ε (ε d)):e2 YA (e2 pA (eV i) (oe 0)) (eC (.str "one")) l k=ε (.bl (jH f),k):=by
 cases f with
 | ways m=>rw[show d=zB m from q]at a;simp![vA,jA,a,kA,fA,sA,zB,YB,rC,Ro,Uu,EF,w_o,jH]
 | long x=>rw[show d=_ from q]at a;simp![vA,jA,a,kA,fA,sA,YB,rC,Ro,Uu,EF,l_o,jH]
 | one g=>obtain⟨b,rfl,_⟩:=q;simp![vA,jA,a,kA,fA,sA,YB,rC,Ro,Uu,EF,decide_true,jH]
def fD(f:Nat->Nat->Nat):Ni ml->(Nat->Nat->Nat)
 | []=>f
 | .ways m::fs=>fD (DB f m.1 m.2.1 m.2.2) fs
 | _::fs=>fD f fs
theorem LN(x:ml):∀(fs:Ni ml)(f:Nat->Nat->Nat),fD f (fs++[x])=fD (fD f fs) [x]
 | [],f=>rfl
 | .ways m::fs,f=>LN x fs _
 | .long m::fs,f=>LN x fs _
 | .one m::fs,f=>LN x fs _
theorem SG{c:Nat}:∀(fs:Ni ml)(_:∀x∈fs,uD c x)(f:Nat->Nat->Nat),aB c f->aB c (fD f fs)
 | [],_,f,o=>o
 | .ways m::fs,h,f,o=>by obtain⟨a,b,d,_⟩:=h (.ways m) ⋯;exact SG fs (fun x e=>h x (by simp[e])) _ (NH o a b d _)
 | .long m::fs,h,f,o=>SG fs (fun x e=>h x (by simp[e])) _ o
 | .one m::fs,h,f,o=>SG fs (fun x e=>h x (by simp[e])) _ o
theorem JV{h:HI}{a c:Nat}(r:c<=1000){ds:Ni Dt}(s:h[a]?=ε (.lst ds)){fs:Ni ml}(F:ad h ds fs)(ok:∀x∈fs,uD c x) :
 ∃b h',xJ [.int (c:Nat),.ref a] h=ε (.ref (b+c),h')/\Ve h' b c (fD kC fs)/\Up h h':=by
 have E:=Ul r h;have U0:Up h (h++QC h.length c kC):=Up.app _ _;have L:=PF h c kC;have u:ds=ds.map id:=by simp
 obtain⟨P,h',e,f,y,rfl,g,U⟩:=fT (i:=3) (n:=a) (body:=dL) id (fun k l h'=>∃f y,l=[ε (.int (c:Nat)),ε (.ref a),ε (.ref (f+c)),y]/\Ve h' f c (fD kC (fs.take k))/\Up h h') ds (by
  rintro k l h' ⟨f,y,rfl,g,U⟩;rw[<- u];exact U.get s) (by
  rintro k d hd l h' ⟨f,y,rfl,g,U⟩;obtain⟨x,p,q⟩:=F.get hd;have j:=X2 q [ε (.int (c:Nat)),ε (.ref a),ε (.ref (f+c)),ε d] h' 3 rfl;have o:=ok x (ju p);have eq:fD kC (fs.take (k+1))=fD (fD kC (fs.take k)) [x]:=by rw[qL p,LN]
  have O:([ε (.int (c:Nat)),ε (.ref a),ε (.ref (f+c)),y]:LI).set 3 (ε (id d))=[ε (.int (c:Nat)),ε (.ref a),ε (.ref (f+c)),ε d]:=rfl;rw[O];cases x with
  | ways m=>obtain⟨J,I,R,Q⟩:=o;have qd:d=zB m:=q;have H:=UN g r J I m.2.1;have M:=PF h' c (DB (fD kC (fs.take k)) m.1 m.2.1 m.2.2);refine⟨.nx [ε (.int (c:Nat)),ε (.ref a),ε (.ref (h'.length+c)),ε d] (h'++QC h'.length c (DB (fD kC (fs.take k)) m.1 m.2.1 m.2.2)),?_,h'.length,_,rfl,by rw[eq];exact M,U.trans (Up.app _ _)⟩;have C:atI [Dt.str "ways",Dt.int (m.1:Nat),Dt.int (m.2.1:Nat),Dt.int (m.2.2:Nat)] 2=ε (.int (m.2.1:Nat)):=rfl;have D:atI [Dt.str "ways",Dt.int (m.1:Nat),Dt.int (m.2.1:Nat),Dt.int (m.2.2:Nat)] 1=ε (.int (m.1:Nat)):=rfl;have B:atI [Dt.str "ways",Dt.int (m.1:Nat),Dt.int (m.2.1:Nat),Dt.int (m.2.2:Nat)] 3=ε (.int (m.2.2:Nat)):=rfl;unfold dL;rw[dB,HA,j];rw[qd];simp![CK,fA,KA,dG,vB,NA,DA,zA,vA,jA,sA,Ro,Rr,kA,zB,YB,D,C,B,Uu,Ui,H,Vo,Va]
  | long m=>refine⟨.nx [ε (.int (c:Nat)),ε (.ref a),ε (.ref (f+c)),ε d] h',?_,f,_,rfl,by rw[eq];exact g,U⟩;unfold dL;rw[dB,HA,j];simp![CK,fA,KA,Vi,eG,PB]
  | one m=>
   refine⟨.nx [ε (.int (c:Nat)),ε (.ref a),ε (.ref (f+c)),ε d] h',?_,f,_,rfl,by rw[eq];exact g,U⟩;unfold dL;rw[dB,HA,j];simp![CK,fA,KA,Vi,eG,PB]) [ε (.int (c:Nat)),ε (.ref a),ε (.ref (h.length+c)),none] (h++QC h.length c kC) ⟨h.length,_,rfl,L,U0⟩
 rw[F.len,Ko]at g;refine⟨f,h',?_,g,U⟩;dsimp![xJ,DV,Ti,Vu,Wu,Wo,JA,vB,NA,DA,zA,Rr,Ui,E,LA,Vo,Va,qD,OC,ME (U0.get s),e,OA,WA]
theorem MW{te:RE}{tc:RT}{n:Nat}(p:ml->Bool)(o:Dt->ml->Dt){ds:Ni Dt}{fs:Ni ml}(l:LI)(h:HI)(F:ad h ds fs)(e:h[n]?=ε (.lst ds))(D:ds.length<sizeLine)
 (H:∀d f,bi h d f->f∈fs->tc (l.set 0 (ε d)) h=ε (p f,h)/\(p f=true->te (l.set 0 (ε d)) h=ε (o d f,h))) :
 DE (CA 0) tc te l (.rf n,h)=ε (((ds.zip fs).filter fun x=>p x.2).map fun x=>o x.1 x.2,h):=by
 have go:∀(m k:Nat)(i:LI),(∀d,i.set 0 d=l.set 0 d)->m=ds.length-k+1->k<=ds.length->∀g:Ni Dt,g.length<=k->g=((((ds.zip fs).take k).filter fun x=>p x.2).map fun x=>o x.1 x.2)->LD (CA 0) tc te (.rf n) m k i h g=ε (((ds.zip fs).filter fun x=>p x.2).map fun x=>o x.1 x.2,h):=by
  intro m
  induction m with
  | zero=>intro k i _ e;omega
  | succ m ih=>
   intro k i r E I g B b;unfold LD;simp![mv.at,e];by_cases a:k<ds.length
   . obtain⟨f,j,q⟩:=F.get (je a);have s:(ds.zip fs)[k]?=ε (ds[k],f):=by rw[getElem?_zip_eq_some];exact⟨je a,j⟩
     obtain⟨y,u⟩:=H ds[k] f q (ju j);rw[je a];simp![zE,Wa,r,y];by_cases z:p f=true
     . rw[dh z];simp![u z,Wa];rw[dh nofun];refine ih (k+1) _ (fun d=>by rw[set_set]) nofun nofun _ (by simp;omega) ?_;rw[qL s,filter_append,Ga,<- b];simp[z]
     . rw[dz z];refine ih (k+1) _ (fun d=>by rw[set_set]) nofun nofun _ nofun ?_;rw[qL s,filter_append,Ga,<- b];simp[z]
   . rw[jo nofun];have C:(ds.zip fs).length=ds.length:=by rw[length_zip,F.len];omega
     rw[take_of_length_le nofun]at b;rw[b]
 have j:mv.fuel (.rf n) h=ds.length-0+1:=by simp![mv.fuel,e];omega
 unfold DE;simp![j];exact go _ 0 l (fun v=>rfl) rfl (m8 _) [] ⋯ ⋯
def YC:Ni ml->Ni Ln
 | []=>[]
 | .long x::fs=>x::YC fs
 | _::fs=>YC fs
def nC:Ni ml->Ni (Ni IB)
 | []=>[]
 | .one g::fs=>g::nC fs
 | _::fs=>nC fs
def lfD:ml->Dt
 | .long x=>pB x
 | _=>.non
noncomputable def g1D:Dt->Dt
 | .tup [_,x]=>x
 | _=>.non
theorem uV{h:HI}{a:Nat}{ds:Ni Dt}(b:h[a]?=ε (.lst ds))(hz:ds.length<sizeLine){fs:Ni ml}(F:ad h ds fs):bL [.ref a] h=ε (.lst ((YC fs).map pB),h):=by
 have e:=MW (te:=TU) (tc:=DQ) rK (fun v f=>lfD f) [none] h F b hz (by
  intro d f q _;refine⟨?_,fun z=>?_⟩
  . unfold DQ;rw[HA,V2 q _ _ 0 rfl];rfl
  . cases f with
    | long x=>rw[show d=_ from q];rfl
    | ways m=>cases z
    | one g=>cases z)
 have eq:∀(ds:Ni Dt)(fs:Ni ml),ad h ds fs->((ds.zip fs).filter fun x=>rK x.2).map (fun x=>lfD x.2)=(YC fs).map pB:=by
  intro ds fs F
  induction F with
  | nil=>rfl
  | @cons d f ds fs a r ih=>
   rw[zip_cons_cons,filter_cons];cases f with
   | long x=>rw[dh (show rK (ml.long x)=true from rfl),Ti,ih];rfl
   | ways m=>rw[dz (show ¬rK (ml.ways m)=true from Wk),ih];rfl
   | one g=>rw[dz (show ¬rK (ml.one g)=true from Wk),ih];rfl
 rw[eq _ _ F]at e;dsimp![bL,nV,Ti,Vu,Ui,OA,uF,OC,ME b,dE,ZD,e,WA]
inductive al(h:HI):List Dt->List (List IB)->Prop where
 | nil:al h [] []
 | cons {d:Dt} {g:List IB} {ds:List Dt} {gs:List (List IB)} (a:eP h d g) (r:al h ds gs):al h (d::ds) (g::gs)
theorem al.up{h h':HI}{ds:Ni Dt}{gs:Ni (Ni IB)}(q:al h ds gs)(u:my h h'):al h' ds gs:=by
 induction q with
 | nil=>exact .nil
 | cons a r ih=>exact .cons (a.up u) ih
theorem LV{h:HI}{a:Nat}{ds:Ni Dt}(e:h[a]?=ε (.lst ds))(hz:ds.length<sizeLine){fs:Ni ml}(F:ad h ds fs):∃b,al h b (nC fs)/\yJ [.ref a] h=ε (.lst b,h):=by
 have i:=MW (te:=bV) (tc:=tQ) jH (fun d v=>g1D d) [none] h F e hz (by
  intro d f q _;refine⟨?_,fun z=>?_⟩
  . unfold tQ;rw[HA,OS q _ _ 0 rfl];rfl
  . cases f with
    | one g=>obtain⟨j,rfl,_⟩:=q;rfl
    | ways m=>cases z
    | long x=>cases z)
 refine⟨((ds.zip fs).filter fun x=>jH x.2).map fun x=>g1D x.1,?_,?_⟩
 rotate_left
 . dsimp![yJ,EV,Ti,Vu,Ui,OA,uF,OC,ME e,dE,ZD,i,WA]
 . clear i e hz
   induction F with
   | nil=>exact .nil
   | @cons d f ds fs a r ih=>
    rw[zip_cons_cons,filter_cons];cases f with
    | one g=>obtain⟨j,rfl,q⟩:=a;rw[dh (show jH (ml.one g)=true from rfl),Ti];exact .cons q ih
    | ways m=>rw[dz (show ¬jH (ml.ways m)=true from Wk)];exact ih
    | long x=>rw[dz (show ¬jH (ml.long x)=true from Wk)];exact ih
theorem NW{j:Type}{te:RE}{i n:Nat}(D F:j->Dt)(xs:Ni j)(l:LI)(h:HI)(e:h[n]?=ε (.lst (xs.map D)))(q:xs.length<sizeLine)(H:∀x∈xs,te (l.set i (ε (D x))) h=ε (F x,h)) :
 DE (CA i) nB te l (.rf n,h)=ε (xs.map F,h):=by
 have go:∀(m k:Nat)(b:LI),(∀d,b.set i d=l.set i d)->m=xs.length-k+1->k<=xs.length->LD (CA i) nB te (.rf n) m k b h ((xs.take k).map F)=ε (xs.map F,h):=by
  intro m
  induction m with
  | zero=>intro k b _ e;omega
  | succ m ih=>
   intro k b g r s;unfold LD;simp![mv.at,e,u5];by_cases a:k<xs.length
   . rw[je a];have f:=H xs[k] (getElem_mem a);have o:((xs.take k).map F).length<sizeLine:=by rw[mq,Ce];omega
     simp![Uu,zE,Wa,BO,dG,g,f,dh o];have:=ih (k+1) (l.set i (ε (D xs[k]))) (fun d=>by rw[set_set]) nofun nofun;rw[take_add_one,je a,Ga]at this;exact this
   . rw[jo nofun];have:k=xs.length:=by omega
     subst this;simp![Option.map_none,Ko]
 have p:mv.fuel (.rf n) h=xs.length-0+1:=by simp![mv.fuel,e,mq];omega
 unfold DE;have:=go (xs.length-0+1) 0 l (fun z=>rfl) rfl (m8 _);simp![p];exact this
inductive af{α β:Type}(R:α->β->Prop):List α->List β->Prop where
 | nil:af R [] []
 | cons {a:α} {b:β} {as:List α} {bs:List β} (h:R a b) (r:af R as bs):af R (a::as) (b::bs)
theorem af.imp{e d:Type}{R S:e->d->Prop}(i:∀a b,R a b->S a b){f:Ni e}{bs:Ni d}(h:af R f bs):af S f bs:=by
 induction h with
 | nil=>exact .nil
 | cons a r ih=>exact .cons (i _ _ a) ih
theorem af.len{d b:Type}{R:d->b->Prop}{e:Ni d}{bs:Ni b}(h:af R e bs):e.length=bs.length:=by
 induction h with
 | nil=>rfl
 | cons a r ih=>simp[ih]
theorem af.gi{g e d:Type}{R:d->e->Prop}{f:g->d}:∀{i:Ni g}{bs:Ni e},af (fun a b=>R (f a) b) i bs->af R (i.map f) bs
 | _,_,.nil=>.nil
 | _,_,.cons h r=>.cons h (af.gi r)
theorem JQ{e:Type}{te:RE}(D:e->Dt)(P:HI->e->Dt->Prop)(up:∀h a x d,Up h a->P h x d->P a x d):∀(xs:Ni e)(l:LI)(h:HI),(∀x∈xs,∀a,Up h a->∃d b,te (l.set 0 (ε (D x))) a=ε (d,b)/\Up a b/\P b x d)->
 ∃ds a,CD (CA 0) nB te (xs.map D) l h=ε (ds,a)/\Up h a/\af (P a) xs ds
 | [],l,h,_=>⟨[],h,rfl,Up.refl h,.nil⟩
 | x::xs,l,h,H=>by
  obtain⟨d,n,o,g,j⟩:=H x ⋯ h (Up.refl h);obtain⟨ds,b,e2,f,i⟩:=JQ D P up xs (l.set 0 (ε (D x))) n (fun y m a u=>by
   rw[set_set];exact H y (by simp[m]) a (g.trans u))
  refine⟨d::ds,b,?_,g.trans f,.cons (up _ _ _ _ f j) i⟩;simp![Ti,CD,zE,Wa,BO,dG,o,e2]
def br(h:HI)(c:Nat)(f:Nat->Nat->Nat)(d:Dt):Prop:=∃b,d=.ref (b+c)/\Ve h b c f
theorem br.up{h h':HI}{c:Nat}{f:Nat->Nat->Nat}{d:Dt}(n:br h c f d)(u:my h h'):br h' c f d:=by obtain⟨b,e,N⟩:=n;exact⟨b,e,u.net N⟩
def BC(c:Nat)(g:Nat->Nat->Nat):Ni (Ni IB)->Oa (Oa (Nat×Nat)×Ni (Nat->Nat->Nat)×Ni (Nat×Nat))
 | grp::_=>ε (none,(List.range grp.length).map (vP g grp),grp.map fun m=>(m.1,m.2.2))
 | []=>match WE c g with
  | none=>none
  | some p=>ε (ε p,(cB (g p.1 p.2)).map fun w=>DB g p.1 (2^w) p.2,[p])
def LC(tag:Oa (Nat×Nat))(a:Ni Dt)(ps:Ni (Nat×Nat)):Dt:=match tag with
 | none=>.tup [.str "one", .tup [],.lst a,.lst (ps.map BA)]
 | some p=>.tup [.str "split",BA p,.lst a,.lst (ps.map BA)]
theorem uf{h:HI}{ds:Ni Dt}{a:Ni (Ni IB)}(q:al h ds a):VC (.lst ds) (.lst []) h=ε (.bl (!a.isEmpty),h):=by rw[tT (xs:=ds) rfl];cases q<;>rfl
theorem fW{h:HI}{b c:Nat}{g:Nat->Nat->Nat}(N:Ve h b c g)(og:aB c g)(hc:c<=100){gds:Ni Dt}{D:Ni (Ni IB)}(Q:al h gds D)(ok:∀x∈D,∀m∈x,SC c m)(sm:∀x∈D,x.length<=1000) :
 ∃j,Up h j/\match BC c g D with
  | none=>dF [.ref (b+c),.lst gds] h=ε (.non,j)
  | some (tag,bs,ps)=>∃f,af (br j c) bs f/\dF [.ref (b+c),.lst gds] h=ε (LC tag f ps,j):=by
 have ne:=uf Q;cases Q with
 | @cons d grp ds a0 a r=>
  obtain⟨n,rfl,s⟩:=a;have gl:=sm grp ⋯;have I:=ok grp ⋯;have S:=fun h=>XF (h:=h) (show(-(2^62):Int)<=(grp.length:Int) by omega) (show(grp.length:Int)<2^62 by omega)
  simp![nu]at S;obtain⟨f,j,e,U,A⟩:=JQ (te:=tN) (fun(k:Nat)=>Dt.int (k:Int)) (fun h k d=>br h c (vP g grp k) d) (fun h j k d u q=>q.up u.l) (List.range grp.length) [none,ε (.ref (b+c)),ε (.ref n)] h (by
   intro k _ j u;obtain⟨b',h2,e,N',U'⟩:=Aq (u.net N) nofun (u.get s) I k;refine⟨_,h2,?_,U',b',rfl,N'⟩;simp![tN,NA,DA,zA,jA,Va,Ro,Rr,kA,fA,Ui,e])
  have C:=rE (l:=[none,ε (.ref (b+c)),ε (.ref n)]) (h:=h) (CA 0) nB tN (xs:=(List.range grp.length).map fun(k:Nat)=>Dt.int (k:Int)) (by simp[sizeLine];omega);rw[e]at C;have B:=NW (te:=rV) (i:=0) zB (fun m:IB=>BA (m.1,m.2.2)) grp [none] j (U.get s) (by simp[sizeLine];omega) (by
   intro m _;rfl)
  have R:=EI s;rw[mq]at R;refine⟨j,U,?_⟩;show ∃f,af (br j c) ((List.range grp.length).map (vP g grp)) f/\dF [.ref (b+c),.lst (.ref n::ds)] h=ε (LC none f (grp.map fun m=>(m.1,m.2.2)),j)
  refine⟨f,A.gi,?_⟩;have pm:grp.map (fun m:IB=>BA (m.1,m.2.2))=(grp.map fun m=>(m.1,m.2.2)).map BA:=by rw[map_map];rfl
  rw[pm]at B;have Y:=ME (U.get s);dsimp![dF,MQ,Ti,Vu,Wu,Wo,JA,dB,HA,vA,sA,SE,zA,Rr,m8,ne,isEmpty_cons,uo,KA,vB,WI,rC,Uu,Vo,Va,LA,uF,aK,EB,R,S,dE,VG,ZD,La,C,OA,NC,DA,OC,Y,B];rfl
 | nil=>
  obtain⟨o,E,U1⟩:=zq N (show c<=1000 by omega);generalize y:dF [.ref (b+c),.lst []] h=X;dsimp![dF,MQ,Ti,Vu,Wu,Wo,JA,dB,HA,vA,sA,SE,zA,Rr,m8,ne,isEmpty_nil,uq,KA,Vi,eG,PB,LA,vB,NA,DA,Ui]at y;cases lp:WE c g with
  | none=>
   rw[lp]at E;refine⟨o,U1,?_⟩;have F:BC c g []=none:=by simp![BC,lp]
   rw[F];simp![E,fA,LA,JA,dB,HA,vA,jA,sA,Ro,Rr,kA,Vo,Va,C1,UI,KA,dG,OA,dC,WA]at y;exact y.symm
  | some p=>
   rw[lp]at E;have F:BC c g []=ε (ε p,(cB (g p.1 p.2)).map (fun w=>DB g p.1 (2^w) p.2),[p]):=by simp![BC,lp]
   rw[F];have hp:p∈VA c:=Ai lp;obtain⟨H,M⟩:=yR hp;have J:=U1.net N;obtain⟨f,j,e,U,A⟩:=JQ (te:=uN) (fun(w:Nat)=>Dt.int (w:Int)) (fun h w d=>br h c (DB g p.1 (2^w) p.2) d) (fun h j k d u q=>q.up u.l) (cB (g p.1 p.2)) [none,ε (.ref (b+c)),ε (BA p)] o (by
    intro w hw j u;have L:=(bo.mp hw).1;have s:=UN (u.net J) (show c<=1000 by omega) H M (2^w);refine⟨_,_,?_,Up.app _ _,j.length,rfl,PF j c _⟩;have Z:=sP (h:=j) (MM L);have pw:(1:Int)*2^w=((2^w:Nat):Int):=by simp
    simp![uN,NA,DA,zA,vA,sA,jA,Va,Ro,Rr,kA,fA,BA,YB,rC,DF,Uu,Z,nu,pw,Ui,s])
   have L:=rL (g p.1 p.2);have C:=rE (l:=[none,ε (.ref (b+c)),ε (BA p)]) (h:=o) (CA 0) nB uN (xs:=(cB (g p.1 p.2)).map fun(w:Nat)=>Dt.int (w:Int)) (by simp[sizeLine];omega);rw[e]at C;have P:=kF J.top (p.1:Int);rw[SM.zD,nO H,Uu]at P;have O:=kF (J.row _ H) (p.2:Int);rw[SM.zD,EL M,Uu]at O;refine⟨j,U1.trans U,f,A.gi,?_⟩;have np:UI (BA p)=false:=rfl;have W:pA (BA p) (.int 0) o=ε (.int (p.1:Nat),o):=rfl;have T:pA (BA p) (.int 1) o=ε (.int (p.2:Nat),o):=rfl;simp![E,fA,LA,JA,dB,HA,vA,jA,sA,Ro,Rr,kA,Vo,Va,C1,np,KA,Vi,eG,PB,vB,NA,DA,zA,Ui,W,T,P,O,uF,OC,wL,TF,dE,VG,ZD,La,C,OA,NC]at y;rw[<- y];rfl
theorem Jy{c b:Nat}(C:c<=100){N:Nat->Nat->Nat}{ls:Ni Ln}(B:ls.length<=1000){h:HI}(r:Ve h b c N)(a d:Oa Dt):∃y rest,QB (CA 3) SN (ls.map pB) [ε (.ref (b+c)),a,ε (.ref h.length),none,d] (h++[.lst ((KC c).map wA)]) =
 ε (.nx [ε (.ref (b+c)),a,ε (.ref h.length),y,d] (h++.lst ((KC c++ls.flatMap (wC (2*c+1))).map wA)::rest)):=by
 have n:(KC c).length=c:=by simp[KC]
 obtain⟨s,j,e,⟨y,rfl⟩,rest,rfl,_⟩:=CO (i:=3) (body:=SN) pB (fun k l j=>(∃y,l=[ε (.ref (b+c)),a,ε (.ref h.length),y,d])/\∃rest,j=h++.lst ((KC c++(ls.take k).flatMap (wC (2*c+1))).map wA)::rest/\((ls.take k).flatMap (wC (2*c+1))).length<=2*k) ls 0 (by
  rintro k x f l j ⟨⟨y,rfl⟩,rest,rfl,p⟩;rw[Aa]at p ⊢;have u:k<ls.length:=(Wi f).1;have m:(wC (2*c+1) x).length=2:=rfl;have o:=(r.grow (.lst ((KC c++(ls.take k).flatMap (wC (2*c+1))).map wA)::rest)).len;have q:=Rj x.1 x.2.1 x.2.2 (g:=2*c+1) nofun (h++.lst ((KC c++(ls.take k).flatMap (wC (2*c+1))).map wA)::rest);have a:=dZ (h:=h) (F:=KC c++(ls.take k).flatMap (wC (2*c+1))) (G:=wC (2*c+1) x) (rest:=rest) (dl:=[]) (l:=[ε (.ref (b+c)),a,ε (.ref h.length),ε (pB x),d]) (g:=qA UK [] (bA (eV 3) (bA (qA SL [] (bA (LB xB (eV 0)) (eA))) (eA)))) (by rw[iu,n,m];omega) (by
   simp![NA,DA,zA,EB,jA,Ro,Rr,kA,fA,o,Rf,Ui,pB];exact q)
  refine⟨.nx [ε (.ref (b+c)),_,ε (.ref h.length),ε (pB x),d] (h++.lst ((KC c++(ls.take (k+1)).flatMap (wC (2*c+1))).map wA)::(rest++[.lst ((wC (2*c+1) x).map wA)])),?_,⟨ε (pB x),rfl⟩,rest++[.lst ((wC (2*c+1) x).map wA)],rfl,?_⟩
  . rw[PN _ f,<- ou];simp![SN,XE,zR,jA,Vo,Va,Ro,Rr,kA,fA,a]
  . rw[PN _ f,iu,m];omega) [ε (.ref (b+c)),a,ε (.ref h.length),none,d] (h++[.lst ((KC c).map wA)]) ⟨⟨_,rfl⟩,[],by simp,by simp⟩
 rw[Aa,Ko]at *;exact⟨y,rest,e⟩
theorem Ak{c d b:Nat}(Q:c<=100){N:Nat->Nat->Nat}(H:∀i j,i<c->j<c->cB (N i j) ≠ []){h:HI}(J:Ve h d c N){F:Ni Bd}(R:F.length<=3000){r0:Ni Ob}(db:∀G:Ni Bd,∀a:Ni Ob,(h++.lst (G.map wA)::(r0++a))[b]?=ε (.lst ((VA c).map BA)))(m f:Oa Dt)(pl:(VA c).length<=10000)(pin:∀p∈VA c,p.1<c/\p.2<c) :
 ∃y rest,xD (CA 4) TN [ε (.ref (d+c)),m,ε (.ref h.length),f,none] (.rf b,h++.lst (F.map wA)::r0) =
 ε (.nx [ε (.ref (d+c)),m,ε (.ref h.length),f,y] (h++.lst ((F++(VA c).flatMap fun p=>yD p.1 (N p.1 p.2) p.2).map wA)::rest)):=by
 obtain⟨M,q,e,⟨y,rfl⟩,a,rfl,_⟩:=fT (i:=4) (n:=b) (body:=TN) BA (fun k l q=>(∃y,l=[ε (.ref (d+c)),m,ε (.ref h.length),f,y])/\∃a,q=h++.lst ((F++((VA c).take k).flatMap fun p=>yD p.1 (N p.1 p.2) p.2).map wA)::(r0++a)/\(((VA c).take k).flatMap fun p=>yD p.1 (N p.1 p.2) p.2).length<=8*k) (VA c) (by
  rintro k l q ⟨_,a,rfl,_⟩;exact db _ a) (by
  rintro k x o l q ⟨⟨y,rfl⟩,a,rfl,P⟩;have O:k<(VA c).length:=(Wi o).1;obtain⟨r,u⟩:=pin x (ju o);have L:(yD x.1 (N x.1 x.2) x.2).length<=8:=by unfold yD;rw[iu];have:=nL x.1 x.2 0 (N x.1 x.2);have:=nL x.1 x.2 1 (N x.1 x.2);omega
  have D:=J.grow (.lst ((F++((VA c).take k).flatMap fun p=>yD p.1 (N p.1 p.2) p.2).map wA)::(r0++a));obtain⟨s,I⟩:=Yq x.1 (N x.1 x.2) x.2 nofun nofun (H _ _ r u) (h++.lst ((F++((VA c).take k).flatMap fun p=>yD p.1 (N p.1 p.2) p.2).map wA)::(r0++a));have C:=kF D.top (x.1:Int);rw[SM.zD,nO r,Uu]at C;have B:=kF (D.row _ r) (x.2:Int);rw[SM.zD,EL u,Uu]at B;have E:=dZ (h:=h) (F:=F++((VA c).take k).flatMap fun p=>yD p.1 (N p.1 p.2) p.2) (G:=yD x.1 (N x.1 x.2) x.2) (rest:=r0++a) (dl:=s) (l:=[ε (.ref (d+c)),m,ε (.ref h.length),f,ε (BA x)]) (g:=qA cL [] (bA (e2 pA (eV 4) (oe 0)) (bA (e2 pA (e2 pA (eV 0) (e2 pA (eV 4) (oe 0))) (e2 pA (eV 4) (oe 1))) (bA (e2 pA (eV 4) (oe 1)) (eA))))) (by rw[iu];omega) (by
   simp![NA,DA,zA,vA,sA,jA,Ro,Rr,kA,fA,BA,YB,rC,DF,Uu,C,B,Ui];exact I)
  refine⟨.nx [ε (.ref (d+c)),m,ε (.ref h.length),f,ε (BA x)] (h++.lst ((F++((VA c).take (k+1)).flatMap fun p=>yD p.1 (N p.1 p.2) p.2).map wA)::(r0++(a++.lst ((yD x.1 (N x.1 x.2) x.2).map wA)::s))),?_,⟨_,rfl⟩,_,rfl,?_⟩
  . rw[PN _ o,<- ou,<- ou];simp![TN,XE,zR,jA,Vo,Va,Ro,Rr,kA,fA,E]
  . rw[PN _ o,iu];omega) [ε (.ref (d+c)),m,ε (.ref h.length),f,none] (h++.lst (F.map wA)::r0) ⟨⟨_,rfl⟩,[],by simp,by simp⟩
 rw[Ko]at e;exact⟨y,_,e⟩
theorem UW{c m:Nat}(d:c<=100){N:Nat->Nat->Nat}(E:∀i j,i<c->j<c->cB (N i j) ≠ []){ls:Ni Ln}(o:ls.length<=1000){h:HI}(f:Ve h m c N) :
 ∃rest,DH [.ref (m+c),.lst (ls.map pB)] h=ε (.ref h.length,h++.lst ((mC c N ls).map wA)::rest):=by
 have C:=f.len;have r:=XF (h:=h) (show(-(2^62):Int)<=(c:Int) by omega) (show(c:Int)<2^62 by omega);simp![nu]at r;have u:=fun(i:Int) (h:HI)=>FF (h:=h) (i:=2) (j:=i) (Or.inl ⟨by decide,by decide⟩)
 have J:=sF (te:=QN) (tc:=nB) (i:=0) (fun(k:Nat)=>Dt.int (k:Int)) (fun k=>wA (2*k,2*k+1,-1)) h (List.range c) [none] (by
  intro k _;exact⟨by simp,by simp[QN,u,wA]⟩)
 have e:=rE (l:=[none]) (h:=h) (CA 0) nB QN (xs:=(List.range c).map fun(k:Nat)=>Dt.int (k:Int)) (by simp;omega);rw[J]at e;have I:(List.range c).map (fun k=>wA (2*k,2*k+1,-1))=(KC c).map wA:=by unfold KC;rw[map_map];rfl
 rw[I]at e;obtain⟨y,r0,s⟩:=Jy d o f (ε (.lst (ls.map pB))) none;have a:=(f.grow (.lst ((KC c++ls.flatMap (wC (2*c+1))).map wA)::r0)).len;have g:=VN (c:=c) nofun (h++.lst ((KC c++ls.flatMap (wC (2*c+1))).map wA)::r0);have H:(ls.flatMap (wC (2*c+1))).length<=2*ls.length:=by
  clear s g e a
  induction ls with
  | nil=>simp
  | cons x ls ih=>rw[flatMap_cons,iu,Ss];have:(wC (2*c+1) x).length=2:=rfl;have:=ih (by simp at o;omega);omega
 have pl:(VA c).length<=10000:=by have:=CJ c c;have M:c*c<=100*100:=Ja d d;unfold VA;omega
 obtain⟨L,rest,e2⟩:=Ak (b:=(h++Ob.lst ((KC c++ls.flatMap (wC (2*c+1))).map wA)::r0).length) d E f (F:=KC c++ls.flatMap (wC (2*c+1))) (by simp[KC]at H ⊢;omega) (r0:=r0++[.lst ((VA c).map BA)]) (fun G r2=>by
  have:h++Ob.lst (G.map wA)::(r0++[Ob.lst ((VA c).map BA)]++r2)=(h++Ob.lst (G.map wA)::r0)++Ob.lst ((VA c).map BA)::r2:=by simp
  rw[this,Zo ⋯];simp) (ε (.lst (ls.map pB))) y pl (fun p D=>yR D)
 refine⟨rest,?_⟩;have q:(h++Ob.lst ((KC c++ls.flatMap (wC (2*c+1))).map wA)::r0)++[Ob.lst ((VA c).map BA)]=h++Ob.lst ((KC c++ls.flatMap (wC (2*c+1))).map wA)::(r0++[Ob.lst ((VA c).map BA)]):=by simp
 rw[q]at g;have B:=ME (h:=h++Ob.lst ((KC c++ls.flatMap (wC (2*c+1))).map wA)::(r0++[Ob.lst ((VA c).map BA)])) (n:=(h++Ob.lst ((KC c++ls.flatMap (wC (2*c+1))).map wA)::r0).length) (xs:=(VA c).map BA) (by
  rw[<- q,Zo (Ue _),Cu];rfl)
 unfold mC;dsimp![DH,bX,Ti,Vu,Wu,Wo,JA,vB,yO,aK,EB,Rr,C,a,r,dE,ZD,e,Vo,Va,LA,qD,OC,TF,tF,s,NA,DA,zA,Ui,g,B,e2,OA,WA]
theorem tS(f:Nat->Nat->Nat){i j:Nat}(m:Nat)(a:i≠j):DB f i m j i j=f i j&&&m:=by unfold DB CB;have:¬i=j:=a;simp[this]
theorem C7(f:Nat->Nat->Nat)(i m j:Nat):DB f i m j j i=Ze (f i j&&&m):=by unfold DB CB;simp
theorem GH(f:Nat->Nat->Nat){i m j a b:Nat}(h1:¬(a=i/\b=j))(h2:¬(a=j/\b=i)):DB f i m j a b=f a b:=by
 unfold DB CB;by_cases g:a=j
 . by_cases e2:b=i
   . exact Du ⟨g,e2⟩ h2
   . rw[dh g,dz e2];by_cases d:a=i
     . by_cases e:b=j
       . exact Du ⟨d,e⟩ h1
       . rw[dh d,dz e]
     . rw[dz d]
 . rw[dz g];by_cases d:a=i
   . by_cases e:b=j
     . exact Du ⟨d,e⟩ h1
     . rw[dh d,dz e]
   . rw[dz d]
theorem tV{c:Nat}{f:Nat->Nat->Nat}(h:jE c f):iD c f [] []:=fun i e k a j b d n=>Du (h i e k a j b d) n
theorem DX{c:Nat}{f:Nat->Nat->Nat}(o:aB c f){x z:Nat}(I:x<c)(hz:z<c)(P:x≠z)(b:Nat){W:Ni (Nat×Nat)}(h:iD c f W []):iD c (DB f x b z) (W++[(x,z)]) []:=by
 have E:=NH o I hz P b;have e:∀i<c,∀k<c,∀j<c,KF i k j->¬(i=z/\j=x)->Vs (DB f x b z) i k j≠DB f x b z i j->lD (W++[(x,z)]) i k j:=by
  intro i r k g j p d y m;obtain⟨u,e2,s⟩:=d;have grow:∀{i k j},lD W i k j->lD (W++[(x,z)]) i k j:=by
   intro i k j q;unfold lD at q ⊢;simp![Bo];rcases q with q | q | q | q
   . exact .inl (.inl q)
   . exact .inr (.inl (.inl q))
   . exact .inr (.inr (.inl (.inl q)))
   . exact .inr (.inr (.inr (.inl q)))
  have un:∀{i k j},Vs f i k j≠f i j->i<c->k<c->j<c->KF i k j->lD W i k j:=by
   intro i k j n r g p d;rcases h i r k g j p d n with q | q | q
   . exact q
   . cases q
   . cases q
  by_cases D:i=x/\j=z
  . obtain⟨rfl,rfl⟩:=D;have C:DB f i b j i k=f i k:=GH f (fun q=>e2 q.2) (fun q=>u q.2.symm);have B:DB f i b j k j=f k j:=GH f (fun q=>u q.1.symm) (fun q=>e2 q.1);have n:Vs f i k j≠f i j:=by intro q;apply m;unfold Vs;rw[C,B,tS f b s];exact ZX (fL (f i j) _) q
    exact grow (un n r g p ⟨u,e2,s⟩)
  . by_cases a:lD [(x,z)] i k j
    . unfold lD at a ⊢;simp![Bo];rcases a with q | q | q | q
      . exact .inl (.inr q)
      . exact .inr (.inl (.inr q))
      . exact .inr (.inr (.inl (.inr q)))
      . exact .inr (.inr (.inr (.inr q)))
    . unfold lD at a;simp![Ba,not_mem_nil,or_false,vo,not_or]at a;obtain⟨O,M,L,J⟩:=a;have H:DB f x b z i j=f i j:=GH f (fun q=>D q) (fun q=>y q);have C:DB f x b z i k=f i k:=GH f (fun q=>O q) (fun q=>M ⟨q.2,q.1⟩);have B:DB f x b z k j=f k j:=GH f (fun q=>L q) (fun q=>J ⟨q.2,q.1⟩);have n:Vs f i k j≠f i j:=by unfold Vs at m ⊢;rw[H,C,B]at m;exact m
      exact grow (un n r g p ⟨u,e2,s⟩)
 intro i r k g j p d m
 left
 by_cases y:i=z/\j=x
 . obtain⟨u,e2,s⟩:=d;have F:=WR E p g r m;have q:=e j p k g i r ⟨ni e2,ni u,ni s⟩ (fun q=>s nofun) F;unfold lD at q ⊢;rcases q with q | q | q | q
   . exact .inr (.inr (.inr q))
   . exact .inr (.inr (.inl q))
   . exact .inr (.inl q)
   . exact .inl q
 . exact e i r k g j p d y m
theorem WV{c k:Nat}:∀(e:Ni IB)(_:∀m∈e,SC c m)(f:Nat->Nat->Nat)(p:Nat)(W:Ni (Nat×Nat)),aB c f->iD c f W []->iD c (VD f k e p) (W++e.map fun m=>(m.1,m.2.2)) []
 | [],_,f,p,W,o,h=>by simpa[VD]using h
 | m::e,hm,f,p,W,o,h=>by obtain⟨a,b,d,_⟩:=hm m ⋯;have:=WV (k:=k) e (fun x g=>hm x (by simp[g])) _ (p+1) _ (NH o a b d (if p=k then m.2.1 else nS m.2.1)) (DX o a b d (if p=k then m.2.1 else nS m.2.1) h);rw[ou]at this;exact this
inductive Tr where
 | ae (st:List (Nat×Nat×Nat))
 | ring (st:List (Nat×Nat×Nat)) (cs:Nat->Option Nat) (P k:Nat)
 | one (st:List (Nat×Nat×Nat)) (bs:List Tr)
 | split (st:List (Nat×Nat×Nat)) (p:Nat×Nat) (bs:List Tr)
inductive nz where
 | opn
 | laid (t:Nat->Int)
 | clash (tr:Tr)
inductive Wd where | opn | laid | clash
noncomputable def nz.wd:nz->Wd
 | .opn=>.opn
 | .laid _=>.laid
 | .clash _=>.clash
noncomputable def aQ(tag:Oa (Nat×Nat))(st:Ni (Nat×Nat×Nat))(bs:Ni Tr):Tr:=match tag with
 | none=>.one st bs
 | some p=>.split st p bs
noncomputable abbrev MA:=Nat->Nat->Nat
def WD(L:MA->Ni (Ni IB)->Nat->nz->Nat->Prop)(tag:Oa (Nat×Nat))(st:Ni (Nat×Nat×Nat))(e:Ni (Ni IB)):Ni MA->Nat->Ni Tr->nz->Nat->Prop
 | [],made,acc,a,ce=>a=.clash (aQ tag st acc)/\ce=made
 | b::bs,made,acc,a,ce=>(∃f d,L b e made (.clash f) d/\WD L tag st e bs d (acc++[f]) a ce)\/(a.wd≠.clash/\L b e made a ce)
def qC(c m:Nat)(ls:Ni Ln):Nat->MA->Ni (Ni IB)->Nat->nz->Nat->Prop
 | 0,_,_,_,_,_=>False
 | n+1,f,gs,made,a,ce=>
  (∃st g,mw c f st g/\wB c g=true/\a=.clash (.ae st)/\ce=made)\/
  ∃st g,cb c f st g/\
   ((∃d P k,YH (2*c) (lC (mC c g ls)) (NK (mC c g ls)) d P k/\a=.clash (.ring st d P k)/\ce=made)\/
    (∃t,(∀e∈mC c g ls,lF t e)/\
     ((BC c g gs=none/\a=.laid t/\ce=made)\/
      (∃b bs h,BC c g gs=ε (b,bs,h)/\
       ((m<=made/\a=.opn/\ce=made)\/(made<m/\WD (qC c m ls n) b st gs.tail bs (made+1) [] a ce))))))
def ax(c:Nat)(a:Ni (Ni IB)):Prop:=∀x∈a,∀m∈x,SC c m
theorem ax.tail{c:Nat}{a:Ni (Ni IB)}(h:ax c a):ax c a.tail:=fun x b=>h x (mem_of_mem_tail b)
theorem LJ{c:Nat}{g:MA}(o:aB c g){a:Ni (Ni IB)}(ok:ax c a){tag:Oa (Nat×Nat)}{bs:Ni MA}{ps:Ni (Nat×Nat)}(h:BC c g a=ε (tag,bs,ps)):∀b∈bs,aB c b:=by
 cases a with
 | cons grp a=>simp![BC,Fi,vo]at h;obtain⟨_,rfl,_⟩:=h;intro b d;obtain⟨k,_,rfl⟩:=Bs.mp d;exact iX grp (ok grp ⋯) g 0 o
 | nil=>
  simp![BC]at h;cases lp:WE c g with
  | none=>rw[lp]at h;cases h
  | some p=>rw[lp]at h;simp![Fi,vo]at h;obtain⟨_,rfl,_⟩:=h;intro b d;obtain⟨w,_,rfl⟩:=Bs.mp d;have e:p∈VA c:=Ai lp;obtain⟨q1,q2⟩:=bz.mp e;exact NH o nofun nofun nofun _
theorem AR{c:Nat}{g:MA}{ls:Ni Ln}{cs:Nat->Oa Nat}{P k:Nat}(R:YH (2*c) (lC (mC c g ls)) (NK (mC c g ls)) cs P k){t:Nat->Int}(a:∀e∈mC c g ls,lF t e):False:=
 pZ (b:=t) (fun e d=>by have:=a e d;unfold lF at this;omega) R
theorem vI{c m:Nat}{ls:Ni Ln}:∀(n:Nat)(f:MA)(E:Ni (Ni IB))(made:Nat)(a y:nz)(s s':Nat),aB c f->ax c E->qC c m ls n f E made a s->qC c m ls n f E made y s'->a.wd=y.wd/\s=s'
 | 0,_,_,_,_,_,_,_,_,_,h,_=>h.elim
 | n+1,f,E,made,a,y,s,s',of,og,h,e=>by
  rcases h with⟨st,g,L,h2,rfl,rfl⟩ | ⟨st,g,L,h⟩
  . rcases e with⟨p,U,D,k2,rfl,rfl⟩ | ⟨p,U,D,e⟩
    . exact⟨rfl,rfl⟩
    . have:=D.cm of L;rw[h2]at this;cases this
  . rcases e with⟨p,U,D,k2,rfl,rfl⟩ | ⟨p,U,D,e⟩
    . have:=L.cm of D;rw[k2]at this;cases this
    . have eg:=L.unique of D;subst eg;have Q:=(L.ok of).1;rcases h with⟨cs,P,k,R,rfl,rfl⟩ | ⟨t,ht,h⟩
      . rcases e with⟨W,P',k',R',rfl,rfl⟩ | ⟨t',J,e⟩
        . exact⟨rfl,rfl⟩
        . exact(AR R J).elim
      . rcases e with⟨W,P',k',R',rfl,rfl⟩ | ⟨t',J,e⟩
        . exact(AR R' ht).elim
        . rcases h with⟨I,rfl,rfl⟩ | ⟨H,bs,ps,I,h⟩
          . rcases e with⟨d,rfl,rfl⟩ | ⟨F,Y,O,d,e⟩
            . exact⟨rfl,rfl⟩
            . rw[I]at d;cases d
          . rcases e with⟨d,rfl,rfl⟩ | ⟨F,Y,O,d,e⟩
            . rw[I]at d;cases d
            . rw[I]at d;cases d;rcases h with⟨lm,rfl,rfl⟩ | ⟨lm,h⟩
              . rcases e with⟨B,rfl,rfl⟩ | ⟨B,e⟩
                . exact⟨rfl,rfl⟩
                . omega
              . rcases e with⟨B,rfl,rfl⟩ | ⟨B,e⟩
                . omega
                . have Z:=LJ Q og I;have go:∀(bs:Ni MA),(∀b∈bs,aB c b)->∀(u:Nat)(C o:Ni Tr)(a y:nz)(s s':Nat),WD (qC c m ls n) H st E.tail bs u C a s->WD (qC c m ls n) H p E.tail bs u o y s'->a.wd=y.wd/\s=s':=by
                   intro bs
                   induction bs with
                   | nil=>rintro _ u C o a y s s' ⟨rfl,rfl⟩ ⟨rfl,rfl⟩;exact⟨rfl,rfl⟩
                   | cons b bs ih=>
                    intro hb u C o a y s s' q q';have r:=hb b ⋯;have T:∀x∈bs,aB c x:=fun x hx=>hb x (by simp[hx])
                    rcases q with⟨tr,m1,q1,q2⟩ | ⟨q1,q2⟩
                    . rcases q' with⟨M,S,j,i⟩ | ⟨j,i⟩
                      . obtain⟨_,rfl⟩:=vI n b _ u _ _ _ _ r og.tail q1 j;exact ih T _ _ _ _ _ _ _ q2 i
                      . obtain⟨z,_⟩:=vI n b _ u _ _ _ _ r og.tail q1 i;exact Du z.symm j
                    . rcases q' with⟨M,S,j,i⟩ | ⟨j,i⟩
                      . obtain⟨z,_⟩:=vI n b _ u _ _ _ _ r og.tail q2 j;exact Du z q1
                      . exact vI n b _ u _ _ _ _ r og.tail q2 i
                  exact go bs Z _ _ _ _ _ _ _ h e
theorem VR{c m:Nat}{ls:Ni Ln}:∀(n:Nat)(f:MA)(o:Ni (Ni IB))(made:Nat)(a:nz)(s:Nat),qC c m ls n f o made a s->made<=s/\(made<=m->s<=m)/\(made<=m->a.wd=.opn->s=m)
 | 0,_,_,_,_,_,h=>h.elim
 | n+1,f,o,made,a,s,h=>by
  rcases h with⟨st,g,u,I,rfl,rfl⟩ | ⟨st,g,u,h⟩
  . exact⟨Ue _,id,fun v z=>by cases z⟩
  . rcases h with⟨J,P,k,R,rfl,rfl⟩ | ⟨t,H,h⟩
    . exact⟨Ue _,id,fun v z=>by cases z⟩
    . rcases h with⟨p,rfl,rfl⟩ | ⟨j,bs,E,p,h⟩
      . exact⟨Ue _,id,fun v z=>by cases z⟩
      . rcases h with⟨r,rfl,rfl⟩ | ⟨r,h⟩
        . exact⟨Ue _,id,fun v v=>by omega⟩
        . have go:∀(bs:Ni MA)(d:Nat)(e:Ni Tr)(a:nz)(s:Nat),WD (qC c m ls n) j st o.tail bs d e a s->d<=s/\(d<=m->s<=m)/\(d<=m->a.wd=.opn->s=m):=by
           intro bs
           induction bs with
           | nil=>rintro d e a s ⟨rfl,rfl⟩;refine⟨Ue _,id,fun v z=>by cases z⟩
           | cons b bs ih=>
            intro d e a s q;rcases q with⟨D,F,q1,q2⟩ | ⟨q1,q2⟩
            . obtain⟨C,i,_⟩:=VR n b _ d _ _ q1;obtain⟨L,y,x⟩:=ih _ _ _ _ q2;exact⟨by omega,fun z=>y (i z),fun z=>x (i z)⟩
            . exact VR n b _ d _ _ q2
          obtain⟨C,i,B⟩:=go bs _ _ _ _ h;exact⟨by omega,fun v=>i nofun,fun v=>B nofun⟩
mutual
noncomputable def Yu(lo:Nat)(h:HI):Tr->Dt->Prop
 | .ae st,d=>∃s,d=.tup [.str "threes", .ref s]/\lo<=s/\h[s]?=ε (.lst (st.map oC))
 | .ring st cs P k,d=>∃s r,d=.tup [.str "ring", .ref s,.ref r]/\lo<=s/\lo<=r/\h[s]?=ε (.lst (st.map oC))/\h[r]?=ε (.lst (EC cs P k))
 | .one st bs,d=>∃s r ds,d=.tup [.str "one", .ref s,.ref r]/\lo<=s/\lo<=r/\h[s]?=ε (.lst (st.map oC))/\h[r]?=ε (.lst ds)/\Ye lo h bs ds
 | .split st p bs,d=>∃s r ds,d=.tup [.str "split", .ref s,.int (p.1:Nat),.int (p.2:Nat),.ref r]/\lo<=s/\lo<=r/\h[s]?=ε (.lst (st.map oC))/\h[r]?=ε (.lst ds)/\Ye lo h bs ds
noncomputable def Ye(lo:Nat)(h:HI):Ni Tr->Ni Dt->Prop
 | [],ds=>ds=[]
 | t::ts,ds=>∃d r,ds=d::r/\Yu lo h t d/\Ye lo h ts r
end
def AT(lo:Nat)(h h':HI):Prop:=∀(n:Nat)(a:Ni Dt),lo<=n->h[n]?=ε (.lst a)->h'[n]?=ε (.lst a)
mutual
theorem Yu.up{lo a:Nat}(g:a<=lo){h h':HI}(u:AT lo h h'):∀(t:Tr){d:Dt},Yu lo h t d->Yu a h' t d
 | .ae st,d,q=>by simp![Yu]at q ⊢;obtain⟨s,e,l,q⟩:=q;exact⟨s,e,by omega,u _ _ l q⟩
 | .ring st cs P k,d,q=>by simp![Yu]at q ⊢;obtain⟨s,r,e,f,b,q1,q2⟩:=q;exact⟨s,r,e,by omega,by omega,u _ _ f q1,u _ _ b q2⟩
 | .one st bs,d,q=>by simp![Yu]at q ⊢;obtain⟨s,r,ds,e,f,b,q1,q2,q3⟩:=q;exact⟨s,r,ds,e,by omega,by omega,u _ _ f q1,u _ _ b q2,Ye.up g u bs q3⟩
 | .split st p bs,d,q=>by simp![Yu]at q ⊢;obtain⟨s,r,ds,e,f,b,q1,q2,q3⟩:=q;exact⟨s,r,ds,e,by omega,by omega,u _ _ f q1,u _ _ b q2,Ye.up g u bs q3⟩
theorem Ye.up{lo a:Nat}(f:a<=lo){h h':HI}(u:AT lo h h'):∀(b:Ni Tr){ds:Ni Dt},Ye lo h b ds->Ye a h' b ds
 | [],ds,q=>by simp![Ye]at q ⊢;exact q
 | t::b,ds,q=>by simp![Ye]at q ⊢;obtain⟨d,r,e,q1,q2⟩:=q;exact⟨d,r,e,Yu.up f u t q1,Ye.up f u b q2⟩
end
theorem Ye.snoc{lo:Nat}{h:HI}{t:Tr}{d:Dt}(a:Yu lo h t d):∀(b:Ni Tr){ds:Ni Dt},Ye lo h b ds->Ye lo h (b++[t]) (ds++[d])
 | [],ds,q=>by simp![Ye]at q;subst q;simp![Wo,Ye];exact⟨d,[],rfl,a,rfl⟩
 | t'::b,ds,q=>by simp![Ye]at q;obtain⟨e,r,rfl,q1,q2⟩:=q;simp![Wu,Ye];exact⟨e,r++[d],rfl,q1,Ye.snoc a b q2⟩
noncomputable def ED(c:Nat)(u:Nat->Int):Ni Dt:=(List.range c).map fun k=>.tup [.int (u (2*k)),.int (u (2*k+1))]
def ba(lo:Nat)(h:HI)(c:Nat):nz->Dt->Prop
 | .opn,d=>d=.tup [.str "open", .non]
 | .laid t,d=>d=.tup [.str "laid", .lst (ED c (kB (2*c) t))]
 | .clash tr,d=>∃x,d=.tup [.str "clash",x]/\Yu lo h tr x
theorem ba.up{lo b:Nat}(g:b<=lo){h h':HI}(u:AT lo h h'){c:Nat}{a:nz}{d:Dt}(q:ba lo h c a d):ba b h' c a d:=by
 cases a with
 | opn=>exact q
 | laid t=>exact q
 | clash f=>obtain⟨x,e,q⟩:=q;exact⟨x,e,Yu.up g u f q⟩
theorem Jj{c:Nat}(q:c<=100)(u:Nat->Int)(h:HI):yN [.lst (XB (2*c) u)] h=ε (.lst (ED c u),h):=by
 have m:C5 2 (.int 0) (.int ((2*c:Nat):Int),h)=ε (.vals ((List.range c).map fun(k:Nat)=>Dt.int (0+(k:Int)*(2:Nat))),h):=by
  have o:((((2*c:Nat):Int)-0+((2:Nat):Int)-1)/((2:Nat):Int)).toNat=c:=by omega
  have p:(0:Int)<=0/\(0:Int)<2^61/\0<=((2*c:Nat):Int)/\((2*c:Nat):Int)<2^61/\0<2/\2<1000:=by omega
  simp![C5,dh p,o]
 have n:=sF (te:=oN) (tc:=nB) (i:=0) (fun(k:Nat)=>Dt.int (0+(k:Int)*(2:Nat))) (fun k=>Dt.tup [.int (u (2*k)),.int (u (2*k+1))]) h (List.range c) [none,ε (.lst (XB (2*c) u))] (by
  intro k a;have a:=Bu.mp a;refine⟨by simp,?_⟩;have j:(0:Int)+(k:Int)*((2:Nat):Int)=((2*k:Nat):Int):=by omega
  have g:((2*k:Nat):Int)+1=((2*k+1:Nat):Int):=by omega
  have f:=mO u (show 2*k<2*c by omega);have e:=mO u (show 2*k+1<2*c by omega);rw[j];simp![oN,NC,DA,zA,vA,sA,jA,Va,Ro,Rr,kA,fA,UD,g,WI,SM.zD,f,e,Uu];rfl)
 have b:=rE (l:=[none,ε (.lst (XB (2*c) u))]) (h:=h) (CA 0) nB oN (xs:=(List.range c).map fun(k:Nat)=>Dt.int (0+(k:Int)*(2:Nat))) (by simp[sizeLine];omega);rw[n]at b;have d:=cR (2*c) u;dsimp![yN,RU,Ti,Vu,Ui,OA,uF,S8,sA,EB,XO,d,m,dE,VG,ZD,La,b,WA];rfl
def gm(h:HI)(d:Dt)(P:Ni (Nat×Nat)):Prop:=d=.lst (P.map BA)\/∃n,d=.ref n/\h[n]?=ε (.lst (P.map BA))
theorem gm.seq{h:HI}{d:Dt}{P:Ni (Nat×Nat)}(q:gm h d P)(e:HI):eD (h++e) d=ε (P.map BA):=by
 rcases q with rfl | ⟨n,rfl,q⟩
 . rfl
 . have:=(Up.app h e).get q;simp![eD,EA,this]
def ag (h:HI) (o:Nat) (ls:Ni Ln) (m made:Nat):Prop:=h[o]?=ε (.ins "Search" [("lengths", .lst (ls.map pB)),("most", .int (m:Nat)),("made", .int (made:Nat))])
theorem ag.up{h h':HI}(u:Up h h'){o m made:Nat}{ls:Ni Ln}(s:ag h o ls m made):ag h' o ls m made:=u.get s
theorem dS{m:Nat}(a:m<8192)(h:m≠0):cB m ≠ []:=by
 intro e;apply h;refine BI a (by decide) fun k b=>?_
 cases z:m.testBit k with
 | false=>simp
 | true=>have:k∈cB m:=bo.mpr ⟨b,z⟩;rw[e]at this;cases this
theorem ur{c:Nat}{g:MA}(o:aB c g)(ne:wB c g=false):∀i j,i<c->j<c->cB (g i j) ≠ []:=fun i j b a=>dS (o.lt i b j a) (cm ne b a)
theorem HX{c:Nat}{p:Nat×Nat}(h:p∈VA c):p.1<p.2/\p.2<c:=by unfold VA IC at h;obtain⟨i,b,h⟩:=Ma.mp h;obtain⟨k,a,rfl⟩:=Bs.mp h;have:=Bu.mp b;have:=Bu.mp a;exact⟨by show i<i+1+k;omega,by show i+1+k<c;omega⟩
theorem Ik{c i j:Nat}(h1:i<j)(h2:j<c):(i,j)∈VA c:=by unfold VA IC;refine Ma.mpr ⟨i,Bu.mpr nofun,Bs.mpr ⟨j-i-1,Bu.mpr nofun,?_⟩⟩;rw[show i+1+(j-i-1)=j by omega]
theorem o0{p q:Nat}{a b d:Int}{e:Bd}(h:e∈BG p q a b d):(e.1=p/\e.2.1=q)\/(e.1=q/\e.2.1=p):=by
 unfold BG at h;rcases Bo.mp h with h | h
 . split at h
   . rw[Ao.mp h];exact .inl ⟨rfl,rfl⟩
   . exact nomatch h
 . split at h
   . rw[Ao.mp h];exact .inr ⟨rfl,rfl⟩
   . exact nomatch h
theorem QY{i j side m:Nat}{e:Bd}(h:e∈AE i j side m):∃z:Nat,z<2/\((e.1=2*i+side/\e.2.1=2*j+z)\/(e.1=2*j+z/\e.2.1=2*i+side)):=by
 unfold AE at h;rcases Bo.mp h with h | h
 . exact⟨0,by omega,o0 h⟩
 . exact⟨1,by omega,o0 h⟩
theorem SR{c:Nat}(N:Nat->Nat->Nat){ls:Ni Ln}(h:∀x∈ls,x.1<c):∀e∈mC c N ls,e.1<2*c/\e.2.1<2*c/\e.1≠e.2.1:=by
 intro e he;unfold mC at he;rcases Bo.mp he with he | he
 . rcases Bo.mp he with he | he
   . obtain⟨i,j,rfl⟩:=Bs.mp he;have:=Bu.mp j;refine⟨?_,?_,?_⟩<;>simp only<;>omega
   . obtain⟨x,f,he⟩:=Ma.mp he;have:=h x f;unfold wC at he;simp![Ba,not_mem_nil,or_false]at he;rcases he with rfl | rfl
     . refine⟨?_,?_,?_⟩<;>simp only<;>omega
     . refine⟨?_,?_,?_⟩<;>simp only<;>omega
 . obtain⟨p,g,he⟩:=Ma.mp he;obtain⟨n,m⟩:=HX g;unfold yD at he;rcases Bo.mp he with he | he
   . obtain⟨z,d,⟨a,b⟩ | ⟨a,b⟩⟩:=QY he
     . rw[a,b];omega
     . rw[a,b];omega
   . obtain⟨z,d,⟨a,b⟩ | ⟨a,b⟩⟩:=QY he
     . rw[a,b];omega
     . rw[a,b];omega
theorem uR{a b:Type}(f:a->Ni b)(n:Nat):∀(xs:Ni a)(_:∀x∈xs,(f x).length<=n),(xs.flatMap f).length<=n*xs.length
 | [],_=>by simp
 | x::xs,h=>by have:=uR f n xs (fun y d=>h y (by simp[d]));have:=h x ⋯;rw[flatMap_cons,iu,Ss,Nat.mul_succ];omega
theorem GR{c:Nat}(a:c<=8)(N:Nat->Nat->Nat){ls:Ni Ln}(b:ls.length<=100):(mC c N ls).length<=1000:=by
 unfold mC;rw[iu,iu];have i:(KC c).length=c:=by simp[KC]
 have h:=uR (wC (2*c+1)) 2 ls (fun x q=>Ue _);have g:=uR (fun p:Nat×Nat=>yD p.1 (N p.1 p.2) p.2) 8 (VA c) (fun x q=>by
  unfold yD;rw[iu];have:=nL x.1 x.2 0 (N x.1 x.2);have:=nL x.1 x.2 1 (N x.1 x.2);omega)
 have f:=CJ c c;have d:c*c<=8*8:=Ja a a;have e:(VA c).length<=64:=by unfold VA;omega
 omega
theorem o3{h h':HI}(f:∀m,m<h.length->h'[m]?=h[m]?):Up h h':=by refine⟨?_,f⟩;apply Classical.byContradiction;intro n;have e:=f h'.length nofun;rw[jo (Ue _),je nofun]at e;cases e
theorem vf{h:HI}{ds:Ni Dt}{b:Ni (Ni IB)}(q:al h ds b):al h (ds.drop 1) b.tail:=by
 cases q with
 | nil=>exact .nil
 | cons a r=>exact r
theorem B9 {x y z:Dt}:jD "lengths" [("lengths",x),("most",y),("made",z)]=ε x:=by rfl
theorem Dp {x y z:Dt}:jD "most" [("lengths",x),("most",y),("made",z)]=ε y:=by
 have:¬((("most" :Str))=(("lengths" :Str))):=by decide +kernel
 simp![jD,dz this,dG]
theorem AZ {x y z:Dt}:jD "made" [("lengths",x),("most",y),("made",z)]=ε z:=by
 have b:¬((("made" :Str))=(("lengths" :Str))):=by decide +kernel
 have a:¬((("made" :Str))=(("most" :Str))):=by decide +kernel
 simp![jD,dz b,dz a,dG]
theorem eZ {x y z:Dt}:jD "look" [("lengths",x),("most",y),("made",z)]=none:=by
 have d:¬((("look" :Str))=(("lengths" :Str))):=by decide +kernel
 have b:¬((("look" :Str))=(("most" :Str))):=by decide +kernel
 have a:¬((("look" :Str))=(("made" :Str))):=by decide +kernel
 simp![jD,dz d,dz b,dz a]
theorem Ep {x y z:Dt}:jD "look_at_branches" [("lengths",x),("most",y),("made",z)]=none:=by
 have d:¬((("look_at_branches" :Str))=(("lengths" :Str))):=by decide +kernel
 have b:¬((("look_at_branches" :Str))=(("most" :Str))):=by decide +kernel
 have a:¬((("look_at_branches" :Str))=(("made" :Str))):=by decide +kernel
 simp![jD,dz d,dz b,dz a]
theorem S7 {x y z v:Dt}:qE "made" v [("lengths",x),("most",y),("made",z)]=([("lengths",x),("most",y),("made",v)]:Ni (Str×Dt)):=by
 have b:¬((("lengths" :Str))=(("made" :Str))):=by decide +kernel
 have a:¬((("most" :Str))=(("made" :Str))):=by decide +kernel
 simp![qE,dz b,dz a,dG]
theorem o_c:decide ((("open" :Str))=(("clash" :Str)))=false:=by decide +kernel
theorem Z4:decide ((("laid" :Str))=(("clash" :Str)))=false:=by decide +kernel
theorem t_r:decide ((("times" :Str))=(("ring" :Str)))=false:=by decide +kernel
def Ef(c m:Nat)(ls:Ni Ln)(n:Nat)(f:MA)(e:Ni (Ni IB))(made o:Nat)(h:HI)(r:Oa (Dt×HI)):Prop:=
 ∃d b a s,r=ε (d,b)/\qC c m ls n f e made a s/\ba h.length b c a d/\my h b/\ag b o ls m s
structure n9(c m:Nat)(ls:List Ln)(n:Nat)(f:MA)(gs:List (List IB))(gds:List Dt)(made b o:Nat)(pd:Dt)(P:List (Nat×Nat))(h:HI):Prop where
 ex:∃a s,qC c m ls n f gs made a s
 of:aB c f
 og:ax c gs
 sg:∀x∈gs,x.length<=1000
 net:Ve h b c f
 grp:al h gds gs
 prs:gm h pd P
 pc:∀p∈P,p.1<c/\p.2<c/\p.1≠p.2
 wt:iD c f P []
 lp:P.length<=1000
 ob:ag h o ls m made
def jS(c m:Nat)(ls:Ni Ln)(n:Nat):Prop:=∀(f:MA)(e:Ni (Ni IB))(a:Ni Dt)(made b o:Nat)(d:Dt)(P:Ni (Nat×Nat))(h:HI),n9 c m ls n f e a made b o d P h->Ef c m ls n f e made o h (KE n [.ref o,.ref (b+c),d,.lst a] h)
theorem b9(tag:Oa (Nat×Nat))(a:Ni Dt)(ps:Ni (Nat×Nat))(k:HI):pA (LC tag a ps) (.int 2) k=ε (.lst a,k):=by cases tag<;>rfl
theorem b8(tag:Oa (Nat×Nat))(a:Ni Dt)(ps:Ni (Nat×Nat))(k:HI):pA (LC tag a ps) (.int 3) k=ε (.lst (ps.map BA),k):=by cases tag<;>rfl
theorem Eh{c m n:Nat}{ls:Ni Ln}(IH:jS c m ls n){tag:Oa (Nat×Nat)}{st st0:Ni (Nat×Nat×Nat)}{C:Ni (Ni IB)}{gds:Ni Dt}{ps:Ni (Nat×Nat)}{zdt:Ni Dt}{hB:HI}{o sr:Nat}(og:ax c C)(sg:∀x∈C,x.length<=1000)(G0:al hB gds C)(pc:∀p∈ps,p.1<c/\p.2<c/\p.1≠p.2)(lp:ps.length<=1000) :
 ∀(bs:Ni MA)(M:Ni Dt)(made:Nat)(i D:Ni Tr)(f:Ni Dt)(h:HI)(y5 Y:Oa Dt)(a0:nz)(s0:Nat),WD (qC c m ls n) tag st0 C bs made D a0 s0->(∀b∈bs,aB c b)->(∀b∈bs,iD c b ps [])->af (br hB c) bs M->my hB h->h[hB.length]?=ε (.lst f)->Ye (hB.length+1) h i f->f.length+bs.length<=5000->ag h o ls m made->
  ∃r,QB (CA 5) (QK (KE n)) M [ε (.ref o),ε (LC tag zdt ps),ε (.ref sr),ε (.lst gds),ε (.ref hB.length),y5,Y] h=ε r/\
   ((∃W S j u H I,r=.nx [ε (.ref o),ε (LC tag zdt ps),ε (.ref sr),ε (.lst gds),ε (.ref hB.length),W,S] j/\my hB j/\j[hB.length]?=ε (.lst H)/\Ye (hB.length+1) j u H/\ag j o ls m I/\WD (qC c m ls n) tag st C bs made i (.clash (aQ tag st u)) I)\/
    (∃d j a I,r=.rt d j/\my hB j/\ba (hB.length+1) j c a d/\ag j o ls m I/\a.wd≠.clash/\WD (qC c m ls n) tag st C bs made i a I)):=by
 intro bs
 induction bs with
 | nil=>intro M made i D f h y5 Y a0 s0 q _ _ A U hb T _ O;cases A;exact⟨_,rfl,.inl ⟨y5,Y,h,i,f,made,rfl,U,hb,T,O,rfl,rfl⟩⟩
 | cons b bs ih=>
  intro M made i D f h y5 Y a0 s0 q J a2 A U hb T sz O;cases A with
  | @cons _ nd _ a3 a4 A=>
  have a5:hB.length+1<=h.length:=(Wi hb).1;obtain⟨b1,rfl,N1⟩:=a4;have a7:∃a s,qC c m ls n b C made a s:=by
   rcases q with⟨tr,m1,q1,_⟩ | ⟨_,q2⟩
   . exact⟨_,_,q1⟩
   . exact⟨_,_,q2⟩
  obtain⟨d,E,a,s,e,L,AN,U1,O1⟩:=IH b C gds made b1 o (.lst (ps.map BA)) ps h ⟨a7,J b ⋯,og,sg,U.net N1,G0.up U,.inl rfl,pc,a2 b ⋯,lp,O⟩;have mt:=pR (x := "Search") (m := "look") (F:=KE n) (ga:=bA (eV 5) (bA (e2 pA (eV 1) (oe 3)) (bA (eV 3) eA))) (l:=[ε (.ref o),ε (LC tag zdt ps),ε (.ref sr),ε (.lst gds),ε (.ref hB.length),ε (.ref (b1+c)),Y]) O eZ;have ev:MI "Search" "look" (KE n) (eV 0) (bA (eV 5) (bA (e2 pA (eV 1) (oe 3)) (bA (eV 3) eA))) [ε (.ref o),ε (LC tag zdt ps),ε (.ref sr),ε (.lst gds),ε (.ref hB.length),ε (.ref (b1+c)),Y] h=ε (d,E):=by simp![CS,jA,Ro,kA,fA,mt,DA,zA,vA,sA,Rr,b8,e]
  cases a with
  | opn=>have dd:d=.tup [.str "open", .non]:=AN;refine⟨.rt d E,?_,.inr ⟨d,E,.opn,s,rfl,U.trans U1,AN,O1,(fun z=>by cases z),.inr ⟨(fun z=>by cases z),L⟩⟩⟩;subst dd;simp![QB,zE,Wa,Vo,Va,QK,JA,vB,ev,fA,LA,dB,HA,vA,jA,sA,Ro,Rr,kA,YB,rC,Uu,rP,o_c,uo,KA,dG,OA,dC,DS]
  | laid t=>have dd:d=.tup [.str "laid", .lst (ED c (kB (2*c) t))]:=AN;refine⟨.rt d E,?_,.inr ⟨d,E,.laid t,s,rfl,U.trans U1,AN,O1,(fun z=>by cases z),.inr ⟨(fun z=>by cases z),L⟩⟩⟩;subst dd;simp![QB,zE,Wa,Vo,Va,QK,JA,vB,ev,fA,LA,dB,HA,vA,jA,sA,Ro,Rr,kA,YB,rC,Uu,rP,Z4,uo,KA,dG,OA,dC,DS]
  | clash tr=>
   obtain⟨x,rfl,TA⟩:=AN;have Q:=U1.2 _ _ hb;obtain⟨h2,P⟩:∃h2:HI,h2=E.set hB.length (.lst (f++[x])):=⟨_,rfl⟩
   have l1:hB.length<E.length:=(Wi Q).1;have g2:∀k,k≠hB.length->h2[k]?=E[k]?:=fun k B=>by rw[P,lu (ni B)]
   have U2:my hB h2:=⟨by rw[P,Ke];exact su U.1 U1.1,fun k Z B=>by
    have kl:=(Wi B).1;rw[g2 k nofun];exact U1.2 _ _ (U.2 _ _ B),fun k Z B=>by
    have kl:=(Wi B).1;rw[g2 k nofun];exact U1.3 _ _ (U.3 _ _ B)⟩
   have F2:AT (hB.length+1) E h2:=fun k Z B hx=>by rw[g2 k nofun];exact hx
   have a6:h2[hB.length]?=ε (.lst (f++[x])):=by rw[P,tu l1]
   have O2:ag h2 o ls m s:=by
    have:o≠hB.length:=by intro z;unfold ag at O1;rw[z,Q]at O1;cases O1
    unfold ag;rw[g2 o this];exact O1
   have T2:Ye (hB.length+1) h2 (i++[tr]) (f++[x]):=Ye.snoc (Yu.up a5 (fun k Z B hx=>F2 k Z nofun hx) tr TA) i (Ye.up (Ue _) (fun k Z B hx=>F2 k Z B (U1.2 _ _ hx)) i T);have ap:=nG (l:=[ε (.ref o),ε (LC tag zdt ps),ε (.ref sr),ε (.lst gds),ε (.ref hB.length),ε (.ref (b1+c)),ε (.tup [.str "clash",x])]) (h:=E) (g:=e2 pA (eV 6) (oe 1)) (d:=x) Q ⋯ Q (by simp at sz;simp[sizeLine];omega);rw[<- P]at ap;obtain⟨a1,s1,R,q3⟩:∃a1 s1 R,WD (qC c m ls n) tag st0 C bs s R a1 s1:=by
    rcases q with⟨a8,m1,q1,q2⟩ | ⟨q1,q2⟩
    . obtain⟨_,z⟩:=vI n b C made _ _ _ _ (J b ⋯) og q1 L;subst z;exact⟨_,_,_,q2⟩
    . obtain⟨z,_⟩:=vI n b C made _ _ _ _ (J b ⋯) og q2 L;exact Du z q1
   obtain⟨r,e3,er⟩:=ih a3 s (i++[tr]) R (f++[x]) h2 (ε (.ref (b1+c))) (ε (.tup [.str "clash",x])) a1 s1 q3 (fun y hy=>J y (by simp[hy])) (fun y hy=>a2 y (by simp[hy])) A U2 a6 T2 (by simp at sz ⊢;omega) O2;refine⟨r,?_,?_⟩
   . simp![QB,zE,Wa,Vo,Va,QK,JA,vB,ev,fA,LA,dB,HA,vA,jA,sA,Ro,Rr,kA,YB,rC,Uu,rP,decide_true,uq,KA,Vi,eG,PB,XE,SF,ap,UZ];exact e3
   . rcases er with⟨W,S,j,u,H,I,z1,z2,z3,z4,z5,z6⟩ | ⟨d,j,a,I,z1,z2,z3,z4,z5,z6⟩
     . exact .inl ⟨W,S,j,u,H,I,z1,z2,z3,z4,z5,.inl ⟨tr,s,L,z6⟩⟩
     . exact .inr ⟨d,j,a,I,z1,z2,z3,z4,z5,.inl ⟨tr,s,L,z6⟩⟩
theorem vK:1<=sizeLine:=by decide
theorem xH:2<=sizeLine:=by decide
theorem T5:3<=sizeLine:=by decide
theorem x9{c m n:Nat}{ls:Ni Ln}(IH:jS c m ls n){tag:Oa (Nat×Nat)}{st st0:Ni (Nat×Nat×Nat)}{j:Ni (Ni IB)}{gds:Ni Dt}{ps:Ni (Nat×Nat)}{bs:Ni MA}{f:Ni Dt}{hB:HI}{o sr lo made:Nat}{R:nz}{s0:Nat}(og:ax c j)(sg:∀x∈j,x.length<=1000)(G0:al hB gds j)(pc:∀p∈ps,p.1<c/\p.2<c/\p.1≠p.2)(lp:ps.length<=1000)
 (q:WD (qC c m ls n) tag st0 j bs made [] R s0) (H:∀b∈bs,aB c b) (E:∀b∈bs,iD c b ps []) (A:af (br hB c) bs f) (lb:bs.length<=4000) (O:ag hB o ls m made) (hs:hB[sr]?=ε (.lst (st.map oC))) (P:lo<=sr) (M:lo<=hB.length) :
 ∃d g a s,yH (KE n) [.ref o,LC tag f ps,.ref sr,.lst gds] hB=ε (d,g)/\WD (qC c m ls n) tag st j bs made [] a s/\ba lo g c a d/\my hB g/\ag g o ls m s:=by
 have U0:my hB (hB++[.lst []]):=my.app _ _;obtain⟨r,e,er⟩:=Eh IH (tag:=tag) (st:=st) (st0:=st0) (zdt:=f) (sr:=sr) og sg G0 pc lp bs f made [] [] [] (hB++[.lst []]) none none R s0 q H E A U0 ⋯ (by simp![Ye]) (by simp;omega) (ag.up (Up.app hB [.lst []]) O);have F:=fun k=>b9 tag f ps k
 rcases er with⟨y5,y6,g,h,gp,s,rfl,U,Q,T,u,B⟩ | ⟨d,g,a,s,rfl,U,AN,u,na,B⟩
 . have i:=U.2 _ _ hs;have S:Ye lo g h gp:=Ye.up nofun (fun k W hk I=>I) h T;cases tag with
   | none=>
    refine⟨.tup [.str "clash", .tup [.str "one", .ref sr,.ref hB.length]],g,_,s,?_,B,⟨_,rfl,?_⟩,U,u⟩
    . have L:∀k:HI,VI (.tup [.str "one", .ref sr]) (.tup []) k=ε (.tup [.str "one", .ref sr],k):=fun z=>rfl
      have J:∀k:HI,VI (.tup [.str "one", .ref sr]) (.tup [.ref hB.length]) k=ε (.tup [.str "one", .ref sr,.ref hB.length],k):=fun z=>rfl
      have Y:∀x y:Dt,[x,y].length<=sizeLine:=fun z z=>by simp[sizeLine]
      have Z:∀x:Dt,[x].length<=sizeLine:=fun z=>by simp[sizeLine]
      have D:∀k:HI,pA (LC none f ps) (.int 0) k=ε (.str "one",k):=fun z=>rfl
      have C:∀k:HI,pA (LC none f ps) (.int 1) k=ε (.tup [],k):=fun z=>rfl
      dsimp![yH,RK,Ti,Vu,Wu,Wo,JA,vB,PH,zA,m8,Vo,Va,LA,qD,OC,vA,sA,Rr,F,TF,tF,e,OA,NC,DA,D,C,vK,xH,L,J,WA]
    . show Yu lo g (.one st h) _;simp![Yu];exact⟨sr,hB.length,gp,rfl,P,M,i,Q,S⟩
   | some p=>
    refine⟨.tup [.str "clash", .tup [.str "split", .ref sr,.int (p.1:Nat),.int (p.2:Nat),.ref hB.length]],g,_,s,?_,B,⟨_,rfl,?_⟩,U,u⟩
    . have L:∀k:HI,VI (.tup [.str "split", .ref sr]) (BA p) k=ε (.tup [.str "split", .ref sr,.int (p.1:Nat),.int (p.2:Nat)],k):=fun z=>rfl
      have J:∀k:HI,VI (.tup [.str "split", .ref sr,.int (p.1:Nat),.int (p.2:Nat)]) (.tup [.ref hB.length]) k=ε (.tup [.str "split", .ref sr,.int (p.1:Nat),.int (p.2:Nat),.ref hB.length],k):=fun z=>rfl
      have Y:∀x y:Dt,[x,y].length<=sizeLine:=fun z z=>by simp[sizeLine]
      have Z:∀x:Dt,[x].length<=sizeLine:=fun z=>by simp[sizeLine]
      have D:∀k:HI,pA (LC (ε p) f ps) (.int 0) k=ε (.str "split",k):=fun z=>rfl
      have C:∀k:HI,pA (LC (ε p) f ps) (.int 1) k=ε (BA p,k):=fun z=>rfl
      dsimp![yH,RK,Ti,Vu,Wu,Wo,JA,vB,PH,zA,m8,Vo,Va,LA,qD,OC,vA,sA,Rr,F,TF,tF,e,OA,NC,DA,D,C,vK,xH,L,J,WA]
    . show Yu lo g (.split st p h) _;simp![Yu];exact⟨sr,hB.length,gp,rfl,P,M,i,Q,S⟩
 . refine⟨d,g,a,s,?_,B,AN.up nofun (fun k W hk I=>I),U,u⟩;dsimp![yH,RK,Ti,Vu,Wu,Wo,JA,vB,PH,zA,m8,Vo,Va,LA,qD,OC,vA,sA,Rr,F,TF,tF,e,dC,WA]
theorem Bt{c:Nat}{g:MA}(o:aB c g)(n:jE c g){e:Ni (Ni IB)}(ok:ax c e)(sg:∀x∈e,x.length<=1000){tag:Oa (Nat×Nat)}{bs:Ni MA}{ps:Ni (Nat×Nat)}(h:BC c g e=ε (tag,bs,ps)):(∀p∈ps,p.1<c/\p.2<c/\p.1≠p.2)/\ps.length<=1000/\(∀b∈bs,iD c b ps [])/\bs.length<=1000:=by
 cases e with
 | cons grp e=>
  simp![BC,Fi,vo]at h;obtain⟨_,rfl,rfl⟩:=h;have m:=ok grp ⋯;refine⟨fun p i=>?_,by simp;exact sg grp ⋯,fun b j=>?_,by simp;exact sg grp ⋯⟩
  . obtain⟨x,f,rfl⟩:=Bs.mp i;obtain⟨a,b,d,_⟩:=m x f;exact⟨a,b,d⟩
  . obtain⟨k,_,rfl⟩:=Bs.mp j;have:=WV (k:=k) grp m g 0 [] o (tV n);rw[Wo]at this;exact this
 | nil=>
  simp![BC]at h;cases lp:WE c g with
  | none=>rw[lp]at h;cases h
  | some p=>
   rw[lp]at h;simp![Fi,vo]at h;obtain⟨_,rfl,rfl⟩:=h;have i:p∈VA c:=Ai lp;obtain⟨q1,q2⟩:=bz.mp i;refine⟨fun x f=>?_,by simp,fun b j=>?_,by have:=rL (g p.1 p.2);simp;omega⟩
   . rw[Ao.mp f];omega
   . obtain⟨w,_,rfl⟩:=Bs.mp j;have:=DX o (show p.1<c by omega) (show p.2<c by omega) nofun (2^w) (tV n);rw[Wo]at this;exact this
theorem bx(n:Nat):KE (n+1)=HB 4 9 (pJ (KE n)):=rfl
noncomputable def JF(o:Nat)(n p g:Dt)(a b c d e:Oa Dt):LI:=[ε (.ref o),ε n,ε p,ε g,a,b,c,d,e]
section
variable{o:Nat}{n p g:Dt}{a b c d e:Oa Dt}
theorem j5:(JF o n p g a b c d e)[0]?=ε (ε (.ref o)):=rfl
theorem lk1:(JF o n p g a b c d e)[1]?=ε (ε n):=rfl
theorem lk2:(JF o n p g a b c d e)[2]?=ε (ε p):=rfl
theorem lk3:(JF o n p g a b c d e)[3]?=ε (ε g):=rfl
theorem lk5:(JF o n p g a b c d e)[5]?=ε b:=rfl
theorem lk6:(JF o n p g a b c d e)[6]?=ε c:=rfl
theorem lk7:(JF o n p g a b c d e)[7]?=ε d:=rfl
theorem lk8:(JF o n p g a b c d e)[8]?=ε e:=rfl
end
theorem Kl{c m:Nat}{ls:Ni Ln}(b4:1<=c)(hc:c<=8)(hl:ls.length<=100)(a2:∀x∈ls,x.1<c):∀n,jS c m ls n:=by
 intro n
 induction n with
 | zero=>intro f gs gds made b o pd P h K;obtain⟨a,s,q⟩:=K.ex;exact q.elim
 | succ n IH=>
  intro f gs gds made b o pd P h K;obtain⟨a0,s0,q0⟩:=K.ex;obtain⟨d,h1,e1,x,sr,st,g,rfl,r1,r2,r3,r4,r5,r6,r7⟩:=zQ (show c<=100 by omega) K.of K.net (pd:=pd) (P:=P) (fun e=>K.prs.seq e) K.pc K.wt (by have:=K.lp;omega);have U1:Up h h1:=⟨r2,r3⟩;have ef:KE (n+1) [.ref o,.ref (b+c),pd,.lst gds] h=MD (pJ (KE n) (JF o (.ref (b+c)) pd (.lst gds) none none none none none) h):=by rw[bx,mB];rfl
  have s1:qA mI [] (bA (eV 1) (bA (eV 2) eA)) (JF o (.ref (b+c)) pd (.lst gds) none none none none none) h=ε (.tup [x,.ref sr],h1):=by simp![NA,DA,zA,jA,lk1,lk2,kA,fA,Ui,e1]
  generalize u:KE (n+1) [.ref o,.ref (b+c),pd,.lst gds] h=X;rw[ef,pJ,tE s1 (l':=JF o (.ref (b+c)) pd (.lst gds) (ε (.tup [x,.ref sr])) none none none none) rfl,tE (d:=x) (h1:=h1) rfl (l':=JF o (.ref (b+c)) pd (.lst gds) (ε (.tup [x,.ref sr])) (ε x) none none none) rfl,tE (d:=.ref sr) (h1:=h1) rfl (l':=JF o (.ref (b+c)) pd (.lst gds) (ε (.tup [x,.ref sr])) (ε x) (ε (.ref sr)) none none) rfl]at u;have O1:ag h1 o ls m made:=K.ob.up U1;rcases r7 with⟨rfl,em⟩ | ⟨p,rfl,bl,Ng,cl,ne,_⟩
  . refine⟨.tup [.str "clash", .tup [.str "threes", .ref sr]],h1,.clash (.ae st),made,?_,.inl ⟨st,g,r5,em,rfl,rfl⟩,⟨_,rfl,?_⟩,U1.l,O1⟩
    . rw[cE (h1:=h1) rfl (d:=.tup [.str "clash", .tup [.str "threes", .ref sr]]) (h2:=h1) rfl]at u;exact u.symm
    . show Yu h.length h1 (.ae st) _;simp![Yu];exact⟨sr,rfl,r1,r4⟩
  . have M:cb c f st (zC c g):=⟨g,r5,cl,ne,rfl⟩;obtain⟨D,Y,neg⟩:=M.ok K.of;have L:=oY Ng;generalize zC c g=g' at M D Y neg L;obtain⟨rest,eb⟩:=UW (show c<=100 by omega) (ur D neg) (show ls.length<=1000 by omega) L;obtain⟨h2,Q⟩:∃h2:HI,h2=h1++.lst ((mC c g' ls).map wA)::rest:=⟨_,rfl⟩
    rw[<- Q]at eb;have U2:Up h1 h2:=Q ▸ Up.app _ _;have a5:h2[h1.length]?=ε (.lst ((mC c g' ls).map wA)):=by rw[Q];simp
    have O2:=O1.up U2;have nl:=L.len;have u1:=fun(h:HI)=>FF (h:=h) (i:=2) (j:=(c:Int)) (Or.inl ⟨by decide,by decide⟩)
    have g2:(2:Int)*(c:Int)=((2*c:Nat):Int):=by omega
    have a6:=rO (x := "Search") (k := "lengths") O1 (B9);have s4:∀(d:Dt) (h3:HI),KH [.int ((2*c:Nat):Int),.ref h1.length] h2=ε (d,h3)->qA KH [] (bA (e2 AC (oe 2) (LB xB (eV 5))) (bA (qA DH [] (bA (eV 5) (bA (LF "Search" "lengths" (eV 0)) eA))) eA)) (JF o (.ref (b+c)) pd (.lst gds) (ε (.tup [.ref (p+c),.ref sr])) (ε (.ref (p+c))) (ε (.ref sr)) none none) h1=ε (d,h3):=fun d h3 e=>by simp![NA,DA,zA,vA,EB,jA,sA,j5,lk5,kA,fA,nl,u1,g2,xP,a6,eb,Ui,e]
    rw[zF (h1:=h1) rfl]at u;rcases fY (n:=2*c) (a:=h1.length) nofun nofun (mC c g' ls) (SR g' a2) (GR hc g' hl) h2 a5 with⟨t,h3,I,fr,et⟩ | ⟨cs,PP,k,r,h3,R,fr,hr,et,rl⟩
    . have U3:Up h2 h3:=o3 fr;have O3:=O2.up U3;obtain⟨h4,U4,U⟩:=fW ((U2.trans U3).net L) D (show c<=100 by omega) (K.grp.up (U1.trans (U2.trans U3)).l) K.og K.sg;have T:=O3.up U4;rw[tE (s4 _ _ et) (l':=JF o (.ref (b+c)) pd (.lst gds) (ε (.tup [.ref (p+c),.ref sr])) (ε (.ref (p+c))) (ε (.ref sr)) (ε (.tup [.str "times", .lst (XB (2*c) (kB (2*c) t))])) none) rfl]at u;have s5:mu (e2 YA (e2 pA (eV 7) (oe 0)) (eC (.str "ring"))) (JF o (.ref (b+c)) pd (.lst gds) (ε (.tup [.ref (p+c),.ref sr])) (ε (.ref (p+c))) (ε (.ref sr)) (ε (.tup [.str "times", .lst (XB (2*c) (kB (2*c) t))])) none) h3=ε (false,h3):=by simp![HA,vA,jA,sA,lk7,kA,fA,YB,rC,Ro,Uu,EF,t_r,KA]
      have s6:∀y,dF [.ref (p+c),.lst gds] h3=ε (y,h4)->qA dF [] (bA (eV 5) (bA (eV 3) eA)) (JF o (.ref (b+c)) pd (.lst gds) (ε (.tup [.ref (p+c),.ref sr])) (ε (.ref (p+c))) (ε (.ref sr)) (ε (.tup [.str "times", .lst (XB (2*c) (kB (2*c) t))])) none) h3=ε (y,h4):=fun y e=>by simp![NA,DA,zA,jA,lk5,lk3,kA,fA,Ui,e]
      rw[zF s5]at u;have S:Up h h4:=U1.trans (U2.trans (U3.trans U4));cases H:BC c g' gs with
      | none=>rw[H]at U;have a8:=Jj (c:=c) nofun (kB (2*c) t) h4;refine⟨.tup [.str "laid", .lst (ED c (kB (2*c) t))],h4,.laid t,made,?_,.inr ⟨st,g',M,.inr ⟨t,I,.inl ⟨H,rfl,rfl⟩⟩⟩,rfl,S.l,T⟩;rw[tE (s6 _ U) (l':=JF o (.ref (b+c)) pd (.lst gds) (ε (.tup [.ref (p+c),.ref sr])) (ε (.ref (p+c))) (ε (.ref sr)) (ε (.tup [.str "times", .lst (XB (2*c) (kB (2*c) t))])) (ε .non)) rfl,cE (h1:=h4) rfl (d:=.tup [.str "laid", .lst (ED c (kB (2*c) t))]) (h2:=h4) (by simp![NC,DA,zA,NA,vA,jA,sA,lk7,kA,fA,YB,DF,Rr,Ro,Uu,Ui,a8,Ss,Uo,Nat.reduceAdd,xH,dG])]at u;exact u.symm
      | some v=>
       obtain⟨tag,bs,O⟩:=v;rw[H]at U;obtain⟨E,A,U⟩:=U;have fm:=rO (x := "Search") (k := "made") T (AZ);have fM:=rO (x := "Search") (k := "most") T (Dp);have Z:mu (e2 dQ (LF "Search" "made" (eV 0)) (LF "Search" "most" (eV 0))) (JF o (.ref (b+c)) pd (.lst gds) (ε (.tup [.ref (p+c),.ref sr])) (ε (.ref (p+c))) (ε (.ref sr)) (ε (.tup [.str "times", .lst (XB (2*c) (kB (2*c) t))])) (ε (LC tag E O))) h4=ε (decide (((m:Nat):Int)<=((made:Nat):Int)),h4):=by simp![HA,vA,jA,xP,j5,kA,fA,fm,fM,eQ,KA]
       rw[tE (s6 _ U) (l':=JF o (.ref (b+c)) pd (.lst gds) (ε (.tup [.ref (p+c),.ref sr])) (ε (.ref (p+c))) (ε (.ref sr)) (ε (.tup [.str "times", .lst (XB (2*c) (kB (2*c) t))])) (ε (LC tag E O))) rfl,zF (h1:=h4) (by cases tag<;>rfl)]at u;by_cases lm:m<=made
       . refine⟨.tup [.str "open", .non],h4,.opn,made,?_,.inr ⟨st,g',M,.inr ⟨t,I,.inr ⟨tag,bs,O,H,.inl ⟨lm,rfl,rfl⟩⟩⟩⟩,rfl,S.l,T⟩;have dg:decide (((m:Nat):Int)<=((made:Nat):Int))=true:=eO nofun;rw[dg]at Z;rw[cE Z (d:=.tup [.str "open", .non]) (h2:=h4) rfl]at u;exact u.symm
       . have dg:decide (((m:Nat):Int)<=((made:Nat):Int))=false:=eH nofun;have a9:=LJ D K.og H;obtain⟨pc,pl,wb,lb⟩:=Bt D Y K.og K.sg H;obtain⟨h5,J⟩:∃h5:HI,h5=h4.set o (.ins "Search" [("lengths", .lst (ls.map pB)),("most", .int (m:Nat)),("made", .int ((made+1:Nat):Int))]):=⟨_,rfl⟩
         have ol:=(Wi T).1;have O5:ag h5 o ls m (made+1):=by unfold ag;rw[J,tu ol]
         have U5:my h4 h5:=J ▸ my.set T;have l5:h5.length=h4.length:=by rw[J,Ke]
         have sf:=kO (x := "Search") (k := "made") (v:=.int ((made+1:Nat):Int)) (l:=(JF o (.ref (b+c)) pd (.lst gds) (ε (.tup [.ref (p+c),.ref sr])) (ε (.ref (p+c))) (ε (.ref sr)) (ε (.tup [.str "times", .lst (XB (2*c) (kB (2*c) t))])) (ε (LC tag E O)))) T ⋯;rw[S7,<- J]at sf;have m1:((made:Nat):Int)+1=((made+1:Nat):Int):=by omega
         have a4:h5[sr]?=ε (.lst (st.map oC)):=U5.2 _ _ ((U2.trans (U3.trans U4)).get r4);have qb:∃W,WD (qC c m ls n) tag W gs.tail bs (made+1) [] a0 s0:=by
          rcases q0 with⟨a1,g1,k1,k2,_,_⟩ | ⟨a1,g1,k1,k⟩
          . have:=M.cm K.of k1;rw[k2]at this;cases this
          . have eg:=M.unique K.of k1;subst eg;rcases k with⟨b5,P',k',R',_,_⟩ | ⟨t',b3,k⟩
            . exact(AR R' I).elim
            . rcases k with⟨C,_,_⟩ | ⟨b1,b6,b2,C,k⟩
              . rw[H]at C;cases C
              . rw[H]at C;cases C;rcases k with⟨a3,_,_⟩ | ⟨a3,k⟩
                . omega
                . exact⟨_,k⟩
         obtain⟨W,qb⟩:=qb;obtain⟨d,h',a,s,e6,B,AN,U6,O6⟩:=x9 IH (tag:=tag) (st:=st) (gds:=gds.drop 1) (sr:=sr) (lo:=h.length) (hB:=h5) K.og.tail (fun x hx=>K.sg x (mem_of_mem_tail hx)) (vf (K.grp.up (S.l.trans U5))) pc pl qb a9 wb (A.imp fun w w z=>z.up U5) nofun O5 a4 r1 (by have:=S.1;omega);refine⟨d,h',a,s,?_,.inr ⟨st,g',M,.inr ⟨t,I,.inr ⟨tag,bs,O,H,.inr ⟨by omega,B⟩⟩⟩⟩,AN,S.l.trans (U5.trans U6),O6⟩;have mt:=pR (x := "Search") (m := "look_at_branches") (F:=yH (KE n)) (ga:=bA (eV 8) (bA (eV 6) (bA (qK (eV 3) (bF (oe 1)) yM) eA))) (l:=(JF o (.ref (b+c)) pd (.lst gds) (ε (.tup [.ref (p+c),.ref sr])) (ε (.ref (p+c))) (ε (.ref sr)) (ε (.tup [.str "times", .lst (XB (2*c) (kB (2*c) t))])) (ε (LC tag E O)))) O5 Ep;have cf:HE gds (ε 1) none=gds.drop 1:=tR gds 1;have a7:qK (eV 3) (bF (oe 1)) yM (JF o (.ref (b+c)) pd (.lst gds) (ε (.tup [.ref (p+c),.ref sr])) (ε (.ref (p+c))) (ε (.ref sr)) (ε (.tup [.str "times", .lst (XB (2*c) (kB (2*c) t))])) (ε (LC tag E O))) h5=ε (.lst (gds.drop 1),h5):=by simp![ZS,jA,lk3,kA,fA,aT,sA,QR,bT,WG,Uu,cf]
         rw[dg]at Z;rw[zF Z]at u;simp![JA,OA,CS,jA,vA,sA,j5,lk6,lk8,kA,fA,xP,fm,C0,UD,m1,sf,LA,mt,DA,zA,a7,e6,WA]at u;exact u.symm
    . have U3:Up h2 h3:=o3 fr;have S:Up h h3:=U1.trans (U2.trans U3);refine⟨.tup [.str "clash", .tup [.str "ring", .ref sr,.ref r]],h3,.clash (.ring st cs PP k),made,?_,.inr ⟨st,g',M,.inl ⟨cs,PP,k,R,rfl,rfl⟩⟩,⟨_,rfl,?_⟩,S.l,O2.up U3⟩
      . rw[tE (s4 _ _ et) (l':=JF o (.ref (b+c)) pd (.lst gds) (ε (.tup [.ref (p+c),.ref sr])) (ε (.ref (p+c))) (ε (.ref sr)) (ε (.tup [.str "ring", .ref r])) none) rfl,cE (h1:=h3) rfl (d:=.tup [.str "clash", .tup [.str "ring", .ref sr,.ref r]]) (h2:=h3) rfl]at u;exact u.symm
      . show Yu h.length h3 (.ring st cs PP k) _;simp![Yu];refine⟨sr,r,rfl,r1,?_,(U2.trans U3).get r4,hr⟩;have:=(U1.trans U2).1;omega
theorem Rv{c:Nat}(b:c<=8){f:MA}(of:aB c f):∃st,(∃g,mw c f st g/\wB c g=true)\/(∃g,cb c f st g):=by
 have N:=PF [] c f;have B:=CJ c c;have j:c*c<=8*8:=Ja b b;obtain⟨d,C,D,x,o,st,g,rfl,y,u,s,r,a,q,h⟩:=zQ (show c<=100 by omega) of N (pd:=.lst ((VA c).map BA)) (P:=VA c) (fun e=>rfl) (fun p i=>by
  obtain⟨q1,q2⟩:=bz.mp i;omega) (fR c f) (by unfold VA;omega)
 rcases h with⟨rfl,m⟩ | ⟨F,rfl,E,H,n,ne,_⟩
 . exact⟨st,.inl ⟨g,a,m⟩⟩
 . exact⟨st,.inr ⟨_,g,a,n,ne,rfl⟩⟩
theorem Jv{c m:Nat}{ls:Ni Ln}(U:1<=c)(H:c<=8)(T:ls.length<=100)(y:∀x∈ls,x.1<c):∀(n:Nat)(f:MA)(j:Ni (Ni IB))(made:Nat),aB c f->ax c j->made<=m->m+1<=made+n->∃a s,qC c m ls n f j made a s:=by
 intro n
 induction n with
 | zero=>intro f j made _ _ Z Y;omega
 | succ n ih=>
  intro f j made of og Z Y;obtain⟨st,⟨g,s,em⟩ | ⟨g,o⟩⟩:=Rv H of
  . exact⟨_,_,.inl ⟨st,g,s,em,rfl,rfl⟩⟩
  . obtain⟨u,a0,neg⟩:=o.ok of;rcases fY (n:=2*c) (a:=0) nofun nofun (mC c g ls) (SR g y) (GR H g T) [.lst ((mC c g ls).map wA)] rfl with⟨t,W,h,fr,et⟩ | ⟨cs,PP,k,r,W,R,fr,hr,et,rl⟩
    . cases p:BC c g j with
      | none=>exact⟨_,_,.inr ⟨st,g,o,.inr ⟨t,h,.inl ⟨p,rfl,rfl⟩⟩⟩⟩
      | some v=>
       obtain⟨e,bs,E⟩:=v;by_cases Q:m<=made
       . exact⟨_,_,.inr ⟨st,g,o,.inr ⟨t,h,.inr ⟨e,bs,E,p,.inl ⟨Q,rfl,rfl⟩⟩⟩⟩⟩
       . have C:=LJ u og p;have go:∀(bs:Ni MA),(∀b∈bs,aB c b)->∀(i:Nat)(d:Ni Tr),i<=m->m+1<=i+n->∃a s,WD (qC c m ls n) e st j.tail bs i d a s:=by
          intro bs
          induction bs with
          | nil=>intro _ i d _ _;exact⟨_,_,rfl,rfl⟩
          | cons b bs B=>
           intro I i d F P;obtain⟨a,s,q⟩:=ih b j.tail i (I b ⋯) og.tail F P;obtain⟨z1,L,_⟩:=VR n b _ i _ _ q;have J:=L F;cases a with
           | clash D=>obtain⟨a',M,O⟩:=B (fun x S=>I x (by simp[S])) s (d++[D]) J nofun;exact⟨a',M,.inl ⟨D,s,q,O⟩⟩
           | opn=>exact⟨_,_,.inr ⟨(fun z=>by cases z),q⟩⟩
           | laid t=>exact⟨_,_,.inr ⟨(fun z=>by cases z),q⟩⟩
         obtain⟨a,s,q⟩:=go bs C (made+1) [] nofun nofun;exact⟨a,s,.inr ⟨st,g,o,.inr ⟨t,h,.inr ⟨e,bs,E,p,.inr ⟨by omega,q⟩⟩⟩⟩⟩
    . exact⟨_,_,.inr ⟨st,g,o,.inl ⟨cs,PP,k,R,rfl,rfl⟩⟩⟩
noncomputable def WH:Wd->Dt
 | .opn=>.str "open"
 | .laid=>.str "laid"
 | .clash=>.str "clash"
structure kM(c:Nat)(h:HI)(a:Nat)(fs:List ml):Prop where
 ds:∃ds,h[a]?=ε (.lst ds)/\ad h ds fs
 ok:∀x∈fs,uD c x
 sg:∀x∈nC fs,x.length<=1000
 len:fs.length<=100
theorem BJ:∀fs:Ni ml,(YC fs).length<=fs.length
 | []=>Ue _
 | .long x::fs=>by have:=BJ fs;simp![YC,Ss];omega
 | .ways x::fs=>by have:=BJ fs;simp![YC,Ss];omega
 | .one x::fs=>by have:=BJ fs;simp![YC,Ss];omega
theorem IJ{c:Nat}:∀fs:Ni ml,(∀x∈fs,uD c x)->∀x∈YC fs,x.1<c
 | [],_,x,hx=>nomatch hx
 | .long y::fs,h,x,hx=>by
  simp![YC,Ba]at hx;rcases hx with rfl | hx
  . exact h (.long x) ⋯
  . exact IJ fs (fun z a=>h z (by simp[a])) x hx
 | .ways y::fs,h,x,hx=>IJ fs (fun z a=>h z (by simp[a])) x hx
 | .one y::fs,h,x,hx=>IJ fs (fun z a=>h z (by simp[a])) x hx
theorem aH{c:Nat}:∀fs:Ni ml,(∀x∈fs,uD c x)->ax c (nC fs)
 | [],_,x,hx=>nomatch hx
 | .one y::fs,h,x,hx=>by
  simp![nC,Ba]at hx;rcases hx with rfl | hx
  . exact h (.one x) ⋯
  . exact aH fs (fun z a=>h z (by simp[a])) x hx
 | .ways y::fs,h,x,hx=>aH fs (fun z a=>h z (by simp[a])) x hx
 | .long y::fs,h,x,hx=>aH fs (fun z a=>h z (by simp[a])) x hx
def CF(c m:Nat)(fs:Ni ml)(n:Nat)(a:nz)(s:Nat):Prop:=qC c m (YC fs) n (fD kC fs) (nC fs) 0 a s
theorem Jl {h:HI} (ls:Ni Ln) (m:Nat):WK [.ref h.length,.lst (ls.map pB),.int (m:Nat)] (h++[.ins "Search" []])=ε (.non,h++[.ins "Search" [("lengths", .lst (ls.map pB)),("most", .int (m:Nat)),("made", .int ((0:Nat):Int))]]):=by
 have o:¬((("lengths" :Str))=(("most" :Str))):=by decide +kernel
 have j:¬((("lengths" :Str))=(("made" :Str))):=by decide +kernel
 have i:¬((("most" :Str))=(("made" :Str))):=by decide +kernel
 have g:qE "lengths" (.lst (ls.map pB)) []=([("lengths", .lst (ls.map pB))]:Ni (Str×Dt)):=rfl;have f:qE "most" (.int (m:Nat)) [("lengths", .lst (ls.map pB))]=([("lengths", .lst (ls.map pB)),("most", .int (m:Nat))]:Ni (Str×Dt)):=by simp![qE,dz o]
 have e:qE "made" (.int 0) [("lengths", .lst (ls.map pB)),("most", .int (m:Nat))]=([("lengths", .lst (ls.map pB)),("most", .int (m:Nat)),("made", .int 0)]:Ni (Str×Dt)):=by simp![qE,dz j,dz i]
 have d:=kO (h:=h++[.ins "Search" []]) (n:=h.length) (x := "Search") (k := "lengths") (v:=.lst (ls.map pB)) (l:=[ε (.ref h.length),ε (.lst (ls.map pB)),ε (.int (m:Nat))]) (fs:=[]) ⋯ ⋯;have b:=kO (h:=h++[.ins "Search" [("lengths", .lst (ls.map pB))]]) (n:=h.length) (x := "Search") (k := "most") (v:=.int (m:Nat)) (l:=[ε (.ref h.length),ε (.lst (ls.map pB)),ε (.int (m:Nat))]) (fs:=[("lengths", .lst (ls.map pB))]) ⋯ ⋯;have a:=kO (h:=h++[.ins "Search" [("lengths", .lst (ls.map pB)),("most", .int (m:Nat))]]) (n:=h.length) (x := "Search") (k := "made") (v:=.int 0) (l:=[ε (.ref h.length),ε (.lst (ls.map pB)),ε (.int (m:Nat))]) (fs:=[("lengths", .lst (ls.map pB)),("most", .int (m:Nat))]) ⋯ ⋯;rw[g]at d;rw[f]at b;rw[e]at a;have hs:∀x y:Ob,(h++[x]).set h.length y=h++[y]:=fun x y=>by simp
 rw[hs]at d b a;dsimp![WK,sQ,Ti,Vu,Ui,JA,C0,sA,Rr,d,LA,b,a,Ld];rfl
theorem Bw{c m:Nat}(q:1<=c)(r:c<=8){h:HI}{a:Nat}{fs:Ni ml}(F:kM c h a fs)(ex:∃A s,CF c m fs 12 A s) :
 ∃A s x h',CF c m fs 12 A s/\pG [.int (c:Nat),.ref a,.int (m:Nat)] h=ε (.tup [WH A.wd,x,.int (s:Nat)],h')/\ba h.length h' c A (.tup [WH A.wd,x])/\my h h':=by
 obtain⟨ds,u,D⟩:=F.ds;have T:=D.len;have fl:=F.len;have B:ds.length<sizeLine:=by rw[T];simp[sizeLine];omega
 have R:=uV u B D;obtain⟨h1,g⟩:∃h1:HI,h1=h++[.ins "Search" [("lengths", .lst ((YC fs).map pB)),("most", .int (m:Nat)),("made", .int ((0:Nat):Int))]]:=⟨_,rfl⟩
 have C:=Jl (h:=h) (YC fs) m;rw[<- g]at C;have U1:Up h h1:=g ▸ Up.app _ _;have H:ag h1 h.length (YC fs) m 0:=by unfold ag;rw[g];simp
 obtain⟨b,i,Q,W,U2⟩:=JV (show c<=1000 by omega) (U1.get u) (D.up U1.l) F.ok;have E:=VN (show c<=1000 by omega) i;obtain⟨h3,f⟩:∃h3:HI,h3=i++[.lst ((VA c).map BA)]:=⟨_,rfl⟩
 rw[<- f]at E;have U3:Up i h3:=f ▸ Up.app _ _;have j:Up h h3:=U1.trans (U2.trans U3);obtain⟨y,Y,S⟩:=LV (j.get u) B (D.up j.l);have pl:=CJ c c;have O:c*c<=8*8:=Ja r r;obtain⟨d,h',A,s,e,L,n,U4,U⟩:=Kl (m:=m) q r (show(YC fs).length<=100 by have:=BJ fs;omega) (IJ fs F.ok) 12 (fD kC fs) (nC fs) y 0 b h.length (.ref i.length) (VA c) h3
  ⟨ex,SG fs F.ok _ (AI c),aH fs F.ok,F.sg,U3.net W,Y,.inr ⟨i.length,rfl,by rw[f];simp⟩,(fun p M=>by obtain⟨q1,q2⟩:=bz.mp M;omega),fR c _,by unfold VA;omega,(H.up U2).up U3⟩
 have J:h.length<=h3.length:=j.1;have P:=rO (x := "Search") (k := "made") U (AZ);have I:=pR (h:=h1) (x := "Search") (m := "look") (F:=KE 12) (ga:=bA (qA xJ [] (bA (eV 0) (bA (eV 1) eA))) (bA (qA BH [] (bA (eV 0) eA)) (bA (qA yJ [] (bA (eV 1) eA)) eA))) (l:=[ε (.int (c:Nat)),ε (.ref a),ε (.int (m:Nat)),ε (.ref h.length),none]) H eZ;obtain⟨x,o⟩:∃x,d=.tup [WH A.wd,x]:=by
  cases A with
  | opn=>exact⟨_,n⟩
  | laid t=>exact⟨_,n⟩
  | clash tr=>obtain⟨x,e,_⟩:=n;exact⟨x,e⟩
 subst o;refine⟨A,s,x,h',L,?_,n.up J (fun k Z hk o=>o),(j.l).trans U4⟩;dsimp![pG,aR,Ti,Vu,Wu,Wo,JA,vB,p7,NA,DA,zA,Rr,Ui,R,C,Py,Vo,Va,LA,CS,I,Q,E,S,e,OA,NC,vA,sA,YB,rC,DF,Uu,xP,P,T5,WA]
def nw(c:Nat)(f:MA)(s:Nat->Int×Int):Prop:=∀i<c,∀j<c,i≠j->(f i j).testBit (AB (s i) (s j))=true
theorem nw.nar{c:Nat}{f:MA}{s:Nat->Int×Int}(ok:∀i,i<c->dD (s i))(h:nw c f s){i j:Nat}(o:i<c)(n:j<c)(d:i≠j){m:Nat}(u:m.testBit (AB (s i) (s j))=true):nw c (DB f i m j) s:=by
 have hw:=vE (ok i o) (ok j n);have p:(f i j&&&m).testBit (AB (s i) (s j))=true:=by rw[zc,h i o j n d,u];rfl
 intro a q b e g;by_cases r:a=i/\b=j
 . obtain⟨rfl,rfl⟩:=r;rw[tS f m d];exact p
 . by_cases e2:a=j/\b=i
   . obtain⟨rfl,rfl⟩:=e2;rw[C7,YQ (ok b e) (ok a q),eF _ nofun,show 12-(12-AB (s b) (s a))=AB (s b) (s a) by omega];exact p
   . rw[GH f r e2];exact h a q b e g
theorem nw.gr{c:Nat}{f:MA}{s:Nat->Int×Int}(ok:∀i,i<c->dD (s i)){i j m:Nat}(u:i<c)(r:j<c)(d:i≠j)(o:aB c f)(h:nw c (DB f i m j) s):nw c f s/\m.testBit (AB (s i) (s j))=true:=by
 have n:=h i u j r d;rw[tS f m d,zc,vm]at n;refine⟨fun a g b e p=>?_,n.2⟩;by_cases q:a=i/\b=j
 . obtain⟨rfl,rfl⟩:=q;exact n.1
 . by_cases e2:a=j/\b=i
   . obtain⟨rfl,rfl⟩:=e2;have hw:=vE (ok b e) (ok a g);rw[o.tn b e a g,YQ (ok b e) (ok a g),eF _ nofun,show 12-(12-AB (s b) (s a))=AB (s b) (s a) by omega];exact n.1
   . have:=h a g b e p;rw[GH f q e2]at this;exact this
theorem nw.sub{c:Nat}{f g:MA}{s:Nat->Int×Int}(h:nw c g s)(q:KM c g f):nw c f s:=fun i d j b a=>be.mp (q i d j b) _ (h i d j b a)
theorem nw.steps{c:Nat}{f g:MA}{st:Ni (Nat×Nat×Nat)}{s:Nat->Int×Int}(ok:∀i,i<c->dD (s i))(h:mw c f st g)(q:nw c f s):nw c g s:=by
 induction h with
 | nil=>exact q
 | @snoc st g i k j h e a b d ne n ih=>refine nw.nar ok ih e b d.2.2 ?_;unfold Vs;rw[zc,ih i e j b d.2.2,Ge];exact(ML _ _ _).mpr ⟨_,_,vE (ok i e) (ok k a),ih i e k a d.1,vE (ok k a) (ok j b),ih k a j b d.2.1,eX (ok i e) (ok k a) (ok j b)⟩
theorem nw.cut{c:Nat}{f:MA}{s:Nat->Int×Int}(h:nw c f s):nw c (zC c f) s:=fun i d j b a=>by rw[wF f d b];exact h i d j b a
theorem nw.ko{c:Nat}{f:MA}{s:Nat->Int×Int}(h:nw c (zC c f) s):nw c f s:=fun i d j b a=>by have:=h i d j b a;rw[wF f d b]at this;exact this
theorem Nh(k:Nat):(0:Nat).testBit k=false:=by simp
theorem nw.ne{c:Nat}{f:MA}{s:Nat->Int×Int}(h:nw c f s)(d:∀i<c,f i i=64):wB c f=false:=by
 cases z:wB c f with
 | false=>rfl
 | true=>
  obtain⟨i,b,j,g,e⟩:=eL.mp z;by_cases a:i=j
  . subst a;rw[d i b]at e;cases e
  . have:=h i b j g a;rw[e,Nh]at this;cases this
theorem xR{c:Nat}{f:MA}(d:∀i<c,f i i=64){i j:Nat}(a:i≠j)(m:Nat):∀k<c,DB f i m j k k=64:=fun k b=>by rw[GH f (fun q=>a (q.1.symm.trans q.2)) (fun q=>a (q.2.symm.trans q.1))];exact d k b
theorem jX{c k:Nat}:∀(a:Ni IB)(_:∀m∈a,SC c m)(f:MA)(p:Nat),(∀i<c,f i i=64)->∀i<c,VD f k a p i i=64
 | [],_,f,p,d=>d
 | m::a,h,f,p,d=>jX a (fun x b=>h x (by simp[b])) _ _ (xR d (h m ⋯).2.2.1 _)
theorem XX{m k:Nat}(a:m<8192)(b:k<13):(nS m).testBit k=!m.testBit k:=by
 have:nS m=2^13-(m+1):=by unfold nS;omega
 rw[this,Nat.testBit_two_pow_sub_succ a];simp[b]
def TB(s:Nat->Int×Int)(m:IB):Bool:=m.2.1.testBit (AB (s m.1) (s m.2.2))
theorem nw.only{c k:Nat}{s:Nat->Int×Int}(ok:∀i,i<c->dD (s i)):∀(g:Ni IB)(_:∀m∈g,SC c m)(f:MA)(p:Nat),nw c f s->(∀(i:Nat) m,g[i]?=ε m->TB s m=decide (p+i=k))->nw c (VD f k g p) s
 | [],_,f,p,q,_=>q
 | m::g,h,f,p,q,H=>by
  obtain⟨a,b,d,e⟩:=h m ⋯;have j:=H 0 m rfl;refine nw.only ok g (fun x n=>h x (by simp[n])) _ _ (q.nar ok a b d ?_) (fun i x n=>?_)
  . unfold TB at j;by_cases z:p=k
    . rw[dh z];rw[eO (show p+0=k by omega)]at j;exact j
    . rw[dz z,XX e (vE (ok _ a) (ok _ b)),j,eH (show ¬p+0=k by omega)];rfl
  . rw[H (i+1) x (by simpa using n)]
    congr 1
    rw[show p+(i+1)=p+1+i by omega]
theorem nw.hY{c k:Nat}{s:Nat->Int×Int}(ok:∀i,i<c->dD (s i)):∀(g:Ni IB)(_:∀m∈g,SC c m)(f:MA)(p:Nat),aB c f->nw c (VD f k g p) s->nw c f s/\∀(i:Nat) m,g[i]?=ε m->TB s m=decide (p+i=k)
 | [],_,f,p,o,q=>⟨q,fun i m h=>by simp at h⟩
 | m::g,h,f,p,o,q=>by
  obtain⟨a,b,d,e⟩:=h m ⋯;obtain⟨q1,H⟩:=nw.hY ok g (fun x j=>h x (by simp[j])) _ _ (NH o a b d _) q;obtain⟨q2,z⟩:=nw.gr ok a b d o q1;refine⟨q2,fun i x j=>?_⟩;cases i with
  | zero=>
   simp at j;subst j;unfold TB;by_cases y:p=k
   . rw[dh y]at z;rw[z,eO (show p+0=k by omega)]
   . rw[dz y,XX e (vE (ok _ a) (ok _ b))]at z;rw[eH (show ¬p+0=k by omega)];simpa using z
  | succ i=>
   rw[H i x (by simpa using j)]
   congr 1
   rw[show p+(i+1)=p+1+i by omega]
def MS(s:Nat->Int×Int)(g:Ni IB):Prop:=∃k,k<g.length/\∀(i:Nat) m,g[i]?=ε m->TB s m=decide (i=k)
noncomputable def zM(s:Nat->Int×Int)(p:Nat):Int:=if p%2=0 then(s (p/2)).1 else(s (p/2)).2
theorem LK(s:Nat->Int×Int)(i:Nat):zM s (2*i)=(s i).1:=by unfold zM;rw[dh nofun,show 2*i/2=i by omega]
theorem MK(s:Nat->Int×Int)(i:Nat):zM s (2*i+1)=(s i).2:=by unfold zM;rw[dz nofun,show(2*i+1)/2=i by omega]
def Alike(T t:Nat->Int)(p q:Nat):Prop:=(T p<T q->t p<t q)/\(T p=T q->t p=t q)/\(T q<T p->t q<t p)
theorem Alike.symm{T t:Nat->Int}{p q:Nat}(h:Alike T t p q):Alike T t q p:=⟨h.2.2,fun e=>(h.2.1 e.symm).symm,h.1⟩
theorem iZ{g x y:Int}(a:1<=g)(h:x<y):g*x-g*y<=-1:=by rw[<- Int.mul_sub];have b:g*(x-y)<=g*(-1):=Int.mul_le_mul_of_nonneg_left nofun nofun;omega
theorem gZ{g x y:Int}(a:1<=g)(h:x<=y):g*x-g*y<=0:=by rw[<- Int.mul_sub];have b:g*(x-y)<=g*0:=Int.mul_le_mul_of_nonneg_left nofun nofun;omega
theorem IX{g:Int}(i:1<=g){T:Nat->Int}{p q:Nat}{a f h z:Int}(n:z<=f)(m:h<=z)(lt:z<a->T p<T q)(eq:z=a->T p=T q)(j:a<z->T q<T p):∀e∈BG p q a f h,g*T e.1-g*T e.2.1<=e.2.2:=by
 intro e he;unfold BG at he;rcases Bo.mp he with he | he
 . by_cases d:f<=a
   . rw[dh d]at he;rw[Ao.mp he];by_cases b:f<a
     . rw[dh b];exact iZ i (lt nofun)
     . rw[dz b];refine gZ i (x:=T p) (y:=T q) ?_;rcases Int.lt_trichotomy z a with y | y | y
       . have:=lt y;omega
       . have:=eq y;omega
       . omega
   . rw[dz d]at he;exact nomatch he
 . by_cases d:a<=h
   . rw[dh d]at he;rw[Ao.mp he];by_cases b:a<h
     . rw[dh b];exact iZ i (j nofun)
     . rw[dz b];refine gZ i (x:=T q) (y:=T p) ?_;rcases Int.lt_trichotomy z a with y | y | y
       . omega
       . have:=eq y;omega
       . have:=j y;omega
   . rw[dz d]at he;exact nomatch he
theorem l7:∀p∈bc,pz (bc.idxOf p)=p:=by decide +kernel
theorem m7{s o:Int×Int}(h1:dD s)(h2:dD o):pz (AB s o)=(iC s.1 o.1 o.2,iC s.2 o.1 o.2):=l7 _ (iO h1 h2)
theorem Yh{s o:Int×Int}(h1:dD s)(h2:dD o){m:Nat}(a:m.testBit (AB s o)=true)(side:Nat)(hs:side<2):((iC (if side=0 then s.1 else s.2) o.1 o.2:Nat):Int)∈KB side m:=by unfold KB;refine Bs.mpr ⟨AB s o,bo.mpr ⟨vE h1 h2,a⟩,?_⟩;unfold zs;rw[m7 h1 h2];rcases(show side=0\/side=1 by omega)with rfl | rfl<;>rfl
theorem vX{c:Nat}{g:MA}{s:Nat->Int×Int}(ok:∀i,i<c->dD (s i))(q:nw c g s){G:Int}(o:1<=G){i j side:Nat}(n:i<c)(b:j<c)(d:i≠j)(hs:side<2):∀e∈AE i j side (g i j),G*zM s e.1-G*zM s e.2.1<=e.2.2:=by
 have mem:=Yh (ok i n) (ok j b) (q i n j b d) side hs;have ne:KB side (g i j) ≠ []:=fun z=>by rw[z]at mem;cases mem
 have h:=(oR _ ne).2 _ mem;have m:=(FH _ ne).2 _ mem;have pt:zM s (2*i+side)=(if side=0 then(s i).1 else(s i).2):=by
  rcases(show side=0\/side=1 by omega)with rfl | rfl
  . rw[Nat.add_zero,LK];rfl
  . rw[MK];rfl
 have a:(s j).1<(s j).2:=ok j b;intro e he;unfold AE at he;have f:=Mw (if side=0 then(s i).1 else(s i).2) (s j).1 (s j).2 a;rcases Bo.mp he with he | he
 . refine IX o h m ?_ ?_ ?_ e he<;>rw[pt,LK]<;>intro z<;>rcases f with⟨y,w⟩ | ⟨y,w⟩ | ⟨y,p,w⟩ | ⟨y,w⟩ | ⟨y,w⟩<;>rw[w]at z<;>omega
 . refine IX o h m ?_ ?_ ?_ e he<;>rw[pt,MK]<;>intro z<;>rcases f with⟨y,w⟩ | ⟨y,w⟩ | ⟨y,p,w⟩ | ⟨y,w⟩ | ⟨y,w⟩<;>rw[w]at z<;>omega
def IT(c:Nat)(s:Nat->Int×Int)(x:Ln):Prop:=x.1<c/\x.2.1*((2*c+1:Nat):Int)<=(s x.1).2-(s x.1).1/\(s x.1).2-(s x.1).1<=x.2.2*((2*c+1:Nat):Int)
theorem Wg{c:Nat}{g:MA}{s:Nat->Int×Int}(ok:∀i,i<c->dD (s i))(q:nw c g s){ls:Ni Ln}(h:∀x∈ls,IT c s x):∀e∈mC c g ls,zM s e.1-zM s e.2.1<=e.2.2:=by
 intro e he;unfold mC at he;rcases Bo.mp he with he | he
 . rcases Bo.mp he with he | he
   . obtain⟨i,j,rfl⟩:=Bs.mp he;simp![LK,MK];have:(s i).1<(s i).2:=ok i (Bu.mp j);omega
   . obtain⟨x,d,he⟩:=Ma.mp he;obtain⟨a,o,n⟩:=h x d;unfold wC at he;simp![Ba,not_mem_nil,or_false]at he;rcases he with rfl | rfl
     . simp![LK,MK,Int.neg_mul];omega
     . simp![LK,MK];omega
 . obtain⟨p,f,he⟩:=Ma.mp he;obtain⟨m,b⟩:=HX f;have a:(1:Int)<=1:=by decide
   unfold yD at he;rcases Bo.mp he with he | he
   . have:=vX ok q a nofun b nofun nofun e he;rw[Int.one_mul,Int.one_mul]at this;exact this
   . have:=vX ok q a nofun b nofun nofun e he;rw[Int.one_mul,Int.one_mul]at this;exact this
theorem wW{c m:Nat}{ls:Ni Ln}{s:Nat->Int×Int}(ok:∀i,i<c->dD (s i))(d:∀g,nw c g s->∃T:Nat->Int,∀e∈mC c g ls,T e.1-T e.2.1<=e.2.2):∀(n:Nat)(f:MA)(j:Ni (Ni IB))(made:Nat)(a:nz)(sp:Nat),qC c m ls n f j made a sp->aB c f->ax c j->(∀i<c,f i i=64)->nw c f s->(∀g∈j,MS s g)->a.wd≠.clash
 | 0,_,_,_,_,_,h,_,_,_,_,_=>h.elim
 | n+1,f,j,made,a,sp,h,of,og,dg,q,hg=>by
  rcases h with⟨st,g,y,C,rfl,rfl⟩ | ⟨st,g,U,h⟩
  . have:=(q.steps ok y).ne (y.diag dg);rw[C]at this;cases this
  . obtain⟨u,Q,neg⟩:=U.ok of;obtain⟨D,s0,_,_,rfl⟩:=U;have qg:nw c (zC c D) s:=(q.steps ok s0).cut;have r:∀i<c,zC c D i i=64:=fun i M=>by rw[wF D M M];exact s0.diag dg i M
    generalize zC c D=g at u Q neg qg r h;rcases h with⟨cs,P,k,R,rfl,rfl⟩ | ⟨t,ht,h⟩
    . obtain⟨T,Z⟩:=d _ qg;exact(pZ (b:=T) Z R).elim
    . rcases h with⟨_,rfl,rfl⟩ | ⟨F,bs,ps,hs,h⟩
      . intro z;cases z
      . rcases h with⟨_,rfl,rfl⟩ | ⟨_,h⟩
        . intro z;cases z
        . have S:=LJ u og hs;have ex:∃b∈bs,nw c b s:=by
           cases j with
           | cons grp j=>simp![BC,Fi,vo]at hs;obtain⟨_,rfl,_⟩:=hs;obtain⟨k,Y,H⟩:=hg grp ⋯;exact⟨_,Bs.mpr ⟨k,Bu.mpr Y,rfl⟩,nw.only ok grp (og grp ⋯) g 0 qg (fun i x o=>by rw[H i x o,Aa])⟩
           | nil=>
            simp![BC]at hs;cases lp:WE c g with
            | none=>rw[lp]at hs;cases hs
            | some p=>
             rw[lp]at hs;simp![Fi,vo]at hs;obtain⟨_,rfl,_⟩:=hs;obtain⟨q1,q2⟩:=bz.mp (Ai lp);have J:p.1<c:=by omega
             have I:p.2<c:=by omega
             have d:=qg p.1 J p.2 I nofun;have W:=vE (ok _ J) (ok _ I);exact⟨_,Bs.mpr ⟨_,bo.mpr ⟨W,d⟩,rfl⟩,qg.nar ok J I nofun (by rw[Nat.testBit_two_pow];simp)⟩
          have O:∀b∈bs,∀i<c,b i i=64:=by
           cases j with
           | cons grp j=>simp![BC,Fi,vo]at hs;obtain⟨_,rfl,_⟩:=hs;intro b d;obtain⟨k,_,rfl⟩:=Bs.mp d;exact jX grp (og grp ⋯) g 0 r
           | nil=>
            simp![BC]at hs;cases lp:WE c g with
            | none=>rw[lp]at hs;cases hs
            | some p=>rw[lp]at hs;simp![Fi,vo]at hs;obtain⟨_,rfl,_⟩:=hs;obtain⟨q1,q2⟩:=bz.mp (Ai lp);intro b d;obtain⟨w,_,rfl⟩:=Bs.mp d;exact xR r nofun _
          have go:∀(bs:Ni MA),(∀b∈bs,aB c b)->(∀b∈bs,∀i<c,b i i=64)->(∃b∈bs,nw c b s)->∀(L:Nat)(B:Ni Tr)(a:nz)(sp:Nat),WD (qC c m ls n) F st j.tail bs L B a sp->a.wd≠.clash:=by
           intro bs
           induction bs with
           | nil=>rintro _ _ ⟨b,d,_⟩;cases d
           | cons b bs ih=>
            rintro y C ⟨E,hb',qb⟩ L B a sp q;rcases q with⟨tr,m1,q1,q2⟩ | ⟨q1,q2⟩
            . rcases Ba.mp hb' with rfl | hb'
              . exact Du rfl (wW ok d n E _ L _ _ q1 (y E ⋯) og.tail (C E ⋯) qb (fun x o=>hg x (mem_of_mem_tail o)))
              . exact ih (fun x o=>y x (by simp[o])) (fun x o=>C x (by simp[o])) ⟨E,hb',qb⟩ _ _ _ _ q2
            . exact q1
          exact go bs S O ex _ _ _ _ h
def aU(p j:Nat)(z:Int):Ni Bd:=BG p (2*j) 1 z z++BG p (2*j+1) 3 z z
theorem xZ{t:Nat->Int}{p j z:Nat}(hz:z<5)(a:t (2*j)<t (2*j+1))(h:∀e∈aU p j (z:Int),lF t e):iC (t p) (t (2*j)) (t (2*j+1))=z:=by
 rcases(show z=0\/z=1\/z=2\/z=3\/z=4 by omega)with rfl | rfl | rfl | rfl | rfl<;>simp[aU,BG,lF]at h<;>unfold iC
 . rw[dh nofun]
 . rw[dz nofun,dh nofun]
 . rw[dz nofun,dz nofun,dh nofun]
 . rw[dz nofun,dz nofun,dz nofun,dh nofun]
 . rw[dz nofun,dz nofun,dz nofun,dz nofun]
theorem P8:∀w<13,(pz w).1<5/\(pz w).2<5/\bc.idxOf (pz w)=w:=by decide +kernel
theorem Wt:∀w:Nat,w<13->cB (2^w)=[w]:=by decide +kernel
theorem yt{i j side w:Nat}(hw:w<13)(hs:side<2):AE i j side (2^w)=aU (2*i+side) j ((if side=0 then(pz w).1 else(pz w).2:Nat):Int):=by unfold AE aU KB;rw[Wt w hw];rcases(show side=0\/side=1 by omega)with rfl | rfl<;>rfl
theorem Bc{m:Nat}(d:m<8192)(h:m≠0)(h1:¬1<(cB m).length):∃w,w<13/\m=2^w:=by
 have ne:=dS d h;obtain⟨w,hw⟩:∃w,cB m=[w]:=by
  cases e:cB m with
  | nil=>exact Du e ne
  | cons w r=>
   cases r with
   | nil=>exact⟨w,rfl⟩
   | cons x r=>rw[e]at h1;simp at h1
 have f:w∈cB m:=by rw[hw];simp
 obtain⟨a,wb⟩:=bo.mp f;refine⟨w,a,BI d (kq a) fun k g=>?_⟩;rw[Nat.testBit_two_pow];by_cases z:w=k
 . subst z;rw[wb];simp
 . rw[eH z];cases b:m.testBit k with
   | false=>rfl
   | true=>have:k∈cB m:=bo.mpr ⟨g,b⟩;rw[hw]at this;exact Du (Ao.mp this).symm z
where kq {w:Nat} (h:w<13):2^w<8192:=Nat.pow_lt_pow_right (by decide) h (m:=w) (n:=13)
noncomputable def cD(t:Nat->Int)(k:Nat):Int×Int:=(t (2*k),t (2*k+1))
theorem wZ{c:Nat}{g:MA}{ls:Ni Ln}{t:Nat->Int}(a:∀e∈mC c g ls,lF t e):∀i,i<c->dD (cD t i):=by intro i b;have h:=a (2*i,2*i+1,-1) (Bo.mpr (.inl (Bo.mpr (.inl (Bs.mpr ⟨i,Bu.mpr b,rfl⟩)))));simp![lF]at h;show t (2*i)<t (2*i+1);omega
theorem Fb{c:Nat}{g:MA}(og:aB c g)(ne:wB c g=false)(lp:WE c g=none){ls:Ni Ln}{t:Nat->Int}(n:∀e∈mC c g ls,lF t e):nw c g (cD t):=by
 have ok:=wZ n;have up:∀i j,i<j->j<c->g i j=2^AB (cD t i) (cD t j):=by
  intro i j d b;have f:i<c:=by omega
  have o:=Ik d b;have u:¬1<(cB (g i j)).length:=by have:=find?_eq_none.mp lp (i,j) o;simpa using this
  obtain⟨w,hw,e⟩:=Bc (og.lt i f j b) (cm ne f b) u;obtain⟨s,r,q⟩:=P8 w hw;have m:∀a,a<2->∀x∈aU (2*i+a) j ((if a=0 then(pz w).1 else(pz w).2:Nat):Int),lF t x:=by
   intro a hs x h;rw[<- yt (i:=i) hw hs,<- e]at h;refine n x (Bo.mpr (.inr (Ma.mpr ⟨(i,j),o,?_⟩)));unfold yD;rcases(show a=0\/a=1 by omega)with rfl | rfl
   . exact Bo.mpr (.inl h)
   . exact Bo.mpr (.inr h)
  have B:=xZ (p:=2*i) s (ok j b) (m 0 nofun);have y:=xZ (p:=2*i+1) r (ok j b) (m 1 nofun);have:AB (cD t i) (cD t j)=w:=by unfold AB cD;simp only;rw[B,y];exact q
  rw[this];exact e
 intro i f j b d;rcases Nat.lt_or_gt_of_ne d with z | z
 . rw[up i j z b,Nat.testBit_two_pow];simp
 . have hw:=vE (ok j b) (ok i f);rw[og.tn j b i f,up j i z f,YQ (ok j b) (ok i f),Rt hw,Nat.testBit_two_pow];simp
theorem rm{c:Nat}{g:MA}{ls:Ni Ln}{t:Nat->Int}(b:∀e∈mC c g ls,lF t e){x:Ln}(a:x∈ls):x.2.1*((2*c+1:Nat):Int)<=t (2*x.1+1)-t (2*x.1)/\t (2*x.1+1)-t (2*x.1)<=x.2.2*((2*c+1:Nat):Int):=by have f:=b (2*x.1,2*x.1+1,-x.2.1*((2*c+1:Nat):Int)) (Bo.mpr (.inl (Bo.mpr (.inr (Ma.mpr ⟨x,a,by simp[wC]⟩)))));have d:=b (2*x.1+1,2*x.1,x.2.2*((2*c+1:Nat):Int)) (Bo.mpr (.inl (Bo.mpr (.inr (Ma.mpr ⟨x,a,by simp[wC]⟩)))));simp![lF,Int.neg_mul]at f d;omega
structure IP(c:Nat)(ls:List Ln)(f:MA)(gs:List (List IB))(t:Nat->Int):Prop where
 ok:∀i,i<c->dD (cD t i)
 net:nw c f (cD t)
 one:∀g∈gs,MS (cD t) g
 len:∀x∈ls,x.2.1*((2*c+1:Nat):Int)<=t (2*x.1+1)-t (2*x.1)/\t (2*x.1+1)-t (2*x.1)<=x.2.2*((2*c+1:Nat):Int)
theorem xW{c m:Nat}{ls:Ni Ln}:∀(n:Nat)(f:MA)(d:Ni (Ni IB))(made:Nat)(t:Nat->Int)(sp:Nat),qC c m ls n f d made (.laid t) sp->aB c f->ax c d->IP c ls f d t
 | 0,_,_,_,_,_,h,_,_=>h.elim
 | n+1,f,d,made,t,sp,h,of,og=>by
  rcases h with⟨st,g,C,W,e,_⟩ | ⟨st,g,J,h⟩
  . cases e
  . obtain⟨a,D,neg⟩:=J.ok of;obtain⟨I,s0,_,_,rfl⟩:=J;have sub:∀{s:Nat->Int×Int},nw c (zC c I) s->nw c f s:=fun q=>q.ko.sub (s0.sub of)
    generalize zC c I=g at a D neg sub h;rcases h with⟨Y,P,k,R,e,_⟩ | ⟨S,u,h⟩
    . cases e
    . rcases h with⟨hs,e,_⟩ | ⟨r,bs,T,hs,h⟩
      . cases e;cases d with
        | cons grp d=>simp![BC]at hs;cases hs
        | nil=>
         have lp:WE c g=none:=by
          simp![BC]at hs;cases lp:WE c g with
          | none=>rfl
          | some p=>rw[lp]at hs;cases hs
         exact⟨wZ u,sub (Fb a neg lp u),(fun g y=>nomatch y),fun x hx=>rm u hx⟩
      . rcases h with⟨_,e,_⟩ | ⟨_,h⟩
        . cases e
        . have E:=LJ a og hs;have go:∀(bs:Ni MA),(∀b∈bs,aB c b)->∀(o:Nat)(j:Ni Tr)(sp:Nat),WD (qC c m ls n) r st d.tail bs o j (.laid t) sp->∃b∈bs,IP c ls b d.tail t:=by
           intro bs
           induction bs with
           | nil=>rintro _ o j sp ⟨q,_⟩;cases q
           | cons b bs ih=>
            intro C o j sp q;rcases q with⟨Q,U,q1,q2⟩ | ⟨q1,q2⟩
            . obtain⟨O,B,k⟩:=ih (fun x hx=>C x (by simp[hx])) _ _ _ q2;exact⟨O,by simp[B],k⟩
            . exact⟨b,by simp,xW n b _ o _ _ q2 (C b ⋯) og.tail⟩
          obtain⟨b,F,K⟩:=go bs E _ _ _ h;cases d with
          | cons grp d=>
           simp![BC,Fi,vo]at hs;obtain⟨_,rfl,_⟩:=hs;obtain⟨k,L,rfl⟩:=Bs.mp F;obtain⟨q1,H⟩:=nw.hY K.ok grp (og grp ⋯) g 0 a K.net;refine⟨K.ok,sub q1,fun x hx=>?_,K.len⟩;rcases Ba.mp hx with rfl | hx
           . exact⟨k,Bu.mp L,fun i m M=>by rw[H i m M,Aa]⟩
           . exact K.one x hx
          | nil=>
           simp![BC]at hs;cases lp:WE c g with
           | none=>rw[lp]at hs;cases hs
           | some p=>rw[lp]at hs;simp![Fi,vo]at hs;obtain⟨_,rfl,_⟩:=hs;obtain⟨w,_,rfl⟩:=Bs.mp F;obtain⟨q1,q2⟩:=bz.mp (Ai lp);obtain⟨q3,_⟩:=nw.gr K.ok nofun nofun nofun a K.net;exact⟨K.ok,sub q3,(fun g y=>nomatch y),K.len⟩
theorem P9(a b c:Int):decide ((NB [a,b,c]).length=3)=decide (a≠b/\b≠c/\a≠c):=by
 by_cases g:a=b
 . subst g;by_cases f:a=c
   . subst f;simp[NB]
   . have d:¬c=a:=fun z=>f z.symm
     simp[NB,d]
 . have e:¬b=a:=fun z=>g z.symm
   by_cases f:b=c
   . subst f;simp[NB,e]
   . have d:¬c=b:=fun z=>f z.symm
     by_cases i:a=c
     . subst i;simp[NB,g,e]
     . have h:¬c=a:=fun z=>i z.symm
       simp[NB,g,f,i,e,d,h]
noncomputable def HF(c i k j:Nat):Bool:=decide (i≠k/\k≠j/\i≠j)&&decide (i<c/\k<c/\j<c)
theorem Av(c i k j:Nat)(h:HI):lL [sC i k j,.int (c:Nat)] h=ε (.bl (HF c i k j),h):=by
 have fs:qO (.tup [.int (i:Nat),.int (k:Nat),.int (j:Nat)]) h=ε (.int ((NB [(i:Int),(k:Int),(j:Int)]).length:Nat),h):=by simp![qO,WB,Wa,Uu];rw[dh (show [(i:Int),(k:Int),(j:Int)].length+1<4096 by simp)]
 have u:=P9 (i:Int) (k:Int) (j:Int);have d:decide ((((NB [(i:Int),(k:Int),(j:Int)]).length:Nat):Int)=3)=decide (i≠k/\k≠j/\i≠j):=by have:decide ((((NB [(i:Int),(k:Int),(j:Int)]).length:Nat):Int)=3)=decide ((NB [(i:Int),(k:Int),(j:Int)]).length=3):=decide_eq_decide.mpr nofun;rw[this,u];exact decide_eq_decide.mpr nofun
 have g:=sF (te:=sN) (tc:=nB) (i:=0) (fun(x:Nat)=>Dt.int (x:Int)) (fun x=>Dt.bl (decide (x<c))) h [i,k,j] [none,ε (.int (c:Nat))] fun x q=>⟨rfl,by
  have a:decide ((0:Int)<=(x:Int))=true:=eO nofun;have b:decide ((x:Int)<(c:Int))=decide (x<c):=decide_eq_decide.mpr nofun;simp[sN]⟩
 have g:CD (CA 0) nB sN [.int (i:Nat),.int (k:Nat),.int (j:Nat)] [none,ε (.int (c:Nat))] h=ε ([.bl (decide (i<c)),.bl (decide (k<c)),.bl (decide (j<c))],h):=g;have fa:oH (.lst [.bl (decide (i<c)),.bl (decide (k<c)),.bl (decide (j<c))]) h=ε (.bl (decide (i<c/\k<c/\j<c)),h):=by have:=W0 (h:=h) [decide (i<c),decide (k<c),decide (j<c)];simp![Ti,Vu]at this;rw[this];by_cases p:i<c<;>by_cases o:k<c<;>by_cases n:j<c<;>simp[p,o,n]
 have m:[Dt.int (i:Nat),.int (k:Nat),.int (j:Nat)].length<sizeLine:=show 3<sizeLine by decide
 unfold sC;by_cases e:i≠k/\k≠j/\i≠j
 . rw[eO e]at d;dsimp![lL,LQ,Ti (f:=some),Vu (f:=some),Ui,OA,vG,vA,EB,sA,Rr,fs,OD,d,oG,uF,Vd,Mt,dE,VG,ZD,La,rE _ _ _ m,g,fa,WA,HF,eO e,Ge]
 . rw[eH e]at d;dsimp![lL,LQ,Ti (f:=some),Vu (f:=some),Ui,OA,vG,vA,EB,sA,fs,OD,d,oG,Vi,eG,WA,HF,eH e,Gs]
def vC(c:Nat):MA->Ni (Nat×Nat×Nat)->Oa MA
 | f,[]=>ε f
 | f,(i,k,j)::st=>if wB c f=true\/HF c i k j=false\/Vs f i k j=f i j then none else vC c (aC f i k j) st
theorem bY(c:Nat)(f:MA)(i k j:Nat)(st:Ni (Nat×Nat×Nat)):vC c f ((i,k,j)::st)=if wB c f=true\/HF c i k j=false\/Vs f i k j=f i j then none else vC c (aC f i k j) st:=rfl
theorem gu{c i k j:Nat}:HF c i k j=true↔KF i k j/\i<c/\k<c/\j<c:=by unfold HF KF;simp
theorem lY{c:Nat}:∀(st a:Ni (Nat×Nat×Nat))(f g:MA),vC c f st=ε g->vC c f (st++a)=vC c g a
 | [],_,f,g,e=>by cases e;rfl
 | (i,k,j)::st,a,f,g,e=>by
  rw[Wu,bY];rw[bY]at e;split at e
  . cases e
  . rename_i n;rw[dz n];exact lY st a _ _ e
theorem EW{c:Nat}{f g:MA}{st:Ni (Nat×Nat×Nat)}(S:mw c f st g):vC c f st=ε g:=by
 induction S with
 | nil=>rfl
 | @snoc st g i k j h e a b d ne n ih=>rw[lY _ _ _ _ ih];unfold vC;have t:HF c i k j=true:=gu.mpr ⟨d,e,a,b⟩;rw[dz (by rw[ne,t];simp[n])];rfl
theorem RZ{c:Nat}:∀(st:Ni (Nat×Nat×Nat))(f g:MA),aB c f->vC c f st=ε g->aB c g
 | [],f,g,o,e=>by cases e;exact o
 | (i,k,j)::st,f,g,o,e=>by
  unfold vC at e;split at e
  . cases e
  . rename_i n;have t:HF c i k j=true:=by
     cases q:HF c i k j with
     | true=>rfl
     | false=>exact Du (.inr (.inl q)) n
    obtain⟨d,b,h,a⟩:=gu.mp t;exact RZ st _ _ (cS o b a d.2.2) e
inductive JS(c:Nat)(f:MA)(st:List (Nat×Nat×Nat))(h':HI):Dt->Prop
 | no:vC c f st=none->JS c f st h' .non
 | net {g:MA} {b:Nat}:vC c f st=ε g->Ve h' b c g->JS c f st h' (.ref (b+c))
theorem Zn{h:HI}{b c:Nat}{f:MA}(N:Ve h b c f):xB (.ref (b+c)) h=ε (.int (c:Nat),h):=by have:=EI N.top;rwa[IL]at this
theorem cY{h:HI}{b c:Nat}{f:MA}(N:Ve h b c f)(u:c<=100)(n r:Oa Dt)(i k j:Nat) :
 MF ([ε (.ref (b+c)),n,r].set 2 (ε (sC i k j))) h=if wB c f=true\/HF c i k j=false\/Vs f i k j=f i j then ε (.rt .non h)else ε (.nx [ε (.ref (h.length+c)),n,ε (sC i k j)] (h++QC h.length c (DB f i (Vs f i k j) j))):=by
 have e:=KQ N nofun;have a:=Av c i k j h;have m:=Zn N;cases q1:wB c f with
 | true=>rw[q1]at e;rw[dh (.inl rfl)];simp![MF,Vo,Va,JA,dB,DC,HA,NA,DA,zA,jA,sA,Ro,kA,fA,Ui,e,KA,dG,OA,dC]
 | false=>
  rw[q1]at e;cases q2:HF c i k j with
  | false=>rw[q2]at a;rw[dh (.inr (.inl rfl))];simp![MF,Vo,Va,JA,dB,DC,gF,HA,NA,DA,zA,EB,jA,sA,Ro,Rr,kA,fA,Ui,e,m,a,KA,Vi,eG,uo,dG,OA,dC]
  | true=>
   rw[q2]at a;obtain⟨d,q,o,p⟩:=gu.mp q2;have g:=XW N q o p;have s:=WW N nofun q o p;by_cases q3:Vs f i k j=f i j
   . rw[eO q3]at g;rw[dh (.inr (.inr q3))];simp![MF,Vo,Va,JA,dB,DC,gF,HA,NA,DA,zA,EB,jA,sA,Ro,Rr,kA,fA,Ui,e,m,a,g,KA,Vi,eG,uq,uo,dG,OA,dC]
   . rw[eH q3]at g;rw[dz (by simp[q3])];simp![MF,Vo,Va,JA,dB,DC,gF,HA,NA,DA,zA,EB,jA,Ro,Rr,kA,fA,Ui,e,m,a,g,s,KA,Vi,eG,uq,uo,PB,LA,vB]
theorem dY{c:Nat}(p:c<=100)(m:Oa Dt):∀(st:Ni (Nat×Nat×Nat))(h:HI)(b:Nat)(f:MA)(d:Oa Dt),Ve h b c f->
 ∃a:HI,(∀(n:Nat)(o:Ob),h[n]?=ε o->a[n]?=ε o)/\((vC c f st=none/\QB (CA 2) MF (st.map oC) [ε (.ref (b+c)),m,d] h=ε (.rt .non a))\/
  ∃g s u,vC c f st=ε g/\Ve a s c g/\QB (CA 2) MF (st.map oC) [ε (.ref (b+c)),m,d] h=ε (.nx [ε (.ref (s+c)),m,u] a))
 | [],h,b,f,d,N=>⟨h,fun z z e=>e,.inr ⟨f,b,d,rfl,N,rfl⟩⟩
 | (i,k,j)::st,h,b,f,d,N=>by
  have t:=cY N p m d i k j;by_cases q:wB c f=true\/HF c i k j=false\/Vs f i k j=f i j
  . rw[dh q]at t;refine⟨h,fun z z e=>e,.inl ⟨by unfold vC;rw[dh q],?_⟩⟩;simp![Ti,oC,QB,zE,Wa,t,DS]
  . rw[dz q]at t;obtain⟨a,x,r⟩:=dY p m st (h++QC h.length c (DB f i (Vs f i k j) j)) h.length (aC f i k j) (ε (sC i k j)) (PF h c _);have kp:∀(n:Nat)(o:Ob),h[n]?=ε o->a[n]?=ε o:=fun n o e=>x n o (by rw[Xa (Wi e).1];exact e)
    have y:vC c f ((i,k,j)::st)=vC c (aC f i k j) st:=by rw[vC,dz q]
    refine⟨a,kp,?_⟩;rw[y];simp![Ti,oC,QB,zE,Wa,t];exact r
theorem Ig{h:HI}{b c:Nat}{f:MA}(N:Ve h b c f)(C:c<=100){d:Dt}{st:Ni (Nat×Nat×Nat)}(e:EA h d=ε (st.map oC)) :
 ∃(x:Dt)(h2:HI),tJ [.ref (b+c),d] h=ε (x,h2)/\(∀(n:Nat)(o:Ob),h[n]?=ε o->h2[n]?=ε o)/\JS c f st h2 x:=by
 obtain⟨h2,kp,r⟩:=dY C (ε d) st h b f none N;have E:∃src,wH (d,h)=ε (src,h)/\xD (CA 2) MF [ε (.ref (b+c)),ε d,none] (src,h)=QB (CA 2) MF (st.map oC) [ε (.ref (b+c)),ε d,none] h:=by
  cases d with
  | lst M=>cases e;exact⟨.vals (st.map oC),rfl,tF _ _ _⟩
  | ref s=>
   have hs:h[s]?=ε (.lst (st.map oC)):=by
    simp![EA]at e;split at e
    . rename_i q;cases e;exact q
    . cases e
   refine⟨.rf s,ME hs,Yr (fun l H=>H[s]?=ε (.lst (st.map oC))/\∃b f m,l=[ε (.ref (b+c)),ε (.ref s),m]/\Ve H b c f) (fun _ _ q=>q.1) ?_ ⟨hs,b,f,none,rfl,N⟩⟩;rintro x F l H r ⟨q1,J,P,m,rfl,L⟩ a;obtain⟨⟨i,k,j⟩,_,rfl⟩:=Bs.mp F;have t:=cY L C (ε (.ref s)) m i k j;have a:MF ([ε (.ref (J+c)),ε (.ref s),m].set 2 (ε (sC i k j))) H=ε r:=a;rw[t]at a;split at a
   . cases a;trivial
   . cases a;exact⟨by rw[Xa (Wi q1).1];exact q1,_,_,_,rfl,PF H c _⟩
  | _=>cases e
 obtain⟨src,B,p⟩:=E;rcases r with⟨y,u⟩ | ⟨g,I,O,y,u,D⟩
 . rw[u]at p;refine⟨.non,h2,?_,kp,.no y⟩;dsimp![tJ,AQ,Ti (f:=some),Vu (f:=some),Wu,Wo,JA,qD,OC,Rr,B,p,dC,WA]
 . rw[D]at p;refine⟨.ref (I+c),h2,?_,kp,.net y u⟩;dsimp![tJ,AQ,Ti (f:=some),Vu (f:=some),Wu,Wo,JA,qD,OC,Rr,B,p,LA,OA,WA]
theorem Xm{xs:Ni Dt}{d:Dt}{h:HI}:pA (.lst (xs++[d])) (.int (-1)) h=ε (d,h):=by
 rw[WI];have:L2.atI (xs++[d]) (-1)=ε d:=by unfold L2.atI L2.cI;rw[dz (by decide),dh (by simp![iu,Ss,Uo];omega)];rw[show((-1:Int)+((xs++[d]).length:Nat)).toNat=xs.length by simp![iu,Ss,Uo];omega];simp
 rw[this];rfl
theorem Wm{xs:Ni Dt}{d:Dt}{h:HI}:pA (.lst (d::xs)) (.int 0) h=ε (d,h):=by rw[WI,show(0:Int)=((0:Nat):Int)from rfl,SM.zD];rfl
set_option tactic.hygienic true in
theorem SS{h:HI}{d:Dt}{xs:Ni Dt}(e:EA h d=ε xs)(i:Int):pA d (.int i) h=(L2.atI xs i).map fun d=>(d,h):=by
 cases d with
 | lst a=>cases e;rfl
 | ref n=>
  simp![EA]at e;split at e
  . rename_i zs q;cases e;exact kF q i
  . cases e
 | _=>cases e
set_option tactic.hygienic true in
theorem UJ{h:HI}{d:Dt}{xs:Ni Dt}(e:EA h d=ε xs):xB d h=ε (.int xs.length,h):=by
 cases d with
 | lst a=>cases e;rfl
 | ref n=>
  simp![EA]at e;split at e
  . rename_i zs q;cases e;exact EI q
  . cases e
 | _=>cases e
theorem Pn{h:HI}{a:Dt}{xs:Ni Dt}{d:Dt}(e:EA h a=ε (xs++[d])):pA a (.int (-1)) h=ε (d,h):=by rw[SS e,<- WI (h:=h)];exact Xm
theorem Gn{h:HI}{a:Dt}{xs:Ni Dt}{d:Dt}(e:EA h a=ε (d::xs)):pA a (.int 0) h=ε (d,h):=by rw[SS e,<- WI (h:=h)];exact Wm
theorem RH{h:HI}{a:Dt}{xs:Ni Dt}{d:Dt}(e:EA h a=ε xs){k:Nat}(b:xs[k]?=ε d):pA a (.int (k:Nat)) h=ε (d,h):=by rw[SS e,SM.zD,b];rfl
def wT(T:Ni (Ni Int×Dt))(p:Int×Int):Int:=match mE T [p.1,p.2]with
 | some (.int w)=>w
 | _=>0
def rG(r:Ni Int)(T:Ni (Ni Int×Dt)):Bool:=
 (decide (3<=r.length)&&(decide (r.head?=r.getLast?)&&decide ((NB r).length+1=r.length)))&&(((r.zip r.tail).all fun p=>(mE T [p.1,p.2]).isSome)&&decide (((r.zip r.tail).map (wT T)).sum<0))
theorem Aw{h h2:HI}{d x:Dt}{r:Ni Int}{n:Nat}{T:Ni (Ni Int×Dt)}(e:EA h d=ε (r.map Dt.int))(R:r.length<=1000)(g:EA h2 d=ε (r.map Dt.int))(el:uJ [x] h=ε (.ref n,h2))(U:h2[n]?=ε (.dt T))(W:∀k v,mE T k=ε v->∃w,v=.int w) :
 ∃H,qI [d,x] h=ε (.bl (rG r T),H)/\(H=h\/H=h2):=by
 have D:=UJ e;rw[mq]at D;have ef:qI [d,x] h=MD (ZQ [ε d,ε x,none,none] h):=by rw[qI,mB];rfl
 rw[ef];unfold ZQ;have j:mu (e2 dI (LB xB (eV 0)) (oe 3)) [ε d,ε x,none,none] h=ε (decide (((r.length:Nat):Int)<3),h):=by simp![HA,vA,EB,jA,sA,Ro,kA,fA,D,HK,KA]
 by_cases o:3<=r.length
 . rw[eH (show ¬((r.length:Nat):Int)<3 by omega)]at j;obtain⟨a,m,b,rfl⟩:∃a m b,r=a::(m++[b]):=by
    cases r with
    | nil=>simp at o
    | cons a t=>
     rcases eq_nil_or_concat t with z | ⟨m,b,z⟩
     . rw[z]at o;simp at o
     . exact⟨a,m,b,by rw[z,concat_eq_append]⟩
   have Z:pA d (.int 0) h=ε (.int a,h):=Gn (xs:=(m++[b]).map Dt.int) e;have Y:pA d (.int (-1)) h=ε (.int b,h):=Pn (xs:=(a::m).map Dt.int) (by rw[e];simp);have fs:OL d h=ε (.int ((NB (a::(m++[b]))).length:Nat),h):=by simp![OL,e,Wa,hW];rw[dh nofun]
   obtain⟨r,f⟩:∃r,r=a::(m++[b]):=⟨_,rfl⟩
   have hd:r.head?=ε a:=by rw[f];rfl
   have y:r.getLast?=ε b:=by rw[f,<- Wu];exact getLast?_concat
   rw[<- f]at e R D fs g o ⊢;have u:mu (e2 tD (e2 pA (eV 0) (oe 0)) (e2 pA (eV 0) (HC (oe 1)))) [ε d,ε x,none,none] h=ε (!decide (a=b),h):=by simp![HA,vA,bP,wO,jA,sA,Ro,kA,fA,Z,Y,IE,KA]
   have B:mu (e2 tD (LB OL (eV 0)) (e2 pE (LB xB (eV 0)) (oe 1))) [ε d,ε x,none,none] h=ε (!decide (((NB r).length:Int)=(r.length:Int)-1),h):=by simp![HA,vA,EB,jA,sA,Ro,kA,fA,fs,D,vM,IE,KA]
   by_cases E:a=b
   . rw[eO E]at u;by_cases O:(NB r).length+1=r.length
     . rw[eO (show(((NB r).length:Nat):Int)=((r.length:Nat):Int)-1 by omega)]at B;have zs:HE (r.map Dt.int) (ε 1) none=r.tail.map Dt.int:=by have:=SM.tR (r.map Dt.int) 1;rw[show((1:Nat):Int)=1 from rfl]at this;rw[this,<- map_drop,drop_one]
       have Q:∀l:LI,l[0]?=ε (ε d)->fO (eV 0) (qK (eV 0) (bF (oe 1)) yM) l h2=ε (.lst ((r.zip r.tail).map fun p=>Dt.ntp [p.1,p.2]),h2):=by
        intro l M;have P:qK (eV 0) (bF (oe 1)) yM l h2=ε (.lst (r.tail.map Dt.int),h2):=by simp![ZS,jA,M,kA,fA,aT,sA,QR,bT,g,Uu,zs]
        have s0:eV 0 l h2=ε (d,h2):=by simp![jA,M,kA]
        simp![fO,s0,P,Wa,g,WG,hW]
       have lp:(r.zip r.tail).length<=1000:=by rw[length_zip];omega
       have hs:((r.zip r.tail).map fun p=>Dt.ntp [p.1,p.2]).length<sizeLine:=by rw[mq];exact Di lp (by decide)
       have L:fJ h2 (.ref n)=ε T:=by simp![fJ,U]
       have ec:=sF (te:=DN) (tc:=nB) (i:=0) (fun(p:Int×Int)=>Dt.ntp [p.1,p.2]) (fun p=>Dt.bl (mE T [p.1,p.2]).isSome) h2 (r.zip r.tail) [none,ε (.ref n)] fun p c=>⟨rfl,by
        simp![DN,QP,jA,Va,Ro,Rr,kA,Wa,uM,L,Uu]⟩
       have fa:oH (.lst ((r.zip r.tail).map fun p=>Dt.bl (mE T [p.1,p.2]).isSome)) h2=ε (.bl ((r.zip r.tail).all fun p=>(mE T [p.1,p.2]).isSome),h2):=by have:=W0 (h:=h2) ((r.zip r.tail).map fun p=>(mE T [p.1,p.2]).isSome);rw[map_map,all_map]at this;exact this
       have C:TD (mu (LB oH (aD (UB (eV 3)) (CA 0) nB DN [none,ε 2]))) [ε d,ε x,ε (.ref n),ε (.lst ((r.zip r.tail).map fun p=>Dt.ntp [p.1,p.2]))] h2=ε (!((r.zip r.tail).all fun p=>(mE T [p.1,p.2]).isSome),h2):=by simp![gF,HA,EB,uF,OC,jA,Ro,Rr,kA,fA,TF,dE,VG,ZD,La,rE _ _ _ hs,ec,fa,KA]
       refine⟨h2,?_,.inr rfl⟩;refine A1 (h1:=h) (by simp![DC,j,u,B,fA,uq,Vi,eG]) (CZ (d:=.ref n) (h1:=h2) (l':=[ε d,ε x,ε (.ref n),none]) (by simp![NA,DA,zA,jA,Ro,Rr,kA,fA,Ui,el]) rfl (CZ (Q _ rfl) rfl ?_));unfold rG;rw[eO o,hd,y,E,eO rfl,eO O,Ge,Ge,Ge];cases q:(r.zip r.tail).all fun p=>(mE T [p.1,p.2]).isSome with
       | false=>rw[q]at C;exact cE C rfl
       | true=>
        rw[q]at C;have J:=sF (te:=PQ) (tc:=nB) (i:=0) (fun(p:Int×Int)=>Dt.ntp [p.1,p.2]) (fun p=>Dt.int (wT T p)) h2 (r.zip r.tail) [none,ε (.ref n)] fun p S=>⟨rfl,by
         have s:=all_eq_true.mp q p S;obtain⟨v,F⟩:=Option.isSome_iff_exists.mp s;obtain⟨w,rfl⟩:=W _ _ F;have ew:wT T p=w:=by unfold wT;rw[F]
         simp![PQ,jT,jA,Va,Ro,Rr,kA,Wa,uM,L,F,Uu,ew]⟩
        have I:hJ (.lst ((r.zip r.tail).map fun p=>Dt.int (wT T p))) h2=ε (.int ((r.zip r.tail).map (wT T)).sum,h2):=by have:=Y0 (h:=h2) ((r.zip r.tail).map (wT T));rw[map_map]at this;exact this
        exact A1 C (OY (by simp![vA,EB,uF,OC,jA,sA,Va,Vo,Ro,Rr,kA,fA,TF,dE,VG,ZD,La,rE _ _ _ hs,J,I,HK,Ge]))
     . rw[eH (show ¬(((NB r).length:Nat):Int)=((r.length:Nat):Int)-1 by omega)]at B;refine⟨h,?_,.inl rfl⟩;unfold rG;rw[eH O,Gu,Gu,Gs];exact cE (h1:=h) (by simp![DC,j,u,B,fA,uq,uo,Vi,eG]) rfl
   . rw[eH E]at u;refine⟨h,?_,.inl rfl⟩;unfold rG;rw[hd,y,eH (show ¬ε a=ε b from fun z=>E (by injection z)),Gs,Gu,Gs];exact cE (h1:=h) (by simp![DC,j,u,fA,uo,Vi,eG,dG]) rfl
 . rw[eO (show((r.length:Nat):Int)<3 by omega)]at j;refine⟨h,?_,.inl rfl⟩;unfold rG;rw[eH o,Gs,Gs];exact cE (h1:=h) (by simp![DC,j,fA,dG]) rfl
theorem mw.shut{c:Nat}{f g:Nat->Nat->Nat}{st:Ni (Nat×Nat×Nat)}(h:mw c f st g)(i:jE c f):st=[]/\g=f:=by
 induction h with
 | nil=>exact⟨rfl,rfl⟩
 | snoc h e a b d ne n ih=>obtain⟨rfl,rfl⟩:=ih;exact Du (i _ e _ a _ b d) n
theorem x8{h:HI}{w:Nat}{st:Ni (Nat×Nat×Nat)}(e:h[w]?=ε (.lst (st.map oC))):VC (.ref w) (.lst []) h=ε (.bl (!st.isEmpty),h):=by rw[tT (xs:=st.map oC) (by simp![EA,e])];cases st<;>rfl
theorem Ml{h:HI}{c:Nat}(u:c<=100){f:MA}(of:aB c f){B:Nat}(N:Ve h B c f)(ne:wB c f=false) :
 ∃(x:Dt)(s:Nat)(h':HI)(v:Bool),DJ [.ref (B+c)] h=ε (.tup [x,.ref s],h')/\my h h'/\VC (.ref s) (.lst []) h'=ε (.bl v,h')/\(v=false↔jE c f):=by
 have M:=VN (show c<=1000 by omega) h;have S:=CJ c c;have J:c*c<=100*100:=Ja u u;obtain⟨d,h',e,x,s,st,g,rfl,R,H,F,E,j,Q,y⟩:=zQ u of (N.grow [.lst ((VA c).map BA)]) (pd:=.ref h.length) (P:=VA c) (fun z=>by simp[eD,EA]) (fun p I=>by
  obtain⟨q1,q2⟩:=bz.mp I;omega) (fR c f) (by unfold VA;omega)
 have up:∀(n:Nat)(o:Ob),h[n]?=ε o->h'[n]?=ε o:=fun n o i=>by have m:n<h.length:=(Wi i).1;rw[F n (by simp;omega),Xa m];exact i
 refine⟨x,s,h',!st.isEmpty,?_,⟨by simp at H;omega,fun n C i=>up n _ i,fun n C i=>up n _ i⟩,x8 E,?_⟩
 . simp![DJ,BW,mB,OA,NA,DA,zA,EB,jA,Ti,Vu,Wu,Wo,Ss,Uo,dG,Ro,kA,fA,N.len,Ui,M,e,WA,Nat.reduceAdd]
 . constructor
   . intro z;have D:st=[]:=by
      cases st with
      | nil=>rfl
      | cons a r=>cases z
     subst D;have L:g=f:=by
      generalize hs:([]:Ni (Nat×Nat×Nat))=st at j;cases j with
      | nil=>rfl
      | snoc=>simp at hs
     rw[L]at y;rcases y with⟨_,q⟩ | ⟨b,_,_,_,q,_⟩
     . rw[ne]at q;cases q
     . exact q
   . intro O;rw[(j.shut O).1];rfl
noncomputable abbrev zT:=Nat×Nat×Nat
inductive nh where
 | ae (st:List zT)
 | ring (st:List zT) (r:List Int)
 | one (st:List zT) (bs:List nh)
 | split (st:List zT) (p:Nat×Nat) (bs:List nh)
noncomputable def nh.st:nh->Ni zT
 | .ae st=>st
 | .ring st _=>st
 | .one st _=>st
 | .split st _ _=>st
noncomputable def nh.kids:nh->Ni nh
 | .one _ bs=>bs
 | .split _ _ bs=>bs
 | _=>[]
noncomputable def nh.wd:nh->Str
 | .ae _ => "threes"
 | .ring _ _ => "ring"
 | .one _ _ => "one"
 | .split _ _ _ => "split"
mutual
noncomputable def jF:nh->Nat
 | .ae _=>1
 | .ring _ _=>1
 | .one _ bs=>fF bs+1
 | .split _ _ bs=>fF bs+1
noncomputable def fF:Ni nh->Nat
 | []=>0
 | t::ts=>max (jF t) (fF ts)
end
mutual
noncomputable def ng(h:HI):nh->Dt->Prop
 | .ae st,d=>∃s,d=.tup [.str "threes",s]/\EA h s=ε (st.map oC)
 | .ring st r,d=>∃s x,d=.tup [.str "ring",s,x]/\EA h s=ε (st.map oC)/\EA h x=ε (r.map Dt.int)/\r.length<=1000
 | .one st bs,d=>∃s x ds,d=.tup [.str "one",s,x]/\EA h s=ε (st.map oC)/\EA h x=ε ds/\Za h bs ds
 | .split st p bs,d=>∃s x ds,d=.tup [.str "split",s,.int (p.1:Nat),.int (p.2:Nat),x]/\EA h s=ε (st.map oC)/\EA h x=ε ds/\Za h bs ds
noncomputable def Za(h:HI):Ni nh->Ni Dt->Prop
 | [],ds=>ds=[]
 | t::ts,ds=>∃d r,ds=d::r/\ng h t d/\Za h ts r
end
set_option tactic.hygienic true in
theorem fG{h h':HI}(u:my h h'){d:Dt}{xs:Ni Dt}(e:EA h d=ε xs):EA h' d=ε xs:=by
 cases d with
 | lst a=>exact e
 | ref n=>
  simp![EA]at e;split at e
  . rename_i zs q;cases e;simp![EA,u.2 _ _ q]
  . cases e
 | _=>cases e
mutual
theorem ng.up{h h':HI}(u:my h h'):∀(t:nh){d:Dt},ng h t d->ng h' t d
 | .ae st,d,q=>by simp![ng]at q ⊢;obtain⟨s,e,q⟩:=q;exact⟨s,e,fG u q⟩
 | .ring st r,d,q=>by simp![ng]at q ⊢;obtain⟨s,x,e,q1,q2,q3⟩:=q;exact⟨s,x,e,fG u q1,fG u q2,q3⟩
 | .one st bs,d,q=>by simp![ng]at q ⊢;obtain⟨s,x,ds,e,q1,q2,q3⟩:=q;exact⟨s,x,ds,e,fG u q1,fG u q2,Za.up u bs q3⟩
 | .split st p bs,d,q=>by simp![ng]at q ⊢;obtain⟨s,x,ds,e,q1,q2,q3⟩:=q;exact⟨s,x,ds,e,fG u q1,fG u q2,Za.up u bs q3⟩
theorem Za.up{h h':HI}(u:my h h'):∀(a:Ni nh){ds:Ni Dt},Za h a ds->Za h' a ds
 | [],ds,q=>by simp![Za]at q ⊢;exact q
 | t::a,ds,q=>by simp![Za]at q ⊢;obtain⟨d,r,e,q1,q2⟩:=q;exact⟨d,r,e,ng.up u t q1,Za.up u a q2⟩
end
theorem Za.len{h:HI}:∀(a:Ni nh){ds:Ni Dt},Za h a ds->ds.length=a.length
 | [],ds,q=>by simp![Za]at q;rw[q];rfl
 | t::a,ds,q=>by simp![Za]at q;obtain⟨d,r,rfl,_,q2⟩:=q;simp![Ss,Za.len a q2]
theorem ng.hd{h:HI}{t:nh}{d:Dt}(q:ng h t d):∃s,(∀H,pA d (.int 0) H=ε (.str t.wd,H))/\(∀H,pA d (.int 1) H=ε (s,H))/\EA h s=ε (t.st.map oC):=by
 cases t with
 | ae st=>simp![ng]at q;obtain⟨s,rfl,q⟩:=q;exact⟨s,fun z=>rfl,fun z=>rfl,q⟩
 | ring st r=>simp![ng]at q;obtain⟨s,x,rfl,q,_⟩:=q;exact⟨s,fun z=>rfl,fun z=>rfl,q⟩
 | one st bs=>simp![ng]at q;obtain⟨s,x,ds,rfl,q,_⟩:=q;exact⟨s,fun z=>rfl,fun z=>rfl,q⟩
 | split st p bs=>simp![ng]at q;obtain⟨s,x,ds,rfl,q,_⟩:=q;exact⟨s,fun z=>rfl,fun z=>rfl,q⟩
theorem l9{h h2:HI}(kp:∀(n:Nat)(o:Ob),h[n]?=ε o->h2[n]?=ε o):my h h2:=by
 refine⟨?_,fun n a e=>kp n _ e,fun n a e=>kp n _ e⟩;rcases Nat.eq_zero_or_pos h.length with z | z
 . omega
 . have:h[h.length-1]?=ε h[h.length-1]:=by simp
   have:=(Wi (kp _ _ this)).1;omega
noncomputable def iI:nh->Oa (Nat×Nat)
 | .split _ p _=>ε p
 | _=>none
noncomputable def nT:nh->Prop
 | .one _ _=>True
 | .split _ _ _=>True
 | _=>False
def gI(c:Nat)(g:MA)(ls:Ni Ln):Ni (Ni Int×Dt):=(lC (mC c g ls)).map BB
mutual
inductive Sh(c:Nat)(ls:List Ln):Nat->MA->List (List IB)->nh->Bool->Prop
 | no {n f gs t}:vC c f t.st=none->Sh c ls (n+1) f gs t false
 | ae {n f gs st g}:vC c f st=ε g->Sh c ls (n+1) f gs (.ae st) (wB c g)
 | loose {n f gs t g}:t.wd≠("threes" :Str)->vC c f t.st=ε g->(wB c g=true\/¬jE c g)->Sh c ls (n+1) f gs t false
 | ring {n f gs st r g}:vC c f st=ε g->wB c g=false->jE c g->Sh c ls (n+1) f gs (.ring st r) (rG r (gI c (zC c g) ls))
 | odd {n f gs t g}:nT t->vC c f t.st=ε g->wB c g=false->jE c g->(∀bs ps,BC c (zC c g) gs=ε (iI t,bs,ps)->bs.length≠t.kids.length)->Sh c ls (n+1) f gs t false
 | cut {n f gs t g bs ps v}:nT t->vC c f t.st=ε g->wB c g=false->jE c g->BC c (zC c g) gs=ε (iI t,bs,ps)->bs.length=t.kids.length->yP c ls n bs gs.tail t.kids v->Sh c ls (n+1) f gs t v
inductive yP(c:Nat)(ls:List Ln):Nat->List MA->List (List IB)->List nh->Bool->Prop
 | nil {n gs}:yP c ls n [] gs [] true
 | no {n f fs gs t ts}:Sh c ls n f gs t false->yP c ls n (f::fs) gs (t::ts) false
 | yes {n f fs gs t ts v}:Sh c ls n f gs t true->yP c ls n fs gs ts v->yP c ls n (f::fs) gs (t::ts) v
end
theorem OT(a b:Str)(h:HI):mG (.str a) (.str b) h=ε (.bl (decide (a=b)),h):=S9 a b
theorem A5(a b:Str)(h:HI):VC (.str a) (.str b) h=ε (.bl (!decide (a=b)),h):=rP a b
theorem kr(c:Nat)(g:MA)(ls:Ni Ln):∀k v,mE (gI c g ls) k=ε v->∃w,v=.int w:=by intro k v e;unfold mE at e;obtain⟨p,a,rfl⟩:=Fo.mp e;have:=Ai a;unfold gI at this;obtain⟨x,_,rfl⟩:=Bs.mp this;exact⟨_,rfl⟩
theorem Xq{h:HI}{b c:Nat}{g:MA}(N:Ve h b c g)(q:c<=8)(og:aB c g)(ne:wB c g=false){ls:Ni Ln}(p:ls.length<=100){x:Dt}{r:Ni Int}(e:EA h x=ε (r.map Dt.int))(o:r.length<=1000) :
 ∃y m h',DH [.ref (b+c),.lst (ls.map pB)] h=ε (y,m)/\qI [x,y] m=ε (.bl (rG r (gI c g ls)),h')/\my h h':=by
 obtain⟨rest,u⟩:=UW nofun (fun i j f d=>dS (og.lt i f j d) (cm ne f d)) (ls:=ls) nofun N;have n:(mC c g ls).length<=1000:=GR q g p;have da:(h++.lst ((mC c g ls).map wA)::rest)[h.length]?=ε (.lst ((mC c g ls).map wA)):=by simp
 have s:=xU (mC c g ls) n _ da;have a:my h (h++.lst ((mC c g ls).map wA)::rest):=my.app _ _;obtain⟨h',B,e2⟩:=Aw (fG a e) o (fG (a.trans (my.app _ _)) e) s (T:=gI c g ls) (by unfold gI;simp) (kr c g ls);refine⟨_,_,h',u,B,?_⟩;rcases e2 with rfl | rfl
 . exact a
 . exact a.trans (my.app _ _)
def vS(c:Nat)(ls:Ni Ln)(n:Nat)(R:sB):Prop:=∀(f:MA)(e:Ni (Ni IB))(t:nh)(h:HI)(b:Nat)(a:Ni Dt)(d:Dt),Ve h b c f->aB c f->al h a e->ax c e->(∀x∈e,x.length<=1000)->ng h t d->jF t<=n->
 ∃v g,R [.ref (b+c),.lst a,.lst (ls.map pB),d] h=ε (.bl v,g)/\my h g/\Sh c ls n f e t v
theorem YX{c:Nat}{ls:Ni Ln}{n:Nat}{R:sB}(F:vS c ls n R){gds:Ni Dt}{s:Ni (Ni IB)}(go:ax c s)(C:∀x∈s,x.length<=1000)(x:Dt):∀(nr i:Ni Dt)(bs:Ni MA)(g:Ni nh)(e dp:Ni Dt)(h:HI)(m j:Oa Dt),e.length=dp.length->EA h x=ε (dp++i)->af (br h c) bs nr->(∀b∈bs,aB c b)->Za h g i->bs.length=g.length->fF g<=n->al h gds s->
 ∃v u,my h u/\yP c ls n bs s g v/\((v=false/\JB (bD 4 5) (OG R) (.zp (.lst (e++nr)) x) (nr.length+1) e.length [ε (.lst (e++nr)),ε (.lst gds),ε (.lst (ls.map pB)),ε x,m,j] h=ε (.rt (.bl false) u))\/
  (v=true/\∃I H,JB (bD 4 5) (OG R) (.zp (.lst (e++nr)) x) (nr.length+1) e.length [ε (.lst (e++nr)),ε (.lst gds),ε (.lst (ls.map pB)),ε x,m,j] h=ε (.nx [ε (.lst (e++nr)),ε (.lst gds),ε (.lst (ls.map pB)),ε x,I,H] u)))
 | [],i,bs,g,e,dp,h,m,j,hl,hx,a,ob,ft,bl,dp',Q=>by
  cases a;have tn:g=[]:=by cases g with | nil=>rfl | cons=>simp at bl
  subst tn;have dn:i=[]:=by simpa only[Za]using ft
  subst dn;refine⟨true,h,my.refl h,.nil,.inr ⟨rfl,m,j,?_⟩⟩;unfold JB;rw[Ui]at hx;simp![mv.at,WG,hx,Ui,hl,jo (Ue dp.length)];rw[jo nofun]
 | nd::nr,i,bs,g,e,dp,h,m,j,hl,hx,a,ob,ft,bl,dpp,Q=>by
  cases a with
  | @cons E _ y _ a1 a2=>
   obtain⟨f,rfl,N⟩:=a1;cases g with
   | nil=>simp at bl
   | cons t g=>
    simp![Za]at ft;obtain⟨d,i,rfl,W,U⟩:=ft;have D:jF t<=n/\fF g<=n:=by simp![fF]at dpp;omega
    obtain⟨v,p,Z,o,B⟩:=F E s t h f gds d N (ob E ⋯) Q go C W D.1;have T:(e++Dt.ref (f+c)::nr)[e.length]?=ε (.ref (f+c)):=by simp
    have S:(dp++d::i)[e.length]?=ε d:=by rw[hl];simp
    have bd:OG R [ε (.lst (e++Dt.ref (f+c)::nr)),ε (.lst gds),ε (.lst (ls.map pB)),ε x,ε (.ref (f+c)),ε d] h=if v=true then ε (.nx [ε (.lst (e++Dt.ref (f+c)::nr)),ε (.lst gds),ε (.lst (ls.map pB)),ε x,ε (.ref (f+c)),ε d] p)else ε (.rt (.bl false) p):=by cases v<;>simp![OG,dB,gF,HA,NA,DA,zA,jA,sA,Ro,Rr,kA,fA,Ui,Z,KA,uq,uo,Vi,eG,dG,OA,PB]
    have st:∀K,(JB (bD 4 5) (OG R) (.zp (.lst (e++Dt.ref (f+c)::nr)) x) (K+1) e.length [ε (.lst (e++Dt.ref (f+c)::nr)),ε (.lst gds),ε (.lst (ls.map pB)),ε x,m,j] h)=if v=true then JB (bD 4 5) (OG R) (.zp (.lst (e++Dt.ref (f+c)::nr)) x) K (e.length+1) [ε (.lst (e++Dt.ref (f+c)::nr)),ε (.lst gds),ε (.lst (ls.map pB)),ε x,ε (.ref (f+c)),ε d] p else ε (.rt (.bl false) p):=by intro K;rw[JB];simp![mv.at,WG,hx,T,S,PL,Wa,Vo,Va,bd];cases v<;>rfl
    cases v with
    | false=>refine⟨false,p,o,.no B,.inl ⟨rfl,?_⟩⟩;rw[Ss,st];rfl
    | true=>
     obtain⟨J,P,L,M,r⟩:=YX F go C x nr i y g (e++[.ref (f+c)]) (dp++[d]) p (ε (.ref (f+c))) (ε d) (by simp[hl]) (by rw[fG o hx];simp) (a2.imp fun z z q=>q.up o) (fun b O=>ob b (by simp[O])) (Za.up o g U) (by simpa using bl) D.2 (Q.up o);refine⟨J,P,o.trans L,.yes B M,?_⟩;have Y:e++[Dt.ref (f+c)]++nr=e++Dt.ref (f+c)::nr:=by simp
     rw[Y,iu,length_singleton]at r;rw[Ss,st];exact r
theorem Fg(t:nh):1<=jF t:=by cases t<;>simp[jF]
theorem F7{h:HI}(p q:Nat×Nat):VC (BA p) (.tup [.int (q.1:Nat),.int (q.2:Nat)]) h=ε (.bl (!decide (p=q)),h):=by
 have e:decide ([(p.1:Int),p.2]=[(q.1:Int),q.2])=decide (p=q):=by obtain⟨a,b⟩:=p;obtain⟨f,d⟩:=q;rw[Bool.eq_iff_iff];simp;omega
 rw[<- e];rfl
theorem Em{h:HI}:VC (.tup []) (.tup []) h=ε (.bl false,h):=rfl
theorem EZ(a s x:Dt):SM.HE [a,s,x] (ε 2) (ε (-1))=[]/\¬(HT.sIx [a,s,x].length 0 (ε 2)=0/\HT.sIx [a,s,x].length [a,s,x].length (ε (-1))=[a,s,x].length):=⟨rfl,show ¬(HT.sIx 3 0 (ε 2)=0/\HT.sIx 3 3 (ε (-1))=3) by decide⟩
theorem FZ(a s p q x:Dt):SM.HE [a,s,p,q,x] (ε 2) (ε (-1))=[p,q]/\¬(HT.sIx [a,s,p,q,x].length 0 (ε 2)=0/\HT.sIx [a,s,p,q,x].length [a,s,p,q,x].length (ε (-1))=[a,s,p,q,x].length):=⟨rfl,show ¬(HT.sIx 5 0 (ε 2)=0/\HT.sIx 5 5 (ε (-1))=5) by decide⟩
theorem RY{d:Dt}{xs ys:Ni Dt}(hd:d=.tup xs)(h1:SM.HE xs (ε 2) (ε (-1))=ys)(h2:¬(HT.sIx xs.length 0 (ε 2)=0/\HT.sIx xs.length xs.length (ε (-1))=xs.length)){l:LI}{h:HI}(a:l[3]?=ε (ε d)):ZH (eV 3) (bF (oe 2)) (bF (HC (oe 1))) l h=ε (.tup ys,h):=by
 have f:eV 3 l h=ε (.tup xs,h):=by simp![jA,a,kA,hd]
 have e:bF (oe 2) l h=ε (ε 2,h):=rfl;have b:bF (HC (oe 1)) l h=ε (ε (-1),h):=rfl;simp![ZH,f,e,b,Wa,Y2,dh h2,h1]
theorem Zz{c:Nat}{ls:Ni Ln}{n:Nat}{R:sB}(E:vS c ls n R){gds:Ni Dt}{i:Ni (Ni IB)}(go:ax c i)(D:∀x∈i,x.length<=1000){x:Dt}{d ds:Ni Dt}{bs:Ni MA}{e:Ni nh}{h:HI}(m:EA h x=ε ds)(a:af (br h c) bs d)(ob:∀b∈bs,aB c b)(B:Za h e ds)(dp:fF e<=n)(Q:al h gds i) :
 ∃v g,zH R [.lst d,.lst gds,.lst (ls.map pB),x] h=ε (.bl v,g)/\my h g/\((v=false/\bs.length≠e.length)\/(bs.length=e.length/\yP c ls n bs i e v)):=by
 have p:=XO (xs:=d) (h:=h);have o:=UJ m;have J:=a.len;have I:=Za.len e B;by_cases q:bs.length=e.length
 . have j:decide (((d.length:Nat):Int)=((ds.length:Nat):Int))=true:=eO nofun;obtain⟨v,g,u,s,r⟩:=YX E go D x d ds bs e [] [] h none none rfl m a ob B q dp Q;have y:=vh (r:=.lst d) (q:=x) (WG d) m;have C:xD (bD 4 5) (OG R) [ε (.lst d),ε (.lst gds),ε (.lst (ls.map pB)),ε x,none,none] (.zp (.lst d) x,h)=JB (bD 4 5) (OG R) (.zp (.lst d) x) (d.length+1) 0 [ε (.lst d),ε (.lst gds),ε (.lst (ls.map pB)),ε x,none,none] h:=by unfold xD;simp![mv.fuel,WG]
   simp![Wo,Uo]at r;rcases r with⟨rfl,r⟩ | ⟨rfl,H,F,r⟩
   . refine⟨false,g,?_,u,.inr ⟨q,s⟩⟩;dsimp![zH,kL,Ti (f:=some),Vu (f:=some),Wu,Wo,JA,dB,HA,vA,EB,Rr,p,o,IE,j,uq,KA,Vi,eG,PB,LA,qD,B0,y,C,r,dC,WA]
   . refine⟨true,g,?_,u,.inr ⟨q,s⟩⟩;dsimp![zH,kL,Ti (f:=some),Vu (f:=some),Wu,Wo,JA,dB,HA,vA,EB,Rr,p,o,IE,j,uq,KA,Vi,eG,PB,LA,qD,B0,y,C,r,OA,sA,WA]
 . have j:decide (((d.length:Nat):Int)=((ds.length:Nat):Int))=false:=eH nofun;refine⟨false,h,?_,my.refl h,.inl ⟨rfl,q⟩⟩;dsimp![zH,kL,Ti (f:=some),Vu (f:=some),Wu,Wo,JA,dB,HA,vA,EB,sA,Rr,p,o,IE,j,uo,KA,OA,dC,WA]
noncomputable def KG:Oa (Nat×Nat)->Str
 | none => "one"
 | some _ => "split"
def bN:Oa (Nat×Nat)->Dt
 | none=>.tup []
 | some p=>BA p
theorem Bk:∀a,¬KG a=Str.ofString "ring"
 | none=>show ¬(Str.ofString "one" =Str.ofString "ring") by decide
 | some _=>show ¬(Str.ofString "split" =Str.ofString "ring") by decide
theorem Gm{h:HI}:∀{a b:Oa (Nat×Nat)},KG a=KG b->VC (bN a) (bN b) h=ε (.bl (!decide (a=b)),h)
 | none,none,_=>Em
 | some p,some q,_=>by
  have e:decide (ε p=ε q)=decide (p=q):=by simp
  rw[e];exact F7 p q
 | none,some _,w=>Du w (show ¬(Str.ofString "one" =Str.ofString "split") by decide)
 | some _,none,w=>Du w (show ¬(Str.ofString "split" =Str.ofString "one") by decide)
theorem Wf{c:Nat}(hc:c<=8){ls:Ni Ln}(hl:ls.length<=100):∀n,vS c ls n (JH n):=by
 intro n
 induction n with
 | zero=>intro f gs t h b o d _ _ _ _ _ _ dp;have:=Fg t;omega
 | succ n IH=>
  intro f gs t h b o d N of Q go gl F dp;obtain⟨s,i0,i1,es⟩:=F.hd;obtain⟨x,C,eb,kp,B⟩:=Ig N nofun es;have u1:=l9 kp;obtain⟨L,S⟩:∃L:Dt->Oa Dt->LI,∀y z,L y z=[ε (.ref (b+c)),ε (.lst o),ε (.lst (ls.map pB)),ε d,ε y,z]:=⟨_,fun k k=>rfl⟩
  have l0:∀y z,(L y z)[0]?=ε (ε (.ref (b+c))):=fun y z=>by rw[S];rfl
  have l1:∀y z,(L y z)[1]?=ε (ε (.lst o)):=fun y z=>by rw[S];rfl
  have l2:∀y z,(L y z)[2]?=ε (ε (.lst (ls.map pB))):=fun y z=>by rw[S];rfl
  have l3:∀y z,(L y z)[3]?=ε (ε d):=fun y z=>by rw[S];rfl
  have l4:∀y z,(L y z)[4]?=ε (ε y):=fun y z=>by rw[S];rfl
  have l5:∀y z,(L y (ε z))[5]?=ε (ε z):=fun y z=>by rw[S];rfl
  have wd:∀(y:Dt)(z:Oa Dt)(H:HI),e2 pA (eV 3) (oe 0) (L y z) H=ε (.str t.wd,H):=fun y z H=>by simp![vA,jA,sA,l3,kA,fA,i0]
  have no:∀(y:Dt)(z:Oa Dt)(H:HI),eC (.bl false) (L y z) H=ε (.bl false,H):=fun k k k=>rfl
  obtain⟨Y,m⟩:∃Y,JH (n+1) [.ref (b+c),.lst o,.lst (ls.map pB),d] h=Y:=⟨_,rfl⟩
  rw[m];have out:∀(v:Bool)(R:HI),Y=ε (.bl v,R)->my h R->Sh c ls (n+1) f gs t v->∃v R,Y=ε (.bl v,R)/\my h R/\Sh c ls (n+1) f gs t v:=fun v R a b d=>⟨v,R,a,b,d⟩
  have ef:JH (n+1) [.ref (b+c),.lst o,.lst (ls.map pB),d] h=MD (PJ (JH n) [ε (.ref (b+c)),ε (.lst o),ε (.lst (ls.map pB)),ε d,none,none] h):=by show HB 4 6 (PJ (JH n)) _ h=_;rw[mB];rfl
  have s1:qA tJ [] (bA (eV 0) (bA (e2 pA (eV 3) (oe 1)) eA)) [ε (.ref (b+c)),ε (.lst o),ε (.lst (ls.map pB)),ε d,none,none] h=ε (x,C):=by simp![NA,DA,zA,vA,jA,sA,Ro,Rr,kA,fA,Ui,i1,eb]
  rw[ef,PJ,tE (i:=4) (l':=L x none) s1 (S x none).symm]at m;cases B with
  | no q=>
   have s2:mu (e2 ND (eV 4) (eC .non)) (L .non none) C=ε (true,C):=by simp![HA,vA,jA,sA,l4,kA,fA];rfl
   rw[cE s2 (no _ _ _)]at m;exact out false C m.symm u1 (.no q)
  | @net g u q N1=>
   have og:=RZ _ _ _ of q;have s2:mu (e2 ND (eV 4) (eC .non)) (L (.ref (u+c)) none) C=ε (false,C):=by simp![HA,vA,jA,sA,l4,kA,fA];rfl
   have em:=KQ N1 nofun;have ee:qA QF [] (bA (eV 4) eA) (L (.ref (u+c)) none) C=ε (.bl (wB c g),C):=by simp![NA,DA,zA,jA,l4,kA,fA,Ui,em]
   have J:mu (e2 mG (e2 pA (eV 3) (oe 0)) (eC (.str "threes"))) (L (.ref (u+c)) none) C=ε (decide (t.wd = "threes"),C):=by rw[HA,vA,wd];simp![sA,fA,OT,KA]
   rw[zF s2]at m;by_cases U:t.wd = "threes"
   . rw[eO U]at J;rw[cE J ee]at m;cases t with
     | ae st=>exact out _ C m.symm u1 (.ae q)
     | ring st r=>exact Du U (by show ¬(("ring" :Str) = "threes");decide)
     | one st bs=>exact Du U (by show ¬(("one" :Str) = "threes");decide)
     | split st p bs=>exact Du U (by show ¬(("split" :Str) = "threes");decide)
   . rw[eH U]at J;rw[zF J]at m;cases ne:wB c g with
     | true=>
      rw[ne]at ee;have s4:pC (mu (qA QF [] (bA (eV 4) eA))) (mu (e2 VC (e2 pA (qA DJ [] (bA (eV 4) eA)) (oe 1)) (TC eA))) (L (.ref (u+c)) none) C=ε (true,C):=by rw[DC,HA,ee];simp![fA,KA,dG]
      rw[cE s4 (no _ _ _)]at m;exact out false C m.symm u1 (.loose U q (.inl ne))
     | false=>
      rw[ne]at ee;obtain⟨x2,a1,I,v2,er,u2,en,cl⟩:=Ml nofun og N1 ne;have j1:pA (.tup [x2,.ref a1]) (.int 1) I=ε (.ref a1,I):=rfl;have s4:pC (mu (qA QF [] (bA (eV 4) eA))) (mu (e2 VC (e2 pA (qA DJ [] (bA (eV 4) eA)) (oe 1)) (TC eA))) (L (.ref (u+c)) none) C=ε (v2,I):=by rw[DC,HA,ee];simp![fA,KA,Vi,eG,HA,vA,NA,DA,zA,jA,sA,SE,Uo,m8,dG,l4,kA,Ui,er,j1,en]
      have M:=u1.trans u2;cases hv:v2 with
      | true=>rw[hv]at s4;rw[cE s4 (no _ _ _)]at m;exact out false I m.symm M (.loose U q (.inr fun z=>by rw[cl.mpr z]at hv;cases hv))
      | false=>
       have P:=cl.mp hv;rw[hv]at s4;have N2:=oY (u2.net N1);have Z:=DZ og;have a7:wB c (zC c g)=false:=by rw[RW];exact ne
       have s5:mu (e2 mG (e2 pA (eV 3) (oe 0)) (eC (.str "ring"))) (L (.ref (u+c)) none) I=ε (decide (t.wd = "ring"),I):=by rw[HA,vA,wd];simp![sA,fA,OT,KA]
       have F2:=ng.up M t F;have Q2:=Q.up M;rw[zF s4]at m;have a0:∀(D:Dt)(ds:Ni Dt),nT t->EA I D=ε ds->Za I t.kids ds->fF t.kids<=n->(∀H,pA d (.int (-1)) H=ε (D,H))->(∀(l:LI)(H:HI),l[3]?=ε (ε d)->ZH (eV 3) (bF (oe 2)) (bF (HC (oe 1))) l H=ε (bN (iI t),H))->t.wd=KG (iI t)->∃v R,Y=ε (.bl v,R)/\my h R/\Sh c ls (n+1) f gs t v:=by
        intro D ds ic f2 f3 O lst sl tg;rw[show decide (t.wd=("ring" :Str))=false by rw[tg];exact eH (Bk _)]at s5;obtain⟨h3,U3,ms⟩:=fW N2 Z nofun Q2 go gl;have u3:my h h3:=M.trans U3.l;rw[zF s5]at m;have gt:al h3 o.tail gs.tail:=by
         have:=Q2.up U3.l;cases this with
         | nil=>exact .nil
         | cons a r=>exact r
        have s6:∀y,dF [.ref (u+c),.lst o] I=ε (y,h3)->qA dF [] (bA (eV 4) (bA (eV 1) eA)) (L (.ref (u+c)) none) I=ε (y,h3):=fun y e=>by simp![NA,DA,zA,jA,l4,l1,kA,fA,Ui,e]
        have a3:∀y,(L (.ref (u+c)) none).set 5 (ε y)=L (.ref (u+c)) (ε y):=fun y=>by rw[S,S];rfl
        cases hs:BC c (zC c g) gs with
        | none=>
         rw[hs]at ms;rw[tE (s6 _ ms) (a3 _)]at m;have W:pC (mu (e2 ND (eV 5) (eC .non))) (pC (mu (e2 VC (e2 pA (eV 5) (oe 0)) (e2 pA (eV 3) (oe 0)))) (mu (e2 VC (e2 pA (eV 5) (oe 1)) (ZH (eV 3) (bF (oe 2)) (bF (HC (oe 1))))))) (L (.ref (u+c)) (ε .non)) h3=ε (true,h3):=by rw[DC,HA,vA];simp![jA,sA,l5,kA,fA];rfl
         rw[cE W (no _ _ _)]at m;exact out false h3 m.symm u3 (.odd ic q ne P fun a4 ps z=>by rw[hs]at z;cases z)
        | some z=>
         obtain⟨j,a9,ps⟩:=z;rw[hs]at ms;obtain⟨E,a2,e3⟩:=ms;have a6:=LJ Z go hs;have a8:=fG U3.l f2;obtain⟨v,h4,e4,u4,r4⟩:=Zz IH go.tail (fun y hy=>gl y (mem_of_mem_tail hy)) a8 a2 a6 (Za.up U3.l _ f3) O gt;have kn:ND (LC j E ps) .non h3=ε (.bl false,h3):=by cases j<;>rfl
         have k0:pA (LC j E ps) (.int 0) h3=ε (.str (KG j),h3):=by cases j<;>rfl
         have k2:pA (LC j E ps) (.int 1) h3=ε (bN j,h3):=by cases j<;>rfl
         have k3:pA (LC j E ps) (.int 2) h3=ε (.lst E,h3):=by cases j<;>rfl
         generalize LC j E ps=T at e3 kn k0 k2 k3;rw[tE (s6 _ e3) (a3 _)]at m;have W:∀z,(KG j=t.wd->z=!decide (j=iI t))->(KG j≠t.wd->z=true)->pC (mu (e2 ND (eV 5) (eC .non))) (pC (mu (e2 VC (e2 pA (eV 5) (oe 0)) (e2 pA (eV 3) (oe 0)))) (mu (e2 VC (e2 pA (eV 5) (oe 1)) (ZH (eV 3) (bF (oe 2)) (bF (HC (oe 1))))))) (L (.ref (u+c)) (ε T)) h3=ε (z,h3):=by
          intro z z1 z2;have t1:mu (e2 ND (eV 5) (eC .non)) (L (.ref (u+c)) (ε T)) h3=ε (false,h3):=by simp![HA,vA,jA,sA,l5,kA,fA,kn,KA]
          have t2:mu (e2 VC (e2 pA (eV 5) (oe 0)) (e2 pA (eV 3) (oe 0))) (L (.ref (u+c)) (ε T)) h3=ε (!decide (KG j=t.wd),h3):=by simp![HA,vA,jA,sA,l5,l3,kA,fA,k0,i0,A5,KA]
          rw[DC,t1];simp![fA,Vi,eG];rw[DC,t2];by_cases we:KG j=t.wd
          . rw[z1 we,eO we];simp![uq,fA,Vi,eG,HA,vA,jA,sA,l5,kA,k2,sl _ h3 (l3 _ _),Gm (we.trans tg),KA]
          . rw[z2 we,eH we];simp![uo,fA,dG]
         by_cases te:j=iI t
         . have W:=W false (fun k=>by rw[eO te];rfl) (fun w=>Du (by rw[te];exact tg.symm) w);have s8:qA (zH (JH n)) [] (bA (e2 pA (eV 5) (oe 2)) (bA (qK (eV 1) (bF (oe 1)) yM) (bA (eV 2) (bA (e2 pA (eV 3) (HC (oe 1))) eA)))) (L (.ref (u+c)) (ε T)) h3=ε (.bl v,h4):=by have:=SM.tR o 1;rw[show((1:Nat):Int)=1 from rfl]at this;simp![NA,DA,zA,vA,jA,sA,ZS,aT,QR,bT,bP,wO,l1,l2,l3,l5,kA,fA,k3,WG,Uu,this,drop_one,lst,Ui,e4]
           rw[zF W,OY s8]at m;rw[te]at hs;refine out v h4 m.symm (u3.trans u4) ?_;rcases r4 with⟨rfl,r4⟩ | ⟨r4,r5⟩
           . exact .odd ic q ne P fun a4 a5 z=>by rw[hs]at z;cases z;exact r4
           . exact .cut ic q ne P hs r4 r5
         . have W:=W true (fun k=>by rw[eH te];rfl) (fun k=>rfl);rw[cE W (no _ _ _)]at m;exact out false h3 m.symm u3 (.odd ic q ne P fun a4 a5 z=>by rw[hs]at z;cases z;exact Du rfl te)
       cases t with
       | ae st=>exact Du rfl U
       | ring st r=>
        simp![ng]at F2;obtain⟨J,D,rfl,_,f2,f3⟩:=F2;obtain⟨y,h3,h4,e3,e4,u4⟩:=Xq N2 hc Z a7 hl f2 f3;have k2:pA (.tup [.str "ring",J,D]) (.int 2) I=ε (D,I):=rfl;rw[show decide ((nh.ring st r).wd=("ring" :Str))=true from eO rfl]at s5;have s6:qA qI [] (bA (e2 pA (eV 3) (oe 2)) (bA (qA DH [] (bA (eV 4) (bA (eV 2) eA))) eA)) (L (.ref (u+c)) none) I=ε (.bl (rG r (gI c (zC c g) ls)),h4):=by simp![NA,DA,zA,vA,jA,sA,l2,l3,l4,kA,fA,Ui,k2,e3,e4]
        rw[cE s5 s6]at m;exact out _ h4 m.symm (M.trans u4) (.ring q ne P)
       | one st bs=>
        simp![ng]at F2;obtain⟨J,D,ds,rfl,_,f2,f3⟩:=F2;have O:fF bs<=n:=by simp![jF]at dp;omega
        exact a0 D ds trivial f2 f3 O (fun k=>rfl) (fun l H hl=>RY (l:=l) (h:=H) rfl (EZ (.str "one") J D).1 (EZ (.str "one") J D).2 hl) rfl
       | split st p bs=>
        simp![ng]at F2;obtain⟨J,D,ds,rfl,_,f2,f3⟩:=F2;have O:fF bs<=n:=by simp![jF]at dp;omega
        exact a0 D ds trivial f2 f3 O (fun k=>rfl) (fun l H hl=>RY (l:=l) (h:=H) rfl (FZ (.str "split") J (.int (p.1:Nat)) (.int (p.2:Nat)) D).1 (FZ (.str "split") J (.int (p.1:Nat)) (.int (p.2:Nat)) D).2 hl) rfl
theorem kt(xs:Ni Int):∀a:Ni Int,(a++xs).Nodup->xs.foldl (fun a k=>if a.any (· ==k)then a else a++[k]) a=a++xs:=by
 induction xs with
 | nil=>intro a _;rw[Ui];rfl
 | cons x xs ih=>
  intro a nd;have b:¬a.any (· ==x)=true:=by
   intro z;obtain⟨y,d,e⟩:=any_eq_true.mp z;have e:y=x:=by simpa using e
   subst e;rw[nodup_append]at nd;exact nd.2.2 y d y ⋯ rfl
  rw[foldl_cons,dz b,ih (a++[x]) (by rw[ou];exact nd),ou];rfl
theorem ku{xs:Ni Int}(h:xs.Nodup):NB xs=xs:=by have:=kt xs [] (by rw[Wo];exact h);rw[Wo]at this;exact this
theorem kh{xs:Ni Int}{x:Int}(h:xs.Nodup)(m:x∈xs):NB (xs++[x])=xs:=by
 have e:NB (xs++[x])=if(NB xs).any (· ==x)then NB xs else NB xs++[x]:=by unfold NB;rw[foldl_append];rfl
 rw[e,ku h,dh (any_eq_true.mpr ⟨x,m,by simp⟩)]
def cK(cs:Nat->Oa Nat)(P k:Nat):Ni Int:=(List.range (k+1)).map fun m=>((yB (nxt cs) m P:Nat):Int)
theorem yc(cs:Nat->Oa Nat)(P k:Nat):EC cs P k=(cK cs P k).map Dt.int:=by unfold EC cK;rw[map_map];rfl
theorem L6{a:Ni Bd}{e:Bd}(he:e∈lC a):mE ((lC a).map BB) [(e.1:Int),(e.2.1:Int)]=ε (.int (NK a e.1 e.2.1)):=by
 unfold mE;cases q:((lC a).map BB).find? fun p=>decide (p.1=[(e.1:Int),(e.2.1:Int)])with
 | none=>have:=find?_eq_none.mp q (BB e) (Bs.mpr ⟨e,he,rfl⟩);exact Du (eO rfl) this
 | some p=>
  obtain⟨z,f,rfl⟩:=Bs.mp (Ai q);have k:=find?_some q;have k:(BB z).1=[(e.1:Int),(e.2.1:Int)]:=of_decide_eq_true k;unfold BB at k;simp![Ls,and_true]at k;have d:z.1=e.1:=by omega
  have b:z.2.1=e.2.1:=by omega
  have w:=nU f;rw[d,b]at w;rw[w];rfl
theorem Oh(F:Nat->Int)(k:Nat):((List.range (k+1)).map F).zip ((List.range (k+1)).map F).tail=(List.range k).map fun i=>(F i,F (i+1)):=by
 apply ext_getElem
 . simp
 . intro i b a;simp
theorem Ph{n:Nat}{d:Ni Bd}(u:∀e∈d,e.1<n/\e.2.1<n/\e.1≠e.2.1){cs:Nat->Oa Nat}{P k:Nat}(R:YH n (lC d) (NK d) cs P k):rG (cK cs P k) ((lC d).map BB)=true:=by
 have T:=TY u;have H:2<=k:=by
  rcases Nat.lt_or_ge k 2 with z | z
  . have r:k=1:=by have:=R.pos;omega
    have e:=(T.lt _ (R.edge 0 nofun).1).2.2;have b:=R.back;rw[r]at b;exact Du b.symm e
  . exact z
 obtain⟨F,g⟩:∃F:Nat->Int,F=fun m=>((yB (nxt cs) m P:Nat):Int):=⟨_,rfl⟩
 have x:cK cs P k=(List.range (k+1)).map F:=by rw[g];rfl
 have q:F 0=F k:=by rw[g];show((P:Nat):Int)=((yB (nxt cs) k P:Nat):Int);rw[R.back]
 have o:(List.range (k+1)).map F=(List.range k).map F++[F k]:=by rw[Ii,Ga];rfl
 have nd:((List.range k).map F).Nodup:=by unfold List.Nodup;rw[pairwise_map];refine List.Pairwise.imp_of_mem ?_ pairwise_lt_range;intro a b I h lt e;have h:=Bu.mp h;rw[g]at e;have e:((yB (nxt cs) a P:Nat):Int)=((yB (nxt cs) b P:Nat):Int):=e;exact apart R.back R.first lt nofun (fun v=>h) nofun
 have mem:F k∈(List.range k).map F:=Bs.mpr ⟨0,Bu.mpr nofun,q⟩;have edge:∀i,i<k->mE ((lC d).map BB) [F i,F (i+1)]=ε (.int (NK d (yB (nxt cs) i P) (yB (nxt cs) (i+1) P))):=fun i f=>by have:=L6 (R.edge i nofun).1;rw[g];exact this
 unfold rG;rw[x,Oh];have E:decide (3<=((List.range (k+1)).map F).length)=true:=eO (by simp;omega);have D:decide (((List.range (k+1)).map F).head?=((List.range (k+1)).map F).getLast?)=true:=by
  apply eO;rw[o,getLast?_concat,<- q];obtain⟨j,rfl⟩:∃j,k=j+1:=⟨k-1,by omega⟩
  rw[Js];rfl
 have C:decide ((NB ((List.range (k+1)).map F)).length+1=((List.range (k+1)).map F).length)=true:=eO (by
  rw[o,kh nd mem];simp)
 have B:(((List.range k).map fun i=>(F i,F (i+1))).all fun p=>(mE ((lC d).map BB) [p.1,p.2]).isSome)=true:=by rw[all_eq_true];intro p s;obtain⟨i,f,rfl⟩:=Bs.mp s;rw[edge i (Bu.mp f)];rfl
 have y:(((List.range k).map fun i=>(F i,F (i+1))).map (wT ((lC d).map BB)))=(List.range k).map fun i=>NK d (yB (nxt cs) i P) (yB (nxt cs) (i+1) P):=by
  rw[map_map];refine map_congr_left fun i f=>?_
  show wT _ (F i,F (i+1))=_;unfold wT;rw[edge i (Bu.mp f)]
 rw[E,D,C,B,y,eO R.sum];rfl
mutual
noncomputable def gE:Tr->nh
 | .ae st=>.ae st
 | .ring st a P k=>.ring st (cK a P k)
 | .one st bs=>.one st (QD bs)
 | .split st p bs=>.split st p (QD bs)
noncomputable def QD:Ni Tr->Ni nh
 | []=>[]
 | t::ts=>gE t::QD ts
end
theorem dW:∀a:Ni Tr,(QD a).length=a.length
 | []=>by simp![QD,Uo]
 | t::a=>by simp![QD,Ss,dW a]
theorem VQ{L:MA->Ni (Ni IB)->Nat->nz->Nat->Prop}{tag:Oa (Nat×Nat)}{st:Ni zT}{n:Ni (Ni IB)}:∀(bs:Ni MA)(i:Nat)(d:Ni Tr)(g:Tr)(sp:Nat),WD L tag st n bs i d (.clash g) sp->
 ∃f,g=aQ tag st (d++f)/\af (fun b t=>∃j o,L b n j (.clash t) o) bs f
 | [],i,d,g,sp,h=>by
  obtain⟨e,_⟩:=h;injection e with e
  exact⟨[],by rw[Ui];exact e,.nil⟩
 | b::bs,i,d,g,sp,h=>by
  rcases h with⟨t,j,m,p⟩ | ⟨m,_⟩
  . obtain⟨f,e,a⟩:=VQ bs j (d++[t]) g sp p;exact⟨t::f,by rw[e,ou];rfl,.cons ⟨_,_,m⟩ a⟩
  . exact Du rfl m
theorem jW{c m:Nat}{ls:Ni Ln}(J:∀x∈ls,x.1<c):∀(n:Nat)(f:MA)(s:Ni (Ni IB))(made:Nat)(o:Tr)(sp:Nat),qC c m ls n f s made (.clash o) sp->∀(N:Nat)(v:Bool),Sh c ls N f s (gE o) v->v=true
 | 0,_,_,_,_,_,h=>h.elim
 | n+1,f,s,made,o,sp,h=>by
  intro N v S;rcases h with⟨st,g,s0,em,e,_⟩ | ⟨st,g,EN,h⟩
  . injection e with e
    subst e;have bs:=EW s0;simp![gE]at S;cases S with
    | no q=>have q:vC c f st=none:=q;rw[bs]at q;cases q
    | ae q=>rw[bs]at q;cases q;exact em
    | loose D _ _=>exact Du rfl D
    | odd i _ _ _ _=>exact i.elim
    | cut i _ _ _ _ _ _=>exact i.elim
  . obtain⟨g0,s0,Q,ne,rfl⟩:=EN;have d:=EW s0;rcases h with⟨cs,P,k,R,e,_⟩ | ⟨t,ht,h⟩
    . injection e with e
      subst e;simp![gE]at S;cases S with
      | no q=>have q:vC c f st=none:=q;rw[d]at q;cases q
      | loose D q z=>
       have q:vC c f st=ε _:=q;rw[d]at q;cases q;rcases z with z | z
       . rw[ne]at z;cases z
       . exact Du Q z
      | ring q _ _=>rw[d]at q;cases q;exact Ph (SR (zC c g0) J) R
      | odd i _ _ _ _=>exact i.elim
      | cut i _ _ _ _ _ _=>exact i.elim
    . rcases h with⟨_,e,_⟩ | ⟨u,bs,Z,hs,h⟩
      . cases e
      . rcases h with⟨_,e,_⟩ | ⟨_,h⟩
        . cases e
        . obtain⟨trs,j,a⟩:=VQ bs _ [] o sp h;rw[Wo]at j;have ln:bs.length=(QD trs).length:=by rw[dW];exact a.len
          have go:∀(bs:Ni MA)(trs:Ni Tr)(N:Nat)(v:Bool),af (fun b t=>∃H F,qC c m ls n b s.tail H (.clash t) F) bs trs->yP c ls N bs s.tail (QD trs) v->v=true:=by
           intro bs
           induction bs with
           | nil=>intro trs N v a S;cases a;simp![QD]at S;cases S;rfl
           | cons b bs ih=>
            intro trs N v a S;cases a with
            | @cons _ t _ W a1 a2=>
             simp![QD]at S;obtain⟨H,F,L⟩:=a1;cases S with
             | no I=>exact jW J n b _ H t F L N _ I
             | yes I Y=>exact ih W N v a2 Y
          have B:∀T:nh,T.st=st->T.kids=QD trs->iI T=u->T.wd≠("threes" :Str)->(∀E r,T≠.ring E r)->Sh c ls N f s T v->v=true:=by
           intro T C O M h4 h5 S;cases S with
           | no q=>rw[C,d]at q;cases q
           | ae q=>exact Du rfl h4
           | loose D q z=>
            rw[C,d]at q;cases q;rcases z with z | z
            . rw[ne]at z;cases z
            . exact Du Q z
           | ring q _ _=>exact Du rfl (h5 _ _)
           | odd i q _ _ z=>rw[C,d]at q;cases q;rw[M,O]at z;exact Du ln (z bs Z hs)
           | cut i q _ _ y _ U=>rw[C,d]at q;cases q;rw[M,hs]at y;cases y;rw[O]at U;exact go bs trs _ v a U
          cases u with
          | none=>have j:o=.one st trs:=j;subst j;simp![gE]at S;exact B _ rfl rfl rfl (by show("one" :Str) ≠ "threes";decide) (fun l l z=>by cases z) S
          | some p=>have j:o=.split st p trs:=j;subst j;simp![gE]at S;exact B _ rfl rfl rfl (by show("split" :Str) ≠ "threes";decide) (fun l l z=>by cases z) S
mutual
noncomputable def wG:Tr->Prop
 | .ae _=>True
 | .ring _ _ _ k=>k<=100
 | .one _ bs=>HH bs
 | .split _ _ bs=>HH bs
noncomputable def HH:Ni Tr->Prop
 | []=>True
 | t::ts=>wG t/\HH ts
end
theorem TX{c m:Nat}{ls:Ni Ln}(B:c<=8):∀(n:Nat)(f:MA)(r:Ni (Ni IB))(made:Nat)(d:Tr)(sp:Nat),qC c m ls n f r made (.clash d) sp->wG d/\jF (gE d)<=n
 | 0,_,_,_,_,_,h=>h.elim
 | n+1,f,r,made,d,sp,h=>by
  rcases h with⟨st,g,s0,M,e,_⟩ | ⟨st,g,Q,h⟩
  . injection e with e
    subst e;simp![wG,gE,jF];exact⟨trivial,by omega⟩
  . rcases h with⟨O,P,k,R,e,_⟩ | ⟨t,J,h⟩
    . injection e with e
      subst e;have:=R.le;simp![wG,gE,jF];exact⟨by omega,by omega⟩
    . rcases h with⟨_,e,_⟩ | ⟨j,bs,I,hs,h⟩
      . cases e
      . rcases h with⟨_,e,_⟩ | ⟨_,h⟩
        . cases e
        . obtain⟨trs,i,a⟩:=VQ bs _ [] d sp h;rw[Wo]at i;have go:∀(bs:Ni MA)(trs:Ni Tr),af (fun b t=>∃q o,qC c m ls n b r.tail q (.clash t) o) bs trs->HH trs/\fF (QD trs)<=n:=by
           intro bs
           induction bs with
           | nil=>intro trs a;cases a;simp![HH,QD,fF];exact⟨trivial,by omega⟩
           | cons b bs ih=>
            intro trs a;cases a with
            | @cons _ t _ y D C=>obtain⟨q,o,L⟩:=D;obtain⟨x,H⟩:=TX B n b _ q t o L;obtain⟨u,F⟩:=ih y C;simp![HH,QD,fF];exact⟨⟨x,u⟩,by omega⟩
          obtain⟨s,E⟩:=go bs trs a;cases j with
          | none=>have i:d=.one st trs:=i;subst i;simp![wG,gE,jF];exact⟨s,by omega⟩
          | some p=>have i:d=.split st p trs:=i;subst i;simp![wG,gE,jF];exact⟨s,by omega⟩
mutual
theorem jU{lo:Nat}{h:HI}:∀(t:Tr){d:Dt},wG t->Yu lo h t d->ng h (gE t) d
 | .ae st,d,_,q=>by simp![Yu]at q;obtain⟨s,e,_,q⟩:=q;simp![gE,ng];exact⟨_,e,NE q⟩
 | .ring st cs P k,d,sm,q=>by simp![Yu]at q;simp![wG]at sm;obtain⟨s,r,e,_,_,q1,q2⟩:=q;simp![gE,ng];rw[yc]at q2;exact⟨_,_,e,NE q1,NE q2,by unfold cK;simp;omega⟩
 | .one st bs,d,sm,q=>by simp![Yu]at q;simp![wG]at sm;obtain⟨s,r,ds,e,_,_,q1,q2,q3⟩:=q;simp![gE,ng];exact⟨_,_,ds,e,NE q1,NE q2,QS bs sm q3⟩
 | .split st p bs,d,sm,q=>by simp![Yu]at q;simp![wG]at sm;obtain⟨s,r,ds,e,_,_,q1,q2,q3⟩:=q;simp![gE,ng];exact⟨_,_,ds,e,NE q1,NE q2,QS bs sm q3⟩
theorem QS{lo:Nat}{h:HI}:∀(a:Ni Tr){ds:Ni Dt},HH a->Ye lo h a ds->Za h (QD a) ds
 | [],ds,_,q=>by simp![Ye]at q;simp![QD,Za];exact q
 | t::a,ds,sm,q=>by simp![Ye]at q;simp![HH]at sm;obtain⟨d,r,e,q1,q2⟩:=q;simp![QD,Za];exact⟨d,r,e,jU t sm.1 q1,QS a sm.2 q2⟩
end
theorem yw{c:Nat}(n:c<=8){h:HI}{a:Nat}{fs:Ni ml}(F:kM c h a fs){t:nh}{d:Dt}(q:ng h t d)(dp:jF t<=12) :
 ∃v j,EH [.int (c:Nat),.ref a,d] h=ε (.bl v,j)/\my h j/\Sh c (YC fs) 12 (fD kC fs) (nC fs) t v:=by
 obtain⟨ds,e,D⟩:=F.ds;have y:=D.len;have E:=F.len;have i:ds.length<sizeLine:=by rw[y];simp[sizeLine];omega
 obtain⟨b,p,s,B,U1⟩:=JV (show c<=1000 by omega) e D F.ok;obtain⟨g,C,x⟩:=LV (U1.get e) i (D.up U1.l);have u:=uV (U1.get e) i (D.up U1.l);obtain⟨v,o,r,m,S⟩:=Wf n (show(YC fs).length<=100 by have:=BJ fs;omega) 12 (fD kC fs) (nC fs) t p b g d B (SG fs F.ok _ (AI c)) C (aH fs F.ok) F.sg (ng.up U1.l t q) dp;refine⟨v,o,?_,U1.l.trans m,S⟩;dsimp![EH,aX,Ti (f:=some),Vu (f:=some),Ui,OA,NA,DA,zA,Rr,s,x,u,r,WA]
theorem XG(x k:Int):∃N:Nat,∀h,ID [.int x,.int k] h=ε (.int (N:Nat),h):=by
 have n:=fun(i:Int) (h:HI)=>DD (h:=h) (i:=i) (show(0:Int)<1000000007 by decide)
 have m:=fun(i:Int) (h:HI)=>DD (h:=h) (i:=i) (show(0:Int)<2147483647 by decide)
 have g:=fun(i:Int) (h:HI)=>DD (h:=h) (i:=i) (show(0:Int)<1009 by decide)
 have f:=fun(i:Int) (h:HI)=>DD (h:=h) (i:=i) (show(0:Int)<998244353 by decide)
 have e:=fun(h:HI)=>FF (h:=h) (i:=7) (j:=k) (Or.inl ⟨by decide,by decide⟩)
 have d:=fun(i:Int) (h:HI)=>FF (h:=h) (i:=i) (j:=48271) (Or.inr ⟨by decide,by decide⟩)
 obtain⟨v,a⟩:=Int.eq_ofNat_of_zero_le (Int.emod_nonneg ((x%1000000007+7*k+1)*48271) (show(2147483647:Int)≠0 by decide));have o:(v:Int)<2147483647:=by rw[<- a];exact Int.emod_lt_of_pos _ (by decide)
 have b:=fun(i:Int) (h:HI)=>FF (h:=h) (i:=(v:Int)) (j:=i) (Or.inl ⟨by omega,by omega⟩)
 obtain⟨w,hw⟩:=Int.eq_ofNat_of_zero_le (Int.emod_nonneg ((v:Int)*((v:Int)%1009+k+3)) (show(998244353:Int)≠0 by decide));refine⟨w,fun h=>?_⟩;dsimp![ID,lV,Ti,Vu,Wu,Wo,JA,vB,vA,sA,Rr,n,e,UD,d,m,a,Vo,Va,LA,OA,g,b,f,hw,WA]
theorem e9{c:Nat}(b:2<=c)(n k:Nat):∃i j:Nat,i<c/\j<c/\i≠j/\((n:Int)%(c:Int))=(i:Int)/\((i:Int)+1+(n:Int)/(k:Int)%((c:Int)-1))%(c:Int)=(j:Int):=by
 refine⟨n%c,(n%c+1+n/k%(c-1))%c,Ji _ nofun,Ji _ nofun,?_,by simp,?_⟩
 . have t:n/k%(c-1)<c-1:=Ji _ nofun;have a:n%c<c:=Ji _ nofun;generalize n/k%(c-1)=q at t;generalize n%c=i at a;by_cases w:i+1+q<c
   . rw[Nat.mod_eq_of_lt w];omega
   . rw[Nat.mod_eq_sub_mod nofun,Nat.mod_eq_of_lt nofun];omega
 . rw[show(c:Int)-1=((c-1:Nat):Int) by omega];simp
theorem YW{c:Nat}(d:2<=c)(p:c<=8)(n:Nat):∃i j:Nat,i<c/\j<c/\i≠j/\∀h,iL [.int (n:Nat),.int (c:Nat)] h=ε (.tup [.int (i:Nat),.int (j:Nat)],h):=by
 obtain⟨i,j,m,g,b,o,e⟩:=e9 d n c;refine⟨i,j,m,g,b,fun h=>?_⟩;have f:=fun(x:Int) (h:HI)=>DD (h:=h) (i:=x) (show(0:Int)<(c:Int) by omega)
 have a:=fun(x:Int) (h:HI)=>DD (h:=h) (i:=x) (show(0:Int)<(c:Int)-1 by omega)
 have dc:=fun(x:Int) (h:HI)=>SH (h:=h) (i:=x) (j:=(c:Int)) ⟨by omega,by omega⟩
 dsimp![iL,NU,Ti,Vu,Wu,Wo,JA,vB,vA,sA,DA,zA,Rr,f,o,Vo,Va,LA,OA,NC,UD,vM,dc,a,e,xH,WA]
theorem Tf(t:Int){a b:Int}(d:a<b)(h:HI):mL [.int t,.tup [.int a,.int b]] h=ε (.int (iC t a b),h):=by
 simp[mL,CV];unfold iC
 repeat' split
 all_goals first | rfl | (exfalso;omega)
theorem BS{s o:Int×Int}(h1:dD s)(h2:dD o)(h:HI):qJ [zG s,zG o] h=ε (.int (AB s o),h):=by have a:=jy _ (iO h1 h2);rw[show bc.map pr=[.tup [.int 0,.int 0],.tup [.int 0,.int 1],.tup [.int 0,.int 2],.tup [.int 0,.int 3],.tup [.int 0,.int 4],.tup [.int 1,.int 2],.tup [.int 1,.int 3],.tup [.int 1,.int 4],.tup [.int 2,.int 2],.tup [.int 2,.int 3],.tup [.int 2,.int 4],.tup [.int 3,.int 4],.tup [.int 4,.int 4]]from rfl]at a;simp![pr]at a;simp[qJ,YU,zG,Tf _ h2,a.1,a.2];rfl
def GB(s:Nat->Int×Int)(c:Nat):Ni Dt:=(List.range c).map fun k=>zG (s k)
theorem LH{s:Nat->Int×Int}{c k:Nat}(a:k<c):(GB s c)[k]?=ε (zG (s k)):=by simp[GB,a]
theorem Hz(s:Nat->Int×Int)(k:Nat):GB s (k+1)=GB s k++[zG (s k)]:=by unfold GB;rw[Ii,Ga];rfl
theorem pL(s:Nat->Int×Int)(c:Nat):(GB s c).length=c:=by simp[GB]
theorem AS{s:Nat->Int×Int}{c:Nat}(ok:∀i,i<c->dD (s i)){h:HI}{x:Dt}(f:EA h x=ε (GB s c)){m:IB}(r:SC c m):vJ [x,zB m] h=ε (.bl (TB s m),h):=by
 obtain⟨a,b,d,e⟩:=r;have q:=RH f (LH (s:=s) a);have p:=RH f (LH (s:=s) b);have u:=fun h=>BS (ok _ a) (ok _ b) h
 have y:=SZ m.2.1 (AB (s m.1) (s m.2.2));have o:∀k:HI,pA (zB m) (.int 1) k=ε (.int (m.1:Nat),k):=fun z=>rfl
 have n:∀k:HI,pA (zB m) (.int 2) k=ε (.int (m.2.1:Nat),k):=fun z=>rfl
 have j:∀k:HI,pA (zB m) (.int 3) k=ε (.int (m.2.2:Nat),k):=fun z=>rfl
 have g:=fun(h:HI)=>J1 (h:=h) (i:=(m.2.1:Int)) (show(0:Int)<=((AB (s m.1) (s m.2.2):Nat):Int) by omega)
 dsimp![vJ,AV,Ti,Vu,Ui,OA,vA,sA,NA,DA,zA,Rr,o,n,j,q,p,u,g,nu,cM,OD,y,WA];rfl
def fP(c:Nat)(s:Nat->Int×Int):ml->Prop
 | .ways m=>SC c m/\TB s m=true
 | .long x=>IT c s x
 | .one g=>(∀m∈g,SC c m)/\MS s g/\g.length<=6
theorem uO{c:Nat}{s:Nat->Int×Int}(ok:∀i,i<c->dD (s i)):∀(fs:Ni ml)(f:MA),(∀x∈fs,fP c s x)->nw c f s->nw c (fD f fs) s
 | [],f,_,q=>q
 | x::fs,f,h,q=>by
  have j:∀y∈fs,fP c s y:=fun y n=>h y (by simp[n])
  cases x with
  | ways m=>obtain⟨⟨a,b,d,e⟩,k⟩:=h (.ways m) ⋯;exact uO ok fs _ j (q.nar ok a b d k)
  | long y=>exact uO ok fs _ j q
  | one g=>exact uO ok fs _ j q
theorem WN{c:Nat}:∀(fs:Ni ml)(f:MA),(∀x∈fs,uD c x)->(∀i<c,f i i=64)->∀i<c,fD f fs i i=64
 | [],f,_,q=>q
 | x::fs,f,h,q=>by
  have j:∀y∈fs,uD c y:=fun y n=>h y (by simp[n])
  cases x with
  | ways m=>obtain⟨a,b,d,e⟩:SC c m:=h (.ways m) ⋯;exact WN fs _ j (xR q d _)
  | long y=>exact WN fs _ j q
  | one g=>exact WN fs _ j q
theorem vO:∀{fs:Ni ml}{g:Ni IB},g∈nC fs->ml.one g∈fs
 | [],g,h=>by cases h
 | f::fs,g,h=>by
  cases f with
  | one x=>
   rcases Ba.mp h with rfl | h
   . simp
   . simp[vO h]
  | ways m=>exact nW _ (vO h)
  | long m=>exact nW _ (vO h)
theorem gO:∀{fs:Ni ml}{x:Ln},x∈YC fs->ml.long x∈fs
 | [],g,h=>by cases h
 | f::fs,g,h=>by
  cases f with
  | long x=>
   rcases Ba.mp h with rfl | h
   . simp
   . simp[gO h]
  | ways m=>exact nW _ (gO h)
  | one m=>exact nW _ (gO h)
theorem kw{c:Nat}{s:Nat->Int×Int}(ok:∀i,i<c->dD (s i)):nw c kC s:=fun i d j b a=>by
 have w:=vE (ok i d) (ok j b);have t:∀k<13,(8191:Nat).testBit k=true:=by decide
 unfold kC;rw[dz a];exact t _ w
structure ay(c:Nat)(h:HI)(x:Dt)(ds:List Dt)(fs:List ml):Prop where
 at':x=.lst ds\/∃a,x=.ref a/\h[a]?=ε (.lst ds)
 fa:ad h ds fs
 ok:∀x∈fs,uD c x
 sg:∀x∈nC fs,x.length<=1000
 len:fs.length<=100
theorem ay.up{c:Nat}{h h':HI}{x:Dt}{ds:Ni Dt}{fs:Ni ml}(q:ay c h x ds fs)(u:my h h'):ay c h' x ds fs:=
 ⟨q.at'.imp id fun⟨a,e,k⟩=>⟨a,e,u.2 _ _ k⟩,q.fa.up u,q.ok,q.sg,q.len⟩
theorem ay.src{c:Nat}{h:HI}{x:Dt}{ds:Ni Dt}{fs:Ni ml}(q:ay c h x ds fs):∃src,wH (x,h)=ε (src,h)/\(∀b,Up h b->∀k,src.at b k=ε ds[k]?)/\src.fuel h=ds.length+1:=by
 rcases q.at' with rfl | ⟨a,rfl,e⟩
 . exact⟨.vals ds,by rw[TF],fun z z z=>rfl,rfl⟩
 . exact⟨.rf a,ME e,fun b u k=>by simp![mv.at,u.get e],by simp![mv.fuel,e]⟩
theorem ay.more{c:Nat}{h:HI}{x:Dt}{ds:Ni Dt}{fs:Ni ml}(q:ay c h x ds fs){m:IB}(i:SC c m)(j:fs.length<=99) :
 ∃a b,ZE x (.lst [zB m]) h=ε (.ref a,b)/\uH x (.lst [zB m]) h=ε (.lst (ds++[zB m]),h)/\Up h b/\kM c b a (fs++[.ways m])/\ay c h (.lst (ds++[zB m])) (ds++[zB m]) (fs++[.ways m]):=by
 have lt:=q.fa.len;have d:EA h x=ε ds:=by
  rcases q.at' with rfl | ⟨a,rfl,e⟩
  . rfl
  . exact NE e
 have of:∀fs:Ni ml,nC (fs++[.ways m])=nC fs:=by
  intro fs
  induction fs with
  | nil=>rfl
  | cons f fs ih=>cases f<;>simp[nC,ih]
 have g:ds.length+(0+1)<=sizeLine:=by simp[sizeLine];omega
 have ok:∀y∈fs++[.ways m],uD c y:=fun y hy=>by
  rcases Bo.mp hy with hy | hy
  . exact q.ok y hy
  . rw[Ao.mp hy];exact i
 have sg:∀y∈nC (fs++[.ways m]),y.length<=1000:=fun y hy=>by rw[of]at hy;exact q.sg y hy
 have u:Up h (h++[Ob.lst (ds++[zB m])]):=Up.app _ _;have F:ad h (ds++[zB m]) (fs++[.ways m]):=q.fa.snoc rfl;refine⟨h.length,h++[.lst (ds++[zB m])],?_,?_,u,⟨⟨_,by simp,F.up u.l⟩,ok,sg,by simp;omega⟩,.inl rfl,F,ok,sg,by simp;omega⟩
 . simp![ZE,d,WG,Wa,Ss,Uo,dh g]
 . simp![uH,d,WG,Wa,Ss,Uo,dh g]
theorem gX{s:Nat->Int×Int}:∀(g:Ni IB)(a k:Nat),(∀(i:Nat) m,g[i]?=ε m->TB s m=decide (a+i=k))->(g.map (TB s)).countP (· ==true)=if a<=k/\k<a+g.length then 1 else 0
 | [],a,k,_=>by rw[dz (show ¬(a<=k/\k<a+([]:Ni IB).length) by simp)];rfl
 | m::g,a,k,H=>by
  have d:=H 0 m rfl;have ih:=gX g (a+1) k (fun i x b=>by rw[H (i+1) x (by simpa using b)];congr 1;rw[show a+(i+1)=a+1+i by omega]);rw[Ti,countP_cons,ih,d,Ss];by_cases z:a=k
  . have A:¬(a+1<=k/\k<a+1+g.length):=by omega
    have B:a<=k/\k<a+(g.length+1):=by omega
    have C:decide (a+0=k)=true:=eO nofun;rw[dz A,dh B,C];rfl
  . have C:decide (a+0=k)=false:=eH nofun;by_cases y:a+1<=k/\k<a+1+g.length
    . have B:a<=k/\k<a+(g.length+1):=by omega
      rw[dh y,dh B,C];rfl
    . have B:¬(a<=k/\k<a+(g.length+1)):=by omega
      rw[dz y,dz B,C];rfl
theorem Iz{c:Nat}(q:1<=c){t:Nat->Int}(ok:∀i,i<c->dD (cD t i)):(List.range c).map (fun k=>kB (2*c) t (2*k)) ≠ []/\RB ((List.range c).map fun k=>kB (2*c) t (2*k))=0:=by
 obtain⟨h,g⟩:=Ry (n:=2*c) nofun t;have ne:(List.range c).map (fun k=>kB (2*c) t (2*k)) ≠ []:=fun z=>by have:=congrArg List.length z;simp at this;omega
 refine⟨ne,?_⟩;obtain⟨e,d⟩:=FH _ h;obtain⟨m,j⟩:=FH _ ne;rw[g]at e d;obtain⟨p,a,r⟩:=Bs.mp e;obtain⟨k,b,s⟩:=Bs.mp m;have a:=Bu.mp a;have b:=Bu.mp b;have y:=d (kB (2*c) t (2*k)) (mem_map_of_mem (Bu.mpr nofun));have x:=j (kB (2*c) t (2*(p/2))) (Bs.mpr ⟨p/2,Bu.mpr nofun,rfl⟩);have u:kB (2*c) t (2*(p/2))<=kB (2*c) t p:=by
  rcases(show p=2*(p/2)\/p=2*(p/2)+1 by omega)with z | z
  . rw[<- z];exact Int.le_refl _
  . have o:=ok (p/2) nofun;have f:t (2*(p/2))<t (2*(p/2)+1):=o;rw[<- z]at f;unfold kB;omega
 omega
theorem jt{c:Nat}{t:Nat->Int}(n:Nat)(ok:∀i,i<c->dD (cD t i)):∀i,i<c->dD (cD (kB n t) i):=fun i a=>by have:t (2*i)<t (2*i+1):=ok i a;show kB n t (2*i)<kB n t (2*i+1);unfold kB;omega
theorem Ow(x a b d:Int):iC (x-d) (a-d) (b-d)=iC x a b:=by have i:(x-d<a-d)=(x<a):=propext ⟨fun h=>by omega,fun h=>by omega⟩;have g:(x-d=a-d)=(x=a):=propext ⟨fun h=>by omega,fun h=>by omega⟩;have f:(x-d<b-d)=(x<b):=propext ⟨fun h=>by omega,fun h=>by omega⟩;have e:(x-d=b-d)=(x=b):=propext ⟨fun h=>by omega,fun h=>by omega⟩;unfold iC;simp![i,g,f,e]
theorem uh(t:Nat->Int)(n i j:Nat):AB (cD (kB n t) i) (cD (kB n t) j)=AB (cD t i) (cD t j):=by unfold AB cD kB;simp![Ow]
theorem sO{c:Nat}{s:Nat->Int×Int}(ok:∀i,i<c->dD (s i)):∀(fs:Ni ml)(_:∀x∈fs,uD c x)(f:MA),aB c f->nw c (fD f fs) s->nw c f s/\∀m,ml.ways m∈fs->TB s m=true
 | [],_,f,_,q=>⟨q,fun m p=>by cases p⟩
 | x::fs,h,f,o,q=>by
  have n:∀y∈fs,uD c y:=fun y j=>h y (by simp[j])
  cases x with
  | ways m=>
   obtain⟨a,b,d,e⟩:SC c m:=h (.ways m) ⋯;obtain⟨q1,H⟩:=sO ok fs n (DB f m.1 m.2.1 m.2.2) (NH o a b d _) q;obtain⟨q2,r⟩:=q1.gr ok a b d o;refine⟨q2,fun y j=>?_⟩;rcases Ba.mp j with z | z
   . cases z;exact r
   . exact H y z
  | long y=>obtain⟨q1,H⟩:=sO ok fs n f o q;exact⟨q1,fun y j=>(Ba.mp j).elim (fun z=>by cases z) (H y)⟩
  | one g=>obtain⟨q1,H⟩:=sO ok fs n f o q;exact⟨q1,fun y j=>(Ba.mp j).elim (fun z=>by cases z) (H y)⟩
theorem tX(t:Nat->Int)(n:Nat)(m:IB):TB (cD (kB n t)) m=TB (cD t) m:=by unfold TB;rw[uh]
theorem xO:∀{fs:Ni ml}{g:Ni IB},ml.one g∈fs->g∈nC fs
 | f::fs,g,h=>by
  rcases Ba.mp h with rfl | h
  . simp[nC]
  . have:=xO h;cases f<;>simp[nC,this]
theorem vW:∀{fs:Ni ml}{x:Ln},ml.long x∈fs->x∈YC fs
 | f::fs,x,h=>by
  rcases Ba.mp h with rfl | h
  . simp[YC]
  . have:=vW h;cases f<;>simp[YC,this]
def yC(c:Nat)(s:Nat->Int×Int):ml->Bool
 | .ways m=>TB s m
 | .long x=>decide (x.2.1*((2*c+1:Nat):Int)<=(s x.1).2-(s x.1).1)&&decide ((s x.1).2-(s x.1).1<=x.2.2*((2*c+1:Nat):Int))
 | .one g=>decide ((g.map (TB s)).countP (· ==true)=1)
theorem eW{f:IB->Bool}:∀g:Ni IB,(g.map f).countP (· ==true)=0->∀m∈g,f m=false
 | [],_,m,hm=>by cases hm
 | x::g,h,m,hm=>by
  rw[Ti,countP_cons]at h;cases e:f x with
  | true=>rw[e]at h;simp at h
  | false=>
   rw[e]at h;rcases Ba.mp hm with rfl | hm
   . exact e
   . exact eW g (by simpa using h) m hm
theorem QW{f:IB->Bool}:∀g:Ni IB,(g.map f).countP (· ==true)=1->∃k,k<g.length/\∀(i:Nat) m,g[i]?=ε m->f m=decide (i=k)
 | [],h=>by simp at h
 | x::g,h=>by
  rw[Ti,countP_cons]at h;cases e:f x with
  | true=>
   rw[e]at h;have z:=eW g (by simpa using h);refine⟨0,by simp,fun i m a=>?_⟩;cases i with
   | zero=>simp at a;rw[<- a,e];rfl
   | succ i=>rw[z m (ju (by simpa using a))];rfl
  | false=>
   rw[e]at h;obtain⟨k,b,H⟩:=QW g (by simpa using h);refine⟨k+1,by simpa using b,fun i m a=>?_⟩;cases i with
   | zero=>simp at a;rw[<- a,e];simp
   | succ i=>rw[H i m (by simpa using a)];simp
theorem Wn{c:Nat}{s:Nat->Int×Int}{f:ml}(ok:uD c f)(sg:∀g,f=.one g->g.length<=6)(k:yC c s f=true):fP c s f:=by
 cases f with
 | ways m=>exact⟨ok,k⟩
 | long x=>simp![yC,vm,decide_eq_true_eq]at k;exact⟨ok,k.1,k.2⟩
 | one g=>exact⟨ok,QW g (of_decide_eq_true k),sg g rfl⟩
theorem Nr{c:Nat}{fs:Ni ml}(fo:∀x∈fs,uD c x){t:Nat->Int}(K:IP c (YC fs) (fD kC fs) (nC fs) t):fs.all (yC c (cD (kB (2*c) t)))=true:=by
 obtain⟨_,H⟩:=sO K.ok fs fo kC (AI c) K.net;refine all_eq_true.mpr fun f a=>?_
 cases f with
 | ways m=>show TB _ m=true;rw[tX];exact H m a
 | long x=>
  have q:=K.len x (vW a);have e:kB (2*c) t (2*x.1+1)-kB (2*c) t (2*x.1)=t (2*x.1+1)-t (2*x.1):=by unfold kB;omega
  show(decide (x.2.1*((2*c+1:Nat):Int)<=kB (2*c) t (2*x.1+1)-kB (2*c) t (2*x.1))&&decide (kB (2*c) t (2*x.1+1)-kB (2*c) t (2*x.1)<=x.2.2*((2*c+1:Nat):Int)))=true;rw[e,eO q.1,eO q.2];rfl
 | one g=>obtain⟨k,h,d⟩:=K.one g (xO a);refine eO ?_;rw[gX g 0 k (fun i m b=>by rw[tX,d i m b,Aa])];rw[dh nofun]
theorem Hv{s:Nat->Int×Int}{c:Nat}(ok:∀i,i<c->dD (s i))(U:c<=100){h:HI}{x fx:Dt}(B:EA h x=ε (GB s c)){f:ml}{d:Dt}(q:bi h d f)(fo:uD c f)(sg:∀g,f=.one g->g.length<=1000)(y:Oa Dt) :
 ∃M,AH [ε x,ε fx,ε (.int ((2*c+1:Nat):Int)),ε d,y] h=ε (if yC c s f=true then .nx [ε x,ε fx,ε (.int ((2*c+1:Nat):Int)),ε d,M] h else .rt (.bl false) h):=by
 have u:=fun(l:LI) (p:l[3]?=ε (ε d))=>X2 q l h 3 p
 have o:=fun(l:LI) (p:l[3]?=ε (ε d))=>V2 q l h 3 p
 have e:=fun(l:LI) (p:l[3]?=ε (ε d))=>OS q l h 3 p
 have u:=u [ε x,ε fx,ε (.int ((2*c+1:Nat):Int)),ε d,y] rfl;have o:=o [ε x,ε fx,ε (.int ((2*c+1:Nat):Int)),ε d,y] rfl;have e:=e [ε x,ε fx,ε (.int ((2*c+1:Nat):Int)),ε d,y] rfl;generalize a:AH [ε x,ε fx,ε (.int ((2*c+1:Nat):Int)),ε d,y] h=X;simp![AH,JA,dB,bG,HA,u,fA,KA]at a;cases f with
 | ways m=>
  have qd:d=zB m:=q;subst qd;have r:=AS ok B fo;refine⟨y,?_⟩;cases z:TB s m with
  | true=>rw[z]at r;simp![CK,dG,gF,HA,NA,DA,zA,jA,Ro,Rr,kA,fA,Ui,r,KA,uq,Vi,eG,PB,LA,JA,dB,bG,e,jH,o,rK]at a;rw[show yC c s (.ways m)=true from z,dh rfl];exact a.symm
  | false=>rw[z]at r;simp![CK,dG,gF,HA,NA,DA,zA,jA,sA,Ro,Rr,kA,fA,Ui,r,KA,uo,OA,dC]at a;rw[show yC c s (.ways m)=false from z,dz Wk];exact a.symm
 | long v=>
  have qd:d=.tup [.str "long", .int (v.1:Nat),.int v.2.1,.int v.2.2]:=q;have O:=RH B (LH (s:=s) (show v.1<c from fo));have D:∀H:HI,pA d (.int 1) H=ε (.int (v.1:Nat),H):=fun H=>by rw[qd];rfl
  have S:∀H:HI,pA d (.int 2) H=ε (.int v.2.1,H):=fun H=>by rw[qd];rfl
  have R:∀H:HI,pA d (.int 3) H=ε (.int v.2.2,H):=fun H=>by rw[qd];rfl
  have I:=fun(i:Int) (h:HI)=>FF (h:=h) (i:=i) (j:=((2*c+1:Nat):Int)) (Or.inr ⟨by omega,by omega⟩)
  refine⟨ε (.int ((s v.1).2-(s v.1).1)),?_⟩;simp![CK,Vi,eG,PB,fA,LA,JA,dB,bG,HA,e,jH,KA,o,rK,dG,vB,vA,jA,sA,Ro,Rr,kA,D,O,zG,YB,rC,DF,Uu,vM,Vo,Va,DC,S,I,HK]at a;by_cases F:(s v.1).2-(s v.1).1<v.2.1*((2*c+1:Nat):Int)
  . rw[eO F]at a;simp![dG,fA,OA,sA]at a;rw[dz (by simp![yC,vm,decide_eq_true_eq];omega)];exact a.symm
  . rw[eH F]at a;simp![Vi,eG,fA,R,I,UM,KA]at a;by_cases E:v.2.2*((2*c+1:Nat):Int)<(s v.1).2-(s v.1).1
    . rw[eO E]at a;simp![dG,OA,sA,fA]at a;rw[dz (by simp![yC,vm,decide_eq_true_eq];omega)];exact a.symm
    . rw[eH E]at a;simp![Vi,eG]at a;rw[dh (by simp![yC,vm,decide_eq_true_eq];omega)];exact a.symm
 | one g=>
  obtain⟨Y,qd,n,rfl,J⟩:=q;have D:∀H:HI,pA d (.int 1) H=ε (.ref n,H):=fun H=>by rw[qd];rfl
  have W:=sg g rfl;have L:=NW (te:=CQ) (i:=0) zB (fun m=>Dt.bl (TB s m)) g [none,ε x] h J (by simp[sizeLine];omega) (by
   intro m P;simp![CQ,NA,DA,zA,jA,Va,Ro,Rr,kA,fA,Ui,AS ok B (fo m P)])
  have Q:g.map (fun m=>Dt.bl (TB s m))=(g.map (TB s)).map Dt.bl:=by rw[map_map];rfl
  rw[Q]at L;have T:=fun(l:LI)=>Lh (l:=l) (h:=h) (fb:=eC (.bl true)) (bs:=g.map (TB s)) (b:=true) rfl
  refine⟨y,?_⟩;simp![CK,Vi,eG,PB,fA,LA,JA,dB,bG,HA,e,jH,KA,dG,vA,Wr,uF,OC,jA,sA,Ro,Rr,kA,D,ME J,dE,VG,ZD,La,L,T,IE]at a;by_cases z:(g.map (TB s)).countP (· ==true)=1
  . have C:decide ((((g.map (TB s)).countP (· ==true):Nat):Int)=1)=true:=eO nofun;rw[C]at a;simp![uq,Vi,eG,PB,fA,LA,dB,HA,o,rK,KA]at a;rw[dh (show yC c s (.one g)=true from eO z)];exact a.symm
  . have C:decide ((((g.map (TB s)).countP (· ==true):Nat):Int)=1)=false:=eH nofun;rw[C]at a;simp![uo,dG,OA,sA,fA,dC]at a;rw[dz (by rw[show yC c s (.one g)=false from eH z];exact Wk)];exact a.symm
theorem Iv{s:Nat->Int×Int}{c:Nat}(ok:∀i,i<c->dD (s i))(D:c<=100){h:HI}{x fx:Dt}(C:EA h x=ε (GB s c)){src:mv}{ds:Ni Dt}{fs:Ni ml}(hs:∀k,src.at h k=ε ds[k]?)(F:ad h ds fs)(fo:∀f∈fs,uD c f)(sg:∀g∈nC fs,g.length<=1000) :
 ∀(n k:Nat)(d a:Oa Dt),n=ds.length-k+1->k<=ds.length->∃m j,JB (CA 3) AH src n k [ε x,ε fx,ε (.int ((2*c+1:Nat):Int)),d,a] h=ε (if(fs.drop k).all (yC c s)=true then .nx [ε x,ε fx,ε (.int ((2*c+1:Nat):Int)),m,j] h else .rt (.bl false) h):=by
 intro n
 induction n with
 | zero=>intro k _ _ e;omega
 | succ n ih=>
  intro k d a J L;by_cases b:k<ds.length
  . obtain⟨f,p,q⟩:=F.get (je b);have u:=ju p;obtain⟨o,E⟩:=Hv ok D C (fx:=fx) q (fo f u) (fun g e=>sg g (xO (e ▸ u))) a;have I:fs.drop k=f::fs.drop (k+1):=by obtain⟨q1,q2⟩:=Wi p;rw[<- q2];exact zu q1
    obtain⟨B,y,e2⟩:=ih (k+1) (ε ds[k]) o nofun nofun;have st:∀r,JB (CA 3) AH src (n+1) k [ε x,ε fx,ε (.int ((2*c+1:Nat):Int)),d,a] h=r->(if yC c s f=true then JB (CA 3) AH src n (k+1) [ε x,ε fx,ε (.int ((2*c+1:Nat):Int)),ε ds[k],o] h else ε (.rt (.bl false) h))=r:=by intro r e;rw[<- e];simp![JB,hs k,je b,zE,Wa,Vo,Va,E];cases yC c s f<;>rfl
    have:=st _ rfl;rw[I,Ka];cases z:yC c s f with
    | true=>rw[z,dh rfl,e2]at this;exact⟨B,y,this.symm⟩
    | false=>rw[z,dz Wk]at this;exact⟨none,none,by rw[<- this];rfl⟩
  . have H:fs.drop k=[]:=Ms (by rw[<- F.len];omega);refine⟨d,a,?_⟩;simp![JB,hs k,jo (show ds.length<=k by omega),H,all_nil,dG]
theorem bZ{s:Nat->Int×Int}{c:Nat}(ok:∀i,i<c->dD (s i))(r:c<=100){h:HI}{x fx:Dt}(b:EA h x=ε (GB s c)){ds:Ni Dt}{fs:Ni ml}(q:ay c h fx ds fs):AJ [x,fx] h=ε (.bl (fs.all (yC c s)),h):=by
 obtain⟨src,p,o,n⟩:=q.src;have d:=UJ b;rw[pL]at d;have m:=fun(h:HI)=>FF (h:=h) (i:=2) (j:=(c:Int)) (Or.inl ⟨by decide,by decide⟩)
 have y:2*(c:Int)+1=((2*c+1:Nat):Int):=by omega
 obtain⟨g,e,lp⟩:=Iv ok r b (fx:=fx) (o h (Up.refl h)) q.fa q.ok q.sg (ds.length+1) 0 none none nofun (m8 _);rw[drop_zero,<- n]at lp;have u:xD (CA 3) AH [ε x,ε fx,ε (.int ((2*c+1:Nat):Int)),none,none] (src,h)=ε (if fs.all (yC c s)=true then .nx [ε x,ε fx,ε (.int ((2*c+1:Nat):Int)),g,e] h else .rt (.bl false) h):=lp;generalize a:AJ [x,fx] h=X;dsimp![AJ,jV,Ti (f:=some),Vu (f:=some),Wu,Wo,JA,vB,vA,EB,sA,Rr,d,m,UD,y,Vo,Va,LA,qD,OC,p,u]at a;cases z:fs.all (yC c s)with
 | true=>rw[z,dh rfl]at a;simp![fA,LA,OA,sA,WA]at a;exact a.symm
 | false=>rw[z,dz Wk]at a;simp![dC,WA]at a;exact a.symm
theorem Wq{c:Nat}(d:1<=c)(H:c<=100){t:Nat->Int}(ok:∀i,i<c->dD (cD t i)){h:HI}{fx:Dt}{ds:Ni Dt}{fs:Ni ml}(q:ay c h fx ds fs)(k:fs.all (yC c (cD (kB (2*c) t)))=true):nJ [.lst (ED c (kB (2*c) t)),.int (c:Nat),fx] h=ε (.bl true,h):=by
 have a:=jt (2*c) ok;obtain⟨m,j⟩:=Iz d ok;generalize kB (2*c) t=u at a m j k;have p:=bZ a H (x:=.lst (ED c u)) (h:=h) rfl q;rw[k]at p;have pl:(ED c u).length=c:=by simp[ED]
 have I:∀(i:Int)(h:HI),aL [.int i] h=ε (.bl true,h):=fun i h=>by simp[aL,mV]
 obtain⟨O,b,e,⟨y,rfl⟩,F⟩:=Ut (i:=3) (body:=gN) (fun k:Nat=>Dt.tup [.int (u (2*k)),.int (u (2*k+1))]) (fun l b=>(∃y,l=[ε (.lst (ED c u)),ε (.int (c:Nat)),ε fx,y])/\b=h) (List.range c) (by
  rintro k E l b ⟨⟨y,rfl⟩,rfl⟩;have o:u (2*k)<u (2*k+1):=a k (Bu.mp E);have L:decide (u (2*k+1)<=u (2*k))=false:=eH nofun;have D:∀xs,jG b (.tup xs)=ε "tuple" :=fun z=>rfl
  have B:SM.HF "tuple" "tuple" =true:=by decide
  refine⟨.nx [ε (.lst (ED c u)),ε (.int (c:Nat)),ε fx,ε (.tup [.int (u (2*k)),.int (u (2*k+1))])] b,?_,⟨_,rfl⟩,rfl⟩;simp![gN,JA,dB,DC,gF,HA,bK,vA,jA,sA,EB,Vo,Va,Ro,Rr,kA,fA,D,B,Uu,KA,uq,Vi,eG,pS,Ss,Uo,Nat.reduceAdd,Hu,IE,decide_true,NA,DA,zA,YB,rC,DF,Ui,I,PB,LA,eQ,L]) [ε (.lst (ED c u)),ε (.int (c:Nat)),ε fx,none] h ⟨⟨_,rfl⟩,rfl⟩
 rw[F]at e;have J:QB (CA 3) gN (ED c u) [ε (.lst (ED c u)),ε (.int (c:Nat)),ε fx,none] h=ε (.nx [ε (.lst (ED c u)),ε (.int (c:Nat)),ε fx,y] h):=e;have M:=sF (te:=fN) (i:=0) (tc:=nB) (fun k:Nat=>Dt.tup [.int (u (2*k)),.int (u (2*k+1))]) (fun k=>Dt.int (u (2*k))) h (List.range c) [none] (by
  intro k _;exact⟨by simp,rfl⟩)
 have r:=rE (l:=[none]) (h:=h) (CA 0) nB fN (xs:=ED c u) (by rw[pl];simp[sizeLine];omega);have g:CD (CA 0) nB fN (ED c u) [none] h=ε (((List.range c).map fun k=>u (2*k)).map Dt.int,h):=by rw[map_map];exact M
 rw[g]at r;have n:=X0 (h:=h) m;rw[j]at n;have C:∀xs,jG h (.lst xs)=ε "list" :=fun z=>rfl
 have s:SM.HF "list" "list" =true:=by decide
 dsimp![nJ,EU,Ti (f:=some),Vu (f:=some),Wu,Wo,JA,dB,DC,gF,HA,bK,vA,sA,EB,Rr,C,s,Uu,KA,uq,Vi,eG,XO,pl,IE,decide_true,PB,LA,qD,OC,TF,tF,J,OA,vG,uF,dE,ZD,r,n,OD,oG,NA,DA,zA,Ui,p,WA]
def cr(lo:Nat)(h:HI)(d:Dt):ml->Prop
 | .one g=>∃n,d=.tup [.str "one", .ref n]/\lo<=n/\h[n]?=ε (.lst (g.map zB))/\g.length<=6
 | f=>bi h d f
theorem cr.at{lo:Nat}{h:HI}{d:Dt}{f:ml}(q:cr lo h d f):bi h d f:=by
 cases f with
 | one g=>obtain⟨n,e,_,q,_⟩:=q;exact⟨_,e,n,rfl,q⟩
 | ways m=>exact q
 | long x=>exact q
theorem cr.up{lo a:Nat}(b:a<=lo){h h':HI}(u:AT lo h h'){d:Dt}{f:ml}(q:cr lo h d f):cr a h' d f:=by
 cases f with
 | one g=>obtain⟨n,e,l,q,s⟩:=q;exact⟨n,e,by omega,u _ _ l q,s⟩
 | ways m=>exact q
 | long x=>exact q
inductive aw(lo:Nat)(h:HI):List Dt->List ml->Prop where
 | nil:aw lo h [] []
 | cons {d:Dt} {f:ml} {ds:List Dt} {fs:List ml} (a:cr lo h d f) (r:aw lo h ds fs):aw lo h (d::ds) (f::fs)
theorem aw.up{lo b:Nat}(d:b<=lo){h h':HI}(u:AT lo h h'){ds:Ni Dt}{fs:Ni ml}(q:aw lo h ds fs):aw b h' ds fs:=by
 induction q with
 | nil=>exact .nil
 | cons a r ih=>exact .cons (a.up d u) ih
theorem aw.at{lo:Nat}{h:HI}{ds:Ni Dt}{fs:Ni ml}(q:aw lo h ds fs):ad h ds fs:=by
 induction q with
 | nil=>exact .nil
 | cons a r ih=>exact .cons a.at ih
theorem aw.snoc{lo:Nat}{h:HI}{ds:Ni Dt}{fs:Ni ml}(q:aw lo h ds fs){d:Dt}{f:ml}(a:cr lo h d f):aw lo h (ds++[d]) (fs++[f]):=by
 induction q with
 | nil=>exact .cons a .nil
 | cons b r ih=>exact .cons b ih
theorem aw.sizes{lo:Nat}{h:HI}{ds:Ni Dt}{fs:Ni ml}(q:aw lo h ds fs):∀x∈nC fs,x.length<=6:=by
 induction q with
 | nil=>intro x hx;cases hx
 | @cons d f ds fs a r ih=>
  cases f with
  | one g=>
   obtain⟨n,_,_,_,s⟩:=a;intro x hx;simp![nC,Ba]at hx;rcases hx with rfl | hx
   . exact s
   . exact ih x hx
  | ways m=>exact ih
  | long x=>exact ih
theorem KU(x:Int){c:Nat}(D:c<=8):∃s:Nat->Int×Int,(∀i,dD (s i))/\∀h,kI [.int x,.int (c:Nat)] h=ε (.ref h.length,h++[.lst (GB s c)]):=by
 obtain⟨A,r⟩:=Classical.axiomOfChoice fun k:Nat=>XG x (20+(k:Int))
 obtain⟨B,q⟩:=Classical.axiomOfChoice fun k:Nat=>XG x (30+(k:Int))
 have f:=fun(i:Int) (h:HI)=>DD (h:=h) (i:=i) (show(0:Int)<30 by decide)
 have j:=fun(i:Int) (h:HI)=>DD (h:=h) (i:=i) (show(0:Int)<25 by decide)
 have n:=fun h=>XF (h:=h) (show(-(2^62):Int)<=(c:Int) by omega) (show(c:Int)<2^62 by omega)
 simp![nu]at n;obtain⟨s,hs⟩:∃s:Nat->Int×Int,∀k,s k=((A k:Int)%30,(A k:Int)%30+1+(B k:Int)%25):=⟨_,fun z=>rfl⟩
 refine⟨s,fun i=>by rw[hs];unfold dD;simp only;omega,fun h=>?_⟩;obtain⟨y,m,e,⟨b,a,rfl⟩,rfl⟩:=zL (i:=3) (body:=mQ) (fun(k:Nat)=>Dt.int (k:Int)) (fun k l m=>(∃b a,l=[ε (.int x),ε (.int (c:Nat)),ε (.ref h.length),b,a])/\m=h++[.lst (GB s k)]) c (by
  rintro k C l m ⟨⟨b,a,rfl⟩,rfl⟩;have o:(h++[Ob.lst (GB s k)])[h.length]?=ε (.lst (GB s k)):=by simp
  have p:=nG (l:=[ε (.int x),ε (.int (c:Nat)),ε (.ref h.length),ε (.int (k:Nat)),ε (.int ((A k:Int)%30))]) (h:=h++[Ob.lst (GB s k)]) (g:=QA (bA (eV 4) (bA (e2 FB (e2 FB (eV 4) (oe 1)) (e2 MB (qA ID [] (bA (eV 0) (bA (e2 FB (oe 30) (eV 3)) eA))) (oe 25))) eA))) (d:=zG (s k)) o (by
   rw[hs];simp![NC,DA,zA,vA,NA,jA,sA,Ro,Rr,kA,fA,UD,Ui,q k,j,Ss,Uo,Nat.reduceAdd,xH,dG];rfl) o (by rw[pL];simp[sizeLine];omega)
  have u:(h++[Ob.lst (GB s k)]).set h.length (.lst (GB s k++[zG (s k)]))=h++[.lst (GB s (k+1))]:=by rw[Hz];simp
  rw[u]at p;refine⟨.nx [ε (.int x),ε (.int (c:Nat)),ε (.ref h.length),ε (.int (k:Nat)),ε (.int ((A k:Int)%30))] (h++[.lst (GB s (k+1))]),?_,⟨_,_,rfl⟩,rfl⟩;simp![mQ,JA,vB,NA,DA,zA,vA,jA,sA,Vo,Va,Ro,Rr,kA,fA,UD,Ui,r k,f,LA,XE,SF,p]) [ε (.int x),ε (.int (c:Nat)),ε (.ref h.length),none,none] (h++[.lst []]) ⟨⟨_,_,rfl⟩,by simp[GB]⟩
 dsimp![kI,uU,Ti,Vu,Wu,Wo,JA,vB,PH,zA,m8,Vo,Va,LA,qD,aK,Rr,n,tF,e,OA,WA]
theorem VS{a b:Nat}(e:a<8192)(d:b<8192):a|||b<8192:=Nat.or_lt_two_pow (n:=13) e d
theorem YS{k:Nat}(h:k<13):2^k<8192:=Nat.pow_lt_pow_right (by decide) h (m:=k) (n:=13)
theorem Jc(m b:Nat):m|||b|||b=m|||b:=Ie fun i=>by rw[Nat.testBit_or,Nat.testBit_or];cases m.testBit i<;>simp
theorem Cr(m b:Nat):(m|||b)&&&b=b:=Ie fun i=>by rw[zc,Nat.testBit_or];cases m.testBit i<;>simp
theorem MV{s:Nat->Int×Int}{c:Nat}(ok:∀i,dD (s i))(p:2<=c)(O:c<=8)(N:Nat)(f:Bool):∃m,SC c m/\∀h a,h[a]?=ε (.lst (GB s c))->pI [.ref a,.int (N:Nat),.bl f] h=ε (zB m,h):=by
 obtain⟨i,j,y,u,o,U⟩:=YW p O N;obtain⟨A,S⟩:=XG (N:Int) 3;obtain⟨B,Q⟩:=XG (N:Int) 4;have hw:=vE (ok i) (ok j);have T:=fun h=>BS (ok i) (ok j) h
 have r:=fun(x:Int) (h:HI)=>DD (h:=h) (i:=x) (show(0:Int)<5 by decide)
 have E:=fun h=>sP (h:=h) (MM hw)
 have F:(1:Int)*2^AB (s i) (s j)=((2^AB (s i) (s j):Nat):Int):=by simp
 have I:Builtin.bitAnd ((A&&&B:Nat):Int) 8191=((A&&&B&&&8191:Nat):Int):=MJ (A&&&B) 8191;have Z:A&&&B&&&8191<8192:=Nat.and_lt_two_pow _ (n:=13) (by decide);have d:4<=sizeLine:=by decide
 obtain⟨M,C,Y⟩:∃M:Nat,M<8192/\∀(l:LI)(h:HI)(k:Rs->Oa Rs),l[1]?=ε (ε (.int (N:Nat)))->l[6]?=ε (ε (.int ((A&&&B&&&8191:Nat):Int)))->fB (VB (mu (e2 YA (e2 MB (eV 1) (oe 5)) (oe 1))) (AA 6 (oe 8191)) UA l h) k=k (.nx (l.set 6 (ε (.int (M:Nat)))) h):=by
  by_cases z:(N:Int)%5=1
  . refine⟨8191,by decide,fun l h k q v=>?_⟩;simp![dB,HA,vA,jA,sA,q,kA,fA,r,OD,eO z,KA,dG,vB];rfl
  . refine⟨_,Z,fun l h k q a6=>?_⟩;have ls:l.set 6 (ε (.int ((A&&&B&&&8191:Nat):Int)))=l:=by obtain⟨lt,e⟩:=Wi a6;rw[<- e,set_getElem_self]
    simp![dB,HA,vA,jA,sA,q,kA,fA,r,OD,eH z,KA,Vi,eG,PB,ls]
 obtain⟨R,P,W⟩:∃R:Nat,R<8192/\Builtin.bitXor ((M|||2^AB (s i) (s j):Nat):Int) ((2^AB (s i) (s j):Nat):Int)=(R:Int):=by
  have H:=VS C (YS hw);refine⟨(M|||2^AB (s i) (s j))-2^AB (s i) (s j),Di (Nat.sub_le _ _) H,?_⟩;rw[aY,Jc,Cr];have:2^AB (s i) (s j)<=M|||2^AB (s i) (s j):=Nat.right_le_or
  omega
 refine⟨(i,if f=true then M|||2^AB (s i) (s j)else R,j),⟨y,u,o,?_⟩,fun h a da=>?_⟩
 . cases f
   . exact P
   . exact VS C (YS hw)
 . have g:EA h (.ref a)=ε (GB s c):=NE da;have L:=RH g (LH (s:=s) y);have J:=RH g (LH (s:=s) u);have D:=UJ g;rw[pL]at D;generalize b:pI [.ref a,.int (N:Nat),.bl f] h=X;dsimp![pI,yU,Ti,Vu,Wu,Wo,JA,vB,Y1,NA,DA,zA,EB,vA,sA,Rr,D,Ui,U,PL,Vo,Va,LA,L,J,T,E,nu,F,S,Q,cM,MJ,I]at b;rw[Y _ _ _ rfl rfl]at b;cases f with
   | true=>simp![Vo,Va,LA,JA,dB,HA,vA,jA,sA,Ro,Rr,kA,fA,KA,dG,OA,NC,DA,zA,rT,KL,Ss,Uo,Nat.reduceAdd,d,dC,WA]at b;exact b.symm
   | false=>simp![Vo,Va,LA,JA,dB,HA,vA,jA,sA,Ro,Rr,kA,fA,KA,Vi,eG,PB,OA,NC,DA,zA,rT,KL,tP,W,Ss,Uo,Nat.reduceAdd,d,dG,WA]at b;exact b.symm
theorem Cq {s:Nat->Int×Int} {c:Nat} (r:1<=c) (B:c<=8) (N:Nat):∃x:Ln,x.1<c/\∀h a,h[a]?=ε (.lst (GB s c))->jN [.ref a,.int (N:Nat)] h=ε (.tup [.str "long", .int (x.1:Nat),.int x.2.1,.int x.2.2],h):=by
 have d:N%c<c:=Ji _ nofun;have m:(N:Int)%(c:Int)=((N%c:Nat):Int):=rfl;generalize N%c=i at d m;refine⟨(i,max 0 (((s i).2-(s i).1)/(2*(c:Int)+1)-(N:Int)/8%3),((s i).2-(s i).1+(2*(c:Int)+1)-1)/(2*(c:Int)+1)+(N:Int)/32%3),d,fun h a da=>?_⟩;have f:EA h (.ref a)=ε (GB s c):=NE da;have q:=RH f (LH (s:=s) d);have g:=UJ f;rw[pL]at g;have o:=fun(x:Int) (h:HI)=>DD (h:=h) (i:=x) (show(0:Int)<(c:Int) by omega)
 have p:=fun(i:Int) (h:HI)=>DD (h:=h) (i:=i) (show(0:Int)<3 by decide)
 have y:=fun(i:Int) (h:HI)=>SH (h:=h) (i:=i) (j:=8) ⟨by decide,by decide⟩
 have e:=fun(i:Int) (h:HI)=>SH (h:=h) (i:=i) (j:=32) ⟨by decide,by decide⟩
 have u:=fun(i:Int) (h:HI)=>SH (h:=h) (i:=i) (j:=2*(c:Int)+1) ⟨by omega,by omega⟩
 have n:=fun(h:HI)=>FF (h:=h) (i:=2) (j:=(c:Int)) (Or.inl ⟨by decide,by decide⟩)
 have b:4<=sizeLine:=by decide
 dsimp![jN,sU,Ti,Vu,Wu,Wo,JA,vB,vA,sA,EB,bU,DA,zA,Rr,g,o,m,Vo,Va,LA,n,UD,q,zG,YB,rC,DF,Uu,vM,u,y,p,Cp,e,OA,NC,b,WA]
theorem Bx{s:Nat->Int×Int}{c:Nat}(ok:∀i,dD (s i))(u:2<=c)(E:c<=8)(x:Int)(g:Nat):∃f,uD c f/\∀(h:HI)(a:Nat),h[a]?=ε (.lst (GB s c))->∃d e,nI [.ref a,.int x,.int (g:Nat)] h=ε (d,h++e)/\cr h.length (h++e) d f:=by
 obtain⟨N,F⟩:=XG x 1;have o:=fun(x:Int) (h:HI)=>DD (h:=h) (i:=x) (show(0:Int)<8 by decide)
 have Z:=fun(x:Int) (h:HI)=>DD (h:=h) (i:=x) (show(0:Int)<3 by decide)
 have B:=fun(x:Int) (h:HI)=>DD (h:=h) (i:=x) (show(0:Int)<40 by decide)
 have H:=fun(i:Int) (h:HI)=>SH (h:=h) (i:=i) (j:=8) ⟨by decide,by decide⟩
 have I:=fun(i:Int) (h:HI)=>SH (h:=h) (i:=i) (j:=24) ⟨by decide,by decide⟩
 have C:(N:Int)/8=((N/8:Nat):Int):=rfl;have J:decide (((c:Nat):Int)=1)=false:=eH nofun;generalize p:(N:Int)%8=kd;have len:∀(h:HI)(a:Nat),h[a]?=ε (.lst (GB s c))->xB (.ref a) h=ε (.int (c:Nat),h):=fun h a da=>by rw[UJ (NE da),pL]
 by_cases L:kd=2
 . obtain⟨v,U,ev⟩:=Cq (s:=s) (show 1<=c by omega) E (N/8);refine⟨.long v,U,fun h a da=>⟨_,[],?_,rfl⟩⟩;have q2:=eO L;dsimp![nI,nN,Ti,Vu,Wu,Wo,Ui,JA,vB,NA,DA,zA,vA,sA,EB,Rr,F,Vo,Va,LA,dB,DC,HA,len h a da,OD,J,KA,Vi,eG,o,p,q2,OA,H,C,ev h a da,dC,WA]
 . have q2:=eH L;by_cases y:kd=3/\g<2
   . have q3:=eO y.1;have q4:decide (((g:Nat):Int)<2)=true:=eO (by have:=y.2;omega);have P:1+(N:Int)/8%3=((1+N/8%3:Nat):Int):=rfl;have W:1<=1+N/8%3:=by omega
     have O:1+N/8%3<=6:=by omega
     generalize 1+N/8%3=t at P W O;have r:(N:Int)/24%(t:Int)=((N/24%t:Nat):Int):=rfl;generalize N/24%t=ch at r;have Y:=fun(x:Int) (h:HI)=>DD (h:=h) (i:=x) (show(0:Int)<(t:Int) by omega)
     have mem:∀k:Nat,∃m,SC c m/\∃v:Nat,(∀h,ID [.int (N:Nat),.int (10+(k:Int))] h=ε (.int (v:Nat),h))/\∀h a,h[a]?=ε (.lst (GB s c))->pI [.ref a,.int (v:Nat),.bl (decide ((k:Int)=(ch:Int)))] h=ε (zB m,h):=fun k=>by obtain⟨v,D⟩:=XG (N:Int) (10+(k:Int));obtain⟨m,a,e⟩:=MV ok u E v (decide ((k:Int)=(ch:Int)));exact⟨m,a,v,D,e⟩
     obtain⟨M,Q⟩:=Classical.axiomOfChoice mem;refine⟨.one ((List.range t).map M),fun m hm=>?_,fun h a da=>?_⟩
     . obtain⟨k,_,rfl⟩:=Bs.mp hm;exact(Q k).1
     . have S:=fun h=>XF (h:=h) (show(-(2^62):Int)<=(t:Int) by omega) (show(t:Int)<2^62 by omega)
       simp![nu]at S;have ca:=sF (te:=iN) (i:=0) (tc:=nB) (fun k:Nat=>Dt.int (k:Int)) (fun k=>zB (M k)) h (List.range t) [none,ε (.ref a),ε (.int (N:Nat)),ε (.int (ch:Nat))] (by
        intro k _;obtain⟨_,v,D,n⟩:=Q k;refine⟨by simp,?_⟩;simp![iN,NA,DA,zA,vA,jA,sA,Va,Ro,Rr,kA,fA,UD,Ui,D,OD,n h a da])
       have T:=rE (l:=[none,ε (.ref a),ε (.int (N:Nat)),ε (.int (ch:Nat))]) (h:=h) (CA 0) nB iN (xs:=(List.range t).map fun(k:Nat)=>Dt.int (k:Int)) (by simp[sizeLine];omega);rw[ca]at T;refine⟨.tup [.str "one", .ref h.length],[.lst (((List.range t).map M).map zB)],?_,h.length,rfl,Ue _,by simp,by simpa using O⟩;dsimp![nI,nN,Ti (f:=some),Vu (f:=some),Wu,Wo,Ui,JA,vB,NA,DA,zA,vA,sA,EB,Rr,F,Vo,Va,LA,dB,DC,bG,HA,len h a da,OD,J,KA,Vi,eG,o,p,q2,PB,q3,HK,q4,H,Z,UD,P,I,Y,r,OA,NC,yO,aK,S,dE,VG,ZD,La,T,xH,dC,WA];rw[map_map];rfl
   . obtain⟨m,m1,n⟩:=MV ok u E (N/8) (!decide ((N:Int)/8%40=7));refine⟨.ways m,m1,fun h a da=>⟨_,[],?_,rfl⟩⟩;have n:=n h a da;have first:∀(k:Bool×HI->Oa Rs)(l:LI)(h:HI),l[3]?=ε (ε (.int (N:Nat)))->l[2]?=ε (ε (.int (g:Nat)))->fB (YI (mu (e2 YA (e2 MB (eV 3) (oe 8)) (oe 3))) (mu (e2 dI (eV 2) (oe 2))) l h) k=k (false,h):=by
      intro k l h R h2;by_cases q:kd=3
      . have q1:decide (((g:Nat):Int)<2)=false:=eH (fun z=>y ⟨q,by omega⟩);have q0:decide (kd=3)=true:=eO q;simp![bG,HA,vA,jA,R,h2,kA,fA,sA,o,p,OD,q0,KA,dG,HK,q1]
      . have q0:decide (kd=3)=false:=eH q;simp![bG,HA,vA,jA,R,kA,fA,sA,o,p,OD,q0,KA,Vi,eG]
     generalize b:nI [.ref a,.int x,.int (g:Nat)] h=X;dsimp![nI,nN,Ti,Vu,Wu,Wo,Ui,JA,vB,NA,DA,zA,vA,sA,EB,Rr,F,Vo,Va,LA,dB,DC,HA,len h a da,OD,J,KA,Vi,eG,o,p,q2,PB]at b;rw[first _ _ _ rfl rfl]at b;simp![Vi,eG,fA,LA,OA,NA,DA,zA,vA,jA,sA,Ro,Rr,kA,H,B,IE,C,Ui]at b;simp![C]at n;rw[n]at b;simp![fA,WA]at b;rw[Ui];exact b.symm
def UpX(r:Nat)(h h':HI):Prop:=h.length<=h'.length/\∀(n:Nat)(o:Ob),n≠r->h[n]?=ε o->h'[n]?=ε o
theorem gW{s:Nat->Int×Int}{c:Nat}(ok:∀i,dD (s i))(C:2<=c)(U:c<=8):∀(B:Ni Int)(j:Nat),∃fs,(∀f∈fs,uD c f)/\fs.length=B.length/\∀(h:HI)(a r:Nat)(ds:Ni Dt)(m:Ni ml)(o M E:Oa Dt),h[a]?=ε (.lst (GB s c))->h[r]?=ε (.lst ds)->a≠r->ds.length+B.length<=1000->aw (r+1) h ds m->
 ∃u L J h' p,QB (CA 4) TK (B.map Dt.int) [ε (.ref a),o,ε (.ref r),ε (.int (j:Nat)),M,E] h=ε (.nx [ε (.ref a),o,ε (.ref r),ε (.int u),L,J] h')/\h'[r]?=ε (.lst p)/\aw (r+1) h' p (m++fs)/\UpX r h h'
 | [],j=>⟨[],(fun z h=>nomatch h),rfl,fun h a r ds m o M E da I T Y F=>⟨_,_,_,h,ds,rfl,I,by rw[Ui];exact F,Ue _,fun z z z e=>e⟩⟩
 | x::B,j=>by
  obtain⟨f,fo,bd⟩:=Bx ok C U x j;obtain⟨fs,R,fl,lp⟩:=gW ok C U B (j+if jH f=true then 1 else 0);refine⟨f::fs,fun y hy=>?_,by simp[fl],fun h a r ds m o M E da I T Y F=>?_⟩
  . rcases Ba.mp hy with rfl | hy
    . exact fo
    . exact R y hy
  . rw[Ss]at Y;obtain⟨d,e,eb,Z⟩:=bd h a da;have rl:=(Wi I).1;have P:r<(h++e).length:=by rw[iu];omega
    have D:(h++e)[r]?=ε (.lst ds):=by rw[Xa rl];exact I
    have tg:=OS Z.at [ε (.ref a),o,ε (.ref r),ε (.int (j:Nat)),ε (.int x),ε d] (h++e) 5 rfl;have ei:∀b:Bool,RM (.bl b) (h++e)=ε (.int (if b=true then 1 else 0),h++e):=fun b=>by cases b<;>rfl
    have gq:((j:Nat):Int)+(if jH f=true then 1 else 0)=((j+if jH f=true then 1 else 0:Nat):Int):=by cases jH f<;>simp
    have ap:=nG (l:=[ε (.ref a),o,ε (.ref r),ε (.int ((j+if jH f=true then 1 else 0:Nat):Int)),ε (.int x),ε d]) (h:=h++e) (h':=h++e) (g:=eV 5) (d:=d) D (by simp![jA,Ro,Rr,kA]) D (by simp[sizeLine];omega);have bb:TK [ε (.ref a),o,ε (.ref r),ε (.int (j:Nat)),ε (.int x),E] h=ε (.nx [ε (.ref a),o,ε (.ref r),ε (.int ((j+if jH f=true then 1 else 0:Nat):Int)),ε (.int x),ε d] ((h++e).set r (.lst (ds++[d])))):=by simp![TK,JA,vB,NA,DA,zA,jA,Ro,Rr,kA,fA,Ui,eb,Vo,Va,LA];rw[vA];simp![jA,EB,Ro,Rr,kA,fA,tg,ei,UD,gq,LA,XE,SF,ap]
    have W:∀k,k≠r->((h++e).set r (.lst (ds++[d])))[k]?=(h++e)[k]?:=fun k Q=>by rw[lu (ni Q)]
    have U1:UpX r h ((h++e).set r (.lst (ds++[d]))):=⟨by simp,fun n O H q=>by rw[W n H];exact(Up.app h e).get q⟩;obtain⟨u,z4,z5,h',p,ew,S,F',U2⟩:=lp ((h++e).set r (.lst (ds++[d]))) a r (ds++[d]) (m++[f]) o (ε (.int x)) (ε d) (U1.2 _ _ T da) (by rw[tu P]) T (by simp;omega) (by
     refine aw.snoc (F.up (Ue _) (fun k O Q q=>?_)) (Z.up nofun (fun k O Q q=>?_))
     . exact U1.2 _ _ nofun q
     . rw[W k nofun];exact q)
    rw[ou]at F';refine⟨u,z4,z5,h',p,?_,S,F',su U1.1 U2.1,fun n O H q=>U2.2 _ _ H (U1.2 _ _ H q)⟩;simp![Ti,QB,zE,Wa,Vo,Va,bb,UZ,ew]
theorem Mq(b:Ni Int)(F:b.length<=63){s:Nat->Int×Int}{c:Nat}(ok:∀i,dD (s i))(d:2<=c)(B:c<=8):∃fs,(∀f∈fs,uD c f)/\fs.length<=63/\∀(h:HI)(a:Nat),h[a]?=ε (.lst (GB s c))->
 ∃ds h',YK [.ref a,.lst (b.map Dt.int)] h=ε (.ref h.length,h')/\h'[h.length]?=ε (.lst ds)/\aw (h.length+1) h' ds fs/\my h h':=by
 obtain⟨fs,y,H,lp⟩:=gW ok d B b 0;refine⟨fs,y,by omega,fun h a da=>?_⟩;have p:=(Wi da).1;obtain⟨e,u,r,h',j,C,m,D,U2⟩:=lp (h++[.lst []]) a h.length [] [] (ε (.lst (b.map Dt.int))) none none (by rw[Xa p];exact da) ⋯ nofun (by simp;omega) .nil;have up:∀(n:Nat)(o:Ob),h[n]?=ε o->h'[n]?=ε o:=fun n o q=>by have E:=(Wi q).1;exact U2.2 n o nofun ((Up.app h _).get q)
 refine⟨j,h',?_,m,D,by have:=U2.1;simp at this;omega,fun n x q=>up n _ q,fun n x q=>up n _ q⟩;have g:QB (CA 4) TK (b.map Dt.int) [ε (.ref a),ε (.lst (b.map Dt.int)),ε (.ref h.length),ε (.int 0),none,none] (h++[.lst []])=ε (.nx [ε (.ref a),ε (.lst (b.map Dt.int)),ε (.ref h.length),ε (.int e),u,r] h'):=C;dsimp![YK,FU,Ti (f:=some),Vu (f:=some),Wu,Wo,JA,vB,PH,zA,sA,m8,Vo,Va,LA,qD,OC,Rr,TF,tF,g,OA,WA]
noncomputable def lG(m:IB):IB:=(m.1,8191-m.2.1,m.2.2)
theorem RJ{c:Nat}{m:IB}(h:SC c m):SC c (lG m):=⟨h.1,h.2.1,h.2.2.1,Di (Nat.sub_le _ _) (by decide)⟩
theorem Bm{c:Nat}{s:Nat->Int×Int}(ok:∀i,i<c->dD (s i)){m:IB}(h:SC c m):TB s (lG m)=!TB s m:=by
 have w:=vE (ok _ h.1) (ok _ h.2.1);have e:8191-m.2.1=2^13-(m.2.1+1):=by omega
 unfold TB lG;simp only;rw[e,Nat.testBit_two_pow_sub_succ h.2.2.2,eO w,Ge]
theorem fS{k:Nat}(h:k<8192):Builtin.bitXor 8191 (k:Int)=((8191-k:Nat):Int):=by
 have b:(8191:Nat)&&&k=k:=by rw[Nat.and_comm,show(8191:Nat)=2^13-1 from rfl,Nat.and_two_pow_sub_one_eq_mod];exact Nat.mod_eq_of_lt h
 have d:(8191:Nat)|||k=8191:=Ie fun i=>by
  have:=congrArg (fun x=>x.testBit i) b;simp![zc]at this;rw[Nat.testBit_or];cases a:(8191:Nat).testBit i with
  | true=>rfl
  | false=>rw[a,Gs]at this;rw[<- this];rfl
 have:=aY 8191 k;rw[b,d]at this;rw[show((8191:Nat):Int)=8191 from rfl]at this;rw[this];omega
theorem GO{c:Nat}(b:1<=c)(d:c<=8){h:HI}{a:Nat}{fs:Ni ml}(F:kM c h a fs):∃A s x h',CF c 3 fs 12 A s/\pG [.int (c:Nat),.ref a,.int 3] h=ε (.tup [WH A.wd,x,.int (s:Nat)],h')/\ba h.length h' c A (.tup [WH A.wd,x])/\my h h':=
 Bw (m:=3) b d F (Jv b d (show(YC fs).length<=100 by have:=BJ fs;have:=F.len;omega) (IJ fs F.ok) 12 (fD kC fs) (nC fs) 0 (SG fs F.ok _ (AI c)) (aH fs F.ok) nofun nofun)
theorem KO{c:Nat}{fs:Ni ml}(ok:∀x∈fs,uD c x){A B:nz}{s r:Nat}(p:CF c 3 fs 12 A s)(q:CF c 3 fs 12 B r):A.wd=B.wd:=(vI 12 _ _ 0 A B s r (SG fs ok _ (AI c)) (aH fs ok) p q).1
theorem Kh{lo c:Nat}{h:HI}{A:nz}{x:Dt}(b:ba lo h c A (.tup [WH A.wd,x]))(w:A.wd=.clash):∃a,A=.clash a/\Yu lo h a x:=by
 cases A with
 | opn=>cases w
 | laid t=>cases w
 | clash a=>
  obtain⟨x',e,TA⟩:=b;obtain rfl:x=x':=by injection e with e;injection e with _ e;injection e
  exact⟨a,rfl,TA⟩
theorem EQ{c:Nat}(d:c<=8){h f:HI}{a lo:Nat}{fs:Ni ml}(F:kM c h a fs){A:nz}{s:Nat}{x:Dt}(P:CF c 3 fs 12 A s)(m:ba lo f c A (.tup [WH A.wd,x]))(w:A.wd=.clash)(u:my f h):∃h',EH [.int (c:Nat),.ref a,x] h=ε (.bl true,h')/\my h h':=by obtain⟨b,rfl,TA⟩:=Kh m w;obtain⟨j,i⟩:=TX d 12 _ _ 0 b s P;obtain⟨v,h',e,g,S⟩:=yw d F (ng.up u _ (jU b j TA)) i;rw[jW (IJ fs F.ok) 12 _ _ 0 b s P 12 v S]at e;exact⟨h',e,g⟩
theorem UX{c:Nat}{fs:Ni ml}(ok:∀x∈fs,uD c x)(sg:∀g∈nC fs,g.length<=6){A:nz}{r:Nat}(P:CF c 3 fs 12 A r){s:Nat->Int×Int}(a:∀i,i<c->dD (s i))(k:fs.all (yC c s)=true):A.wd≠.clash:=by
 have b:∀f∈fs,fP c s f:=fun f d=>Wn (ok f d) (fun g e=>sg g (xO (e ▸ d))) (all_eq_true.mp k f d)
 exact wW a (fun g q=>⟨zM s,Wg a q fun y h=>b _ (gO h)⟩) 12 _ _ 0 A r P (SG fs ok _ (AI c)) (aH fs ok) (WN fs kC ok (fun i z=>by unfold kC;rw[dh rfl])) (uO a fs _ b (kw a)) (fun g j=>(b _ (vO j)).2.1)
theorem iW{c:Nat}(a:1<=c)(g:c<=8){h b:HI}{lo:Nat}{fx:Dt}{ds:Ni Dt}{fs:Ni ml}(q:ay c h fx ds fs){A:nz}{r:Nat}{x:Dt}(P:CF c 3 fs 12 A r)(d:ba lo b c A (.tup [WH A.wd,x]))(w:A.wd=.laid):nJ [x,.int (c:Nat),fx] h=ε (.bl true,h):=by
 cases A with
 | opn=>cases w
 | clash f=>cases w
 | laid t=>
  have K:=xW 12 _ _ 0 t r P (SG fs q.ok _ (AI c)) (aH fs q.ok);have e:Dt.tup [WH (nz.laid t).wd,x]=.tup [.str "laid", .lst (ED c (kB (2*c) t))]:=d;obtain rfl:x=.lst (ED c (kB (2*c) t)):=by injection e with e;injection e with _ e;injection e
  exact Wq a nofun K.ok q (Nr q.ok K)
noncomputable def FD:Wd->Wd->Dt->Dt->Dt
 | .opn,_,_,_=>.tup [.str "open", .non]
 | .laid,.opn,_,_=>.tup [.str "open", .non]
 | .clash,.opn,_,_=>.tup [.str "open", .non]
 | .clash,.clash,x,y=>.tup [.str "clash", .tup [x,y]]
 | .laid,.clash,_,y=>.tup [.str "must",y]
 | .clash,.laid,x,_=>.tup [.str "never",x]
 | .laid,.laid,x,y=>.tup [.str "may", .tup [x,y]]
theorem aZ{c:Nat}(o:1<=c)(R:c<=8){h:HI}{fx:Dt}{ds:Ni Dt}{fs:Ni ml}(q:ay c h fx ds fs)(S:fs.length<=99){m:IB}(D:SC c m) :
 ∃A r x B t y F h',CF c 3 (fs++[.ways m]) 12 A r/\CF c 3 (fs++[.ways (lG m)]) 12 B t/\qG [.int (c:Nat),fx,.int (m.1:Nat),.int (m.2.1:Nat),.int (m.2.2:Nat),.int 3] h=ε (FD A.wd B.wd x y,h')/\(∃C,ba C F c A (.tup [WH A.wd,x]))/\(∃C,ba C h' c B (.tup [WH B.wd,y]))/\my h h'/\my F h':=by
 obtain⟨a,F,M,_,T,F1,_⟩:=q.more D S;obtain⟨A,r,x,h2,P1,J,P,U2⟩:=GO o R F1;have p:my h h2:=T.l.trans U2;obtain⟨b,h3,L,_,Q,F3,_⟩:=(q.up p).more (RJ D) S;obtain⟨B,t,y,E,P2,I,O,U4⟩:=GO o R F3;refine⟨A,r,x,B,t,y,h2,E,P1,P2,?_,⟨_,P⟩,⟨_,O⟩,p.trans (Q.l.trans U4),Q.l.trans U4⟩;have u:4<=sizeLine:=by decide
 have vK:1<=sizeLine:=by decide
 have sb:(8191:Int)-(m.2.1:Int)=((8191-m.2.1:Nat):Int):=by have:=D.2.2.2;omega
 have U:Dt.tup [.str "ways", .int (m.1:Nat),.int (m.2.1:Nat),.int (m.2.2:Nat)]=zB m:=rfl;have W:Dt.tup [.str "ways", .int (m.1:Nat),.int ((8191-m.2.1:Nat):Int),.int (m.2.2:Nat)]=zB (lG m):=rfl;have n:∀(a b c:Dt)(H:HI),pA (.tup [a,b,c]) (.int 0) H=ε (a,H):=fun z z z z=>rfl
 have s:∀(a b c:Dt)(H:HI),pA (.tup [a,b,c]) (.int 1) H=ε (b,H):=fun z z z z=>rfl
 generalize g:qG [.int (c:Nat),fx,.int (m.1:Nat),.int (m.2.1:Nat),.int (m.2.2:Nat),.int 3] h=X;dsimp![qG,LR,Ti (f:=some),Vu (f:=some),Wu,Wo,Ui,JA,vB,NA,DA,zA,vA,sA,NC,SE,Rr,u,vK,U,M,J,Vo,Va,LA,vM,sb,W,L,I,dB,DC,HA,n]at g;have eo:∀(w:Wd) (H:HI),YA (WH w) (.str "open") H=ε (.bl (match w with | .opn=>true | _=>false),H):=fun w H=>by cases w<;>rfl
 have j:∀(w:Wd) (H:HI),YA (WH w) (.str "clash") H=ε (.bl (match w with | .clash=>true | _=>false),H):=fun w H=>by cases w<;>rfl
 simp![eo,KA,fA]at g;have i:∀d,X=ε (d,E)->d=FD A.wd B.wd x y->X=ε (FD A.wd B.wd x y,E):=fun d e f=>f ▸ e
 generalize Z:A.wd=wa at g i;generalize Y:B.wd=wb at g i;cases wa with
 | opn=>simp![dG,fA,OA,NC,DA,zA,sA,Ss,Uo,Nat.reduceAdd,xH,dC,WA]at g;exact i _ g.symm rfl
 | laid=>
  simp![Vi,eG,fA]at g;cases wb with
  | opn=>simp![dG,fA,OA,NC,DA,zA,sA,Ss,Uo,Nat.reduceAdd,xH,dC,WA]at g;exact i _ g.symm rfl
  | laid=>simp![Vi,eG,PB,LA,JA,dB,bG,HA,vA,jA,sA,Ro,Rr,kA,fA,n,s,j,KA,OA,NC,DA,zA,Ss,Uo,Nat.reduceAdd,xH,dG,WA]at g;exact i _ g.symm rfl
  | clash=>simp![Vi,eG,PB,LA,JA,dB,bG,HA,vA,jA,sA,Ro,Rr,kA,fA,n,s,j,KA,dG,OA,NC,DA,zA,Ss,Uo,Nat.reduceAdd,xH,dC,WA]at g;exact i _ g.symm rfl
 | clash=>
  simp![Vi,eG,fA]at g;cases wb with
  | opn=>simp![dG,fA,OA,NC,DA,zA,sA,Ss,Uo,Nat.reduceAdd,xH,dC,WA]at g;exact i _ g.symm rfl
  | laid=>simp![Vi,eG,PB,LA,JA,dB,bG,HA,vA,jA,sA,Ro,Rr,kA,fA,n,s,j,KA,dG,OA,NC,DA,zA,Ss,Uo,Nat.reduceAdd,xH,dC,WA]at g;exact i _ g.symm rfl
  | clash=>simp![Vi,eG,PB,LA,JA,dB,bG,HA,vA,jA,sA,Ro,Rr,kA,fA,n,s,j,KA,dG,OA,NC,DA,zA,Ss,Uo,Nat.reduceAdd,xH,dC,WA]at g;exact i _ g.symm rfl
theorem QZ (a b:Wd) (x y:Dt) (h:HI):jG h (FD a b x y)=ε "tuple" /\ xB (FD a b x y) h=ε (.int 2,h):=by cases a<;>cases b<;>exact⟨rfl,rfl⟩
theorem Ol{c:Nat}(u:1<=c)(M:c<=8){h:HI}{fx:Dt}{ds:Ni Dt}{fs:Ni ml}(q:ay c h fx ds fs)(Z:fs.length<=99)(sg:∀g∈nC fs,g.length<=6){m:IB}(C:SC c m){s:Nat->Int×Int}(ok:∀i,i<c->dD (s i)){sx:Dt}(hx:EA h sx=ε (GB s c))
 {A B:nz} {r t lo a9:Nat} {x y:Dt} (P1:CF c 3 (fs++[.ways m]) 12 A r) (P2:CF c 3 (fs++[.ways (lG m)]) 12 B t) {h0 h1:HI} (a4:ba lo h1 c A (.tup [WH A.wd,x])) (R:ba a9 h0 c B (.tup [WH B.wd,y])) (v1:my h1 h) (v0:my h0 h) :
 ∃h',wJ [.int (c:Nat),fx,zB m,FD A.wd B.wd x y,sx] h=ε (.bl true,h')/\my h h':=by
 obtain⟨t1,t2⟩:=QZ A.wd B.wd x y h;have tt:SM.HF "tuple" "tuple" =true:=by decide
 have a7:4<=sizeLine:=by decide
 have vK:1<=sizeLine:=by decide
 have ek:=bZ ok (show c<=100 by omega) hx q;have el:=AS ok hx C;have xo:=fS C.2.2.2;have mc:Dt.tup [.str "ways", .int (m.1:Nat),.int ((8191-m.2.1:Nat):Int),.int (m.2.2:Nat)]=zB (lG m):=rfl;have m1:∀k:HI,pA (zB m) (.int 1) k=ε (.int (m.1:Nat),k):=fun v=>rfl
 have m2:∀k:HI,pA (zB m) (.int 2) k=ε (.int (m.2.1:Nat),k):=fun v=>rfl
 have m3:∀k:HI,pA (zB m) (.int 3) k=ε (.int (m.2.2:Nat),k):=fun v=>rfl
 have i0:∀(a b c:Dt)(H:HI),pA (.tup [a,b,c]) (.int 0) H=ε (a,H):=fun v v v v=>rfl
 have J:∀(a b:Dt)(H:HI),pA (.tup [a,b]) (.int 0) H=ε (a,H):=fun v v v=>rfl
 have I:∀(a b:Dt)(H:HI),pA (.tup [a,b]) (.int 1) H=ε (b,H):=fun v v v=>rfl
 have eo:∀(w:Wd) (H:HI),YA (WH w) (.str "open") H=ε (.bl (match w with | .opn=>true | _=>false),H):=fun w H=>by cases w<;>rfl
 obtain⟨a,g1,b6,_,u1,F1,_⟩:=q.more C Z;obtain⟨A',r',x',g2,c2,a0,_,U2⟩:=GO u M F1;have Q:my h g2:=u1.l.trans U2;have q2:=q.up Q;obtain⟨b,g3,a2,_,u3,F3,_⟩:=q2.more (RJ C) Z;obtain⟨B',t',y',g4,c1,O,_,U4⟩:=GO u M F3;have c0:my g2 g4:=u3.l.trans U4;have j:=Q.trans c0;rw[KO F1.ok c2 P1]at a0;rw[KO F3.ok c1 P2]at O;have q4:=q.up j;obtain⟨a5,g5,a1,b3,U,F5,S5⟩:=q4.more C Z;obtain⟨a6,g6,b5,b2,u6,F6,S6⟩:=q4.more (RJ C) Z;have a3:∀(z:Bool)(n:IB),fs.all (yC c s)=true->TB s n=true->(fs++[ml.ways n]).all (yC c s)=true:=fun z n k e=>by rw[all_append,k];show(true&&(TB s n&&true))=true;rw[e];rfl
 have of:∀(n:IB)(fs:Ni ml),nC (fs++[ml.ways n])=nC fs:=by
  intro n fs
  induction fs with
  | nil=>rfl
  | cons f fs ih=>cases f<;>simp[nC,ih]
 have mi:=Bm ok C;have F:A.wd=.clash->(TB s m&&fs.all (yC c s))=false:=fun w=>by
  cases k:fs.all (yC c s)with
  | false=>rw[Gu]
  | true=>
   cases e:TB s m with
   | false=>rfl
   | true=>exact Du w (UX F1.ok (fun g Y=>sg g (by rw[of]at Y;exact Y)) P1 ok (a3 true m k e))
 have p:B.wd=.clash->(TB s m || !fs.all (yC c s))=true:=fun w=>by
  cases k:fs.all (yC c s)with
  | false=>rw[uo,Bool.or_true]
  | true=>
   cases e:TB s m with
   | true=>rfl
   | false=>exact Du w (UX F3.ok (fun g Y=>sg g (by rw[of]at Y;exact Y)) P2 ok (a3 true _ k (by rw[mi,e];rfl)))
 generalize c4:fs.all (yC c s)=kb at ek F p;generalize c3:TB s m=so at el F p;generalize d:wJ [.int (c:Nat),fx,zB m,FD A.wd B.wd x y,sx] h=X;dsimp![wJ,BV,Ti (f:=some),Vu (f:=some),Wu,Wo,Ui,JA,vB,NC,DA,zA,vA,sA,Rr,m1,m2,m3,tP,xo,a7,mc,Vo,Va,LA,dB,DC,gF,HA,bK,t1,tt,Uu,KA,uq,Vi,eG,EB,t2,IE,decide_true,PB,NA,ek,el,A2,SE,vK,b6,a0,i0,eo]at d;have out:∀h',X=ε (.bl true,h')->my h h'->∃h',X=ε (.bl true,h')/\my h h':=fun h' a b=>⟨h',a,b⟩
 have nn:∀H,ND .non .non H=ε (.bl true,H):=fun v=>rfl
 have P:∀H,YA (.str "open") (.str "open") H=ε (.bl true,H):=fun v=>rfl
 generalize L:A.wd=wa at d;cases wa with
 | opn=>rw[show FD .opn B.wd x y=.tup [.str "open", .non]from rfl]at d;simp![RL,dG,fA,LA,JA,dB,DC,HA,jA,vA,sA,Ro,Rr,kA,KA,OA,vG,oG,J,I,P,nn,dC,WA]at d;exact out g2 d.symm Q
 | laid=>
  simp![RL,Vi,eG,vA,NA,DA,zA,jA,sA,SE,Ro,Rr,kA,fA,Ss,Uo,Nat.reduceAdd,vK,dG,a2,Ui,O,i0,eo,LA,JA,dB,DC,HA,KA]at d;generalize o:B.wd=wb at d;cases wb with
  | opn=>rw[show FD .laid .opn x y=.tup [.str "open", .non]from rfl]at d;simp![dG,fA,OA,vG,jA,vA,sA,Ro,Rr,kA,oG,J,I,P,nn,dC,WA]at d;exact out g4 d.symm j
  | laid=>
   rw[show FD .laid .laid x y=.tup [.str "may", .tup [x,y]]from rfl]at d;have E:∀H,YA (.str "may") (.str "open") H=ε (.bl false,H):=fun v=>rfl
   have D:∀H,YA (.str "may") (.str "may") H=ε (.bl true,H):=fun v=>rfl
   have ty:∀H,jG H (.tup [x,y])=ε "tuple" :=fun v=>rfl
   have r1:=iW u M S5 P1 a4 L;have r2:=iW u M S6 P2 R o;simp![Vi,eG,vA,jA,sA,Ro,Rr,kA,fA,J,I,E,D,KA,PB,LA,JA,dB,HA,dG,DC,gF,bK,ty,tt,Uu,uq,EB,pS,Ss,Uo,Nat.reduceAdd,Hu,IE,decide_true,NA,DA,zA,SE,vK,b3,Ui,r1,b2,r2,OA,dC,WA]at d;exact out g4 d.symm j
  | clash=>
   rw[show FD .laid .clash x y=.tup [.str "must",y]from rfl]at d;have E:∀H,YA (.str "must") (.str "open") H=ε (.bl false,H):=fun v=>rfl
   have D:∀H,YA (.str "must") (.str "may") H=ε (.bl false,H):=fun v=>rfl
   have T:∀H,YA (.str "must") (.str "must") H=ε (.bl true,H):=fun v=>rfl
   obtain⟨g7,ef,S⟩:=EQ M F6 P2 R o (v0.trans (j.trans u6.l));have W:=p o;simp![Vi,eG,vA,jA,sA,Ro,Rr,kA,fA,J,I,E,D,T,KA,PB,LA,JA,dB,HA,dG,NA,DA,zA,SE,Ss,Uo,Nat.reduceAdd,vK,b5,Ui,ef,OA,vG,oG,A2]at d;refine out g7 ?_ (j.trans (u6.l.trans S));cases so with
   | true=>simp![RL,dG,fA,dC,WA]at d;exact d.symm
   | false=>rw[Bool.false_or]at W;simp![RL,Vi,eG,D0,jA,Ro,Rr,kA,fA,ER,W,dC,WA]at d;exact d.symm
 | clash=>
  simp![RL,Vi,eG,vA,NA,DA,zA,jA,sA,SE,Ro,Rr,kA,fA,Ss,Uo,Nat.reduceAdd,vK,dG,a2,Ui,O,i0,eo,LA,JA,dB,DC,HA,KA]at d;have n1:=F L;obtain⟨g7,ef,S⟩:=EQ M F5 P1 a4 L (v1.trans (j.trans U.l));generalize o:B.wd=wb at d;cases wb with
  | opn=>rw[show FD .clash .opn x y=.tup [.str "open", .non]from rfl]at d;simp![dG,fA,OA,vG,jA,vA,sA,Ro,Rr,kA,oG,J,I,P,nn,dC,WA]at d;exact out g4 d.symm j
  | laid=>
   rw[show FD .clash .laid x y=.tup [.str "never",x]from rfl]at d;have E:∀H,YA (.str "never") (.str "open") H=ε (.bl false,H):=fun v=>rfl
   have D:∀H,YA (.str "never") (.str "may") H=ε (.bl false,H):=fun v=>rfl
   have T:∀H,YA (.str "never") (.str "must") H=ε (.bl false,H):=fun v=>rfl
   have w4:∀H,YA (.str "never") (.str "never") H=ε (.bl true,H):=fun v=>rfl
   simp![Vi,eG,vA,jA,sA,Ro,Rr,kA,fA,J,I,E,D,T,w4,KA,PB,LA,JA,dB,HA,dG,NA,DA,zA,SE,Ss,Uo,Nat.reduceAdd,vK,a1,Ui,ef,OA,vG,oG,D0]at d;refine out g7 ?_ (j.trans (U.l.trans S));cases so with
   | false=>simp![Vi,eG,fA,ER,uo,dC,WA]at d;exact d.symm
   | true=>rw[Ge]at n1;simp![dG,fA,ER,n1,uo,dC,WA]at d;exact d.symm
  | clash=>
   rw[show FD .clash .clash x y=.tup [.str "clash", .tup [x,y]]from rfl]at d;have E:∀H,YA (.str "clash") (.str "open") H=ε (.bl false,H):=fun v=>rfl
   have D:∀H,YA (.str "clash") (.str "may") H=ε (.bl false,H):=fun v=>rfl
   have T:∀H,YA (.str "clash") (.str "must") H=ε (.bl false,H):=fun v=>rfl
   have w4:∀H,YA (.str "clash") (.str "never") H=ε (.bl false,H):=fun v=>rfl
   have w5:∀H,tD (.str "clash") (.str "clash") H=ε (.bl false,H):=fun v=>rfl
   have ty:∀H,jG H (.tup [x,y])=ε "tuple" :=fun v=>rfl
   have kf:kb=false:=by
    have W:=p o;cases kb with
    | false=>rfl
    | true=>rw[Bool.and_true]at n1;rw[n1]at W;cases W
   obtain⟨a8,g8,b4,_,u8,F8,_⟩:=(q4.up (U.l.trans S)).more (RJ C) Z;obtain⟨g9,b1,u9⟩:=EQ M F8 P2 R o (v0.trans (j.trans ((U.l.trans S).trans u8.l)));simp![Vi,eG,vA,jA,sA,Ro,Rr,kA,fA,J,I,E,D,T,w4,w5,KA,PB,LA,JA,dB,HA,dG,kf,DC,gF,bK,ty,tt,Uu,uq,EB,pS,Hu,IE,decide_true,NA,DA,zA,SE,Ss,Uo,Nat.reduceAdd,vK,a1,Ui,ef,OA,vG,oG,b4,b1,WA]at d;exact out g9 d.symm (j.trans ((U.l.trans S).trans (u8.l.trans u9)))
theorem zS(ns:Ni Int)(k:Nat)(h:HI):sJ [.lst (ns.map Dt.int),.int (k:Int)] h=ε (.int (ns[k]?.getD 0),h):=by
 simp[sJ,MU];by_cases a:k<ns.length
 . simp[a]
 . simp[a]
theorem Cg(ns:Ni Int)(lo b:Oa Int):∃a:Ni Int,HE (ns.map Dt.int) lo b=a.map Dt.int/\a.length<=ns.length:=by unfold SM.HE;rw[<- map_drop,<- map_take];refine⟨_,rfl,?_⟩;rw[Ce,length_drop];omega
theorem zm(N:Nat){b:Nat}(d:b<8192):∃M:Nat,M<8192/\∀(l:LI)(h:HI),l[4]?=ε (ε (.int (N:Nat)))->l[7]?=ε (ε (.int (b:Nat)))->e2 pA (TC (bA (e2 MB (qA ID [] (bA (eV 4) (bA (oe 5) eA))) (oe 8192)) (bA (eV 7) (bA (e2 vH (oe 8191) (eV 7)) (bA (e2 tH (e2 MB (qA ID [] (bA (eV 4) (bA (oe 6) eA))) (oe 8192)) (eV 7)) eA))))) (e2 MB (eV 4) (oe 4)) l h=ε (.int (M:Nat),h):=by
 obtain⟨A,s⟩:=XG (N:Int) 5;obtain⟨B,r⟩:=XG (N:Int) 6;have o:=fun(x:Int) (h:HI)=>DD (h:=h) (i:=x) (show(0:Int)<8192 by decide)
 have p:=fun(x:Int) (h:HI)=>DD (h:=h) (i:=x) (show(0:Int)<4 by decide)
 have g:(A:Int)%8192=((A%8192:Nat):Int):=rfl;have f:(B:Int)%8192=((B%8192:Nat):Int):=rfl;have m:A%8192<8192:=Ji _ (by decide);have j:B%8192<8192:=Ji _ (by decide);generalize A%8192=u at g m;generalize B%8192=v at f j;have n:=fS d;have a:4<=sizeLine:=by decide
 have go:∀(M:Nat),M<8192->(atI [Dt.int (u:Nat),.int (b:Nat),.int ((8191-b:Nat):Int),.int ((v|||b:Nat):Int)] ((N:Int)%4)=some (.int (M:Nat)))->∃M:Nat,M<8192/\∀(l:LI)(h:HI),l[4]?=some (some (.int (N:Nat)))->l[7]?=some (some (.int (b:Nat)))->e2 pA (TC (bA (e2 MB (qA ID [] (bA (eV 4) (bA (oe 5) eA))) (oe 8192)) (bA (eV 7) (bA (e2 vH (oe 8191) (eV 7)) (bA (e2 tH (e2 MB (qA ID [] (bA (eV 4) (bA (oe 6) eA))) (oe 8192)) (eV 7)) eA))))) (e2 MB (eV 4) (oe 4)) l h=some (.int (M:Nat),h):=by intro M q e;refine⟨M,q,fun l h C y=>?_⟩;simp![vA,SE,DA,zA,NA,jA,sA,C,y,kA,fA,Ui,s,r,o,g,f,tP,n,rT,KL,Ss,Uo,Nat.reduceAdd,a,dG,p,WI,e,Uu]
 rcases(show(N:Int)%4=0\/(N:Int)%4=1\/(N:Int)%4=2\/(N:Int)%4=3 by omega)with z | z | z | z<;>rw[z]at go
 . exact go u m rfl
 . exact go b d rfl
 . exact go (8191-b) nofun rfl
 . exact go (v|||b) (VS j d) rfl
noncomputable def ci:Ni (Str×Str):=[("must", "never"),("never", "must"),("may", "may"),("clash", "clash"),("open", "open")]
theorem Rx(a b:Wd)(x y f d:Dt)(H:HI):∃u v:Str,(∀H,pA (FD a b x y) (.int 0) H=ε (.str u,H))/\(∀H,pA (FD b a f d) (.int 0) H=ε (.str v,H))/\sK (qF ci) (.inr u)=ε (.str v):=by
 have k:∀(u v:Str),(ci.find? fun p=>decide (p.1=u)).map (·.2)=ε v->sK (qF ci) (.inr u)=ε (.str v):=by
  intro u v e;unfold sK qF;rw[find?_map,Option.map_map];obtain⟨p,g,e2⟩:=Fo.mp e;have:(ci.find? ((fun p:rB×Dt=>decide (p.1=Sum.inr u)) ∘ fun p:Str×Str=>((Sum.inr p.1:rB),Dt.str p.2)))=ε p:=by
   rw[<- g]
   congr 1
   funext q
   simp
  rw[this,<- e2];rfl
 cases a<;>cases b
 . exact⟨"open", "open",fun z=>rfl,fun z=>rfl,k _ _ (by decide +kernel)⟩
 . exact⟨"open", "open",fun z=>rfl,fun z=>rfl,k _ _ (by decide +kernel)⟩
 . exact⟨"open", "open",fun z=>rfl,fun z=>rfl,k _ _ (by decide +kernel)⟩
 . exact⟨"open", "open",fun z=>rfl,fun z=>rfl,k _ _ (by decide +kernel)⟩
 . exact⟨"may", "may",fun z=>rfl,fun z=>rfl,k _ _ (by decide +kernel)⟩
 . exact⟨"must", "never",fun z=>rfl,fun z=>rfl,k _ _ (by decide +kernel)⟩
 . exact⟨"open", "open",fun z=>rfl,fun z=>rfl,k _ _ (by decide +kernel)⟩
 . exact⟨"never", "must",fun z=>rfl,fun z=>rfl,k _ _ (by decide +kernel)⟩
 . exact⟨"clash", "clash",fun z=>rfl,fun z=>rfl,k _ _ (by decide +kernel)⟩
theorem law_true(ns:Ni Int)(hl:ns.length<=63):∃h',OI [.lst (ns.map Dt.int)] []=ε (.bl true,h'):=by
 have c0:=fun h=>zS ns 0 h
 have c1:=fun h=>zS ns 1 h
 have c2:=fun h=>zS ns 2 h
 simp![Hu]at c0 c1 c2;have m2:=fun(x:Int) (h:HI)=>DD (h:=h) (i:=x) (show(0:Int)<2 by decide)
 have m6:=fun(x:Int) (h:HI)=>DD (h:=h) (i:=x) (show(0:Int)<6 by decide)
 have b5:=fun(i:Int) (h:HI)=>SH (h:=h) (i:=i) (j:=24) ⟨by decide,by decide⟩
 have d4:=fun(i:Int) (h:HI)=>SH (h:=h) (i:=i) (j:=4) ⟨by decide,by decide⟩
 obtain⟨c,a5,L,c8⟩:∃c:Nat,2+ns[0]?.getD (0:Int)%2=(c:Int)/\2<=c/\c<=3:=⟨(2+ns[0]?.getD (0:Int)%2).toNat,by omega,by omega,by omega⟩
 have b:c<=8:=by omega
 have D:1<=c:=by omega
 obtain⟨s,d,es⟩:=KU (ns[1]?.getD 0) b;have es:=es [];obtain⟨Y,ec,hm⟩:=Cg ns (ε 3) (ε 40);obtain⟨fs,E,fl,ef⟩:=Mq Y nofun d L b;obtain⟨ds,g,ef,hd,FL,U1⟩:=ef [.lst (GB s c)] 0 rfl;have hd:g[1]?=ε (.lst ds):=hd;have O:g[0]?=ε (.lst (GB s c)):=U1.2 _ _ rfl;have s6:=FL.sizes;obtain⟨N,eN⟩:=XG (ns[2]?.getD 0) 2;have a0:(N:Int)/24=((N/24:Nat):Int):=rfl;obtain⟨i,j,hi,hj,a3,ep⟩:=YW L b (N/24);have hw:=vE (d i) (d j);have sx:EA g (.ref 0)=ε (GB s c):=NE O;have i1:=RH sx (LH (s:=s) hi);have i2:=RH sx (LH (s:=s) hj);have ew:=fun h=>BS (d i) (d j) h
 have sh:=fun h=>sP (h:=h) (MM hw)
 have pw:(1:Int)*2^AB (s i) (s j)=((2^AB (s i) (s j):Nat):Int):=by simp
 obtain⟨M,hM,eM⟩:=zm N (YS hw);have mk:SC c (i,M,j):=⟨hi,hj,a3,hM⟩;obtain⟨I,q,a,p,o,ha,eS⟩:∃(I:Nat->Int×Int)(_:∀i,dD (I i))(a:Nat)(p:HI),my g p/\p[a]?=ε (.lst (GB I c))/\∀(l:LI)(k:Rs->Oa Rs),l[1]?=ε (ε (.int (c:Nat)))->l[2]?=ε (ε (.ref 0))->l[4]?=ε (ε (.int (N:Nat)))->fB (VB (mu (e2 YA (e2 MB (e2 XD (eV 4) (oe 4)) (oe 6)) (oe 1))) (AA 2 (qA kI [] (bA (eV 4) (bA (eV 1) eA)))) UA l g) k=k (.nx (l.set 2 (ε (.ref a))) p):=by
  by_cases z:(N:Int)/4%6=1
  . obtain⟨I,q,a9⟩:=KU (N:Int) b;refine⟨I,q,g.length,g++[.lst (GB I c)],my.app _ _,by simp,fun l k a1 a2 a4=>?_⟩;simp![dB,HA,vA,jA,sA,a4,kA,fA,d4,m6,OD,eO z,KA,dG,vB,NA,DA,zA,a1,Ui,a9]
  . refine⟨s,d,0,g,my.refl _,O,fun l k a1 a2 a4=>?_⟩;have ls:l.set 2 (ε (.ref 0))=l:=by obtain⟨lt,e⟩:=Wi a2;rw[<- e,set_getElem_self]
    simp![dB,HA,vA,jA,sA,a4,kA,fA,d4,m6,OD,eH z,KA,Vi,eG,PB,ls]
 have q1:ay c p (.ref 1) ds fs:=⟨.inr ⟨1,rfl,o.2 _ _ hd⟩,FL.at.up o,E,fun x hx=>su (s6 x hx) (by decide),by omega⟩;have lst:∀H:HI,H[1]?=ε (.lst ds)->lK (.ref 1) H=ε (.lst ds,H):=fun H e=>by simp![lK,eD,EA,e,Uu]
 have q2:ay c p (.lst ds) ds fs:=⟨.inl rfl,q1.fa,q1.ok,q1.sg,q1.len⟩;obtain⟨A,r,x,B,t,y,g1,h3,P1,P2,ea,⟨c7,c5⟩,⟨c6,c4⟩,n,V1⟩:=aZ D b q2 nofun mk;have q3:=q1.up n;obtain⟨m,et,P⟩:=Ol D b q3 nofun s6 mk (fun i w=>q i) (NE (n.2 _ _ ha)) P1 P2 c5 c4 V1 (my.refl h3);have U5:my m (m++[.dk (qF ci)]):=my.app _ _;have q5:ay c (m++[.dk (qF ci)]) (.lst ds) ds fs:=q2.up ((n.trans P).trans U5);obtain⟨A',r',U,B',t',T,c9,J,c3,Q,F,_,_,b6,_⟩:=aZ D b q5 nofun (RJ mk);have Z:lG (lG (i,M,j))=(i,M,j):=by unfold lG;simp only;rw[show 8191-(8191-M)=M by omega]
 rw[Z]at Q;have w1:=KO (fun z C=>(Bo.mp C).elim (E z) fun C=>by rw[Ao.mp C];exact RJ mk) c3 P2;have w2:=KO (fun z C=>(Bo.mp C).elim (E z) fun C=>by rw[Ao.mp C];exact mk) Q P1;rw[w1,w2]at F;obtain⟨u,v,o1,o2,kk⟩:=Rx A.wd B.wd x y U T J;obtain⟨ty,_⟩:=QZ B.wd A.wd U T J;have tt:SM.HF "tuple" "tuple" =true:=by decide
 generalize FD A.wd B.wd x y=T1 at ea et o1;generalize FD B.wd A.wd U T=T2 at F o2 ty;have dk:J[m.length]?=ε (.dk (qF ci)):=b6.3 _ _ ⋯;have xo:=fS hM;have W:4<=sizeLine:=by decide
 have l2:=lst p (o.2 _ _ hd);have l5:=lst (m++[.dk (qF ci)]) (((o.trans (n.trans P)).trans U5).2 _ _ hd);have a8:kI [.int (ns[1]?.getD 0),.int (c:Nat)] []=ε (.ref 0,[.lst (GB s c)]):=es;have b1:YK [.ref 0,.lst (Y.map Dt.int)] [.lst (GB s c)]=ε (.ref 1,g):=ef;have a7:∀(l:LI)(H:HI),l[0]?=ε (ε (.lst (ns.map Dt.int)))->qK (eV 0) (bF (oe 3)) (bF (oe 40)) l H=ε (.lst (Y.map Dt.int),H):=fun l H e=>by simp[e,ec]
 have b3:qG [.int (c:Nat),.lst ds,.int (i:Nat),.int (M:Nat),.int (j:Nat),.int 3] p=ε (T1,h3):=ea;have b2:qG [.int (c:Nat),.lst ds,.int (i:Nat),.int ((8191-M:Nat):Int),.int (j:Nat),.int 3] (m++[.dk (qF ci)])=ε (T2,J):=F;have a6:wJ [.int (c:Nat),.ref 1,.tup [.str "ways", .int (i:Nat),.int (M:Nat),.int (j:Nat)],T1,.ref a] h3=ε (.bl true,m):=et;have kl:∀(l:LI) (H:HI),GS [("must", "never"),("never", "must"),("may", "may"),("clash", "clash"),("open", "open")] l H=ε (.ref H.length,H++[.dk (qF ci)]):=fun w w=>rfl
 have kg:∀l:LI,l[11]?=ε (ε (.ref m.length))->l[10]?=ε (ε T1)->iP (eV 11) (e2 pA (eV 10) (oe 0)) l J=ε (.str v,J):=fun l e1 e2=>by simp![iP,jA,vA,sA,e1,e2,kA,fA,Wa,o1,ZP,NM,dk,kk,Uu]
 generalize R:OI [.lst (ns.map Dt.int)] []=X;have b4:=eM [ε (.lst (ns.map Dt.int)),ε (.int (c:Nat)),ε (.ref 0),ε (.ref 1),ε (.int (N:Nat)),ε (.int (i:Nat)),ε (.int (j:Nat)),ε (.int ((2^AB (s i) (s j):Nat):Int)),none,none,none,none,none] g rfl rfl;have S:=a7 [ε (.lst (ns.map Dt.int)),ε (.int (c:Nat)),ε (.ref 0),none,none,none,none,none,none,none,none,none,none] [.lst (GB s c)] rfl;dsimp![OI,IS,Ti (f:=some),Vu (f:=some),Wu,Wo,JA,vB,Y1,NA,DA,zA,↓b4,vA,sA,Rr,Ui,c0,m2,UD,a5,Vo,Va,LA,c1,a8,S,b1,c2,eN,b5,a0,ep,PL,i1,i2,ew,sh,nu,pw]at R;rw[eS _ _ rfl rfl rfl]at R;have kg:=kg [ε (.lst (ns.map Dt.int)),ε (.int (c:Nat)),ε (.ref a),ε (.ref 1),ε (.int (N:Nat)),ε (.int (i:Nat)),ε (.int (j:Nat)),ε (.int ((2^AB (s i) (s j):Nat):Int)),ε (.int (M:Nat)),ε (.tup [.str "ways", .int (i:Nat),.int (M:Nat),.int (j:Nat)]),ε T1,ε (.ref m.length),ε T2] rfl rfl;have ev:∀H,YA (.str v) (.str v) H=ε (.bl true,H):=fun H=>by rw[EF,eO rfl]
 simp![Vo,Va,LA,JA,vB,NA,DA,zA,vA,sA,jA,EB,NC,Ro,Rr,kA,fA,Ss,Uo,Nat.reduceAdd,W,dG,l2,Ui,b3,dB,gF,HA,a6,KA,uq,Vi,eG,PB,kl,l5,tP,xo,b2,OA,vG,bK,ty,tt,Uu,oG,o2,kg,ev,WA]at R;exact⟨_,R.symm⟩
set_option maxHeartbeats 0 in
theorem Bl {l:PySem.W.OpenLaw} {w:Pb} {K:Ou} {h:Ri} {mg:Str->Oa Nu} {fa:Oi} {i:Oi} {b:Nu} {j:Oi} {g:Oi} {d:Nu} (T:J3 K mg h i b j g d) (m:mg "law" =ε (.ref fa))
 :∃n:FuncData,(∀(s:Oe) (v:Nu),BindsTo s n ⟨[v],[]⟩ [("_law_script",v)])/\∀base:Ri,K.In base->base.Ns mainGlobals mg->ab l.prog w K mg base GF 33 fa n ["_law_script"] (lJ K 1 OI):=by
 obtain⟨f,y,x,kV,dc,u,C,B,ct,r,a,o,q,p⟩:=T.Qq;have e:=m.symm.trans (PySem.W.mg_of T.X T.G a);cases e;exact⟨_,fun s v=>.of_eq rfl,fun base z z=>Fp T (YO o q p)⟩
end G
open PySem.W
set_option maxRecDepth 100000 in
set_option maxHeartbeats 0 in
theorem PySem.Challenge.cw_spanways_k23_whole_questions_holds : PySem.Challenge.rw_spanways_k23_whole_questions.Holds := by
 w_on;o_law;k_head;(case hw=>w_witness2)
 k_fill
 refine SM.xg (l:=PySem.Challenge.rw_spanways_k23_whole_questions) (F:=G.OI) (k:=33) (x := "_law_script") rfl rfl ⟨rfl,by decide,by decide⟩ (fun w h Y=>PySem.W.kIn_of Y) ?F G.law_true
 case F=>
  intro w mg fa h b d a
  refine' G.Bl ⟨b,d,?q0,?q1,?q2,?q3,?q4,?q5,?q6,?q7,?q8,?q9,?qa,?qb,?qc,?qd,?qe,?qf,?qg,?qh,?qi,?qj,?qk,?ql,?qm,?qn,?qo,?qp,?qq,?qr,?qs,?qt,?qu,?qv,?qw,?qx,?qy,?qz,?Q0,?Q1,?Q2,?Q3,?Q4,?Q5,?Q6,?Q7,?Q8,?Q9,?Qa,?Qb,?Qc,?Qd,?Qe,?Qf,?Qg,?Qh,?Qi,?Qj,?Qk,?Ql,?Qm,?Qn,?Qo,?Qp,?Qq,?Qr,?Qs,?Qt,?Qu,?Qv,?Qw,?Qx,?Qy,?Qz,?U0,?U1,?U2,?U3,?U4,?U5,?U6,?U7,?U8,?U9,?Ua,?Ub,?Uc,?Ud⟩ a
  (case q0=>exact⟨by k_is,by k_is,by k_is,by k_is,by k_is,by k_is,by k_is⟩)
  (case q1 | q2 | q3=>k_is)
  (case q4 | q5 | q6 | q7 | q8 | q9 | qa | qb | qc | qd | qe | qf | qg | qh | qi | qj | qk | ql | qm | qn | qo | qp | qq | qr | qs | qt | qu | qv | qw | qx | qy=>exact⟨_,_,_,_,_,_,_,_,_,_,by k_is,by k_is,by k_is,by k_is⟩)
  (case qz | Q0 | Q1=>exact⟨_,_,_,_,_,_,_,_,_,_,by k_is,by k_is,by k_is,by k_is,by k_is⟩)
  (case Q2=>exact⟨_,_,_,_,_,_,_,_,_,_,by k_is,by k_is,by k_is,by k_is⟩)
  (case Q3 | Q4=>exact⟨_,_,_,_,_,_,_,_,_,_,_,_,_,_,by k_is,by k_is,by k_is,by k_is,by k_is,by rfl⟩)
  (case Q5 | Q6 | Q7 | Q8 | Q9 | Qa | Qb | Qc | Qd | Qe | Qf | Qg | Qh | Qi | Qj | Qk | Ql | Qm | Qn | Qo | Qp | Qq=>exact⟨_,_,_,_,_,_,_,_,_,_,by k_is,by k_is,by k_is,by k_is⟩)
  (case Qr | Qs | Qt | Qu | Qv | Qw | Qx | Qy | Qz | U0 | U1 | U2 | U3 | U4 | U5 | U6=>k_is)
  (case U7=>kernel_rfl)
  (case U8=>k_is)
  (case U9=>kernel_rfl)
  (case Ua=>k_is)
  (case Ub=>kernel_rfl)
  (case Uc=>k_is)
  (case Ud=>kernel_rfl)
end
